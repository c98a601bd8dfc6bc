import PyProof.Rows.All
import Wide.All
import OpenK.AllK
import Wide.FinOn
import Lean
import PyProof.AttrMissHeap
import KE.KDictOf
import PyProof.EqAt
import PyProof.EqKinds
import PyProof.TupleCall
import PySem.Challenge.RW_besideseats_k05_worth_in_rows
set_option Elab.async false
set_option linter.all false
set_option maxRecDepth 100000
set_option genSizeOf false
namespace L2
open PySem PySem.Spec PyProof.Rows
abbrev Key := Sum Int Str
def keyIs : Key → Value → Bool
  | .inl k, v => Value.isInt k v
  | .inr x, v => Value.isStrOf x v
def keyH (w : World) : Key → Int
  | .inl k => hashInt k
  | .inr x => hashStr w x
theorem keyIs_shape : ∀ {k : Key} {v : Value}, keyIs k v = true → (∃ i t, k = Sum.inl i ∧ v = Value.int i t) ∨ (∃ x t, k = Sum.inr x ∧ v = Value.str x t)
  | .inl i, v, h => by
    obtain ⟨t, e⟩ := Value.isInt_shape (k := i) (v := v) h
    exact .inl ⟨i, t, rfl, e⟩
  | .inr x, v, h => by
    obtain ⟨t, e⟩ := Value.isStrOf_shape (x := x) (v := v) h
    exact .inr ⟨x, t, rfl, e⟩
theorem keyIs_int (i : Int) (t : Tok) : keyIs (.inl i) (.int i t) = true := by simp [keyIs, Value.isInt]
theorem key_ll (a b : Int) : decide ((Sum.inl a : Key) = Sum.inl b) = (a == b) := by
  by_cases e : a = b
  · subst e; simp
  · have h : ¬ (Sum.inl a : Key) = Sum.inl b := fun q => e (Sum.inl.inj q)
    rw [decide_eq_false h]
    exact (beq_eq_false_iff_ne.mpr e).symm
theorem key_rr (a b : Str) : decide ((Sum.inr a : Key) = Sum.inr b) = decide (a = b) := by
  by_cases e : a = b
  · subst e; simp
  · have h : ¬ (Sum.inr a : Key) = Sum.inr b := fun q => e (Sum.inr.inj q)
    rw [decide_eq_false h, decide_eq_false e]
theorem key_lr (a : Int) (b : Str) : decide ((Sum.inl a : Key) = Sum.inr b) = false := decide_eq_false (fun q => nomatch q)
theorem key_rl (a : Str) (b : Int) : decide ((Sum.inr a : Key) = Sum.inl b) = false := decide_eq_false (fun q => nomatch q)
def mixKind (prog : Program) (w : World) : PySem.KeyKind prog w Key where
  is := keyIs
  hash := keyH w
  inj := fun v a b ha hb => by
    rcases keyIs_shape ha with ⟨i, t, rfl, rfl⟩ | ⟨x, t, rfl, rfl⟩
    · rcases keyIs_shape hb with ⟨j, u, rfl, e⟩ | ⟨y, u, rfl, e⟩
      · injection e with e1 _; rw [e1]
      · exact nomatch e
    · rcases keyIs_shape hb with ⟨j, u, rfl, e⟩ | ⟨y, u, rfl, e⟩
      · exact nomatch e
      · injection e with e1 _; rw [e1]
  byValue := fun k v h => by
    rcases keyIs_shape h with ⟨i, t, rfl, rfl⟩ | ⟨x, t, rfl, rfl⟩ <;> rfl
  pyHash := fun hv h => by
    rcases keyIs_shape hv with ⟨i, t, rfl, rfl⟩ | ⟨x, t, rfl, rfl⟩
    · exact wpAny_pyHash_int h
    · exact wpAny_pyHash_str h
  eqBool := fun hu hv h => by
    rcases keyIs_shape hu with ⟨i, t, rfl, rfl⟩ | ⟨x, t, rfl, rfl⟩
    · rcases keyIs_shape hv with ⟨j, u, rfl, rfl⟩ | ⟨y, u, rfl, rfl⟩
      · rw [key_ll] at h; exact wpAny_eqBool_int h
      · rw [key_lr] at h; exact SeqAt.EqAt.int_str i t y u _ _ _ _ h
    · rcases keyIs_shape hv with ⟨j, u, rfl, rfl⟩ | ⟨y, u, rfl, rfl⟩
      · rw [key_rl] at h; exact SeqAt.EqAt.str_int x t j u _ _ _ _ h
      · rw [key_rr] at h; exact wpAny_eqBool_str h
  «strs» := fun k x t v h => by
    rcases keyIs_shape h with ⟨i, u, rfl, e⟩ | ⟨y, u, rfl, e⟩
    · exact nomatch e
    · injection e with e1 _
      subst e1
      cases v <;> rfl
end L2
namespace L2
open PySem PySem.Spec PyProof.Rows
inductive V where
  | non | bl (b : Bool) | int (i : Int) | str (x : Str) | byt (b : Array UInt8) | flt (b : UInt64) | ref (a : Addr) | ty (n : String)
  deriving DecidableEq
def RelV : V → Value → Prop
  | .non, u => u = Value.none
  | .bl b, u => u = Value.bool b
  | .int i, u => ∃ t, u = Value.int i t
  | .str x, u => ∃ t, u = Value.str x t
  | .byt b, u => ∃ t, u = Value.bytes b t
  | .flt b, u => ∃ t, u = Value.float b t
  | .ref a, u => u = Value.ref a
  | .ty n, u => u = Value.type n
abbrev Vals : List V → List Value → Prop := Paired RelV
theorem Vals.length {xs : List V} {us : List Value} (r : Vals xs us) : xs.length = us.length := Paired.length r
theorem Vals.get : ∀ {xs : List V} {us : List Value} {i : Nat} {x : V}, Vals xs us → xs[i]? = some x → ∃ u, us[i]? = some u ∧ RelV x u
  | _, _, _, _, .nil, e => by simp at e
  | _, _, 0, _, .cons r _, e => by simp at e; subst e; exact ⟨_, rfl, r⟩
  | _, _, i + 1, x, .cons _ t, e => by
    obtain ⟨u, h1, h2⟩ := Vals.get (i := i) (x := x) t (by simpa using e)
    exact ⟨u, by simpa using h1, h2⟩
theorem Vals.set {x : V} {u : Value} (r : RelV x u) : ∀ {xs : List V} {us : List Value} (i : Nat), Vals xs us → Vals (xs.set i x) (us.set i u)
  | _, _, _, .nil => .nil
  | _, _, 0, .cons _ t => .cons r t
  | _, _, i + 1, .cons q t => .cons q (Vals.set r i t)
theorem Vals.append : ∀ {xs ys : List V} {us ws : List Value}, Vals xs us → Vals ys ws → Vals (xs ++ ys) (us ++ ws)
  | _, _, _, _, .nil, s => s
  | _, _, _, _, .cons r t, s => .cons r (Vals.append t s)
theorem Vals.take : ∀ {xs : List V} {us : List Value} (n : Nat), Vals xs us → Vals (xs.take n) (us.take n)
  | _, _, 0, _ => .nil
  | _, _, _ + 1, .nil => .nil
  | _, _, n + 1, .cons r t => .cons r (Vals.take n t)
theorem Vals.drop : ∀ {xs : List V} {us : List Value} (n : Nat), Vals xs us → Vals (xs.drop n) (us.drop n)
  | _, _, 0, r => r
  | _, _, _ + 1, .nil => .nil
  | _, _, n + 1, .cons _ t => Vals.drop n t
def RelO : Option V → Option Value → Prop
  | some v, some u => RelV v u
  | none, none => True
  | _, _ => False
def KV {κ : Type} : List (κ × V) → List (κ × Value) → Prop := Paired fun (p : κ × V) (q : κ × Value) => p.1 = q.1 ∧ RelV p.2 q.2
def kV : Key → V
  | .inl i => .int i
  | .inr x => .str x
inductive HO where
    | lst (xs : List V)
    | tup (xs : List V)
    | dK (kvs : List (Key × V)) | dT (kvs : List (List Key × V))
    | set (S : Int → Bool) (n : Nat)
    | ins (C dx : Addr) (fs : List (Str × V))
    | own (x : Addr)
    | xd (fs : List (Str × V))
    | met (f x : Addr)
    | rng (lo hi : Int)
    | frz (o : Obj) (u : HO)
    | tbl (ps : Array Value)
    | ext (φ : Heap → Prop)
abbrev Hp := Addr → Option HO
def upd (H : Hp) (a : Addr) (o : HO) : Hp := fun b => if b = a then some o else H b
theorem upd_same {H : Hp} {a : Addr} {o : HO} : upd H a o a = some o := by unfold upd; rw [if_pos rfl]
theorem upd_ne {H : Hp} {a b : Addr} {o : HO} (h : b ≠ a) : upd H a o b = H b := by unfold upd; rw [if_neg h]
theorem ne_of_none {H : Hp} {a b : Addr} {o : HO} (h : H a = some o) (h' : H b = none) : a ≠ b := by
  intro e; subst e; rw [h] at h'; cases h'
section
variable (P : Program) (w : World)
def TupN (h : Heap) (a : Addr) (xs : Array Value) : Prop := ∃ n, h.get? a = some { cls := .type "tuple", data := .seq xs n }
theorem TupN.is {h : Heap} {a : Addr} {xs : Array Value} (p : TupN h a xs) : IsTup h a xs := by
  obtain ⟨n, e⟩ := p
  exact ⟨_, e, rfl, n, rfl⟩
theorem TupN.new (h : Heap) (xs : Array Value) : TupN (h.push { cls := .type "tuple", data := .seq xs }) h.objs.size xs := ⟨_, Heap.get?_push_size _ rfl⟩
def ObjOk (H : Hp) (h : Heap) (a : Addr) : HO → Prop
  | .lst xs => xs.length ≤ sizeLine ∧ ∃ (its : List Value) (n : Nat), Vals xs its ∧ h.get? a = some { cls := .type "list", data := .seq its.toArray n }
  | .tup xs => xs.length ≤ sizeLine ∧ ∃ its : List Value, Vals xs its ∧ TupN h a its.toArray
  | .dK kvs => kvs.length ≤ sizeLine ∧ (a == sysModules) = false ∧ ∃ vs, KV kvs vs ∧ h.DictOf (mixKind P w) a vs
  | .dT kvs => kvs.length ≤ sizeLine ∧ (a == sysModules) = false ∧ ∃ xs : List (List Key × Addr × Value),
      Paired (fun (p : List Key × V) (q : List Key × Addr × Value) => p.1 = q.1 ∧ H q.2.1 = some (.tup (p.1.map kV)) ∧ RelV p.2 q.2.2) kvs xs ∧
      ∃ o es ep, h.get? a = some o ∧ o.ExactDict ∧ o.data = .dict es ep ∧ es.toList = xs.map (entryOfKey (tupleKind (mixKind P w))) ∧ (xs.map (·.1)).Nodup
  | .set S n => h.SetOf (intKind P w) a S n
  | .ins C dx fs => H dx = some (.own a) ∧ fs.length ≤ 1000 ∧ dx ≠ a ∧ h.get? a = some (PySem.W.instObj C dx) ∧
      ∃ mA, h.Ns1 dx mA ∧ (∀ f, RelO (fs.lookup f) (mA f)) ∧ PySem.Within mA (fs.map (·.1))
  | .own _ => ∃ o, h.get? a = some o
  | .xd fs => ∃ mA, h.Ns1 a mA ∧ ∀ f, RelO (fs.lookup f) (mA f)
  | .rng lo hi => ∃ t u v, h.get? a = some { cls := .type "range", data := .fields #[.int lo t, .int hi u, .int 1 v] }
  | .frz o u => h.get? a = some o ∧ ObjOk H h a u
  | .tbl ps => h.get? a = some { cls := .none, data := .fields ps }
  | .met f x => h.get? a = some (PySem.W.methodObj (.ref f) (.ref x))
  | .ext φ => φ h ∧ (∃ o, h.get? a = some o) ∧ ∀ h1 h2 : Heap, φ h1 → (∀ o, h1.get? a = some o → h2.get? a = some o) → φ h2
def HOk (H : Hp) (h : Heap) : Prop := ∀ a o, H a = some o → ObjOk P w H h a o
end
section
variable {P : Program} {w : World} {H H' : Hp} {h h' : Heap} {a : Addr} {o : HO}
theorem ObjOk.lt (x : ObjOk P w H h a o) : a < h.objs.size := by
  cases o with
  | lst xs => obtain ⟨_, _, _, _, e⟩ := x; exact Heap.lt_size e
  | tup xs => obtain ⟨_, _, _, p⟩ := x; exact p.is.lt
  | dK kvs => obtain ⟨_, _, _, _, o, _, _, e, _⟩ := x; exact Heap.lt_size e
  | dT kvs => obtain ⟨_, _, _, _, o, _, _, e, _⟩ := x; exact Heap.lt_size e
  | set S n => obtain ⟨o, _, _, _, e, _⟩ := x; exact Heap.lt_size e
  | ins C dx fs => obtain ⟨_, _, _, e, _⟩ := x; exact Heap.lt_size e
  | own y => obtain ⟨_, e⟩ := x; exact Heap.lt_size e
  | xd fs => obtain ⟨_, ⟨_, _, _, e, _⟩, _⟩ := x; exact Heap.lt_size e
  | rng lo hi => obtain ⟨_, _, _, e⟩ := x; exact Heap.lt_size e
  | frz ob u => obtain ⟨e, _⟩ := x; exact Heap.lt_size e
  | tbl ps => exact Heap.lt_size (show h.get? a = some _ from x)
  | met f y => exact Heap.lt_size (show h.get? a = some _ from x)
  | ext φ => obtain ⟨_, ⟨_, e⟩, _⟩ := x; exact Heap.lt_size e
theorem Paired.mapP {α β : Type} {F G : α → β → Prop} : ∀ {l₁ : List α} {l₂ : List β}, Paired F l₁ l₂ → (∀ a b, F a b → G a b) → Paired G l₁ l₂
  | _, _, .nil, _ => .nil
  | _, _, .cons r t, f => .cons (f _ _ r) (Paired.mapP t f)
theorem ObjOk.stay (x : ObjOk P w H h a o) (k : ∀ b u, (b = a ∨ H b = some (.own a)) → h.get? b = some u → h'.get? b = some u)
    (ho : ∀ b, H b = some (.own a) → H' b = some (.own a)) (ht : ∀ b xs, H b = some (.tup xs) → H' b = some (.tup xs)) : ObjOk P w H' h' a o := by
  induction o with
  | lst xs => obtain ⟨z, its, n, r, e⟩ := x; exact ⟨z, its, n, r, k _ _ (.inl rfl) e⟩
  | tup xs => obtain ⟨z, its, r, ob, e⟩ := x; exact ⟨z, its, r, ob, k _ _ (.inl rfl) e⟩
  | dK kvs => obtain ⟨z, y, vs, r, ob, es, ep, e, c⟩ := x; exact ⟨z, y, vs, r, ob, es, ep, k _ _ (.inl rfl) e, c⟩
  | dT kvs =>
    obtain ⟨z, y, xs, r, ob, es, ep, e, c⟩ := x
    exact ⟨z, y, xs, Paired.mapP r fun p q z => ⟨z.1, ht _ _ z.2.1, z.2.2⟩, ob, es, ep, k _ _ (.inl rfl) e, c⟩
  | set S n => obtain ⟨ob, es, ep, t, e, c⟩ := x; exact ⟨ob, es, ep, t, k _ _ (.inl rfl) e, c⟩
  | ins C dx fs =>
    obtain ⟨d, z, ne, e, mA, ⟨od, es, ep, e2, c⟩, r⟩ := x
    exact ⟨ho _ d, z, ne, k _ _ (.inl rfl) e, mA, ⟨od, es, ep, k _ _ (.inr d) e2, c⟩, r⟩
  | own y => obtain ⟨ob, e⟩ := x; exact ⟨ob, k _ _ (.inl rfl) e⟩
  | xd fs => obtain ⟨mA, ⟨od, es, ep, e, c⟩, r⟩ := x; exact ⟨mA, ⟨od, es, ep, k _ _ (.inl rfl) e, c⟩, r⟩
  | rng lo hi => obtain ⟨t, u, v, e⟩ := x; exact ⟨t, u, v, k _ _ (.inl rfl) e⟩
  | frz ob u ih => obtain ⟨e, q⟩ := x; exact ⟨k _ _ (.inl rfl) e, ih q⟩
  | tbl ps =>
    have e : h.get? a = some { cls := .none, data := .fields ps } := x
    show h'.get? a = some { cls := .none, data := .fields ps }
    exact k a _ (.inl rfl) e
  | met f y =>
    have e : h.get? a = some (PySem.W.methodObj (.ref f) (.ref y)) := x
    show h'.get? a = some (PySem.W.methodObj (.ref f) (.ref y))
    exact k a _ (.inl rfl) e
  | ext φ => obtain ⟨p, ⟨o, e⟩, st⟩ := x; exact ⟨st _ _ p fun o q => k _ _ (.inl rfl) q, ⟨o, k _ _ (.inl rfl) e⟩, st⟩
theorem HOk.lt (x : HOk P w H h) (e : H a = some o) : a < h.objs.size := (x a o e).lt
theorem HOk.fresh (x : HOk P w H h) (e : h.objs.size ≤ a) : H a = none := by
  cases q : H a with
  | none => rfl
  | some u => exact absurd (Nat.lt_of_lt_of_le (x.lt q) e) (Nat.lt_irrefl _)
theorem HOk.kept (x : HOk P w H h) (k : ∀ b u, h.get? b = some u → h'.get? b = some u) : HOk P w H h' := fun a o e =>
  (x a o e).stay (fun b u _ q => k b u q) (fun _ q => q) fun _ _ q => q
theorem HOk.laid (x : HOk P w H h) (k : ∀ b u, h.get? b = some u → h'.get? b = some u) (hp : h.objs.size ≤ a) (new : ObjOk P w (upd H a o) h' a o) : HOk P w (upd H a o) h' := fun b u e => by
  have hn := x.fresh hp
  by_cases hb : b = a
  · subst hb; rw [upd_same] at e; cases e; exact new
  · rw [upd_ne hb] at e
    exact (x b u e).stay (fun c v _ q => k c v q) (fun c q => by rw [upd_ne (ne_of_none q hn)]; exact q) fun c xs q => by rw [upd_ne (ne_of_none q hn)]; exact q
end
def Rd (H : Hp) (a : Addr) (u : HO) : Prop := H a = some u ∨ ∃ o, H a = some (.frz o u)
theorem Rd.of {H : Hp} {a : Addr} {u : HO} (h : H a = some u) : Rd H a u := .inl h
theorem Rd.ok {P : Program} {w : World} {H : Hp} {h : Heap} {a : Addr} {u : HO} (r : Rd H a u) (x : HOk P w H h) : ObjOk P w H h a u := by
  rcases r with r | ⟨o, r⟩
  · exact x a u r
  · obtain ⟨_, q⟩ := x a _ r
    exact q
def Mut : Option HO → Prop
  | some (.lst _) => True
  | some (.dK _) => True
  | some (.dT _) => True
  | some (.set _ _) => True
  | some (.ins _ _ _) => True
  | some (.ext _) => True
  | _ => False
section
variable {P : Program} {w : World} {H : Hp} {h h' : Heap} {x e : Addr} {o' : HO}
theorem HOk.write (ok : HOk P w H h) (mu : Mut (H x)) (he : e = x ∨ H e = some (.own x)) (k : ∀ b u, b ≠ e → h.get? b = some u → h'.get? b = some u) (heo : ∃ u, h'.get? e = some u)
    (new : ObjOk P w (upd H x o') h' x o') : HOk P w (upd H x o') h' := fun b u q => by
  have nown : ∀ c y, H c = some (.own y) → c ≠ x := fun c y r z => by subst z; rw [r] at mu; exact mu
  have ntup : ∀ c xs, H c = some (.tup xs) → c ≠ x := fun c xs r z => by subst z; rw [r] at mu; exact mu
  by_cases hb : b = x
  · subst hb; rw [upd_same] at q; cases q; exact new
  · rw [upd_ne hb] at q
    by_cases hbe : b = e
    · have q' : H b = some (.own x) := by
        rcases he with z | z
        · exact absurd (hbe.trans z) hb
        · rw [hbe]; exact z
      rw [q] at q'; cases q'
      obtain ⟨v, hv⟩ := heo
      exact ⟨v, by rw [hbe]; exact hv⟩
    · refine (ok b u q).stay (fun c v hc r => k c v ?_ r) (fun c r => by rw [upd_ne (nown c b r)]; exact r) fun c xs r => by rw [upd_ne (ntup c xs r)]; exact r
      rcases hc with rfl | hc
      · exact hbe
      · rintro rfl
        rcases he with z | z
        · exact nown c b hc z
        · rw [hc] at z; cases z; exact hb rfl
end
structure Un (fs ex : List Addr) (H H' : Hp) (h h' : Heap) : Prop where
  keep : ∀ b o, h.get? b = some o → H b = none → b ∉ fs → b ∉ ex → h'.get? b = some o
  slot : ∀ b o, h.get? b = some o → H b = none → b ∈ fs → b ∉ ex → ∃ sl, h'.get? b = some { o with slots := sl }
  free : ∀ b o, h.get? b = some o → H b = none → b ∉ ex → H' b = none
  there : ∀ b o, h.get? b = some o → b ∉ ex → ∃ o', h'.get? b = some o'
  tups : ∀ b xs, H b = some (.tup xs) → H' b = some (.tup xs)
  frzs : ∀ b o u, H b = some (.frz o u) → H' b = some (.frz o u)
  tbls : ∀ b ps, H b = some (.tbl ps) → ∃ more, H' b = some (.tbl (ps ++ more))
section
variable {fs fs' ex ex' : List Addr} {H H1 H2 : Hp} {h h1 h2 h' : Heap} {a x e : Addr} {o : HO}
theorem Un.any (u : Un fs ex H H1 h h1) {b : Addr} {ob : Obj} (q : h.get? b = some ob) (n : H b = none) (hx : b ∉ ex) : ∃ sl, h1.get? b = some { ob with slots := sl } := by
  by_cases hb : b ∈ fs
  · exact u.slot b ob q n hb hx
  · exact ⟨ob.slots, u.keep b ob q n hb hx⟩
theorem Un.trans (a : Un fs ex H H1 h h1) (b : Un fs ex H1 H2 h1 h2) : Un fs ex H H2 h h2 where
  keep := fun c ob q n hc hx => b.keep c ob (a.keep c ob q n hc hx) (a.free c ob q n hx) hc hx
  slot := fun c ob q n hc hx => by
    obtain ⟨sl, e1⟩ := a.slot c ob q n hc hx
    obtain ⟨sl', e2⟩ := b.slot c _ e1 (a.free c ob q n hx) hc hx
    exact ⟨sl', e2⟩
  free := fun c ob q n hx => by
    obtain ⟨o', e1⟩ := a.there c ob q hx
    exact b.free c o' e1 (a.free c ob q n hx) hx
  there := fun c ob q hx => by
    obtain ⟨o', e1⟩ := a.there c ob q hx
    exact b.there c o' e1 hx
  tups := fun c xs q => b.tups c xs (a.tups c xs q)
  frzs := fun c ob xs q => b.frzs c ob xs (a.frzs c ob xs q)
  tbls := fun c ps q => by
    obtain ⟨m1, e1⟩ := a.tbls c ps q
    obtain ⟨m2, e2⟩ := b.tbls c _ e1
    exact ⟨m1 ++ m2, by rw [e2, Array.append_assoc]⟩
theorem Un.kept (k : ∀ b u, h.get? b = some u → h'.get? b = some u) : Un fs ex H H h h' :=
  ⟨fun b ob q _ _ _ => k b ob q, fun b ob q _ _ _ => ⟨ob.slots, k b ob q⟩, fun _ _ _ n _ => n, fun b ob q _ => ⟨ob, k b ob q⟩, fun _ _ q => q, fun _ _ _ q => q, fun _ ps q => ⟨#[], by rw [q]; simp⟩⟩
theorem Un.refl : Un fs ex H H h h := Un.kept fun _ _ q => q
theorem Un.laid (k : ∀ b u, h.get? b = some u → h'.get? b = some u) (hp : h.objs.size ≤ a) (hn : H a = none) : Un fs ex H (upd H a o) h h' where
  keep := fun b u q _ _ _ => k b u q
  slot := fun b u q _ _ _ => ⟨u.slots, k b u q⟩
  free := fun b u q n _ => by rw [upd_ne (Nat.ne_of_lt (Nat.lt_of_lt_of_le (Heap.lt_size q) hp))]; exact n
  there := fun b u q _ => ⟨u, k b u q⟩
  tups := fun b xs q => by rw [upd_ne (ne_of_none q hn)]; exact q
  frzs := fun b u xs q => by rw [upd_ne (ne_of_none q hn)]; exact q
  tbls := fun b ps q => ⟨#[], by rw [upd_ne (ne_of_none q hn), q]; simp⟩
theorem Un.write (mu : Mut (H x)) (he : e = x ∨ H e = some (.own x)) (k : ∀ b u, b ≠ e → h.get? b = some u → h'.get? b = some u) (heo : ∃ u, h'.get? e = some u) : Un fs ex H (upd H x o) h h' := by
  have hx : ∀ b, H b = none → b ≠ x := fun b n z => by subst z; rw [n] at mu; exact mu
  have hb : ∀ b, H b = none → b ≠ e := fun b n z => by
    subst z
    rcases he with r | r
    · exact hx b n r
    · rw [n] at r; cases r
  have hm : ∀ b u, H b = some u → ¬ Mut (some u) → b ≠ x := fun b u q nm z => by subst z; rw [q] at mu; exact nm mu
  refine ⟨fun b u q n _ _ => k b u (hb b n) q, fun b u q n _ _ => ⟨u.slots, k b u (hb b n) q⟩, fun b u q n _ => by rw [upd_ne (hx b n)]; exact n, fun b u q _ => ?_,
    fun b xs q => by rw [upd_ne (hm b _ q fun z => z)]; exact q, fun b u xs q => by rw [upd_ne (hm b _ q fun z => z)]; exact q, fun b ps q => ⟨#[], by rw [upd_ne (hm b _ q fun z => z), q]; simp⟩⟩
  by_cases hbe : b = e
  · subst hbe; exact heo
  · exact ⟨u, k b u hbe q⟩
theorem Un.mono (u : Un fs ex H H1 h h1) (hs : ∀ b ∈ fs, b ∈ fs') (hx : ∀ b ∈ ex, b ∈ ex') : Un fs' ex' H H1 h h1 :=
  ⟨fun b ob q n hb he => u.keep b ob q n (fun z => hb (hs b z)) fun z => he (hx b z), fun _ _ q n _ he => u.any q n fun z => he (hx _ z), fun b ob q n he => u.free b ob q n fun z => he (hx b z), fun b ob q he => u.there b ob q fun z => he (hx b z), u.tups, u.frzs, u.tbls⟩
end
def trk (h : Heap) (H : Hp) : List Addr := (List.range h.objs.size).filter fun a => (H a).isSome
def hidT (h : Heap) (H : Hp) : Heap := PySem.W.hideAll h (trk h H)
theorem hidT_size (h : Heap) (H : Hp) : (hidT h H).objs.size = h.objs.size := PySem.W.hideAll_size _ _
theorem hidT_get {h : Heap} {H : Hp} {b : Addr} {o : Obj} (e : h.get? b = some o) (n : H b = none) : (hidT h H).get? b = some o :=
  PySem.W.hideAll_get _ e fun hm => by
    have q : (H b).isSome = true := (List.mem_filter.mp hm).2
    rw [n] at q; simp at q
theorem of_hidT {h : Heap} {H : Hp} {b : Addr} {o : Obj} (e : (hidT h H).get? b = some o) : h.get? b = some o ∧ H b = none := by
  have e' : h.get? b = some o := PySem.W.of_hideAll (trk h H) e
  refine ⟨e', ?_⟩
  cases q : H b with
  | none => rfl
  | some x =>
    have hm : b ∈ trk h H := List.mem_filter.mpr ⟨List.mem_range.mpr (Heap.lt_size e'), by simp [q]⟩
    have z : (hidT h H).get? b = none := PySem.W.hideAll_none (trk h H) hm
    rw [z] at e; cases e
def allNews (g h : Heap) (L : Addr) : List (Addr × Obj) := (List.range h.objs.size).filterMap fun a => if a = L ∨ (g.get? a).isSome = true then none else (h.get? a).map fun o => (a, o)
def rest (g h : Heap) (L d : Addr) : List (Addr × Obj) := (allNews g h L).filter fun p => decide (p.1 ≠ d)
end L2
namespace L2
open PySem PySem.Spec PyProof.Rows
structure Mod (K : PySem.W.Frag) (mg : Str → Option Value) (base : Heap) : Prop where
  kin : K.In base
  glob : base.Ns mainGlobals mg
  blt : ∃ mb, base.Ns builtinsNs mb ∧ ∀ x : Str, x ≠ "__name__" → mb x = bootBuiltins x
  nolimit : base.NoLimit
structure Cx where
  prog : Program
  w : World
  K : PySem.W.Frag
  mg : Str → Option Value
  base : Heap
  A : Around
  N : List Str
  s₀ : Shared
  H₀ : Hp
  env : Env
  outer : List Env
  stack : List Env
  ex : List Addr
  fn : Str → Bool
  calm : Bool
  pn : List (Addr × Obj)
  xe : Value → Shared → Prop
def frs (l : List Env) : List Addr := l.filterMap (·.frame)
abbrev Cx.fs (X : Cx) : List Addr := frs X.outer
def Vis (sc : Scope) (x : Str) : Prop := sc.names.lookup x = some .local ∨ sc.names.lookup x = some .cell ∨ sc.names.lookup x = some .free
def Loc (sc : Scope) (x : Str) : Prop := sc.names.lookup x = some .local ∨ sc.names.lookup x = some .cell
def Look (env : Env) (h : Heap) (m : Str → Option Value) (x : Str) (u : Value) : Prop :=
  (env.kindOf x = some .local ∧ m x = some u) ∨ ((env.kindOf x = some .cell ∨ env.kindOf x = some .free) ∧ ∃ c, env.cells.lookup x = some c ∧ h.IsCell c (some u))
structure Cx.Ok (X : Cx) : Prop where
  mod : Mod X.K X.mg X.base
  kind : X.env.scope.kind = .function
  glob : X.env.globals = mainGlobals
  blt : X.env.builtins = builtinsNs
  above : X.s₀.heap.objs.size ≤ X.env.locals
  inj : ∀ x y c, X.env.cells.lookup x = some c → X.env.cells.lookup y = some c → x = y
  has : ∀ x, (X.env.kindOf x = some .cell ∨ X.env.kindOf x = some .free) → ∃ c, X.env.cells.lookup x = some c
  cab : ∀ x c, X.fn x = true → X.env.cells.lookup x = some c → X.s₀.heap.objs.size ≤ c
  hd : X.calm = true → X.A.handled = none
  frames : X.A.frames = some X.stack
  stk : X.stack = X.outer ∨ (X.stack = X.env :: X.outer ∧ X.env.frame = some X.env.locals)
  exf : ∀ b ∈ X.ex, b ≠ X.env.locals ∧ ∀ x c, X.env.cells.lookup x = some c → c ≠ b
  bs : ∀ b o, X.base.get? b = some o → X.s₀.heap.get? b = some o ∧ X.H₀ b = none
  bsz : X.base.objs.size ≤ X.s₀.heap.objs.size
  noex : ∀ b o, X.base.get? b = some o → b ∉ X.ex
  exfs : ∀ b ∈ X.ex, b ∉ X.fs
  funs : X.s₀.heap.FunFrames X.base X.outer
  frf : ∀ b ∈ X.fs, X.H₀ b = none
structure Inv (X : Cx) (pins : List (Addr × Obj)) (σ : List (Option V)) (H : Hp) (s : Shared) : Prop where
  ok : X.Ok
  os : s.os = X.s₀.os
  bare : AllBare s.gens
  base : Un X.fs X.ex X.H₀ H X.s₀.heap s.heap
  loc : ∃ m, s.heap.Ns X.env.locals m ∧ ∀ (i : Nat) (x : Str) (v : V), X.N[i]? = some x → σ[i]? = some (some v) → Vis X.env.scope x → ∃ u, RelV v u ∧ Look X.env s.heap m x u
  cell : ∀ x c, X.env.cells.lookup x = some c → ∃ v, s.heap.IsCell c v
  free : H X.env.locals = none
  freeC : ∀ x c, X.env.cells.lookup x = some c → H c = none
  pin : ∀ p ∈ X.pn ++ pins, s.heap.get? p.1 = some p.2 ∧ H p.1 = none ∧ p.1 ≠ X.env.locals ∧ p.1 ∉ X.fs ∧ ∀ v, p.2.data ≠ .cell v
  hok : HOk X.prog X.w H s.heap
  len : σ.length = X.N.length
section
variable {X : Cx} {pins : List (Addr × Obj)} {σ : List (Option V)} {H H' : Hp} {s : Shared} {h' : Heap}
theorem Cx.Ok.nofr (ok : X.Ok) {b : Addr} {o : Obj} (e : X.base.get? b = some o) : b ∉ X.fs := fun hb => by
  have := (ok.funs.mem hb).1
  rw [e] at this; cases this
theorem Inv.bs (I : Inv X pins σ H s) : ∀ b o, X.base.get? b = some o → s.heap.get? b = some o ∧ H b = none := fun b o e =>
  ⟨I.base.keep b o (I.ok.bs b o e).1 (I.ok.bs b o e).2 (I.ok.nofr e) (I.ok.noex b o e), I.base.free b o (I.ok.bs b o e).1 (I.ok.bs b o e).2 (I.ok.noex b o e)⟩
theorem Inv.bk (I : Inv X pins σ H s) : ∀ b o, X.base.get? b = some o → s.heap.get? b = some o := fun b o e => (I.bs b o e).1
theorem Inv.mod (I : Inv X pins σ H s) : Mod X.K X.mg X.base := I.ok.mod
theorem Inv.kIn (I : Inv X pins σ H s) : X.K.In s.heap := I.ok.mod.kin.keeps I.bk
theorem Inv.nolimit (I : Inv X pins σ H s) : s.heap.NoLimit := I.ok.mod.nolimit.keeps I.bk
theorem Inv.lt (I : Inv X pins σ H s) : X.env.locals < s.heap.objs.size := let ⟨_, hn, _⟩ := I.loc; hn.lt
theorem Inv.sz (I : Inv X pins σ H s) : X.s₀.heap.objs.size ≤ s.heap.objs.size := Nat.le_trans I.ok.above (Nat.le_of_lt I.lt)
theorem Inv.nofs (I : Inv X pins σ H s) {a : Addr} (h : s.heap.objs.size ≤ a) : a ∉ X.fs := fun hb => by
  obtain ⟨_, o, ho, _⟩ := I.ok.funs.mem hb
  exact absurd (Nat.lt_of_lt_of_le (Heap.lt_size ho) (Nat.le_trans I.sz h)) (Nat.lt_irrefl _)
theorem Inv.cne (I : Inv X pins σ H s) : ∀ x c, X.env.cells.lookup x = some c → c ≠ X.env.locals := fun x c e z => by
  obtain ⟨v, o, ho, hd⟩ := I.cell x c e
  obtain ⟨m, ⟨o', es, ep, ho', hd', _⟩, _⟩ := I.loc
  rw [z, ho'] at ho; cases ho; rw [hd'] at hd; cases hd
theorem Inv.funs (I : Inv X pins σ H s) : s.heap.FunFrames X.base X.outer := by
  have all : ∀ (l : List Env), (∀ b ∈ frs l, b ∈ X.fs) → X.s₀.heap.FunFrames X.base l → s.heap.FunFrames X.base l := by
    intro l
    induction l with
    | nil => intro _ _; trivial
    | cons env r ih =>
      intro hs hl
      obtain ⟨hk, ⟨L, o, hf, hn, ho, hd⟩, hr⟩ := hl
      have hL : L ∈ X.fs := hs L (by unfold frs; rw [List.filterMap_cons, hf]; exact List.mem_cons_self)
      obtain ⟨sl, e⟩ := I.base.slot L o ho (I.ok.frf L hL) hL fun z => I.ok.exfs L z hL
      exact ⟨hk, ⟨L, _, hf, hn, e, hd⟩, ih (fun b hb => hs b (by unfold frs; rw [List.filterMap_cons, hf]; exact List.mem_cons_of_mem _ hb)) hr⟩
  exact all X.outer (fun _ hb => hb) I.ok.funs
theorem Inv.stack (I : Inv X pins σ H s) : s.heap.FunFrames X.base X.stack := by
  rcases I.ok.stk with e | ⟨e, hf⟩
  · rw [e]; exact I.funs
  · rw [e]
    obtain ⟨m, hn, _⟩ := I.loc
    refine .cons (by rw [I.ok.kind]; decide) hf hn ?_ I.funs
    exact Heap.get?_none_of_le (Nat.le_trans I.ok.bsz I.ok.above)
theorem Inv.stkSub (I : Inv X pins σ H s) : ∀ b ∈ frs X.stack, b ∈ X.env.locals :: X.fs := fun b hb => by
  rcases I.ok.stk with e | ⟨e, hf⟩
  · rw [e] at hb; exact List.mem_cons_of_mem _ hb
  · rw [e] at hb
    unfold frs at hb
    rw [List.filterMap_cons, hf] at hb
    exact hb
theorem Inv.stkFree (I : Inv X pins σ H s) : ∀ b ∈ frs X.stack, H b = none := fun b hb => by
  rcases List.mem_cons.mp (I.stkSub b hb) with e | hb
  · rw [e]; exact I.free
  · obtain ⟨_, o, ho, _⟩ := I.ok.funs.mem hb
    exact I.base.free b o ho (I.ok.frf b hb) fun z => I.ok.exfs b z hb
theorem Inv.step {g' : Array GenState} {t' : Nat} {d' : Drawn} {ch : List Addr} (I : Inv X pins σ H s)
    (hch : ∀ b ∈ ch, (b ∈ X.ex ∨ X.s₀.heap.objs.size ≤ b) ∧ b ≠ X.env.locals ∧ (∀ x c, X.env.cells.lookup x = some c → c ≠ b) ∧ ∀ p ∈ X.pn ++ pins, p.1 ≠ b)
    (keep : ∀ b o, b ≠ X.env.locals → b ∉ X.fs → b ∉ ch → s.heap.get? b = some o → H b = none → h'.get? b = some o)
    (slot : ∀ b o, b ≠ X.env.locals → b ∈ X.fs → b ∉ ch → s.heap.get? b = some o → H b = none → ∃ sl, h'.get? b = some { o with slots := sl }) (free : ∀ b o, b ∉ ch → s.heap.get? b = some o → H b = none → H' b = none)
    (there : ∀ b o, b ∉ ch → s.heap.get? b = some o → ∃ o', h'.get? b = some o')
    (tups : ∀ b xs, H b = some (.tup xs) → H' b = some (.tup xs)) (frzs : ∀ b o u, H b = some (.frz o u) → H' b = some (.frz o u)) (tbls : ∀ b ps, H b = some (.tbl ps) → ∃ more, H' b = some (.tbl (ps ++ more)))
    (ns : ∀ m, s.heap.Ns X.env.locals m → h'.Ns X.env.locals m) (hok : HOk X.prog X.w H' h') (hg : AllBare g') :
    Inv X pins σ H' { s with heap := h', gens := g', drawn := d', toks := t' } := by
  have neL : ∀ b o, X.s₀.heap.get? b = some o → b ≠ X.env.locals := fun b o e => Nat.ne_of_lt (Nat.lt_of_lt_of_le (Heap.lt_size e) I.ok.above)
  have neC : ∀ b o, X.s₀.heap.get? b = some o → b ∉ X.ex → b ∉ ch := fun b o e hx hb => by
    rcases (hch b hb).1 with z | z
    · exact hx z
    · exact absurd (Nat.lt_of_lt_of_le (Heap.lt_size e) z) (Nat.lt_irrefl _)
  have cellK : ∀ x c, X.env.cells.lookup x = some c → ∀ v, s.heap.IsCell c v → h'.IsCell c v := fun x c e v ⟨o, ho, hd⟩ => by
    have nch : c ∉ ch := fun z => (hch c z).2.2.1 x c e rfl
    by_cases hc : c ∈ X.fs
    · obtain ⟨sl, q⟩ := slot c o (I.cne x c e) hc nch ho (I.freeC x c e)
      exact ⟨_, q, hd⟩
    · exact ⟨o, keep c o (I.cne x c e) hc nch ho (I.freeC x c e), hd⟩
  refine ⟨I.ok, I.os, hg, ⟨fun b o e n hb hx => ?_, fun b o e n hb hx => ?_, fun b o e n hx => ?_, fun b o e hx => ?_, fun b xs e => tups b xs (I.base.tups b xs e), fun b o xs e => frzs b o xs (I.base.frzs b o xs e), fun b ps e => ?_⟩, ?_, fun x c e => ?_, ?_, fun x c e => ?_, fun p hp => ?_, hok, I.len⟩
  · exact keep b o (neL b o e) hb (neC b o e hx) (I.base.keep b o e n hb hx) (I.base.free b o e n hx)
  · obtain ⟨sl, e1⟩ := I.base.slot b o e n hb hx
    obtain ⟨sl', e2⟩ := slot b _ (neL b o e) hb (neC b o e hx) e1 (I.base.free b o e n hx)
    exact ⟨sl', e2⟩
  · obtain ⟨o', e1⟩ := I.base.there b o e hx
    exact free b o' (neC b o e hx) e1 (I.base.free b o e n hx)
  · obtain ⟨o', e1⟩ := I.base.there b o e hx
    exact there b o' (neC b o e hx) e1
  · obtain ⟨m1, e1⟩ := I.base.tbls b ps e
    obtain ⟨m2, e2⟩ := tbls b _ e1
    exact ⟨m1 ++ m2, by rw [e2, Array.append_assoc]⟩
  · obtain ⟨m, hn, hl⟩ := I.loc
    refine ⟨m, ns m hn, fun i x v e1 e2 e3 => ?_⟩
    obtain ⟨u, r, l⟩ := hl i x v e1 e2 e3
    refine ⟨u, r, ?_⟩
    rcases l with l | ⟨k, c, e, z⟩
    · exact .inl l
    · exact .inr ⟨k, c, e, cellK x c e _ z⟩
  · obtain ⟨v, z⟩ := I.cell x c e
    exact ⟨v, cellK x c e v z⟩
  · obtain ⟨m, ⟨o, _, _, ho, _⟩, _⟩ := I.loc
    exact free _ o (fun z => (hch _ z).2.1 rfl) ho I.free
  · obtain ⟨v, o, ho, hd⟩ := I.cell x c e
    exact free c o (fun z => (hch c z).2.2.1 x c e rfl) ho (I.freeC x c e)
  · obtain ⟨e, n, ne, nf, d⟩ := I.pin p hp
    have nch : p.1 ∉ ch := fun z => (hch p.1 z).2.2.2 p hp rfl
    exact ⟨keep p.1 p.2 ne nf nch e n, free p.1 p.2 nch e n, ne, nf, d⟩
theorem Inv.un {t' : Nat} (I : Inv X pins σ H s) (u : Un X.fs [] H H' s.heap h') (hok : HOk X.prog X.w H' h') : Inv X pins σ H' { s with heap := h', toks := t' } := by
  obtain ⟨m, ⟨o, es, ep, ho, r⟩, _⟩ := id I.loc
  obtain ⟨sl, hL⟩ := u.any ho I.free (by simp)
  exact I.step (g' := s.gens) (d' := s.drawn) (ch := []) (fun _ z => nomatch z) (fun b o _ hb _ e n => u.keep b o e n hb (by simp)) (fun b o _ hb _ e n => u.slot b o e n hb (by simp)) (fun b o _ e n => u.free b o e n (by simp)) (fun b o _ e => u.there b o e (by simp)) u.tups u.frzs u.tbls (fun m' hm => by
    obtain ⟨o', es', ep', ho', r'⟩ := hm
    rw [ho] at ho'; cases ho'
    exact ⟨_, es', ep', hL, r'⟩) hok I.bare
theorem Inv.call {g' : Array GenState} {t' : Nat} {d' : Drawn} {ch : List Addr} (I : Inv X pins σ H s) (u : Un (frs X.stack) ch H H' s.heap h') (hok : HOk X.prog X.w H' h') (hg : AllBare g')
    (hch : ∀ b ∈ ch, (b ∈ X.ex ∨ X.s₀.heap.objs.size ≤ b) ∧ b ≠ X.env.locals ∧ (∀ x c, X.env.cells.lookup x = some c → c ≠ b) ∧ ∀ p ∈ X.pn ++ pins, p.1 ≠ b) :
    Inv X pins σ H' { s with heap := h', gens := g', drawn := d', toks := t' } := by
  obtain ⟨m, ⟨o, es, ep, ho, r⟩, _⟩ := id I.loc
  obtain ⟨sl, hL⟩ := u.any ho I.free fun z => (hch _ z).2.1 rfl
  exact I.step (ch := ch) hch (fun b o hL hb hc e n => u.keep b o e n (fun z => (List.mem_cons.mp (I.stkSub b z)).elim hL hb) hc) (fun b o _ _ hc e n => u.any e n hc) (fun b o hc e n => u.free b o e n hc) (fun b o hc e => u.there b o e hc) u.tups u.frzs u.tbls (fun m' hm => by
    obtain ⟨o', es', ep', ho', r'⟩ := hm
    rw [ho] at ho'; cases ho'
    exact ⟨_, es', ep', hL, r'⟩) hok hg
theorem Inv.turned {t' : Nat} {it : Addr} (I : Inv X pins σ H s) (k : ∀ b o, b ≠ it → s.heap.get? b = some o → h'.get? b = some o) (hn : H it = none) (hL : it ≠ X.env.locals)
    (h1 : it ∈ X.ex ∨ X.s₀.heap.objs.size ≤ it) (h2 : ∀ x c, X.env.cells.lookup x = some c → c ≠ it) (h3 : ∀ p ∈ X.pn ++ pins, p.1 ≠ it) : Inv X pins σ H { s with heap := h', toks := t' } := by
  have nit : ∀ b u, H b = some u → b ≠ it := fun b u e z => by rw [z, hn] at e; cases e
  refine I.step (g' := s.gens) (d' := s.drawn) (ch := [it]) (fun b hb => ?_) (fun b o _ _ hc e _ => k b o (fun z => hc (by simp [z])) e) (fun b o _ _ hc e _ => ⟨o.slots, k b o (fun z => hc (by simp [z])) e⟩) (fun _ _ _ _ n => n)
    (fun b o hc e => ⟨o, k b o (fun z => hc (by simp [z])) e⟩) (fun _ _ e => e) (fun _ _ _ e => e) (fun b ps e => ⟨#[], by rw [e]; simp⟩) (fun m hm => ?_) (fun b u e => ?_) I.bare
  · have e : b = it := by simpa using hb
    subst e
    exact ⟨h1, hL, h2, h3⟩
  · obtain ⟨o, es, ep, ho, r⟩ := hm
    exact ⟨o, es, ep, k _ o (Ne.symm hL) ho, r⟩
  · refine (I.hok b u e).stay (fun c v hc q => k c v ?_ q) (fun _ q => q) fun _ _ q => q
    rcases hc with z | z
    · rw [z]; exact nit b u e
    · exact nit c _ z
theorem Inv.tok (I : Inv X pins σ H s) (t : Nat) : Inv X pins σ H { s with toks := t } := I.un (h' := s.heap) (t' := t) Un.refl I.hok
theorem Inv.kept {t' : Nat} (I : Inv X pins σ H s) (k : ∀ b u, s.heap.get? b = some u → h'.get? b = some u) : Inv X pins σ H { s with heap := h', toks := t' } := I.un (Un.kept k) (I.hok.kept k)
theorem Inv.laid {a : Addr} {o : HO} {t' : Nat} (I : Inv X pins σ H s) (k : ∀ b u, s.heap.get? b = some u → h'.get? b = some u) (hp : s.heap.objs.size ≤ a) (new : ObjOk X.prog X.w (upd H a o) h' a o) :
    Inv X pins σ (upd H a o) { s with heap := h', toks := t' } := I.un (Un.laid k hp (I.hok.fresh hp)) (I.hok.laid k hp new)
theorem Inv.write {x e : Addr} {o : HO} {t' : Nat} (I : Inv X pins σ H s) (mu : Mut (H x)) (he : e = x ∨ H e = some (.own x)) (k : ∀ b u, b ≠ e → s.heap.get? b = some u → h'.get? b = some u) (heo : ∃ u, h'.get? e = some u)
    (new : ObjOk X.prog X.w (upd H x o) h' x o) : Inv X pins σ (upd H x o) { s with heap := h', toks := t' } := I.un (Un.write mu he k heo) (I.hok.write mu he k heo new)
theorem Inv.pins_of {pins' : List (Addr × Obj)} (I : Inv X pins σ H s) (h : ∀ p ∈ pins', s.heap.get? p.1 = some p.2 ∧ H p.1 = none ∧ p.1 ≠ X.env.locals ∧ p.1 ∉ X.fs ∧ ∀ v, p.2.data ≠ .cell v) : Inv X pins' σ H s :=
  ⟨I.ok, I.os, I.bare, I.base, I.loc, I.cell, I.free, I.freeC, fun p hp => (List.mem_append.mp hp).elim (fun z => I.pin p (List.mem_append_left _ z)) (h p), I.hok, I.len⟩
theorem nodup_ix {N : List Str} (hN : N.Nodup) {i j : Nat} {x : Str} (a : N[i]? = some x) (b : N[j]? = some x) : i = j := by
  obtain ⟨h1, e1⟩ := List.getElem?_eq_some_iff.mp a
  obtain ⟨h2, e2⟩ := List.getElem?_eq_some_iff.mp b
  exact (List.getElem_inj hN).mp (e1.trans e2.symm)
theorem store_ok2 {M : Model} {A : Around} {E : Value → Shared → Prop} {i : Nat} {x : Str} {v : V} {u : Value} {Q : Unit → Shared → Prop} (I : Inv X pins σ H s) (hN : X.N.Nodup) (hi : X.N[i]? = some x) (hx : Loc X.env.scope x) (r : RelV v u)
    (h : ∀ s', Inv X pins (σ.set i (some v)) H s' → (∃ a, Heap.SameBut a s.heap s'.heap ∧ (a = X.env.locals ∨ X.env.cells.lookup x = some a)) → Q () s') (hf : X.fn x = true ∨ X.env.scope.names.lookup x = some .local := by first | exact .inl rfl | exact .inr rfl | assumption) : wpAny M A (storeName X.env x u) Q E s := by
  obtain ⟨m, hn, hl⟩ := id I.loc
  have hcls : (X.env.scope.kind == .class || (X.env.scope.kind == .module && X.env.locals != X.env.globals)) = false := by rw [I.ok.kind]; rfl
  have hiσ : i < σ.length := by rw [I.len]; exact (List.getElem?_eq_some_iff.mp hi).1
  have cne := I.cne
  have tracked : ∀ {a : Addr} {h' : Heap}, (∃ o, s.heap.get? a = some o ∧ H a = none) → Heap.SameBut a s.heap h' → HOk X.prog X.w H h' := fun {a h'} ha hs b ob e => by
    obtain ⟨_, _, hfree⟩ := ha
    refine (I.hok b ob e).stay (fun c w' hc q => (hs.2 c ?_).trans q) (fun _ q => q) fun _ _ q => q
    rintro rfl
    rcases hc with rfl | hc
    · rw [hfree] at e; cases e
    · rw [hfree] at hc; cases hc
  rcases hx with hk | hk
  · refine wpAny_storeName_local hk hn (fun h' hn' hs => ?_) hcls
    obtain ⟨oL, _, _, hoL, _⟩ := id hn
    refine h _ ⟨I.ok, I.os, I.bare, ⟨fun b o e n hb hx => ?_, fun b o e n hb hx => ?_, I.base.free, fun b o e hx => ?_, I.base.tups, I.base.frzs, I.base.tbls⟩, ⟨_, hn', fun j y v' e1 e2 e3 => ?_⟩, fun y c e => ?_, I.free, I.freeC, fun p hp => ?_, tracked ⟨oL, hoL, I.free⟩ hs, by simpa using I.len⟩ ⟨_, hs, .inl rfl⟩
    · exact (hs.2 b (Nat.ne_of_lt (Nat.lt_of_lt_of_le (Heap.lt_size e) I.ok.above))).trans (I.base.keep b o e n hb hx)
    · obtain ⟨sl, e1⟩ := I.base.slot b o e n hb hx
      exact ⟨sl, (hs.2 b (Nat.ne_of_lt (Nat.lt_of_lt_of_le (Heap.lt_size e) I.ok.above))).trans e1⟩
    · obtain ⟨o', e1⟩ := I.base.there b o e hx
      exact ⟨o', (hs.2 b (Nat.ne_of_lt (Nat.lt_of_lt_of_le (Heap.lt_size e) I.ok.above))).trans e1⟩
    · by_cases hj : j = i
      · subst hj
        rw [hi] at e1; cases e1
        rw [List.getElem?_set_self hiσ] at e2
        cases e2
        exact ⟨u, r, .inl ⟨hk, by simp⟩⟩
      · rw [List.getElem?_set_ne (Ne.symm hj)] at e2
        obtain ⟨u', r', q⟩ := hl j y v' e1 e2 e3
        refine ⟨u', r', ?_⟩
        rcases q with ⟨k, e⟩ | ⟨k, c, e, z⟩
        · refine .inl ⟨k, ?_⟩
          have : y ≠ x := fun e => hj (nodup_ix hN e1 (e ▸ hi))
          simp [this, e]
        · exact .inr ⟨k, c, e, z.sameBut hs (cne y c e)⟩
    · obtain ⟨w', z⟩ := I.cell y c e
      exact ⟨w', z.sameBut hs (cne y c e)⟩
    · obtain ⟨e, n, ne, nf, d⟩ := I.pin p hp
      exact ⟨(hs.2 p.1 ne).trans e, n, ne, nf, d⟩
  · have hfn : X.fn x = true := by
      rcases hf with z | z
      · exact z
      · rw [z] at hk; cases hk
    obtain ⟨c, hc⟩ := I.ok.has x (.inl hk)
    obtain ⟨w', z⟩ := I.cell x c hc
    refine wpAny_storeName_cell I.ok.kind hk hc z (fun h' hc' hs => ?_)
    obtain ⟨oc, hoc, hocd⟩ := id z
    refine h { s with heap := h' } ⟨I.ok, I.os, I.bare, ⟨fun b o e n hb hx => ?_, fun b o e n hb hx => ?_, I.base.free, fun b o e hx => ?_, I.base.tups, I.base.frzs, I.base.tbls⟩, ⟨m, hn.sameBut hs (Ne.symm (cne x c hc)), fun j y v' e1 e2 e3 => ?_⟩, fun y c' e => ?_, I.free, I.freeC, fun p hp => ?_, tracked ⟨oc, hoc, I.freeC x c hc⟩ hs, by simpa using I.len⟩ ⟨c, hs, .inr hc⟩
    · exact (hs.2 b (Nat.ne_of_lt (Nat.lt_of_lt_of_le (Heap.lt_size e) (I.ok.cab x c hfn hc)))).trans (I.base.keep b o e n hb hx)
    · obtain ⟨sl, e1⟩ := I.base.slot b o e n hb hx
      exact ⟨sl, (hs.2 b (Nat.ne_of_lt (Nat.lt_of_lt_of_le (Heap.lt_size e) (I.ok.cab x c hfn hc)))).trans e1⟩
    · obtain ⟨o', e1⟩ := I.base.there b o e hx
      exact ⟨o', (hs.2 b (Nat.ne_of_lt (Nat.lt_of_lt_of_le (Heap.lt_size e) (I.ok.cab x c hfn hc)))).trans e1⟩
    · by_cases hj : j = i
      · subst hj
        rw [hi] at e1; cases e1
        rw [List.getElem?_set_self hiσ] at e2
        cases e2
        exact ⟨u, r, .inr ⟨.inl hk, c, hc, hc'⟩⟩
      · rw [List.getElem?_set_ne (Ne.symm hj)] at e2
        obtain ⟨u', r', q⟩ := hl j y v' e1 e2 e3
        refine ⟨u', r', ?_⟩
        rcases q with q | ⟨k, c', e, z'⟩
        · exact .inl q
        · refine .inr ⟨k, c', e, z'.sameBut hs ?_⟩
          rintro rfl
          exact hj (nodup_ix hN e1 (I.ok.inj _ _ _ e hc ▸ hi))
    · by_cases hcc : c' = c
      · subst hcc; exact ⟨_, hc'⟩
      · obtain ⟨w2, z2⟩ := I.cell y c' e
        exact ⟨w2, z2.sameBut hs hcc⟩
    · obtain ⟨e, n, ne, nf, d⟩ := I.pin p hp
      refine ⟨(hs.2 p.1 ?_).trans e, n, ne, nf, d⟩
      intro q
      rw [q, hoc] at e
      have q' : oc = p.2 := Option.some.inj e
      exact d w' (by rw [← q']; exact hocd)
theorem store_ok {M : Model} {A : Around} {E : Value → Shared → Prop} {i : Nat} {x : Str} {v : V} {u : Value} {Q : Unit → Shared → Prop} (I : Inv X pins σ H s) (hN : X.N.Nodup) (hi : X.N[i]? = some x) (hx : Loc X.env.scope x) (r : RelV v u)
    (h : ∀ s', Inv X pins (σ.set i (some v)) H s' → Q () s') (hf : X.fn x = true ∨ X.env.scope.names.lookup x = some .local := by first | exact .inl rfl | exact .inr rfl | assumption) : wpAny M A (storeName X.env x u) Q E s :=
  store_ok2 I hN hi hx r (fun s' I' _ => h s' I') hf
theorem Inv.call' {s' : Shared} {ch : List Addr} (I : Inv X pins σ H s) (ho : s'.os = s.os) (u : Un (frs X.stack) ch H H' s.heap s'.heap) (hok : HOk X.prog X.w H' s'.heap) (hg : AllBare s'.gens)
    (hch : ∀ b ∈ ch, (b ∈ X.ex ∨ X.s₀.heap.objs.size ≤ b) ∧ b ≠ X.env.locals ∧ (∀ x c, X.env.cells.lookup x = some c → c ≠ b) ∧ ∀ p ∈ X.pn ++ pins, p.1 ≠ b) : Inv X pins σ H' s' := by
  obtain ⟨h', g', d', t', o'⟩ := s'
  have e : o' = s.os := ho
  subst e
  exact I.call (g' := g') (t' := t') (d' := d') u hok hg hch
end
abbrev XK := Value → Option Addr → Hp → Prop
abbrev St := List (Option V)
abbrev VK := V → Hp → Prop
abbrev TE := St → Hp → VK → Prop
abbrev TT := St → Hp → (Bool → Hp → Prop) → Prop
abbrev TA := St → Hp → (List V → Hp → Prop) → Prop
structure Ends where
  nx : St → Hp → Prop
  rt : VK
  bk : St → Hp → Prop := fun _ _ => False
  ct : St → Hp → Prop := fun _ _ => False
abbrev TS := Ends → St → Hp → Prop
def EP (X : Cx) (pins : List (Addr × Obj)) (σ : St) (Q : VK) (u : Value) (s' : Shared) : Prop := ∃ v H', Inv X pins σ H' s' ∧ RelV v u ∧ Q v H'
def TP (X : Cx) (pins : List (Addr × Obj)) (σ : St) (Q : Bool → Hp → Prop) (b : Bool) (s' : Shared) : Prop := ∃ H', Inv X pins σ H' s' ∧ Q b H'
def AP (X : Cx) (pins : List (Addr × Obj)) (σ : St) (Q : List V → Hp → Prop) (us : List Value) (s' : Shared) : Prop := ∃ vs H', Inv X pins σ H' s' ∧ Vals vs us ∧ Q vs H'
def SP (X : Cx) (pins : List (Addr × Obj)) (D : Ends) (f : Flow) (s' : Shared) : Prop :=
  match f with
  | .next => ∃ σ' H', Inv X pins σ' H' s' ∧ D.nx σ' H'
  | .brk => ∃ σ' H', Inv X pins σ' H' s' ∧ D.bk σ' H'
  | .cont => ∃ σ' H', Inv X pins σ' H' s' ∧ D.ct σ' H'
  | .ret u => ∃ v σ' H', Inv X pins σ' H' s' ∧ RelV v u ∧ D.rt v H'
def PE (X : Cx) (e : Expr) (t : TE) : Prop :=
  ∀ (pins : List (Addr × Obj)) (s : Shared) (σ : St) (H : Hp) (Q : VK), Inv X pins σ H s → t σ H Q → wpAny (model X.prog X.w) X.A (eval e X.env) (EP X pins σ Q) X.xe s
def PT (X : Cx) (e : Expr) (t : TT) : Prop :=
  ∀ (pins : List (Addr × Obj)) (s : Shared) (σ : St) (H : Hp) (Q : Bool → Hp → Prop), Inv X pins σ H s → t σ H Q → wpAny (model X.prog X.w) X.A (isTrue e X.env (eval e X.env)) (TP X pins σ Q) X.xe s
def PW (X : Cx) (e : Expr) (t : TT) : Prop :=
  ∀ (whole : Sem Value) (pins : List (Addr × Obj)) (s : Shared) (σ : St) (H : Hp) (Q : Bool → Hp → Prop), Inv X pins σ H s → t σ H Q → wpAny (model X.prog X.w) X.A (isTrue e X.env whole) (TP X pins σ Q) X.xe s
theorem PW.pt {X : Cx} {e : Expr} {t : TT} (h : PW X e t) : PT X e t := h _
def PA (X : Cx) (es : List Expr) (t : TA) : Prop :=
  ∀ (pos : Pos) (pins : List (Addr × Obj)) (s : Shared) (σ : St) (H : Hp) (Q : List V → Hp → Prop), Inv X pins σ H s → t σ H Q → wpAny (model X.prog X.w) X.A (spliced (backTo pos (starEach es X.env))) (AP X pins σ Q) X.xe s
def PS (X : Cx) (st : Stmt) (t : TS) : Prop :=
  ∀ (pins : List (Addr × Obj)) (s : Shared) (σ : St) (H : Hp) (D : Ends), Inv X pins σ H s → t D σ H → wpAny (model X.prog X.w) X.A (exec st X.env) (SP X pins D) X.xe s
def PSs (X : Cx) (st : List Stmt) (t : TS) : Prop :=
  ∀ (pins : List (Addr × Obj)) (s : Shared) (σ : St) (H : Hp) (D : Ends), Inv X pins σ H s → t D σ H → wpAny (model X.prog X.w) X.A (execs st X.env) (SP X pins D) X.xe s
theorem thn {α : Type} {t : Sem α} {Q Q' : α → Shared → Prop} {M : Model} {A : Around} {E : Value → Shared → Prop} {s : Shared} (h : wpAny M A t Q E s) (hQ : ∀ a s, Q a s → Q' a s) : wpAny M A t Q' E s := wpAny_mono h hQ fun _ _ x => x
end L2
namespace L2
open PySem PySem.Spec PyProof.Rows
section
variable {X : Cx}
def tVar (i : Nat) : TE := fun σ H Q => ∃ v, σ[i]? = some (some v) ∧ Q v H
def tC (v : V) : TE := fun _ H Q => Q v H
theorem pe_var {i : Nat} {x : Str} {pos : Pos} (hN : X.N[i]? = some x) (hv : Vis X.env.scope x) (hd : (x == ("__debug__" : Str)) = false := by decide) (hcd : (x == ("__classdict__" : Str)) = false := by decide) : PE X (.Name x pos) (tVar i) := by
  intro pins s σ H Q I h
  obtain ⟨v, e, h⟩ := h
  obtain ⟨m, hn, hl⟩ := I.loc
  obtain ⟨u, r, l⟩ := hl i x v hN e hv
  have fin : EP X pins σ Q u s := ⟨v, H, I, r, h⟩
  rcases l with ⟨hk, hm⟩ | ⟨hk, c, hc, hcell⟩
  · exact wpAny_Name (wpAny_loadName_local I.ok.kind hk hn hm fin) hd
  · rcases hk with hk | hk
    · exact wpAny_Name (wpAny_loadName_cell I.ok.kind hk hc hcell fin) hd
    · exact wpAny_Name (wpAny_loadName_free I.ok.kind hk hc hcell fin hcd) hd
theorem pe_int {i j pos} : PE X (.Constant (.int i) j pos) (tC (.int i)) := fun _ _ _ H _ I h => wpAny_Constant_int ⟨.int i, H, I.tok _, ⟨_, rfl⟩, h⟩
theorem pe_bl {b j pos} : PE X (.Constant (.bool b) j pos) (tC (.bl b)) := fun _ _ _ H _ I h => Constant_bool ⟨.bl b, H, I, rfl, h⟩
theorem pe_str {x j pos} : PE X (.Constant (.str x) j pos) (tC (.str x)) := fun _ _ _ H _ I h => Calls.Constant_str ⟨.str x, H, I.tok _, ⟨_, rfl⟩, h⟩
def Gl (X : Cx) (x : Str) : Prop := X.env.kindOf x = some .globalImplicit
theorem ld_glob {E : Value → Shared → Prop} {pins : List (Addr × Obj)} {s : Shared} {σ : St} {H : Hp} {x : Str} {u : Value} {pos : Pos} {Q : Value → Shared → Prop} (I : Inv X pins σ H s) (hg : Gl X x) (hm : X.mg x = some u) (h : Q u s)
    (hd : (x == ("__debug__" : Str)) = false := by decide) : wpAny (model X.prog X.w) X.A (eval (.Name x pos) X.env) Q E s :=
  Calls.Name_function_global I.ok.kind hg (Calls.loadGlobal_global (by rw [I.ok.glob]; exact I.mod.glob.keeps I.bk) hm h) hd
theorem ld_blt {E : Value → Shared → Prop} {pins : List (Addr × Obj)} {s : Shared} {σ : St} {H : Hp} {x : Str} {u : Value} {pos : Pos} {Q : Value → Shared → Prop} (I : Inv X pins σ H s) (hg : Gl X x) (hm : X.mg x = none) (hv : bootBuiltins x = some u) (h : Q u s)
    (hn : x ≠ "__name__" := by decide) (hd : (x == ("__debug__" : Str)) = false := by decide) : wpAny (model X.prog X.w) X.A (eval (.Name x pos) X.env) Q E s := by
  obtain ⟨mb, h1, h2⟩ := I.mod.blt
  exact Calls.Name_function_global I.ok.kind hg (Calls.loadGlobal_builtin (by rw [I.ok.glob]; exact I.mod.glob.keeps I.bk) hm (by rw [I.ok.blt]; exact h1.keeps I.bk) ((h2 x hn).trans hv) h) hd
theorem pe_glob {x : Str} {v : V} {u : Value} {pos : Pos} (hg : Gl X x) (hm : X.mg x = some u) (r : RelV v u) (hd : (x == ("__debug__" : Str)) = false := by decide) : PE X (.Name x pos) (tC v) :=
  fun _ _ _ H _ I h => ld_glob I hg hm ⟨v, H, I, r, h⟩ hd
theorem pe_bltn {x : Str} {v : V} {u : Value} {pos : Pos} (hg : Gl X x) (hm : X.mg x = none) (hv : bootBuiltins x = some u) (r : RelV v u) (hn : x ≠ "__name__" := by decide) (hd : (x == ("__debug__" : Str)) = false := by decide) : PE X (.Name x pos) (tC v) :=
  fun _ _ _ H _ I h => ld_blt I hg hm hv ⟨v, H, I, r, h⟩ hn hd
def t2I (ta tb : TE) (k : Int → Int → Hp → Prop) : St → Hp → Prop := fun σ H => ta σ H fun x H1 => tb σ H1 fun y H2 => ∃ i j, x = .int i ∧ y = .int j ∧ k i j H2
def tAdd (ta tb : TE) : TE := fun σ H Q => t2I ta tb (fun i j H2 => Q (.int (i + j)) H2) σ H
def tSub (ta tb : TE) : TE := fun σ H Q => t2I ta tb (fun i j H2 => Q (.int (i - j)) H2) σ H
def tMul (ta tb : TE) : TE := fun σ H Q => t2I ta tb (fun i j H2 => (-(2 ^ 64) < i ∧ i < 2 ^ 64) ∧ Q (.int (i * j)) H2) σ H
variable {a b : Expr} {ta tb : TE} {pos : Pos}
def PC (X : Cx) (op : CmpOp) (a b : Expr) (t : TE) : Prop :=
  ∀ (pins : List (Addr × Obj)) (s : Shared) (σ : St) (H : Hp) (Q : VK), Inv X pins σ H s → t σ H Q →
    wpAny (model X.prog X.w) X.A (eval a X.env) (fun v s₁ => wpAny (model X.prog X.w) X.A (eval b X.env) (fun u s₂ => wpAny (model X.prog X.w) X.A (compareOp op v u) (EP X pins σ Q) X.xe s₂) X.xe s₁) X.xe s
def tCmp (p : Int → Int → Bool) (ta tb : TE) : TE := fun σ H Q => t2I ta tb (fun i j H2 => Q (.bl (p i j)) H2) σ H
abbrev tLt : TE → TE → TE := tCmp fun i j => decide (i < j)
abbrev tLe : TE → TE → TE := tCmp fun i j => decide (i ≤ j)
abbrev tGt : TE → TE → TE := tCmp fun i j => decide (j < i)
abbrev tGe : TE → TE → TE := tCmp fun i j => decide (j ≤ i)
abbrev tEqI : TE → TE → TE := tCmp fun i j => decide (i = j)
abbrev tNeI : TE → TE → TE := tCmp fun i j => !decide (i = j)
def tIsN (ta : TE) : TE := fun σ H Q => ta σ H fun x H1 => Q (.bl (decide (x = .non))) H1
def tNotN (ta : TE) : TE := fun σ H Q => ta σ H fun x H1 => Q (.bl (!decide (x = .non))) H1
def tB (t : TE) : TT := fun σ H Q => t σ H fun x H1 => ∃ c, x = .bl c ∧ Q c H1
theorem pt_val {e : Expr} {t : TE} (h : PE X e t) (he : ∀ whole, isTrue e X.env whole = (do let v ← whole; standAt e.pos; holding [v] (truthy v)) := by intro _; rfl) : PT X e (tB t) := by
  intro pins s σ H Q I hw
  refine isTrue_plain (thn (h pins s σ H _ I hw) fun v s1 ⟨x, H1, I1, r1, q1⟩ => ?_) (he _)
  obtain ⟨d, rfl, q⟩ := q1
  cases r1
  exact wpAny_truthy_bool ⟨H1, I1, q⟩
variable {tA tB' : TT} {rest : List Expr}
def tAnd (t u : TT) : TT := fun σ H Q => t σ H fun c H1 => if c = true then u σ H1 Q else Q false H1
def tOr (t u : TT) : TT := fun σ H Q => t σ H fun c H1 => if c = true then Q true H1 else u σ H1 Q
def tNot (t : TT) : TT := fun σ H Q => t σ H fun c H1 => Q (!c) H1
theorem pw_and1 (ha : PT X a tA) : PW X (.BoolOp .And [a] pos) tA := by
  intro wh pins s σ H Q I h
  refine isTrue_and (thn (ha pins s σ H Q I h) fun c s1 e => ?_)
  cases c with
  | true => exact isTrue_and_nil e
  | false => exact e
theorem pw_or1 (ha : PT X a tA) : PW X (.BoolOp .Or [a] pos) tA := by
  intro wh pins s σ H Q I h
  refine isTrue_or (thn (ha pins s σ H Q I h) fun c s1 e => ?_)
  cases c with
  | false => exact isTrue_or_nil e
  | true => exact e
theorem pw_and (ha : PT X a tA) (hb : PW X (.BoolOp .And (b :: rest) pos) tB') : PW X (.BoolOp .And (a :: b :: rest) pos) (tAnd tA tB') := by
  intro wh pins s σ H Q I h
  refine isTrue_and (thn (ha pins s σ H _ I h) fun c s1 ⟨H1, I1, q1⟩ => ?_)
  cases c with
  | true => exact hb wh pins s1 σ H1 Q I1 q1
  | false => exact ⟨H1, I1, q1⟩
theorem pw_or (ha : PT X a tA) (hb : PW X (.BoolOp .Or (b :: rest) pos) tB') : PW X (.BoolOp .Or (a :: b :: rest) pos) (tOr tA tB') := by
  intro wh pins s σ H Q I h
  refine isTrue_or (thn (ha pins s σ H _ I h) fun c s1 ⟨H1, I1, q1⟩ => ?_)
  cases c with
  | true => exact ⟨H1, I1, q1⟩
  | false => exact hb wh pins s1 σ H1 Q I1 q1
theorem pt_not (ha : PT X a tA) : PT X (.UnaryOp .Not a pos) (tNot tA) := by
  intro pins s σ H Q I h
  exact isTrue_not (ha pins s σ H (fun c H1 => Q (!c) H1) I h)
def tAndV (ta tb : TE) : TE := fun σ H Q => ta σ H fun x H1 => ∃ c, x = .bl c ∧ if c = true then tb σ H1 Q else Q (.bl false) H1
def tOrV (ta tb : TE) : TE := fun σ H Q => ta σ H fun x H1 => ∃ c, x = .bl c ∧ if c = true then Q (.bl true) H1 else tb σ H1 Q
def tNotV (ta : TE) : TE := fun σ H Q => ta σ H fun x H1 => ∃ c, x = .bl c ∧ Q (.bl (!c)) H1
theorem pe_one {op} {t : TE} (h : PE X a t) : PE X (.BoolOp op [a] pos) t := fun pins s σ H Q I hw => BoolOp_one (h pins s σ H Q I hw)
theorem pe_and (ha : PE X a ta) (hb : PE X (.BoolOp .And (b :: rest) pos) tb) : PE X (.BoolOp .And (a :: b :: rest) pos) (tAndV ta tb) := by
  intro pins s σ H Q I h
  refine BoolOp_and (thn (ha pins s σ H _ I h) fun v s1 ⟨x, H1, I1, r1, q1⟩ => ?_)
  obtain ⟨c, rfl, q1⟩ := q1
  cases r1
  refine wpAny_truthy_bool ?_
  cases c with
  | true => exact hb pins s1 σ H1 Q I1 q1
  | false => exact ⟨.bl false, H1, I1, rfl, q1⟩
theorem pe_not (ha : PE X a ta) : PE X (.UnaryOp .Not a pos) (tNotV ta) := by
  intro pins s σ H Q I h
  refine UnaryOp_ (thn (ha pins s σ H _ I h) fun v s1 ⟨x, H1, I1, r1, q1⟩ => ?_)
  obtain ⟨c, rfl, q1⟩ := q1
  cases r1
  exact not_of (wpAny_truthy_bool ⟨.bl (!c), H1, I1, rfl, q1⟩)
def tIf (t : TT) (ta tb : TE) : TE := fun σ H Q => t σ H fun c H1 => if c = true then ta σ H1 Q else tb σ H1 Q
end
end L2
namespace L2
open PySem PySem.Spec PyProof.Rows
def SqL (K : PySem.W.Frag) (H : Hp) (a : Addr) (xs : List V) : Prop :=
  Rd H a (.lst xs) ∨
    ∃ (o : Obj) (its : Array Value) (n : Nat), K.lookup a = some o ∧ o.cls = .type "list" ∧ o.dict = none ∧ o.data = .seq its n ∧ its.size ≤ sizeLine ∧ Vals xs its.toList
def SqT (K : PySem.W.Frag) (H : Hp) (a : Addr) (xs : List V) : Prop :=
  Rd H a (.tup xs) ∨
    ∃ (o : Obj) (its : Array Value) (n : Nat), K.lookup a = some o ∧ o.cls = .type "tuple" ∧ (o.data = .seq its n ∧ o.dict = none ∧ o.slots = #[]) ∧ its.size ≤ sizeLine ∧ Vals xs its.toList
def absV : Value → Option V
  | .none => some .non
  | .bool b => some (.bl b)
  | .int i _ => some (.int i)
  | .str x _ => some (.str x)
  | .bytes b _ => some (.byt b)
  | .float b _ => some (.flt b)
  | .ref a => some (.ref a)
  | .type n => some (.ty n)
  | _ => none
theorem RelV.abs {x : V} {u : Value} (r : RelV x u) : absV u = some x := by
  cases x with
  | non => cases r; rfl
  | bl _ => cases r; rfl
  | int _ => obtain ⟨t, rfl⟩ := r; rfl
  | str _ => obtain ⟨t, rfl⟩ := r; rfl
  | byt _ => obtain ⟨t, rfl⟩ := r; rfl
  | flt _ => obtain ⟨t, rfl⟩ := r; rfl
  | ref _ => cases r; rfl
  | ty _ => cases r; rfl
theorem RelV.inj {x y : V} {u : Value} (r : RelV x u) (q : RelV y u) : x = y := Option.some.inj (r.abs.symm.trans q.abs)
theorem Vals.inj : ∀ {xs ys : List V} {us : List Value}, Vals xs us → Vals ys us → xs = ys
  | _, _, _, .nil, .nil => rfl
  | _, _, _, .cons r t, .cons r' t' => by rw [r.inj r', Vals.inj t t']
section
variable {X : Cx} {pins : List (Addr × Obj)} {σ : St} {H : Hp} {s : Shared} {a : Addr} {xs ys : List V}
theorem SqL.of {K : PySem.W.Frag} (h : H a = some (.lst xs)) : SqL K H a xs := .inl (.inl h)
theorem SqT.of {K : PySem.W.Frag} (h : H a = some (.tup xs)) : SqT K H a xs := .inl (.inl h)
theorem Inv.list (I : Inv X pins σ H s) (h : SqL X.K H a xs) : ∃ its : List Value, Vals xs its ∧ PlainL s.heap a its.toArray ∧ xs.length ≤ sizeLine := by
  rcases h with h | ⟨o, its, n, hk, hc, hd, hs, hz, r⟩
  · obtain ⟨z, its, n, r, e⟩ := h.ok I.hok
    exact ⟨its, r, ⟨_, n, e, rfl, rfl, rfl⟩, z⟩
  · refine ⟨its.toList, r, ⟨o, n, I.kIn a o hk, hc, hd, by simpa using hs⟩, ?_⟩
    have e := r.length
    simp only [Array.length_toList] at e
    omega
theorem Inv.tuple (I : Inv X pins σ H s) (h : SqT X.K H a xs) : ∃ its : List Value, Vals xs its ∧ IsTup s.heap a its.toArray ∧ xs.length ≤ sizeLine := by
  rcases h with h | ⟨o, its, n, hk, hc, hs, hz, r⟩
  · obtain ⟨z, its, r, p⟩ := h.ok I.hok
    exact ⟨its, r, p.is, z⟩
  · refine ⟨its.toList, r, ⟨o, I.kIn a o hk, hc, n, by simpa using hs.1⟩, ?_⟩
    have e := r.length
    simp only [Array.length_toList] at e
    omega
theorem Inv.list_inj (I : Inv X pins σ H s) (h : SqL X.K H a xs) (h' : SqL X.K H a ys) : xs = ys := by
  obtain ⟨its, r, ⟨o, n, e, _, _, d⟩, _⟩ := I.list h
  obtain ⟨its', r', ⟨o', n', e', _, _, d'⟩, _⟩ := I.list h'
  rw [e] at e'; cases e'
  rw [d] at d'
  injection d' with d1 _
  have : its = its' := by simpa using congrArg Array.toList d1
  subst this
  exact r.inj r'
theorem Inv.tuple_inj (I : Inv X pins σ H s) (h : SqT X.K H a xs) (h' : SqT X.K H a ys) : xs = ys := by
  obtain ⟨its, r, ⟨o, e, _, n, d⟩, _⟩ := I.tuple h
  obtain ⟨its', r', ⟨o', e', _, n', d'⟩, _⟩ := I.tuple h'
  rw [e] at e'; cases e'
  rw [d] at d'
  injection d' with d1 _
  have : its = its' := by simpa using congrArg Array.toList d1
  subst this
  exact r.inj r'
end
abbrev Cx.wish (X : Cx) (E : Value → Shared → Prop) : Cx := { X with xe := E }
abbrev Cx.nox (X : Cx) : Cx := X.wish fun _ _ => False
theorem Cx.Ok.wish {X : Cx} (ok : X.Ok) (E : Value → Shared → Prop) : (X.wish E).Ok :=
  ⟨ok.mod, ok.kind, ok.glob, ok.blt, ok.above, ok.inj, ok.has, ok.cab, ok.hd, ok.frames, ok.stk, ok.exf, ok.bs, ok.bsz, ok.noex, ok.exfs, ok.funs, ok.frf⟩
theorem Cx.Ok.unwish {X : Cx} {E : Value → Shared → Prop} (ok : (X.wish E).Ok) : X.Ok :=
  ⟨ok.mod, ok.kind, ok.glob, ok.blt, ok.above, ok.inj, ok.has, ok.cab, ok.hd, ok.frames, ok.stk, ok.exf, ok.bs, ok.bsz, ok.noex, ok.exfs, ok.funs, ok.frf⟩
section
variable {X : Cx} {pins : List (Addr × Obj)} {σ : St} {H : Hp} {s : Shared} {E : Value → Shared → Prop}
theorem Inv.wish (I : Inv X pins σ H s) (E : Value → Shared → Prop) : Inv (X.wish E) pins σ H s := ⟨I.ok.wish E, I.os, I.bare, I.base, I.loc, I.cell, I.free, I.freeC, I.pin, I.hok, I.len⟩
theorem Inv.unwish (I : Inv (X.wish E) pins σ H s) : Inv X pins σ H s := ⟨I.ok.unwish, I.os, I.bare, I.base, I.loc, I.cell, I.free, I.freeC, I.pin, I.hok, I.len⟩
theorem SP.unwish {D : Ends} {f : Flow} {s' : Shared} (h : SP (X.wish E) pins D f s') : SP X pins D f s' := by
  cases f with
  | next => obtain ⟨σ', H', I, q⟩ := h; exact ⟨σ', H', I.unwish, q⟩
  | brk => obtain ⟨σ', H', I, q⟩ := h; exact ⟨σ', H', I.unwish, q⟩
  | cont => obtain ⟨σ', H', I, q⟩ := h; exact ⟨σ', H', I.unwish, q⟩
  | ret u => obtain ⟨v, σ', H', I, r, q⟩ := h; exact ⟨v, σ', H', I.unwish, r, q⟩
theorem PE.nox {e : Expr} {t : TE} (h : PE X.nox e t) : PE X e t := fun pins s σ H Q I hw =>
  wpAny_mono (h pins s σ H Q (I.wish _) hw) (fun _ _ ⟨v, H', I', r, q⟩ => ⟨v, H', I'.unwish, r, q⟩) fun _ _ z => False.elim z
theorem PT.nox {e : Expr} {t : TT} (h : PT X.nox e t) : PT X e t := fun pins s σ H Q I hw =>
  wpAny_mono (h pins s σ H Q (I.wish _) hw) (fun _ _ ⟨H', I', q⟩ => ⟨H', I'.unwish, q⟩) fun _ _ z => False.elim z
theorem PSs.nox {st : List Stmt} {t : TS} (h : PSs X.nox st t) : PSs X st t := fun pins s σ H D I hw =>
  wpAny_mono (h pins s σ H D (I.wish _) hw) (fun _ _ q => q.unwish) fun _ _ z => False.elim z
end
section
variable {X : Cx} {st : Stmt} {rest : List Stmt} {t u : TS} {e : Expr} {te : TE} {pos : Pos}
def tNext : TS := fun D σ H => D.nx σ H
def tSeq (t u : TS) : TS := fun D σ H => t { D with nx := u D } σ H
theorem pss_nil : PSs X [] tNext := fun _ _ σ H _ I h => wpAny_execs_nil ⟨σ, H, I, h⟩
theorem pss_cons (h1 : PS X st t) (h2 : PSs X rest u) : PSs X (st :: rest) (tSeq t u) := by
  intro pins s σ H D I h
  refine wpAny_execs_cons (thn (h1 pins s σ H { D with nx := u D } I h) fun f s1 q => ?_)
  cases f with
  | next =>
    obtain ⟨σ', H', I', q⟩ := q
    exact h2 pins s1 σ' H' D I' q
  | ret v => exact q
  | brk => exact q
  | cont => exact q
theorem pss_one (h1 : PS X st t) : PSs X [st] t := by
  intro pins s σ H D I h
  refine wpAny_execs_cons (thn (h1 pins s σ H D I h) fun f s1 q => ?_)
  cases f with
  | next => exact wpAny_execs_nil q
  | ret v => exact q
  | brk => exact q
  | cont => exact q
def tBreak : TS := fun D σ H => D.bk σ H
def tCont : TS := fun D σ H => D.ct σ H
theorem Inv.quiet {pins : List (Addr × Obj)} {σ : St} {H : Hp} {s : Shared} (I : Inv X pins σ H s) : interactive X.env = false := by simp [interactive, I.ok.kind]
def tDrop (te : TE) : TS := fun D σ H => te σ H fun _ H1 => D.nx σ H1
theorem ps_expr (he : PE X e te) (hs : swapsWith e none pos.line X.env = pure false := by rfl) : PS X (.Expr e pos) (tDrop te) := by
  intro pins s σ H D I h
  exact wpAny_Expr_any (thn (he pins s σ H _ I h) fun v s1 ⟨x, H1, I1, r1, q1⟩ => ⟨σ, H1, I1, q1⟩) I.quiet hs
def tRet (te : TE) : TS := fun D σ H => te σ H D.rt
theorem ps_ret (he : PE X e te) : PS X (.Return (some e) pos) (tRet te) := by
  intro pins s σ H D I h
  exact wpAny_Return_some (thn (he pins s σ H _ I h) fun v s1 ⟨x, H1, I1, r1, q1⟩ => ⟨x, σ, H1, I1, r1, q1⟩)
def tRetN : TS := fun D _ H => D.rt .non H
def tIfS (c : TT) (t u : TS) : TS := fun D σ H => c σ H fun b H1 => if b = true then t D σ H1 else u D σ H1
theorem ps_if {c : Expr} {a b : List Stmt} {tc : TT} (hc : PT X c tc) (ha : PSs X a t) (hb : PSs X b u) : PS X (.If c a b pos) (tIfS tc t u) := by
  intro pins s σ H D I h
  refine wpAny_If (thn (hc pins s σ H _ I h) fun d s1 ⟨H1, I1, q1⟩ => ?_)
  cases d with
  | true => exact ha pins s1 σ H1 D I1 q1
  | false => exact hb pins s1 σ H1 D I1 q1
def tNever : TS := fun _ _ _ => False
end
abbrev TG := V → St → Hp → (St → Hp → Prop) → Prop
abbrev TGs := List V → St → Hp → (St → Hp → Prop) → Prop
def PG (X : Cx) (target : Expr) (t : TG) : Prop :=
  ∀ (pins : List (Addr × Obj)) (s : Shared) (σ : St) (H : Hp) (v : V) (u : Value) (Q : St → Hp → Prop), Inv X pins σ H s → RelV v u → t v σ H Q →
    wpAny (model X.prog X.w) X.A (assign target X.env u) (fun _ s' => ∃ σ' H', Inv X pins σ' H' s' ∧ Q σ' H') X.xe s
def PGs (X : Cx) (ts : List Expr) (t : TGs) : Prop :=
  ∀ (pins : List (Addr × Obj)) (s : Shared) (σ : St) (H : Hp) (vs : List V) (us : List Value) (Q : St → Hp → Prop), Inv X pins σ H s → Vals vs us → t vs σ H Q →
    wpAny (model X.prog X.w) X.A (assignInOrder ((assignEach ts X.env).map (·.2)) us) (fun _ s' => ∃ σ' H', Inv X pins σ' H' s' ∧ Q σ' H') X.xe s
abbrev TSet := V → V → V → Hp → (Hp → Prop) → Prop
def PSet (X : Cx) (t : TSet) : Prop :=
  ∀ (pins : List (Addr × Obj)) (s : Shared) (σ : St) (H : Hp) (o i v : V) (ov iv u : Value) (Q : Hp → Prop), Inv X pins σ H s → RelV o ov → RelV i iv → RelV v u → t o i v H Q →
    wpAny (model X.prog X.w) X.A (setItem ov iv u) (fun _ s' => ∃ H', Inv X pins σ H' s' ∧ Q H') X.xe s
abbrev TIp := V → V → Hp → VK → Prop
def PIp (X : Cx) (op : Operator) (t : TIp) : Prop :=
  ∀ (pins : List (Addr × Obj)) (s : Shared) (σ : St) (H : Hp) (x y : V) (v u : Value) (Q : VK), Inv X pins σ H s → RelV x v → RelV y u → t x y H Q →
    wpAny (model X.prog X.w) X.A (inplaceOp op v u) (EP X pins σ Q) X.xe s
section
variable {X : Cx} {pos : Pos}
def gName (i : Nat) : TG := fun v σ H Q => Q (σ.set i (some v)) H
theorem pg_name {i : Nat} {x : Str} (hN : X.N.Nodup) (hi : X.N[i]? = some x) (hx : Loc X.env.scope x) (hf : X.fn x = true ∨ X.env.scope.names.lookup x = some .local := by first | exact .inl rfl | exact .inr rfl | assumption) : PG X (.Name x pos) (gName i) := by
  intro pins s σ H v u Q I r h
  exact wpAny_assign_Name (store_ok I hN hi hx r (fun s' I' => ⟨_, H, I', h⟩) hf)
def gNil : TGs := fun vs σ H Q => vs = [] ∧ Q σ H
def gCons (t : TG) (u : TGs) : TGs := fun vs σ H Q => ∃ v r, vs = v :: r ∧ t v σ H fun σ' H' => u r σ' H' Q
def gTup (K : PySem.W.Frag) (n : Nat) (t : TGs) : TG := fun v σ H Q => ∃ a xs, v = .ref a ∧ SqT K H a xs ∧ xs.length = n ∧ t xs σ H Q
def gSub (to ti : TE) (t : TSet) : TG := fun v σ H Q => to σ H fun o H1 => ti σ H1 fun i H2 => t o i v H2 fun H3 => Q σ H3
def tAsg (te : TE) (g : TG) : TS := fun D σ H => te σ H fun x H1 => g x σ H1 D.nx
theorem ps_set {i : Nat} {x : Str} {e : Expr} {te : TE} {pos' : Pos} (hN : X.N.Nodup) (hi : X.N[i]? = some x) (hx : Loc X.env.scope x) (he : PE X e te) (hs : swapsWith e (some (.Name x pos')) pos.line X.env = pure false := by rfl) (hf : X.fn x = true ∨ X.env.scope.names.lookup x = some .local := by first | exact .inl rfl | exact .inr rfl | assumption) :
    PS X (.Assign [.Name x pos'] e pos) (tAsg te (gName i)) := by
  intro pins s σ H D I h
  refine wpAny_Assign_Name (thn (he pins s σ H _ I h) fun v s1 ⟨y, H1, I1, r1, q1⟩ => ?_) hs
  exact store_ok I1 hN hi hx r1 (fun s2 I2 => ⟨_, H1, I2, q1⟩) hf
def tPar (i j : Nat) (ta : TA) : TS := fun D σ H => ta σ H fun vs H1 => ∃ v w, vs = [v, w] ∧ D.nx ((σ.set i (some v)).set j (some w)) H1
def tAug (i : Nat) (te : TE) (ti : TIp) : TS := fun D σ H => ∃ x, σ[i]? = some (some x) ∧ te σ H fun y H1 => ti x y H1 fun z H2 => D.nx (σ.set i (some z)) H2
def tAugS (to ti te : TE) (tget : V → V → Hp → VK → Prop) (tip : TIp) (tset : TSet) : TS := fun D σ H => to σ H fun o H1 => ti σ H1 fun i H2 => tget o i H2 fun x H3 => te σ H3 fun y H4 => tip x y H4 fun z H5 => tset o i z H5 fun H6 => D.nx σ H6
def PGet (X : Cx) (t : V → V → Hp → VK → Prop) : Prop :=
  ∀ (pins : List (Addr × Obj)) (s : Shared) (σ : St) (H : Hp) (o i : V) (ov iv : Value) (Q : VK), Inv X pins σ H s → RelV o ov → RelV i iv → t o i H Q →
    wpAny (model X.prog X.w) X.A (getItem ov iv) (EP X pins σ Q) X.xe s
def ipI (f : Int → Int → Int) : TIp := fun x y H Q => ∃ i j, x = .int i ∧ y = .int j ∧ Q (.int (f i j)) H
end
section
variable {X : Cx} {pos : Pos}
def tWhile (c : TT) (tb : TS) : TS := fun D σ H => ∃ W : Nat → St → Hp → Prop, (∃ m, W m σ H) ∧ ∀ m σ H, W m σ H →
  c σ H fun b H1 => if b = true then ∃ N : St → Hp → Prop, (∀ σ' H', N σ' H' → ∃ m', m' < m ∧ W m' σ' H') ∧ tb { D with nx := N, ct := N, bk := D.nx } σ H1 else D.nx σ H1
end
structure It where
  go : Nat → Hp → Prop
  yld : Nat → Hp → V → Hp → Prop
  stop : Nat → Hp → Prop
def FpOk (X : Cx) (pins : List (Addr × Obj)) (H : Hp) (b : Addr) : Prop :=
  H b = none ∧ b ≠ X.env.locals ∧ b ∉ X.fs ∧ (b ∈ X.ex ∨ X.s₀.heap.objs.size ≤ b) ∧ (∀ x c, X.env.cells.lookup x = some c → c ≠ b) ∧ ∀ p ∈ X.pn ++ pins, p.1 ≠ b
theorem Inv.fpOk {X : Cx} {pins : List (Addr × Obj)} {σ : St} {H H' : Hp} {s : Shared} {b : Addr} (I : Inv X pins σ H s) (hb : s.heap.objs.size ≤ b) (hn : H' b = none) : FpOk X pins H' b := by
  refine ⟨hn, Nat.ne_of_gt (Nat.lt_of_lt_of_le I.lt hb), I.nofs hb, .inr (Nat.le_trans I.sz hb), fun x c e z => ?_, fun p hp z => ?_⟩
  · obtain ⟨v, q⟩ := I.cell x c e
    exact absurd (Nat.lt_of_lt_of_le q.lt (by rw [z]; exact hb)) (Nat.lt_irrefl _)
  · exact absurd (Nat.lt_of_lt_of_le (Heap.lt_size (I.pin p hp).1) (by rw [z]; exact hb)) (Nat.lt_irrefl _)
structure Turn (P : Program) (w : World) (K : PySem.W.Frag) (tg : Expr) (J : It) (fp : List Addr) (it : Addr) (tn : Nat → Heap → Prop) : Prop where
  mem : it ∈ fp
  obj : ∀ i h, tn i h → ∀ b ∈ fp, ∃ o, h.get? b = some o ∧ ∀ v, o.data ≠ .cell v
  keep : ∀ i h h', tn i h → (∀ b ∈ fp, ∀ o, h.get? b = some o → h'.get? b = some o) → tn i h'
  item : ∀ (X : Cx), X.prog = P → X.w = w → X.K = K → X.calm = true → ∀ (i : Nat) (pins : List (Addr × Obj)) (s : Shared) (σ : St) (H : Hp) (E : Value → Shared → Prop), Inv X pins σ H s → (∀ b ∈ fp, FpOk X pins H b) → tn i s.heap → J.go i H →
    wpAny (model P w) X.A (pyNext (.ref it)) (fun r s1 => ∃ u, r = some u ∧
      wpAny (model P w) X.A (letOwnedTupleGo tg (.ref it) u) (fun _ s2 => ∃ x H', Inv X pins σ H' s2 ∧ RelV x u ∧ J.yld i H x H' ∧ tn (i + 1) s2.heap ∧ ∀ b ∈ fp, H' b = none) E s1) E s
  done : ∀ (X : Cx), X.prog = P → X.w = w → X.K = K → X.calm = true → ∀ (i : Nat) (pins : List (Addr × Obj)) (s : Shared) (σ : St) (H : Hp) (E : Value → Shared → Prop), Inv X pins σ H s → (∀ b ∈ fp, FpOk X pins H b) → tn i s.heap → J.stop i H →
    wpAny (model P w) X.A (pyNext (.ref it)) (fun r s1 => r = none ∧ Inv X pins σ H s1) E s
  self : ∀ (A : Around) (i : Nat) (s : Shared) (Q : Value → Shared → Prop) (E : Value → Shared → Prop), tn i s.heap → Q (.ref it) s → wpAny (model P w) A (pyIter (.ref it)) Q E s
abbrev TI := St → Hp → (It → Hp → Prop) → Prop
def PIE (X : Cx) (pins : List (Addr × Obj)) (σ : St) (tg : Expr) (R : It → Hp → Prop) (itv : Value) (s2 : Shared) : Prop :=
  ∃ (it : Addr) (fp : List Addr) (tn : Nat → Heap → Prop) (J : It) (H' : Hp), itv = .ref it ∧ Inv X pins σ H' s2 ∧ Turn X.prog X.w X.K tg J fp it tn ∧ tn 0 s2.heap ∧ (∀ b ∈ fp, FpOk X pins H' b) ∧ R J H'
def PI (X : Cx) (tg iter : Expr) (wi : TI) : Prop :=
  ∀ (pins : List (Addr × Obj)) (s : Shared) (σ : St) (H : Hp) (R : It → Hp → Prop), Inv X pins σ H s → wi σ H R →
    wpAny (model X.prog X.w) X.A (eval iter X.env) (fun v s1 => wpAny (model X.prog X.w) X.A (pyIter v) (PIE X pins σ tg R) X.xe s1) X.xe s
theorem go_of {M : Model} {A : Around} {E : Value → Shared → Prop} {s : Shared} {tg : Expr} {it : Addr} {u : Value} {o : Obj} {n : String} {vs : Array Value} {Q : Unit → Shared → Prop} (ho : s.heap.get? it = some o) (hc : o.cls = .type n) (hd : o.data = .fields vs)
    (hn : ["enumerate", "zip", "dict_itemiterator", "dict_reverseitemiterator", "odict_iterator", "itertools.zip_longest", "itertools.pairwise"].contains n = false) (hQ : Q () s) : wpAny M A (letOwnedTupleGo tg (.ref it) u) Q E s := by
  unfold letOwnedTupleGo
  cases tg <;> first
    | exact wpAny_pure hQ
    | (cases u <;> first
        | exact wpAny_pure hQ
        | (refine wpAny_bind (wpAny_load ho ?_)
           rw [hc, hd]
           show wpAny M A (if (["enumerate", "zip", "dict_itemiterator", "dict_reverseitemiterator", "odict_iterator", "itertools.zip_longest", "itertools.pairwise"].contains n && vs[0]? == some (rawInt _)) = true then _ else _) Q E s
           rw [if_neg (by intro h; rw [hn, Bool.false_and] at h; cases h)]
           exact wpAny_pure hQ))
def Itl (K : PySem.W.Frag) (a : Addr) : It :=
  ⟨fun i H => ∃ xs x, SqL K H a xs ∧ xs[i]? = some x, fun i H x H' => H' = H ∧ ∀ xs, SqL K H a xs → xs[i]? = some x, fun i H => ∃ xs, SqL K H a xs ∧ xs.length ≤ i⟩
def Itt (K : PySem.W.Frag) (a : Addr) : It :=
  ⟨fun i H => ∃ xs x, SqT K H a xs ∧ xs[i]? = some x, fun i H x H' => H' = H ∧ ∀ xs, SqT K H a xs → xs[i]? = some x, fun i H => ∃ xs, SqT K H a xs ∧ xs.length ≤ i⟩
def Itr (lo : Int) (n : Nat) : It := ⟨fun i _ => i < n, fun i H x H' => H' = H ∧ x = .int (lo + i), fun i _ => n ≤ i⟩
theorem turn_list {P : Program} {w : World} {K : PySem.W.Frag} {tg : Expr} (a it : Addr) : Turn P w K tg (Itl K a) [it] it (fun i h => h.IsListIter it a i) where
  mem := by simp
  obj := fun i h st b hb => by
    have e : b = it := by simpa using hb
    subst e
    obtain ⟨o, e, c, d⟩ := st
    exact ⟨o, e, fun v z => by rw [d] at z; cases z⟩
  keep := fun i h h' st k => st.at fun o e => k it (by simp) o e
  item := by
    intro X hP hw hK hc i pins s σ H E I hf st hg
    subst hP hw hK
    obtain ⟨xs, x, hq, hx⟩ := hg
    obtain ⟨its, rv, p, hz⟩ := I.list hq
    obtain ⟨u, hu, ru⟩ := rv.get hx
    obtain ⟨f0, f1, f2, f3, f4, f5⟩ := hf it (by simp)
    refine wpAny_pyNext_list_item st p.isList (x := u) (by simpa using hu) fun h' st' sb => ?_
    have I1 : Inv X pins σ H { s with heap := h' } := I.turned (t' := s.toks) (fun b o hb e => (sb.2 b hb).trans e) f0 f1 f3 f4 f5
    obtain ⟨o, e, c, d⟩ := id st'
    exact ⟨u, rfl, go_of (s := { s with heap := h' }) e c d (by decide) ⟨x, H, I1, ru, ⟨rfl, fun ys hy => by rw [I.list_inj hy hq]; exact hx⟩, st', fun b hb => (hf b hb).1⟩⟩
  done := by
    intro X hP hw hK hc i pins s σ H E I hf st hg
    subst hP hw hK
    obtain ⟨xs, hq, hx⟩ := hg
    obtain ⟨its, rv, p, hz⟩ := I.list hq
    obtain ⟨f0, f1, f2, f3, f4, f5⟩ := hf it (by simp)
    have hl := rv.length
    exact wpAny_pyNext_list_end (I.ok.hd hc) st p.isList (by simp; omega) fun h' eb => ⟨rfl, I.turned (t' := s.toks) (fun b o hb e => eb b o hb e) f0 f1 f3 f4 f5⟩
  self := fun _ _ _ _ _ st h => wpAny_pyIter_listiter st h
theorem turn_tuple {P : Program} {w : World} {K : PySem.W.Frag} {tg : Expr} (a it : Addr) : Turn P w K tg (Itt K a) [it] it (fun i h => h.IsTupleIter it a i) where
  mem := by simp
  obj := fun i h st b hb => by
    have e : b = it := by simpa using hb
    subst e
    obtain ⟨o, e, c, d⟩ := st
    exact ⟨o, e, fun v z => by rw [d] at z; cases z⟩
  keep := fun i h h' st k => st.at fun o e => k it (by simp) o e
  item := by
    intro X hP hw hK hc i pins s σ H E I hf st hg
    subst hP hw hK
    obtain ⟨xs, x, hq, hx⟩ := hg
    obtain ⟨its, rv, p, hz⟩ := I.tuple hq
    obtain ⟨u, hu, ru⟩ := rv.get hx
    obtain ⟨f0, f1, f2, f3, f4, f5⟩ := hf it (by simp)
    refine wpAny_pyNext_tuple_item st (show s.heap.IsTuple a its.toArray from p) (x := u) (by simpa using hu) fun h' st' sb => ?_
    have I1 : Inv X pins σ H { s with heap := h' } := I.turned (t' := s.toks) (fun b o hb e => (sb.2 b hb).trans e) f0 f1 f3 f4 f5
    obtain ⟨o, e, c, d⟩ := id st'
    exact ⟨u, rfl, go_of (s := { s with heap := h' }) e c d (by decide) ⟨x, H, I1, ru, ⟨rfl, fun ys hy => by rw [I.tuple_inj hy hq]; exact hx⟩, st', fun b hb => (hf b hb).1⟩⟩
  done := by
    intro X hP hw hK hc i pins s σ H E I hf st hg
    subst hP hw hK
    obtain ⟨xs, hq, hx⟩ := hg
    obtain ⟨its, rv, p, hz⟩ := I.tuple hq
    obtain ⟨f0, f1, f2, f3, f4, f5⟩ := hf it (by simp)
    have hl := rv.length
    exact wpAny_pyNext_tuple_end (I.ok.hd hc) st (show s.heap.IsTuple a its.toArray from p) (by simp; omega) fun h' eb => ⟨rfl, I.turned (t' := s.toks) (fun b o hb e => eb b o hb e) f0 f1 f3 f4 f5⟩
  self := fun _ _ _ _ _ st h => wpAny_pyIter_tupleiter st h
theorem turn_range {P : Program} {w : World} {K : PySem.W.Frag} {tg : Expr} (it : Addr) (lo : Int) (n : Nat) : Turn P w K tg (Itr lo n) [it] it (fun i h => IsRangeIter h it (lo + (i : Nat) * 1) ((n : Int) - (i : Nat)) 1) where
  mem := by simp
  obj := fun i h st b hb => by
    have e : b = it := by simpa using hb
    subst e
    exact ⟨_, st, fun v z => by
      have z' : Data.fields _ = Data.cell v := z
      cases z'⟩
  keep := fun i h h' st k => k it (by simp) _ st
  item := by
    intro X hP hw hK hc i pins s σ H E I hf st hg
    subst hP hw hK
    obtain ⟨f0, f1, f2, f3, f4, f5⟩ := hf it (by simp)
    have W := Walks.range (prog := X.prog) (w := X.w) (I.ok.hd hc) it lo 1 n
    refine W.item i s _ _ hg st fun v h' tk hv st' kk => ?_
    obtain ⟨t, rfl⟩ := hv
    have I1 : Inv X pins σ H { s with heap := h', toks := tk } := I.turned (fun b o hb e => kk b o (by simpa using hb) e) f0 f1 f3 f4 f5
    refine ⟨_, rfl, go_of (s := { s with heap := h', toks := tk }) (n := "range_iterator") st' rfl rfl (by decide) ⟨.int (lo + i), H, I1, ⟨t, ?_⟩, ⟨rfl, rfl⟩, st', fun b hb => (hf b hb).1⟩⟩
    rw [Int.mul_one]
  done := by
    intro X hP hw hK hc i pins s σ H E I hf st hg
    subst hP hw hK
    obtain ⟨f0, f1, f2, f3, f4, f5⟩ := hf it (by simp)
    exact wpAny_pyNext_range_end (I.ok.hd hc) st (by have : n ≤ i := hg; omega) fun h' eb => ⟨rfl, I.turned (t' := s.toks) (fun b o hb e => eb b o hb e) f0 f1 f3 f4 f5⟩
  self := fun _ _ _ _ _ st h => wpAny_pyIter_rangeiter st h
end L2
namespace L2
open PySem PySem.Spec PyProof.Rows
section
variable {X : Cx} {tg : Expr}
def iList (K : PySem.W.Frag) (tl : TE) : TI := fun σ H R => tl σ H fun x H1 => ∃ a, x = .ref a ∧ (∃ xs, SqL K H1 a xs) ∧ R (Itl K a) H1
def iTup (K : PySem.W.Frag) (tl : TE) : TI := fun σ H R => tl σ H fun x H1 => ∃ a, x = .ref a ∧ (∃ xs, SqT K H1 a xs) ∧ R (Itt K a) H1
def iRng1 (ta : TA) : TI := fun σ H R => ta σ H fun vs H1 => ∃ j : Int, vs = [.int j] ∧ -(2 ^ 62) ≤ j ∧ j < 2 ^ 62 ∧ R (Itr 0 j.toNat) H1
def iRng2 (ta : TA) : TI := fun σ H R => ta σ H fun vs H1 => ∃ i j : Int, vs = [.int i, .int j] ∧ (-(2 ^ 62) ≤ i ∧ i < 2 ^ 62 ∧ -(2 ^ 62) ≤ j ∧ j < 2 ^ 62) ∧ R (Itr i (j - i).toNat) H1
def tFor (wi : TI) (g : TG) (tb : TS) : TS := fun D σ H => wi σ H fun J H1 => ∃ W : Nat → Nat → St → Hp → Prop, (∃ m, W 0 m σ H1) ∧ ∀ i m σ H, W i m σ H →
  (J.stop i H ∧ D.nx σ H) ∨ (J.go i H ∧ ∃ N : St → Hp → Prop, (∀ σ' H', N σ' H' → ∃ m', m' < m ∧ W (i + 1) m' σ' H') ∧ ∀ x H', J.yld i H x H' → g x σ H' fun σ2 H2 => tb { D with nx := N, ct := N, bk := D.nx } σ2 H2)
def pinsAt (fp : List Addr) (h : Heap) : List (Addr × Obj) := fp.filterMap fun b => (h.get? b).map fun o => (b, o)
theorem mem_pinsAt {fp : List Addr} {h : Heap} {b : Addr} {o : Obj} (hb : b ∈ fp) (e : h.get? b = some o) : (b, o) ∈ pinsAt fp h := List.mem_filterMap.mpr ⟨b, hb, by rw [e]; rfl⟩
theorem of_pinsAt {fp : List Addr} {h : Heap} {p : Addr × Obj} (hp : p ∈ pinsAt fp h) : p.1 ∈ fp ∧ h.get? p.1 = some p.2 := by
  obtain ⟨b, hb, e⟩ := List.mem_filterMap.mp hp
  cases q : h.get? b with
  | none => rw [q] at e; cases e
  | some o =>
    rw [q] at e
    have e' : (b, o) = p := Option.some.inj e
    subst e'
    exact ⟨hb, q⟩
theorem Inv.pinned {pins : List (Addr × Obj)} {σ : St} {H : Hp} {s : Shared} {fp : List Addr} (I : Inv X pins σ H s) (hf : ∀ b ∈ fp, FpOk X pins H b) (ho : ∀ b ∈ fp, ∃ o, s.heap.get? b = some o ∧ ∀ v, o.data ≠ .cell v) : Inv X (pins ++ pinsAt fp s.heap) σ H s :=
  I.pins_of fun p hp => (List.mem_append.mp hp).elim (fun z => I.pin p (List.mem_append_right _ z)) fun z => by
    obtain ⟨hb, e⟩ := of_pinsAt z
    obtain ⟨f0, f1, f2, _⟩ := hf p.1 hb
    obtain ⟨o, e', d⟩ := ho p.1 hb
    rw [e] at e'; cases e'
    exact ⟨e, f0, f1, f2, d⟩
theorem Inv.unpinned {pins pl : List (Addr × Obj)} {σ : St} {H : Hp} {s : Shared} (I : Inv X (pins ++ pl) σ H s) : Inv X pins σ H s := I.pins_of fun p hp => I.pin p (List.mem_append_right _ (List.mem_append_left _ hp))
theorem ps_for {iter : Expr} {body : List Stmt} {wi : TI} {g : TG} {tb : TS} {pos : Pos} (hp : PassesOwn (model X.prog X.w) X.A X.env X.xe) (hc : X.calm = true) (hi : PI X tg iter wi) (hg : PG X tg g) (hb : PSs X body tb)
    (hs : ∀ x, foldedSetIterable iter X.env x = pure x := by intro _; rfl) : PS X (.For tg iter body [] pos) (tFor wi g tb) := by
  intro pins s σ H D I h
  refine wpAny_For (thn (hi pins s σ H _ I h) fun v s1 h1 => thn h1 fun itv s2 h2 => ?_) hs
  obtain ⟨it, fp, tn, J, H2, e, I2, T, st2, f2, W, ⟨m0, w0⟩, turn⟩ := h2
  subst e
  -- what stays true of the iterator's objects through the loop
  have stat : ∀ {H' : Hp}, (∀ b ∈ fp, H' b = none) → ∀ b ∈ fp, FpOk X pins H' b := fun hn b hb => ⟨hn b hb, (f2 b hb).2⟩
  refine codeAny_forLoop_any (fun n s' => ∃ i σ' H', Inv X pins σ' H' s' ∧ tn i s'.heap ∧ (∀ b ∈ fp, H' b = none) ∧ W i n σ' H') ?_ m0 ⟨0, σ, H2, I2, st2, fun b hb => (f2 b hb).1, w0⟩
  rintro n s3 ⟨i, σ3, H3, I3, st3, fr3, w3⟩
  rcases turn i n σ3 H3 w3 with ⟨stop, qn⟩ | ⟨go, N, hN, step⟩
  · refine wpAny_passesOwn hp (thn (T.done X rfl rfl rfl hc i pins s3 σ3 H3 X.xe I3 (stat fr3) st3 stop) fun r s4 ⟨hr, I4⟩ => ?_)
    subst hr
    exact wpAny_execs_nil ⟨σ3, H3, I4, qn⟩
  · refine wpAny_passesOwn hp (thn (T.item X rfl rfl rfl hc i pins s3 σ3 H3 X.xe I3 (stat fr3) st3 go) fun r s4 ⟨u, hr, h4⟩ => ?_)
    subst hr
    refine wpAny_passesOwn hp (thn h4 fun _ s5 ⟨x, H5, I5, r5, y5, st5, fr5⟩ => ?_)
    have I5' := I5.pinned (stat fr5) (T.obj _ _ st5)
    refine wpAny_passesOwn hp (thn (hg _ s5 σ3 H5 x u _ I5' r5 (step x H5 y5)) fun _ s6 ⟨σ6, H6, I6, q6⟩ => ?_)
    refine wpAny_passesOwn hp (thn (hb _ s6 σ6 H6 _ I6 q6) fun f s7 q7 => ?_)
    have again : ∀ {σ7 : St} {H7 : Hp}, Inv X (pins ++ pinsAt fp s5.heap) σ7 H7 s7 → N σ7 H7 → ∃ m, m < n ∧ ∃ i σ' H', Inv X pins σ' H' s7 ∧ tn i s7.heap ∧ (∀ b ∈ fp, H' b = none) ∧ W i m σ' H' := fun {σ7 H7} I7 n7 => by
      obtain ⟨m', hm, w7⟩ := hN σ7 H7 n7
      refine ⟨m', hm, i + 1, σ7, H7, I7.unpinned, T.keep _ _ _ st5 fun b hb o e => (I7.pin (b, o) (List.mem_append_right _ (List.mem_append_right _ (mem_pinsAt hb e)))).1, fun b hb => ?_, w7⟩
      obtain ⟨o, e, d⟩ := T.obj _ _ st5 b hb
      exact (I7.pin (b, o) (List.mem_append_right _ (List.mem_append_right _ (mem_pinsAt hb e)))).2.1
    cases f with
    | next => obtain ⟨σ7, H7, I7, n7⟩ := q7; exact again I7 n7
    | cont => obtain ⟨σ7, H7, I7, n7⟩ := q7; exact again I7 n7
    | brk => obtain ⟨σ7, H7, I7, q7⟩ := q7; exact ⟨σ7, H7, I7.unpinned, q7⟩
    | ret v => obtain ⟨x7, σ7, H7, I7, r7, q7⟩ := q7; exact ⟨x7, σ7, H7, I7.unpinned, r7, q7⟩
end
end L2
namespace L2
open PySem PySem.Spec PyProof.Rows
abbrev R2 := V → V → Hp → VK → Prop
def OpR (X : Cx) (f : Value → Value → Sem Value) (r : R2) : Prop :=
  ∀ (pins : List (Addr × Obj)) (s : Shared) (σ : St) (H : Hp) (x y : V) (v u : Value) (Q : VK), Inv X pins σ H s → RelV x v → RelV y u → r x y H Q →
    wpAny (model X.prog X.w) X.A (f v u) (EP X pins σ Q) X.xe s
def UnR (X : Cx) (f : Value → Sem Value) (r : V → Hp → VK → Prop) : Prop :=
  ∀ (pins : List (Addr × Obj)) (s : Shared) (σ : St) (H : Hp) (x : V) (v : Value) (Q : VK), Inv X pins σ H s → RelV x v → r x H Q →
    wpAny (model X.prog X.w) X.A (f v) (EP X pins σ Q) X.xe s
def CallR (X : Cx) (f : Value) (r : List V → Hp → VK → Prop) : Prop :=
  ∀ (pins : List (Addr × Obj)) (s : Shared) (σ : St) (H : Hp) (xs : List V) (us : List Value) (Q : VK), Inv X pins σ H s → Vals xs us → r xs H Q →
    wpAny (model X.prog X.w) X.A (call f us) (EP X pins σ Q) X.xe s
def TruR (X : Cx) (r : V → Hp → (Bool → Hp → Prop) → Prop) : Prop :=
  ∀ (pins : List (Addr × Obj)) (s : Shared) (σ : St) (H : Hp) (x : V) (v : Value) (Q : Bool → Hp → Prop), Inv X pins σ H s → RelV x v → r x H Q →
    wpAny (model X.prog X.w) X.A (truthy v) (TP X pins σ Q) X.xe s
def tOp (r : R2) (ta tb : TE) : TE := fun σ H Q => ta σ H fun x H1 => tb σ H1 fun y H2 => r x y H2 Q
def tUn (r : V → Hp → VK → Prop) (ta : TE) : TE := fun σ H Q => ta σ H fun x H1 => r x H1 Q
def rI (C : Int → Int → Prop) (g : Int → Int → V) : R2 := fun x y H Q => ∃ i j, x = .int i ∧ y = .int j ∧ C i j ∧ Q (g i j) H
def rI0 (g : Int → Int → V) : R2 := fun x y H Q => ∃ i j, x = .int i ∧ y = .int j ∧ Q (g i j) H
def rU (g : Int → V) : V → Hp → VK → Prop := fun x H Q => ∃ i, x = .int i ∧ Q (g i) H
section
variable {X : Cx} {a b c : Expr} {ta tb tc : TE} {pos : Pos}
theorem binT (ha : PE X a ta) (hb : PE X b tb) {pins : List (Addr × Obj)} {s : Shared} {σ : St} {H : Hp} {R : V → V → Hp → Prop} (I : Inv X pins σ H s)
    (h : ta σ H fun x H1 => tb σ H1 fun y H2 => R x y H2) {Q : Value → Shared → Prop} {f : Value → Value → Sem Value}
    (hf : ∀ v u s2 x y H2, Inv X pins σ H2 s2 → RelV x v → RelV y u → R x y H2 → wpAny (model X.prog X.w) X.A (f v u) Q X.xe s2) :
    wpAny (model X.prog X.w) X.A (eval a X.env) (fun v s₁ => wpAny (model X.prog X.w) X.A (eval b X.env) (fun u s₂ => wpAny (model X.prog X.w) X.A (f v u) Q X.xe s₂) X.xe s₁) X.xe s := by
  refine thn (ha pins s σ H _ I h) fun v s1 ⟨x, H1, I1, r1, q1⟩ => ?_
  refine thn (hb pins s1 σ H1 _ I1 q1) fun u s2 ⟨y, H2, I2, r2, q2⟩ => ?_
  exact hf v u s2 x y H2 I2 r1 r2 q2
theorem pe_op {op : Operator} {r : R2} (ho : OpR X (binaryOp op) r) (ha : PE X a ta) (hb : PE X b tb) : PE X (.BinOp a op b pos) (tOp r ta tb) := by
  intro pins s σ H Q I h
  exact wpAny_BinOp (binT ha hb I h fun v u s2 x y H2 I2 rx ry q => ho pins s2 σ H2 x y v u Q I2 rx ry q)
theorem opI {f : Value → Value → Sem Value} {C : Int → Int → Prop} {g : Int → Int → Int}
    (rule : ∀ (i j : Int) (t u : Tok) (s : Shared) (Q : Value → Shared → Prop) (E : Value → Shared → Prop), C i j → Q (.int (g i j) s.toks) { s with toks := s.toks + 1 } → wpAny (model X.prog X.w) X.A (f (.int i t) (.int j u)) Q E s) :
    OpR X f (rI C fun i j => .int (g i j)) := by
  intro pins s σ H x y v u Q I rx ry h
  obtain ⟨i, j, rfl, rfl, hc, q⟩ := h
  obtain ⟨t, rfl⟩ := rx
  obtain ⟨t', rfl⟩ := ry
  exact rule i j t t' s _ _ hc ⟨.int (g i j), H, I.tok _, ⟨_, rfl⟩, q⟩
theorem opI0 {f : Value → Value → Sem Value} {g : Int → Int → Int}
    (rule : ∀ (i j : Int) (t u : Tok) (s : Shared) (Q : Value → Shared → Prop) (E : Value → Shared → Prop), Q (.int (g i j) s.toks) { s with toks := s.toks + 1 } → wpAny (model X.prog X.w) X.A (f (.int i t) (.int j u)) Q E s) :
    OpR X f (rI0 fun i j => .int (g i j)) := by
  intro pins s σ H x y v u Q I rx ry h
  obtain ⟨i, j, rfl, rfl, q⟩ := h
  obtain ⟨t, rfl⟩ := rx
  obtain ⟨t', rfl⟩ := ry
  exact rule i j t t' s _ _ ⟨.int (g i j), H, I.tok _, ⟨_, rfl⟩, q⟩
theorem opB0 {f : Value → Value → Sem Value} {g : Int → Int → Bool}
    (rule : ∀ (i j : Int) (t u : Tok) (s : Shared) (Q : Value → Shared → Prop) (E : Value → Shared → Prop), Q (.bool (g i j)) s → wpAny (model X.prog X.w) X.A (f (.int i t) (.int j u)) Q E s) :
    OpR X f (rI0 fun i j => .bl (g i j)) := by
  intro pins s σ H x y v u Q I rx ry h
  obtain ⟨i, j, rfl, rfl, q⟩ := h
  obtain ⟨t, rfl⟩ := rx
  obtain ⟨t', rfl⟩ := ry
  exact rule i j t t' s _ _ ⟨.bl (g i j), H, I, rfl, q⟩
def CDiv (i j : Int) : Prop := 0 < j ∧ j < 1073741824
def CDivN (i j : Int) : Prop := j ≠ 0 ∧ j.natAbs < 1073741824
def CPow (i j : Int) : Prop := 0 ≤ j ∧ j ≤ 1000000 ∧ i.natAbs < 2 ^ 64
def CMul (i j : Int) : Prop := (-(2 ^ 64) < i ∧ i < 2 ^ 64) ∨ (-(2 ^ 64) < j ∧ j < 2 ^ 64)
theorem CMul.ok {i j : Int} (h : CMul i j) : IntMulOk i j := by
  rcases h with ⟨h1, h2⟩ | ⟨h1, h2⟩
  · exact .of_left (intBits_le_64 h1 h2)
  · exact .of_right (intBits_le_64 h1 h2)
theorem two_pow_nn (k : Nat) : (0 : Int) ≤ 2 ^ k := by
  rw [two_pow_cast]
  exact Int.natCast_nonneg _
theorem op_add : OpR X (binaryOp .Add) (rI0 fun i j => .int (i + j)) := opI0 fun _ _ _ _ _ _ _ q => add_int q
theorem op_sub : OpR X (binaryOp .Sub) (rI0 fun i j => .int (i - j)) := opI0 fun _ _ _ _ _ _ _ q => sub_int q
theorem op_mod : OpR X (binaryOp .Mod) (rI (fun _ j => 0 < j) fun i j => .int (i % j)) := opI fun i j _ _ _ _ _ hc q => by
  have h1 : (0 : Int) < j := hc
  exact mod_int' (by omega) (by rw [Int.fmod_eq_emod_of_nonneg i (by omega)]; exact q)
theorem op_pow : OpR X (binaryOp .Pow) (rI CPow fun i j => .int (i ^ j.toNat)) := opI fun _ _ _ _ _ _ _ hc q => pow_int_small hc.1 hc.2.1 hc.2.2 q
theorem op_shl : OpR X (binaryOp .LShift) (rI CPow fun i j => .int (i * 2 ^ j.toNat)) := opI fun _ _ _ _ _ _ _ hc q => lshift_int_small hc.1 hc.2.1 hc.2.2 q
theorem op_shr : OpR X (binaryOp .RShift) (rI (fun _ j => 0 ≤ j) fun i j => .int (i / 2 ^ j.toNat)) := opI fun i j _ _ _ _ _ hc q =>
  rshift_int hc (by rw [Int.fdiv_eq_ediv_of_nonneg i (two_pow_nn _)]; exact q)
end
def scal : V → V → Bool
  | .non, .non => true | .non, .int _ => true | .int _, .non => true | .non, .bl _ => true | .bl _, .non => true | .non, .str _ => true | .str _, .non => true
  | .int _, .int _ => true | .bl _, .bl _ => true | .str _, .str _ => true | .byt _, .byt _ => true
  | .int _, .str _ => true | .str _, .int _ => true | .bl _, .str _ => true | .str _, .bl _ => true
  | _, _ => false
def rEq : R2 := fun x y H Q => scal x y = true ∧ Q (.bl (decide (x = y))) H
def rNe : R2 := fun x y H Q => scal x y = true ∧ Q (.bl (!decide (x = y))) H
section
variable {X : Cx} {a b c : Expr} {ta tb tc : TE} {pos : Pos}
theorem op_lt : OpR X (compareOp .Lt) (rI0 fun i j => .bl (decide (i < j))) := opB0 fun _ _ _ _ _ _ _ q => lt_int q
theorem op_gt : OpR X (compareOp .Gt) (rI0 fun i j => .bl (decide (j < i))) := opB0 fun _ _ _ _ _ _ _ q => gt_int q
def isObj : HO → Bool
  | .lst _ => true
  | .ins _ _ _ => true
  | _ => false
theorem OpR.or {f : Value → Value → Sem Value} {r r' : R2} (h : OpR X f r) (h' : OpR X f r') : OpR X f (fun x y H Q => r x y H Q ∨ r' x y H Q) := by
  intro pins s σ H x y v u Q I rx ry q
  rcases q with q | q
  · exact h pins s σ H x y v u Q I rx ry q
  · exact h' pins s σ H x y v u Q I rx ry q
theorem nomark (b : Expr) {op : CmpOp} (h : op ≠ .In := by decide) (h2 : op ≠ .NotIn := by decide) : behindInMarks op b = false := by
  have e1 : (op == CmpOp.In) = false := by cases op <;> first | rfl | exact absurd rfl h
  have e2 : (op == CmpOp.NotIn) = false := by cases op <;> first | rfl | exact absurd rfl h2
  cases b <;> simp [behindInMarks, e1, e2]
def tTest (t : TE) : TT := fun σ H Q => t σ H fun x H' => ∃ k, x = .bl k ∧ Q k H'
theorem pt_cmpR {op : CmpOp} {r : R2} (ho : OpR X (compareOp op) r) (ha : PE X a ta) (hb : PE X b tb) (hm : behindInMarks op b = false) : PT X (.Compare a [op] [b] pos) (tTest (tOp r ta tb)) := by
  intro pins s σ H Q I h
  refine wpAny_isTrue_Compare1 (thn (ha pins s σ H _ I h) fun v s1 ⟨x, H1, I1, r1, q1⟩ => thn (hb pins s1 σ H1 _ I1 q1) fun u s2 ⟨y, H2, I2, r2, q2⟩ =>
    thn (ho pins s2 σ H2 x y v u _ I2 r1 r2 q2) fun c s3 ⟨z, H3, I3, r3, k, e, q3⟩ => ?_) hm
  subst e
  cases r3
  exact wpAny_truthy_bool ⟨H3, I3, q3⟩
def tChain (r r' : R2) (ta tb tc : TE) : TE := fun σ H Q => ta σ H fun x H1 => tb σ H1 fun y H2 => r x y H2 fun z H3 => ∃ k, z = .bl k ∧
  (if k = true then tc σ H3 fun w' H4 => r' y w' H4 Q else Q (.bl false) H3)
def TruV (K : PySem.W.Frag) (x : V) (H : Hp) (k : Bool) : Prop :=
  match x with
  | .non => k = false
  | .bl b => k = b
  | .int i => k = (i != 0)
  | .str y => y.length ≤ sizeLine ∧ k = ((y.length : Int) != 0)
  | .byt y => y.size ≤ sizeLine ∧ k = ((y.size : Int) != 0)
  | .ref p => (∃ xs, SqL K H p xs ∧ k = !xs.isEmpty) ∨ (∃ xs, SqT K H p xs ∧ k = !xs.isEmpty) ∨ ∃ kvs, H p = some (.dK kvs) ∧ k = !kvs.isEmpty
  | _ => False
theorem line63 : (sizeLine : Nat) < 2 ^ 63 := by rw [sizeLine_eq]; decide
theorem op_add_str : OpR X (binaryOp .Add) (fun x y H Q => ∃ i j, x = .str i ∧ y = .str j ∧ i.length + j.length ≤ sizeLine ∧ Q (.str (i ++ j)) H) := by
  intro pins s σ H x y v u Q I rx ry h
  obtain ⟨i, j, rfl, rfl, hz, q⟩ := h
  obtain ⟨t, rfl⟩ := rx
  obtain ⟨t', rfl⟩ := ry
  exact add_str (fun t' tk => ⟨.str (i ++ j), H, I.tok _, ⟨_, rfl⟩, q⟩) hz
def PlainIxT (b : Expr) : Prop := ∀ o i, subscripted b false o i = operate [o, i] (getItem o i)
theorem vals1 {x : V} {us : List Value} (r : Vals [x] us) : ∃ u, us = [u] ∧ RelV x u := by
  cases r with
  | cons r1 r2 => cases r2; exact ⟨_, rfl, r1⟩
theorem vals2 {x y : V} {us : List Value} (r : Vals [x, y] us) : ∃ u w', us = [u, w'] ∧ RelV x u ∧ RelV y w' := by
  cases r with
  | cons r1 r2 =>
    cases r2 with
    | cons r3 r4 => cases r4; exact ⟨_, _, rfl, r1, r3⟩
def LenV (K : PySem.W.Frag) (x : V) (H : Hp) (n : Nat) : Prop :=
  match x with
  | .str y => y.length ≤ sizeLine ∧ n = y.length
  | .byt y => y.size ≤ sizeLine ∧ n = y.size
  | .ref p => (∃ xs, SqL K H p xs ∧ n = xs.length) ∨ ∃ xs, SqT K H p xs ∧ n = xs.length
  | _ => False
theorem call_len : CallR X (.builtin "len") (fun xs H Q => ∃ x n, xs = [x] ∧ LenV X.K x H n ∧ Q (.int n) H) := by
  intro pins s σ H xs us Q I r h
  obtain ⟨x, n, rfl, e, q⟩ := h
  obtain ⟨u, rfl, rx⟩ := vals1 r
  have hl := line63
  have hs : sizeLine = 16777216 := sizeLine_eq
  cases x with
  | str y =>
    obtain ⟨t, rfl⟩ := rx
    obtain ⟨hy, e'⟩ : y.length ≤ sizeLine ∧ n = y.length := e
    subst e'
    exact len_str (by omega) ⟨.int _, H, I.tok _, ⟨_, rfl⟩, q⟩
  | byt y =>
    obtain ⟨t, rfl⟩ := rx
    obtain ⟨hy, e'⟩ : y.size ≤ sizeLine ∧ n = y.size := e
    subst e'
    exact PySem.W.len_bytes (by omega) ⟨.int _, H, I.tok _, ⟨_, rfl⟩, q⟩
  | ref p =>
    cases rx
    have e' : (∃ xs, SqL X.K H p xs ∧ n = xs.length) ∨ ∃ xs, SqT X.K H p xs ∧ n = xs.length := e
    rcases e' with ⟨xs, hx, e'⟩ | ⟨xs, hx, e'⟩
    · subst e'
      obtain ⟨its, r', pl, hz⟩ := I.list hx
      have hlen := r'.length
      exact Calls.call_len_list pl.isList (by simp only [List.size_toArray]; omega) ⟨.int xs.length, H, I.tok _, ⟨_, by simp only [List.size_toArray]; rw [hlen]⟩, q⟩
    · subst e'
      obtain ⟨its, r', pl, hz⟩ := I.tuple hx
      have hlen := r'.length
      exact len_tuple pl (by simp only [List.size_toArray]; omega) ⟨.int xs.length, H, I.tok _, ⟨_, by simp only [List.size_toArray]; rw [hlen]⟩, q⟩
  | _ => exact (show False from e).elim
end
end L2
namespace L2
open PySem PySem.Spec PyProof.Rows
structure ObjM (h : Heap) (x dx C : Addr) (mA : Str → Option Value) : Prop where
  obj : h.get? x = some (PySem.W.instObj C dx)
  ns : h.Ns1 dx mA
  ne : dx ≠ x
section
variable {prog : Program} {w : World} {A : Around} {E : Value → Shared → Prop} {s : Shared} {K : PySem.W.Frag} {x dx C f : Addr} {mA : Str → Option Value} {name : Str} {v : Value}
end
def putF (f : Str) (v : V) : List (Str × V) → List (Str × V)
  | [] => [(f, v)]
  | (g, x) :: r => if g = f then (g, v) :: r else (g, x) :: putF f v r
section
variable {P : Program} {w : World} {H H' : Hp} {h h' : Heap} {a C dx : Addr} {fs fs' : List (Str × V)}
end
structure Cls (K : PySem.W.Frag) (C : Addr) : Prop where
  pg : PySem.W.plainGet K C Str.empty = true
  hd : PySem.W.hasDictIn K C = true
  po : PySem.W.plainOver K C = true
  sa : PySem.W.findIn K (.ref C) "__setattr__" = some (some (.builtin "object.__setattr__"))
theorem Cls.get {K : PySem.W.Frag} {C : Addr} (c : Cls K C) (f : Str) : PySem.W.plainGet K C f = true := c.pg
def NoAttr (K : PySem.W.Frag) (C : Addr) (f : Str) : Prop := PySem.W.findIn K (.ref C) f = some none
structure Con (K : PySem.W.Frag) (C : Addr) (f : Str) (v : V) (u : Value) : Prop where
  at_ : PySem.W.findIn K (.ref C) f = some (some u)
  rel : RelV v u
  get : PySem.W.specialIn K u "__get__" = some none
  cp : PySem.W.copiedNames.contains f = false
structure Meth (K : PySem.W.Frag) (C : Addr) (m : Str) (f : Addr) : Prop where
  at_ : PySem.W.findIn K (.ref C) m = some (some (.ref f))
  fn : PySem.W.isFn K (.ref f) = true
  kp : PySem.W.keepIn K (.ref f) = true
section
variable {X : Cx} {pins : List (Addr × Obj)} {σ : St} {H : Hp} {s : Shared} {a C dx : Addr} {fs : List (Str × V)} {f : Str} {v : V} {A : Around} {E : Value → Shared → Prop}
end
def tFld (K : PySem.W.Frag) (ta : TE) (f : Str) : TE := fun σ H Q => ta σ H fun x H1 => ∃ a C dx fs v, x = .ref a ∧ H1 a = some (.ins C dx fs) ∧ Cls K C ∧ NoAttr K C f ∧ fs.lookup f = some v ∧ Q v H1
def tCon (K : PySem.W.Frag) (ta : TE) (f : Str) : TE := fun σ H Q => ta σ H fun x H1 => ∃ a C dx fs v u, x = .ref a ∧ H1 a = some (.ins C dx fs) ∧ Cls K C ∧ Con K C f v u ∧ fs.lookup f = none ∧ Q v H1
def sFld (K : PySem.W.Frag) (ta tv : TE) (f : Str) : TS := fun D σ H => tv σ H fun y H1 => ta σ H1 fun x H2 => ∃ a C dx fs, x = .ref a ∧ H2 a = some (.ins C dx fs) ∧ Cls K C ∧ NoAttr K C f ∧ fs.length < 1000 ∧
  D.nx σ (upd H2 a (.ins C dx (putF f y fs)))
def InOp (X : Cx) (op : Operator) (rd : V → V → Hp → VK → Prop) : Prop :=
  ∀ (pins : List (Addr × Obj)) (s : Shared) (σ : St) (H : Hp) (x y : V) (u v : Value) (Q : VK), Inv X pins σ H s → RelV x u → RelV y v → rd x y H Q → wpAny (model X.prog X.w) X.A (inplaceOp op u v) (EP X pins σ Q) X.xe s
def sFldAug (K : PySem.W.Frag) (ta tv : TE) (rd : V → V → Hp → VK → Prop) (f : Str) : TS := fun D σ H => ta σ H fun x H1 => ∃ a C dx fs v, x = .ref a ∧ H1 a = some (.ins C dx fs) ∧ Cls K C ∧ NoAttr K C f ∧ fs.lookup f = some v ∧
  tv σ H1 fun y H2 => rd v y H2 fun z H3 => ∃ dx' fs', H3 a = some (.ins C dx' fs') ∧ fs'.length < 1000 ∧ D.nx σ (upd H3 a (.ins C dx' (putF f z fs')))
section
variable {X : Cx} {o e value : Expr} {f : Str} {pos pos' tpos : Pos} {ta tv : TE}
def rAdd : V → V → Hp → VK → Prop := fun x y H Q => ∃ i j, x = .int i ∧ y = .int j ∧ Q (.int (i + j)) H
def rSub : V → V → Hp → VK → Prop := fun x y H Q => ∃ i j, x = .int i ∧ y = .int j ∧ Q (.int (i - j)) H
end
section
variable {X : Cx} {pins : List (Addr × Obj)} {σ : St} {H : Hp} {s : Shared} {A : Around} {E : Value → Shared → Prop} {Q : Value → Shared → Prop} {c : Value} {b : Bool}
inductive TyOf (K : PySem.W.Frag) (H : Hp) : V → Value → Prop where
  | non : TyOf K H .non (.type "NoneType")
  | bl (x : Bool) : TyOf K H (.bl x) (.type "bool")
  | int (i : Int) : TyOf K H (.int i) (.type "int")
  | str (x : Str) : TyOf K H (.str x) (.type "str")
  | flt (x : UInt64) : TyOf K H (.flt x) (.type "float")
  | lst {a : Addr} {xs : List V} (e : H a = some (.lst xs)) : TyOf K H (.ref a) (.type "list")
  | frz {a : Addr} {o : Obj} {xs : List V} (e : H a = some (.frz o (.lst xs))) : TyOf K H (.ref a) (.type "list")
  | tup {a : Addr} {xs : List V} (e : H a = some (.tup xs)) : TyOf K H (.ref a) (.type "tuple")
  | dK {a : Addr} {kvs : List (Key × V)} (e : H a = some (.dK kvs)) : TyOf K H (.ref a) (.type "dict")
  | dT {a : Addr} {kvs : List (List Key × V)} (e : H a = some (.dT kvs)) : TyOf K H (.ref a) (.type "dict")
  | ins {a C dx : Addr} {fs : List (Str × V)} (e : H a = some (.ins C dx fs)) (cl : Cls K C) (ha : PySem.W.findIn K (.ref C) "__class__" = some (some (.builtin "object.__class__")))
      (hn : PySem.W.specialIn K (.builtin "object.__class__") "__get__" = some (some (.builtin "getset_descriptor.__get__"))) (htk : PySem.W.takesIn K (.builtin "object.__class__") = some true)
      (hm : PySem.W.mroIn K C (.type "object") = some true) : TyOf K H (.ref a) (.ref C)
end
end L2
namespace L2
open PySem PySem.Spec PyProof.Rows
structure Room (k : Nat) (A : Around) : Prop where
  hd : A.handled = none
  dp : A.depth + 3 * k + 5 < recursionLimit
  un : A.units + 16 * k + 200 < cLine
theorem Room.mono {j k : Nat} {A : Around} (r : Room k A) (h : j ≤ k) : Room j A := ⟨r.hd, by have := r.dp; omega, by have := r.un; omega⟩
theorem Room.deeper {k : Nat} {A : Around} (r : Room (k + 1) A) (env : Env) : Room k (A.deeper env) :=
  ⟨r.hd, by have := r.dp; show A.depth + 1 + 3 * k + 5 < _; omega, by have := r.un; show A.units + 3 + 16 * k + 200 < _; omega⟩
theorem Room.in1 {k : Nat} {A : Around} (r : Room (k + 1) A) : Room k A.in1 :=
  ⟨r.hd, by have := r.dp; show A.depth + 3 * k + 5 < _; omega, by have := r.un; show A.units + 1 + 16 * k + 200 < _; omega⟩
theorem Room.depth {k : Nat} {A : Around} (r : Room k A) : A.depth < recursionLimit := by have := r.dp; omega
theorem Room.units {k : Nat} {A : Around} (r : Room k A) : A.units + 64 < cLine := by have := r.un; omega
def tNil : TA := fun _ H Q => Q [] H
def tCons (ta : TE) (tr : TA) : TA := fun σ H Q => ta σ H fun x H1 => tr σ H1 fun xs H2 => Q (x :: xs) H2
section
variable {X : Cx} {e : Expr} {es : List Expr} {te : TE} {t : TA} {pos : Pos}
theorem pa_nil : PA X [] tNil := fun _ _ _ _ H Q I h => Calls.spliced_nil ⟨[], H, I, .nil, h⟩
theorem pa_cons (ha : PE X e te) (hr : PA X es t) (hs : starEach (e :: es) X.env = (false, eval e X.env) :: starEach es X.env := by rfl) : PA X (e :: es) (tCons te t) := by
  intro pos pins s σ H Q I h
  rw [hs]
  show wpAny _ _ (spliced ((false, eval e X.env) :: backTo pos (starEach es X.env))) _ _ s
  refine Calls.spliced_cons (thn (ha pins s σ H _ I h) fun u s1 ⟨x, H1, I1, r1, q1⟩ => ?_)
  exact thn (hr pos pins s1 σ H1 _ I1 q1) fun us s2 ⟨xs, H2, I2, r2, q2⟩ => ⟨x :: xs, H2, I2, .cons r1 r2, q2⟩
def tTup (t : TA) : TE := fun σ H Q => t σ H fun xs H1 => xs.length ≤ sizeLine ∧ ∀ p, H1 p = none → Q (.ref p) (upd H1 p (.tup xs))
def tLst (t : TA) : TE := fun σ H Q => t σ H fun xs H1 => xs.length ≤ sizeLine ∧ ∀ p, H1 p = none → Q (.ref p) (upd H1 p (.lst xs))
theorem pe_tup {x1} (h : PA X es t) : PE X (.Tuple es x1 pos) (tTup t) := by
  intro pins s σ H Q I hq
  refine wpAny_Tuple_spliced (thn (h pos pins s σ H _ I hq) fun us s1 ⟨xs, H1, I1, r, z, q⟩ => ⟨by rw [← r.length]; exact z, ?_⟩)
  have hf : H1 s1.heap.objs.size = none := I1.hok.fresh (Nat.le_refl _)
  refine ⟨.ref s1.heap.objs.size, upd H1 s1.heap.objs.size (.tup xs), I1.laid (t' := s1.toks) (fun b u e => Heap.get?_push_of_some _ e) (Nat.le_refl _) ?_, rfl, q _ hf⟩
  exact ⟨z, us, r, TupN.new _ _⟩
theorem pe_lst (h : PA X es t) : PE X (.List es pos) (tLst t) := by
  intro pins s σ H Q I hq
  refine wpAny_List_spliced (thn (h pos pins s σ H _ I hq) fun us s1 ⟨xs, H1, I1, r, z, q⟩ => ⟨by rw [← r.length]; exact z, ?_⟩)
  have hf : H1 s1.heap.objs.size = none := I1.hok.fresh (Nat.le_refl _)
  refine ⟨.ref s1.heap.objs.size, upd H1 s1.heap.objs.size (.lst xs), I1.laid (t' := s1.toks) (fun b u e => Heap.get?_push_of_some _ e) (Nat.le_refl _) ?_, rfl, q _ hf⟩
  exact ⟨z, us, 0, r, Heap.get?_push_size _ rfl⟩
end
abbrev Sp := List V → Hp → VK → XK → Prop
abbrev CXT := List Env → Hp → Shared → XK → Value → Shared → Prop
structure Env0 (P : Program) (w : World) (K : PySem.W.Frag) (mg : Str → Option Value) (base : Heap) (A : Around) (outer : List Env) (s : Shared) (H : Hp) : Prop where
  frames : A.frames = some outer
  mod : Mod K mg base
  bs : ∀ b o, base.get? b = some o → s.heap.get? b = some o ∧ H b = none
  bsz : base.objs.size ≤ s.heap.objs.size
  funs : s.heap.FunFrames base outer
  frf : ∀ b ∈ frs outer, H b = none
  hok : HOk P w H s.heap
  bare : AllBare s.gens
def CE (outer : List Env) (P : Program) (w : World) (H : Hp) (s : Shared) (Q : VK) (u : Value) (s' : Shared) : Prop :=
  ∃ v H', s'.os = s.os ∧ AllBare s'.gens ∧ Un (frs outer) [] H H' s.heap s'.heap ∧ HOk P w H' s'.heap ∧ RelV v u ∧ Q v H'
def CR (CX : CXT) (outer : List Env) (P : Program) (w : World) (H : Hp) (s : Shared) (Q : VK) (E : XK) (r : Result) (s' : Shared) : Prop :=
  match r with
  | .ok (.ret u) => CE outer P w H s Q u s'
  | .ok _ => False
  | .error e => CX outer H s E e s'
structure FnOk (P : Program) (w : World) (K : PySem.W.Frag) (mg : Str → Option Value) (base : Heap) (CX : CXT) (k : Nat) (f : Addr) (fd : FuncData) (ps : List Str) (sp : Sp) : Prop where
  len : ∀ vs H Q E, sp vs H Q E → vs.length = ps.length
  run : ∀ (A : Around) (outer : List Env) (s : Shared) (H : Hp) (args : Args) (us : List Value) (vs : List V) (Q : VK) (E : XK), Room k A → Env0 P w K mg base A outer s H → BindsTo s fd args (ps.zip us) → Vals vs us → sp vs H Q E →
    codeAny (model P w) A (.call (.ref f) args) (CR CX outer P w H s Q E) s
theorem FnOk.mono {P : Program} {w : World} {K : PySem.W.Frag} {mg : Str → Option Value} {base : Heap} {CX : CXT} {j k : Nat} {f : Addr} {fd : FuncData} {ps : List Str} {sp : Sp} (F : FnOk P w K mg base CX j f fd ps sp) (h : j ≤ k) :
    FnOk P w K mg base CX k f fd ps sp := ⟨F.len, fun A outer s H args us vs Q E hr => F.run A outer s H args us vs Q E (hr.mono h)⟩
theorem FnOk.imp {P : Program} {w : World} {K : PySem.W.Frag} {mg : Str → Option Value} {base : Heap} {CX : CXT} {k : Nat} {f : Addr} {fd : FuncData} {ps : List Str} {sp sp' : Sp} (F : FnOk P w K mg base CX k f fd ps sp)
    (h : ∀ vs H Q E, sp' vs H Q E → sp vs H Q E) : FnOk P w K mg base CX k f fd ps sp' :=
  ⟨fun vs H Q E q => F.len vs H Q E (h _ _ _ _ q), fun A outer s H args us vs Q E hr he hb hv hs => F.run A outer s H args us vs Q E hr he hb hv (h _ _ _ _ hs)⟩
theorem Env0.in1 {P : Program} {w : World} {K : PySem.W.Frag} {mg : Str → Option Value} {base : Heap} {A : Around} {outer : List Env} {s : Shared} {H : Hp} (e : Env0 P w K mg base A outer s H) :
    Env0 P w K mg base A.in1 outer s H := ⟨e.frames, e.mod, e.bs, e.bsz, e.funs, e.frf, e.hok, e.bare⟩
section
variable {X : Cx} {pins : List (Addr × Obj)} {σ : St} {H : Hp} {s s' : Shared}
theorem Inv.env0 (I : Inv X pins σ H s) : Env0 X.prog X.w X.K X.mg X.base X.A X.stack s H :=
  ⟨I.ok.frames, I.ok.mod, I.bs, Nat.le_trans I.ok.bsz I.sz, I.stack, I.stkFree, I.hok, I.bare⟩
theorem Inv.after {Q : VK} {u : Value} (I : Inv X pins σ H s) (h : CE X.stack X.prog X.w H s Q u s') : EP X pins σ Q u s' := by
  obtain ⟨v, H', os, bare, un, hok, r, q⟩ := h
  obtain ⟨hh, g, d, t, os'⟩ := s'
  obtain rfl : os' = s.os := os
  exact ⟨v, H', I.call (h' := hh) (g' := g) (d' := d) (t' := t) (ch := []) un hok bare (fun b z => absurd z (by simp)), r, q⟩
end
def tCall (sp : Sp) (dvs : List V) (E : XK) (t : TA) : TE := fun σ H Q => t σ H fun vs H1 => sp (vs ++ dvs) H1 Q E
def tMeth (C : Addr) (m : Str) (sp : Sp) (dvs : List V) (E : XK) (ta : TE) (t : TA) : TE := fun σ H Q => ta σ H fun x H1 => ∃ a dx fs, x = .ref a ∧ H1 a = some (.ins C dx fs) ∧ fs.lookup m = none ∧
  t σ H1 fun vs H2 => sp (x :: (vs ++ dvs)) H2 Q E
def tMake (C : Addr) (sp : Sp) (dvs : List V) (E : XK) (t : TA) : TE := fun σ H Q => t σ H fun vs H1 => ∀ x dx, H1 x = none → H1 dx = none → dx ≠ x →
  sp (.ref x :: (vs ++ dvs)) (upd (upd H1 dx (.own x)) x (.ins C dx [])) (fun v H2 => v = .non ∧ Q (.ref x) H2) E
def Binds (K : PySem.W.Frag) (fd : FuncData) (ps : List Str) (ds : List Value) : Prop :=
  ∀ (s : Shared) (us : List Value), K.In s.heap → (us ++ ds).length = ps.length → BindsTo s fd ⟨us, []⟩ (ps.zip (us ++ ds))
theorem Binds.all {K : PySem.W.Frag} {fd : FuncData} {ps : List Str} (h : ∀ us : List Value, us.length = ps.length → bindArgs fd ⟨us, []⟩ = pure (ps.zip us)) : Binds K fd ps [] := fun s us _ hl => by
  rw [List.append_nil] at hl ⊢
  exact .of_eq (h us hl)
def Passes (CX : CXT) (X : Cx) (E : XK) : Prop := ∀ (pins : List (Addr × Obj)) (σ : St) (H : Hp) (s : Shared) (e : Value) (s' : Shared), Inv X pins σ H s → CX X.stack H s E e s' → X.xe e s'
section
variable {X : Cx} {CX : CXT} {k : Nat} {f C : Addr} {fd : FuncData} {ps : List Str} {sp : Sp} {dvs : List V} {ds : List Value} {E : XK} {x m : Str} {p pos apos : Pos} {e o : Expr} {es : List Expr} {ta : TE} {t : TA}
theorem run_fn {pins : List (Addr × Obj)} {σ : St} {H : Hp} {s : Shared} {Q : VK} {us : List Value} {vs : List V} (F : FnOk X.prog X.w X.K X.mg X.base CX k f fd ps sp) (hr : Room k X.A) (hb : Binds X.K fd ps ds) (hd : Vals dvs ds) (hx : Passes CX X E)
    (I : Inv X pins σ H s) (r : Vals vs us) (h : sp (vs ++ dvs) H Q E) : wpAny (model X.prog X.w) X.A (call (.ref f) us) (EP X pins σ Q) X.xe s := by
  have r2 : Vals (vs ++ dvs) (us ++ ds) := r.append hd
  have hl : (us ++ ds).length = ps.length := by rw [← r2.length]; exact F.len _ _ _ _ h
  refine wpAny_call (codeAny_mono (F.run X.A X.stack s H ⟨us, []⟩ (us ++ ds) (vs ++ dvs) Q E hr I.env0 (hb s us I.kIn hl) r2 h) fun r s' hq => ?_)
  cases r with
  | error e => exact hx pins σ H s e s' I hq
  | ok fl =>
    cases fl with
    | ret u => exact I.after hq
    | next => exact False.elim hq
    | brk => exact False.elim hq
    | cont => exact False.elim hq
theorem pe_call (F : FnOk X.prog X.w X.K X.mg X.base CX k f fd ps sp) (hr : Room k X.A) (hg : Gl X x) (hm : X.mg x = some (.ref f)) (hk : PySem.W.keepIn X.K (.ref f) = true) (hb : Binds X.K fd ps ds) (hd : Vals dvs ds) (hx : Passes CX X E)
    (ha : PA X (e :: es) t) (hdb : (x == ("__debug__" : Str)) = false := by decide) (he : starEach (e :: es) X.env = (false, eval e X.env) :: starEach es X.env := by rfl) (hpl : (backTo pos (starEach es X.env)).any (·.1) = false := by rfl) :
    PE X (.Call (.Name x p) (e :: es) [] pos) (tCall sp dvs E t) := by
  intro pins s σ H Q I h
  refine wpAny_Call_Name_kw (ld_glob I hg hm ?_ hdb)
  refine PySem.W.callWith_K (h₀ := X.base) I.ok.mod.kin hk (thn (ha pos pins s σ H _ I h) fun us s1 ⟨vs, H1, I1, r, q⟩ => ⟨I1.kIn, ?_⟩) he hpl
  exact run_fn F hr hb hd hx I1 r q
structure Mk (K : PySem.W.Frag) (C f : Addr) : Prop where
  makes : PySem.W.makesIn K C = true
  init : PySem.W.findIn K (.ref C) "__init__" = some (some (.ref f))
  fn : PySem.W.isFn K (.ref f) = true
  kp : PySem.W.keepIn K (.ref C) = true
end
def PK (X : Cx) (kws : List Keyword) (t : TA) : Prop :=
  ∀ (pos : Pos) (pins : List (Addr × Obj)) (s : Shared) (σ : St) (H : Hp) (Q : List V → Hp → Prop), Inv X pins σ H s → t σ H Q → wpAny (model X.prog X.w) X.A (evalAll ((backToKw pos (keywordEach kws X.env)).map (·.2))) (AP X pins σ Q) X.xe s
section
variable {X : Cx} {CX : CXT} {k : Nat} {f C : Addr} {fd : FuncData} {ps ks : List Str} {sp : Sp} {E : XK} {x m : Str} {p pos apos kpos : Pos} {e o : Expr} {es : List Expr} {kws : List Keyword} {te ta : TE} {t tk : TA} {nm : Option Str}
structure KBinds (K : PySem.W.Frag) (fd : FuncData) (ps ks : List Str) (g : List Value → List Value → List Value) (gV : List V → List V → List V) : Prop where
  to : ∀ (s : Shared) (us ws : List Value), K.In s.heap → (g us ws).length = ps.length → BindsTo s fd ⟨us, ks.zip ws⟩ (ps.zip (g us ws))
  rel : ∀ {vs : List V} {us : List Value} {zs : List V} {ws : List Value}, Vals vs us → Vals zs ws → Vals (gV vs zs) (g us ws)
def tCallK (sp : Sp) (gV : List V → List V → List V) (E : XK) (t tk : TA) : TE := fun σ H Q => t σ H fun vs H1 => tk σ H1 fun zs H2 => sp (gV vs zs) H2 Q E
variable {g : List Value → List Value → List Value} {gV : List V → List V → List V}
end
structure FnScope (N P : List Str) (sc : Scope) : Prop where
  kind : sc.kind = .function
  co : sc.isCoroutine = false
  gen : sc.isGenerator = false
  nd : N.Nodup
  pre : N.take P.length = P
  par : ∀ x ∈ P, sc.names.lookup x = some .local ∨ sc.names.lookup x = some .cell
  nofree : ∀ y ∈ sc.names, y.2 ≠ .free
theorem bindL_out {kindOf : Str → Option NameKind} {x : Str} : ∀ {binds : List (Str × Value)} {m : Str → Option Value}, (∀ v, (x, v) ∉ binds) → bindL kindOf binds m x = m x
  | [], _, _ => rfl
  | (n, v) :: r, m, h => by
    unfold bindL
    rw [bindL_out fun w hw => h w (List.mem_cons_of_mem _ hw)]
    split
    · have : x ≠ n := by rintro rfl; exact h v List.mem_cons_self
      simp [this]
    · rfl
theorem bindC_out {kindOf : Str → Option NameKind} {x : Str} : ∀ {binds : List (Str × Value)} {m : Str → Option Value}, (∀ v, (x, v) ∉ binds) → bindC kindOf binds m x = m x
  | [], _, _ => rfl
  | (n, v) :: r, m, h => by
    unfold bindC
    rw [bindC_out fun w hw => h w (List.mem_cons_of_mem _ hw)]
    split
    · rfl
    · have : x ≠ n := by rintro rfl; exact h v List.mem_cons_self
      simp [this]
theorem bindL_get {kindOf : Str → Option NameKind} {x : Str} {v : Value} : ∀ {P : List Str} {vs : List Value} {i : Nat} {m : Str → Option Value}, P.Nodup → P[i]? = some x → vs[i]? = some v → kindOf x = some .local →
    bindL kindOf (P.zip vs) m x = some v
  | [], _, _, _, _, h, _, _ => by simp at h
  | _ :: _, [], _, _, _, _, h, _ => by simp at h
  | p :: P, w :: vs, 0, m, nd, h1, h2, hk => by
    simp at h1 h2; subst h1; subst h2
    show bindL kindOf ((p, w) :: P.zip vs) m p = _
    unfold bindL
    rw [bindL_out fun v hv => (List.nodup_cons.mp nd).1 (List.of_mem_zip hv).1, if_pos hk]
    simp
  | p :: P, w :: vs, i + 1, m, nd, h1, h2, hk => by
    show bindL kindOf ((p, w) :: P.zip vs) m x = _
    unfold bindL
    exact bindL_get (i := i) (List.nodup_cons.mp nd).2 (by simpa using h1) (by simpa using h2) hk
theorem bindC_get {kindOf : Str → Option NameKind} {x : Str} {v : Value} : ∀ {P : List Str} {vs : List Value} {i : Nat} {m : Str → Option Value}, P.Nodup → P[i]? = some x → vs[i]? = some v → kindOf x ≠ some .local →
    bindC kindOf (P.zip vs) m x = some v
  | [], _, _, _, _, h, _, _ => by simp at h
  | _ :: _, [], _, _, _, _, h, _ => by simp at h
  | p :: P, w :: vs, 0, m, nd, h1, h2, hk => by
    simp at h1 h2; subst h1; subst h2
    show bindC kindOf ((p, w) :: P.zip vs) m p = _
    unfold bindC
    rw [bindC_out fun v hv => (List.nodup_cons.mp nd).1 (List.of_mem_zip hv).1, if_neg hk]
    simp
  | p :: P, w :: vs, i + 1, m, nd, h1, h2, hk => by
    show bindC kindOf ((p, w) :: P.zip vs) m x = _
    unfold bindC
    exact bindC_get (i := i) (List.nodup_cons.mp nd).2 (by simpa using h1) (by simpa using h2) hk
def start (N : List Str) (vs : List V) : St := vs.map some ++ List.replicate (N.length - vs.length) none
def cxOf (CX : CXT) (P : Program) (w : World) (K : PySem.W.Frag) (mg : Str → Option Value) (base : Heap) (N : List Str) (qual : Str) (scope : Scope) (f : Addr) (cd : Value) (A : Around) (outer : List Env) (s : Shared) (H : Hp) (E : XK) : Cx where
  prog := P
  w := w
  K := K
  mg := mg
  base := base
  A := A.deeper (envOfC qual scope s.heap.objs.size f cd)
  N := N
  s₀ := s
  H₀ := H
  env := envOfC qual scope s.heap.objs.size f cd
  outer := outer
  stack := envOfC qual scope s.heap.objs.size f cd :: outer
  ex := []
  calm := true
  fn := fun _ => true
  pn := []
  xe := fun e s' => wpAny (model P w) (A.deeper (envOfC qual scope s.heap.objs.size f cd)) (leaving (envOfC qual scope s.heap.objs.size f cd) e) (fun _ s'' => CX outer H s E e s'') (fun e' s'' => CX outer H s E e' s'') s'
theorem cell_has {sc : Scope} {n : Nat} {x : Str} (h : sc.names.lookup x = some .cell) : ∃ c, (cellsFrom n sc.names []).lookup x = some c := by
  have q := PySem.W.cellsFrom_some sc.names n [] (.inl h)
  exact Option.isSome_iff_exists.mp q
theorem inv_start {CX : CXT} {P : Program} {w : World} {K : PySem.W.Frag} {mg : Str → Option Value} {base : Heap} {N ps : List Str} {qual : Str} {scope : Scope} {f : Addr} {cd : Value} {A : Around} {outer : List Env} {s s1 : Shared} {H : Hp} {E : XK} {us : List Value} {vs : List V}
    (S : FnScope N ps scope) (hd : A.handled = none) (e0 : Env0 P w K mg base A outer s H) (hl : vs.length = ps.length) (r : Vals vs us)
    (x : InCallC s s.heap.objs.size (bindL (envOfC qual scope s.heap.objs.size f cd).kindOf (ps.zip us) fun _ => none) (cellsFrom (s.heap.objs.size + 1) scope.names []) (bindC (envOfC qual scope s.heap.objs.size f cd).kindOf (ps.zip us) fun _ => none) s1) :
    Inv (cxOf CX P w K mg base N qual scope f cd A outer s H E) [] (start N vs) H s1 := by
  have hpl : ps.length ≤ N.length := by have := congrArg List.length S.pre; rw [List.length_take] at this; omega
  obtain ⟨h1, tk, rfl, hk⟩ := x.done
  have noA : ∀ b : Addr, b ∉ (cxOf CX P w K mg base N qual scope f cd A outer s H E).ex := fun b z => absurd (show b ∈ ([] : List Addr) from z) (by simp)
  refine ⟨⟨e0.mod, S.kind, rfl, rfl, Nat.le_refl _, fun y z c h1 h2 => ?_, fun y hy => ?_, fun y c _ h => ?_, fun _ => hd, Around.frames_deeper e0.frames, .inr ⟨rfl, rfl⟩, fun b z => absurd z (noA b), e0.bs, e0.bsz, fun b _ _ => noA b, fun b z => absurd z (noA b), e0.funs, e0.frf⟩,
    rfl, e0.bare, Un.kept hk, ⟨_, x.toInCall.ns, fun i y v h1 h2 h3 => ?_⟩, fun y c h => ⟨_, x.cell y c h⟩, e0.hok.fresh (Nat.le_refl _), fun y c h => ?_, fun p hp => absurd (show p ∈ ([] : List (Addr × Obj)) from hp) (by simp), e0.hok.kept hk, ?_⟩
  · exact name_of_addr x.apart (PySem.mem_of_lookup h1) (PySem.mem_of_lookup h2)
  · have hy : scope.names.lookup y = some .cell ∨ scope.names.lookup y = some .free := hy
    rcases hy with hy | hy
    · exact cell_has hy
    · exact absurd rfl (S.nofree _ (PySem.mem_of_lookup hy))
  · exact Nat.le_of_lt (x.above y c (PySem.mem_of_lookup h))
  · have hi : i < vs.length := by
      unfold start at h2
      by_cases hi : i < vs.length
      · exact hi
      · rw [List.getElem?_append_right (by simpa using hi)] at h2
        rw [List.getElem?_replicate] at h2
        split at h2 <;> cases h2
    have ha : vs[i]? = some v := by
      unfold start at h2
      rw [List.getElem?_append_left (by simpa using hi), List.getElem?_map] at h2
      cases e : vs[i]? with
      | none => rw [e] at h2; cases h2
      | some a => rw [e] at h2; cases h2; rfl
    obtain ⟨u, hu, rv⟩ := r.get ha
    have hp : ps[i]? = some y := by
      rw [← S.pre, List.getElem?_take_of_lt (by omega)]; exact h1
    have ndP : ps.Nodup := by rw [← S.pre]; exact S.nd.sublist (List.take_sublist _ _)
    refine ⟨u, rv, ?_⟩
    rcases S.par y (List.mem_of_getElem? hp) with k | k
    · exact .inl ⟨k, bindL_get ndP hp hu k⟩
    · obtain ⟨c, e⟩ := cell_has (n := s.heap.objs.size + 1) k
      refine .inr ⟨.inl k, c, e, ?_⟩
      have q := x.cell y c e
      rw [bindC_get ndP hp hu (by show scope.names.lookup y ≠ _; rw [k]; decide)] at q
      exact q
  · exact e0.hok.fresh (Nat.le_of_lt (x.above y c (PySem.mem_of_lookup h)))
  · unfold start
    show _ = N.length
    rw [List.length_append, List.length_map, List.length_replicate]
    omega
theorem fn_of {CX : CXT} {P : Program} {w : World} {K : PySem.W.Frag} {mg : Str → Option Value} {base : Heap} {k : Nat} {f : Addr} {name qual : Str} {params : Arguments} {body : List Stmt} {scope : Scope} {dV kV doc pm cdv ct oc : Value} {an od : Option Addr}
    {osl : Array (Option Value)} {N ps : List Str} {sp : Sp} (lk : K.lookup f = some ⟨oc, od, .func (PySem.W.fnOf name qual params body scope dV kV doc pm an cdv ct), osl⟩) (hcd : PySem.W.codeIn K cdv qual = true) (S : FnScope N ps scope)
    (len : ∀ vs H Q E, sp vs H Q E → vs.length = ps.length)
    (hbody : ∀ (A : Around) (outer : List Env) (s : Shared) (H : Hp) (vs : List V) (Q : VK) (E : XK), Room k (A.deeper (envOfC qual scope s.heap.objs.size f cdv)) → sp vs H Q E →
      ∃ t, PSs (cxOf CX P w K mg base N qual scope f cdv A outer s H E) body t ∧ t { nx := fun _ H' => Q .non H', rt := Q } (start N vs) H) :
    FnOk P w K mg base CX (k + 1) f (PySem.W.fnOf name qual params body scope dV kV doc pm an cdv ct) ps sp := by
  refine ⟨len, fun A outer s H args us vs Q E hr e0 hb r hsp => ?_⟩
  have hl := len _ _ _ _ hsp
  have KX : K.In s.heap := e0.mod.kin.keeps fun b o e => (e0.bs b o e).1
  have lim : s.heap.NoLimit := e0.mod.nolimit.keeps fun b o e => (e0.bs b o e).1
  have hkind : ∀ y ∈ ps.zip us, scope.names.lookup y.1 = some .local ∨ (scope.names.lookup y.1 = some .cell ∧ ((cellsFrom (s.heap.objs.size + 1) scope.names []).lookup y.1).isSome = true) := fun ⟨n, v⟩ hy => by
    rcases S.par n (List.of_mem_zip hy).1 with q | q
    · exact .inl q
    · exact .inr ⟨q, PySem.W.cellsFrom_some _ _ _ (.inl q)⟩
  refine codeAny_call_function hr.depth (KX _ _ lk) rfl S.co S.gen rfl (PySem.W.codeRec_of KX hcd) (hb _ _ _ _ ?_)
  refine wpAny_newFunctionEnv_cells S.kind hkind fun env he s1 x => ?_
  subst he
  refine ⟨lim.keeps x.toInCall.keep, codeAny_func ?_⟩
  obtain ⟨t, ht, hq⟩ := hbody A outer s H vs Q E (hr.deeper _) hsp
  have I : Inv (cxOf CX P w K mg base N qual scope f cdv A outer s H E) [] (start N vs) H s1 := inv_start S hr.hd e0 hl r x
  refine wpAny_mono (ht [] s1 (start N vs) H _ I hq) (fun fl s' hs => ?_) fun e s' hs => hs
  have fin : ∀ {σ' : St} {H' : Hp} {v : V} {u : Value}, Inv (cxOf CX P w K mg base N qual scope f cdv A outer s H E) [] σ' H' s' → RelV v u → Q v H' → CE outer P w H s Q u s' :=
    fun {σ' H' v u} J rv q => ⟨v, H', J.os, J.bare, J.base, J.hok, rv, q⟩
  cases fl with
  | ret u =>
    obtain ⟨v, σ', H', J, rv, q⟩ := hs
    exact fin J rv q
  | next =>
    obtain ⟨σ', H', J, q⟩ := hs
    exact fin (v := V.non) (u := Value.none) J rfl q
  | brk =>
    obtain ⟨_, _, _, q⟩ := hs
    exact False.elim q
  | cont =>
    obtain ⟨_, _, _, q⟩ := hs
    exact False.elim q
end L2
namespace L2
open PySem PySem.Spec PyProof.Rows
section
variable {X : Cx} {x : Str} {p pos : Pos} {e : Expr} {es : List Expr} {t : TA} {id T : String} {r : List V → Hp → VK → Prop}
def tCB (r : List V → Hp → VK → Prop) (t : TA) : TE := fun σ H Q => t σ H fun vs H1 => r vs H1 Q
theorem pe_callB (hc : CallR X (.builtin id) r) (hg : Gl X x) (hm : X.mg x = none) (hv : bootBuiltins x = some (.builtin id)) (ha : PA X (e :: es) t) (hn : x ≠ "__name__" := by decide) (hdb : (x == ("__debug__" : Str)) = false := by decide)
    (he : starEach (e :: es) X.env = (false, eval e X.env) :: starEach es X.env := by rfl) (hpl : (backTo pos (starEach es X.env)).any (·.1) = false := by rfl) : PE X (.Call (.Name x p) (e :: es) [] pos) (tCB r t) := by
  intro pins s σ H Q I h
  refine wpAny_Call_Name_kw (ld_blt I hg hm hv ?_ hn hdb)
  exact PyProof.Rows.callWith_builtin1 (thn (ha pos pins s σ H _ I h) fun us s1 ⟨vs, H1, I1, r1, q1⟩ => hc pins s1 σ H1 vs us Q I1 r1 q1) he hpl
theorem pe_callTy (hc : CallR X (.type T) r) (hg : Gl X x) (hm : X.mg x = none) (hv : bootBuiltins x = some (.type T)) (ha : PA X (e :: es) t) (hn : x ≠ "__name__" := by decide) (hdb : (x == ("__debug__" : Str)) = false := by decide)
    (he : starEach (e :: es) X.env = (false, eval e X.env) :: starEach es X.env := by rfl) (hpl : (backTo pos (starEach es X.env)).any (·.1) = false := by rfl) : PE X (.Call (.Name x p) (e :: es) [] pos) (tCB r t) := by
  intro pins s σ H Q I h
  refine wpAny_Call_Name_kw (ld_blt I hg hm hv ?_ hn hdb)
  exact PyProof.Rows.callWith_type1 (thn (ha pos pins s σ H _ I h) fun us s1 ⟨vs, H1, I1, r1, q1⟩ => hc pins s1 σ H1 vs us Q I1 r1 q1) he hpl
end
end L2
namespace HT
open PySem PyProof.Rows
def lexLt : List Int → List Int → Bool
  | [], [] => false
  | [], _ :: _ => true
  | _ :: _, [] => false
  | x :: xs, y :: ys => if x = y then lexLt xs ys else decide (x < y)
section
open PySem.SeqAt
open PySem.AutoSeq1 (wpAny_loadPart')
open PySem.MeetsSeq PySem.MeetsSeq2 PySem.MeetsSeq3
end
section
variable {prog : Program} {w : World} {A : Around} {E : Value → Shared → Prop} {s : Shared}
theorem cat_tup {t b : Addr} {vs ws : List Value} {Q : Value → Shared → Prop} (ht : IsTup s.heap t vs.toArray) (hb : IsTup s.heap b ws.toArray) (hv : vs ≠ [])
    (h1 : ws = [] → Q (.ref t) s) (h2 : ws ≠ [] → Q (.ref s.heap.objs.size) { s with heap := s.heap.push { cls := .type "tuple", data := .seq (vs ++ ws).toArray } })
    (hsz : vs.length + ws.length ≤ sizeLine) : wpAny (model prog w) A (binaryOp .Add (.ref t) (.ref b)) Q E s := by
  obtain ⟨⟨cls, dd, data, sl⟩, ho, hc, n, hd⟩ := id ht
  obtain ⟨⟨cls2, dd2, data2, sl2⟩, ho2, hc2, n2, hd2⟩ := id hb
  simp only at hc hd hc2 hd2
  subst hc hd hc2 hd2
  have e : vs.toArray ++ ws.toArray = (vs ++ ws).toArray := by simp
  by_cases hw : ws = []
  · exact concat_meets ⟨_, ho, rfl⟩ ⟨_, ho2, rfl⟩ noFill_tuple_add seq_tuple_add PySem.F.slot_tuple_add PySem.F.entry_tuple_add (PySem.F.args_tuple_add_2 _ _)
      (tuple_addW1 t b vs.toArray ws.toArray n n2 dd dd2 sl sl2 (by simpa using hv) (by simp [hw])) ⟨ho, ho2, h1 hw⟩
  · refine concat_meets ⟨_, ho, rfl⟩ ⟨_, ho2, rfl⟩ noFill_tuple_add seq_tuple_add PySem.F.slot_tuple_add PySem.F.entry_tuple_add (PySem.F.args_tuple_add_2 _ _)
      (tuple_addW2 t b vs.toArray ws.toArray n n2 dd dd2 sl sl2 (by simpa using hv) (by simpa using hw) (by rw [List.size_toArray, List.size_toArray]; exact hsz)) ⟨ho, ho2, ?_⟩
    rw [e]
    exact h2 hw
def sIx (n d : Nat) : Option Int → Nat
  | none => d
  | some v => if v < 0 then (v + (n : Int)).toNat else min v.toNat n
end
end HT
namespace L2
open PySem PySem.Spec PyProof.Rows
abbrev TO := St → Hp → (Option Int → Hp → Prop) → Prop
def PO (X : Cx) (e : Option Expr) (t : TO) : Prop :=
  ∀ (pins : List (Addr × Obj)) (s : Shared) (σ : St) (H : Hp) (Q : Option Int → Hp → Prop), Inv X pins σ H s → t σ H Q →
    wpAny (model X.prog X.w) X.A (evalPart e X.env) (fun u s' => ∃ o H', Inv X pins σ H' s' ∧ IsPart u o ∧ Q o H') X.xe s
def tNoPart : TO := fun _ H Q => Q none H
def tPart (t : TE) : TO := fun σ H Q => t σ H fun x H1 => ∃ i, x = .int i ∧ Q (some i) H1
section
variable {X : Cx} {e : Expr} {te : TE} {lo hi : Option Expr} {tl th : TO} {pos p2 : Pos}
theorem po_some (h : PE X e te) : PO X (some e) (tPart te) := by
  intro pins s σ H Q I hw
  rw [evalPart_some]
  refine thn (h pins s σ H _ I hw) fun u s1 ⟨x, H1, I1, r1, q1⟩ => ?_
  obtain ⟨i, rfl, q⟩ := q1
  obtain ⟨t, rfl⟩ := r1
  exact ⟨some i, H1, I1, .int i t, q⟩
def SlR (X : Cx) (r : V → Option Int → Option Int → Hp → VK → Prop) : Prop :=
  ∀ (pins : List (Addr × Obj)) (s : Shared) (σ : St) (H : Hp) (x : V) (v vl vu : Value) (lo hi : Option Int) (sl : Addr) (Q : VK), Inv X pins σ H s → RelV x v → s.heap.IsSliceOf sl vl vu .none → IsPart vl lo → IsPart vu hi → r x lo hi H Q →
    ∃ T id, typeLookup (.type T) "__getitem__" = pure (some (.builtin id)) ∧ s.TypeIs v T ∧ wpAny (model X.prog X.w) X.A (getItem v (.ref sl)) (EP X pins σ Q) X.xe s
theorem SlR.or {r r' : V → Option Int → Option Int → Hp → VK → Prop} (h : SlR X r) (h' : SlR X r') : SlR X (fun x lo hi H Q => r x lo hi H Q ∨ r' x lo hi H Q) := by
  intro pins s σ H x v vl vu lo hi sl Q I rx hs pl pu q
  rcases q with q | q
  · exact h pins s σ H x v vl vu lo hi sl Q I rx hs pl pu q
  · exact h' pins s σ H x v vl vu lo hi sl Q I rx hs pl pu q
def tSl (r : V → Option Int → Option Int → Hp → VK → Prop) (te : TE) (tl th : TO) : TE := fun σ H Q => te σ H fun x H1 => tl σ H1 fun l H2 => th σ H2 fun u H3 => r x l u H3 Q
theorem pe_slice {r : V → Option Int → Option Int → Hp → VK → Prop} (hr : SlR X r) (he : PE X e te) (hl : PO X lo tl) (hu : PO X hi th) : PE X (.Subscript e (.Slice lo hi none p2) pos) (tSl r te tl th) := by
  intro pins s σ H Q I h
  refine Subscript_ (thn (he pins s σ H _ I h) fun v s1 ⟨x, H1, I1, r1, q1⟩ => ?_)
  refine wpAny_Slice (thn (hl pins s1 σ H1 _ I1 q1) fun vl s2 ⟨l, H2, I2, pl, q2⟩ => thn (hu pins s2 σ H2 _ I2 q2) fun vu s3 ⟨u, H3, I3, pu, q3⟩ => ?_)
  rw [evalPart_none]
  refine wpAny_pure ?_
  have I4 : Inv X pins σ H3 { s3 with heap := s3.heap.push { cls := .type "slice", data := .fields #[vl, vu, .none] } } := I3.kept (t' := s3.toks) fun b ob q => Heap.get?_push_of_some _ q
  obtain ⟨T, id, hT, ht, hg⟩ := hr pins { s3 with heap := s3.heap.push { cls := .type "slice", data := .fields #[vl, vu, .none] } } σ H3 x v vl vu l u s3.heap.objs.size Q I4 r1 (Heap.IsSliceOf.new ..) pl pu q3
  show wpAny (model X.prog X.w) X.A (subscriptTail e (.Slice lo hi none p2) v (.ref s3.heap.objs.size)) (EP X pins σ Q) X.xe { s3 with heap := s3.heap.push { cls := .type "slice", data := .fields #[vl, vu, .none] } }
  exact tail_any (ops := [.ref s3.heap.objs.size, v]) ht hT hg (by with_unfolding_all rfl)
def cutV (xs : List V) (lo hi : Option Int) : List V := (xs.drop (HT.sIx xs.length 0 lo)).take (HT.sIx xs.length xs.length hi - HT.sIx xs.length 0 lo)
theorem cutV_length (xs : List V) (lo hi : Option Int) : (cutV xs lo hi).length ≤ xs.length := by
  unfold cutV
  rw [List.length_take, List.length_drop]
  omega
def rSlT (K : PySem.W.Frag) : V → Option Int → Option Int → Hp → VK → Prop := fun x lo hi H Q => ∃ a xs, x = .ref a ∧ SqT K H a xs ∧
  ¬ (HT.sIx xs.length 0 lo = 0 ∧ HT.sIx xs.length xs.length hi = xs.length) ∧ ∀ p, H p = none → Q (.ref p) (upd H p (.tup (cutV xs lo hi)))
def rLtT (K : PySem.W.Frag) : R2 := fun x y H Q => ∃ a b ns ms, x = .ref a ∧ y = .ref b ∧ SqT K H a (ns.map V.int) ∧ SqT K H b (ms.map V.int) ∧ Q (.bl (HT.lexLt ns ms)) H
def rCatT (K : PySem.W.Frag) : R2 := fun x y H Q => ∃ a b xs ys, x = .ref a ∧ y = .ref b ∧ SqT K H a xs ∧ SqT K H b ys ∧ xs ≠ [] ∧ xs.length + ys.length ≤ sizeLine ∧
  (ys = [] → Q (.ref a) H) ∧ (ys ≠ [] → ∀ p, H p = none → Q (.ref p) (upd H p (.tup (xs ++ ys))))
theorem Vals.nil_iff {xs : List V} {us : List Value} (r : Vals xs us) : us = [] ↔ xs = [] := by
  cases r with
  | nil => simp
  | cons _ _ => simp
theorem op_catT : OpR X (binaryOp .Add) (rCatT X.K) := by
  intro pins s σ H x y v u Q I rx ry h
  obtain ⟨a, b, xs, ys, rfl, rfl, ha, hb, hx, hz, q1, q2⟩ := h
  cases rx
  cases ry
  obtain ⟨its, r1, p1, _⟩ := I.tuple ha
  obtain ⟨its2, r2, p2, _⟩ := I.tuple hb
  refine HT.cat_tup p1 p2 (fun z => hx (r1.nil_iff.mp z)) (fun z => ⟨.ref a, H, I, rfl, q1 (r2.nil_iff.mp z)⟩) (fun z => ?_) (by rw [← r1.length, ← r2.length]; exact hz)
  refine ⟨.ref s.heap.objs.size, _, I.laid (t' := s.toks) (o := .tup (xs ++ ys)) (fun b ob q => Heap.get?_push_of_some _ q) (Nat.le_refl _) ?_, rfl, q2 (fun w => z (r2.nil_iff.mpr w)) _ (I.hok.fresh (Nat.le_refl _))⟩
  exact ⟨by rw [List.length_append]; exact hz, _, r1.append r2, TupN.new _ _⟩
end
end L2
namespace L2
open PySem PySem.Spec PyProof.Rows
def ixN (n : Nat) (i : Int) : Option Nat := if 0 ≤ i then (if i < n then some i.toNat else none) else if -(n : Int) ≤ i then some (i + n).toNat else none
def atI {α : Type} (xs : List α) (i : Int) : Option α := (ixN xs.length i).bind fun j => xs[j]?
theorem ixN_seq {n : Nat} {i : Int} {j : Nat} (h : ixN n i = some j) : seqIndex? i n = some j ∧ j < n ∧ -(n : Int) ≤ i ∧ i < n := by
  unfold ixN at h
  by_cases h0 : 0 ≤ i
  · rw [if_pos h0] at h
    by_cases h1 : i < n
    · rw [if_pos h1] at h
      have e : i.toNat = j := Option.some.inj h
      exact ⟨by rw [seqIndex_of h0 h1, e], by omega, by omega, h1⟩
    · rw [if_neg h1] at h; cases h
  · rw [if_neg h0] at h
    by_cases h1 : -(n : Int) ≤ i
    · rw [if_pos h1] at h
      have e : (i + n).toNat = j := Option.some.inj h
      exact ⟨by rw [seqIndex_neg (by omega) h1, e], by omega, h1, by omega⟩
    · rw [if_neg h1] at h; cases h
theorem atI_get {α : Type} {xs : List α} {i : Int} {v : α} (h : atI xs i = some v) : ∃ j, seqIndex? i xs.length = some j ∧ xs[j]? = some v ∧ j < xs.length ∧ -(xs.length : Int) ≤ i ∧ i < xs.length := by
  unfold atI at h
  cases e : ixN xs.length i with
  | none => rw [e] at h; cases h
  | some j =>
    rw [e] at h
    obtain ⟨h1, h2, h3, h4⟩ := ixN_seq e
    exact ⟨j, h1, h, h2, h3, h4⟩
def PlainIx (b : Expr) : Prop := ∀ o i, subscripted b false o i = operate [o, i] (getItem o i)
def IxR (X : Cx) (r : R2) : Prop :=
  ∀ (value slice : Expr) (pins : List (Addr × Obj)) (s : Shared) (σ : St) (H : Hp) (x y : V) (v u : Value) (Q : VK), Inv X pins σ H s → RelV x v → RelV y u → r x y H Q →
    subscripted slice false v u = operate [v, u] (getItem v u) → wpAny (model X.prog X.w) X.A (subscriptTail value slice v u) (EP X pins σ Q) X.xe s
def MtR (X : Cx) (id : String) (r : V → List V → Hp → VK → Prop) : Prop :=
  ∀ (pins : List (Addr × Obj)) (s : Shared) (σ : St) (H : Hp) (x : V) (xs : List V) (v : Value) (us : List Value) (Q : VK), Inv X pins σ H s → RelV x v → Vals xs us → r x xs H Q →
    wpAny (model X.prog X.w) X.A (call (.builtin id) (v :: us)) (EP X pins σ Q) X.xe s
section
variable {X : Cx} {a b : Expr} {ta tb : TE} {pos : Pos}
theorem IxR.or {r r' : R2} (h : IxR X r) (h' : IxR X r') : IxR X (fun x y H Q => r x y H Q ∨ r' x y H Q) := by
  intro value slice pins s σ H x y v u Q I rx ry q hs
  rcases q with q | q
  · exact h value slice pins s σ H x y v u Q I rx ry q hs
  · exact h' value slice pins s σ H x y v u Q I rx ry q hs
theorem MtR.or {id : String} {r r' : V → List V → Hp → VK → Prop} (h : MtR X id r) (h' : MtR X id r') : MtR X id (fun x xs H Q => r x xs H Q ∨ r' x xs H Q) := by
  intro pins s σ H x xs v us Q I rx rs q
  rcases q with q | q
  · exact h pins s σ H x xs v us Q I rx rs q
  · exact h' pins s σ H x xs v us Q I rx rs q
theorem pe_ix {r : R2} (hr : IxR X r) (ha : PE X a ta) (hb : PE X b tb) (hs : PlainIx b) : PE X (.Subscript a b pos) (tOp r ta tb) := by
  intro pins s σ H Q I h
  exact Subscript_ (binT ha hb I h fun v u s2 x y H2 I2 rx ry q => hr a b pins s2 σ H2 x y v u Q I2 rx ry q (hs _ _))
def rIxL (K : PySem.W.Frag) : R2 := fun x y H Q => ∃ p xs i v, x = .ref p ∧ y = .int i ∧ SqL K H p xs ∧ atI xs i = some v ∧ Q v H
def rIxT (K : PySem.W.Frag) : R2 := fun x y H Q => ∃ p xs i v, x = .ref p ∧ y = .int i ∧ SqT K H p xs ∧ atI xs i = some v ∧ Q v H
def rIxS : R2 := fun x y H Q => ∃ z i c, x = .str z ∧ y = .int i ∧ z.length ≤ sizeLine ∧ atI z.cps.toList i = some c ∧ Q (.str ⟨#[c]⟩) H
theorem ix_list : IxR X (rIxL X.K) := by
  intro value slice pins s σ H x y v u Q I rx ry h hs
  obtain ⟨p, xs, i, z, rfl, rfl, hq, he, q⟩ := h
  cases rx
  obtain ⟨t, rfl⟩ := ry
  obtain ⟨its, r, pl, hz⟩ := I.list hq
  obtain ⟨j, h1, h2, h3, h4, h5⟩ := atI_get he
  obtain ⟨w, ew, rw'⟩ := r.get h2
  have hl := r.length
  have hn := line63
  have fin : EP X pins σ Q w s := ⟨z, H, I, rw', q⟩
  by_cases h0 : 0 ≤ i
  · have hj : i.toNat = j := by
      rw [seqIndex_of h0 h5] at h1
      exact Option.some.inj h1
    exact item_listR pl.isList h0 (by omega) (by rw [hj]; simpa using ew) fin hs
  · have hj : (i + (its.toArray.size : Int)).toNat = j := by
      rw [seqIndex_neg (by omega) h4] at h1
      rw [List.size_toArray, ← hl]
      exact Option.some.inj h1
    exact subscriptTail_builtinR (x := w) pl.isList.typeIs slot_list_getitem.lookup
      (wpAny_getItem_list_neg (Q := fun r s' => r = w ∧ EP X pins σ Q r s') pl.isList (by omega) (by rw [List.size_toArray] <;> omega) (by omega) (by rw [hj]; simpa using ew) ⟨rfl, fin⟩) hs
theorem ix_tup : IxR X (rIxT X.K) := by
  intro value slice pins s σ H x y v u Q I rx ry h hs
  obtain ⟨p, xs, i, z, rfl, rfl, hq, he, q⟩ := h
  cases rx
  obtain ⟨t, rfl⟩ := ry
  obtain ⟨its, r, pl, hz⟩ := I.tuple hq
  obtain ⟨j, h1, h2, h3, h4, h5⟩ := atI_get he
  obtain ⟨w, ew, rw'⟩ := r.get h2
  have hl := r.length
  have hn := line63
  have fin : EP X pins σ Q w s := ⟨z, H, I, rw', q⟩
  exact subscriptTail_builtinR (x := w) pl.typeIs slot_tuple_getitem.lookup
    (getItem_tuple (j := j) (Q := fun r s' => r = w ∧ EP X pins σ Q r s') pl (by omega) (by omega) (by rw [List.size_toArray, ← hl]; exact h1) (by simpa using ew) ⟨rfl, fin⟩) hs
theorem ix_str : IxR X rIxS := by
  intro value slice pins s σ H x y v u Q I rx ry h hs
  obtain ⟨z, i, c, rfl, rfl, hz, he, q⟩ := h
  obtain ⟨t, rfl⟩ := rx
  obtain ⟨t', rfl⟩ := ry
  obtain ⟨j, h1, h2, h3, h4, h5⟩ := atI_get he
  have hl : z.cps.toList.length = z.length := by simp [Str.length]
  rw [hl] at h1 h4 h5
  have hn := line63
  exact tail_any (typeIs_str s z t) slot_str_getitem.lookup (getItem_str (c := c) (by
    have e1 : decide (i < -(2 ^ 63 : Int)) = false := decide_eq_false (by omega)
    have e2 : decide (i ≥ 2 ^ 63) = false := decide_eq_false (by omega)
    rw [e1, e2, Bool.or_false]) (by rw [h1]; simpa using h2) ⟨.str ⟨#[c]⟩, H, I.tok _, ⟨_, rfl⟩, q⟩) hs
def rIx (K : PySem.W.Frag) : R2 := fun x y H Q => rIxL K x y H Q ∨ rIxT K x y H Q ∨ rIxS x y H Q
theorem ix_seq : IxR X (rIx X.K) := ix_list.or (ix_tup.or ix_str)
theorem Inv.lst {pins : List (Addr × Obj)} {σ : St} {H : Hp} {s : Shared} {p : Addr} {xs : List V} (I : Inv X pins σ H s) (h : H p = some (.lst xs)) :
    ∃ (its : List Value) (n : Nat), Vals xs its ∧ s.heap.get? p = some { cls := .type "list", data := .seq its.toArray n } ∧ xs.length ≤ sizeLine := by
  obtain ⟨z, its, n, r, e⟩ := I.hok p _ h
  exact ⟨its, n, r, e, z⟩
def rSetL : V → V → V → Hp → (Hp → Prop) → Prop := fun o i v H Q => ∃ p xs k j, o = .ref p ∧ i = .int k ∧ H p = some (.lst xs) ∧ ixN xs.length k = some j ∧ Q (upd H p (.lst (xs.set j v)))
theorem slice_bounds (lo hi : Option Int) (n : Nat) : (sliceBounds lo hi none n).1 = ((HT.sIx n 0 lo : Nat) : Int) ∧ (sliceBounds lo hi none n).2.1 = ((HT.sIx n n hi : Nat) : Int) ∧ (sliceBounds lo hi none n).2.2 = 1 := by
  refine ⟨?_, ?_, rfl⟩
  · cases lo with
    | none => simp [sliceBounds, HT.sIx]
    | some i =>
      simp only [sliceBounds, HT.sIx, Option.getD_none, show (1 : Int) > 0 by decide, if_true]
      by_cases h : i < 0
      · simp only [h, if_true] <;> omega
      · simp only [h, if_false] <;> omega
  · cases hi with
    | none => simp [sliceBounds, HT.sIx]
    | some i =>
      simp only [sliceBounds, HT.sIx, Option.getD_none, show (1 : Int) > 0 by decide, if_true]
      by_cases h : i < 0
      · simp only [h, if_true] <;> omega
      · simp only [h, if_false] <;> omega
theorem slicePick_cut (its : List Value) (lo hi : Option Int) : slicePick its.toArray lo hi none = ((its.drop (HT.sIx its.length 0 lo)).take (HT.sIx its.length its.length hi - HT.sIx its.length 0 lo)).toArray := by
  obtain ⟨h1, h2, h3⟩ := slice_bounds lo hi its.toArray.size
  unfold slicePick
  rw [h1, h2, h3]
  simp only [sliceRange_one, pick_run, List.size_toArray] <;> rfl
def rSlL (K : PySem.W.Frag) : V → Option Int → Option Int → Hp → VK → Prop := fun x lo hi H Q => ∃ a xs, x = .ref a ∧ SqL K H a xs ∧ ∀ p, H p = none → Q (.ref p) (upd H p (.lst (cutV xs lo hi)))
theorem sl_list : SlR X (rSlL X.K) := by
  intro pins s σ H x v vl vu lo hi sl Q I rx hs pl pu h
  obtain ⟨a, xs, rfl, hx, q⟩ := h
  cases rx
  obtain ⟨its, r, ht, hz⟩ := I.list hx
  have hlen := r.length
  refine ⟨"list", _, slot_list_getitem.lookup, ht.isList.typeIs, ?_⟩
  refine wpAny_getItem_list_slice ht.isList hs pl pu .none (by simp) ?_ (by rw [List.size_toArray] <;> omega)
  rw [slicePick_cut, ← hlen]
  refine ⟨.ref s.heap.objs.size, _, I.laid (t' := s.toks) (o := .lst (cutV xs lo hi)) (fun b ob q => Heap.get?_push_of_some _ q) (Nat.le_refl _) ?_, rfl, q _ (I.hok.fresh (Nat.le_refl _))⟩
  exact ⟨Nat.le_trans (cutV_length xs lo hi) hz, _, 0, (r.drop (HT.sIx xs.length 0 lo)).take (HT.sIx xs.length xs.length hi - HT.sIx xs.length 0 lo), Heap.get?_push_size _ rfl⟩
def flatV : V → Bool
  | .non => true
  | .bl _ => true
  | .int _ => true
  | .str _ => true
  | _ => false
def eqV : V → V → Bool
  | .non, .non => true
  | .bl a, .bl b => a == b
  | .bl a, .int b => (if a then 1 else 0) == b
  | .int a, .bl b => a == (if b then 1 else 0)
  | .int a, .int b => a == b
  | .str a, .str b => a == b
  | _, _ => false
def eqU (x : V) (u : Value) : Bool := match u with
  | .none => eqV .non x
  | .bool b => eqV (.bl b) x
  | .int i _ => eqV (.int i) x
  | .str z _ => eqV (.str z) x
  | _ => false
def inV (x : V) (xs : List V) : Bool := xs.any fun y => eqV y x
def rIn (K : PySem.W.Frag) (neg : Bool) : R2 := fun x y H Q => ∃ p xs, y = .ref p ∧ (SqL K H p xs ∨ SqT K H p xs) ∧ flatV x = true ∧ xs.all flatV = true ∧ Q (.bl (if neg then !inV x xs else inV x xs)) H
theorem CallR.or {f : Value} {r r' : List V → Hp → VK → Prop} (h : CallR X f r) (h' : CallR X f r') : CallR X f (fun xs H Q => r xs H Q ∨ r' xs H Q) := by
  intro pins s σ H xs us Q I rs q
  rcases q with q | q
  · exact h pins s σ H xs us Q I rs q
  · exact h' pins s σ H xs us Q I rs q
theorem call_tuple_of : CallR X (.type "tuple") (fun xs H Q => ∃ p ys, xs = [.ref p] ∧ ((SqL X.K H p ys ∧ ∀ l, H l = none → Q (.ref l) (upd H l (.tup ys))) ∨ (SqT X.K H p ys ∧ Q (.ref p) H))) := by
  intro pins s σ H xs us Q I r h
  obtain ⟨p, ys, rfl, h⟩ := h
  obtain ⟨u, rfl, rx⟩ := vals1 r
  cases rx
  rcases h with ⟨hq, q⟩ | ⟨hq, q⟩
  · obtain ⟨its, r', pl, hz⟩ := I.list hq
    have hlen := r'.length
    refine call_tuple_list pl.isList (fun h' kp => ?_) (by simp only [List.size_toArray] <;> omega)
    have I1 : Inv X pins σ H { s with heap := h' } := I.kept (t' := s.toks) kp
    have I2 : Inv X pins σ (upd H h'.objs.size (.tup ys)) { s with heap := h'.push { cls := .type "tuple", data := .seq its.toArray } } :=
      I1.laid (t' := s.toks) (fun b o e => Heap.get?_push_of_some _ e) (Nat.le_refl _) (show ObjOk X.prog X.w _ _ _ (.tup ys) from ⟨hz, its, r', TupN.new _ _⟩)
    exact ⟨.ref h'.objs.size, _, I2, rfl, q _ (I1.hok.fresh (Nat.le_refl _))⟩
  · obtain ⟨its, r', pl, hz⟩ := I.tuple hq
    exact call_tuple_same pl ⟨.ref p, H, I, rfl, q⟩
def tyV (K : PySem.W.Frag) (T : String) (x : V) (H : Hp) : Prop := match x with
  | .str _ => T = "str"
  | .int _ => T = "int"
  | .ref p => (T = "list" ∧ ∃ xs, SqL K H p xs) ∨ (T = "tuple" ∧ ∃ o, K.lookup p = some o ∧ o.cls = .type "tuple" ∧ o.dict = none) ∨
      (T = "dict" ∧ ((∃ kvs, H p = some (.dK kvs)) ∨ ∃ kvs, H p = some (.dT kvs))) ∨ (T = "set" ∧ ∃ S n, H p = some (.set S n))
  | _ => False
theorem tyV_is {pins : List (Addr × Obj)} {σ : St} {H : Hp} {s : Shared} {T : String} {x : V} {v : Value} (I : Inv X pins σ H s) (r : RelV x v) (ty : tyV X.K T x H) :
    s.TypeIs v T ∧ ∀ a, v = .ref a → ∃ ob, s.heap.get? a = some ob ∧ ob.dict = none := by
  cases x with
  | str z =>
    obtain ⟨t, rfl⟩ := r
    cases (show T = "str" from ty)
    exact ⟨typeIs_str s z t, fun _ e => nomatch e⟩
  | int i =>
    obtain ⟨t, rfl⟩ := r
    cases (show T = "int" from ty)
    exact ⟨typeIs_int s i t, fun _ e => nomatch e⟩
  | ref p =>
    cases r
    rcases ty with ⟨rfl, xs, hq⟩ | ⟨rfl, o, hk, hc, hd⟩ | ⟨rfl, hk⟩ | ⟨rfl, S, n, hk⟩
    · obtain ⟨its, _, pl, _⟩ := I.list hq
      refine ⟨pl.isList.typeIs, fun a e => ?_⟩
      cases e
      obtain ⟨o, n, e, c, hd, _⟩ := pl
      exact ⟨o, e, hd⟩
    · refine ⟨⟨o, I.kIn p o hk, hc⟩, fun a e => ?_⟩
      cases e
      exact ⟨o, I.kIn _ o hk, hd⟩
    · have z : ∃ o, s.heap.get? p = some o ∧ o.ExactDict := by
        rcases hk with ⟨kvs, hk⟩ | ⟨kvs, hk⟩
        · obtain ⟨_, _, _, _, o, _, _, e, ex, _⟩ := I.hok p _ hk
          exact ⟨o, e, ex⟩
        · obtain ⟨_, _, _, _, o, _, _, e, ex, _⟩ := I.hok p _ hk
          exact ⟨o, e, ex⟩
      obtain ⟨o, e, ex⟩ := z
      refine ⟨⟨o, e, ex.1⟩, fun a e2 => ?_⟩
      cases e2
      exact ⟨o, e, ex.2.1⟩
    · obtain ⟨o, _, _, _, e, ex, _⟩ := I.hok p _ hk
      refine ⟨⟨o, e, ex.1⟩, fun a e2 => ?_⟩
      cases e2
      exact ⟨o, e, ex.2.1⟩
  | _ => exact False.elim ty
def tBM0 (K : PySem.W.Frag) (T : String) (r : V → List V → Hp → VK → Prop) (to : TE) : TE := fun σ H Q => to σ H fun x H1 => tyV K T x H1 ∧ r x [] H1 Q
def tBM (K : PySem.W.Frag) (T : String) (r : V → List V → Hp → VK → Prop) (to : TE) (t : TA) : TE := fun σ H Q => to σ H fun x H1 => tyV K T x H1 ∧ t σ H1 fun xs H2 => r x xs H2 Q
variable {o e : Expr} {es : List Expr} {to : TE} {t : TA} {name : Str} {apos cpos : Pos} {T id : String} {r : V → List V → Hp → VK → Prop}
theorem pe_bm (pa : PlainAttrs T) (slot : Slot T name id) (hty : typeOf (.builtin id) = pure (.type "method_descriptor")) (hm : MtR X id r) (ho : PE X o to) (ha : PA X (e :: es) t)
    (hbase : attributeBase o name X.env (eval o X.env) = eval o X.env := by rfl)
    (hfew : ((backTo cpos (starEach (e :: es) X.env)).all (fun x => !x.1) && (backToKw cpos (keywordEach [] X.env)).all (fun x => x.1.isSome)
      && decide ((e :: es).length + ([] : List Keyword).length + (if ([] : List Keyword).isEmpty then 0 else 1) < 30)) = true := by rfl)
    (hline : (apos.endLine == cpos.line) = true := by rfl) (hs : starEach (e :: es) X.env = (false, eval e X.env) :: starEach es X.env := by rfl) (hplain : (backTo cpos (starEach es X.env)).any (·.1) = false := by rfl) :
    PE X (.Call (.Attribute o name apos) (e :: es) [] cpos) (tBM X.K T r to t) := by
  intro pins s σ H Q I h
  refine wpAny_Call_method_late hbase hfew hline rfl (thn (ho pins s σ H _ I h) fun v s1 ⟨x, H1, I1, r1, ty, q1⟩ => ?_)
  obtain ⟨h1, h2⟩ := tyV_is I1 r1 ty
  refine ⟨T, id, pa, slot, hty, h1, h2, ?_⟩
  have hA := ha cpos pins s1 σ H1 _ I1 q1
  rw [hs] at hA ⊢
  refine Calls.callWith_builtin (by show (false || (backTo cpos (starEach es X.env)).any (·.1)) = false; rw [hplain] <;> rfl) (Calls.evalArgs_plain ?_)
  exact thn hA fun us s2 ⟨vs, H2, I2, r2, q2⟩ => hm pins s2 σ H2 x vs v us Q I2 r1 r2 q2
/- xs.append(e), list.index on a module's tuple .. are MtR facts of 06m -/
end
end L2
namespace L2
open PySem PySem.Spec PyProof.Rows
def MtM (X : Cx) (id : String) (r : V → List V → Hp → VK → Prop) : Prop :=
  ∀ (pins : List (Addr × Obj)) (s : Shared) (σ : St) (H : Hp) (x : V) (xs : List V) (v : Value) (us : List Value) (Q : VK), Inv X pins σ H s → RelV x v → Vals xs us → r x xs H Q →
    wpAny (model X.prog X.w) X.A (call (.builtin id) (v :: us)) (EP X pins σ Q) X.xe s
theorem Vals.one : ∀ {x : V} {us : List Value}, Vals [x] us → ∃ u, us = [u] ∧ RelV x u
  | _, _, .cons r .nil => ⟨_, rfl, r⟩
theorem Vals.two : ∀ {x y : V} {us : List Value}, Vals [x, y] us → ∃ u v, us = [u, v] ∧ RelV x u ∧ RelV y v
  | _, _, _, .cons r (.cons q .nil) => ⟨_, _, rfl, r, q⟩
theorem Vals.zero : ∀ {us : List Value}, Vals [] us → us = []
  | _, .nil => rfl
theorem Vals.dropLast {xs : List V} {us : List Value} (h : Vals xs us) : Vals xs.dropLast us.dropLast := by
  induction h with
  | nil => exact .nil
  | cons r t ih =>
    cases t with
    | nil => exact .nil
    | cons q t' => exact .cons r ih
theorem Vals.eraseIdx : ∀ {xs : List V} {us : List Value} (i : Nat), Vals xs us → Vals (xs.eraseIdx i) (us.eraseIdx i)
  | _, _, _, .nil => .nil
  | _, _, 0, .cons _ t => t
  | _, _, i + 1, .cons r t => .cons r (Vals.eraseIdx i t)
theorem Vals.reverse {xs : List V} {us : List Value} (h : Vals xs us) : Vals xs.reverse us.reverse := by
  induction h with
  | nil => exact .nil
  | cons r t ih => rw [List.reverse_cons, List.reverse_cons]; exact Vals.append ih (.cons r .nil)
section
variable {X : Cx} {pins : List (Addr × Obj)} {σ : St} {H : Hp} {s : Shared} {l b : Addr} {xs ys zs : List V}
theorem Inv.lset {its its' : List Value} {n : Nat} {f : Array Value → Array Value} {t' : Nat} (I : Inv X pins σ H s) (hH : H l = some (.lst xs))
    (e : s.heap.get? l = some { cls := .type "list", data := .seq its.toArray n }) (hf : f its.toArray = its'.toArray) (hv : Vals ys its') (hz : ys.length ≤ sizeLine) :
    Inv X pins σ (upd H l (.lst ys)) { s with heap := s.heap.update l (Obj.mapSeq f), toks := t' } := by
  have q := PySem.IsL.update e f
  rw [hf] at q
  refine I.write (x := l) (e := l) (by rw [hH]; exact trivial) (.inl rfl) (fun b' u hb hu => (Heap.get?_update_other s.heap (Obj.mapSeq f) (Ne.symm hb)).trans hu) ⟨_, q⟩ ?_
  exact ⟨hz, its', _, hv, q⟩
theorem Inv.lnew {its : List Value} {t' : Nat} (I : Inv X pins σ H s) (hv : Vals ys its) (hz : ys.length ≤ sizeLine) :
    Inv X pins σ (upd H s.heap.objs.size (.lst ys)) { s with heap := s.heap.push { cls := .type "list", data := .seq its.toArray }, toks := t' } :=
  I.laid (fun _ _ q => Heap.get?_push_of_some _ q) (Nat.le_refl _) ⟨hz, its, 0, hv, Heap.get?_push_size _ rfl⟩
theorem Inv.fresh (I : Inv X pins σ H s) : H s.heap.objs.size = none := I.hok.fresh (Nat.le_refl _)
theorem Inv.lstM (I : Inv X pins σ H s) (hH : H l = some (.lst xs)) : xs.length ≤ sizeLine ∧ ∃ (its : List Value) (n : Nat), Vals xs its ∧ xs.length = its.length ∧ s.heap.get? l = some { cls := .type "list", data := .seq its.toArray n } := by
  obtain ⟨z, its, n, r, e⟩ := I.hok l _ hH
  exact ⟨z, its, n, r, r.length, e⟩
end
section
variable {X : Cx}
def rAppend : V → List V → Hp → VK → Prop := fun x vs H Q => ∃ l xs y, x = .ref l ∧ vs = [y] ∧ H l = some (.lst xs) ∧ xs.length < sizeLine ∧ Q .non (upd H l (.lst (xs ++ [y])))
theorem mt_append : MtM X "list.append" rAppend := by
  intro pins s σ H x vs v us Q I rx rv h
  obtain ⟨l, xs, y, rfl, rfl, hH, hz, q⟩ := h
  cases rx
  obtain ⟨u, rfl, ru⟩ := rv.one
  obtain ⟨z, its, n, r, hl, e⟩ := I.lstM hH
  refine call_meets F.slot_list_append ⟨_, e, rfl⟩ F.entry_list_append (F.args_list_append_2 _ _) (PySem.list_append l its.toArray n u (by rw [List.size_toArray]; omega)) ⟨e, ?_⟩
  refine ⟨.non, _, I.lset (its' := its ++ [u]) hH e (by simp) (r.append (.cons ru .nil)) ?_, rfl, q⟩
  rw [List.length_append, List.length_singleton]
  omega
def rExtend : V → List V → Hp → VK → Prop := fun x vs H Q => ∃ l b xs zs, x = .ref l ∧ vs = [.ref b] ∧ H l = some (.lst xs) ∧ H b = some (.lst zs) ∧ xs.length + zs.length ≤ sizeLine ∧ Q .non (upd H l (.lst (xs ++ zs)))
def rPop : V → List V → Hp → VK → Prop := fun x vs H Q => ∃ l xs y, x = .ref l ∧ vs = [] ∧ H l = some (.lst xs) ∧ xs[xs.length - 1]? = some y ∧ Q y (upd H l (.lst xs.dropLast))
def rPopAt : V → List V → Hp → VK → Prop := fun x vs H Q => ∃ l xs i k y, x = .ref l ∧ vs = [.int i] ∧ H l = some (.lst xs) ∧ -(2 ^ 63) ≤ i ∧ i < 2 ^ 63 ∧ seqIndex? i xs.length = some k ∧ xs[k]? = some y ∧ Q y (upd H l (.lst (xs.eraseIdx k)))
def rReverse : V → List V → Hp → VK → Prop := fun x vs H Q => ∃ l xs, x = .ref l ∧ vs = [] ∧ H l = some (.lst xs) ∧ Q .non (upd H l (.lst xs.reverse))
def rClear : V → List V → Hp → VK → Prop := fun x vs H Q => ∃ l xs, x = .ref l ∧ vs = [] ∧ H l = some (.lst xs) ∧ Q .non (upd H l (.lst []))
def rCat : R2 := fun x y H Q => ∃ l b xs zs, x = .ref l ∧ y = .ref b ∧ H l = some (.lst xs) ∧ H b = some (.lst zs) ∧ xs.length + zs.length ≤ sizeLine ∧ ∀ p, H p = none → Q (.ref p) (upd H p (.lst (xs ++ zs)))
def rRep : R2 := fun x y H Q => ∃ l k xs, x = .ref l ∧ y = .int k ∧ H l = some (.lst xs) ∧ -(2 ^ 63) ≤ k ∧ k < 2 ^ 63 ∧ xs.length * k.toNat ≤ sizeLine ∧
  ∀ p, H p = none → Q (.ref p) (upd H p (.lst (List.replicate k.toNat xs).flatten))
end
section
variable {prog : Program} {w : World} {A : Around} {E : Value → Shared → Prop} {s : Shared}
set_option maxRecDepth 100000 in
end
section
variable {X : Cx}
end
end L2
namespace Att
open PySem PySem.W PySem.Calls PyProof.Rows
theorem ints_of_wellAll {P : Params} {h : Heap} : ∀ (ns : List Int) (vs : List Value), WellAll P h vs (ns.map WData.int) → IntsAre vs ns := by
  intro ns
  induction ns with
  | nil =>
    intro vs w
    rw [List.map_nil] at w
    cases w
    exact .nil
  | cons n ns ih =>
    intro vs w
    rw [List.map_cons] at w
    cases w with
    | cons a b =>
      cases a
      exact .cons _ _ (ih _ b)
theorem script_of {l : OpenLaw} {n : Nat} (hn : l.most = some n) {P : Params} {h : Heap} {args : List WData} {vals : List Value}
    (hpre : l.row.toRowW.claim.pre args = true) (hwl : WellAll P h vals args) :
    ∃ a vs ns, vals = [Value.ref a] ∧ args = [WData.list (ns.map WData.int)] ∧ h.get? a = some { cls := .type "list", data := .seq vs.toArray } ∧ IntsAre vs ns ∧ ns.length ≤ n := by
  have hsh : WShape.hasAll [] args [.list .int] = true := (pre_splitW hpre).1
  have hc : l.pre.holds [] { args := args } = true := (pre_splitW hpre).2
  obtain ⟨d, r, rfl, h1, h2⟩ := hasAllW_cons hsh
  obtain rfl := hasAllW_nil h2
  obtain ⟨xs, rfl, h3⟩ := hasW_list h1
  obtain ⟨ns, rfl⟩ := items_int h3
  have hlen : ns.length ≤ n := by
    unfold OpenLaw.pre at hc
    have h4 : (WTm.not (.lt (.lit (.int (n : Int))) (.len (.arg 0)))).holds [] { args := [.list (ns.map .int)] } = true := by
      have h4 := (holds_andW hc).1
      rw [hn] at h4
      exact h4
    have h5 := condW_of h4 (w_not (w_lt w_lit (w_len_list (w_arg rfl))))
    rw [List.length_map] at h5
    refine Nat.le_of_not_lt fun q => ?_
    have q' : (n : Int) < ((ns.length : Nat) : Int) := by omega
    first
      | (rw [decide_eq_true q'] at h5; exact absurd h5 (by decide))
      | (simp at h5; omega)
  cases hwl with
  | cons w1 w2 =>
    cases w2
    cases w1 with
    | list ho hall => exact ⟨_, _, ns, rfl, rfl, ho, ints_of_wellAll ns _ hall, hlen⟩
theorem post_true (l : OpenLaw) (args : List WData) : l.row.toRowW.claim.post args (.bool true) args = true :=
  postW_of (r := l.row.toRowW) (X := (true == true))
    (show WShape.has [] (.bool true) .bool = true by first | rfl | decide | simp [WShape.has, WShape.arms, WShape.armsAll])
    (show (WTm.eq .res (.lit (.bool true))).value [] { args := args, res := some (.bool true), after := args } = some (.bool (true == true)) from w_eq_bool (w_res rfl) w_lit) rfl
section
variable {prog : Program} {w : World} {A : Around} {E : Value → Shared → Prop} {s : Shared} {K : Frag}
def noObjs (h : Heap) : Heap := { h with objs := #[] }
def ledger (h : Heap) (L d : Addr) : List (Addr × Obj) := (List.range h.objs.size).filterMap fun a => if a = L ∨ a = d then none else (h.get? a).map fun o => (a, o)
end
end Att
namespace L2
open PySem PySem.Spec PyProof.Rows
theorem vals_ints : ∀ {vs : List Value} {ns : List Int}, IntsAre vs ns → Vals (ns.map V.int) vs
  | _, _, .nil => .nil
  | _, _, .cons n t h => .cons ⟨t, rfl⟩ (vals_ints h)
def Only (H : Hp) : Prop := ∀ b, H b = none ∨ ∃ o xs, H b = some (.frz o (.lst xs))
theorem law_call {P : Program} {w : World} {K : PySem.W.Frag} {mg mb : Str → Option Value} {CX : CXT} {k : Nat} {fa a : Addr} {fd : FuncData} {x : Str} {sp : Sp} {s₁ : Shared} {vs : List Value} {ns : List Int}
    (KX : K.In s₁.heap) (hns : s₁.heap.Ns mainGlobals mg) (hb : s₁.heap.Ns builtinsNs mb) (hbb : ∀ x : Str, x ≠ "__name__" → mb x = bootBuiltins x) (hlim : s₁.heap.NoLimit) (hg : s₁.gens = #[])
    (ha : s₁.heap.get? a = some { cls := .type "list", data := .seq vs.toArray }) (hi : IntsAre vs ns) (hl : ns.length ≤ sizeLine) (hr : Room k callerA)
    (F : ∀ base : Heap, K.In base → base.Ns mainGlobals mg → FnOk P w K mg base CX k fa fd [x] sp) (hbind : ∀ (s : Shared) (u : Value), BindsTo s fd ⟨[u], []⟩ [(x, u)])
    (hsp : ∀ H : Hp, Only H → SqL K H a (ns.map V.int) → sp [.ref a] H (fun v _ => v = .bl true) fun _ _ _ => False)
    (hCX : ∀ H e s', CX [] H s₁ (fun _ _ _ => False) e s' → False) :
    codeAny (model P w) callerA (.call (.ref fa) ⟨[.ref a], []⟩) (fun r s' => r = .ok (.ret (.bool true)) ∧ OldK s₁.heap s'.heap ∧ s'.os = s₁.os ∧ AllBare s'.gens) s₁ := by
  have rv := vals_ints hi
  have lenV := hi.length
  -- from an abstract heap in which nothing but the script may be tracked
  have core : ∀ H : Hp, Only H → SqL K H a (ns.map V.int) → HOk P w H s₁.heap → (∀ b, H b ≠ none → b = a) → (H a ≠ none → K.lookup a = none) →
      codeAny (model P w) callerA (.call (.ref fa) ⟨[.ref a], []⟩) (fun r s' => r = .ok (.ret (.bool true)) ∧ OldK s₁.heap s'.heap ∧ s'.os = s₁.os ∧ AllBare s'.gens) s₁ := by
    intro H hO hS hok hA hK
    have base_of : ∀ {b : Addr} {o : Obj}, s₁.heap.get? b = some o → H b = none → (hidT s₁.heap H).get? b = some o := fun e n => hidT_get e n
    have noA : ∀ {b : Addr} {o : Obj} {es : Array DictEntry} {ep : Nat}, s₁.heap.get? b = some o → o.data = .dict es ep → H b = none := fun {b o es ep} e d => by
      cases q : H b with
      | none => rfl
      | some u =>
        have e' : b = a := hA b (by rw [q]; simp)
        subst e'
        rw [ha] at e; cases e
        have d' : Data.seq vs.toArray _ = Data.dict es ep := d
        cases d'
    have nsK : ∀ {b : Addr} {m : Str → Option Value}, s₁.heap.Ns b m → (hidT s₁.heap H).Ns b m := fun {b m} ⟨o, es, ep, e, d, r⟩ => ⟨o, es, ep, base_of e (noA e d), d, r⟩
    have hKb : K.In (hidT s₁.heap H) := fun b o e => base_of (KX b o e) (by
      cases q : H b with
      | none => rfl
      | some u =>
        have e' : b = a := hA b (by rw [q]; simp)
        subst e'
        rw [hK (by rw [q]; simp)] at e; cases e)
    have hM : Mod K mg (hidT s₁.heap H) := ⟨hKb, nsK hns, ⟨mb, nsK hb, hbb⟩, let ⟨mc, h1, h2⟩ := hlim; ⟨mc, nsK h1, h2⟩⟩
    have e0 : Env0 P w K mg (hidT s₁.heap H) callerA [] s₁ H := ⟨rfl, hM, fun b o e => of_hidT e, Nat.le_of_eq (hidT_size _ _), trivial, fun b hb => absurd (show b ∈ ([] : List Addr) from hb) (by simp), hok, .of_eq hg⟩
    refine codeAny_mono ((F _ hKb (nsK hns)).run callerA [] s₁ H ⟨[.ref a], []⟩ [.ref a] [.ref a] _ _ hr e0 (hbind s₁ (.ref a)) (.cons rfl .nil) (hsp H hO hS)) fun r s' h => ?_
    cases r with
    | error e => exact (hCX H e s' h).elim
    | ok fl =>
      cases fl with
      | next => exact False.elim h
      | brk => exact False.elim h
      | cont => exact False.elim h
      | ret u =>
        obtain ⟨v, H', os, bare, un, hok', r', q⟩ := h
        have q' : v = .bl true := q
        subst q'
        obtain rfl : u = Value.bool true := r'
        refine ⟨rfl, OldK.of_keep fun b o e => ?_, os, bare⟩
        cases q : H b with
        | none => exact un.keep b o e q (by intro z; exact absurd (show b ∈ ([] : List Addr) from z) (by simp)) (by simp)
        | some u =>
          rcases hO b with z | ⟨ob, xs, z⟩
          · rw [q] at z; cases z
          · have z2 := un.frzs b ob _ z
            obtain ⟨e1, _⟩ := hok b _ z
            obtain ⟨e2, _⟩ := hok' b _ z2
            rw [e] at e1; cases e1
            exact e2
  cases hk : K.lookup a with
  | some o =>
    -- the script is one of the module's own objects
    have e := KX a o hk
    rw [ha] at e
    cases e
    refine core (fun _ => none) (fun _ => .inl rfl) (.inr ⟨_, vs.toArray, _, hk, rfl, rfl, rfl, by rw [List.size_toArray, lenV]; exact hl, by simpa using rv⟩) (fun b u z => by have z' : (none : Option HO) = some u := z; cases z') (fun b z => absurd rfl z) fun z => absurd rfl z
  | none =>
    refine core (fun b => if b = a then some (.frz { cls := .type "list", data := .seq vs.toArray } (.lst (ns.map V.int))) else none) (fun b => ?_) (.inl (.inr ⟨{ cls := .type "list", data := .seq vs.toArray }, if_pos rfl⟩)) (fun b u z => ?_) (fun b z => ?_) fun _ => hk
    · by_cases hb : b = a
      · exact .inr ⟨_, _, if_pos hb⟩
      · exact .inl (if_neg hb)
    · by_cases hb : b = a
      · have z' := (if_pos hb).symm.trans z
        cases z'
        subst hb
        exact ⟨ha, by rw [List.length_map]; exact hl, vs, _, rv, ha⟩
      · have z' := (if_neg hb).symm.trans z
        cases z'
    · by_cases hb : b = a
      · exact hb
      · exact absurd (if_neg hb) z
end L2
namespace L2
open PySem PySem.Spec PyProof.Rows
abbrev KOf {K : PySem.W.Frag} {h : Heap} (_ : K.In h) : PySem.W.Frag := K
end L2
/- THE LAST THEOREM (shape; LID, My.* are yours):
   My.Adr: a structure of the addresses that your layer names (classes, functions); My.Txt K t: a structure (Prop) of the equations over K;
   My.txt_mk : {K} {implicit addresses ..} (e1 : nsIn K mainGlobals "law" = some (some (.ref f))) (e2 : K.lookup f = some ⟨oc, od, .func (fnOf "law" "law" params body scope dV kV doc pm an cdv ct), sl⟩) (e3 : codeIn K cdv "law" = true) .. : ∃ t, My.Txt K t
set_option maxRecDepth 100000 in
set_option maxHeartbeats 0 in
(the tactic k_is has no namespace: write k_is) -/
namespace L2
open PySem PySem.Spec PyProof.Rows
def inClass (s : Stmt) (j : Nat) : Stmt := match s with
  | .ClassDef _ _ _ body _ _ _ _ _ _ _ => body.getD j (.Pass ⟨0, 0, 0, 0⟩)
  | _ => .Pass ⟨0, 0, 0, 0⟩
def defArgs (s : Stmt) : Arguments := match s with
  | .FunctionDef _ a _ _ _ _ _ _ _ _ => a
  | _ => { posonlyargs := [], args := [], vararg := none, kwonlyargs := [], kw_defaults := [], kwarg := none, defaults := [] }
def defBody (s : Stmt) : List Stmt := match s with
  | .FunctionDef _ _ b _ _ _ _ _ _ _ => b
  | _ => []
def defScope (s : Stmt) : Scope := match s with
  | .FunctionDef _ _ _ _ _ _ sc _ _ _ => sc
  | _ => { kind := .function, names := [], isGenerator := false, isCoroutine := false }
abbrev CX0 : CXT := fun _ _ _ _ _ _ => False
abbrev E0 : XK := fun _ _ _ => False
theorem pass0 {X : Cx} : Passes CX0 X E0 := fun _ _ _ _ _ _ _ h => h.elim
structure Fun (K : PySem.W.Frag) (x qual : Str) (st : Stmt) (f : Addr) (fd : FuncData) : Prop where
  ex : ∃ (oc : Value) (od : Option Addr) (kV doc pm : Value) (an : Option Addr) (cdv ct : Value) (osl : Array (Option Value)),
    fd = PySem.W.fnOf x qual (defArgs st) (defBody st) (defScope st) .none kV doc pm an cdv ct ∧ K.lookup f = some ⟨oc, od, .func fd, osl⟩ ∧ PySem.W.codeIn K cdv qual = true
  kp : PySem.W.keepIn K (.ref f) = true
section
variable {P : Program} {w : World} {K : PySem.W.Frag} {mg : Str → Option Value} {base : Heap}
theorem Fun.ok {x qual : Str} {st : Stmt} {f : Addr} {fd : FuncData} {N ps : List Str} {k : Nat} {sp : Sp} (F : Fun K x qual st f fd) (S : FnScope N ps (defScope st)) (len : ∀ vs H Q E, sp vs H Q E → vs.length = ps.length)
    (hbody : ∀ (cdv : Value) (A : Around) (outer : List Env) (s : Shared) (H : Hp) (vs : List V) (Q : VK) (E : XK), Room k (A.deeper (envOfC qual (defScope st) s.heap.objs.size f cdv)) → sp vs H Q E →
      ∃ t, PSs (cxOf CX0 P w K mg base N qual (defScope st) f cdv A outer s H E).nox (defBody st) t ∧ t { nx := fun _ H' => Q .non H', rt := Q } (start N vs) H) : FnOk P w K mg base CX0 (k + 1) f fd ps sp := by
  obtain ⟨oc, od, kV, doc, pm, an, cdv, ct, osl, rfl, lk, hcd⟩ := F.ex
  refine fn_of lk hcd S len fun A outer s H vs Q E hr hsp => ?_
  obtain ⟨t, h, q⟩ := hbody cdv A outer s H vs Q E hr hsp
  exact ⟨t, h.nox, q⟩
theorem Fun.binds {x qual : Str} {st : Stmt} {f : Addr} {fd : FuncData} {ps : List Str} (F : Fun K x qual st f fd)
    (h : ∀ (kV doc pm : Value) (an : Option Addr) (cdv ct : Value) (us : List Value), us.length = ps.length → bindArgs (PySem.W.fnOf x qual (defArgs st) (defBody st) (defScope st) .none kV doc pm an cdv ct) ⟨us, []⟩ = pure (ps.zip us)) : Binds K fd ps [] := by
  obtain ⟨oc, od, kV, doc, pm, an, cdv, ct, osl, rfl, lk, hcd⟩ := F.ex
  exact .all (h kV doc pm an cdv ct)
theorem fun_mk {x qual : Str} {st : Stmt} {f : Addr} {oc : Value} {od an : Option Addr} {osl : Array (Option Value)} {kV doc pm cdv ct : Value} (l : K.lookup f = some ⟨oc, od, .func (PySem.W.fnOf x qual (defArgs st) (defBody st) (defScope st) .none kV doc pm an cdv ct), osl⟩)
    (c : PySem.W.codeIn K cdv qual = true) (k : PySem.W.keepIn K (.ref f) = true) : Fun K x qual st f (PySem.W.fnOf x qual (defArgs st) (defBody st) (defScope st) .none kV doc pm an cdv ct) := ⟨⟨oc, od, kV, doc, pm, an, cdv, ct, osl, rfl, l, c⟩, k⟩
end
section
variable {X : Cx}
theorem pv (i : Nat) {x : Str} {pos : Pos} (hN : X.N[i]? = some x := by rfl) (hv : Vis X.env.scope x := by first | exact Or.inl rfl | exact Or.inr (Or.inl rfl) | exact Or.inr (Or.inr rfl)) (hd : (x == ("__debug__" : Str)) = false := by decide)
    (hcd : (x == ("__classdict__" : Str)) = false := by decide) : PE X (.Name x pos) (tVar i) := pe_var hN hv hd hcd
end
def Same (H H' : Hp) : Prop := ∀ b o, H b = some o → H' b = some o
theorem Same.refl (H : Hp) : Same H H := fun _ _ h => h
theorem Same.trans {H H1 H2 : Hp} (a : Same H H1) (b : Same H1 H2) : Same H H2 := fun c o h => b c o (a c o h)
theorem Same.free {H H' : Hp} (e : Same H H') {l : Addr} (h : H' l = Option.none) : H l = Option.none := by
  cases q : H l with
  | none => rfl
  | some o =>
    rw [e l o q] at h
    cases h
theorem Same.seq {K : PySem.W.Frag} {H H' : Hp} {a : Addr} {xs : List V} (e : Same H H') (h : SqL K H a xs) : SqL K H' a xs := by
  rcases h with (h | ⟨o, h⟩) | h
  · exact .inl (.inl (e _ _ h))
  · exact .inl (.inr ⟨o, e _ _ h⟩)
  · exact .inr h
end L2
set_option genSizeOf true
noncomputable section
namespace Z
inductive D where
  | non
  | bl (b : Bool)
  | int (i : Int)
  | str (cs : List Nat)
  | tup (xs : List D)
  | lst (xs : List D)
  | dct (ks : List (Sum Int (List Nat))) (vs : List D)
inductive Res (α : Type) where
  | ok (a : α)
  | bad
namespace Res
def bind {α β : Type} (r : Res α) (f : α → Res β) : Res β :=
  match r with
  | ok a => f a
  | bad => bad
@[simp] theorem ok_bind {α β : Type} (a : α) (f : α → Res β) : (Res.ok a).bind f = f a := rfl
@[simp] theorem bad_bind {α β : Type} (f : α → Res β) : (Res.bad : Res α).bind f = bad := rfl
def map {α β : Type} (f : α → β) (r : Res α) : Res β :=
  match r with
  | ok a => ok (f a)
  | bad => bad
@[simp] theorem map_ok {α β : Type} (a : α) (f : α → β) : (Res.ok a).map f = ok (f a) := rfl
@[simp] theorem map_bad {α β : Type} (f : α → β) : (Res.bad : Res α).map f = bad := rfl
theorem bind_ok {α β : Type} {r : Res α} {f : α → Res β} {b : β} (h : r.bind f = ok b) : ∃ a, r = ok a ∧ f a = ok b := by
  cases r with
  | ok a => exact ⟨a, rfl, h⟩
  | bad => cases h
end Res
open Classical in
def guard {α : Type} (p : Prop) (r : Res α) : Res α := if p then r else .bad
@[simp] theorem guard_true {α : Type} (r : Res α) : guard True r = r := by unfold guard; exact if_pos trivial
theorem guard_pos {α : Type} {p : Prop} {r : Res α} (h : p) : guard p r = r := by unfold guard; exact if_pos h
theorem guard_ok {α : Type} {p : Prop} {r : Res α} {a : α} (h : guard p r = .ok a) : p ∧ r = .ok a := by
  unfold guard at h
  split at h
  · rename_i q; exact ⟨q, h⟩
  · cases h
inductive L where
  | val (d : D)
  | own (xs : List D)
  | bor (xs : List D)
  | dic (ks : List (List Int))
  | fdc (ks : List (List Int))
  | idc (ps : List (Int × Int))
abbrev Env := List (Option L)
abbrev EF := Env → Res D
abbrev LF := Env → Res (List D)
abbrev TF := Env → Res Bool
abbrev AF := Env → Res (List D)
inductive Fl where
  | nx (ρ : Env)
  | rt (d : D)
  | bk (ρ : Env)
  | ct (ρ : Env)
abbrev SF := Env → Res Fl
abbrev GF := D → Env → Res Env
abbrev line : Nat := 16777216
def eC (d : D) (_ : Env) : Res D := .ok d
def eV (i : Nat) (ρ : Env) : Res D := match ρ[i]? with
  | some (some (.val d)) => .ok d
  | _ => .bad
def eW (i : Nat) (ρ : Env) : Res D := match ρ[i]? with
  | some (some (.val d)) => .ok d
  | some (some (.own xs)) => .ok (.lst xs)
  | some (some (.bor xs)) => .ok (.lst xs)
  | _ => .bad
def eB (op : D → D → Res D) (a b : EF) (ρ : Env) : Res D := (a ρ).bind fun x => (b ρ).bind fun y => op x y
def eU (op : D → Res D) (a : EF) (ρ : Env) : Res D := (a ρ).bind op
def eAnd (a b : EF) (ρ : Env) : Res D := (a ρ).bind fun x => match x with
  | .bl c => if c then b ρ else .ok (.bl false)
  | _ => .bad
def eOr (a b : EF) (ρ : Env) : Res D := (a ρ).bind fun x => match x with
  | .bl c => if c then .ok (.bl true) else b ρ
  | _ => .bad
def eNot (a : EF) (ρ : Env) : Res D := (a ρ).bind fun x => match x with
  | .bl c => .ok (.bl !c)
  | _ => .bad
def eChain (op op' : D → D → Res D) (a b c : EF) (ρ : Env) : Res D := (a ρ).bind fun x => (b ρ).bind fun y => (op x y).bind fun z => match z with
  | .bl k => if k then (c ρ).bind fun w => op' y w else .ok (.bl false)
  | _ => .bad
def eIf (t : TF) (a b : EF) (ρ : Env) : Res D := (t ρ).bind fun c => if c then a ρ else b ρ
def eL (l : LF) (ρ : Env) : Res D := (l ρ).map D.lst
def aNil (_ : Env) : Res (List D) := .ok []
def aCons (a : EF) (r : AF) (ρ : Env) : Res (List D) := (a ρ).bind fun x => (r ρ).bind fun xs => .ok (x :: xs)
def lDisp (as : AF) (ρ : Env) : Res (List D) := (as ρ).bind fun xs => guard (xs.length ≤ line) (.ok xs)
def eTup (as : AF) (ρ : Env) : Res D := (as ρ).bind fun xs => guard (xs.length ≤ line) (.ok (.tup xs))
def eCall (f : List D → Res D) (as : AF) (ρ : Env) : Res D := (as ρ).bind f
def tE (a : EF) (ρ : Env) : Res Bool := (a ρ).bind fun x => match x with
  | .bl c => .ok c
  | _ => .bad
def tAnd (a b : TF) (ρ : Env) : Res Bool := (a ρ).bind fun c => if c then b ρ else .ok false
def tOr (a b : TF) (ρ : Env) : Res Bool := (a ρ).bind fun c => if c then .ok true else b ρ
def tNot (a : TF) (ρ : Env) : Res Bool := (a ρ).bind fun c => .ok !c
def bits (a : Int) : Nat := if a = 0 then 0 else a.natAbs.log2 + 1
def oAdd : D → D → Res D
  | .int a, .int b => .ok (.int (a + b))
  | .str a, .str b => guard (a.length + b.length ≤ line) (.ok (.str (a ++ b)))
  | .tup a, .tup b => guard (a.length + b.length ≤ line) (.ok (.tup (a ++ b)))
  | _, _ => .bad
def oSub : D → D → Res D
  | .int a, .int b => .ok (.int (a - b))
  | _, _ => .bad
def mulFits (a b : Int) : Prop := ((-18446744073709551616 < a ∧ a < 18446744073709551616) ∨ (-18446744073709551616 < b ∧ b < 18446744073709551616) ∨ (bits a ≤ 16777216 ∧ bits b ≤ 16777216))
def oMul : D → D → Res D
  | .int a, .int b => guard (mulFits a b) (.ok (.int (a * b)))
  | _, _ => .bad
def divFits (b : Int) : Prop := 0 < b ∧ b < 1809251394333065553493296640760748560207343510400633813116524750123642650624
def oDiv : D → D → Res D
  | .int a, .int b => guard (divFits b) (.ok (.int (a / b)))
  | _, _ => .bad
def oMod : D → D → Res D
  | .int a, .int b => guard (0 < b) (.ok (.int (a % b)))
  | _, _ => .bad
def oShr : D → D → Res D
  | .int a, .int b => guard (0 ≤ b) (.ok (.int (a / 2 ^ b.toNat)))
  | _, _ => .bad
def oPow : D → D → Res D
  | .int a, .int b => guard (0 ≤ b ∧ b ≤ 1000000 ∧ a.natAbs < 2 ^ 64) (.ok (.int (a ^ b.toNat)))
  | _, _ => .bad
def oShl : D → D → Res D
  | .int a, .int b => guard (0 ≤ b ∧ b ≤ 1000000 ∧ a.natAbs < 2 ^ 64) (.ok (.int (a * 2 ^ b.toNat)))
  | _, _ => .bad
def oNeg : D → Res D
  | .int a => .ok (.int (-a))
  | _ => .bad
def ltC : List Nat → List Nat → Bool
  | [], [] => false
  | [], _ :: _ => true
  | _ :: _, [] => false
  | a :: as, b :: bs => if a < b then true else if a = b then ltC as bs else false
def oLt : D → D → Res D
  | .int a, .int b => .ok (.bl (decide (a < b)))
  | _, _ => .bad
def oLe : D → D → Res D
  | .int a, .int b => .ok (.bl (decide (a ≤ b)))
  | .str a, .str b => .ok (.bl (!(ltC b a)))
  | _, _ => .bad
def oGt : D → D → Res D
  | .int a, .int b => .ok (.bl (decide (b < a)))
  | _, _ => .bad
def oGe : D → D → Res D
  | .int a, .int b => .ok (.bl (decide (b ≤ a)))
  | _, _ => .bad
def eqS : D → D → Option Bool
  | .non, .non => some true
  | .bl a, .bl b => some (a == b)
  | .bl a, .int b => some ((if a then 1 else 0) == b)
  | .int a, .bl b => some (a == (if b then 1 else 0))
  | .int a, .int b => some (a == b)
  | .str a, .str b => some (a == b)
  | .non, .bl _ => some false
  | .non, .int _ => some false
  | .non, .str _ => some false
  | .bl _, .non => some false
  | .bl _, .str _ => some false
  | .int _, .non => some false
  | .int _, .str _ => some false
  | .str _, .non => some false
  | .str _, .bl _ => some false
  | .str _, .int _ => some false
  | _, _ => none
def allEq (f : D → D → Option Bool) : List D → List D → Option Bool
  | [], [] => some true
  | [], _ :: _ => some false
  | _ :: _, [] => some false
  | a :: as, b :: bs => match f a b, allEq f as bs with
    | some x, some y => some (x && y)
    | _, _ => none
def eqDn : Nat → D → D → Option Bool
  | n + 1, .tup a, .tup b => allEq (eqDn n) a b
  | n + 1, .lst a, .lst b => allEq (eqDn n) a b
  | _, .tup _, .lst _ => some false
  | _, .lst _, .tup _ => some false
  | _, .tup _, .non => some false
  | _, .tup _, .bl _ => some false
  | _, .tup _, .int _ => some false
  | _, .tup _, .str _ => some false
  | _, .non, .tup _ => some false
  | _, .bl _, .tup _ => some false
  | _, .int _, .tup _ => some false
  | _, .str _, .tup _ => some false
  | _, .lst _, .non => some false
  | _, .lst _, .bl _ => some false
  | _, .lst _, .int _ => some false
  | _, .lst _, .str _ => some false
  | _, .non, .lst _ => some false
  | _, .bl _, .lst _ => some false
  | _, .int _, .lst _ => some false
  | _, .str _, .lst _ => some false
  | _, x, y => eqS x y
def eqD : D → D → Option Bool := eqDn 6
def oEq (a b : D) : Res D := match eqD a b with
  | some x => .ok (.bl x)
  | none => .bad
def oNe (a b : D) : Res D := match eqD a b with
  | some x => .ok (.bl !x)
  | none => .bad
def oIsN : D → Res D
  | .non => .ok (.bl true)
  | _ => .ok (.bl false)
def oNotN : D → Res D
  | .non => .ok (.bl false)
  | _ => .ok (.bl true)
def oInS : D → D → Res D
  | .str [c], .str t => .ok (.bl (t.contains c))
  | _, _ => .bad
def oNotInS : D → D → Res D
  | .str [c], .str t => .ok (.bl (!(t.contains c)))
  | _, _ => .bad
def anyEq (x : D) : List D → Option Bool
  | [] => some false
  | y :: r => match eqD y x, anyEq x r with
    | some a, some b => some (a || b)
    | _, _ => none
def oIn : D → D → Res D
  | x, .tup ys => match anyEq x ys with
    | some b => .ok (.bl b)
    | none => .bad
  | x, .lst ys => match anyEq x ys with
    | some b => .ok (.bl b)
    | none => .bad
  | _, _ => .bad
def oNotIn : D → D → Res D
  | x, .tup ys => match anyEq x ys with
    | some b => .ok (.bl !b)
    | none => .bad
  | x, .lst ys => match anyEq x ys with
    | some b => .ok (.bl !b)
    | none => .bad
  | _, _ => .bad
def oLen : D → Res D
  | .str t => guard (t.length ≤ line) (.ok (.int t.length))
  | .tup xs => .ok (.int xs.length)
  | .lst xs => .ok (.int xs.length)
  | _ => .bad
inductive Ty where
  | bool | int | str | tuple | list | dict
def isTy : Ty → D → Bool
  | .bool, .bl _ => true
  | .int, .bl _ => true
  | .int, .int _ => true
  | .str, .str _ => true
  | .tuple, .tup _ => true
  | .list, .lst _ => true
  | .dict, .dct _ _ => true
  | _, _ => false
def oIsTy (t : Ty) (x : D) : Res D := .ok (.bl (isTy t x))
def ixZ (n : Nat) (i : Int) : Option Nat := if 0 ≤ i then (if i < n then some i.toNat else none) else if -(n : Int) ≤ i then some (i + n).toNat else none
def oIx : D → D → Res D
  | .tup xs, .int i => match (ixZ xs.length i).bind fun j => xs[j]? with
    | some v => .ok v
    | none => .bad
  | .lst xs, .int i => match (ixZ xs.length i).bind fun j => xs[j]? with
    | some v => .ok v
    | none => .bad
  | .str cs, .int i => guard (cs.length ≤ line) (match (ixZ cs.length i).bind fun j => cs[j]? with
    | some c => .ok (.str [c])
    | none => .bad)
  | _, _ => .bad
def sIx (n d : Nat) : Option Int → Nat
  | none => d
  | some i => if i < 0 then (i + n).toNat else min i.toNat n
def cut {α : Type} (xs : List α) (lo hi : Option Int) : List α := (xs.drop (sIx xs.length 0 lo)).take (sIx xs.length xs.length hi - sIx xs.length 0 lo)
abbrev PF := Env → Res (Option Int)
def pNo (_ : Env) : Res (Option Int) := .ok none
def pAt (a : EF) (ρ : Env) : Res (Option Int) := (a ρ).bind fun x => match x with
  | .int i => .ok (some i)
  | _ => .bad
def oSl : D → Option Int → Option Int → Res D
  | .str cs, lo, hi => guard (cs.length ≤ line) (.ok (.str (cut cs lo hi)))
  | .tup xs, lo, hi => .ok (.tup (cut xs lo hi))
  | _, _, _ => .bad
def eSl (a : EF) (lo hi : PF) (ρ : Env) : Res D := (a ρ).bind fun x => (lo ρ).bind fun l => (hi ρ).bind fun h => oSl x l h
def lSl (a : EF) (lo hi : PF) (ρ : Env) : Res (List D) := (a ρ).bind fun x => (lo ρ).bind fun l => (hi ρ).bind fun h => match x with
  | .lst xs => .ok (cut xs l h)
  | _ => .bad
def lCat (a b : EF) (ρ : Env) : Res (List D) := (a ρ).bind fun x => (b ρ).bind fun y => match x, y with
  | .lst xs, .lst ys => guard (xs.length + ys.length ≤ line) (.ok (xs ++ ys))
  | _, _ => .bad
def allB : List D → Option Bool
  | [] => some true
  | .bl b :: r => (allB r).map (b && ·)
  | _ :: _ => none
def oAll : D → Res D
  | .lst xs => match allB xs with
    | some b => .ok (.bl b)
    | none => .bad
  | _ => .bad
def iterD : D → Res (List D)
  | .tup xs => .ok xs
  | .lst xs => .ok xs
  | .str cs => .ok (cs.map fun c => .str [c])
  | _ => .bad
def iSeq (a : EF) (ρ : Env) : Res (List D) := (a ρ).bind iterD
def zints (lo : Int) (n : Nat) : List D := (List.range n).map fun i => D.int (lo + (i : Nat))
def iRng1 (a : EF) (ρ : Env) : Res (List D) := (a ρ).bind fun x => match x with
  | .int j => .ok (zints 0 j.toNat)
  | _ => .bad
def iRng2 (a b : EF) (ρ : Env) : Res (List D) := (a ρ).bind fun x => (b ρ).bind fun y => match x, y with
  | .int i, .int j => .ok (zints i (j - i).toNat)
  | _, _ => .bad
def gName (i : Nat) (d : D) (ρ : Env) : Res Env := .ok (ρ.set i (some (.val d)))
def gNames : List Nat → List D → Env → Res Env
  | [], [], ρ => .ok ρ
  | i :: is, d :: ds, ρ => gNames is ds (ρ.set i (some (.val d)))
  | _, _, _ => .bad
def gTup (is : List Nat) (d : D) (ρ : Env) : Res Env := match d with
  | .tup ds => gNames is ds ρ
  | _ => .bad
def capt1 (ρ : Env) (i : Nat) : Option L := match ρ[i]? with
  | some (some (.val d)) => some (.val d)
  | some (some (.bor xs)) => some (.bor xs)
  | some (some (.fdc ks)) => some (.fdc ks)
  | _ => none
def capt (ρ : Env) (is : List Nat) : Env := is.map (capt1 ρ)
def compGo (g : GF) (t : TF) (e : EF) (ρ : Env) : List D → Res (List D)
  | [] => .ok []
  | d :: r => (g d ρ).bind fun ρ1 => (t ρ1).bind fun c => if c then (e ρ1).bind fun y => (compGo g t e ρ r).bind fun ys => .ok (y :: ys) else compGo g t e ρ r
def lComp (it : LF) (n : Nat) (is : List Nat) (g : GF) (t : TF) (e : EF) (ρ : Env) : Res (List D) := (it ρ).bind fun ds => guard (ds.length ≤ line) (compGo g t e (List.replicate n none ++ capt ρ is) ds)
def tTrue (_ : Env) : Res Bool := .ok true
def sNext (ρ : Env) : Res Fl := .ok (.nx ρ)
def sSeq (a b : SF) (ρ : Env) : Res Fl := (a ρ).bind fun fl => match fl with
  | .nx ρ' => b ρ'
  | o => .ok o
def sSet (i : Nat) (e : EF) (ρ : Env) : Res Fl := (e ρ).bind fun d => .ok (.nx (ρ.set i (some (.val d))))
def sOwn (i : Nat) (e : LF) (ρ : Env) : Res Fl := (e ρ).bind fun xs => .ok (.nx (ρ.set i (some (.own xs))))
def sGet (e : EF) (g : GF) (ρ : Env) : Res Fl := (e ρ).bind fun d => (g d ρ).bind fun ρ' => .ok (.nx ρ')
def sIf (t : TF) (a b : SF) (ρ : Env) : Res Fl := (t ρ).bind fun c => if c then a ρ else b ρ
def sRet (e : EF) (ρ : Env) : Res Fl := (e ρ).bind fun d => .ok (.rt d)
def sRetN (_ : Env) : Res Fl := .ok (.rt .non)
def sDrop (e : EF) (ρ : Env) : Res Fl := (e ρ).bind fun _ => .ok (.nx ρ)
def sBreak (ρ : Env) : Res Fl := .ok (.bk ρ)
def sCont (ρ : Env) : Res Fl := .ok (.ct ρ)
def frz (i : Nat) (ρ : Env) : Env := match ρ[i]? with
  | some (some (.own xs)) => ρ.set i (some (.val (.lst xs)))
  | _ => ρ
def sFrz (i : Nat) (a : SF) (ρ : Env) : Res Fl := a (frz i ρ)
def sAppend (i : Nat) (e : EF) (ρ : Env) : Res Fl := (e ρ).bind fun d => match ρ[i]? with
  | some (some (.own xs)) => guard (xs.length < line) (.ok (.nx (ρ.set i (some (.own (xs ++ [d]))))))
  | _ => .bad
def sPut (i : Nat) (k e : EF) (ρ : Env) : Res Fl := (e ρ).bind fun d => (k ρ).bind fun z => match z, ρ[i]? with
  | .int z, some (some (.own xs)) => (match ixZ xs.length z with
    | some j => .ok (.nx (ρ.set i (some (.own (xs.set j d)))))
    | none => .bad)
  | _, _ => .bad
def forGo (g : GF) (b : SF) : List D → Env → Res Fl
  | [], ρ => .ok (.nx ρ)
  | d :: r, ρ => (g d ρ).bind fun ρ1 => (b ρ1).bind fun fl => match fl with
    | .nx ρ' => forGo g b r ρ'
    | .ct ρ' => forGo g b r ρ'
    | .bk ρ' => .ok (.nx ρ')
    | .rt d => .ok (.rt d)
def sFor (it : LF) (g : GF) (b : SF) (ρ : Env) : Res Fl := (it ρ).bind fun ds => forGo g b ds ρ
def start (n : Nat) (ds : List D) : Env := ds.map (fun d => some (.val d)) ++ List.replicate (n - ds.length) none
def fn (ps n : Nat) (b : SF) (ds : List D) : Res D := if ds.length = ps then (match b (start n ds) with
  | .ok (.rt d) => .ok d
  | .ok (.nx _) => .ok .non
  | _ => .bad) else .bad
def lent : Bool → D → L
  | true, .lst xs => .bor xs
  | _, d => .val d
def startB (n : Nat) (bs : List Bool) (ds : List D) : Env := (List.zipWith (fun b d => some (lent b d)) bs ds) ++ List.replicate (n - ds.length) none
def fnB (bs : List Bool) (n : Nat) (b : SF) (ds : List D) : Res D := if ds.length = bs.length then (match b (startB n bs ds) with
  | .ok (.rt d) => .ok d
  | .ok (.nx _) => .ok .non
  | _ => .bad) else .bad
end Z
end
set_option genSizeOf false
noncomputable section
namespace Z
@[simp] theorem eC_a (d : D) (ρ : Env) : eC d ρ = .ok d := rfl
@[simp] theorem eB_a (o : D → D → Res D) (a b : EF) (ρ : Env) : eB o a b ρ = (a ρ).bind fun x => (b ρ).bind fun y => o x y := rfl
@[simp] theorem eU_a (o : D → Res D) (a : EF) (ρ : Env) : eU o a ρ = (a ρ).bind o := rfl
@[simp] theorem eL_a (l : LF) (ρ : Env) : eL l ρ = (l ρ).map D.lst := rfl
@[simp] theorem aNil_a (ρ : Env) : aNil ρ = .ok [] := rfl
@[simp] theorem aCons_a (a : EF) (r : AF) (ρ : Env) : aCons a r ρ = (a ρ).bind fun x => (r ρ).bind fun xs => .ok (x :: xs) := rfl
@[simp] theorem eCall_a (f : List D → Res D) (as : AF) (ρ : Env) : eCall f as ρ = (as ρ).bind f := rfl
@[simp] theorem sNext_a (ρ : Env) : sNext ρ = .ok (.nx ρ) := rfl
@[simp] theorem sSet_a (i : Nat) (e : EF) (ρ : Env) : sSet i e ρ = (e ρ).bind fun d => .ok (.nx (ρ.set i (some (.val d)))) := rfl
@[simp] theorem sOwn_a (i : Nat) (e : LF) (ρ : Env) : sOwn i e ρ = (e ρ).bind fun d => .ok (.nx (ρ.set i (some (.own d)))) := rfl
@[simp] theorem sRet_a (e : EF) (ρ : Env) : sRet e ρ = (e ρ).bind fun d => .ok (.rt d) := rfl
@[simp] theorem sRetN_a (ρ : Env) : sRetN ρ = .ok (.rt .non) := rfl
@[simp] theorem sIf_a (t : TF) (a b : SF) (ρ : Env) : sIf t a b ρ = (t ρ).bind fun c => if c then a ρ else b ρ := rfl
@[simp] theorem eIf_a (t : TF) (a b : EF) (ρ : Env) : eIf t a b ρ = (t ρ).bind fun c => if c then a ρ else b ρ := rfl
@[simp] theorem sFor_a (it : LF) (g : GF) (b : SF) (ρ : Env) : sFor it g b ρ = (it ρ).bind fun ds => forGo g b ds ρ := rfl
def seqK (b : SF) : Fl → Res Fl
  | .nx ρ' => b ρ'
  | o => .ok o
@[simp] theorem sSeq_a (a b : SF) (ρ : Env) : sSeq a b ρ = (a ρ).bind (seqK b) := rfl
@[simp] theorem seqK_nx (b : SF) (ρ : Env) : seqK b (.nx ρ) = b ρ := rfl
@[simp] theorem seqK_rt (b : SF) (d : D) : seqK b (.rt d) = .ok (.rt d) := rfl
@[simp] theorem seqK_bk (b : SF) (ρ : Env) : seqK b (.bk ρ) = .ok (.bk ρ) := rfl
@[simp] theorem seqK_ct (b : SF) (ρ : Env) : seqK b (.ct ρ) = .ok (.ct ρ) := rfl
def truK : D → Res Bool
  | .bl c => .ok c
  | _ => .bad
@[simp] theorem tE_a (a : EF) (ρ : Env) : tE a ρ = (a ρ).bind truK := rfl
@[simp] theorem truK_bl (c : Bool) : truK (.bl c) = .ok c := rfl
@[simp] theorem tTrue_a (ρ : Env) : tTrue ρ = .ok true := rfl
@[simp] theorem tAnd_a (a b : TF) (ρ : Env) : tAnd a b ρ = (a ρ).bind fun c => if c then b ρ else .ok false := rfl
@[simp] theorem tOr_a (a b : TF) (ρ : Env) : tOr a b ρ = (a ρ).bind fun c => if c then .ok true else b ρ := rfl
@[simp] theorem tNot_a (a : TF) (ρ : Env) : tNot a ρ = (a ρ).bind fun c => .ok !c := rfl
def boolK (f : Bool → Res D) : D → Res D
  | .bl c => f c
  | _ => .bad
@[simp] theorem boolK_bl (f : Bool → Res D) (c : Bool) : boolK f (.bl c) = f c := rfl
@[simp] theorem eAnd_a (a b : EF) (ρ : Env) : eAnd a b ρ = (a ρ).bind (boolK fun c => if c then b ρ else .ok (.bl false)) := rfl
@[simp] theorem eOr_a (a b : EF) (ρ : Env) : eOr a b ρ = (a ρ).bind (boolK fun c => if c then .ok (.bl true) else b ρ) := rfl
@[simp] theorem eNot_a (a : EF) (ρ : Env) : eNot a ρ = (a ρ).bind (boolK fun c => .ok (.bl !c)) := rfl
@[simp] theorem eChain_a (o o' : D → D → Res D) (a b c : EF) (ρ : Env) : eChain o o' a b c ρ = (a ρ).bind fun x => (b ρ).bind fun y => (o x y).bind (boolK fun k => if k then (c ρ).bind fun w => o' y w else .ok (.bl false)) := rfl
@[simp] theorem oAdd_int (a b : Int) : oAdd (.int a) (.int b) = .ok (.int (a + b)) := rfl
theorem oAdd_str (a b : List Nat) (h : a.length + b.length ≤ line) : oAdd (.str a) (.str b) = .ok (.str (a ++ b)) := by simp [oAdd, h]
@[simp] theorem oSub_int (a b : Int) : oSub (.int a) (.int b) = .ok (.int (a - b)) := rfl
@[simp] theorem oMul_int (a b : Int) : oMul (.int a) (.int b) = guard (mulFits a b) (.ok (.int (a * b))) := rfl
@[simp] theorem oDiv_int (a b : Int) : oDiv (.int a) (.int b) = guard (divFits b) (.ok (.int (a / b))) := rfl
@[simp] theorem oMod_int (a b : Int) : oMod (.int a) (.int b) = guard (0 < b) (.ok (.int (a % b))) := rfl
@[simp] theorem oShr_int (a b : Int) : oShr (.int a) (.int b) = guard (0 ≤ b) (.ok (.int (a / 2 ^ b.toNat))) := rfl
@[simp] theorem oLt_int (a b : Int) : oLt (.int a) (.int b) = .ok (.bl (decide (a < b))) := rfl
@[simp] theorem oLe_int (a b : Int) : oLe (.int a) (.int b) = .ok (.bl (decide (a ≤ b))) := rfl
@[simp] theorem oLe_str (a b : List Nat) : oLe (.str a) (.str b) = .ok (.bl (!(ltC b a))) := rfl
@[simp] theorem oGt_int (a b : Int) : oGt (.int a) (.int b) = .ok (.bl (decide (b < a))) := rfl
@[simp] theorem oGe_int (a b : Int) : oGe (.int a) (.int b) = .ok (.bl (decide (b ≤ a))) := rfl
@[simp] theorem oEq_int (a b : Int) : oEq (.int a) (.int b) = .ok (.bl (a == b)) := rfl
@[simp] theorem oEq_bl (a b : Bool) : oEq (.bl a) (.bl b) = .ok (.bl (a == b)) := rfl
@[simp] theorem oEq_str (a b : List Nat) : oEq (.str a) (.str b) = .ok (.bl (a == b)) := rfl
@[simp] theorem oNe_int (a b : Int) : oNe (.int a) (.int b) = .ok (.bl (!(a == b))) := rfl
@[simp] theorem oNe_bl (a b : Bool) : oNe (.bl a) (.bl b) = .ok (.bl (!(a == b))) := rfl
@[simp] theorem oNe_str (a b : List Nat) : oNe (.str a) (.str b) = .ok (.bl (!(a == b))) := rfl
@[simp] theorem oLen_str (a : List Nat) : oLen (.str a) = guard (a.length ≤ line) (.ok (.int a.length)) := rfl
@[simp] theorem oLen_tup (a : List D) : oLen (.tup a) = .ok (.int a.length) := rfl
@[simp] theorem oLen_lst (a : List D) : oLen (.lst a) = .ok (.int a.length) := rfl
@[simp] theorem oIsTy_a (t : Ty) (x : D) : oIsTy t x = .ok (.bl (isTy t x)) := rfl
@[simp] theorem pNo_a (ρ : Env) : pNo ρ = .ok none := rfl
def intK : D → Res (Option Int)
  | .int i => .ok (some i)
  | _ => .bad
@[simp] theorem intK_int (i : Int) : intK (.int i) = .ok (some i) := rfl
@[simp] theorem pAt_a (a : EF) (ρ : Env) : pAt a ρ = (a ρ).bind intK := rfl
@[simp] theorem eSl_a (a : EF) (lo hi : PF) (ρ : Env) : eSl a lo hi ρ = (a ρ).bind fun x => (lo ρ).bind fun l => (hi ρ).bind fun h => oSl x l h := rfl
@[simp] theorem iSeq_a (a : EF) (ρ : Env) : iSeq a ρ = (a ρ).bind iterD := rfl
def rng1K : D → Res (List D)
  | .int j => .ok (zints 0 j.toNat)
  | _ => .bad
@[simp] theorem iRng1_a (a : EF) (ρ : Env) : iRng1 a ρ = (a ρ).bind rng1K := rfl
@[simp] theorem rng1K_int (j : Int) : rng1K (.int j) = .ok (zints 0 j.toNat) := rfl
def rng2K : D → D → Res (List D)
  | .int i, .int j => .ok (zints i (j - i).toNat)
  | _, _ => .bad
@[simp] theorem iRng2_a (a b : EF) (ρ : Env) : iRng2 a b ρ = (a ρ).bind fun x => (b ρ).bind fun y => rng2K x y := rfl
@[simp] theorem rng2K_int (i j : Int) : rng2K (.int i) (.int j) = .ok (zints i (j - i).toNat) := rfl
@[simp] theorem iterD_tup (xs : List D) : iterD (.tup xs) = .ok xs := rfl
@[simp] theorem iterD_lst (xs : List D) : iterD (.lst xs) = .ok xs := rfl
@[simp] theorem iterD_str (cs : List Nat) : iterD (.str cs) = .ok (cs.map fun c => .str [c]) := rfl
@[simp] theorem gName_a (i : Nat) (d : D) (ρ : Env) : gName i d ρ = .ok (ρ.set i (some (.val d))) := rfl
theorem lComp_a (it : LF) (n : Nat) (is : List Nat) (g : GF) (t : TF) (e : EF) (ρ : Env) : lComp it n is g t e ρ = (it ρ).bind fun ds => guard (ds.length ≤ line) (compGo g t e (List.replicate n none ++ capt ρ is) ds) := rfl
@[simp] theorem lDisp_a (as : AF) (ρ : Env) : lDisp as ρ = (as ρ).bind fun xs => guard (xs.length ≤ line) (.ok xs) := rfl
@[simp] theorem eTup_a (as : AF) (ρ : Env) : eTup as ρ = (as ρ).bind fun xs => guard (xs.length ≤ line) (.ok (.tup xs)) := rfl
def retK : Res Fl → Res D
  | .ok (.rt d) => .ok d
  | .ok (.nx _) => .ok .non
  | _ => .bad
@[simp] theorem retK_rt (d : D) : retK (.ok (.rt d)) = .ok d := rfl
@[simp] theorem retK_nx (ρ : Env) : retK (.ok (.nx ρ)) = .ok .non := rfl
theorem fn_a (ps n : Nat) (b : SF) (ds : List D) (h : ds.length = ps) : fn ps n b ds = retK (b (start n ds)) := by
  unfold fn; rw [if_pos h]; cases b (start n ds) with
  | bad => rfl
  | ok f => cases f <;> rfl
theorem mulFits_l {a b : Int} (h1 : -18446744073709551616 < a) (h2 : a < 18446744073709551616) : mulFits a b := by
  unfold mulFits; exact .inl ⟨h1, h2⟩
theorem mulFits_r {a b : Int} (h1 : -18446744073709551616 < b) (h2 : b < 18446744073709551616) : mulFits a b := by
  unfold mulFits; exact .inr (.inl ⟨h1, h2⟩)
theorem mulFits_b {a b : Int} (h1 : bits a ≤ 16777216) (h2 : bits b ≤ 16777216) : mulFits a b := by
  unfold mulFits; exact .inr (.inr ⟨h1, h2⟩)
theorem bits_of {a : Int} {n : Nat} (h : a.natAbs < 2 ^ n) : bits a ≤ n := by
  unfold bits
  split
  · omega
  · rename_i h0
    have : a.natAbs.log2 < n := (Nat.log2_lt (by omega)).mpr h
    omega
theorem divFits_of {b : Int} (h0 : 0 < b) (h : b < 1809251394333065553493296640760748560207343510400633813116524750123642650624) : divFits b := by
  exact ⟨h0, h⟩
theorem ix_str {cs : List Nat} {i : Int} (h0 : 0 ≤ i) (h1 : i < cs.length) (hl : cs.length ≤ line) : ∃ c ∈ cs, oIx (.str cs) (.int i) = .ok (.str [c]) := by
  have hj : i.toNat < cs.length := by omega
  refine ⟨cs[i.toNat], List.getElem_mem hj, ?_⟩
  simp [oIx, hl, ixZ, h0, h1, hj]
theorem ints_at {n j : Nat} {d : D} (h : (zints 0 n)[j]? = some d) : j < n ∧ d = .int (j : Nat) := by
  unfold zints at h
  rw [List.getElem?_map] at h
  cases q : (List.range n)[j]? with
  | none => rw [q] at h; cases h
  | some i =>
    rw [q] at h
    obtain ⟨h1, h2⟩ := List.getElem?_eq_some_iff.mp q
    rw [List.length_range] at h1
    rw [List.getElem_range] at h2
    subst h2
    simp at h
    exact ⟨h1, h.symm⟩
@[simp] theorem ints_len (lo : Int) (n : Nat) : (zints lo n).length = n := by simp [zints]
theorem cut_len {α : Type} (xs : List α) (lo hi : Option Int) : (cut xs lo hi).length ≤ xs.length := by
  unfold cut
  rw [List.length_take, List.length_drop]
  omega
@[simp] theorem lSl_a (xs : List D) (a : EF) (lo hi : PF) (ρ : Env) (h : a ρ = .ok (.lst xs)) : lSl a lo hi ρ = (lo ρ).bind fun l => (hi ρ).bind fun h => .ok (cut xs l h) := by
  unfold lSl; rw [h]; rfl
theorem compGo_map {g : GF} {e : EF} {ρ : Env} {h : D → D} : ∀ (ds : List D), (∀ d ∈ ds, (g d ρ).bind e = .ok (h d)) → compGo g tTrue e ρ ds = .ok (ds.map h)
  | [], _ => rfl
  | d :: ds, k => by
    have h1 := k d List.mem_cons_self
    have h2 := compGo_map ds (fun x hx => k x (List.mem_cons_of_mem _ hx))
    obtain ⟨ρ1, e1, e2⟩ := Res.bind_ok h1
    simp [compGo, e1, tTrue, e2, h2]
theorem allB_bl : ∀ (bs : List Bool), allB (bs.map D.bl) = some (bs.all id)
  | [] => rfl
  | b :: bs => by simp [allB, allB_bl bs]
@[simp high] theorem gt0 {α : Type _} (a : α) (l : List α) : (a :: l)[0]? = some a := rfl
@[simp high] theorem gtS {α : Type _} (a : α) (l : List α) (n : Nat) : (a :: l)[n + 1]? = l[n]? := rfl
@[simp high] theorem st0 {α : Type _} (a x : α) (l : List α) : (a :: l).set 0 x = x :: l := rfl
@[simp high] theorem stS {α : Type _} (a x : α) (l : List α) (n : Nat) : (a :: l).set (n + 1) x = a :: l.set n x := rfl
end Z
end
set_option Elab.async false
set_option linter.all false
set_option maxHeartbeats 4000000
namespace ZS
open PySem PySem.Spec PyProof.Rows L2
abbrev St := L2.St
def keyZ : Sum Int (List Nat) → Key
  | .inl i => .inl i
  | .inr cs => .inr ⟨cs.toArray⟩
def FzL (K : PySem.W.Frag) (H : Hp) (a : Addr) (xs : List V) : Prop :=
  (∃ o, H a = some (.frz o (.lst xs))) ∨
    ∃ (o : Obj) (its : Array Value) (n : Nat), K.lookup a = some o ∧ o.cls = .type "list" ∧ o.dict = none ∧ o.data = .seq its n ∧ its.size ≤ sizeLine ∧ Vals xs its.toList
theorem FzL.sq {K : PySem.W.Frag} {H : Hp} {a : Addr} {xs : List V} (h : FzL K H a xs) : SqL K H a xs := by
  rcases h with ⟨o, h⟩ | h
  · exact .inl (.inr ⟨o, h⟩)
  · exact .inr h
structure Stb (H H' : Hp) : Prop where
  tup : ∀ a xs, H a = some (.tup xs) → H' a = some (.tup xs)
  frz : ∀ a o u, H a = some (.frz o u) → H' a = some (.frz o u)
theorem Stb.refl (H : Hp) : Stb H H := ⟨fun _ _ h => h, fun _ _ _ h => h⟩
theorem Stb.trans {H H1 H2 : Hp} (a : Stb H H1) (b : Stb H1 H2) : Stb H H2 := ⟨fun c xs h => b.tup c xs (a.tup c xs h), fun c o u h => b.frz c o u (a.frz c o u h)⟩
theorem stb {H H' : Hp} (s : Same H H') : Stb H H' := ⟨fun _ _ h => s _ _ h, fun _ _ _ h => s _ _ h⟩
theorem stb_upd {H : Hp} {p : Addr} {o u : HO} (h : H p = some o) (n1 : ∀ xs, o ≠ .tup xs) (n2 : ∀ ob x, o ≠ .frz ob x) : Stb H (upd H p u) :=
  ⟨fun a xs e => by rw [upd_ne (by rintro rfl; rw [h] at e; exact n1 xs (Option.some.inj e))]; exact e, fun a ob x e => by rw [upd_ne (by rintro rfl; rw [h] at e; exact n2 ob x (Option.some.inj e))]; exact e⟩
theorem stb_lst {H : Hp} {p : Addr} {xs : List V} {u : HO} (h : H p = some (.lst xs)) : Stb H (upd H p u) := stb_upd h (fun _ z => nomatch z) (fun _ _ z => nomatch z)
theorem FzL.mono {K : PySem.W.Frag} {H H' : Hp} {a : Addr} {xs : List V} (e : Stb H H') (h : FzL K H a xs) : FzL K H' a xs := by
  rcases h with ⟨o, h⟩ | h
  · exact .inl ⟨o, e.frz _ _ _ h⟩
  · exact .inr h
theorem sqT_mono {K : PySem.W.Frag} {H H' : Hp} {a : Addr} {xs : List V} (e : Stb H H') (h : SqT K H a xs) : SqT K H' a xs := by
  rcases h with (h | ⟨o, h⟩) | h
  · exact .inl (.inl (e.tup _ _ h))
  · exact .inl (.inr ⟨o, e.frz _ _ _ h⟩)
  · exact .inr h
mutual
def Den (K : PySem.W.Frag) (H : Hp) : Z.D → V → Prop
  | .non, v => v = .non
  | .bl b, v => v = .bl b
  | .int i, v => v = .int i
  | .str cs, v => v = .str ⟨cs.toArray⟩
  | .tup ds, v => ∃ a vs, v = .ref a ∧ SqT K H a vs ∧ Dens K H ds vs
  | .lst ds, v => ∃ a vs, v = .ref a ∧ FzL K H a vs ∧ Dens K H ds vs
  | .dct ks ds, v => ∃ a o kvs, v = .ref a ∧ H a = some (.frz o (.dK kvs)) ∧ kvs.map (·.1) = ks.map keyZ ∧ Dens K H ds (kvs.map (·.2))
def Dens (K : PySem.W.Frag) (H : Hp) : List Z.D → List V → Prop
  | [], vs => vs = []
  | d :: ds, vs => ∃ v r, vs = v :: r ∧ Den K H d v ∧ Dens K H ds r
end
section
variable {K : PySem.W.Frag} {H H' : Hp}
mutual
theorem Den.mono (e : Stb H H') : ∀ (d : Z.D) (v : V), Den K H d v → Den K H' d v
  | .non, v, h => by simp only [Den] at h ⊢; exact h
  | .bl b, v, h => by simp only [Den] at h ⊢; exact h
  | .int i, v, h => by simp only [Den] at h ⊢; exact h
  | .str cs, v, h => by simp only [Den] at h ⊢; exact h
  | .tup ds, v, h => by
    simp only [Den] at h ⊢
    obtain ⟨a, vs, e1, q, r⟩ := h
    exact ⟨a, vs, e1, sqT_mono e q, Dens.mono e ds vs r⟩
  | .lst ds, v, h => by
    simp only [Den] at h ⊢
    obtain ⟨a, vs, e1, q, r⟩ := h
    exact ⟨a, vs, e1, q.mono e, Dens.mono e ds vs r⟩
  | .dct ks ds, v, h => by
    simp only [Den] at h ⊢
    obtain ⟨a, o, kvs, e1, q, k, r⟩ := h
    exact ⟨a, o, kvs, e1, e.frz _ _ _ q, k, Dens.mono e ds _ r⟩
theorem Dens.mono (e : Stb H H') : ∀ (ds : List Z.D) (vs : List V), Dens K H ds vs → Dens K H' ds vs
  | [], vs, h => by simp only [Dens] at h ⊢; exact h
  | d :: ds, vs, h => by
    simp only [Dens] at h ⊢
    obtain ⟨v, r, e1, q, t⟩ := h
    exact ⟨v, r, e1, Den.mono e d v q, Dens.mono e ds r t⟩
end
theorem Den.up {d : Z.D} {v : V} (h : Den K H d v) (e : Same H H') : Den K H' d v := Den.mono (stb e) d v h
theorem Den.ups {d : Z.D} {v : V} (h : Den K H d v) (e : Stb H H') : Den K H' d v := Den.mono e d v h
theorem Dens.ups {ds : List Z.D} {vs : List V} (h : Dens K H ds vs) (e : Stb H H') : Dens K H' ds vs := Dens.mono e ds vs h
theorem Dens.up {ds : List Z.D} {vs : List V} (h : Dens K H ds vs) (e : Same H H') : Dens K H' ds vs := Dens.mono (stb e) ds vs h
theorem Dens.nil : Dens K H [] [] := by simp only [Dens]
theorem Dens.cons {d : Z.D} {ds : List Z.D} {v : V} {vs : List V} (h : Den K H d v) (t : Dens K H ds vs) : Dens K H (d :: ds) (v :: vs) := by
  simp only [Dens]; exact ⟨v, vs, rfl, h, t⟩
theorem Dens.length : ∀ {ds : List Z.D} {vs : List V}, Dens K H ds vs → vs.length = ds.length
  | [], vs, h => by simp only [Dens] at h; subst h; rfl
  | d :: ds, vs, h => by
    simp only [Dens] at h
    obtain ⟨v, r, rfl, _, t⟩ := h
    simp [Dens.length t]
theorem Dens.get : ∀ {ds : List Z.D} {vs : List V} {i : Nat} {d : Z.D}, Dens K H ds vs → ds[i]? = some d → ∃ v, vs[i]? = some v ∧ Den K H d v
  | [], _, _, _, _, e => by simp at e
  | x :: ds, vs, 0, d, h, e => by
    simp only [Dens] at h
    obtain ⟨v, r, rfl, q, _⟩ := h
    simp at e; subst e
    exact ⟨v, rfl, q⟩
  | x :: ds, vs, i + 1, d, h, e => by
    simp only [Dens] at h
    obtain ⟨v, r, rfl, _, t⟩ := h
    obtain ⟨u, h1, h2⟩ := Dens.get (i := i) t (by simpa using e)
    exact ⟨u, by simpa using h1, h2⟩
theorem Dens.append : ∀ {ds es : List Z.D} {vs us : List V}, Dens K H ds vs → Dens K H es us → Dens K H (ds ++ es) (vs ++ us)
  | [], _, _, _, h, g => by simp only [Dens] at h; subst h; exact g
  | d :: ds, es, vs, us, h, g => by
    simp only [Dens] at h
    obtain ⟨v, r, rfl, q, t⟩ := h
    exact Dens.cons q (Dens.append t g)
theorem Dens.drop : ∀ {ds : List Z.D} {vs : List V} (n : Nat), Dens K H ds vs → Dens K H (ds.drop n) (vs.drop n)
  | _, _, 0, h => by simpa using h
  | [], vs, _ + 1, h => by simp only [Dens] at h; subst h; simpa using Dens.nil
  | d :: ds, vs, n + 1, h => by
    simp only [Dens] at h
    obtain ⟨v, r, rfl, q, t⟩ := h
    simpa using Dens.drop n t
theorem Dens.take : ∀ {ds : List Z.D} {vs : List V} (n : Nat), Dens K H ds vs → Dens K H (ds.take n) (vs.take n)
  | _, _, 0, h => by simpa using Dens.nil
  | [], vs, _ + 1, h => by simp only [Dens] at h; subst h; simpa using Dens.nil
  | d :: ds, vs, n + 1, h => by
    simp only [Dens] at h
    obtain ⟨v, r, rfl, q, t⟩ := h
    simpa using Dens.cons q (Dens.take n t)
theorem Dens.set : ∀ {ds : List Z.D} {vs : List V} {d : Z.D} {v : V} (n : Nat), Dens K H ds vs → Den K H d v → Dens K H (ds.set n d) (vs.set n v)
  | [], vs, _, _, _, h, _ => by simp only [Dens] at h; subst h; simpa using Dens.nil
  | x :: ds, vs, d, v, 0, h, q => by
    simp only [Dens] at h
    obtain ⟨u, r, rfl, _, t⟩ := h
    simpa using Dens.cons q t
  | x :: ds, vs, d, v, n + 1, h, q => by
    simp only [Dens] at h
    obtain ⟨u, r, rfl, p, t⟩ := h
    simpa using Dens.cons p (Dens.set n t q)
theorem Dens.zints : ∀ (ns : List Int), Dens K H (ns.map Z.D.int) (ns.map V.int)
  | [] => Dens.nil
  | n :: ns => Dens.cons (by simp only [Den]) (Dens.zints ns)
def DenW (K : PySem.W.Frag) (H : Hp) (d : Z.D) (v : V) : Prop := Den K H d v ∨ ∃ ds a vs, d = .lst ds ∧ v = .ref a ∧ H a = some (.lst vs) ∧ Dens K H ds vs
theorem DenW.up {d : Z.D} {v : V} (h : DenW K H d v) (e : Same H H') : DenW K H' d v := by
  rcases h with h | ⟨ds, a, vs, e1, e2, q, t⟩
  · exact .inl (h.up e)
  · exact .inr ⟨ds, a, vs, e1, e2, e _ _ q, t.up e⟩
theorem DenW.strong {d : Z.D} {v : V} (h : DenW K H d v) (n : ∀ ds, d ≠ .lst ds) : Den K H d v := by
  rcases h with h | ⟨ds, a, vs, e1, _⟩
  · exact h
  · exact absurd e1 (n ds)
theorem DenW.non {v : V} (h : DenW K H .non v) : v = .non := by
  have := h.strong (fun _ z => nomatch z); simpa only [Den] using this
theorem DenW.bl {b : Bool} {v : V} (h : DenW K H (.bl b) v) : v = .bl b := by
  have := h.strong (fun _ z => nomatch z); simpa only [Den] using this
theorem DenW.int {i : Int} {v : V} (h : DenW K H (.int i) v) : v = .int i := by
  have := h.strong (fun _ z => nomatch z); simpa only [Den] using this
theorem DenW.str {cs : List Nat} {v : V} (h : DenW K H (.str cs) v) : v = .str ⟨cs.toArray⟩ := by
  have := h.strong (fun _ z => nomatch z); simpa only [Den] using this
theorem DenW.tup {ds : List Z.D} {v : V} (h : DenW K H (.tup ds) v) : ∃ a vs, v = .ref a ∧ SqT K H a vs ∧ Dens K H ds vs := by
  have := h.strong (fun _ z => nomatch z); simpa only [Den] using this
theorem DenW.lst {ds : List Z.D} {v : V} (h : DenW K H (.lst ds) v) : ∃ a vs, v = .ref a ∧ SqL K H a vs ∧ Dens K H ds vs := by
  rcases h with h | ⟨es, a, vs, e1, e2, q, t⟩
  · simp only [Den] at h
    obtain ⟨a, vs, e, q, t⟩ := h
    exact ⟨a, vs, e, q.sq, t⟩
  · cases e1
    exact ⟨a, vs, e2, .inl (.inl q), t⟩
theorem DenW.dct {ks : List (Sum Int (List Nat))} {ds : List Z.D} {v : V} (h : DenW K H (.dct ks ds) v) : ∃ a o kvs, v = .ref a ∧ H a = some (.frz o (.dK kvs)) ∧ kvs.map (·.1) = ks.map keyZ ∧ Dens K H ds (kvs.map (·.2)) := by
  have := h.strong (fun _ z => nomatch z); simpa only [Den] using this
theorem den_non : Den K H .non .non := by simp only [Den]
theorem den_bl {b : Bool} : Den K H (.bl b) (.bl b) := by simp only [Den]
theorem den_int {i : Int} : Den K H (.int i) (.int i) := by simp only [Den]
theorem den_str {cs : List Nat} : Den K H (.str cs) (.str ⟨cs.toArray⟩) := by simp only [Den]
theorem den_tup {ds : List Z.D} {a : Addr} {vs : List V} (h : SqT K H a vs) (t : Dens K H ds vs) : Den K H (.tup ds) (.ref a) := by
  simp only [Den]; exact ⟨a, vs, rfl, h, t⟩
theorem den_lst {ds : List Z.D} {a : Addr} {vs : List V} (h : FzL K H a vs) (t : Dens K H ds vs) : Den K H (.lst ds) (.ref a) := by
  simp only [Den]; exact ⟨a, vs, rfl, h, t⟩
end
def entI (x : List Int × Addr × Value) : DictEntry := { hash := reduceHash (Builtin.Tuple.tupleHashOf (x.1.map hashInt)), key := .ref x.2.1, val := x.2.2 }
def DicAt (a : Addr) (ks : List (List Int)) (as : List Addr) (h : Heap) : Prop := ks.length ≤ sizeLine ∧ (a == sysModules) = false ∧ ∃ (xs : List (List Int × Addr × Value)) (o : Obj) (es : Array DictEntry) (ep : Nat), xs.map (·.1) = ks ∧ xs.map (·.2.1) = as ∧ h.get? a = some o ∧ o.ExactDict ∧ o.data = .dict es ep ∧ es.toList = xs.map entI ∧ ks.Nodup
abbrev DicO (a : Addr) (ks : List (List Int)) (as : List Addr) : HO := .ext (DicAt a ks as)
def KeysAt (K : PySem.W.Frag) (H : Hp) (ks : List (List Int)) (as : List Addr) : Prop := Paired (fun (k : List Int) (b : Addr) => Den K H (.tup (k.map .int)) (.ref b)) ks as
def kvI (ps : List (Int × Int)) : List (Key × V) := ps.map fun p => (Sum.inl p.1, V.int p.2)
def RL (K : PySem.W.Frag) (H : Hp) : Z.L → V → Prop
  | .val d, v => Den K H d v
  | .own ds, v => ∃ a vs, v = .ref a ∧ H a = some (.lst vs) ∧ Dens K H ds vs
  | .bor ds, v => DenW K H (.lst ds) v
  | .dic ks, v => ∃ a as, v = .ref a ∧ H a = some (DicO a ks as) ∧ KeysAt K H ks as
  | .fdc ks, v => ∃ a o as, v = .ref a ∧ H a = some (.frz o (DicO a ks as)) ∧ KeysAt K H ks as
  | .idc ps, v => ∃ a o, v = .ref a ∧ H a = some (.frz o (.dK (kvI ps)))
theorem KeysAt.ups {K : PySem.W.Frag} {H H' : Hp} {ks : List (List Int)} {as : List Addr} (h : KeysAt K H ks as) (e : Stb H H') : KeysAt K H' ks as := Paired.mapP h fun _ _ d => Den.ups d e
structure RE (K : PySem.W.Frag) (H : Hp) (σ : St) (ρ : Z.Env) : Prop where
  len : ρ.length = σ.length
  get : ∀ (i : Nat) (l : Z.L), ρ[i]? = some (some l) → ∃ v, σ[i]? = some (some v) ∧ RL K H l v
  sep : ∀ (i j : Nat) (xs ys : List Z.D) (a : Addr), ρ[i]? = some (some (.own xs)) → ρ[j]? = some (some (.own ys)) → σ[i]? = some (some (.ref a)) → σ[j]? = some (some (.ref a)) → i = j
section
variable {K : PySem.W.Frag} {H H' : Hp} {σ : St} {ρ : Z.Env}
theorem RL.up {l : Z.L} {v : V} (h : RL K H l v) (e : Same H H') : RL K H' l v := by
  cases l with
  | val d => exact Den.up (show Den K H d v from h) e
  | own ds =>
    obtain ⟨a, vs, e1, q, t⟩ := h
    exact ⟨a, vs, e1, e _ _ q, t.up e⟩
  | bor ds => exact DenW.up (show DenW K H (.lst ds) v from h) e
  | dic ks =>
    obtain ⟨a, as, e1, q, t⟩ := h
    exact ⟨a, as, e1, e _ _ q, t.ups (stb e)⟩
  | fdc ks =>
    obtain ⟨a, o, as, e1, q, t⟩ := h
    exact ⟨a, o, as, e1, e _ _ q, t.ups (stb e)⟩
  | idc ps =>
    obtain ⟨a, o, e1, q⟩ := h
    exact ⟨a, o, e1, e _ _ q⟩
theorem RE.up (h : RE K H σ ρ) (e : Same H H') : RE K H' σ ρ :=
  ⟨h.len, fun i l q => let ⟨v, h1, h2⟩ := h.get i l q; ⟨v, h1, h2.up e⟩, h.sep⟩
theorem upd_Same {a : Addr} {o : HO} (h : H a = none) : Same H (upd H a o) := fun b u e => by
  rw [upd_ne (ne_of_none e h)]; exact e
end
def tZ (K : PySem.W.Frag) (f : Z.EF) : TE := fun σ H Q => ∃ ρ d, RE K H σ ρ ∧ f ρ = .ok d ∧ ∀ v H', Same H H' → Den K H' d v → Q v H'
def tZw (K : PySem.W.Frag) (f : Z.EF) : TE := fun σ H Q => ∃ ρ d, RE K H σ ρ ∧ f ρ = .ok d ∧ ∀ v H', Same H H' → DenW K H' d v → Q v H'
def tZl (K : PySem.W.Frag) (f : Z.LF) : TE := fun σ H Q => ∃ ρ ds, RE K H σ ρ ∧ f ρ = .ok ds ∧ ∀ a vs H', Same H H' → H a = none → H' a = some (.lst vs) → Dens K H' ds vs → Q (.ref a) H'
def tZt (K : PySem.W.Frag) (f : Z.TF) : TT := fun σ H Q => ∃ ρ b, RE K H σ ρ ∧ f ρ = .ok b ∧ ∀ H', Same H H' → Q b H'
def tZa (K : PySem.W.Frag) (f : Z.AF) : TA := fun σ H Q => ∃ ρ ds, RE K H σ ρ ∧ f ρ = .ok ds ∧ ∀ vs H', Same H H' → Dens K H' ds vs → Q vs H'
def tZp (K : PySem.W.Frag) (f : Z.PF) : TO := fun σ H Q => ∃ ρ o, RE K H σ ρ ∧ f ρ = .ok o ∧ ∀ H', Same H H' → Q o H'
abbrev DE (X : Cx) (e : Expr) (f : Z.EF) : Prop := PE X e (tZ X.K f)
abbrev DW (X : Cx) (e : Expr) (f : Z.EF) : Prop := PE X e (tZw X.K f)
abbrev DL (X : Cx) (e : Expr) (f : Z.LF) : Prop := PE X e (tZl X.K f)
abbrev DT (X : Cx) (e : Expr) (f : Z.TF) : Prop := PT X e (tZt X.K f)
abbrev DTW (X : Cx) (e : Expr) (f : Z.TF) : Prop := PW X e (tZt X.K f)
abbrev DA (X : Cx) (es : List Expr) (f : Z.AF) : Prop := PA X es (tZa X.K f)
abbrev DP (X : Cx) (e : Option Expr) (f : Z.PF) : Prop := PO X e (tZp X.K f)
section
variable {X : Cx} {e a b c : Expr} {es : List Expr} {pos : Pos} {f fa fb fc : Z.EF}
theorem PE.imp {t t' : TE} (h : PE X e t) (k : ∀ σ H Q, t' σ H Q → t σ H Q) : PE X e t' := fun pins s σ H Q I w => h pins s σ H Q I (k σ H Q w)
theorem PT.imp {t t' : TT} (h : PT X e t) (k : ∀ σ H Q, t' σ H Q → t σ H Q) : PT X e t' := fun pins s σ H Q I w => h pins s σ H Q I (k σ H Q w)
theorem PW.imp {t t' : TT} (h : PW X e t) (k : ∀ σ H Q, t' σ H Q → t σ H Q) : PW X e t' := fun whole pins s σ H Q I w => h whole pins s σ H Q I (k σ H Q w)
theorem PA.imp {t t' : TA} (h : PA X es t) (k : ∀ σ H Q, t' σ H Q → t σ H Q) : PA X es t' := fun p pins s σ H Q I w => h p pins s σ H Q I (k σ H Q w)
theorem PO.imp {o : Option Expr} {t t' : TO} (h : PO X o t) (k : ∀ σ H Q, t' σ H Q → t σ H Q) : PO X o t' := fun pins s σ H Q I w => h pins s σ H Q I (k σ H Q w)
theorem de_c {v : V} {d : Z.D} (h : PE X e (tC v)) (hd : ∀ H, Den X.K H d v) : DE X e (Z.eC d) := PE.imp h fun σ H Q ⟨ρ, d', _, e, k⟩ => by
  have e' : Z.Res.ok d = Z.Res.ok d' := e
  cases e'
  exact k v H (Same.refl H) (hd H)
theorem de_int {i : Int} {j} : DE X (.Constant (.int i) j pos) (Z.eC (.int i)) := de_c pe_int fun _ => den_int
theorem de_bl {x : Bool} {j} : DE X (.Constant (.bool x) j pos) (Z.eC (.bl x)) := de_c pe_bl fun _ => den_bl
theorem de_str {x : Str} {cs : List Nat} {j} (h : x = ⟨cs.toArray⟩) : DE X (.Constant (.str x) j pos) (Z.eC (.str cs)) := by
  subst h; exact de_c pe_str fun _ => den_str
theorem eV_ok {i : Nat} {ρ : Z.Env} {d : Z.D} (h : Z.eV i ρ = .ok d) : ρ[i]? = some (some (.val d)) := by
  unfold Z.eV at h
  split at h
  · rename_i d' q; cases h; exact q
  · cases h
theorem eW_ok {i : Nat} {ρ : Z.Env} {d : Z.D} (h : Z.eW i ρ = .ok d) : ρ[i]? = some (some (.val d)) ∨ (∃ xs, ρ[i]? = some (some (.own xs)) ∧ d = .lst xs) ∨ ∃ xs, ρ[i]? = some (some (.bor xs)) ∧ d = .lst xs := by
  unfold Z.eW at h
  split at h
  · rename_i d' q; cases h; exact .inl q
  · rename_i xs q; cases h; exact .inr (.inl ⟨xs, q, rfl⟩)
  · rename_i xs q; cases h; exact .inr (.inr ⟨xs, q, rfl⟩)
  · cases h
theorem de_var {i : Nat} (h : PE X e (tVar i)) : DE X e (Z.eV i) := PE.imp h fun σ H Q ⟨ρ, d, r, e, k⟩ => by
  obtain ⟨v, h1, h2⟩ := r.get i _ (eV_ok e)
  exact ⟨v, h1, k v H (Same.refl H) h2⟩
theorem dw_var {i : Nat} (h : PE X e (tVar i)) : DW X e (Z.eW i) := PE.imp h fun σ H Q ⟨ρ, d, r, e, k⟩ => by
  rcases eW_ok e with q | ⟨xs, q, rfl⟩ | ⟨xs, q, rfl⟩
  rotate_left
  rotate_left
  · obtain ⟨v, h1, h2⟩ := r.get i _ q
    exact ⟨v, h1, k v H (Same.refl H) h2⟩
  · obtain ⟨v, h1, h2⟩ := r.get i _ q
    exact ⟨v, h1, k v H (Same.refl H) (.inl h2)⟩
  · obtain ⟨v, h1, a, vs, rfl, h2, h3⟩ := r.get i _ q
    exact ⟨_, h1, k _ H (Same.refl H) (.inr ⟨xs, a, vs, rfl, rfl, h2, h3⟩)⟩
theorem de_v (i : Nat) {x : Str} (hN : X.N[i]? = some x := by rfl) (hv : Vis X.env.scope x := by first | exact Or.inl rfl | exact Or.inr (Or.inl rfl) | exact Or.inr (Or.inr rfl)) (hd : (x == ("__debug__" : Str)) = false := by decide +kernel)
    (hcd : (x == ("__classdict__" : Str)) = false := by decide +kernel) : DE X (.Name x pos) (Z.eV i) := de_var (pe_var hN hv hd hcd)
theorem dw_v (i : Nat) {x : Str} (hN : X.N[i]? = some x := by rfl) (hv : Vis X.env.scope x := by first | exact Or.inl rfl | exact Or.inr (Or.inl rfl) | exact Or.inr (Or.inr rfl)) (hd : (x == ("__debug__" : Str)) = false := by decide +kernel)
    (hcd : (x == ("__classdict__" : Str)) = false := by decide +kernel) : DW X (.Name x pos) (Z.eW i) := dw_var (pe_var hN hv hd hcd)
theorem de_glob {x : Str} {u : Value} {v : V} {d : Z.D} (hg : Gl X x) (hm : X.mg x = some u) (r : RelV v u) (hd : ∀ H, Den X.K H d v) (hb : (x == ("__debug__" : Str)) = false := by decide +kernel) : DE X (.Name x pos) (Z.eC d) :=
  de_c (pe_glob hg hm r hb) hd
theorem dw_e (h : DE X e f) : DW X e f := PE.imp h fun σ H Q ⟨ρ, d, r, e, k⟩ => ⟨ρ, d, r, e, fun v H' s q => k v H' s (.inl q)⟩
theorem dw_l {l : Z.LF} (h : DL X e l) : DW X e (Z.eL l) := PE.imp h fun σ H Q ⟨ρ, d, r, e, k⟩ => by
  unfold Z.eL at e
  cases q : l ρ with
  | bad => rw [q] at e; cases e
  | ok ds =>
    rw [q] at e; cases e
    exact ⟨ρ, ds, r, q, fun a vs H' s hn h1 h2 => k _ H' s (.inr ⟨ds, a, vs, rfl, rfl, h1, h2⟩)⟩
theorem inv_freeze {pins : List (Addr × Obj)} {σ : St} {H : Hp} {s : Shared} {p : Addr} {xs : List V} (I : Inv X pins σ H s) (h : H p = some (.lst xs)) : ∃ o, Inv X pins σ (upd H p (.frz o (.lst xs))) s := by
  obtain ⟨z, its, n, r, ho⟩ := I.hok p _ h
  refine ⟨_, I.un (H' := upd H p (.frz { cls := .type "list", data := .seq its.toArray n } (.lst xs))) (h' := s.heap) (t' := s.toks) ?_ ?_⟩
  · have ne : ∀ b, H b = none → b ≠ p := fun b e q => by rw [q, h] at e; cases e
    refine ⟨fun b o q _ _ _ => q, fun b o q _ _ _ => ⟨o.slots, q⟩, fun b o q e _ => by rw [upd_ne (ne b e)]; exact e, fun b o q _ => ⟨o, q⟩, fun b ys e => ?_, fun b o u e => ?_, fun b ps e => ?_⟩
    · have : b ≠ p := by rintro rfl; rw [h] at e; cases e
      rw [upd_ne this]; exact e
    · have : b ≠ p := by rintro rfl; rw [h] at e; cases e
      rw [upd_ne this]; exact e
    · have : b ≠ p := by rintro rfl; rw [h] at e; cases e
      exact ⟨#[], by rw [upd_ne this, e]; simp⟩
  · intro b u e
    by_cases hb : b = p
    · subst hb
      rw [upd_same] at e; cases e
      exact ⟨ho, z, its, n, r, ho⟩
    · rw [upd_ne hb] at e
      refine (I.hok b u e).stay (fun c w _ q => q) (fun c q => ?_) fun c ys q => ?_
      · have : c ≠ p := by rintro rfl; rw [h] at q; cases q
        rw [upd_ne this]; exact q
      · have : c ≠ p := by rintro rfl; rw [h] at q; cases q
        rw [upd_ne this]; exact q
theorem same_frz {H H1 : Hp} {p : Addr} {o : Obj} {xs : List V} (s : Same H H1) (hn : H p = none) : Same H (upd H1 p (.frz o (.lst xs))) := fun b u e => by
  rw [upd_ne (ne_of_none e hn)]; exact s b u e
theorem de_l {l : Z.LF} (h : DL X e l) : DE X e (Z.eL l) := by
  intro pins s σ H Q I w
  obtain ⟨ρ, d, r, e, k⟩ := w
  unfold Z.eL at e
  cases q : l ρ with
  | bad => rw [q] at e; cases e
  | ok ds =>
    rw [q] at e; cases e
    refine thn (h pins s σ H (fun v H1 => ∃ a vs, v = .ref a ∧ Same H H1 ∧ H a = none ∧ H1 a = some (.lst vs) ∧ Dens X.K H1 ds vs) I ⟨ρ, ds, r, q, fun a vs H1 s1 hn h1 h2 => ⟨a, vs, rfl, s1, hn, h1, h2⟩⟩) ?_
    rintro u s' ⟨v, H1, I1, rv, a, vs, rfl, s1, hn, h1, h2⟩
    obtain ⟨o, I2⟩ := inv_freeze I1 h1
    exact ⟨_, _, I2, rv, k _ _ (same_frz s1 hn) (den_lst (.inl ⟨o, upd_same⟩) (h2.ups (stb_lst h1)))⟩
def OpZ (K : PySem.W.Frag) (r : R2) (o : Z.D → Z.D → Z.Res Z.D) : Prop := ∀ (x y : V) (dx dy d : Z.D) (H : Hp) (Q : VK), DenW K H dx x → DenW K H dy y → o dx dy = .ok d → (∀ v H', Same H H' → Den K H' d v → Q v H') → r x y H Q
theorem two {r : R2} {o : Z.D → Z.D → Z.Res Z.D} (hz : OpZ X.K r o) : ∀ σ H Q, tZ X.K (Z.eB o fa fb) σ H Q → tOp r (tZw X.K fa) (tZw X.K fb) σ H Q := by
  rintro σ H Q ⟨ρ, d, re, e, k⟩
  obtain ⟨x, ea, e⟩ := Z.Res.bind_ok e
  obtain ⟨y, eb, e⟩ := Z.Res.bind_ok e
  exact ⟨ρ, x, re, ea, fun v H1 s1 d1 => ⟨ρ, y, re.up s1, eb, fun u H2 s2 d2 => hz _ _ _ _ _ H2 Q (d1.up s2) d2 e fun w H' s3 dw => k w H' ((s1.trans s2).trans s3) dw⟩⟩
theorem de_op {op : Operator} {r : R2} {o : Z.D → Z.D → Z.Res Z.D} (hr : OpR X (binaryOp op) r) (hz : OpZ X.K r o) (ha : DW X a fa) (hb : DW X b fb) : DE X (.BinOp a op b pos) (Z.eB o fa fb) :=
  PE.imp (pe_op hr ha hb) (two hz)
theorem OpZ.or {K : PySem.W.Frag} {r r' : R2} {o : Z.D → Z.D → Z.Res Z.D} (h : ∀ (x y : V) (dx dy d : Z.D) (H : Hp) (Q : VK), DenW K H dx x → DenW K H dy y → o dx dy = .ok d → (∀ v H', Same H H' → Den K H' d v → Q v H') → r x y H Q ∨ r' x y H Q) : OpZ K (fun x y H Q => r x y H Q ∨ r' x y H Q) o := h
theorem opz_int {K : PySem.W.Frag} {C : Int → Int → Prop} {g : Int → Int → Int} {o : Z.D → Z.D → Z.Res Z.D} (h : ∀ dx dy d, o dx dy = .ok d → ∃ i j, dx = .int i ∧ dy = .int j ∧ C i j ∧ d = .int (g i j)) : OpZ K (rI C fun i j => .int (g i j)) o := by
  intro x y dx dy d H Q h1 h2 e k
  obtain ⟨i, j, rfl, rfl, hc, rfl⟩ := h _ _ _ e
  exact ⟨i, j, h1.int, h2.int, hc, k _ H (Same.refl H) den_int⟩
theorem opz_int0 {K : PySem.W.Frag} {g : Int → Int → V} {gd : Int → Int → Z.D} {o : Z.D → Z.D → Z.Res Z.D} (h : ∀ dx dy d, o dx dy = .ok d → ∃ i j, dx = .int i ∧ dy = .int j ∧ d = gd i j) (hg : ∀ i j H, Den K H (gd i j) (g i j)) : OpZ K (rI0 g) o := by
  intro x y dx dy d H Q h1 h2 e k
  obtain ⟨i, j, rfl, rfl, rfl⟩ := h _ _ _ e
  exact ⟨i, j, h1.int, h2.int, k _ H (Same.refl H) (hg i j H)⟩
theorem de_sub (ha : DW X a fa) (hb : DW X b fb) : DE X (.BinOp a .Sub b pos) (Z.eB Z.oSub fa fb) := de_op op_sub (opz_int0 (gd := fun i j => .int (i - j)) (fun dx dy d e => by
  unfold Z.oSub at e; split at e
  · cases e; exact ⟨_, _, rfl, rfl, rfl⟩
  · cases e) fun _ _ _ => den_int) ha hb
def CMulZ (i j : Int) : Prop := IntMulOk i j
theorem op_mulZ : OpR X (binaryOp .Mult) (rI CMulZ fun i j => .int (i * j)) := opI fun _ _ _ _ _ _ _ hc q => mul_int q hc
theorem bits_eq (i : Int) : Z.bits i = Builtin.Int.intBits i := by
  unfold Z.bits Builtin.Int.intBits
  by_cases h : i = 0
  · subst h; simp
  · first
      | (simp [h]; done)
      | (rw [if_neg h]; simp [h]; done)
theorem mulFits_ok {i j : Int} (h : Z.mulFits i j) : IntMulOk i j := by
  unfold Z.mulFits at h
  rcases h with h | h | ⟨h1, h2⟩
  · exact IntMulOk.of_left (intBits_le_64 (by omega) (by omega))
  · exact IntMulOk.of_right (intBits_le_64 (by omega) (by omega))
  · rw [bits_eq] at h1 h2
    exact mulOk_of_bits h1 h2 (by decide)
theorem de_mul (ha : DW X a fa) (hb : DW X b fb) : DE X (.BinOp a .Mult b pos) (Z.eB Z.oMul fa fb) := de_op op_mulZ (opz_int fun dx dy d e => by
  unfold Z.oMul at e
  split at e
  · unfold Z.guard at e
    split at e
    · rename_i h; cases e; exact ⟨_, _, rfl, rfl, mulFits_ok h, rfl⟩
    · cases e
  · cases e) ha hb
def CDivZ (_ j : Int) : Prop := Z.divFits j
theorem divFits_ok {j : Int} (h : Z.divFits j) : 0 < j ∧ j.natAbs.log2 < 9000 := by
  have h0 := h.1
  have h1 := h.2
  have hn : j.natAbs ≠ 0 := by omega
  have h2 : j.natAbs < 2 ^ 250 := by
    have : (2 : Nat) ^ 250 = 1809251394333065553493296640760748560207343510400633813116524750123642650624 := by decide
    omega
  have := (Nat.log2_lt hn).mpr h2
  exact ⟨h0, by omega⟩
theorem op_divZ : OpR X (binaryOp .FloorDiv) (rI CDivZ fun i j => .int (i / j)) := opI fun i j _ _ _ _ _ hc q => by
  obtain ⟨h0, h1⟩ := divFits_ok hc
  have e : i.fdiv j = i / j := Int.fdiv_eq_ediv_of_nonneg i (Int.le_of_lt h0)
  exact floordiv_int (Int.ne_of_gt h0) (by rw [e]; exact q) (.inl (PyProof.noPylong_of_log2 h1))
theorem de_div (ha : DW X a fa) (hb : DW X b fb) : DE X (.BinOp a .FloorDiv b pos) (Z.eB Z.oDiv fa fb) := de_op op_divZ (opz_int fun dx dy d e => by
  unfold Z.oDiv at e
  split at e
  · unfold Z.guard at e
    split at e
    · rename_i h; cases e; exact ⟨_, _, rfl, rfl, h, rfl⟩
    · cases e
  · cases e) ha hb
theorem de_mod (ha : DW X a fa) (hb : DW X b fb) : DE X (.BinOp a .Mod b pos) (Z.eB Z.oMod fa fb) := de_op op_mod (opz_int fun dx dy d e => by
  unfold Z.oMod at e
  split at e
  · unfold Z.guard at e
    split at e
    · rename_i h; cases e; exact ⟨_, _, rfl, rfl, h, rfl⟩
    · cases e
  · cases e) ha hb
theorem de_shr (ha : DW X a fa) (hb : DW X b fb) : DE X (.BinOp a .RShift b pos) (Z.eB Z.oShr fa fb) := de_op op_shr (opz_int fun dx dy d e => by
  unfold Z.oShr at e
  split at e
  · unfold Z.guard at e
    split at e
    · rename_i h; cases e; exact ⟨_, _, rfl, rfl, h, rfl⟩
    · cases e
  · cases e) ha hb
theorem de_pow (ha : DW X a fa) (hb : DW X b fb) : DE X (.BinOp a .Pow b pos) (Z.eB Z.oPow fa fb) := de_op op_pow (opz_int fun dx dy d e => by
  unfold Z.oPow at e
  split at e
  · unfold Z.guard at e
    split at e
    · rename_i h; cases e; exact ⟨_, _, rfl, rfl, h, rfl⟩
    · cases e
  · cases e) ha hb
theorem de_shl (ha : DW X a fa) (hb : DW X b fb) : DE X (.BinOp a .LShift b pos) (Z.eB Z.oShl fa fb) := de_op op_shl (opz_int fun dx dy d e => by
  unfold Z.oShl at e
  split at e
  · unfold Z.guard at e
    split at e
    · rename_i h; cases e; exact ⟨_, _, rfl, rfl, h, rfl⟩
    · cases e
  · cases e) ha hb
def rCatZ (K : PySem.W.Frag) : R2 := fun x y H Q => ∃ a b xs ys, x = .ref a ∧ y = .ref b ∧ SqT K H a xs ∧ SqT K H b ys ∧ xs.length + ys.length ≤ sizeLine ∧
  (xs = [] → Q (.ref b) H) ∧ (ys = [] → Q (.ref a) H) ∧ (∀ p, H p = none → Q (.ref p) (upd H p (.tup (xs ++ ys))))
theorem op_catZ : OpR X (binaryOp .Add) (rCatZ X.K) := by
  intro pins s σ H x y v u Q I rx ry h
  obtain ⟨p, q, xs, ys, rfl, rfl, hp, hq, hz, q0, q1, q2⟩ := h
  by_cases hx : xs = []
  · cases rx
    cases ry
    obtain ⟨its, r1, ht, _⟩ := I.tuple hp
    obtain ⟨its2, r2, hb, _⟩ := I.tuple hq
    obtain ⟨⟨cls, dd, data, sl⟩, ho, hc, n, hd⟩ := id ht
    obtain ⟨⟨cls2, dd2, data2, sl2⟩, ho2, hc2, n2, hd2⟩ := id hb
    simp only at hc hd hc2 hd2
    subst hc hd hc2 hd2
    have e0 : its = [] := r1.nil_iff.mpr hx
    exact concat_meets ⟨_, ho, rfl⟩ ⟨_, ho2, rfl⟩ noFill_tuple_add seq_tuple_add PySem.F.slot_tuple_add PySem.F.entry_tuple_add (PySem.F.args_tuple_add_2 _ _)
      (tuple_addW0 p q its.toArray its2.toArray n n2 dd dd2 sl sl2 (by simp [e0])) ⟨ho, ho2, ⟨.ref q, H, I, rfl, q0 hx⟩⟩
  · exact op_catT pins s σ H _ _ v u Q I rx ry ⟨p, q, xs, ys, rfl, rfl, hp, hq, hx, hz, q1, fun _ => q2⟩
theorem str_app (a b : List Nat) : (⟨a.toArray⟩ : Str) ++ (⟨b.toArray⟩ : Str) = ⟨(a ++ b).toArray⟩ := by
  show (⟨a.toArray ++ b.toArray⟩ : Str) = _
  simp
theorem de_add (ha : DW X a fa) (hb : DW X b fb) : DE X (.BinOp a .Add b pos) (Z.eB Z.oAdd fa fb) := de_op (op_add.or (op_add_str.or op_catZ)) (fun x y dx dy d H Q h1 h2 e k => by
  unfold Z.oAdd at e
  split at e
  · cases e
    exact .inl ⟨_, _, h1.int, h2.int, k _ H (Same.refl H) den_int⟩
  · unfold Z.guard at e
    split at e
    · rename_i as bs h; cases e
      refine .inr (.inl ⟨_, _, h1.str, h2.str, ?_, ?_⟩)
      · show as.toArray.size + bs.toArray.size ≤ sizeLine
        rw [sizeLine_eq]; simpa using h
      · rw [str_app]; exact k _ H (Same.refl H) den_str
    · cases e
  · unfold Z.guard at e
    split at e
    · rename_i as bs h; cases e
      obtain ⟨p, xs, rfl, hp, t1⟩ := h1.tup
      obtain ⟨q, ys, rfl, hq, t2⟩ := h2.tup
      refine .inr (.inr ⟨p, q, xs, ys, rfl, rfl, hp, hq, ?_, ?_, ?_, ?_⟩)
      · rw [t1.length, t2.length, sizeLine_eq]; exact h
      · rintro rfl
        have : as = [] := List.eq_nil_of_length_eq_zero (by rw [← t1.length]; rfl)
        subst this
        exact k _ H (Same.refl H) (den_tup hq t2)
      · rintro rfl
        have : bs = [] := List.eq_nil_of_length_eq_zero (by rw [← t2.length]; rfl)
        subst this
        rw [List.append_nil] at k
        exact k _ H (Same.refl H) (den_tup hp t1)
      · intro z hn
        have s1 : Same H (upd H z (.tup (xs ++ ys))) := upd_Same hn
        exact k _ _ s1 (den_tup (.inl (.inl upd_same)) ((t1.append t2).up s1))
    · cases e
  · cases e) ha hb
end
end ZS
set_option Elab.async false
set_option linter.all false
set_option maxHeartbeats 4000000
namespace ZS
section
open PySem Builtin Builtin.Str
end
open PySem PySem.Spec PyProof.Rows L2
section
variable {X : Cx} {e a b c : Expr} {es : List Expr} {pos p : Pos} {f fa fb fc : Z.EF}
theorem dt_of {t : TE} (h : PT X e (tTest t)) (k : ∀ σ H Q, tZ X.K f σ H Q → t σ H Q) : DT X e (Z.tE f) := PT.imp h fun σ H Q ⟨ρ, b, r, e, q⟩ => by
  obtain ⟨x, ea, e⟩ := Z.Res.bind_ok e
  refine k σ H _ ⟨ρ, x, r, ea, fun v H' s d => ?_⟩
  split at e
  · cases e
    simp only [Den] at d
    exact ⟨_, d, q H' s⟩
  · cases e
theorem dt_cmp {op : CmpOp} {r : R2} {o : Z.D → Z.D → Z.Res Z.D} (hr : OpR X (compareOp op) r) (hz : OpZ X.K r o) (ha : DW X a fa) (hb : DW X b fb) (hm : behindInMarks op b = false) : DT X (.Compare a [op] [b] pos) (Z.tE (Z.eB o fa fb)) :=
  dt_of (pt_cmpR hr ha hb hm) (two hz)
structure Cmp (X : Cx) (op : CmpOp) (o : Z.D → Z.D → Z.Res Z.D) : Prop where
  ex : ∃ r, OpR X (compareOp op) r ∧ OpZ X.K r o
theorem dt_cmpC {op : CmpOp} {o : Z.D → Z.D → Z.Res Z.D} (h : Cmp X op o) (ha : DW X a fa) (hb : DW X b fb) (hm : behindInMarks op b = false) : DT X (.Compare a [op] [b] pos) (Z.tE (Z.eB o fa fb)) :=
  let ⟨_, hr, hz⟩ := h.ex; dt_cmp hr hz ha hb hm
theorem c_lt : Cmp X .Lt Z.oLt := ⟨_, op_lt, opz_int0 (gd := fun i j => .bl (decide (i < j))) (fun dx dy d e => by
  unfold Z.oLt at e; split at e
  · cases e; exact ⟨_, _, rfl, rfl, rfl⟩
  · cases e) fun _ _ _ => den_bl⟩
theorem c_gt : Cmp X .Gt Z.oGt := ⟨_, op_gt, opz_int0 (gd := fun i j => .bl (decide (j < i))) (fun dx dy d e => by
  unfold Z.oGt at e; split at e
  · cases e; exact ⟨_, _, rfl, rfl, rfl⟩
  · cases e) fun _ _ _ => den_bl⟩
def isNon : Z.D → Bool
  | .non => true
  | _ => false
theorem de_one {op} (h : DE X a fa) : DE X (.BoolOp op [a] pos) fa := pe_one h
theorem de_and {rest : List Expr} (ha : DE X a fa) (hb : DE X (.BoolOp .And (b :: rest) pos) fb) : DE X (.BoolOp .And (a :: b :: rest) pos) (Z.eAnd fa fb) := PE.imp (pe_and ha hb) fun σ H Q ⟨ρ, d, r, e, k⟩ => by
  obtain ⟨x, ea, e⟩ := Z.Res.bind_ok e
  refine ⟨ρ, x, r, ea, fun v H1 s1 d1 => ?_⟩
  split at e
  · rename_i q
    simp only [Den] at d1
    refine ⟨q, d1, ?_⟩
    cases q with
    | true =>
      simp only [if_true] at e ⊢
      exact ⟨ρ, d, r.up s1, e, fun w H' s2 dw => k w H' (s1.trans s2) dw⟩
    | false =>
      simp only [Bool.false_eq_true, if_false] at e ⊢
      cases e
      exact k _ H1 s1 den_bl
  · cases e
theorem de_not (ha : DE X a fa) : DE X (.UnaryOp .Not a pos) (Z.eNot fa) := PE.imp (pe_not ha) fun σ H Q ⟨ρ, d, r, e, k⟩ => by
  obtain ⟨x, ea, e⟩ := Z.Res.bind_ok e
  refine ⟨ρ, x, r, ea, fun v H1 s1 d1 => ?_⟩
  split at e
  · simp only [Den] at d1
    cases e
    exact ⟨_, d1, k _ H1 s1 den_bl⟩
  · cases e
theorem tb_imp : ∀ σ H (Q : Bool → Hp → Prop), tZt X.K (Z.tE f) σ H Q → tB (tZ X.K f) σ H Q := by
  rintro σ H Q ⟨ρ, b, r, e, q⟩
  obtain ⟨x, ea, e⟩ := Z.Res.bind_ok e
  refine ⟨ρ, x, r, ea, fun v H' s d => ?_⟩
  split at e
  · cases e
    simp only [Den] at d
    exact ⟨_, d, q H' s⟩
  · cases e
theorem dt_e (h : DE X e f) (he : ∀ whole, isTrue e X.env whole = (do let v ← whole; standAt e.pos; holding [v] (truthy v)) := by intro _; rfl) : DT X e (Z.tE f) := PT.imp (pt_val h he) tb_imp
theorem dt_not {t : Z.TF} (h : DT X a t) : DT X (.UnaryOp .Not a pos) (Z.tNot t) := PT.imp (pt_not h) fun σ H Q ⟨ρ, b, r, e, q⟩ => by
  obtain ⟨x, ea, e⟩ := Z.Res.bind_ok e
  cases e
  exact ⟨ρ, x, r, ea, fun H' s => q H' s⟩
theorem dt_and1 {t : Z.TF} (h : DT X a t) : DTW X (.BoolOp .And [a] pos) t := pw_and1 h
theorem dt_or1 {t : Z.TF} (h : DT X a t) : DTW X (.BoolOp .Or [a] pos) t := pw_or1 h
theorem dt_and {t u : Z.TF} {rest : List Expr} (ha : DT X a t) (hb : DTW X (.BoolOp .And (b :: rest) pos) u) : DTW X (.BoolOp .And (a :: b :: rest) pos) (Z.tAnd t u) := PW.imp (pw_and ha hb) fun σ H Q ⟨ρ, d, r, e, k⟩ => by
  obtain ⟨x, ea, e⟩ := Z.Res.bind_ok e
  refine ⟨ρ, x, r, ea, fun H1 s1 => ?_⟩
  cases x with
  | true =>
    simp only [if_true] at e ⊢
    exact ⟨ρ, d, r.up s1, e, fun H' s2 => k H' (s1.trans s2)⟩
  | false =>
    simp only [Bool.false_eq_true, if_false] at e ⊢
    cases e
    exact k H1 s1
theorem dt_or {t u : Z.TF} {rest : List Expr} (ha : DT X a t) (hb : DTW X (.BoolOp .Or (b :: rest) pos) u) : DTW X (.BoolOp .Or (a :: b :: rest) pos) (Z.tOr t u) := PW.imp (pw_or ha hb) fun σ H Q ⟨ρ, d, r, e, k⟩ => by
  obtain ⟨x, ea, e⟩ := Z.Res.bind_ok e
  refine ⟨ρ, x, r, ea, fun H1 s1 => ?_⟩
  cases x with
  | false =>
    simp only [Bool.false_eq_true, if_false] at e ⊢
    exact ⟨ρ, d, r.up s1, e, fun H' s2 => k H' (s1.trans s2)⟩
  | true =>
    simp only [if_true] at e ⊢
    cases e
    exact k H1 s1
theorem dtw {t : Z.TF} (h : DTW X e t) : DT X e t := h.pt
theorem da_nil : DA X [] Z.aNil := PA.imp pa_nil fun σ H Q ⟨ρ, ds, r, e, k⟩ => by
  cases e
  exact k [] H (Same.refl H) Dens.nil
theorem da_cons {g : Z.AF} (ha : DE X e f) (hr : DA X es g) (hs : starEach (e :: es) X.env = (false, eval e X.env) :: starEach es X.env := by rfl) : DA X (e :: es) (Z.aCons f g) := PA.imp (pa_cons ha hr hs) fun σ H Q ⟨ρ, ds, r, e, k⟩ => by
  obtain ⟨x, ea, e⟩ := Z.Res.bind_ok e
  obtain ⟨xs, eb, e⟩ := Z.Res.bind_ok e
  cases e
  exact ⟨ρ, x, r, ea, fun v H1 s1 d1 => ⟨ρ, xs, r.up s1, eb, fun vs H2 s2 d2 => k _ H2 (s1.trans s2) (Dens.cons (d1.up s2) d2)⟩⟩
theorem de_tup {x1} {g : Z.AF} (h : DA X es g) : DE X (.Tuple es x1 pos) (Z.eTup g) := PE.imp (pe_tup h) fun σ H Q ⟨ρ, d, r, e, k⟩ => by
  obtain ⟨xs, ea, e⟩ := Z.Res.bind_ok e
  unfold Z.guard at e
  split at e
  · rename_i hl
    cases e
    refine ⟨ρ, xs, r, ea, fun vs H1 s1 d1 => ⟨by rw [d1.length, sizeLine_eq]; exact hl, fun q hq => ?_⟩⟩
    have s2 : Same H1 (upd H1 q (.tup vs)) := upd_Same hq
    exact k _ _ (s1.trans s2) (den_tup (.inl (.inl upd_same)) (d1.up s2))
  · cases e
theorem dl_disp {g : Z.AF} (h : DA X es g) : DL X (.List es pos) (Z.lDisp g) := PE.imp (pe_lst h) fun σ H Q ⟨ρ, d, r, e, k⟩ => by
  obtain ⟨xs, ea, e⟩ := Z.Res.bind_ok e
  unfold Z.guard at e
  split at e
  · rename_i hl
    cases e
    refine ⟨ρ, _, r, ea, fun vs H1 s1 d1 => ⟨by rw [d1.length, sizeLine_eq]; exact hl, fun q hq => ?_⟩⟩
    have s2 : Same H1 (upd H1 q (.lst vs)) := upd_Same hq
    exact k q vs _ (s1.trans s2) (s1.free hq) upd_same (d1.up s2)
  · cases e
end
end ZS
set_option Elab.async false
set_option linter.all false
set_option maxHeartbeats 4000000
namespace ZS
open PySem PySem.Spec PyProof.Rows L2
def tyC : Z.Ty → String
  | .bool => "bool" | .int => "int" | .str => "str" | .tuple => "tuple" | .list => "list" | .dict => "dict"
def tyD : Z.D → String
  | .non => "NoneType" | .bl _ => "bool" | .int _ => "int" | .str _ => "str" | .tup _ => "tuple" | .lst _ => "list" | .dct _ _ => "dict"
theorem kit_tab (K : PySem.W.Frag) (t : Z.Ty) (d : Z.D) : PySem.W.kitOne K (.type (tyD d)) (.type (tyC t)) = some (Z.isTy t d) := by
  cases t <;> cases d <;> kernel_rfl
section
variable {X : Cx} {e a b c : Expr} {es : List Expr} {pos p : Pos} {f fa fb fc : Z.EF}
theorem isinst_Z {pins : List (Addr × Obj)} {σ : St} {H : Hp} {s : Shared} {A : Around} {E : Value → Shared → Prop} {Q : Value → Shared → Prop} {d : Z.D} {v : V} {u : Value} (t : Z.Ty) (I : Inv X pins σ H s) (hd : DenW X.K H d v) (r : RelV v u)
    (h : ∀ tk, Q (.bool (Z.isTy t d)) { s with toks := tk }) : wpAny (model X.prog X.w) A (call (.builtin "isinstance") [u, .type (tyC t)]) Q E s := by
  have e := kit_tab X.K t d
  cases d with
  | non => rw [hd.non] at r; cases (show u = Value.none from r); exact PySem.W.kia_one PySem.W.kitx_none I.kIn True.intro e (fun z => nomatch z) h
  | bl y => rw [hd.bl] at r; cases (show u = Value.bool y from r); exact PySem.W.kia_one PySem.W.kitx_bool I.kIn True.intro e (fun z => nomatch z) h
  | int i => rw [hd.int] at r; obtain ⟨t', q⟩ := (show ∃ t, u = Value.int i t from r); cases q; exact PySem.W.kia_one PySem.W.kitx_int I.kIn True.intro e (fun z => nomatch z) h
  | str cs => rw [hd.str] at r; obtain ⟨t', q⟩ := (show ∃ t, u = Value.str ⟨cs.toArray⟩ t from r); cases q; exact PySem.W.kia_one PySem.W.kitx_str I.kIn True.intro e (fun z => nomatch z) h
  | tup ds =>
    obtain ⟨a, vs, rfl, hq, _⟩ := hd.tup
    cases (show u = Value.ref a from r)
    obtain ⟨its, _, ⟨o, h1, h2, _⟩, _⟩ := I.tuple hq
    exact PySem.W.kia_one PySem.W.kitx_tuple I.kIn ⟨o, h1, h2⟩ e (fun z => nomatch z) h
  | lst ds =>
    obtain ⟨a, vs, rfl, hq, _⟩ := hd.lst
    cases (show u = Value.ref a from r)
    obtain ⟨its, _, ⟨o, n, h1, h2, _⟩, _⟩ := I.list hq
    exact PySem.W.kia_one PySem.W.kitx_list I.kIn ⟨o, h1, h2⟩ e (fun z => nomatch z) h
  | dct ks ds =>
    obtain ⟨a, o, kvs, rfl, hq, _⟩ := hd.dct
    cases (show u = Value.ref a from r)
    obtain ⟨_, _, _, _, _, o', es, ep, h1, h2, _⟩ := (show ObjOk X.prog X.w H s.heap a (.frz o (.dK kvs)) from I.hok a _ hq)
    exact PySem.W.kia_one PySem.W.kitx_dict I.kIn ⟨o', h1, h2.1⟩ e (fun z => nomatch z) h
theorem de_isinst (t : Z.Ty) {x y : Str} {p1 p2 : Pos} (hg : Gl X x) (hm : X.mg x = none) (hv : bootBuiltins x = some (.builtin "isinstance")) (hg2 : Gl X y) (hm2 : X.mg y = none) (hv2 : bootBuiltins y = some (.type (tyC t))) (ha : DW X a fa)
    (hn : x ≠ "__name__" := by decide +kernel) (hdb : (x == ("__debug__" : Str)) = false := by decide +kernel) (hn2 : y ≠ "__name__" := by decide +kernel) (hdb2 : (y == ("__debug__" : Str)) = false := by decide +kernel)
    (he : starEach (a :: [.Name y p2]) X.env = (false, eval a X.env) :: starEach [.Name y p2] X.env := by rfl) (hpl : (backTo pos (starEach [.Name y p2] X.env)).any (·.1) = false := by rfl) (he2 : starEach ((.Name y p2) :: []) X.env = (false, eval (.Name y p2) X.env) :: starEach [] X.env := by rfl) :
    DE X (.Call (.Name x p1) [a, .Name y p2] [] pos) (Z.eU (Z.oIsTy t) fa) := by
  have hc : CallR X (.builtin "isinstance") (fun xs H Q => ∃ v d, xs = [v, .ty (tyC t)] ∧ DenW X.K H d v ∧ Q (.bl (Z.isTy t d)) H) := by
    intro pins s σ H xs us Q I r h
    obtain ⟨v, d, rfl, hd, q⟩ := h
    obtain ⟨u, w', rfl, r1, r2⟩ := vals2 r
    cases (show w' = Value.type (tyC t) from r2)
    exact isinst_Z t I hd r1 fun tk => ⟨.bl _, H, I.tok _, rfl, q⟩
  refine PE.imp (pe_callB hc hg hm hv (pa_cons ha (pa_cons (pe_bltn (v := .ty (tyC t)) hg2 hm2 hv2 rfl hn2 hdb2) pa_nil he2) he) hn hdb he hpl) fun σ H Q ⟨ρ, d, r, e, k⟩ => ?_
  obtain ⟨x, ea, e⟩ := Z.Res.bind_ok e
  cases e
  exact ⟨ρ, x, r, ea, fun v H1 s1 d1 => ⟨v, x, rfl, d1, k _ H1 s1 den_bl⟩⟩
theorem de_len {x : Str} {p1 : Pos} (hg : Gl X x) (hm : X.mg x = none) (hv : bootBuiltins x = some (.builtin "len")) (ha : DW X a fa) (hn : x ≠ "__name__" := by decide +kernel) (hdb : (x == ("__debug__" : Str)) = false := by decide +kernel)
    (he : starEach (a :: []) X.env = (false, eval a X.env) :: starEach [] X.env := by rfl) (hpl : (backTo pos (starEach [] X.env)).any (·.1) = false := by rfl) : DE X (.Call (.Name x p1) [a] [] pos) (Z.eU Z.oLen fa) :=
  PE.imp (pe_callB call_len hg hm hv (pa_cons ha pa_nil he) hn hdb he hpl) fun σ H Q ⟨ρ, d, r, e, k⟩ => by
    obtain ⟨x, ea, e⟩ := Z.Res.bind_ok e
    refine ⟨ρ, x, r, ea, fun v H1 s1 d1 => ?_⟩
    unfold Z.oLen at e
    split at e
    · unfold Z.guard at e
      split at e
      · rename_i cs hl
        cases e
        rw [d1.str]
        refine ⟨_, cs.length, rfl, ⟨?_, ?_⟩, k _ H1 s1 den_int⟩
        · show cs.toArray.size ≤ sizeLine
          rw [sizeLine_eq]; simpa using hl
        · show cs.length = cs.toArray.size
          simp
      · cases e
    · cases e
      obtain ⟨q, vs, rfl, hq, t⟩ := d1.tup
      refine ⟨_, _, rfl, .inr ⟨vs, hq, rfl⟩, ?_⟩
      rw [t.length]
      exact k _ H1 s1 den_int
    · cases e
      obtain ⟨q, vs, rfl, hq, t⟩ := d1.lst
      refine ⟨_, _, rfl, .inl ⟨vs, hq, rfl⟩, ?_⟩
      rw [t.length]
      exact k _ H1 s1 den_int
    · cases e
theorem ixZ_eq (n : Nat) (i : Int) : Z.ixZ n i = ixN n i := rfl
theorem atZ {K : PySem.W.Frag} {H : Hp} {ds : List Z.D} {vs : List V} {i : Int} {d : Z.D} (t : Dens K H ds vs) (h : ((Z.ixZ ds.length i).bind fun j => ds[j]?) = some d) : ∃ v, atI vs i = some v ∧ Den K H d v := by
  unfold atI
  rw [t.length, ← ixZ_eq]
  cases q : Z.ixZ ds.length i with
  | none => rw [q] at h; cases h
  | some j =>
    rw [q] at h
    exact t.get h
theorem de_ix (ha : DW X a fa) (hb : DW X b fb) (hs : PlainIx b := by intro _ _; rfl) : DE X (.Subscript a b pos) (Z.eB Z.oIx fa fb) := PE.imp (pe_ix ix_seq ha hb hs) (two fun x y dx dy d H Q h1 h2 e k => by
  unfold Z.oIx at e
  split at e
  · obtain ⟨q, vs, rfl, hq, t⟩ := h1.tup
    split at e
    · rename_i v hv
      cases e
      obtain ⟨w, e1, dw⟩ := atZ t hv
      exact .inr (.inl ⟨q, vs, _, w, rfl, h2.int, hq, e1, k w H (Same.refl H) dw⟩)
    · cases e
  · obtain ⟨q, vs, rfl, hq, t⟩ := h1.lst
    split at e
    · rename_i v hv
      cases e
      obtain ⟨w, e1, dw⟩ := atZ t hv
      exact .inl ⟨q, vs, _, w, rfl, h2.int, hq, e1, k w H (Same.refl H) dw⟩
    · cases e
  · unfold Z.guard at e
    split at e
    · rename_i cs i hl
      split at e
      · rename_i c hc
        cases e
        refine .inr (.inr ⟨_, _, c, h1.str, h2.int, ?_, ?_, ?_⟩)
        · show cs.toArray.size ≤ sizeLine
          rw [sizeLine_eq]; simpa using hl
        · exact hc
        · exact k _ H (Same.refl H) (den_str (cs := [c]))
      · cases e
    · cases e
  · cases e)
theorem dp_at (h : DW X e f) : DP X (some e) (Z.pAt f) := PO.imp (po_some h) fun σ H Q ⟨ρ, o, r, e, k⟩ => by
  obtain ⟨x, ea, e⟩ := Z.Res.bind_ok e
  refine ⟨ρ, x, r, ea, fun v H1 s1 d1 => ?_⟩
  split at e
  · cases e
    exact ⟨_, d1.int, k H1 s1⟩
  · cases e
theorem sIx_eq (n d : Nat) (o : Option Int) : Z.sIx n d o = HT.sIx n d o := by cases o <;> rfl
theorem cut_eq {ds : List Z.D} {vs : List V} {K : PySem.W.Frag} {H : Hp} (t : Dens K H ds vs) (lo hi : Option Int) : Dens K H (Z.cut ds lo hi) (cutV vs lo hi) := by
  unfold Z.cut cutV
  rw [sIx_eq, sIx_eq, t.length]
  exact (t.drop _).take _
def rSlZ (K : PySem.W.Frag) : V → Option Int → Option Int → Hp → VK → Prop := fun x lo hi H Q => ∃ a xs, x = .ref a ∧ SqT K H a xs ∧ (cutV xs lo hi = xs → Q (.ref a) H) ∧ ∀ p, H p = none → Q (.ref p) (upd H p (.tup (cutV xs lo hi)))
def rSlS : V → Option Int → Option Int → Hp → VK → Prop := fun x lo hi H Q => ∃ z, x = .str z ∧ z.length ≤ sizeLine ∧ Q (.str (Txt.slice z lo hi)) H
theorem dl_slice {lo hi : Option Expr} {gl gh : Z.PF} {p2 : Pos} (ha : DW X a fa) (hl : DP X lo gl) (hh : DP X hi gh) : DL X (.Subscript a (.Slice lo hi none p2) pos) (Z.lSl fa gl gh) :=
  PE.imp (pe_slice sl_list ha hl hh) fun σ H Q ⟨ρ, d, r, e, k⟩ => by
    obtain ⟨x, ea, e⟩ := Z.Res.bind_ok e
    obtain ⟨l, el, e⟩ := Z.Res.bind_ok e
    obtain ⟨h, eh, e⟩ := Z.Res.bind_ok e
    refine ⟨ρ, x, r, ea, fun v H1 s1 d1 => ⟨ρ, l, r.up s1, el, fun H2 s2 => ⟨ρ, h, (r.up s1).up s2, eh, fun H3 s3 => ?_⟩⟩⟩
    have s13 : Same H H3 := (s1.trans s2).trans s3
    have d3 := (d1.up s2).up s3
    split at e
    · cases e
      obtain ⟨q, vs, rfl, hq, t⟩ := d3.lst
      refine ⟨q, vs, rfl, hq, fun z hz => ?_⟩
      have s4 : Same H3 (upd H3 z (.lst (cutV vs l h))) := upd_Same hz
      exact k z _ _ (s13.trans s4) (s13.free hz) upd_same ((cut_eq t l h).up s4)
    · cases e
def rCatL (K : PySem.W.Frag) : R2 := fun x y H Q => ∃ l b xs zs, x = .ref l ∧ y = .ref b ∧ SqL K H l xs ∧ SqL K H b zs ∧ xs.length + zs.length ≤ sizeLine ∧ ∀ p, H p = none → Q (.ref p) (upd H p (.lst (xs ++ zs)))
theorem op_catL : OpR X (binaryOp .Add) (rCatL X.K) := by
  intro pins s σ H x y v u Q I rx ry h
  obtain ⟨l, b, xs, zs, rfl, rfl, hH, hB, hz, q⟩ := h
  cases rx
  cases ry
  obtain ⟨its, r, pl, _⟩ := I.list hH
  obtain ⟨its2, r2, pl2, _⟩ := I.list hB
  have hl := r.length
  have hl2 := r2.length
  obtain ⟨⟨cls, dd, data, sl⟩, ho, hc, n, hd⟩ := id pl.isList
  obtain ⟨⟨cls2, dd2, data2, sl2⟩, ho2, hc2, n2, hd2⟩ := id pl2.isList
  simp only at hc hd hc2 hd2
  subst hc hd hc2 hd2
  have ea : its.toArray ++ its2.toArray = (its ++ its2).toArray := by simp
  refine concat_meets ⟨_, ho, rfl⟩ ⟨_, ho2, rfl⟩ noFill_list_add seq_list_add PySem.F.slot_list_add PySem.F.entry_list_add (PySem.F.args_list_add_2 _ _) (list_addW l b its.toArray its2.toArray n n2 dd dd2 sl sl2 (by simp only [List.size_toArray]; omega)) ⟨ho, ho2, ?_⟩
  rw [ea]
  exact ⟨.ref _, _, I.lnew (t' := s.toks) (r.append r2) (by rw [List.length_append]; omega), rfl, q _ I.fresh⟩
theorem dl_cat (ha : DW X a fa) (hb : DW X b fb) : DL X (.BinOp a .Add b pos) (Z.lCat fa fb) := PE.imp (pe_op op_catL ha hb) fun σ H Q ⟨ρ, d, r, e, k⟩ => by
  obtain ⟨x, ea, e⟩ := Z.Res.bind_ok e
  obtain ⟨y, eb, e⟩ := Z.Res.bind_ok e
  refine ⟨ρ, x, r, ea, fun v H1 s1 d1 => ⟨ρ, y, r.up s1, eb, fun u H2 s2 d2 => ?_⟩⟩
  have s12 := s1.trans s2
  split at e
  · unfold Z.guard at e
    split at e
    · rename_i xs ys hl
      cases e
      obtain ⟨q, vs, rfl, hq, t⟩ := (d1.up s2).lst
      obtain ⟨q', vs', rfl, hq', t'⟩ := d2.lst
      refine ⟨q, q', vs, vs', rfl, rfl, hq, hq', by rw [t.length, t'.length, sizeLine_eq]; exact hl, fun z hz => ?_⟩
      have s3 : Same H2 (upd H2 z (.lst (vs ++ vs'))) := upd_Same hz
      exact k z _ _ (s12.trans s3) (s12.free hz) upd_same ((t.append t').up s3)
    · cases e
  · cases e
def spZ (K : PySem.W.Frag) (m : List Z.D → Z.Res Z.D) : Sp := fun vs H Q _ => ∃ ds d, Dens K H ds vs ∧ m ds = .ok d ∧ ∀ v H', Same H H' → Den K H' d v → Q v H'
theorem de_call {k : Nat} {g : Addr} {fd : FuncData} {ps : List Str} {x : Str} {m : List Z.D → Z.Res Z.D} {ar : Z.AF} {p1 : Pos} (F : FnOk X.prog X.w X.K X.mg X.base CX0 k g fd ps (spZ X.K m)) (hr : Room k X.A) (hg : Gl X x) (hm : X.mg x = some (.ref g)) (hk : PySem.W.keepIn X.K (.ref g) = true) (hb : Binds X.K fd ps [])
    (ha : DA X (e :: es) ar) (hdb : (x == ("__debug__" : Str)) = false := by decide +kernel) (he : starEach (e :: es) X.env = (false, eval e X.env) :: starEach es X.env := by rfl) (hpl : (backTo pos (starEach es X.env)).any (·.1) = false := by rfl) :
    DE X (.Call (.Name x p1) (e :: es) [] pos) (Z.eCall m ar) :=
  PE.imp (pe_call F hr hg hm hk hb .nil pass0 ha hdb he hpl) fun σ H Q ⟨ρ, d, r, e, k⟩ => by
    obtain ⟨ds, ea, e⟩ := Z.Res.bind_ok e
    refine ⟨ρ, ds, r, ea, fun vs H1 s1 d1 => ?_⟩
    show spZ X.K m (vs ++ []) H1 Q E0
    rw [List.append_nil]
    exact ⟨ds, d, d1, e, fun v H' s2 dv => k v H' (s1.trans s2) dv⟩
end
end ZS
set_option Elab.async false
set_option linter.all false
set_option maxHeartbeats 4000000
namespace ZS
open PySem PySem.Spec PyProof.Rows L2
structure ItZ (K : PySem.W.Frag) (J : It) (S : Hp → Prop) (ds : List Z.D) : Prop where
  go : ∀ (i : Nat) (d : Z.D) (H1 : Hp), S H1 → ds[i]? = some d → J.go i H1
  yld : ∀ (i : Nat) (d : Z.D) (H1 H2 : Hp) (x : V), S H1 → ds[i]? = some d → J.yld i H1 x H2 → Same H1 H2 ∧ Den K H2 d x
  stop : ∀ (H1 : Hp), S H1 → J.stop ds.length H1
def tZi (K : PySem.W.Frag) (f : Z.LF) : TI := fun σ H R => ∃ ρ ds, RE K H σ ρ ∧ f ρ = .ok ds ∧ ∀ J H', Same H H' → ItZ K J (Same H') ds → R J H'
def tZj (K : PySem.W.Frag) (f : Z.LF) : TI := fun σ H R => ∃ ρ ds, RE K H σ ρ ∧ f ρ = .ok ds ∧ ∀ J H', Same H H' → ItZ K J (Stb H') ds → R J H'
abbrev DI (X : Cx) (tg e : Expr) (f : Z.LF) : Prop := PI X tg e (tZi X.K f)
abbrev DJ (X : Cx) (tg e : Expr) (f : Z.LF) : Prop := PI X tg e (tZj X.K f)
section
variable {X : Cx} {tg e a b : Expr} {es : List Expr} {pos p : Pos} {f fa fb : Z.EF}
theorem PI.imp {t t' : TI} (h : PI X tg e t) (k : ∀ σ H R, t' σ H R → t σ H R) : PI X tg e t' := fun pins s σ H R I w => h pins s σ H R I (k σ H R w)
theorem ItZ.imp {K : PySem.W.Frag} {J : It} {S S' : Hp → Prop} {ds : List Z.D} (h : ItZ K J S ds) (k : ∀ H, S' H → S H) : ItZ K J S' ds :=
  ⟨fun i d H1 s => h.go i d H1 (k _ s), fun i d H1 H2 x s => h.yld i d H1 H2 x (k _ s), fun H1 s => h.stop H1 (k _ s)⟩
theorem di_j {g : Z.LF} (h : DJ X tg e g) : DI X tg e g := PI.imp h fun σ H R ⟨ρ, ds, r, e, k⟩ => ⟨ρ, ds, r, e, fun J H' s z => k J H' s (z.imp fun _ q => stb q)⟩
theorem itz_tup {K : PySem.W.Frag} {H : Hp} {q : Addr} {vs : List V} {ds : List Z.D} (h : SqT K H q vs) (t : Dens K H ds vs) : ItZ K (Itt K q) (Stb H) ds where
  go := fun i d H1 s hi => by
    obtain ⟨v, h1, _⟩ := t.get hi
    exact ⟨vs, v, sqT_mono s h, h1⟩
  yld := fun i d H1 H2 x s hi y => by
    obtain ⟨e, y⟩ := y
    obtain ⟨v, h1, h2⟩ := t.get hi
    have := y vs (sqT_mono s h)
    rw [h1] at this; cases this
    subst e
    exact ⟨Same.refl _, h2.ups s⟩
  stop := fun H1 s => ⟨vs, sqT_mono s h, by rw [t.length]; exact Nat.le_refl _⟩
theorem itz_lst {K : PySem.W.Frag} {H : Hp} {q : Addr} {vs : List V} {ds : List Z.D} {S : Hp → Prop} (h : ∀ H1, S H1 → SqL K H1 q vs) (t : ∀ H1, S H1 → Dens K H1 ds vs) (t0 : Dens K H ds vs) : ItZ K (Itl K q) S ds where
  go := fun i d H1 s hi => by
    obtain ⟨v, h1, _⟩ := t0.get hi
    exact ⟨vs, v, h H1 s, h1⟩
  yld := fun i d H1 H2 x s hi y => by
    obtain ⟨e, y⟩ := y
    obtain ⟨v, h1, h2⟩ := (t H1 s).get hi
    have := y vs (h H1 s)
    rw [h1] at this; cases this
    subst e
    exact ⟨Same.refl _, h2⟩
  stop := fun H1 s => ⟨vs, h H1 s, by rw [t0.length]; exact Nat.le_refl _⟩
theorem ints_get (lo : Int) (n i : Nat) (d : Z.D) (h : (Z.zints lo n)[i]? = some d) : i < n ∧ d = .int (lo + i) := by
  unfold Z.zints at h
  rw [List.getElem?_map] at h
  cases q : (List.range n)[i]? with
  | none => rw [q] at h; cases h
  | some j =>
    rw [q] at h; cases h
    obtain ⟨h1, h2⟩ := List.getElem?_eq_some_iff.mp q
    rw [List.length_range] at h1
    rw [List.getElem_range] at h2
    subst h2
    exact ⟨h1, rfl⟩
theorem itz_rng {K : PySem.W.Frag} {S : Hp → Prop} (lo : Int) (n : Nat) : ItZ K (Itr lo n) S (Z.zints lo n) where
  go := fun i d H1 s hi => (ints_get lo n i d hi).1
  yld := fun i d H1 H2 x s hi y => by
    obtain ⟨e, y⟩ := y
    obtain ⟨_, rfl⟩ := ints_get lo n i d hi
    subst e
    rw [y]
    exact ⟨Same.refl _, den_int⟩
  stop := fun H1 s => by
    show n ≤ (Z.zints lo n).length
    unfold Z.zints
    rw [List.length_map, List.length_range]
    exact Nat.le_refl _
theorem turn_long {P : Program} {w : World} {K : PySem.W.Frag} {tg : Expr} (it : Addr) (lo : Int) (n : Nat) : Turn P w K tg (Itr lo n) [it] it (fun i h => IsLongIter h it (lo + (i : Nat) * 1) ((n : Int) - (i : Nat)) 1) where
  mem := by simp
  obj := fun i h st b hb => by
    have e : b = it := by simpa using hb
    subst e
    exact ⟨_, st, fun v z => by
      have z' : Data.fields _ = Data.cell v := z
      cases z'⟩
  keep := fun i h h' st k => k it (by simp) _ st
  item := by
    intro X hP hw hK hc i pins s σ H E I hf st hg
    subst hP hw hK
    obtain ⟨f0, f1, f2, f3, f4, f5⟩ := hf it (by simp)
    have W := Walks.longrange (prog := X.prog) (w := X.w) (I.ok.hd hc) it lo 1 n
    refine W.item i s _ _ hg st fun v h' tk hv st' kk => ?_
    obtain ⟨t, rfl⟩ := hv
    have I1 : Inv X pins σ H { s with heap := h', toks := tk } := I.turned (fun b o hb e => kk b o (by simpa using hb) e) f0 f1 f3 f4 f5
    refine ⟨_, rfl, go_of (s := { s with heap := h', toks := tk }) (n := "longrange_iterator") st' rfl rfl (by decide) ⟨.int (lo + i), H, I1, ⟨t, ?_⟩, ⟨rfl, rfl⟩, st', fun b hb => (hf b hb).1⟩⟩
    rw [Int.mul_one]
  done := by
    intro X hP hw hK hc i pins s σ H E I hf st hg
    subst hP hw hK
    obtain ⟨f0, f1, f2, f3, f4, f5⟩ := hf it (by simp)
    exact wpAny_pyNext_long_end (I.ok.hd hc) st (by have : n ≤ i := hg; omega) fun h' eb => ⟨rfl, I.turned (t' := s.toks) (fun b o hb e => eb b o hb e) f0 f1 f3 f4 f5⟩
  self := fun _ _ _ _ _ st h => wpAny_pyIter_longiter st h
theorem range_any {pins : List (Addr × Obj)} {σ : St} {H : Hp} {s : Shared} {R : It → Hp → Prop} {E : Value → Shared → Prop} {lo hi : Int} {t u v : Tok} {tk : Nat} (I : Inv X pins σ H s)
    (q : R (Itr lo (hi - lo).toNat) H) : wpAny (model X.prog X.w) X.A (pyIter (.ref s.heap.objs.size)) (PIE X pins σ tg R) E { s with heap := s.heap.push { cls := .type "range", data := .fields #[.int lo t, .int hi u, .int 1 v] }, toks := tk } := by
  have I1 : Inv X pins σ H { s with heap := s.heap.push { cls := .type "range", data := .fields #[.int lo t, .int hi u, .int 1 v] }, toks := tk } := I.kept fun b o e => Heap.get?_push_of_some _ e
  have e1 : lo + ((0 : Nat) : Int) * 1 = lo := by simp
  have e2 : (((hi - lo).toNat : Nat) : Int) - ((0 : Nat) : Int) = Builtin.Range.rangeSize lo hi 1 := by rw [rangeSize_one]; split <;> omega
  cases hs : Builtin.Range.small lo hi 1 with
  | true =>
    refine wpAny_pyIter_range (IsRange.new ..) hs ?_
    refine ⟨(s.heap.push { cls := .type "range", data := .fields #[.int lo t, .int hi u, .int 1 v] }).objs.size, [(s.heap.push { cls := .type "range", data := .fields #[.int lo t, .int hi u, .int 1 v] }).objs.size], _, _, H, rfl,
      I1.kept (t' := tk) fun b o e => Heap.get?_push_of_some _ e, turn_range _ lo (hi - lo).toNat, ?_, fun b hb => ?_, q⟩
    · show IsRangeIter _ _ (lo + ((0 : Nat) : Int) * 1) ((((hi - lo).toNat : Nat) : Int) - ((0 : Nat) : Int)) 1
      rw [e1, e2]
      exact Heap.get?_push_size _ rfl
    · have e : b = (s.heap.push { cls := .type "range", data := .fields #[.int lo t, .int hi u, .int 1 v] }).objs.size := by simpa using hb
      subst e
      exact I1.fpOk (Nat.le_refl _) (I1.hok.fresh (Nat.le_refl _))
  | false =>
    refine wpAny_pyIter_longrange (IsRange.new ..) hs ?_
    refine ⟨(s.heap.push { cls := .type "range", data := .fields #[.int lo t, .int hi u, .int 1 v] }).objs.size, [(s.heap.push { cls := .type "range", data := .fields #[.int lo t, .int hi u, .int 1 v] }).objs.size], _, _, H, rfl,
      I1.kept (t' := tk) fun b o e => Heap.get?_push_of_some _ e, turn_long _ lo (hi - lo).toNat, ?_, fun b hb => ?_, q⟩
    · show IsLongIter _ _ (lo + ((0 : Nat) : Int) * 1) ((((hi - lo).toNat : Nat) : Int) - ((0 : Nat) : Int)) 1
      rw [e1, e2]
      exact Heap.get?_push_size _ rfl
    · have e : b = (s.heap.push { cls := .type "range", data := .fields #[.int lo t, .int hi u, .int 1 v] }).objs.size := by simpa using hb
      subst e
      exact I1.fpOk (Nat.le_refl _) (I1.hok.fresh (Nat.le_refl _))
def aRng1 (ta : TA) : TI := fun σ H R => ta σ H fun vs H1 => ∃ j : Int, vs = [.int j] ∧ R (Itr 0 j.toNat) H1
def aRng2 (ta : TA) : TI := fun σ H R => ta σ H fun vs H1 => ∃ i j : Int, vs = [.int i, .int j] ∧ R (Itr i (j - i).toNat) H1
theorem pi_any1 {a : Expr} {ta : TA} {p pos : Pos} (hg : Gl X "range") (hm : X.mg "range" = none) (ha : PA X [a] ta) (hs : starEach [a] X.env = [(false, eval a X.env)] := by rfl) : PI X tg (.Call (.Name "range" p) [a] [] pos) (aRng1 ta) := by
  intro pins s σ H R I h
  refine Call_ (ld_blt I hg hm boot_range (PyProof.Rows.callWith_type1 (thn (ha pos pins s σ H _ I h) fun us s1 ⟨vs, H1, I1, r1, q1⟩ => ?_) hs rfl))
  obtain ⟨j, e, q⟩ := q1
  subst e
  cases r1 with
  | cons r rr =>
    cases rr
    obtain ⟨t, rfl⟩ := r
    exact call_range_1 (range_any I1 (by simpa using q))
theorem dj_rng1 (hg : Gl X "range") (hm : X.mg "range" = none) (ha : DE X a fa) (hs : starEach [a] X.env = [(false, eval a X.env)] := by rfl) (hs1 : starEach (a :: []) X.env = (false, eval a X.env) :: starEach [] X.env := by rfl) : DJ X tg (.Call (.Name "range" p) [a] [] pos) (Z.iRng1 fa) :=
  PI.imp (pi_any1 hg hm (pa_cons ha pa_nil hs1) hs) fun σ H R ⟨ρ, ds, r, e, k⟩ => by
    obtain ⟨x, ea, e⟩ := Z.Res.bind_ok e
    refine ⟨ρ, x, r, ea, fun v H1 s1 d1 => ?_⟩
    split at e
    · rename_i j
      cases e
      simp only [Den] at d1
      exact ⟨j, by rw [d1], k _ H1 s1 (itz_rng 0 j.toNat)⟩
    · cases e
def Its (z : Str) : It := ⟨fun i _ => i < z.cps.size, fun i H x H' => H' = H ∧ ∃ c, z.cps[i]? = some c ∧ x = .str ⟨#[c]⟩, fun i _ => i = z.cps.size⟩
theorem turn_str {P : Program} {w : World} {K : PySem.W.Frag} (z : Str) (it : Addr) (n : String) (hn : ["enumerate", "zip", "dict_itemiterator", "dict_reverseitemiterator", "odict_iterator", "itertools.zip_longest", "itertools.pairwise"].contains n = false) (t : Tok)
    (W : ∀ A : Around, A.handled = none → Walks P w A it [it] [it] z.cps.size (SignAt z) (fun i h => h.IsStrIter it n z t i)) (self : ∀ (A : Around) (i : Nat) (s : Shared) (Q : Value → Shared → Prop) (E : Value → Shared → Prop), s.heap.IsStrIter it n z t i → Q (.ref it) s → wpAny (model P w) A (pyIter (.ref it)) Q E s) :
    Turn P w K tg (Its z) [it] it (fun i h => h.IsStrIter it n z t i) where
  mem := by simp
  obj := fun i h st b hb => by
    have e : b = it := by simpa using hb
    subst e
    obtain ⟨o, e, c, d⟩ := st
    exact ⟨o, e, fun v z => by rw [d] at z; cases z⟩
  keep := fun i h h' st k => by
    obtain ⟨o, e, c, d⟩ := st
    exact ⟨o, k it (by simp) o e, c, d⟩
  item := by
    intro X hP hw hK hc i pins s σ H E I hf st hg
    subst hP hw hK
    obtain ⟨f0, f1, f2, f3, f4, f5⟩ := hf it (by simp)
    refine (W X.A (I.ok.hd hc)).item i s _ _ hg st fun v h' tk hv st' kk => ?_
    obtain ⟨c, u, hcc, rfl⟩ := hv
    have I1 : Inv X pins σ H { s with heap := h', toks := tk } := I.turned (fun b o hb e => kk b o (by simpa using hb) e) f0 f1 f3 f4 f5
    obtain ⟨o, e, c', d⟩ := id st'
    exact ⟨_, rfl, go_of (s := { s with heap := h', toks := tk }) e c' d hn ⟨.str ⟨#[c]⟩, H, I1, ⟨u, rfl⟩, ⟨rfl, c, hcc, rfl⟩, st', fun b hb => (hf b hb).1⟩⟩
  done := by
    intro X hP hw hK hc i pins s σ H E I hf st hg
    subst hP hw hK
    obtain ⟨f0, f1, f2, f3, f4, f5⟩ := hf it (by simp)
    have hg' : i = z.cps.size := hg
    subst hg'
    exact (W X.A (I.ok.hd hc)).done s _ _ st fun h' tk kk => ⟨rfl, I.turned (fun b o hb e => kk b o (by simpa using hb) e) f0 f1 f3 f4 f5⟩
  self := self
theorem itz_str {K : PySem.W.Frag} {S : Hp → Prop} (cs : List Nat) : ItZ K (Its ⟨cs.toArray⟩) S (cs.map fun c => .str [c]) where
  go := fun i d H1 s hi => by
    show i < cs.toArray.size
    obtain ⟨h1, _⟩ := List.getElem?_eq_some_iff.mp hi
    simpa using h1
  yld := fun i d H1 H2 x s hi y => by
    obtain ⟨e, c, hc, rfl⟩ := y
    have hc' : cs[i]? = some c := by simpa using hc
    rw [List.getElem?_map, hc'] at hi
    cases hi
    subst e
    exact ⟨Same.refl _, den_str (cs := [c])⟩
  stop := fun H1 s => by
    show (cs.map fun c => Z.D.str [c]).length = cs.toArray.size
    simp
theorem seq_it {pins : List (Addr × Obj)} {σ : St} {H : Hp} {s : Shared} {R : It → Hp → Prop} {E : Value → Shared → Prop} {d : Z.D} {v : V} {u : Value} {ds : List Z.D} {S : Hp → Prop} (I : Inv X pins σ H s) (rv : RelV v u) (hd : DenW X.K H d v) (hi : Z.iterD d = .ok ds)
    (hS : ∀ H1, S H1 → Stb H H1) (hL : ∀ es q vs, d = .lst es → v = .ref q → SqL X.K H q vs → ∀ H1, S H1 → SqL X.K H1 q vs)
    (k : ∀ J, ItZ X.K J S ds → R J H) : wpAny (model X.prog X.w) X.A (pyIter u) (PIE X pins σ tg R) E s := by
  unfold Z.iterD at hi
  split at hi
  · cases hi
    obtain ⟨q, vs, rfl, hq, t⟩ := hd.tup
    cases rv
    obtain ⟨its, r', pl, hz⟩ := I.tuple hq
    refine wpAny_pyIter_tuple (show s.heap.IsTuple q its.toArray from pl) ?_
    refine ⟨s.heap.objs.size, [s.heap.objs.size], _, _, H, rfl, I.kept (t' := s.toks) fun b o e => Heap.get?_push_of_some _ e, turn_tuple q _, ⟨_, Heap.get?_push_size _ rfl, rfl, rfl⟩, fun b hb => ?_, k _ ((itz_tup hq t).imp hS)⟩
    have e : b = s.heap.objs.size := by simpa using hb
    subst e
    exact I.fpOk (Nat.le_refl _) (I.hok.fresh (Nat.le_refl _))
  · cases hi
    obtain ⟨q, vs, rfl, hq, t⟩ := hd.lst
    cases rv
    obtain ⟨its, r', pl, hz⟩ := I.list hq
    refine wpAny_pyIter_list pl.isList ?_
    refine ⟨s.heap.objs.size, [s.heap.objs.size], _, _, H, rfl, I.kept (t' := s.toks) fun b o e => Heap.get?_push_of_some _ e, turn_list q _, ⟨_, Heap.get?_push_size _ rfl, rfl, rfl⟩, fun b hb => ?_,
      k _ (itz_lst (fun H1 s1 => hL _ q vs rfl rfl hq H1 s1) (fun H1 s1 => t.ups (hS H1 s1)) t)⟩
    have e : b = s.heap.objs.size := by simpa using hb
    subst e
    exact I.fpOk (Nat.le_refl _) (I.hok.fresh (Nat.le_refl _))
  · cases hi
    rename_i cs
    rw [hd.str] at rv
    obtain ⟨t, rfl⟩ := rv
    have fin : ∀ (n : String) (hn : ["enumerate", "zip", "dict_itemiterator", "dict_reverseitemiterator", "odict_iterator", "itertools.zip_longest", "itertools.pairwise"].contains n = false)
        (W : ∀ A : Around, A.handled = none → Walks X.prog X.w A s.heap.objs.size [s.heap.objs.size] [s.heap.objs.size] (⟨cs.toArray⟩ : Str).cps.size (SignAt ⟨cs.toArray⟩) (fun i h => h.IsStrIter s.heap.objs.size n ⟨cs.toArray⟩ t i))
        (self : ∀ (A : Around) (i : Nat) (s' : Shared) (Q : Value → Shared → Prop) (E : Value → Shared → Prop), s'.heap.IsStrIter s.heap.objs.size n ⟨cs.toArray⟩ t i → Q (.ref s.heap.objs.size) s' → wpAny (model X.prog X.w) A (pyIter (.ref s.heap.objs.size)) Q E s'),
        PIE X pins σ tg R (.ref s.heap.objs.size) { s with heap := s.heap.push { cls := .type n, data := .fields #[.str ⟨cs.toArray⟩ t, .int 0 0] } } := by
      intro n hn W self
      refine ⟨s.heap.objs.size, [s.heap.objs.size], _, _, H, rfl, I.kept (t' := s.toks) fun b o e => Heap.get?_push_of_some _ e, turn_str ⟨cs.toArray⟩ _ n hn t W self, ⟨_, Heap.get?_push_size _ rfl, rfl, rfl⟩, fun b hb => ?_, k _ (itz_str cs)⟩
      have e : b = s.heap.objs.size := by simpa using hb
      subst e
      exact I.fpOk (Nat.le_refl _) (I.hok.fresh (Nat.le_refl _))
    cases ha : (⟨cs.toArray⟩ : Str).cps.all (· < 128)
    · exact wpAny_pyIter_wide ha (fin "str_iterator" (by decide) (fun A' hA => Walks.strWide hA _ _ t) fun _ _ _ _ _ st hQ => wpAny_pyIter_striter_wide st hQ)
    · exact wpAny_pyIter_ascii ha (fin "str_ascii_iterator" (by decide) (fun A' hA => Walks.strAscii hA _ _ t) fun _ _ _ _ _ st hQ => wpAny_pyIter_striter_ascii st hQ)
  · cases hi
theorem di_seq (ha : DW X a fa) : DI X tg a (Z.iSeq fa) := by
  intro pins s σ H R I w
  obtain ⟨ρ, ds, r, e, k⟩ := w
  obtain ⟨d, ea, e⟩ := Z.Res.bind_ok e
  refine thn (ha pins s σ H (fun v H1 => Same H H1 ∧ DenW X.K H1 d v) I ⟨ρ, d, r, ea, fun v H1 s1 d1 => ⟨s1, d1⟩⟩) ?_
  rintro u s1 ⟨v, H1, I1, rv, sm, hd⟩
  exact seq_it (S := Same H1) I1 rv hd e (fun _ q => stb q) (fun _ _ _ _ _ hq H2 s2 => s2.seq hq) fun J z => k J H1 sm z
theorem dj_seq (ha : DE X a fa) : DJ X tg a (Z.iSeq fa) := by
  intro pins s σ H R I w
  obtain ⟨ρ, ds, r, e, k⟩ := w
  obtain ⟨d, ea, e⟩ := Z.Res.bind_ok e
  refine thn (ha pins s σ H (fun v H1 => Same H H1 ∧ Den X.K H1 d v) I ⟨ρ, d, r, ea, fun v H1 s1 d1 => ⟨s1, d1⟩⟩) ?_
  rintro u s1 ⟨v, H1, I1, rv, sm, hd⟩
  refine seq_it (S := Stb H1) I1 rv (.inl hd) e (fun _ q => q) (fun es q vs e1 e2 hq H2 s2 => ?_) fun J z => k J H1 sm z
  subst e1
  simp only [Den] at hd
  obtain ⟨q', vs', e3, hz, _⟩ := hd
  rw [e2] at e3; cases e3
  rw [I1.list_inj hq hz.sq]
  exact (hz.mono s2).sq
def DicOk (H0 : Hp) (σ : St) (ρ : Z.Env) : Prop := (∀ (i j : Nat) (ks ls : List (List Int)) (a : Addr), ρ[i]? = some (some (.dic ks)) → ρ[j]? = some (some (.dic ls)) → σ[i]? = some (some (.ref a)) → σ[j]? = some (some (.ref a)) → i = j) ∧
  ∀ (i : Nat) (ks : List (List Int)) (q : Addr), ρ[i]? = some (some (.dic ks)) → σ[i]? = some (some (.ref q)) → H0 q = none
theorem DicOk.non {H0 : Hp} {σ : St} {ρ : Z.Env} (h : ∀ (i : Nat) (ks : List (List Int)), ρ[i]? ≠ some (some (.dic ks))) : DicOk H0 σ ρ := ⟨fun i _ ks _ _ e => absurd e (h i ks), fun i ks _ e => absurd e (h i ks)⟩
structure RS (K : PySem.W.Frag) (H0 H : Hp) (σ : St) (ρ : Z.Env) : Prop where
  same : Same H0 H
  re : RE K H σ ρ
  fresh : ∀ (i : Nat) (xs : List Z.D) (q : Addr), ρ[i]? = some (some (.own xs)) → σ[i]? = some (some (.ref q)) → H0 q = none
  bors : ∀ (i : Nat) (xs : List Z.D), ρ[i]? = some (some (.bor xs)) → ∃ v, σ[i]? = some (some v) ∧ DenW K H0 (.lst xs) v
  dic : DicOk H0 σ ρ
def flZ (K : PySem.W.Frag) (H0 H : Hp) (D : Ends) : Z.Fl → Prop
  | .nx ρ' => ∀ σ' H', Stb H H' → RS K H0 H' σ' ρ' → D.nx σ' H'
  | .rt d => ∀ v H', Same H0 H' → Den K H' d v → D.rt v H'
  | .bk ρ' => ∀ σ' H', Stb H H' → RS K H0 H' σ' ρ' → D.bk σ' H'
  | .ct ρ' => ∀ σ' H', Stb H H' → RS K H0 H' σ' ρ' → D.ct σ' H'
def tS (K : PySem.W.Frag) (H0 : Hp) (g : Z.SF) : TS := fun D σ H => ∃ ρ fl, RS K H0 H σ ρ ∧ g ρ = .ok fl ∧ flZ K H0 H D fl
abbrev DS (X : Cx) (H0 : Hp) (st : Stmt) (g : Z.SF) : Prop := PS X st (tS X.K H0 g)
abbrev DSs (X : Cx) (H0 : Hp) (st : List Stmt) (g : Z.SF) : Prop := PSs X st (tS X.K H0 g)
theorem PS.imp {st : Stmt} {t t' : TS} (h : PS X st t) (k : ∀ D σ H, t' D σ H → t D σ H) : PS X st t' := fun pins s σ H D I w => h pins s σ H D I (k D σ H w)
theorem PSs.imp {st : List Stmt} {t t' : TS} (h : PSs X st t) (k : ∀ D σ H, t' D σ H → t D σ H) : PSs X st t' := fun pins s σ H D I w => h pins s σ H D I (k D σ H w)
theorem RS.up {K : PySem.W.Frag} {H0 H H' : Hp} {σ : St} {ρ : Z.Env} (h : RS K H0 H σ ρ) (e : Same H H') : RS K H0 H' σ ρ := ⟨h.same.trans e, h.re.up e, h.fresh, h.bors, h.dic⟩
theorem flZ.up {K : PySem.W.Frag} {H0 H H1 : Hp} {D : Ends} {fl : Z.Fl} (h : flZ K H0 H D fl) (e : Stb H H1) : flZ K H0 H1 D fl := by
  cases fl with
  | nx ρ' => exact fun σ' H' s r => h σ' H' (e.trans s) r
  | rt d => exact h
  | bk ρ' => exact fun σ' H' s r => h σ' H' (e.trans s) r
  | ct ρ' => exact fun σ' H' s r => h σ' H' (e.trans s) r
theorem set_cases {α : Type} {l : List (Option α)} {i j : Nat} {x : Option α} {y : α} (h : (l.set i x)[j]? = some (some y)) : (i = j ∧ i < l.length ∧ x = some y) ∨ (i ≠ j ∧ l[j]? = some (some y)) := by
  by_cases hij : i = j
  · subst hij
    by_cases hl : i < l.length
    · rw [List.getElem?_set_self hl] at h
      exact .inl ⟨rfl, hl, Option.some.inj h⟩
    · rw [List.getElem?_eq_none (by simpa using hl)] at h; cases h
  · rw [List.getElem?_set_ne hij] at h
    exact .inr ⟨hij, h⟩
theorem DicOk.set {H0 : Hp} {σ : St} {ρ : Z.Env} {i : Nat} {v : V} {l : Z.L} (h : DicOk H0 σ ρ) (n : ∀ ks, l ≠ .dic ks) : DicOk H0 (σ.set i (some v)) (ρ.set i (some l)) := by
  have get : ∀ (j : Nat) (ks : List (List Int)), (ρ.set i (some l))[j]? = some (some (.dic ks)) → ρ[j]? = some (some (.dic ks)) ∧ (σ.set i (some v))[j]? = σ[j]? := fun j ks e => by
    rcases set_cases e with ⟨_, _, e⟩ | ⟨hj, e⟩
    · exact absurd (Option.some.inj e) (n ks)
    · exact ⟨e, List.getElem?_set_ne hj⟩
  exact ⟨fun j k ks ls a e1 e2 e3 e4 => h.1 j k ks ls a (get j ks e1).1 (get k ls e2).1 (by rw [← (get j ks e1).2]; exact e3) (by rw [← (get k ls e2).2]; exact e4), fun j ks q e1 e2 => h.2 j ks q (get j ks e1).1 (by rw [← (get j ks e1).2]; exact e2)⟩
theorem DicOk.setρ {H0 : Hp} {σ : St} {ρ : Z.Env} {i : Nat} {l : Z.L} (h : DicOk H0 σ ρ) (n : ∀ ks, l ≠ .dic ks) : DicOk H0 σ (ρ.set i (some l)) := by
  have get : ∀ (j : Nat) (ks : List (List Int)), (ρ.set i (some l))[j]? = some (some (.dic ks)) → ρ[j]? = some (some (.dic ks)) := fun j ks e => by
    rcases set_cases e with ⟨_, _, e⟩ | ⟨hj, e⟩
    · exact absurd (Option.some.inj e) (n ks)
    · exact e
  exact ⟨fun j k ks ls a e1 e2 e3 e4 => h.1 j k ks ls a (get j ks e1) (get k ls e2) e3 e4, fun j ks q e1 e2 => h.2 j ks q (get j ks e1) e2⟩
theorem RS.setV {K : PySem.W.Frag} {H0 H : Hp} {σ : St} {ρ : Z.Env} {i : Nat} {d : Z.D} {v : V} (h : RS K H0 H σ ρ) (hd : Den K H d v) : RS K H0 H (σ.set i (some v)) (ρ.set i (some (.val d))) := by
  have getσ : ∀ (j : Nat), i ≠ j → (σ.set i (some v))[j]? = σ[j]? := fun j hj => List.getElem?_set_ne hj
  refine ⟨h.same, ⟨by simp [h.re.len], fun j l e => ?_, fun j k xs ys q e1 e2 e3 e4 => ?_⟩, fun j xs q e1 e2 => ?_, fun j xs e1 => ?_, h.dic.set fun _ z => nomatch z⟩
  · rcases set_cases e with ⟨rfl, hl, e⟩ | ⟨hj, e⟩
    · cases e
      exact ⟨v, List.getElem?_set_self (by rw [← h.re.len]; exact hl), hd⟩
    · rw [getσ j hj]; exact h.re.get j l e
  · rcases set_cases e1 with ⟨_, _, e⟩ | ⟨hj, e1⟩
    · cases e
    · rcases set_cases e2 with ⟨_, _, e⟩ | ⟨hk, e2⟩
      · cases e
      · rw [getσ j hj] at e3
        rw [getσ k hk] at e4
        exact h.re.sep j k xs ys q e1 e2 e3 e4
  · rcases set_cases e1 with ⟨_, _, e⟩ | ⟨hj, e1⟩
    · cases e
    · rw [getσ j hj] at e2
      exact h.fresh j xs q e1 e2
  · rcases set_cases e1 with ⟨_, _, e⟩ | ⟨hj, e1⟩
    · cases e
    · rw [getσ j hj]
      exact h.bors j xs e1
theorem RS.setO {K : PySem.W.Frag} {H0 H : Hp} {σ : St} {ρ : Z.Env} {i : Nat} {ds : List Z.D} {q : Addr} {vs : List V} (h : RS K H0 H σ ρ) (hq : H q = some (.lst vs)) (t : Dens K H ds vs) (h0 : H0 q = none)
    (nq : ∀ (j : Nat) (xs : List Z.D), j ≠ i → ρ[j]? = some (some (.own xs)) → σ[j]? ≠ some (some (.ref q))) : RS K H0 H (σ.set i (some (.ref q))) (ρ.set i (some (.own ds))) := by
  have getσ : ∀ (j : Nat), i ≠ j → (σ.set i (some (V.ref q)))[j]? = σ[j]? := fun j hj => List.getElem?_set_ne hj
  refine ⟨h.same, ⟨by simp [h.re.len], fun j l e => ?_, fun j k xs ys p e1 e2 e3 e4 => ?_⟩, fun j xs p e1 e2 => ?_, fun j xs e1 => ?_, h.dic.set fun _ z => nomatch z⟩
  · rcases set_cases e with ⟨rfl, hl, e⟩ | ⟨hj, e⟩
    · cases e
      exact ⟨.ref q, List.getElem?_set_self (by rw [← h.re.len]; exact hl), q, vs, rfl, hq, t⟩
    · rw [getσ j hj]; exact h.re.get j l e
  · rcases set_cases e1 with ⟨rfl, hl, _⟩ | ⟨hj, e1⟩
    · rcases set_cases e2 with ⟨rfl, _, _⟩ | ⟨hk, e2⟩
      · rfl
      · rw [List.getElem?_set_self (by rw [← h.re.len]; exact hl)] at e3
        cases e3
        rw [getσ k hk] at e4
        exact absurd e4 (nq k ys (Ne.symm hk) e2)
    · rcases set_cases e2 with ⟨rfl, hl, _⟩ | ⟨hk, e2⟩
      · rw [List.getElem?_set_self (by rw [← h.re.len]; exact hl)] at e4
        cases e4
        rw [getσ j hj] at e3
        exact absurd e3 (nq j xs (Ne.symm hj) e1)
      · rw [getσ j hj] at e3
        rw [getσ k hk] at e4
        exact h.re.sep j k xs ys p e1 e2 e3 e4
  · rcases set_cases e1 with ⟨rfl, hl, _⟩ | ⟨hj, e1⟩
    · rw [List.getElem?_set_self (by rw [← h.re.len]; exact hl)] at e2
      cases e2
      exact h0
    · rw [getσ j hj] at e2
      exact h.fresh j xs p e1 e2
  · rcases set_cases e1 with ⟨_, _, e⟩ | ⟨hj, e1⟩
    · cases e
    · rw [getσ j hj]
      exact h.bors j xs e1
theorem RS.chg {K : PySem.W.Frag} {H0 H : Hp} {σ : St} {ρ : Z.Env} {i : Nat} {xs ds : List Z.D} {q : Addr} {us vs : List V} (h : RS K H0 H σ ρ) (ei : ρ[i]? = some (some (.own xs))) (si : σ[i]? = some (some (.ref q))) (hq : H q = some (.lst us)) (t : Dens K H ds vs) :
    RS K H0 (upd H q (.lst vs)) σ (ρ.set i (some (.own ds))) := by
  have st : Stb H (upd H q (.lst vs)) := stb_lst hq
  have h0 : H0 q = none := h.fresh i xs q ei si
  have hs : Same H0 (upd H q (.lst vs)) := fun b u e => by rw [upd_ne (ne_of_none e h0)]; exact h.same b u e
  refine ⟨hs, ⟨by simp [h.re.len], fun j l e => ?_, fun j k xs' ys p e1 e2 e3 e4 => ?_⟩, fun j xs' p e1 e2 => ?_, fun j xs' e1 => ?_, h.dic.setρ fun _ z => nomatch z⟩
  · rcases set_cases e with ⟨rfl, hl, e⟩ | ⟨hj, e⟩
    · cases e
      exact ⟨.ref q, si, q, vs, rfl, upd_same, t.ups st⟩
    · obtain ⟨v, e1, r⟩ := h.re.get j l e
      refine ⟨v, e1, ?_⟩
      cases l with
      | val d => exact Den.ups (show Den K H d v from r) st
      | own zs =>
        obtain ⟨q', ws, rfl, hq', t'⟩ := r
        have : q' ≠ q := by
          rintro rfl
          exact hj (h.re.sep i j xs zs q' ei e si e1)
        exact ⟨q', ws, rfl, by rw [upd_ne this]; exact hq', t'.ups st⟩
      | bor zs =>
        obtain ⟨v', e2, r2⟩ := h.bors j zs e
        rw [e1] at e2
        cases e2
        exact r2.up hs
      | dic ks =>
        obtain ⟨q', as, rfl, hq', t'⟩ := r
        have : q' ≠ q := by
          rintro rfl
          rw [hq] at hq'; cases hq'
        exact ⟨q', as, rfl, by rw [upd_ne this]; exact hq', t'.ups st⟩
      | fdc ks =>
        obtain ⟨q', o', as, rfl, hq', t'⟩ := r
        exact ⟨q', o', as, rfl, st.frz _ _ _ hq', t'.ups st⟩
      | idc ps =>
        obtain ⟨q', o', rfl, hq'⟩ := r
        exact ⟨q', o', rfl, st.frz _ _ _ hq'⟩
  · have old : ∀ {j : Nat} {zs : List Z.D}, (ρ.set i (some (Z.L.own ds)))[j]? = some (some (.own zs)) → ∃ zs', ρ[j]? = some (some (.own zs')) := fun {j zs} e => by
      rcases set_cases e with ⟨rfl, _, _⟩ | ⟨_, e⟩
      · exact ⟨xs, ei⟩
      · exact ⟨zs, e⟩
    obtain ⟨_, o1⟩ := old e1
    obtain ⟨_, o2⟩ := old e2
    exact h.re.sep j k _ _ p o1 o2 e3 e4
  · rcases set_cases e1 with ⟨rfl, _, _⟩ | ⟨_, e1⟩
    · exact h.fresh i xs p ei e2
    · exact h.fresh j xs' p e1 e2
  · rcases set_cases e1 with ⟨_, _, e⟩ | ⟨_, e1⟩
    · cases e
    · exact h.bors j xs' e1
theorem RS.frz {K : PySem.W.Frag} {H0 H : Hp} {σ : St} {ρ : Z.Env} {i : Nat} {xs : List Z.D} {q : Addr} {us : List V} {o : Obj} (h : RS K H0 H σ ρ) (ei : ρ[i]? = some (some (.own xs))) (si : σ[i]? = some (some (.ref q))) (hq : H q = some (.lst us)) (t : Dens K H xs us) :
    RS K H0 (upd H q (.frz o (.lst us))) σ (ρ.set i (some (.val (.lst xs)))) := by
  have st : Stb H (upd H q (.frz o (.lst us))) := stb_lst hq
  have h0 : H0 q = none := h.fresh i xs q ei si
  have hs : Same H0 (upd H q (.frz o (.lst us))) := fun b u e => by rw [upd_ne (ne_of_none e h0)]; exact h.same b u e
  refine ⟨hs, ⟨by simp [h.re.len], fun j l e => ?_, fun j k xs' ys p e1 e2 e3 e4 => ?_⟩, fun j xs' p e1 e2 => ?_, fun j xs' e1 => ?_, h.dic.setρ fun _ z => nomatch z⟩
  · rcases set_cases e with ⟨rfl, hl, e⟩ | ⟨hj, e⟩
    · cases e
      exact ⟨.ref q, si, den_lst (.inl ⟨o, upd_same⟩) (t.ups st)⟩
    · obtain ⟨v, e1, r⟩ := h.re.get j l e
      refine ⟨v, e1, ?_⟩
      cases l with
      | val d => exact Den.ups (show Den K H d v from r) st
      | own zs =>
        obtain ⟨q', ws, rfl, hq', t'⟩ := r
        have : q' ≠ q := by
          rintro rfl
          exact hj (h.re.sep i j xs zs q' ei e si e1)
        exact ⟨q', ws, rfl, by rw [upd_ne this]; exact hq', t'.ups st⟩
      | bor zs =>
        obtain ⟨v', e2, r2⟩ := h.bors j zs e
        rw [e1] at e2
        cases e2
        exact r2.up hs
      | dic ks =>
        obtain ⟨q', as, rfl, hq', t'⟩ := r
        have : q' ≠ q := by
          rintro rfl
          rw [hq] at hq'; cases hq'
        exact ⟨q', as, rfl, by rw [upd_ne this]; exact hq', t'.ups st⟩
      | fdc ks =>
        obtain ⟨q', o', as, rfl, hq', t'⟩ := r
        exact ⟨q', o', as, rfl, st.frz _ _ _ hq', t'.ups st⟩
      | idc ps =>
        obtain ⟨q', o', rfl, hq'⟩ := r
        exact ⟨q', o', rfl, st.frz _ _ _ hq'⟩
  · rcases set_cases e1 with ⟨_, _, e⟩ | ⟨_, e1⟩
    · cases e
    · rcases set_cases e2 with ⟨_, _, e⟩ | ⟨_, e2⟩
      · cases e
      · exact h.re.sep j k _ _ p e1 e2 e3 e4
  · rcases set_cases e1 with ⟨_, _, e⟩ | ⟨_, e1⟩
    · cases e
    · exact h.fresh j xs' p e1 e2
  · rcases set_cases e1 with ⟨_, _, e⟩ | ⟨_, e1⟩
    · cases e
    · exact h.bors j xs' e1
variable {H0 : Hp} {st : Stmt} {sts : List Stmt} {g u : Z.SF}
theorem dss_nil : DSs X H0 [] Z.sNext := PSs.imp pss_nil fun D σ H ⟨ρ, fl, rs, e, k⟩ => by
  cases e
  exact k σ H (Stb.refl H) rs
theorem dss_one (h : DS X H0 st g) : DSs X H0 [st] g := pss_one h
theorem dss_cons (h1 : DS X H0 st g) (h2 : DSs X H0 sts u) : DSs X H0 (st :: sts) (Z.sSeq g u) := PSs.imp (pss_cons h1 h2) fun D σ H ⟨ρ, fl, rs, e, k⟩ => by
  obtain ⟨f1, e1, e⟩ := Z.Res.bind_ok e
  refine ⟨ρ, f1, rs, e1, ?_⟩
  cases f1 with
  | nx ρ' => exact fun σ' H' s r => ⟨ρ', fl, r, e, k.up s⟩
  | rt d => cases e; exact k
  | bk ρ' => cases e; exact k
  | ct ρ' => cases e; exact k
theorem ds_ret (h : DE X a fa) : DS X H0 (.Return (some a) pos) (Z.sRet fa) := PS.imp (ps_ret h) fun D σ H ⟨ρ, fl, rs, e, k⟩ => by
  obtain ⟨d, ea, e⟩ := Z.Res.bind_ok e
  cases e
  exact ⟨ρ, d, rs.re, ea, fun v H' s dv => k v H' (rs.same.trans s) dv⟩
theorem ds_if {c : Expr} {b1 b2 : List Stmt} {t : Z.TF} (hc : DT X c t) (h1 : DSs X H0 b1 g) (h2 : DSs X H0 b2 u) : DS X H0 (.If c b1 b2 pos) (Z.sIf t g u) := PS.imp (ps_if hc h1 h2) fun D σ H ⟨ρ, fl, rs, e, k⟩ => by
  obtain ⟨x, ea, e⟩ := Z.Res.bind_ok e
  refine ⟨ρ, x, rs.re, ea, fun H1 s1 => ?_⟩
  cases x with
  | true =>
    simp only [if_true] at e ⊢
    exact ⟨ρ, fl, rs.up s1, e, k.up (stb s1)⟩
  | false =>
    simp only [Bool.false_eq_true, if_false] at e ⊢
    exact ⟨ρ, fl, rs.up s1, e, k.up (stb s1)⟩
theorem ds_set {i : Nat} {x : Str} {pos' : Pos} (hN : X.N.Nodup) (hi : X.N[i]? = some x) (hx : Loc X.env.scope x) (he : DE X a fa) (hs : swapsWith a (some (.Name x pos')) pos.line X.env = pure false := by rfl) (hf : X.fn x = true ∨ X.env.scope.names.lookup x = some .local := by first | exact .inl rfl | exact .inr rfl | assumption) :
    DS X H0 (.Assign [.Name x pos'] a pos) (Z.sSet i fa) := PS.imp (ps_set hN hi hx he hs hf) fun D σ H ⟨ρ, fl, rs, e, k⟩ => by
  obtain ⟨d, ea, e⟩ := Z.Res.bind_ok e
  cases e
  exact ⟨ρ, d, rs.re, ea, fun v H' s dv => k _ H' (stb s) ((rs.up s).setV dv)⟩
theorem RS.noq {K : PySem.W.Frag} {H1 H : Hp} {σ : St} {ρ : Z.Env} {q : Addr} (h : RS K H1 H σ ρ) (hq : H q = none) (j : Nat) (xs : List Z.D) (e : ρ[j]? = some (some (.own xs))) : σ[j]? ≠ some (some (.ref q)) := fun z => by
  obtain ⟨v, e1, q', vs, rfl, h2, _⟩ := h.re.get j _ e
  rw [z] at e1; cases e1
  rw [hq] at h2; cases h2
theorem ds_own {i : Nat} {x : Str} {pos' : Pos} {l : Z.LF} (hN : X.N.Nodup) (hi : X.N[i]? = some x) (hx : Loc X.env.scope x) (he : DL X a l) (hs : swapsWith a (some (.Name x pos')) pos.line X.env = pure false := by rfl) (hf : X.fn x = true ∨ X.env.scope.names.lookup x = some .local := by first | exact .inl rfl | exact .inr rfl | assumption) :
    DS X H0 (.Assign [.Name x pos'] a pos) (Z.sOwn i l) := PS.imp (ps_set hN hi hx he hs hf) fun D σ H ⟨ρ, fl, rs, e, k⟩ => by
  obtain ⟨d, ea, e⟩ := Z.Res.bind_ok e
  cases e
  refine ⟨ρ, d, rs.re, ea, fun q vs H' s hn h1 t => k _ H' (stb s) ((rs.up s).setO h1 t (rs.same.free hn) fun j xs _ e => ?_)⟩
  exact rs.noq hn j xs e
def tG (K : PySem.W.Frag) (H0 : Hp) (g : Z.GF) : TG := fun v σ H Q => ∃ ρ d ρ', RS K H0 H σ ρ ∧ Den K H d v ∧ g d ρ = .ok ρ' ∧ ∀ σ' H', Same H H' → RS K H0 H' σ' ρ' → Q σ' H'
def tGs (K : PySem.W.Frag) (H0 : Hp) (is : List Nat) : TGs := fun vs σ H Q => ∃ ρ ds ρ', RS K H0 H σ ρ ∧ Dens K H ds vs ∧ Z.gNames is ds ρ = .ok ρ' ∧ ∀ σ' H', Same H H' → RS K H0 H' σ' ρ' → Q σ' H'
abbrev DG (X : Cx) (H0 : Hp) (tg : Expr) (g : Z.GF) : Prop := PG X tg (tG X.K H0 g)
abbrev DGs (X : Cx) (H0 : Hp) (tgs : List Expr) (is : List Nat) : Prop := PGs X tgs (tGs X.K H0 is)
theorem PG.imp {t t' : TG} (h : PG X tg t) (k : ∀ v σ H Q, t' v σ H Q → t v σ H Q) : PG X tg t' := fun pins s σ H v u Q I r w => h pins s σ H v u Q I r (k v σ H Q w)
theorem PGs.imp {t t' : TGs} (h : PGs X es t) (k : ∀ v σ H Q, t' v σ H Q → t v σ H Q) : PGs X es t' := fun pins s σ H v u Q I r w => h pins s σ H v u Q I r (k v σ H Q w)
theorem dg_name {i : Nat} {x : Str} (hN : X.N.Nodup) (hi : X.N[i]? = some x) (hx : Loc X.env.scope x) (hf : X.fn x = true ∨ X.env.scope.names.lookup x = some .local := by first | exact .inl rfl | exact .inr rfl | assumption) : DG X H0 (.Name x pos) (Z.gName i) :=
  PG.imp (pg_name hN hi hx hf) fun v σ H Q ⟨ρ, d, ρ', rs, hd, e, k⟩ => by
    cases e
    exact k _ H (Same.refl H) (rs.setV hd)
theorem ds_for {it : Z.LF} {G : Z.GF} {iter : Expr} {body : List Stmt} (hp : PassesOwn (model X.prog X.w) X.A X.env X.xe) (hc : X.calm = true) (hi : DJ X tg iter it) (hg : DG X H0 tg G) (hb : DSs X H0 body g)
    (hs : ∀ x, foldedSetIterable iter X.env x = pure x := by intro _; rfl) : DS X H0 (.For tg iter body [] pos) (Z.sFor it G g) := PS.imp (ps_for hp hc hi hg hb hs) fun D σ H ⟨ρ, fl, rs, e, k⟩ => by
  obtain ⟨ds, ei, e⟩ := Z.Res.bind_ok e
  refine ⟨ρ, ds, rs.re, ei, fun J H1 s1 z => ?_⟩
  refine ⟨fun i m σ' H' => m = ds.length - i ∧ i ≤ ds.length ∧ ∃ ρ', RS X.K H0 H' σ' ρ' ∧ Stb H1 H' ∧ Z.forGo G g (ds.drop i) ρ' = .ok fl, ⟨ds.length, by simp, Nat.zero_le _, ρ, rs.up s1, Stb.refl H1, by simpa using e⟩, ?_⟩
  rintro i m σ2 H2 ⟨rfl, hil, ρ2, r2, s2, e2⟩
  by_cases hlt : i < ds.length
  · obtain ⟨d, hd⟩ : ∃ d, ds[i]? = some d := ⟨ds[i], by simp [hlt]⟩
    have hdrop : ds.drop i = d :: ds.drop (i + 1) := by
      rw [List.drop_eq_getElem_cons hlt]
      have : ds[i] = d := by
        have := List.getElem?_eq_getElem hlt
        rw [this] at hd; exact Option.some.inj hd
      rw [this]
    rw [hdrop] at e2
    unfold Z.forGo at e2
    obtain ⟨ρ3, eg, e2⟩ := Z.Res.bind_ok e2
    obtain ⟨f3, eb, e2⟩ := Z.Res.bind_ok e2
    refine .inr ⟨z.go i d H2 s2 hd, fun σ' H' => ∃ ρ', RS X.K H0 H' σ' ρ' ∧ Stb H1 H' ∧ Z.forGo G g (ds.drop (i + 1)) ρ' = .ok fl, fun σ' H' w => ⟨_, by omega, rfl, hlt, w⟩, fun x H3 y => ?_⟩
    obtain ⟨sy, dx⟩ := z.yld i d H2 H3 x s2 hd y
    replace s2 := s2.trans (stb sy)
    refine ⟨ρ2, d, ρ3, r2.up sy, dx, eg, fun σ4 H4 s4' r4 => ⟨ρ3, f3, r4, eb, ?_⟩⟩
    have s4 := stb s4'
    cases f3 with
    | nx ρ5 => exact fun σ5 H5 s5 r5 => ⟨ρ5, r5, (s2.trans s4).trans s5, e2⟩
    | ct ρ5 => exact fun σ5 H5 s5 r5 => ⟨ρ5, r5, (s2.trans s4).trans s5, e2⟩
    | bk ρ5 =>
      cases e2
      exact fun σ5 H5 s5 r5 => k σ5 H5 ((stb s1).trans ((s2.trans s4).trans s5)) r5
    | rt d5 =>
      cases e2
      exact k
  · have : i = ds.length := by omega
    subst this
    rw [List.drop_length] at e2
    cases e2
    exact .inl ⟨z.stop H2 s2, k σ2 H2 ((stb s1).trans s2) r2⟩
theorem ds_append {i : Nat} {o : Expr} {p1 p2 : Pos} (ho : PE X o (tVar i)) (ha : DE X a fa) (hs : swapsWith (.Call (.Attribute o "append" p1) [a] [] p2) none pos.line X.env = pure false := by rfl) (hs1 : starEach (a :: []) X.env = (false, eval a X.env) :: starEach [] X.env := by rfl)
    (hbm : PE X (.Call (.Attribute o "append" p1) [a] [] p2) (tBM X.K "list" rAppend (tVar i) (tCons (tZ X.K fa) tNil))) :
    DS X H0 (.Expr (.Call (.Attribute o "append" p1) [a] [] p2) pos) (Z.sAppend i fa) := PS.imp (ps_expr hbm hs) fun D σ H ⟨ρ, fl, rs, e, k⟩ => by
  obtain ⟨d, ea, e⟩ := Z.Res.bind_ok e
  split at e
  · rename_i xs ei
    unfold Z.guard at e
    split at e
    · rename_i hl
      cases e
      obtain ⟨v, si, q, us, rfl, hq, t⟩ := rs.re.get i _ ei
      refine ⟨.ref q, si, .inl ⟨rfl, us, SqL.of hq⟩, ρ, d, rs.re, ea, fun v' H1 s1 dv => ?_⟩
      have hq1 : H1 q = some (.lst us) := s1 _ _ hq
      refine ⟨q, us, v', rfl, rfl, hq1, by rw [t.length, sizeLine_eq]; exact hl, ?_⟩
      exact k σ _ ((stb s1).trans (stb_lst hq1)) ((rs.up s1).chg ei si hq1 ((t.up s1).append (Dens.cons dv Dens.nil)))
    · cases e
  · cases e
end
end ZS
set_option Elab.async false
set_option linter.all false
set_option maxHeartbeats 4000000
namespace ZS
open PySem PySem.Spec PyProof.Rows L2
theorem closure_of {env : Env} : ∀ (names : List (Str × NameKind)) (acc : List (Str × Addr)), (∀ y ∈ names, y.2 = .free → ∃ c, env.cells.lookup y.1 = some c) → (∀ x c, acc.lookup x = some c → env.cells.lookup x = some c) →
    ∃ cl, (forIn names acc fun (x : Str × NameKind) (cs : List (Str × Addr)) => (if (x.2 == NameKind.free) = true then do let c ← cellOf env x.1; pure (ForInStep.yield ((x.1, c) :: cs)) else pure (ForInStep.yield cs) : Sem (ForInStep (List (Str × Addr))))) = pure cl ∧
      (∀ x c, cl.lookup x = some c → env.cells.lookup x = some c) ∧ (∀ x, (acc.lookup x).isSome = true → (cl.lookup x).isSome = true) ∧ (∀ y ∈ names, y.2 = .free → (cl.lookup y.1).isSome = true)
  | [], acc, _, ha => ⟨acc, rfl, ha, fun _ h => h, fun y hy => by cases hy⟩
  | (n, k) :: r, acc, hn, ha => by
    by_cases hk : k = .free
    · subst hk
      obtain ⟨c, hc⟩ := hn (n, .free) List.mem_cons_self rfl
      have ha' : ∀ x d, ((n, c) :: acc).lookup x = some d → env.cells.lookup x = some d := fun x d e => by
        rw [List.lookup_cons] at e
        split at e
        · rename_i q; cases e; rw [beq_iff_eq.mp q]; exact hc
        · exact ha x d e
      obtain ⟨cl, e, h1, h2, h3⟩ := closure_of r ((n, c) :: acc) (fun y hy => hn y (List.mem_cons_of_mem _ hy)) ha'
      have self : (cl.lookup n).isSome = true := h2 n (by rw [List.lookup_cons_self]; rfl)
      refine ⟨cl, ?_, h1, fun x hx => h2 x ?_, fun y hy hf => ?_⟩
      · rw [List.forIn_cons]
        simp only [beq_self_eq_true, if_true]
        have : cellOf env n = pure c := by unfold cellOf; rw [hc]
        rw [this]
        exact e
      · rw [List.lookup_cons]
        split
        · rfl
        · exact hx
      · rcases List.mem_cons.mp hy with rfl | hy
        · exact self
        · exact h3 y hy hf
    · obtain ⟨cl, e, h1, h2, h3⟩ := closure_of r acc (fun y hy => hn y (List.mem_cons_of_mem _ hy)) ha
      have hb : (k == NameKind.free) = false := by simpa using hk
      refine ⟨cl, ?_, h1, h2, fun y hy hf => ?_⟩
      · rw [List.forIn_cons]
        simp only [hb, Bool.false_eq_true, if_false]
        exact e
      · rcases List.mem_cons.mp hy with rfl | hy
        · exact absurd hf hk
        · exact h3 y hy hf
theorem closureFor_of {env : Env} {scope : Scope} (hn : ∀ y ∈ scope.names, y.2 = .free → ∃ c, env.cells.lookup y.1 = some c) :
    ∃ cl, closureFor scope env = pure cl ∧ (∀ x c, cl.lookup x = some c → env.cells.lookup x = some c) ∧ (∀ y ∈ scope.names, y.2 = .free → (cl.lookup y.1).isSome = true) := by
  obtain ⟨cl, e, h1, _, h3⟩ := closure_of (env := env) scope.names [] hn (fun x c e => by cases e)
  refine ⟨cl, ?_, h1, h3⟩
  unfold closureFor
  first
    | exact e
    | (simp only [bind_pure]; exact e)
    | (rw [show _ = _ from e]; rfl)
theorem lookup_relabel {env : Env} {x : Str} : ∀ (names : List (Str × NameKind)), (names.map fun (n, k) => if (k == NameKind.free && env.scope.kind == .function && env.kindOf n == some .cell) = true then (n, NameKind.cell) else (n, k)).lookup x = (names.lookup x).map fun k => if (k == NameKind.free && env.scope.kind == .function && env.kindOf x == some .cell) = true then NameKind.cell else k
  | [] => rfl
  | (n, k) :: r => by
    have ih := @lookup_relabel env x r
    show List.lookup x ((if (k == NameKind.free && env.scope.kind == .function && env.kindOf n == some .cell) = true then (n, NameKind.cell) else (n, k)) :: _) = _
    by_cases hx : x = n
    · subst hx
      by_cases hc : (k == NameKind.free && env.scope.kind == .function && env.kindOf x == some .cell) = true
      · rw [if_pos hc, List.lookup_cons_self, List.lookup_cons_self, Option.map_some, if_pos hc]
      · rw [if_neg hc, List.lookup_cons_self, List.lookup_cons_self, Option.map_some, if_neg hc]
    · have hb : (x == n) = false := by simpa using hx
      by_cases hc : (k == NameKind.free && env.scope.kind == .function && env.kindOf n == some .cell) = true
      · rw [if_pos hc, List.lookup_cons, List.lookup_cons, hb]
        exact ih
      · rw [if_neg hc, List.lookup_cons, List.lookup_cons, hb]
        exact ih
abbrev blk (X : Cx) (N' : List Str) (scope : Scope) (cl : List (Str × Addr)) (C : Addr) (fp : List Addr) (s₂ : Shared) (H₂ : Hp) : Cx :=
  { prog := X.prog, w := X.w, K := X.K, mg := X.mg, base := X.base, A := X.A, N := N', s₀ := s₂, H₀ := H₂, env := compEnvC scope cl C X.env, outer := X.stack, stack := X.stack, ex := fp, fn := fun _ => false, calm := X.calm, pn := [], xe := fun _ _ => False }
structure Blk (N N' : List Str) (n : Nat) (is : List Nat) (sc osc : Scope) : Prop where
  kind : sc.kind = .function
  cell : ∀ y ∈ sc.names, y.2 ≠ .cell
  loc : ∀ y ∈ sc.names, y.2 = .local → sc.names.lookup y.1 = some .local
  free : ∀ y ∈ sc.names, y.2 = .free → osc.names.lookup y.1 = some .cell ∨ osc.names.lookup y.1 = some .free
  len : N'.length = n + is.length
  cap : ∀ (j i : Nat), is[j]? = some i → ∃ x, N'[n + j]? = some x ∧ N[i]? = some x ∧ sc.names.lookup x = some .free
  own : ∀ (j : Nat), j < n → ∃ x, N'[j]? = some x ∧ sc.names.lookup x = some .local
section
variable {X : Cx} {tg e a b elt iter : Expr} {ifs : List Expr} {pos : Pos} {N' : List Str} {n : Nat} {is : List Nat} {scope : Scope}
def sCap (σ : St) (n : Nat) (is : List Nat) : St := List.replicate n none ++ is.map fun i => (σ[i]?).join
theorem cap_noown (n : Nat) (is : List Nat) (ρ : Z.Env) (i : Nat) (xs : List Z.D) : (List.replicate n none ++ Z.capt ρ is : Z.Env)[i]? ≠ some (some (.own xs)) := by
  intro e
  by_cases hi : i < n
  · rw [List.getElem?_append_left (by simpa using hi), List.getElem?_replicate] at e
    split at e <;> cases e
  · rw [List.getElem?_append_right (by simpa using hi)] at e
    unfold Z.capt at e
    rw [List.getElem?_map] at e
    cases q : is[i - (List.replicate n (none : Option Z.L)).length]? with
    | none => rw [q] at e; cases e
    | some j =>
      rw [q] at e
      have e' : Z.capt1 ρ j = some (.own xs) := Option.some.inj e
      unfold Z.capt1 at e'
      split at e' <;> cases e'
theorem cap_nodic (n : Nat) (is : List Nat) (ρ : Z.Env) (i : Nat) (ks : List (List Int)) : (List.replicate n none ++ Z.capt ρ is : Z.Env)[i]? ≠ some (some (.dic ks)) := by
  intro e
  by_cases hi : i < n
  · rw [List.getElem?_append_left (by simpa using hi), List.getElem?_replicate] at e
    split at e <;> cases e
  · rw [List.getElem?_append_right (by simpa using hi)] at e
    unfold Z.capt at e
    rw [List.getElem?_map] at e
    cases q : is[i - (List.replicate n (none : Option Z.L)).length]? with
    | none => rw [q] at e; cases e
    | some j =>
      rw [q] at e
      have e' : Z.capt1 ρ j = some (.dic ks) := Option.some.inj e
      unfold Z.capt1 at e'
      split at e' <;> cases e'
theorem re_cap {K : PySem.W.Frag} {H H' : Hp} {σ : St} {ρ : Z.Env} (h : RE K H σ ρ) (s : Same H H') : RS K H H' (sCap σ n is) (List.replicate n none ++ Z.capt ρ is) := by
  have key : ∀ (i : Nat) (l : Z.L), (List.replicate n none ++ Z.capt ρ is : Z.Env)[i]? = some (some l) → ∃ v, (sCap σ n is)[i]? = some (some v) ∧ RL K H l v := ?_
  refine ⟨s, ⟨by simp [sCap, Z.capt], fun i l e => let ⟨v, h1, h2⟩ := key i l e; ⟨v, h1, h2.up s⟩, fun i j xs ys q e1 => absurd e1 (cap_noown n is ρ i xs)⟩, fun i xs q e1 => absurd e1 (cap_noown n is ρ i xs), fun i xs e1 => key i _ e1, DicOk.non (cap_nodic n is ρ)⟩
  intro i l e
  by_cases hi : i < n
  · rw [List.getElem?_append_left (by simpa using hi), List.getElem?_replicate] at e
    split at e <;> cases e
  · rw [List.getElem?_append_right (by simpa using hi)] at e
    unfold sCap
    rw [List.getElem?_append_right (by simpa using hi)]
    simp only [List.length_replicate] at e ⊢
    unfold Z.capt at e
    rw [List.getElem?_map] at e ⊢
    cases q : is[i - n]? with
    | none => rw [q] at e; cases e
    | some j =>
      rw [q] at e
      have e' : Z.capt1 ρ j = some l := Option.some.inj e
      unfold Z.capt1 at e'
      split at e'
      · rename_i d hd
        cases e'
        obtain ⟨v, h1, h2⟩ := h.get j _ hd
        refine ⟨v, ?_, h2⟩
        simp [h1]
      · rename_i d hd
        cases e'
        obtain ⟨v, h1, h2⟩ := h.get j _ hd
        refine ⟨v, ?_, h2⟩
        simp [h1]
      · rename_i d hd
        cases e'
        obtain ⟨v, h1, h2⟩ := h.get j _ hd
        refine ⟨v, ?_, h2⟩
        simp [h1]
      · cases e'
theorem codeAny_compLoop_go {prog : Program} {w : World} {A : Around} {R : Result → Shared → Prop} {s : Shared} {elt target iter : Expr} {ifs : List Expr} {scope : Scope} {pos : Pos} {it acc : Value} {env : Env} (I : Nat → Shared → Prop)
    (turn : ∀ n s, I n s → wpAny (model prog w) A (pyNext it) (fun r s₁ => match r with
      | none => R (.ok .next) s₁
      | some v => wpAny (model prog w) A (letOwnedTupleGo target it v) (fun _ s₁ => wpAny (model prog w) A (assign target env v) (fun _ s₂ =>
          wpAny (model prog w) A (forIn ifs true fun c r => if r = true then do let ok ← isTrue c env (eval c env); pure (ForInStep.yield ok) else pure (ForInStep.yield r)) (fun ok s₃ =>
            if ok = true then wpAny (model prog w) A (eval elt env) (fun x s₄ =>
              wpAny (model prog w) A (call (.builtin "list.append") [acc, x]) (fun _ s₅ => ∃ m, m < n ∧ I m s₅) (fun _ _ => False) s₄) (fun _ _ => False) s₃
            else ∃ m, m < n ∧ I m s₃) (fun _ _ => False) s₂) (fun _ _ => False) s₁) (fun _ _ => False) s₁) (fun _ _ => False) s)
    (n : Nat) (h : I n s) :
    codeAny (model prog w) A (.compLoop (.ListComp elt [⟨target, iter, ifs, 0⟩] scope pos) 0 it acc env) R s := by
  refine codeAny_loop rfl I (fun n s hI => ?_) n h
  show wpAny _ A ((compTurn (.ListComp elt [⟨target, iter, ifs, 0⟩] scope pos) 0 it acc env).onRaise (fun x => do noteFrame x env; theTreesLotGoes x)) _ _ s
  refine wpAny_noted ?_
  rw [compTurn_list]
  refine wpAny_bind (wpAny_standAt (wpAny_bind (wpAny_mono (turn n s hI) (fun r s₁ h₁ => ?_) fun _ _ h' => h'.elim)))
  cases r with
  | none => exact wpAny_pure h₁
  | some v =>
    refine wpAny_bind (wpAny_mono h₁ (fun _ s₁ h₁ => ?_) fun _ _ h' => h'.elim)
    refine wpAny_bind (wpAny_mono h₁ (fun _ s₂ h₂ => wpAny_bind (wpAny_mono h₂ (fun ok s₃ h₃ => ?_) fun _ _ h' => h'.elim)) fun _ _ h' => h'.elim)
    cases ok with
    | false => exact wpAny_pure ⟨rfl, h₃⟩
    | true =>
      exact wpAny_bind (wpAny_bind (wpAny_mono h₃ (fun x s₄ h₄ => wpAny_bind (wpAny_mono h₄ (fun _ s₅ h₅ => wpAny_pure (wpAny_pure ⟨rfl, h₅⟩)) fun _ _ h' => h'.elim)) fun _ _ h' => h'.elim))
structure Off (X : Cx) (pins : List (Addr × Obj)) (H : Hp) (C : Addr) : Prop where
  free : H C = none
  loc : C ≠ X.env.locals
  new : X.s₀.heap.objs.size ≤ C
  cell : ∀ x c, X.env.cells.lookup x = some c → c ≠ C
  pin : ∀ p ∈ X.pn ++ pins, p.1 ≠ C
theorem Off.inv {pins : List (Addr × Obj)} {σ : St} {H : Hp} {s : Shared} {C : Addr} {h' : Heap} (o : Off X pins H C) (I : Inv X pins σ H s) (hs : Heap.SameBut C s.heap h') : Inv X pins σ H { s with heap := h' } :=
  I.turned (t' := s.toks) (fun b ob hb e => (hs.2 b hb).trans e) o.free o.loc (.inr o.new) o.cell o.pin
def Ran (X : Cx) (pins : List (Addr × Obj)) (σ : St) (H₂ : Hp) (ys : List Z.D) (acc : Value) (C : Addr) (s' : Shared) : Prop :=
  ∃ D H' vs m, acc = .ref D ∧ s'.heap.Ns C m ∧ Inv X pins σ H' s' ∧ Off X pins H' C ∧ H₂ D = none ∧ Same H₂ H' ∧ H' D = some (.lst vs) ∧ Dens X.K H' ys vs
theorem comp_ran {it : Addr} {fp : List Addr} {tn : Nat → Heap → Prop} {J : It} {pins : List (Addr × Obj)} {σ : St} {ρ : Z.Env} {H₂ : Hp} {s₂ : Shared} {E : Value → Shared → Prop} {cl : List (Str × Addr)} {G : Z.GF} {t : Z.TF} {fe : Z.EF} {ds ys : List Z.D}
    (hcalm : X.calm = true) (B : Blk X.N N' n is scope X.env.scope) (I2 : Inv X pins σ H₂ s₂) (T : Turn X.prog X.w X.K tg J fp it tn) (st0 : tn 0 s₂.heap) (fo : ∀ b ∈ fp, FpOk X pins H₂ b) (z : ItZ X.K J (Same H₂) ds) (re : RE X.K H₂ σ ρ)
    (hcl1 : ∀ x c, cl.lookup x = some c → X.env.cells.lookup x = some c) (hcl2 : ∀ y ∈ scope.names, y.2 = .free → (cl.lookup y.1).isSome = true)
    (hG : ∀ d ρ ρ1, G d ρ = .ok ρ1 → ρ1.length = ρ.length ∧ ∀ i, n ≤ i → ρ1[i]? = ρ[i]?)
    (hg : ∀ C s H H0, DG (blk X N' scope cl C fp s H) H0 tg G)
    (ht : ∀ (C : Addr) (s s' : Shared) (H : Hp) (pins' : List (Addr × Obj)) (σ' : St) (H' : Hp) (Q : Bool → Hp → Prop), Inv (blk X N' scope cl C fp s H) pins' σ' H' s' → tZt X.K t σ' H' Q →
      wpAny (model X.prog X.w) X.A (forIn ifs true fun c r => if r = true then do let ok ← isTrue c (compEnvC scope cl C X.env) (eval c (compEnvC scope cl C X.env)); pure (ForInStep.yield ok) else pure (ForInStep.yield r)) (TP (blk X N' scope cl C fp s H) pins' σ' Q) (fun _ _ => False) s')
    (he : ∀ C s H, DE (blk X N' scope cl C fp s H) elt fe) (hlen : ds.length ≤ Z.line) (ego : Z.compGo G t fe (List.replicate n none ++ Z.capt ρ is) ds = .ok ys) :
    wpAny (model X.prog X.w) X.A (newList []) (fun acc s₃ => wpAny (model X.prog X.w) X.A (newFunctionEnv scope X.env.globals cl [] X.env.qual none .none (some X.env)) (fun cenv s₄ =>
      codeAny (model X.prog X.w) X.A (.compStart (.ListComp elt [⟨tg, iter, ifs, 0⟩] scope pos) 0 (.ref it) acc { cenv with scope := relabel scope X.env }) (fun r s' => r = .ok .next ∧ Ran X pins σ H₂ ys acc cenv.locals s') s₄) E s₃) E s₂ := by
  refine wpAny_newObj_type (wpAny_newFunctionEnv B.cell (by intro y hy; simp at hy) (fun h₁ hns₁ hsb₁ => ?_) B.kind)
  dsimp only at hns₁ hsb₁ ⊢
  generalize hH2 : s₂.heap.push { cls := .type "list", dict := none, data := .seq ([] : List Value).toArray } = HH at hns₁ hsb₁ ⊢
  have hC : HH.objs.size = s₂.heap.objs.size + 1 := by rw [← hH2, Heap.size_push]
  have hDC : s₂.heap.objs.size ≠ HH.objs.size := by rw [hC]; exact Nat.ne_of_lt (Nat.lt_succ_self _)
  have below : ∀ b, b < s₂.heap.objs.size → b ≠ HH.objs.size ∧ b ≠ s₂.heap.objs.size := fun b hb => ⟨by rw [hC]; exact Nat.ne_of_lt (Nat.lt_succ_of_lt hb), Nat.ne_of_lt hb⟩
  have old : ∀ b o, s₂.heap.get? b = some o → h₁.get? b = some o := fun b o e => hsb₁.extBut b o (below b (Heap.lt_size e)).1 (Heap.get?_push_of_some _ (hH2 ▸ Heap.get?_push_of_some _ e))
  have hacc : h₁.get? s₂.heap.objs.size = some { cls := .type "list", data := .seq ([] : List Value).toArray } := hsb₁.extBut _ _ hDC (Heap.get?_push_of_some _ (hH2 ▸ Heap.get?_push_size _ rfl))
  have fpo : ∀ b ∈ fp, ∃ o, s₂.heap.get? b = some o ∧ ∀ v, o.data ≠ .cell v := T.obj 0 _ st0
  have fplt : ∀ b ∈ fp, b < s₂.heap.objs.size := fun b hb => let ⟨_, e, _⟩ := fpo b hb; Heap.lt_size e
  generalize hD : s₂.heap.objs.size = D at hDC below old hacc hC ⊢
  generalize hCC : HH.objs.size = C at hns₁ hsb₁ hDC below hC ⊢
  have hDn : H₂ D = none := I2.hok.fresh (by rw [hD]; exact Nat.le_refl _)
  have hCn : H₂ C = none := I2.hok.fresh (by rw [hD, hC]; exact Nat.le_succ _)
  -- the block's context is in order
  have ok : (blk X N' scope cl C fp s₂ H₂).Ok := by
    refine ⟨I2.ok.mod, B.kind, I2.ok.glob, I2.ok.blt, by show s₂.heap.objs.size ≤ C; rw [hD, hC]; exact Nat.le_succ _, fun x y c e1 e2 => I2.ok.inj x y c (hcl1 x c e1) (hcl1 y c e2), fun x hx => ?_, fun x c hf => (by cases hf), I2.ok.hd, I2.ok.frames, .inl rfl,
      fun b hb => ⟨(below b (by rw [← hD]; exact fplt b hb)).1, fun x c e => (fo b hb).2.2.2.2.1 x c (hcl1 x c e)⟩, I2.bs, Nat.le_trans I2.ok.bsz I2.sz, fun b o e hb => ?_, fun b hb z => ?_, I2.stack, I2.stkFree⟩
    · have hx' : (relabel scope X.env).names.lookup x = some .cell ∨ (relabel scope X.env).names.lookup x = some .free := hx
      have e := lookup_relabel (env := X.env) (x := x) scope.names
      have e' : (relabel scope X.env).names.lookup x = _ := e
      rw [e'] at hx'
      cases q : scope.names.lookup x with
      | none => rw [q] at hx'; rcases hx' with h | h <;> cases h
      | some k =>
        have hm := PySem.mem_of_lookup q
        have hk : k = .free := by
          rw [q] at hx'
          simp only [Option.map_some] at hx'
          by_cases hc : (k == NameKind.free && X.env.scope.kind == .function && X.env.kindOf x == some .cell) = true
          · rw [Bool.and_eq_true, Bool.and_eq_true] at hc
            exact beq_iff_eq.mp hc.1.1
          · rw [if_neg hc] at hx'
            rcases hx' with h | h
            · exact absurd (Option.some.inj h) (B.cell _ hm)
            · exact Option.some.inj h
        subst hk
        exact Option.isSome_iff_exists.mp (hcl2 _ hm rfl)
    · rcases (fo b hb).2.2.2.1 with q | q
      · exact I2.ok.noex b o e q
      · exact absurd (Nat.lt_of_lt_of_le (Heap.lt_size (I2.ok.bs b o e).1) q) (Nat.lt_irrefl _)
    · rcases List.mem_cons.mp (I2.stkSub b z) with q | q
      · exact (fo b hb).2.1 q
      · exact (fo b hb).2.2.1 q
  have Hd : HOk X.prog X.w (upd H₂ D (.lst [])) h₁ := I2.hok.laid old (by rw [hD]; exact Nat.le_refl _) ⟨Nat.zero_le _, [], _, .nil, hacc⟩
  have ne2 : ∀ b, b < s₂.heap.objs.size → b ≠ D := fun b hb => by rw [← hD]; exact Nat.ne_of_lt hb
  have cellS : ∀ x c, X.env.cells.lookup x = some c → c < s₂.heap.objs.size ∧ ∀ v, s₂.heap.IsCell c v → h₁.IsCell c v := fun x c e => by
    obtain ⟨v, o, ho, hd⟩ := I2.cell x c e
    exact ⟨Heap.lt_size ho, fun v' ⟨o', ho', hd'⟩ => ⟨o', old c o' ho', hd'⟩⟩
  have I4 : Inv (blk X N' scope cl C fp s₂ H₂) [] (sCap σ n is) (upd H₂ D (.lst [])) { s₂ with heap := h₁, toks := s₂.toks + ([] : List (Str × Value)).length } := by
    refine ⟨ok, rfl, I2.bare, Un.laid old (by rw [hD]; exact Nat.le_refl _) hDn, ⟨_, hns₁, fun i x v e1 e2 e3 => ?_⟩, fun x c e => ?_, by show upd H₂ D (.lst []) C = none; rw [upd_ne (Ne.symm hDC)]; exact hCn, fun x c e => ?_, fun p hp => absurd (show p ∈ ([] : List (Addr × Obj)) from hp) (by simp), Hd, by simp [sCap, B.len]⟩
    · unfold sCap at e2
      by_cases hi : i < n
      · rw [List.getElem?_append_left (by simpa using hi), List.getElem?_replicate] at e2
        split at e2 <;> cases e2
      · rw [List.getElem?_append_right (by simpa using hi), List.getElem?_map] at e2
        simp only [List.length_replicate] at e2
        cases q : is[i - n]? with
        | none => rw [q] at e2; cases e2
        | some j =>
          rw [q] at e2
          simp only [Option.map_some] at e2
          obtain ⟨x', c1, c2, c3⟩ := B.cap (i - n) j q
          have hin : n + (i - n) = i := by omega
          rw [hin] at c1
          have e1' : N'[i]? = some x := e1
          rw [c1] at e1'; cases e1'
          have hσ : σ[j]? = some (some v) := by
            cases r : σ[j]? with
            | none => rw [r] at e2; cases e2
            | some y =>
              rw [r] at e2
              have : y = some v := by simpa using e2
              rw [this]
          obtain ⟨m, hn, hl⟩ := I2.loc
          have hm := PySem.mem_of_lookup c3
          have hk := B.free _ hm rfl
          have hvis : Vis X.env.scope x := by
            rcases hk with k | k
            · exact .inr (.inl k)
            · exact .inr (.inr k)
          obtain ⟨u, ru, lk⟩ := hl j x v c2 hσ hvis
          refine ⟨u, ru, ?_⟩
          rcases lk with ⟨k1, _⟩ | ⟨k1, c, hc, hcell⟩
          · have k1' : X.env.scope.names.lookup x = some .local := k1
            rcases hk with k | k
            · rw [k] at k1'; cases k1'
            · rw [k] at k1'; cases k1'
          · obtain ⟨c', hc'⟩ := Option.isSome_iff_exists.mp (hcl2 _ hm rfl)
            have : c' = c := by
              have := hcl1 x c' hc'
              rw [hc] at this; exact (Option.some.inj this).symm
            subst this
            refine .inr ⟨?_, c', hc', (cellS x c' hc).2 _ hcell⟩
            show (relabel scope X.env).names.lookup x = some .cell ∨ (relabel scope X.env).names.lookup x = some .free
            have e := lookup_relabel (env := X.env) (x := x) scope.names
            have e' : (relabel scope X.env).names.lookup x = _ := e
            rw [e', c3]
            simp only [Option.map_some]
            split
            · exact .inl rfl
            · exact .inr rfl
    · obtain ⟨v, hv⟩ := I2.cell x c (hcl1 x c e)
      exact ⟨v, (cellS x c (hcl1 x c e)).2 v hv⟩
    · have hlt := (cellS x c (hcl1 x c e)).1
      rw [upd_ne (ne2 c hlt)]
      exact I2.freeC x c (hcl1 x c e)
  have rs4 : RS X.K H₂ (upd H₂ D (.lst [])) (sCap σ n is) (List.replicate n none ++ Z.capt ρ is) := re_cap re (upd_Same hDn)
  have st4 : tn 0 h₁ := T.keep 0 _ _ st0 fun b hb o e => old b o e
  have fr4 : ∀ b ∈ fp, (upd H₂ D (.lst [])) b = none := fun b hb => by rw [upd_ne (ne2 b (fplt b hb))]; exact (fo b hb).1
  -- what stays true of the iterator's objects
  have stat : ∀ {H' : Hp}, (∀ b ∈ fp, H' b = none) → ∀ b ∈ fp, FpOk (blk X N' scope cl C fp s₂ H₂) [] H' b := fun hn b hb => by
    refine ⟨hn b hb, (below b (by rw [← hD]; exact fplt b hb)).1, ?_, .inl hb, fun x c e => (fo b hb).2.2.2.2.1 x c (hcl1 x c e), fun p hp => absurd (show p ∈ ([] : List (Addr × Obj)) from hp) (by simp)⟩
    intro q
    rcases List.mem_cons.mp (I2.stkSub b q) with q | q
    · exact (fo b hb).2.1 q
    · exact (fo b hb).2.2.1 q
  have loop : codeAny (model X.prog X.w) X.A (.compLoop (.ListComp elt [⟨tg, iter, ifs, 0⟩] scope pos) 0 (.ref it) (.ref D) (compEnvC scope cl C X.env)) (fun r s' => r = .ok .next ∧ Ran X pins σ H₂ ys (.ref D) C s')
      { s₂ with heap := h₁, toks := s₂.toks + ([] : List (Str × Value)).length } := by
    refine codeAny_compLoop_go (fun m s' => ∃ i σ' H' vs zs, m = ds.length + 1 - i ∧ i ≤ ds.length ∧ vs.length ≤ i ∧ Inv (blk X N' scope cl C fp s₂ H₂) [] σ' H' s' ∧ tn i s'.heap ∧ (∀ b ∈ fp, H' b = none) ∧ H' D = some (.lst vs) ∧ Same H₂ H' ∧
      RS X.K H₂ H' σ' (List.replicate n none ++ Z.capt ρ is) ∧ (∃ rest, Z.compGo G t fe (List.replicate n none ++ Z.capt ρ is) (ds.drop i) = .ok rest ∧ zs ++ rest = ys) ∧ Dens X.K H' zs vs) ?_ (ds.length + 1)
      ⟨0, sCap σ n is, _, [], [], rfl, Nat.zero_le _, Nat.le_refl _, I4, st4, fr4, upd_same, upd_Same hDn, rs4, ⟨ys, by simpa using ego, rfl⟩, Dens.nil⟩
    · rintro m s' ⟨i, σ3, H3, vs, zs, rfl, hil, hvl, I3, st3, fr3, hD3, sm3, re3, ⟨rest, er, ez⟩, dz⟩
      by_cases hlt : i < ds.length
      · obtain ⟨d, hd⟩ : ∃ d, ds[i]? = some d := ⟨ds[i], by simp [hlt]⟩
        have hdrop : ds.drop i = d :: ds.drop (i + 1) := by
          rw [List.drop_eq_getElem_cons hlt]
          have : ds[i] = d := by
            have := List.getElem?_eq_getElem hlt
            rw [this] at hd; exact Option.some.inj hd
          rw [this]
        rw [hdrop] at er
        unfold Z.compGo at er
        obtain ⟨ρ1, eg, er⟩ := Z.Res.bind_ok er
        obtain ⟨c1, ec, er⟩ := Z.Res.bind_ok er
        refine thn (T.item (blk X N' scope cl C fp s₂ H₂) rfl rfl rfl hcalm i [] s' σ3 H3 (fun _ _ => False) I3 (stat fr3) st3 (z.go i d H3 sm3 hd)) fun r s4 ⟨u, hr, h4⟩ => ?_
        subst hr
        refine thn h4 fun _ s5 ⟨x, H5, I5, r5, y5, st5, fr5⟩ => ?_
        obtain ⟨sy, dx⟩ := z.yld i d H3 H5 x sm3 hd y5
        replace re3 := re3.up sy
        replace sm3 := sm3.trans sy
        replace hD3 := sy _ _ hD3
        replace dz := dz.up sy
        have I5' := I5.pinned (stat fr5) (T.obj _ _ st5)
        have rs5 : RS X.K H₂ H5 σ3 (List.replicate n none ++ Z.capt ρ is) := re3
        refine thn (hg C s₂ H₂ H₂ _ s5 σ3 H5 x u (fun σ6 H6 => Same H5 H6 ∧ RS X.K H₂ H6 σ6 ρ1) I5' r5 ⟨_, d, ρ1, rs5, dx, eg, fun σ' H' s' r' => ⟨s', r'⟩⟩) fun _ s6 ⟨σ6, H6, I6, sm6, rs6⟩ => ?_
        refine thn (ht C s₂ s6 H₂ _ σ6 H6 (fun b H7 => b = c1 ∧ Same H6 H7) I6 ⟨ρ1, c1, rs6.re, ec, fun H7 s7 => ⟨rfl, s7⟩⟩) fun ok s7 ⟨H7, I7, e7, sm7⟩ => ?_
        subst e7
        have sm57 : Same H5 H7 := sm6.trans sm7
        have re7 : RE X.K H7 σ6 ρ1 := rs6.re.up sm7
        have re0 : ∀ {H9 : Hp}, Same H7 H9 → RS X.K H₂ H9 σ6 (List.replicate n none ++ Z.capt ρ is) := fun {H9} s9 => by
          obtain ⟨gl, gk⟩ := hG d _ ρ1 eg
          refine ⟨(rs6.same.trans sm7).trans s9, ⟨by rw [← gl]; exact re7.len, fun j l e => ?_, fun j k xs ys q e1 => absurd e1 (cap_noown n is ρ j xs)⟩, fun j xs q e1 => absurd e1 (cap_noown n is ρ j xs), fun j xs e => ?_, DicOk.non (cap_nodic n is ρ)⟩
          rotate_left
          · by_cases hj : n ≤ j
            · rw [← gk j hj] at e
              exact rs6.bors j xs e
            · rw [List.getElem?_append_left (by simp; omega), List.getElem?_replicate] at e
              split at e <;> cases e
          by_cases hj : n ≤ j
          · rw [← gk j hj] at e
            exact (re7.up s9).get j l e
          · rw [List.getElem?_append_left (by simp; omega), List.getElem?_replicate] at e
            split at e <;> cases e
        have fin : ∀ {H9 : Hp} {s9 : Shared} (vs9 : List V) (zs9 : List Z.D), Inv (blk X N' scope cl C fp s₂ H₂) ([] ++ pinsAt fp s5.heap) σ6 H9 s9 → H9 D = some (.lst vs9) → vs9.length ≤ i + 1 → Same H₂ H9 → RS X.K H₂ H9 σ6 (List.replicate n none ++ Z.capt ρ is) →
            (∃ rest, Z.compGo G t fe (List.replicate n none ++ Z.capt ρ is) (ds.drop (i + 1)) = .ok rest ∧ zs9 ++ rest = ys) → Dens X.K H9 zs9 vs9 → ∃ m, m < ds.length + 1 - i ∧ ∃ i σ' H' vs zs, m = ds.length + 1 - i ∧ i ≤ ds.length ∧ vs.length ≤ i ∧ Inv (blk X N' scope cl C fp s₂ H₂) [] σ' H' s9 ∧ tn i s9.heap ∧ (∀ b ∈ fp, H' b = none) ∧ H' D = some (.lst vs) ∧ Same H₂ H' ∧
              RS X.K H₂ H' σ' (List.replicate n none ++ Z.capt ρ is) ∧ (∃ rest, Z.compGo G t fe (List.replicate n none ++ Z.capt ρ is) (ds.drop i) = .ok rest ∧ zs ++ rest = ys) ∧ Dens X.K H' zs vs := by
          intro H9 s9 vs9 zs9 I9 hD9 hv9 sm9 re9 er9 dz9
          refine ⟨ds.length + 1 - (i + 1), by omega, i + 1, σ6, H9, vs9, zs9, rfl, hlt, hv9, I9.unpinned, T.keep _ _ _ st5 fun b hb o e => (I9.pin (b, o) (List.mem_append_right _ (List.mem_append_right _ (mem_pinsAt hb e)))).1, fun b hb => ?_, hD9, sm9, re9, er9, dz9⟩
          obtain ⟨o, e, _⟩ := T.obj _ _ st5 b hb
          exact (I9.pin (b, o) (List.mem_append_right _ (List.mem_append_right _ (mem_pinsAt hb e)))).2.1
        have hD7 : H7 D = some (.lst vs) := sm57 _ _ hD3
        cases ok with
        | false =>
          simp only [Bool.false_eq_true, if_false] at er ⊢
          exact fin vs zs I7 hD7 (Nat.le_succ_of_le hvl) (sm3.trans sm57) (re0 (Same.refl _)) ⟨rest, er, ez⟩ (dz.up sm57)
        | true =>
          simp only [if_true] at er ⊢
          obtain ⟨y, ey, er⟩ := Z.Res.bind_ok er
          obtain ⟨rest2, er2, er⟩ := Z.Res.bind_ok er
          cases er
          refine thn (he C s₂ H₂ _ s7 σ6 H7 (fun v H8 => Same H7 H8 ∧ Den X.K H8 y v) I7 ⟨ρ1, y, re7, ey, fun v H8 s8 d8 => ⟨s8, d8⟩⟩) fun u8 s8 ⟨v8, H8, I8, rv8, sm8, dy⟩ => ?_
          have hD8 : H8 D = some (.lst vs) := sm8 _ _ hD7
          have sm28 : Same H₂ H8 := (sm3.trans sm57).trans sm8
          refine thn (mt_append (X := blk X N' scope cl C fp s₂ H₂) _ s8 σ6 H8 (.ref D) [v8] (.ref D) [u8] (fun v H9 => v = .non ∧ H9 = upd H8 D (.lst (vs ++ [v8]))) I8 rfl (.cons rv8 .nil) ⟨D, vs, v8, rfl, rfl, hD8, ?_, rfl, rfl⟩) fun _ s9 ⟨v9, H9, I9, _, _, e9⟩ => ?_
          · rw [sizeLine_eq]
            have : Z.line = 16777216 := rfl
            omega
          subst e9
          have st8 : Stb H8 (upd H8 D (.lst (vs ++ [v8]))) := stb_lst hD8
          have sm9 : Same H₂ (upd H8 D (.lst (vs ++ [v8]))) := fun b o e => by rw [upd_ne (ne_of_none e hDn)]; exact sm28 b o e
          have re8 := re0 sm8
          refine fin (vs ++ [v8]) (zs ++ [y]) I9 upd_same (by simp; omega) sm9 ⟨sm9, ⟨re8.re.len, fun j l e => ?_, fun j k xs ys q e1 => absurd e1 (cap_noown n is ρ j xs)⟩, fun j xs q e1 => absurd e1 (cap_noown n is ρ j xs), re8.bors, re8.dic⟩ ⟨rest2, er2, by rw [List.append_assoc]; exact ez⟩ ((((dz.up sm57).up sm8).append (Dens.cons dy Dens.nil)).ups st8)
          obtain ⟨v, h1, h2⟩ := re8.re.get j l e
          refine ⟨v, h1, ?_⟩
          cases l with
          | val dd => exact Den.ups (show Den X.K H8 dd v from h2) st8
          | own xs => exact absurd e (cap_noown n is ρ j xs)
          | bor xs =>
            obtain ⟨v', h3, h4⟩ := re8.bors j xs e
            rw [h1] at h3
            cases h3
            exact h4.up sm9
          | dic ks => exact absurd e (cap_nodic n is ρ j ks)
          | fdc ks =>
            obtain ⟨q', o', as, rfl, hq', t'⟩ := h2
            exact ⟨q', o', as, rfl, st8.frz _ _ _ hq', t'.ups st8⟩
          | idc ps =>
            obtain ⟨q', o', rfl, hq'⟩ := h2
            exact ⟨q', o', rfl, st8.frz _ _ _ hq'⟩
      · have : i = ds.length := by omega
        subst this
        rw [List.drop_length] at er
        cases er
        rw [List.append_nil] at ez
        subst ez
        refine thn (T.done (blk X N' scope cl C fp s₂ H₂) rfl rfl rfl hcalm _ [] s' σ3 H3 (fun _ _ => False) I3 (stat fr3) st3 (z.stop H3 sm3)) fun r s4 ⟨hr, J4⟩ => ?_
        subst hr
        obtain ⟨m', hn', _⟩ := J4.loc
        have neC : ∀ b o, s₂.heap.get? b = some o → b ≠ C := fun b o e => (below b (by rw [← hD]; exact Heap.lt_size e)).1
        have I9 : Inv X pins σ H3 s4 := I2.call' (s' := s4) J4.os J4.base J4.hok J4.bare fun b hb => ⟨(fo b hb).2.2.2.1, (fo b hb).2.1, (fo b hb).2.2.2.2.1, (fo b hb).2.2.2.2.2⟩
        have szC : s₂.heap.objs.size ≤ C := by rw [hD, hC]; exact Nat.le_succ _
        refine ⟨rfl, D, H3, vs, m', rfl, hn', I9, ⟨J4.free, ?_, Nat.le_trans I2.sz szC, fun x c e => ?_, fun p hp => ?_⟩, hDn, sm3, hD3, dz⟩
        · exact Nat.ne_of_gt (Nat.lt_of_lt_of_le I2.lt szC)
        · exact Nat.ne_of_lt (Nat.lt_of_lt_of_le (cellS x c e).1 szC)
        · exact neC p.1 p.2 (I2.pin p hp).1
  have hst : codeAny (model X.prog X.w) X.A (.compStart (.ListComp elt [⟨tg, iter, ifs, 0⟩] scope pos) 0 (.ref it) (.ref D) (compEnvC scope cl C X.env)) (fun r s' => r = .ok .next ∧ Ran X pins σ H₂ ys (.ref D) C s')
      { s₂ with heap := h₁, toks := s₂.toks + ([] : List (Str × Value)).length } := codeAny_compStart_list loop (T.self _ 0 _ _ _ st4 loop)
  exact hst
theorem gName_keep {k : Nat} (h : k < n) (d : Z.D) (ρ ρ1 : Z.Env) (e : Z.gName k d ρ = .ok ρ1) : ρ1.length = ρ.length ∧ ∀ i, n ≤ i → ρ1[i]? = ρ[i]? := by
  cases e
  exact ⟨by simp, fun i hi => List.getElem?_set_ne (by omega)⟩
def Tst (X : Cx) (ifs : List Expr) (t : Z.TF) : Prop := ∀ (pins : List (Addr × Obj)) (s : Shared) (σ : St) (H : Hp) (Q : Bool → Hp → Prop), Inv X pins σ H s → tZt X.K t σ H Q →
  wpAny (model X.prog X.w) X.A (forIn ifs true fun c r => if r = true then do let ok ← isTrue c X.env (eval c X.env); pure (ForInStep.yield ok) else pure (ForInStep.yield r)) (TP X pins σ Q) X.xe s
theorem tst_no : Tst X [] Z.tTrue := fun pins s σ H Q I ⟨ρ, b, r, e, k⟩ => by
  cases e
  exact wpAny_tests_nil ⟨H, I, k H (Same.refl H)⟩
theorem tst_one {c : Expr} {t : Z.TF} (h : DT X c t) : Tst X [c] t := fun pins s σ H Q I w => wpAny_tests_one (h pins s σ H Q I w)
theorem comp_all {it : Z.LF} {G : Z.GF} {t : Z.TF} {fe : Z.EF} {pins : List (Addr × Obj)} {σ : St} {H : Hp} {s : Shared} {ρ : Z.Env} {ys : List Z.D} {use : Option (Value → Sem Unit)} {Q : Value → Shared → Prop} {ps : Pos} (hcalm : X.calm = true) (hi : DI X tg iter it) (B : Blk X.N N' n is scope X.env.scope)
    (hG : ∀ d ρ ρ1, G d ρ = .ok ρ1 → ρ1.length = ρ.length ∧ ∀ i, n ≤ i → ρ1[i]? = ρ[i]?)
    (hg : ∀ cl C fp s H H0, DG (blk X N' scope cl C fp s H) H0 tg G) (ht : ∀ cl C fp s H, Tst (blk X N' scope cl C fp s H) ifs t) (he : ∀ cl C fp s H, DE (blk X N' scope cl C fp s H) elt fe)
    (hs : ∀ x, foldedSetIterable iter X.env x = pure x)
    (I : Inv X pins σ H s) (re : RE X.K H σ ρ) (ec : Z.lComp it n is G t fe ρ = .ok ys)
    (fin : ∀ acc C s' H₂, Same H H₂ → Ran X pins σ H₂ ys acc C s' → compPost (model X.prog X.w) X.A X.xe use Q acc C (.ok .next) s') :
    wpAny (model X.prog X.w) X.A (comprehension (.ListComp elt [⟨tg, iter, ifs, 0⟩] scope pos) scope X.env ps (newList []) false (eval iter X.env) use) Q X.xe s := by
  obtain ⟨ds, ei, ec⟩ := Z.Res.bind_ok ec
  unfold Z.guard at ec
  split at ec
  · rename_i hlen
    have hfree : ∀ y ∈ scope.names, y.2 = .free → ∃ c, X.env.cells.lookup y.1 = some c := fun y hy hf => I.ok.has y.1 (B.free y hy hf)
    obtain ⟨cl, hcl, hcl1, hcl2⟩ := closureFor_of hfree
    refine wpAny_comprehension_free (use := use) rfl hs hcl B.kind B.loc ?_
    refine thn (hi pins s σ H (fun J H₂ => Same H H₂ ∧ ItZ X.K J (Same H₂) ds) I ⟨ρ, ds, re, ei, fun J H' s' z => ⟨s', z⟩⟩) fun x s₁ h₁ => ?_
    refine thn h₁ fun itv s₂ ⟨it', fp, tn, J, H₂, e2, I2, T, st0, fo, sm, z⟩ => ?_
    subst e2
    refine thn (comp_ran (iter := iter) (pos := pos) (cl := cl) hcalm B I2 T st0 fo z (re.up sm) hcl1 hcl2 hG (fun C s H H0 => hg cl C fp s H H0) (fun C s s' H' pins' σ' H'' Q' I' w => ht cl C fp s H' pins' s' σ' H'' Q' I' w) (fun C s H => he cl C fp s H) hlen ec) fun acc s₃ h₃ => ?_
    refine thn h₃ fun cenv s₄ h₄ => codeAny_mono h₄ fun r s' ⟨er, ran⟩ => ?_
    subst er
    exact fin acc cenv.locals s' H₂ sm ran
  · cases ec
theorem dl_comp {it : Z.LF} {G : Z.GF} {t : Z.TF} {fe : Z.EF} (hcalm : X.calm = true) (hi : DI X tg iter it) (B : Blk X.N N' n is scope X.env.scope) (hG : ∀ d ρ ρ1, G d ρ = .ok ρ1 → ρ1.length = ρ.length ∧ ∀ i, n ≤ i → ρ1[i]? = ρ[i]?)
    (hg : ∀ cl C fp s H H0, DG (blk X N' scope cl C fp s H) H0 tg G) (ht : ∀ cl C fp s H, Tst (blk X N' scope cl C fp s H) ifs t) (he : ∀ cl C fp s H, DE (blk X N' scope cl C fp s H) elt fe)
    (hs : ∀ x, foldedSetIterable iter X.env x = pure x := by intro _; rfl) : DL X (.ListComp elt [⟨tg, iter, ifs, 0⟩] scope pos) (Z.lComp it n is G t fe) := by
  intro pins s σ H Q I w
  obtain ⟨ρ, ys, re, e, k⟩ := w
  rw [eval_ListComp]
  refine comp_all (use := none) hcalm hi B hG hg ht he hs I re e fun acc C s' H₂ sm ran => ?_
  obtain ⟨D, H', vs, m, rfl, hns, I', off, hDn, sm', hD, dz⟩ := ran
  exact ⟨m, hns, fun h' hs' => ⟨.ref D, H', off.inv I' hs', rfl, k D vs H' (sm.trans sm') (sm.free hDn) hD dz⟩⟩
theorem comp_set {it : Z.LF} {G : Z.GF} {t : Z.TF} {fe : Z.EF} {i : Nat} {x : Str} {px spos : Pos} {D : Ends} {pins : List (Addr × Obj)} {σ : St} {H : Hp} {s : Shared} {ρ : Z.Env} {ys : List Z.D} (hcalm : X.calm = true) (hN : X.N.Nodup) (hix : X.N[i]? = some x) (hx : Loc X.env.scope x)
    (hsw : swapsWith (.ListComp elt [⟨tg, iter, ifs, 0⟩] scope pos) (some (.Name x px)) spos.line X.env = pure true) (hi : DI X tg iter it) (B : Blk X.N N' n is scope X.env.scope) (hG : ∀ d ρ ρ1, G d ρ = .ok ρ1 → ρ1.length = ρ.length ∧ ∀ i, n ≤ i → ρ1[i]? = ρ[i]?)
    (hg : ∀ cl C fp s H H0, DG (blk X N' scope cl C fp s H) H0 tg G) (ht : ∀ cl C fp s H, Tst (blk X N' scope cl C fp s H) ifs t) (he : ∀ cl C fp s H, DE (blk X N' scope cl C fp s H) elt fe)
    (hs : ∀ x, foldedSetIterable iter X.env x = pure x) (hf : X.fn x = true ∨ X.env.scope.names.lookup x = some .local) (I : Inv X pins σ H s) (re : RE X.K H σ ρ) (e : Z.lComp it n is G t fe ρ = .ok ys)
    (k : ∀ q vs H', Same H H' → H q = none → H' q = some (.lst vs) → Dens X.K H' ys vs → ∃ H'', (∀ s', Inv X pins (σ.set i (some (.ref q))) H' s' → Inv X pins (σ.set i (some (.ref q))) H'' s') ∧ D.nx (σ.set i (some (.ref q))) H'') :
    wpAny (model X.prog X.w) X.A (exec (.Assign [.Name x px] (.ListComp elt [⟨tg, iter, ifs, 0⟩] scope pos) spos) X.env) (SP X pins D) X.xe s := by
  rw [exec_Assign_Name_used _ _ _ _ hsw]
  refine wpAny_bind (wpAny_standAt (wpAny_bind ?_))
  show wpAny _ X.A (do let _ ← comprehension (.ListComp elt [⟨tg, iter, ifs, 0⟩] scope pos) scope X.env _ (newList []) false (eval iter X.env) (some (assign (.Name x px) X.env))) _ _ s
  refine wpAny_bind (wpAny_mono (comp_all (use := some (assign (.Name x px) X.env)) (Q := fun _ s' => SP X pins D .next s') hcalm hi B hG hg ht he hs I re e fun acc C s' H₂ sm ran => ?_) (fun _ s' hq => wpAny_pure (wpAny_pure hq)) fun _ _ e => e)
  obtain ⟨q, H', vs, m, rfl, hns, I', off, hDn, sm', hD, dz⟩ := ran
  obtain ⟨H'', hI, hnx⟩ := k q vs H' (sm.trans sm') (sm.free hDn) hD dz
  refine wpAny_assign_Name (store_ok2 I' hN hix hx (v := .ref q) rfl (fun s'' I'' ⟨a, sb, ha⟩ => ?_) hf)
  have hCa : C ≠ a := by
    rcases ha with rfl | ha
    · exact off.loc
    · exact fun z => off.cell x a ha z.symm
  refine ⟨m, hns.sameBut sb hCa, fun h' hs' => ⟨_, H'', ?_, hnx⟩⟩
  exact hI _ (off.inv I'' hs')
theorem ds_ownC {H0 : Hp} {it : Z.LF} {G : Z.GF} {t : Z.TF} {fe : Z.EF} {i : Nat} {x : Str} {px spos : Pos} (hcalm : X.calm = true) (hN : X.N.Nodup) (hix : X.N[i]? = some x) (hx : Loc X.env.scope x)
    (hi : DI X tg iter it) (B : Blk X.N N' n is scope X.env.scope) (hG : ∀ d ρ ρ1, G d ρ = .ok ρ1 → ρ1.length = ρ.length ∧ ∀ i, n ≤ i → ρ1[i]? = ρ[i]?)
    (hg : ∀ cl C fp s H H0, DG (blk X N' scope cl C fp s H) H0 tg G) (ht : ∀ cl C fp s H, Tst (blk X N' scope cl C fp s H) ifs t) (he : ∀ cl C fp s H, DE (blk X N' scope cl C fp s H) elt fe)
    (hsw : swapsWith (.ListComp elt [⟨tg, iter, ifs, 0⟩] scope pos) (some (.Name x px)) spos.line X.env = pure true := by rfl)
    (hs : ∀ x, foldedSetIterable iter X.env x = pure x := by intro _; rfl) (hf : X.fn x = true ∨ X.env.scope.names.lookup x = some .local := by first | exact .inl rfl | exact .inr rfl | assumption) :
    DS X H0 (.Assign [.Name x px] (.ListComp elt [⟨tg, iter, ifs, 0⟩] scope pos) spos) (Z.sOwn i (Z.lComp it n is G t fe)) := by
  intro pins s σ H D I w
  obtain ⟨ρ, fl, rs, e, k⟩ := w
  obtain ⟨ys, ey, e⟩ := Z.Res.bind_ok e
  cases e
  refine comp_set hcalm hN hix hx hsw hi B hG hg ht he hs hf I rs.re ey fun q vs H' s' hn h1 t' => ⟨H', fun _ j => j, ?_⟩
  exact k _ H' (stb s') ((rs.up s').setO h1 t' (rs.same.free hn) fun j xs _ e => rs.noq hn j xs e)
theorem ds_setC {H0 : Hp} {it : Z.LF} {G : Z.GF} {t : Z.TF} {fe : Z.EF} {i : Nat} {x : Str} {px spos : Pos} (hcalm : X.calm = true) (hN : X.N.Nodup) (hix : X.N[i]? = some x) (hx : Loc X.env.scope x)
    (hi : DI X tg iter it) (B : Blk X.N N' n is scope X.env.scope) (hG : ∀ d ρ ρ1, G d ρ = .ok ρ1 → ρ1.length = ρ.length ∧ ∀ i, n ≤ i → ρ1[i]? = ρ[i]?)
    (hg : ∀ cl C fp s H H0, DG (blk X N' scope cl C fp s H) H0 tg G) (ht : ∀ cl C fp s H, Tst (blk X N' scope cl C fp s H) ifs t) (he : ∀ cl C fp s H, DE (blk X N' scope cl C fp s H) elt fe)
    (hsw : swapsWith (.ListComp elt [⟨tg, iter, ifs, 0⟩] scope pos) (some (.Name x px)) spos.line X.env = pure true := by rfl)
    (hs : ∀ x, foldedSetIterable iter X.env x = pure x := by intro _; rfl) (hf : X.fn x = true ∨ X.env.scope.names.lookup x = some .local := by first | exact .inl rfl | exact .inr rfl | assumption) :
    DS X H0 (.Assign [.Name x px] (.ListComp elt [⟨tg, iter, ifs, 0⟩] scope pos) spos) (Z.sSet i (Z.eL (Z.lComp it n is G t fe))) := by
  have h1 : DS X H0 (.Assign [.Name x px] (.ListComp elt [⟨tg, iter, ifs, 0⟩] scope pos) spos) (Z.sOwn i (Z.lComp it n is G t fe)) := ds_ownC hcalm hN hix hx hi B hG hg ht he hsw hs hf
  intro pins s σ H D I w
  obtain ⟨ρ, fl, rs, e, k⟩ := w
  obtain ⟨d, ed, e⟩ := Z.Res.bind_ok e
  cases e
  unfold Z.eL at ed
  cases ey : Z.lComp it n is G t fe ρ with
  | bad => rw [ey] at ed; cases ed
  | ok ys =>
    rw [ey] at ed
    cases ed
    refine thn (h1 pins s σ H { D with nx := fun σ' H' => Stb H H' ∧ RS X.K H0 H' σ' (ρ.set i (some (.own ys))) } I ⟨ρ, .nx (ρ.set i (some (.own ys))), rs, by show (Z.lComp it n is G t fe ρ).bind _ = _; rw [ey]; rfl, fun σ' H' s' r' => ⟨s', r'⟩⟩) fun fl' s' h => ?_
    cases fl' with
    | next =>
      obtain ⟨σ', H', I', st', rs'⟩ := h
      by_cases hl : i < ρ.length
      · have ei : (ρ.set i (some (Z.L.own ys)))[i]? = some (some (.own ys)) := List.getElem?_set_self hl
        obtain ⟨v, si, q, us, rfl, hq, t'⟩ := rs'.re.get i _ ei
        obtain ⟨o, I2⟩ := inv_freeze I' hq
        have r2 := rs'.frz (o := o) ei si hq t'
        rw [List.set_set] at r2
        exact ⟨σ', _, I2, k σ' _ (st'.trans (stb_lst hq)) r2⟩
      · have e0 : ρ.set i (some (Z.L.own ys)) = ρ := List.set_eq_of_length_le (by omega)
        have e1 : ρ.set i (some (Z.L.val (.lst ys))) = ρ := List.set_eq_of_length_le (by omega)
        rw [e0] at rs'
        have k' := k
        rw [e1] at k'
        exact ⟨σ', H', I', k' σ' H' st' rs'⟩
    | brk => exact h
    | cont => exact h
    | ret u => exact h
end
section
variable {P : Program} {w : World} {K : PySem.W.Frag} {mg : Str → Option Value} {base : Heap}
theorem start_get {N : List Str} {vs : List V} {ds : List Z.D} {H : Hp} (t : Dens K H ds vs) (hl : vs.length ≤ N.length) : RS K H H (L2.start N vs) (Z.start N.length ds) := by
  have noown : ∀ (i : Nat) (xs : List Z.D), (Z.start N.length ds)[i]? ≠ some (some (.own xs)) := by
    intro i xs e
    unfold Z.start at e
    by_cases hi : i < ds.length
    · rw [List.getElem?_append_left (by simpa using hi), List.getElem?_map] at e
      cases q : ds[i]? with
      | none => rw [q] at e; cases e
      | some d => rw [q] at e; cases e
    · rw [List.getElem?_append_right (by simpa using hi), List.getElem?_replicate] at e
      split at e <;> cases e
  have nobor : ∀ (i : Nat) (xs : List Z.D), (Z.start N.length ds)[i]? ≠ some (some (.bor xs)) := by
    intro i xs e
    unfold Z.start at e
    by_cases hi : i < ds.length
    · rw [List.getElem?_append_left (by simpa using hi), List.getElem?_map] at e
      cases q : ds[i]? with
      | none => rw [q] at e; cases e
      | some d => rw [q] at e; cases e
    · rw [List.getElem?_append_right (by simpa using hi), List.getElem?_replicate] at e
      split at e <;> cases e
  have nodic : ∀ (i : Nat) (ks : List (List Int)), (Z.start N.length ds)[i]? ≠ some (some (.dic ks)) := by
    intro i ks e
    unfold Z.start at e
    by_cases hi : i < ds.length
    · rw [List.getElem?_append_left (by simpa using hi), List.getElem?_map] at e
      cases q : ds[i]? with
      | none => rw [q] at e; cases e
      | some d => rw [q] at e; cases e
    · rw [List.getElem?_append_right (by simpa using hi), List.getElem?_replicate] at e
      split at e <;> cases e
  have hlen := t.length
  refine ⟨Same.refl H, ⟨?_, fun i l e => ?_, fun i j xs ys q e1 => absurd e1 (noown i xs)⟩, fun i xs q e1 => absurd e1 (noown i xs), fun i xs e1 => absurd e1 (nobor i xs), DicOk.non nodic⟩
  · unfold Z.start L2.start
    simp
    omega
  · unfold Z.start at e
    by_cases hi : i < ds.length
    · rw [List.getElem?_append_left (by simpa using hi), List.getElem?_map] at e
      cases q : ds[i]? with
      | none => rw [q] at e; cases e
      | some d =>
        rw [q] at e
        cases e
        obtain ⟨v, h1, h2⟩ := t.get q
        refine ⟨v, ?_, h2⟩
        unfold L2.start
        rw [List.getElem?_append_left (by simp; omega), List.getElem?_map, h1]
        rfl
    · rw [List.getElem?_append_right (by simpa using hi), List.getElem?_replicate] at e
      split at e <;> cases e
theorem fnZ {x qual : Str} {st : Stmt} {f : Addr} {fd : FuncData} {N ps : List Str} {k : Nat} {b : Z.SF} (F : Fun K x qual st f fd) (S : FnScope N ps (defScope st))
    (hb : ∀ (cdv : Value) (A : Around) (outer : List Env) (s : Shared) (H : Hp) (E : XK), Room k (A.deeper (envOfC qual (defScope st) s.heap.objs.size f cdv)) →
      DSs (cxOf CX0 P w K mg base N qual (defScope st) f cdv A outer s H E).nox H (defBody st) b) : FnOk P w K mg base CX0 (k + 1) f fd ps (spZ K (Z.fn ps.length N.length b)) := by
  have hlen : ∀ (vs : List V) (H : Hp) (Q : VK) (E : XK), spZ K (Z.fn ps.length N.length b) vs H Q E → vs.length = ps.length := fun vs H Q E ⟨ds, d, t, e, _⟩ => by
    unfold Z.fn at e
    split at e
    · rename_i h; rw [t.length]; exact h
    · cases e
  refine F.ok S hlen (fun cdv A outer s H vs Q E hr h => ⟨_, hb cdv A outer s H E hr, ?_⟩)
  have hl := hlen vs H Q E h
  obtain ⟨ds, d, t, e, k⟩ := h
  have hpl : ps.length ≤ N.length := by have := congrArg List.length S.pre; rw [List.length_take] at this; omega
  have rs : RS K H H (L2.start N vs) (Z.start N.length ds) := start_get t (by omega)
  unfold Z.fn at e
  split at e
  · cases eb : b (Z.start N.length ds) with
    | bad => rw [eb] at e; cases e
    | ok fl =>
      rw [eb] at e
      refine ⟨_, fl, rs, eb, ?_⟩
      cases fl with
      | rt d' => cases e; exact fun v H' s' dv => k v H' s' dv
      | nx ρ' => cases e; exact fun σ' H' _ rs' => k .non H' rs'.same den_non
      | bk ρ' => cases e
      | ct ρ' => cases e
  · cases e
end
end ZS
namespace ZS
open PySem PySem.Spec PyProof.Rows L2
def blkOk (N N' : List Str) (n : Nat) (is : List Nat) (sc osc : Scope) : Bool :=
  (sc.kind == .function) && sc.names.all (fun y => y.2 != .cell) && sc.names.all (fun y => y.2 != .local || sc.names.lookup y.1 == some .local) &&
  sc.names.all (fun y => y.2 != .free || osc.names.lookup y.1 == some .cell || osc.names.lookup y.1 == some .free) && (N'.length == n + is.length) &&
  (List.range is.length).all (fun j => match is[j]?, N'[n + j]? with
    | some i, some x => N[i]? == some x && sc.names.lookup x == some .free
    | _, _ => false) &&
  (List.range n).all (fun j => match N'[j]? with
    | some x => sc.names.lookup x == some .local
    | none => false)
theorem Blk.of {N N' : List Str} {n : Nat} {is : List Nat} {sc osc : Scope} (h : blkOk N N' n is sc osc = true) : Blk N N' n is sc osc := by
  unfold blkOk at h
  simp only [Bool.and_eq_true, List.all_eq_true, beq_iff_eq, Bool.or_eq_true, bne_iff_ne, ne_eq, List.mem_range] at h
  obtain ⟨⟨⟨⟨⟨⟨h1, h2⟩, h3⟩, h4⟩, h5⟩, h6⟩, h7⟩ := h
  refine ⟨h1, h2, fun y hy e => ?_, fun y hy e => ?_, h5, fun j i e => ?_, fun j hj => ?_⟩
  · rcases h3 y hy with q | q
    · exact absurd e q
    · exact q
  · rcases h4 y hy with (q | q) | q
    · exact absurd e q
    · exact .inl q
    · exact .inr q
  · have hj : j < is.length := (List.getElem?_eq_some_iff.mp e).1
    have q := h6 j hj
    rw [e] at q
    cases r : N'[n + j]? with
    | none => rw [r] at q; cases q
    | some x =>
      rw [r] at q
      simp only [Bool.and_eq_true, beq_iff_eq] at q
      exact ⟨x, rfl, q.1, q.2⟩
  · have q := h7 j hj
    cases r : N'[j]? with
    | none => rw [r] at q; cases q
    | some x =>
      rw [r] at q
      exact ⟨x, rfl, beq_iff_eq.mp q⟩
structure Def (K : PySem.W.Frag) (mg : Str → Option Value) (x : Str) (st : Stmt) (ps : List Str) : Prop where
  ex : ∃ f fd, Fun K x x st f fd ∧ mg x = some (.ref f) ∧ Binds K fd ps []
structure Cal (P : Program) (w : World) (K : PySem.W.Frag) (mg : Str → Option Value) (base : Heap) (x : Str) (k : Nat) (ps : List Str) (m : List Z.D → Z.Res Z.D) : Prop where
  ex : ∃ g fd, FnOk P w K mg base CX0 k g fd ps (spZ K m) ∧ mg x = some (.ref g) ∧ PySem.W.keepIn K (.ref g) = true ∧ Binds K fd ps []
theorem Cal.mk' {P : Program} {w : World} {K : PySem.W.Frag} {mg : Str → Option Value} {base : Heap} {x : Str} {k : Nat} {st : Stmt} {N ps : List Str} {b : Z.SF} (d : Def K mg x st ps) (S : FnScope N ps (defScope st))
    (hb : ∀ (f : Addr) (cdv : Value) (A : Around) (outer : List Env) (s : Shared) (H : Hp) (E : XK), Room k (A.deeper (envOfC x (defScope st) s.heap.objs.size f cdv)) →
      DSs (cxOf CX0 P w K mg base N x (defScope st) f cdv A outer s H E).nox H (defBody st) b) : Cal P w K mg base x (k + 1) ps (Z.fn ps.length N.length b) := by
  obtain ⟨f, fd, F, hm, hb'⟩ := d.ex
  exact ⟨f, fd, fnZ F S (hb f), hm, F.kp, hb'⟩
section
variable {X : Cx} {e : Expr} {es : List Expr} {pos : Pos}
theorem de_callC {k : Nat} {ps : List Str} {x : Str} {m : List Z.D → Z.Res Z.D} {ar : Z.AF} {p1 : Pos} (C : Cal X.prog X.w X.K X.mg X.base x k ps m) (hr : Room k X.A) (hg : Gl X x)
    (ha : DA X (e :: es) ar) (hdb : (x == ("__debug__" : Str)) = false := by decide +kernel) (he : starEach (e :: es) X.env = (false, eval e X.env) :: starEach es X.env := by rfl) (hpl : (backTo pos (starEach es X.env)).any (·.1) = false := by rfl) :
    DE X (.Call (.Name x p1) (e :: es) [] pos) (Z.eCall m ar) :=
  let ⟨_, _, F, hm, hk, hb⟩ := C.ex; de_call F hr hg hm hk hb ha hdb he hpl
end
theorem de_globI {X : Cx} {pos : Pos} {x : Str} {i : Int} {t : Tok} (hg : Gl X x) (hm : X.mg x = some (.int i t)) (hb : (x == ("__debug__" : Str)) = false := by decide +kernel) : DE X (.Name x pos) (Z.eC (.int i)) :=
  de_glob (v := .int i) hg hm ⟨t, rfl⟩ (fun _ => den_int) hb
theorem script_den {K : PySem.W.Frag} {H : Hp} {a : Addr} {ns : List Int} (hO : Only H) (h : SqL K H a (ns.map V.int)) : Den K H (.lst (ns.map Z.D.int)) (.ref a) := by
  refine den_lst ?_ (Dens.zints ns)
  rcases h with (h | ⟨o, h⟩) | h
  · rcases hO a with z | ⟨o, xs, z⟩
    · rw [h] at z; cases z
    · rw [h] at z; cases z
  · exact .inl ⟨o, h⟩
  · exact .inr h
theorem law_sp {K : PySem.W.Frag} {H : Hp} {a : Addr} {ns : List Int} {m : List Z.D → Z.Res Z.D} (hO : Only H) (h : SqL K H a (ns.map V.int)) (e : m [.lst (ns.map .int)] = .ok (.bl true)) : spZ K m [.ref a] H (fun v _ => v = .bl true) fun _ _ _ => False :=
  ⟨_, _, Dens.cons (script_den hO h) Dens.nil, e, fun v H' _ d => by simpa only [Den] using d⟩
end ZS
set_option Elab.async false
set_option linter.all false
set_option maxHeartbeats 4000000
namespace ZS
open PySem PySem.Spec PyProof.Rows L2
section
variable {X : Cx} {e a b : Expr} {pos : Pos} {f fa fb : Z.EF}
theorem str_beqZ (x y : List Nat) : ((⟨x.toArray⟩ : Str) == (⟨y.toArray⟩ : Str)) = (x == y) := by
  rw [Bool.eq_iff_iff, beq_iff_eq, beq_iff_eq]
  constructor
  · intro h; injection h with h; simpa using h
  · rintro rfl; rfl
theorem rcS {A : Around} {s : Shared} {K : PySem.W.Frag} {H : Hp} {d1 d2 : Z.D} {v1 v2 : V} {u1 u2 : Value} {k : Bool} (h : Z.eqS d1 d2 = some k) (h1 : DenW K H d1 v1) (h2 : DenW K H d2 v2) (r1 : RelV v1 u1) (r2 : RelV v2 u2) : SeqAt.RcAt A s u1 u2 k ∧ SeqAt.EqAt A s u1 u2 k ∧ SeqAt.RcNeAt A s u1 u2 (!k) := by
  unfold Z.eqS at h
  split at h
  · cases h; rw [h1.non] at r1; rw [h2.non] at r2; cases r1; cases r2; exact ⟨SeqAt.RcAt.none_none, SeqAt.EqAt.same _, SeqAt.RcNeAt.none_none⟩
  · cases h; rw [h1.bl] at r1; rw [h2.bl] at r2; cases r1; cases r2; exact ⟨SeqAt.RcAt.bool_bool _ _, SeqAt.EqAt.bool_bool _ _, SeqAt.RcNeAt.bool_bool _ _⟩
  · cases h; rw [h1.bl] at r1; rw [h2.int] at r2; cases r1; obtain ⟨t, rfl⟩ := r2; exact ⟨SeqAt.RcAt.bool_int _ _ _, SeqAt.EqAt.bool_int _ _ _, SeqAt.RcNeAt.bool_int _ _ _⟩
  · cases h; rw [h1.int] at r1; rw [h2.bl] at r2; cases r2; obtain ⟨t, rfl⟩ := r1; exact ⟨SeqAt.RcAt.int_bool _ _ _, SeqAt.EqAt.int_bool _ _ _, SeqAt.RcNeAt.int_bool _ _ _⟩
  · cases h; rw [h1.int] at r1; rw [h2.int] at r2; obtain ⟨t, rfl⟩ := r1; obtain ⟨t', rfl⟩ := r2; exact ⟨SeqAt.RcAt.int_int _ _ _ _, SeqAt.EqAt.int_int _ _ _ _, SeqAt.RcNeAt.int_int _ _ _ _⟩
  · cases h; rw [h1.str] at r1; rw [h2.str] at r2; obtain ⟨t, rfl⟩ := r1; obtain ⟨t', rfl⟩ := r2; rw [← str_beqZ]; exact ⟨SeqAt.RcAt.str_str _ _ _ _, SeqAt.EqAt.str_str _ _ _ _, SeqAt.RcNeAt.str_str _ _ _ _⟩
  · cases h; rw [h1.non] at r1; rw [h2.bl] at r2; cases r1; cases r2; exact ⟨SeqAt.RcAt.none_bool _, SeqAt.EqAt.none_bool _, SeqAt.RcNeAt.none_bool _⟩
  · cases h; rw [h1.non] at r1; rw [h2.int] at r2; cases r1; obtain ⟨t, rfl⟩ := r2; exact ⟨SeqAt.RcAt.none_int _ _, SeqAt.EqAt.none_int _ _, SeqAt.RcNeAt.none_int _ _⟩
  · cases h; rw [h1.non] at r1; rw [h2.str] at r2; cases r1; obtain ⟨t, rfl⟩ := r2; exact ⟨SeqAt.RcAt.none_str _ _, SeqAt.EqAt.none_str _ _, SeqAt.RcNeAt.none_str _ _⟩
  · cases h; rw [h1.bl] at r1; rw [h2.non] at r2; cases r1; cases r2; exact ⟨SeqAt.RcAt.bool_none _, SeqAt.EqAt.bool_none _, SeqAt.RcNeAt.bool_none _⟩
  · cases h; rw [h1.bl] at r1; rw [h2.str] at r2; cases r1; obtain ⟨t, rfl⟩ := r2; exact ⟨SeqAt.RcAt.bool_str _ _ _, SeqAt.EqAt.bool_str _ _ _, SeqAt.RcNeAt.bool_str _ _ _⟩
  · cases h; rw [h1.int] at r1; rw [h2.non] at r2; cases r2; obtain ⟨t, rfl⟩ := r1; exact ⟨SeqAt.RcAt.int_none _ _, SeqAt.EqAt.int_none _ _, SeqAt.RcNeAt.int_none _ _⟩
  · cases h; rw [h1.int] at r1; rw [h2.str] at r2; obtain ⟨t, rfl⟩ := r1; obtain ⟨t', rfl⟩ := r2; exact ⟨SeqAt.RcAt.int_str _ _ _ _, SeqAt.EqAt.int_str _ _ _ _, SeqAt.RcNeAt.int_str _ _ _ _⟩
  · cases h; rw [h1.str] at r1; rw [h2.non] at r2; cases r2; obtain ⟨t, rfl⟩ := r1; exact ⟨SeqAt.RcAt.str_none _ _, SeqAt.EqAt.str_none _ _, SeqAt.RcNeAt.str_none _ _⟩
  · cases h; rw [h1.str] at r1; rw [h2.bl] at r2; cases r2; obtain ⟨t, rfl⟩ := r1; exact ⟨SeqAt.RcAt.str_bool _ _ _, SeqAt.EqAt.str_bool _ _ _, SeqAt.RcNeAt.str_bool _ _ _⟩
  · cases h; rw [h1.str] at r1; rw [h2.int] at r2; obtain ⟨t, rfl⟩ := r1; obtain ⟨t', rfl⟩ := r2; exact ⟨SeqAt.RcAt.str_int _ _ _ _, SeqAt.EqAt.str_int _ _ _ _, SeqAt.RcNeAt.str_int _ _ _ _⟩
  · cases h
def eAt (g : Z.D → Z.D → Option Bool) (as bs : List Z.D) (j : Nat) : Bool := match as[j]?, bs[j]? with
  | some x, some y => (g x y).getD false
  | _, _ => true
theorem allEq_at {g : Z.D → Z.D → Option Bool} : ∀ {as bs : List Z.D} {k : Bool}, Z.allEq g as bs = some k → k = ((List.range (min as.length bs.length)).all (eAt g as bs) && as.length == bs.length) ∧ ∀ (j : Nat) x y, as[j]? = some x → bs[j]? = some y → g x y = some (eAt g as bs j)
  | [], [], k, h => by cases h; exact ⟨rfl, fun j x y e => by simp at e⟩
  | [], _ :: _, k, h => by cases h; exact ⟨by simp, fun j x y e => by simp at e⟩
  | _ :: _, [], k, h => by cases h; exact ⟨by simp, fun j x y _ e => by simp at e⟩
  | a :: as, b :: bs, k, h => by
    unfold Z.allEq at h
    split at h
    · rename_i p q e1 e2
      cases h
      obtain ⟨h1, h2⟩ := allEq_at e2
      refine ⟨?_, fun j x y ex ey => ?_⟩
      · have : min (a :: as).length (b :: bs).length = min as.length bs.length + 1 := by simp only [List.length_cons]; omega
        rw [this, List.range_succ_eq_map, List.all_cons, List.all_map, h1]
        have e0 : eAt g (a :: as) (b :: bs) 0 = p := by simp [eAt, e1]
        have es : (eAt g (a :: as) (b :: bs) ∘ Nat.succ) = eAt g as bs := by
          funext j; simp [eAt]
        have el : ((a :: as).length == (b :: bs).length) = (as.length == bs.length) := by
          rw [Bool.eq_iff_iff]; simp
        rw [e0, es, el, Bool.and_assoc]
      · cases j with
        | zero => simp at ex ey; subst ex ey; simp [eAt, e1]
        | succ j =>
          have := h2 j x y (by simpa using ex) (by simpa using ey)
          simpa [eAt] using this
    · cases h
theorem items_at {pins : List (Addr × Obj)} {σ : St} {H : Hp} {s : Shared} (I : Inv X pins σ H s) (n : Nat) {A : Around} (hu : A.units + n < cLine)
    (ih : ∀ {A : Around} {d1 d2 : Z.D} {v1 v2 : V} {u1 u2 : Value} {k : Bool}, A.units + n < cLine → Z.eqDn n d1 d2 = some k → DenW X.K H d1 v1 → DenW X.K H d2 v2 → RelV v1 u1 → RelV v2 u2 → SeqAt.RcAt A s u1 u2 k ∧ SeqAt.EqAt A s u1 u2 k ∧ SeqAt.RcNeAt A s u1 u2 (!k))
    {as bs : List Z.D} {vs ws : List V} {its its2 : List Value} {k : Bool} (hk : Z.allEq (Z.eqDn n) as bs = some k) (ta : Dens X.K H as vs) (tb : Dens X.K H bs ws) (ra : Vals vs its) (rb : Vals ws its2) :
      ∀ j (h1 : j < its.toArray.size) (h2 : j < its2.toArray.size), SeqAt.EqAt A s its.toArray[j] its2.toArray[j] (eAt (Z.eqDn n) as bs j) := by
    intro j hj1 hj2
    have la := ta.length; have lb := tb.length; have ra' := ra.length; have rb' := rb.length
    simp only [List.size_toArray] at hj1 hj2
    obtain ⟨x, ex⟩ : ∃ x, as[j]? = some x := ⟨as[j]'(by omega), List.getElem?_eq_getElem (by omega)⟩
    obtain ⟨y, ey⟩ : ∃ y, bs[j]? = some y := ⟨bs[j]'(by omega), List.getElem?_eq_getElem (by omega)⟩
    obtain ⟨vx, evx, dx⟩ := ta.get ex
    obtain ⟨vy, evy, dy⟩ := tb.get ey
    obtain ⟨ux, eux, rx⟩ := ra.get evx
    obtain ⟨uy, euy, ry⟩ := rb.get evy
    have e1 : its.toArray[j] = ux := by
      have := List.getElem?_eq_getElem hj1
      rw [eux] at this; simpa using (Option.some.inj this).symm
    have e2 : its2.toArray[j] = uy := by
      have := List.getElem?_eq_getElem hj2
      rw [euy] at this; simpa using (Option.some.inj this).symm
    rw [e1, e2]
    exact (ih hu ((allEq_at hk).2 j x y ex ey) (.inl dx) (.inl dy) rx ry).2.1
theorem eqS_same {K : PySem.W.Frag} {H : Hp} {d1 d2 : Z.D} {v : V} {k : Bool} (h : Z.eqS d1 d2 = some k) (h1 : DenW K H d1 v) (h2 : DenW K H d2 v) : k = true := by
  unfold Z.eqS at h
  split at h <;> first
    | (cases h; rfl)
    | (cases h; done)
    | (have e := h1.bl.symm.trans h2.bl; cases h; injection e with e; subst e; simp)
    | (have e := h1.int.symm.trans h2.int; cases h; injection e with e; subst e; simp)
    | (have e := h1.str.symm.trans h2.str; cases h; injection e with e; rw [← str_beqZ, e]; simp)
    | (have e := h1.bl.symm.trans h2.int; cases e)
    | (have e := h1.int.symm.trans h2.bl; cases e)
    | (have e := h1.non.symm.trans h2.bl; cases e)
    | (have e := h1.non.symm.trans h2.int; cases e)
    | (have e := h1.non.symm.trans h2.str; cases e)
    | (have e := h1.bl.symm.trans h2.non; cases e)
    | (have e := h1.bl.symm.trans h2.str; cases e)
    | (have e := h1.int.symm.trans h2.non; cases e)
    | (have e := h1.int.symm.trans h2.str; cases e)
    | (have e := h1.str.symm.trans h2.non; cases e)
    | (have e := h1.str.symm.trans h2.bl; cases e)
    | (have e := h1.str.symm.trans h2.int; cases e)
theorem items_same {K : PySem.W.Frag} {H : Hp} {n : Nat} (ih : ∀ {d1 d2 : Z.D} {v : V} {k : Bool}, Z.eqDn n d1 d2 = some k → DenW K H d1 v → DenW K H d2 v → k = true) {as bs : List Z.D} {vs : List V} {k : Bool} (h : Z.allEq (Z.eqDn n) as bs = some k) (ta : Dens K H as vs) (tb : Dens K H bs vs) : k = true := by
  obtain ⟨h1, h2⟩ := allEq_at h
  have la := ta.length; have lb := tb.length
  rw [h1, show (as.length == bs.length) = true by simp; omega, Bool.and_true, List.all_eq_true]
  intro j hj
  rw [List.mem_range] at hj
  obtain ⟨x, ex⟩ : ∃ x, as[j]? = some x := ⟨as[j]'(by omega), List.getElem?_eq_getElem (by omega)⟩
  obtain ⟨y, ey⟩ : ∃ y, bs[j]? = some y := ⟨bs[j]'(by omega), List.getElem?_eq_getElem (by omega)⟩
  obtain ⟨vx, evx, dx⟩ := ta.get ex
  obtain ⟨vy, evy, dy⟩ := tb.get ey
  rw [evx] at evy; cases evy
  exact ih (h2 j x y ex ey) (.inl dx) (.inl dy)
theorem ref_tl {pins : List (Addr × Obj)} {σ : St} {H : Hp} {s : Shared} {a : Addr} {xs ys : List V} (I : Inv X pins σ H s) (h : SqT X.K H a xs) (h' : SqL X.K H a ys) : False := by
  obtain ⟨its, r, ⟨o, e, c, n, d⟩, _⟩ := I.tuple h
  obtain ⟨its', r', ⟨o', n', e', c', _⟩, _⟩ := I.list h'
  rw [e] at e'; cases e'
  rw [c] at c'; injection c' with z; exact absurd z (by decide)
theorem eqN_same {pins : List (Addr × Obj)} {σ : St} {H : Hp} {s : Shared} (I : Inv X pins σ H s) : ∀ (n : Nat) {d1 d2 : Z.D} {v : V} {k : Bool}, Z.eqDn n d1 d2 = some k → DenW X.K H d1 v → DenW X.K H d2 v → k = true
  | n, d1, d2, v, k, h, h1, h2 => by
    cases d1 <;> cases d2
    case non.non => cases n <;> exact eqS_same h h1 h2
    case non.bl => cases n <;> exact eqS_same h h1 h2
    case non.int => cases n <;> exact eqS_same h h1 h2
    case non.str => cases n <;> exact eqS_same h h1 h2
    case non.tup => obtain ⟨_, _, e, _⟩ := h2.tup; rw [e] at h1; cases h1.non
    case non.lst => obtain ⟨_, _, e, _⟩ := h2.lst; rw [e] at h1; cases h1.non
    case non.dct => cases n <;> exact eqS_same h h1 h2
    case bl.non => cases n <;> exact eqS_same h h1 h2
    case bl.bl => cases n <;> exact eqS_same h h1 h2
    case bl.int => cases n <;> exact eqS_same h h1 h2
    case bl.str => cases n <;> exact eqS_same h h1 h2
    case bl.tup => obtain ⟨_, _, e, _⟩ := h2.tup; rw [e] at h1; cases h1.bl
    case bl.lst => obtain ⟨_, _, e, _⟩ := h2.lst; rw [e] at h1; cases h1.bl
    case bl.dct => cases n <;> exact eqS_same h h1 h2
    case int.non => cases n <;> exact eqS_same h h1 h2
    case int.bl => cases n <;> exact eqS_same h h1 h2
    case int.int => cases n <;> exact eqS_same h h1 h2
    case int.str => cases n <;> exact eqS_same h h1 h2
    case int.tup => obtain ⟨_, _, e, _⟩ := h2.tup; rw [e] at h1; cases h1.int
    case int.lst => obtain ⟨_, _, e, _⟩ := h2.lst; rw [e] at h1; cases h1.int
    case int.dct => cases n <;> exact eqS_same h h1 h2
    case str.non => cases n <;> exact eqS_same h h1 h2
    case str.bl => cases n <;> exact eqS_same h h1 h2
    case str.int => cases n <;> exact eqS_same h h1 h2
    case str.str => cases n <;> exact eqS_same h h1 h2
    case str.tup => obtain ⟨_, _, e, _⟩ := h2.tup; rw [e] at h1; cases h1.str
    case str.lst => obtain ⟨_, _, e, _⟩ := h2.lst; rw [e] at h1; cases h1.str
    case str.dct => cases n <;> exact eqS_same h h1 h2
    case tup.non => obtain ⟨_, _, e, _⟩ := h1.tup; rw [e] at h2; cases h2.non
    case tup.bl => obtain ⟨_, _, e, _⟩ := h1.tup; rw [e] at h2; cases h2.bl
    case tup.int => obtain ⟨_, _, e, _⟩ := h1.tup; rw [e] at h2; cases h2.int
    case tup.str => obtain ⟨_, _, e, _⟩ := h1.tup; rw [e] at h2; cases h2.str
    case tup.tup =>
      cases n with
      | zero => cases h
      | succ n =>
        obtain ⟨_, _, e, q, ta⟩ := h1.tup; obtain ⟨_, _, e', q', tb⟩ := h2.tup; rw [e] at e'; cases e'
        have := I.tuple_inj q q'; subst this
        exact items_same (eqN_same I n) h ta tb
    case tup.lst => obtain ⟨_, _, e, q, _⟩ := h1.tup; obtain ⟨_, _, e', q', _⟩ := h2.lst; rw [e] at e'; cases e'; exact (ref_tl I q q').elim
    case tup.dct => cases n <;> exact eqS_same h h1 h2
    case lst.non => obtain ⟨_, _, e, _⟩ := h1.lst; rw [e] at h2; cases h2.non
    case lst.bl => obtain ⟨_, _, e, _⟩ := h1.lst; rw [e] at h2; cases h2.bl
    case lst.int => obtain ⟨_, _, e, _⟩ := h1.lst; rw [e] at h2; cases h2.int
    case lst.str => obtain ⟨_, _, e, _⟩ := h1.lst; rw [e] at h2; cases h2.str
    case lst.tup => obtain ⟨_, _, e, q, _⟩ := h1.lst; obtain ⟨_, _, e', q', _⟩ := h2.tup; rw [e] at e'; cases e'; exact (ref_tl I q' q).elim
    case lst.lst =>
      cases n with
      | zero => cases h
      | succ n =>
        obtain ⟨_, _, e, q, ta⟩ := h1.lst; obtain ⟨_, _, e', q', tb⟩ := h2.lst; rw [e] at e'; cases e'
        have := I.list_inj q q'; subst this
        exact items_same (eqN_same I n) h ta tb
    case lst.dct => cases n <;> exact eqS_same h h1 h2
    case dct.non => cases n <;> exact eqS_same h h1 h2
    case dct.bl => cases n <;> exact eqS_same h h1 h2
    case dct.int => cases n <;> exact eqS_same h h1 h2
    case dct.str => cases n <;> exact eqS_same h h1 h2
    case dct.tup => cases n <;> exact eqS_same h h1 h2
    case dct.lst => cases n <;> exact eqS_same h h1 h2
    case dct.dct => cases n <;> exact eqS_same h h1 h2
theorem rcN {pins : List (Addr × Obj)} {σ : St} {H : Hp} {s : Shared} (I : Inv X pins σ H s) : ∀ (n : Nat) {A : Around} {d1 d2 : Z.D} {v1 v2 : V} {u1 u2 : Value} {k : Bool}, A.units + n < cLine → Z.eqDn n d1 d2 = some k → DenW X.K H d1 v1 → DenW X.K H d2 v2 → RelV v1 u1 → RelV v2 u2 →
    SeqAt.RcAt A s u1 u2 k ∧ SeqAt.EqAt A s u1 u2 k ∧ SeqAt.RcNeAt A s u1 u2 (!k)
  | n, A, d1, d2, v1, v2, u1, u2, k, hu, h, h1, h2, r1, r2 => by
    have hu0 : A.units < cLine := by omega
    have tupL : ∀ {ds : List Z.D} {v : V} {u : Value}, DenW X.K H (.tup ds) v → RelV v u → ∃ q its, u = .ref q ∧ s.heap.IsTuple q its := fun hd rv => by
      obtain ⟨q, vs, rfl, hq, _⟩ := hd.tup
      cases rv
      obtain ⟨its, _, p, _⟩ := I.tuple hq
      exact ⟨q, its.toArray, rfl, p⟩
    have lstL : ∀ {ds : List Z.D} {v : V} {u : Value}, DenW X.K H (.lst ds) v → RelV v u → ∃ q its, u = .ref q ∧ s.heap.IsList q its := fun hd rv => by
      obtain ⟨q, vs, rfl, hq, _⟩ := hd.lst
      cases rv
      obtain ⟨its, _, p, _⟩ := I.list hq
      exact ⟨q, its.toArray, rfl, p.isList⟩
    cases d1 <;> cases d2
    case non.non => cases n <;> exact rcS h h1 h2 r1 r2
    case non.bl => cases n <;> exact rcS h h1 h2 r1 r2
    case non.int => cases n <;> exact rcS h h1 h2 r1 r2
    case non.str => cases n <;> exact rcS h h1 h2 r1 r2
    case non.tup =>
      have hk : some false = some k := (match n, h with | 0, h => h | _ + 1, h => h)
      cases hk
      rw [h1.non] at r1; cases r1
      obtain ⟨q2, its2, rfl, p2⟩ := tupL h2 r2
      exact ⟨SeqAt.RcAt.none_tuple p2 hu0, SeqAt.EqAt.none_tuple p2 hu0, SeqAt.RcNeAt.none_tuple p2 hu0⟩
    case non.lst =>
      have hk : some false = some k := (match n, h with | 0, h => h | _ + 1, h => h)
      cases hk
      rw [h1.non] at r1; cases r1
      obtain ⟨q2, its2, rfl, p2⟩ := lstL h2 r2
      exact ⟨SeqAt.RcAt.none_list p2 hu0, SeqAt.EqAt.none_list p2 hu0, SeqAt.RcNeAt.none_list p2 hu0⟩
    case non.dct => cases n <;> exact rcS h h1 h2 r1 r2
    case bl.non => cases n <;> exact rcS h h1 h2 r1 r2
    case bl.bl => cases n <;> exact rcS h h1 h2 r1 r2
    case bl.int => cases n <;> exact rcS h h1 h2 r1 r2
    case bl.str => cases n <;> exact rcS h h1 h2 r1 r2
    case bl.tup =>
      have hk : some false = some k := (match n, h with | 0, h => h | _ + 1, h => h)
      cases hk
      rw [h1.bl] at r1; cases r1
      obtain ⟨q2, its2, rfl, p2⟩ := tupL h2 r2
      exact ⟨SeqAt.RcAt.bool_tuple _ p2 hu0, SeqAt.EqAt.bool_tuple _ p2 hu0, SeqAt.RcNeAt.bool_tuple _ p2 hu0⟩
    case bl.lst =>
      have hk : some false = some k := (match n, h with | 0, h => h | _ + 1, h => h)
      cases hk
      rw [h1.bl] at r1; cases r1
      obtain ⟨q2, its2, rfl, p2⟩ := lstL h2 r2
      exact ⟨SeqAt.RcAt.bool_list _ p2 hu0, SeqAt.EqAt.bool_list _ p2 hu0, SeqAt.RcNeAt.bool_list _ p2 hu0⟩
    case bl.dct => cases n <;> exact rcS h h1 h2 r1 r2
    case int.non => cases n <;> exact rcS h h1 h2 r1 r2
    case int.bl => cases n <;> exact rcS h h1 h2 r1 r2
    case int.int => cases n <;> exact rcS h h1 h2 r1 r2
    case int.str => cases n <;> exact rcS h h1 h2 r1 r2
    case int.tup =>
      have hk : some false = some k := (match n, h with | 0, h => h | _ + 1, h => h)
      cases hk
      rw [h1.int] at r1; obtain ⟨t1, rfl⟩ := r1
      obtain ⟨q2, its2, rfl, p2⟩ := tupL h2 r2
      exact ⟨SeqAt.RcAt.int_tuple _ _ p2 hu0, SeqAt.EqAt.int_tuple _ _ p2 hu0, SeqAt.RcNeAt.int_tuple _ _ p2 hu0⟩
    case int.lst =>
      have hk : some false = some k := (match n, h with | 0, h => h | _ + 1, h => h)
      cases hk
      rw [h1.int] at r1; obtain ⟨t1, rfl⟩ := r1
      obtain ⟨q2, its2, rfl, p2⟩ := lstL h2 r2
      exact ⟨SeqAt.RcAt.int_list _ _ p2 hu0, SeqAt.EqAt.int_list _ _ p2 hu0, SeqAt.RcNeAt.int_list _ _ p2 hu0⟩
    case int.dct => cases n <;> exact rcS h h1 h2 r1 r2
    case str.non => cases n <;> exact rcS h h1 h2 r1 r2
    case str.bl => cases n <;> exact rcS h h1 h2 r1 r2
    case str.int => cases n <;> exact rcS h h1 h2 r1 r2
    case str.str => cases n <;> exact rcS h h1 h2 r1 r2
    case str.tup =>
      have hk : some false = some k := (match n, h with | 0, h => h | _ + 1, h => h)
      cases hk
      rw [h1.str] at r1; obtain ⟨t1, rfl⟩ := r1
      obtain ⟨q2, its2, rfl, p2⟩ := tupL h2 r2
      exact ⟨SeqAt.RcAt.str_tuple _ _ p2 hu0, SeqAt.EqAt.str_tuple _ _ p2 hu0, SeqAt.RcNeAt.str_tuple _ _ p2 hu0⟩
    case str.lst =>
      have hk : some false = some k := (match n, h with | 0, h => h | _ + 1, h => h)
      cases hk
      rw [h1.str] at r1; obtain ⟨t1, rfl⟩ := r1
      obtain ⟨q2, its2, rfl, p2⟩ := lstL h2 r2
      exact ⟨SeqAt.RcAt.str_list _ _ p2 hu0, SeqAt.EqAt.str_list _ _ p2 hu0, SeqAt.RcNeAt.str_list _ _ p2 hu0⟩
    case str.dct => cases n <;> exact rcS h h1 h2 r1 r2
    case tup.non =>
      have hk : some false = some k := (match n, h with | 0, h => h | _ + 1, h => h)
      cases hk
      obtain ⟨q1, its1, rfl, p1⟩ := tupL h1 r1
      rw [h2.non] at r2; cases r2
      exact ⟨SeqAt.RcAt.tuple_none p1 hu0, SeqAt.EqAt.tuple_none p1 hu0, SeqAt.RcNeAt.tuple_none p1 hu0⟩
    case tup.bl =>
      have hk : some false = some k := (match n, h with | 0, h => h | _ + 1, h => h)
      cases hk
      obtain ⟨q1, its1, rfl, p1⟩ := tupL h1 r1
      rw [h2.bl] at r2; cases r2
      exact ⟨SeqAt.RcAt.tuple_bool _ p1 hu0, SeqAt.EqAt.tuple_bool _ p1 hu0, SeqAt.RcNeAt.tuple_bool _ p1 hu0⟩
    case tup.int =>
      have hk : some false = some k := (match n, h with | 0, h => h | _ + 1, h => h)
      cases hk
      obtain ⟨q1, its1, rfl, p1⟩ := tupL h1 r1
      rw [h2.int] at r2; obtain ⟨t2, rfl⟩ := r2
      exact ⟨SeqAt.RcAt.tuple_int _ _ p1 hu0, SeqAt.EqAt.tuple_int _ _ p1 hu0, SeqAt.RcNeAt.tuple_int _ _ p1 hu0⟩
    case tup.str =>
      have hk : some false = some k := (match n, h with | 0, h => h | _ + 1, h => h)
      cases hk
      obtain ⟨q1, its1, rfl, p1⟩ := tupL h1 r1
      rw [h2.str] at r2; obtain ⟨t2, rfl⟩ := r2
      exact ⟨SeqAt.RcAt.tuple_str _ _ p1 hu0, SeqAt.EqAt.tuple_str _ _ p1 hu0, SeqAt.RcNeAt.tuple_str _ _ p1 hu0⟩
    case tup.lst =>
      have hk : some false = some k := (match n, h with | 0, h => h | _ + 1, h => h)
      cases hk
      obtain ⟨q1, its1, rfl, p1⟩ := tupL h1 r1
      obtain ⟨q2, its2, rfl, p2⟩ := lstL h2 r2
      exact ⟨SeqAt.RcAt.tuple_list p1 p2 hu0, SeqAt.EqAt.tuple_list p1 p2 hu0, SeqAt.RcNeAt.tuple_list p1 p2 hu0⟩
    case tup.dct => cases n <;> exact rcS h h1 h2 r1 r2
    case lst.non =>
      have hk : some false = some k := (match n, h with | 0, h => h | _ + 1, h => h)
      cases hk
      obtain ⟨q1, its1, rfl, p1⟩ := lstL h1 r1
      rw [h2.non] at r2; cases r2
      exact ⟨SeqAt.RcAt.list_none p1 hu0, SeqAt.EqAt.list_none p1 hu0, SeqAt.RcNeAt.list_none p1 hu0⟩
    case lst.bl =>
      have hk : some false = some k := (match n, h with | 0, h => h | _ + 1, h => h)
      cases hk
      obtain ⟨q1, its1, rfl, p1⟩ := lstL h1 r1
      rw [h2.bl] at r2; cases r2
      exact ⟨SeqAt.RcAt.list_bool _ p1 hu0, SeqAt.EqAt.list_bool _ p1 hu0, SeqAt.RcNeAt.list_bool _ p1 hu0⟩
    case lst.int =>
      have hk : some false = some k := (match n, h with | 0, h => h | _ + 1, h => h)
      cases hk
      obtain ⟨q1, its1, rfl, p1⟩ := lstL h1 r1
      rw [h2.int] at r2; obtain ⟨t2, rfl⟩ := r2
      exact ⟨SeqAt.RcAt.list_int _ _ p1 hu0, SeqAt.EqAt.list_int _ _ p1 hu0, SeqAt.RcNeAt.list_int _ _ p1 hu0⟩
    case lst.str =>
      have hk : some false = some k := (match n, h with | 0, h => h | _ + 1, h => h)
      cases hk
      obtain ⟨q1, its1, rfl, p1⟩ := lstL h1 r1
      rw [h2.str] at r2; obtain ⟨t2, rfl⟩ := r2
      exact ⟨SeqAt.RcAt.list_str _ _ p1 hu0, SeqAt.EqAt.list_str _ _ p1 hu0, SeqAt.RcNeAt.list_str _ _ p1 hu0⟩
    case lst.tup =>
      have hk : some false = some k := (match n, h with | 0, h => h | _ + 1, h => h)
      cases hk
      obtain ⟨q1, its1, rfl, p1⟩ := lstL h1 r1
      obtain ⟨q2, its2, rfl, p2⟩ := tupL h2 r2
      exact ⟨SeqAt.RcAt.list_tuple p1 p2 hu0, SeqAt.EqAt.list_tuple p1 p2 hu0, SeqAt.RcNeAt.list_tuple p1 p2 hu0⟩
    case lst.dct => cases n <;> exact rcS h h1 h2 r1 r2
    case dct.non => cases n <;> exact rcS h h1 h2 r1 r2
    case dct.bl => cases n <;> exact rcS h h1 h2 r1 r2
    case dct.int => cases n <;> exact rcS h h1 h2 r1 r2
    case dct.str => cases n <;> exact rcS h h1 h2 r1 r2
    case dct.tup => cases n <;> exact rcS h h1 h2 r1 r2
    case dct.lst => cases n <;> exact rcS h h1 h2 r1 r2
    case dct.dct => cases n <;> exact rcS h h1 h2 r1 r2
    case tup.tup as bs =>
      cases n with
      | zero => cases h
      | succ n =>
        have hk : Z.allEq (Z.eqDn n) as bs = some k := h
        have hs := fun (z : v1 = v2) => eqN_same I (n + 1) (d1 := .tup as) (d2 := .tup bs) (v := v1) h h1 (z ▸ h2)
        obtain ⟨q, vs, rfl, hq, ta⟩ := h1.tup
        obtain ⟨q', ws, rfl, hq', tb⟩ := h2.tup
        cases r1; cases r2
        obtain ⟨its, ra, pa, _⟩ := I.tuple hq
        obtain ⟨its2, rb, pb, _⟩ := I.tuple hq'
        have hi := items_at I n (A := A.in1) (show A.units + 1 + n < cLine by omega) (rcN I n) hk ta tb ra rb
        have e := (allEq_at hk).1
        have la := ta.length; have lb := tb.length; have ra' := ra.length; have rb' := rb.length
        have t1 := SeqAt.RcAt.tuples (s := s) (A := A) (show s.heap.IsTuple q its.toArray from pa) (show s.heap.IsTuple q' its2.toArray from pb) hu0 hi
        have t2 := SeqAt.RcNeAt.tuples (s := s) (A := A) (show s.heap.IsTuple q its.toArray from pa) (show s.heap.IsTuple q' its2.toArray from pb) hu0 hi
        simp only [List.size_toArray] at t1 t2
        rw [← ra', ← rb', la, lb, ← e] at t1 t2
        refine ⟨t1, ?_, t2⟩
        by_cases hqq : q = q'
        · subst hqq; rw [hs rfl]; exact SeqAt.EqAt.same _
        · exact SeqAt.EqAt.of_refs hqq t1
    case lst.lst as bs =>
      cases n with
      | zero => cases h
      | succ n =>
        have hk : Z.allEq (Z.eqDn n) as bs = some k := h
        have hs := fun (z : v1 = v2) => eqN_same I (n + 1) (d1 := .lst as) (d2 := .lst bs) (v := v1) h h1 (z ▸ h2)
        obtain ⟨q, vs, rfl, hq, ta⟩ := h1.lst
        obtain ⟨q', ws, rfl, hq', tb⟩ := h2.lst
        cases r1; cases r2
        obtain ⟨its, ra, pa, _⟩ := I.list hq
        obtain ⟨its2, rb, pb, _⟩ := I.list hq'
        have e := (allEq_at hk).1
        have la := ta.length; have lb := tb.length; have ra' := ra.length; have rb' := rb.length
        have t : SeqAt.RcAt A s (.ref q) (.ref q') k ∧ SeqAt.RcNeAt A s (.ref q) (.ref q') (!k) := by
          by_cases hlen : as.length = bs.length
          · have hi := items_at I n (A := A.in1) (show A.units + 1 + n < cLine by omega) (rcN I n) hk ta tb ra rb
            have t1 := SeqAt.RcAt.lists (s := s) (A := A) pa.isList pb.isList (by simp only [List.size_toArray]; omega) hu0 hi
            have t2 := SeqAt.RcNeAt.lists (s := s) (A := A) pa.isList pb.isList (by simp only [List.size_toArray]; omega) hu0 hi
            simp only [List.size_toArray] at t1 t2
            rw [← ra', la] at t1 t2
            rw [hlen, Nat.min_self, beq_self_eq_true, Bool.and_true, ← hlen] at e
            rw [← e] at t1 t2
            exact ⟨t1, t2⟩
          · have : (as.length == bs.length) = false := by simpa using hlen
            rw [this, Bool.and_false] at e
            subst e
            exact ⟨SeqAt.RcAt.lists_lengths pa.isList pb.isList (by simp only [List.size_toArray, bne_iff_ne, ne_eq]; omega) hu0, SeqAt.RcNeAt.lists_lengths pa.isList pb.isList (by simp only [List.size_toArray, bne_iff_ne, ne_eq]; omega) hu0⟩
        refine ⟨t.1, ?_, t.2⟩
        by_cases hqq : q = q'
        · subst hqq; rw [hs rfl]; exact SeqAt.EqAt.same _
        · exact SeqAt.EqAt.of_refs hqq t.1
theorem c_eq (hu : X.A.units + 64 < cLine) : Cmp X .Eq Z.oEq := by
  have ho : OpR X (compareOp .Eq) (fun x y H Q => ∃ d1 d2 k, DenW X.K H d1 x ∧ DenW X.K H d2 y ∧ Z.eqD d1 d2 = some k ∧ Q (.bl k) H) := by
    intro pins s σ H x y v u Q I rx ry h
    obtain ⟨d1, d2, k, h1, h2, e, q⟩ := h
    exact (rcN I 6 (A := X.A) (by omega) e h1 h2 rx ry).1 X.prog X.w X.xe _ ⟨.bl k, H, I, rfl, q⟩
  exact ⟨_, ho, fun x y dx dy d H Q h1 h2 e k => by
    unfold Z.oEq at e
    split at e
    · rename_i z hz
      cases e
      exact ⟨dx, dy, z, h1, h2, hz, k _ H (Same.refl H) den_bl⟩
    · cases e⟩
theorem c_ne (hu : X.A.units + 64 < cLine) : Cmp X .NotEq Z.oNe := by
  have ho : OpR X (compareOp .NotEq) (fun x y H Q => ∃ d1 d2 k, DenW X.K H d1 x ∧ DenW X.K H d2 y ∧ Z.eqD d1 d2 = some k ∧ Q (.bl (!k)) H) := by
    intro pins s σ H x y v u Q I rx ry h
    obtain ⟨d1, d2, k, h1, h2, e, q⟩ := h
    exact (rcN I 6 (A := X.A) (by omega) e h1 h2 rx ry).2.2 X.prog X.w X.xe _ ⟨.bl (!k), H, I, rfl, q⟩
  exact ⟨_, ho, fun x y dx dy d H Q h1 h2 e k => by
    unfold Z.oNe at e
    split at e
    · rename_i z hz
      cases e
      exact ⟨dx, dy, z, h1, h2, hz, k _ H (Same.refl H) den_bl⟩
    · cases e⟩
theorem keyZ_inj : ∀ {a b : Sum Int (List Nat)}, keyZ a = keyZ b → a = b
  | .inl a, .inl b, h => by injection h with h; rw [h]
  | .inl _, .inr _, h => by cases h
  | .inr _, .inl _, h => by cases h
  | .inr a, .inr b, h => by
    injection h with h
    injection h with h
    have : a = b := by simpa using congrArg Array.toList h
    rw [this]
theorem keysZ_inj : ∀ {a b : List (Sum Int (List Nat))}, a.map keyZ = b.map keyZ → a = b
  | [], [], _ => rfl
  | [], _ :: _, h => by cases h
  | _ :: _, [], h => by cases h
  | a :: as, b :: bs, h => by
    simp only [List.map_cons, List.cons.injEq] at h
    rw [keyZ_inj h.1, keysZ_inj h.2]
theorem cls_dct {pins : List (Addr × Obj)} {σ : St} {H : Hp} {s : Shared} {a : Addr} {o : Obj} {kvs : List (Key × V)} (I : Inv X pins σ H s) (hq : H a = some (.frz o (.dK kvs))) : ∃ o', s.heap.get? a = some o' ∧ o'.cls = .type "dict" := by
  obtain ⟨_, _, _, _, _, o', es, ep, h1, h2, _⟩ := (show ObjOk X.prog X.w H s.heap a (.frz o (.dK kvs)) from I.hok a _ hq)
  exact ⟨o', h1, h2.1⟩
theorem ref_td {pins : List (Addr × Obj)} {σ : St} {H : Hp} {s : Shared} {a : Addr} {xs : List V} {o : Obj} {kvs : List (Key × V)} (I : Inv X pins σ H s) (h : SqT X.K H a xs) (h' : H a = some (.frz o (.dK kvs))) : False := by
  obtain ⟨its, r, ⟨o1, e, c, n, d⟩, _⟩ := I.tuple h
  obtain ⟨o2, e', c'⟩ := cls_dct I h'
  rw [e] at e'; cases e'
  rw [c] at c'; injection c' with z; exact absurd z (by decide)
theorem ref_ld {pins : List (Addr × Obj)} {σ : St} {H : Hp} {s : Shared} {a : Addr} {xs : List V} {o : Obj} {kvs : List (Key × V)} (I : Inv X pins σ H s) (h : SqL X.K H a xs) (h' : H a = some (.frz o (.dK kvs))) : False := by
  obtain ⟨its, r, ⟨o1, n, e, c, _⟩, _⟩ := I.list h
  obtain ⟨o2, e', c'⟩ := cls_dct I h'
  rw [e] at e'; cases e'
  rw [c] at c'; injection c' with z; exact absurd z (by decide)
mutual
theorem Den.inj {pins : List (Addr × Obj)} {σ : St} {H : Hp} {s : Shared} (I : Inv X pins σ H s) : ∀ (d1 d2 : Z.D) (v : V), Den X.K H d1 v → Den X.K H d2 v → d1 = d2
  | .non, d2, v, h1, h2 => by
    simp only [Den] at h1; subst h1
    cases d2 <;> simp only [Den] at h2 <;> first | rfl | (cases h2; done) | skip
    case tup => obtain ⟨_, _, e, _⟩ := h2; cases e
    case lst => obtain ⟨_, _, e, _⟩ := h2; cases e
    case dct => obtain ⟨_, _, _, e, _⟩ := h2; cases e
  | .bl b, d2, v, h1, h2 => by
    simp only [Den] at h1; subst h1
    cases d2 <;> simp only [Den] at h2 <;> first | (injection h2 with h2; rw [h2]) | (cases h2; done) | skip
    case tup => obtain ⟨_, _, e, _⟩ := h2; cases e
    case lst => obtain ⟨_, _, e, _⟩ := h2; cases e
    case dct => obtain ⟨_, _, _, e, _⟩ := h2; cases e
  | .int i, d2, v, h1, h2 => by
    simp only [Den] at h1; subst h1
    cases d2 <;> simp only [Den] at h2 <;> first | (injection h2 with h2; rw [h2]) | (cases h2; done) | skip
    case tup => obtain ⟨_, _, e, _⟩ := h2; cases e
    case lst => obtain ⟨_, _, e, _⟩ := h2; cases e
    case dct => obtain ⟨_, _, _, e, _⟩ := h2; cases e
  | .str cs, d2, v, h1, h2 => by
    simp only [Den] at h1; subst h1
    cases d2 <;> simp only [Den] at h2 <;> first | (injection h2 with h2; injection h2 with h2; have := congrArg Array.toList h2; simp at this; rw [this]) | (cases h2; done) | skip
    case tup => obtain ⟨_, _, e, _⟩ := h2; cases e
    case lst => obtain ⟨_, _, e, _⟩ := h2; cases e
    case dct => obtain ⟨_, _, _, e, _⟩ := h2; cases e
  | .tup ds, d2, v, h1, h2 => by
    simp only [Den] at h1
    obtain ⟨a, vs, rfl, q, t⟩ := h1
    cases d2 <;> simp only [Den] at h2
    case tup es =>
      obtain ⟨a', vs', e, q', t'⟩ := h2; cases e
      rw [I.tuple_inj q' q] at t'
      rw [Dens.inj I ds es vs t t']
    case lst es => obtain ⟨a', vs', e, q', t'⟩ := h2; cases e; exact (ref_tl I q q'.sq).elim
    case dct ks es => obtain ⟨a', o, kvs, e, q', _⟩ := h2; cases e; exact (ref_td I q q').elim
    all_goals cases h2
  | .lst ds, d2, v, h1, h2 => by
    simp only [Den] at h1
    obtain ⟨a, vs, rfl, q, t⟩ := h1
    cases d2 <;> simp only [Den] at h2
    case lst es =>
      obtain ⟨a', vs', e, q', t'⟩ := h2; cases e
      rw [I.list_inj q'.sq q.sq] at t'
      rw [Dens.inj I ds es vs t t']
    case tup es => obtain ⟨a', vs', e, q', t'⟩ := h2; cases e; exact (ref_tl I q' q.sq).elim
    case dct ks es => obtain ⟨a', o, kvs, e, q', _⟩ := h2; cases e; exact (ref_ld I q.sq q').elim
    all_goals cases h2
  | .dct ks ds, d2, v, h1, h2 => by
    simp only [Den] at h1
    obtain ⟨a, o, kvs, rfl, q, hk, t⟩ := h1
    cases d2 <;> simp only [Den] at h2
    case lst es => obtain ⟨a', vs', e, q', t'⟩ := h2; cases e; exact (ref_ld I q'.sq q).elim
    case tup es => obtain ⟨a', vs', e, q', t'⟩ := h2; cases e; exact (ref_td I q' q).elim
    case dct ks' es =>
      obtain ⟨a', o', kvs', e, q', hk', t'⟩ := h2; cases e
      rw [q] at q'; cases q'
      rw [Dens.inj I ds es _ t t', keysZ_inj (hk.symm.trans hk')]
    all_goals cases h2
theorem Dens.inj {pins : List (Addr × Obj)} {σ : St} {H : Hp} {s : Shared} (I : Inv X pins σ H s) : ∀ (d1 d2 : List Z.D) (v : List V), Dens X.K H d1 v → Dens X.K H d2 v → d1 = d2
  | [], d2, v, h1, h2 => by
    simp only [Dens] at h1; subst h1
    cases d2 with
    | nil => rfl
    | cons d ds => simp only [Dens] at h2; obtain ⟨_, _, e, _⟩ := h2; cases e
  | d :: ds, d2, v, h1, h2 => by
    simp only [Dens] at h1
    obtain ⟨u, r, rfl, q, t⟩ := h1
    cases d2 with
    | nil => simp only [Dens] at h2; cases h2
    | cons d' ds' =>
      simp only [Dens] at h2; obtain ⟨u', r', e, q', t'⟩ := h2
      cases e
      rw [Den.inj I d d' u q q', Dens.inj I ds ds' r t t']
end
end
section
variable {X : Cx} {es : List Expr} {f : Z.EF} {g : Z.AF}
theorem da_cConst {v j p} (ha : DE X (.Constant v j p) f) (hr : DA X es g) : DA X ((.Constant v j p) :: es) (Z.aCons f g) := da_cons ha hr rfl
theorem da_cName {x p} (ha : DE X (.Name x p) f) (hr : DA X es g) : DA X ((.Name x p) :: es) (Z.aCons f g) := da_cons ha hr rfl
theorem da_cBin {x o y p} (ha : DE X (.BinOp x o y p) f) (hr : DA X es g) : DA X ((.BinOp x o y p) :: es) (Z.aCons f g) := da_cons ha hr rfl
theorem da_cCall {x xs ks p} (ha : DE X (.Call x xs ks p) f) (hr : DA X es g) : DA X ((.Call x xs ks p) :: es) (Z.aCons f g) := da_cons ha hr rfl
theorem da_cSub {x y p} (ha : DE X (.Subscript x y p) f) (hr : DA X es g) : DA X ((.Subscript x y p) :: es) (Z.aCons f g) := da_cons ha hr rfl
end
end ZS
set_option Elab.async false
set_option linter.all false
set_option maxHeartbeats 4000000
namespace ZQ
open PySem PySem.Spec PyProof.Rows L2 ZS
abbrev St := L2.St
structure QE (X : Cx) (e : Expr) (f : Z.EF) : Prop where p : DE X e f
structure QW (X : Cx) (e : Expr) (f : Z.EF) : Prop where p : DW X e f
structure QL (X : Cx) (e : Expr) (f : Z.LF) : Prop where p : DL X e f
structure QT (X : Cx) (e : Expr) (f : Z.TF) : Prop where p : DT X e f
structure QTW (X : Cx) (e : Expr) (f : Z.TF) : Prop where p : DTW X e f
structure QA (X : Cx) (es : List Expr) (f : Z.AF) : Prop where p : DA X es f
structure QP (X : Cx) (e : Option Expr) (f : Z.PF) : Prop where p : DP X e f
structure QI (X : Cx) (tg e : Expr) (f : Z.LF) : Prop where p : DI X tg e f
structure QJ (X : Cx) (tg e : Expr) (f : Z.LF) : Prop where p : DJ X tg e f
structure QS (X : Cx) (H0 : Hp) (st : Stmt) (g : Z.SF) : Prop where p : DS X H0 st g
structure QSs (X : Cx) (H0 : Hp) (st : List Stmt) (g : Z.SF) : Prop where p : DSs X H0 st g
structure QG (X : Cx) (H0 : Hp) (tg : Expr) (g : Z.GF) : Prop where p : DG X H0 tg g
structure QGs (X : Cx) (H0 : Hp) (tgs : List Expr) (is : List Nat) : Prop where p : DGs X H0 tgs is
structure QTst (X : Cx) (ifs : List Expr) (t : Z.TF) : Prop where p : Tst X ifs t
section
variable {X : Cx} {tg e a b c elt iter : Expr} {es ifs : List Expr} {pos p : Pos} {f fa fb fc : Z.EF} {g u : Z.SF} {H0 : Hp} {st : Stmt} {sts : List Stmt} {N' : List Str} {n : Nat} {is : List Nat} {scope : Scope}
theorem de_int {i : Int} {j} : QE X (.Constant (.int i) j pos) (Z.eC (.int i)) := ⟨ZS.de_int ⟩
theorem de_bl {x : Bool} {j} : QE X (.Constant (.bool x) j pos) (Z.eC (.bl x)) := ⟨ZS.de_bl ⟩
theorem de_str {x : Str} {cs : List Nat} {j} (h : x = ⟨cs.toArray⟩) : QE X (.Constant (.str x) j pos) (Z.eC (.str cs)) := ⟨ZS.de_str (h := h)⟩
theorem de_v (i : Nat) {x : Str} (hN : X.N[i]? = some x := by rfl) (hv : Vis X.env.scope x := by first | exact Or.inl rfl | exact Or.inr (Or.inl rfl) | exact Or.inr (Or.inr rfl)) (hd : (x == ("__debug__" : Str)) = false := by decide +kernel) (hcd : (x == ("__classdict__" : Str)) = false := by decide +kernel) : QE X (.Name x pos) (Z.eV i) := ⟨ZS.de_v (i := i) (hN := hN) (hv := hv) (hd := hd) (hcd := hcd)⟩
theorem dw_v (i : Nat) {x : Str} (hN : X.N[i]? = some x := by rfl) (hv : Vis X.env.scope x := by first | exact Or.inl rfl | exact Or.inr (Or.inl rfl) | exact Or.inr (Or.inr rfl)) (hd : (x == ("__debug__" : Str)) = false := by decide +kernel) (hcd : (x == ("__classdict__" : Str)) = false := by decide +kernel) : QW X (.Name x pos) (Z.eW i) := ⟨ZS.dw_v (i := i) (hN := hN) (hv := hv) (hd := hd) (hcd := hcd)⟩
theorem de_globI {X : Cx} {pos : Pos} {x : Str} {i : Int} {t : Tok} (hg : Gl X x) (hm : X.mg x = some (.int i t)) (hb : (x == ("__debug__" : Str)) = false := by decide +kernel) : QE X (.Name x pos) (Z.eC (.int i)) := ⟨ZS.de_globI (hg := hg) (hm := hm) (hb := hb)⟩
theorem dw_e (h : QE X e f) : QW X e f := ⟨ZS.dw_e (h := h.p)⟩
theorem dw_l {l : Z.LF} (h : QL X e l) : QW X e (Z.eL l) := ⟨ZS.dw_l (h := h.p)⟩
theorem de_l {l : Z.LF} (h : QL X e l) : QE X e (Z.eL l) := ⟨ZS.de_l (h := h.p)⟩
theorem de_sub (ha : QW X a fa) (hb : QW X b fb) : QE X (.BinOp a .Sub b pos) (Z.eB Z.oSub fa fb) := ⟨ZS.de_sub (ha := ha.p) (hb := hb.p)⟩
theorem de_mul (ha : QW X a fa) (hb : QW X b fb) : QE X (.BinOp a .Mult b pos) (Z.eB Z.oMul fa fb) := ⟨ZS.de_mul (ha := ha.p) (hb := hb.p)⟩
theorem de_div (ha : QW X a fa) (hb : QW X b fb) : QE X (.BinOp a .FloorDiv b pos) (Z.eB Z.oDiv fa fb) := ⟨ZS.de_div (ha := ha.p) (hb := hb.p)⟩
theorem de_mod (ha : QW X a fa) (hb : QW X b fb) : QE X (.BinOp a .Mod b pos) (Z.eB Z.oMod fa fb) := ⟨ZS.de_mod (ha := ha.p) (hb := hb.p)⟩
theorem de_shr (ha : QW X a fa) (hb : QW X b fb) : QE X (.BinOp a .RShift b pos) (Z.eB Z.oShr fa fb) := ⟨ZS.de_shr (ha := ha.p) (hb := hb.p)⟩
theorem de_pow (ha : QW X a fa) (hb : QW X b fb) : QE X (.BinOp a .Pow b pos) (Z.eB Z.oPow fa fb) := ⟨ZS.de_pow (ha := ha.p) (hb := hb.p)⟩
theorem de_shl (ha : QW X a fa) (hb : QW X b fb) : QE X (.BinOp a .LShift b pos) (Z.eB Z.oShl fa fb) := ⟨ZS.de_shl (ha := ha.p) (hb := hb.p)⟩
theorem de_add (ha : QW X a fa) (hb : QW X b fb) : QE X (.BinOp a .Add b pos) (Z.eB Z.oAdd fa fb) := ⟨ZS.de_add (ha := ha.p) (hb := hb.p)⟩
theorem dt_cmpC {op : CmpOp} {o : Z.D → Z.D → Z.Res Z.D} (h : Cmp X op o) (ha : QW X a fa) (hb : QW X b fb) (hm : behindInMarks op b = false) : QT X (.Compare a [op] [b] pos) (Z.tE (Z.eB o fa fb)) := ⟨ZS.dt_cmpC (h := h) (ha := ha.p) (hb := hb.p) (hm := hm)⟩
theorem de_one {op} (h : QE X a fa) : QE X (.BoolOp op [a] pos) fa := ⟨ZS.de_one (h := h.p)⟩
theorem de_and {rest : List Expr} (ha : QE X a fa) (hb : QE X (.BoolOp .And (b :: rest) pos) fb) : QE X (.BoolOp .And (a :: b :: rest) pos) (Z.eAnd fa fb) := ⟨ZS.de_and (ha := ha.p) (hb := hb.p)⟩
theorem de_not (ha : QE X a fa) : QE X (.UnaryOp .Not a pos) (Z.eNot fa) := ⟨ZS.de_not (ha := ha.p)⟩
theorem dt_e (h : QE X e f) (he : ∀ whole, isTrue e X.env whole = (do let v ← whole; standAt e.pos; holding [v] (truthy v)) := by intro _; rfl) : QT X e (Z.tE f) := ⟨ZS.dt_e (h := h.p) (he := he)⟩
theorem dt_not {t : Z.TF} (h : QT X a t) : QT X (.UnaryOp .Not a pos) (Z.tNot t) := ⟨ZS.dt_not (h := h.p)⟩
theorem dt_and1 {t : Z.TF} (h : QT X a t) : QTW X (.BoolOp .And [a] pos) t := ⟨ZS.dt_and1 (h := h.p)⟩
theorem dt_or1 {t : Z.TF} (h : QT X a t) : QTW X (.BoolOp .Or [a] pos) t := ⟨ZS.dt_or1 (h := h.p)⟩
theorem dt_and {t u : Z.TF} {rest : List Expr} (ha : QT X a t) (hb : QTW X (.BoolOp .And (b :: rest) pos) u) : QTW X (.BoolOp .And (a :: b :: rest) pos) (Z.tAnd t u) := ⟨ZS.dt_and (ha := ha.p) (hb := hb.p)⟩
theorem dt_or {t u : Z.TF} {rest : List Expr} (ha : QT X a t) (hb : QTW X (.BoolOp .Or (b :: rest) pos) u) : QTW X (.BoolOp .Or (a :: b :: rest) pos) (Z.tOr t u) := ⟨ZS.dt_or (ha := ha.p) (hb := hb.p)⟩
theorem dtw {t : Z.TF} (h : QTW X e t) : QT X e t := ⟨ZS.dtw (h := h.p)⟩
theorem da_nil  : QA X [] Z.aNil := ⟨ZS.da_nil ⟩
theorem da_cConst {g : Z.AF} {v j p} (ha : QE X (.Constant v j p) f) (hr : QA X es g) : QA X ((.Constant v j p) :: es) (Z.aCons f g) := ⟨ZS.da_cConst (ha := ha.p) (hr := hr.p)⟩
theorem da_cName {g : Z.AF} {x p} (ha : QE X (.Name x p) f) (hr : QA X es g) : QA X ((.Name x p) :: es) (Z.aCons f g) := ⟨ZS.da_cName (ha := ha.p) (hr := hr.p)⟩
theorem da_cBin {g : Z.AF} {x o y p} (ha : QE X (.BinOp x o y p) f) (hr : QA X es g) : QA X ((.BinOp x o y p) :: es) (Z.aCons f g) := ⟨ZS.da_cBin (ha := ha.p) (hr := hr.p)⟩
theorem da_cCall {g : Z.AF} {x xs ks p} (ha : QE X (.Call x xs ks p) f) (hr : QA X es g) : QA X ((.Call x xs ks p) :: es) (Z.aCons f g) := ⟨ZS.da_cCall (ha := ha.p) (hr := hr.p)⟩
theorem da_cSub {g : Z.AF} {x y p} (ha : QE X (.Subscript x y p) f) (hr : QA X es g) : QA X ((.Subscript x y p) :: es) (Z.aCons f g) := ⟨ZS.da_cSub (ha := ha.p) (hr := hr.p)⟩
theorem de_tup {x1} {g : Z.AF} (h : QA X es g) : QE X (.Tuple es x1 pos) (Z.eTup g) := ⟨ZS.de_tup (h := h.p)⟩
theorem dl_disp {g : Z.AF} (h : QA X es g) : QL X (.List es pos) (Z.lDisp g) := ⟨ZS.dl_disp (h := h.p)⟩
theorem de_isinst (t : Z.Ty) {x y : Str} {p1 p2 : Pos} (hg : Gl X x) (hm : X.mg x = none) (hv : bootBuiltins x = some (.builtin "isinstance")) (hg2 : Gl X y) (hm2 : X.mg y = none) (hv2 : bootBuiltins y = some (.type (tyC t))) (ha : QW X a fa) (hn : x ≠ "__name__" := by decide +kernel) (hdb : (x == ("__debug__" : Str)) = false := by decide +kernel) (hn2 : y ≠ "__name__" := by decide +kernel) (hdb2 : (y == ("__debug__" : Str)) = false := by decide +kernel) (he : starEach (a :: [.Name y p2]) X.env = (false, eval a X.env) :: starEach [.Name y p2] X.env := by rfl) (hpl : (backTo pos (starEach [.Name y p2] X.env)).any (·.1) = false := by rfl) (he2 : starEach ((.Name y p2) :: []) X.env = (false, eval (.Name y p2) X.env) :: starEach [] X.env := by rfl) : QE X (.Call (.Name x p1) [a, .Name y p2] [] pos) (Z.eU (Z.oIsTy t) fa) := ⟨ZS.de_isinst (t := t) (hg := hg) (hm := hm) (hv := hv) (hg2 := hg2) (hm2 := hm2) (hv2 := hv2) (ha := ha.p) (hn := hn) (hdb := hdb) (hn2 := hn2) (hdb2 := hdb2) (he := he) (hpl := hpl) (he2 := he2)⟩
theorem de_len {x : Str} {p1 : Pos} (hg : Gl X x) (hm : X.mg x = none) (hv : bootBuiltins x = some (.builtin "len")) (ha : QW X a fa) (hn : x ≠ "__name__" := by decide +kernel) (hdb : (x == ("__debug__" : Str)) = false := by decide +kernel) (he : starEach (a :: []) X.env = (false, eval a X.env) :: starEach [] X.env := by rfl) (hpl : (backTo pos (starEach [] X.env)).any (·.1) = false := by rfl) : QE X (.Call (.Name x p1) [a] [] pos) (Z.eU Z.oLen fa) := ⟨ZS.de_len (hg := hg) (hm := hm) (hv := hv) (ha := ha.p) (hn := hn) (hdb := hdb) (he := he) (hpl := hpl)⟩
theorem de_ix (ha : QW X a fa) (hb : QW X b fb) (hs : PlainIx b := by intro _ _; rfl) : QE X (.Subscript a b pos) (Z.eB Z.oIx fa fb) := ⟨ZS.de_ix (ha := ha.p) (hb := hb.p) (hs := hs)⟩
theorem dp_at (h : QW X e f) : QP X (some e) (Z.pAt f) := ⟨ZS.dp_at (h := h.p)⟩
theorem dl_slice {lo hi : Option Expr} {gl gh : Z.PF} {p2 : Pos} (ha : QW X a fa) (hl : QP X lo gl) (hh : QP X hi gh) : QL X (.Subscript a (.Slice lo hi none p2) pos) (Z.lSl fa gl gh) := ⟨ZS.dl_slice (ha := ha.p) (hl := hl.p) (hh := hh.p)⟩
theorem dl_cat (ha : QW X a fa) (hb : QW X b fb) : QL X (.BinOp a .Add b pos) (Z.lCat fa fb) := ⟨ZS.dl_cat (ha := ha.p) (hb := hb.p)⟩
theorem de_callC {k : Nat} {ps : List Str} {x : Str} {m : List Z.D → Z.Res Z.D} {ar : Z.AF} {p1 : Pos} (C : Cal X.prog X.w X.K X.mg X.base x k ps m) (hr : Room k X.A) (hg : Gl X x) (ha : QA X (e :: es) ar) (hdb : (x == ("__debug__" : Str)) = false := by decide +kernel) (he : starEach (e :: es) X.env = (false, eval e X.env) :: starEach es X.env := by rfl) (hpl : (backTo pos (starEach es X.env)).any (·.1) = false := by rfl) : QE X (.Call (.Name x p1) (e :: es) [] pos) (Z.eCall m ar) := ⟨ZS.de_callC (C := C) (hr := hr) (hg := hg) (ha := ha.p) (hdb := hdb) (he := he) (hpl := hpl)⟩
theorem di_j {g : Z.LF} (h : QJ X tg e g) : QI X tg e g := ⟨ZS.di_j (h := h.p)⟩
theorem dj_rng1 (hg : Gl X "range") (hm : X.mg "range" = none) (ha : QE X a fa) (hs : starEach [a] X.env = [(false, eval a X.env)] := by rfl) (hs1 : starEach (a :: []) X.env = (false, eval a X.env) :: starEach [] X.env := by rfl) : QJ X tg (.Call (.Name "range" p) [a] [] pos) (Z.iRng1 fa) := ⟨ZS.dj_rng1 (hg := hg) (hm := hm) (ha := ha.p) (hs := hs) (hs1 := hs1)⟩
theorem di_seq (ha : QW X a fa) : QI X tg a (Z.iSeq fa) := ⟨ZS.di_seq (ha := ha.p)⟩
theorem dj_seq (ha : QE X a fa) : QJ X tg a (Z.iSeq fa) := ⟨ZS.dj_seq (ha := ha.p)⟩
theorem dss_nil  : QSs X H0 [] Z.sNext := ⟨ZS.dss_nil ⟩
theorem dss_one (h : QS X H0 st g) : QSs X H0 [st] g := ⟨ZS.dss_one (h := h.p)⟩
theorem dss_cons (h1 : QS X H0 st g) (h2 : QSs X H0 sts u) : QSs X H0 (st :: sts) (Z.sSeq g u) := ⟨ZS.dss_cons (h1 := h1.p) (h2 := h2.p)⟩
theorem ds_ret (h : QE X a fa) : QS X H0 (.Return (some a) pos) (Z.sRet fa) := ⟨ZS.ds_ret (h := h.p)⟩
theorem ds_if {c : Expr} {b1 b2 : List Stmt} {t : Z.TF} (hc : QT X c t) (h1 : QSs X H0 b1 g) (h2 : QSs X H0 b2 u) : QS X H0 (.If c b1 b2 pos) (Z.sIf t g u) := ⟨ZS.ds_if (hc := hc.p) (h1 := h1.p) (h2 := h2.p)⟩
theorem ds_set {i : Nat} {x : Str} {pos' : Pos} (hN : X.N.Nodup) (hi : X.N[i]? = some x) (hx : Loc X.env.scope x) (he : QE X a fa) (hs : swapsWith a (some (.Name x pos')) pos.line X.env = pure false := by rfl) (hf : X.fn x = true ∨ X.env.scope.names.lookup x = some .local := by first | exact .inl rfl | exact .inr rfl | assumption) : QS X H0 (.Assign [.Name x pos'] a pos) (Z.sSet i fa) := ⟨ZS.ds_set (hN := hN) (hi := hi) (hx := hx) (he := he.p) (hs := hs) (hf := hf)⟩
theorem ds_own {i : Nat} {x : Str} {pos' : Pos} {l : Z.LF} (hN : X.N.Nodup) (hi : X.N[i]? = some x) (hx : Loc X.env.scope x) (he : QL X a l) (hs : swapsWith a (some (.Name x pos')) pos.line X.env = pure false := by rfl) (hf : X.fn x = true ∨ X.env.scope.names.lookup x = some .local := by first | exact .inl rfl | exact .inr rfl | assumption) : QS X H0 (.Assign [.Name x pos'] a pos) (Z.sOwn i l) := ⟨ZS.ds_own (hN := hN) (hi := hi) (hx := hx) (he := he.p) (hs := hs) (hf := hf)⟩
theorem dg_name {i : Nat} {x : Str} (hN : X.N.Nodup) (hi : X.N[i]? = some x) (hx : Loc X.env.scope x) (hf : X.fn x = true ∨ X.env.scope.names.lookup x = some .local := by first | exact .inl rfl | exact .inr rfl | assumption) : QG X H0 (.Name x pos) (Z.gName i) := ⟨ZS.dg_name (hN := hN) (hi := hi) (hx := hx) (hf := hf)⟩
theorem ds_for {it : Z.LF} {G : Z.GF} {iter : Expr} {body : List Stmt} (hp : PassesOwn (model X.prog X.w) X.A X.env X.xe) (hc : X.calm = true) (hi : QJ X tg iter it) (hg : QG X H0 tg G) (hb : QSs X H0 body g) (hs : ∀ x, foldedSetIterable iter X.env x = pure x := by intro _; rfl) : QS X H0 (.For tg iter body [] pos) (Z.sFor it G g) := ⟨ZS.ds_for (hp := hp) (hc := hc) (hi := hi.p) (hg := hg.p) (hb := hb.p) (hs := hs)⟩
theorem ds_append {i : Nat} {o : Expr} {p1 p2 : Pos} (ho : PE X o (tVar i)) (ha : QE X a fa) (hs : swapsWith (.Call (.Attribute o "append" p1) [a] [] p2) none pos.line X.env = pure false := by rfl) (hs1 : starEach (a :: []) X.env = (false, eval a X.env) :: starEach [] X.env := by rfl) (hbm : PE X (.Call (.Attribute o "append" p1) [a] [] p2) (tBM X.K "list" rAppend (tVar i) (tCons (tZ X.K fa) tNil))) : QS X H0 (.Expr (.Call (.Attribute o "append" p1) [a] [] p2) pos) (Z.sAppend i fa) := ⟨ZS.ds_append (ho := ho) (ha := ha.p) (hs := hs) (hs1 := hs1) (hbm := hbm)⟩
theorem dl_comp {it : Z.LF} {G : Z.GF} {t : Z.TF} {fe : Z.EF} (hcalm : X.calm = true) (hi : QI X tg iter it) (B : Blk X.N N' n is scope X.env.scope) (hG : ∀ d ρ ρ1, G d ρ = .ok ρ1 → ρ1.length = ρ.length ∧ ∀ i, n ≤ i → ρ1[i]? = ρ[i]?) (hg : ∀ cl C fp s H H0, QG (blk X N' scope cl C fp s H) H0 tg G) (ht : ∀ cl C fp s H, QTst (blk X N' scope cl C fp s H) ifs t) (he : ∀ cl C fp s H, QE (blk X N' scope cl C fp s H) elt fe) (hs : ∀ x, foldedSetIterable iter X.env x = pure x := by intro _; rfl) : QL X (.ListComp elt [⟨tg, iter, ifs, 0⟩] scope pos) (Z.lComp it n is G t fe) := ⟨ZS.dl_comp (hcalm := hcalm) (hi := hi.p) (B := B) (hG := hG) (hg := fun y0 y1 y2 y3 y4 y5 => (hg y0 y1 y2 y3 y4 y5).p) (ht := fun y0 y1 y2 y3 y4 => (ht y0 y1 y2 y3 y4).p) (he := fun y0 y1 y2 y3 y4 => (he y0 y1 y2 y3 y4).p) (hs := hs)⟩
theorem ds_ownC {H0 : Hp} {it : Z.LF} {G : Z.GF} {t : Z.TF} {fe : Z.EF} {i : Nat} {x : Str} {px spos : Pos} (hcalm : X.calm = true) (hN : X.N.Nodup) (hix : X.N[i]? = some x) (hx : Loc X.env.scope x) (hi : QI X tg iter it) (B : Blk X.N N' n is scope X.env.scope) (hG : ∀ d ρ ρ1, G d ρ = .ok ρ1 → ρ1.length = ρ.length ∧ ∀ i, n ≤ i → ρ1[i]? = ρ[i]?) (hg : ∀ cl C fp s H H0, QG (blk X N' scope cl C fp s H) H0 tg G) (ht : ∀ cl C fp s H, QTst (blk X N' scope cl C fp s H) ifs t) (he : ∀ cl C fp s H, QE (blk X N' scope cl C fp s H) elt fe) (hsw : swapsWith (.ListComp elt [⟨tg, iter, ifs, 0⟩] scope pos) (some (.Name x px)) spos.line X.env = pure true := by rfl) (hs : ∀ x, foldedSetIterable iter X.env x = pure x := by intro _; rfl) (hf : X.fn x = true ∨ X.env.scope.names.lookup x = some .local := by first | exact .inl rfl | exact .inr rfl | assumption) : QS X H0 (.Assign [.Name x px] (.ListComp elt [⟨tg, iter, ifs, 0⟩] scope pos) spos) (Z.sOwn i (Z.lComp it n is G t fe)) := ⟨ZS.ds_ownC (hcalm := hcalm) (hN := hN) (hix := hix) (hx := hx) (hi := hi.p) (B := B) (hG := hG) (hg := fun y0 y1 y2 y3 y4 y5 => (hg y0 y1 y2 y3 y4 y5).p) (ht := fun y0 y1 y2 y3 y4 => (ht y0 y1 y2 y3 y4).p) (he := fun y0 y1 y2 y3 y4 => (he y0 y1 y2 y3 y4).p) (hsw := hsw) (hs := hs) (hf := hf)⟩
theorem ds_setC {H0 : Hp} {it : Z.LF} {G : Z.GF} {t : Z.TF} {fe : Z.EF} {i : Nat} {x : Str} {px spos : Pos} (hcalm : X.calm = true) (hN : X.N.Nodup) (hix : X.N[i]? = some x) (hx : Loc X.env.scope x) (hi : QI X tg iter it) (B : Blk X.N N' n is scope X.env.scope) (hG : ∀ d ρ ρ1, G d ρ = .ok ρ1 → ρ1.length = ρ.length ∧ ∀ i, n ≤ i → ρ1[i]? = ρ[i]?) (hg : ∀ cl C fp s H H0, QG (blk X N' scope cl C fp s H) H0 tg G) (ht : ∀ cl C fp s H, QTst (blk X N' scope cl C fp s H) ifs t) (he : ∀ cl C fp s H, QE (blk X N' scope cl C fp s H) elt fe) (hsw : swapsWith (.ListComp elt [⟨tg, iter, ifs, 0⟩] scope pos) (some (.Name x px)) spos.line X.env = pure true := by rfl) (hs : ∀ x, foldedSetIterable iter X.env x = pure x := by intro _; rfl) (hf : X.fn x = true ∨ X.env.scope.names.lookup x = some .local := by first | exact .inl rfl | exact .inr rfl | assumption) : QS X H0 (.Assign [.Name x px] (.ListComp elt [⟨tg, iter, ifs, 0⟩] scope pos) spos) (Z.sSet i (Z.eL (Z.lComp it n is G t fe))) := ⟨ZS.ds_setC (hcalm := hcalm) (hN := hN) (hix := hix) (hx := hx) (hi := hi.p) (B := B) (hG := hG) (hg := fun y0 y1 y2 y3 y4 y5 => (hg y0 y1 y2 y3 y4 y5).p) (ht := fun y0 y1 y2 y3 y4 => (ht y0 y1 y2 y3 y4).p) (he := fun y0 y1 y2 y3 y4 => (he y0 y1 y2 y3 y4).p) (hsw := hsw) (hs := hs) (hf := hf)⟩
theorem tst_no  : QTst X [] Z.tTrue := ⟨ZS.tst_no ⟩
theorem tst_one {c : Expr} {t : Z.TF} (h : QT X c t) : QTst X [c] t := ⟨ZS.tst_one (h := h.p)⟩
theorem calQ {P : Program} {w : World} {K : PySem.W.Frag} {mg : Str → Option Value} {base : Heap} {x : Str} {k : Nat} {st : Stmt} {N ps : List Str} {b : Z.SF} (d : ZS.Def K mg x st ps) (S : FnScope N ps (defScope st))
    (hb : ∀ (f : Addr) (cdv : Value) (A : Around) (outer : List PySem.Env) (s : Shared) (H : Hp) (E : XK), Room k (A.deeper (envOfC x (defScope st) s.heap.objs.size f cdv)) →
      QSs (cxOf CX0 P w K mg base N x (defScope st) f cdv A outer s H E).nox H (defBody st) b) : ZS.Cal P w K mg base x (k + 1) ps (Z.fn ps.length N.length b) :=
  ZS.Cal.mk' d S fun f cdv A outer s H E hr => (hb f cdv A outer s H E hr).p
theorem fnQ {P : Program} {w : World} {K : PySem.W.Frag} {mg : Str → Option Value} {base : Heap} {x qual : Str} {st : Stmt} {f : Addr} {fd : FuncData} {N ps : List Str} {k : Nat} {b : Z.SF} (F : Fun K x qual st f fd) (S : FnScope N ps (defScope st))
    (hb : ∀ (cdv : Value) (A : Around) (outer : List PySem.Env) (s : Shared) (H : Hp) (E : XK), Room k (A.deeper (envOfC qual (defScope st) s.heap.objs.size f cdv)) →
      QSs (cxOf CX0 P w K mg base N qual (defScope st) f cdv A outer s H E).nox H (defBody st) b) : FnOk P w K mg base CX0 (k + 1) f fd ps (ZS.spZ K (Z.fn ps.length N.length b)) :=
  ZS.fnZ F S fun cdv A outer s H E hr => (hb cdv A outer s H E hr).p
end
end ZQ
noncomputable section
namespace Z
def oTuple : D → Res D
  | .lst xs => .ok (.tup xs)
  | .tup xs => .ok (.tup xs)
  | _ => .bad
@[simp] theorem oTuple_lst (xs : List D) : oTuple (.lst xs) = .ok (.tup xs) := rfl
@[simp] theorem oTuple_tup (xs : List D) : oTuple (.tup xs) = .ok (.tup xs) := rfl
def oInRng : D → D → Res D
  | .int i, .int j => .ok (.bl (decide (0 ≤ i ∧ i < j)))
  | _, _ => .bad
@[simp] theorem oInRng_int (i j : Int) : oInRng (.int i) (.int j) = .ok (.bl (decide (0 ≤ i ∧ i < j))) := rfl
def oNotInRng : D → D → Res D
  | .int i, .int j => .ok (.bl (!decide (0 ≤ i ∧ i < j)))
  | _, _ => .bad
@[simp] theorem oNotInRng_int (i j : Int) : oNotInRng (.int i) (.int j) = .ok (.bl (!decide (0 ≤ i ∧ i < j))) := rfl
def letters : List Nat := [97, 98, 99, 100, 101, 102, 103, 104, 105, 106, 107, 108, 109, 110, 111, 112, 113, 114, 115, 116, 117, 118, 119, 120, 121, 122]
def signs : List Nat := [46, 61, 35, 97, 98, 99, 100, 101, 102, 103, 104, 105, 106, 107, 108, 109, 110, 111, 112, 113, 114, 115, 116, 117, 118, 119, 120, 121, 122]
def oMax : D → D → Res D
  | .int i, .int j => .ok (.int (max i j))
  | _, _ => .bad
@[simp] theorem oMax_int (i j : Int) : oMax (.int i) (.int j) = .ok (.int (max i j)) := rfl
def oMin : D → D → Res D
  | .int i, .int j => .ok (.int (min i j))
  | _, _ => .bad
@[simp] theorem oMin_int (i j : Int) : oMin (.int i) (.int j) = .ok (.int (min i j)) := rfl
def oInt : D → Res D
  | .int i => .ok (.int i)
  | .bl b => .ok (.int (if b then 1 else 0))
  | _ => .bad
@[simp] theorem oInt_int (i : Int) : oInt (.int i) = .ok (.int i) := rfl
@[simp] theorem oInt_bl (b : Bool) : oInt (.bl b) = .ok (.int (if b then 1 else 0)) := rfl
def lOf (a : EF) (ρ : Env) : Res (List D) := (a ρ).bind fun x => match x with
  | .lst xs => .ok xs
  | .tup xs => .ok xs
  | _ => .bad
def listK : D → Res (List D)
  | .lst xs => .ok xs
  | .tup xs => .ok xs
  | _ => .bad
@[simp] theorem lOf_a (a : EF) (ρ : Env) : lOf a ρ = (a ρ).bind listK := rfl
@[simp] theorem listK_lst (xs : List D) : listK (.lst xs) = .ok xs := rfl
@[simp] theorem listK_tup (xs : List D) : listK (.tup xs) = .ok xs := rfl
def cntEq (x : D) : List D → Option Nat
  | [] => some 0
  | y :: r => match eqD y x, cntEq x r with
    | some a, some b => some (b + (if a then 1 else 0))
    | _, _ => none
def oCount : D → D → Res D
  | .lst ys, x => match cntEq x ys with
    | some n => .ok (.int n)
    | none => .bad
  | _, _ => .bad
def sumD : List D → Option Int
  | [] => some 0
  | .int i :: r => (sumD r).map (i + ·)
  | _ :: _ => none
def oSum : D → Res D
  | .lst xs => match sumD xs with
    | some i => .ok (.int i)
    | none => .bad
  | _ => .bad
def sExt (i : Nat) (l : LF) (ρ : Env) : Res Fl := (l ρ).bind fun ys => match ρ[i]? with
  | some (some (.own xs)) => guard (xs.length + ys.length ≤ line) (.ok (.nx (ρ.set i (some (.own (xs ++ ys))))))
  | _ => .bad
def pair (a b : D) : D := .tup [a, b]
def enumD (k : Nat) : List D → List D
  | [] => []
  | d :: ds => pair (.int k) d :: enumD (k + 1) ds
def zipD : List D → List D → List D
  | a :: as, b :: bs => pair a b :: zipD as bs
  | _, _ => []
def iEnum (a : EF) (ρ : Env) : Res (List D) := (a ρ).bind fun x => (iterD x).bind fun ds => .ok (enumD 0 ds)
@[simp] theorem iEnum_a (a : EF) (ρ : Env) : iEnum a ρ = (a ρ).bind fun x => (iterD x).bind fun ds => .ok (enumD 0 ds) := rfl
def seqD : D → Res (List D)
  | .tup xs => .ok xs
  | .lst xs => .ok xs
  | _ => .bad
@[simp] theorem seqD_tup (xs : List D) : seqD (.tup xs) = .ok xs := rfl
@[simp] theorem seqD_lst (xs : List D) : seqD (.lst xs) = .ok xs := rfl
def tupD : D → Res (List D)
  | .tup xs => .ok xs
  | _ => .bad
@[simp] theorem tupD_tup (xs : List D) : tupD (.tup xs) = .ok xs := rfl
def iZip (a b : EF) (ρ : Env) : Res (List D) := (a ρ).bind fun x => (b ρ).bind fun y => (seqD x).bind fun xs => (tupD y).bind fun ys => .ok (zipD xs ys)
@[simp] theorem iZip_a (a b : EF) (ρ : Env) : iZip a b ρ = (a ρ).bind fun x => (b ρ).bind fun y => (seqD x).bind fun xs => (tupD y).bind fun ys => .ok (zipD xs ys) := rfl
end Z
end
set_option Elab.async false
set_option linter.all false
set_option maxHeartbeats 4000000
set_option maxRecDepth 100000
namespace ZS
open PySem PySem.Spec PyProof.Rows L2
section
variable {X : Cx} {e a b : Expr} {es : List Expr} {pos p : Pos} {f fa fb : Z.EF}
theorem de_tuple {x : Str} {p1 : Pos} (hg : Gl X x) (hm : X.mg x = none) (hv : bootBuiltins x = some (.type "tuple")) (ha : DW X a fa) (hn : x ≠ "__name__" := by decide +kernel) (hdb : (x == ("__debug__" : Str)) = false := by decide +kernel)
    (he : starEach (a :: []) X.env = (false, eval a X.env) :: starEach [] X.env := by rfl) (hpl : (backTo pos (starEach [] X.env)).any (·.1) = false := by rfl) : DE X (.Call (.Name x p1) [a] [] pos) (Z.eU Z.oTuple fa) :=
  PE.imp (pe_callTy call_tuple_of hg hm hv (pa_cons ha pa_nil he) hn hdb he hpl) fun σ H Q ⟨ρ, d, r, e, k⟩ => by
    obtain ⟨x, ea, e⟩ := Z.Res.bind_ok e
    refine ⟨ρ, x, r, ea, fun v H1 s1 d1 => ?_⟩
    unfold Z.oTuple at e
    split at e
    · cases e
      obtain ⟨q, vs, rfl, hq, t⟩ := d1.lst
      refine ⟨q, vs, rfl, .inl ⟨hq, fun l hl => ?_⟩⟩
      have s2 : Same H1 (upd H1 l (.tup vs)) := upd_Same hl
      exact k _ _ (s1.trans s2) (den_tup (.inl (.inl upd_same)) (t.up s2))
    · cases e
      obtain ⟨q, vs, rfl, hq, t⟩ := d1.tup
      exact ⟨q, vs, rfl, .inr ⟨hq, k _ H1 s1 (den_tup hq t)⟩⟩
    · cases e
end
end ZS
set_option Elab.async false
set_option linter.all false
set_option maxHeartbeats 4000000
namespace ZQ
open PySem PySem.Spec PyProof.Rows L2 ZS
section
variable {X : Cx} {tg e a b c : Expr} {es : List Expr} {pos p : Pos} {f fa fb fc : Z.EF} {H0 : Hp}
theorem de_tuple {x : Str} {p1 : Pos} (hg : Gl X x) (hm : X.mg x = none) (hv : bootBuiltins x = some (.type "tuple")) (ha : QW X a fa) (hn : x ≠ "__name__" := by decide +kernel) (hdb : (x == ("__debug__" : Str)) = false := by decide +kernel) (he : starEach (a :: []) X.env = (false, eval a X.env) :: starEach [] X.env := by rfl) (hpl : (backTo pos (starEach [] X.env)).any (·.1) = false := by rfl) : QE X (.Call (.Name x p1) [a] [] pos) (Z.eU Z.oTuple fa) := ⟨ZS.de_tuple (hg := hg) (hm := hm) (hv := hv) (ha := ha.p) (hn := hn) (hdb := hdb) (he := he) (hpl := hpl)⟩
theorem ds_app {i : Nat} {o : Expr} {p1 p2 : Pos} (ho : PE X o (tVar i)) (ha : QE X a fa) (hs : swapsWith (.Call (.Attribute o "append" p1) [a] [] p2) none pos.line X.env = pure false := by rfl) (hs1 : starEach (a :: []) X.env = (false, eval a X.env) :: starEach [] X.env := by rfl)
    (hbase : attributeBase o "append" X.env (eval o X.env) = eval o X.env := by rfl)
    (hfew : ((backTo p2 (starEach (a :: []) X.env)).all (fun x => !x.1) && (backToKw p2 (keywordEach [] X.env)).all (fun x => x.1.isSome)
      && decide ((a :: []).length + ([] : List Keyword).length + (if ([] : List Keyword).isEmpty then 0 else 1) < 30)) = true := by rfl)
    (hline : (p1.endLine == p2.line) = true := by rfl) (hplain : (backTo p2 (starEach [] X.env)).any (·.1) = false := by rfl) :
    QS X H0 (.Expr (.Call (.Attribute o "append" p1) [a] [] p2) pos) (Z.sAppend i fa) :=
  ⟨ZS.ds_append ho ha.p hs hs1 (pe_bm PySem.F.plainAttrs_list PySem.F.slot_list_append PySem.F.type_list_append mt_append ho (pa_cons ha.p pa_nil hs1) hbase hfew hline hs1 hplain)⟩
end
end ZQ
set_option Elab.async false
set_option linter.all false
set_option maxHeartbeats 4000000
set_option maxRecDepth 100000
namespace ZS
open PySem PySem.Spec PyProof.Rows L2
section
variable {X : Cx} {e a b : Expr} {es : List Expr} {pos p : Pos} {f fa fb : Z.EF}
def rCount (K : PySem.W.Frag) : V → List V → Hp → VK → Prop := fun x vs H Q => ∃ d ys q us v k, x = .ref q ∧ vs = [v] ∧ SqL K H q us ∧ Dens K H ys us ∧ DenW K H d v ∧ Z.cntEq d ys = some k ∧ Q (.int k) H
theorem sumD_ok : ∀ {xs : List Z.D} {k : Int}, Z.sumD xs = some k → ∃ ns : List Int, xs = ns.map Z.D.int ∧ k = ns.sum
  | [], k, h => by cases h; exact ⟨[], rfl, rfl⟩
  | x :: xs, k, h => by
    cases x with
    | int b =>
      have h' : (Z.sumD xs).map (b + ·) = some k := h
      cases q : Z.sumD xs with
      | none => rw [q] at h'; cases h'
      | some k' =>
        rw [q] at h'
        cases h'
        obtain ⟨bs, rfl, rfl⟩ := sumD_ok q
        exact ⟨b :: bs, rfl, rfl⟩
    | non => cases h
    | bl _ => cases h
    | str _ => cases h
    | tup _ => cases h
    | lst _ => cases h
    | dct _ _ => cases h
theorem dens_ints {K : PySem.W.Frag} {H : Hp} : ∀ {ns : List Int} {vs : List V}, Dens K H (ns.map Z.D.int) vs → vs = ns.map V.int
  | [], vs, h => by simp only [List.map_nil, Dens] at h; subst h; rfl
  | b :: bs, vs, h => by
    simp only [List.map_cons, Dens] at h
    obtain ⟨v, r, rfl, hv, ht⟩ := h
    simp only [Den] at hv
    rw [hv, dens_ints ht]; rfl
theorem pre_sum (ns : List Int) : preSum (fun i => ns[i]?.getD 0) ns.length = ns.sum := by
  have key : ∀ k, k ≤ ns.length → preSum (fun i => ns[i]?.getD 0) k = (ns.take k).sum := by
    intro k
    induction k with
    | zero => intro _; simp [preSum]
    | succ k ih =>
      intro hk
      have e : preSum (fun i => ns[i]?.getD 0) (k + 1) = preSum (fun i => ns[i]?.getD 0) k + ns[k]?.getD 0 := rfl
      have hsum : ∀ (xs ys : List Int), (xs ++ ys).sum = xs.sum + ys.sum := fun xs ys => by
        induction xs with
        | nil => simp
        | cons x xs ih => simp only [List.cons_append, List.sum_cons, ih]; omega
      rw [e, ih (by omega), List.take_add_one, hsum, List.getElem?_eq_getElem (show k < ns.length by omega)]
      simp
  have := key ns.length (Nat.le_refl _)
  rwa [List.take_length] at this
theorem call_sumZ (hc : X.calm = true) : CallR X (.builtin "sum") (fun xs H Q => ∃ (q : Addr) (ns : List Int), xs = [.ref q] ∧ SqL X.K H q (ns.map V.int) ∧ Q (.int ns.sum) H) := by
  intro pins s σ H xs us Q I r h
  obtain ⟨q, ns, rfl, hq, k⟩ := h
  obtain ⟨u, rfl, ru⟩ := vals1 r
  cases ru
  obtain ⟨its, rv, pl, hz⟩ := I.list hq
  have hl := rv.length
  rw [List.length_map] at hl
  have hlt : q < s.heap.objs.size := by obtain ⟨_, e, _⟩ := pl.isList; exact Heap.lt_size e
  have hh : X.A.in1.handled = none := I.ok.hd hc
  refine call_sum_walkG (wpAny_pyIter_list pl.isList ?_)
  refine ⟨s.heap.objs.size, [s.heap.objs.size, q], [s.heap.objs.size], its.toArray.size, _, _, fun i => ns[i]?.getD 0, rfl, Walks.list hh s.heap.objs.size q (Nat.ne_of_lt hlt) its.toArray, ⟨⟨_, Heap.get?_push_size _ rfl, rfl, rfl⟩, pl.isList.push _⟩, ?_, ?_, fun h' tk t' hk => ?_⟩
  · intro b hb
    show b < (s.heap.push _).objs.size
    rw [Heap.size_push]
    rcases List.mem_cons.mp hb with rfl | hb
    · exact Nat.lt_succ_self _
    · rw [List.mem_singleton.mp hb]; exact Nat.lt_succ_of_lt hlt
  · intro i v hv
    have hi : its[i]? = some v := by simpa using hv
    obtain ⟨hi1, _⟩ := List.getElem?_eq_some_iff.mp hi
    have hb : (ns.map V.int)[i]? = some (V.int (ns[i]'(by omega))) := by
      rw [List.getElem?_map, List.getElem?_eq_getElem (by omega)]; rfl
    obtain ⟨u, hu, ru⟩ := rv.get hb
    rw [hi] at hu; cases hu
    obtain ⟨t, rfl⟩ := ru
    exact ⟨t, by show Value.int _ t = Value.int (ns[i]?.getD 0) t; rw [List.getElem?_eq_getElem (by omega)]; rfl⟩
  · have I1 : Inv X pins σ H { s with heap := s.heap.push { cls := .type "list_iterator", data := .fields #[.ref q, .int 0 0] } } := I.kept (t' := s.toks) fun b o e => Heap.get?_push_of_some _ e
    obtain ⟨f0, f1, f2, f3, f4, f5⟩ := I.fpOk (H' := H) (Nat.le_refl s.heap.objs.size) I.fresh
    have I2 := I1.turned (h' := h') (t' := tk) (it := s.heap.objs.size) (fun b o hb e => hk b o (by simpa using hb) e) f0 f1 f3 f4 f5
    refine ⟨.int _, H, I2, ⟨t', rfl⟩, ?_⟩
    rw [List.size_toArray, ← hl, pre_sum]
    exact k
theorem de_sum {x : Str} {p1 : Pos} (hg : Gl X x) (hm : X.mg x = none) (hv : bootBuiltins x = some (.builtin "sum")) (ha : DW X a fa) (hc : X.calm = true := by rfl) (hn : x ≠ "__name__" := by decide +kernel) (hdb : (x == ("__debug__" : Str)) = false := by decide +kernel)
    (he : starEach (a :: []) X.env = (false, eval a X.env) :: starEach [] X.env := by rfl) (hpl : (backTo pos (starEach [] X.env)).any (·.1) = false := by rfl) : DE X (.Call (.Name x p1) [a] [] pos) (Z.eU Z.oSum fa) :=
  PE.imp (pe_callB (call_sumZ hc) hg hm hv (pa_cons ha pa_nil he) hn hdb he hpl) fun σ H Q ⟨ρ, d, r, e, k⟩ => by
    obtain ⟨x, ea, e⟩ := Z.Res.bind_ok e
    refine ⟨ρ, x, r, ea, fun v H1 s1 d1 => ?_⟩
    unfold Z.oSum at e
    split at e
    · split at e
      · rename_i xs k' hk
        cases e
        obtain ⟨bs, rfl, rfl⟩ := sumD_ok hk
        obtain ⟨q, vs, rfl, hq, t⟩ := d1.lst
        rw [dens_ints t] at hq
        exact ⟨q, bs, rfl, hq, k _ H1 s1 den_int⟩
      · cases e
    · cases e
end
end ZS
set_option Elab.async false
set_option linter.all false
set_option maxHeartbeats 4000000
namespace ZQ
open PySem PySem.Spec PyProof.Rows L2 ZS
section
variable {X : Cx} {tg e a b c : Expr} {es : List Expr} {pos p : Pos} {f fa fb fc : Z.EF} {H0 : Hp}
theorem de_sum {x : Str} {p1 : Pos} (hg : Gl X x) (hm : X.mg x = none) (hv : bootBuiltins x = some (.builtin "sum")) (ha : QW X a fa) (hc : X.calm = true := by rfl) (hn : x ≠ "__name__" := by decide +kernel) (hdb : (x == ("__debug__" : Str)) = false := by decide +kernel) (he : starEach (a :: []) X.env = (false, eval a X.env) :: starEach [] X.env := by rfl) (hpl : (backTo pos (starEach [] X.env)).any (·.1) = false := by rfl) : QE X (.Call (.Name x p1) [a] [] pos) (Z.eU Z.oSum fa) := ⟨ZS.de_sum (hg := hg) (hm := hm) (hv := hv) (ha := ha.p) (hc := hc) (hn := hn) (hdb := hdb) (he := he) (hpl := hpl)⟩
end
end ZQ
set_option Elab.async false
set_option linter.all false
set_option maxHeartbeats 4000000
namespace ZS
open PySem PySem.Spec PyProof.Rows L2 PySem.W
theorem weight_ints {i : Int} : ∀ {ns : List Int}, i ∈ ns → WData.weight (.int i) ≤ WData.weightAll (ns.map WData.int)
  | [], h => by cases h
  | n :: ns, h => by
    rcases List.mem_cons.mp h with rfl | h
    · simp only [List.map_cons, WData.weightAll]; omega
    · have := weight_ints h
      simp only [List.map_cons, WData.weightAll]; omega
theorem bits_script {ns : List Int} (h : WData.layableAll [WData.list (ns.map WData.int)] = true) : ∀ i ∈ ns, Z.bits i ≤ 2 ^ 20 := by
  intro i hi
  have h1 : WData.layable (.list (ns.map WData.int)) = true := List.all_eq_true.mp h _ List.mem_cons_self
  unfold WData.layable at h1
  rw [Bool.and_eq_true] at h1
  have h2 : WData.weight (.list (ns.map WData.int)) ≤ 2 ^ 20 := of_decide_eq_true h1.2
  have h3 : WData.weight (.list (ns.map WData.int)) = WData.weightAll (ns.map WData.int) := by simp only [WData.weight]
  have h4 := weight_ints hi
  have h5 : WData.weight (.int i) = Z.bits i := by
    simp only [WData.weight]
    unfold Z.bits
    by_cases hz : i = 0
    · subst hz; rfl
    · rw [if_neg hz, if_neg (by simpa using hz)]
  omega
theorem walk_B {l : OpenLaw} {n k : Nat} {q : Program} {loose : List Str} {XP : (Str → Option Value) → Heap → Prop} {YP : World → Heap → Prop} {d : DefRec} {K : Params → Frag} {m : List Z.D → Z.Res Z.D} {x : Str}
    (hn : l.most = some n) (hn2 : n ≤ sizeLine) (hdf : d.params.defaults = []) (hr : Room k callerA)
    (hY : ∀ (w : World) (h : Heap), YP w h → (K w.params).In h)
    (F : ∀ (w : World) (mg : Str → Option Value) (fa : Addr) (h : Heap), (K w.params).In h → h.Ns mainGlobals mg → mg d.name = some (.ref fa) →
      ∃ fd : FuncData, (∀ (s : Shared) (u : Value), BindsTo s fd ⟨[u], []⟩ [(x, u)]) ∧
        ∀ base : Heap, (K w.params).In base → base.Ns mainGlobals mg → FnOk l.prog w (K w.params) mg base CX0 k fa fd [x] (spZ (K w.params) m))
    (hold : ∀ ns : List Int, ns.length ≤ n → (∀ i ∈ ns, Z.bits i ≤ 2 ^ 20) → m [.lst (ns.map .int)] = .ok (.bl true)) :
    WalkO q loose XP YP l.row.toRowW d [] (fun f vs => PySem.call f vs) := by
  intro w s₀ s₁ mg mb G Y fa o pm cd doc dV kV ho hd hcd hD hmg hg args vals as hpre hlay hrd hwl hlo
  cases Dflts.none hD hdf
  cases Dflts.noKw hD
  obtain ⟨a, vs, ns, rfl, rfl, hobj, hints, hlen⟩ := Att.script_of hn hpre hwl
  have KX := hY w _ Y
  obtain ⟨fd, hb, hF⟩ := F w mg fa _ KX G.T.g hmg
  have C := law_call KX G.T.g G.T.b G.T.builtins G.T.nolimit hg hobj hints (Nat.le_trans hlen hn2) hr hF hb (fun H hO hS => law_sp hO hS (hold ns hlen (bits_script hlay))) fun H e s' z => z
  refine enter_call (codeAny_mono C fun r s' hq => ?_)
  obtain ⟨rfl, h2, h3, h4⟩ := hq
  exact ⟨.inl ⟨.bool true, .bool true, [], rfl, fun _ => rfl, .bool true, Att.post_true l _, fun _ => ⟨List.Pairwise.nil, fun _ hm => (nomatch hm)⟩⟩, h2, h3, h4⟩
end ZS
noncomputable section
namespace Z
def oRep : D → D → Res D
  | .str [c], .int n => guard (0 ≤ n ∧ n ≤ 16777216) (.ok (.str (List.replicate n.toNat c)))
  | _, _ => .bad
end Z
end
noncomputable section
namespace Z
def intsD (hi : Int) (n : Nat) : List D := (List.range n).map fun i => D.int (hi - (i : Nat))
def downD : D → D → D → Res (List D)
  | .int i, .int j, .int k => guard (k = -1 ∧ -1000000000 ≤ i ∧ i ≤ 1000000000 ∧ -1000000000 ≤ j ∧ j ≤ 1000000000) (.ok (intsD i (i - j).toNat))
  | _, _, _ => .bad
def iRngD (a b c : EF) (ρ : Env) : Res (List D) := (a ρ).bind fun x => (b ρ).bind fun y => (c ρ).bind fun z => downD x y z
@[simp] theorem iRngD_a (a b c : EF) (ρ : Env) : iRngD a b c ρ = (a ρ).bind fun x => (b ρ).bind fun y => (c ρ).bind fun z => downD x y z := rfl
def repK : D → D → Res (List D)
  | .lst [d], .int n => guard (0 ≤ n ∧ n ≤ 16777216) (.ok (List.replicate n.toNat d))
  | _, _ => .bad
def lRep (a : LF) (b : EF) (ρ : Env) : Res (List D) := (a ρ).bind fun xs => (b ρ).bind fun y => repK (.lst xs) y
@[simp] theorem lRep_a (a : LF) (b : EF) (ρ : Env) : lRep a b ρ = (a ρ).bind fun xs => (b ρ).bind fun y => repK (.lst xs) y := rfl
def oNotT : D → Res D
  | .bl b => .ok (.bl (!b))
  | _ => .bad
@[simp] theorem oNotT_bl (b : Bool) : oNotT (.bl b) = .ok (.bl (!b)) := rfl
end Z
end
noncomputable section
namespace Z
def textsD : List D → Option (List (List Nat))
  | [] => some []
  | .str c :: r => (textsD r).map (c :: ·)
  | _ :: _ => none
def gluedC (sep : List Nat) : List (List Nat) → List Nat
  | [] => []
  | [x] => x
  | x :: y :: r => x ++ sep ++ gluedC sep (y :: r)
def oJoin : D → D → Res D
  | .str sep, .lst xs => match textsD xs with
    | some ts => guard ((ts.map List.length).sum + ts.length * sep.length ≤ line) (.ok (.str (gluedC sep ts)))
    | none => .bad
  | _, _ => .bad
def oCntS : D → D → Res D
  | .str t, .str [c] => .ok (.int (t.count c))
  | _, _ => .bad
@[simp] theorem oCntS_a (t : List Nat) (c : Nat) : oCntS (.str t) (.str [c]) = .ok (.int (t.count c)) := rfl
theorem oCntS_ok {x y d : D} (h : oCntS x y = .ok d) : ∃ t c, x = .str t ∧ y = .str [c] ∧ d = .int (t.count c) := by
  unfold oCntS at h
  split at h
  · cases h; exact ⟨_, _, rfl, rfl, rfl⟩
  · cases h
def oRev : D → Res D
  | .tup xs => .ok (.tup xs.reverse)
  | .str cs => guard (cs.length ≤ line) (.ok (.str cs.reverse))
  | _ => .bad
@[simp] theorem oRev_tup (xs : List D) : oRev (.tup xs) = .ok (.tup xs.reverse) := rfl
@[simp] theorem oRev_str (cs : List Nat) : oRev (.str cs) = guard (cs.length ≤ line) (.ok (.str cs.reverse)) := rfl
def gSeq (is : List Nat) (d : D) (ρ : Env) : Res Env := match d with
  | .tup ds => gNames is ds ρ
  | .lst ds => gNames is ds ρ
  | _ => .bad
end Z
end
noncomputable section
namespace Z
def sBad (_ : Env) : Res Fl := .bad
@[simp] theorem sBad_a (ρ : Env) : sBad ρ = .bad := rfl
def eBad (_ : Env) : Res D := .bad
@[simp] theorem eBad_a (ρ : Env) : eBad ρ = .bad := rfl
def oRepT : D → D → Res D
  | .tup [d], .int n => guard (0 ≤ n ∧ n ≤ 1000000) (.ok (.tup (List.replicate n.toNat d)))
  | _, _ => .bad
def withN (f : List D → Res D) (ds : List D) : Res D := f (ds ++ [.non])
@[simp] theorem withN_a (f : List D → Res D) (ds : List D) : withN f ds = f (ds ++ [.non]) := rfl
end Z
end
noncomputable section
namespace Z
def cutC (c : Nat) : List Nat → List (List Nat)
  | [] => [[]]
  | x :: r => if x = c then [] :: cutC c r else match cutC c r with
    | [] => [[x]]
    | p :: ps => (x :: p) :: ps
def splK : D → D → Res (List D)
  | .str cs, .str [c] => guard (cs.length + 2 ≤ line) (.ok ((cutC c cs).map .str))
  | _, _ => .bad
def lSplit (a b : EF) (ρ : Env) : Res (List D) := (a ρ).bind fun x => (b ρ).bind fun y => splK x y
def oJoinT : D → D → Res D
  | .str sep, .tup xs => oJoin (.str sep) (.lst xs)
  | _, _ => .bad
def tlD : D → D → Res (List D)
  | .tup xs, .lst ys => .ok (zipD xs ys)
  | _, _ => .bad
def iZipL (a b : EF) (ρ : Env) : Res (List D) := (a ρ).bind fun x => (b ρ).bind fun y => tlD x y
@[simp] theorem iZipL_a (a b : EF) (ρ : Env) : iZipL a b ρ = (a ρ).bind fun x => (b ρ).bind fun y => tlD x y := rfl
@[simp] theorem tlD_a (xs ys : List D) : tlD (.tup xs) (.lst ys) = .ok (zipD xs ys) := rfl
@[simp] theorem lSplit_a (a b : EF) (ρ : Env) : lSplit a b ρ = (a ρ).bind fun x => (b ρ).bind fun y => splK x y := rfl
end Z
end
noncomputable section
namespace Z
def signsD (cs : List Nat) : List D := cs.map fun c => .str [c]
def lsK : D → Res (List D)
  | .str cs => guard (cs.length ≤ line) (.ok (signsD cs))
  | _ => .bad
def lOfS (a : EF) (ρ : Env) : Res (List D) := (a ρ).bind lsK
@[simp] theorem lOfS_a (a : EF) (ρ : Env) : lOfS a ρ = (a ρ).bind lsK := rfl
@[simp] theorem lsK_a (cs : List Nat) : lsK (.str cs) = guard (cs.length ≤ line) (.ok (signsD cs)) := rfl
theorem lsK_ok {x : D} {ds : List D} (h : lsK x = .ok ds) : ∃ cs, x = .str cs ∧ cs.length ≤ line ∧ ds = signsD cs := by
  unfold lsK at h
  split at h
  · obtain ⟨h1, e⟩ := guard_ok h
    cases e
    exact ⟨_, rfl, h1, rfl⟩
  · cases h
def oTupS (x : D) : Res D := (lsK x).map D.tup
@[simp] theorem oTupS_a (cs : List Nat) : oTupS (.str cs) = guard (cs.length ≤ line) (.ok (.tup (signsD cs))) := by
  unfold oTupS
  rw [lsK_a]
  unfold guard
  split <;> rfl
def oTwice : D → D → Res D
  | .str cs, .int 2 => guard (1 ≤ cs.length ∧ cs.length ≤ 1000000) (.ok (.str (cs ++ cs)))
  | _, _ => .bad
end Z
end
noncomputable section
namespace Z
def rvK : D → Res (List D)
  | .tup xs => .ok xs.reverse
  | .lst xs => .ok xs.reverse
  | _ => .bad
def lRevd (a : EF) (ρ : Env) : Res (List D) := (a ρ).bind rvK
@[simp] theorem lRevd_a (a : EF) (ρ : Env) : lRevd a ρ = (a ρ).bind rvK := rfl
@[simp] theorem rvK_tup (xs : List D) : rvK (.tup xs) = .ok xs.reverse := rfl
@[simp] theorem rvK_lst (xs : List D) : rvK (.lst xs) = .ok xs.reverse := rfl
end Z
end
noncomputable section
namespace Z
def zbK (x : D) : Option (Option L) → Res (List D)
  | some (some (.bor ys)) => match x with
    | .tup xs => .ok (zipD xs ys)
    | _ => .bad
  | some (some (.val (.tup ys))) => match x with
    | .tup xs => .ok (zipD xs ys)
    | _ => .bad
  | _ => .bad
def iZipB (a : EF) (i : Nat) (ρ : Env) : Res (List D) := (a ρ).bind fun x => zbK x ρ[i]?
@[simp] theorem iZipB_a (a : EF) (i : Nat) (ρ : Env) : iZipB a i ρ = (a ρ).bind fun x => zbK x ρ[i]? := rfl
@[simp] theorem zbK_bor (xs ys : List D) : zbK (.tup xs) (some (some (.bor ys))) = .ok (zipD xs ys) := rfl
@[simp] theorem zbK_tup (xs ys : List D) : zbK (.tup xs) (some (some (.val (.tup ys)))) = .ok (zipD xs ys) := rfl
theorem zbK_ok {x : D} {o : Option (Option L)} {ds : List D} (h : zbK x o = .ok ds) : ∃ xs ys, x = .tup xs ∧ (o = some (some (.bor ys)) ∨ o = some (some (.val (.tup ys)))) ∧ ds = zipD xs ys := by
  unfold zbK at h
  split at h
  · split at h
    · cases h; exact ⟨_, _, rfl, .inl rfl, rfl⟩
    · cases h
  · split at h
    · cases h; exact ⟨_, _, rfl, .inr rfl, rfl⟩
    · cases h
  · cases h
end Z
end
noncomputable section
namespace Z
def intsOf : List D → Option (List Int)
  | [] => some []
  | d :: r => match d, intsOf r with
    | .int i, some is => some (i :: is)
    | _, _ => none
def keyOf : D → Option (List Int)
  | .tup ds => intsOf ds
  | _ => none
def putD (ks : List (List Int)) (k : List Int) : List (List Int) := if k ∈ ks then ks else ks ++ [k]
def sDic (i : Nat) (ρ : Env) : Res Fl := .ok (.nx (ρ.set i (some (.dic []))))
def dputK (i : Nat) (ρ : Env) (k : Option (List Int)) (o : Option (Option L)) : Res Fl := match k, o with
  | some k, some (some (.dic ks)) => guard (ks.length < line) (.ok (.nx (ρ.set i (some (.dic (putD ks k))))))
  | _, _ => .bad
def sDPut (i : Nat) (e : EF) (ρ : Env) : Res Fl := (e ρ).bind fun d => dputK i ρ (keyOf d) ρ[i]?
def dfrzK (i : Nat) (ρ : Env) (o : Option (Option L)) : Env := match o with
  | some (some (.dic ks)) => ρ.set i (some (.fdc ks))
  | _ => ρ
def sDFrz (i : Nat) (a : SF) (ρ : Env) : Res Fl := a (dfrzK i ρ ρ[i]?)
def dinK (k : Option (List Int)) (o : Option (Option L)) : Res Bool := match k, o with
  | some k, some (some (.fdc ks)) => .ok (decide (k ∈ ks))
  | _, _ => .bad
def tInD (e : EF) (i : Nat) (ρ : Env) : Res Bool := (e ρ).bind fun d => dinK (keyOf d) ρ[i]?
def tNinD (e : EF) (i : Nat) (ρ : Env) : Res Bool := (e ρ).bind fun d => (dinK (keyOf d) ρ[i]?).bind fun b => .ok (!b)
@[simp] theorem sDic_a (i : Nat) (ρ : Env) : sDic i ρ = .ok (.nx (ρ.set i (some (.dic [])))) := rfl
@[simp] theorem sDPut_a (i : Nat) (e : EF) (ρ : Env) : sDPut i e ρ = (e ρ).bind fun d => dputK i ρ (keyOf d) ρ[i]? := rfl
@[simp] theorem dputK_a (i : Nat) (ρ : Env) (k : List Int) (ks : List (List Int)) : dputK i ρ (some k) (some (some (.dic ks))) = guard (ks.length < line) (.ok (.nx (ρ.set i (some (.dic (putD ks k)))))) := rfl
@[simp] theorem sDFrz_a (i : Nat) (a : SF) (ρ : Env) : sDFrz i a ρ = a (dfrzK i ρ ρ[i]?) := rfl
@[simp] theorem dfrzK_a (i : Nat) (ρ : Env) (ks : List (List Int)) : dfrzK i ρ (some (some (.dic ks))) = ρ.set i (some (.fdc ks)) := rfl
@[simp] theorem tInD_a (e : EF) (i : Nat) (ρ : Env) : tInD e i ρ = (e ρ).bind fun d => dinK (keyOf d) ρ[i]? := rfl
@[simp] theorem tNinD_a (e : EF) (i : Nat) (ρ : Env) : tNinD e i ρ = (e ρ).bind fun d => (dinK (keyOf d) ρ[i]?).bind fun b => .ok (!b) := rfl
@[simp] theorem dinK_a (k : List Int) (ks : List (List Int)) : dinK (some k) (some (some (.fdc ks))) = .ok (decide (k ∈ ks)) := rfl
def lstK : D → Res (List D)
  | .lst xs => .ok xs
  | _ => .bad
def lVal (a : EF) (ρ : Env) : Res (List D) := (a ρ).bind lstK
@[simp] theorem lVal_a (a : EF) (ρ : Env) : lVal a ρ = (a ρ).bind lstK := rfl
@[simp] theorem lstK_a (xs : List D) : lstK (.lst xs) = .ok xs := rfl
end Z
noncomputable section
namespace Z
def pairsOf : List D → Option (List (Int × Int))
  | [] => some []
  | d :: r => match d, pairsOf r with
    | .tup [.int k, .int v], some ps => some ((k, v) :: ps)
    | _, _ => none
def idcK (i : Nat) (ρ : Env) : D → Res Fl
  | .tup ds => match pairsOf ds with
    | some ps => guard ((ps.map (·.1)).Nodup ∧ ps.length ≤ line) (.ok (.nx (ρ.set i (some (.idc ps)))))
    | none => .bad
  | _ => .bad
def sIdc (i : Nat) (e : EF) (ρ : Env) : Res Fl := (e ρ).bind (idcK i ρ)
def igetK (k c : D) (o : Option (Option L)) : Res D := match k, c, o with
  | .int k, .int c, some (some (.idc ps)) => .ok (.int ((ps.lookup k).getD c))
  | _, _, _ => .bad
def eIget (i : Nat) (e f : EF) (ρ : Env) : Res D := (e ρ).bind fun k => (f ρ).bind fun c => igetK k c ρ[i]?
theorem pairsOf_ok : ∀ {ds : List D} {ps : List (Int × Int)}, pairsOf ds = some ps → ds = ps.map fun p => .tup [.int p.1, .int p.2]
  | [], ps, h => by cases h; rfl
  | d :: r, ps, h => by
    unfold pairsOf at h
    split at h
    · rename_i k v qs e
      cases h
      rw [pairsOf_ok e]; rfl
    · cases h
theorem pairsOf_map : ∀ (ps : List (Int × Int)), pairsOf (ps.map fun p => .tup [.int p.1, .int p.2]) = some ps
  | [] => rfl
  | p :: ps => by
    rw [List.map_cons]
    unfold pairsOf
    rw [pairsOf_map ps]
theorem idcK_ok {i : Nat} {ρ : Env} {d : D} {fl : Fl} (h : idcK i ρ d = .ok fl) : ∃ ps : List (Int × Int), d = .tup (ps.map fun p => .tup [.int p.1, .int p.2]) ∧ (ps.map (·.1)).Nodup ∧ ps.length ≤ line ∧ fl = .nx (ρ.set i (some (.idc ps))) := by
  cases d with
  | tup ds =>
    unfold idcK at h
    simp only at h
    split at h
    · rename_i ps e
      obtain ⟨h1, h2⟩ := guard_ok h
      cases h2
      exact ⟨ps, by rw [pairsOf_ok e], h1.1, h1.2, rfl⟩
    · cases h
  | _ => cases h
theorem igetK_ok {k c : D} {o : Option (Option L)} {d : D} (h : igetK k c o = .ok d) : ∃ k' c' ps, k = .int k' ∧ c = .int c' ∧ o = some (some (.idc ps)) ∧ d = .int ((ps.lookup k').getD c') := by
  unfold igetK at h
  split at h
  · rename_i k' c' ps
    cases h
    exact ⟨k', c', ps, rfl, rfl, rfl, rfl⟩
  · cases h
@[simp] theorem sIdc_a (i : Nat) (e : EF) (ρ : Env) : sIdc i e ρ = (e ρ).bind (idcK i ρ) := rfl
@[simp] theorem eIget_a (i : Nat) (e f : EF) (ρ : Env) : eIget i e f ρ = (e ρ).bind fun k => (f ρ).bind fun c => igetK k c ρ[i]? := rfl
@[simp] theorem igetK_a (k c : Int) (ps : List (Int × Int)) : igetK (.int k) (.int c) (some (some (.idc ps))) = .ok (.int ((ps.lookup k).getD c)) := rfl
theorem idcK_a (i : Nat) (ρ : Env) (ps : List (Int × Int)) (h : (ps.map (·.1)).Nodup) (hl : ps.length ≤ line) : idcK i ρ (.tup (ps.map fun p => .tup [.int p.1, .int p.2])) = .ok (.nx (ρ.set i (some (.idc ps)))) := by
  unfold idcK
  simp only [pairsOf_map]
  exact guard_pos ⟨h, hl⟩
end Z
set_option Elab.async false
set_option linter.all false
set_option maxRecDepth 100000
set_option maxHeartbeats 4000000
namespace PySem
theorem keys_miss {prog : Program} {w : World} {A : Around} {E : Value → Shared → Prop} {s : Shared} {a : Addr} {xs : Array Value} {k : Nat} {name : Str} {Q : Option Value → Shared → Prop}
    (hx : s.heap.get? a = some { cls := .type "tuple", data := .seq xs k }) (hmiss : typeLookup (.type "tuple") name = pure none) (hname : (["__module__", "__name__", "__qualname__", "__doc__", "__annotations__"] : List Str).contains name = false) (hA : A.handled = none)
    (h : ∀ h' tk e, Heap.NewExcOf s.heap h' e "AttributeError" → Q none { s with heap := h', toks := tk }) (hsz : name.length + 100 ≤ sizeLine := by size_fits) :
    wpAny (model prog w) A (getAttr? (.ref a) name) Q E s := by
  obtain ⟨hh, gg, dd, kk, oo⟩ := s
  have ty : ∀ z, (⟨hh, gg, dd, z, oo⟩ : Shared).TypeIs (.ref a) "tuple" := fun z => ⟨_, hx, rfl⟩
  have a1 := sub_AttributeError
  have a2 := Slot.lookup F.slot_tuple_getattribute
  have a3 := Slot.bind F.slot_tuple_getattribute (Value.ref a)
  have a4 := am_tuple_getattr_none
  unfold getAttr?
  unfold getAttrBy? getAttrBy
  repeat (any_goals (first | assumption | exact ty _ | ((with_reducible show wpAny _ _ (call (Value.builtin "tuple.__getattribute__") _ _) _ _ _); refine call_meets F.slot_tuple_getattribute (ty _) am_entry_tuple_getattribute (F.args_tuple_getattribute_2 _ _) (meets_getattribute_miss_tuple a xs k #[] name _ hmiss hname hsz) ⟨hx, hA, fun h' tk' e hx' => ?_⟩) | wp_step))
  obtain ⟨m1, m2, here⟩ := hx'.there
  show wpAny (model prog w) A (getattributeRaised _ _ _ _ _ _ _) _ _ _
  unfold getattributeRaised
  repeat any_goals first | assumption | wp_step
  exact h _ _ _ hx'.of
theorem loop_entry : entryFor table "dict.update.loop" = some Builtin.«dict.update.loop» := entryFor_of_tree (by kernel_rfl)
def Kept2 (d it : Addr) (h h' : Heap) : Prop := ∀ b o, b ≠ d → b ≠ it → h.get? b = some o → h'.get? b = some o
section
variable {K : Type} [DecidableEq K] {prog : Program} {w : World} {A : Around} {knd : KeyKind prog w K}
def PairAt (knd : KeyKind prog w K) (h : Heap) (x : Value) (p : K × Value) : Prop := ∃ a o key n, x = .ref a ∧ h.get? a = some o ∧ o.cls = .type "tuple" ∧ o.data = .seq #[key, p.2] n ∧ knd.is p.1 key = true
theorem PairAt.kept {d it : Addr} {h h' : Heap} {x : Value} {p : K × Value} {kvs : List (K × Value)} {t : Addr} {i : Nat} (q : PairAt knd h x p) (k : Kept2 d it h h') (hd : h.DictOf knd d kvs) (hi : h.IsTupleIter it t i) : PairAt knd h' x p := by
  obtain ⟨a, o, key, n, rfl, h1, h2, h3, h4⟩ := q
  refine ⟨a, o, key, n, rfl, k a o ?_ ?_ h1, h2, h3, h4⟩
  · rintro rfl
    obtain ⟨_, _, _, ho, ⟨hc, _⟩, _⟩ := hd
    rw [h1] at ho; cases ho
    rw [h2] at hc
    exact absurd hc (by decide)
  · rintro rfl
    obtain ⟨_, ho, hc, _⟩ := hi
    rw [h1] at ho; cases ho
    rw [h2] at hc
    exact absurd hc (by decide)
theorem loop_pairs (hA : A.handled = none) {d it t : Addr} {its : Array Value} {R : Result → Shared → Prop} (hdi : d ≠ it) (hti : t ≠ it) (htd : t ≠ d) :
    ∀ (r : List (K × Value)) (i : Nat) (kvs : List (K × Value)) (s : Shared), s.heap.IsTupleIter it t i → s.heap.IsTuple t its → s.heap.DictOf knd d kvs →
      (∀ j, (r[j]? = none → its[i + j]? = none) ∧ ∀ p, r[j]? = some p → ∃ x, its[i + j]? = some x ∧ PairAt knd s.heap x p) → kvs.length + r.length ≤ sizeLine →
      (∀ h' tk, h'.DictOf knd d (r.foldl (fun a p => stored a p.1 p.2) kvs) → Kept2 d it s.heap h' → R (.ok (.ret .none)) { s with heap := h', toks := tk }) →
      codeAny (model prog w) A (.builtin "dict.update.loop" ⟨[.ref d, .ref it, .int i 0, .none], []⟩) R s
  | [], i, kvs, s, hit, ht, hd, hr, hz, h => by
    refine codeAny_builtin loop_entry ?_
    unfold Builtin.«dict.update.loop»
    refine wpAny_bind (wpAny_pyNext_tuple_end (A := A.under _) hA hit ht (by simpa using (hr 0).1 rfl) fun h' hx => ?_)
    show wpAny (model prog w) _ (Builtin.Dict.addKeywords d [] >>= _) _ _ _
    refine wpAny_bind (wpAny_pure (wpAny_pure (h h' s.toks (hd.extBut hx hdi) fun b o _ hb e => hx b o hb e)))
  | p :: r, i, kvs, s, hit, ht, hd, hr, hz, h => by
    refine codeAny_builtin loop_entry ?_
    unfold Builtin.«dict.update.loop»
    obtain ⟨x, hx, hp⟩ := (hr 0).2 p rfl
    refine wpAny_bind (wpAny_pyNext_tuple_item hit ht (by simpa using hx) fun h' hit' hs => ?_)
    have k1 : Kept2 d it s.heap h' := fun b o _ hb e => (hs.2 b hb).trans e
    have hp' := hp.kept k1 hd hit
    obtain ⟨a, o, key, n, rfl, g1, g2, g3, g4⟩ := hp'
    refine wpAny_bind (wpAny_holding (wpAny_bind (wpAny_tryCatch ?_)))
    unfold Builtin.Dict.pairItems
    refine wpAny_bind (wpAny_typeOf (T := "tuple") ⟨o, g1, g2⟩ ?_)
    rw [if_pos (by decide)]
    refine wpAny_bind (wpAny_seqItems g1 g3 (wpAny_pure ?_))
    show wpAny _ _ (holding [key, p.2] (dictSet d key p.2)) _ _ _
    refine wpAny_holding (wpAny_dictSet_pairs (kvs := kvs) g4 (hd.sameBut hs hdi) (fun h2 hd2 hs2 => ?_) (by omega))
    refine wpAny_pure ⟨Code.quiet_builtin _ (by decide +kernel), ?_⟩
    have k2 : Kept2 d it h' h2 := fun b o hb _ e => (hs2.2 b hb).trans e
    have hl := stored_length_le kvs p.1 p.2
    rw [List.length_cons] at hz
    have hT : s.heap.IsTuple t its := ht
    show codeAny _ _ (.builtin "dict.update.loop" ⟨[.ref d, .ref it, .int ((i + 1 : Nat) : Int) 0, .none], []⟩) _ _
    refine loop_pairs (its := its) hA hdi hti htd r (i + 1) (stored kvs p.1 p.2) { s with heap := h2, toks := s.toks + 1 } ?_ ?_ hd2 ?_ (by omega) ?_
    · obtain ⟨o1, e1, e2⟩ := hit'
      exact ⟨o1, (hs2.2 it (Ne.symm hdi)).trans e1, e2⟩
    · obtain ⟨o1, e1, e2⟩ := ht
      exact ⟨o1, k2 t o1 htd hti (k1 t o1 htd hti e1), e2⟩
    · intro j
      have hj := hr (j + 1)
      rw [List.getElem?_cons_succ, show i + (j + 1) = i + 1 + j by omega] at hj
      refine ⟨hj.1, fun q hq => ?_⟩
      obtain ⟨x, hx1, hx2⟩ := hj.2 q hq
      exact ⟨x, hx1, (hx2.kept k1 hd hit).kept k2 (hd.sameBut hs hdi) hit'⟩
    · intro h3 tk hd3 k3
      exact h h3 tk hd3 fun b o hb hb' e => k3 b o hb hb' (k2 b o hb hb' (k1 b o hb hb' e))
end
section
variable {K : Type} [DecidableEq K] {prog : Program} {w : World} {A : Around} {knd : KeyKind prog w K} {s : Shared} {E : Value → Shared → Prop}
theorem tuple_no_keys : typeLookup (.type "tuple") "keys" = pure none := by rw [typeLookup_type, builtinLookup_eq_fast]; kernel_rfl
theorem dict_pairs (hA : A.handled = none) {t : Addr} {its : Array Value} {n : Nat} {r : List (K × Value)} {Q : Value → Shared → Prop} (ht : s.heap.get? t = some { cls := .type "tuple", data := .seq its n })
    (hr : ∀ j : Nat, (r[j]? = none → its[j]? = none) ∧ ∀ p, r[j]? = some p → ∃ x, its[j]? = some x ∧ PairAt knd s.heap x p) (hz : r.length ≤ sizeLine)
    (h : ∀ h' tk, h'.DictOf knd s.heap.objs.size (r.foldl (fun a p => stored a p.1 p.2) []) → (∀ b o, s.heap.get? b = some o → h'.get? b = some o) → Q (.ref s.heap.objs.size) { s with heap := h', toks := tk }) :
    wpAny (model prog w) A (call (.type "dict") [.ref t]) Q E s := by
  refine callType_codes (Q₁ := fun x s2 => x = .ref s.heap.objs.size ∧ s2 = { s with heap := s.heap.push { cls := .type "dict", data := .dict #[] } }) F.kt_called_dict (F.kt_typeCall_dict_1 _) F.entry_dict_init (kt_code_dict_new _ ⟨rfl, rfl⟩) ?_
  rintro x s2 ⟨rfl, rfl⟩
  have fresh : (s.heap.push { cls := .type "dict", data := .dict #[] }).DictOf knd s.heap.objs.size [] := Heap.DictOf.new s.heap
  have ht' := Heap.get?_push_of_some { cls := .type "dict", data := .dict #[] } ht
  refine ⟨fresh.typeIs, PySem.F.args_dict_init_2 _ _, ?_⟩
  delta Builtin.«dict.__init__»
  refine wpAny_bind ?_
  delta Builtin.Dict.selfAndRest
  refine wpAny_bind (wpAny_notOrdered_dict (fresh.typeIs) ?_)
  show wpAny _ _ (pure (s.heap.objs.size, [Value.ref t])) _ _ _
  refine wpAny_pure ?_
  show wpAny _ _ (Builtin.Dict.updateFrom "dict.__init__" s.heap.objs.size (.ref t) [] .none) _ _ _
  delta Builtin.Dict.updateFrom
  refine wpAny_bind (wpAny_typeOf (T := "tuple") ⟨_, ht', rfl⟩ ?_)
  rw [if_pos (by decide)]
  refine wpAny_bind (keys_miss (A := A.in1.in1) (a := t) ht' tuple_no_keys (by decide +kernel) hA fun h1 tk e hx => ?_)
  rw [if_pos (show (none : Option Value).isNone = true from rfl)]
  refine wpAny_bind (wpAny_rule (wpAny_bind ?_))
  have ht1 := hx.keeps t _ ht'
  have hT1 : h1.IsTuple t its := ⟨_, ht1, rfl, n, rfl⟩
  refine wpAny_pyIter_tuple (s := { s with heap := h1, toks := tk }) hT1 ?_
  refine wpAny_pure ⟨Code.quiet_builtin _ (by decide +kernel), ?_⟩
  have hd1 : h1.DictOf knd s.heap.objs.size [] := by
    obtain ⟨o, es, ep, ho, r⟩ := fresh
    exact ⟨o, es, ep, hx.keeps _ _ ho, r⟩
  have hlt : s.heap.objs.size < h1.objs.size := by
    obtain ⟨o, es, ep, ho, r⟩ := hd1
    exact Heap.lt_size ho
  have htl : t < s.heap.objs.size := Heap.lt_size ht
  refine loop_pairs (A := A.in1) (knd := knd) (its := its) (t := t) hA (Nat.ne_of_lt hlt) (Nat.ne_of_lt (Nat.lt_trans htl hlt)) (Nat.ne_of_lt htl) r 0 [] { s with heap := h1.push { cls := .type "tuple_iterator", data := .fields #[.ref t, .int 0 0] }, toks := tk } ?_ ?_ ?_ ?_ ?_ ?_
  · exact ⟨_, Heap.get?_push_size _ rfl, rfl, rfl⟩
  · exact ⟨_, Heap.get?_push_of_some _ ht1, rfl, n, rfl⟩
  · exact hd1.push _
  · intro j
    rw [Nat.zero_add]
    refine ⟨(hr j).1, fun p hp => ?_⟩
    obtain ⟨x, hx1, a, o, key, m, h2, h3, h4⟩ := (hr j).2 p hp
    exact ⟨x, hx1, a, o, key, m, h2, Heap.get?_push_of_some _ (hx.keeps _ _ (Heap.get?_push_of_some _ h3)), h4⟩
  · simpa using hz
  · intro h' tk' hd' hk
    refine ⟨rfl, h h' tk' hd' fun b o e => ?_⟩
    have hb := Heap.lt_size e
    exact hk b o (Nat.ne_of_lt hb) (Nat.ne_of_lt (Nat.lt_trans hb hlt)) (Heap.get?_push_of_some _ (hx.keeps _ _ (Heap.get?_push_of_some _ e)))
end
end PySem
namespace ZS
open PySem PySem.Spec PyProof.Rows L2
theorem bd1 {fd : FuncData} {ps : List Str} (h : ∀ a0 : Value, bindArgs fd ⟨[a0], []⟩ = pure (ps.zip [a0])) : ∀ us : List Value, us.length = 1 → bindArgs fd ⟨us, []⟩ = pure (ps.zip us)
  | [a0], _ => h a0
theorem bd2 {fd : FuncData} {ps : List Str} (h : ∀ a0 a1 : Value, bindArgs fd ⟨[a0, a1], []⟩ = pure (ps.zip [a0, a1])) : ∀ us : List Value, us.length = 2 → bindArgs fd ⟨us, []⟩ = pure (ps.zip us)
  | [a0, a1], _ => h a0 a1
theorem bd3 {fd : FuncData} {ps : List Str} (h : ∀ a0 a1 a2 : Value, bindArgs fd ⟨[a0, a1, a2], []⟩ = pure (ps.zip [a0, a1, a2])) : ∀ us : List Value, us.length = 3 → bindArgs fd ⟨us, []⟩ = pure (ps.zip us)
  | [a0, a1, a2], _ => h a0 a1 a2
section
variable {X : Cx} {pins : List (Addr × Obj)} {σ : St} {H H0 : Hp} {s : Shared}
theorem Inv.tupN (I : Inv X pins σ H s) {a : Addr} {xs : List V} (h : SqT X.K H a xs) : ∃ (its : List Value) (n : Nat), Vals xs its ∧ s.heap.get? a = some { cls := .type "tuple", data := .seq its.toArray n } ∧ xs.length ≤ sizeLine := by
  rcases h with h | ⟨o, its, n, hk, hc, ⟨hs, h1, h2⟩, hz, r⟩
  · obtain ⟨z, its, r, n, p⟩ := h.ok I.hok
    exact ⟨its, n, r, p, z⟩
  · refine ⟨its.toList, n, r, ?_, ?_⟩
    · obtain ⟨c, d, dt, sl⟩ := o
      simp only at hc hs h1 h2
      subst hc hs h1 h2
      simpa using I.kIn a _ hk
    · have e := r.length
      simp only [Array.length_toList] at e
      omega
abbrev pD (p : Int × Int) : Z.D := .tup [.int p.1, .int p.2]
theorem pairs_at (I : Inv X pins σ H s) : ∀ {ps : List (Int × Int)} {vs : List V} {its : List Value}, Dens X.K H (ps.map pD) vs → Vals vs its →
    ∃ rs : List (Key × Value), KV (kvI ps) rs ∧ rs.length = its.length ∧ ∀ (j : Nat) p, rs[j]? = some p → ∃ x, its[j]? = some x ∧ PairAt (mixKind X.prog X.w) s.heap x p
  | [], vs, its, d, v => by
    simp only [List.map_nil, Dens] at d
    subst d
    cases v
    exact ⟨[], .nil, rfl, fun j p e => nomatch e⟩
  | p :: ps, vs, its, d, v => by
    simp only [List.map_cons, Dens] at d
    obtain ⟨x, r, rfl, dx, t⟩ := d
    cases v with
    | cons rx rt =>
      rename_i u us
      obtain ⟨rs, h1, h2, h3⟩ := pairs_at I t rt
      simp only [pD, Den, Dens] at dx
      obtain ⟨a, ws, rfl, hq, w1, r1, rfl, rfl, w2, r2, rfl, rfl, rfl⟩ := dx
      obtain ⟨its2, rv, ⟨o, g1, g2, n, g3⟩, _⟩ := I.tuple hq
      obtain rfl : u = Value.ref a := rx
      cases rv with
      | cons q1 rv =>
        cases rv with
        | cons q2 rv =>
          cases rv
          obtain ⟨t1, rfl⟩ := q1
          obtain ⟨t2, rfl⟩ := q2
          refine ⟨(Sum.inl p.1, Value.int p.2 t2) :: rs, .cons ⟨rfl, t2, rfl⟩ h1, by simp [h2], fun j q e => ?_⟩
          cases j with
          | zero =>
            cases e
            exact ⟨_, rfl, a, o, Value.int p.1 t1, n, rfl, g1, g2, by simpa using g3, keyIs_int p.1 t1⟩
          | succ j => exact h3 j q e
theorem KV.keys {ps : List (Int × Int)} : ∀ {qs : List (Key × V)} {rs : List (Key × Value)}, KV qs rs → rs.map (·.1) = qs.map (·.1)
  | _, _, .nil => rfl
  | _, _, .cons r t => by rw [List.map_cons, List.map_cons, KV.keys (ps := ps) t, r.1]
theorem stored_new {kvs : List (Key × Value)} {k : Key} {v : Value} (h : k ∉ kvs.map (·.1)) : stored kvs k v = kvs ++ [(k, v)] := by
  unfold stored
  rw [if_neg]
  simp only [List.any_eq_true, decide_eq_true_eq, not_exists, not_and]
  intro q hq e
  exact h (List.mem_map.mpr ⟨q, hq, e⟩)
theorem foldl_stored : ∀ (rs acc : List (Key × Value)), ((acc ++ rs).map (·.1)).Nodup → rs.foldl (fun a p => stored a p.1 p.2) acc = acc ++ rs
  | [], acc, _ => by simp
  | p :: rs, acc, h => by
    have hp : p.1 ∉ acc.map (·.1) := fun hm => by
      rw [List.map_append, List.map_cons] at h
      exact (List.nodup_append.mp h).2.2 _ hm _ (List.mem_cons_self) rfl
    rw [List.foldl_cons, stored_new hp, foldl_stored rs _ (by simpa using h)]
    simp
theorem kvI_nodup : ∀ {ps : List (Int × Int)}, (ps.map (·.1)).Nodup → ((kvI ps).map (·.1)).Nodup
  | [], _ => List.nodup_nil
  | p :: ps, h => by
    rw [List.map_cons, List.nodup_cons] at h
    show ((Sum.inl p.1 : Key) :: (kvI ps).map (·.1)).Nodup
    refine List.nodup_cons.mpr ⟨fun hm => h.1 ?_, kvI_nodup h.2⟩
    obtain ⟨q, hq, e⟩ := List.mem_map.mp hm
    obtain ⟨y, hy, rfl⟩ := List.mem_map.mp hq
    exact List.mem_map.mpr ⟨y, hy, Sum.inl.inj e⟩
theorem dic_big (I : Inv X pins σ H s) : sysModules < s.heap.objs.size := by
  have h : mainGlobals < s.heap.objs.size := (I.mod.glob.keeps I.bk).lt
  exact Nat.lt_trans (by decide) h
theorem call_dict_of (hc : X.calm = true) : CallR X (.type "dict") (fun xs H Q => ∃ v ps, xs = [v] ∧ Den X.K H (.tup (ps.map pD)) v ∧ (ps.map (·.1)).Nodup ∧ ps.length ≤ sizeLine ∧ ∀ p o, H p = none → Q (.ref p) (upd H p (.frz o (.dK (kvI ps))))) := by
  intro pins s σ H xs us Q I r h
  obtain ⟨v, ps, rfl, d, hn, hl, q⟩ := h
  obtain ⟨u, rfl, rx⟩ := vals1 r
  simp only [Den] at d
  obtain ⟨a, vs, rfl, hq, t⟩ := d
  obtain rfl : u = Value.ref a := rx
  obtain ⟨its, n, rv, ht, hz⟩ := Inv.tupN I hq
  obtain ⟨rs, h1, h2, h3⟩ := pairs_at I t rv
  have hk := KV.keys (ps := ps) h1
  have hrl : rs.length = ps.length := by
    have := congrArg List.length hk
    simpa [kvI] using this
  refine dict_pairs (knd := mixKind X.prog X.w) (r := rs) (I.ok.hd hc) ht (fun j => ⟨fun e => ?_, fun p e => ?_⟩) (by rw [hrl]; exact hl) fun h' tk dd kp => ?_
  · rw [List.getElem?_eq_none_iff] at e
    simpa [← h2] using e
  · obtain ⟨x, e1, e2⟩ := h3 j p e
    exact ⟨x, by simpa using e1, e2⟩
  · rw [foldl_stored rs [] (by rw [List.nil_append, hk]; exact kvI_nodup hn), List.nil_append] at dd
    obtain ⟨o, es, ep, g1, g⟩ := dd
    refine ⟨.ref s.heap.objs.size, _, I.laid (a := s.heap.objs.size) (o := .frz o (.dK (kvI ps))) kp (Nat.le_refl _) ⟨g1, by simpa [kvI] using hl, beq_eq_false_iff_ne.mpr (Ne.symm (Nat.ne_of_lt (dic_big I))), rs, h1, o, es, ep, g1, g⟩, rfl, q _ o (I.hok.fresh (Nat.le_refl _))⟩
theorem RS.setI {K : PySem.W.Frag} {ρ : Z.Env} {i : Nat} {ps : List (Int × Int)} {v : V} (h : RS K H0 H σ ρ) (hd : RL K H (.idc ps) v) : RS K H0 H (σ.set i (some v)) (ρ.set i (some (.idc ps))) := by
  have getσ : ∀ (j : Nat), i ≠ j → (σ.set i (some v))[j]? = σ[j]? := fun j hj => List.getElem?_set_ne hj
  refine ⟨h.same, ⟨by simp [h.re.len], fun j l e => ?_, fun j k xs ys q e1 e2 e3 e4 => ?_⟩, fun j xs q e1 e2 => ?_, fun j xs e1 => ?_, h.dic.set fun _ z => nomatch z⟩
  · rcases set_cases e with ⟨rfl, hl, e⟩ | ⟨hj, e⟩
    · cases e
      exact ⟨v, List.getElem?_set_self (by rw [← h.re.len]; exact hl), hd⟩
    · rw [getσ j hj]; exact h.re.get j l e
  · rcases set_cases e1 with ⟨_, _, e⟩ | ⟨hj, e1⟩
    · cases e
    · rcases set_cases e2 with ⟨_, _, e⟩ | ⟨hk, e2⟩
      · cases e
      · rw [getσ j hj] at e3
        rw [getσ k hk] at e4
        exact h.re.sep j k xs ys q e1 e2 e3 e4
  · rcases set_cases e1 with ⟨_, _, e⟩ | ⟨hj, e1⟩
    · cases e
    · rw [getσ j hj] at e2
      exact h.fresh j xs q e1 e2
  · rcases set_cases e1 with ⟨_, _, e⟩ | ⟨hj, e1⟩
    · cases e
    · rw [getσ j hj]
      exact h.bors j xs e1
theorem ds_idc {i : Nat} {x x2 : Str} {a : Expr} {pos pos' p1 cpos : Pos} {fa : Z.EF} (hN : X.N.Nodup) (hi : X.N[i]? = some x) (hx : Loc X.env.scope x) (hg : Gl X x2) (hm : X.mg x2 = none) (hv : bootBuiltins x2 = some (.type "dict")) (ha : DE X a fa) (hc : X.calm = true)
    (hs : swapsWith (.Call (.Name x2 p1) [a] [] cpos) (some (.Name x pos')) pos.line X.env = pure false) (hf : X.fn x = true ∨ X.env.scope.names.lookup x = some .local) (hn : x2 ≠ "__name__") (hdb : (x2 == ("__debug__" : Str)) = false)
    (he : starEach (a :: []) X.env = (false, eval a X.env) :: starEach [] X.env) (hpl : (backTo cpos (starEach [] X.env)).any (·.1) = false) :
    DS X H0 (.Assign [.Name x pos'] (.Call (.Name x2 p1) [a] [] cpos) pos) (Z.sIdc i fa) :=
  PS.imp (ps_set hN hi hx (pe_callTy (call_dict_of hc) hg hm hv (pa_cons ha pa_nil he) hn hdb he hpl) hs hf) fun D σ H ⟨ρ, fl, rs, e, k⟩ => by
    obtain ⟨d, ea, e⟩ := Z.Res.bind_ok e
    obtain ⟨ps, rfl, hn, hl, rfl⟩ := Z.idcK_ok e
    refine ⟨ρ, _, rs.re, ea, fun v H1 s1 d1 => ?_⟩
    refine ⟨v, ps, rfl, d1, hn, by rw [sizeLine_eq]; exact hl, fun p o hp => ?_⟩
    exact k _ _ ((stb s1).trans (stb (upd_Same hp))) (((rs.up s1).up (upd_Same hp)).setI ⟨p, o, rfl, upd_same⟩)
theorem val_of : ∀ {ps : List (Int × Int)} {vs : List (Key × Value)} (k c : Int) (t : Tok), KV (kvI ps) vs → ∃ t', (valueAt vs (Sum.inl k)).getD (.int c t) = .int ((ps.lookup k).getD c) t'
  | [], _, k, c, t, .nil => ⟨t, rfl⟩
  | p :: ps, _ :: vs, k, c, t, .cons r q => by
    obtain ⟨e1, t1, e2⟩ := r
    unfold valueAt
    by_cases h : p.1 = k
    · refine ⟨t1, ?_⟩
      subst h
      rw [List.find?_cons_of_pos (by rw [← e1]; simp), List.lookup_cons]
      simp [← e2]
    · obtain ⟨t', e⟩ := val_of k c t q
      refine ⟨t', ?_⟩
      rw [List.find?_cons_of_neg (by rw [← e1]; simpa using h), List.lookup_cons, show (k == p.1) = false by simpa using fun z => h z.symm]
      exact e
theorem de_iget {i : Nat} {o kx cx : Expr} {apos cpos : Pos} {fk fc : Z.EF} (ho : PE X o (tVar i)) (hk : DE X kx fk) (hcx : DE X cx fc)
    (hbase : attributeBase o "get" X.env (eval o X.env) = eval o X.env)
    (hfew : ((backTo cpos (starEach [kx, cx] X.env)).all (fun x => !x.1) && (backToKw cpos (keywordEach [] X.env)).all (fun x => x.1.isSome)
      && decide (([kx, cx] : List Expr).length + ([] : List Keyword).length + (if ([] : List Keyword).isEmpty then 0 else 1) < 30)) = true)
    (hline : (apos.endLine == cpos.line) = true) (ht : backTo cpos (starEach [kx, cx] X.env) = [(false, eval kx X.env), (false, eval cx X.env)]) :
    DE X (.Call (.Attribute o "get" apos) [kx, cx] [] cpos) (Z.eIget i fk fc) := by
  intro pins s σ H Q I w
  obtain ⟨ρ, d, r, e, k⟩ := w
  obtain ⟨d1, e1, e⟩ := Z.Res.bind_ok e
  obtain ⟨d2, e2, e⟩ := Z.Res.bind_ok e
  obtain ⟨k', c', ps, rfl, rfl, eo, rfl⟩ := Z.igetK_ok e
  obtain ⟨v, si, q, o', rfl, hq⟩ := r.get i _ eo
  refine wpAny_Call_method_late hbase hfew hline ht (thn (ho pins s σ H (fun v H1 => v = .ref q ∧ H1 = H) I ⟨_, si, rfl, rfl⟩) ?_)
  rintro u s1 ⟨v1, H1, I1, ru, rfl, rfl⟩
  obtain rfl : u = Value.ref q := ru
  obtain ⟨g0, _, _, _, _, oo, _, _, g1, gx, _⟩ := (show ObjOk X.prog X.w H1 s1.heap q (.frz o' (.dK (kvI ps))) from I1.hok q _ hq)
  refine ⟨"dict", "dict.get", PySem.F.plainAttrs_dict, PySem.F.slot_dict_get, PySem.F.type_dict_get, ⟨oo, g1, gx.1⟩, fun b eb => ?_, ?_⟩
  · cases eb
    exact ⟨oo, g1, gx.2.1⟩
  refine Calls.callWith_builtin rfl (Calls.evalArgs_plain (Calls.spliced_cons (thn (hk pins s1 σ H1 (fun v H2 => Same H1 H2 ∧ Den X.K H2 (.int k') v) I1 ⟨ρ, _, r, e1, fun v H2 s2 dv => ⟨s2, dv⟩⟩) ?_)))
  rintro u2 s2 ⟨v2, H2, I2, ru2, sm2, dv2⟩
  refine Calls.spliced_cons (thn (hcx pins s2 σ H2 (fun v H3 => Same H2 H3 ∧ Den X.K H3 (.int c') v) I2 ⟨ρ, _, r.up sm2, e2, fun v H3 s3 dv => ⟨s3, dv⟩⟩) ?_)
  rintro u3 s3 ⟨v3, H3, I3, ru3, sm3, dv3⟩
  refine Calls.spliced_nil ?_
  simp only [Den] at dv2 dv3
  subst dv2 dv3
  obtain ⟨t2, rfl⟩ := ru2
  obtain ⟨t3, rfl⟩ := ru3
  obtain ⟨_, hz, hd, vs, rel, dd⟩ := (show ObjOk X.prog X.w H3 s3.heap q (.frz o' (.dK (kvI ps))) from I3.hok q _ (sm3 _ _ (sm2 _ _ hq)))
  obtain ⟨t', et⟩ := val_of k' c' t3 rel
  refine call_meetsIn PySem.F.slot_dict_get dd.typeIs PySem.F.entry_dict_get (PySem.F.args_dict_get_3 _ _ _) (meets_dict_get_default (mixKind X.prog X.w) q (k := (Sum.inl k' : Key)) (show (mixKind X.prog X.w).is (Sum.inl k') (Value.int k' t2) = true from keyIs_int k' t2) hd (Value.int c' t3)) ⟨_, dd.mapOf, ?_⟩
  rw [show ((fun k => valueAt vs k) (Sum.inl k')).getD (Value.int c' t3) = _ from et]
  exact ⟨.int ((ps.lookup k').getD c'), H3, I3.tok _, ⟨t', rfl⟩, k _ _ (sm2.trans sm3) (by simp only [Den])⟩
end
end ZS
namespace ZQ
open PySem PySem.Spec PyProof.Rows L2 ZS
section
variable {X : Cx} {H0 : Hp}
theorem ds_idc {i : Nat} {x x2 : Str} {a : Expr} {pos pos' p1 cpos : Pos} {fa : Z.EF} (hN : X.N.Nodup) (hi : X.N[i]? = some x) (hx : Loc X.env.scope x) (hg : Gl X x2) (hm : X.mg x2 = none) (hv : bootBuiltins x2 = some (.type "dict")) (ha : QE X a fa) (hc : X.calm = true := by rfl)
    (hs : swapsWith (.Call (.Name x2 p1) [a] [] cpos) (some (.Name x pos')) pos.line X.env = pure false := by rfl) (hf : X.fn x = true ∨ X.env.scope.names.lookup x = some .local := by first | exact .inl rfl | exact .inr rfl | assumption) (hn : x2 ≠ "__name__" := by decide +kernel) (hdb : (x2 == ("__debug__" : Str)) = false := by decide +kernel)
    (he : starEach (a :: []) X.env = (false, eval a X.env) :: starEach [] X.env := by rfl) (hpl : (backTo cpos (starEach [] X.env)).any (·.1) = false := by rfl) :
    QS X H0 (.Assign [.Name x pos'] (.Call (.Name x2 p1) [a] [] cpos) pos) (Z.sIdc i fa) := ⟨ZS.ds_idc hN hi hx hg hm hv ha.p hc hs hf hn hdb he hpl⟩
theorem de_iget {i : Nat} {o kx cx : Expr} {apos cpos : Pos} {fk fc : Z.EF} (ho : PE X o (tVar i)) (hk : QE X kx fk) (hcx : QE X cx fc)
    (hbase : attributeBase o "get" X.env (eval o X.env) = eval o X.env := by rfl)
    (hfew : ((backTo cpos (starEach [kx, cx] X.env)).all (fun x => !x.1) && (backToKw cpos (keywordEach [] X.env)).all (fun x => x.1.isSome)
      && decide (([kx, cx] : List Expr).length + ([] : List Keyword).length + (if ([] : List Keyword).isEmpty then 0 else 1) < 30)) = true := by rfl)
    (hline : (apos.endLine == cpos.line) = true := by rfl) (ht : backTo cpos (starEach [kx, cx] X.env) = [(false, eval kx X.env), (false, eval cx X.env)] := by rfl) :
    QE X (.Call (.Attribute o "get" apos) [kx, cx] [] cpos) (Z.eIget i fk fc) := ⟨ZS.de_iget ho hk.p hcx.p hbase hfew hline ht⟩
end
end ZQ
noncomputable section
namespace Z
def Ok {α : Type} (r : Res α) (Q : α → Prop) : Prop := ∃ a, r = .ok a ∧ Q a
theorem Ok.intro {α : Type} {r : Res α} {Q : α → Prop} {a : α} (h : r = .ok a) (q : Q a) : Ok r Q := ⟨a, h, q⟩
theorem Ok.imp {α : Type} {r : Res α} {P Q : α → Prop} (h : Ok r P) (k : ∀ a, P a → Q a) : Ok r Q := let ⟨a, e, p⟩ := h; ⟨a, e, k a p⟩
theorem Ok.eq {α : Type} {r : Res α} {a : α} (h : Ok r fun x => x = a) : r = .ok a := by obtain ⟨x, e, rfl⟩ := h; exact e
@[simp] theorem Ok_ok {α : Type} (a : α) (Q : α → Prop) : Ok (.ok a) Q ↔ Q a := ⟨fun ⟨_, e, q⟩ => by cases e; exact q, fun q => ⟨a, rfl, q⟩⟩
@[simp] theorem Ok_bad {α : Type} (Q : α → Prop) : Ok (.bad : Res α) Q ↔ False := ⟨fun ⟨_, e, _⟩ => (by cases e), False.elim⟩
@[simp] theorem Ok_bind {α β : Type} (r : Res α) (f : α → Res β) (Q : β → Prop) : Ok (r.bind f) Q ↔ Ok r fun a => Ok (f a) Q := by
  cases r with
  | ok a => simp
  | bad => simp
@[simp] theorem Ok_map {α β : Type} (r : Res α) (f : α → β) (Q : β → Prop) : Ok (r.map f) Q ↔ Ok r fun a => Q (f a) := by
  cases r with
  | ok a => simp
  | bad => simp
@[simp] theorem Ok_guard {α : Type} (p : Prop) (r : Res α) (Q : α → Prop) : Ok (guard p r) Q ↔ p ∧ Ok r Q := by
  constructor
  · rintro ⟨a, e, q⟩
    obtain ⟨h, e⟩ := guard_ok e
    exact ⟨h, a, e, q⟩
  · rintro ⟨h, k⟩
    rw [guard_pos h]; exact k
@[simp] theorem Ok_ite {α : Type} {c : Prop} [Decidable c] (r r' : Res α) (Q : α → Prop) : Ok (if c then r else r') Q ↔ if c then Ok r Q else Ok r' Q := by split <;> rfl
theorem Ok_cg {α : Type} {r r' : Res α} {Q : α → Prop} (h : r = r') : Ok r Q = Ok r' Q := by rw [h]
abbrev v (d : D) : Option L := some (.val d)
abbrev vi (i : Int) : Option L := some (.val (.int i))
abbrev vs (cs : List Nat) : Option L := some (.val (.str cs))
abbrev ow (xs : List D) : Option L := some (.own xs)
abbrev bo (xs : List D) : Option L := some (.bor xs)
def asW : Option (Option L) → Res D
  | some (some (.val d)) => .ok d
  | some (some (.own xs)) => .ok (.lst xs)
  | some (some (.bor xs)) => .ok (.lst xs)
  | _ => .bad
def asV : Option (Option L) → Res D
  | some (some (.val d)) => .ok d
  | _ => .bad
@[simp] theorem eW_a (i : Nat) (ρ : Env) : eW i ρ = asW ρ[i]? := by
  unfold eW asW
  cases ρ[i]? with
  | none => rfl
  | some o => cases o with
    | none => rfl
    | some l => cases l <;> rfl
@[simp] theorem eV_a (i : Nat) (ρ : Env) : eV i ρ = asV ρ[i]? := by
  unfold eV asV
  cases ρ[i]? with
  | none => rfl
  | some o => cases o with
    | none => rfl
    | some l => cases l <;> rfl
@[simp] theorem asW_val (d : D) : asW (some (some (.val d))) = .ok d := rfl
@[simp] theorem asW_own (xs : List D) : asW (some (some (.own xs))) = .ok (.lst xs) := rfl
@[simp] theorem asW_bor (xs : List D) : asW (some (some (.bor xs))) = .ok (.lst xs) := rfl
@[simp] theorem asV_val (d : D) : asV (some (some (.val d))) = .ok d := rfl
theorem ret_ok {b : SF} {ρ : Env} {d : D} (h : Ok (b ρ) fun fl => retK (.ok fl) = .ok d) : retK (b ρ) = .ok d := by
  obtain ⟨fl, e, q⟩ := h; rw [e, q]
theorem ret_Ok {b : SF} {ρ : Env} {P : D → Prop} (h : Ok (b ρ) fun fl => Ok (retK (.ok fl)) P) : Ok (retK (b ρ)) P := by
  obtain ⟨fl, e, q⟩ := h; rw [e]; exact q
@[simp] theorem sCont_a (ρ : Env) : sCont ρ = .ok (.ct ρ) := rfl
@[simp] theorem sBreak_a (ρ : Env) : sBreak ρ = .ok (.bk ρ) := rfl
@[simp] theorem sGet_a (e : EF) (g : GF) (ρ : Env) : sGet e g ρ = (e ρ).bind fun d => (g d ρ).bind fun ρ' => .ok (.nx ρ') := rfl
@[simp] theorem gTup2 (i j : Nat) (a b : D) (ρ : Env) : gTup [i, j] (.tup [a, b]) ρ = .ok ((ρ.set i (v a)).set j (v b)) := rfl
def appK (i : Nat) (ρ : Env) (d : D) : Option (Option L) → Res Fl
  | some (some (.own xs)) => guard (xs.length < line) (.ok (.nx (ρ.set i (ow (xs ++ [d])))))
  | _ => .bad
@[simp] theorem sAppend_a (i : Nat) (e : EF) (ρ : Env) : sAppend i e ρ = (e ρ).bind fun d => appK i ρ d ρ[i]? := rfl
@[simp] theorem appK_own (i : Nat) (ρ : Env) (d : D) (xs : List D) : appK i ρ d (some (some (.own xs))) = guard (xs.length < line) (.ok (.nx (ρ.set i (ow (xs ++ [d]))))) := rfl
def extK (i : Nat) (ρ : Env) (ys : List D) : Option (Option L) → Res Fl
  | some (some (.own xs)) => guard (xs.length + ys.length ≤ line) (.ok (.nx (ρ.set i (ow (xs ++ ys)))))
  | _ => .bad
@[simp] theorem sExt_a (i : Nat) (l : LF) (ρ : Env) : sExt i l ρ = (l ρ).bind fun ys => extK i ρ ys ρ[i]? := rfl
@[simp] theorem extK_own (i : Nat) (ρ : Env) (ys xs : List D) : extK i ρ ys (some (some (.own xs))) = guard (xs.length + ys.length ≤ line) (.ok (.nx (ρ.set i (ow (xs ++ ys))))) := rfl
def frzK (i : Nat) (ρ : Env) : Option (Option L) → Env
  | some (some (.own xs)) => ρ.set i (v (.lst xs))
  | _ => ρ
@[simp] theorem sFrz_a (i : Nat) (a : SF) (ρ : Env) : sFrz i a ρ = a (frzK i ρ ρ[i]?) := by
  unfold sFrz frz frzK
  cases ρ[i]? with
  | none => rfl
  | some o => cases o with
    | none => rfl
    | some l => cases l <;> rfl
@[simp] theorem frzK_own (i : Nat) (ρ : Env) (xs : List D) : frzK i ρ (some (some (.own xs))) = ρ.set i (v (.lst xs)) := rfl
@[simp] theorem frzK_val (i : Nat) (ρ : Env) (d : D) : frzK i ρ (some (some (.val d))) = ρ := rfl
@[simp] theorem frzK_none (i : Nat) (ρ : Env) : frzK i ρ (some none) = ρ := rfl
def catK : D → D → Res (List D)
  | .lst xs, .lst ys => guard (xs.length + ys.length ≤ line) (.ok (xs ++ ys))
  | _, _ => .bad
theorem lCat_k (a b : EF) (ρ : Env) : lCat a b ρ = (a ρ).bind fun x => (b ρ).bind fun y => catK x y := rfl
@[simp] theorem catK_lst (xs ys : List D) : catK (.lst xs) (.lst ys) = guard (xs.length + ys.length ≤ line) (.ok (xs ++ ys)) := rfl
def slK (l h : Option Int) : D → Res (List D)
  | .lst xs => .ok (cut xs l h)
  | _ => .bad
theorem lSl_k (a : EF) (lo hi : PF) (ρ : Env) : lSl a lo hi ρ = (a ρ).bind fun x => (lo ρ).bind fun l => (hi ρ).bind fun h => slK l h x := rfl
@[simp] theorem slK_lst (l h : Option Int) (xs : List D) : slK l h (.lst xs) = .ok (cut xs l h) := rfl
@[simp] theorem oSl_tup (xs : List D) (l h : Option Int) : oSl (.tup xs) l h = .ok (.tup (cut xs l h)) := rfl
@[simp] theorem oSl_str' (cs : List Nat) (l h : Option Int) : oSl (.str cs) l h = guard (cs.length ≤ line) (.ok (.str (cut cs l h))) := rfl
@[simp] theorem oAdd_str' (a b : List Nat) : oAdd (.str a) (.str b) = guard (a.length + b.length ≤ line) (.ok (.str (a ++ b))) := rfl
@[simp] theorem oAdd_tup' (a b : List D) : oAdd (.tup a) (.tup b) = guard (a.length + b.length ≤ line) (.ok (.tup (a ++ b))) := rfl
@[simp] theorem oNeg_int (a : Int) : oNeg (.int a) = .ok (.int (-a)) := rfl
@[simp] theorem oIsN_non : oIsN .non = .ok (.bl true) := rfl
@[simp] theorem oIsN_tup (xs : List D) : oIsN (.tup xs) = .ok (.bl false) := rfl
@[simp] theorem oNotN_non : oNotN .non = .ok (.bl false) := rfl
@[simp] theorem oNotN_tup (xs : List D) : oNotN (.tup xs) = .ok (.bl true) := rfl
theorem oPow_nat (a b : Nat) (hb : b ≤ 1000000) (ha : a < 18446744073709551616) : oPow (.int (a : Int)) (.int (b : Int)) = .ok (.int ((a ^ b : Nat) : Int)) := by
  have h : (0 : Int) ≤ b ∧ (b : Int) ≤ 1000000 ∧ (a : Int).natAbs < 2 ^ 64 := ⟨by omega, by omega, by rw [Int.natAbs_natCast]; exact ha⟩
  show guard _ _ = _
  rw [guard_pos h, Int.toNat_natCast, Int.natCast_pow]
@[simp] theorem p10_60 : oPow (.int 10) (.int 60) = .ok (.int 1000000000000000000000000000000000000000000000000000000000000) := oPow_nat 10 60 (by decide) (by decide)
@[simp] theorem p10_59 : oPow (.int 10) (.int 59) = .ok (.int 100000000000000000000000000000000000000000000000000000000000) := oPow_nat 10 59 (by decide) (by decide)
@[simp] theorem p10_55 : oPow (.int 10) (.int 55) = .ok (.int 10000000000000000000000000000000000000000000000000000000) := oPow_nat 10 55 (by decide) (by decide)
@[simp] theorem p10_50 : oPow (.int 10) (.int 50) = .ok (.int 100000000000000000000000000000000000000000000000000) := oPow_nat 10 50 (by decide) (by decide)
@[simp] theorem p7919_9 : oPow (.int 7919) (.int 9) = .ok (.int 122470950010456506152021579891552879) := oPow_nat 7919 9 (by decide) (by decide)
def atK : Option D → Res D
  | some d => .ok d
  | none => .bad
@[simp] theorem atK_some (d : D) : atK (some d) = .ok d := rfl
theorem oIx_tup (xs : List D) (i : Int) : oIx (.tup xs) (.int i) = atK ((ixZ xs.length i).bind fun j => xs[j]?) := by
  show (match (ixZ xs.length i).bind fun j => xs[j]? with | some v => Res.ok v | none => .bad) = _
  cases (ixZ xs.length i).bind fun j => xs[j]? <;> rfl
theorem oIx_lst (xs : List D) (i : Int) : oIx (.lst xs) (.int i) = atK ((ixZ xs.length i).bind fun j => xs[j]?) := by
  show (match (ixZ xs.length i).bind fun j => xs[j]? with | some v => Res.ok v | none => .bad) = _
  cases (ixZ xs.length i).bind fun j => xs[j]? <;> rfl
theorem ix_at {xs : List D} {i : Int} {j : Nat} {d : D} (h : i = j) (e : xs[j]? = some d) : oIx (.tup xs) (.int i) = .ok d ∧ oIx (.lst xs) (.int i) = .ok d := by
  subst h
  have hj : j < xs.length := (List.getElem?_eq_some_iff.mp e).1
  have : ixZ xs.length (j : Int) = some j := by simp [ixZ, hj]
  rw [oIx_tup, oIx_lst, this]
  simp [e]
theorem ix_some {xs : List D} {i : Int} (h0 : 0 ≤ i) (h1 : i < xs.length) : ∃ d ∈ xs, oIx (.lst xs) (.int i) = .ok d ∧ oIx (.tup xs) (.int i) = .ok d := by
  have hj : i.toNat < xs.length := by omega
  refine ⟨xs[i.toNat], List.getElem_mem hj, ?_⟩
  have := ix_at (xs := xs) (i := i) (j := i.toNat) (d := xs[i.toNat]) (by omega) (List.getElem?_eq_getElem hj)
  exact ⟨this.2, this.1⟩
def turn (I : Env → Prop) (Q : Fl → Prop) : Fl → Prop
  | .nx ρ => I ρ
  | .ct ρ => I ρ
  | .bk ρ => Q (.nx ρ)
  | .rt d => Q (.rt d)
@[simp] theorem turn_nx (I : Env → Prop) (Q : Fl → Prop) (ρ : Env) : turn I Q (.nx ρ) ↔ I ρ := Iff.rfl
@[simp] theorem turn_ct (I : Env → Prop) (Q : Fl → Prop) (ρ : Env) : turn I Q (.ct ρ) ↔ I ρ := Iff.rfl
@[simp] theorem turn_bk (I : Env → Prop) (Q : Fl → Prop) (ρ : Env) : turn I Q (.bk ρ) ↔ Q (.nx ρ) := Iff.rfl
@[simp] theorem turn_rt (I : Env → Prop) (Q : Fl → Prop) (d : D) : turn I Q (.rt d) ↔ Q (.rt d) := Iff.rfl
theorem for_ix {g : GF} {b : SF} {Q : Fl → Prop} (I : Nat → Env → Prop) : ∀ (ds : List D) (ρ : Env) (i : Nat), I i ρ → (∀ j d ρ, ds[j]? = some d → I (i + j) ρ → Ok (g d ρ) fun ρ1 => Ok (b ρ1) (turn (I (i + j + 1)) Q)) → (∀ ρ, I (i + ds.length) ρ → Q (.nx ρ)) → Ok (forGo g b ds ρ) Q
  | [], ρ, i, h, _, e => by simpa [forGo] using e ρ h
  | d :: ds, ρ, i, h, k, e => by
    obtain ⟨ρ1, e1, fl, e2, t⟩ := k 0 d ρ rfl h
    have ih := fun ρ' (h' : I (i + 1) ρ') => for_ix I (g := g) (b := b) (Q := Q) ds ρ' (i + 1) h' (fun j x ρ hj hP => by
      have := k (j + 1) x ρ (by simpa using hj) (by simpa [Nat.add_assoc, Nat.add_comm 1 j] using hP)
      simpa [Nat.add_assoc, Nat.add_comm 1 j] using this) (fun ρ hP => e ρ (by simpa [Nat.add_assoc, Nat.add_comm 1] using hP))
    unfold forGo
    rw [e1, Res.ok_bind, e2, Res.ok_bind]
    cases fl with
    | nx ρ' => exact ih ρ' (by simpa using t)
    | ct ρ' => exact ih ρ' (by simpa using t)
    | bk ρ' => simpa using t
    | rt d => simpa using t
theorem for_at {g : GF} {b : SF} {Q : Fl → Prop} (I : Nat → Env → Prop) {ds : List D} {ρ : Env} (h0 : I 0 ρ) (hs : ∀ j d ρ, ds[j]? = some d → I j ρ → Ok (g d ρ) fun ρ1 => Ok (b ρ1) (turn (I (j + 1)) Q)) (he : ∀ ρ, I ds.length ρ → Q (.nx ρ)) : Ok (forGo g b ds ρ) Q :=
  for_ix I ds ρ 0 h0 (fun j d ρ hd hI => by rw [Nat.zero_add] at hI ⊢; exact hs j d ρ hd hI) (fun ρ h => he ρ (by rwa [Nat.zero_add] at h))
theorem for_all {g : GF} {b : SF} {Q : Fl → Prop} (I : Env → Prop) {ds : List D} {ρ : Env} (h0 : I ρ) (hs : ∀ d ∈ ds, ∀ ρ, I ρ → Ok (g d ρ) fun ρ1 => Ok (b ρ1) (turn I Q)) (he : ∀ ρ, I ρ → Q (.nx ρ)) : Ok (forGo g b ds ρ) Q :=
  for_at (fun _ => I) h0 (fun j d ρ hd hI => hs d (List.mem_of_getElem? hd) ρ hI) he
theorem comp_map {g : GF} {e : EF} {ρ : Env} {ds : List D} {Q : List D → Prop} (h : D → D) (hs : ∀ d ∈ ds, Ok (g d ρ) fun ρ1 => Ok (e ρ1) fun y => y = h d) (hq : Q (ds.map h)) : Ok (compGo g tTrue e ρ ds) Q := by
  refine ⟨_, compGo_map (h := h) ds fun d hd => ?_, hq⟩
  obtain ⟨ρ1, e1, k⟩ := hs d hd
  rw [e1]; exact k.eq
theorem comp_enc {α : Type} (enc : α → D) {g : GF} {t : TF} {e : EF} {ρ : Env} (f : α → Bool) (h : α → D) : ∀ {xs : List α} {Q : List D → Prop}, (∀ x ∈ xs, Ok (g (enc x) ρ) fun ρ1 => Ok (t ρ1) fun c => c = f x ∧ (f x = true → Ok (e ρ1) fun y => y = h x)) → Q ((xs.filter f).map h) → Ok (compGo g t e ρ (xs.map enc)) Q := by
  intro xs Q hs hq
  refine ⟨_, ?_, hq⟩
  clear hq
  induction xs with
  | nil => rfl
  | cons x xs ih =>
    obtain ⟨ρ1, e1, c, e2, hc, k⟩ := hs x List.mem_cons_self
    have ih' := ih fun y hy => hs y (List.mem_cons_of_mem _ hy)
    cases hf : f x with
    | true =>
      rw [hf] at hc
      have := (k hf).eq
      simp [compGo, e1, e2, hc, this, ih', hf]
    | false =>
      rw [hf] at hc
      simp [compGo, e1, e2, hc, ih', hf]
end Z
end
set_option maxRecDepth 4000
noncomputable section
namespace KG
open Z
def t_0 : List Nat := [46, 46, 46, 46, 46, 46, 46, 46, 46, 61]
def b_takes : SF := (sRet (eOr (eB oIn (eW 0) (eTup (aCons (eC (.str [46])) (aCons (eC (.str [61])) aNil)))) (eB oEq (eW 0) (eW 1))))
def fn_takes : List D → Res D := fn 2 2 b_takes
def b_seats_of : SF := (sSeq (sOwn 2 (lDisp aNil)) (sSeq (sFor (iRng2 (eB oIx (eW 1) (eC (.int 0))) (eB oAdd (eB oIx (eW 1) (eC (.int 0))) (eB oIx (eW 0) (eC (.int 2))))) (gName 3) (sExt 2 (lComp (iRng2 (eB oIx (eW 1) (eC (.int 1))) (eB oAdd (eB oIx (eW 1) (eC (.int 1))) (eB oIx (eW 0) (eC (.int 1))))) 1 [3] (gName 0) tTrue (eTup (aCons (eV 1) (aCons (eV 0) aNil)))))) (sRet (eU oTuple (eW 2)))))
def fn_seats_of : List D → Res D := fn 2 4 b_seats_of
def b_law_cell_at : SF := (sSeq (sIf (tE (eB oLt (eW 1) (eU oLen (eW 0)))) (sRet (eB oIx (eW 0) (eW 1))) sNext) (sRet (eC (.int 0))))
def fn_law_cell_at : List D → Res D := fn 2 2 b_law_cell_at
theorem fe_law_cell_at (x0 x1 : D) : fn_law_cell_at [x0, x1] = retK (b_law_cell_at [some (.val x0), some (.val x1)]) := fn_a _ _ _ _ rfl
def b_law_mixed : SF := (sSeq (sSet 2 (eB oMod (eB oMul (eB oAdd (eB oAdd (eB oMod (eW 0) (eC (.int 2147483629))) (eB oMul (eB oMul (eC (.int 7919)) (eW 1)) (eW 1))) (eW 1)) (eC (.int 48271))) (eC (.int 2147483647)))) (sSeq (sSet 2 (eB oMod (eB oAdd (eB oAdd (eB oMul (eW 2) (eW 2)) (eB oMul (eC (.int 69621)) (eW 2))) (eW 1)) (eC (.int 2147483647)))) (sRet (eB oMod (eB oAdd (eB oMul (eW 2) (eC (.int 39373))) (eB oMul (eC (.int 11)) (eW 1))) (eC (.int 2147483587))))))
def fn_law_mixed : List D → Res D := fn 2 3 b_law_mixed
theorem fe_law_mixed (x0 x1 : D) : fn_law_mixed [x0, x1] = retK (b_law_mixed [some (.val x0), some (.val x1), none]) := fn_a _ _ _ _ rfl
def b_law_whole : SF := (sRet (eAnd (eU (oIsTy .int) (eW 0)) (eNot (eU (oIsTy .bool) (eW 0)))))
def fn_law_whole : List D → Res D := fn 1 1 b_law_whole
theorem fe_law_whole (x0 : D) : fn_law_whole [x0] = retK (b_law_whole [some (.val x0)]) := fn_a _ _ _ _ rfl
def b_law_letters : SF := (sSeq (sSet 1 (eC (.str letters))) (sRet (eL (lComp (iRng1 (eC (.int 3))) 1 [1, 0] (gName 0) tTrue (eB oIx (eW 1) (eB oMod (eB oAdd (eB oDiv (eW 2) (eC (.int 3))) (eB oMul (eC (.int 7)) (eW 0))) (eC (.int 26))))))))
def fn_law_letters : List D → Res D := fn 1 2 b_law_letters
theorem fe_law_letters (x0 : D) : fn_law_letters [x0] = retK (b_law_letters [some (.val x0), none]) := fn_a _ _ _ _ rfl
def b_law_any_hall : SF := (sSeq (sSet 2 (eB oAdd (eC (.int 1)) (eB oMod (eW 0) (eC (.int 6))))) (sSeq (sSet 3 (eB oAdd (eC (.int 1)) (eB oMod (eB oDiv (eW 0) (eC (.int 6))) (eC (.int 12))))) (sSeq (sOwn 4 (lDisp aNil)) (sSeq (sFor (iRng1 (eV 2)) (gName 5) (sSeq (sSet 6 (eC (.str []))) (sSeq (sFor (iRng1 (eV 3)) (gName 7) (sSeq (sSet 6 (eB oAdd (eW 6) (eB oIx (eC (.str signs)) (eB oMod (eW 1) (eC (.int 29)))))) (sSet 1 (eB oDiv (eW 1) (eC (.int 29)))))) (sAppend 4 (eV 6))))) (sRet (eU oTuple (eW 4)))))))
def fn_law_any_hall : List D → Res D := fn 2 8 b_law_any_hall
def b_law_hall : SF := (sSeq (sSet 1 (eCall fn_law_cell_at (aCons (eV 0) (aCons (eC (.int 0)) aNil)))) (sSeq (sIf (tE (eB oEq (eB oMod (eB oDiv (eW 1) (eC (.int 4096))) (eC (.int 2))) (eC (.int 1)))) (sRet (eCall fn_law_any_hall (aCons (eB oDiv (eW 1) (eC (.int 8192))) (aCons (eCall fn_law_cell_at (aCons (eV 0) (aCons (eC (.int 1)) aNil))) aNil)))) sNext) (sSeq (sSet 2 (eB oIx (eL (lDisp (aCons (eB oAdd (eC (.int 1)) (eB oMod (eW 1) (eC (.int 4)))) (aCons (eC (.int 6)) aNil)))) (eU oInt (eB oEq (eB oMod (eB oDiv (eW 1) (eC (.int 4))) (eC (.int 8))) (eC (.int 5)))))) (sSeq (sSet 3 (eB oIx (eL (lDisp (aCons (eB oAdd (eC (.int 1)) (eB oMod (eB oDiv (eW 1) (eC (.int 32))) (eC (.int 8)))) (aCons (eC (.int 12)) aNil)))) (eU oInt (eB oEq (eB oMod (eB oDiv (eW 1) (eC (.int 256))) (eC (.int 8))) (eC (.int 5)))))) (sSeq (sSet 4 (eCall fn_law_letters (aCons (eV 1) aNil))) (sSeq (sSet 5 (eB oIx (eL (lDisp (aCons (eC (.str t_0)) (aCons (eB oAdd (eC (.str [46, 46, 46, 61, 61, 46, 46, 35])) (eB oIx (eW 4) (eC (.int 0)))) (aCons (eB oAdd (eB oAdd (eC (.str [46, 46, 61, 35])) (eB oIx (eW 4) (eC (.int 0)))) (eB oIx (eW 4) (eC (.int 1)))) (aCons (eC (.str [46])) aNil)))))) (eB oMod (eB oDiv (eW 1) (eC (.int 2048))) (eC (.int 4))))) (sSeq (sOwn 6 (lDisp aNil)) (sSeq (sFor (iRng1 (eV 2)) (gName 7) (sSeq (sSet 8 (eC (.str []))) (sSeq (sFor (iRng1 (eV 3)) (gName 9) (sSeq (sSet 10 (eB oAdd (eB oMul (eW 7) (eW 3)) (eW 9))) (sSeq (sSet 11 (eCall fn_law_cell_at (aCons (eV 0) (aCons (eB oAdd (eC (.int 1)) (eB oMod (eW 10) (eC (.int 62)))) aNil)))) (sSet 8 (eB oAdd (eW 8) (eB oIx (eW 5) (eB oMod (eCall fn_law_mixed (aCons (eV 11) (aCons (eV 10) aNil))) (eU oLen (eW 5))))))))) (sAppend 6 (eV 8))))) (sRet (eU oTuple (eW 6)))))))))))
def fn_law_hall : List D → Res D := fn 1 12 b_law_hall
theorem fe_law_hall (x0 : D) : fn_law_hall [x0] = retK (b_law_hall [some (.val x0), none, none, none, none, none, none, none, none, none, none, none]) := fn_a _ _ _ _ rfl
def b_law_named : SF := (sSeq (sSet 2 (eC (.str letters))) (sSeq (sSet 3 (eB oAdd (eC (.int 1)) (eB oMod (eW 0) (eC (.int 8))))) (sSeq (sSet 4 (eB oMod (eB oDiv (eW 0) (eC (.int 8))) (eW 3))) (sSeq (sSet 5 (eC (.str []))) (sSeq (sFor (iRng1 (eV 3)) (gName 6) (sSeq (sSet 7 (eB oAdd (eB oDiv (eW 0) (eB oAdd (eC (.int 64)) (eB oMul (eC (.int 29)) (eW 6)))) (eB oMul (eB oMul (eC (.int 3)) (eW 1)) (eU oInt (eB oEq (eW 6) (eW 4)))))) (sSet 5 (eB oAdd (eW 5) (eB oIx (eW 2) (eB oMod (eW 7) (eC (.int 26)))))))) (sRet (eV 5)))))))
def fn_law_named : List D → Res D := fn 2 8 b_law_named
def b_law_wishes : SF := (sSeq (sOwn 1 (lDisp aNil)) (sSeq (sFor (iRng1 (eC (.int 6))) (gName 2) (sIf (tE (eB oEq (eB oMod (eCall fn_law_mixed (aCons (eV 0) (aCons (eB oAdd (eC (.int 70)) (eW 2)) aNil))) (eC (.int 4))) (eC (.int 0)))) (sSeq (sSet 3 (eB oAdd (eC (.int 1)) (eB oMod (eCall fn_law_mixed (aCons (eV 0) (aCons (eB oAdd (eC (.int 80)) (eW 2)) aNil))) (eC (.int 3))))) (sSeq (sIf (tE (eB oEq (eB oMod (eW 0) (eC (.int 2))) (eC (.int 1)))) (sSet 3 (eB oAdd (eC (.int 1)) (eB oMod (eB oMul (eW 0) (eC (.int 7919))) (eB oSub (eB oPow (eC (.int 10)) (eC (.int 60))) (eC (.int 1)))))) sNext) (sAppend 1 (eTup (aCons (eV 2) (aCons (eV 3) aNil)))))) sNext)) (sRet (eU oTuple (eW 1)))))
def fn_law_wishes : List D → Res D := fn 1 4 b_law_wishes
theorem fe_law_wishes (x0 : D) : fn_law_wishes [x0] = retK (b_law_wishes [some (.val x0), none, none, none]) := fn_a _ _ _ _ rfl
def b_law_any_group : SF := (sSeq (sSet 2 (eB oAdd (eC (.int 1)) (eB oMod (eW 0) (eC (.int 12))))) (sSeq (sSet 3 (eB oAdd (eC (.int 1)) (eB oMod (eB oDiv (eW 0) (eC (.int 12))) (eC (.int 3))))) (sSeq (sSet 4 (eSl (eC (.str letters)) (pAt (eB oSub (eB oMod (eB oDiv (eW 0) (eC (.int 36))) (eC (.int 27))) (eC (.int 1)))) (pAt (eB oMod (eB oDiv (eW 0) (eC (.int 36))) (eC (.int 27)))))) (sSeq (sSet 5 (eB oMod (eB oDiv (eW 0) (eC (.int 972))) (eC (.int 7)))) (sSeq (sSet 0 (eB oDiv (eW 0) (eC (.int 6804)))) (sSeq (sSet 6 (eB oMod (eW 0) (eB oAdd (eB oMul (eW 2) (eW 3)) (eC (.int 1))))) (sSeq (sSet 0 (eB oDiv (eW 0) (eB oAdd (eB oMul (eW 2) (eW 3)) (eC (.int 1))))) (sSeq (sSet 7 (eB oMod (eW 0) (eB oPow (eC (.int 10)) (eC (.int 60))))) (sSeq (sSet 0 (eB oDiv (eW 0) (eB oPow (eC (.int 10)) (eC (.int 60))))) (sSeq (sOwn 8 (lDisp aNil)) (sSeq (sFor (iRng1 (eC (.int 6))) (gName 9) (sSeq (sIf (tE (eB oEq (eB oMod (eW 0) (eC (.int 2))) (eC (.int 1)))) (sAppend 8 (eTup (aCons (eV 9) (aCons (eB oAdd (eC (.int 1)) (eB oMod (eB oDiv (eW 0) (eC (.int 2))) (eB oSub (eB oPow (eC (.int 10)) (eC (.int 60))) (eC (.int 1))))) aNil)))) sNext) (sSet 0 (eB oDiv (eB oDiv (eW 0) (eC (.int 2))) (eB oSub (eB oPow (eC (.int 10)) (eC (.int 60))) (eC (.int 1))))))) (sRet (eTup (aCons (eV 1) (aCons (eV 2) (aCons (eV 3) (aCons (eV 4) (aCons (eV 6) (aCons (eV 5) (aCons (eV 7) (aCons (eU oTuple (eW 8)) aNil)))))))))))))))))))))
def fn_law_any_group : List D → Res D := fn 2 10 b_law_any_group
def b_law_group : SF := (sSeq (sSet 2 (eCall fn_law_cell_at (aCons (eV 0) (aCons (eC (.int 0)) aNil)))) (sSeq (sSet 3 (eCall fn_law_cell_at (aCons (eV 0) (aCons (eB oAdd (eC (.int 2)) (eB oMul (eC (.int 7)) (eW 1))) aNil)))) (sSeq (sSet 4 (eCall fn_law_named (aCons (eCall fn_law_cell_at (aCons (eV 0) (aCons (eC (.int 1)) aNil))) (aCons (eV 1) aNil)))) (sSeq (sIf (tE (eB oEq (eB oMod (eB oDiv (eCall fn_law_cell_at (aCons (eV 0) (aCons (eB oAdd (eC (.int 3)) (eB oMul (eC (.int 7)) (eW 1))) aNil))) (eC (.int 2))) (eC (.int 2))) (eC (.int 1)))) (sRet (eCall fn_law_any_group (aCons (eV 3) (aCons (eV 4) aNil)))) sNext) (sSeq (sSet 5 (eB oIx (eL (lDisp (aCons (eC (.int 1)) (aCons (eC (.int 1)) (aCons (eC (.int 2)) (aCons (eC (.int 2)) (aCons (eC (.int 3)) (aCons (eC (.int 4)) (aCons (eC (.int 2)) (aCons (eB oAdd (eC (.int 1)) (eB oMod (eB oDiv (eW 3) (eC (.int 8))) (eC (.int 12)))) aNil)))))))))) (eB oMod (eCall fn_law_mixed (aCons (eV 3) (aCons (eC (.int 1)) aNil))) (eC (.int 8))))) (sSeq (sSet 6 (eB oIx (eL (lDisp (aCons (eC (.int 1)) (aCons (eC (.int 1)) (aCons (eC (.int 1)) (aCons (eC (.int 2)) (aCons (eC (.int 2)) (aCons (eC (.int 3)) aNil)))))))) (eB oMod (eCall fn_law_mixed (aCons (eV 3) (aCons (eC (.int 2)) aNil))) (eC (.int 6))))) (sSeq (sSet 7 (eB oIx (eL (lCat (eL (lDisp (aCons (eC (.str [])) (aCons (eC (.str [])) (aCons (eC (.str [])) aNil))))) (eCall fn_law_letters (aCons (eV 2) aNil)))) (eB oMod (eCall fn_law_mixed (aCons (eV 3) (aCons (eC (.int 3)) aNil))) (eC (.int 6))))) (sSeq (sSet 8 (eB oIx (eL (lDisp (aCons (eC (.int 0)) (aCons (eC (.int 0)) (aCons (eC (.int 0)) (aCons (eC (.int 0)) (aCons (eC (.int 1)) (aCons (eB oMod (eCall fn_law_mixed (aCons (eV 3) (aCons (eC (.int 4)) aNil))) (eB oAdd (eB oMul (eW 5) (eW 6)) (eC (.int 1)))) aNil)))))))) (eB oMod (eCall fn_law_mixed (aCons (eV 3) (aCons (eC (.int 5)) aNil))) (eC (.int 6))))) (sSeq (sSet 9 (eB oIx (eL (lDisp (aCons (eC (.int 0)) (aCons (eC (.int 0)) (aCons (eC (.int 1)) (aCons (eC (.int 1)) (aCons (eC (.int 2)) (aCons (eB oMod (eCall fn_law_mixed (aCons (eV 3) (aCons (eC (.int 6)) aNil))) (eC (.int 7))) aNil)))))))) (eB oMod (eCall fn_law_mixed (aCons (eV 3) (aCons (eC (.int 7)) aNil))) (eC (.int 6))))) (sSeq (sSet 10 (eB oIx (eL (lDisp (aCons (eB oMod (eCall fn_law_mixed (aCons (eV 3) (aCons (eC (.int 8)) aNil))) (eC (.int 4))) (aCons (eB oMod (eB oMul (eB oDiv (eW 3) (eC (.int 3))) (eB oPow (eC (.int 7919)) (eC (.int 9)))) (eB oPow (eC (.int 10)) (eC (.int 60)))) aNil)))) (eU oInt (eB oEq (eB oMod (eW 3) (eC (.int 3))) (eC (.int 2)))))) (sSeq (sSet 11 (eCall fn_law_wishes (aCons (eCall fn_law_cell_at (aCons (eV 0) (aCons (eB oAdd (eC (.int 3)) (eB oMul (eC (.int 7)) (eW 1))) aNil))) aNil))) (sRet (eTup (aCons (eV 4) (aCons (eV 5) (aCons (eV 6) (aCons (eV 7) (aCons (eV 8) (aCons (eV 9) (aCons (eV 10) (aCons (eV 11) aNil)))))))))))))))))))))
def fn_law_group : List D → Res D := fn 2 12 b_law_group
theorem fe_law_group (x0 x1 : D) : fn_law_group [x0, x1] = retK (b_law_group [some (.val x0), some (.val x1), none, none, none, none, none, none, none, none, none, none]) := fn_a _ _ _ _ rfl
def b_sign_at : SF := (sSeq (sSet 2 (eB oIx (eW 1) (eC (.int 0)))) (sSeq (sSet 3 (eB oIx (eW 1) (eC (.int 1)))) (sSeq (sIf (tAnd (tE (eChain oLe oLt (eC (.int 0)) (eW 2) (eU oLen (eW 0)))) (tE (eChain oLe oLt (eC (.int 0)) (eW 3) (eU oLen (eB oIx (eW 0) (eC (.int 0))))))) (sRet (eB oIx (eB oIx (eW 0) (eW 2)) (eW 3))) sNext) (sRet (eC .non)))))
def fn_sign_at : List D → Res D := fn 2 4 b_sign_at
def b_fits : SF := (sSeq (sSet 3 (eL (lComp (iSeq (eCall fn_seats_of (aCons (eV 1) (aCons (eV 2) aNil)))) 1 [0] (gName 0) tTrue (eCall fn_sign_at (aCons (eV 1) (aCons (eV 0) aNil)))))) (sSeq (sIf (tNot (tE (eU oAll (eL (lComp (iSeq (eW 3)) 1 [1] (gName 0) tTrue (eCall fn_takes (aCons (eV 0) (aCons (eB oIx (eW 1) (eC (.int 3))) aNil)))))))) (sRet (eC (.bl false))) sNext) (sRet (eB oGe (eB oCount (eW 3) (eC (.str [61]))) (eB oIx (eW 1) (eC (.int 4)))))))
def fn_fits : List D → Res D := fn 3 4 b_fits
def b_law_takes : SF := (sSeq (sIf (tOr (tE (eB oEq (eW 0) (eC (.str [46])))) (tE (eB oEq (eW 0) (eC (.str [61]))))) (sRet (eC (.bl true))) sNext) (sRet (eAnd (eB oEq (eU oLen (eW 1)) (eC (.int 1))) (eB oEq (eW 0) (eW 1)))))
def fn_law_takes : List D → Res D := fn 2 2 b_law_takes
def b_law_fits : SF := (sSeq (sSet 3 (eC (.int 0))) (sSeq (sFor (iRng2 (eB oIx (eW 2) (eC (.int 0))) (eB oAdd (eB oIx (eW 2) (eC (.int 0))) (eB oIx (eW 1) (eC (.int 2))))) (gName 4) (sFor (iRng2 (eB oIx (eW 2) (eC (.int 1))) (eB oAdd (eB oIx (eW 2) (eC (.int 1))) (eB oIx (eW 1) (eC (.int 1))))) (gName 5) (sSeq (sIf (tOr (tE (eB oNotInRng (eW 4) (eU oLen (eW 0)))) (tE (eB oNotInRng (eW 5) (eU oLen (eB oIx (eW 0) (eC (.int 0))))))) (sRet (eC (.bl false))) sNext) (sSeq (sIf (tNot (tE (eCall fn_law_takes (aCons (eB oIx (eB oIx (eW 0) (eW 4)) (eW 5)) (aCons (eB oIx (eW 1) (eC (.int 3))) aNil))))) (sRet (eC (.bl false))) sNext) (sSet 3 (eB oAdd (eW 3) (eU oInt (eB oEq (eB oIx (eB oIx (eW 0) (eW 4)) (eW 5)) (eC (.str [61])))))))))) (sRet (eB oGe (eW 3) (eB oIx (eW 1) (eC (.int 4)))))))
def fn_law_fits : List D → Res D := fn 3 6 b_law_fits
def b_law_places : SF := (sSeq (sOwn 2 (lDisp aNil)) (sSeq (sFor (iRng1 (eU oLen (eW 0))) (gName 3) (sFor (iRng1 (eU oLen (eB oIx (eW 0) (eW 3)))) (gName 4) (sIf (tE (eCall fn_law_fits (aCons (eV 0) (aCons (eV 1) (aCons (eTup (aCons (eV 3) (aCons (eV 4) aNil))) aNil))))) (sAppend 2 (eTup (aCons (eV 3) (aCons (eV 4) aNil)))) sNext))) (sFrz 2 (sRet (eV 2)))))
def fn_law_places : List D → Res D := fn 2 5 b_law_places
def b_places_of : SF := (sSeq (sOwn 2 (lDisp aNil)) (sSeq (sFor (iRng1 (eU oLen (eW 0))) (gName 3) (sExt 2 (lComp (iRng1 (eU oLen (eB oIx (eW 0) (eW 3)))) 1 [0, 1, 3] (gName 0) (tE (eCall fn_fits (aCons (eV 1) (aCons (eV 2) (aCons (eTup (aCons (eV 3) (aCons (eV 0) aNil))) aNil))))) (eTup (aCons (eV 3) (aCons (eV 0) aNil)))))) (sRet (eU oTuple (eW 2)))))
def fn_places_of : List D → Res D := fn 2 4 b_places_of
def b_apart : SF := (sSeq (sIf (tOr (tE (eB oLe (eB oAdd (eB oIx (eW 1) (eC (.int 0))) (eB oIx (eW 0) (eC (.int 2)))) (eB oIx (eW 3) (eC (.int 0))))) (tE (eB oLe (eB oAdd (eB oIx (eW 3) (eC (.int 0))) (eB oIx (eW 2) (eC (.int 2)))) (eB oIx (eW 1) (eC (.int 0)))))) (sRet (eC (.bl true))) sNext) (sSeq (sSet 4 (eB oMax (eB oIx (eW 0) (eC (.int 5))) (eB oIx (eW 2) (eC (.int 5))))) (sRet (eOr (eB oLe (eB oAdd (eB oAdd (eB oIx (eW 1) (eC (.int 1))) (eB oIx (eW 0) (eC (.int 1)))) (eW 4)) (eB oIx (eW 3) (eC (.int 1)))) (eB oLe (eB oAdd (eB oAdd (eB oIx (eW 3) (eC (.int 1))) (eB oIx (eW 2) (eC (.int 1)))) (eW 4)) (eB oIx (eW 1) (eC (.int 1))))))))
def fn_apart : List D → Res D := fn 4 5 b_apart
def b_law_apart : SF := (sSeq (sSet 4 (eL (lComp (iRng2 (eB oIx (eW 1) (eC (.int 0))) (eB oAdd (eB oIx (eW 1) (eC (.int 0))) (eB oIx (eW 0) (eC (.int 2))))) 1 [3, 2] (gName 0) (tE (eChain oLe oLt (eB oIx (eW 1) (eC (.int 0))) (eW 0) (eB oAdd (eB oIx (eW 1) (eC (.int 0))) (eB oIx (eW 2) (eC (.int 2)))))) (eV 0)))) (sSeq (sIf (tE (eB oEq (eW 4) (eL (lDisp aNil)))) (sRet (eC (.bl true))) sNext) (sSeq (sSet 5 (eB oIx (eL (lDisp (aCons (eB oIx (eW 0) (eC (.int 5))) (aCons (eB oIx (eW 2) (eC (.int 5))) aNil)))) (eU oInt (eB oGt (eB oIx (eW 2) (eC (.int 5))) (eB oIx (eW 0) (eC (.int 5))))))) (sSeq (sIf (tE (eB oLt (eB oIx (eW 1) (eC (.int 1))) (eB oIx (eW 3) (eC (.int 1))))) (sRet (eB oGe (eB oSub (eB oSub (eB oIx (eW 3) (eC (.int 1))) (eB oIx (eW 1) (eC (.int 1)))) (eB oIx (eW 0) (eC (.int 1)))) (eW 5))) sNext) (sRet (eB oGe (eB oSub (eB oSub (eB oIx (eW 1) (eC (.int 1))) (eB oIx (eW 3) (eC (.int 1)))) (eB oIx (eW 2) (eC (.int 1)))) (eW 5)))))))
def fn_law_apart : List D → Res D := fn 4 6 b_law_apart
def b_those_that_sit : SF := (sRet (eL (lComp (iZip (eV 0) (eV 1)) 2 [] (gTup [0, 1]) (tE (eU oNotN (eW 1))) (eTup (aCons (eV 0) (aCons (eV 1) aNil))))))
def fn_those_that_sit : List D → Res D := fn 2 2 b_those_that_sit
def b_apart_from_all : SF := (sRet (eU oAll (eL (lComp (iSeq (eW 2)) 2 [0, 1] (gTup [0, 1]) tTrue (eCall fn_apart (aCons (eV 2) (aCons (eV 3) (aCons (eV 0) (aCons (eV 1) aNil)))))))))
def fn_apart_from_all : List D → Res D := fn 3 3 b_apart_from_all
def b_keeps : SF := (sSeq (sSet 3 (eCall fn_those_that_sit (aCons (eV 1) (aCons (eV 2) aNil)))) (sSeq (sIf (tNot (tE (eU oAll (eL (lComp (iSeq (eW 3)) 2 [0] (gTup [0, 1]) tTrue (eCall fn_fits (aCons (eV 2) (aCons (eV 0) (aCons (eV 1) aNil))))))))) (sRet (eC (.bl false))) sNext) (sRet (eU oAll (eL (lComp (iRng1 (eU oLen (eW 3))) 1 [3] (gName 0) tTrue (eCall fn_apart_from_all (aCons (eB oIx (eB oIx (eW 1) (eW 0)) (eC (.int 0))) (aCons (eB oIx (eB oIx (eW 1) (eW 0)) (eC (.int 1))) (aCons (eL (lSl (eW 1) pNo (pAt (eW 0)))) aNil))))))))))
def fn_keeps : List D → Res D := fn 3 4 b_keeps
def b_law_keeps : SF := (sSeq (sFor (iRng1 (eU oLen (eW 1))) (gName 3) (sIf (tE (eU oNotN (eB oIx (eW 2) (eW 3)))) (sSeq (sIf (tNot (tE (eCall fn_law_fits (aCons (eV 0) (aCons (eB oIx (eW 1) (eW 3)) (aCons (eB oIx (eW 2) (eW 3)) aNil)))))) (sRet (eC (.bl false))) sNext) (sFor (iRng1 (eV 3)) (gName 4) (sSeq (sSet 5 (eB oIx (eW 2) (eW 4))) (sSeq (sIf (tE (eU oIsN (eW 5))) sCont sNext) (sIf (tNot (tE (eCall fn_law_apart (aCons (eB oIx (eW 1) (eW 4)) (aCons (eV 5) (aCons (eB oIx (eW 1) (eW 3)) (aCons (eB oIx (eW 2) (eW 3)) aNil))))))) (sRet (eC (.bl false))) sNext))))) sNext)) (sRet (eC (.bl true))))
def fn_law_keeps : List D → Res D := fn 3 6 b_law_keeps
def b_law_groups : SF := (sSeq (sSet 1 (eCall fn_law_cell_at (aCons (eV 0) (aCons (eC (.int 0)) aNil)))) (sSeq (sSet 2 (eB oIx (eL (lDisp (aCons (eB oMod (eB oDiv (eW 1) (eC (.int 5))) (eC (.int 5))) (aCons (eC (.int 6)) aNil)))) (eU oInt (eB oEq (eB oMod (eB oDiv (eW 1) (eC (.int 25))) (eC (.int 8))) (eC (.int 3)))))) (sRet (eU oTuple (eL (lComp (iRng1 (eV 2)) 1 [0] (gName 0) tTrue (eCall fn_law_group (aCons (eV 1) (aCons (eV 0) aNil)))))))))
def fn_law_groups : List D → Res D := fn 1 3 b_law_groups
def b_law_open : SF := (sSeq (sOwn 4 (lDisp aNil)) (sSeq (sFor (iSeq (eCall fn_law_places (aCons (eV 0) (aCons (eV 3) aNil)))) (gName 5) (sSeq (sSet 6 (eL (lComp (iRng1 (eU oLen (eW 2))) 1 [2] (gName 0) (tE (eU oNotN (eB oIx (eW 1) (eW 0)))) (eV 0)))) (sIf (tE (eB oEq (eL (lComp (iSeq (eW 6)) 1 [1, 2, 3, 5] (gName 0) (tNot (tE (eCall fn_law_apart (aCons (eB oIx (eW 1) (eW 0)) (aCons (eB oIx (eW 2) (eW 0)) (aCons (eV 3) (aCons (eV 4) aNil))))))) (eV 0))) (eL (lDisp aNil)))) (sAppend 4 (eV 5)) sNext))) (sFrz 4 (sRet (eV 4)))))
def fn_law_open : List D → Res D := fnB [false, false, true, false] 7 b_law_open
def b_law_seated : SF := (sSeq (sOwn 3 (lDisp aNil)) (sSeq (sFor (iEnum (eV 1)) (gTup [4, 5]) (sSeq (sSet 6 (eCall fn_law_mixed (aCons (eCall fn_law_cell_at (aCons (eV 2) (aCons (eB oAdd (eC (.int 3)) (eB oMul (eC (.int 5)) (eW 4))) aNil))) (aCons (eB oAdd (eC (.int 30)) (eW 4)) aNil)))) (sSeq (sSet 7 (eCall fn_law_open (aCons (eV 0) (aCons (eV 1) (aCons (eW 3) (aCons (eV 5) aNil)))))) (sIf (tOr (tE (eB oEq (eW 7) (eL (lDisp aNil)))) (tE (eB oEq (eB oMod (eW 6) (eC (.int 5))) (eC (.int 0))))) (sAppend 3 (eC .non)) (sAppend 3 (eB oIx (eW 7) (eB oMod (eB oDiv (eW 6) (eC (.int 5))) (eU oLen (eW 7))))))))) (sRet (eU oTuple (eW 3)))))
def fn_law_seated : List D → Res D := fn 3 8 b_law_seated
def b_most_in : SF := (sSeq (sOwn 3 (lDisp aNil)) (sSeq (sFor (iSeq (eCall fn_places_of (aCons (eV 0) (aCons (eV 2) aNil)))) (gName 4) (sSeq (sIf (tE (eB oNe (eB oIx (eW 4) (eC (.int 0))) (eW 1))) sCont sNext) (sIf (tOr (tE (eB oEq (eW 3) (eL (lDisp aNil)))) (tE (eCall fn_apart (aCons (eV 2) (aCons (eTup (aCons (eV 1) (aCons (eB oIx (eW 3) (eU oNeg (eC (.int 1)))) aNil))) (aCons (eV 2) (aCons (eV 4) aNil))))))) (sAppend 3 (eB oIx (eW 4) (eC (.int 1)))) sNext))) (sRet (eU oTuple (eW 3)))))
def fn_most_in : List D → Res D := fn 3 5 b_most_in
def b_stakes : SF := (sRet (eU oTuple (eL (lComp (iSeq (eCall fn_most_in (aCons (eV 0) (aCons (eV 1) (aCons (eV 2) aNil))))) 1 [2] (gName 0) tTrue (eB oSub (eB oAdd (eB oAdd (eW 0) (eB oIx (eW 1) (eC (.int 1)))) (eB oIx (eW 1) (eC (.int 5)))) (eC (.int 1)))))))
def fn_stakes : List D → Res D := fn 3 3 b_stakes
end KG
end
set_option linter.unusedSimpArgs false
set_option linter.unusedVariables false
set_option maxRecDepth 4000
namespace KG
open Z
abbrev Rows := List (List Nat)
abbrev Pl := Int × Int
structure Hall (rows : Rows) (C : Nat) : Prop where
  r1 : 1 ≤ rows.length
  r2 : rows.length ≤ 100
  c1 : 1 ≤ C
  c2 : C ≤ 100
  len : ∀ x ∈ rows, x.length = C
structure G where
  name : List Nat
  w : Nat
  d : Nat
  kind : List Nat
  wide : Nat
  gap : Nat
  worth : D
  wishes : D
structure GOk (g : G) : Prop where
  w1 : 1 ≤ g.w
  w2 : g.w ≤ 13
  d1 : 1 ≤ g.d
  d2 : g.d ≤ 4
  kd : g.kind.length ≤ 1
  wd : g.wide ≤ 100
  gp : g.gap ≤ 100
def encH (rows : Rows) : D := .tup (rows.map .str)
def encP (p : Pl) : D := .tup [.int p.1, .int p.2]
def encG (g : G) : D := .tup [.str g.name, .int g.w, .int g.d, .str g.kind, .int g.wide, .int g.gap, g.worth, g.wishes]
def encS : Option Nat → D
  | some c => .str [c]
  | none => .non
@[simp] theorem p_ix0 (p : Pl) : oIx (encP p) (.int 0) = .ok (.int p.1) := rfl
@[simp] theorem p_ix1 (p : Pl) : oIx (encP p) (.int 1) = .ok (.int p.2) := rfl
@[simp] theorem g_ix0 (g : G) : oIx (encG g) (.int 0) = .ok (.str g.name) := rfl
@[simp] theorem g_ix1 (g : G) : oIx (encG g) (.int 1) = .ok (.int g.w) := rfl
@[simp] theorem g_ix2 (g : G) : oIx (encG g) (.int 2) = .ok (.int g.d) := rfl
@[simp] theorem g_ix3 (g : G) : oIx (encG g) (.int 3) = .ok (.str g.kind) := rfl
@[simp] theorem g_ix4 (g : G) : oIx (encG g) (.int 4) = .ok (.int g.wide) := rfl
@[simp] theorem g_ix5 (g : G) : oIx (encG g) (.int 5) = .ok (.int g.gap) := rfl
@[simp] theorem g_ix6 (g : G) : oIx (encG g) (.int 6) = .ok g.worth := rfl
@[simp] theorem g_ix7 (g : G) : oIx (encG g) (.int 7) = .ok g.wishes := rfl
@[simp] theorem h_len (rows : Rows) : oLen (encH rows) = .ok (.int rows.length) := by simp [encH]
@[simp] theorem tup_P (a b : Int) : D.tup [.int a, .int b] = encP (a, b) := rfl
theorem capt_a (ρ : Env) (is : List Nat) : capt ρ is = is.map (capt1 ρ) := rfl
def captK : Option (Option L) → Option L
  | some (some (.val d)) => some (.val d)
  | some (some (.bor xs)) => some (.bor xs)
  | some (some (.fdc ks)) => some (.fdc ks)
  | _ => none
theorem capt1_a (ρ : Env) (i : Nat) : capt1 ρ i = captK ρ[i]? := by
  unfold capt1 captK
  cases ρ[i]? with
  | none => rfl
  | some o => cases o with
    | none => rfl
    | some l => cases l <;> rfl
@[simp] theorem captK_bor (xs : List D) : captK (some (some (.bor xs))) = some (.bor xs) := rfl
@[simp] theorem captK_fdc (ks : List (List Int)) : captK (some (some (.fdc ks))) = some (.fdc ks) := rfl
@[simp] theorem captK_val (d : D) : captK (some (some (.val d))) = some (.val d) := rfl
theorem Hall.row {rows : Rows} {C : Nat} (H : Hall rows C) {r : Nat} (h : r < rows.length) : ∃ row, rows[r]? = some row ∧ row.length = C ∧ oIx (encH rows) (.int r) = .ok (.str row) := by
  refine ⟨rows[r], List.getElem?_eq_getElem h, H.len _ (List.getElem_mem h), (ix_at (j := r) rfl ?_).1⟩
  rw [List.getElem?_map, List.getElem?_eq_getElem h]; rfl
def signAt (rows : Rows) (p : Pl) : Option Nat := if 0 ≤ p.1 ∧ 0 ≤ p.2 then (rows[p.1.toNat]?).bind (fun r => r[p.2.toNat]?) else none
def takesB (kind : List Nat) : Option Nat → Bool
  | some c => decide (c = 46 ∨ c = 61 ∨ kind = [c])
  | none => false
def rowSeats (w : Nat) (r c : Int) : List Pl := (List.range w).map fun j => (r, c + (j : Nat))
def seatsN (w : Nat) (p : Pl) (n : Nat) : List Pl := (List.range n).flatMap fun i => rowSeats w (p.1 + (i : Nat)) p.2
def seats (g : G) (p : Pl) : List Pl := seatsN g.w p g.d
theorem ints_map (lo : Int) (n : Nat) : zints lo n = (List.range n).map fun i => D.int (lo + (i : Nat)) := rfl
theorem ints_get {lo : Int} {n j : Nat} {d : D} (h : (zints lo n)[j]? = some d) : j < n ∧ d = .int (lo + (j : Nat)) := by
  rw [ints_map, List.getElem?_map] at h
  cases q : (List.range n)[j]? with
  | none => rw [q] at h; cases h
  | some i =>
    rw [q] at h
    obtain ⟨h1, h2⟩ := List.getElem?_eq_some_iff.mp q
    rw [List.length_range] at h1
    rw [List.getElem_range] at h2
    subst h2
    simp at h
    exact ⟨h1, h.symm⟩
def wideB (rows : Rows) (s : Pl) : Bool := signAt rows s == some 61
def fitsB (rows : Rows) (g : G) (p : Pl) : Bool := (seats g p).all (fun s => takesB g.kind (signAt rows s)) && decide (g.wide ≤ (seats g p).countP (wideB rows))
theorem all_map {α : Type} (f : α → Bool) (xs : List α) : allB (xs.map fun x => D.bl (f x)) = some (xs.all f) := by
  have := allB_bl (xs.map f)
  rw [List.map_map] at this
  rw [show (xs.map fun x => D.bl (f x)) = xs.map (D.bl ∘ f) from rfl, this]
  congr 1
  induction xs with
  | nil => rfl
  | cons x xs ih => simp
def okS (rows : Rows) (g : G) (s : Pl) : Bool := takesB g.kind (signAt rows s)
def cntW (rows : Rows) (ss : List Pl) : Nat := ss.countP (wideB rows)
def allOk (rows : Rows) (g : G) (ss : List Pl) : Prop := ∀ s ∈ ss, okS rows g s = true
def rowPl (r C : Nat) : List Pl := (List.range C).map fun (c : Nat) => (((r : Nat) : Int), ((c : Nat) : Int))
def allPl (n C : Nat) : List Pl := (List.range n).flatMap fun r => rowPl r C
def places (rows : Rows) (C : Nat) (g : G) : List Pl := (allPl rows.length C).filter (fitsB rows g)
def apartB (g : G) (p : Pl) (h : G) (q : Pl) : Bool := decide (p.1 + g.d ≤ q.1 ∨ q.1 + h.d ≤ p.1 ∨ p.2 + g.w + max (g.gap : Int) (h.gap : Int) ≤ q.2 ∨ q.2 + h.w + max (g.gap : Int) (h.gap : Int) ≤ p.2)
end KG
set_option linter.unusedSimpArgs false
set_option linter.unusedVariables false
set_option maxRecDepth 8000
namespace KG
open Z
def Bd (ns : List Int) : Prop := ∀ i ∈ ns, bits i ≤ 2 ^ 20
theorem cell_at {ns : List Int} (hb : Bd ns) {k : Int} (h : 0 ≤ k) : ∃ c, fn_law_cell_at [.lst (ns.map .int), .int k] = .ok (.int c) ∧ bits c ≤ 2 ^ 20 := by
  by_cases hk : k < ns.length
  · have hj : k.toNat < ns.length := by omega
    have e := (ix_at (xs := ns.map D.int) (i := k) (j := k.toNat) (d := .int ns[k.toNat]) (by omega) (by simp [hj])).2
    refine ⟨ns[k.toNat], ?_, hb _ (List.getElem_mem hj)⟩
    rw [fe_law_cell_at]
    refine ret_ok ?_
    simp [b_law_cell_at, hk, e]
  · refine ⟨0, ?_, by decide⟩
    rw [fe_law_cell_at]
    refine ret_ok ?_
    simp [b_law_cell_at, hk]
theorem mixed (c : Int) {k : Int} (h0 : 0 ≤ k) (h1 : k ≤ 1000) : ∃ m, fn_law_mixed [.int c, .int k] = .ok (.int m) ∧ 0 ≤ m := by
  have q1 : mulFits 7919 k := mulFits_l (by decide) (by decide)
  have q2 : mulFits (7919 * k) k := mulFits_r (by omega) (by omega)
  have q3 : ∀ x, mulFits x 48271 := fun x => mulFits_r (by decide) (by decide)
  have q4 : ∀ x : Int, mulFits (x % 2147483647) (x % 2147483647) := fun x => mulFits_l (by omega) (by omega)
  have q5 : ∀ x, mulFits 69621 x := fun x => mulFits_l (by decide) (by decide)
  have q6 : ∀ x, mulFits x 39373 := fun x => mulFits_r (by decide) (by decide)
  have q7 : ∀ x, mulFits 11 x := fun x => mulFits_l (by decide) (by decide)
  rw [fe_law_mixed]
  have : Ok (retK (b_law_mixed [v (.int c), v (.int k), none])) fun d => ∃ m, d = .int m ∧ 0 ≤ m := by
    refine ret_Ok ?_
    simp [b_law_mixed, q1, q2, q3, q4, q5, q6, q7]
    omega
  obtain ⟨d, e, m, rfl, hm⟩ := this
  exact ⟨m, e, hm⟩
theorem letter_at (z : Int) : ∃ q ∈ letters, oIx (.str letters) (.int (z % 26)) = .ok (.str [q]) :=
  ix_str (by omega) (by simp [letters]; omega) (by decide)
theorem sign_of (z : Int) : ∃ q ∈ signs, oIx (.str signs) (.int (z % 29)) = .ok (.str [q]) :=
  ix_str (by omega) (by simp [signs]; omega) (by decide)
theorem letters_sign {q : Nat} (h : q ∈ letters) : q ∈ signs := (by decide : ∀ q ∈ letters, q ∈ signs) q h
theorem letters_ok (z : Int) : ∃ a b c, a ∈ letters ∧ b ∈ letters ∧ c ∈ letters ∧ fn_law_letters [.int z] = .ok (.lst [.str [a], .str [b], .str [c]]) := by
  obtain ⟨a, ha, ea⟩ := letter_at (z / 3 + 7 * 0)
  obtain ⟨b, hb, eb⟩ := letter_at (z / 3 + 7 * 1)
  obtain ⟨c, hc, ec⟩ := letter_at (z / 3 + 7 * 2)
  refine ⟨a, b, c, ha, hb, hc, ?_⟩
  rw [fe_law_letters]
  refine ret_ok ?_
  have q : ∀ x, mulFits 7 x := fun x => mulFits_l (by decide) (by decide)
  have e3 : zints 0 3 = [.int 0, .int 1, .int 2] := rfl
  simp at ea eb ec
  simp [b_law_letters, lComp_a, line, capt_a, capt1_a, e3, compGo, divFits_of, q, ea, eb, ec]
structure HallG (rows : Rows) (C : Nat) : Prop extends Hall rows C where
  r6 : rows.length ≤ 6
  c12 : C ≤ 12
  sg : ∀ x ∈ rows, ∀ c ∈ x, c ∈ signs
def RowsOk (C i : Nat) (rows : Rows) : Prop := rows.length = i ∧ ∀ x ∈ rows, x.length = C ∧ ∀ c ∈ x, c ∈ signs
def LineOk (j : Nat) (ln : List Nat) : Prop := ln.length = j ∧ ∀ c ∈ ln, c ∈ signs
theorem LineOk.nil : LineOk 0 [] := ⟨rfl, fun c h => by cases h⟩
theorem RowsOk.nil (C : Nat) : RowsOk C 0 [] := ⟨rfl, fun c h => by cases h⟩
theorem ix_all {xs : List D} {i : Int} {Q : D → Prop} (h0 : 0 ≤ i) (h1 : i < xs.length) (h : ∀ d ∈ xs, Q d) : Ok (oIx (.lst xs) (.int i)) Q := by
  obtain ⟨d, hd, e, _⟩ := ix_some h0 h1
  exact ⟨d, e, h d hd⟩
def Pool (ps : List Nat) : Prop := 1 ≤ ps.length ∧ ps.length ≤ 100 ∧ ∀ c ∈ ps, c ∈ signs
end KG
set_option maxRecDepth 4000
noncomputable section
namespace KA
open Z
def b_is_letter : SF := (sRet (eAnd (eB oEq (eU oLen (eW 0)) (eC (.int 1))) (eChain oLe oLe (eC (.str [97])) (eW 0) (eC (.str [122])))))
def fn_is_letter : List D → Res D := fn 1 1 b_is_letter
def b_is_sign : SF := (sRet (eOr (eB oIn (eW 0) (eTup (aCons (eC (.str [46])) (aCons (eC (.str [61])) (aCons (eC (.str [35])) aNil))))) (eCall fn_is_letter (aCons (eV 0) aNil))))
def fn_is_sign : List D → Res D := fn 1 1 b_is_sign
def b_is_row : SF := (sSeq (sIf (tOr (tNot (tE (eU (oIsTy .str) (eW 0)))) (tNot (tE (eChain oLe oLe (eC (.int 1)) (eU oLen (eW 0)) (eC (.int 12)))))) (sRet (eC (.bl false))) sNext) (sRet (eU oAll (eL (lComp (iSeq (eW 0)) 1 [] (gName 0) tTrue (eCall fn_is_sign (aCons (eV 0) aNil)))))))
def fn_is_row : List D → Res D := fn 1 1 b_is_row
def b_is_hall : SF := (sSeq (sIf (tOr (tNot (tE (eU (oIsTy .tuple) (eW 0)))) (tNot (tE (eChain oLe oLe (eC (.int 1)) (eU oLen (eW 0)) (eC (.int 6)))))) (sRet (eC (.bl false))) sNext) (sSeq (sIf (tNot (tE (eU oAll (eL (lComp (iSeq (eW 0)) 1 [] (gName 0) tTrue (eCall fn_is_row (aCons (eV 0) aNil))))))) (sRet (eC (.bl false))) sNext) (sRet (eU oAll (eL (lComp (iSeq (eW 0)) 1 [0] (gName 0) tTrue (eB oEq (eU oLen (eW 0)) (eU oLen (eB oIx (eW 1) (eC (.int 0)))))))))))
def fn_is_hall : List D → Res D := fn 1 1 b_is_hall
def b_law_cell_at : SF := (sSeq (sIf (tE (eB oLt (eW 1) (eU oLen (eW 0)))) (sRet (eB oIx (eW 0) (eW 1))) sNext) (sRet (eC (.int 0))))
def fn_law_cell_at : List D → Res D := fn 2 2 b_law_cell_at
theorem fe_law_cell_at (x0 x1 : D) : fn_law_cell_at [x0, x1] = retK (b_law_cell_at [some (.val x0), some (.val x1)]) := fn_a _ _ _ _ rfl
def b_law_mixed : SF := (sSeq (sIf (tE (eB oEq (eB oMod (eB oDiv (eW 0) (eC (.int 1000003))) (eC (.int 2))) (eC (.int 1)))) (sRet (eB oMod (eB oShr (eB oDiv (eW 0) (eC (.int 2000006))) (eB oMul (eC (.int 12)) (eW 1))) (eC (.int 4096)))) sNext) (sSeq (sSet 2 (eB oMod (eB oMul (eB oAdd (eB oAdd (eB oMod (eW 0) (eC (.int 2147483647))) (eB oMul (eB oMul (eC (.int 7919)) (eW 1)) (eW 1))) (eW 1)) (eC (.int 48271))) (eC (.int 2147483647)))) (sSeq (sSet 2 (eB oMod (eB oMul (eW 2) (eW 2)) (eC (.int 1000003)))) (sRet (eB oMod (eB oAdd (eB oAdd (eB oMul (eW 2) (eW 2)) (eB oMul (eC (.int 69621)) (eW 2))) (eW 1)) (eC (.int 998244353)))))))
def fn_law_mixed : List D → Res D := fn 2 3 b_law_mixed
theorem fe_law_mixed (x0 x1 : D) : fn_law_mixed [x0, x1] = retK (b_law_mixed [some (.val x0), some (.val x1), none]) := fn_a _ _ _ _ rfl
def b_law_letters : SF := (sSeq (sSet 1 (eC (.str letters))) (sRet (eL (lDisp (aCons (eB oIx (eW 1) (eB oMod (eB oDiv (eW 0) (eC (.int 100))) (eC (.int 26)))) (aCons (eB oIx (eW 1) (eB oMod (eB oDiv (eW 0) (eC (.int 2600))) (eC (.int 26)))) aNil))))))
def fn_law_letters : List D → Res D := fn 1 2 b_law_letters
theorem fe_law_letters (x0 : D) : fn_law_letters [x0] = retK (b_law_letters [some (.val x0), none]) := fn_a _ _ _ _ rfl
def b_law_hall : SF := (sSeq (sSet 4 (eB oAdd (eC (.int 1)) (eB oMod (eW 1) (eW 2)))) (sSeq (sSet 5 (eB oAdd (eC (.int 1)) (eB oMod (eB oDiv (eW 1) (eC (.int 8))) (eW 3)))) (sSeq (sSet 6 (eL (lCat (eL (lCat (eL (lDisp (aCons (eC (.str [46])) (aCons (eC (.str [46])) (aCons (eC (.str [61])) (aCons (eC (.str [46])) aNil)))))) (eCall fn_law_letters (aCons (eV 1) aNil)))) (eL (lDisp (aCons (eC (.str [35])) (aCons (eC (.str [46])) aNil))))))) (sSeq (sSet 7 (eCall fn_law_cell_at (aCons (eV 0) (aCons (eC (.int 0)) aNil)))) (sSeq (sOwn 8 (lDisp aNil)) (sSeq (sFor (iRng1 (eB oMul (eW 4) (eW 5))) (gName 9) (sSeq (sIf (tE (eB oEq (eB oMod (eW 9) (eW 5)) (eC (.int 0)))) (sAppend 8 (eC (.str []))) sNext) (sSeq (sSet 10 (eB oIx (eW 6) (eB oMod (eCall fn_law_mixed (aCons (eCall fn_law_cell_at (aCons (eV 0) (aCons (eV 9) aNil))) (aCons (eV 9) aNil))) (eC (.int 8))))) (sSeq (sIf (tE (eB oEq (eB oMod (eB oDiv (eW 1) (eC (.int 67600))) (eC (.int 2))) (eC (.int 1)))) (sSeq (sSet 10 (eB oIx (eC (.str signs)) (eB oMod (eW 7) (eC (.int 29))))) (sSet 7 (eB oDiv (eW 7) (eC (.int 29))))) sNext) (sPut 8 (eU oNeg (eC (.int 1))) (eB oAdd (eB oIx (eW 8) (eU oNeg (eC (.int 1)))) (eW 10))))))) (sRet (eU oTuple (eW 8)))))))))
def fn_law_hall : List D → Res D := fn 4 11 b_law_hall
theorem fe_law_hall (x0 x1 x2 x3 : D) : fn_law_hall [x0, x1, x2, x3] = retK (b_law_hall [some (.val x0), some (.val x1), some (.val x2), some (.val x3), none, none, none, none, none, none, none]) := fn_a _ _ _ _ rfl
end KA
end
set_option linter.unusedSimpArgs false
set_option linter.unusedVariables false
set_option maxRecDepth 8000
namespace KA
open Z
def Ints (xs : List D) : Prop := ∀ d ∈ xs, ∃ c, d = .int c
theorem cell_at {xs : List D} (hx : Ints xs) {k : Int} (h : 0 ≤ k) : ∃ c, fn_law_cell_at [.lst xs, .int k] = .ok (.int c) := by
  by_cases hk : k < xs.length
  · obtain ⟨d, hd, e, _⟩ := ix_some h hk
    obtain ⟨c, rfl⟩ := hx d hd
    refine ⟨c, ?_⟩
    rw [fe_law_cell_at]
    refine ret_ok ?_
    simp [b_law_cell_at, hk, e]
  · refine ⟨0, ?_⟩
    rw [fe_law_cell_at]
    refine ret_ok ?_
    simp [b_law_cell_at, hk]
theorem mixed (c : Int) {k : Int} (h0 : 0 ≤ k) (h1 : k ≤ 1000) : ∃ m, fn_law_mixed [.int c, .int k] = .ok (.int m) ∧ 0 ≤ m := by
  have f1 : mulFits 12 k := mulFits_l (by decide) (by decide)
  have f2 : mulFits 7919 k := mulFits_l (by decide) (by decide)
  have f3 : mulFits (7919 * k) k := mulFits_r (by omega) (by omega)
  have f4 : ∀ x, mulFits x 48271 := fun x => mulFits_r (by decide) (by decide)
  have f5 : ∀ x : Int, mulFits (x % 2147483647) (x % 2147483647) := fun x => mulFits_l (by omega) (by omega)
  have f6 : ∀ x : Int, mulFits (x % 1000003) (x % 1000003) := fun x => mulFits_l (by omega) (by omega)
  have f7 : ∀ x : Int, mulFits 69621 x := fun x => mulFits_l (by decide) (by decide)
  have hk : (0 : Int) ≤ 12 * k := by omega
  rw [fe_law_mixed]
  have : Ok (retK (b_law_mixed [v (.int c), v (.int k), none])) fun d => ∃ m, d = .int m ∧ 0 ≤ m := by
    refine ret_Ok ?_
    by_cases h : c / 1000003 % 2 = 1
    · simp [b_law_mixed, divFits_of, f1, hk, h]
      omega
    · simp [b_law_mixed, divFits_of, f1, f2, f3, f4, f5, f6, f7, hk, h]
      omega
  obtain ⟨d, e, m, rfl, hm⟩ := this
  exact ⟨m, e, hm⟩
theorem letter_at (z : Int) : ∃ q ∈ letters, oIx (.str letters) (.int (z % 26)) = .ok (.str [q]) :=
  ix_str (by omega) (by simp [letters]; omega) (by decide)
theorem sign_of (z : Int) : ∃ q ∈ signs, oIx (.str signs) (.int (z % 29)) = .ok (.str [q]) :=
  ix_str (by omega) (by simp [signs]; omega) (by decide)
theorem letters_sign {q : Nat} (h : q ∈ letters) : q ∈ signs := (by decide : ∀ q ∈ letters, q ∈ signs) q h
theorem letters_ok (h : Int) : ∃ a b, a ∈ letters ∧ b ∈ letters ∧ fn_law_letters [.int h] = .ok (.lst [.str [a], .str [b]]) := by
  obtain ⟨a, ha, ea⟩ := letter_at (h / 100)
  obtain ⟨b, hb, eb⟩ := letter_at (h / 2600)
  refine ⟨a, b, ha, hb, ?_⟩
  rw [fe_law_letters]
  refine ret_ok ?_
  simp [b_law_letters, divFits_of, ea, eb, line]
abbrev Rows := List (List Nat)
def Shape (L : Nat) (k : Nat) (rows : Rows) : Prop := (k = 0 ∧ rows = []) ∨ ∃ full last, rows = full ++ [last] ∧ (∀ x ∈ full, x.length = L) ∧ 1 ≤ last.length ∧ last.length ≤ L ∧ k = full.length * L + last.length
theorem Shape.end {L R : Nat} {rows : Rows} (hL : 1 ≤ L) (hR : 1 ≤ R) (h : Shape L (R * L) rows) : rows.length = R ∧ ∀ x ∈ rows, x.length = L := by
  rcases h with ⟨h, _⟩ | ⟨full, last, rfl, hf, h1, h2, h3⟩
  · have := Nat.mul_le_mul hR hL; omega
  · have hlt : full.length < R := by
      apply Nat.lt_of_mul_lt_mul_right (a := L)
      omega
    obtain ⟨m, hm⟩ : ∃ m, R = full.length + 1 + m := ⟨R - (full.length + 1), by omega⟩
    have e : R * L = full.length * L + L + m * L := by rw [hm, Nat.add_mul, Nat.add_mul, Nat.one_mul]
    have hm0 : m = 0 := by
      rcases Nat.eq_zero_or_pos m with h | h
      · exact h
      · have := Nat.mul_le_mul h hL; omega
    subst hm0
    refine ⟨by simp; omega, fun x hx => ?_⟩
    rcases List.mem_append.mp hx with hx | hx
    · exact hf x hx
    · rw [List.mem_singleton] at hx; subst hx; omega
theorem Shape.len {L k : Nat} {rows : Rows} (hL : 1 ≤ L) (h : Shape L k rows) : rows.length ≤ k := by
  rcases h with ⟨h, rfl⟩ | ⟨full, last, rfl, hf, h1, h2, h3⟩
  · simp
  · have : full.length * 1 ≤ full.length * L := Nat.mul_le_mul_left _ hL
    simp; omega
def fresh (L j : Nat) (rows : Rows) : Rows := if j % L = 0 then rows ++ [[]] else rows
theorem Shape.step {L j : Nat} {rows : Rows} (hL : 1 ≤ L) (h : Shape L j rows) : ∃ full last, fresh L j rows = full ++ [last] ∧ last.length < L ∧ (∀ s, Shape L (j + 1) (full ++ [last ++ [s]])) ∧ ((∀ x ∈ rows, ∀ c ∈ x, c ∈ signs) → (∀ x ∈ full, ∀ c ∈ x, c ∈ signs) ∧ ∀ c ∈ last, c ∈ signs) := by
  rcases h with ⟨rfl, rfl⟩ | ⟨full, last, rfl, hf, h1, h2, h3⟩
  · refine ⟨[], [], by simp [fresh], by simp; omega, fun s => Or.inr ⟨[], [s], rfl, by simp, by simp, by simpa using hL, by simp⟩, by simp⟩
  · by_cases e : last.length = L
    · have e0 : j % L = 0 := by rw [h3, e, ← Nat.succ_mul]; exact Nat.mul_mod_left _ _
      refine ⟨full ++ [last], [], by simp [fresh, e0], by simp; omega, fun s => Or.inr ⟨full ++ [last], [s], rfl, ?_, by simp, by simpa using hL, ?_⟩, fun h => ⟨h, by simp⟩⟩
      · intro x hx
        rcases List.mem_append.mp hx with hx | hx
        · exact hf x hx
        · rw [List.mem_singleton] at hx; subst hx; exact e
      · simp [Nat.succ_mul]; omega
    · have e0 : j % L ≠ 0 := by
        rw [h3, Nat.add_comm, Nat.add_mul_mod_self_right, Nat.mod_eq_of_lt (by omega)]; omega
      refine ⟨full, last, by simp [fresh, e0], by omega, fun s => Or.inr ⟨full, last ++ [s], rfl, hf, by simp, by simp; omega, by simp; omega⟩, fun h => ⟨fun x hx => h x (List.mem_append_left _ hx), h last (by simp)⟩⟩
structure Hall (R L : Nat) (rows : Rows) : Prop where
  r1 : 1 ≤ R
  r2 : R ≤ 6
  l1 : 1 ≤ L
  l2 : L ≤ 12
  len : rows.length = R
  each : ∀ x ∈ rows, x.length = L
  sg : ∀ x ∈ rows, ∀ c ∈ x, c ∈ signs
noncomputable def bApp : SF := (sIf (tE (eB oEq (eB oMod (eW 9) (eW 5)) (eC (.int 0)))) (sAppend 8 (eC (.str []))) sNext)
theorem app_ok (x0 x1 x2 x3 x4 x6 x7 x10 : Option Z.L) (L j : Nat) (hL : 1 ≤ L) (rows : Rows) (hr : rows.length < 16777216) : bApp [x0, x1, x2, x3, x4, vi L, x6, x7, ow (rows.map .str), vi j, x10] = .ok (.nx [x0, x1, x2, x3, x4, vi L, x6, x7, ow ((fresh L j rows).map .str), vi j, x10]) := by
  have h0 : 0 < L := by omega
  by_cases e : j % L = 0
  · have e' : (j : Int) % (L : Int) = 0 := by exact_mod_cast e
    simp [bApp, h0, e', fresh, e, hr, line, guard_pos]
  · have e' : ¬ (j : Int) % (L : Int) = 0 := by exact_mod_cast e
    simp [bApp, h0, e', fresh, e, hr, line]
noncomputable def bCell : SF := (sSet 10 (eB oIx (eW 6) (eB oMod (eCall fn_law_mixed (aCons (eCall fn_law_cell_at (aCons (eV 0) (aCons (eV 9) aNil))) (aCons (eV 9) aNil))) (eC (.int 8)))))
def Sg (sg : List D) : Prop := sg.length = 8 ∧ ∀ d ∈ sg, ∃ c ∈ signs, d = .str [c]
theorem cell_ok {xs sg : List D} (hx : Ints xs) (hs : Sg sg) (j : Nat) (hj : j ≤ 1000) (x1 x2 x3 x4 x5 x7 x8 x10 : Option Z.L) : ∃ s ∈ signs, bCell [v (.lst xs), x1, x2, x3, x4, x5, v (.lst sg), x7, x8, vi j, x10] = .ok (.nx [v (.lst xs), x1, x2, x3, x4, x5, v (.lst sg), x7, x8, vi j, vs [s]]) := by
  obtain ⟨c, ec⟩ := cell_at hx (k := (j : Int)) (by omega)
  obtain ⟨m, em, hm⟩ := mixed c (k := (j : Int)) (by omega) (by omega)
  obtain ⟨d, hd, ed, _⟩ := ix_some (xs := sg) (i := m % 8) (Int.emod_nonneg _ (by decide)) (by rw [hs.1]; omega)
  obtain ⟨s, hs, rfl⟩ := hs.2 d hd
  exact ⟨s, hs, by simp [bCell, ec, em, ed]⟩
noncomputable def bMode : SF := (sIf (tE (eB oEq (eB oMod (eB oDiv (eW 1) (eC (.int 67600))) (eC (.int 2))) (eC (.int 1)))) (sSeq (sSet 10 (eB oIx (eC (.str signs)) (eB oMod (eW 7) (eC (.int 29))))) (sSet 7 (eB oDiv (eW 7) (eC (.int 29))))) sNext)
theorem mode_ok (h c : Int) (s : Nat) (hs : s ∈ signs) (x0 x2 x3 x4 x5 x6 x8 x9 : Option Z.L) : ∃ c', ∃ s' ∈ signs, bMode [x0, vi h, x2, x3, x4, x5, x6, vi c, x8, x9, vs [s]] = .ok (.nx [x0, vi h, x2, x3, x4, x5, x6, vi c', x8, x9, vs [s']]) := by
  obtain ⟨a, ha, ea⟩ := sign_of c
  by_cases e : h / 67600 % 2 = 1
  · exact ⟨c / 29, a, ha, by simp [bMode, divFits_of, guard_pos, e, ea]⟩
  · exact ⟨c, s, hs, by simp [bMode, divFits_of, guard_pos, e]⟩
theorem ix_last (full : Rows) (last : List Nat) : oIx (.lst ((full ++ [last]).map D.str)) (.int (-1)) = .ok (.str last) := by
  have e : ixZ ((full ++ [last]).map D.str).length (-1) = some full.length := by
    simp [ixZ]; omega
  simp only [oIx, e]
  simp
theorem put_last (full : Rows) (last s : List Nat) : ixZ ((full ++ [last]).map D.str).length (-1) = some full.length ∧ ((full ++ [last]).map D.str).set full.length (.str s) = (full ++ [s]).map D.str := by
  refine ⟨by simp [ixZ]; omega, ?_⟩
  simp
noncomputable def bPut : SF := (sPut 8 (eU oNeg (eC (.int 1))) (eB oAdd (eB oIx (eW 8) (eU oNeg (eC (.int 1)))) (eW 10)))
theorem put_ok (full : Rows) (last : List Nat) (s : Nat) (hl : last.length < 100) (x0 x1 x2 x3 x4 x5 x6 x7 x9 : Option Z.L) : bPut [x0, x1, x2, x3, x4, x5, x6, x7, ow ((full ++ [last]).map .str), x9, vs [s]] = .ok (.nx [x0, x1, x2, x3, x4, x5, x6, x7, ow ((full ++ [last ++ [s]]).map .str), x9, vs [s]]) := by
  have e1 := ix_last full last
  obtain ⟨e2, e3⟩ := put_last full last (last ++ [s])
  have e4 : oAdd (.str last) (.str [s]) = .ok (.str (last ++ [s])) := by rw [oAdd_str', guard_pos]; simp [line]; omega
  simp only [bPut, sPut, eB_a, eU_a, eC_a, eW_a, asW_val, asW_own, oNeg_int, Res.bind, List.getElem?_cons_succ, List.getElem?_cons_zero, e1, e4, e2, e3, List.set_cons_succ, List.set_cons_zero]
theorem eb : b_law_hall = (sSeq (sSet 4 (eB oAdd (eC (.int 1)) (eB oMod (eW 1) (eW 2)))) (sSeq (sSet 5 (eB oAdd (eC (.int 1)) (eB oMod (eB oDiv (eW 1) (eC (.int 8))) (eW 3)))) (sSeq (sSet 6 (eL (lCat (eL (lCat (eL (lDisp (aCons (eC (.str [46])) (aCons (eC (.str [46])) (aCons (eC (.str [61])) (aCons (eC (.str [46])) aNil)))))) (eCall fn_law_letters (aCons (eV 1) aNil)))) (eL (lDisp (aCons (eC (.str [35])) (aCons (eC (.str [46])) aNil))))))) (sSeq (sSet 7 (eCall fn_law_cell_at (aCons (eV 0) (aCons (eC (.int 0)) aNil)))) (sSeq (sOwn 8 (lDisp aNil)) (sSeq (sFor (iRng1 (eB oMul (eW 4) (eW 5))) (gName 9) (sSeq bApp (sSeq bCell (sSeq bMode bPut)))) (sRet (eU oTuple (eW 8))))))))) := rfl
theorem hall {xs : List D} (hx : Ints xs) (h : Int) : ∃ (R L : Nat) (rows : Rows), Hall R L rows ∧ fn_law_hall [.lst xs, .int h, .int 6, .int 12] = .ok (.tup (rows.map .str)) := by
  obtain ⟨R, hR⟩ : ∃ R : Nat, 1 + h % 6 = R := ⟨(1 + h % 6).toNat, by omega⟩
  obtain ⟨L, hL⟩ : ∃ L : Nat, 1 + h / 8 % 12 = L := ⟨(1 + h / 8 % 12).toNat, by omega⟩
  have r1 : 1 ≤ R := by omega
  have r2 : R ≤ 6 := by omega
  have l1 : 1 ≤ L := by omega
  have l2 : L ≤ 12 := by omega
  have rl : R * L ≤ 72 := Nat.mul_le_mul r2 l2
  have f1 : mulFits (R : Int) (L : Int) := mulFits_l (by omega) (by omega)
  have eR : ((R : Int) * (L : Int)).toNat = R * L := by rw [← Int.natCast_mul, Int.toNat_natCast]
  obtain ⟨c0, e0⟩ := cell_at hx (k := 0) (by decide)
  obtain ⟨a, b, ha, hb, el⟩ := letters_ok h
  have hsg : Sg [.str [46], .str [46], .str [61], .str [46], .str [a], .str [b], .str [35], .str [46]] := by
    refine ⟨rfl, fun d hd => ?_⟩
    have k46 : 46 ∈ signs := by decide
    have k61 : 61 ∈ signs := by decide
    have k35 : 35 ∈ signs := by decide
    simp only [List.mem_cons, List.not_mem_nil, or_false] at hd
    rcases hd with rfl | rfl | rfl | rfl | rfl | rfl | rfl | rfl
    · exact ⟨_, k46, rfl⟩
    · exact ⟨_, k46, rfl⟩
    · exact ⟨_, k61, rfl⟩
    · exact ⟨_, k46, rfl⟩
    · exact ⟨_, letters_sign ha, rfl⟩
    · exact ⟨_, letters_sign hb, rfl⟩
    · exact ⟨_, k35, rfl⟩
    · exact ⟨_, k46, rfl⟩
  have : Ok (retK (b_law_hall [v (.lst xs), v (.int h), v (.int 6), v (.int 12), none, none, none, none, none, none, none])) fun d => ∃ rows, Hall R L rows ∧ d = .tup (rows.map .str) := by
    refine ret_Ok ?_
    rw [eb]
    simp [divFits_of, hR, hL, lCat_k, el, line, e0, f1, eR]
    refine for_at (fun i ρ => ∃ rows c o9 o10, Shape L i rows ∧ (∀ x ∈ rows, ∀ c ∈ x, c ∈ signs) ∧ ρ = [v (.lst xs), vi h, vi 6, vi 12, vi R, vi L, v (.lst [.str [46], .str [46], .str [61], .str [46], .str [a], .str [b], .str [35], .str [46]]), vi c, ow (rows.map .str), o9, o10]) ⟨[], c0, none, none, .inl ⟨rfl, rfl⟩, by simp, rfl⟩ ?_ ?_
    · rintro j d ρ hd ⟨rows, c, o9, o10, hsh, hsn, rfl⟩
      obtain ⟨hj, rfl⟩ := ints_at hd
      obtain ⟨full, last, ef, hl, hn, hsn2⟩ := hsh.step l1
      have hr : rows.length < 16777216 := by have := hsh.len l1; omega
      obtain ⟨s, hs, es⟩ := cell_ok hx hsg j (by omega) (vi h) (vi 6) (vi 12) (vi R) (vi L) (vi c) (ow ((fresh L j rows).map .str)) o10
      obtain ⟨c', s', hs', em⟩ := mode_ok h c s hs (v (.lst xs)) (vi 6) (vi 12) (vi R) (vi L) (v (.lst [.str [46], .str [46], .str [61], .str [46], .str [a], .str [b], .str [35], .str [46]])) (ow ((fresh L j rows).map .str)) (vi j)
      have q1 := app_ok (v (.lst xs)) (vi h) (vi 6) (vi 12) (vi R) (v (.lst [.str [46], .str [46], .str [61], .str [46], .str [a], .str [b], .str [35], .str [46]])) (vi c) o10 L j l1 rows hr
      have q2 := put_ok full last s' (by omega) (v (.lst xs)) (vi h) (vi 6) (vi 12) (vi R) (vi L) (v (.lst [.str [46], .str [46], .str [61], .str [46], .str [a], .str [b], .str [35], .str [46]])) (vi c') (vi j)
      rw [← ef] at q2
      refine ⟨_, rfl, ?_⟩
      simp only [List.set_cons_succ, List.set_cons_zero]
      rw [sSeq_a, q1, Res.bind, seqK_nx, sSeq_a, es, Res.bind, seqK_nx, sSeq_a, em, Res.bind, seqK_nx, q2]
      refine ⟨_, rfl, full ++ [last ++ [s']], c', _, _, hn s', ?_, rfl⟩
      obtain ⟨g1, g2⟩ := hsn2 hsn
      intro x hx c hc
      rcases List.mem_append.mp hx with hx | hx
      · exact g1 x hx c hc
      · rw [List.mem_singleton] at hx
        subst hx
        rcases List.mem_append.mp hc with hc | hc
        · exact g2 c hc
        · rw [List.mem_singleton] at hc; subst hc; exact hs'
    · rintro ρ ⟨rows, c, o9, o10, hsh, hsn, rfl⟩
      rw [ints_len] at hsh
      obtain ⟨q1, q2⟩ := hsh.end l1 r1
      simp
      exact ⟨rows, ⟨r1, r2, l1, l2, q1, q2, hsn⟩, rfl⟩
  rw [← fe_law_hall] at this
  obtain ⟨d, e, rows, H, rfl⟩ := this
  exact ⟨R, L, rows, H, e⟩
theorem all_map {α : Type} (f : α → Bool) (xs : List α) : allB (xs.map fun x => D.bl (f x)) = some (xs.all f) := by
  have := allB_bl (xs.map f)
  rw [List.map_map] at this
  rw [show (xs.map fun x => D.bl (f x)) = xs.map (D.bl ∘ f) from rfl, this]
  congr 1
  induction xs with
  | nil => rfl
  | cons x xs ih => simp
def rowC (cs : List Nat) : Bool := decide (1 ≤ cs.length ∧ cs.length ≤ 12) && cs.all fun c => decide (c ∈ signs)
def rowB : D → Bool
  | .str cs => rowC cs
  | _ => false
def Fit (d : D) : Prop := ∀ cs, d = .str cs → cs.length ≤ 1000
def lenD : D → Nat
  | .str cs => cs.length
  | _ => 0
def hallT (xs : List D) : Bool := decide (1 ≤ xs.length ∧ xs.length ≤ 6) && xs.all rowB && xs.all fun d => lenD d == lenD (xs.headD .non)
def hallB : D → Bool
  | .tup xs => hallT xs
  | _ => false
theorem Hall.b {R L : Nat} {rows : Rows} (H : Hall R L rows) : hallT (rows.map .str) = true := by
  unfold hallT
  have h1 := H.r1
  have h2 := H.r2
  have h3 := H.l1
  have h4 := H.l2
  simp only [Bool.and_eq_true, decide_eq_true_eq, List.length_map, H.len, List.all_eq_true]
  refine ⟨⟨⟨h1, h2⟩, fun d hd => ?_⟩, fun d hd => ?_⟩
  · obtain ⟨r, hr, rfl⟩ := List.mem_map.mp hd
    simp only [rowB, rowC, Bool.and_eq_true, decide_eq_true_eq, List.all_eq_true, H.each r hr]
    exact ⟨⟨h3, h4⟩, H.sg r hr⟩
  · obtain ⟨r, hr, rfl⟩ := List.mem_map.mp hd
    cases rows with
    | nil => cases hr
    | cons x xs => simp [lenD, H.each r hr, H.each x List.mem_cons_self]
end KA
set_option maxRecDepth 4000
noncomputable section
namespace K05
open Z KA
def b_worth_in : SF := (sRet (eB oAdd (eB oIx (eW 0) (eC (.int 6))) (eU oSum (eL (lComp (iSeq (eB oIx (eW 0) (eC (.int 7)))) 1 [1] (gName 0) (tE (eB oEq (eB oIx (eW 0) (eC (.int 0))) (eW 1))) (eB oIx (eW 0) (eC (.int 1))))))))
def fn_worth_in : List D → Res D := fn 2 2 b_worth_in
theorem fe_worth_in (x0 x1 : D) : fn_worth_in [x0, x1] = retK (b_worth_in [some (.val x0), some (.val x1)]) := fn_a _ _ _ _ rfl
def b_law_whole : SF := (sRet (eAnd (eU (oIsTy .int) (eW 0)) (eNot (eU (oIsTy .bool) (eW 0)))))
def fn_law_whole : List D → Res D := fn 1 1 b_law_whole
theorem fe_law_whole (x0 : D) : fn_law_whole [x0] = retK (b_law_whole [some (.val x0)]) := fn_a _ _ _ _ rfl
def b_law_wishes : SF := (sSeq (sSet 1 (eCall KA.fn_law_mixed (aCons (eV 0) (aCons (eC (.int 67)) aNil)))) (sSeq (sOwn 2 (lDisp aNil)) (sSeq (sFor (iRng1 (eC (.int 6))) (gName 3) (sIf (tAnd (tE (eB oEq (eB oMod (eB oDiv (eB oDiv (eW 1) (eC (.int 8))) (eB oShl (eC (.int 1)) (eW 3))) (eC (.int 2))) (eC (.int 1)))) (tE (eB oGt (eB oMod (eW 1) (eC (.int 8))) (eC (.int 3))))) (sSeq (sSet 4 (eB oAdd (eC (.int 1)) (eB oMod (eCall KA.fn_law_mixed (aCons (eV 0) (aCons (eB oAdd (eC (.int 70)) (eW 3)) aNil))) (eC (.int 3))))) (sSeq (sIf (tE (eB oEq (eB oMod (eW 1) (eC (.int 8))) (eC (.int 7)))) (sSet 4 (eB oAdd (eC (.int 1)) (eB oMod (eB oAdd (eB oMul (eW 0) (eB oPow (eC (.int 10)) (eC (.int 55)))) (eW 3)) (eB oSub (eB oPow (eC (.int 10)) (eC (.int 60))) (eC (.int 1)))))) sNext) (sAppend 2 (eTup (aCons (eV 3) (aCons (eV 4) aNil)))))) sNext)) (sRet (eU oTuple (eW 2))))))
def fn_law_wishes : List D → Res D := fn 1 5 b_law_wishes
theorem fe_law_wishes (x0 : D) : fn_law_wishes [x0] = retK (b_law_wishes [some (.val x0), none, none, none, none]) := fn_a _ _ _ _ rfl
def b_law_kinds : SF := (sSeq (sSet 1 (eC (.str letters))) (sRet (eL (lDisp (aCons (eB oIx (eW 1) (eB oMod (eCall KA.fn_law_mixed (aCons (eV 0) (aCons (eC (.int 110)) aNil))) (eC (.int 26)))) (aCons (eB oIx (eW 1) (eB oMod (eCall KA.fn_law_mixed (aCons (eV 0) (aCons (eC (.int 111)) aNil))) (eC (.int 26)))) aNil))))))
def fn_law_kinds : List D → Res D := fn 1 2 b_law_kinds
theorem fe_law_kinds (x0 : D) : fn_law_kinds [x0] = retK (b_law_kinds [some (.val x0), none]) := fn_a _ _ _ _ rfl
def b_law_group : SF := (sSeq (sSet 3 (eL (lComp (iRng1 (eC (.int 7))) 1 [0] (gName 0) tTrue (eCall KA.fn_law_mixed (aCons (eV 1) (aCons (eB oAdd (eC (.int 60)) (eW 0)) aNil)))))) (sSeq (sSet 4 (eB oIx (eL (lDisp (aCons (eC (.int 1)) (aCons (eC (.int 2)) (aCons (eC (.int 1)) (aCons (eC (.int 3)) (aCons (eC (.int 2)) (aCons (eC (.int 1)) (aCons (eC (.int 4)) (aCons (eB oAdd (eC (.int 1)) (eB oMod (eB oDiv (eB oIx (eW 3) (eC (.int 0))) (eC (.int 8))) (eC (.int 12)))) aNil)))))))))) (eB oMod (eB oIx (eW 3) (eC (.int 0))) (eC (.int 8))))) (sSeq (sSet 5 (eB oIx (eL (lDisp (aCons (eC (.int 1)) (aCons (eC (.int 1)) (aCons (eC (.int 1)) (aCons (eC (.int 2)) (aCons (eC (.int 1)) (aCons (eC (.int 1)) (aCons (eC (.int 2)) (aCons (eC (.int 3)) aNil)))))))))) (eB oMod (eB oIx (eW 3) (eC (.int 1))) (eC (.int 8))))) (sSeq (sSet 6 (eB oIx (eL (lDisp (aCons (eC (.str [])) (aCons (eC (.str [])) (aCons (eC (.str [])) (aCons (eB oIx (eW 2) (eC (.int 0))) (aCons (eB oIx (eW 2) (eC (.int 1))) (aCons (eC (.str [])) aNil)))))))) (eB oMod (eB oIx (eW 3) (eC (.int 2))) (eC (.int 6))))) (sSeq (sSet 7 (eB oIx (eL (lDisp (aCons (eC (.int 0)) (aCons (eC (.int 0)) (aCons (eC (.int 1)) (aCons (eC (.int 0)) (aCons (eB oMod (eB oDiv (eB oIx (eW 3) (eC (.int 3))) (eC (.int 8))) (eB oAdd (eB oMul (eW 4) (eW 5)) (eC (.int 1)))) aNil))))))) (eB oMod (eB oIx (eW 3) (eC (.int 3))) (eC (.int 5))))) (sSeq (sSet 8 (eB oIx (eL (lDisp (aCons (eC (.int 0)) (aCons (eC (.int 0)) (aCons (eC (.int 1)) (aCons (eC (.int 2)) (aCons (eC (.int 1)) (aCons (eB oMod (eB oDiv (eB oIx (eW 3) (eC (.int 4))) (eC (.int 8))) (eC (.int 7))) aNil)))))))) (eB oMod (eB oIx (eW 3) (eC (.int 4))) (eC (.int 6))))) (sSeq (sSet 9 (eB oIx (eL (lDisp (aCons (eC (.int 0)) (aCons (eC (.int 1)) (aCons (eC (.int 1)) (aCons (eC (.int 2)) (aCons (eB oMod (eB oDiv (eB oIx (eW 3) (eC (.int 5))) (eC (.int 8))) (eC (.int 9))) (aCons (eB oMod (eB oMul (eW 0) (eB oPow (eC (.int 10)) (eC (.int 50)))) (eB oPow (eC (.int 10)) (eC (.int 60)))) aNil)))))))) (eB oMod (eB oIx (eW 3) (eC (.int 5))) (eC (.int 6))))) (sRet (eTup (aCons (eV 1) (aCons (eV 4) (aCons (eV 5) (aCons (eV 6) (aCons (eV 7) (aCons (eV 8) (aCons (eV 9) (aCons (eCall fn_law_wishes (aCons (eV 0) aNil)) aNil)))))))))))))))))
def fn_law_group : List D → Res D := fn 3 10 b_law_group
theorem fe_law_group (x0 x1 x2 : D) : fn_law_group [x0, x1, x2] = retK (b_law_group [some (.val x0), some (.val x1), some (.val x2), none, none, none, none, none, none, none]) := fn_a _ _ _ _ rfl
def b_law : SF := (sSeq (sFor (iSeq (eL (lCat (eL (lDisp (aCons (eCall KA.fn_law_cell_at (aCons (eV 0) (aCons (eC (.int 0)) aNil))) aNil))) (eL (lSl (eW 0) (pAt (eC (.int 1))) (pAt (eC (.int 30)))))))) (gName 1) (sSeq (sSet 2 (eCall fn_law_group (aCons (eV 1) (aCons (eC (.str [97, 110, 110])) (aCons (eCall fn_law_kinds (aCons (eV 1) aNil)) aNil))))) (sSeq (sIdc 3 (eB oIx (eW 2) (eC (.int 7)))) (sFor (iRng1 (eC (.int 6))) (gName 4) (sSeq (sSet 5 (eCall fn_worth_in (aCons (eV 2) (aCons (eV 4) aNil)))) (sIf (tOr (tNot (tE (eCall fn_law_whole (aCons (eV 5) aNil)))) (tOr (tE (eB oNe (eW 5) (eB oAdd (eB oIx (eW 2) (eC (.int 6))) (eIget 3 (eV 4) (eC (.int 0)))))) (tE (eB oNe (eCall fn_worth_in (aCons (eV 2) (aCons (eV 4) aNil))) (eW 5))))) (sRet (eC (.bl false))) sNext)))))) (sRet (eC (.bl true))))
def fn_law : List D → Res D := fn 1 6 b_law
theorem fe_law (x0 : D) : fn_law [x0] = retK (b_law [some (.val x0), none, none, none, none, none]) := fn_a _ _ _ _ rfl
end K05
end
set_option linter.unusedSimpArgs false
set_option linter.unusedVariables false
set_option maxRecDepth 8000
namespace K05
open Z KA
abbrev pr : Int × Int → D := KG.encP
theorem cell_bd {ns : List Int} (hb : ∀ i ∈ ns, bits i ≤ 2 ^ 20) : ∃ c, fn_law_cell_at [.lst (ns.map .int), .int 0] = .ok (.int c) ∧ bits c ≤ 2 ^ 20 := by
  cases ns with
  | nil =>
    refine ⟨0, ?_, by decide⟩
    rw [fe_law_cell_at]
    refine ret_ok ?_
    simp [b_law_cell_at]
  | cons a ns =>
    refine ⟨a, ?_, hb a (List.mem_cons_self)⟩
    have e : oIx (.lst ((a :: ns).map .int)) (.int 0) = .ok (.int a) := (ix_at (j := 0) rfl rfl).2
    rw [fe_law_cell_at]
    refine ret_ok ?_
    simp only [List.map_cons] at e
    simp [b_law_cell_at, e]
theorem pow_ok {j : Nat} (h : j < 6) : divFits ((2 : Int) ^ j) ∧ (0 : Int) < 2 ^ j := by
  have : j = 0 ∨ j = 1 ∨ j = 2 ∨ j = 3 ∨ j = 4 ∨ j = 5 := by omega
  rcases this with rfl | rfl | rfl | rfl | rfl | rfl <;> exact ⟨divFits_of (by decide) (by decide), by decide⟩
theorem wishes_ok {c : Int} (hc : bits c ≤ 2 ^ 20) : ∃ ps : List (Int × Int), (ps.map (·.1)).Nodup ∧ ps.length ≤ 6 ∧ fn_law_wishes [.int c] = .ok (.tup (ps.map pr)) := by
  obtain ⟨m, em, hm⟩ := mixed c (k := 67) (by decide) (by decide)
  have f1 : mulFits c 10000000000000000000000000000000000000000000000000000000 := mulFits_b (Nat.le_trans hc (by decide)) (bits_of (n := 200) (by decide) |> fun h => Nat.le_trans h (by decide))
  rw [fe_law_wishes]
  have : Ok (retK (b_law_wishes [v (.int c), none, none, none, none])) fun d => ∃ ps : List (Int × Int), (ps.map (·.1)).Nodup ∧ ps.length ≤ 6 ∧ d = .tup (ps.map pr) := by
    refine ret_Ok ?_
    simp [b_law_wishes, em, line]
    refine for_at (fun i ρ => ∃ (ps : List (Int × Int)) (x3 x4 : Option L), (∀ p ∈ ps, p.1 < (i : Int)) ∧ (ps.map (·.1)).Nodup ∧ ps.length ≤ i ∧ ρ = [v (.int c), v (.int m), ow (ps.map pr), x3, x4]) ⟨[], none, none, by simp, by simp, by simp, rfl⟩ ?_ ?_
    · rintro j d ρ hj ⟨ps, x3, x4, h1, h2, h3, rfl⟩
      obtain ⟨hj', rfl⟩ := KG.ints_get hj
      obtain ⟨q1, q2⟩ := pow_ok hj'
      obtain ⟨m2, em2, hm2⟩ := mixed c (k := 70 + (j : Int)) (by omega) (by omega)
      have hl : ps.length < 16777216 := by omega
      have es : oShl (.int 1) (.int (j : Int)) = .ok (.int (2 ^ j)) := by
        show guard (0 ≤ (j : Int) ∧ (j : Int) ≤ 1000000 ∧ (1 : Int).natAbs < 2 ^ 64) (Res.ok (D.int (1 * 2 ^ (j : Int).toNat))) = _
        rw [guard_pos ⟨by omega, by omega, by decide⟩]
        simp
      have put : ∀ y : Int, ∃ ps' : List (Int × Int), (∀ a b, (a, b) ∈ ps' → a < (j : Int) + 1) ∧ (ps'.map (·.1)).Nodup ∧ ps'.length ≤ j + 1 ∧ ps.map pr ++ [pr ((j : Int), y)] = ps'.map pr := fun y =>
        ⟨ps ++ [((j : Int), y)], fun a b hp => by
          rcases List.mem_append.mp hp with hp | hp
          · have := h1 _ hp; simp only at this; omega
          · have := List.mem_singleton.mp hp; cases this; omega, by
          rw [List.map_append, List.map_cons, List.map_nil]
          refine List.nodup_append.mpr ⟨h2, by simp, ?_⟩
          intro a ha b hb
          obtain ⟨p, hp, rfl⟩ := List.mem_map.mp ha
          rw [List.mem_singleton.mp hb]
          have := h1 p hp
          show p.1 ≠ (j : Int)
          omega, by simp; omega, by simp⟩
      have no : ∃ ps' : List (Int × Int), (∀ a b, (a, b) ∈ ps' → a < (j : Int) + 1) ∧ (ps'.map (·.1)).Nodup ∧ ps'.length ≤ j + 1 ∧ ps.map pr = ps'.map pr := ⟨ps, fun a b hp => by have := h1 _ hp; simp only at this; omega, h2, by omega, rfl⟩
      by_cases a1 : m / 8 / 2 ^ j % 2 = 1
      · by_cases a2 : 3 < m % 8
        · by_cases a3 : m % 8 = 7
          · simp [a1, a2, a3, em2, line, divFits_of, q1, q2, f1, hl, es]
            exact put _
          · simp [a1, a2, a3, em2, line, divFits_of, q1, q2, f1, hl, es]
            exact put _
        · simp [a1, a2, em2, line, divFits_of, q1, q2, f1, hl, es]
          exact no
      · simp [a1, em2, line, divFits_of, q1, q2, f1, hl, es]
        exact no
    · rintro ρ ⟨ps, x3, x4, h1, h2, h3, rfl⟩
      simp
      have hl6 : (zints 0 6).length = 6 := rfl
      exact ⟨ps, h2, by rw [hl6] at h3; exact h3, rfl⟩
  obtain ⟨d, e, ps, h1, h2, rfl⟩ := this
  exact ⟨ps, h1, h2, e⟩
theorem kinds_ok (c : Int) : ∃ a b, fn_law_kinds [.int c] = .ok (.lst [.str [a], .str [b]]) := by
  obtain ⟨m, em, hm⟩ := mixed c (k := 110) (by decide) (by decide)
  obtain ⟨m2, em2, hm2⟩ := mixed c (k := 111) (by decide) (by decide)
  obtain ⟨a, ha, ea⟩ := letter_at m
  obtain ⟨b, hb, eb⟩ := letter_at m2
  refine ⟨a, b, ?_⟩
  rw [fe_law_kinds]
  refine ret_ok ?_
  simp [b_law_kinds, em, em2, ea, eb, line]
theorem group_ok {c : Int} (hc : bits c ≤ 2 ^ 20) (a b : Nat) : ∃ (w d k wd gp : D) (W : Int) (ps : List (Int × Int)), (ps.map (·.1)).Nodup ∧ ps.length ≤ 6 ∧
    fn_law_group [.int c, .str [97, 110, 110], .lst [.str [a], .str [b]]] = .ok (.tup [.str [97, 110, 110], w, d, k, wd, gp, .int W, .tup (ps.map pr)]) := by
  obtain ⟨ps, hn, hl, ew⟩ := wishes_ok hc
  have mx : ∃ f : Int → Int, ∀ k, 0 ≤ k → k ≤ 1000 → fn_law_mixed [.int c, .int k] = .ok (.int (f k)) ∧ 0 ≤ f k := by
    refine ⟨fun k => if h : 0 ≤ k ∧ k ≤ 1000 then (mixed c h.1 h.2).choose else 0, fun k h0 h1 => ?_⟩
    simp only [dif_pos (show 0 ≤ k ∧ k ≤ 1000 from ⟨h0, h1⟩)]
    exact (mixed c h0 h1).choose_spec
  obtain ⟨f, hf⟩ := mx
  have hf1 : ∀ k, 0 ≤ k → k ≤ 1000 → fn_law_mixed [.int c, .int k] = .ok (.int (f k)) := fun k h0 h1 => (hf k h0 h1).1
  have f1 : mulFits c 100000000000000000000000000000000000000000000000000 := mulFits_b (Nat.le_trans hc (by decide)) (bits_of (n := 200) (by decide) |> fun h => Nat.le_trans h (by decide))
  have e7 : zints 0 7 = [.int 0, .int 1, .int 2, .int 3, .int 4, .int 5, .int 6] := rfl
  have l2 : ∀ x y : D, oIx (.lst [x, y]) (.int 0) = .ok x ∧ oIx (.lst [x, y]) (.int 1) = .ok y := fun x y => ⟨rfl, rfl⟩
  have l7 : ∀ (x0 x1 x2 x3 x4 x5 x6 : D), oIx (.lst [x0, x1, x2, x3, x4, x5, x6]) (.int 0) = .ok x0 ∧ oIx (.lst [x0, x1, x2, x3, x4, x5, x6]) (.int 1) = .ok x1 ∧ oIx (.lst [x0, x1, x2, x3, x4, x5, x6]) (.int 2) = .ok x2 ∧ oIx (.lst [x0, x1, x2, x3, x4, x5, x6]) (.int 3) = .ok x3 ∧ oIx (.lst [x0, x1, x2, x3, x4, x5, x6]) (.int 4) = .ok x4 ∧ oIx (.lst [x0, x1, x2, x3, x4, x5, x6]) (.int 5) = .ok x5 := fun _ _ _ _ _ _ _ => ⟨rfl, rfl, rfl, rfl, rfl, rfl⟩
  rw [fe_law_group]
  have : Ok (retK (b_law_group [v (.int c), v (.str [97, 110, 110]), v (.lst [.str [a], .str [b]]), none, none, none, none, none, none, none])) fun x => ∃ (w d k wd gp : D) (W : Int), x = .tup [.str [97, 110, 110], w, d, k, wd, gp, .int W, .tup (ps.map pr)] := by
    refine ret_Ok ?_
    simp [b_law_group, line, lComp_a, KG.capt_a, KG.capt1_a]
    refine comp_map (fun d => match d with | .int k => .int (f (60 + k)) | d => d) ?_ ?_
    · intro d hd
      rw [e7] at hd
      simp only [List.mem_cons, List.not_mem_nil, or_false] at hd
      rcases hd with rfl | rfl | rfl | rfl | rfl | rfl | rfl
      all_goals simp [hf1, KG.capt_a, KG.capt1_a]
    · rw [e7]
      simp [l2, l7, divFits_of]
      refine KG.ix_all (by omega) (by simp; omega) ?_
      intro x hx
      obtain ⟨w, rfl, w1, w2⟩ : ∃ d : Nat, x = .int d ∧ 1 ≤ d ∧ d ≤ 12 := by
        simp at hx
        rcases hx with rfl | rfl | rfl | rfl | rfl | rfl | rfl | rfl
        all_goals first | exact ⟨1, rfl, by decide, by decide⟩ | exact ⟨2, rfl, by decide, by decide⟩ | exact ⟨3, rfl, by decide, by decide⟩ | exact ⟨4, rfl, by decide, by decide⟩ | skip
        obtain ⟨n, hn⟩ : ∃ n : Nat, 1 + f 60 / 8 % 12 = (n : Int) := ⟨(1 + f 60 / 8 % 12).toNat, by omega⟩
        exact ⟨n, by rw [hn], by omega, by omega⟩
      refine KG.ix_all (by omega) (by simp; omega) ?_
      intro x hx
      obtain ⟨d, rfl, d1, d2⟩ : ∃ d : Nat, x = .int d ∧ 1 ≤ d ∧ d ≤ 3 := by
        simp at hx
        rcases hx with rfl | rfl | rfl | rfl | rfl | rfl | rfl | rfl
        all_goals first | exact ⟨1, rfl, by decide, by decide⟩ | exact ⟨2, rfl, by decide, by decide⟩ | exact ⟨3, rfl, by decide, by decide⟩
      refine KG.ix_all (by omega) (by simp; omega) ?_
      intro x hx
      have p1 : mulFits (w : Int) (d : Int) := mulFits_l (by omega) (by omega)
      have p2 : (0 : Int) < (w : Int) * d + 1 := by
        have : (0 : Int) ≤ (w : Int) * d := Int.mul_nonneg (by omega) (by omega)
        omega
      simp [p1, p2]
      refine KG.ix_all (by omega) (by simp; omega) ?_
      intro x2 hx2
      refine KG.ix_all (by omega) (by simp; omega) ?_
      intro x3 hx3
      refine ⟨f1, KG.ix_all (by omega) (by simp; omega) ?_⟩
      intro x4 hx4
      rw [ew]
      simp
      simp at hx4
      rcases hx4 with rfl | rfl | rfl | rfl | rfl
      all_goals exact ⟨_, rfl⟩
  obtain ⟨d, e, w, d, k, wd, gp, W, rfl⟩ := this
  exact ⟨w, d, k, wd, gp, W, ps, hn, hl, e⟩
theorem sum_lookup (r : Int) : ∀ {ps : List (Int × Int)}, (ps.map (·.1)).Nodup → sumD ((ps.filter fun p => decide (p.1 = r)).map fun p => .int p.2) = some ((ps.lookup r).getD 0)
  | [], _ => rfl
  | p :: ps, h => by
    rw [List.map_cons, List.nodup_cons] at h
    by_cases e : p.1 = r
    · have hf : ps.filter (fun p => decide (p.1 = r)) = [] := by
        rw [List.filter_eq_nil_iff]
        intro q hq
        rw [decide_eq_true_eq]
        intro z
        exact h.1 (List.mem_map.mpr ⟨q, hq, z.trans e.symm⟩)
      rw [List.filter_cons_of_pos (by simpa using e), hf, List.lookup_cons, show (r == p.1) = true by simpa using e.symm]
      simp [sumD]
    · rw [List.filter_cons_of_neg (by simpa using e), List.lookup_cons, show (r == p.1) = false by simpa using fun z => e z.symm]
      exact sum_lookup r h.2
theorem worth_ok (n w d k wd gp : D) (W r : Int) {ps : List (Int × Int)} (hn : (ps.map (·.1)).Nodup) (hl : ps.length ≤ 6) : fn_worth_in [.tup [n, w, d, k, wd, gp, .int W, .tup (ps.map pr)], .int r] = .ok (.int (W + (ps.lookup r).getD 0)) := by
  have i6 : oIx (.tup [n, w, d, k, wd, gp, .int W, .tup (ps.map pr)]) (.int 6) = .ok (.int W) := rfl
  have i7 : oIx (.tup [n, w, d, k, wd, gp, .int W, .tup (ps.map pr)]) (.int 7) = .ok (.tup (ps.map pr)) := rfl
  have p0 : ∀ p : Int × Int, oIx (pr p) (.int 0) = .ok (.int p.1) ∧ oIx (pr p) (.int 1) = .ok (.int p.2) := fun p => ⟨rfl, rfl⟩
  rw [fe_worth_in]
  have : Ok (retK (b_worth_in [v (.tup [n, w, d, k, wd, gp, .int W, .tup (ps.map pr)]), v (.int r)])) fun x => x = .int (W + (ps.lookup r).getD 0) := by
    refine ret_Ok ?_
    have hl' : ps.length ≤ 16777216 := by omega
    simp [b_worth_in, i6, i7, line, hl', lComp_a, KG.capt_a, KG.capt1_a]
    refine comp_enc pr (fun p => decide (p.1 = r)) (fun p => .int p.2) ?_ ?_
    · intro p hp
      simp [p0]
      rw [Bool.eq_iff_iff]; simp
    · simp [oSum, sum_lookup r hn]
  obtain ⟨x, e, rfl⟩ := this
  exact e
theorem holds (ns : List Int) (hn : ns.length ≤ 63) (hb : ∀ i ∈ ns, bits i ≤ 2 ^ 20) : fn_law [.lst (ns.map .int)] = .ok (.bl true) := by
  obtain ⟨c0, ec, hc0⟩ := cell_bd hb
  rw [fe_law]
  refine ret_ok ?_
  have hl : (cut (List.map D.int ns) (some 1) (some 30)).length + 1 ≤ 16777216 := by
    unfold cut
    rw [List.length_take, List.length_drop, List.length_map]
    omega
  have hl2 : 1 + (cut (List.map D.int ns) (some 1) (some 30)).length ≤ 16777216 := by omega
  simp [b_law, lCat_k, lSl_k, line, hl, hl2, ec]
  refine for_all (fun ρ => ∃ a b c e f, ρ = [v (.lst (ns.map .int)), a, b, c, e, f]) ⟨_, _, _, _, _, rfl⟩ ?_ ?_
  · rintro d hd ρ ⟨a, b, c, e, f, rfl⟩
    obtain ⟨z, rfl, hz⟩ : ∃ z, d = .int z ∧ bits z ≤ 2 ^ 20 := by
      rcases List.mem_cons.mp hd with rfl | hd
      · exact ⟨c0, rfl, hc0⟩
      · have hm := List.mem_of_mem_drop (List.mem_of_mem_take (show d ∈ ((List.map D.int ns).drop _).take _ from hd))
        obtain ⟨z, hz, rfl⟩ := List.mem_map.mp hm
        exact ⟨z, rfl, hb z hz⟩
    obtain ⟨k1, k2, ek⟩ := kinds_ok z
    obtain ⟨w, dd, k, wd, gp, W, ps, hnd, hpl, eg⟩ := group_ok hz k1 k2
    have i6 : oIx (.tup [.str [97, 110, 110], w, dd, k, wd, gp, .int W, .tup (ps.map pr)]) (.int 6) = .ok (.int W) := rfl
    have i7 : oIx (.tup [.str [97, 110, 110], w, dd, k, wd, gp, .int W, .tup (ps.map pr)]) (.int 7) = .ok (.tup (ps.map pr)) := rfl
    have ei : ∀ (i : Nat) (ρ : Env), idcK i ρ (.tup (ps.map pr)) = .ok (.nx (ρ.set i (some (.idc ps)))) := fun i ρ => idcK_a i ρ ps hnd (by show ps.length ≤ 16777216; omega)
    have ew := fun r : Int => worth_ok (.str [97, 110, 110]) w dd k wd gp W r hnd hpl
    simp [ek, eg, i7, ei]
    refine for_all (fun ρ => ∃ e f, ρ = [v (.lst (ns.map .int)), v (.int z), v (.tup [.str [97, 110, 110], w, dd, k, wd, gp, .int W, .tup (ps.map pr)]), some (.idc ps), e, f]) ⟨_, _, rfl⟩ ?_ ?_
    · rintro d hd ρ ⟨e, f, rfl⟩
      obtain ⟨j, hj⟩ := List.getElem?_of_mem hd
      obtain ⟨hj', rfl⟩ := KG.ints_get hj
      simp [ew, i6, fe_law_whole, b_law_whole, isTy]
    · rintro ρ ⟨e, f, rfl⟩
      simp
  · rintro ρ ⟨a, b, c, e, f, rfl⟩
    simp
end K05
set_option Elab.async false
set_option linter.all false
set_option maxRecDepth 100000
set_option maxHeartbeats 4000000
namespace K05
open PySem PySem.Spec PyProof.Rows L2 ZQ KA
def top (i : Nat) : Stmt := PySem.Challenge.pw_besideseats_k05_worth_in_rows.main.body.getD i (.Pass ⟨0, 0, 0, 0⟩)
theorem bb_bool : bootBuiltins "bool" = some (.type "bool") := by kernel_rfl
theorem bb_dict : bootBuiltins "dict" = some (.type "dict") := by kernel_rfl
theorem bb_int : bootBuiltins "int" = some (.type "int") := by kernel_rfl
theorem bb_isinstance : bootBuiltins "isinstance" = some (.builtin "isinstance") := by kernel_rfl
theorem bb_len : bootBuiltins "len" = some (.builtin "len") := by kernel_rfl
theorem bb_sum : bootBuiltins "sum" = some (.builtin "sum") := by kernel_rfl
theorem bb_tuple : bootBuiltins "tuple" = some (.type "tuple") := by kernel_rfl
abbrev s_worth_in : Stmt := top 3
theorem sc_worth_in : FnScope ["group", "row"] ["group", "row"] (defScope s_worth_in) := ⟨rfl, rfl, rfl, by decide +kernel, rfl, by decide +kernel, by decide +kernel⟩
theorem dr_worth_in {P : Program} {w : World} {K : PySem.W.Frag} {mg : Str → Option Value} {base : Heap} (g_sum : mg "sum" = none) {t_WISHES : Tok} (c_WISHES : mg "WISHES" = some (.int 7 t_WISHES)) {t_WORTH : Tok} (c_WORTH : mg "WORTH" = some (.int 6 t_WORTH)) (f : Addr) (cdv : Value) (A : Around) (outer : List PySem.Env) (s : Shared) (H : Hp) (E : XK) (hr : Room 0 (A.deeper (envOfC "worth_in" (defScope s_worth_in) s.heap.objs.size f cdv))) :
    QSs (cxOf CX0 P w K mg base ["group", "row"] "worth_in" (defScope s_worth_in) f cdv A outer s H E).nox H (defBody s_worth_in) b_worth_in := by
  have nd := sc_worth_in.nd
  have hu := hr.units
  exact (dss_one (ds_ret (de_add (dw_e (de_ix (dw_v 0) (dw_e (de_globI rfl c_WORTH)))) (dw_e (de_sum rfl g_sum bb_sum (dw_l (dl_comp rfl (di_seq (dw_e (de_ix (dw_v 0) (dw_e (de_globI rfl c_WISHES))))) (N' := ["wish", "row"]) (n := 1) (is := [1]) (ZS.Blk.of (by kernel_rfl)) (ZS.gName_keep (by decide)) (fun _ _ _ _ _ _ => (dg_name (i := 0) (show List.Nodup (["wish", "row"] : List Str) by decide +kernel) rfl (by first | exact Or.inl rfl | exact Or.inr rfl))) (fun _ _ _ _ _ => (tst_one (dt_cmpC (ZS.c_eq hu) (dw_e (de_ix (dw_v 0) (dw_e de_int))) (dw_v 1) (nomark _)))) (fun _ _ _ _ _ => (de_ix (dw_v 0) (dw_e de_int))))))))))
theorem ok_worth_in {P : Program} {w : World} {K : PySem.W.Frag} {mg : Str → Option Value} {base : Heap} (d : ZS.Def K mg "worth_in" s_worth_in ["group", "row"]) (g_sum : mg "sum" = none) {t_WISHES : Tok} (c_WISHES : mg "WISHES" = some (.int 7 t_WISHES)) {t_WORTH : Tok} (c_WORTH : mg "WORTH" = some (.int 6 t_WORTH)) : ZS.Cal P w K mg base "worth_in" 1 ["group", "row"] fn_worth_in :=
  calQ (N := ["group", "row"]) (b := b_worth_in) d sc_worth_in (dr_worth_in g_sum c_WISHES c_WORTH)
abbrev s_law_cell_at : Stmt := top 5
theorem sc_law_cell_at : FnScope ["_law_script", "_law_k"] ["_law_script", "_law_k"] (defScope s_law_cell_at) := ⟨rfl, rfl, rfl, by decide +kernel, rfl, by decide +kernel, by decide +kernel⟩
theorem dr_law_cell_at {P : Program} {w : World} {K : PySem.W.Frag} {mg : Str → Option Value} {base : Heap} (g_len : mg "len" = none) (f : Addr) (cdv : Value) (A : Around) (outer : List PySem.Env) (s : Shared) (H : Hp) (E : XK) (hr : Room 0 (A.deeper (envOfC "_law_cell_at" (defScope s_law_cell_at) s.heap.objs.size f cdv))) :
    QSs (cxOf CX0 P w K mg base ["_law_script", "_law_k"] "_law_cell_at" (defScope s_law_cell_at) f cdv A outer s H E).nox H (defBody s_law_cell_at) KA.b_law_cell_at := by
  have nd := sc_law_cell_at.nd
  have hu := hr.units
  exact (dss_cons (ds_if (dt_cmpC ZS.c_lt (dw_v 1) (dw_e (de_len rfl g_len bb_len (dw_v 0))) (nomark _)) (dss_one (ds_ret (de_ix (dw_v 0) (dw_v 1)))) dss_nil) (dss_one (ds_ret de_int)))
theorem ok_law_cell_at {P : Program} {w : World} {K : PySem.W.Frag} {mg : Str → Option Value} {base : Heap} (d : ZS.Def K mg "_law_cell_at" s_law_cell_at ["_law_script", "_law_k"]) (g_len : mg "len" = none) : ZS.Cal P w K mg base "_law_cell_at" 1 ["_law_script", "_law_k"] KA.fn_law_cell_at :=
  calQ (N := ["_law_script", "_law_k"]) (b := KA.b_law_cell_at) d sc_law_cell_at (dr_law_cell_at g_len)
abbrev s_law_mixed : Stmt := top 6
theorem sc_law_mixed : FnScope ["_law_cell", "_law_k", "_law_number"] ["_law_cell", "_law_k"] (defScope s_law_mixed) := ⟨rfl, rfl, rfl, by decide +kernel, rfl, by decide +kernel, by decide +kernel⟩
theorem dr_law_mixed {P : Program} {w : World} {K : PySem.W.Frag} {mg : Str → Option Value} {base : Heap}  (f : Addr) (cdv : Value) (A : Around) (outer : List PySem.Env) (s : Shared) (H : Hp) (E : XK) (hr : Room 0 (A.deeper (envOfC "_law_mixed" (defScope s_law_mixed) s.heap.objs.size f cdv))) :
    QSs (cxOf CX0 P w K mg base ["_law_cell", "_law_k", "_law_number"] "_law_mixed" (defScope s_law_mixed) f cdv A outer s H E).nox H (defBody s_law_mixed) KA.b_law_mixed := by
  have nd := sc_law_mixed.nd
  have hu := hr.units
  exact (dss_cons (ds_if (dt_cmpC (ZS.c_eq hu) (dw_e (de_mod (dw_e (de_div (dw_v 0) (dw_e de_int))) (dw_e de_int))) (dw_e de_int) (nomark _)) (dss_one (ds_ret (de_mod (dw_e (de_shr (dw_e (de_div (dw_v 0) (dw_e de_int))) (dw_e (de_mul (dw_e de_int) (dw_v 1))))) (dw_e de_int)))) dss_nil) (dss_cons (ds_set (i := 2) nd rfl (by first | exact Or.inl rfl | exact Or.inr rfl) (de_mod (dw_e (de_mul (dw_e (de_add (dw_e (de_add (dw_e (de_mod (dw_v 0) (dw_e de_int))) (dw_e (de_mul (dw_e (de_mul (dw_e de_int) (dw_v 1))) (dw_v 1))))) (dw_v 1))) (dw_e de_int))) (dw_e de_int))) (dss_cons (ds_set (i := 2) nd rfl (by first | exact Or.inl rfl | exact Or.inr rfl) (de_mod (dw_e (de_mul (dw_v 2) (dw_v 2))) (dw_e de_int))) (dss_one (ds_ret (de_mod (dw_e (de_add (dw_e (de_add (dw_e (de_mul (dw_v 2) (dw_v 2))) (dw_e (de_mul (dw_e de_int) (dw_v 2))))) (dw_v 1))) (dw_e de_int)))))))
theorem ok_law_mixed {P : Program} {w : World} {K : PySem.W.Frag} {mg : Str → Option Value} {base : Heap} (d : ZS.Def K mg "_law_mixed" s_law_mixed ["_law_cell", "_law_k"])  : ZS.Cal P w K mg base "_law_mixed" 1 ["_law_cell", "_law_k"] KA.fn_law_mixed :=
  calQ (N := ["_law_cell", "_law_k", "_law_number"]) (b := KA.b_law_mixed) d sc_law_mixed (dr_law_mixed )
abbrev s_law_whole : Stmt := top 7
theorem sc_law_whole : FnScope ["_law_found"] ["_law_found"] (defScope s_law_whole) := ⟨rfl, rfl, rfl, by decide +kernel, rfl, by decide +kernel, by decide +kernel⟩
theorem dr_law_whole {P : Program} {w : World} {K : PySem.W.Frag} {mg : Str → Option Value} {base : Heap} (g_bool : mg "bool" = none) (g_int : mg "int" = none) (g_isinstance : mg "isinstance" = none) (f : Addr) (cdv : Value) (A : Around) (outer : List PySem.Env) (s : Shared) (H : Hp) (E : XK) (hr : Room 0 (A.deeper (envOfC "_law_whole" (defScope s_law_whole) s.heap.objs.size f cdv))) :
    QSs (cxOf CX0 P w K mg base ["_law_found"] "_law_whole" (defScope s_law_whole) f cdv A outer s H E).nox H (defBody s_law_whole) b_law_whole := by
  have nd := sc_law_whole.nd
  have hu := hr.units
  exact (dss_one (ds_ret (de_and (de_isinst .int rfl g_isinstance bb_isinstance rfl g_int bb_int (dw_v 0)) (de_one (de_not (de_isinst .bool rfl g_isinstance bb_isinstance rfl g_bool bb_bool (dw_v 0)))))))
theorem ok_law_whole {P : Program} {w : World} {K : PySem.W.Frag} {mg : Str → Option Value} {base : Heap} (d : ZS.Def K mg "_law_whole" s_law_whole ["_law_found"]) (g_bool : mg "bool" = none) (g_int : mg "int" = none) (g_isinstance : mg "isinstance" = none) : ZS.Cal P w K mg base "_law_whole" 1 ["_law_found"] fn_law_whole :=
  calQ (N := ["_law_found"]) (b := b_law_whole) d sc_law_whole (dr_law_whole g_bool g_int g_isinstance)
abbrev s_law_wishes : Stmt := top 8
theorem sc_law_wishes : FnScope ["_law_cell", "_law_bits", "_law_found", "_law_row", "_law_more"] ["_law_cell"] (defScope s_law_wishes) := ⟨rfl, rfl, rfl, by decide +kernel, rfl, by decide +kernel, by decide +kernel⟩
theorem dr_law_wishes {P : Program} {w : World} {K : PySem.W.Frag} {mg : Str → Option Value} {base : Heap} (C_law_mixed : ZS.Cal P w K mg base "_law_mixed" 1 ["_law_cell", "_law_k"] (KA.fn_law_mixed)) (g_range : mg "range" = none) (g_tuple : mg "tuple" = none) (f : Addr) (cdv : Value) (A : Around) (outer : List PySem.Env) (s : Shared) (H : Hp) (E : XK) (hr : Room 1 (A.deeper (envOfC "_law_wishes" (defScope s_law_wishes) s.heap.objs.size f cdv))) :
    QSs (cxOf CX0 P w K mg base ["_law_cell", "_law_bits", "_law_found", "_law_row", "_law_more"] "_law_wishes" (defScope s_law_wishes) f cdv A outer s H E).nox H (defBody s_law_wishes) b_law_wishes := by
  have nd := sc_law_wishes.nd
  have hu := hr.units
  exact (dss_cons (ds_set (i := 1) nd rfl (by first | exact Or.inl rfl | exact Or.inr rfl) (de_callC C_law_mixed (hr.mono (by decide)) rfl (da_cName (de_v 0) (da_cConst de_int da_nil)))) (dss_cons (ds_own (i := 2) nd rfl (by first | exact Or.inl rfl | exact Or.inr rfl) (dl_disp da_nil)) (dss_cons (ds_for PassesOwn.never rfl (dj_rng1 rfl g_range de_int) (dg_name (i := 3) nd rfl (by first | exact Or.inl rfl | exact Or.inr rfl)) (dss_one (ds_if (dtw (dt_and (dt_cmpC (ZS.c_eq hu) (dw_e (de_mod (dw_e (de_div (dw_e (de_div (dw_v 1) (dw_e de_int))) (dw_e (de_shl (dw_e de_int) (dw_v 3))))) (dw_e de_int))) (dw_e de_int) (nomark _)) (dt_and1 (dt_cmpC ZS.c_gt (dw_e (de_mod (dw_v 1) (dw_e de_int))) (dw_e de_int) (nomark _))))) (dss_cons (ds_set (i := 4) nd rfl (by first | exact Or.inl rfl | exact Or.inr rfl) (de_add (dw_e de_int) (dw_e (de_mod (dw_e (de_callC C_law_mixed (hr.mono (by decide)) rfl (da_cName (de_v 0) (da_cBin (de_add (dw_e de_int) (dw_v 3)) da_nil)))) (dw_e de_int))))) (dss_cons (ds_if (dt_cmpC (ZS.c_eq hu) (dw_e (de_mod (dw_v 1) (dw_e de_int))) (dw_e de_int) (nomark _)) (dss_one (ds_set (i := 4) nd rfl (by first | exact Or.inl rfl | exact Or.inr rfl) (de_add (dw_e de_int) (dw_e (de_mod (dw_e (de_add (dw_e (de_mul (dw_v 0) (dw_e (de_pow (dw_e de_int) (dw_e de_int))))) (dw_v 3))) (dw_e (de_sub (dw_e (de_pow (dw_e de_int) (dw_e de_int))) (dw_e de_int)))))))) dss_nil) (dss_one (ds_app (i := 2) (pv 2) (de_tup (da_cName (de_v 3) (da_cName (de_v 4) da_nil))))))) dss_nil))) (dss_one (ds_ret (de_tuple rfl g_tuple bb_tuple (dw_v 2)))))))
theorem ok_law_wishes {P : Program} {w : World} {K : PySem.W.Frag} {mg : Str → Option Value} {base : Heap} (d : ZS.Def K mg "_law_wishes" s_law_wishes ["_law_cell"]) (C_law_mixed : ZS.Cal P w K mg base "_law_mixed" 1 ["_law_cell", "_law_k"] (KA.fn_law_mixed)) (g_range : mg "range" = none) (g_tuple : mg "tuple" = none) : ZS.Cal P w K mg base "_law_wishes" 2 ["_law_cell"] fn_law_wishes :=
  calQ (N := ["_law_cell", "_law_bits", "_law_found", "_law_row", "_law_more"]) (b := b_law_wishes) d sc_law_wishes (dr_law_wishes C_law_mixed g_range g_tuple)
abbrev s_law_kinds : Stmt := top 9
theorem sc_law_kinds : FnScope ["_law_cell", "_law_letters"] ["_law_cell"] (defScope s_law_kinds) := ⟨rfl, rfl, rfl, by decide +kernel, rfl, by decide +kernel, by decide +kernel⟩
theorem dr_law_kinds {P : Program} {w : World} {K : PySem.W.Frag} {mg : Str → Option Value} {base : Heap} (C_law_mixed : ZS.Cal P w K mg base "_law_mixed" 1 ["_law_cell", "_law_k"] (KA.fn_law_mixed)) (f : Addr) (cdv : Value) (A : Around) (outer : List PySem.Env) (s : Shared) (H : Hp) (E : XK) (hr : Room 1 (A.deeper (envOfC "_law_kinds" (defScope s_law_kinds) s.heap.objs.size f cdv))) :
    QSs (cxOf CX0 P w K mg base ["_law_cell", "_law_letters"] "_law_kinds" (defScope s_law_kinds) f cdv A outer s H E).nox H (defBody s_law_kinds) b_law_kinds := by
  have nd := sc_law_kinds.nd
  have hu := hr.units
  exact (dss_cons (ds_set (i := 1) nd rfl (by first | exact Or.inl rfl | exact Or.inr rfl) (de_str (by decide +kernel))) (dss_one (ds_ret (de_l (dl_disp (da_cSub (de_ix (dw_v 1) (dw_e (de_mod (dw_e (de_callC C_law_mixed (hr.mono (by decide)) rfl (da_cName (de_v 0) (da_cConst de_int da_nil)))) (dw_e de_int)))) (da_cSub (de_ix (dw_v 1) (dw_e (de_mod (dw_e (de_callC C_law_mixed (hr.mono (by decide)) rfl (da_cName (de_v 0) (da_cConst de_int da_nil)))) (dw_e de_int)))) da_nil)))))))
theorem ok_law_kinds {P : Program} {w : World} {K : PySem.W.Frag} {mg : Str → Option Value} {base : Heap} (d : ZS.Def K mg "_law_kinds" s_law_kinds ["_law_cell"]) (C_law_mixed : ZS.Cal P w K mg base "_law_mixed" 1 ["_law_cell", "_law_k"] (KA.fn_law_mixed)) : ZS.Cal P w K mg base "_law_kinds" 2 ["_law_cell"] fn_law_kinds :=
  calQ (N := ["_law_cell", "_law_letters"]) (b := b_law_kinds) d sc_law_kinds (dr_law_kinds C_law_mixed)
abbrev s_law_group : Stmt := top 10
theorem sc_law_group : FnScope ["_law_cell", "_law_name", "_law_kinds_here", "_law_xs", "_law_width", "_law_depth", "_law_kind", "_law_wide", "_law_gap", "_law_worth"] ["_law_cell", "_law_name", "_law_kinds_here"] (defScope s_law_group) := ⟨rfl, rfl, rfl, by decide +kernel, rfl, by decide +kernel, by decide +kernel⟩
theorem dr_law_group {P : Program} {w : World} {K : PySem.W.Frag} {mg : Str → Option Value} {base : Heap} (C_law_mixed : ZS.Cal P w K mg base "_law_mixed" 1 ["_law_cell", "_law_k"] (KA.fn_law_mixed)) (C_law_wishes : ZS.Cal P w K mg base "_law_wishes" 2 ["_law_cell"] (fn_law_wishes)) (g_range : mg "range" = none) (f : Addr) (cdv : Value) (A : Around) (outer : List PySem.Env) (s : Shared) (H : Hp) (E : XK) (hr : Room 2 (A.deeper (envOfC "_law_group" (defScope s_law_group) s.heap.objs.size f cdv))) :
    QSs (cxOf CX0 P w K mg base ["_law_cell", "_law_name", "_law_kinds_here", "_law_xs", "_law_width", "_law_depth", "_law_kind", "_law_wide", "_law_gap", "_law_worth"] "_law_group" (defScope s_law_group) f cdv A outer s H E).nox H (defBody s_law_group) b_law_group := by
  have nd := sc_law_group.nd
  have hu := hr.units
  exact (dss_cons (ds_setC (i := 3) rfl nd rfl (by first | exact Or.inl rfl | exact Or.inr rfl) (di_j (dj_rng1 rfl g_range de_int)) (N' := ["_law_k", "_law_cell"]) (n := 1) (is := [0]) (ZS.Blk.of (by kernel_rfl)) (ZS.gName_keep (by decide)) (fun _ _ _ _ _ _ => (dg_name (i := 0) (show List.Nodup (["_law_k", "_law_cell"] : List Str) by decide +kernel) rfl (by first | exact Or.inl rfl | exact Or.inr rfl))) (fun _ _ _ _ _ => tst_no) (fun _ _ _ _ _ => (de_callC C_law_mixed (hr.mono (by decide)) rfl (da_cName (de_v 1) (da_cBin (de_add (dw_e de_int) (dw_v 0)) da_nil))))) (dss_cons (ds_set (i := 4) nd rfl (by first | exact Or.inl rfl | exact Or.inr rfl) (de_ix (dw_l (dl_disp (da_cConst de_int (da_cConst de_int (da_cConst de_int (da_cConst de_int (da_cConst de_int (da_cConst de_int (da_cConst de_int (da_cBin (de_add (dw_e de_int) (dw_e (de_mod (dw_e (de_div (dw_e (de_ix (dw_v 3) (dw_e de_int))) (dw_e de_int))) (dw_e de_int)))) da_nil)))))))))) (dw_e (de_mod (dw_e (de_ix (dw_v 3) (dw_e de_int))) (dw_e de_int))))) (dss_cons (ds_set (i := 5) nd rfl (by first | exact Or.inl rfl | exact Or.inr rfl) (de_ix (dw_l (dl_disp (da_cConst de_int (da_cConst de_int (da_cConst de_int (da_cConst de_int (da_cConst de_int (da_cConst de_int (da_cConst de_int (da_cConst de_int da_nil)))))))))) (dw_e (de_mod (dw_e (de_ix (dw_v 3) (dw_e de_int))) (dw_e de_int))))) (dss_cons (ds_set (i := 6) nd rfl (by first | exact Or.inl rfl | exact Or.inr rfl) (de_ix (dw_l (dl_disp (da_cConst (de_str (by decide +kernel)) (da_cConst (de_str (by decide +kernel)) (da_cConst (de_str (by decide +kernel)) (da_cSub (de_ix (dw_v 2) (dw_e de_int)) (da_cSub (de_ix (dw_v 2) (dw_e de_int)) (da_cConst (de_str (by decide +kernel)) da_nil)))))))) (dw_e (de_mod (dw_e (de_ix (dw_v 3) (dw_e de_int))) (dw_e de_int))))) (dss_cons (ds_set (i := 7) nd rfl (by first | exact Or.inl rfl | exact Or.inr rfl) (de_ix (dw_l (dl_disp (da_cConst de_int (da_cConst de_int (da_cConst de_int (da_cConst de_int (da_cBin (de_mod (dw_e (de_div (dw_e (de_ix (dw_v 3) (dw_e de_int))) (dw_e de_int))) (dw_e (de_add (dw_e (de_mul (dw_v 4) (dw_v 5))) (dw_e de_int)))) da_nil))))))) (dw_e (de_mod (dw_e (de_ix (dw_v 3) (dw_e de_int))) (dw_e de_int))))) (dss_cons (ds_set (i := 8) nd rfl (by first | exact Or.inl rfl | exact Or.inr rfl) (de_ix (dw_l (dl_disp (da_cConst de_int (da_cConst de_int (da_cConst de_int (da_cConst de_int (da_cConst de_int (da_cBin (de_mod (dw_e (de_div (dw_e (de_ix (dw_v 3) (dw_e de_int))) (dw_e de_int))) (dw_e de_int)) da_nil)))))))) (dw_e (de_mod (dw_e (de_ix (dw_v 3) (dw_e de_int))) (dw_e de_int))))) (dss_cons (ds_set (i := 9) nd rfl (by first | exact Or.inl rfl | exact Or.inr rfl) (de_ix (dw_l (dl_disp (da_cConst de_int (da_cConst de_int (da_cConst de_int (da_cConst de_int (da_cBin (de_mod (dw_e (de_div (dw_e (de_ix (dw_v 3) (dw_e de_int))) (dw_e de_int))) (dw_e de_int)) (da_cBin (de_mod (dw_e (de_mul (dw_v 0) (dw_e (de_pow (dw_e de_int) (dw_e de_int))))) (dw_e (de_pow (dw_e de_int) (dw_e de_int)))) da_nil)))))))) (dw_e (de_mod (dw_e (de_ix (dw_v 3) (dw_e de_int))) (dw_e de_int))))) (dss_one (ds_ret (de_tup (da_cName (de_v 1) (da_cName (de_v 4) (da_cName (de_v 5) (da_cName (de_v 6) (da_cName (de_v 7) (da_cName (de_v 8) (da_cName (de_v 9) (da_cCall (de_callC C_law_wishes (hr.mono (by decide)) rfl (da_cName (de_v 0) da_nil)) da_nil))))))))))))))))))
theorem ok_law_group {P : Program} {w : World} {K : PySem.W.Frag} {mg : Str → Option Value} {base : Heap} (d : ZS.Def K mg "_law_group" s_law_group ["_law_cell", "_law_name", "_law_kinds_here"]) (C_law_mixed : ZS.Cal P w K mg base "_law_mixed" 1 ["_law_cell", "_law_k"] (KA.fn_law_mixed)) (C_law_wishes : ZS.Cal P w K mg base "_law_wishes" 2 ["_law_cell"] (fn_law_wishes)) (g_range : mg "range" = none) : ZS.Cal P w K mg base "_law_group" 3 ["_law_cell", "_law_name", "_law_kinds_here"] fn_law_group :=
  calQ (N := ["_law_cell", "_law_name", "_law_kinds_here", "_law_xs", "_law_width", "_law_depth", "_law_kind", "_law_wide", "_law_gap", "_law_worth"]) (b := b_law_group) d sc_law_group (dr_law_group C_law_mixed C_law_wishes g_range)
abbrev s_law : Stmt := top 11
theorem sc_law : FnScope ["_law_script", "_law_cell", "_law_group_here", "_law_mores", "_law_row", "_law_found"] ["_law_script"] (defScope s_law) := ⟨rfl, rfl, rfl, by decide +kernel, rfl, by decide +kernel, by decide +kernel⟩
theorem dr_law {P : Program} {w : World} {K : PySem.W.Frag} {mg : Str → Option Value} {base : Heap} (C_law_cell_at : ZS.Cal P w K mg base "_law_cell_at" 1 ["_law_script", "_law_k"] (KA.fn_law_cell_at)) (C_law_group : ZS.Cal P w K mg base "_law_group" 3 ["_law_cell", "_law_name", "_law_kinds_here"] (fn_law_group)) (C_law_kinds : ZS.Cal P w K mg base "_law_kinds" 2 ["_law_cell"] (fn_law_kinds)) (C_law_whole : ZS.Cal P w K mg base "_law_whole" 1 ["_law_found"] (fn_law_whole)) (C_worth_in : ZS.Cal P w K mg base "worth_in" 1 ["group", "row"] (fn_worth_in)) (g_dict : mg "dict" = none) (g_range : mg "range" = none) (f : Addr) (cdv : Value) (A : Around) (outer : List PySem.Env) (s : Shared) (H : Hp) (E : XK) (hr : Room 3 (A.deeper (envOfC "law" (defScope s_law) s.heap.objs.size f cdv))) :
    QSs (cxOf CX0 P w K mg base ["_law_script", "_law_cell", "_law_group_here", "_law_mores", "_law_row", "_law_found"] "law" (defScope s_law) f cdv A outer s H E).nox H (defBody s_law) b_law := by
  have nd := sc_law.nd
  have hu := hr.units
  exact (dss_cons (ds_for PassesOwn.never rfl (dj_seq (de_l (dl_cat (dw_l (dl_disp (da_cCall (de_callC C_law_cell_at (hr.mono (by decide)) rfl (da_cName (de_v 0) (da_cConst de_int da_nil))) da_nil))) (dw_l (dl_slice (dw_v 0) (dp_at (dw_e de_int)) (dp_at (dw_e de_int))))))) (dg_name (i := 1) nd rfl (by first | exact Or.inl rfl | exact Or.inr rfl)) (dss_cons (ds_set (i := 2) nd rfl (by first | exact Or.inl rfl | exact Or.inr rfl) (de_callC C_law_group (hr.mono (by decide)) rfl (da_cName (de_v 1) (da_cConst (de_str (by decide +kernel)) (da_cCall (de_callC C_law_kinds (hr.mono (by decide)) rfl (da_cName (de_v 1) da_nil)) da_nil))))) (dss_cons (ds_idc (i := 3) nd rfl (by first | exact Or.inl rfl | exact Or.inr rfl) rfl g_dict bb_dict (de_ix (dw_v 2) (dw_e de_int))) (dss_one (ds_for PassesOwn.never rfl (dj_rng1 rfl g_range de_int) (dg_name (i := 4) nd rfl (by first | exact Or.inl rfl | exact Or.inr rfl)) (dss_cons (ds_set (i := 5) nd rfl (by first | exact Or.inl rfl | exact Or.inr rfl) (de_callC C_worth_in (hr.mono (by decide)) rfl (da_cName (de_v 2) (da_cName (de_v 4) da_nil)))) (dss_one (ds_if (dtw (dt_or (dt_not (dt_e (de_callC C_law_whole (hr.mono (by decide)) rfl (da_cName (de_v 5) da_nil)))) (dt_or (dt_cmpC (ZS.c_ne hu) (dw_v 5) (dw_e (de_add (dw_e (de_ix (dw_v 2) (dw_e de_int))) (dw_e (de_iget (pv 3) (de_v 4) de_int)))) (nomark _)) (dt_or1 (dt_cmpC (ZS.c_ne hu) (dw_e (de_callC C_worth_in (hr.mono (by decide)) rfl (da_cName (de_v 2) (da_cName (de_v 4) da_nil)))) (dw_v 5) (nomark _)))))) (dss_one (ds_ret de_bl)) dss_nil)))))))) (dss_one (ds_ret de_bl)))
end K05
namespace K05
open PySem PySem.Spec PyProof.Rows L2 ZQ KA
theorem all_mk {l : PySem.W.OpenLaw} {w : World} {K : PySem.W.Frag} {h : Heap} {mg : Str → Option Value} {fa : Addr} (X : K.In h) (G : h.Ns mainGlobals mg) (hfa : mg "law" = some (.ref fa))
    {f0 : Addr} {od0 an0 : Option Addr} {sl0 : Array (Option Value)} {oc0 kV0 dc0 pm0 cd0 ct0 : Value} (a0 : PySem.W.nsIn K mainGlobals "worth_in" = some (some (.ref f0))) (l0 : K.lookup f0 = some ⟨oc0, od0, .func (PySem.W.fnOf "worth_in" "worth_in" (defArgs s_worth_in) (defBody s_worth_in) (defScope s_worth_in) .none kV0 dc0 pm0 an0 cd0 ct0), sl0⟩) (c0 : PySem.W.codeIn K cd0 "worth_in" = true) (k0 : PySem.W.keepIn K (.ref f0) = true)
    {f1 : Addr} {od1 an1 : Option Addr} {sl1 : Array (Option Value)} {oc1 kV1 dc1 pm1 cd1 ct1 : Value} (a1 : PySem.W.nsIn K mainGlobals "_law_cell_at" = some (some (.ref f1))) (l1 : K.lookup f1 = some ⟨oc1, od1, .func (PySem.W.fnOf "_law_cell_at" "_law_cell_at" (defArgs s_law_cell_at) (defBody s_law_cell_at) (defScope s_law_cell_at) .none kV1 dc1 pm1 an1 cd1 ct1), sl1⟩) (c1 : PySem.W.codeIn K cd1 "_law_cell_at" = true) (k1 : PySem.W.keepIn K (.ref f1) = true)
    {f2 : Addr} {od2 an2 : Option Addr} {sl2 : Array (Option Value)} {oc2 kV2 dc2 pm2 cd2 ct2 : Value} (a2 : PySem.W.nsIn K mainGlobals "_law_mixed" = some (some (.ref f2))) (l2 : K.lookup f2 = some ⟨oc2, od2, .func (PySem.W.fnOf "_law_mixed" "_law_mixed" (defArgs s_law_mixed) (defBody s_law_mixed) (defScope s_law_mixed) .none kV2 dc2 pm2 an2 cd2 ct2), sl2⟩) (c2 : PySem.W.codeIn K cd2 "_law_mixed" = true) (k2 : PySem.W.keepIn K (.ref f2) = true)
    {f3 : Addr} {od3 an3 : Option Addr} {sl3 : Array (Option Value)} {oc3 kV3 dc3 pm3 cd3 ct3 : Value} (a3 : PySem.W.nsIn K mainGlobals "_law_whole" = some (some (.ref f3))) (l3 : K.lookup f3 = some ⟨oc3, od3, .func (PySem.W.fnOf "_law_whole" "_law_whole" (defArgs s_law_whole) (defBody s_law_whole) (defScope s_law_whole) .none kV3 dc3 pm3 an3 cd3 ct3), sl3⟩) (c3 : PySem.W.codeIn K cd3 "_law_whole" = true) (k3 : PySem.W.keepIn K (.ref f3) = true)
    {f4 : Addr} {od4 an4 : Option Addr} {sl4 : Array (Option Value)} {oc4 kV4 dc4 pm4 cd4 ct4 : Value} (a4 : PySem.W.nsIn K mainGlobals "_law_wishes" = some (some (.ref f4))) (l4 : K.lookup f4 = some ⟨oc4, od4, .func (PySem.W.fnOf "_law_wishes" "_law_wishes" (defArgs s_law_wishes) (defBody s_law_wishes) (defScope s_law_wishes) .none kV4 dc4 pm4 an4 cd4 ct4), sl4⟩) (c4 : PySem.W.codeIn K cd4 "_law_wishes" = true) (k4 : PySem.W.keepIn K (.ref f4) = true)
    {f5 : Addr} {od5 an5 : Option Addr} {sl5 : Array (Option Value)} {oc5 kV5 dc5 pm5 cd5 ct5 : Value} (a5 : PySem.W.nsIn K mainGlobals "_law_kinds" = some (some (.ref f5))) (l5 : K.lookup f5 = some ⟨oc5, od5, .func (PySem.W.fnOf "_law_kinds" "_law_kinds" (defArgs s_law_kinds) (defBody s_law_kinds) (defScope s_law_kinds) .none kV5 dc5 pm5 an5 cd5 ct5), sl5⟩) (c5 : PySem.W.codeIn K cd5 "_law_kinds" = true) (k5 : PySem.W.keepIn K (.ref f5) = true)
    {f6 : Addr} {od6 an6 : Option Addr} {sl6 : Array (Option Value)} {oc6 kV6 dc6 pm6 cd6 ct6 : Value} (a6 : PySem.W.nsIn K mainGlobals "_law_group" = some (some (.ref f6))) (l6 : K.lookup f6 = some ⟨oc6, od6, .func (PySem.W.fnOf "_law_group" "_law_group" (defArgs s_law_group) (defBody s_law_group) (defScope s_law_group) .none kV6 dc6 pm6 an6 cd6 ct6), sl6⟩) (c6 : PySem.W.codeIn K cd6 "_law_group" = true) (k6 : PySem.W.keepIn K (.ref f6) = true)
    {f7 : Addr} {od7 an7 : Option Addr} {sl7 : Array (Option Value)} {oc7 kV7 dc7 pm7 cd7 ct7 : Value} (a7 : PySem.W.nsIn K mainGlobals "law" = some (some (.ref f7))) (l7 : K.lookup f7 = some ⟨oc7, od7, .func (PySem.W.fnOf "law" "law" (defArgs s_law) (defBody s_law) (defScope s_law) .none kV7 dc7 pm7 an7 cd7 ct7), sl7⟩) (c7 : PySem.W.codeIn K cd7 "law" = true) (k7 : PySem.W.keepIn K (.ref f7) = true)
    {t_WISHES : Tok} (v_WISHES : PySem.W.nsIn K mainGlobals "WISHES" = some (some (.int 7 t_WISHES)))
    {t_WORTH : Tok} (v_WORTH : PySem.W.nsIn K mainGlobals "WORTH" = some (some (.int 6 t_WORTH)))
    (n_bool : PySem.W.nsIn K mainGlobals "bool" = some none)
    (n_dict : PySem.W.nsIn K mainGlobals "dict" = some none)
    (n_int : PySem.W.nsIn K mainGlobals "int" = some none)
    (n_isinstance : PySem.W.nsIn K mainGlobals "isinstance" = some none)
    (n_len : PySem.W.nsIn K mainGlobals "len" = some none)
    (n_range : PySem.W.nsIn K mainGlobals "range" = some none)
    (n_sum : PySem.W.nsIn K mainGlobals "sum" = some none)
    (n_tuple : PySem.W.nsIn K mainGlobals "tuple" = some none) :
    ∃ fd : FuncData, (∀ (s : Shared) (v : Value), BindsTo s fd ⟨[v], []⟩ [("_law_script", v)]) ∧ ∀ base : Heap, K.In base → base.Ns mainGlobals mg → FnOk l.prog w K mg base CX0 4 fa fd ["_law_script"] (ZS.spZ K fn_law) := by
  have e := hfa.symm.trans (PySem.W.mg_of X G a7)
  cases e
  have F0 := fun_mk (st := s_worth_in) l0 c0 k0
  have D0 : ZS.Def K mg "worth_in" s_worth_in ["group", "row"] := ⟨f0, _, F0, PySem.W.mg_of X G a0, F0.binds fun _ _ _ _ _ _ us hl => ZS.bd2 (fun _ _ => rfl) us hl⟩
  have F1 := fun_mk (st := s_law_cell_at) l1 c1 k1
  have D1 : ZS.Def K mg "_law_cell_at" s_law_cell_at ["_law_script", "_law_k"] := ⟨f1, _, F1, PySem.W.mg_of X G a1, F1.binds fun _ _ _ _ _ _ us hl => ZS.bd2 (fun _ _ => rfl) us hl⟩
  have F2 := fun_mk (st := s_law_mixed) l2 c2 k2
  have D2 : ZS.Def K mg "_law_mixed" s_law_mixed ["_law_cell", "_law_k"] := ⟨f2, _, F2, PySem.W.mg_of X G a2, F2.binds fun _ _ _ _ _ _ us hl => ZS.bd2 (fun _ _ => rfl) us hl⟩
  have F3 := fun_mk (st := s_law_whole) l3 c3 k3
  have D3 : ZS.Def K mg "_law_whole" s_law_whole ["_law_found"] := ⟨f3, _, F3, PySem.W.mg_of X G a3, F3.binds fun _ _ _ _ _ _ us hl => ZS.bd1 (fun _ => rfl) us hl⟩
  have F4 := fun_mk (st := s_law_wishes) l4 c4 k4
  have D4 : ZS.Def K mg "_law_wishes" s_law_wishes ["_law_cell"] := ⟨f4, _, F4, PySem.W.mg_of X G a4, F4.binds fun _ _ _ _ _ _ us hl => ZS.bd1 (fun _ => rfl) us hl⟩
  have F5 := fun_mk (st := s_law_kinds) l5 c5 k5
  have D5 : ZS.Def K mg "_law_kinds" s_law_kinds ["_law_cell"] := ⟨f5, _, F5, PySem.W.mg_of X G a5, F5.binds fun _ _ _ _ _ _ us hl => ZS.bd1 (fun _ => rfl) us hl⟩
  have F6 := fun_mk (st := s_law_group) l6 c6 k6
  have D6 : ZS.Def K mg "_law_group" s_law_group ["_law_cell", "_law_name", "_law_kinds_here"] := ⟨f6, _, F6, PySem.W.mg_of X G a6, F6.binds fun _ _ _ _ _ _ us hl => ZS.bd3 (fun _ _ _ => rfl) us hl⟩
  have F7 := fun_mk (st := s_law) l7 c7 k7
  have c_WISHES := PySem.W.mg_of X G v_WISHES
  have c_WORTH := PySem.W.mg_of X G v_WORTH
  have g_bool := PySem.W.mg_none_of X G n_bool
  have g_dict := PySem.W.mg_none_of X G n_dict
  have g_int := PySem.W.mg_none_of X G n_int
  have g_isinstance := PySem.W.mg_none_of X G n_isinstance
  have g_len := PySem.W.mg_none_of X G n_len
  have g_range := PySem.W.mg_none_of X G n_range
  have g_sum := PySem.W.mg_none_of X G n_sum
  have g_tuple := PySem.W.mg_none_of X G n_tuple
  refine ⟨PySem.W.fnOf "law" "law" (defArgs s_law) (defBody s_law) (defScope s_law) .none kV7 dc7 pm7 an7 cd7 ct7, fun s v => .of_eq rfl, fun base _ _ => ?_⟩
  have C_worth_in : ZS.Cal l.prog w K mg base "worth_in" 1 ["group", "row"] fn_worth_in := ok_worth_in D0 g_sum c_WISHES c_WORTH
  have C_law_cell_at : ZS.Cal l.prog w K mg base "_law_cell_at" 1 ["_law_script", "_law_k"] KA.fn_law_cell_at := ok_law_cell_at D1 g_len
  have C_law_mixed : ZS.Cal l.prog w K mg base "_law_mixed" 1 ["_law_cell", "_law_k"] KA.fn_law_mixed := ok_law_mixed D2 
  have C_law_whole : ZS.Cal l.prog w K mg base "_law_whole" 1 ["_law_found"] fn_law_whole := ok_law_whole D3 g_bool g_int g_isinstance
  have C_law_wishes : ZS.Cal l.prog w K mg base "_law_wishes" 2 ["_law_cell"] fn_law_wishes := ok_law_wishes D4 C_law_mixed g_range g_tuple
  have C_law_kinds : ZS.Cal l.prog w K mg base "_law_kinds" 2 ["_law_cell"] fn_law_kinds := ok_law_kinds D5 C_law_mixed
  have C_law_group : ZS.Cal l.prog w K mg base "_law_group" 3 ["_law_cell", "_law_name", "_law_kinds_here"] fn_law_group := ok_law_group D6 C_law_mixed C_law_wishes g_range
  exact fnQ (N := ["_law_script", "_law_cell", "_law_group_here", "_law_mores", "_law_row", "_law_found"]) (b := b_law) F7 sc_law (dr_law C_law_cell_at C_law_group C_law_kinds C_law_whole C_worth_in g_dict g_range fa)
theorem walk {l : PySem.W.OpenLaw} {q : Program} {loose : List Str} {XP : (Str → Option Value) → Heap → Prop} {YP : World → Heap → Prop} {d : DefRec} {K : Params → PySem.W.Frag} (hn : l.most = some 63) (hdf : d.params.defaults = [])
    (hY : ∀ (w : World) (h : Heap), YP w h → (K w.params).In h)
    (F : ∀ (w : World) (mg : Str → Option Value) (fa : Addr) (h : Heap), (K w.params).In h → h.Ns mainGlobals mg → mg d.name = some (.ref fa) →
      ∃ fd : FuncData, (∀ (s : Shared) (u : Value), BindsTo s fd ⟨[u], []⟩ [("_law_script", u)]) ∧ ∀ base : Heap, (K w.params).In base → base.Ns mainGlobals mg → FnOk l.prog w (K w.params) mg base CX0 4 fa fd ["_law_script"] (ZS.spZ (K w.params) fn_law)) :
    PySem.W.WalkO q loose XP YP l.row.toRowW d [] (fun f vs => PySem.call f vs) :=
  ZS.walk_B (n := 63) (k := 4) (x := "_law_script") (m := fn_law) hn (by decide) hdf ⟨rfl, by decide, by decide⟩ hY F holds
end K05
open PySem PySem.W PyProof.Rows
set_option maxRecDepth 100000 in
set_option maxHeartbeats 0 in
theorem PySem.Challenge.cw_besideseats_k05_worth_in_rows_holds : PySem.Challenge.rw_besideseats_k05_worth_in_rows.Holds := by
  w_on; o_law; k_head; (case hw => w_witness2)
  k_fill
  refine K05.walk (l := PySem.Challenge.rw_besideseats_k05_worth_in_rows) rfl rfl (fun w h Y => PySem.W.kIn_of Y) ?F
  case F =>
    intro w mg fa h KX G hmg
    refine' K05.all_mk KX G hmg ?a0 ?l0 ?c0 ?k0 ?a1 ?l1 ?c1 ?k1 ?a2 ?l2 ?c2 ?k2 ?a3 ?l3 ?c3 ?k3 ?a4 ?l4 ?c4 ?k4 ?a5 ?l5 ?c5 ?k5 ?a6 ?l6 ?c6 ?k6 ?a7 ?l7 ?c7 ?k7 ?v_WISHES ?v_WORTH ?n_bool ?n_dict ?n_int ?n_isinstance ?n_len ?n_range ?n_sum ?n_tuple
    (case a0 => k_is)
    (case l0 => k_is)
    (case c0 => k_is)
    (case k0 => k_is)
    (case a1 => k_is)
    (case l1 => k_is)
    (case c1 => k_is)
    (case k1 => k_is)
    (case a2 => k_is)
    (case l2 => k_is)
    (case c2 => k_is)
    (case k2 => k_is)
    (case a3 => k_is)
    (case l3 => k_is)
    (case c3 => k_is)
    (case k3 => k_is)
    (case a4 => k_is)
    (case l4 => k_is)
    (case c4 => k_is)
    (case k4 => k_is)
    (case a5 => k_is)
    (case l5 => k_is)
    (case c5 => k_is)
    (case k5 => k_is)
    (case a6 => k_is)
    (case l6 => k_is)
    (case c6 => k_is)
    (case k6 => k_is)
    (case a7 => k_is)
    (case l7 => k_is)
    (case c7 => k_is)
    (case k7 => k_is)
    (case v_WISHES => k_is)
    (case v_WORTH => k_is)
    (case n_bool => k_is)
    (case n_dict => k_is)
    (case n_int => k_is)
    (case n_isinstance => k_is)
    (case n_len => k_is)
    (case n_range => k_is)
    (case n_sum => k_is)
    (case n_tuple => k_is)
#print axioms PySem.Challenge.cw_besideseats_k05_worth_in_rows_holds
