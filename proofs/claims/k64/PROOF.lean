import PyProof.Rows.All
import Wide.All
import OpenK.AllK
import Wide.FinOn
import Lean
import KE.KMinKey
import PyProof.WalkInts
import PyProof.SeqI3
import PyProof.Rows.CallKwBuiltin
import PyProof.EqAt
import PyProof.EqKinds
import PyProof.TupleCall
import PySem.Challenge.RW_besideseats_k64_trees_looked_at
set_option Elab.async false
set_option linter.all false
set_option maxRecDepth 100000
set_option genSizeOf false
set_option compiler.extract_closed false
set_option bootstrap.genMatcherCode false
namespace L2
open PySem PySem.Spec PyProof.Rows
noncomputable abbrev Key:=Sum Int Str
noncomputable def keyIs:Key→Value→Bool
  | .inl k,v=>Value.isInt k v
  | .inr x,v=>Value.isStrOf x v
noncomputable def keyH (w:World):Key→Int
  | .inl k=>hashInt k
  | .inr x=>hashStr w x
theorem keyIs_shape:∀ {k:Key} {v:Value},keyIs k v=true→(∃ i t,k=Sum.inl i∧v=Value.int i t)∨(∃ x t,k=Sum.inr x∧v=Value.str x t)
  | .inl i,v,h=>by
    obtain ⟨t,e⟩:=Value.isInt_shape (k:=i) (v:=v) h
    exact .inl ⟨i,t,rfl,e⟩
  | .inr x,v,h=>by
    obtain ⟨t,e⟩:=Value.isStrOf_shape (x:=x) (v:=v) h
    exact .inr ⟨x,t,rfl,e⟩
theorem key_ll (a b:Int):decide ((Sum.inl a:Key)=Sum.inl b)=(a==b):=by
  by_cases e:a=b
  · subst e;simp
  · have h:¬ (Sum.inl a:Key)=Sum.inl b:=fun q=>e (Sum.inl.inj q)
    rw [decide_eq_false h]
    exact (beq_eq_false_iff_ne.mpr e).symm
theorem key_rr (a b:Str):decide ((Sum.inr a:Key)=Sum.inr b)=decide (a=b):=by
  by_cases e:a=b
  · subst e;simp
  · have h:¬ (Sum.inr a:Key)=Sum.inr b:=fun q=>e (Sum.inr.inj q)
    rw [decide_eq_false h,decide_eq_false e]
theorem key_lr (a:Int) (b:Str):decide ((Sum.inl a:Key)=Sum.inr b)=false:=decide_eq_false (fun q=>nomatch q)
theorem key_rl (a:Str) (b:Int):decide ((Sum.inr a:Key)=Sum.inl b)=false:=decide_eq_false (fun q=>nomatch q)
noncomputable def mixKind (prog:Program) (w:World):PySem.KeyKind prog w Key where
  is:=keyIs
  hash:=keyH w
  inj:=fun v a b ha hb=>by
    rcases keyIs_shape ha with ⟨i,t,rfl,rfl⟩ | ⟨x,t,rfl,rfl⟩
    · rcases keyIs_shape hb with ⟨j,u,rfl,e⟩ | ⟨y,u,rfl,e⟩
      · injection e with e1 _;rw [e1]
      · exact nomatch e
    · rcases keyIs_shape hb with ⟨j,u,rfl,e⟩ | ⟨y,u,rfl,e⟩
      · exact nomatch e
      · injection e with e1 _;rw [e1]
  byValue:=fun k v h=>by
    rcases keyIs_shape h with ⟨i,t,rfl,rfl⟩ | ⟨x,t,rfl,rfl⟩<;>rfl
  pyHash:=fun hv h=>by
    rcases keyIs_shape hv with ⟨i,t,rfl,rfl⟩ | ⟨x,t,rfl,rfl⟩
    · exact wpAny_pyHash_int h
    · exact wpAny_pyHash_str h
  eqBool:=fun hu hv h=>by
    rcases keyIs_shape hu with ⟨i,t,rfl,rfl⟩ | ⟨x,t,rfl,rfl⟩
    · rcases keyIs_shape hv with ⟨j,u,rfl,rfl⟩ | ⟨y,u,rfl,rfl⟩
      · rw [key_ll] at h;exact wpAny_eqBool_int h
      · rw [key_lr] at h;exact SeqAt.EqAt.int_str i t y u _ _ _ _ h
    · rcases keyIs_shape hv with ⟨j,u,rfl,rfl⟩ | ⟨y,u,rfl,rfl⟩
      · rw [key_rl] at h;exact SeqAt.EqAt.str_int x t j u _ _ _ _ h
      · rw [key_rr] at h;exact wpAny_eqBool_str h
  «strs»:=fun k x t v h=>by
    rcases keyIs_shape h with ⟨i,u,rfl,e⟩ | ⟨y,u,rfl,e⟩
    · exact nomatch e
    · injection e with e1 _
      subst e1
      cases v<;>rfl
end L2
namespace L2
open PySem PySem.Spec PyProof.Rows
inductive V where
  | non | bl (b:Bool) | int (i:Int) | str (x:Str) | byt (b:Array UInt8) | flt (b:UInt64) | ref (a:Addr) | ty (n:String)
  deriving DecidableEq
def RelV:V→Value→Prop
  | .non,u=>u=Value.none
  | .bl b,u=>u=Value.bool b
  | .int i,u=>∃ t,u=Value.int i t
  | .str x,u=>∃ t,u=Value.str x t
  | .byt b,u=>∃ t,u=Value.bytes b t
  | .flt b,u=>∃ t,u=Value.float b t
  | .ref a,u=>u=Value.ref a
  | .ty n,u=>u=Value.type n
abbrev Vals:List V→List Value→Prop:=Paired RelV
theorem Vals.length {xs:List V} {us:List Value} (r:Vals xs us):xs.length=us.length:=Paired.length r
theorem Vals.get:∀ {xs:List V} {us:List Value} {i:Nat} {x:V},Vals xs us→xs[i]?=some x→∃ u,us[i]?=some u∧RelV x u
  | _,_,_,_,.nil,e=>by simp at e
  | _,_,0,_,.cons r _,e=>by simp at e;subst e;exact ⟨_,rfl,r⟩
  | _,_,i+1,x,.cons _ t,e=>by
    obtain ⟨u,h1,h2⟩:=Vals.get (i:=i) (x:=x) t (by simpa using e)
    exact ⟨u,by simpa using h1,h2⟩
theorem Vals.set {x:V} {u:Value} (r:RelV x u):∀ {xs:List V} {us:List Value} (i:Nat),Vals xs us→Vals (xs.set i x) (us.set i u)
  | _,_,_,.nil=>.nil
  | _,_,0,.cons _ t=>.cons r t
  | _,_,i+1,.cons q t=>.cons q (Vals.set r i t)
theorem Vals.append:∀ {xs ys:List V} {us ws:List Value},Vals xs us→Vals ys ws→Vals (xs++ys) (us++ws)
  | _,_,_,_,.nil,s=>s
  | _,_,_,_,.cons r t,s=>.cons r (Vals.append t s)
theorem Vals.take:∀ {xs:List V} {us:List Value} (n:Nat),Vals xs us→Vals (xs.take n) (us.take n)
  | _,_,0,_=>.nil
  | _,_,_+1,.nil=>.nil
  | _,_,n+1,.cons r t=>.cons r (Vals.take n t)
theorem Vals.drop:∀ {xs:List V} {us:List Value} (n:Nat),Vals xs us→Vals (xs.drop n) (us.drop n)
  | _,_,0,r=>r
  | _,_,_+1,.nil=>.nil
  | _,_,n+1,.cons _ t=>Vals.drop n t
def RelO:Option V→Option Value→Prop
  | some v,some u=>RelV v u
  | none,none=>True
  | _,_=>False
def KV {κ:Type}:List (κ×V)→List (κ×Value)→Prop:=Paired fun (p:κ×V) (q:κ×Value)=>p.1=q.1∧RelV p.2 q.2
noncomputable def kV:Key→V
  | .inl i=>.int i
  | .inr x=>.str x
inductive HO where
    | lst (xs:List V)
    | tup (xs:List V)
    | dK (kvs:List (Key×V)) | dT (kvs:List (List Key×V))
    | set (S:Int→Bool) (n:Nat)
    | ins (C dx:Addr) (fs:List (Str×V))
    | own (x:Addr)
    | xd (fs:List (Str×V))
    | met (f x:Addr)
    | rng (lo hi:Int)
    | frz (o:Obj) (u:HO)
    | tbl (ps:Array Value)
    | ext (φ:Heap→Prop)
noncomputable abbrev Hp:=Addr→Option HO
noncomputable def upd (H:Hp) (a:Addr) (o:HO):Hp:=fun b=>if b=a then some o else H b
theorem upd_same {H:Hp} {a:Addr} {o:HO}:upd H a o a=some o:=by unfold upd;rw [if_pos rfl]
theorem upd_ne {H:Hp} {a b:Addr} {o:HO} (h:b≠a):upd H a o b=H b:=by unfold upd;rw [if_neg h]
theorem ne_of_none {H:Hp} {a b:Addr} {o:HO} (h:H a=some o) (h':H b=none):a≠b:=by
  intro e;subst e;rw [h] at h';cases h'
section
variable (P:Program) (w:World)
def ObjOk (H:Hp) (h:Heap) (a:Addr):HO→Prop
  | .lst xs=>xs.length≤sizeLine∧∃ (its:List Value) (n:Nat),Vals xs its∧h.get? a=some { cls:=.type "list",data:=.seq its.toArray n }
  | .tup xs=>xs.length≤sizeLine∧∃ its:List Value,Vals xs its∧IsTup h a its.toArray
  | .dK kvs=>kvs.length≤sizeLine∧(a==sysModules)=false∧∃ vs,KV kvs vs∧h.DictOf (mixKind P w) a vs
  | .dT kvs=>kvs.length≤sizeLine∧(a==sysModules)=false∧∃ xs:List (List Key×Addr×Value),
      Paired (fun (p:List Key×V) (q:List Key×Addr×Value)=>p.1=q.1∧H q.2.1=some (.tup (p.1.map kV))∧RelV p.2 q.2.2) kvs xs ∧
      ∃ o es ep,h.get? a=some o∧o.ExactDict∧o.data=.dict es ep∧es.toList=xs.map (entryOfKey (tupleKind (mixKind P w)))∧(xs.map (·.1)).Nodup
  | .set S n=>h.SetOf (intKind P w) a S n
  | .ins C dx fs=>H dx=some (.own a)∧fs.length≤1000∧dx≠a∧h.get? a=some (PySem.W.instObj C dx) ∧
      ∃ mA,h.Ns1 dx mA∧(∀ f,RelO (fs.lookup f) (mA f))∧PySem.Within mA (fs.map (·.1))
  | .own _=>∃ o,h.get? a=some o
  | .xd fs=>∃ mA,h.Ns1 a mA∧∀ f,RelO (fs.lookup f) (mA f)
  | .rng lo hi=>∃ t u v,h.get? a=some { cls:=.type "range",data:=.fields #[.int lo t,.int hi u,.int 1 v] }
  | .frz o u=>h.get? a=some o∧ObjOk H h a u
  | .tbl ps=>h.get? a=some { cls:=.none,data:=.fields ps }
  | .met f x=>h.get? a=some (PySem.W.methodObj (.ref f) (.ref x))
  | .ext φ=>φ h∧(∃ o,h.get? a=some o)∧∀ h1 h2:Heap,φ h1→(∀ o,h1.get? a=some o→h2.get? a=some o)→φ h2
def HOk (H:Hp) (h:Heap):Prop:=∀ a o,H a=some o→ObjOk P w H h a o
end
section
variable {P:Program} {w:World} {H H':Hp} {h h':Heap} {a:Addr} {o:HO}
theorem ObjOk.lt (x:ObjOk P w H h a o):a < h.objs.size:=by
  cases o with
  | lst xs=>obtain ⟨_,_,_,_,e⟩:=x;exact Heap.lt_size e
  | tup xs=>obtain ⟨_,_,_,p⟩:=x;exact p.lt
  | dK kvs=>obtain ⟨_,_,_,_,o,_,_,e,_⟩:=x;exact Heap.lt_size e
  | dT kvs=>obtain ⟨_,_,_,_,o,_,_,e,_⟩:=x;exact Heap.lt_size e
  | set S n=>obtain ⟨o,_,_,_,e,_⟩:=x;exact Heap.lt_size e
  | ins C dx fs=>obtain ⟨_,_,_,e,_⟩:=x;exact Heap.lt_size e
  | own y=>obtain ⟨_,e⟩:=x;exact Heap.lt_size e
  | xd fs=>obtain ⟨_,⟨_,_,_,e,_⟩,_⟩:=x;exact Heap.lt_size e
  | rng lo hi=>obtain ⟨_,_,_,e⟩:=x;exact Heap.lt_size e
  | frz ob u=>obtain ⟨e,_⟩:=x;exact Heap.lt_size e
  | tbl ps=>exact Heap.lt_size (show h.get? a=some _ from x)
  | met f y=>exact Heap.lt_size (show h.get? a=some _ from x)
  | ext φ=>obtain ⟨_,⟨_,e⟩,_⟩:=x;exact Heap.lt_size e
theorem Paired.mapP {α β:Type} {F G:α→β→Prop}:∀ {l₁:List α} {l₂:List β},Paired F l₁ l₂→(∀ a b,F a b→G a b)→Paired G l₁ l₂
  | _,_,.nil,_=>.nil
  | _,_,.cons r t,f=>.cons (f _ _ r) (Paired.mapP t f)
theorem ObjOk.stay (x:ObjOk P w H h a o) (k:∀ b u,(b=a∨H b=some (.own a))→h.get? b=some u→h'.get? b=some u)
    (ho:∀ b,H b=some (.own a)→H' b=some (.own a)) (ht:∀ b xs,H b=some (.tup xs)→H' b=some (.tup xs)):ObjOk P w H' h' a o:=by
  induction o with
  | lst xs=>obtain ⟨z,its,n,r,e⟩:=x;exact ⟨z,its,n,r,k _ _ (.inl rfl) e⟩
  | tup xs=>obtain ⟨z,its,r,ob,e,c⟩:=x;exact ⟨z,its,r,ob,k _ _ (.inl rfl) e,c⟩
  | dK kvs=>obtain ⟨z,y,vs,r,ob,es,ep,e,c⟩:=x;exact ⟨z,y,vs,r,ob,es,ep,k _ _ (.inl rfl) e,c⟩
  | dT kvs =>
    obtain ⟨z,y,xs,r,ob,es,ep,e,c⟩:=x
    exact ⟨z,y,xs,Paired.mapP r fun p q z=>⟨z.1,ht _ _ z.2.1,z.2.2⟩,ob,es,ep,k _ _ (.inl rfl) e,c⟩
  | set S n=>obtain ⟨ob,es,ep,t,e,c⟩:=x;exact ⟨ob,es,ep,t,k _ _ (.inl rfl) e,c⟩
  | ins C dx fs =>
    obtain ⟨d,z,ne,e,mA,⟨od,es,ep,e2,c⟩,r⟩:=x
    exact ⟨ho _ d,z,ne,k _ _ (.inl rfl) e,mA,⟨od,es,ep,k _ _ (.inr d) e2,c⟩,r⟩
  | own y=>obtain ⟨ob,e⟩:=x;exact ⟨ob,k _ _ (.inl rfl) e⟩
  | xd fs=>obtain ⟨mA,⟨od,es,ep,e,c⟩,r⟩:=x;exact ⟨mA,⟨od,es,ep,k _ _ (.inl rfl) e,c⟩,r⟩
  | rng lo hi=>obtain ⟨t,u,v,e⟩:=x;exact ⟨t,u,v,k _ _ (.inl rfl) e⟩
  | frz ob u ih=>obtain ⟨e,q⟩:=x;exact ⟨k _ _ (.inl rfl) e,ih q⟩
  | tbl ps =>
    have e:h.get? a=some { cls:=.none,data:=.fields ps }:=x
    show h'.get? a=some { cls:=.none,data:=.fields ps }
    exact k a _ (.inl rfl) e
  | met f y =>
    have e:h.get? a=some (PySem.W.methodObj (.ref f) (.ref y)):=x
    show h'.get? a=some (PySem.W.methodObj (.ref f) (.ref y))
    exact k a _ (.inl rfl) e
  | ext φ=>obtain ⟨p,⟨o,e⟩,st⟩:=x;exact ⟨st _ _ p fun o q=>k _ _ (.inl rfl) q,⟨o,k _ _ (.inl rfl) e⟩,st⟩
theorem HOk.lt (x:HOk P w H h) (e:H a=some o):a < h.objs.size:=(x a o e).lt
theorem HOk.fresh (x:HOk P w H h) (e:h.objs.size≤a):H a=none:=by
  cases q:H a with
  | none=>rfl
  | some u=>exact absurd (Nat.lt_of_lt_of_le (x.lt q) e) (Nat.lt_irrefl _)
theorem HOk.kept (x:HOk P w H h) (k:∀ b u,h.get? b=some u→h'.get? b=some u):HOk P w H h':=fun a o e =>
  (x a o e).stay (fun b u _ q=>k b u q) (fun _ q=>q) fun _ _ q=>q
theorem HOk.laid (x:HOk P w H h) (k:∀ b u,h.get? b=some u→h'.get? b=some u) (hp:h.objs.size≤a) (new:ObjOk P w (upd H a o) h' a o):HOk P w (upd H a o) h':=fun b u e=>by
  have hn:=x.fresh hp
  by_cases hb:b=a
  · subst hb;rw [upd_same] at e;cases e;exact new
  · rw [upd_ne hb] at e
    exact (x b u e).stay (fun c v _ q=>k c v q) (fun c q=>by rw [upd_ne (ne_of_none q hn)];exact q) fun c xs q=>by rw [upd_ne (ne_of_none q hn)];exact q
end
def Rd (H:Hp) (a:Addr) (u:HO):Prop:=H a=some u∨∃ o,H a=some (.frz o u)
theorem Rd.of {H:Hp} {a:Addr} {u:HO} (h:H a=some u):Rd H a u:=.inl h
theorem Rd.ok {P:Program} {w:World} {H:Hp} {h:Heap} {a:Addr} {u:HO} (r:Rd H a u) (x:HOk P w H h):ObjOk P w H h a u:=by
  rcases r with r | ⟨o,r⟩
  · exact x a u r
  · obtain ⟨_,q⟩:=x a _ r
    exact q
def Mut:Option HO→Prop
  | some (.lst _)=>True
  | some (.dK _)=>True
  | some (.dT _)=>True
  | some (.set _ _)=>True
  | some (.ins _ _ _)=>True
  | some (.ext _)=>True
  | _=>False
section
variable {P:Program} {w:World} {H:Hp} {h h':Heap} {x e:Addr} {o':HO}
theorem HOk.write (ok : HOk P w H h) (mu : Mut (H x)) (he : e = x ∨ H e = some (.own x)) (k : ∀ b u, b ≠ e → h.get? b = some u → h'.get? b = some u) (heo : ∃ u, h'.get? e = some u)
    (new:ObjOk P w (upd H x o') h' x o'):HOk P w (upd H x o') h':=fun b u q=>by
  have nown:∀ c y,H c=some (.own y)→c≠x:=fun c y r z=>by subst z;rw [r] at mu;exact mu
  have ntup:∀ c xs,H c=some (.tup xs)→c≠x:=fun c xs r z=>by subst z;rw [r] at mu;exact mu
  by_cases hb:b=x
  · subst hb;rw [upd_same] at q;cases q;exact new
  · rw [upd_ne hb] at q
    by_cases hbe:b=e
    · have q':H b=some (.own x):=by
        rcases he with z | z
        · exact absurd (hbe.trans z) hb
        · rw [hbe];exact z
      rw [q] at q';cases q'
      obtain ⟨v,hv⟩:=heo
      exact ⟨v,by rw [hbe];exact hv⟩
    · refine (ok b u q).stay (fun c v hc r=>k c v ?_ r) (fun c r=>by rw [upd_ne (nown c b r)];exact r) fun c xs r=>by rw [upd_ne (ntup c xs r)];exact r
      rcases hc with rfl | hc
      · exact hbe
      · rintro rfl
        rcases he with z | z
        · exact nown c b hc z
        · rw [hc] at z;cases z;exact hb rfl
end
structure Un (fs ex:List Addr) (H H':Hp) (h h':Heap):Prop where
  keep:∀ b o,h.get? b=some o→H b=none→b∉fs→b∉ex→h'.get? b=some o
  slot:∀ b o,h.get? b=some o→H b=none→b∈fs→b∉ex→∃ sl,h'.get? b=some { o with slots:=sl }
  free:∀ b o,h.get? b=some o→H b=none→b∉ex→H' b=none
  there:∀ b o,h.get? b=some o→b∉ex→∃ o',h'.get? b=some o'
  tups:∀ b xs,H b=some (.tup xs)→H' b=some (.tup xs)
  frzs:∀ b o u,H b=some (.frz o u)→H' b=some (.frz o u)
  tbls:∀ b ps,H b=some (.tbl ps)→∃ more,H' b=some (.tbl (ps++more))
section
variable {fs fs' ex ex':List Addr} {H H1 H2:Hp} {h h1 h2 h':Heap} {a x e:Addr} {o:HO}
theorem Un.any (u:Un fs ex H H1 h h1) {b:Addr} {ob:Obj} (q:h.get? b=some ob) (n:H b=none) (hx:b∉ex):∃ sl,h1.get? b=some { ob with slots:=sl }:=by
  by_cases hb:b∈fs
  · exact u.slot b ob q n hb hx
  · exact ⟨ob.slots,u.keep b ob q n hb hx⟩
theorem Un.kept (k:∀ b u,h.get? b=some u→h'.get? b=some u):Un fs ex H H h h' :=
  ⟨fun b ob q _ _ _=>k b ob q,fun b ob q _ _ _=>⟨ob.slots,k b ob q⟩,fun _ _ _ n _=>n,fun b ob q _=>⟨ob,k b ob q⟩,fun _ _ q=>q,fun _ _ _ q=>q,fun _ ps q=>⟨#[],by rw [q];simp⟩⟩
theorem Un.refl:Un fs ex H H h h:=Un.kept fun _ _ q=>q
theorem Un.laid (k:∀ b u,h.get? b=some u→h'.get? b=some u) (hp:h.objs.size≤a) (hn:H a=none):Un fs ex H (upd H a o) h h' where
  keep:=fun b u q _ _ _=>k b u q
  slot:=fun b u q _ _ _=>⟨u.slots,k b u q⟩
  free:=fun b u q n _=>by rw [upd_ne (Nat.ne_of_lt (Nat.lt_of_lt_of_le (Heap.lt_size q) hp))];exact n
  there:=fun b u q _=>⟨u,k b u q⟩
  tups:=fun b xs q=>by rw [upd_ne (ne_of_none q hn)];exact q
  frzs:=fun b u xs q=>by rw [upd_ne (ne_of_none q hn)];exact q
  tbls:=fun b ps q=>⟨#[],by rw [upd_ne (ne_of_none q hn),q];simp⟩
theorem Un.write (mu:Mut (H x)) (he:e=x∨H e=some (.own x)) (k:∀ b u,b≠e→h.get? b=some u→h'.get? b=some u) (heo:∃ u,h'.get? e=some u):Un fs ex H (upd H x o) h h':=by
  have hx:∀ b,H b=none→b≠x:=fun b n z=>by subst z;rw [n] at mu;exact mu
  have hb:∀ b,H b=none→b≠e:=fun b n z=>by
    subst z
    rcases he with r | r
    · exact hx b n r
    · rw [n] at r;cases r
  have hm:∀ b u,H b=some u→¬ Mut (some u)→b≠x:=fun b u q nm z=>by subst z;rw [q] at mu;exact nm mu
  refine ⟨fun b u q n _ _=>k b u (hb b n) q,fun b u q n _ _=>⟨u.slots,k b u (hb b n) q⟩,fun b u q n _=>by rw [upd_ne (hx b n)];exact n,fun b u q _=>?_,
    fun b xs q=>by rw [upd_ne (hm b _ q fun z=>z)];exact q,fun b u xs q=>by rw [upd_ne (hm b _ q fun z=>z)];exact q,fun b ps q=>⟨#[],by rw [upd_ne (hm b _ q fun z=>z),q];simp⟩⟩
  by_cases hbe:b=e
  · subst hbe;exact heo
  · exact ⟨u,k b u hbe q⟩
theorem Un.mono (u:Un fs ex H H1 h h1) (hs:∀ b∈fs,b∈fs') (hx:∀ b∈ex,b∈ex'):Un fs' ex' H H1 h h1 :=
  ⟨fun b ob q n hb he=>u.keep b ob q n (fun z=>hb (hs b z)) fun z=>he (hx b z),fun _ _ q n _ he=>u.any q n fun z=>he (hx _ z),fun b ob q n he=>u.free b ob q n fun z=>he (hx b z),fun b ob q he=>u.there b ob q fun z=>he (hx b z),u.tups,u.frzs,u.tbls⟩
end
noncomputable def trk (h:Heap) (H:Hp):List Addr:=(List.range h.objs.size).filter fun a=>(H a).isSome
noncomputable def hidT (h:Heap) (H:Hp):Heap:=PySem.W.hideAll h (trk h H)
theorem hidT_size (h:Heap) (H:Hp):(hidT h H).objs.size=h.objs.size:=PySem.W.hideAll_size _ _
theorem hidT_get {h:Heap} {H:Hp} {b:Addr} {o:Obj} (e:h.get? b=some o) (n:H b=none):(hidT h H).get? b=some o :=
  PySem.W.hideAll_get _ e fun hm=>by
    have q:(H b).isSome=true:=(List.mem_filter.mp hm).2
    rw [n] at q;simp at q
theorem of_hidT {h:Heap} {H:Hp} {b:Addr} {o:Obj} (e:(hidT h H).get? b=some o):h.get? b=some o∧H b=none:=by
  have e':h.get? b=some o:=PySem.W.of_hideAll (trk h H) e
  refine ⟨e',?_⟩
  cases q:H b with
  | none=>rfl
  | some x =>
    have hm:b∈trk h H:=List.mem_filter.mpr ⟨List.mem_range.mpr (Heap.lt_size e'),by simp [q]⟩
    have z:(hidT h H).get? b=none:=PySem.W.hideAll_none (trk h H) hm
    rw [z] at e;cases e
noncomputable def allNews (g h:Heap) (L:Addr):List (Addr×Obj):=(List.range h.objs.size).filterMap fun a=>if a=L∨(g.get? a).isSome=true then none else (h.get? a).map fun o=>(a,o)
noncomputable def rest (g h:Heap) (L d:Addr):List (Addr×Obj):=(allNews g h L).filter fun p=>decide (p.1≠d)
end L2
namespace L2
open PySem PySem.Spec PyProof.Rows
structure Mod (K:PySem.W.Frag) (mg:Str→Option Value) (base:Heap):Prop where
  kin:K.In base
  glob:base.Ns mainGlobals mg
  blt:∃ mb,base.Ns builtinsNs mb∧∀ x:Str,x ≠ "__name__" → mb x=bootBuiltins x
  nolimit:base.NoLimit
structure Cx where
  prog:Program
  w:World
  K:PySem.W.Frag
  mg:Str→Option Value
  base:Heap
  A:Around
  N:List Str
  s₀:Shared
  H₀:Hp
  env:Env
  outer:List Env
  stack:List Env
  ex:List Addr
  fn:Str→Bool
  calm:Bool
  pn:List (Addr×Obj)
  xe:Value→Shared→Prop
noncomputable def frs (l:List Env):List Addr:=l.filterMap (·.frame)
noncomputable abbrev Cx.fs (X:Cx):List Addr:=frs X.outer
def Vis (sc:Scope) (x:Str):Prop:=sc.names.lookup x=some .local∨sc.names.lookup x=some .cell∨sc.names.lookup x=some .free
def Loc (sc:Scope) (x:Str):Prop:=sc.names.lookup x=some .local∨sc.names.lookup x=some .cell
def Look (env:Env) (h:Heap) (m:Str→Option Value) (x:Str) (u:Value):Prop :=
  (env.kindOf x=some .local∧m x=some u)∨((env.kindOf x=some .cell∨env.kindOf x=some .free)∧∃ c,env.cells.lookup x=some c∧h.IsCell c (some u))
structure Cx.Ok (X:Cx):Prop where
  mod:Mod X.K X.mg X.base
  kind:X.env.scope.kind=.function
  glob:X.env.globals=mainGlobals
  blt:X.env.builtins=builtinsNs
  above:X.s₀.heap.objs.size≤X.env.locals
  inj:∀ x y c,X.env.cells.lookup x=some c→X.env.cells.lookup y=some c→x=y
  has:∀ x,(X.env.kindOf x=some .cell∨X.env.kindOf x=some .free)→∃ c,X.env.cells.lookup x=some c
  cab:∀ x c,X.fn x=true→X.env.cells.lookup x=some c→X.s₀.heap.objs.size≤c
  hd:X.calm=true→X.A.handled=none
  frames:X.A.frames=some X.stack
  stk:X.stack=X.outer∨(X.stack=X.env :: X.outer∧X.env.frame=some X.env.locals)
  exf:∀ b∈X.ex,b≠X.env.locals∧∀ x c,X.env.cells.lookup x=some c→c≠b
  bs:∀ b o,X.base.get? b=some o→X.s₀.heap.get? b=some o∧X.H₀ b=none
  bsz:X.base.objs.size≤X.s₀.heap.objs.size
  noex:∀ b o,X.base.get? b=some o→b∉X.ex
  exfs:∀ b∈X.ex,b∉X.fs
  funs:X.s₀.heap.FunFrames X.base X.outer
  frf:∀ b∈X.fs,X.H₀ b=none
structure Inv (X:Cx) (pins:List (Addr×Obj)) (σ:List (Option V)) (H:Hp) (s:Shared):Prop where
  ok:X.Ok
  os:s.os=X.s₀.os
  bare:AllBare s.gens
  base:Un X.fs X.ex X.H₀ H X.s₀.heap s.heap
  loc:∃ m,s.heap.Ns X.env.locals m∧∀ (i:Nat) (x:Str) (v:V),X.N[i]?=some x→σ[i]?=some (some v)→Vis X.env.scope x→∃ u,RelV v u∧Look X.env s.heap m x u
  cell:∀ x c,X.env.cells.lookup x=some c→∃ v,s.heap.IsCell c v
  free:H X.env.locals=none
  freeC:∀ x c,X.env.cells.lookup x=some c→H c=none
  pin:∀ p∈X.pn++pins,s.heap.get? p.1=some p.2∧H p.1=none∧p.1≠X.env.locals∧p.1∉X.fs∧∀ v,p.2.data≠.cell v
  hok:HOk X.prog X.w H s.heap
  len:σ.length=X.N.length
section
variable {X:Cx} {pins:List (Addr×Obj)} {σ:List (Option V)} {H H':Hp} {s:Shared} {h':Heap}
theorem Cx.Ok.nofr (ok:X.Ok) {b:Addr} {o:Obj} (e:X.base.get? b=some o):b∉X.fs:=fun hb=>by
  have:=(ok.funs.mem hb).1
  rw [e] at this;cases this
theorem Inv.bs (I:Inv X pins σ H s):∀ b o,X.base.get? b=some o→s.heap.get? b=some o∧H b=none:=fun b o e =>
  ⟨I.base.keep b o (I.ok.bs b o e).1 (I.ok.bs b o e).2 (I.ok.nofr e) (I.ok.noex b o e),I.base.free b o (I.ok.bs b o e).1 (I.ok.bs b o e).2 (I.ok.noex b o e)⟩
theorem Inv.bk (I:Inv X pins σ H s):∀ b o,X.base.get? b=some o→s.heap.get? b=some o:=fun b o e=>(I.bs b o e).1
theorem Inv.mod (I:Inv X pins σ H s):Mod X.K X.mg X.base:=I.ok.mod
theorem Inv.kIn (I:Inv X pins σ H s):X.K.In s.heap:=I.ok.mod.kin.keeps I.bk
theorem Inv.nolimit (I:Inv X pins σ H s):s.heap.NoLimit:=I.ok.mod.nolimit.keeps I.bk
theorem Inv.fr (I:Inv X pins σ H s):∃ m,Fr X.base X.env.locals s.heap m :=
  let ⟨m,hn,_⟩:=I.loc
  ⟨m,hn,I.bk,Nat.le_trans I.ok.bsz I.ok.above⟩
theorem Inv.lt (I:Inv X pins σ H s):X.env.locals < s.heap.objs.size:=let ⟨_,hn,_⟩:=I.loc;hn.lt
theorem Inv.sz (I:Inv X pins σ H s):X.s₀.heap.objs.size≤s.heap.objs.size:=Nat.le_trans I.ok.above (Nat.le_of_lt I.lt)
theorem Inv.nofs (I:Inv X pins σ H s) {a:Addr} (h:s.heap.objs.size≤a):a∉X.fs:=fun hb=>by
  obtain ⟨_,o,ho,_⟩:=I.ok.funs.mem hb
  exact absurd (Nat.lt_of_lt_of_le (Heap.lt_size ho) (Nat.le_trans I.sz h)) (Nat.lt_irrefl _)
theorem Inv.cne (I:Inv X pins σ H s):∀ x c,X.env.cells.lookup x=some c→c≠X.env.locals:=fun x c e z=>by
  obtain ⟨v,o,ho,hd⟩:=I.cell x c e
  obtain ⟨m,⟨o',es,ep,ho',hd',_⟩,_⟩:=I.loc
  rw [z,ho'] at ho;cases ho;rw [hd'] at hd;cases hd
theorem Inv.funs (I:Inv X pins σ H s):s.heap.FunFrames X.base X.outer:=by
  have all:∀ (l:List Env),(∀ b∈frs l,b∈X.fs)→X.s₀.heap.FunFrames X.base l→s.heap.FunFrames X.base l:=by
    intro l
    induction l with
    | nil=>intro _ _;trivial
    | cons env r ih =>
      intro hs hl
      obtain ⟨hk,⟨L,o,hf,hn,ho,hd⟩,hr⟩:=hl
      have hL:L∈X.fs:=hs L (by unfold frs;rw [List.filterMap_cons,hf];exact List.mem_cons_self)
      obtain ⟨sl,e⟩:=I.base.slot L o ho (I.ok.frf L hL) hL fun z=>I.ok.exfs L z hL
      exact ⟨hk,⟨L,_,hf,hn,e,hd⟩,ih (fun b hb=>hs b (by unfold frs;rw [List.filterMap_cons,hf];exact List.mem_cons_of_mem _ hb)) hr⟩
  exact all X.outer (fun _ hb=>hb) I.ok.funs
theorem Inv.stack (I:Inv X pins σ H s):s.heap.FunFrames X.base X.stack:=by
  rcases I.ok.stk with e | ⟨e,hf⟩
  · rw [e];exact I.funs
  · rw [e]
    obtain ⟨m,hn,_⟩:=I.loc
    refine .cons (by rw [I.ok.kind];decide) hf hn ?_ I.funs
    exact Heap.get?_none_of_le (Nat.le_trans I.ok.bsz I.ok.above)
theorem Inv.stkSub (I:Inv X pins σ H s):∀ b∈frs X.stack,b∈X.env.locals :: X.fs:=fun b hb=>by
  rcases I.ok.stk with e | ⟨e,hf⟩
  · rw [e] at hb;exact List.mem_cons_of_mem _ hb
  · rw [e] at hb
    unfold frs at hb
    rw [List.filterMap_cons,hf] at hb
    exact hb
theorem Inv.stkFree (I:Inv X pins σ H s):∀ b∈frs X.stack,H b=none:=fun b hb=>by
  rcases List.mem_cons.mp (I.stkSub b hb) with e | hb
  · rw [e];exact I.free
  · obtain ⟨_,o,ho,_⟩:=I.ok.funs.mem hb
    exact I.base.free b o ho (I.ok.frf b hb) fun z=>I.ok.exfs b z hb
theorem Inv.step {g':Array GenState} {t':Nat} {d':Drawn} {ch:List Addr} (I:Inv X pins σ H s)
    (hch:∀ b∈ch,(b∈X.ex∨X.s₀.heap.objs.size≤b)∧b≠X.env.locals∧(∀ x c,X.env.cells.lookup x=some c→c≠b)∧∀ p∈X.pn++pins,p.1≠b)
    (keep:∀ b o,b≠X.env.locals→b∉X.fs→b∉ch→s.heap.get? b=some o→H b=none→h'.get? b=some o)
    (slot:∀ b o,b≠X.env.locals→b∈X.fs→b∉ch→s.heap.get? b=some o→H b=none→∃ sl,h'.get? b=some { o with slots:=sl }) (free:∀ b o,b∉ch→s.heap.get? b=some o→H b=none→H' b=none)
    (there:∀ b o,b∉ch→s.heap.get? b=some o→∃ o',h'.get? b=some o')
    (tups:∀ b xs,H b=some (.tup xs)→H' b=some (.tup xs)) (frzs:∀ b o u,H b=some (.frz o u)→H' b=some (.frz o u)) (tbls:∀ b ps,H b=some (.tbl ps)→∃ more,H' b=some (.tbl (ps++more)))
    (ns:∀ m,s.heap.Ns X.env.locals m→h'.Ns X.env.locals m) (hok:HOk X.prog X.w H' h') (hg:AllBare g') :
    Inv X pins σ H' { s with heap:=h',gens:=g',drawn:=d',toks:=t' }:=by
  have neL:∀ b o,X.s₀.heap.get? b=some o→b≠X.env.locals:=fun b o e=>Nat.ne_of_lt (Nat.lt_of_lt_of_le (Heap.lt_size e) I.ok.above)
  have neC:∀ b o,X.s₀.heap.get? b=some o→b∉X.ex→b∉ch:=fun b o e hx hb=>by
    rcases (hch b hb).1 with z | z
    · exact hx z
    · exact absurd (Nat.lt_of_lt_of_le (Heap.lt_size e) z) (Nat.lt_irrefl _)
  have cellK:∀ x c,X.env.cells.lookup x=some c→∀ v,s.heap.IsCell c v→h'.IsCell c v:=fun x c e v ⟨o,ho,hd⟩=>by
    have nch:c∉ch:=fun z=>(hch c z).2.2.1 x c e rfl
    by_cases hc:c∈X.fs
    · obtain ⟨sl,q⟩:=slot c o (I.cne x c e) hc nch ho (I.freeC x c e)
      exact ⟨_,q,hd⟩
    · exact ⟨o,keep c o (I.cne x c e) hc nch ho (I.freeC x c e),hd⟩
  refine ⟨I.ok,I.os,hg,⟨fun b o e n hb hx=>?_,fun b o e n hb hx=>?_,fun b o e n hx=>?_,fun b o e hx=>?_,fun b xs e=>tups b xs (I.base.tups b xs e),fun b o xs e=>frzs b o xs (I.base.frzs b o xs e),fun b ps e=>?_⟩,?_,fun x c e=>?_,?_,fun x c e=>?_,fun p hp=>?_,hok,I.len⟩
  · exact keep b o (neL b o e) hb (neC b o e hx) (I.base.keep b o e n hb hx) (I.base.free b o e n hx)
  · obtain ⟨sl,e1⟩:=I.base.slot b o e n hb hx
    obtain ⟨sl',e2⟩:=slot b _ (neL b o e) hb (neC b o e hx) e1 (I.base.free b o e n hx)
    exact ⟨sl',e2⟩
  · obtain ⟨o',e1⟩:=I.base.there b o e hx
    exact free b o' (neC b o e hx) e1 (I.base.free b o e n hx)
  · obtain ⟨o',e1⟩:=I.base.there b o e hx
    exact there b o' (neC b o e hx) e1
  · obtain ⟨m1,e1⟩:=I.base.tbls b ps e
    obtain ⟨m2,e2⟩:=tbls b _ e1
    exact ⟨m1++m2,by rw [e2,Array.append_assoc]⟩
  · obtain ⟨m,hn,hl⟩:=I.loc
    refine ⟨m,ns m hn,fun i x v e1 e2 e3=>?_⟩
    obtain ⟨u,r,l⟩:=hl i x v e1 e2 e3
    refine ⟨u,r,?_⟩
    rcases l with l | ⟨k,c,e,z⟩
    · exact .inl l
    · exact .inr ⟨k,c,e,cellK x c e _ z⟩
  · obtain ⟨v,z⟩:=I.cell x c e
    exact ⟨v,cellK x c e v z⟩
  · obtain ⟨m,⟨o,_,_,ho,_⟩,_⟩:=I.loc
    exact free _ o (fun z=>(hch _ z).2.1 rfl) ho I.free
  · obtain ⟨v,o,ho,hd⟩:=I.cell x c e
    exact free c o (fun z=>(hch c z).2.2.1 x c e rfl) ho (I.freeC x c e)
  · obtain ⟨e,n,ne,nf,d⟩:=I.pin p hp
    have nch:p.1∉ch:=fun z=>(hch p.1 z).2.2.2 p hp rfl
    exact ⟨keep p.1 p.2 ne nf nch e n,free p.1 p.2 nch e n,ne,nf,d⟩
theorem Inv.un {t':Nat} (I:Inv X pins σ H s) (u:Un X.fs [] H H' s.heap h') (hok:HOk X.prog X.w H' h'):Inv X pins σ H' { s with heap:=h',toks:=t' }:=by
  obtain ⟨m,⟨o,es,ep,ho,r⟩,_⟩:=id I.loc
  obtain ⟨sl,hL⟩:=u.any ho I.free (by simp)
  exact I.step (g':=s.gens) (d':=s.drawn) (ch:=[]) (fun _ z=>nomatch z) (fun b o _ hb _ e n=>u.keep b o e n hb (by simp)) (fun b o _ hb _ e n=>u.slot b o e n hb (by simp)) (fun b o _ e n=>u.free b o e n (by simp)) (fun b o _ e=>u.there b o e (by simp)) u.tups u.frzs u.tbls (fun m' hm=>by
    obtain ⟨o',es',ep',ho',r'⟩:=hm
    rw [ho] at ho';cases ho'
    exact ⟨_,es',ep',hL,r'⟩) hok I.bare
theorem Inv.call {g':Array GenState} {t':Nat} {d':Drawn} {ch:List Addr} (I:Inv X pins σ H s) (u:Un (frs X.stack) ch H H' s.heap h') (hok:HOk X.prog X.w H' h') (hg:AllBare g')
    (hch:∀ b∈ch,(b∈X.ex∨X.s₀.heap.objs.size≤b)∧b≠X.env.locals∧(∀ x c,X.env.cells.lookup x=some c→c≠b)∧∀ p∈X.pn++pins,p.1≠b) :
    Inv X pins σ H' { s with heap:=h',gens:=g',drawn:=d',toks:=t' }:=by
  obtain ⟨m,⟨o,es,ep,ho,r⟩,_⟩:=id I.loc
  obtain ⟨sl,hL⟩:=u.any ho I.free fun z=>(hch _ z).2.1 rfl
  exact I.step (ch:=ch) hch (fun b o hL hb hc e n=>u.keep b o e n (fun z=>(List.mem_cons.mp (I.stkSub b z)).elim hL hb) hc) (fun b o _ _ hc e n=>u.any e n hc) (fun b o hc e n=>u.free b o e n hc) (fun b o hc e=>u.there b o e hc) u.tups u.frzs u.tbls (fun m' hm=>by
    obtain ⟨o',es',ep',ho',r'⟩:=hm
    rw [ho] at ho';cases ho'
    exact ⟨_,es',ep',hL,r'⟩) hok hg
theorem Inv.turned {t':Nat} {it:Addr} (I:Inv X pins σ H s) (k:∀ b o,b≠it→s.heap.get? b=some o→h'.get? b=some o) (hn:H it=none) (hL:it≠X.env.locals)
    (h1:it∈X.ex∨X.s₀.heap.objs.size≤it) (h2:∀ x c,X.env.cells.lookup x=some c→c≠it) (h3:∀ p∈X.pn++pins,p.1≠it):Inv X pins σ H { s with heap:=h',toks:=t' }:=by
  have nit:∀ b u,H b=some u→b≠it:=fun b u e z=>by rw [z,hn] at e;cases e
  refine I.step (g':=s.gens) (d':=s.drawn) (ch:=[it]) (fun b hb=>?_) (fun b o _ _ hc e _=>k b o (fun z=>hc (by simp [z])) e) (fun b o _ _ hc e _=>⟨o.slots,k b o (fun z=>hc (by simp [z])) e⟩) (fun _ _ _ _ n=>n)
    (fun b o hc e=>⟨o,k b o (fun z=>hc (by simp [z])) e⟩) (fun _ _ e=>e) (fun _ _ _ e=>e) (fun b ps e=>⟨#[],by rw [e];simp⟩) (fun m hm=>?_) (fun b u e=>?_) I.bare
  · have e:b=it:=by simpa using hb
    subst e
    exact ⟨h1,hL,h2,h3⟩
  · obtain ⟨o,es,ep,ho,r⟩:=hm
    exact ⟨o,es,ep,k _ o (Ne.symm hL) ho,r⟩
  · refine (I.hok b u e).stay (fun c v hc q=>k c v ?_ q) (fun _ q=>q) fun _ _ q=>q
    rcases hc with z | z
    · rw [z];exact nit b u e
    · exact nit c _ z
theorem Inv.tok (I:Inv X pins σ H s) (t:Nat):Inv X pins σ H { s with toks:=t }:=I.un (h':=s.heap) (t':=t) Un.refl I.hok
theorem Inv.kept {t':Nat} (I:Inv X pins σ H s) (k:∀ b u,s.heap.get? b=some u→h'.get? b=some u):Inv X pins σ H { s with heap:=h',toks:=t' }:=I.un (Un.kept k) (I.hok.kept k)
theorem Inv.laid {a:Addr} {o:HO} {t':Nat} (I:Inv X pins σ H s) (k:∀ b u,s.heap.get? b=some u→h'.get? b=some u) (hp:s.heap.objs.size≤a) (new:ObjOk X.prog X.w (upd H a o) h' a o) :
    Inv X pins σ (upd H a o) { s with heap:=h',toks:=t' }:=I.un (Un.laid k hp (I.hok.fresh hp)) (I.hok.laid k hp new)
theorem Inv.write {x e:Addr} {o:HO} {t':Nat} (I:Inv X pins σ H s) (mu:Mut (H x)) (he:e=x∨H e=some (.own x)) (k:∀ b u,b≠e→s.heap.get? b=some u→h'.get? b=some u) (heo:∃ u,h'.get? e=some u)
    (new:ObjOk X.prog X.w (upd H x o) h' x o):Inv X pins σ (upd H x o) { s with heap:=h',toks:=t' }:=I.un (Un.write mu he k heo) (I.hok.write mu he k heo new)
theorem Inv.pins_of {pins':List (Addr×Obj)} (I:Inv X pins σ H s) (h:∀ p∈pins',s.heap.get? p.1=some p.2∧H p.1=none∧p.1≠X.env.locals∧p.1∉X.fs∧∀ v,p.2.data≠.cell v):Inv X pins' σ H s :=
  ⟨I.ok,I.os,I.bare,I.base,I.loc,I.cell,I.free,I.freeC,fun p hp=>(List.mem_append.mp hp).elim (fun z=>I.pin p (List.mem_append_left _ z)) (h p),I.hok,I.len⟩
theorem nodup_ix {N:List Str} (hN:N.Nodup) {i j:Nat} {x:Str} (a:N[i]?=some x) (b:N[j]?=some x):i=j:=by
  obtain ⟨h1,e1⟩:=List.getElem?_eq_some_iff.mp a
  obtain ⟨h2,e2⟩:=List.getElem?_eq_some_iff.mp b
  exact (List.getElem_inj hN).mp (e1.trans e2.symm)
theorem store_ok2 {M : Model} {A : Around} {E : Value → Shared → Prop} {i : Nat} {x : Str} {v : V} {u : Value} {Q : Unit → Shared → Prop} (I : Inv X pins σ H s) (hN : X.N.Nodup) (hi : X.N[i]? = some x) (hx : Loc X.env.scope x) (r : RelV v u)
    (h:∀ s',Inv X pins (σ.set i (some v)) H s'→(∃ a,Heap.SameBut a s.heap s'.heap∧(a=X.env.locals∨X.env.cells.lookup x=some a))→Q () s') (hf:X.fn x=true∨X.env.scope.names.lookup x=some .local:=by first | exact .inl rfl | exact .inr rfl | assumption):wpAny M A (storeName X.env x u) Q E s:=by
  obtain ⟨m,hn,hl⟩:=id I.loc
  have hcls:(X.env.scope.kind==.class || (X.env.scope.kind==.module&&X.env.locals != X.env.globals))=false:=by rw [I.ok.kind];rfl
  have hiσ:i < σ.length:=by rw [I.len];exact (List.getElem?_eq_some_iff.mp hi).1
  have cne:=I.cne
  have tracked:∀ {a:Addr} {h':Heap},(∃ o,s.heap.get? a=some o∧H a=none)→Heap.SameBut a s.heap h'→HOk X.prog X.w H h':=fun {a h'} ha hs b ob e=>by
    obtain ⟨_,_,hfree⟩:=ha
    refine (I.hok b ob e).stay (fun c w' hc q=>(hs.2 c ?_).trans q) (fun _ q=>q) fun _ _ q=>q
    rintro rfl
    rcases hc with rfl | hc
    · rw [hfree] at e;cases e
    · rw [hfree] at hc;cases hc
  rcases hx with hk | hk
  · refine wpAny_storeName_local hk hn (fun h' hn' hs=>?_) hcls
    obtain ⟨oL,_,_,hoL,_⟩:=id hn
    refine h _ ⟨I.ok,I.os,I.bare,⟨fun b o e n hb hx=>?_,fun b o e n hb hx=>?_,I.base.free,fun b o e hx=>?_,I.base.tups,I.base.frzs,I.base.tbls⟩,⟨_,hn',fun j y v' e1 e2 e3=>?_⟩,fun y c e=>?_,I.free,I.freeC,fun p hp=>?_,tracked ⟨oL,hoL,I.free⟩ hs,by simpa using I.len⟩ ⟨_,hs,.inl rfl⟩
    · exact (hs.2 b (Nat.ne_of_lt (Nat.lt_of_lt_of_le (Heap.lt_size e) I.ok.above))).trans (I.base.keep b o e n hb hx)
    · obtain ⟨sl,e1⟩:=I.base.slot b o e n hb hx
      exact ⟨sl,(hs.2 b (Nat.ne_of_lt (Nat.lt_of_lt_of_le (Heap.lt_size e) I.ok.above))).trans e1⟩
    · obtain ⟨o',e1⟩:=I.base.there b o e hx
      exact ⟨o',(hs.2 b (Nat.ne_of_lt (Nat.lt_of_lt_of_le (Heap.lt_size e) I.ok.above))).trans e1⟩
    · by_cases hj:j=i
      · subst hj
        rw [hi] at e1;cases e1
        rw [List.getElem?_set_self hiσ] at e2
        cases e2
        exact ⟨u,r,.inl ⟨hk,by simp⟩⟩
      · rw [List.getElem?_set_ne (Ne.symm hj)] at e2
        obtain ⟨u',r',q⟩:=hl j y v' e1 e2 e3
        refine ⟨u',r',?_⟩
        rcases q with ⟨k,e⟩ | ⟨k,c,e,z⟩
        · refine .inl ⟨k,?_⟩
          have:y≠x:=fun e=>hj (nodup_ix hN e1 (e▸hi))
          simp [this,e]
        · exact .inr ⟨k,c,e,z.sameBut hs (cne y c e)⟩
    · obtain ⟨w',z⟩:=I.cell y c e
      exact ⟨w',z.sameBut hs (cne y c e)⟩
    · obtain ⟨e,n,ne,nf,d⟩:=I.pin p hp
      exact ⟨(hs.2 p.1 ne).trans e,n,ne,nf,d⟩
  · have hfn:X.fn x=true:=by
      rcases hf with z | z
      · exact z
      · rw [z] at hk;cases hk
    obtain ⟨c,hc⟩:=I.ok.has x (.inl hk)
    obtain ⟨w',z⟩:=I.cell x c hc
    refine wpAny_storeName_cell I.ok.kind hk hc z (fun h' hc' hs=>?_)
    obtain ⟨oc,hoc,hocd⟩:=id z
    refine h { s with heap:=h' } ⟨I.ok,I.os,I.bare,⟨fun b o e n hb hx=>?_,fun b o e n hb hx=>?_,I.base.free,fun b o e hx=>?_,I.base.tups,I.base.frzs,I.base.tbls⟩,⟨m,hn.sameBut hs (Ne.symm (cne x c hc)),fun j y v' e1 e2 e3=>?_⟩,fun y c' e=>?_,I.free,I.freeC,fun p hp=>?_,tracked ⟨oc,hoc,I.freeC x c hc⟩ hs,by simpa using I.len⟩ ⟨c,hs,.inr hc⟩
    · exact (hs.2 b (Nat.ne_of_lt (Nat.lt_of_lt_of_le (Heap.lt_size e) (I.ok.cab x c hfn hc)))).trans (I.base.keep b o e n hb hx)
    · obtain ⟨sl,e1⟩:=I.base.slot b o e n hb hx
      exact ⟨sl,(hs.2 b (Nat.ne_of_lt (Nat.lt_of_lt_of_le (Heap.lt_size e) (I.ok.cab x c hfn hc)))).trans e1⟩
    · obtain ⟨o',e1⟩:=I.base.there b o e hx
      exact ⟨o',(hs.2 b (Nat.ne_of_lt (Nat.lt_of_lt_of_le (Heap.lt_size e) (I.ok.cab x c hfn hc)))).trans e1⟩
    · by_cases hj:j=i
      · subst hj
        rw [hi] at e1;cases e1
        rw [List.getElem?_set_self hiσ] at e2
        cases e2
        exact ⟨u,r,.inr ⟨.inl hk,c,hc,hc'⟩⟩
      · rw [List.getElem?_set_ne (Ne.symm hj)] at e2
        obtain ⟨u',r',q⟩:=hl j y v' e1 e2 e3
        refine ⟨u',r',?_⟩
        rcases q with q | ⟨k,c',e,z'⟩
        · exact .inl q
        · refine .inr ⟨k,c',e,z'.sameBut hs ?_⟩
          rintro rfl
          exact hj (nodup_ix hN e1 (I.ok.inj _ _ _ e hc▸hi))
    · by_cases hcc:c'=c
      · subst hcc;exact ⟨_,hc'⟩
      · obtain ⟨w2,z2⟩:=I.cell y c' e
        exact ⟨w2,z2.sameBut hs hcc⟩
    · obtain ⟨e,n,ne,nf,d⟩:=I.pin p hp
      refine ⟨(hs.2 p.1 ?_).trans e,n,ne,nf,d⟩
      intro q
      rw [q,hoc] at e
      have q':oc=p.2:=Option.some.inj e
      exact d w' (by rw [←q'];exact hocd)
theorem store_ok {M:Model} {A:Around} {E:Value→Shared→Prop} {i:Nat} {x:Str} {v:V} {u:Value} {Q:Unit→Shared→Prop} (I:Inv X pins σ H s) (hN:X.N.Nodup) (hi:X.N[i]?=some x) (hx:Loc X.env.scope x) (r:RelV v u)
    (h:∀ s',Inv X pins (σ.set i (some v)) H s'→Q () s') (hf:X.fn x=true∨X.env.scope.names.lookup x=some .local:=by first | exact .inl rfl | exact .inr rfl | assumption):wpAny M A (storeName X.env x u) Q E s :=
  store_ok2 I hN hi hx r (fun s' I' _=>h s' I') hf
theorem Inv.call' {s':Shared} {ch:List Addr} (I:Inv X pins σ H s) (ho:s'.os=s.os) (u:Un (frs X.stack) ch H H' s.heap s'.heap) (hok:HOk X.prog X.w H' s'.heap) (hg:AllBare s'.gens)
    (hch:∀ b∈ch,(b∈X.ex∨X.s₀.heap.objs.size≤b)∧b≠X.env.locals∧(∀ x c,X.env.cells.lookup x=some c→c≠b)∧∀ p∈X.pn++pins,p.1≠b):Inv X pins σ H' s':=by
  obtain ⟨h',g',d',t',o'⟩:=s'
  have e:o'=s.os:=ho
  subst e
  exact I.call (g':=g') (t':=t') (d':=d') u hok hg hch
end
abbrev XK:=Value→Option Addr→Hp→Prop
noncomputable abbrev St:=List (Option V)
abbrev VK:=V→Hp→Prop
abbrev TE:=St→Hp→VK→Prop
abbrev TT:=St→Hp→(Bool→Hp→Prop)→Prop
abbrev TA:=St→Hp→(List V→Hp→Prop)→Prop
structure Ends where
  nx:St→Hp→Prop
  rt:VK
  bk:St→Hp→Prop:=fun _ _=>False
  ct:St→Hp→Prop:=fun _ _=>False
abbrev TS:=Ends→St→Hp→Prop
def EP (X:Cx) (pins:List (Addr×Obj)) (σ:St) (Q:VK) (u:Value) (s':Shared):Prop:=∃ v H',Inv X pins σ H' s'∧RelV v u∧Q v H'
def TP (X:Cx) (pins:List (Addr×Obj)) (σ:St) (Q:Bool→Hp→Prop) (b:Bool) (s':Shared):Prop:=∃ H',Inv X pins σ H' s'∧Q b H'
def AP (X:Cx) (pins:List (Addr×Obj)) (σ:St) (Q:List V→Hp→Prop) (us:List Value) (s':Shared):Prop:=∃ vs H',Inv X pins σ H' s'∧Vals vs us∧Q vs H'
def SP (X:Cx) (pins:List (Addr×Obj)) (D:Ends) (f:Flow) (s':Shared):Prop :=
  match f with
  | .next=>∃ σ' H',Inv X pins σ' H' s'∧D.nx σ' H'
  | .brk=>∃ σ' H',Inv X pins σ' H' s'∧D.bk σ' H'
  | .cont=>∃ σ' H',Inv X pins σ' H' s'∧D.ct σ' H'
  | .ret u=>∃ v σ' H',Inv X pins σ' H' s'∧RelV v u∧D.rt v H'
def PE (X:Cx) (e:Expr) (t:TE):Prop :=
  ∀ (pins:List (Addr×Obj)) (s:Shared) (σ:St) (H:Hp) (Q:VK),Inv X pins σ H s→t σ H Q→wpAny (model X.prog X.w) X.A (eval e X.env) (EP X pins σ Q) X.xe s
def PT (X:Cx) (e:Expr) (t:TT):Prop :=
  ∀ (pins:List (Addr×Obj)) (s:Shared) (σ:St) (H:Hp) (Q:Bool→Hp→Prop),Inv X pins σ H s→t σ H Q→wpAny (model X.prog X.w) X.A (isTrue e X.env (eval e X.env)) (TP X pins σ Q) X.xe s
def PW (X:Cx) (e:Expr) (t:TT):Prop :=
  ∀ (whole:Sem Value) (pins:List (Addr×Obj)) (s:Shared) (σ:St) (H:Hp) (Q:Bool→Hp→Prop),Inv X pins σ H s→t σ H Q→wpAny (model X.prog X.w) X.A (isTrue e X.env whole) (TP X pins σ Q) X.xe s
theorem PW.pt {X:Cx} {e:Expr} {t:TT} (h:PW X e t):PT X e t:=h _
def PA (X:Cx) (es:List Expr) (t:TA):Prop :=
  ∀ (pos:Pos) (pins:List (Addr×Obj)) (s:Shared) (σ:St) (H:Hp) (Q:List V→Hp→Prop),Inv X pins σ H s→t σ H Q→wpAny (model X.prog X.w) X.A (spliced (backTo pos (starEach es X.env))) (AP X pins σ Q) X.xe s
def PS (X:Cx) (st:Stmt) (t:TS):Prop :=
  ∀ (pins:List (Addr×Obj)) (s:Shared) (σ:St) (H:Hp) (D:Ends),Inv X pins σ H s→t D σ H→wpAny (model X.prog X.w) X.A (exec st X.env) (SP X pins D) X.xe s
def PSs (X:Cx) (st:List Stmt) (t:TS):Prop :=
  ∀ (pins:List (Addr×Obj)) (s:Shared) (σ:St) (H:Hp) (D:Ends),Inv X pins σ H s→t D σ H→wpAny (model X.prog X.w) X.A (execs st X.env) (SP X pins D) X.xe s
theorem thn {α:Type} {t:Sem α} {Q Q':α→Shared→Prop} {M:Model} {A:Around} {E:Value→Shared→Prop} {s:Shared} (h:wpAny M A t Q E s) (hQ:∀ a s,Q a s→Q' a s):wpAny M A t Q' E s:=wpAny_mono h hQ fun _ _ x=>x
end L2
namespace L2
open PySem PySem.Spec PyProof.Rows
section
variable {X:Cx}
noncomputable def tVar (i:Nat):TE:=fun σ H Q=>∃ v,σ[i]?=some (some v)∧Q v H
noncomputable def tC (v:V):TE:=fun _ H Q=>Q v H
theorem pe_var {i:Nat} {x:Str} {pos:Pos} (hN:X.N[i]?=some x) (hv:Vis X.env.scope x) (hd:(x==("__debug__" : Str))=false:=by decide) (hcd:(x==("__classdict__" : Str))=false:=by decide):PE X (.Name x pos) (tVar i):=by
  intro pins s σ H Q I h
  obtain ⟨v,e,h⟩:=h
  obtain ⟨m,hn,hl⟩:=I.loc
  obtain ⟨u,r,l⟩:=hl i x v hN e hv
  have fin:EP X pins σ Q u s:=⟨v,H,I,r,h⟩
  rcases l with ⟨hk,hm⟩ | ⟨hk,c,hc,hcell⟩
  · exact wpAny_Name (wpAny_loadName_local I.ok.kind hk hn hm fin) hd
  · rcases hk with hk | hk
    · exact wpAny_Name (wpAny_loadName_cell I.ok.kind hk hc hcell fin) hd
    · exact wpAny_Name (wpAny_loadName_free I.ok.kind hk hc hcell fin hcd) hd
theorem pe_int {i j pos}:PE X (.Constant (.int i) j pos) (tC (.int i)):=fun _ _ _ H _ I h=>wpAny_Constant_int ⟨.int i,H,I.tok _,⟨_,rfl⟩,h⟩
theorem pe_bl {b j pos}:PE X (.Constant (.bool b) j pos) (tC (.bl b)):=fun _ _ _ H _ I h=>Constant_bool ⟨.bl b,H,I,rfl,h⟩
theorem pe_non {j pos}:PE X (.Constant .none j pos) (tC .non):=fun _ _ _ H _ I h=>Constant_none ⟨.non,H,I,rfl,h⟩
theorem pe_str {x j pos}:PE X (.Constant (.str x) j pos) (tC (.str x)):=fun _ _ _ H _ I h=>Calls.Constant_str ⟨.str x,H,I.tok _,⟨_,rfl⟩,h⟩
def Gl (X:Cx) (x:Str):Prop:=X.env.kindOf x=some .globalImplicit
theorem ld_glob {E:Value→Shared→Prop} {pins:List (Addr×Obj)} {s:Shared} {σ:St} {H:Hp} {x:Str} {u:Value} {pos:Pos} {Q:Value→Shared→Prop} (I:Inv X pins σ H s) (hg:Gl X x) (hm:X.mg x=some u) (h:Q u s)
    (hd:(x==("__debug__" : Str))=false:=by decide):wpAny (model X.prog X.w) X.A (eval (.Name x pos) X.env) Q E s :=
  Calls.Name_function_global I.ok.kind hg (Calls.loadGlobal_global (by rw [I.ok.glob];exact I.mod.glob.keeps I.bk) hm h) hd
theorem ld_blt {E:Value→Shared→Prop} {pins:List (Addr×Obj)} {s:Shared} {σ:St} {H:Hp} {x:Str} {u:Value} {pos:Pos} {Q:Value→Shared→Prop} (I:Inv X pins σ H s) (hg:Gl X x) (hm:X.mg x=none) (hv:bootBuiltins x=some u) (h:Q u s)
    (hn:x ≠ "__name__" := by decide) (hd:(x==("__debug__" : Str))=false:=by decide):wpAny (model X.prog X.w) X.A (eval (.Name x pos) X.env) Q E s:=by
  obtain ⟨mb,h1,h2⟩:=I.mod.blt
  exact Calls.Name_function_global I.ok.kind hg (Calls.loadGlobal_builtin (by rw [I.ok.glob];exact I.mod.glob.keeps I.bk) hm (by rw [I.ok.blt];exact h1.keeps I.bk) ((h2 x hn).trans hv) h) hd
theorem pe_glob {x:Str} {v:V} {u:Value} {pos:Pos} (hg:Gl X x) (hm:X.mg x=some u) (r:RelV v u) (hd:(x==("__debug__" : Str))=false:=by decide):PE X (.Name x pos) (tC v) :=
  fun _ _ _ H _ I h=>ld_glob I hg hm ⟨v,H,I,r,h⟩ hd
theorem pe_bltn {x:Str} {v:V} {u:Value} {pos:Pos} (hg:Gl X x) (hm:X.mg x=none) (hv:bootBuiltins x=some u) (r:RelV v u) (hn:x ≠ "__name__" := by decide) (hd:(x==("__debug__" : Str))=false:=by decide):PE X (.Name x pos) (tC v) :=
  fun _ _ _ H _ I h=>ld_blt I hg hm hv ⟨v,H,I,r,h⟩ hn hd
variable {a b:Expr} {ta tb:TE} {pos:Pos}
noncomputable def tB (t:TE):TT:=fun σ H Q=>t σ H fun x H1=>∃ c,x=.bl c∧Q c H1
theorem pt_val {e:Expr} {t:TE} (h:PE X e t) (he:∀ whole,isTrue e X.env whole=(do let v ←whole;standAt e.pos;holding [v] (truthy v)):=by intro _;rfl):PT X e (tB t):=by
  intro pins s σ H Q I hw
  refine isTrue_plain (thn (h pins s σ H _ I hw) fun v s1 ⟨x,H1,I1,r1,q1⟩=>?_) (he _)
  obtain ⟨d,rfl,q⟩:=q1
  cases r1
  exact wpAny_truthy_bool ⟨H1,I1,q⟩
variable {tA tB':TT} {rest:List Expr}
noncomputable def tAnd (t u:TT):TT:=fun σ H Q=>t σ H fun c H1=>if c=true then u σ H1 Q else Q false H1
noncomputable def tOr (t u:TT):TT:=fun σ H Q=>t σ H fun c H1=>if c=true then Q true H1 else u σ H1 Q
noncomputable def tNot (t:TT):TT:=fun σ H Q=>t σ H fun c H1=>Q (!c) H1
theorem pw_and1 (ha:PT X a tA):PW X (.BoolOp .And [a] pos) tA:=by
  intro wh pins s σ H Q I h
  refine isTrue_and (thn (ha pins s σ H Q I h) fun c s1 e=>?_)
  cases c with
  | true=>exact isTrue_and_nil e
  | false=>exact e
theorem pw_or1 (ha:PT X a tA):PW X (.BoolOp .Or [a] pos) tA:=by
  intro wh pins s σ H Q I h
  refine isTrue_or (thn (ha pins s σ H Q I h) fun c s1 e=>?_)
  cases c with
  | false=>exact isTrue_or_nil e
  | true=>exact e
theorem pw_and (ha:PT X a tA) (hb:PW X (.BoolOp .And (b :: rest) pos) tB'):PW X (.BoolOp .And (a :: b :: rest) pos) (tAnd tA tB'):=by
  intro wh pins s σ H Q I h
  refine isTrue_and (thn (ha pins s σ H _ I h) fun c s1 ⟨H1,I1,q1⟩=>?_)
  cases c with
  | true=>exact hb wh pins s1 σ H1 Q I1 q1
  | false=>exact ⟨H1,I1,q1⟩
theorem pw_or (ha:PT X a tA) (hb:PW X (.BoolOp .Or (b :: rest) pos) tB'):PW X (.BoolOp .Or (a :: b :: rest) pos) (tOr tA tB'):=by
  intro wh pins s σ H Q I h
  refine isTrue_or (thn (ha pins s σ H _ I h) fun c s1 ⟨H1,I1,q1⟩=>?_)
  cases c with
  | true=>exact ⟨H1,I1,q1⟩
  | false=>exact hb wh pins s1 σ H1 Q I1 q1
theorem pt_not (ha:PT X a tA):PT X (.UnaryOp .Not a pos) (tNot tA):=by
  intro pins s σ H Q I h
  exact isTrue_not (ha pins s σ H (fun c H1=>Q (!c) H1) I h)
noncomputable def tAndV (ta tb:TE):TE:=fun σ H Q=>ta σ H fun x H1=>∃ c,x=.bl c∧if c=true then tb σ H1 Q else Q (.bl false) H1
noncomputable def tOrV (ta tb:TE):TE:=fun σ H Q=>ta σ H fun x H1=>∃ c,x=.bl c∧if c=true then Q (.bl true) H1 else tb σ H1 Q
noncomputable def tNotV (ta:TE):TE:=fun σ H Q=>ta σ H fun x H1=>∃ c,x=.bl c∧Q (.bl (!c)) H1
theorem pe_one {op} {t:TE} (h:PE X a t):PE X (.BoolOp op [a] pos) t:=fun pins s σ H Q I hw=>BoolOp_one (h pins s σ H Q I hw)
theorem pe_and (ha:PE X a ta) (hb:PE X (.BoolOp .And (b :: rest) pos) tb):PE X (.BoolOp .And (a :: b :: rest) pos) (tAndV ta tb):=by
  intro pins s σ H Q I h
  refine BoolOp_and (thn (ha pins s σ H _ I h) fun v s1 ⟨x,H1,I1,r1,q1⟩=>?_)
  obtain ⟨c,rfl,q1⟩:=q1
  cases r1
  refine wpAny_truthy_bool ?_
  cases c with
  | true=>exact hb pins s1 σ H1 Q I1 q1
  | false=>exact ⟨.bl false,H1,I1,rfl,q1⟩
theorem pe_or (ha:PE X a ta) (hb:PE X (.BoolOp .Or (b :: rest) pos) tb):PE X (.BoolOp .Or (a :: b :: rest) pos) (tOrV ta tb):=by
  intro pins s σ H Q I h
  refine BoolOp_or (thn (ha pins s σ H _ I h) fun v s1 ⟨x,H1,I1,r1,q1⟩=>?_)
  obtain ⟨c,rfl,q1⟩:=q1
  cases r1
  refine wpAny_truthy_bool ?_
  cases c with
  | false=>exact hb pins s1 σ H1 Q I1 q1
  | true=>exact ⟨.bl true,H1,I1,rfl,q1⟩
theorem pe_not (ha:PE X a ta):PE X (.UnaryOp .Not a pos) (tNotV ta):=by
  intro pins s σ H Q I h
  refine UnaryOp_ (thn (ha pins s σ H _ I h) fun v s1 ⟨x,H1,I1,r1,q1⟩=>?_)
  obtain ⟨c,rfl,q1⟩:=q1
  cases r1
  exact not_of (wpAny_truthy_bool ⟨.bl (!c),H1,I1,rfl,q1⟩)
noncomputable def tIf (t:TT) (ta tb:TE):TE:=fun σ H Q=>t σ H fun c H1=>if c=true then ta σ H1 Q else tb σ H1 Q
theorem pe_ifExp {c:Expr} (hc:PT X c tA) (ha:PE X a ta) (hb:PE X b tb):PE X (.IfExp c a b pos) (tIf tA ta tb):=by
  intro pins s σ H Q I h
  refine wpAny_IfExp (thn (hc pins s σ H _ I h) fun d s1 ⟨H1,I1,q1⟩=>?_)
  cases d with
  | true=>exact ha pins s1 σ H1 Q I1 q1
  | false=>exact hb pins s1 σ H1 Q I1 q1
end
end L2
namespace L2
open PySem PySem.Spec PyProof.Rows
def SqL (K:PySem.W.Frag) (H:Hp) (a:Addr) (xs:List V):Prop :=
  Rd H a (.lst xs) ∨
    ∃ (o:Obj) (its:Array Value) (n:Nat),K.lookup a=some o∧o.cls=.type "list" ∧ o.dict=none∧o.data=.seq its n∧its.size≤sizeLine∧Vals xs its.toList
def SqT (K:PySem.W.Frag) (H:Hp) (a:Addr) (xs:List V):Prop :=
  Rd H a (.tup xs) ∨
    ∃ (o:Obj) (its:Array Value) (n:Nat),K.lookup a=some o∧o.cls=.type "tuple" ∧ o.data=.seq its n∧its.size≤sizeLine∧Vals xs its.toList
noncomputable def absV:Value→Option V
  | .none=>some .non
  | .bool b=>some (.bl b)
  | .int i _=>some (.int i)
  | .str x _=>some (.str x)
  | .bytes b _=>some (.byt b)
  | .float b _=>some (.flt b)
  | .ref a=>some (.ref a)
  | .type n=>some (.ty n)
  | _=>none
theorem RelV.abs {x:V} {u:Value} (r:RelV x u):absV u=some x:=by
  cases x with
  | non=>cases r;rfl
  | bl _=>cases r;rfl
  | int _=>obtain ⟨t,rfl⟩:=r;rfl
  | str _=>obtain ⟨t,rfl⟩:=r;rfl
  | byt _=>obtain ⟨t,rfl⟩:=r;rfl
  | flt _=>obtain ⟨t,rfl⟩:=r;rfl
  | ref _=>cases r;rfl
  | ty _=>cases r;rfl
theorem RelV.inj {x y:V} {u:Value} (r:RelV x u) (q:RelV y u):x=y:=Option.some.inj (r.abs.symm.trans q.abs)
theorem Vals.inj:∀ {xs ys:List V} {us:List Value},Vals xs us→Vals ys us→xs=ys
  | _,_,_,.nil,.nil=>rfl
  | _,_,_,.cons r t,.cons r' t'=>by rw [r.inj r',Vals.inj t t']
section
variable {X:Cx} {pins:List (Addr×Obj)} {σ:St} {H:Hp} {s:Shared} {a:Addr} {xs ys:List V}
theorem SqL.of {K:PySem.W.Frag} (h:H a=some (.lst xs)):SqL K H a xs:=.inl (.inl h)
theorem SqT.of {K:PySem.W.Frag} (h:H a=some (.tup xs)):SqT K H a xs:=.inl (.inl h)
theorem Inv.list (I:Inv X pins σ H s) (h:SqL X.K H a xs):∃ its:List Value,Vals xs its∧PlainL s.heap a its.toArray∧xs.length≤sizeLine:=by
  rcases h with h | ⟨o,its,n,hk,hc,hd,hs,hz,r⟩
  · obtain ⟨z,its,n,r,e⟩:=h.ok I.hok
    exact ⟨its,r,⟨_,n,e,rfl,rfl,rfl⟩,z⟩
  · refine ⟨its.toList,r,⟨o,n,I.kIn a o hk,hc,hd,by simpa using hs⟩,?_⟩
    have e:=r.length
    simp only [Array.length_toList] at e
    lia
theorem Inv.tuple (I:Inv X pins σ H s) (h:SqT X.K H a xs):∃ its:List Value,Vals xs its∧IsTup s.heap a its.toArray∧xs.length≤sizeLine:=by
  rcases h with h | ⟨o,its,n,hk,hc,hs,hz,r⟩
  · obtain ⟨z,its,r,p⟩:=h.ok I.hok
    exact ⟨its,r,p,z⟩
  · refine ⟨its.toList,r,⟨o,I.kIn a o hk,hc,n,by simpa using hs⟩,?_⟩
    have e:=r.length
    simp only [Array.length_toList] at e
    lia
theorem Inv.list_inj (I:Inv X pins σ H s) (h:SqL X.K H a xs) (h':SqL X.K H a ys):xs=ys:=by
  obtain ⟨its,r,⟨o,n,e,_,_,d⟩,_⟩:=I.list h
  obtain ⟨its',r',⟨o',n',e',_,_,d'⟩,_⟩:=I.list h'
  rw [e] at e';cases e'
  rw [d] at d'
  injection d' with d1 _
  have:its=its':=by simpa using congrArg Array.toList d1
  subst this
  exact r.inj r'
theorem Inv.tuple_inj (I:Inv X pins σ H s) (h:SqT X.K H a xs) (h':SqT X.K H a ys):xs=ys:=by
  obtain ⟨its,r,⟨o,e,_,n,d⟩,_⟩:=I.tuple h
  obtain ⟨its',r',⟨o',e',_,n',d'⟩,_⟩:=I.tuple h'
  rw [e] at e';cases e'
  rw [d] at d'
  injection d' with d1 _
  have:its=its':=by simpa using congrArg Array.toList d1
  subst this
  exact r.inj r'
end
noncomputable abbrev Cx.wish (X:Cx) (E:Value→Shared→Prop):Cx:={ X with xe:=E }
noncomputable abbrev Cx.nox (X:Cx):Cx:=X.wish fun _ _=>False
theorem Cx.Ok.wish {X:Cx} (ok:X.Ok) (E:Value→Shared→Prop):(X.wish E).Ok :=
  ⟨ok.mod,ok.kind,ok.glob,ok.blt,ok.above,ok.inj,ok.has,ok.cab,ok.hd,ok.frames,ok.stk,ok.exf,ok.bs,ok.bsz,ok.noex,ok.exfs,ok.funs,ok.frf⟩
theorem Cx.Ok.unwish {X:Cx} {E:Value→Shared→Prop} (ok:(X.wish E).Ok):X.Ok :=
  ⟨ok.mod,ok.kind,ok.glob,ok.blt,ok.above,ok.inj,ok.has,ok.cab,ok.hd,ok.frames,ok.stk,ok.exf,ok.bs,ok.bsz,ok.noex,ok.exfs,ok.funs,ok.frf⟩
section
variable {X:Cx} {pins:List (Addr×Obj)} {σ:St} {H:Hp} {s:Shared} {E:Value→Shared→Prop}
theorem Inv.wish (I:Inv X pins σ H s) (E:Value→Shared→Prop):Inv (X.wish E) pins σ H s:=⟨I.ok.wish E,I.os,I.bare,I.base,I.loc,I.cell,I.free,I.freeC,I.pin,I.hok,I.len⟩
theorem Inv.unwish (I:Inv (X.wish E) pins σ H s):Inv X pins σ H s:=⟨I.ok.unwish,I.os,I.bare,I.base,I.loc,I.cell,I.free,I.freeC,I.pin,I.hok,I.len⟩
theorem SP.unwish {D:Ends} {f:Flow} {s':Shared} (h:SP (X.wish E) pins D f s'):SP X pins D f s':=by
  cases f with
  | next=>obtain ⟨σ',H',I,q⟩:=h;exact ⟨σ',H',I.unwish,q⟩
  | brk=>obtain ⟨σ',H',I,q⟩:=h;exact ⟨σ',H',I.unwish,q⟩
  | cont=>obtain ⟨σ',H',I,q⟩:=h;exact ⟨σ',H',I.unwish,q⟩
  | ret u=>obtain ⟨v,σ',H',I,r,q⟩:=h;exact ⟨v,σ',H',I.unwish,r,q⟩
theorem PSs.nox {st:List Stmt} {t:TS} (h:PSs X.nox st t):PSs X st t:=fun pins s σ H D I hw =>
  wpAny_mono (h pins s σ H D (I.wish _) hw) (fun _ _ q=>q.unwish) fun _ _ z=>False.elim z
end
section
variable {X:Cx} {st:Stmt} {rest:List Stmt} {t u:TS} {e:Expr} {te:TE} {pos:Pos}
noncomputable def tNext:TS:=fun D σ H=>D.nx σ H
noncomputable def tSeq (t u:TS):TS:=fun D σ H=>t { D with nx:=u D } σ H
theorem pss_nil:PSs X [] tNext:=fun _ _ σ H _ I h=>wpAny_execs_nil ⟨σ,H,I,h⟩
theorem pss_cons (h1:PS X st t) (h2:PSs X rest u):PSs X (st :: rest) (tSeq t u):=by
  intro pins s σ H D I h
  refine wpAny_execs_cons (thn (h1 pins s σ H { D with nx:=u D } I h) fun f s1 q=>?_)
  cases f with
  | next =>
    obtain ⟨σ',H',I',q⟩:=q
    exact h2 pins s1 σ' H' D I' q
  | ret v=>exact q
  | brk=>exact q
  | cont=>exact q
theorem pss_one (h1:PS X st t):PSs X [st] t:=by
  intro pins s σ H D I h
  refine wpAny_execs_cons (thn (h1 pins s σ H D I h) fun f s1 q=>?_)
  cases f with
  | next=>exact wpAny_execs_nil q
  | ret v=>exact q
  | brk=>exact q
  | cont=>exact q
theorem Inv.quiet {pins:List (Addr×Obj)} {σ:St} {H:Hp} {s:Shared} (I:Inv X pins σ H s):interactive X.env=false:=by simp [interactive,I.ok.kind]
noncomputable def tDrop (te:TE):TS:=fun D σ H=>te σ H fun _ H1=>D.nx σ H1
theorem ps_expr (he:PE X e te) (hs:swapsWith e none pos.line X.env=pure false:=by rfl):PS X (.Expr e pos) (tDrop te):=by
  intro pins s σ H D I h
  exact wpAny_Expr_any (thn (he pins s σ H _ I h) fun v s1 ⟨x,H1,I1,r1,q1⟩=>⟨σ,H1,I1,q1⟩) I.quiet hs
noncomputable def tRet (te:TE):TS:=fun D σ H=>te σ H D.rt
theorem ps_ret (he:PE X e te):PS X (.Return (some e) pos) (tRet te):=by
  intro pins s σ H D I h
  exact wpAny_Return_some (thn (he pins s σ H _ I h) fun v s1 ⟨x,H1,I1,r1,q1⟩=>⟨x,σ,H1,I1,r1,q1⟩)
noncomputable def tIfS (c:TT) (t u:TS):TS:=fun D σ H=>c σ H fun b H1=>if b=true then t D σ H1 else u D σ H1
theorem ps_if {c:Expr} {a b:List Stmt} {tc:TT} (hc:PT X c tc) (ha:PSs X a t) (hb:PSs X b u):PS X (.If c a b pos) (tIfS tc t u):=by
  intro pins s σ H D I h
  refine wpAny_If (thn (hc pins s σ H _ I h) fun d s1 ⟨H1,I1,q1⟩=>?_)
  cases d with
  | true=>exact ha pins s1 σ H1 D I1 q1
  | false=>exact hb pins s1 σ H1 D I1 q1
end
abbrev TG:=V→St→Hp→(St→Hp→Prop)→Prop
abbrev TGs:=List V→St→Hp→(St→Hp→Prop)→Prop
def PG (X:Cx) (target:Expr) (t:TG):Prop :=
  ∀ (pins:List (Addr×Obj)) (s:Shared) (σ:St) (H:Hp) (v:V) (u:Value) (Q:St→Hp→Prop),Inv X pins σ H s→RelV v u→t v σ H Q →
    wpAny (model X.prog X.w) X.A (assign target X.env u) (fun _ s'=>∃ σ' H',Inv X pins σ' H' s'∧Q σ' H') X.xe s
def PGs (X:Cx) (ts:List Expr) (t:TGs):Prop :=
  ∀ (pins:List (Addr×Obj)) (s:Shared) (σ:St) (H:Hp) (vs:List V) (us:List Value) (Q:St→Hp→Prop),Inv X pins σ H s→Vals vs us→t vs σ H Q →
    wpAny (model X.prog X.w) X.A (assignInOrder ((assignEach ts X.env).map (·.2)) us) (fun _ s'=>∃ σ' H',Inv X pins σ' H' s'∧Q σ' H') X.xe s
abbrev TIp:=V→V→Hp→VK→Prop
def PIp (X:Cx) (op:Operator) (t:TIp):Prop :=
  ∀ (pins:List (Addr×Obj)) (s:Shared) (σ:St) (H:Hp) (x y:V) (v u:Value) (Q:VK),Inv X pins σ H s→RelV x v→RelV y u→t x y H Q →
    wpAny (model X.prog X.w) X.A (inplaceOp op v u) (EP X pins σ Q) X.xe s
section
variable {X:Cx} {pos:Pos}
noncomputable def gName (i:Nat):TG:=fun v σ H Q=>Q (σ.set i (some v)) H
theorem pg_name {i:Nat} {x:Str} (hN:X.N.Nodup) (hi:X.N[i]?=some x) (hx:Loc X.env.scope x) (hf:X.fn x=true∨X.env.scope.names.lookup x=some .local:=by first | exact .inl rfl | exact .inr rfl | assumption):PG X (.Name x pos) (gName i):=by
  intro pins s σ H v u Q I r h
  exact wpAny_assign_Name (store_ok I hN hi hx r (fun s' I'=>⟨_,H,I',h⟩) hf)
noncomputable def gNil:TGs:=fun vs σ H Q=>vs=[]∧Q σ H
noncomputable def gCons (t:TG) (u:TGs):TGs:=fun vs σ H Q=>∃ v r,vs=v :: r∧t v σ H fun σ' H'=>u r σ' H' Q
theorem pgs_nil:PGs X [] gNil:=by
  intro pins s σ H vs us Q I r h
  obtain ⟨e,h⟩:=h
  subst e
  cases r
  exact assignInOrder_nil ⟨σ,H,I,h⟩
theorem pgs_cons {e:Expr} {es:List Expr} {t:TG} {u:TGs} (h1:PG X e t) (h2:PGs X es u)
    (hs:(assignEach (e :: es) X.env).map (·.2)=assign e X.env :: (assignEach es X.env).map (·.2):=by rfl):PGs X (e :: es) (gCons t u):=by
  intro pins s σ H vs us Q I r h
  obtain ⟨v,vr,e1,h⟩:=h
  subst e1
  cases r with
  | cons r rr =>
    rw [hs]
    refine assignInOrder_cons (thn (h1 pins s σ H _ _ _ I r h) fun _ s1 ⟨σ1,H1,I1,q1⟩=>?_)
    exact h2 pins s1 σ1 H1 _ _ Q I1 rr q1
noncomputable def gTup (K:PySem.W.Frag) (n:Nat) (t:TGs):TG:=fun v σ H Q=>∃ a xs,v=.ref a∧SqT K H a xs∧xs.length=n∧t xs σ H Q
theorem pg_tup {es:List Expr} {k:Nat} {t:TGs} {n:Nat} (hc:X.calm=true) (h:PGs X es t)
    (hn:(assignEach es X.env).length=n:=by rfl) (hst:(assignEach es X.env).findIdx? (·.1)=none:=by rfl):PG X (.Tuple es k pos) (gTup X.K n t):=by
  intro pins s σ H v u Q I r hw
  obtain ⟨a,xs,e1,hq,hl,hw⟩:=hw
  subst e1
  cases r
  obtain ⟨its,rv,ht,hz⟩:=I.tuple hq
  refine assign_Tuple_tuple (I.ok.hd hc) ht (by simp [hn,←hl,rv.length]) hst fun h' hx=>?_
  have I1:Inv X pins σ H { s with heap:=h' }:=I.kept (t':=s.toks) fun b o e=>hx b o (Nat.ne_of_lt (Heap.lt_size e)) e
  exact h pins _ σ H xs _ Q I1 (by simpa using rv) hw
noncomputable def tAsg (te:TE) (g:TG):TS:=fun D σ H=>te σ H fun x H1=>g x σ H1 D.nx
theorem ps_asg {tg e:Expr} {te:TE} {g:TG} (he:PE X e te) (hg:PG X tg g) (hs:swapsWithSole [tg] e pos.line X.env=pure false:=by rfl) (hw:swappedStores [tg] e X.env=pure none:=by rfl)
    (h1:(assignEach [tg] X.env).map (·.2)=[assign tg X.env]:=by rfl):PS X (.Assign [tg] e pos) (tAsg te g):=by
  intro pins s σ H D I h
  refine wpAny_Assign_stores (thn (he pins s σ H _ I h) fun v s1 ⟨x,H1,I1,r1,q1⟩=>?_) hs hw
  rw [h1]
  exact thn (hg pins s1 σ H1 x v _ I1 r1 q1) fun _ s2 q=>q
theorem ps_set {i:Nat} {x:Str} {e:Expr} {te:TE} {pos':Pos} (hN:X.N.Nodup) (hi:X.N[i]?=some x) (hx:Loc X.env.scope x) (he:PE X e te) (hs:swapsWith e (some (.Name x pos')) pos.line X.env=pure false:=by rfl) (hf:X.fn x=true∨X.env.scope.names.lookup x=some .local:=by first | exact .inl rfl | exact .inr rfl | assumption) :
    PS X (.Assign [.Name x pos'] e pos) (tAsg te (gName i)):=by
  intro pins s σ H D I h
  refine wpAny_Assign_Name (thn (he pins s σ H _ I h) fun v s1 ⟨y,H1,I1,r1,q1⟩=>?_) hs
  exact store_ok I1 hN hi hx r1 (fun s2 I2=>⟨_,H1,I2,q1⟩) hf
noncomputable def tAug (i:Nat) (te:TE) (ti:TIp):TS:=fun D σ H=>∃ x,σ[i]?=some (some x)∧te σ H fun y H1=>ti x y H1 fun z H2=>D.nx (σ.set i (some z)) H2
theorem ps_aug {i : Nat} {x : Str} {e : Expr} {te : TE} {op : Operator} {ti : TIp} {pos' : Pos} (hN : X.N.Nodup) (hi : X.N[i]? = some x) (hx : Loc X.env.scope x) (he : PE X e te) (ho : PIp X op ti) (hf : X.fn x = true ∨ X.env.scope.names.lookup x = some .local := by first | exact .inl rfl | exact .inr rfl | assumption) :
    PS X (.AugAssign (.Name x pos') op e pos) (tAug i te ti):=by
  intro pins s σ H D I h
  obtain ⟨v,e1,h⟩:=h
  obtain ⟨m,hn,hl⟩:=I.loc
  have vis:Vis X.env.scope x:=by rcases hx with k | k;exact .inl k;exact .inr (.inl k)
  obtain ⟨u,r,l⟩:=hl i x v hi e1 vis
  refine wpAny_AugAssign_Name ?_
  have go:wpAny (model X.prog X.w) X.A (eval e X.env) (fun w s₂=>wpAny (model X.prog X.w) X.A (inplaceOp op u w) (fun r s₃=>wpAny (model X.prog X.w) X.A (storeName X.env x r) (fun _=>SP X pins D .next) X.xe s₃) X.xe s₂) X.xe s:=by
    refine thn (he pins s σ H _ I h) fun w s1 ⟨y,H1,I1,r1,q1⟩=>?_
    refine thn (ho pins s1 σ H1 v y u w _ I1 r r1 q1) fun z s2 ⟨zv,H2,I2,r2,q2⟩=>?_
    exact store_ok I2 hN hi hx r2 (fun s3 I3=>⟨_,H2,I3,q2⟩) hf
  rcases l with ⟨hk,hm⟩ | ⟨hk,c,hc,hcell⟩
  · exact wpAny_loadName_local I.ok.kind hk hn hm go
  · rcases hk with hk | hk
    · exact wpAny_loadName_cell I.ok.kind hk hc hcell go
    · rcases hx with k | k
      · have:X.env.scope.names.lookup x=some .free:=hk
        rw [k] at this;cases this
      · have:X.env.scope.names.lookup x=some .free:=hk
        rw [k] at this;cases this
end
section
variable {X:Cx} {pos:Pos}
end
structure It where
  go:Nat→Hp→Prop
  yld:Nat→Hp→V→Hp→Prop
  stop:Nat→Hp→Prop
def FpOk (X:Cx) (pins:List (Addr×Obj)) (H:Hp) (b:Addr):Prop :=
  H b=none∧b≠X.env.locals∧b∉X.fs∧(b∈X.ex∨X.s₀.heap.objs.size≤b)∧(∀ x c,X.env.cells.lookup x=some c→c≠b)∧∀ p∈X.pn++pins,p.1≠b
theorem Inv.fpOk {X:Cx} {pins:List (Addr×Obj)} {σ:St} {H H':Hp} {s:Shared} {b:Addr} (I:Inv X pins σ H s) (hb:s.heap.objs.size≤b) (hn:H' b=none):FpOk X pins H' b:=by
  refine ⟨hn,Nat.ne_of_gt (Nat.lt_of_lt_of_le I.lt hb),I.nofs hb,.inr (Nat.le_trans I.sz hb),fun x c e z=>?_,fun p hp z=>?_⟩
  · obtain ⟨v,q⟩:=I.cell x c e
    exact absurd (Nat.lt_of_lt_of_le q.lt (by rw [z];exact hb)) (Nat.lt_irrefl _)
  · exact absurd (Nat.lt_of_lt_of_le (Heap.lt_size (I.pin p hp).1) (by rw [z];exact hb)) (Nat.lt_irrefl _)
structure Turn (P:Program) (w:World) (K:PySem.W.Frag) (tg:Expr) (J:It) (fp:List Addr) (it:Addr) (tn:Nat→Heap→Prop):Prop where
  mem:it∈fp
  obj:∀ i h,tn i h→∀ b∈fp,∃ o,h.get? b=some o∧∀ v,o.data≠.cell v
  keep:∀ i h h',tn i h→(∀ b∈fp,∀ o,h.get? b=some o→h'.get? b=some o)→tn i h'
  item:∀ (X:Cx),X.prog=P→X.w=w→X.K=K→X.calm=true→∀ (i:Nat) (pins:List (Addr×Obj)) (s:Shared) (σ:St) (H:Hp) (E:Value→Shared→Prop),Inv X pins σ H s→(∀ b∈fp,FpOk X pins H b)→tn i s.heap→J.go i H →
    wpAny (model P w) X.A (pyNext (.ref it)) (fun r s1=>∃ u,r=some u ∧
      wpAny (model P w) X.A (letOwnedTupleGo tg (.ref it) u) (fun _ s2=>∃ x H',Inv X pins σ H' s2∧RelV x u∧J.yld i H x H'∧tn (i+1) s2.heap∧∀ b∈fp,H' b=none) E s1) E s
  done:∀ (X:Cx),X.prog=P→X.w=w→X.K=K→X.calm=true→∀ (i:Nat) (pins:List (Addr×Obj)) (s:Shared) (σ:St) (H:Hp) (E:Value→Shared→Prop),Inv X pins σ H s→(∀ b∈fp,FpOk X pins H b)→tn i s.heap→J.stop i H →
    wpAny (model P w) X.A (pyNext (.ref it)) (fun r s1=>r=none∧Inv X pins σ H s1) E s
  self:∀ (A:Around) (i:Nat) (s:Shared) (Q:Value→Shared→Prop) (E:Value→Shared→Prop),tn i s.heap→Q (.ref it) s→wpAny (model P w) A (pyIter (.ref it)) Q E s
abbrev TI:=St→Hp→(It→Hp→Prop)→Prop
def PIE (X:Cx) (pins:List (Addr×Obj)) (σ:St) (tg:Expr) (R:It→Hp→Prop) (itv:Value) (s2:Shared):Prop :=
  ∃ (it:Addr) (fp:List Addr) (tn:Nat→Heap→Prop) (J:It) (H':Hp),itv=.ref it∧Inv X pins σ H' s2∧Turn X.prog X.w X.K tg J fp it tn∧tn 0 s2.heap∧(∀ b∈fp,FpOk X pins H' b)∧R J H'
def PI (X:Cx) (tg iter:Expr) (wi:TI):Prop :=
  ∀ (pins:List (Addr×Obj)) (s:Shared) (σ:St) (H:Hp) (R:It→Hp→Prop),Inv X pins σ H s→wi σ H R →
    wpAny (model X.prog X.w) X.A (eval iter X.env) (fun v s1=>wpAny (model X.prog X.w) X.A (pyIter v) (PIE X pins σ tg R) X.xe s1) X.xe s
theorem go_of {M : Model} {A : Around} {E : Value → Shared → Prop} {s : Shared} {tg : Expr} {it : Addr} {u : Value} {o : Obj} {n : String} {vs : Array Value} {Q : Unit → Shared → Prop} (ho : s.heap.get? it = some o) (hc : o.cls = .type n) (hd : o.data = .fields vs)
    (hn:["enumerate", "zip", "dict_itemiterator", "dict_reverseitemiterator", "odict_iterator", "itertools.zip_longest", "itertools.pairwise"].contains n=false) (hQ:Q () s):wpAny M A (letOwnedTupleGo tg (.ref it) u) Q E s:=by
  unfold letOwnedTupleGo
  cases tg <;> first
    | exact wpAny_pure hQ
    | (cases u<;>first
        | exact wpAny_pure hQ
        | (refine wpAny_bind (wpAny_load ho ?_)
           rw [hc,hd]
           show wpAny M A (if (["enumerate", "zip", "dict_itemiterator", "dict_reverseitemiterator", "odict_iterator", "itertools.zip_longest", "itertools.pairwise"].contains n&&vs[0]?==some (rawInt _))=true then _ else _) Q E s
           rw [if_neg (by intro h;rw [hn,Bool.false_and] at h;cases h)]
           exact wpAny_pure hQ))
noncomputable def Itl (K:PySem.W.Frag) (a:Addr):It :=
  ⟨fun i H=>∃ xs x,SqL K H a xs∧xs[i]?=some x,fun i H x H'=>H'=H∧∀ xs,SqL K H a xs→xs[i]?=some x,fun i H=>∃ xs,SqL K H a xs∧xs.length≤i⟩
noncomputable def Itt (K:PySem.W.Frag) (a:Addr):It :=
  ⟨fun i H=>∃ xs x,SqT K H a xs∧xs[i]?=some x,fun i H x H'=>H'=H∧∀ xs,SqT K H a xs→xs[i]?=some x,fun i H=>∃ xs,SqT K H a xs∧xs.length≤i⟩
noncomputable def Itr (lo:Int) (n:Nat):It:=⟨fun i _=>i < n,fun i H x H'=>H'=H∧x=.int (lo+i),fun i _=>n≤i⟩
theorem turn_list {P:Program} {w:World} {K:PySem.W.Frag} {tg:Expr} (a it:Addr):Turn P w K tg (Itl K a) [it] it (fun i h=>h.IsListIter it a i) where
  mem:=by simp
  obj:=fun i h st b hb=>by
    have e:b=it:=by simpa using hb
    subst e
    obtain ⟨o,e,c,d⟩:=st
    exact ⟨o,e,fun v z=>by rw [d] at z;cases z⟩
  keep:=fun i h h' st k=>st.at fun o e=>k it (by simp) o e
  item:=by
    intro X hP hw hK hc i pins s σ H E I hf st hg
    subst hP hw hK
    obtain ⟨xs,x,hq,hx⟩:=hg
    obtain ⟨its,rv,p,hz⟩:=I.list hq
    obtain ⟨u,hu,ru⟩:=rv.get hx
    obtain ⟨f0,f1,f2,f3,f4,f5⟩:=hf it (by simp)
    refine wpAny_pyNext_list_item st p.isList (x:=u) (by simpa using hu) fun h' st' sb=>?_
    have I1:Inv X pins σ H { s with heap:=h' }:=I.turned (t':=s.toks) (fun b o hb e=>(sb.2 b hb).trans e) f0 f1 f3 f4 f5
    obtain ⟨o,e,c,d⟩:=id st'
    exact ⟨u,rfl,go_of (s:={ s with heap:=h' }) e c d (by decide) ⟨x,H,I1,ru,⟨rfl,fun ys hy=>by rw [I.list_inj hy hq];exact hx⟩,st',fun b hb=>(hf b hb).1⟩⟩
  done:=by
    intro X hP hw hK hc i pins s σ H E I hf st hg
    subst hP hw hK
    obtain ⟨xs,hq,hx⟩:=hg
    obtain ⟨its,rv,p,hz⟩:=I.list hq
    obtain ⟨f0,f1,f2,f3,f4,f5⟩:=hf it (by simp)
    have hl:=rv.length
    exact wpAny_pyNext_list_end (I.ok.hd hc) st p.isList (by simp;lia) fun h' eb=>⟨rfl,I.turned (t':=s.toks) (fun b o hb e=>eb b o hb e) f0 f1 f3 f4 f5⟩
  self:=fun _ _ _ _ _ st h=>wpAny_pyIter_listiter st h
theorem turn_tuple {P:Program} {w:World} {K:PySem.W.Frag} {tg:Expr} (a it:Addr):Turn P w K tg (Itt K a) [it] it (fun i h=>h.IsTupleIter it a i) where
  mem:=by simp
  obj:=fun i h st b hb=>by
    have e:b=it:=by simpa using hb
    subst e
    obtain ⟨o,e,c,d⟩:=st
    exact ⟨o,e,fun v z=>by rw [d] at z;cases z⟩
  keep:=fun i h h' st k=>st.at fun o e=>k it (by simp) o e
  item:=by
    intro X hP hw hK hc i pins s σ H E I hf st hg
    subst hP hw hK
    obtain ⟨xs,x,hq,hx⟩:=hg
    obtain ⟨its,rv,p,hz⟩:=I.tuple hq
    obtain ⟨u,hu,ru⟩:=rv.get hx
    obtain ⟨f0,f1,f2,f3,f4,f5⟩:=hf it (by simp)
    refine wpAny_pyNext_tuple_item st (show s.heap.IsTuple a its.toArray from p) (x:=u) (by simpa using hu) fun h' st' sb=>?_
    have I1:Inv X pins σ H { s with heap:=h' }:=I.turned (t':=s.toks) (fun b o hb e=>(sb.2 b hb).trans e) f0 f1 f3 f4 f5
    obtain ⟨o,e,c,d⟩:=id st'
    exact ⟨u,rfl,go_of (s:={ s with heap:=h' }) e c d (by decide) ⟨x,H,I1,ru,⟨rfl,fun ys hy=>by rw [I.tuple_inj hy hq];exact hx⟩,st',fun b hb=>(hf b hb).1⟩⟩
  done:=by
    intro X hP hw hK hc i pins s σ H E I hf st hg
    subst hP hw hK
    obtain ⟨xs,hq,hx⟩:=hg
    obtain ⟨its,rv,p,hz⟩:=I.tuple hq
    obtain ⟨f0,f1,f2,f3,f4,f5⟩:=hf it (by simp)
    have hl:=rv.length
    exact wpAny_pyNext_tuple_end (I.ok.hd hc) st (show s.heap.IsTuple a its.toArray from p) (by simp;lia) fun h' eb=>⟨rfl,I.turned (t':=s.toks) (fun b o hb e=>eb b o hb e) f0 f1 f3 f4 f5⟩
  self:=fun _ _ _ _ _ st h=>wpAny_pyIter_tupleiter st h
theorem turn_range {P:Program} {w:World} {K:PySem.W.Frag} {tg:Expr} (it:Addr) (lo:Int) (n:Nat):Turn P w K tg (Itr lo n) [it] it (fun i h=>IsRangeIter h it (lo+(i:Nat)*1) ((n:Int)-(i:Nat)) 1) where
  mem:=by simp
  obj:=fun i h st b hb=>by
    have e:b=it:=by simpa using hb
    subst e
    exact ⟨_,st,fun v z=>by
      have z':Data.fields _=Data.cell v:=z
      cases z'⟩
  keep:=fun i h h' st k=>k it (by simp) _ st
  item:=by
    intro X hP hw hK hc i pins s σ H E I hf st hg
    subst hP hw hK
    obtain ⟨f0,f1,f2,f3,f4,f5⟩:=hf it (by simp)
    have W:=Walks.range (prog:=X.prog) (w:=X.w) (I.ok.hd hc) it lo 1 n
    refine W.item i s _ _ hg st fun v h' tk hv st' kk=>?_
    obtain ⟨t,rfl⟩:=hv
    have I1:Inv X pins σ H { s with heap:=h',toks:=tk }:=I.turned (fun b o hb e=>kk b o (by simpa using hb) e) f0 f1 f3 f4 f5
    refine ⟨_,rfl,go_of (s:={ s with heap:=h',toks:=tk }) (n := "range_iterator") st' rfl rfl (by decide) ⟨.int (lo+i),H,I1,⟨t,?_⟩,⟨rfl,rfl⟩,st',fun b hb=>(hf b hb).1⟩⟩
    rw [Int.mul_one]
  done:=by
    intro X hP hw hK hc i pins s σ H E I hf st hg
    subst hP hw hK
    obtain ⟨f0,f1,f2,f3,f4,f5⟩:=hf it (by simp)
    exact wpAny_pyNext_range_end (I.ok.hd hc) st (by have:n≤i:=hg;lia) fun h' eb=>⟨rfl,I.turned (t':=s.toks) (fun b o hb e=>eb b o hb e) f0 f1 f3 f4 f5⟩
  self:=fun _ _ _ _ _ st h=>wpAny_pyIter_rangeiter st h
end L2
namespace L2
open PySem PySem.Spec PyProof.Rows
section
variable {X:Cx} {tg:Expr}
noncomputable def iRng1 (ta:TA):TI:=fun σ H R=>ta σ H fun vs H1=>∃ j:Int,vs=[.int j]∧-(2 ^ 62)≤j∧j < 2 ^ 62∧R (Itr 0 j.toNat) H1
noncomputable def iRng2 (ta:TA):TI:=fun σ H R=>ta σ H fun vs H1=>∃ i j:Int,vs=[.int i,.int j]∧(-(2 ^ 62)≤i∧i < 2 ^ 62∧-(2 ^ 62)≤j∧j < 2 ^ 62)∧R (Itr i (j-i).toNat) H1
noncomputable def tFor (wi:TI) (g:TG) (tb:TS):TS:=fun D σ H=>wi σ H fun J H1=>∃ W:Nat→Nat→St→Hp→Prop,(∃ m,W 0 m σ H1)∧∀ i m σ H,W i m σ H →
  (J.stop i H∧D.nx σ H)∨(J.go i H∧∃ N:St→Hp→Prop,(∀ σ' H',N σ' H'→∃ m',m' < m∧W (i+1) m' σ' H')∧∀ x H',J.yld i H x H'→g x σ H' fun σ2 H2=>tb { D with nx:=N,ct:=N,bk:=D.nx } σ2 H2)
noncomputable def pinsAt (fp:List Addr) (h:Heap):List (Addr×Obj):=fp.filterMap fun b=>(h.get? b).map fun o=>(b,o)
theorem mem_pinsAt {fp:List Addr} {h:Heap} {b:Addr} {o:Obj} (hb:b∈fp) (e:h.get? b=some o):(b,o)∈pinsAt fp h:=List.mem_filterMap.mpr ⟨b,hb,by rw [e];rfl⟩
theorem of_pinsAt {fp:List Addr} {h:Heap} {p:Addr×Obj} (hp:p∈pinsAt fp h):p.1∈fp∧h.get? p.1=some p.2:=by
  obtain ⟨b,hb,e⟩:=List.mem_filterMap.mp hp
  cases q:h.get? b with
  | none=>rw [q] at e;cases e
  | some o =>
    rw [q] at e
    have e':(b,o)=p:=Option.some.inj e
    subst e'
    exact ⟨hb,q⟩
theorem Inv.pinned {pins:List (Addr×Obj)} {σ:St} {H:Hp} {s:Shared} {fp:List Addr} (I:Inv X pins σ H s) (hf:∀ b∈fp,FpOk X pins H b) (ho:∀ b∈fp,∃ o,s.heap.get? b=some o∧∀ v,o.data≠.cell v):Inv X (pins++pinsAt fp s.heap) σ H s :=
  I.pins_of fun p hp=>(List.mem_append.mp hp).elim (fun z=>I.pin p (List.mem_append_right _ z)) fun z=>by
    obtain ⟨hb,e⟩:=of_pinsAt z
    obtain ⟨f0,f1,f2,_⟩:=hf p.1 hb
    obtain ⟨o,e',d⟩:=ho p.1 hb
    rw [e] at e';cases e'
    exact ⟨e,f0,f1,f2,d⟩
theorem Inv.unpinned {pins pl:List (Addr×Obj)} {σ:St} {H:Hp} {s:Shared} (I:Inv X (pins++pl) σ H s):Inv X pins σ H s:=I.pins_of fun p hp=>I.pin p (List.mem_append_right _ (List.mem_append_left _ hp))
theorem ps_for {iter:Expr} {body:List Stmt} {wi:TI} {g:TG} {tb:TS} {pos:Pos} (hp:PassesOwn (model X.prog X.w) X.A X.env X.xe) (hc:X.calm=true) (hi:PI X tg iter wi) (hg:PG X tg g) (hb:PSs X body tb)
    (hs:∀ x,foldedSetIterable iter X.env x=pure x:=by intro _;rfl):PS X (.For tg iter body [] pos) (tFor wi g tb):=by
  intro pins s σ H D I h
  refine wpAny_For (thn (hi pins s σ H _ I h) fun v s1 h1=>thn h1 fun itv s2 h2=>?_) hs
  obtain ⟨it,fp,tn,J,H2,e,I2,T,st2,f2,W,⟨m0,w0⟩,turn⟩:=h2
  subst e
  -- what stays true of the iterator's objects through the loop
  have stat:∀ {H':Hp},(∀ b∈fp,H' b=none)→∀ b∈fp,FpOk X pins H' b:=fun hn b hb=>⟨hn b hb,(f2 b hb).2⟩
  refine codeAny_forLoop_any (fun n s'=>∃ i σ' H',Inv X pins σ' H' s'∧tn i s'.heap∧(∀ b∈fp,H' b=none)∧W i n σ' H') ?_ m0 ⟨0,σ,H2,I2,st2,fun b hb=>(f2 b hb).1,w0⟩
  rintro n s3 ⟨i,σ3,H3,I3,st3,fr3,w3⟩
  rcases turn i n σ3 H3 w3 with ⟨stop,qn⟩ | ⟨go,N,hN,step⟩
  · refine wpAny_passesOwn hp (thn (T.done X rfl rfl rfl hc i pins s3 σ3 H3 X.xe I3 (stat fr3) st3 stop) fun r s4 ⟨hr,I4⟩=>?_)
    subst hr
    exact wpAny_execs_nil ⟨σ3,H3,I4,qn⟩
  · refine wpAny_passesOwn hp (thn (T.item X rfl rfl rfl hc i pins s3 σ3 H3 X.xe I3 (stat fr3) st3 go) fun r s4 ⟨u,hr,h4⟩=>?_)
    subst hr
    refine wpAny_passesOwn hp (thn h4 fun _ s5 ⟨x,H5,I5,r5,y5,st5,fr5⟩=>?_)
    have I5':=I5.pinned (stat fr5) (T.obj _ _ st5)
    refine wpAny_passesOwn hp (thn (hg _ s5 σ3 H5 x u _ I5' r5 (step x H5 y5)) fun _ s6 ⟨σ6,H6,I6,q6⟩=>?_)
    refine wpAny_passesOwn hp (thn (hb _ s6 σ6 H6 _ I6 q6) fun f s7 q7=>?_)
    have again:∀ {σ7:St} {H7:Hp},Inv X (pins++pinsAt fp s5.heap) σ7 H7 s7→N σ7 H7→∃ m,m < n∧∃ i σ' H',Inv X pins σ' H' s7∧tn i s7.heap∧(∀ b∈fp,H' b=none)∧W i m σ' H':=fun {σ7 H7} I7 n7=>by
      obtain ⟨m',hm,w7⟩:=hN σ7 H7 n7
      refine ⟨m',hm,i+1,σ7,H7,I7.unpinned,T.keep _ _ _ st5 fun b hb o e=>(I7.pin (b,o) (List.mem_append_right _ (List.mem_append_right _ (mem_pinsAt hb e)))).1,fun b hb=>?_,w7⟩
      obtain ⟨o,e,d⟩:=T.obj _ _ st5 b hb
      exact (I7.pin (b,o) (List.mem_append_right _ (List.mem_append_right _ (mem_pinsAt hb e)))).2.1
    cases f with
    | next=>obtain ⟨σ7,H7,I7,n7⟩:=q7;exact again I7 n7
    | cont=>obtain ⟨σ7,H7,I7,n7⟩:=q7;exact again I7 n7
    | brk=>obtain ⟨σ7,H7,I7,q7⟩:=q7;exact ⟨σ7,H7,I7.unpinned,q7⟩
    | ret v=>obtain ⟨x7,σ7,H7,I7,r7,q7⟩:=q7;exact ⟨x7,σ7,H7,I7.unpinned,r7,q7⟩
end
end L2
namespace L2
open PySem PySem.Spec PyProof.Rows
abbrev R2:=V→V→Hp→VK→Prop
def OpR (X:Cx) (f:Value→Value→Sem Value) (r:R2):Prop :=
  ∀ (pins:List (Addr×Obj)) (s:Shared) (σ:St) (H:Hp) (x y:V) (v u:Value) (Q:VK),Inv X pins σ H s→RelV x v→RelV y u→r x y H Q →
    wpAny (model X.prog X.w) X.A (f v u) (EP X pins σ Q) X.xe s
def UnR (X:Cx) (f:Value→Sem Value) (r:V→Hp→VK→Prop):Prop :=
  ∀ (pins:List (Addr×Obj)) (s:Shared) (σ:St) (H:Hp) (x:V) (v:Value) (Q:VK),Inv X pins σ H s→RelV x v→r x H Q →
    wpAny (model X.prog X.w) X.A (f v) (EP X pins σ Q) X.xe s
def CallR (X:Cx) (f:Value) (r:List V→Hp→VK→Prop):Prop :=
  ∀ (pins:List (Addr×Obj)) (s:Shared) (σ:St) (H:Hp) (xs:List V) (us:List Value) (Q:VK),Inv X pins σ H s→Vals xs us→r xs H Q →
    wpAny (model X.prog X.w) X.A (call f us) (EP X pins σ Q) X.xe s
noncomputable def tOp (r:R2) (ta tb:TE):TE:=fun σ H Q=>ta σ H fun x H1=>tb σ H1 fun y H2=>r x y H2 Q
noncomputable def tUn (r:V→Hp→VK→Prop) (ta:TE):TE:=fun σ H Q=>ta σ H fun x H1=>r x H1 Q
noncomputable def rI (C:Int→Int→Prop) (g:Int→Int→V):R2:=fun x y H Q=>∃ i j,x=.int i∧y=.int j∧C i j∧Q (g i j) H
noncomputable def rI0 (g:Int→Int→V):R2:=fun x y H Q=>∃ i j,x=.int i∧y=.int j∧Q (g i j) H
def rU (g:Int→V):V→Hp→VK→Prop:=fun x H Q=>∃ i,x=.int i∧Q (g i) H
section
variable {X:Cx} {a b c:Expr} {ta tb tc:TE} {pos:Pos}
theorem binT (ha:PE X a ta) (hb:PE X b tb) {pins:List (Addr×Obj)} {s:Shared} {σ:St} {H:Hp} {R:V→V→Hp→Prop} (I:Inv X pins σ H s)
    (h:ta σ H fun x H1=>tb σ H1 fun y H2=>R x y H2) {Q:Value→Shared→Prop} {f:Value→Value→Sem Value}
    (hf:∀ v u s2 x y H2,Inv X pins σ H2 s2→RelV x v→RelV y u→R x y H2→wpAny (model X.prog X.w) X.A (f v u) Q X.xe s2) :
    wpAny (model X.prog X.w) X.A (eval a X.env) (fun v s₁=>wpAny (model X.prog X.w) X.A (eval b X.env) (fun u s₂=>wpAny (model X.prog X.w) X.A (f v u) Q X.xe s₂) X.xe s₁) X.xe s:=by
  refine thn (ha pins s σ H _ I h) fun v s1 ⟨x,H1,I1,r1,q1⟩=>?_
  refine thn (hb pins s1 σ H1 _ I1 q1) fun u s2 ⟨y,H2,I2,r2,q2⟩=>?_
  exact hf v u s2 x y H2 I2 r1 r2 q2
theorem pe_op {op:Operator} {r:R2} (ho:OpR X (binaryOp op) r) (ha:PE X a ta) (hb:PE X b tb):PE X (.BinOp a op b pos) (tOp r ta tb):=by
  intro pins s σ H Q I h
  exact wpAny_BinOp (binT ha hb I h fun v u s2 x y H2 I2 rx ry q=>ho pins s2 σ H2 x y v u Q I2 rx ry q)
theorem pe_un {op:UnaryOp} {r:V→Hp→VK→Prop} (ho:UnR X (unaryOp op) r) (ha:PE X a ta):PE X (.UnaryOp op a pos) (tUn r ta):=by
  intro pins s σ H Q I h
  exact UnaryOp_ (thn (ha pins s σ H _ I h) fun v s1 ⟨x,H1,I1,r1,q1⟩=>ho pins s1 σ H1 x v Q I1 r1 q1)
theorem opI {f:Value→Value→Sem Value} {C:Int→Int→Prop} {g:Int→Int→Int}
    (rule:∀ (i j:Int) (t u:Tok) (s:Shared) (Q:Value→Shared→Prop) (E:Value→Shared→Prop),C i j→Q (.int (g i j) s.toks) { s with toks:=s.toks+1 }→wpAny (model X.prog X.w) X.A (f (.int i t) (.int j u)) Q E s) :
    OpR X f (rI C fun i j=>.int (g i j)):=by
  intro pins s σ H x y v u Q I rx ry h
  obtain ⟨i,j,rfl,rfl,hc,q⟩:=h
  obtain ⟨t,rfl⟩:=rx
  obtain ⟨t',rfl⟩:=ry
  exact rule i j t t' s _ _ hc ⟨.int (g i j),H,I.tok _,⟨_,rfl⟩,q⟩
theorem opI0 {f:Value→Value→Sem Value} {g:Int→Int→Int}
    (rule:∀ (i j:Int) (t u:Tok) (s:Shared) (Q:Value→Shared→Prop) (E:Value→Shared→Prop),Q (.int (g i j) s.toks) { s with toks:=s.toks+1 }→wpAny (model X.prog X.w) X.A (f (.int i t) (.int j u)) Q E s) :
    OpR X f (rI0 fun i j=>.int (g i j)):=by
  intro pins s σ H x y v u Q I rx ry h
  obtain ⟨i,j,rfl,rfl,q⟩:=h
  obtain ⟨t,rfl⟩:=rx
  obtain ⟨t',rfl⟩:=ry
  exact rule i j t t' s _ _ ⟨.int (g i j),H,I.tok _,⟨_,rfl⟩,q⟩
theorem opB0 {f:Value→Value→Sem Value} {g:Int→Int→Bool}
    (rule:∀ (i j:Int) (t u:Tok) (s:Shared) (Q:Value→Shared→Prop) (E:Value→Shared→Prop),Q (.bool (g i j)) s→wpAny (model X.prog X.w) X.A (f (.int i t) (.int j u)) Q E s) :
    OpR X f (rI0 fun i j=>.bl (g i j)):=by
  intro pins s σ H x y v u Q I rx ry h
  obtain ⟨i,j,rfl,rfl,q⟩:=h
  obtain ⟨t,rfl⟩:=rx
  obtain ⟨t',rfl⟩:=ry
  exact rule i j t t' s _ _ ⟨.bl (g i j),H,I,rfl,q⟩
def CPow (i j:Int):Prop:=0≤j∧j≤1000000∧i.natAbs < 2 ^ 64
def CMul (i j:Int):Prop:=(-(2 ^ 64) < i∧i < 2 ^ 64)∨(-(2 ^ 64) < j∧j < 2 ^ 64)
theorem CMul.ok {i j:Int} (h:CMul i j):IntMulOk i j:=by
  rcases h with ⟨h1,h2⟩ | ⟨h1,h2⟩
  · exact .of_left (intBits_le_64 h1 h2)
  · exact .of_right (intBits_le_64 h1 h2)
theorem op_add:OpR X (binaryOp .Add) (rI0 fun i j=>.int (i+j)):=opI0 fun _ _ _ _ _ _ _ q=>add_int q
theorem op_sub:OpR X (binaryOp .Sub) (rI0 fun i j=>.int (i-j)):=opI0 fun _ _ _ _ _ _ _ q=>sub_int q
theorem op_mod:OpR X (binaryOp .Mod) (rI (fun _ j=>0 < j) fun i j=>.int (i % j)):=opI fun i j _ _ _ _ _ hc q=>by
  have h1:(0:Int) < j:=hc
  exact mod_int' (by lia) (by rw [Int.fmod_eq_emod_of_nonneg i (by lia)];exact q)
theorem op_pow:OpR X (binaryOp .Pow) (rI CPow fun i j=>.int (i ^ j.toNat)):=opI fun _ _ _ _ _ _ _ hc q=>pow_int_small hc.1 hc.2.1 hc.2.2 q
theorem iop_add:OpR X (inplaceOp .Add) (rI0 fun i j=>.int (i+j)):=opI0 fun _ _ _ _ _ _ _ q=>iadd_int q
theorem unI {f:Value→Sem Value} {g:Int→Int}
    (rule:∀ (i:Int) (t:Tok) (s:Shared) (Q:Value→Shared→Prop) (E:Value→Shared→Prop),Q (.int (g i) s.toks) { s with toks:=s.toks+1 }→wpAny (model X.prog X.w) X.A (f (.int i t)) Q E s) :
    UnR X f (rU fun i=>.int (g i)):=by
  intro pins s σ H x v Q I rx h
  obtain ⟨i,rfl,q⟩:=h
  obtain ⟨t,rfl⟩:=rx
  exact rule i t s _ _ ⟨.int (g i),H,I.tok _,⟨_,rfl⟩,q⟩
theorem un_neg:UnR X (unaryOp .USub) (rU fun i=>.int (-i)):=unI fun _ _ _ _ _ q=>neg_int q
end
section
variable {X:Cx} {a b c:Expr} {ta tb tc:TE} {pos:Pos}
theorem fin_bl {pins:List (Addr×Obj)} {σ:St} {H:Hp} {s:Shared} {Q:VK} {k k':Bool} (I:Inv X pins σ H s) (q:Q (.bl k) H) (e:k=k'):EP X pins σ Q (.bool k') s:=by
  subst e
  exact ⟨.bl k,H,I,rfl,q⟩
theorem op_lt:OpR X (compareOp .Lt) (rI0 fun i j=>.bl (decide (i < j))):=opB0 fun _ _ _ _ _ _ _ q=>lt_int q
theorem op_le:OpR X (compareOp .LtE) (rI0 fun i j=>.bl (decide (i≤j))):=opB0 fun _ _ _ _ _ _ _ q=>le_int q
theorem op_gt:OpR X (compareOp .Gt) (rI0 fun i j=>.bl (decide (j < i))):=opB0 fun _ _ _ _ _ _ _ q=>gt_int q
theorem op_ge:OpR X (compareOp .GtE) (rI0 fun i j=>.bl (decide (j≤i))):=opB0 fun _ _ _ _ _ _ _ q=>ge_int q
theorem op_isN:OpR X (compareOp .Is) (fun x y H Q=>y=.non∧Q (.bl (decide (x=.non))) H):=by
  intro pins s σ H x y v u Q I rx ry h
  obtain ⟨rfl,q⟩:=h
  cases ry
  refine is_none_gen (fin_bl I q ?_)
  cases x<;>first
    | (cases rx;rfl)
    | (obtain ⟨t,rfl⟩:=rx;rfl)
theorem op_notN:OpR X (compareOp .IsNot) (fun x y H Q=>y=.non∧Q (.bl (!decide (x=.non))) H):=by
  intro pins s σ H x y v u Q I rx ry h
  obtain ⟨rfl,q⟩:=h
  cases ry
  refine isnot_none_gen (fin_bl I q ?_)
  cases x<;>first
    | (cases rx;rfl)
    | (obtain ⟨t,rfl⟩:=rx;rfl)
theorem OpR.or {f:Value→Value→Sem Value} {r r':R2} (h:OpR X f r) (h':OpR X f r'):OpR X f (fun x y H Q=>r x y H Q∨r' x y H Q):=by
  intro pins s σ H x y v u Q I rx ry q
  rcases q with q | q
  · exact h pins s σ H x y v u Q I rx ry q
  · exact h' pins s σ H x y v u Q I rx ry q
theorem nomark (b:Expr) {op:CmpOp} (h:op≠.In:=by decide) (h2:op≠.NotIn:=by decide):behindInMarks op b=false:=by
  have e1:(op==CmpOp.In)=false:=by cases op<;>first | rfl | exact absurd rfl h
  have e2:(op==CmpOp.NotIn)=false:=by cases op<;>first | rfl | exact absurd rfl h2
  cases b<;>simp [behindInMarks,e1,e2]
theorem pe_cmpR {op:CmpOp} {r:R2} (ho:OpR X (compareOp op) r) (ha:PE X a ta) (hb:PE X b tb) (hm:behindInMarks op b=false):PE X (.Compare a [op] [b] pos) (tOp r ta tb):=by
  intro pins s σ H Q I h
  exact wpAny_Compare1 (binT ha hb I h fun v u s2 x y H2 I2 rx ry q=>ho pins s2 σ H2 x y v u Q I2 rx ry q) hm
noncomputable def tTest (t:TE):TT:=fun σ H Q=>t σ H fun x H'=>∃ k,x=.bl k∧Q k H'
theorem pt_cmpR {op:CmpOp} {r:R2} (ho:OpR X (compareOp op) r) (ha:PE X a ta) (hb:PE X b tb) (hm:behindInMarks op b=false):PT X (.Compare a [op] [b] pos) (tTest (tOp r ta tb)):=by
  intro pins s σ H Q I h
  refine wpAny_isTrue_Compare1 (thn (ha pins s σ H _ I h) fun v s1 ⟨x,H1,I1,r1,q1⟩=>thn (hb pins s1 σ H1 _ I1 q1) fun u s2 ⟨y,H2,I2,r2,q2⟩ =>
    thn (ho pins s2 σ H2 x y v u _ I2 r1 r2 q2) fun c s3 ⟨z,H3,I3,r3,k,e,q3⟩=>?_) hm
  subst e
  cases r3
  exact wpAny_truthy_bool ⟨H3,I3,q3⟩
noncomputable def tChain (r r':R2) (ta tb tc:TE):TE:=fun σ H Q=>ta σ H fun x H1=>tb σ H1 fun y H2=>r x y H2 fun z H3=>∃ k,z=.bl k ∧
  (if k=true then tc σ H3 fun w' H4=>r' y w' H4 Q else Q (.bl false) H3)
theorem pe_chain {op op':CmpOp} {r r':R2} (ho:OpR X (compareOp op) r) (ho':OpR X (compareOp op') r') (ha:PE X a ta) (hb:PE X b tb) (hc:PE X c tc)
    (hm:lastMarks [op,op'] [b,c]=false:=by with_unfolding_all rfl):PE X (.Compare a [op,op'] [b,c] pos) (tChain r r' ta tb tc):=by
  intro pins s σ H Q I h
  refine Compare_chain (thn (ha pins s σ H _ I h) fun v s1 ⟨x,H1,I1,r1,q1⟩=>chain_link (thn (hb pins s1 σ H1 _ I1 q1) fun u s2 ⟨y,H2,I2,r2,q2⟩ =>
    thn (ho pins s2 σ H2 x y v u _ I2 r1 r2 q2) fun d s3 ⟨z,H3,I3,r3,k,e,q3⟩=>?_)) hm
  subst e
  cases r3
  refine wpAny_truthy_bool ?_
  cases k with
  | false=>exact ite_ff ⟨.bl false,H3,I3,rfl,q3⟩
  | true=>exact ite_tt (chain_last (thn (hc pins s3 σ H3 _ I3 q3) fun w' s4 ⟨z',H4,I4,r4,q4⟩=>ho' pins s4 σ H4 y z' u w' Q I4 r2 r4 q4))
theorem pt_chain {op op':CmpOp} {r r':R2} (ho:OpR X (compareOp op) r) (ho':OpR X (compareOp op') r') (ha:PE X a ta) (hb:PE X b tb) (hc:PE X c tc)
    (hm:lastMarks [op,op'] [b,c]=false:=by with_unfolding_all rfl):PT X (.Compare a [op,op'] [b,c] pos) (tTest (tChain r r' ta tb tc)):=by
  intro pins s σ H Q I h
  refine isTrue_chain (thn (ha pins s σ H _ I h) fun v s1 ⟨x,H1,I1,r1,q1⟩=>test_link (thn (hb pins s1 σ H1 _ I1 q1) fun u s2 ⟨y,H2,I2,r2,q2⟩ =>
    thn (ho pins s2 σ H2 x y v u _ I2 r1 r2 q2) fun d s3 ⟨z,H3,I3,r3,k,e,q3⟩=>?_)) hm
  subst e
  cases r3
  refine wpAny_truthy_bool ?_
  cases k with
  | false =>
    obtain ⟨k',e',q'⟩:=q3
    cases e'
    exact ite_ff ⟨H3,I3,q'⟩
  | true =>
    refine ite_tt (test_last (thn (hc pins s3 σ H3 _ I3 q3) fun w' s4 ⟨z',H4,I4,r4,q4⟩=>thn (ho' pins s4 σ H4 y z' u w' _ I4 r2 r4 q4) fun d' s5 ⟨z2,H5,I5,r5,k2,e2,q5⟩=>?_))
    subst e2
    cases r5
    exact wpAny_truthy_bool ⟨H5,I5,q5⟩
theorem line63:(sizeLine:Nat) < 2 ^ 63:=by rw [sizeLine_eq];decide
theorem op_add_str:OpR X (binaryOp .Add) (fun x y H Q=>∃ i j,x=.str i∧y=.str j∧i.length+j.length≤sizeLine∧Q (.str (i++j)) H):=by
  intro pins s σ H x y v u Q I rx ry h
  obtain ⟨i,j,rfl,rfl,hz,q⟩:=h
  obtain ⟨t,rfl⟩:=rx
  obtain ⟨t',rfl⟩:=ry
  exact add_str (fun t' tk=>⟨.str (i++j),H,I.tok _,⟨_,rfl⟩,q⟩) hz
theorem vals1 {x:V} {us:List Value} (r:Vals [x] us):∃ u,us=[u]∧RelV x u:=by
  cases r with
  | cons r1 r2=>cases r2;exact ⟨_,rfl,r1⟩
theorem vals2 {x y:V} {us:List Value} (r:Vals [x,y] us):∃ u w',us=[u,w']∧RelV x u∧RelV y w':=by
  cases r with
  | cons r1 r2 =>
    cases r2 with
    | cons r3 r4=>cases r4;exact ⟨_,_,rfl,r1,r3⟩
theorem call_max2 (hc:X.calm=true):CallR X (.builtin "max") (fun xs H Q=>∃ i j,xs=[.int i,.int j]∧Q (.int (if j > i then j else i)) H):=by
  intro pins s σ H xs us Q I r h
  obtain ⟨i,j,rfl,q⟩:=h
  obtain ⟨u,w',rfl,⟨t,rfl⟩,⟨t',rfl⟩⟩:=vals2 r
  refine max_two_ints (I.ok.hd hc) fun h' tk k=>⟨_,H,I.kept k,?_,q⟩
  by_cases hj:j > i
  · rw [if_pos hj,if_pos hj];exact ⟨_,rfl⟩
  · rw [if_neg hj,if_neg hj];exact ⟨_,rfl⟩
theorem call_int1:CallR X (.type "int") (fun xs H Q=>(∃ i,xs=[.int i]∧Q (.int i) H)∨∃ k,xs=[.bl k]∧Q (.int (if k then 1 else 0)) H):=by
  intro pins s σ H xs us Q I r h
  rcases h with ⟨i,rfl,q⟩ | ⟨k,rfl,q⟩
  · obtain ⟨u,rfl,t,rfl⟩:=vals1 r
    exact call_int_int ⟨.int i,H,I,⟨_,rfl⟩,q⟩
  · obtain ⟨u,rfl,r1⟩:=vals1 r
    cases r1
    exact call_int_bool ⟨.int (if k then 1 else 0),H,I.tok _,⟨_,rfl⟩,q⟩
def LenV (K:PySem.W.Frag) (x:V) (H:Hp) (n:Nat):Prop :=
  match x with
  | .str y=>y.length≤sizeLine∧n=y.length
  | .byt y=>y.size≤sizeLine∧n=y.size
  | .ref p=>(∃ xs,SqL K H p xs∧n=xs.length)∨∃ xs,SqT K H p xs∧n=xs.length
  | _=>False
theorem call_len:CallR X (.builtin "len") (fun xs H Q=>∃ x n,xs=[x]∧LenV X.K x H n∧Q (.int n) H):=by
  intro pins s σ H xs us Q I r h
  obtain ⟨x,n,rfl,e,q⟩:=h
  obtain ⟨u,rfl,rx⟩:=vals1 r
  have hl:=line63
  have hs:sizeLine=16777216:=sizeLine_eq
  cases x with
  | str y =>
    obtain ⟨t,rfl⟩:=rx
    obtain ⟨hy,e'⟩:y.length≤sizeLine∧n=y.length:=e
    subst e'
    exact len_str (by lia) ⟨.int _,H,I.tok _,⟨_,rfl⟩,q⟩
  | byt y =>
    obtain ⟨t,rfl⟩:=rx
    obtain ⟨hy,e'⟩:y.size≤sizeLine∧n=y.size:=e
    subst e'
    exact PySem.W.len_bytes (by lia) ⟨.int _,H,I.tok _,⟨_,rfl⟩,q⟩
  | ref p =>
    cases rx
    have e':(∃ xs,SqL X.K H p xs∧n=xs.length)∨∃ xs,SqT X.K H p xs∧n=xs.length:=e
    rcases e' with ⟨xs,hx,e'⟩ | ⟨xs,hx,e'⟩
    · subst e'
      obtain ⟨its,r',pl,hz⟩:=I.list hx
      have hlen:=r'.length
      exact Calls.call_len_list pl.isList (by simp only [List.size_toArray];lia) ⟨.int xs.length,H,I.tok _,⟨_,by simp only [List.size_toArray];rw [hlen]⟩,q⟩
    · subst e'
      obtain ⟨its,r',pl,hz⟩:=I.tuple hx
      have hlen:=r'.length
      exact len_tuple pl (by simp only [List.size_toArray];lia) ⟨.int xs.length,H,I.tok _,⟨_,by simp only [List.size_toArray];rw [hlen]⟩,q⟩
  | _=>exact (show False from e).elim
end
end L2
namespace L2
open PySem PySem.Spec PyProof.Rows
structure ObjM (h:Heap) (x dx C:Addr) (mA:Str→Option Value):Prop where
  obj:h.get? x=some (PySem.W.instObj C dx)
  ns:h.Ns1 dx mA
  ne:dx≠x
section
variable {prog:Program} {w:World} {A:Around} {E:Value→Shared→Prop} {s:Shared} {K:PySem.W.Frag} {x dx C f:Addr} {mA:Str→Option Value} {name:Str} {v:Value}
end
section
variable {P:Program} {w:World} {H H':Hp} {h h':Heap} {a C dx:Addr} {fs fs':List (Str×V)}
end
structure Cls (K:PySem.W.Frag) (C:Addr):Prop where
  pg:PySem.W.plainGet K C Str.empty=true
  hd:PySem.W.hasDictIn K C=true
  po:PySem.W.plainOver K C=true
  sa:PySem.W.findIn K (.ref C) "__setattr__" = some (some (.builtin "object.__setattr__"))
theorem Cls.get {K:PySem.W.Frag} {C:Addr} (c:Cls K C) (f:Str):PySem.W.plainGet K C f=true:=c.pg
structure Con (K:PySem.W.Frag) (C:Addr) (f:Str) (v:V) (u:Value):Prop where
  at_:PySem.W.findIn K (.ref C) f=some (some u)
  rel:RelV v u
  get:PySem.W.specialIn K u "__get__" = some none
  cp:PySem.W.copiedNames.contains f=false
structure Meth (K:PySem.W.Frag) (C:Addr) (m:Str) (f:Addr):Prop where
  at_:PySem.W.findIn K (.ref C) m=some (some (.ref f))
  fn:PySem.W.isFn K (.ref f)=true
  kp:PySem.W.keepIn K (.ref f)=true
section
variable {X:Cx} {pins:List (Addr×Obj)} {σ:St} {H:Hp} {s:Shared} {a C dx:Addr} {fs:List (Str×V)} {f:Str} {v:V} {A:Around} {E:Value→Shared→Prop}
end
section
variable {X:Cx} {o e value:Expr} {f:Str} {pos pos' tpos:Pos} {ta tv:TE}
end
section
variable {X:Cx} {pins:List (Addr×Obj)} {σ:St} {H:Hp} {s:Shared} {A:Around} {E:Value→Shared→Prop} {Q:Value→Shared→Prop} {c:Value} {b:Bool}
inductive TyOf (K:PySem.W.Frag) (H:Hp):V→Value→Prop where
  | non:TyOf K H .non (.type "NoneType")
  | bl (x:Bool):TyOf K H (.bl x) (.type "bool")
  | int (i:Int):TyOf K H (.int i) (.type "int")
  | str (x:Str):TyOf K H (.str x) (.type "str")
  | flt (x:UInt64):TyOf K H (.flt x) (.type "float")
  | lst {a:Addr} {xs:List V} (e:H a=some (.lst xs)):TyOf K H (.ref a) (.type "list")
  | frz {a:Addr} {o:Obj} {xs:List V} (e:H a=some (.frz o (.lst xs))):TyOf K H (.ref a) (.type "list")
  | tup {a:Addr} {xs:List V} (e:H a=some (.tup xs)):TyOf K H (.ref a) (.type "tuple")
  | dK {a:Addr} {kvs:List (Key×V)} (e:H a=some (.dK kvs)):TyOf K H (.ref a) (.type "dict")
  | dT {a:Addr} {kvs:List (List Key×V)} (e:H a=some (.dT kvs)):TyOf K H (.ref a) (.type "dict")
  | ins {a C dx:Addr} {fs:List (Str×V)} (e:H a=some (.ins C dx fs)) (cl:Cls K C) (ha:PySem.W.findIn K (.ref C) "__class__" = some (some (.builtin "object.__class__")))
      (hn:PySem.W.specialIn K (.builtin "object.__class__") "__get__" = some (some (.builtin "getset_descriptor.__get__"))) (htk:PySem.W.takesIn K (.builtin "object.__class__")=some true)
      (hm:PySem.W.mroIn K C (.type "object")=some true):TyOf K H (.ref a) (.ref C)
end
end L2
namespace L2
open PySem PySem.Spec PyProof.Rows
structure Room (k:Nat) (A:Around):Prop where
  hd:A.handled=none
  dp:A.depth+3*k+5 < recursionLimit
  un:A.units+16*k+200 < cLine
theorem Room.mono {j k:Nat} {A:Around} (r:Room k A) (h:j≤k):Room j A:=⟨r.hd,by have:=r.dp;lia,by have:=r.un;lia⟩
theorem Room.deeper {k:Nat} {A:Around} (r:Room (k+1) A) (env:Env):Room k (A.deeper env) :=
  ⟨r.hd,by have:=r.dp;show A.depth+1+3*k+5 < _;lia,by have:=r.un;show A.units+3+16*k+200 < _;lia⟩
theorem Room.depth {k:Nat} {A:Around} (r:Room k A):A.depth < recursionLimit:=by have:=r.dp;lia
theorem Room.units {k:Nat} {A:Around} (r:Room k A):A.units+64 < cLine:=by have:=r.un;lia
noncomputable def tNil:TA:=fun _ H Q=>Q [] H
noncomputable def tCons (ta:TE) (tr:TA):TA:=fun σ H Q=>ta σ H fun x H1=>tr σ H1 fun xs H2=>Q (x :: xs) H2
section
variable {X:Cx} {e:Expr} {es:List Expr} {te:TE} {t:TA} {pos:Pos}
theorem pa_nil:PA X [] tNil:=fun _ _ _ _ H Q I h=>Calls.spliced_nil ⟨[],H,I,.nil,h⟩
theorem pa_cons (ha:PE X e te) (hr:PA X es t) (hs:starEach (e :: es) X.env=(false,eval e X.env) :: starEach es X.env:=by rfl):PA X (e :: es) (tCons te t):=by
  intro pos pins s σ H Q I h
  rw [hs]
  show wpAny _ _ (spliced ((false,eval e X.env) :: backTo pos (starEach es X.env))) _ _ s
  refine Calls.spliced_cons (thn (ha pins s σ H _ I h) fun u s1 ⟨x,H1,I1,r1,q1⟩=>?_)
  exact thn (hr pos pins s1 σ H1 _ I1 q1) fun us s2 ⟨xs,H2,I2,r2,q2⟩=>⟨x :: xs,H2,I2,.cons r1 r2,q2⟩
noncomputable def tTup (t:TA):TE:=fun σ H Q=>t σ H fun xs H1=>xs.length≤sizeLine∧∀ p,H1 p=none→Q (.ref p) (upd H1 p (.tup xs))
noncomputable def tLst (t:TA):TE:=fun σ H Q=>t σ H fun xs H1=>xs.length≤sizeLine∧∀ p,H1 p=none→Q (.ref p) (upd H1 p (.lst xs))
theorem pe_tup {x1} (h:PA X es t):PE X (.Tuple es x1 pos) (tTup t):=by
  intro pins s σ H Q I hq
  refine wpAny_Tuple_spliced (thn (h pos pins s σ H _ I hq) fun us s1 ⟨xs,H1,I1,r,z,q⟩=>⟨by rw [←r.length];exact z,?_⟩)
  have hf:H1 s1.heap.objs.size=none:=I1.hok.fresh (Nat.le_refl _)
  refine ⟨.ref s1.heap.objs.size,upd H1 s1.heap.objs.size (.tup xs),I1.laid (t':=s1.toks) (fun b u e=>Heap.get?_push_of_some _ e) (Nat.le_refl _) ?_,rfl,q _ hf⟩
  exact ⟨z,us,r,⟨_,Heap.get?_push_size _ rfl,rfl,_,rfl⟩⟩
theorem pe_lst (h:PA X es t):PE X (.List es pos) (tLst t):=by
  intro pins s σ H Q I hq
  refine wpAny_List_spliced (thn (h pos pins s σ H _ I hq) fun us s1 ⟨xs,H1,I1,r,z,q⟩=>⟨by rw [←r.length];exact z,?_⟩)
  have hf:H1 s1.heap.objs.size=none:=I1.hok.fresh (Nat.le_refl _)
  refine ⟨.ref s1.heap.objs.size,upd H1 s1.heap.objs.size (.lst xs),I1.laid (t':=s1.toks) (fun b u e=>Heap.get?_push_of_some _ e) (Nat.le_refl _) ?_,rfl,q _ hf⟩
  exact ⟨z,us,0,r,Heap.get?_push_size _ rfl⟩
end
abbrev Sp:=List V→Hp→VK→XK→Prop
abbrev CXT:=List Env→Hp→Shared→XK→Value→Shared→Prop
structure Env0 (P:Program) (w:World) (K:PySem.W.Frag) (mg:Str→Option Value) (base:Heap) (A:Around) (outer:List Env) (s:Shared) (H:Hp):Prop where
  frames:A.frames=some outer
  mod:Mod K mg base
  bs:∀ b o,base.get? b=some o→s.heap.get? b=some o∧H b=none
  bsz:base.objs.size≤s.heap.objs.size
  funs:s.heap.FunFrames base outer
  frf:∀ b∈frs outer,H b=none
  hok:HOk P w H s.heap
  bare:AllBare s.gens
def CE (outer:List Env) (P:Program) (w:World) (H:Hp) (s:Shared) (Q:VK) (u:Value) (s':Shared):Prop :=
  ∃ v H',s'.os=s.os∧AllBare s'.gens∧Un (frs outer) [] H H' s.heap s'.heap∧HOk P w H' s'.heap∧RelV v u∧Q v H'
def CR (CX:CXT) (outer:List Env) (P:Program) (w:World) (H:Hp) (s:Shared) (Q:VK) (E:XK) (r:Result) (s':Shared):Prop :=
  match r with
  | .ok (.ret u)=>CE outer P w H s Q u s'
  | .ok _=>False
  | .error e=>CX outer H s E e s'
structure FnOk (P:Program) (w:World) (K:PySem.W.Frag) (mg:Str→Option Value) (base:Heap) (CX:CXT) (k:Nat) (f:Addr) (fd:FuncData) (ps:List Str) (sp:Sp):Prop where
  len:∀ vs H Q E,sp vs H Q E→vs.length=ps.length
  run:∀ (A:Around) (outer:List Env) (s:Shared) (H:Hp) (args:Args) (us:List Value) (vs:List V) (Q:VK) (E:XK),Room k A→Env0 P w K mg base A outer s H→BindsTo s fd args (ps.zip us)→Vals vs us→sp vs H Q E →
    codeAny (model P w) A (.call (.ref f) args) (CR CX outer P w H s Q E) s
theorem Env0.in1 {P:Program} {w:World} {K:PySem.W.Frag} {mg:Str→Option Value} {base:Heap} {A:Around} {outer:List Env} {s:Shared} {H:Hp} (e:Env0 P w K mg base A outer s H) :
    Env0 P w K mg base A.in1 outer s H:=⟨e.frames,e.mod,e.bs,e.bsz,e.funs,e.frf,e.hok,e.bare⟩
section
variable {X:Cx} {pins:List (Addr×Obj)} {σ:St} {H:Hp} {s s':Shared}
theorem Inv.env0 (I:Inv X pins σ H s):Env0 X.prog X.w X.K X.mg X.base X.A X.stack s H :=
  ⟨I.ok.frames,I.ok.mod,I.bs,Nat.le_trans I.ok.bsz I.sz,I.stack,I.stkFree,I.hok,I.bare⟩
theorem Inv.after {Q:VK} {u:Value} (I:Inv X pins σ H s) (h:CE X.stack X.prog X.w H s Q u s'):EP X pins σ Q u s':=by
  obtain ⟨v,H',os,bare,un,hok,r,q⟩:=h
  obtain ⟨hh,g,d,t,os'⟩:=s'
  obtain rfl:os'=s.os:=os
  exact ⟨v,H',I.call (h':=hh) (g':=g) (d':=d) (t':=t) (ch:=[]) un hok bare (fun b z=>absurd z (by simp)),r,q⟩
end
noncomputable def tCall (sp:Sp) (dvs:List V) (E:XK) (t:TA):TE:=fun σ H Q=>t σ H fun vs H1=>sp (vs++dvs) H1 Q E
def Binds (K:PySem.W.Frag) (fd:FuncData) (ps:List Str) (ds:List Value):Prop :=
  ∀ (s:Shared) (us:List Value),K.In s.heap→(us++ds).length=ps.length→BindsTo s fd ⟨us,[]⟩ (ps.zip (us++ds))
theorem Binds.all {K:PySem.W.Frag} {fd:FuncData} {ps:List Str} (h:∀ us:List Value,us.length=ps.length→bindArgs fd ⟨us,[]⟩=pure (ps.zip us)):Binds K fd ps []:=fun s us _ hl=>by
  rw [List.append_nil] at hl ⊢
  exact .of_eq (h us hl)
def Passes (CX:CXT) (X:Cx) (E:XK):Prop:=∀ (pins:List (Addr×Obj)) (σ:St) (H:Hp) (s:Shared) (e:Value) (s':Shared),Inv X pins σ H s→CX X.stack H s E e s'→X.xe e s'
section
variable {X:Cx} {CX:CXT} {k:Nat} {f C:Addr} {fd:FuncData} {ps:List Str} {sp:Sp} {dvs:List V} {ds:List Value} {E:XK} {x m:Str} {p pos apos:Pos} {e o:Expr} {es:List Expr} {ta:TE} {t:TA}
theorem run_fn {pins:List (Addr×Obj)} {σ:St} {H:Hp} {s:Shared} {Q:VK} {us:List Value} {vs:List V} (F:FnOk X.prog X.w X.K X.mg X.base CX k f fd ps sp) (hr:Room k X.A) (hb:Binds X.K fd ps ds) (hd:Vals dvs ds) (hx:Passes CX X E)
    (I:Inv X pins σ H s) (r:Vals vs us) (h:sp (vs++dvs) H Q E):wpAny (model X.prog X.w) X.A (call (.ref f) us) (EP X pins σ Q) X.xe s:=by
  have r2:Vals (vs++dvs) (us++ds):=r.append hd
  have hl:(us++ds).length=ps.length:=by rw [←r2.length];exact F.len _ _ _ _ h
  refine wpAny_call (codeAny_mono (F.run X.A X.stack s H ⟨us,[]⟩ (us++ds) (vs++dvs) Q E hr I.env0 (hb s us I.kIn hl) r2 h) fun r s' hq=>?_)
  cases r with
  | error e=>exact hx pins σ H s e s' I hq
  | ok fl =>
    cases fl with
    | ret u=>exact I.after hq
    | next=>exact False.elim hq
    | brk=>exact False.elim hq
    | cont=>exact False.elim hq
theorem pe_call (F:FnOk X.prog X.w X.K X.mg X.base CX k f fd ps sp) (hr:Room k X.A) (hg:Gl X x) (hm:X.mg x=some (.ref f)) (hk:PySem.W.keepIn X.K (.ref f)=true) (hb:Binds X.K fd ps ds) (hd:Vals dvs ds) (hx:Passes CX X E)
    (ha:PA X (e :: es) t) (hdb:(x==("__debug__" : Str))=false:=by decide) (he:starEach (e :: es) X.env=(false,eval e X.env) :: starEach es X.env:=by rfl) (hpl:(backTo pos (starEach es X.env)).any (·.1)=false:=by rfl) :
    PE X (.Call (.Name x p) (e :: es) [] pos) (tCall sp dvs E t):=by
  intro pins s σ H Q I h
  refine wpAny_Call_Name_kw (ld_glob I hg hm ?_ hdb)
  refine PySem.W.callWith_K (h₀:=X.base) I.ok.mod.kin hk (thn (ha pos pins s σ H _ I h) fun us s1 ⟨vs,H1,I1,r,q⟩=>⟨I1.kIn,?_⟩) he hpl
  exact run_fn F hr hb hd hx I1 r q
structure Mk (K:PySem.W.Frag) (C f:Addr):Prop where
  makes:PySem.W.makesIn K C=true
  init:PySem.W.findIn K (.ref C) "__init__" = some (some (.ref f))
  fn:PySem.W.isFn K (.ref f)=true
  kp:PySem.W.keepIn K (.ref C)=true
end
section
variable {X:Cx} {CX:CXT} {k:Nat} {f C:Addr} {fd:FuncData} {ps ks:List Str} {sp:Sp} {E:XK} {x m:Str} {p pos apos kpos:Pos} {e o:Expr} {es:List Expr} {kws:List Keyword} {te ta:TE} {t tk:TA} {nm:Option Str}
structure KBinds (K:PySem.W.Frag) (fd:FuncData) (ps ks:List Str) (g:List Value→List Value→List Value) (gV:List V→List V→List V):Prop where
  to:∀ (s:Shared) (us ws:List Value),K.In s.heap→(g us ws).length=ps.length→BindsTo s fd ⟨us,ks.zip ws⟩ (ps.zip (g us ws))
  rel:∀ {vs:List V} {us:List Value} {zs:List V} {ws:List Value},Vals vs us→Vals zs ws→Vals (gV vs zs) (g us ws)
variable {g:List Value→List Value→List Value} {gV:List V→List V→List V}
end
structure FnScope (N P:List Str) (sc:Scope):Prop where
  kind:sc.kind=.function
  co:sc.isCoroutine=false
  gen:sc.isGenerator=false
  nd:N.Nodup
  pre:N.take P.length=P
  par:∀ x∈P,sc.names.lookup x=some .local∨sc.names.lookup x=some .cell
  nofree:∀ y∈sc.names,y.2≠.free
theorem bindL_out {kindOf:Str→Option NameKind} {x:Str}:∀ {binds:List (Str×Value)} {m:Str→Option Value},(∀ v,(x,v)∉binds)→bindL kindOf binds m x=m x
  | [],_,_=>rfl
  | (n,v) :: r,m,h=>by
    unfold bindL
    rw [bindL_out fun w hw=>h w (List.mem_cons_of_mem _ hw)]
    split
    · have:x≠n:=by rintro rfl;exact h v List.mem_cons_self
      simp [this]
    · rfl
theorem bindC_out {kindOf:Str→Option NameKind} {x:Str}:∀ {binds:List (Str×Value)} {m:Str→Option Value},(∀ v,(x,v)∉binds)→bindC kindOf binds m x=m x
  | [],_,_=>rfl
  | (n,v) :: r,m,h=>by
    unfold bindC
    rw [bindC_out fun w hw=>h w (List.mem_cons_of_mem _ hw)]
    split
    · rfl
    · have:x≠n:=by rintro rfl;exact h v List.mem_cons_self
      simp [this]
theorem bindL_get {kindOf:Str→Option NameKind} {x:Str} {v:Value}:∀ {P:List Str} {vs:List Value} {i:Nat} {m:Str→Option Value},P.Nodup→P[i]?=some x→vs[i]?=some v→kindOf x=some .local →
    bindL kindOf (P.zip vs) m x=some v
  | [],_,_,_,_,h,_,_=>by simp at h
  | _ :: _,[],_,_,_,_,h,_=>by simp at h
  | p :: P,w :: vs,0,m,nd,h1,h2,hk=>by
    simp at h1 h2;subst h1;subst h2
    show bindL kindOf ((p,w) :: P.zip vs) m p=_
    unfold bindL
    rw [bindL_out fun v hv=>(List.nodup_cons.mp nd).1 (List.of_mem_zip hv).1,if_pos hk]
    simp
  | p :: P,w :: vs,i+1,m,nd,h1,h2,hk=>by
    show bindL kindOf ((p,w) :: P.zip vs) m x=_
    unfold bindL
    exact bindL_get (i:=i) (List.nodup_cons.mp nd).2 (by simpa using h1) (by simpa using h2) hk
theorem bindC_get {kindOf:Str→Option NameKind} {x:Str} {v:Value}:∀ {P:List Str} {vs:List Value} {i:Nat} {m:Str→Option Value},P.Nodup→P[i]?=some x→vs[i]?=some v→kindOf x≠some .local →
    bindC kindOf (P.zip vs) m x=some v
  | [],_,_,_,_,h,_,_=>by simp at h
  | _ :: _,[],_,_,_,_,h,_=>by simp at h
  | p :: P,w :: vs,0,m,nd,h1,h2,hk=>by
    simp at h1 h2;subst h1;subst h2
    show bindC kindOf ((p,w) :: P.zip vs) m p=_
    unfold bindC
    rw [bindC_out fun v hv=>(List.nodup_cons.mp nd).1 (List.of_mem_zip hv).1,if_neg hk]
    simp
  | p :: P,w :: vs,i+1,m,nd,h1,h2,hk=>by
    show bindC kindOf ((p,w) :: P.zip vs) m x=_
    unfold bindC
    exact bindC_get (i:=i) (List.nodup_cons.mp nd).2 (by simpa using h1) (by simpa using h2) hk
noncomputable def start (N:List Str) (vs:List V):St:=vs.map some++List.replicate (N.length-vs.length) none
noncomputable def cxOf (CX:CXT) (P:Program) (w:World) (K:PySem.W.Frag) (mg:Str→Option Value) (base:Heap) (N:List Str) (qual:Str) (scope:Scope) (f:Addr) (cd:Value) (A:Around) (outer:List Env) (s:Shared) (H:Hp) (E:XK):Cx where
  prog:=P
  w:=w
  K:=K
  mg:=mg
  base:=base
  A:=A.deeper (envOfC qual scope s.heap.objs.size f cd)
  N:=N
  s₀:=s
  H₀:=H
  env:=envOfC qual scope s.heap.objs.size f cd
  outer:=outer
  stack:=envOfC qual scope s.heap.objs.size f cd :: outer
  ex:=[]
  calm:=true
  fn:=fun _=>true
  pn:=[]
  xe:=fun e s'=>wpAny (model P w) (A.deeper (envOfC qual scope s.heap.objs.size f cd)) (leaving (envOfC qual scope s.heap.objs.size f cd) e) (fun _ s''=>CX outer H s E e s'') (fun e' s''=>CX outer H s E e' s'') s'
theorem cell_has {sc:Scope} {n:Nat} {x:Str} (h:sc.names.lookup x=some .cell):∃ c,(cellsFrom n sc.names []).lookup x=some c:=by
  have q:=PySem.W.cellsFrom_some sc.names n [] (.inl h)
  exact Option.isSome_iff_exists.mp q
theorem inv_start {CX : CXT} {P : Program} {w : World} {K : PySem.W.Frag} {mg : Str → Option Value} {base : Heap} {N ps : List Str} {qual : Str} {scope : Scope} {f : Addr} {cd : Value} {A : Around} {outer : List Env} {s s1 : Shared} {H : Hp} {E : XK} {us : List Value} {vs : List V}
    (S:FnScope N ps scope) (hd:A.handled=none) (e0:Env0 P w K mg base A outer s H) (hl:vs.length=ps.length) (r:Vals vs us)
    (x:InCallC s s.heap.objs.size (bindL (envOfC qual scope s.heap.objs.size f cd).kindOf (ps.zip us) fun _=>none) (cellsFrom (s.heap.objs.size+1) scope.names []) (bindC (envOfC qual scope s.heap.objs.size f cd).kindOf (ps.zip us) fun _=>none) s1) :
    Inv (cxOf CX P w K mg base N qual scope f cd A outer s H E) [] (start N vs) H s1:=by
  have hpl:ps.length≤N.length:=by have:=congrArg List.length S.pre;rw [List.length_take] at this;lia
  obtain ⟨h1,tk,rfl,hk⟩:=x.done
  have noA:∀ b:Addr,b∉(cxOf CX P w K mg base N qual scope f cd A outer s H E).ex:=fun b z=>absurd (show b∈([]:List Addr) from z) (by simp)
  refine ⟨⟨e0.mod,S.kind,rfl,rfl,Nat.le_refl _,fun y z c h1 h2=>?_,fun y hy=>?_,fun y c _ h=>?_,fun _=>hd,Around.frames_deeper e0.frames,.inr ⟨rfl,rfl⟩,fun b z=>absurd z (noA b),e0.bs,e0.bsz,fun b _ _=>noA b,fun b z=>absurd z (noA b),e0.funs,e0.frf⟩,
    rfl,e0.bare,Un.kept hk,⟨_,x.toInCall.ns,fun i y v h1 h2 h3=>?_⟩,fun y c h=>⟨_,x.cell y c h⟩,e0.hok.fresh (Nat.le_refl _),fun y c h=>?_,fun p hp=>absurd (show p∈([]:List (Addr×Obj)) from hp) (by simp),e0.hok.kept hk,?_⟩
  · exact name_of_addr x.apart (PySem.mem_of_lookup h1) (PySem.mem_of_lookup h2)
  · have hy:scope.names.lookup y=some .cell∨scope.names.lookup y=some .free:=hy
    rcases hy with hy | hy
    · exact cell_has hy
    · exact absurd rfl (S.nofree _ (PySem.mem_of_lookup hy))
  · exact Nat.le_of_lt (x.above y c (PySem.mem_of_lookup h))
  · have hi:i < vs.length:=by
      unfold start at h2
      by_cases hi:i < vs.length
      · exact hi
      · rw [List.getElem?_append_right (by simpa using hi)] at h2
        rw [List.getElem?_replicate] at h2
        split at h2<;>cases h2
    have ha:vs[i]?=some v:=by
      unfold start at h2
      rw [List.getElem?_append_left (by simpa using hi),List.getElem?_map] at h2
      cases e:vs[i]? with
      | none=>rw [e] at h2;cases h2
      | some a=>rw [e] at h2;cases h2;rfl
    obtain ⟨u,hu,rv⟩:=r.get ha
    have hp:ps[i]?=some y:=by
      rw [←S.pre,List.getElem?_take_of_lt (by lia)];exact h1
    have ndP:ps.Nodup:=by rw [←S.pre];exact S.nd.sublist (List.take_sublist _ _)
    refine ⟨u,rv,?_⟩
    rcases S.par y (List.mem_of_getElem? hp) with k | k
    · exact .inl ⟨k,bindL_get ndP hp hu k⟩
    · obtain ⟨c,e⟩:=cell_has (n:=s.heap.objs.size+1) k
      refine .inr ⟨.inl k,c,e,?_⟩
      have q:=x.cell y c e
      rw [bindC_get ndP hp hu (by show scope.names.lookup y≠_;rw [k];decide)] at q
      exact q
  · exact e0.hok.fresh (Nat.le_of_lt (x.above y c (PySem.mem_of_lookup h)))
  · unfold start
    show _=N.length
    rw [List.length_append,List.length_map,List.length_replicate]
    lia
theorem zp4 {CX:CXT} {P:Program} {w:World} {K:PySem.W.Frag} {mg:Str→Option Value} {base:Heap} {k:Nat} {f:Addr} {name qual:Str} {params:Arguments} {body:List Stmt} {scope:Scope} {dV kV doc pm cdv ct oc:Value} {an od:Option Addr}
    {osl:Array (Option Value)} {N ps:List Str} {sp:Sp} (lk:K.lookup f=some ⟨oc,od,.func (PySem.W.fnOf name qual params body scope dV kV doc pm an cdv ct),osl⟩) (hcd:PySem.W.codeIn K cdv qual=true) (S:FnScope N ps scope)
    (len:∀ vs H Q E,sp vs H Q E→vs.length=ps.length)
    (hbody:∀ (A:Around) (outer:List Env) (s:Shared) (H:Hp) (vs:List V) (Q:VK) (E:XK),Room k (A.deeper (envOfC qual scope s.heap.objs.size f cdv))→sp vs H Q E →
      ∃ t,PSs (cxOf CX P w K mg base N qual scope f cdv A outer s H E) body t∧t { nx:=fun _ H'=>Q .non H',rt:=Q } (start N vs) H) :
    FnOk P w K mg base CX (k+1) f (PySem.W.fnOf name qual params body scope dV kV doc pm an cdv ct) ps sp:=by
  refine ⟨len,fun A outer s H args us vs Q E hr e0 hb r hsp=>?_⟩
  have hl:=len _ _ _ _ hsp
  have KX:K.In s.heap:=e0.mod.kin.keeps fun b o e=>(e0.bs b o e).1
  have lim:s.heap.NoLimit:=e0.mod.nolimit.keeps fun b o e=>(e0.bs b o e).1
  have hkind:∀ y∈ps.zip us,scope.names.lookup y.1=some .local∨(scope.names.lookup y.1=some .cell∧((cellsFrom (s.heap.objs.size+1) scope.names []).lookup y.1).isSome=true):=fun ⟨n,v⟩ hy=>by
    rcases S.par n (List.of_mem_zip hy).1 with q | q
    · exact .inl q
    · exact .inr ⟨q,PySem.W.cellsFrom_some _ _ _ (.inl q)⟩
  refine codeAny_call_function hr.depth (KX _ _ lk) rfl S.co S.gen rfl (PySem.W.codeRec_of KX hcd) (hb _ _ _ _ ?_)
  refine wpAny_newFunctionEnv_cells S.kind hkind fun env he s1 x=>?_
  subst he
  refine ⟨lim.keeps x.toInCall.keep,codeAny_func ?_⟩
  obtain ⟨t,ht,hq⟩:=hbody A outer s H vs Q E (hr.deeper _) hsp
  have I:Inv (cxOf CX P w K mg base N qual scope f cdv A outer s H E) [] (start N vs) H s1:=inv_start S hr.hd e0 hl r x
  refine wpAny_mono (ht [] s1 (start N vs) H _ I hq) (fun fl s' hs=>?_) fun e s' hs=>hs
  have fin:∀ {σ':St} {H':Hp} {v:V} {u:Value},Inv (cxOf CX P w K mg base N qual scope f cdv A outer s H E) [] σ' H' s'→RelV v u→Q v H'→CE outer P w H s Q u s' :=
    fun {σ' H' v u} J rv q=>⟨v,H',J.os,J.bare,J.base,J.hok,rv,q⟩
  cases fl with
  | ret u =>
    obtain ⟨v,σ',H',J,rv,q⟩:=hs
    exact fin J rv q
  | next =>
    obtain ⟨σ',H',J,q⟩:=hs
    exact fin (v:=V.non) (u:=Value.none) J rfl q
  | brk =>
    obtain ⟨_,_,_,q⟩:=hs
    exact False.elim q
  | cont =>
    obtain ⟨_,_,_,q⟩:=hs
    exact False.elim q
end L2
namespace L2
open PySem PySem.Spec PyProof.Rows
section
variable {X:Cx} {x:Str} {p pos:Pos} {e:Expr} {es:List Expr} {t:TA} {id T:String} {r:List V→Hp→VK→Prop}
noncomputable def tCB (r:List V→Hp→VK→Prop) (t:TA):TE:=fun σ H Q=>t σ H fun vs H1=>r vs H1 Q
theorem pe_callB (hc:CallR X (.builtin id) r) (hg:Gl X x) (hm:X.mg x=none) (hv:bootBuiltins x=some (.builtin id)) (ha:PA X (e :: es) t) (hn:x ≠ "__name__" := by decide) (hdb:(x==("__debug__" : Str))=false:=by decide)
    (he:starEach (e :: es) X.env=(false,eval e X.env) :: starEach es X.env:=by rfl) (hpl:(backTo pos (starEach es X.env)).any (·.1)=false:=by rfl):PE X (.Call (.Name x p) (e :: es) [] pos) (tCB r t):=by
  intro pins s σ H Q I h
  refine wpAny_Call_Name_kw (ld_blt I hg hm hv ?_ hn hdb)
  exact PyProof.Rows.callWith_builtin1 (thn (ha pos pins s σ H _ I h) fun us s1 ⟨vs,H1,I1,r1,q1⟩=>hc pins s1 σ H1 vs us Q I1 r1 q1) he hpl
theorem pe_callTy (hc:CallR X (.type T) r) (hg:Gl X x) (hm:X.mg x=none) (hv:bootBuiltins x=some (.type T)) (ha:PA X (e :: es) t) (hn:x ≠ "__name__" := by decide) (hdb:(x==("__debug__" : Str))=false:=by decide)
    (he:starEach (e :: es) X.env=(false,eval e X.env) :: starEach es X.env:=by rfl) (hpl:(backTo pos (starEach es X.env)).any (·.1)=false:=by rfl):PE X (.Call (.Name x p) (e :: es) [] pos) (tCB r t):=by
  intro pins s σ H Q I h
  refine wpAny_Call_Name_kw (ld_blt I hg hm hv ?_ hn hdb)
  exact PyProof.Rows.callWith_type1 (thn (ha pos pins s σ H _ I h) fun us s1 ⟨vs,H1,I1,r1,q1⟩=>hc pins s1 σ H1 vs us Q I1 r1 q1) he hpl
end
end L2
namespace HT
open PySem PyProof.Rows
section
open PySem.SeqAt
open PySem.AutoSeq1 (wpAny_loadPart')
open PySem.MeetsSeq PySem.MeetsSeq2 PySem.MeetsSeq3
end
section
variable {prog:Program} {w:World} {A:Around} {E:Value→Shared→Prop} {s:Shared}
theorem cat_tup {t b:Addr} {vs ws:List Value} {Q:Value→Shared→Prop} (ht:IsTup s.heap t vs.toArray) (hb:IsTup s.heap b ws.toArray) (hv:vs≠[])
    (h1:ws=[]→Q (.ref t) s) (h2:ws≠[]→Q (.ref s.heap.objs.size) { s with heap:=s.heap.push { cls:=.type "tuple",data:=.seq (vs++ws).toArray } })
    (hsz:vs.length+ws.length≤sizeLine):wpAny (model prog w) A (binaryOp .Add (.ref t) (.ref b)) Q E s:=by
  obtain ⟨⟨cls,dd,data,sl⟩,ho,hc,n,hd⟩:=id ht
  obtain ⟨⟨cls2,dd2,data2,sl2⟩,ho2,hc2,n2,hd2⟩:=id hb
  simp only at hc hd hc2 hd2
  subst hc hd hc2 hd2
  have e:vs.toArray++ws.toArray=(vs++ws).toArray:=by simp
  by_cases hw:ws=[]
  · exact concat_meets ⟨_,ho,rfl⟩ ⟨_,ho2,rfl⟩ noFill_tuple_add seq_tuple_add PySem.F.slot_tuple_add PySem.F.entry_tuple_add (PySem.F.args_tuple_add_2 _ _)
      (tuple_addW1 t b vs.toArray ws.toArray n n2 dd dd2 sl sl2 (by simpa using hv) (by simp [hw])) ⟨ho,ho2,h1 hw⟩
  · refine concat_meets ⟨_,ho,rfl⟩ ⟨_,ho2,rfl⟩ noFill_tuple_add seq_tuple_add PySem.F.slot_tuple_add PySem.F.entry_tuple_add (PySem.F.args_tuple_add_2 _ _)
      (tuple_addW2 t b vs.toArray ws.toArray n n2 dd dd2 sl sl2 (by simpa using hv) (by simpa using hw) (by rw [List.size_toArray,List.size_toArray];exact hsz)) ⟨ho,ho2,?_⟩
    rw [e]
    exact h2 hw
noncomputable def sIx (n d:Nat):Option Int→Nat
  | none=>d
  | some v=>if v < 0 then (v+(n:Int)).toNat else min v.toNat n
theorem zkN (n d:Nat) (hd:d≤n) (o:Option Int):sIx n d o≤n:=by
  cases o with
  | none=>exact hd
  | some v =>
    show (if v < 0 then (v+(n:Int)).toNat else min v.toNat n)≤n
    by_cases hv:v < 0
    · rw [if_pos hv];lia
    · rw [if_neg hv];exact Nat.min_le_right _ _
theorem zmE (v:Int) (n d:Nat):(if v < 0 then max (v+(n:Int)) 0 else min v (n:Int))=((sIx n d (some v):Nat):Int):=by
  show (if v < 0 then max (v+(n:Int)) 0 else min v (n:Int))=(((if v < 0 then (v+(n:Int)).toNat else min v.toNat n):Nat):Int)
  by_cases hv:v < 0
  · simp only [if_pos hv];lia
  · simp only [if_neg hv];lia
theorem zlD (lo hi:Option Int) (n:Nat):Builtin.Slice.sliceAdjust lo hi 1 (n:Int)=(((sIx n 0 lo:Nat):Int),((sIx n n hi:Nat):Int)):=by
  have h1:¬ ((1:Int) < 0):=by lia
  unfold Builtin.Slice.sliceAdjust
  simp only [h1,if_false]
  refine Prod.ext ?_ ?_
  · cases lo with
    | none=>rfl
    | some v=>exact zmE v n 0
  · cases hi with
    | none=>rfl
    | some v=>exact zmE v n n
theorem zle (i j:Nat):Builtin.Slice.slicePlaces (i:Int) (j:Int) 1=j-i:=by
  unfold Builtin.Slice.slicePlaces
  have h1:(1:Int) > 0:=by lia
  simp only [h1,if_true,Int.ediv_one]
  split<;>lia
theorem zhv {v:Value} {o:Option Int} {Q:Option Int→Shared→Prop} (p:IsPart v o) (h:Q o s):wpAny (model prog w) A (Builtin.Slice.slicePartIndex v) Q E s:=by
  cases p with
  | none=>exact slicePart_none h
  | int i t=>exact slicePart_int h
theorem sliceApplied_gen {sl:Addr} {vl vu:Value} {lo hi:Option Int} {n:Nat} {Q:Int×Int×Nat→Shared→Prop} (hs:s.heap.IsSliceOf sl vl vu .none) (pl:IsPart vl lo) (pu:IsPart vu hi)
    (h:Q (((sIx n 0 lo:Nat):Int),1,sIx n n hi-sIx n 0 lo) s):wpAny (model prog w) A (Builtin.Slice.sliceApplied (.ref sl) (pure (n:Int))) Q E s:=by
  obtain ⟨os,hos,hcs,hds⟩:=id hs
  unfold Builtin.Slice.sliceApplied Builtin.Slice.sliceFields
  refine wpAny_bind (wpAny_bind (wpAny_field hos hds (x:=vl) rfl (wpAny_bind (wpAny_field hos hds (x:=vu) rfl (wpAny_bind (wpAny_field hos hds (x:=.none) rfl (wpAny_pure ?_)))))))
  refine wpAny_bind (slicePart_none ?_)
  show wpAny _ _ (if ((1:Int)==0)=true then _ else _) _ _ s
  rw [if_neg (by decide)]
  refine wpAny_bind (zhv pl (wpAny_bind (zhv pu (wpAny_bind (wpAny_pure ?_)))))
  show wpAny _ _ (match Builtin.Slice.sliceAdjust lo hi 1 (n:Int) with | (lo,hi)=>pure (lo,(1:Int),Builtin.Slice.slicePlaces lo hi 1)) _ _ s
  rw [zlD lo hi n]
  show wpAny _ _ (pure (((sIx n 0 lo:Nat):Int),(1:Int),Builtin.Slice.slicePlaces ((sIx n 0 lo:Nat):Int) ((sIx n n hi:Nat):Int) 1)) _ _ s
  rw [zle]
  exact wpAny_pure h
theorem zna (xs:Array Value) (i k:Nat):((List.range k).filterMap fun (m:Nat)=>xs[((i:Int)+(m:Int)*1).toNat]?).toArray=((xs.toList.drop i).take k).toArray:=by
  have e:(fun (m:Nat)=>xs[((i:Int)+(m:Int)*1).toNat]?)=fun m=>xs[i+m]?:=by
    funext m
    have:((i:Int)+(m:Int)*1).toNat=i+m:=by lia
    rw [this]
  rw [e]
  have:=pick_run xs i k
  rw [List.filterMap_map] at this
  have e2:((fun x=>xs[x]?)∘fun x=>i+x)=fun m=>xs[i+m]?:=rfl
  rw [e2] at this
  rw [this]
theorem getItem_tuple_cut {t sl:Addr} {items:Array Value} {vl vu:Value} {lo hi:Option Int} {Q:Value→Shared→Prop} (ht:IsTup s.heap t items) (hs:s.heap.IsSliceOf sl vl vu .none) (pl:IsPart vl lo) (pu:IsPart vu hi)
    (hw:¬ (sIx items.size 0 lo=0∧sIx items.size items.size hi=items.size))
    (h:Q (.ref s.heap.objs.size) { s with heap:=s.heap.push { cls:=.type "tuple",data:=.seq ((items.toList.drop (sIx items.size 0 lo)).take (sIx items.size items.size hi-sIx items.size 0 lo)).toArray } })
    (hsz:items.size≤sizeLine):wpAny (model prog w) A (getItem (.ref t) (.ref sl)) Q E s:=by
  have htake:sizeOk (.seq ((items.toList.drop (sIx items.size 0 lo)).take (sIx items.size items.size hi-sIx items.size 0 lo)).toArray):=by
    show ((items.toList.drop (sIx items.size 0 lo)).take (sIx items.size items.size hi-sIx items.size 0 lo)).toArray.size≤sizeLine
    rw [List.size_toArray,List.length_take,List.length_drop,Array.length_toList]
    lia
  have hj:sIx items.size items.size hi≤items.size:=zkN _ _ (Nat.le_refl _) hi
  obtain ⟨os,hos,hcs,hds⟩:=id hs
  have hTs:s.TypeIs (.ref sl) "slice" := ⟨os,hos,hcs⟩
  unfold getItem
  try with_reducible refine wpAny_holding ?_
  first | refine wpAny_bind (wpAny_pure ?_) | skip
  refine wpAny_bind (wpAny_sequenceKey ht.typeIs (by decide) ?_)
  refine wpAny_bind (wpAny_callSpecial?_slot (name:=Str.ofString "__getitem__") ht.typeIs PyProof.Rows.slot_tuple_getitem
    (wpAny_call_entry PyProof.Rows.slot_tuple_getitem ht.typeIs entry_tuple_getitem ?_ (args_tuple_getitem _ _)))
  show wpAny _ _ (Builtin.Tuple.tupleItemsOf (.ref t) >>= _) _ _ s
  refine wpAny_bind (tupleItemsOf_ ht ?_)
  refine wpAny_bind (wpAny_typeOf hTs ?_)
  rw [if_pos (by decide)]
  refine wpAny_bind (sliceApplied_gen hs pl pu ?_)
  have hno:¬ ((((sIx items.size 0 lo:Nat):Int)==0&&(1:Int)==1&&(sIx items.size items.size hi-sIx items.size 0 lo)==items.size)=true):=by
    intro q
    rw [Bool.and_eq_true,Bool.and_eq_true] at q
    have q1:((sIx items.size 0 lo:Nat):Int)=0:=eq_of_beq q.1.1
    have q2:sIx items.size items.size hi-sIx items.size 0 lo=items.size:=eq_of_beq q.2
    exact hw ⟨by lia,by lia⟩
  show wpAny _ _ (if (((sIx items.size 0 lo:Nat):Int)==0&&(1:Int)==1&&(sIx items.size items.size hi-sIx items.size 0 lo)==items.size)=true then _ else _) _ _ s
  rw [if_neg hno,zna]
  first
    | exact wpAny_bind (m:=Builtin.Tuple.tupleExact _) (wpAny_newObj_type (wpAny_pure ⟨_,rfl,wpAny_pure h⟩) htake)
    | exact wpAny_bind (m:=Builtin.Tuple.tupleExact _) (wpAny_newObj_type (wpAny_bind (wpAny_pure (wpAny_pure ⟨_,rfl,wpAny_pure h⟩))) htake)
    | exact wpAny_bind (wpAny_bind (m:=Builtin.Tuple.tupleExact _) (wpAny_newObj_type (wpAny_pure (wpAny_pure ⟨_,rfl,wpAny_pure h⟩)) htake))
    | exact wpAny_bind (wpAny_bind (m:=Builtin.Tuple.tupleExact _) (wpAny_newObj_type (wpAny_pure ⟨_,rfl,wpAny_pure h⟩) htake))
end
end HT
namespace L2
open PySem PySem.Spec PyProof.Rows
abbrev TO:=St→Hp→(Option Int→Hp→Prop)→Prop
def PO (X:Cx) (e:Option Expr) (t:TO):Prop :=
  ∀ (pins:List (Addr×Obj)) (s:Shared) (σ:St) (H:Hp) (Q:Option Int→Hp→Prop),Inv X pins σ H s→t σ H Q →
    wpAny (model X.prog X.w) X.A (evalPart e X.env) (fun u s'=>∃ o H',Inv X pins σ H' s'∧IsPart u o∧Q o H') X.xe s
noncomputable def zn8:TO:=fun _ H Q=>Q none H
noncomputable def zn7 (t:TE):TO:=fun σ H Q=>t σ H fun x H1=>∃ i,x=.int i∧Q (some i) H1
section
variable {X:Cx} {e:Expr} {te:TE} {lo hi:Option Expr} {tl th:TO} {pos p2:Pos}
theorem zon:PO X none zn8:=by
  intro pins s σ H Q I h
  rw [evalPart_none]
  exact wpAny_pure ⟨none,H,I,.none,h⟩
theorem zlW (h:PE X e te):PO X (some e) (zn7 te):=by
  intro pins s σ H Q I hw
  rw [evalPart_some]
  refine thn (h pins s σ H _ I hw) fun u s1 ⟨x,H1,I1,r1,q1⟩=>?_
  obtain ⟨i,rfl,q⟩:=q1
  obtain ⟨t,rfl⟩:=r1
  exact ⟨some i,H1,I1,.int i t,q⟩
def SlR (X:Cx) (r:V→Option Int→Option Int→Hp→VK→Prop):Prop :=
  ∀ (pins:List (Addr×Obj)) (s:Shared) (σ:St) (H:Hp) (x:V) (v vl vu:Value) (lo hi:Option Int) (sl:Addr) (Q:VK),Inv X pins σ H s→RelV x v→s.heap.IsSliceOf sl vl vu .none→IsPart vl lo→IsPart vu hi→r x lo hi H Q →
    ∃ T id,typeLookup (.type T) "__getitem__" = pure (some (.builtin id))∧s.TypeIs v T∧wpAny (model X.prog X.w) X.A (getItem v (.ref sl)) (EP X pins σ Q) X.xe s
theorem SlR.or {r r':V→Option Int→Option Int→Hp→VK→Prop} (h:SlR X r) (h':SlR X r'):SlR X (fun x lo hi H Q=>r x lo hi H Q∨r' x lo hi H Q):=by
  intro pins s σ H x v vl vu lo hi sl Q I rx hs pl pu q
  rcases q with q | q
  · exact h pins s σ H x v vl vu lo hi sl Q I rx hs pl pu q
  · exact h' pins s σ H x v vl vu lo hi sl Q I rx hs pl pu q
noncomputable def tSl (r:V→Option Int→Option Int→Hp→VK→Prop) (te:TE) (tl th:TO):TE:=fun σ H Q=>te σ H fun x H1=>tl σ H1 fun l H2=>th σ H2 fun u H3=>r x l u H3 Q
theorem zkP {r:V→Option Int→Option Int→Hp→VK→Prop} (hr:SlR X r) (he:PE X e te) (hl:PO X lo tl) (hu:PO X hi th):PE X (.Subscript e (.Slice lo hi none p2) pos) (tSl r te tl th):=by
  intro pins s σ H Q I h
  refine Subscript_ (thn (he pins s σ H _ I h) fun v s1 ⟨x,H1,I1,r1,q1⟩=>?_)
  refine wpAny_Slice (thn (hl pins s1 σ H1 _ I1 q1) fun vl s2 ⟨l,H2,I2,pl,q2⟩=>thn (hu pins s2 σ H2 _ I2 q2) fun vu s3 ⟨u,H3,I3,pu,q3⟩=>?_)
  rw [evalPart_none]
  refine wpAny_pure ?_
  have I4:Inv X pins σ H3 { s3 with heap:=s3.heap.push { cls:=.type "slice",data:=.fields #[vl,vu,.none] } }:=I3.kept (t':=s3.toks) fun b ob q=>Heap.get?_push_of_some _ q
  obtain ⟨T,id,hT,ht,hg⟩:=hr pins { s3 with heap:=s3.heap.push { cls:=.type "slice",data:=.fields #[vl,vu,.none] } } σ H3 x v vl vu l u s3.heap.objs.size Q I4 r1 (Heap.IsSliceOf.new ..) pl pu q3
  show wpAny (model X.prog X.w) X.A (subscriptTail e (.Slice lo hi none p2) v (.ref s3.heap.objs.size)) (EP X pins σ Q) X.xe { s3 with heap:=s3.heap.push { cls:=.type "slice",data:=.fields #[vl,vu,.none] } }
  exact tail_any (ops:=[.ref s3.heap.objs.size,v]) ht hT hg (by with_unfolding_all rfl)
noncomputable def zlE (xs:List V) (lo hi:Option Int):List V:=(xs.drop (HT.sIx xs.length 0 lo)).take (HT.sIx xs.length xs.length hi-HT.sIx xs.length 0 lo)
theorem zha (xs:List V) (lo hi:Option Int):(zlE xs lo hi).length≤xs.length:=by
  unfold zlE
  rw [List.length_take,List.length_drop]
  lia
def ztD (K:PySem.W.Frag):V→Option Int→Option Int→Hp→VK→Prop:=fun x lo hi H Q=>∃ a xs,x=.ref a∧SqT K H a xs ∧
  ¬ (HT.sIx xs.length 0 lo=0∧HT.sIx xs.length xs.length hi=xs.length)∧∀ p,H p=none→Q (.ref p) (upd H p (.tup (zlE xs lo hi)))
theorem zpm:SlR X (ztD X.K):=by
  intro pins s σ H x v vl vu lo hi sl Q I rx hs pl pu h
  obtain ⟨a,xs,rfl,hx,hw,q⟩:=h
  cases rx
  obtain ⟨its,r,ht,hz⟩:=I.tuple hx
  have hlen:its.toArray.size=xs.length:=by rw [List.size_toArray];exact r.length.symm
  refine ⟨"tuple",_,PyProof.Rows.slot_tuple_getitem.lookup,ht.typeIs,?_⟩
  refine HT.getItem_tuple_cut ht hs pl pu (by rw [hlen];exact hw) ?_ (by rw [hlen];exact hz)
  rw [hlen]
  refine ⟨.ref s.heap.objs.size,_,I.laid (t':=s.toks) (o:=.tup (zlE xs lo hi)) (fun b ob q=>Heap.get?_push_of_some _ q) (Nat.le_refl _) ?_,rfl,q _ (I.hok.fresh (Nat.le_refl _))⟩
  exact ⟨Nat.le_trans (zha xs lo hi) hz,_,(r.drop (HT.sIx xs.length 0 lo)).take (HT.sIx xs.length xs.length hi-HT.sIx xs.length 0 lo),IsTup.new _ _⟩
noncomputable def zrB (K:PySem.W.Frag):R2:=fun x y H Q=>∃ a b xs ys,x=.ref a∧y=.ref b∧SqT K H a xs∧SqT K H b ys∧xs≠[]∧xs.length+ys.length≤sizeLine ∧
  (ys=[]→Q (.ref a) H)∧(ys≠[]→∀ p,H p=none→Q (.ref p) (upd H p (.tup (xs++ys))))
theorem Vals.nil_iff {xs:List V} {us:List Value} (r:Vals xs us):us=[]↔xs=[]:=by
  cases r with
  | nil=>simp
  | cons _ _=>simp
theorem zov:OpR X (binaryOp .Add) (zrB X.K):=by
  intro pins s σ H x y v u Q I rx ry h
  obtain ⟨a,b,xs,ys,rfl,rfl,ha,hb,hx,hz,q1,q2⟩:=h
  cases rx
  cases ry
  obtain ⟨its,r1,p1,_⟩:=I.tuple ha
  obtain ⟨its2,r2,p2,_⟩:=I.tuple hb
  refine HT.cat_tup p1 p2 (fun z=>hx (r1.nil_iff.mp z)) (fun z=>⟨.ref a,H,I,rfl,q1 (r2.nil_iff.mp z)⟩) (fun z=>?_) (by rw [←r1.length,←r2.length];exact hz)
  refine ⟨.ref s.heap.objs.size,_,I.laid (t':=s.toks) (o:=.tup (xs++ys)) (fun b ob q=>Heap.get?_push_of_some _ q) (Nat.le_refl _) ?_,rfl,q2 (fun w=>z (r2.nil_iff.mpr w)) _ (I.hok.fresh (Nat.le_refl _))⟩
  exact ⟨by rw [List.length_append];exact hz,_,r1.append r2,IsTup.new _ _⟩
end
end L2
namespace L2
open PySem PySem.Spec PyProof.Rows
noncomputable def ixN (n:Nat) (i:Int):Option Nat:=if 0≤i then (if i < n then some i.toNat else none) else if -(n:Int)≤i then some (i+n).toNat else none
noncomputable def atI {α:Type} (xs:List α) (i:Int):Option α:=(ixN xs.length i).bind fun j=>xs[j]?
theorem ixN_seq {n:Nat} {i:Int} {j:Nat} (h:ixN n i=some j):seqIndex? i n=some j∧j < n∧-(n:Int)≤i∧i < n:=by
  unfold ixN at h
  by_cases h0:0≤i
  · rw [if_pos h0] at h
    by_cases h1:i < n
    · rw [if_pos h1] at h
      have e:i.toNat=j:=Option.some.inj h
      exact ⟨by rw [seqIndex_of h0 h1,e],by lia,by lia,h1⟩
    · rw [if_neg h1] at h;cases h
  · rw [if_neg h0] at h
    by_cases h1:-(n:Int)≤i
    · rw [if_pos h1] at h
      have e:(i+n).toNat=j:=Option.some.inj h
      exact ⟨by rw [seqIndex_neg (by lia) h1,e],by lia,h1,by lia⟩
    · rw [if_neg h1] at h;cases h
theorem atI_get {α:Type} {xs:List α} {i:Int} {v:α} (h:atI xs i=some v):∃ j,seqIndex? i xs.length=some j∧xs[j]?=some v∧j < xs.length∧-(xs.length:Int)≤i∧i < xs.length:=by
  unfold atI at h
  cases e:ixN xs.length i with
  | none=>rw [e] at h;cases h
  | some j =>
    rw [e] at h
    obtain ⟨h1,h2,h3,h4⟩:=ixN_seq e
    exact ⟨j,h1,h,h2,h3,h4⟩
def PlainIx (b:Expr):Prop:=∀ o i,subscripted b false o i=operate [o,i] (getItem o i)
def IxR (X:Cx) (r:R2):Prop :=
  ∀ (value slice:Expr) (pins:List (Addr×Obj)) (s:Shared) (σ:St) (H:Hp) (x y:V) (v u:Value) (Q:VK),Inv X pins σ H s→RelV x v→RelV y u→r x y H Q →
    subscripted slice false v u=operate [v,u] (getItem v u)→wpAny (model X.prog X.w) X.A (subscriptTail value slice v u) (EP X pins σ Q) X.xe s
def MtR (X:Cx) (id:String) (r:V→List V→Hp→VK→Prop):Prop :=
  ∀ (pins:List (Addr×Obj)) (s:Shared) (σ:St) (H:Hp) (x:V) (xs:List V) (v:Value) (us:List Value) (Q:VK),Inv X pins σ H s→RelV x v→Vals xs us→r x xs H Q →
    wpAny (model X.prog X.w) X.A (call (.builtin id) (v :: us)) (EP X pins σ Q) X.xe s
section
variable {X:Cx} {a b:Expr} {ta tb:TE} {pos:Pos}
theorem IxR.or {r r':R2} (h:IxR X r) (h':IxR X r'):IxR X (fun x y H Q=>r x y H Q∨r' x y H Q):=by
  intro value slice pins s σ H x y v u Q I rx ry q hs
  rcases q with q | q
  · exact h value slice pins s σ H x y v u Q I rx ry q hs
  · exact h' value slice pins s σ H x y v u Q I rx ry q hs
theorem MtR.or {id:String} {r r':V→List V→Hp→VK→Prop} (h:MtR X id r) (h':MtR X id r'):MtR X id (fun x xs H Q=>r x xs H Q∨r' x xs H Q):=by
  intro pins s σ H x xs v us Q I rx rs q
  rcases q with q | q
  · exact h pins s σ H x xs v us Q I rx rs q
  · exact h' pins s σ H x xs v us Q I rx rs q
theorem pe_ix {r:R2} (hr:IxR X r) (ha:PE X a ta) (hb:PE X b tb) (hs:PlainIx b):PE X (.Subscript a b pos) (tOp r ta tb):=by
  intro pins s σ H Q I h
  exact Subscript_ (binT ha hb I h fun v u s2 x y H2 I2 rx ry q=>hr a b pins s2 σ H2 x y v u Q I2 rx ry q (hs _ _))
noncomputable def rIxL (K:PySem.W.Frag):R2:=fun x y H Q=>∃ p xs i v,x=.ref p∧y=.int i∧SqL K H p xs∧atI xs i=some v∧Q v H
noncomputable def zsZ (K:PySem.W.Frag):R2:=fun x y H Q=>∃ p xs i v,x=.ref p∧y=.int i∧SqT K H p xs∧atI xs i=some v∧Q v H
noncomputable def zs0:R2:=fun x y H Q=>∃ z i c,x=.str z∧y=.int i∧z.length≤sizeLine∧atI z.cps.toList i=some c∧Q (.str ⟨#[c]⟩) H
theorem ix_list:IxR X (rIxL X.K):=by
  intro value slice pins s σ H x y v u Q I rx ry h hs
  obtain ⟨p,xs,i,z,rfl,rfl,hq,he,q⟩:=h
  cases rx
  obtain ⟨t,rfl⟩:=ry
  obtain ⟨its,r,pl,hz⟩:=I.list hq
  obtain ⟨j,h1,h2,h3,h4,h5⟩:=atI_get he
  obtain ⟨w,ew,rw'⟩:=r.get h2
  have hl:=r.length
  have hn:=line63
  have fin:EP X pins σ Q w s:=⟨z,H,I,rw',q⟩
  by_cases h0:0≤i
  · have hj:i.toNat=j:=by
      rw [seqIndex_of h0 h5] at h1
      exact Option.some.inj h1
    exact item_listR pl.isList h0 (by lia) (by rw [hj];simpa using ew) fin hs
  · have hj:(i+(its.toArray.size:Int)).toNat=j:=by
      rw [seqIndex_neg (by lia) h4] at h1
      rw [List.size_toArray,←hl]
      exact Option.some.inj h1
    exact subscriptTail_builtinR (x:=w) pl.isList.typeIs slot_list_getitem.lookup
      (wpAny_getItem_list_neg (Q:=fun r s'=>r=w∧EP X pins σ Q r s') pl.isList (by lia) (by rw [List.size_toArray]<;>lia) (by lia) (by rw [hj];simpa using ew) ⟨rfl,fin⟩) hs
theorem zpU:IxR X (zsZ X.K):=by
  intro value slice pins s σ H x y v u Q I rx ry h hs
  obtain ⟨p,xs,i,z,rfl,rfl,hq,he,q⟩:=h
  cases rx
  obtain ⟨t,rfl⟩:=ry
  obtain ⟨its,r,pl,hz⟩:=I.tuple hq
  obtain ⟨j,h1,h2,h3,h4,h5⟩:=atI_get he
  obtain ⟨w,ew,rw'⟩:=r.get h2
  have hl:=r.length
  have hn:=line63
  have fin:EP X pins σ Q w s:=⟨z,H,I,rw',q⟩
  exact subscriptTail_builtinR (x:=w) pl.typeIs slot_tuple_getitem.lookup
    (getItem_tuple (j:=j) (Q:=fun r s'=>r=w∧EP X pins σ Q r s') pl (by lia) (by lia) (by rw [List.size_toArray,←hl];exact h1) (by simpa using ew) ⟨rfl,fin⟩) hs
theorem zkS:IxR X zs0:=by
  intro value slice pins s σ H x y v u Q I rx ry h hs
  obtain ⟨z,i,c,rfl,rfl,hz,he,q⟩:=h
  obtain ⟨t,rfl⟩:=rx
  obtain ⟨t',rfl⟩:=ry
  obtain ⟨j,h1,h2,h3,h4,h5⟩:=atI_get he
  have hl:z.cps.toList.length=z.length:=by simp [Str.length]
  rw [hl] at h1 h4 h5
  have hn:=line63
  exact tail_any (typeIs_str s z t) slot_str_getitem.lookup (getItem_str (c:=c) (by
    have e1:decide (i < -(2 ^ 63:Int))=false:=decide_eq_false (by lia)
    have e2:decide (i≥2 ^ 63)=false:=decide_eq_false (by lia)
    rw [e1,e2,Bool.or_false]) (by rw [h1];simpa using h2) ⟨.str ⟨#[c]⟩,H,I.tok _,⟨_,rfl⟩,q⟩) hs
noncomputable def rIx (K:PySem.W.Frag):R2:=fun x y H Q=>rIxL K x y H Q∨zsZ K x y H Q∨zs0 x y H Q
theorem zpV:IxR X (rIx X.K):=ix_list.or (zpU.or zkS)
theorem ziF (lo hi:Option Int) (n:Nat):(sliceBounds lo hi none n).1=((HT.sIx n 0 lo:Nat):Int)∧(sliceBounds lo hi none n).2.1=((HT.sIx n n hi:Nat):Int)∧(sliceBounds lo hi none n).2.2=1:=by
  refine ⟨?_,?_,rfl⟩
  · cases lo with
    | none=>simp [sliceBounds,HT.sIx]
    | some i =>
      simp only [sliceBounds,HT.sIx,Option.getD_none,show (1:Int) > 0 by decide,if_true]
      by_cases h:i < 0
      · simp only [h,if_true]<;>lia
      · simp only [h,if_false]<;>lia
  · cases hi with
    | none=>simp [sliceBounds,HT.sIx]
    | some i =>
      simp only [sliceBounds,HT.sIx,Option.getD_none,show (1:Int) > 0 by decide,if_true]
      by_cases h:i < 0
      · simp only [h,if_true]<;>lia
      · simp only [h,if_false]<;>lia
theorem zhR (its:List Value) (lo hi:Option Int):slicePick its.toArray lo hi none=((its.drop (HT.sIx its.length 0 lo)).take (HT.sIx its.length its.length hi-HT.sIx its.length 0 lo)).toArray:=by
  obtain ⟨h1,h2,h3⟩:=ziF lo hi its.toArray.size
  unfold slicePick
  rw [h1,h2,h3]
  simp only [sliceRange_one,pick_run,List.size_toArray]<;>rfl
def ztF (K:PySem.W.Frag):V→Option Int→Option Int→Hp→VK→Prop:=fun x lo hi H Q=>∃ a xs,x=.ref a∧SqL K H a xs∧∀ p,H p=none→Q (.ref p) (upd H p (.lst (zlE xs lo hi)))
theorem zof:SlR X (ztF X.K):=by
  intro pins s σ H x v vl vu lo hi sl Q I rx hs pl pu h
  obtain ⟨a,xs,rfl,hx,q⟩:=h
  cases rx
  obtain ⟨its,r,ht,hz⟩:=I.list hx
  have hlen:=r.length
  refine ⟨"list",_,slot_list_getitem.lookup,ht.isList.typeIs,?_⟩
  refine wpAny_getItem_list_slice ht.isList hs pl pu .none (by simp) ?_ (by rw [List.size_toArray]<;>lia)
  rw [zhR,←hlen]
  refine ⟨.ref s.heap.objs.size,_,I.laid (t':=s.toks) (o:=.lst (zlE xs lo hi)) (fun b ob q=>Heap.get?_push_of_some _ q) (Nat.le_refl _) ?_,rfl,q _ (I.hok.fresh (Nat.le_refl _))⟩
  exact ⟨Nat.le_trans (zha xs lo hi) hz,_,0,(r.drop (HT.sIx xs.length 0 lo)).take (HT.sIx xs.length xs.length hi-HT.sIx xs.length 0 lo),Heap.get?_push_size _ rfl⟩
theorem CallR.or {f:Value} {r r':List V→Hp→VK→Prop} (h:CallR X f r) (h':CallR X f r'):CallR X f (fun xs H Q=>r xs H Q∨r' xs H Q):=by
  intro pins s σ H xs us Q I rs q
  rcases q with q | q
  · exact h pins s σ H xs us Q I rs q
  · exact h' pins s σ H xs us Q I rs q
theorem zjj:CallR X (.type "list") (fun xs H Q=>∃ p ys,xs=[.ref p]∧(SqL X.K H p ys∨SqT X.K H p ys)∧∀ l,H l=none→Q (.ref l) (upd H l (.lst ys))):=by
  intro pins s σ H xs us Q I r h
  obtain ⟨p,ys,rfl,hq,q⟩:=h
  obtain ⟨u,rfl,rx⟩:=vals1 r
  cases rx
  have fin:∀ (its:List Value),Vals ys its→ys.length≤sizeLine→∀ (h':Heap) (c':Nat),(∀ b o',s.heap.get? b=some o'→h'.get? b=some o') →
      h'.get? s.heap.objs.size=some { cls:=.type "list",dict:=none,data:=.seq its.toArray c',slots:=#[] }→EP X pins σ Q (.ref s.heap.objs.size) { s with heap:=h' }:=fun its r' hz h' c' kp e =>
    ⟨.ref s.heap.objs.size,_,I.laid (t':=s.toks) kp (Nat.le_refl _) (show ObjOk X.prog X.w _ h' _ (.lst ys) from ⟨hz,its,c',r',e⟩),rfl,q _ (I.hok.fresh (Nat.le_refl _))⟩
  rcases hq with hq | hq
  · obtain ⟨its,r',pl,hz⟩:=I.list hq
    have hlen:=r'.length
    obtain ⟨o,ho,hc,n,hd⟩:=pl.isList
    exact call_list_seq p (.inl rfl) ho hc hd (fun h' c' kp e=>fin its r' hz h' c' kp e) (by simp only [List.size_toArray]<;>lia)
  · obtain ⟨its,r',pl,hz⟩:=I.tuple hq
    have hlen:=r'.length
    obtain ⟨o,ho,hc,n,hd⟩:=pl
    exact call_list_seq p (.inr rfl) ho hc hd (fun h' c' kp e=>fin its r' hz h' c' kp e) (by simp only [List.size_toArray]<;>lia)
theorem ziw:CallR X (.type "tuple") (fun xs H Q=>∃ p ys,xs=[.ref p]∧((SqL X.K H p ys∧∀ l,H l=none→Q (.ref l) (upd H l (.tup ys)))∨(SqT X.K H p ys∧Q (.ref p) H))):=by
  intro pins s σ H xs us Q I r h
  obtain ⟨p,ys,rfl,h⟩:=h
  obtain ⟨u,rfl,rx⟩:=vals1 r
  cases rx
  rcases h with ⟨hq,q⟩ | ⟨hq,q⟩
  · obtain ⟨its,r',pl,hz⟩:=I.list hq
    have hlen:=r'.length
    refine call_tuple_list pl.isList (fun h' kp=>?_) (by simp only [List.size_toArray]<;>lia)
    have I1:Inv X pins σ H { s with heap:=h' }:=I.kept (t':=s.toks) kp
    have I2:Inv X pins σ (upd H h'.objs.size (.tup ys)) { s with heap:=h'.push { cls:=.type "tuple",data:=.seq its.toArray } } :=
      I1.laid (t':=s.toks) (fun b o e=>Heap.get?_push_of_some _ e) (Nat.le_refl _) (show ObjOk X.prog X.w _ _ _ (.tup ys) from ⟨hz,its,r',IsTup.new _ _⟩)
    exact ⟨.ref h'.objs.size,_,I2,rfl,q _ (I1.hok.fresh (Nat.le_refl _))⟩
  · obtain ⟨its,r',pl,hz⟩:=I.tuple hq
    exact call_tuple_same pl ⟨.ref p,H,I,rfl,q⟩
def tyV (K:PySem.W.Frag) (T:String) (x:V) (H:Hp):Prop:=match x with
  | .str _=>T = "str"
  | .int _=>T = "int"
  | .ref p=>(T = "list" ∧ ∃ xs,SqL K H p xs)∨(T = "tuple" ∧ ∃ o,K.lookup p=some o∧o.cls=.type "tuple" ∧ o.dict=none) ∨
      (T = "dict" ∧ ((∃ kvs,H p=some (.dK kvs))∨∃ kvs,H p=some (.dT kvs)))∨(T = "set" ∧ ∃ S n,H p=some (.set S n))
  | _=>False
theorem zpk {pins : List (Addr × Obj)} {σ : St} {H : Hp} {s : Shared} {T : String} {x : V} {v : Value} (I : Inv X pins σ H s) (r : RelV x v) (ty : tyV X.K T x H) :
    s.TypeIs v T∧∀ a,v=.ref a→∃ ob,s.heap.get? a=some ob∧ob.dict=none:=by
  cases x with
  | str z =>
    obtain ⟨t,rfl⟩:=r
    cases (show T = "str" from ty)
    exact ⟨typeIs_str s z t,fun _ e=>nomatch e⟩
  | int i =>
    obtain ⟨t,rfl⟩:=r
    cases (show T = "int" from ty)
    exact ⟨typeIs_int s i t,fun _ e=>nomatch e⟩
  | ref p =>
    cases r
    rcases ty with ⟨rfl,xs,hq⟩ | ⟨rfl,o,hk,hc,hd⟩ | ⟨rfl,hk⟩ | ⟨rfl,S,n,hk⟩
    · obtain ⟨its,_,pl,_⟩:=I.list hq
      refine ⟨pl.isList.typeIs,fun a e=>?_⟩
      cases e
      obtain ⟨o,n,e,c,hd,_⟩:=pl
      exact ⟨o,e,hd⟩
    · refine ⟨⟨o,I.kIn p o hk,hc⟩,fun a e=>?_⟩
      cases e
      exact ⟨o,I.kIn _ o hk,hd⟩
    · have z:∃ o,s.heap.get? p=some o∧o.ExactDict:=by
        rcases hk with ⟨kvs,hk⟩ | ⟨kvs,hk⟩
        · obtain ⟨_,_,_,_,o,_,_,e,ex,_⟩:=I.hok p _ hk
          exact ⟨o,e,ex⟩
        · obtain ⟨_,_,_,_,o,_,_,e,ex,_⟩:=I.hok p _ hk
          exact ⟨o,e,ex⟩
      obtain ⟨o,e,ex⟩:=z
      refine ⟨⟨o,e,ex.1⟩,fun a e2=>?_⟩
      cases e2
      exact ⟨o,e,ex.2.1⟩
    · obtain ⟨o,_,_,_,e,ex,_⟩:=I.hok p _ hk
      refine ⟨⟨o,e,ex.1⟩,fun a e2=>?_⟩
      cases e2
      exact ⟨o,e,ex.2.1⟩
  | _=>exact False.elim ty
noncomputable def tBM (K:PySem.W.Frag) (T:String) (r:V→List V→Hp→VK→Prop) (to:TE) (t:TA):TE:=fun σ H Q=>to σ H fun x H1=>tyV K T x H1∧t σ H1 fun xs H2=>r x xs H2 Q
variable {o e:Expr} {es:List Expr} {to:TE} {t:TA} {name:Str} {apos cpos:Pos} {T id:String} {r:V→List V→Hp→VK→Prop}
theorem zlX (pa:PlainAttrs T) (slot:Slot T name id) (hty:typeOf (.builtin id)=pure (.type "method_descriptor")) (hm:MtR X id r) (ho:PE X o to) (ha:PA X (e :: es) t)
    (hbase:attributeBase o name X.env (eval o X.env)=eval o X.env:=by rfl)
    (hfew:((backTo cpos (starEach (e :: es) X.env)).all (fun x=>!x.1)&&(backToKw cpos (keywordEach [] X.env)).all (fun x=>x.1.isSome)
      && decide ((e :: es).length+([]:List Keyword).length+(if ([]:List Keyword).isEmpty then 0 else 1) < 30))=true:=by rfl)
    (hline:(apos.endLine==cpos.line)=true:=by rfl) (hs:starEach (e :: es) X.env=(false,eval e X.env) :: starEach es X.env:=by rfl) (hplain:(backTo cpos (starEach es X.env)).any (·.1)=false:=by rfl) :
    PE X (.Call (.Attribute o name apos) (e :: es) [] cpos) (tBM X.K T r to t):=by
  intro pins s σ H Q I h
  refine wpAny_Call_method_late hbase hfew hline rfl (thn (ho pins s σ H _ I h) fun v s1 ⟨x,H1,I1,r1,ty,q1⟩=>?_)
  obtain ⟨h1,h2⟩:=zpk I1 r1 ty
  refine ⟨T,id,pa,slot,hty,h1,h2,?_⟩
  have hA:=ha cpos pins s1 σ H1 _ I1 q1
  rw [hs] at hA ⊢
  refine Calls.callWith_builtin (by show (false || (backTo cpos (starEach es X.env)).any (·.1))=false;rw [hplain]<;>rfl) (Calls.evalArgs_plain ?_)
  exact thn hA fun us s2 ⟨vs,H2,I2,r2,q2⟩=>hm pins s2 σ H2 x vs v us Q I2 r1 r2 q2
/- xs.append(e),list.index on a module's tuple .. are MtR facts of 06m -/
end
end L2
namespace L2
open PySem PySem.Spec PyProof.Rows
def MtM (X:Cx) (id:String) (r:V→List V→Hp→VK→Prop):Prop :=
  ∀ (pins:List (Addr×Obj)) (s:Shared) (σ:St) (H:Hp) (x:V) (xs:List V) (v:Value) (us:List Value) (Q:VK),Inv X pins σ H s→RelV x v→Vals xs us→r x xs H Q →
    wpAny (model X.prog X.w) X.A (call (.builtin id) (v :: us)) (EP X pins σ Q) X.xe s
theorem Vals.one:∀ {x:V} {us:List Value},Vals [x] us→∃ u,us=[u]∧RelV x u
  | _,_,.cons r .nil=>⟨_,rfl,r⟩
theorem Vals.zero:∀ {us:List Value},Vals [] us→us=[]
  | _,.nil=>rfl
theorem Vals.reverse {xs:List V} {us:List Value} (h:Vals xs us):Vals xs.reverse us.reverse:=by
  induction h with
  | nil=>exact .nil
  | cons r t ih=>rw [List.reverse_cons,List.reverse_cons];exact Vals.append ih (.cons r .nil)
theorem Vals.rep {xs:List V} {us:List Value} (h:Vals xs us):∀ k:Nat,Vals (List.replicate k xs).flatten (List.replicate k us).flatten
  | 0=>.nil
  | k+1=>by
    rw [List.replicate_succ,List.replicate_succ,List.flatten_cons,List.flatten_cons]
    exact Vals.append h (Vals.rep h k)
theorem foldl_rep (its:List Value):∀ (k:Nat) (acc:List Value),
    List.foldl (fun x1 x2=>x1++x2) acc.toArray (List.replicate k its.toArray)=(acc++(List.replicate k its).flatten).toArray
  | 0,acc=>by simp
  | k+1,acc=>by
    have e:acc.toArray++its.toArray=(acc++its).toArray:=by simp
    have e2:(acc++its)++(List.replicate k its).flatten=acc++(List.replicate (k+1) its).flatten:=by
      rw [List.replicate_succ,List.flatten_cons,List.append_assoc]
    rw [←e2,←foldl_rep its k (acc++its),←e,List.replicate_succ,List.foldl_cons]
section
variable {X:Cx} {pins:List (Addr×Obj)} {σ:St} {H:Hp} {s:Shared} {l b:Addr} {xs ys zs:List V}
theorem Inv.lset {its its':List Value} {n:Nat} {f:Array Value→Array Value} {t':Nat} (I:Inv X pins σ H s) (hH:H l=some (.lst xs))
    (e:s.heap.get? l=some { cls:=.type "list",data:=.seq its.toArray n }) (hf:f its.toArray=its'.toArray) (hv:Vals ys its') (hz:ys.length≤sizeLine) :
    Inv X pins σ (upd H l (.lst ys)) { s with heap:=s.heap.update l (Obj.mapSeq f),toks:=t' }:=by
  have q:=PySem.IsL.update e f
  rw [hf] at q
  refine I.write (x:=l) (e:=l) (by rw [hH];exact trivial) (.inl rfl) (fun b' u hb hu=>(Heap.get?_update_other s.heap (Obj.mapSeq f) (Ne.symm hb)).trans hu) ⟨_,q⟩ ?_
  exact ⟨hz,its',_,hv,q⟩
theorem Inv.lnew {its:List Value} {t':Nat} (I:Inv X pins σ H s) (hv:Vals ys its) (hz:ys.length≤sizeLine) :
    Inv X pins σ (upd H s.heap.objs.size (.lst ys)) { s with heap:=s.heap.push { cls:=.type "list",data:=.seq its.toArray },toks:=t' } :=
  I.laid (fun _ _ q=>Heap.get?_push_of_some _ q) (Nat.le_refl _) ⟨hz,its,0,hv,Heap.get?_push_size _ rfl⟩
theorem Inv.fresh (I:Inv X pins σ H s):H s.heap.objs.size=none:=I.hok.fresh (Nat.le_refl _)
theorem Inv.lstM (I:Inv X pins σ H s) (hH:H l=some (.lst xs)):xs.length≤sizeLine∧∃ (its:List Value) (n:Nat),Vals xs its∧xs.length=its.length∧s.heap.get? l=some { cls:=.type "list",data:=.seq its.toArray n }:=by
  obtain ⟨z,its,n,r,e⟩:=I.hok l _ hH
  exact ⟨z,its,n,r,r.length,e⟩
theorem zkR {n:Nat} (h:n≤sizeLine):Builtin.List.listTooLong n=false:=by
  unfold Builtin.List.listTooLong
  exact decide_eq_false (by lia)
end
section
variable {X:Cx}
def zlV:V→List V→Hp→VK→Prop:=fun x vs H Q=>∃ l xs y,x=.ref l∧vs=[y]∧H l=some (.lst xs)∧xs.length < sizeLine∧Q .non (upd H l (.lst (xs++[y])))
theorem ziT:MtM X "list.append" zlV:=by
  intro pins s σ H x vs v us Q I rx rv h
  obtain ⟨l,xs,y,rfl,rfl,hH,hz,q⟩:=h
  cases rx
  obtain ⟨u,rfl,ru⟩:=rv.one
  obtain ⟨z,its,n,r,hl,e⟩:=I.lstM hH
  refine call_meets F.slot_list_append ⟨_,e,rfl⟩ F.entry_list_append (F.args_list_append_2 _ _) (PySem.list_append l its.toArray n u (by rw [List.size_toArray];lia)) ⟨e,?_⟩
  refine ⟨.non,_,I.lset (its':=its++[u]) hH e (by simp) (r.append (.cons ru .nil)) ?_,rfl,q⟩
  rw [List.length_append,List.length_singleton]
  lia
def zlU:V→List V→Hp→VK→Prop:=fun x vs H Q=>∃ l b xs zs,x=.ref l∧vs=[.ref b]∧H l=some (.lst xs)∧H b=some (.lst zs)∧xs.length+zs.length≤sizeLine∧Q .non (upd H l (.lst (xs++zs)))
theorem zma:MtM X "list.extend" zlU:=by
  intro pins s σ H x vs v us Q I rx rv h
  obtain ⟨l,b,xs,zs,rfl,rfl,hH,hB,hz,q⟩:=h
  cases rx
  obtain ⟨u,rfl,ru⟩:=rv.one
  cases ru
  obtain ⟨z,its,n,r,hl,e⟩:=I.lstM hH
  obtain ⟨z2,its2,n2,r2,hl2,e2⟩:=I.lstM hB
  have hsz:its.toArray.size+its2.toArray.size≤sizeLine:=by rw [List.size_toArray,List.size_toArray];lia
  have hlong:¬ (!its.toArray.isEmpty&&Builtin.List.listTooLong (its.toArray.size+its2.toArray.size))=true:=by
    rw [zkR hsz,Bool.and_false]
    exact Bool.false_ne_true
  refine call_meets F.slot_list_extend ⟨_,e,rfl⟩ F.entry_list_extend (F.args_list_extend_2 _ _)
    (AutoSeq1.list_extend_list_list_0 l its.toArray n b its2.toArray n2 hlong (by rw [List.size_toArray];lia) (by lia)) ⟨e,e2,?_⟩
  refine ⟨.non,_,I.lset (its':=its++its2) hH e (by simp) (r.append r2) ?_,rfl,q⟩
  rw [List.length_append]
  lia
noncomputable def ztH:R2:=fun x y H Q=>∃ l k xs,x=.ref l∧y=.int k∧H l=some (.lst xs)∧-(2 ^ 63)≤k∧k < 2 ^ 63∧xs.length*k.toNat≤sizeLine ∧
  ∀ p,H p=none→Q (.ref p) (upd H p (.lst (List.replicate k.toNat xs).flatten))
theorem len_rep {α:Type} (xs:List α) (k:Nat):(List.replicate k xs).flatten.length=k*xs.length:=by
  induction k with
  | zero=>simp
  | succ k ih=>rw [List.replicate_succ,List.flatten_cons,List.length_append,ih,Nat.succ_mul,Nat.add_comm]
theorem zpA:OpR X (binaryOp .Mult) ztH:=by
  intro pins s σ H x y v u Q I rx ry h
  obtain ⟨l,k,xs,rfl,rfl,hH,h1,h2,hz,q⟩:=h
  cases rx
  obtain ⟨t,rfl⟩:=ry
  obtain ⟨z,its,n,r,hl,e⟩:=I.lstM hH
  have hlen:its.toArray.size*k.toNat≤sizeLine:=by rw [List.size_toArray,←hl];exact hz
  have hcap:¬ its.toArray.size*k.toNat > (2 ^ 63-1) / 8:=by
    have:(sizeLine:Nat)≤(2 ^ 63-1) / 8:=by decide
    lia
  have hfit:¬ (!Builtin.List.listFitsIndex k)=true:=by
    rw [fitsIndex_both h1 h2]
    exact Bool.false_ne_true
  have hlong:¬ Builtin.List.listTooLong (its.toArray.size*k.toNat)=true:=by
    rw [zkR hlen]
    exact Bool.false_ne_true
  have hnew:List.foldl (fun x1 x2=>x1++x2) #[] (List.replicate (if its.toArray.isEmpty=true then 0 else k.toNat) its.toArray)=(List.replicate k.toNat its).flatten.toArray:=by
    have f0:∀ m:Nat,List.foldl (fun x1 x2=>x1++x2) #[] (List.replicate m its.toArray)=(List.replicate m its).flatten.toArray:=fun m=>by
      have:=foldl_rep its m []
      rw [List.nil_append] at this
      exact this
    rw [f0]
    cases its with
    | nil=>simp
    | cons a r'=>rw [if_neg (by simp)]
  refine wpAny_binaryOp_repeat_ref (T := "list") (U := "int") (by decide) ⟨_,e,rfl⟩ (fun s'=>typeIs_int s' k t) noFill_list_mul F.fills_int_mul F.slot_int_rmul repeat_list F.slot_int_index.lookup
    (call_meets F.slot_int_rmul (typeIs_int s k t) F.entry_int_rmul (F.args_int_rmul_2 _ _) (int___rmul___int_list k t l its.toArray n)
      ⟨e,rfl,⟨_,e,rfl⟩,call_meets F.slot_list_mul ⟨_,e,rfl⟩ F.entry_list_mul (F.args_list_mul_2 _ _) (AutoListH.list___mul___list_int_3 l its.toArray n k t hfit hcap hlong) ⟨e,?_⟩⟩)
  rw [hnew]
  exact ⟨.ref _,_,I.lnew (t':=s.toks) (r.rep k.toNat) (by rw [len_rep,Nat.mul_comm];exact hz),rfl,q _ I.fresh⟩
end
section
variable {prog:Program} {w:World} {A:Around} {E:Value→Shared→Prop} {s:Shared}
set_option maxRecDepth 100000 in
end
section
variable {X:Cx}
end
end L2
namespace Att
open PySem PySem.W PySem.Calls PyProof.Rows
theorem ints_of_wellAll {P:Params} {h:Heap}:∀ (ns:List Int) (vs:List Value),WellAll P h vs (ns.map WData.int)→IntsAre vs ns:=by
  intro ns
  induction ns with
  | nil =>
    intro vs w
    rw [List.map_nil] at w
    cases w
    exact .nil
  | cons n ns ih =>
    intro vs w
    rw [List.map_cons] at w
    cases w with
    | cons a b =>
      cases a
      exact .cons _ _ (ih _ b)
theorem script_of {l:OpenLaw} {n:Nat} (hn:l.most=some n) {P:Params} {h:Heap} {args:List WData} {vals:List Value}
    (hpre:l.row.toRowW.claim.pre args=true) (hwl:WellAll P h vals args) :
    ∃ a vs ns,vals=[Value.ref a]∧args=[WData.list (ns.map WData.int)]∧h.get? a=some { cls:=.type "list",data:=.seq vs.toArray }∧IntsAre vs ns∧ns.length≤n:=by
  have hsh:WShape.hasAll [] args [.list .int]=true:=(pre_splitW hpre).1
  have hc:l.pre.holds [] { args:=args }=true:=(pre_splitW hpre).2
  obtain ⟨d,r,rfl,h1,h2⟩:=hasAllW_cons hsh
  obtain rfl:=hasAllW_nil h2
  obtain ⟨xs,rfl,h3⟩:=hasW_list h1
  obtain ⟨ns,rfl⟩:=items_int h3
  have hlen:ns.length≤n:=by
    unfold OpenLaw.pre at hc
    have h4:(WTm.not (.lt (.lit (.int (n:Int))) (.len (.arg 0)))).holds [] { args:=[.list (ns.map .int)] }=true:=by
      have h4:=(holds_andW hc).1
      rw [hn] at h4
      exact h4
    have h5:=condW_of h4 (w_not (w_lt w_lit (w_len_list (w_arg rfl))))
    rw [List.length_map] at h5
    refine Nat.le_of_not_lt fun q=>?_
    have q':(n:Int) < ((ns.length:Nat):Int):=by lia
    first
      | (rw [decide_eq_true q'] at h5;exact absurd h5 (by decide))
      | (simp at h5;lia)
  cases hwl with
  | cons w1 w2 =>
    cases w2
    cases w1 with
    | list ho hall=>exact ⟨_,_,ns,rfl,rfl,ho,ints_of_wellAll ns _ hall,hlen⟩
theorem post_true (l:OpenLaw) (args:List WData):l.row.toRowW.claim.post args (.bool true) args=true :=
  postW_of (r:=l.row.toRowW) (X:=(true==true))
    (show WShape.has [] (.bool true) .bool=true by first | rfl | decide | simp [WShape.has,WShape.arms,WShape.armsAll])
    (show (WTm.eq .res (.lit (.bool true))).value [] { args:=args,res:=some (.bool true),after:=args }=some (.bool (true==true)) from w_eq_bool (w_res rfl) w_lit) rfl
section
variable {prog:Program} {w:World} {A:Around} {E:Value→Shared→Prop} {s:Shared} {K:Frag}
end
end Att
namespace L2
open PySem PySem.Spec PyProof.Rows
theorem vals_ints:∀ {vs:List Value} {ns:List Int},IntsAre vs ns→Vals (ns.map V.int) vs
  | _,_,.nil=>.nil
  | _,_,.cons n t h=>.cons ⟨t,rfl⟩ (vals_ints h)
def Only (H:Hp):Prop:=∀ b,H b=none∨∃ o xs,H b=some (.frz o (.lst xs))
theorem law_call {P : Program} {w : World} {K : PySem.W.Frag} {mg mb : Str → Option Value} {CX : CXT} {k : Nat} {fa a : Addr} {fd : FuncData} {x : Str} {sp : Sp} {s₁ : Shared} {vs : List Value} {ns : List Int}
    (KX:K.In s₁.heap) (hns:s₁.heap.Ns mainGlobals mg) (hb:s₁.heap.Ns builtinsNs mb) (hbb:∀ x:Str,x ≠ "__name__" → mb x=bootBuiltins x) (hlim:s₁.heap.NoLimit) (hg:s₁.gens=#[])
    (ha:s₁.heap.get? a=some { cls:=.type "list",data:=.seq vs.toArray }) (hi:IntsAre vs ns) (hl:ns.length≤sizeLine) (hr:Room k callerA)
    (F:∀ base:Heap,K.In base→base.Ns mainGlobals mg→FnOk P w K mg base CX k fa fd [x] sp) (hbind:∀ (s:Shared) (u:Value),BindsTo s fd ⟨[u],[]⟩ [(x,u)])
    (hsp:∀ H:Hp,Only H→SqL K H a (ns.map V.int)→sp [.ref a] H (fun v _=>v=.bl true) fun _ _ _=>False)
    (hCX:∀ H e s',CX [] H s₁ (fun _ _ _=>False) e s'→False) :
    codeAny (model P w) callerA (.call (.ref fa) ⟨[.ref a],[]⟩) (fun r s'=>r=.ok (.ret (.bool true))∧OldK s₁.heap s'.heap∧s'.os=s₁.os∧AllBare s'.gens) s₁:=by
  have rv:=vals_ints hi
  have lenV:=hi.length
  -- from an abstract heap in which nothing but the script may be tracked
  have core:∀ H:Hp,Only H→SqL K H a (ns.map V.int)→HOk P w H s₁.heap→(∀ b,H b≠none→b=a)→(H a≠none→K.lookup a=none) →
      codeAny (model P w) callerA (.call (.ref fa) ⟨[.ref a],[]⟩) (fun r s'=>r=.ok (.ret (.bool true))∧OldK s₁.heap s'.heap∧s'.os=s₁.os∧AllBare s'.gens) s₁:=by
    intro H hO hS hok hA hK
    have base_of:∀ {b:Addr} {o:Obj},s₁.heap.get? b=some o→H b=none→(hidT s₁.heap H).get? b=some o:=fun e n=>hidT_get e n
    have noA:∀ {b:Addr} {o:Obj} {es:Array DictEntry} {ep:Nat},s₁.heap.get? b=some o→o.data=.dict es ep→H b=none:=fun {b o es ep} e d=>by
      cases q:H b with
      | none=>rfl
      | some u =>
        have e':b=a:=hA b (by rw [q];simp)
        subst e'
        rw [ha] at e;cases e
        have d':Data.seq vs.toArray _=Data.dict es ep:=d
        cases d'
    have nsK:∀ {b:Addr} {m:Str→Option Value},s₁.heap.Ns b m→(hidT s₁.heap H).Ns b m:=fun {b m} ⟨o,es,ep,e,d,r⟩=>⟨o,es,ep,base_of e (noA e d),d,r⟩
    have hKb:K.In (hidT s₁.heap H):=fun b o e=>base_of (KX b o e) (by
      cases q:H b with
      | none=>rfl
      | some u =>
        have e':b=a:=hA b (by rw [q];simp)
        subst e'
        rw [hK (by rw [q];simp)] at e;cases e)
    have hM:Mod K mg (hidT s₁.heap H):=⟨hKb,nsK hns,⟨mb,nsK hb,hbb⟩,let ⟨mc,h1,h2⟩:=hlim;⟨mc,nsK h1,h2⟩⟩
    have e0:Env0 P w K mg (hidT s₁.heap H) callerA [] s₁ H:=⟨rfl,hM,fun b o e=>of_hidT e,Nat.le_of_eq (hidT_size _ _),trivial,fun b hb=>absurd (show b∈([]:List Addr) from hb) (by simp),hok,.of_eq hg⟩
    refine codeAny_mono ((F _ hKb (nsK hns)).run callerA [] s₁ H ⟨[.ref a],[]⟩ [.ref a] [.ref a] _ _ hr e0 (hbind s₁ (.ref a)) (.cons rfl .nil) (hsp H hO hS)) fun r s' h=>?_
    cases r with
    | error e=>exact (hCX H e s' h).elim
    | ok fl =>
      cases fl with
      | next=>exact False.elim h
      | brk=>exact False.elim h
      | cont=>exact False.elim h
      | ret u =>
        obtain ⟨v,H',os,bare,un,hok',r',q⟩:=h
        have q':v=.bl true:=q
        subst q'
        obtain rfl:u=Value.bool true:=r'
        refine ⟨rfl,OldK.of_keep fun b o e=>?_,os,bare⟩
        cases q:H b with
        | none=>exact un.keep b o e q (by intro z;exact absurd (show b∈([]:List Addr) from z) (by simp)) (by simp)
        | some u =>
          rcases hO b with z | ⟨ob,xs,z⟩
          · rw [q] at z;cases z
          · have z2:=un.frzs b ob _ z
            obtain ⟨e1,_⟩:=hok b _ z
            obtain ⟨e2,_⟩:=hok' b _ z2
            rw [e] at e1;cases e1
            exact e2
  cases hk:K.lookup a with
  | some o =>
    -- the script is one of the module's own objects
    have e:=KX a o hk
    rw [ha] at e
    cases e
    refine core (fun _=>none) (fun _=>.inl rfl) (.inr ⟨_,vs.toArray,_,hk,rfl,rfl,rfl,by rw [List.size_toArray,lenV];exact hl,by simpa using rv⟩) (fun b u z=>by have z':(none:Option HO)=some u:=z;cases z') (fun b z=>absurd rfl z) fun z=>absurd rfl z
  | none =>
    refine core (fun b=>if b=a then some (.frz { cls:=.type "list",data:=.seq vs.toArray } (.lst (ns.map V.int))) else none) (fun b=>?_) (.inl (.inr ⟨{ cls:=.type "list",data:=.seq vs.toArray },if_pos rfl⟩)) (fun b u z=>?_) (fun b z=>?_) fun _=>hk
    · by_cases hb:b=a
      · exact .inr ⟨_,_,if_pos hb⟩
      · exact .inl (if_neg hb)
    · by_cases hb:b=a
      · have z':=(if_pos hb).symm.trans z
        cases z'
        subst hb
        exact ⟨ha,by rw [List.length_map];exact hl,vs,_,rv,ha⟩
      · have z':=(if_neg hb).symm.trans z
        cases z'
    · by_cases hb:b=a
      · exact hb
      · exact absurd (if_neg hb) z
end L2
namespace L2
open PySem PySem.Spec PyProof.Rows
end L2
/- THE LAST THEOREM (shape;LID,My.* are yours):
   My.Adr: a structure of the addresses that your layer names (classes,functions);My.Txt K t: a structure (Prop) of the equations over K;
   My.txt_mk:{K} {implicit addresses ..} (e1:nsIn K mainGlobals "law" = some (some (.ref f))) (e2:K.lookup f=some ⟨oc,od,.func (fnOf "law" "law" params body scope dV kV doc pm an cdv ct),sl⟩) (e3:codeIn K cdv "law" = true) ..:∃ t,My.Txt K t
set_option maxRecDepth 100000 in
set_option maxHeartbeats 0 in
(the tactic k_is has no namespace: write k_is) -/
namespace L2
open PySem PySem.Spec PyProof.Rows
noncomputable def defArgs (s:Stmt):Arguments:=match s with
  | .FunctionDef _ a _ _ _ _ _ _ _ _=>a
  | _=>{ posonlyargs:=[],args:=[],vararg:=none,kwonlyargs:=[],kw_defaults:=[],kwarg:=none,defaults:=[] }
noncomputable def defBody (s:Stmt):List Stmt:=match s with
  | .FunctionDef _ _ b _ _ _ _ _ _ _=>b
  | _=>[]
noncomputable def defScope (s:Stmt):Scope:=match s with
  | .FunctionDef _ _ _ _ _ _ sc _ _ _=>sc
  | _=>{ kind:=.function,names:=[],isGenerator:=false,isCoroutine:=false }
noncomputable abbrev CX0:CXT:=fun _ _ _ _ _ _=>False
noncomputable abbrev E0:XK:=fun _ _ _=>False
theorem pass0 {X:Cx}:Passes CX0 X E0:=fun _ _ _ _ _ _ _ h=>h.elim
structure Fun (K:PySem.W.Frag) (x qual:Str) (st:Stmt) (f:Addr) (fd:FuncData):Prop where
  ex:∃ (oc:Value) (od:Option Addr) (kV doc pm:Value) (an:Option Addr) (cdv ct:Value) (osl:Array (Option Value)),
    fd=PySem.W.fnOf x qual (defArgs st) (defBody st) (defScope st) .none kV doc pm an cdv ct∧K.lookup f=some ⟨oc,od,.func fd,osl⟩∧PySem.W.codeIn K cdv qual=true
  kp:PySem.W.keepIn K (.ref f)=true
section
variable {P:Program} {w:World} {K:PySem.W.Frag} {mg:Str→Option Value} {base:Heap}
theorem Fun.ok {x qual:Str} {st:Stmt} {f:Addr} {fd:FuncData} {N ps:List Str} {k:Nat} {sp:Sp} (F:Fun K x qual st f fd) (S:FnScope N ps (defScope st)) (len:∀ vs H Q E,sp vs H Q E→vs.length=ps.length)
    (hbody:∀ (cdv:Value) (A:Around) (outer:List Env) (s:Shared) (H:Hp) (vs:List V) (Q:VK) (E:XK),Room k (A.deeper (envOfC qual (defScope st) s.heap.objs.size f cdv))→sp vs H Q E →
      ∃ t,PSs (cxOf CX0 P w K mg base N qual (defScope st) f cdv A outer s H E).nox (defBody st) t∧t { nx:=fun _ H'=>Q .non H',rt:=Q } (start N vs) H):FnOk P w K mg base CX0 (k+1) f fd ps sp:=by
  obtain ⟨oc,od,kV,doc,pm,an,cdv,ct,osl,rfl,lk,hcd⟩:=F.ex
  refine zp4 lk hcd S len fun A outer s H vs Q E hr hsp=>?_
  obtain ⟨t,h,q⟩:=hbody cdv A outer s H vs Q E hr hsp
  exact ⟨t,h.nox,q⟩
theorem Fun.binds {x qual:Str} {st:Stmt} {f:Addr} {fd:FuncData} {ps:List Str} (F:Fun K x qual st f fd)
    (h:∀ (kV doc pm:Value) (an:Option Addr) (cdv ct:Value) (us:List Value),us.length=ps.length→bindArgs (PySem.W.fnOf x qual (defArgs st) (defBody st) (defScope st) .none kV doc pm an cdv ct) ⟨us,[]⟩=pure (ps.zip us)):Binds K fd ps []:=by
  obtain ⟨oc,od,kV,doc,pm,an,cdv,ct,osl,rfl,lk,hcd⟩:=F.ex
  exact .all (h kV doc pm an cdv ct)
theorem fun_mk {x qual:Str} {st:Stmt} {f:Addr} {oc:Value} {od an:Option Addr} {osl:Array (Option Value)} {kV doc pm cdv ct:Value} (l:K.lookup f=some ⟨oc,od,.func (PySem.W.fnOf x qual (defArgs st) (defBody st) (defScope st) .none kV doc pm an cdv ct),osl⟩)
    (c:PySem.W.codeIn K cdv qual=true) (k:PySem.W.keepIn K (.ref f)=true):Fun K x qual st f (PySem.W.fnOf x qual (defArgs st) (defBody st) (defScope st) .none kV doc pm an cdv ct):=⟨⟨oc,od,kV,doc,pm,an,cdv,ct,osl,rfl,l,c⟩,k⟩
end
section
variable {X:Cx}
theorem pv (i:Nat) {x:Str} {pos:Pos} (hN:X.N[i]?=some x:=by rfl) (hv:Vis X.env.scope x:=by first | exact Or.inl rfl | exact Or.inr (Or.inl rfl) | exact Or.inr (Or.inr rfl)) (hd:(x==("__debug__" : Str))=false:=by decide)
    (hcd:(x==("__classdict__" : Str))=false:=by decide):PE X (.Name x pos) (tVar i):=pe_var hN hv hd hcd
end
def Same (H H':Hp):Prop:=∀ b o,H b=some o→H' b=some o
theorem Same.refl (H:Hp):Same H H:=fun _ _ h=>h
theorem Same.trans {H H1 H2:Hp} (a:Same H H1) (b:Same H1 H2):Same H H2:=fun c o h=>b c o (a c o h)
theorem Same.free {H H':Hp} (e:Same H H') {l:Addr} (h:H' l=Option.none):H l=Option.none:=by
  cases q:H l with
  | none=>rfl
  | some o =>
    rw [e l o q] at h
    cases h
theorem Same.seq {K:PySem.W.Frag} {H H':Hp} {a:Addr} {xs:List V} (e:Same H H') (h:SqL K H a xs):SqL K H' a xs:=by
  rcases h with (h | ⟨o,h⟩) | h
  · exact .inl (.inl (e _ _ h))
  · exact .inl (.inr ⟨o,e _ _ h⟩)
  · exact .inr h
end L2
set_option genSizeOf true
noncomputable section
namespace Z
inductive D where
 | non
 | bl (b:Bool)
 | int (i:Int)
 | str (cs:List Nat)
 | tup (xs:List D)
 | lst (xs:List D)
 | dct (ks:List (Sum Int (List Nat))) (vs:List D)
inductive Res (α:Type) where
 | ok (a:α)
 | bad
namespace Res
noncomputable def bind {α β:Type} (r:Res α) (f:α→Res β):Res β :=
 match r with
 | ok a=>f a
 | bad=>bad
@[simp] theorem ok_bind {α β:Type} (a:α) (f:α→Res β):(Res.ok a).bind f=f a:=rfl
@[simp] theorem zq4 {α β:Type} (f:α→Res β):(Res.bad:Res α).bind f=bad:=rfl
noncomputable def map {α β:Type} (f:α→β) (r:Res α):Res β :=
 match r with
 | ok a=>ok (f a)
 | bad=>bad
@[simp] theorem ztc {α β:Type} (a:α) (f:α→β):(Res.ok a).map f=ok (f a):=rfl
@[simp] theorem zrX {α β:Type} (f:α→β):(Res.bad:Res α).map f=bad:=rfl
theorem bind_ok {α β:Type} {r:Res α} {f:α→Res β} {b:β} (h:r.bind f=ok b):∃ a,r=ok a∧f a=ok b:=by
 cases r with
 | ok a=>exact ⟨a,rfl,h⟩
 | bad=>cases h
end Res
open Classical in
noncomputable def guard {α:Type} (p:Prop) (r:Res α):Res α:=if p then r else .bad
@[simp] theorem zpf {α:Type} (r:Res α):guard True r=r:=by unfold guard;exact if_pos trivial
theorem zfm {α:Type} {p:Prop} {r:Res α} (h:p):guard p r=r:=by unfold guard;exact if_pos h
theorem zfn {α:Type} {p:Prop} {r:Res α} {a:α} (h:guard p r=.ok a):p∧r=.ok a:=by
 unfold guard at h
 split at h
 ·rename_i q;exact ⟨q,h⟩
 ·cases h
inductive L where
 | val (d:D)
 | own (xs:List D)
 | bor (xs:List D)
 | dic (ks:List (List Int))
 | fdc (ks:List (List Int))
 | idc (ps:List (Int×Int))
noncomputable abbrev Env:=List (Option L)
noncomputable abbrev EF:=Env→Res D
noncomputable abbrev LF:=Env→Res (List D)
noncomputable abbrev TF:=Env→Res Bool
noncomputable abbrev AF:=Env→Res (List D)
inductive Fl where
 | nx (ρ:Env)
 | rt (d:D)
 | bk (ρ:Env)
 | ct (ρ:Env)
noncomputable abbrev SF:=Env→Res Fl
noncomputable abbrev GF:=D→Env→Res Env
noncomputable abbrev line:Nat:=16777216
noncomputable def eC (d:D) (_:Env):Res D:=.ok d
noncomputable def eV (i:Nat) (ρ:Env):Res D:=match ρ[i]? with
 | some (some (.val d))=>.ok d
 | _=>.bad
noncomputable def eW (i:Nat) (ρ:Env):Res D:=match ρ[i]? with
 | some (some (.val d))=>.ok d
 | some (some (.own xs))=>.ok (.lst xs)
 | some (some (.bor xs))=>.ok (.lst xs)
 | _=>.bad
noncomputable def eB (op:D→D→Res D) (a b:EF) (ρ:Env):Res D:=(a ρ).bind fun x=>(b ρ).bind fun y=>op x y
noncomputable def eU (op:D→Res D) (a:EF) (ρ:Env):Res D:=(a ρ).bind op
noncomputable def zmp (a b:EF) (ρ:Env):Res D:=(a ρ).bind fun x=>match x with
 | .bl c=>if c then b ρ else .ok (.bl false)
 | _=>.bad
noncomputable def eOr (a b:EF) (ρ:Env):Res D:=(a ρ).bind fun x=>match x with
 | .bl c=>if c then .ok (.bl true) else b ρ
 | _=>.bad
noncomputable def zq0 (a:EF) (ρ:Env):Res D:=(a ρ).bind fun x=>match x with
 | .bl c=>.ok (.bl !c)
 | _=>.bad
noncomputable def zeS (op op':D→D→Res D) (a b c:EF) (ρ:Env):Res D:=(a ρ).bind fun x=>(b ρ).bind fun y=>(op x y).bind fun z=>match z with
 | .bl k=>if k then (c ρ).bind fun w=>op' y w else .ok (.bl false)
 | _=>.bad
noncomputable def eIf (t:TF) (a b:EF) (ρ:Env):Res D:=(t ρ).bind fun c=>if c then a ρ else b ρ
noncomputable def eL (l:LF) (ρ:Env):Res D:=(l ρ).map D.lst
noncomputable def zav (_:Env):Res (List D):=.ok []
noncomputable def zab (a:EF) (r:AF) (ρ:Env):Res (List D):=(a ρ).bind fun x=>(r ρ).bind fun xs=>.ok (x :: xs)
noncomputable def zbp (as:AF) (ρ:Env):Res (List D):=(as ρ).bind fun xs=>guard (xs.length≤line) (.ok xs)
noncomputable def zd1 (as:AF) (ρ:Env):Res D:=(as ρ).bind fun xs=>guard (xs.length≤line) (.ok (.tup xs))
noncomputable def zar (f:List D→Res D) (as:AF) (ρ:Env):Res D:=(as ρ).bind f
noncomputable def tE (a:EF) (ρ:Env):Res Bool:=(a ρ).bind fun x=>match x with
 | .bl c=>.ok c
 | _=>.bad
noncomputable def tAnd (a b:TF) (ρ:Env):Res Bool:=(a ρ).bind fun c=>if c then b ρ else .ok false
noncomputable def tOr (a b:TF) (ρ:Env):Res Bool:=(a ρ).bind fun c=>if c then .ok true else b ρ
noncomputable def tNot (a:TF) (ρ:Env):Res Bool:=(a ρ).bind fun c=>.ok !c
noncomputable def bits (a:Int):Nat:=if a=0 then 0 else a.natAbs.log2+1
noncomputable def zbh:D→D→Res D
 | .int a,.int b=>.ok (.int (a+b))
 | .str a,.str b=>guard (a.length+b.length≤line) (.ok (.str (a++b)))
 | .tup a,.tup b=>guard (a.length+b.length≤line) (.ok (.tup (a++b)))
 | _,_=>.bad
noncomputable def znf:D→D→Res D
 | .int a,.int b=>.ok (.int (a-b))
 | _,_=>.bad
def zaY (a b:Int):Prop:=((-18446744073709551616 < a∧a < 18446744073709551616)∨(-18446744073709551616 < b∧b < 18446744073709551616)∨(bits a≤16777216∧bits b≤16777216))
noncomputable def zf7:D→D→Res D
 | .int a,.int b=>guard (zaY a b) (.ok (.int (a*b)))
 | _,_=>.bad
def zem (b:Int):Prop:=0 < b∧b < 1809251394333065553493296640760748560207343510400633813116524750123642650624
noncomputable def oDiv:D→D→Res D
 | .int a,.int b=>guard (zem b) (.ok (.int (a / b)))
 | _,_=>.bad
noncomputable def oMod:D→D→Res D
 | .int a,.int b=>guard (0 < b) (.ok (.int (a % b)))
 | _,_=>.bad
noncomputable def ztP:D→D→Res D
 | .int a,.int b=>guard (0≤b) (.ok (.int (a / 2 ^ b.toNat)))
 | _,_=>.bad
noncomputable def ziP:D→D→Res D
 | .int a,.int b=>guard (0≤b∧b≤1000000∧a.natAbs < 2 ^ 64) (.ok (.int (a ^ b.toNat)))
 | _,_=>.bad
noncomputable def zni:D→Res D
 | .int a=>.ok (.int (-a))
 | _=>.bad
noncomputable def ltC:List Nat→List Nat→Bool
 | [],[]=>false
 | [],_ :: _=>true
 | _ :: _,[]=>false
 | a :: as,b :: bs=>if a < b then true else if a=b then ltC as bs else false
noncomputable def oLt:D→D→Res D
 | .int a,.int b=>.ok (.bl (decide (a < b)))
 | _,_=>.bad
noncomputable def oLe:D→D→Res D
 | .int a,.int b=>.ok (.bl (decide (a≤b)))
 | .str a,.str b=>.ok (.bl (!(ltC b a)))
 | _,_=>.bad
noncomputable def oGt:D→D→Res D
 | .int a,.int b=>.ok (.bl (decide (b < a)))
 | _,_=>.bad
noncomputable def oGe:D→D→Res D
 | .int a,.int b=>.ok (.bl (decide (b≤a)))
 | _,_=>.bad
noncomputable def eqS:D→D→Option Bool
 | .non,.non=>some true
 | .bl a,.bl b=>some (a==b)
 | .bl a,.int b=>some ((if a then 1 else 0)==b)
 | .int a,.bl b=>some (a==(if b then 1 else 0))
 | .int a,.int b=>some (a==b)
 | .str a,.str b=>some (a==b)
 | .non,.bl _=>some false
 | .non,.int _=>some false
 | .non,.str _=>some false
 | .bl _,.non=>some false
 | .bl _,.str _=>some false
 | .int _,.non=>some false
 | .int _,.str _=>some false
 | .str _,.non=>some false
 | .str _,.bl _=>some false
 | .str _,.int _=>some false
 | _,_=>none
noncomputable def ze7 (f:D→D→Option Bool):List D→List D→Option Bool
 | [],[]=>some true
 | [],_ :: _=>some false
 | _ :: _,[]=>some false
 | a :: as,b :: bs=>match f a b,ze7 f as bs with
  | some x,some y=>some (x&&y)
  | _,_=>none
noncomputable def zgY:Nat→D→D→Option Bool
 | n+1,.tup a,.tup b=>ze7 (zgY n) a b
 | n+1,.lst a,.lst b=>ze7 (zgY n) a b
 | _,.tup _,.lst _=>some false
 | _,.lst _,.tup _=>some false
 | _,.tup _,.non=>some false
 | _,.tup _,.bl _=>some false
 | _,.tup _,.int _=>some false
 | _,.tup _,.str _=>some false
 | _,.non,.tup _=>some false
 | _,.bl _,.tup _=>some false
 | _,.int _,.tup _=>some false
 | _,.str _,.tup _=>some false
 | _,.lst _,.non=>some false
 | _,.lst _,.bl _=>some false
 | _,.lst _,.int _=>some false
 | _,.lst _,.str _=>some false
 | _,.non,.lst _=>some false
 | _,.bl _,.lst _=>some false
 | _,.int _,.lst _=>some false
 | _,.str _,.lst _=>some false
 | _,x,y=>eqS x y
noncomputable def eqD:D→D→Option Bool:=zgY 6
noncomputable def oEq (a b:D):Res D:=match eqD a b with
 | some x=>.ok (.bl x)
 | none=>.bad
noncomputable def oNe (a b:D):Res D:=match eqD a b with
 | some x=>.ok (.bl !x)
 | none=>.bad
noncomputable def ziR:D→Res D
 | .non=>.ok (.bl true)
 | _=>.ok (.bl false)
noncomputable def ze1:D→Res D
 | .non=>.ok (.bl false)
 | _=>.ok (.bl true)
noncomputable def zdW (x:D):List D→Option Bool
 | []=>some false
 | y :: r=>match eqD y x,zdW x r with
  | some a,some b=>some (a || b)
  | _,_=>none
noncomputable def oIn:D→D→Res D
 | x,.tup ys=>match zdW x ys with
  | some b=>.ok (.bl b)
  | none=>.bad
 | x,.lst ys=>match zdW x ys with
  | some b=>.ok (.bl b)
  | none=>.bad
 | _,_=>.bad
noncomputable def zdL:D→D→Res D
 | x,.tup ys=>match zdW x ys with
  | some b=>.ok (.bl !b)
  | none=>.bad
 | x,.lst ys=>match zdW x ys with
  | some b=>.ok (.bl !b)
  | none=>.bad
 | _,_=>.bad
noncomputable def zdh:D→Res D
 | .str t=>guard (t.length≤line) (.ok (.int t.length))
 | .tup xs=>.ok (.int xs.length)
 | .lst xs=>.ok (.int xs.length)
 | _=>.bad
inductive Ty where
 | bool | int | str | tuple | list | dict
noncomputable def zeK:Ty→D→Bool
 | .bool,.bl _=>true
 | .int,.bl _=>true
 | .int,.int _=>true
 | .str,.str _=>true
 | .tuple,.tup _=>true
 | .list,.lst _=>true
 | .dict,.dct _ _=>true
 | _,_=>false
noncomputable def zfH (t:Ty) (x:D):Res D:=.ok (.bl (zeK t x))
noncomputable def ixZ (n:Nat) (i:Int):Option Nat:=if 0≤i then (if i < n then some i.toNat else none) else if -(n:Int)≤i then some (i+n).toNat else none
noncomputable def oIx:D→D→Res D
 | .tup xs,.int i=>match (ixZ xs.length i).bind fun j=>xs[j]? with
  | some v=>.ok v
  | none=>.bad
 | .lst xs,.int i=>match (ixZ xs.length i).bind fun j=>xs[j]? with
  | some v=>.ok v
  | none=>.bad
 | .str cs,.int i=>guard (cs.length≤line) (match (ixZ cs.length i).bind fun j=>cs[j]? with
  | some c=>.ok (.str [c])
  | none=>.bad)
 | _,_=>.bad
noncomputable def sIx (n d:Nat):Option Int→Nat
 | none=>d
 | some i=>if i < 0 then (i+n).toNat else min i.toNat n
noncomputable def cut {α:Type} (xs:List α) (lo hi:Option Int):List α:=(xs.drop (sIx xs.length 0 lo)).take (sIx xs.length xs.length hi-sIx xs.length 0 lo)
noncomputable abbrev PF:=Env→Res (Option Int)
noncomputable def pNo (_:Env):Res (Option Int):=.ok none
noncomputable def pAt (a:EF) (ρ:Env):Res (Option Int):=(a ρ).bind fun x=>match x with
 | .int i=>.ok (some i)
 | _=>.bad
noncomputable def oSl:D→Option Int→Option Int→Res D
 | .str cs,lo,hi=>guard (cs.length≤line) (.ok (.str (cut cs lo hi)))
 | .tup xs,lo,hi=>.ok (.tup (cut xs lo hi))
 | _,_,_=>.bad
noncomputable def eSl (a:EF) (lo hi:PF) (ρ:Env):Res D:=(a ρ).bind fun x=>(lo ρ).bind fun l=>(hi ρ).bind fun h=>oSl x l h
noncomputable def lSl (a:EF) (lo hi:PF) (ρ:Env):Res (List D):=(a ρ).bind fun x=>(lo ρ).bind fun l=>(hi ρ).bind fun h=>match x with
 | .lst xs=>.ok (cut xs l h)
 | _=>.bad
noncomputable def zme (a b:EF) (ρ:Env):Res (List D):=(a ρ).bind fun x=>(b ρ).bind fun y=>match x,y with
 | .lst xs,.lst ys=>guard (xs.length+ys.length≤line) (.ok (xs++ys))
 | _,_=>.bad
noncomputable def allB:List D→Option Bool
 | []=>some true
 | .bl b :: r=>(allB r).map (b&&·)
 | _ :: _=>none
noncomputable def zmU:D→Res D
 | .lst xs=>match allB xs with
  | some b=>.ok (.bl b)
  | none=>.bad
 | _=>.bad
noncomputable def zh8:D→Res (List D)
 | .tup xs=>.ok xs
 | .lst xs=>.ok xs
 | .str cs=>.ok (cs.map fun c=>.str [c])
 | _=>.bad
noncomputable def zfK (a:EF) (ρ:Env):Res (List D):=(a ρ).bind zh8
noncomputable def zints (lo:Int) (n:Nat):List D:=(List.range n).map fun i=>D.int (lo+(i:Nat))
noncomputable def iRng1 (a:EF) (ρ:Env):Res (List D):=(a ρ).bind fun x=>match x with
 | .int j=>.ok (zints 0 j.toNat)
 | _=>.bad
noncomputable def iRng2 (a b:EF) (ρ:Env):Res (List D):=(a ρ).bind fun x=>(b ρ).bind fun y=>match x,y with
 | .int i,.int j=>.ok (zints i (j-i).toNat)
 | _,_=>.bad
noncomputable def gName (i:Nat) (d:D) (ρ:Env):Res Env:=.ok (ρ.set i (some (.val d)))
noncomputable def zeE:List Nat→List D→Env→Res Env
 | [],[],ρ=>.ok ρ
 | i :: is,d :: ds,ρ=>zeE is ds (ρ.set i (some (.val d)))
 | _,_,_=>.bad
noncomputable def gTup (is:List Nat) (d:D) (ρ:Env):Res Env:=match d with
 | .tup ds=>zeE is ds ρ
 | _=>.bad
noncomputable def zhp (ρ:Env) (i:Nat):Option L:=match ρ[i]? with
 | some (some (.val d))=>some (.val d)
 | some (some (.bor xs))=>some (.bor xs)
 | some (some (.fdc ks))=>some (.fdc ks)
 | _=>none
noncomputable def zhq (ρ:Env) (is:List Nat):Env:=is.map (zhp ρ)
noncomputable def zc7 (g:GF) (t:TF) (e:EF) (ρ:Env):List D→Res (List D)
 | []=>.ok []
 | d :: r=>(g d ρ).bind fun ρ1=>(t ρ1).bind fun c=>if c then (e ρ1).bind fun y=>(zc7 g t e ρ r).bind fun ys=>.ok (y :: ys) else zc7 g t e ρ r
noncomputable def zcu (it:LF) (n:Nat) (is:List Nat) (g:GF) (t:TF) (e:EF) (ρ:Env):Res (List D):=(it ρ).bind fun ds=>guard (ds.length≤line) (zc7 g t e (List.replicate n none++zhq ρ is) ds)
noncomputable def zdA (_:Env):Res Bool:=.ok true
noncomputable def zbn (ρ:Env):Res Fl:=.ok (.nx ρ)
noncomputable def zaI (a b:SF) (ρ:Env):Res Fl:=(a ρ).bind fun fl=>match fl with
 | .nx ρ'=>b ρ'
 | o=>.ok o
noncomputable def zbj (i:Nat) (e:EF) (ρ:Env):Res Fl:=(e ρ).bind fun d=>.ok (.nx (ρ.set i (some (.val d))))
noncomputable def zjn (i:Nat) (e:LF) (ρ:Env):Res Fl:=(e ρ).bind fun xs=>.ok (.nx (ρ.set i (some (.own xs))))
noncomputable def zoi (e:EF) (g:GF) (ρ:Env):Res Fl:=(e ρ).bind fun d=>(g d ρ).bind fun ρ'=>.ok (.nx ρ')
noncomputable def sIf (t:TF) (a b:SF) (ρ:Env):Res Fl:=(t ρ).bind fun c=>if c then a ρ else b ρ
noncomputable def zbS (e:EF) (ρ:Env):Res Fl:=(e ρ).bind fun d=>.ok (.rt d)
noncomputable def zrp (_:Env):Res Fl:=.ok (.rt .non)
noncomputable def zpp (ρ:Env):Res Fl:=.ok (.bk ρ)
noncomputable def zrt (ρ:Env):Res Fl:=.ok (.ct ρ)
noncomputable def frz (i:Nat) (ρ:Env):Env:=match ρ[i]? with
 | some (some (.own xs))=>ρ.set i (some (.val (.lst xs)))
 | _=>ρ
noncomputable def znL (i:Nat) (a:SF) (ρ:Env):Res Fl:=a (frz i ρ)
noncomputable def zco (i:Nat) (e:EF) (ρ:Env):Res Fl:=(e ρ).bind fun d=>match ρ[i]? with
 | some (some (.own xs))=>guard (xs.length < line) (.ok (.nx (ρ.set i (some (.own (xs++[d]))))))
 | _=>.bad
noncomputable def zfp (g:GF) (b:SF):List D→Env→Res Fl
 | [],ρ=>.ok (.nx ρ)
 | d :: r,ρ=>(g d ρ).bind fun ρ1=>(b ρ1).bind fun fl=>match fl with
  | .nx ρ'=>zfp g b r ρ'
  | .ct ρ'=>zfp g b r ρ'
  | .bk ρ'=>.ok (.nx ρ')
  | .rt d=>.ok (.rt d)
noncomputable def zfE (it:LF) (g:GF) (b:SF) (ρ:Env):Res Fl:=(it ρ).bind fun ds=>zfp g b ds ρ
noncomputable def start (n:Nat) (ds:List D):Env:=ds.map (fun d=>some (.val d))++List.replicate (n-ds.length) none
noncomputable def fn (ps n:Nat) (b:SF) (ds:List D):Res D:=if ds.length=ps then (match b (start n ds) with
 | .ok (.rt d)=>.ok d
 | .ok (.nx _)=>.ok .non
 | _=>.bad) else .bad
end Z
end
set_option genSizeOf false
noncomputable section
namespace Z
@[simp] theorem zun (d:D) (ρ:Env):eC d ρ=.ok d:=rfl
@[simp] theorem zuo (o:D→D→Res D) (a b:EF) (ρ:Env):eB o a b ρ=(a ρ).bind fun x=>(b ρ).bind fun y=>o x y:=rfl
@[simp] theorem zul (o:D→Res D) (a:EF) (ρ:Env):eU o a ρ=(a ρ).bind o:=rfl
@[simp] theorem zum (l:LF) (ρ:Env):eL l ρ=(l ρ).map D.lst:=rfl
@[simp] theorem ztr (ρ:Env):zav ρ=.ok []:=rfl
@[simp] theorem zsG (a:EF) (r:AF) (ρ:Env):zab a r ρ=(a ρ).bind fun x=>(r ρ).bind fun xs=>.ok (x :: xs):=rfl
@[simp] theorem zsp (f:List D→Res D) (as:AF) (ρ:Env):zar f as ρ=(as ρ).bind f:=rfl
@[simp] theorem zrq (ρ:Env):zbn ρ=.ok (.nx ρ):=rfl
@[simp] theorem zsQ (i:Nat) (e:EF) (ρ:Env):zbj i e ρ=(e ρ).bind fun d=>.ok (.nx (ρ.set i (some (.val d)))):=rfl
@[simp] theorem zsT (i:Nat) (e:LF) (ρ:Env):zjn i e ρ=(e ρ).bind fun d=>.ok (.nx (ρ.set i (some (.own d)))):=rfl
@[simp] theorem zsS (e:EF) (ρ:Env):zbS e ρ=(e ρ).bind fun d=>.ok (.rt d):=rfl
@[simp] theorem zro (ρ:Env):zrp ρ=.ok (.rt .non):=rfl
@[simp] theorem zrr (t:TF) (a b:SF) (ρ:Env):sIf t a b ρ=(t ρ).bind fun c=>if c then a ρ else b ρ:=rfl
@[simp] theorem zub (t:TF) (a b:EF) (ρ:Env):eIf t a b ρ=(t ρ).bind fun c=>if c then a ρ else b ρ:=rfl
@[simp] theorem zsW (it:LF) (g:GF) (b:SF) (ρ:Env):zfE it g b ρ=(it ρ).bind fun ds=>zfp g b ds ρ:=rfl
noncomputable def zpn (b:SF):Fl→Res Fl
 | .nx ρ'=>b ρ'
 | o=>.ok o
@[simp] theorem zsR (a b:SF) (ρ:Env):zaI a b ρ=(a ρ).bind (zpn b):=rfl
@[simp] theorem zrl (b:SF) (ρ:Env):zpn b (.nx ρ)=b ρ:=rfl
@[simp] theorem zrk (b:SF) (d:D):zpn b (.rt d)=.ok (.rt d):=rfl
@[simp] theorem zrn (b:SF) (ρ:Env):zpn b (.bk ρ)=.ok (.bk ρ):=rfl
@[simp] theorem zrm (b:SF) (ρ:Env):zpn b (.ct ρ)=.ok (.ct ρ):=rfl
noncomputable def zsM:D→Res Bool
 | .bl c=>.ok c
 | _=>.bad
@[simp] theorem zuf (a:EF) (ρ:Env):tE a ρ=(a ρ).bind zsM:=rfl
@[simp] theorem zrg (c:Bool):zsM (.bl c)=.ok c:=rfl
@[simp] theorem zrh (ρ:Env):zdA ρ=.ok true:=rfl
@[simp] theorem zsO (a b:TF) (ρ:Env):tAnd a b ρ=(a ρ).bind fun c=>if c then b ρ else .ok false:=rfl
@[simp] theorem ztz (a b:TF) (ρ:Env):tOr a b ρ=(a ρ).bind fun c=>if c then .ok true else b ρ:=rfl
@[simp] theorem zsN (a:TF) (ρ:Env):tNot a ρ=(a ρ).bind fun c=>.ok !c:=rfl
noncomputable def zmK (f:Bool→Res D):D→Res D
 | .bl c=>f c
 | _=>.bad
@[simp] theorem zq3 (f:Bool→Res D) (c:Bool):zmK f (.bl c)=f c:=rfl
@[simp] theorem zto (a b:EF) (ρ:Env):zmp a b ρ=(a ρ).bind (zmK fun c=>if c then b ρ else .ok (.bl false)):=rfl
@[simp] theorem zua (a b:EF) (ρ:Env):eOr a b ρ=(a ρ).bind (zmK fun c=>if c then .ok (.bl true) else b ρ):=rfl
@[simp] theorem ztm (a:EF) (ρ:Env):zq0 a ρ=(a ρ).bind (zmK fun c=>.ok (.bl !c)):=rfl
@[simp] theorem zq1 (o o':D→D→Res D) (a b c:EF) (ρ:Env):zeS o o' a b c ρ=(a ρ).bind fun x=>(b ρ).bind fun y=>(o x y).bind (zmK fun k=>if k then (c ρ).bind fun w=>o' y w else .ok (.bl false)):=rfl
@[simp] theorem zqR (a b:Int):zbh (.int a) (.int b)=.ok (.int (a+b)):=rfl
theorem znn (a b:List D) (h:a.length+b.length≤line):zbh (.tup a) (.tup b)=.ok (.tup (a++b)):=by simp [zbh,h]
@[simp] theorem zqy (a b:Int):znf (.int a) (.int b)=.ok (.int (a-b)):=rfl
@[simp] theorem zqG (a b:Int):zf7 (.int a) (.int b)=guard (zaY a b) (.ok (.int (a*b))):=rfl
@[simp] theorem zqQ (a b:Int):oDiv (.int a) (.int b)=guard (zem b) (.ok (.int (a / b))):=rfl
@[simp] theorem zqH (a b:Int):oMod (.int a) (.int b)=guard (0 < b) (.ok (.int (a % b))):=rfl
@[simp] theorem zqA (a b:Int):ztP (.int a) (.int b)=guard (0≤b) (.ok (.int (a / 2 ^ b.toNat))):=rfl
@[simp] theorem zrL (a b:Int):oLt (.int a) (.int b)=.ok (.bl (decide (a < b))):=rfl
@[simp] theorem zrN (a b:Int):oLe (.int a) (.int b)=.ok (.bl (decide (a≤b))):=rfl
@[simp] theorem zrM (a b:List Nat):oLe (.str a) (.str b)=.ok (.bl (!(ltC b a))):=rfl
@[simp] theorem zrR (a b:Int):oGt (.int a) (.int b)=.ok (.bl (decide (b < a))):=rfl
@[simp] theorem zrS (a b:Int):oGe (.int a) (.int b)=.ok (.bl (decide (b≤a))):=rfl
@[simp] theorem zrU (a b:Int):oEq (.int a) (.int b)=.ok (.bl (a==b)):=rfl
@[simp] theorem zs8 (a b:Bool):oEq (.bl a) (.bl b)=.ok (.bl (a==b)):=rfl
@[simp] theorem zrT (a b:List Nat):oEq (.str a) (.str b)=.ok (.bl (a==b)):=rfl
@[simp] theorem zrK (a b:Int):oNe (.int a) (.int b)=.ok (.bl (!(a==b))):=rfl
@[simp] theorem zs7 (a b:Bool):oNe (.bl a) (.bl b)=.ok (.bl (!(a==b))):=rfl
@[simp] theorem zrJ (a b:List Nat):oNe (.str a) (.str b)=.ok (.bl (!(a==b))):=rfl
@[simp] theorem zqL (a:List Nat):zdh (.str a)=guard (a.length≤line) (.ok (.int a.length)):=rfl
@[simp] theorem zqK (a:List D):zdh (.tup a)=.ok (.int a.length):=rfl
@[simp] theorem zqM (a:List D):zdh (.lst a)=.ok (.int a.length):=rfl
@[simp] theorem zrO (t:Ty) (x:D):zfH t x=.ok (.bl (zeK t x)):=rfl
@[simp] theorem ztN (ρ:Env):pNo ρ=.ok none:=rfl
noncomputable def ztg:D→Res (Option Int)
 | .int i=>.ok (some i)
 | _=>.bad
@[simp] theorem zqV (i:Int):ztg (.int i)=.ok (some i):=rfl
@[simp] theorem ztO (a:EF) (ρ:Env):pAt a ρ=(a ρ).bind ztg:=rfl
@[simp] theorem zt9 (a:EF) (lo hi:PF) (ρ:Env):eSl a lo hi ρ=(a ρ).bind fun x=>(lo ρ).bind fun l=>(hi ρ).bind fun h=>oSl x l h:=rfl
@[simp] theorem zti (a:EF) (ρ:Env):zfK a ρ=(a ρ).bind zh8:=rfl
noncomputable def zpu:D→Res (List D)
 | .int j=>.ok (zints 0 j.toNat)
 | _=>.bad
@[simp] theorem zsd (a:EF) (ρ:Env):iRng1 a ρ=(a ρ).bind zpu:=rfl
@[simp] theorem zpt (j:Int):zpu (.int j)=.ok (zints 0 j.toNat):=rfl
noncomputable def zps:D→D→Res (List D)
 | .int i,.int j=>.ok (zints i (j-i).toNat)
 | _,_=>.bad
@[simp] theorem zsc (a b:EF) (ρ:Env):iRng2 a b ρ=(a ρ).bind fun x=>(b ρ).bind fun y=>zps x y:=rfl
@[simp] theorem zpr (i j:Int):zps (.int i) (.int j)=.ok (zints i (j-i).toNat):=rfl
@[simp] theorem zpX (xs:List D):zh8 (.tup xs)=.ok xs:=rfl
@[simp] theorem zpZ (xs:List D):zh8 (.lst xs)=.ok xs:=rfl
@[simp] theorem zpY (cs:List Nat):zh8 (.str cs)=.ok (cs.map fun c=>.str [c]):=rfl
@[simp] theorem zsi (i:Nat) (d:D) (ρ:Env):gName i d ρ=.ok (ρ.set i (some (.val d))):=rfl
theorem zbC (it:LF) (n:Nat) (is:List Nat) (g:GF) (t:TF) (e:EF) (ρ:Env):zcu it n is g t e ρ=(it ρ).bind fun ds=>guard (ds.length≤line) (zc7 g t e (List.replicate n none++zhq ρ is) ds):=rfl
@[simp] theorem zr1 (as:AF) (ρ:Env):zbp as ρ=(as ρ).bind fun xs=>guard (xs.length≤line) (.ok xs):=rfl
@[simp] theorem ztl (as:AF) (ρ:Env):zd1 as ρ=(as ρ).bind fun xs=>guard (xs.length≤line) (.ok (.tup xs)):=rfl
noncomputable def zcL:Res Fl→Res D
 | .ok (.rt d)=>.ok d
 | .ok (.nx _)=>.ok .non
 | _=>.bad
@[simp] theorem zrw (d:D):zcL (.ok (.rt d))=.ok d:=rfl
@[simp] theorem zrx (ρ:Env):zcL (.ok (.nx ρ))=.ok .non:=rfl
theorem zdv (ps n:Nat) (b:SF) (ds:List D) (h:ds.length=ps):fn ps n b ds=zcL (b (start n ds)):=by
 unfold fn;rw [if_pos h];cases b (start n ds) with
 | bad=>rfl
 | ok f=>cases f<;>rfl
theorem zbg {a b:Int} (h1:-18446744073709551616 < a) (h2:a < 18446744073709551616):zaY a b:=by
 unfold zaY;exact .inl ⟨h1,h2⟩
theorem zdZ {a b:Int} (h1:-18446744073709551616 < b) (h2:b < 18446744073709551616):zaY a b:=by
 unfold zaY;exact .inr (.inl ⟨h1,h2⟩)
theorem zau {b:Int} (h0:0 < b) (h:b < 1809251394333065553493296640760748560207343510400633813116524750123642650624):zem b:=by
 exact ⟨h0,h⟩
theorem zkS {cs:List Nat} {i:Int} (h0:0≤i) (h1:i < cs.length) (hl:cs.length≤line):∃ c∈cs,oIx (.str cs) (.int i)=.ok (.str [c]):=by
 have hj:i.toNat < cs.length:=by lia
 refine ⟨cs[i.toNat],List.getElem_mem hj,?_⟩
 simp [oIx,hl,ixZ,h0,h1,hj]
@[simp] theorem zeh (lo:Int) (n:Nat):(zints lo n).length=n:=by simp [zints]
theorem ze5 {α:Type} (xs:List α) (lo hi:Option Int):(cut xs lo hi).length≤xs.length:=by
 unfold cut
 rw [List.length_take,List.length_drop]
 lia
@[simp] theorem ztT (xs:List D) (a:EF) (lo hi:PF) (ρ:Env) (h:a ρ=.ok (.lst xs)):lSl a lo hi ρ=(lo ρ).bind fun l=>(hi ρ).bind fun h=>.ok (cut xs l h):=by
 unfold lSl;rw [h];rfl
theorem zhM {g:GF} {e:EF} {ρ:Env} {h:D→D}:∀ (ds:List D),(∀ d∈ds,(g d ρ).bind e=.ok (h d))→zc7 g zdA e ρ ds=.ok (ds.map h)
 | [],_=>rfl
 | d :: ds,k=>by
  have h1:=k d List.mem_cons_self
  have h2:=zhM ds (fun x hx=>k x (List.mem_cons_of_mem _ hx))
  obtain ⟨ρ1,e1,e2⟩:=Res.bind_ok h1
  simp [zc7,e1,zdA,e2,h2]
theorem zfx {g:GF} {t:TF} {e:EF} {ρ:Env} {p:D→Bool} {h:D→D}:∀ (ds:List D),(∀ d∈ds,∃ ρ1,g d ρ=.ok ρ1∧t ρ1=.ok (p d)∧(p d=true→e ρ1=.ok (h d)))→zc7 g t e ρ ds=.ok ((ds.filter p).map h)
 | [],_=>rfl
 | d :: ds,k=>by
  obtain ⟨ρ1,e1,e2,e3⟩:=k d List.mem_cons_self
  have h2:=zfx ds (fun x hx=>k x (List.mem_cons_of_mem _ hx))
  cases hp:p d with
  | true=>simp [zc7,e1,e2,hp,e3 hp,h2]
  | false=>simp [zc7,e1,e2,hp,h2]
theorem zmQ:∀ (bs:List Bool),allB (bs.map D.bl)=some (bs.all id)
 | []=>rfl
 | b :: bs=>by simp [allB,zmQ bs]
@[simp high] theorem gt0 {α:Type _} (a:α) (l:List α):(a :: l)[0]?=some a:=rfl
@[simp high] theorem gtS {α:Type _} (a:α) (l:List α) (n:Nat):(a :: l)[n+1]?=l[n]?:=rfl
@[simp high] theorem st0 {α:Type _} (a x:α) (l:List α):(a :: l).set 0 x=x :: l:=rfl
@[simp high] theorem stS {α:Type _} (a x:α) (l:List α) (n:Nat):(a :: l).set (n+1) x=a :: l.set n x:=rfl
end Z
end
set_option maxHeartbeats 4000000
namespace ZS
open PySem PySem.Spec PyProof.Rows L2
noncomputable abbrev St:=L2.St
noncomputable def zpe:Sum Int (List Nat)→Key
 | .inl i=>.inl i
 | .inr cs=>.inr ⟨cs.toArray⟩
def FzL (K:PySem.W.Frag) (H:Hp) (a:Addr) (xs:List V):Prop :=
 (∃ o,H a=some (.frz o (.lst xs))) ∨
  ∃ (o:Obj) (its:Array Value) (n:Nat),K.lookup a=some o∧o.cls=.type "list" ∧ o.dict=none∧o.data=.seq its n∧its.size≤sizeLine∧Vals xs its.toList
theorem FzL.sq {K:PySem.W.Frag} {H:Hp} {a:Addr} {xs:List V} (h:FzL K H a xs):SqL K H a xs:=by
 rcases h with ⟨o,h⟩ | h
 ·exact .inl (.inr ⟨o,h⟩)
 ·exact .inr h
structure Stb (H H':Hp):Prop where
 tup:∀ a xs,H a=some (.tup xs)→H' a=some (.tup xs)
 frz:∀ a o u,H a=some (.frz o u)→H' a=some (.frz o u)
theorem Stb.refl (H:Hp):Stb H H:=⟨fun _ _ h=>h,fun _ _ _ h=>h⟩
theorem Stb.trans {H H1 H2:Hp} (a:Stb H H1) (b:Stb H1 H2):Stb H H2:=⟨fun c xs h=>b.tup c xs (a.tup c xs h),fun c o u h=>b.frz c o u (a.frz c o u h)⟩
theorem stb {H H':Hp} (s:Same H H'):Stb H H':=⟨fun _ _ h=>s _ _ h,fun _ _ _ h=>s _ _ h⟩
theorem zob {H:Hp} {p:Addr} {o u:HO} (h:H p=some o) (n1:∀ xs,o≠.tup xs) (n2:∀ ob x,o≠.frz ob x):Stb H (upd H p u) :=
 ⟨fun a xs e=>by rw [upd_ne (by rintro rfl;rw [h] at e;exact n1 xs (Option.some.inj e))];exact e,fun a ob x e=>by rw [upd_ne (by rintro rfl;rw [h] at e;exact n2 ob x (Option.some.inj e))];exact e⟩
theorem zex {H:Hp} {p:Addr} {xs:List V} {u:HO} (h:H p=some (.lst xs)):Stb H (upd H p u):=zob h (fun _ z=>nomatch z) (fun _ _ z=>nomatch z)
theorem FzL.mono {K:PySem.W.Frag} {H H':Hp} {a:Addr} {xs:List V} (e:Stb H H') (h:FzL K H a xs):FzL K H' a xs:=by
 rcases h with ⟨o,h⟩ | h
 ·exact .inl ⟨o,e.frz _ _ _ h⟩
 ·exact .inr h
theorem zdI {K:PySem.W.Frag} {H H':Hp} {a:Addr} {xs:List V} (e:Stb H H') (h:SqT K H a xs):SqT K H' a xs:=by
 rcases h with (h | ⟨o,h⟩) | h
 ·exact .inl (.inl (e.tup _ _ h))
 ·exact .inl (.inr ⟨o,e.frz _ _ _ h⟩)
 ·exact .inr h
mutual
noncomputable def Den (K:PySem.W.Frag) (H:Hp):Z.D→V→Prop
 | .non,v=>v=.non
 | .bl b,v=>v=.bl b
 | .int i,v=>v=.int i
 | .str cs,v=>v=.str ⟨cs.toArray⟩
 | .tup ds,v=>∃ a vs,v=.ref a∧SqT K H a vs∧zaE K H ds vs
 | .lst ds,v=>∃ a vs,v=.ref a∧FzL K H a vs∧zaE K H ds vs
 | .dct ks ds,v=>∃ a o kvs,v=.ref a∧H a=some (.frz o (.dK kvs))∧kvs.map (·.1)=ks.map zpe∧zaE K H ds (kvs.map (·.2))
noncomputable def zaE (K:PySem.W.Frag) (H:Hp):List Z.D→List V→Prop
 | [],vs=>vs=[]
 | d :: ds,vs=>∃ v r,vs=v :: r∧Den K H d v∧zaE K H ds r
end
section
variable {K:PySem.W.Frag} {H H':Hp}
mutual
theorem Den.mono (e:Stb H H'):∀ (d:Z.D) (v:V),Den K H d v→Den K H' d v
 | .non,v,h=>by simp only [Den] at h ⊢;exact h
 | .bl b,v,h=>by simp only [Den] at h ⊢;exact h
 | .int i,v,h=>by simp only [Den] at h ⊢;exact h
 | .str cs,v,h=>by simp only [Den] at h ⊢;exact h
 | .tup ds,v,h=>by
  simp only [Den] at h ⊢
  obtain ⟨a,vs,e1,q,r⟩:=h
  exact ⟨a,vs,e1,zdI e q,zaE.mono e ds vs r⟩
 | .lst ds,v,h=>by
  simp only [Den] at h ⊢
  obtain ⟨a,vs,e1,q,r⟩:=h
  exact ⟨a,vs,e1,q.mono e,zaE.mono e ds vs r⟩
 | .dct ks ds,v,h=>by
  simp only [Den] at h ⊢
  obtain ⟨a,o,kvs,e1,q,k,r⟩:=h
  exact ⟨a,o,kvs,e1,e.frz _ _ _ q,k,zaE.mono e ds _ r⟩
theorem zaE.mono (e:Stb H H'):∀ (ds:List Z.D) (vs:List V),zaE K H ds vs→zaE K H' ds vs
 | [],vs,h=>by simp only [zaE] at h ⊢;exact h
 | d :: ds,vs,h=>by
  simp only [zaE] at h ⊢
  obtain ⟨v,r,e1,q,t⟩:=h
  exact ⟨v,r,e1,Den.mono e d v q,zaE.mono e ds r t⟩
end
theorem Den.up {d:Z.D} {v:V} (h:Den K H d v) (e:Same H H'):Den K H' d v:=Den.mono (stb e) d v h
theorem Den.ups {d:Z.D} {v:V} (h:Den K H d v) (e:Stb H H'):Den K H' d v:=Den.mono e d v h
theorem zaE.ups {ds:List Z.D} {vs:List V} (h:zaE K H ds vs) (e:Stb H H'):zaE K H' ds vs:=zaE.mono e ds vs h
theorem zaE.up {ds:List Z.D} {vs:List V} (h:zaE K H ds vs) (e:Same H H'):zaE K H' ds vs:=zaE.mono (stb e) ds vs h
theorem zaE.nil:zaE K H [] []:=by simp only [zaE]
theorem zaE.cons {d:Z.D} {ds:List Z.D} {v:V} {vs:List V} (h:Den K H d v) (t:zaE K H ds vs):zaE K H (d :: ds) (v :: vs):=by
 simp only [zaE];exact ⟨v,vs,rfl,h,t⟩
theorem zaE.length:∀ {ds:List Z.D} {vs:List V},zaE K H ds vs→vs.length=ds.length
 | [],vs,h=>by simp only [zaE] at h;subst h;rfl
 | d :: ds,vs,h=>by
  simp only [zaE] at h
  obtain ⟨v,r,rfl,_,t⟩:=h
  simp [zaE.length t]
theorem zaE.get:∀ {ds:List Z.D} {vs:List V} {i:Nat} {d:Z.D},zaE K H ds vs→ds[i]?=some d→∃ v,vs[i]?=some v∧Den K H d v
 | [],_,_,_,_,e=>by simp at e
 | x :: ds,vs,0,d,h,e=>by
  simp only [zaE] at h
  obtain ⟨v,r,rfl,q,_⟩:=h
  simp at e;subst e
  exact ⟨v,rfl,q⟩
 | x :: ds,vs,i+1,d,h,e=>by
  simp only [zaE] at h
  obtain ⟨v,r,rfl,_,t⟩:=h
  obtain ⟨u,h1,h2⟩:=zaE.get (i:=i) t (by simpa using e)
  exact ⟨u,by simpa using h1,h2⟩
theorem zaE.append:∀ {ds es:List Z.D} {vs us:List V},zaE K H ds vs→zaE K H es us→zaE K H (ds++es) (vs++us)
 | [],_,_,_,h,g=>by simp only [zaE] at h;subst h;exact g
 | d :: ds,es,vs,us,h,g=>by
  simp only [zaE] at h
  obtain ⟨v,r,rfl,q,t⟩:=h
  exact zaE.cons q (zaE.append t g)
theorem zaE.drop:∀ {ds:List Z.D} {vs:List V} (n:Nat),zaE K H ds vs→zaE K H (ds.drop n) (vs.drop n)
 | _,_,0,h=>by simpa using h
 | [],vs,_+1,h=>by simp only [zaE] at h;subst h;simpa using zaE.nil
 | d :: ds,vs,n+1,h=>by
  simp only [zaE] at h
  obtain ⟨v,r,rfl,q,t⟩:=h
  simpa using zaE.drop n t
theorem zaE.take:∀ {ds:List Z.D} {vs:List V} (n:Nat),zaE K H ds vs→zaE K H (ds.take n) (vs.take n)
 | _,_,0,h=>by simpa using zaE.nil
 | [],vs,_+1,h=>by simp only [zaE] at h;subst h;simpa using zaE.nil
 | d :: ds,vs,n+1,h=>by
  simp only [zaE] at h
  obtain ⟨v,r,rfl,q,t⟩:=h
  simpa using zaE.cons q (zaE.take n t)
theorem zaE.zints:∀ (ns:List Int),zaE K H (ns.map Z.D.int) (ns.map V.int)
 | []=>zaE.nil
 | n :: ns=>zaE.cons (by simp only [Den]) (zaE.zints ns)
def zcv (K:PySem.W.Frag) (H:Hp) (d:Z.D) (v:V):Prop:=Den K H d v∨∃ ds a vs,d=.lst ds∧v=.ref a∧H a=some (.lst vs)∧zaE K H ds vs
theorem zcv.up {d:Z.D} {v:V} (h:zcv K H d v) (e:Same H H'):zcv K H' d v:=by
 rcases h with h | ⟨ds,a,vs,e1,e2,q,t⟩
 ·exact .inl (h.up e)
 ·exact .inr ⟨ds,a,vs,e1,e2,e _ _ q,t.up e⟩
theorem zcv.strong {d:Z.D} {v:V} (h:zcv K H d v) (n:∀ ds,d≠.lst ds):Den K H d v:=by
 rcases h with h | ⟨ds,a,vs,e1,_⟩
 ·exact h
 ·exact absurd e1 (n ds)
theorem zcv.non {v:V} (h:zcv K H .non v):v=.non:=by
 have:=h.strong (fun _ z=>nomatch z);simpa only [Den] using this
theorem zcv.bl {b:Bool} {v:V} (h:zcv K H (.bl b) v):v=.bl b:=by
 have:=h.strong (fun _ z=>nomatch z);simpa only [Den] using this
theorem zcv.int {i:Int} {v:V} (h:zcv K H (.int i) v):v=.int i:=by
 have:=h.strong (fun _ z=>nomatch z);simpa only [Den] using this
theorem zcv.str {cs:List Nat} {v:V} (h:zcv K H (.str cs) v):v=.str ⟨cs.toArray⟩:=by
 have:=h.strong (fun _ z=>nomatch z);simpa only [Den] using this
theorem zcv.tup {ds:List Z.D} {v:V} (h:zcv K H (.tup ds) v):∃ a vs,v=.ref a∧SqT K H a vs∧zaE K H ds vs:=by
 have:=h.strong (fun _ z=>nomatch z);simpa only [Den] using this
theorem zcv.lst {ds:List Z.D} {v:V} (h:zcv K H (.lst ds) v):∃ a vs,v=.ref a∧SqL K H a vs∧zaE K H ds vs:=by
 rcases h with h | ⟨es,a,vs,e1,e2,q,t⟩
 ·simp only [Den] at h
  obtain ⟨a,vs,e,q,t⟩:=h
  exact ⟨a,vs,e,q.sq,t⟩
 ·cases e1
  exact ⟨a,vs,e2,.inl (.inl q),t⟩
theorem zcv.dct {ks:List (Sum Int (List Nat))} {ds:List Z.D} {v:V} (h:zcv K H (.dct ks ds) v):∃ a o kvs,v=.ref a∧H a=some (.frz o (.dK kvs))∧kvs.map (·.1)=ks.map zpe∧zaE K H ds (kvs.map (·.2)):=by
 have:=h.strong (fun _ z=>nomatch z);simpa only [Den] using this
theorem zkp:Den K H .non .non:=by simp only [Den]
theorem zcZ {b:Bool}:Den K H (.bl b) (.bl b):=by simp only [Den]
theorem zb4 {i:Int}:Den K H (.int i) (.int i):=by simp only [Den]
theorem ze4 {cs:List Nat}:Den K H (.str cs) (.str ⟨cs.toArray⟩):=by simp only [Den]
theorem zdr {ds:List Z.D} {a:Addr} {vs:List V} (h:SqT K H a vs) (t:zaE K H ds vs):Den K H (.tup ds) (.ref a):=by
 simp only [Den];exact ⟨a,vs,rfl,h,t⟩
theorem zkq {ds:List Z.D} {a:Addr} {vs:List V} (h:FzL K H a vs) (t:zaE K H ds vs):Den K H (.lst ds) (.ref a):=by
 simp only [Den];exact ⟨a,vs,rfl,h,t⟩
end
noncomputable def zt8 (x:List Int×Addr×Value):DictEntry:={ hash:=reduceHash (Builtin.Tuple.tupleHashOf (x.1.map hashInt)),key:=.ref x.2.1,val:=x.2.2 }
def zsJ (a:Addr) (ks:List (List Int)) (as:List Addr) (h:Heap):Prop:=ks.length≤sizeLine∧(a==sysModules)=false∧∃ (xs:List (List Int×Addr×Value)) (o:Obj) (es:Array DictEntry) (ep:Nat),xs.map (·.1)=ks∧xs.map (·.2.1)=as∧h.get? a=some o∧o.ExactDict∧o.data=.dict es ep∧es.toList=xs.map zt8∧ks.Nodup
noncomputable abbrev ztv (a:Addr) (ks:List (List Int)) (as:List Addr):HO:=.ext (zsJ a ks as)
def zjm (K:PySem.W.Frag) (H:Hp) (ks:List (List Int)) (as:List Addr):Prop:=Paired (fun (k:List Int) (b:Addr)=>Den K H (.tup (k.map .int)) (.ref b)) ks as
noncomputable def kvI (ps:List (Int×Int)):List (Key×V):=ps.map fun p=>(Sum.inl p.1,V.int p.2)
def RL (K:PySem.W.Frag) (H:Hp):Z.L→V→Prop
 | .val d,v=>Den K H d v
 | .own ds,v=>∃ a vs,v=.ref a∧H a=some (.lst vs)∧zaE K H ds vs
 | .bor ds,v=>zcv K H (.lst ds) v
 | .dic ks,v=>∃ a as,v=.ref a∧H a=some (ztv a ks as)∧zjm K H ks as
 | .fdc ks,v=>∃ a o as,v=.ref a∧H a=some (.frz o (ztv a ks as))∧zjm K H ks as
 | .idc ps,v=>∃ a o,v=.ref a∧H a=some (.frz o (.dK (kvI ps)))
theorem zjm.ups {K:PySem.W.Frag} {H H':Hp} {ks:List (List Int)} {as:List Addr} (h:zjm K H ks as) (e:Stb H H'):zjm K H' ks as:=Paired.mapP h fun _ _ d=>Den.ups d e
structure RE (K:PySem.W.Frag) (H:Hp) (σ:St) (ρ:Z.Env):Prop where
 len:ρ.length=σ.length
 get:∀ (i:Nat) (l:Z.L),ρ[i]?=some (some l)→∃ v,σ[i]?=some (some v)∧RL K H l v
 sep:∀ (i j:Nat) (xs ys:List Z.D) (a:Addr),ρ[i]?=some (some (.own xs))→ρ[j]?=some (some (.own ys))→σ[i]?=some (some (.ref a))→σ[j]?=some (some (.ref a))→i=j
section
variable {K:PySem.W.Frag} {H H':Hp} {σ:St} {ρ:Z.Env}
theorem RL.up {l:Z.L} {v:V} (h:RL K H l v) (e:Same H H'):RL K H' l v:=by
 cases l with
 | val d=>exact Den.up (show Den K H d v from h) e
 | own ds =>
  obtain ⟨a,vs,e1,q,t⟩:=h
  exact ⟨a,vs,e1,e _ _ q,t.up e⟩
 | bor ds=>exact zcv.up (show zcv K H (.lst ds) v from h) e
 | dic ks =>
  obtain ⟨a,as,e1,q,t⟩:=h
  exact ⟨a,as,e1,e _ _ q,t.ups (stb e)⟩
 | fdc ks =>
  obtain ⟨a,o,as,e1,q,t⟩:=h
  exact ⟨a,o,as,e1,e _ _ q,t.ups (stb e)⟩
 | idc ps =>
  obtain ⟨a,o,e1,q⟩:=h
  exact ⟨a,o,e1,e _ _ q⟩
theorem RE.up (h:RE K H σ ρ) (e:Same H H'):RE K H' σ ρ :=
 ⟨h.len,fun i l q=>let ⟨v,h1,h2⟩:=h.get i l q;⟨v,h1,h2.up e⟩,h.sep⟩
theorem zb0 {a:Addr} {o:HO} (h:H a=none):Same H (upd H a o):=fun b u e=>by
 rw [upd_ne (ne_of_none e h)];exact e
end
noncomputable def tZ (K:PySem.W.Frag) (f:Z.EF):TE:=fun σ H Q=>∃ ρ d,RE K H σ ρ∧f ρ=.ok d∧∀ v H',Same H H'→Den K H' d v→Q v H'
noncomputable def tZw (K:PySem.W.Frag) (f:Z.EF):TE:=fun σ H Q=>∃ ρ d,RE K H σ ρ∧f ρ=.ok d∧∀ v H',Same H H'→zcv K H' d v→Q v H'
noncomputable def tZl (K:PySem.W.Frag) (f:Z.LF):TE:=fun σ H Q=>∃ ρ ds,RE K H σ ρ∧f ρ=.ok ds∧∀ a vs H',Same H H'→H a=none→H' a=some (.lst vs)→zaE K H' ds vs→Q (.ref a) H'
noncomputable def tZt (K:PySem.W.Frag) (f:Z.TF):TT:=fun σ H Q=>∃ ρ b,RE K H σ ρ∧f ρ=.ok b∧∀ H',Same H H'→Q b H'
noncomputable def tZa (K:PySem.W.Frag) (f:Z.AF):TA:=fun σ H Q=>∃ ρ ds,RE K H σ ρ∧f ρ=.ok ds∧∀ vs H',Same H H'→zaE K H' ds vs→Q vs H'
noncomputable def tZp (K:PySem.W.Frag) (f:Z.PF):TO:=fun σ H Q=>∃ ρ o,RE K H σ ρ∧f ρ=.ok o∧∀ H',Same H H'→Q o H'
abbrev DE (X:Cx) (e:Expr) (f:Z.EF):Prop:=PE X e (tZ X.K f)
abbrev DW (X:Cx) (e:Expr) (f:Z.EF):Prop:=PE X e (tZw X.K f)
abbrev DL (X:Cx) (e:Expr) (f:Z.LF):Prop:=PE X e (tZl X.K f)
abbrev DT (X:Cx) (e:Expr) (f:Z.TF):Prop:=PT X e (tZt X.K f)
abbrev DTW (X:Cx) (e:Expr) (f:Z.TF):Prop:=PW X e (tZt X.K f)
abbrev DA (X:Cx) (es:List Expr) (f:Z.AF):Prop:=PA X es (tZa X.K f)
abbrev DP (X:Cx) (e:Option Expr) (f:Z.PF):Prop:=PO X e (tZp X.K f)
section
variable {X:Cx} {e a b c:Expr} {es:List Expr} {pos:Pos} {f fa fb fc:Z.EF}
theorem PE.imp {t t':TE} (h:PE X e t) (k:∀ σ H Q,t' σ H Q→t σ H Q):PE X e t':=fun pins s σ H Q I w=>h pins s σ H Q I (k σ H Q w)
theorem PT.imp {t t':TT} (h:PT X e t) (k:∀ σ H Q,t' σ H Q→t σ H Q):PT X e t':=fun pins s σ H Q I w=>h pins s σ H Q I (k σ H Q w)
theorem PW.imp {t t':TT} (h:PW X e t) (k:∀ σ H Q,t' σ H Q→t σ H Q):PW X e t':=fun whole pins s σ H Q I w=>h whole pins s σ H Q I (k σ H Q w)
theorem PA.imp {t t':TA} (h:PA X es t) (k:∀ σ H Q,t' σ H Q→t σ H Q):PA X es t':=fun p pins s σ H Q I w=>h p pins s σ H Q I (k σ H Q w)
theorem PO.imp {o:Option Expr} {t t':TO} (h:PO X o t) (k:∀ σ H Q,t' σ H Q→t σ H Q):PO X o t':=fun pins s σ H Q I w=>h pins s σ H Q I (k σ H Q w)
theorem zqk {v:V} {d:Z.D} (h:PE X e (tC v)) (hd:∀ H,Den X.K H d v):DE X e (Z.eC d):=PE.imp h fun σ H Q ⟨ρ,d',_,e,k⟩=>by
 have e':Z.Res.ok d=Z.Res.ok d':=e
 cases e'
 exact k v H (Same.refl H) (hd H)
theorem zac {i:Int} {j}:DE X (.Constant (.int i) j pos) (Z.eC (.int i)):=zqk pe_int fun _=>zb4
theorem zdV {x:Bool} {j}:DE X (.Constant (.bool x) j pos) (Z.eC (.bl x)):=zqk pe_bl fun _=>zcZ
theorem zg8 {j}:DE X (.Constant .none j pos) (Z.eC .non):=zqk pe_non fun _=>zkp
theorem zax {x:Str} {cs:List Nat} {j} (h:x=⟨cs.toArray⟩):DE X (.Constant (.str x) j pos) (Z.eC (.str cs)):=by
 subst h;exact zqk pe_str fun _=>ze4
theorem zsn {i:Nat} {ρ:Z.Env} {d:Z.D} (h:Z.eV i ρ=.ok d):ρ[i]?=some (some (.val d)):=by
 unfold Z.eV at h
 split at h
 ·rename_i d' q;cases h;exact q
 ·cases h
theorem zsm {i:Nat} {ρ:Z.Env} {d:Z.D} (h:Z.eW i ρ=.ok d):ρ[i]?=some (some (.val d))∨(∃ xs,ρ[i]?=some (some (.own xs))∧d=.lst xs)∨∃ xs,ρ[i]?=some (some (.bor xs))∧d=.lst xs:=by
 unfold Z.eW at h
 split at h
 ·rename_i d' q;cases h;exact .inl q
 ·rename_i xs q;cases h;exact .inr (.inl ⟨xs,q,rfl⟩)
 ·rename_i xs q;cases h;exact .inr (.inr ⟨xs,q,rfl⟩)
 ·cases h
theorem zqi {i:Nat} (h:PE X e (tVar i)):DE X e (Z.eV i):=PE.imp h fun σ H Q ⟨ρ,d,r,e,k⟩=>by
 obtain ⟨v,h1,h2⟩:=r.get i _ (zsn e)
 exact ⟨v,h1,k v H (Same.refl H) h2⟩
theorem zqc {i:Nat} (h:PE X e (tVar i)):DW X e (Z.eW i):=PE.imp h fun σ H Q ⟨ρ,d,r,e,k⟩=>by
 rcases zsm e with q | ⟨xs,q,rfl⟩ | ⟨xs,q,rfl⟩
 rotate_left
 rotate_left
 ·obtain ⟨v,h1,h2⟩:=r.get i _ q
  exact ⟨v,h1,k v H (Same.refl H) h2⟩
 ·obtain ⟨v,h1,h2⟩:=r.get i _ q
  exact ⟨v,h1,k v H (Same.refl H) (.inl h2)⟩
 ·obtain ⟨v,h1,a,vs,rfl,h2,h3⟩:=r.get i _ q
  exact ⟨_,h1,k _ H (Same.refl H) (.inr ⟨xs,a,vs,rfl,rfl,h2,h3⟩)⟩
theorem zao (i:Nat) {x:Str} (hN:X.N[i]?=some x:=by rfl) (hv:Vis X.env.scope x:=by first | exact Or.inl rfl | exact Or.inr (Or.inl rfl) | exact Or.inr (Or.inr rfl)) (hd:(x==("__debug__" : Str))=false:=by decide +kernel)
  (hcd:(x==("__classdict__" : Str))=false:=by decide +kernel):DE X (.Name x pos) (Z.eV i):=zqi (pe_var hN hv hd hcd)
theorem zaj (i:Nat) {x:Str} (hN:X.N[i]?=some x:=by rfl) (hv:Vis X.env.scope x:=by first | exact Or.inl rfl | exact Or.inr (Or.inl rfl) | exact Or.inr (Or.inr rfl)) (hd:(x==("__debug__" : Str))=false:=by decide +kernel)
  (hcd:(x==("__classdict__" : Str))=false:=by decide +kernel):DW X (.Name x pos) (Z.eW i):=zqc (pe_var hN hv hd hcd)
theorem zoX {x:Str} {u:Value} {v:V} {d:Z.D} (hg:Gl X x) (hm:X.mg x=some u) (r:RelV v u) (hd:∀ H,Den X.K H d v) (hb:(x==("__debug__" : Str))=false:=by decide +kernel):DE X (.Name x pos) (Z.eC d) :=
 zqk (pe_glob hg hm r hb) hd
theorem zaf (h:DE X e f):DW X e f:=PE.imp h fun σ H Q ⟨ρ,d,r,e,k⟩=>⟨ρ,d,r,e,fun v H' s q=>k v H' s (.inl q)⟩
theorem zes {l:Z.LF} (h:DL X e l):DW X e (Z.eL l):=PE.imp h fun σ H Q ⟨ρ,d,r,e,k⟩=>by
 unfold Z.eL at e
 cases q:l ρ with
 | bad=>rw [q] at e;cases e
 | ok ds =>
  rw [q] at e;cases e
  exact ⟨ρ,ds,r,q,fun a vs H' s hn h1 h2=>k _ H' s (.inr ⟨ds,a,vs,rfl,rfl,h1,h2⟩)⟩
theorem zfJ {pins : List (Addr × Obj)} {σ : St} {H : Hp} {s : Shared} {p : Addr} {xs : List V} (I : Inv X pins σ H s) (h : H p = some (.lst xs)) : ∃ o, Inv X pins σ (upd H p (.frz o (.lst xs))) s := by
 obtain ⟨z,its,n,r,ho⟩:=I.hok p _ h
 refine ⟨_,I.un (H':=upd H p (.frz { cls:=.type "list",data:=.seq its.toArray n } (.lst xs))) (h':=s.heap) (t':=s.toks) ?_ ?_⟩
 ·have ne:∀ b,H b=none→b≠p:=fun b e q=>by rw [q,h] at e;cases e
  refine ⟨fun b o q _ _ _=>q,fun b o q _ _ _=>⟨o.slots,q⟩,fun b o q e _=>by rw [upd_ne (ne b e)];exact e,fun b o q _=>⟨o,q⟩,fun b ys e=>?_,fun b o u e=>?_,fun b ps e=>?_⟩
  ·have:b≠p:=by rintro rfl;rw [h] at e;cases e
   rw [upd_ne this];exact e
  ·have:b≠p:=by rintro rfl;rw [h] at e;cases e
   rw [upd_ne this];exact e
  ·have:b≠p:=by rintro rfl;rw [h] at e;cases e
   exact ⟨#[],by rw [upd_ne this,e];simp⟩
 ·intro b u e
  by_cases hb:b=p
  ·subst hb
   rw [upd_same] at e;cases e
   exact ⟨ho,z,its,n,r,ho⟩
  ·rw [upd_ne hb] at e
   refine (I.hok b u e).stay (fun c w _ q=>q) (fun c q=>?_) fun c ys q=>?_
   ·have:c≠p:=by rintro rfl;rw [h] at q;cases q
    rw [upd_ne this];exact q
   ·have:c≠p:=by rintro rfl;rw [h] at q;cases q
    rw [upd_ne this];exact q
theorem zm4 {H H1:Hp} {p:Addr} {o:Obj} {xs:List V} (s:Same H H1) (hn:H p=none):Same H (upd H1 p (.frz o (.lst xs))):=fun b u e=>by
 rw [upd_ne (ne_of_none e hn)];exact s b u e
theorem zhK {l:Z.LF} (h:DL X e l):DE X e (Z.eL l):=by
 intro pins s σ H Q I w
 obtain ⟨ρ,d,r,e,k⟩:=w
 unfold Z.eL at e
 cases q:l ρ with
 | bad=>rw [q] at e;cases e
 | ok ds =>
  rw [q] at e;cases e
  refine thn (h pins s σ H (fun v H1=>∃ a vs,v=.ref a∧Same H H1∧H a=none∧H1 a=some (.lst vs)∧zaE X.K H1 ds vs) I ⟨ρ,ds,r,q,fun a vs H1 s1 hn h1 h2=>⟨a,vs,rfl,s1,hn,h1,h2⟩⟩) ?_
  rintro u s' ⟨v,H1,I1,rv,a,vs,rfl,s1,hn,h1,h2⟩
  obtain ⟨o,I2⟩:=zfJ I1 h1
  exact ⟨_,_,I2,rv,k _ _ (zm4 s1 hn) (zkq (.inl ⟨o,upd_same⟩) (h2.ups (zex h1)))⟩
def OpZ (K:PySem.W.Frag) (r:R2) (o:Z.D→Z.D→Z.Res Z.D):Prop:=∀ (x y:V) (dx dy d:Z.D) (H:Hp) (Q:VK),zcv K H dx x→zcv K H dy y→o dx dy=.ok d→(∀ v H',Same H H'→Den K H' d v→Q v H')→r x y H Q
theorem two {r:R2} {o:Z.D→Z.D→Z.Res Z.D} (hz:OpZ X.K r o):∀ σ H Q,tZ X.K (Z.eB o fa fb) σ H Q→tOp r (tZw X.K fa) (tZw X.K fb) σ H Q:=by
 rintro σ H Q ⟨ρ,d,re,e,k⟩
 obtain ⟨x,ea,e⟩:=Z.Res.bind_ok e
 obtain ⟨y,eb,e⟩:=Z.Res.bind_ok e
 exact ⟨ρ,x,re,ea,fun v H1 s1 d1=>⟨ρ,y,re.up s1,eb,fun u H2 s2 d2=>hz _ _ _ _ _ H2 Q (d1.up s2) d2 e fun w H' s3 dw=>k w H' ((s1.trans s2).trans s3) dw⟩⟩
theorem zlA {op:Operator} {r:R2} {o:Z.D→Z.D→Z.Res Z.D} (hr:OpR X (binaryOp op) r) (hz:OpZ X.K r o) (ha:DW X a fa) (hb:DW X b fb):DE X (.BinOp a op b pos) (Z.eB o fa fb) :=
 PE.imp (pe_op hr ha hb) (two hz)
theorem OpZ.or {K:PySem.W.Frag} {r r':R2} {o:Z.D→Z.D→Z.Res Z.D} (h:∀ (x y:V) (dx dy d:Z.D) (H:Hp) (Q:VK),zcv K H dx x→zcv K H dy y→o dx dy=.ok d→(∀ v H',Same H H'→Den K H' d v→Q v H')→r x y H Q∨r' x y H Q):OpZ K (fun x y H Q=>r x y H Q∨r' x y H Q) o:=h
theorem zhU {K:PySem.W.Frag} {C:Int→Int→Prop} {g:Int→Int→Int} {o:Z.D→Z.D→Z.Res Z.D} (h:∀ dx dy d,o dx dy=.ok d→∃ i j,dx=.int i∧dy=.int j∧C i j∧d=.int (g i j)):OpZ K (rI C fun i j=>.int (g i j)) o:=by
 intro x y dx dy d H Q h1 h2 e k
 obtain ⟨i,j,rfl,rfl,hc,rfl⟩:=h _ _ _ e
 exact ⟨i,j,h1.int,h2.int,hc,k _ H (Same.refl H) zb4⟩
theorem zfj {K:PySem.W.Frag} {g:Int→Int→V} {gd:Int→Int→Z.D} {o:Z.D→Z.D→Z.Res Z.D} (h:∀ dx dy d,o dx dy=.ok d→∃ i j,dx=.int i∧dy=.int j∧d=gd i j) (hg:∀ i j H,Den K H (gd i j) (g i j)):OpZ K (rI0 g) o:=by
 intro x y dx dy d H Q h1 h2 e k
 obtain ⟨i,j,rfl,rfl,rfl⟩:=h _ _ _ e
 exact ⟨i,j,h1.int,h2.int,k _ H (Same.refl H) (hg i j H)⟩
theorem zg6 (ha:DW X a fa) (hb:DW X b fb):DE X (.BinOp a .Sub b pos) (Z.eB Z.znf fa fb):=zlA op_sub (zfj (gd:=fun i j=>.int (i-j)) (fun dx dy d e=>by
 unfold Z.znf at e;split at e
 ·cases e;exact ⟨_,_,rfl,rfl,rfl⟩
 ·cases e) fun _ _ _=>zb4) ha hb
def zsK (i j:Int):Prop:=IntMulOk i j
theorem zos:OpR X (binaryOp .Mult) (rI zsK fun i j=>.int (i*j)):=opI fun _ _ _ _ _ _ _ hc q=>mul_int q hc
theorem zo3 (i:Int):Z.bits i=Builtin.Int.intBits i:=by
 unfold Z.bits Builtin.Int.intBits
 by_cases h:i=0
 ·subst h;simp
 ·first
   | (simp [h];done)
   | (rw [if_neg h];simp [h];done)
theorem zll {i j:Int} (h:Z.zaY i j):IntMulOk i j:=by
 unfold Z.zaY at h
 rcases h with h | h | ⟨h1,h2⟩
 ·exact IntMulOk.of_left (intBits_le_64 (by lia) (by lia))
 ·exact IntMulOk.of_right (intBits_le_64 (by lia) (by lia))
 ·rw [zo3] at h1 h2
  exact mulOk_of_bits h1 h2 (by decide)
theorem zc0 (ha:DW X a fa) (hb:DW X b fb):DE X (.BinOp a .Mult b pos) (Z.eB Z.zf7 fa fb):=zlA zos (zhU fun dx dy d e=>by
 unfold Z.zf7 at e
 split at e
 ·unfold Z.guard at e
  split at e
  ·rename_i h;cases e;exact ⟨_,_,rfl,rfl,zll h,rfl⟩
  ·cases e
 ·cases e) ha hb
def zsL (_ j:Int):Prop:=Z.zem j
theorem zlz {j:Int} (h:Z.zem j):0 < j∧j.natAbs.log2 < 9000:=by
 have h0:=h.1
 have h1:=h.2
 have hn:j.natAbs≠0:=by lia
 have h2:j.natAbs < 2 ^ 250:=by
  have:(2:Nat) ^ 250=1809251394333065553493296640760748560207343510400633813116524750123642650624:=by decide
  lia
 have:=(Nat.log2_lt hn).mpr h2
 exact ⟨h0,by lia⟩
theorem zot:OpR X (binaryOp .FloorDiv) (rI zsL fun i j=>.int (i / j)):=opI fun i j _ _ _ _ _ hc q=>by
 obtain ⟨h0,h1⟩:=zlz hc
 have e:i.fdiv j=i / j:=Int.fdiv_eq_ediv_of_nonneg i (Int.le_of_lt h0)
 exact floordiv_int (Int.ne_of_gt h0) (by rw [e];exact q) (.inl (PyProof.noPylong_of_log2 h1))
theorem zbk (ha:DW X a fa) (hb:DW X b fb):DE X (.BinOp a .FloorDiv b pos) (Z.eB Z.oDiv fa fb):=zlA zot (zhU fun dx dy d e=>by
 unfold Z.oDiv at e
 split at e
 ·unfold Z.guard at e
  split at e
  ·rename_i h;cases e;exact ⟨_,_,rfl,rfl,h,rfl⟩
  ·cases e
 ·cases e) ha hb
theorem zaT (ha:DW X a fa) (hb:DW X b fb):DE X (.BinOp a .Mod b pos) (Z.eB Z.oMod fa fb):=zlA op_mod (zhU fun dx dy d e=>by
 unfold Z.oMod at e
 split at e
 ·unfold Z.guard at e
  split at e
  ·rename_i h;cases e;exact ⟨_,_,rfl,rfl,h,rfl⟩
  ·cases e
 ·cases e) ha hb
theorem zg7 (ha:DW X a fa) (hb:DW X b fb):DE X (.BinOp a .Pow b pos) (Z.eB Z.ziP fa fb):=zlA op_pow (zhU fun dx dy d e=>by
 unfold Z.ziP at e
 split at e
 ·unfold Z.guard at e
  split at e
  ·rename_i h;cases e;exact ⟨_,_,rfl,rfl,h,rfl⟩
  ·cases e
 ·cases e) ha hb
noncomputable def zrA (K:PySem.W.Frag):R2:=fun x y H Q=>∃ a b xs ys,x=.ref a∧y=.ref b∧SqT K H a xs∧SqT K H b ys∧xs.length+ys.length≤sizeLine ∧
 (xs=[]→Q (.ref b) H)∧(ys=[]→Q (.ref a) H)∧(∀ p,H p=none→Q (.ref p) (upd H p (.tup (xs++ys))))
theorem zou:OpR X (binaryOp .Add) (zrA X.K):=by
 intro pins s σ H x y v u Q I rx ry h
 obtain ⟨p,q,xs,ys,rfl,rfl,hp,hq,hz,q0,q1,q2⟩:=h
 by_cases hx:xs=[]
 ·cases rx
  cases ry
  obtain ⟨its,r1,ht,_⟩:=I.tuple hp
  obtain ⟨its2,r2,hb,_⟩:=I.tuple hq
  obtain ⟨⟨cls,dd,data,sl⟩,ho,hc,n,hd⟩:=id ht
  obtain ⟨⟨cls2,dd2,data2,sl2⟩,ho2,hc2,n2,hd2⟩:=id hb
  simp only at hc hd hc2 hd2
  subst hc hd hc2 hd2
  have e0:its=[]:=r1.nil_iff.mpr hx
  exact concat_meets ⟨_,ho,rfl⟩ ⟨_,ho2,rfl⟩ noFill_tuple_add seq_tuple_add PySem.F.slot_tuple_add PySem.F.entry_tuple_add (PySem.F.args_tuple_add_2 _ _)
   (tuple_addW0 p q its.toArray its2.toArray n n2 dd dd2 sl sl2 (by simp [e0])) ⟨ho,ho2,⟨.ref q,H,I,rfl,q0 hx⟩⟩
 ·exact zov pins s σ H _ _ v u Q I rx ry ⟨p,q,xs,ys,rfl,rfl,hp,hq,hx,hz,q1,fun _=>q2⟩
theorem zoa (a b:List Nat):(⟨a.toArray⟩:Str)++(⟨b.toArray⟩:Str)=⟨(a++b).toArray⟩:=by
 show (⟨a.toArray++b.toArray⟩:Str)=_
 simp
theorem zam (ha : DW X a fa) (hb : DW X b fb) : DE X (.BinOp a .Add b pos) (Z.eB Z.zbh fa fb) := zlA (op_add.or (op_add_str.or zou)) (fun x y dx dy d H Q h1 h2 e k => by
 unfold Z.zbh at e
 split at e
 ·cases e
  exact .inl ⟨_,_,h1.int,h2.int,k _ H (Same.refl H) zb4⟩
 ·unfold Z.guard at e
  split at e
  ·rename_i as bs h;cases e
   refine .inr (.inl ⟨_,_,h1.str,h2.str,?_,?_⟩)
   ·show as.toArray.size+bs.toArray.size≤sizeLine
    rw [sizeLine_eq];simpa using h
   ·rw [zoa];exact k _ H (Same.refl H) ze4
  ·cases e
 ·unfold Z.guard at e
  split at e
  ·rename_i as bs h;cases e
   obtain ⟨p,xs,rfl,hp,t1⟩:=h1.tup
   obtain ⟨q,ys,rfl,hq,t2⟩:=h2.tup
   refine .inr (.inr ⟨p,q,xs,ys,rfl,rfl,hp,hq,?_,?_,?_,?_⟩)
   ·rw [t1.length,t2.length,sizeLine_eq];exact h
   ·rintro rfl
    have:as=[]:=List.eq_nil_of_length_eq_zero (by rw [←t1.length];rfl)
    subst this
    exact k _ H (Same.refl H) (zdr hq t2)
   ·rintro rfl
    have:bs=[]:=List.eq_nil_of_length_eq_zero (by rw [←t2.length];rfl)
    subst this
    rw [List.append_nil] at k
    exact k _ H (Same.refl H) (zdr hp t1)
   ·intro z hn
    have s1:Same H (upd H z (.tup (xs++ys))):=zb0 hn
    exact k _ _ s1 (zdr (.inl (.inl upd_same)) ((t1.append t2).up s1))
  ·cases e
 ·cases e) ha hb
theorem zg9 (ha:DW X a fa):DE X (.UnaryOp .USub a pos) (Z.eU Z.zni fa):=PE.imp (pe_un un_neg ha) fun σ H Q ⟨ρ,d,r,e,k⟩=>by
 obtain ⟨x,ea,e⟩:=Z.Res.bind_ok e
 refine ⟨ρ,x,r,ea,fun v H1 s1 d1=>?_⟩
 unfold Z.zni at e
 split at e
 ·cases e;exact ⟨_,d1.int,k _ H1 s1 zb4⟩
 ·cases e
end
end ZS
namespace ZS
section
open PySem Builtin Builtin.Str
theorem zjP (t:List Nat):(⟨t.toArray⟩:Str).length=t.length:=by simp [Str.length]
theorem znF (n d:Nat) (i:Int):max 0 (min (if i < 0 then i+(n:Int) else i) (n:Int))=((Z.sIx n d (some i):Nat):Int):=by
 show max 0 (min (if i < 0 then i+(n:Int) else i) (n:Int))=(((if i < 0 then (i+(n:Int)).toNat else min i.toNat n):Nat):Int)
 by_cases h:i < 0
 ·simp only [if_pos h];lia
 ·simp only [if_neg h];lia
theorem slR (a b:Nat):sliceRange (a:Int) (b:Int) 1=(List.range (b-a)).map (fun k=>a+k):=by
 unfold sliceRange
 simp only [show (1:Int) > 0 by decide,if_true]
 have e:(if (a:Int) < (b:Int) then ((b:Int)-(a:Int)+1-1) / 1 else 0).toNat=b-a:=by
  split
  ·rw [Int.ediv_one];lia
  ·lia
 rw [e]
 apply List.map_congr_left
 intro k _
 lia
theorem ztX (lo hi:Option Int) (n:Nat):strSliceIndices lo hi 1 n=(List.range (Z.sIx n n hi-Z.sIx n 0 lo)).map (fun k=>Z.sIx n 0 lo+k):=by
 unfold strSliceIndices
 simp only [show (1:Int) > 0 by decide,if_true]
 rw [←slR]
 cases lo with
 | none =>
  cases hi with
  | none=>rfl
  | some j=>simp only [znF n n j];rfl
 | some i =>
  cases hi with
  | none=>simp only [znF n 0 i];rfl
  | some j=>simp only [znF n 0 i,znF n n j]
theorem zkN (n d:Nat) (hd:d≤n) (o:Option Int):Z.sIx n d o≤n:=by
 cases o with
 | none=>exact hd
 | some v =>
  show (if v < 0 then (v+(n:Int)).toNat else min v.toNat n)≤n
  split<;>lia
theorem pick (cs:List Nat):∀ (k a:Nat),a+k≤cs.length→((List.range k).map (fun j=>a+j)).filterMap (fun i=>cs.toArray[i]?)=(cs.drop a).take k:=by
 intro k
 induction k with
 | zero=>intro a _;simp
 | succ k ih =>
  intro a h
  rw [List.range_succ,List.map_append,List.filterMap_append,ih a (by lia)]
  have hlt:a+k < cs.length:=by lia
  rw [List.take_succ]
  simp [hlt]
theorem zri (cs:List Nat) (lo hi:Option Int):Txt.slice ⟨cs.toArray⟩ lo hi=⟨(Z.cut cs lo hi).toArray⟩:=by
 unfold Txt.slice
 rw [zjP,ztX]
 have h1:=zkN cs.length cs.length (Nat.le_refl _) hi
 have h0:=zkN cs.length 0 (Nat.zero_le _) lo
 have hp:((List.range (Z.sIx cs.length cs.length hi-Z.sIx cs.length 0 lo)).map (fun k=>Z.sIx cs.length 0 lo+k)).filterMap (fun i=>cs.toArray[i]?)=Z.cut cs lo hi:=by
  unfold Z.cut
  exact pick cs _ _ (by lia)
 split
 ·rename_i hh
  have hlen:(List.range (Z.sIx cs.length cs.length hi-Z.sIx cs.length 0 lo)).length=cs.length:=by
   simp only [beq_self_eq_true,Bool.true_and,beq_iff_eq,List.length_map] at hh
   exact hh
  rw [List.length_range] at hlen
  unfold Z.cut
  have e0:Z.sIx cs.length 0 lo=0:=by lia
  have e1:Z.sIx cs.length cs.length hi-Z.sIx cs.length 0 lo=cs.length:=by lia
  rw [e1,e0]
  simp
 ·rw [hp]
end
open PySem PySem.Spec PyProof.Rows L2
section
variable {X:Cx} {e a b c:Expr} {es:List Expr} {pos p:Pos} {f fa fb fc:Z.EF}
theorem zqj {op:CmpOp} {r:R2} {o:Z.D→Z.D→Z.Res Z.D} (hr:OpR X (compareOp op) r) (hz:OpZ X.K r o) (ha:DW X a fa) (hb:DW X b fb) (hm:behindInMarks op b=false):DE X (.Compare a [op] [b] pos) (Z.eB o fa fb) :=
 PE.imp (pe_cmpR hr ha hb hm) (two hz)
theorem znz {t:TE} (h:PT X e (tTest t)) (k:∀ σ H Q,tZ X.K f σ H Q→t σ H Q):DT X e (Z.tE f):=PT.imp h fun σ H Q ⟨ρ,b,r,e,q⟩=>by
 obtain ⟨x,ea,e⟩:=Z.Res.bind_ok e
 refine k σ H _ ⟨ρ,x,r,ea,fun v H' s d=>?_⟩
 split at e
 ·cases e
  simp only [Den] at d
  exact ⟨_,d,q H' s⟩
 ·cases e
theorem zqd {op:CmpOp} {r:R2} {o:Z.D→Z.D→Z.Res Z.D} (hr:OpR X (compareOp op) r) (hz:OpZ X.K r o) (ha:DW X a fa) (hb:DW X b fb) (hm:behindInMarks op b=false):DT X (.Compare a [op] [b] pos) (Z.tE (Z.eB o fa fb)) :=
 znz (pt_cmpR hr ha hb hm) (two hz)
structure Cmp (X:Cx) (op:CmpOp) (o:Z.D→Z.D→Z.Res Z.D):Prop where
 ex:∃ r,OpR X (compareOp op) r∧OpZ X.K r o
theorem zcK {op:CmpOp} {o:Z.D→Z.D→Z.Res Z.D} (h:Cmp X op o) (ha:DW X a fa) (hb:DW X b fb) (hm:behindInMarks op b=false):DE X (.Compare a [op] [b] pos) (Z.eB o fa fb) :=
 let ⟨_,hr,hz⟩:=h.ex;zqj hr hz ha hb hm
theorem zas {op:CmpOp} {o:Z.D→Z.D→Z.Res Z.D} (h:Cmp X op o) (ha:DW X a fa) (hb:DW X b fb) (hm:behindInMarks op b=false):DT X (.Compare a [op] [b] pos) (Z.tE (Z.eB o fa fb)) :=
 let ⟨_,hr,hz⟩:=h.ex;zqd hr hz ha hb hm
theorem zji {r r':R2} {o o':Z.D→Z.D→Z.Res Z.D} (hz:OpZ X.K r o) (hz':OpZ X.K r' o'):∀ σ H Q,tZ X.K (Z.zeS o o' fa fb fc) σ H Q→tChain r r' (tZw X.K fa) (tZw X.K fb) (tZw X.K fc) σ H Q:=by
 rintro σ H Q ⟨ρ,d,re,e,k⟩
 obtain ⟨x,ea,e⟩:=Z.Res.bind_ok e
 obtain ⟨y,eb,e⟩:=Z.Res.bind_ok e
 obtain ⟨z,eo,e⟩:=Z.Res.bind_ok e
 refine ⟨ρ,x,re,ea,fun v H1 s1 d1=>⟨ρ,y,re.up s1,eb,fun u H2 s2 d2=>hz _ _ _ _ _ H2 _ (d1.up s2) d2 eo fun w H3 s3 dw=>?_⟩⟩
 have s13:Same H H3:=(s1.trans s2).trans s3
 split at e
 ·rename_i q
  simp only [Den] at dw
  refine ⟨_,dw,?_⟩
  cases q with
  | true =>
   simp only [if_true] at e ⊢
   obtain ⟨t,ec,e⟩:=Z.Res.bind_ok e
   exact ⟨ρ,t,re.up s13,ec,fun v' H4 s4 d4=>hz' _ _ _ _ _ H4 Q ((d2.up s3).up s4) d4 e fun w' H5 s5 dw'=>k w' H5 ((s13.trans s4).trans s5) dw'⟩
  | false =>
   simp only [Bool.false_eq_true,if_false] at e ⊢
   cases e
   exact k _ H3 s13 zcZ
 ·cases e
theorem ziu {op op':CmpOp} {o o':Z.D→Z.D→Z.Res Z.D} (h:Cmp X op o) (h':Cmp X op' o') (ha:DW X a fa) (hb:DW X b fb) (hc:DW X c fc)
  (hm:lastMarks [op,op'] [b,c]=false:=by with_unfolding_all rfl):DE X (.Compare a [op,op'] [b,c] pos) (Z.zeS o o' fa fb fc) :=
 let ⟨_,hr,hz⟩:=h.ex;let ⟨_,hr',hz'⟩:=h'.ex;PE.imp (pe_chain hr hr' ha hb hc hm) (zji hz hz')
theorem zfs {op op':CmpOp} {o o':Z.D→Z.D→Z.Res Z.D} (h:Cmp X op o) (h':Cmp X op' o') (ha:DW X a fa) (hb:DW X b fb) (hc:DW X c fc)
  (hm:lastMarks [op,op'] [b,c]=false:=by with_unfolding_all rfl):DT X (.Compare a [op,op'] [b,c] pos) (Z.tE (Z.zeS o o' fa fb fc)) :=
 let ⟨_,hr,hz⟩:=h.ex;let ⟨_,hr',hz'⟩:=h'.ex;znz (pt_chain hr hr' ha hb hc hm) (zji hz hz')
theorem zqo:Cmp X .Lt Z.oLt:=⟨_,op_lt,zfj (gd:=fun i j=>.bl (decide (i < j))) (fun dx dy d e=>by
 unfold Z.oLt at e;split at e
 ·cases e;exact ⟨_,_,rfl,rfl,rfl⟩
 ·cases e) fun _ _ _=>zcZ⟩
theorem zo2:Cmp X .Gt Z.oGt:=⟨_,op_gt,zfj (gd:=fun i j=>.bl (decide (j < i))) (fun dx dy d e=>by
 unfold Z.oGt at e;split at e
 ·cases e;exact ⟨_,_,rfl,rfl,rfl⟩
 ·cases e) fun _ _ _=>zcZ⟩
theorem zsu:Cmp X .GtE Z.oGe:=⟨_,op_ge,zfj (gd:=fun i j=>.bl (decide (j≤i))) (fun dx dy d e=>by
 unfold Z.oGe at e;split at e
 ·cases e;exact ⟨_,_,rfl,rfl,rfl⟩
 ·cases e) fun _ _ _=>zcZ⟩
theorem zlZ:OpR X (compareOp .LtE) (fun x y H Q=>∃ i j,x=.str i∧y=.str j∧Q (.bl (!decide (j.cps.toList < i.cps.toList))) H):=by
 intro pins s σ H x y v u Q I rx ry h
 obtain ⟨i,j,rfl,rfl,q⟩:=h
 obtain ⟨t,rfl⟩:=rx
 obtain ⟨t',rfl⟩:=ry
 exact PySem.P.le_str (fin_bl I q rfl)
theorem znV:∀ (a b:List Nat),Z.ltC a b=decide (a < b)
 | [],[]=>by simp [Z.ltC]
 | [],_ :: _=>by simp [Z.ltC]
 | _ :: _,[]=>by simp [Z.ltC]
 | a :: as,b :: bs=>by
  unfold Z.ltC
  rw [znV as bs]
  by_cases h:a < b
  ·simp [h,List.cons_lt_cons_iff]
  ·by_cases h2:a=b
   ·subst h2;simp [List.cons_lt_cons_iff]
   ·simp [h,h2,List.cons_lt_cons_iff]
theorem zjo:Cmp X .LtE Z.oLe:=⟨_,op_le.or zlZ,fun x y dx dy d H Q h1 h2 e k=>by
 unfold Z.oLe at e
 split at e
 ·cases e;exact .inl ⟨_,_,h1.int,h2.int,k _ H (Same.refl H) zcZ⟩
 ·cases e
  refine .inr ⟨_,_,h1.str,h2.str,?_⟩
  rename_i as bs
  have q:=k (.bl (!Z.ltC bs as)) H (Same.refl H) zcZ
  rw [znV] at q
  exact q
 ·cases e⟩
noncomputable def zr3:Z.D→Bool
 | .non=>true
 | _=>false
theorem znS {K:PySem.W.Frag} {H:Hp} {d:Z.D} {v:V} (h:zcv K H d v):decide (v=.non)=zr3 d:=by
 cases d with
 | non=>rw [h.non];rfl
 | bl b=>rw [h.bl];rfl
 | int i=>rw [h.int];rfl
 | str cs=>rw [h.str];rfl
 | tup ds=>obtain ⟨a,vs,rfl,_⟩:=h.tup;rfl
 | lst ds=>obtain ⟨a,vs,rfl,_⟩:=h.lst;rfl
 | dct ks ds=>obtain ⟨a,o,kvs,rfl,_⟩:=h.dct;rfl
theorem zmh:∀ σ H Q,tZ X.K (Z.eU Z.ziR fa) σ H Q→tOp (fun x y H Q=>y=.non∧Q (.bl (decide (x=.non))) H) (tZw X.K fa) (tC .non) σ H Q:=by
 rintro σ H Q ⟨ρ,d,r,e,k⟩
 obtain ⟨x,ea,e⟩:=Z.Res.bind_ok e
 refine ⟨ρ,x,r,ea,fun v H1 s1 d1=>⟨rfl,?_⟩⟩
 rw [znS d1]
 cases x<;>(cases e;exact k _ H1 s1 zcZ)
theorem zno:∀ σ H Q,tZ X.K (Z.eU Z.ze1 fa) σ H Q→tOp (fun x y H Q=>y=.non∧Q (.bl (!decide (x=.non))) H) (tZw X.K fa) (tC .non) σ H Q:=by
 rintro σ H Q ⟨ρ,d,r,e,k⟩
 obtain ⟨x,ea,e⟩:=Z.Res.bind_ok e
 refine ⟨ρ,x,r,ea,fun v H1 s1 d1=>⟨rfl,?_⟩⟩
 rw [znS d1]
 cases x<;>(cases e;exact k _ H1 s1 zcZ)
theorem zmy {j pos'} (ha:DW X a fa):DE X (.Compare a [.Is] [.Constant .none j pos'] pos) (Z.eU Z.ziR fa):=PE.imp (pe_cmpR op_isN ha pe_non (nomark _)) zmh
theorem zhG {j pos'} (ha:DW X a fa):DT X (.Compare a [.Is] [.Constant .none j pos'] pos) (Z.tE (Z.eU Z.ziR fa)):=znz (pt_cmpR op_isN ha pe_non (nomark _)) zmh
theorem zfP {j pos'} (ha:DW X a fa):DT X (.Compare a [.IsNot] [.Constant .none j pos'] pos) (Z.tE (Z.eU Z.ze1 fa)):=znz (pt_cmpR op_notN ha pe_non (nomark _)) zno
theorem zd2 {op} (h:DE X a fa):DE X (.BoolOp op [a] pos) fa:=pe_one h
theorem zeV {rest:List Expr} (ha:DE X a fa) (hb:DE X (.BoolOp .And (b :: rest) pos) fb):DE X (.BoolOp .And (a :: b :: rest) pos) (Z.zmp fa fb):=PE.imp (pe_and ha hb) fun σ H Q ⟨ρ,d,r,e,k⟩=>by
 obtain ⟨x,ea,e⟩:=Z.Res.bind_ok e
 refine ⟨ρ,x,r,ea,fun v H1 s1 d1=>?_⟩
 split at e
 ·rename_i q
  simp only [Den] at d1
  refine ⟨q,d1,?_⟩
  cases q with
  | true =>
   simp only [if_true] at e ⊢
   exact ⟨ρ,d,r.up s1,e,fun w H' s2 dw=>k w H' (s1.trans s2) dw⟩
  | false =>
   simp only [Bool.false_eq_true,if_false] at e ⊢
   cases e
   exact k _ H1 s1 zcZ
 ·cases e
theorem zmw {rest:List Expr} (ha:DE X a fa) (hb:DE X (.BoolOp .Or (b :: rest) pos) fb):DE X (.BoolOp .Or (a :: b :: rest) pos) (Z.eOr fa fb):=PE.imp (pe_or ha hb) fun σ H Q ⟨ρ,d,r,e,k⟩=>by
 obtain ⟨x,ea,e⟩:=Z.Res.bind_ok e
 refine ⟨ρ,x,r,ea,fun v H1 s1 d1=>?_⟩
 split at e
 ·rename_i q
  simp only [Den] at d1
  refine ⟨q,d1,?_⟩
  cases q with
  | false =>
   simp only [Bool.false_eq_true,if_false] at e ⊢
   exact ⟨ρ,d,r.up s1,e,fun w H' s2 dw=>k w H' (s1.trans s2) dw⟩
  | true =>
   simp only [if_true] at e ⊢
   cases e
   exact k _ H1 s1 zcZ
 ·cases e
theorem zmx (ha:DE X a fa):DE X (.UnaryOp .Not a pos) (Z.zq0 fa):=PE.imp (pe_not ha) fun σ H Q ⟨ρ,d,r,e,k⟩=>by
 obtain ⟨x,ea,e⟩:=Z.Res.bind_ok e
 refine ⟨ρ,x,r,ea,fun v H1 s1 d1=>?_⟩
 split at e
 ·simp only [Den] at d1
  cases e
  exact ⟨_,d1,k _ H1 s1 zcZ⟩
 ·cases e
theorem zpl:∀ σ H (Q:Bool→Hp→Prop),tZt X.K (Z.tE f) σ H Q→tB (tZ X.K f) σ H Q:=by
 rintro σ H Q ⟨ρ,b,r,e,q⟩
 obtain ⟨x,ea,e⟩:=Z.Res.bind_ok e
 refine ⟨ρ,x,r,ea,fun v H' s d=>?_⟩
 split at e
 ·cases e
  simp only [Den] at d
  exact ⟨_,d,q H' s⟩
 ·cases e
theorem zhl (h:DE X e f) (he:∀ whole,isTrue e X.env whole=(do let v ←whole;standAt e.pos;holding [v] (truthy v)):=by intro _;rfl):DT X e (Z.tE f):=PT.imp (pt_val h he) zpl
theorem zdC {t:Z.TF} (h:DT X a t):DT X (.UnaryOp .Not a pos) (Z.tNot t):=PT.imp (pt_not h) fun σ H Q ⟨ρ,b,r,e,q⟩=>by
 obtain ⟨x,ea,e⟩:=Z.Res.bind_ok e
 cases e
 exact ⟨ρ,x,r,ea,fun H' s=>q H' s⟩
theorem zdU {t:Z.TF} (h:DT X a t):DTW X (.BoolOp .And [a] pos) t:=pw_and1 h
theorem zeF {t:Z.TF} (h:DT X a t):DTW X (.BoolOp .Or [a] pos) t:=pw_or1 h
theorem zet {t u:Z.TF} {rest:List Expr} (ha:DT X a t) (hb:DTW X (.BoolOp .And (b :: rest) pos) u):DTW X (.BoolOp .And (a :: b :: rest) pos) (Z.tAnd t u):=PW.imp (pw_and ha hb) fun σ H Q ⟨ρ,d,r,e,k⟩=>by
 obtain ⟨x,ea,e⟩:=Z.Res.bind_ok e
 refine ⟨ρ,x,r,ea,fun H1 s1=>?_⟩
 cases x with
 | true =>
  simp only [if_true] at e ⊢
  exact ⟨ρ,d,r.up s1,e,fun H' s2=>k H' (s1.trans s2)⟩
 | false =>
  simp only [Bool.false_eq_true,if_false] at e ⊢
  cases e
  exact k H1 s1
theorem ze3 {t u:Z.TF} {rest:List Expr} (ha:DT X a t) (hb:DTW X (.BoolOp .Or (b :: rest) pos) u):DTW X (.BoolOp .Or (a :: b :: rest) pos) (Z.tOr t u):=PW.imp (pw_or ha hb) fun σ H Q ⟨ρ,d,r,e,k⟩=>by
 obtain ⟨x,ea,e⟩:=Z.Res.bind_ok e
 refine ⟨ρ,x,r,ea,fun H1 s1=>?_⟩
 cases x with
 | false =>
  simp only [Bool.false_eq_true,if_false] at e ⊢
  exact ⟨ρ,d,r.up s1,e,fun H' s2=>k H' (s1.trans s2)⟩
 | true =>
  simp only [if_true] at e ⊢
  cases e
  exact k H1 s1
theorem dtw {t:Z.TF} (h:DTW X e t):DT X e t:=h.pt
theorem zgm {t:Z.TF} (hc:DT X c t) (ha:DE X a fa) (hb:DE X b fb):DE X (.IfExp c a b pos) (Z.eIf t fa fb):=PE.imp (pe_ifExp hc ha hb) fun σ H Q ⟨ρ,d,r,e,k⟩=>by
 obtain ⟨x,ea,e⟩:=Z.Res.bind_ok e
 refine ⟨ρ,x,r,ea,fun H1 s1=>?_⟩
 cases x with
 | true =>
  simp only [if_true] at e ⊢
  exact ⟨ρ,d,r.up s1,e,fun w H' s2 dw=>k w H' (s1.trans s2) dw⟩
 | false =>
  simp only [Bool.false_eq_true,if_false] at e ⊢
  exact ⟨ρ,d,r.up s1,e,fun w H' s2 dw=>k w H' (s1.trans s2) dw⟩
theorem zag:DA X [] Z.zav:=PA.imp pa_nil fun σ H Q ⟨ρ,ds,r,e,k⟩=>by
 cases e
 exact k [] H (Same.refl H) zaE.nil
theorem zen {g:Z.AF} (ha:DE X e f) (hr:DA X es g) (hs:starEach (e :: es) X.env=(false,eval e X.env) :: starEach es X.env:=by rfl):DA X (e :: es) (Z.zab f g):=PA.imp (pa_cons ha hr hs) fun σ H Q ⟨ρ,ds,r,e,k⟩=>by
 obtain ⟨x,ea,e⟩:=Z.Res.bind_ok e
 obtain ⟨xs,eb,e⟩:=Z.Res.bind_ok e
 cases e
 exact ⟨ρ,x,r,ea,fun v H1 s1 d1=>⟨ρ,xs,r.up s1,eb,fun vs H2 s2 d2=>k _ H2 (s1.trans s2) (zaE.cons (d1.up s2) d2)⟩⟩
theorem za8 {x1} {g:Z.AF} (h:DA X es g):DE X (.Tuple es x1 pos) (Z.zd1 g):=PE.imp (pe_tup h) fun σ H Q ⟨ρ,d,r,e,k⟩=>by
 obtain ⟨xs,ea,e⟩:=Z.Res.bind_ok e
 unfold Z.guard at e
 split at e
 ·rename_i hl
  cases e
  refine ⟨ρ,xs,r,ea,fun vs H1 s1 d1=>⟨by rw [d1.length,sizeLine_eq];exact hl,fun q hq=>?_⟩⟩
  have s2:Same H1 (upd H1 q (.tup vs)):=zb0 hq
  exact k _ _ (s1.trans s2) (zdr (.inl (.inl upd_same)) (d1.up s2))
 ·cases e
theorem zaz {g:Z.AF} (h:DA X es g):DL X (.List es pos) (Z.zbp g):=PE.imp (pe_lst h) fun σ H Q ⟨ρ,d,r,e,k⟩=>by
 obtain ⟨xs,ea,e⟩:=Z.Res.bind_ok e
 unfold Z.guard at e
 split at e
 ·rename_i hl
  cases e
  refine ⟨ρ,_,r,ea,fun vs H1 s1 d1=>⟨by rw [d1.length,sizeLine_eq];exact hl,fun q hq=>?_⟩⟩
  have s2:Same H1 (upd H1 q (.lst vs)):=zb0 hq
  exact k q vs _ (s1.trans s2) (s1.free hq) upd_same (d1.up s2)
 ·cases e
end
end ZS
namespace ZS
open PySem PySem.Spec PyProof.Rows L2
noncomputable def tyC:Z.Ty→String
 | .bool => "bool" | .int => "int" | .str => "str" | .tuple => "tuple" | .list => "list" | .dict => "dict"
noncomputable def tyD:Z.D→String
 | .non => "NoneType" | .bl _ => "bool" | .int _ => "int" | .str _ => "str" | .tup _ => "tuple" | .lst _ => "list" | .dct _ _ => "dict"
theorem zoJ (K:PySem.W.Frag) (t:Z.Ty) (d:Z.D):PySem.W.kitOne K (.type (tyD d)) (.type (tyC t))=some (Z.zeK t d):=by
 cases t<;>cases d<;>kernel_rfl
section
variable {X:Cx} {e a b c:Expr} {es:List Expr} {pos p:Pos} {f fa fb fc:Z.EF}
theorem znt {pins:List (Addr×Obj)} {σ:St} {H:Hp} {s:Shared} {A:Around} {E:Value→Shared→Prop} {Q:Value→Shared→Prop} {d:Z.D} {v:V} {u:Value} (t:Z.Ty) (I:Inv X pins σ H s) (hd:zcv X.K H d v) (r:RelV v u)
  (h:∀ tk,Q (.bool (Z.zeK t d)) { s with toks:=tk }):wpAny (model X.prog X.w) A (call (.builtin "isinstance") [u,.type (tyC t)]) Q E s:=by
 have e:=zoJ X.K t d
 cases d with
 | non=>rw [hd.non] at r;cases (show u=Value.none from r);exact PySem.W.kia_one PySem.W.kitx_none I.kIn True.intro e (fun z=>nomatch z) h
 | bl y=>rw [hd.bl] at r;cases (show u=Value.bool y from r);exact PySem.W.kia_one PySem.W.kitx_bool I.kIn True.intro e (fun z=>nomatch z) h
 | int i=>rw [hd.int] at r;obtain ⟨t',q⟩:=(show ∃ t,u=Value.int i t from r);cases q;exact PySem.W.kia_one PySem.W.kitx_int I.kIn True.intro e (fun z=>nomatch z) h
 | str cs=>rw [hd.str] at r;obtain ⟨t',q⟩:=(show ∃ t,u=Value.str ⟨cs.toArray⟩ t from r);cases q;exact PySem.W.kia_one PySem.W.kitx_str I.kIn True.intro e (fun z=>nomatch z) h
 | tup ds =>
  obtain ⟨a,vs,rfl,hq,_⟩:=hd.tup
  cases (show u=Value.ref a from r)
  obtain ⟨its,_,⟨o,h1,h2,_⟩,_⟩:=I.tuple hq
  exact PySem.W.kia_one PySem.W.kitx_tuple I.kIn ⟨o,h1,h2⟩ e (fun z=>nomatch z) h
 | lst ds =>
  obtain ⟨a,vs,rfl,hq,_⟩:=hd.lst
  cases (show u=Value.ref a from r)
  obtain ⟨its,_,⟨o,n,h1,h2,_⟩,_⟩:=I.list hq
  exact PySem.W.kia_one PySem.W.kitx_list I.kIn ⟨o,h1,h2⟩ e (fun z=>nomatch z) h
 | dct ks ds =>
  obtain ⟨a,o,kvs,rfl,hq,_⟩:=hd.dct
  cases (show u=Value.ref a from r)
  obtain ⟨_,_,_,_,_,o',es,ep,h1,h2,_⟩:=(show ObjOk X.prog X.w H s.heap a (.frz o (.dK kvs)) from I.hok a _ hq)
  exact PySem.W.kia_one PySem.W.kitx_dict I.kIn ⟨o',h1,h2.1⟩ e (fun z=>nomatch z) h
theorem zb6 (t:Z.Ty) {x y:Str} {p1 p2:Pos} (hg:Gl X x) (hm:X.mg x=none) (hv:bootBuiltins x=some (.builtin "isinstance")) (hg2:Gl X y) (hm2:X.mg y=none) (hv2:bootBuiltins y=some (.type (tyC t))) (ha:DW X a fa)
  (hn:x ≠ "__name__" := by decide +kernel) (hdb:(x==("__debug__" : Str))=false:=by decide +kernel) (hn2:y ≠ "__name__" := by decide +kernel) (hdb2:(y==("__debug__" : Str))=false:=by decide +kernel)
  (he:starEach (a :: [.Name y p2]) X.env=(false,eval a X.env) :: starEach [.Name y p2] X.env:=by rfl) (hpl:(backTo pos (starEach [.Name y p2] X.env)).any (·.1)=false:=by rfl) (he2:starEach ((.Name y p2) :: []) X.env=(false,eval (.Name y p2) X.env) :: starEach [] X.env:=by rfl) :
  DE X (.Call (.Name x p1) [a,.Name y p2] [] pos) (Z.eU (Z.zfH t) fa):=by
 have hc:CallR X (.builtin "isinstance") (fun xs H Q=>∃ v d,xs=[v,.ty (tyC t)]∧zcv X.K H d v∧Q (.bl (Z.zeK t d)) H):=by
  intro pins s σ H xs us Q I r h
  obtain ⟨v,d,rfl,hd,q⟩:=h
  obtain ⟨u,w',rfl,r1,r2⟩:=vals2 r
  cases (show w'=Value.type (tyC t) from r2)
  exact znt t I hd r1 fun tk=>⟨.bl _,H,I.tok _,rfl,q⟩
 refine PE.imp (pe_callB hc hg hm hv (pa_cons ha (pa_cons (pe_bltn (v:=.ty (tyC t)) hg2 hm2 hv2 rfl hn2 hdb2) pa_nil he2) he) hn hdb he hpl) fun σ H Q ⟨ρ,d,r,e,k⟩=>?_
 obtain ⟨x,ea,e⟩:=Z.Res.bind_ok e
 cases e
 exact ⟨ρ,x,r,ea,fun v H1 s1 d1=>⟨v,x,rfl,d1,k _ H1 s1 zcZ⟩⟩
theorem zbb {x : Str} {p1 : Pos} (hg : Gl X x) (hm : X.mg x = none) (hv : bootBuiltins x = some (.builtin "len")) (ha : DW X a fa) (hn : x ≠ "__name__" := by decide +kernel) (hdb : (x == ("__debug__" : Str)) = false := by decide +kernel)
  (he:starEach (a :: []) X.env=(false,eval a X.env) :: starEach [] X.env:=by rfl) (hpl:(backTo pos (starEach [] X.env)).any (·.1)=false:=by rfl):DE X (.Call (.Name x p1) [a] [] pos) (Z.eU Z.zdh fa) :=
 PE.imp (pe_callB call_len hg hm hv (pa_cons ha pa_nil he) hn hdb he hpl) fun σ H Q ⟨ρ,d,r,e,k⟩=>by
  obtain ⟨x,ea,e⟩:=Z.Res.bind_ok e
  refine ⟨ρ,x,r,ea,fun v H1 s1 d1=>?_⟩
  unfold Z.zdh at e
  split at e
  ·unfold Z.guard at e
   split at e
   ·rename_i cs hl
    cases e
    rw [d1.str]
    refine ⟨_,cs.length,rfl,⟨?_,?_⟩,k _ H1 s1 zb4⟩
    ·show cs.toArray.size≤sizeLine
     rw [sizeLine_eq];simpa using hl
    ·show cs.length=cs.toArray.size
     simp
   ·cases e
  ·cases e
   obtain ⟨q,vs,rfl,hq,t⟩:=d1.tup
   refine ⟨_,_,rfl,.inr ⟨vs,hq,rfl⟩,?_⟩
   rw [t.length]
   exact k _ H1 s1 zb4
  ·cases e
   obtain ⟨q,vs,rfl,hq,t⟩:=d1.lst
   refine ⟨_,_,rfl,.inl ⟨vs,hq,rfl⟩,?_⟩
   rw [t.length]
   exact k _ H1 s1 zb4
  ·cases e
theorem zpW (n:Nat) (i:Int):Z.ixZ n i=ixN n i:=rfl
theorem atZ {K:PySem.W.Frag} {H:Hp} {ds:List Z.D} {vs:List V} {i:Int} {d:Z.D} (t:zaE K H ds vs) (h:((Z.ixZ ds.length i).bind fun j=>ds[j]?)=some d):∃ v,atI vs i=some v∧Den K H d v:=by
 unfold atI
 rw [t.length,←zpW]
 cases q:Z.ixZ ds.length i with
 | none=>rw [q] at h;cases h
 | some j =>
  rw [q] at h
  exact t.get h
theorem zal (ha : DW X a fa) (hb : DW X b fb) (hs : PlainIx b := by intro _ _; rfl) : DE X (.Subscript a b pos) (Z.eB Z.oIx fa fb) := PE.imp (pe_ix zpV ha hb hs) (two fun x y dx dy d H Q h1 h2 e k => by
 unfold Z.oIx at e
 split at e
 ·obtain ⟨q,vs,rfl,hq,t⟩:=h1.tup
  split at e
  ·rename_i v hv
   cases e
   obtain ⟨w,e1,dw⟩:=atZ t hv
   exact .inr (.inl ⟨q,vs,_,w,rfl,h2.int,hq,e1,k w H (Same.refl H) dw⟩)
  ·cases e
 ·obtain ⟨q,vs,rfl,hq,t⟩:=h1.lst
  split at e
  ·rename_i v hv
   cases e
   obtain ⟨w,e1,dw⟩:=atZ t hv
   exact .inl ⟨q,vs,_,w,rfl,h2.int,hq,e1,k w H (Same.refl H) dw⟩
  ·cases e
 ·unfold Z.guard at e
  split at e
  ·rename_i cs i hl
   split at e
   ·rename_i c hc
    cases e
    refine .inr (.inr ⟨_,_,c,h1.str,h2.int,?_,?_,?_⟩)
    ·show cs.toArray.size≤sizeLine
     rw [sizeLine_eq];simpa using hl
    ·exact hc
    ·exact k _ H (Same.refl H) (ze4 (cs:=[c]))
   ·cases e
  ·cases e
 ·cases e)
theorem zfT:DP X none Z.pNo:=PO.imp zon fun σ H Q ⟨ρ,o,r,e,k⟩=>by
 cases e
 exact k H (Same.refl H)
theorem zeG (h:DW X e f):DP X (some e) (Z.pAt f):=PO.imp (zlW h) fun σ H Q ⟨ρ,o,r,e,k⟩=>by
 obtain ⟨x,ea,e⟩:=Z.Res.bind_ok e
 refine ⟨ρ,x,r,ea,fun v H1 s1 d1=>?_⟩
 split at e
 ·cases e
  exact ⟨_,d1.int,k H1 s1⟩
 ·cases e
theorem zhA (n d:Nat) (o:Option Int):Z.sIx n d o=HT.sIx n d o:=by cases o<;>rfl
theorem zmB {ds:List Z.D} {vs:List V} {K:PySem.W.Frag} {H:Hp} (t:zaE K H ds vs) (lo hi:Option Int):zaE K H (Z.cut ds lo hi) (zlE vs lo hi):=by
 unfold Z.cut zlE
 rw [zhA,zhA,t.length]
 exact (t.drop _).take _
theorem zmA {α:Type} {xs:List α} {lo hi:Option Int} (h1:HT.sIx xs.length 0 lo=0) (h2:HT.sIx xs.length xs.length hi=xs.length):Z.cut xs lo hi=xs:=by
 unfold Z.cut
 rw [zhA,zhA,h1,h2]
 simp
def ztC (K:PySem.W.Frag):V→Option Int→Option Int→Hp→VK→Prop:=fun x lo hi H Q=>∃ a xs,x=.ref a∧SqT K H a xs∧(zlE xs lo hi=xs→Q (.ref a) H)∧∀ p,H p=none→Q (.ref p) (upd H p (.tup (zlE xs lo hi)))
theorem ze2 {prog:Program} {w:World} {A:Around} {E:Value→Shared→Prop} {s:Shared} {t sl:Addr} {items:Array Value} {vl vu:Value} {lo hi:Option Int} {Q:Value→Shared→Prop} (ht:IsTup s.heap t items) (hs:s.heap.IsSliceOf sl vl vu .none) (pl:IsPart vl lo) (pu:IsPart vu hi)
  (hw:HT.sIx items.size 0 lo=0∧HT.sIx items.size items.size hi=items.size)
  (h:Q (.ref t) s):wpAny (model prog w) A (getItem (.ref t) (.ref sl)) Q E s:=by
 obtain ⟨os,hos,hcs,hds⟩:=id hs
 have hTs:s.TypeIs (.ref sl) "slice" := ⟨os,hos,hcs⟩
 unfold getItem
 try with_reducible refine wpAny_holding ?_
 first | refine wpAny_bind (wpAny_pure ?_) | skip
 refine wpAny_bind (wpAny_sequenceKey ht.typeIs (by decide) ?_)
 refine wpAny_bind (wpAny_callSpecial?_slot (name:=Str.ofString "__getitem__") ht.typeIs PyProof.Rows.slot_tuple_getitem
  (wpAny_call_entry PyProof.Rows.slot_tuple_getitem ht.typeIs entry_tuple_getitem ?_ (args_tuple_getitem _ _)))
 show wpAny _ _ (Builtin.Tuple.tupleItemsOf (.ref t) >>= _) _ _ s
 refine wpAny_bind (tupleItemsOf_ ht ?_)
 refine wpAny_bind (wpAny_typeOf hTs ?_)
 rw [if_pos (by decide)]
 refine wpAny_bind (HT.sliceApplied_gen hs pl pu ?_)
 have hyes:(((HT.sIx items.size 0 lo:Nat):Int)==0&&(1:Int)==1&&(HT.sIx items.size items.size hi-HT.sIx items.size 0 lo)==items.size)=true:=by
  rw [hw.1,hw.2];simp
 show wpAny _ _ (if (((HT.sIx items.size 0 lo:Nat):Int)==0&&(1:Int)==1&&(HT.sIx items.size items.size hi-HT.sIx items.size 0 lo)==items.size)=true then _ else _) _ _ s
 rw [if_pos hyes]
 refine wpAny_bind ?_
 unfold Builtin.Tuple.tupleIsExact
 refine wpAny_bind (wpAny_typeOf ht.typeIs ?_)
 refine wpAny_pure ?_
 rw [if_pos (beq_self_eq_true _)]
 refine wpAny_bind (wpAny_rule ?_)
 exact wpAny_pure ⟨.ref t,rfl,wpAny_pure h⟩
theorem zod:SlR X (ztC X.K):=by
 intro pins s σ H x v vl vu lo hi sl Q I rx hs pl pu h
 obtain ⟨a,xs,rfl,hx,q1,q2⟩:=h
 by_cases hw:HT.sIx xs.length 0 lo=0∧HT.sIx xs.length xs.length hi=xs.length
 ·cases rx
  obtain ⟨its,r,ht,hz⟩:=I.tuple hx
  have hlen:its.toArray.size=xs.length:=by rw [List.size_toArray];exact r.length.symm
  refine ⟨"tuple",_,PyProof.Rows.slot_tuple_getitem.lookup,ht.typeIs,?_⟩
  refine ze2 ht hs pl pu (by rw [hlen];exact hw) ⟨.ref a,H,I,rfl,q1 ?_⟩
  have:=zmA (xs:=xs) hw.1 hw.2
  unfold Z.cut at this
  rw [zhA,zhA] at this
  exact this
 ·exact zpm pins s σ H _ v vl vu lo hi sl Q I rx hs pl pu ⟨a,xs,rfl,hx,hw,q2⟩
def ztE:V→Option Int→Option Int→Hp→VK→Prop:=fun x lo hi H Q=>∃ z,x=.str z∧z.length≤sizeLine∧Q (.str (Txt.slice z lo hi)) H
theorem znP {v:Value} {o:Option Int} (h:IsPart v o):∃ q:Option (Int×Tok),v=partValue q∧q.map (·.1)=o:=by
 cases h with
 | none=>exact ⟨none,rfl,rfl⟩
 | int i t=>exact ⟨some (i,t),rfl,rfl⟩
theorem zoe:SlR X ztE:=by
 intro pins s σ H x v vl vu lo hi sl Q I rx hs pl pu h
 obtain ⟨z,rfl,hz,q⟩:=h
 obtain ⟨t,rfl⟩:=rx
 obtain ⟨ql,rfl,rfl⟩:=znP pl
 obtain ⟨qu,rfl,rfl⟩:=znP pu
 refine ⟨"str",_,F.slot_str_getitem.lookup,typeIs_str _ _ _,?_⟩
 refine wpAny_getItem_str_slice (l:=ql) (u:=qu) (st:=none) hs rfl ?_
 refine post_val_or_str ⟨Nat.le_trans (Txt.slice_le z _ _) hz,fun t' k=>⟨.str _,H,I.tok _,⟨t',rfl⟩,q⟩⟩
theorem zcH {lo hi : Option Expr} {gl gh : Z.PF} {p2 : Pos} (ha : DW X a fa) (hl : DP X lo gl) (hh : DP X hi gh) : DE X (.Subscript a (.Slice lo hi none p2) pos) (Z.eSl fa gl gh) :=
 PE.imp (zkP (zoe.or zod) ha hl hh) fun σ H Q ⟨ρ,d,r,e,k⟩=>by
  obtain ⟨x,ea,e⟩:=Z.Res.bind_ok e
  obtain ⟨l,el,e⟩:=Z.Res.bind_ok e
  obtain ⟨h,eh,e⟩:=Z.Res.bind_ok e
  refine ⟨ρ,x,r,ea,fun v H1 s1 d1=>⟨ρ,l,r.up s1,el,fun H2 s2=>⟨ρ,h,(r.up s1).up s2,eh,fun H3 s3=>?_⟩⟩⟩
  have s13:Same H H3:=(s1.trans s2).trans s3
  have d3:=(d1.up s2).up s3
  unfold Z.oSl at e
  split at e
  ·unfold Z.guard at e
   split at e
   ·rename_i cs _ _ hl
    cases e
    refine .inl ⟨_,d3.str,?_,?_⟩
    ·show cs.toArray.size≤sizeLine
     rw [sizeLine_eq];simpa using hl
    ·rw [zri];exact k _ H3 s13 ze4
   ·cases e
  ·cases e
   obtain ⟨q,vs,rfl,hq,t⟩:=d3.tup
   refine .inr ⟨q,vs,rfl,hq,fun hw=>?_,fun z hz=>?_⟩
   ·have:=zmB t l h
    rw [hw] at this
    exact k _ H3 s13 (zdr hq this)
   ·have s4:Same H3 (upd H3 z (.tup (zlE vs l h))):=zb0 hz
    exact k _ _ (s13.trans s4) (zdr (.inl (.inl upd_same)) ((zmB t l h).up s4))
  ·cases e
theorem zgk {lo hi:Option Expr} {gl gh:Z.PF} {p2:Pos} (ha:DW X a fa) (hl:DP X lo gl) (hh:DP X hi gh):DL X (.Subscript a (.Slice lo hi none p2) pos) (Z.lSl fa gl gh) :=
 PE.imp (zkP zof ha hl hh) fun σ H Q ⟨ρ,d,r,e,k⟩=>by
  obtain ⟨x,ea,e⟩:=Z.Res.bind_ok e
  obtain ⟨l,el,e⟩:=Z.Res.bind_ok e
  obtain ⟨h,eh,e⟩:=Z.Res.bind_ok e
  refine ⟨ρ,x,r,ea,fun v H1 s1 d1=>⟨ρ,l,r.up s1,el,fun H2 s2=>⟨ρ,h,(r.up s1).up s2,eh,fun H3 s3=>?_⟩⟩⟩
  have s13:Same H H3:=(s1.trans s2).trans s3
  have d3:=(d1.up s2).up s3
  split at e
  ·cases e
   obtain ⟨q,vs,rfl,hq,t⟩:=d3.lst
   refine ⟨q,vs,rfl,hq,fun z hz=>?_⟩
   have s4:Same H3 (upd H3 z (.lst (zlE vs l h))):=zb0 hz
   exact k z _ _ (s13.trans s4) (s13.free hz) upd_same ((zmB t l h).up s4)
  ·cases e
noncomputable def zrC (K:PySem.W.Frag):R2:=fun x y H Q=>∃ l b xs zs,x=.ref l∧y=.ref b∧SqL K H l xs∧SqL K H b zs∧xs.length+zs.length≤sizeLine∧∀ p,H p=none→Q (.ref p) (upd H p (.lst (xs++zs)))
theorem zow:OpR X (binaryOp .Add) (zrC X.K):=by
 intro pins s σ H x y v u Q I rx ry h
 obtain ⟨l,b,xs,zs,rfl,rfl,hH,hB,hz,q⟩:=h
 cases rx
 cases ry
 obtain ⟨its,r,pl,_⟩:=I.list hH
 obtain ⟨its2,r2,pl2,_⟩:=I.list hB
 have hl:=r.length
 have hl2:=r2.length
 obtain ⟨⟨cls,dd,data,sl⟩,ho,hc,n,hd⟩:=id pl.isList
 obtain ⟨⟨cls2,dd2,data2,sl2⟩,ho2,hc2,n2,hd2⟩:=id pl2.isList
 simp only at hc hd hc2 hd2
 subst hc hd hc2 hd2
 have ea:its.toArray++its2.toArray=(its++its2).toArray:=by simp
 refine concat_meets ⟨_,ho,rfl⟩ ⟨_,ho2,rfl⟩ noFill_list_add seq_list_add PySem.F.slot_list_add PySem.F.entry_list_add (PySem.F.args_list_add_2 _ _) (list_addW l b its.toArray its2.toArray n n2 dd dd2 sl sl2 (by simp only [List.size_toArray];lia)) ⟨ho,ho2,?_⟩
 rw [ea]
 exact ⟨.ref _,_,I.lnew (t':=s.toks) (r.append r2) (by rw [List.length_append];lia),rfl,q _ I.fresh⟩
theorem zg3 (ha:DW X a fa) (hb:DW X b fb):DL X (.BinOp a .Add b pos) (Z.zme fa fb):=PE.imp (pe_op zow ha hb) fun σ H Q ⟨ρ,d,r,e,k⟩=>by
 obtain ⟨x,ea,e⟩:=Z.Res.bind_ok e
 obtain ⟨y,eb,e⟩:=Z.Res.bind_ok e
 refine ⟨ρ,x,r,ea,fun v H1 s1 d1=>⟨ρ,y,r.up s1,eb,fun u H2 s2 d2=>?_⟩⟩
 have s12:=s1.trans s2
 split at e
 ·unfold Z.guard at e
  split at e
  ·rename_i xs ys hl
   cases e
   obtain ⟨q,vs,rfl,hq,t⟩:=(d1.up s2).lst
   obtain ⟨q',vs',rfl,hq',t'⟩:=d2.lst
   refine ⟨q,q',vs,vs',rfl,rfl,hq,hq',by rw [t.length,t'.length,sizeLine_eq];exact hl,fun z hz=>?_⟩
   have s3:Same H2 (upd H2 z (.lst (vs++vs'))):=zb0 hz
   exact k z _ _ (s12.trans s3) (s12.free hz) upd_same ((t.append t').up s3)
  ·cases e
 ·cases e
noncomputable def spZ (K:PySem.W.Frag) (m:List Z.D→Z.Res Z.D):Sp:=fun vs H Q _=>∃ ds d,zaE K H ds vs∧m ds=.ok d∧∀ v H',Same H H'→Den K H' d v→Q v H'
theorem zoY {k:Nat} {g:Addr} {fd:FuncData} {ps:List Str} {x:Str} {m:List Z.D→Z.Res Z.D} {ar:Z.AF} {p1:Pos} (F:FnOk X.prog X.w X.K X.mg X.base CX0 k g fd ps (spZ X.K m)) (hr:Room k X.A) (hg:Gl X x) (hm:X.mg x=some (.ref g)) (hk:PySem.W.keepIn X.K (.ref g)=true) (hb:Binds X.K fd ps [])
  (ha:DA X (e :: es) ar) (hdb:(x==("__debug__" : Str))=false:=by decide +kernel) (he:starEach (e :: es) X.env=(false,eval e X.env) :: starEach es X.env:=by rfl) (hpl:(backTo pos (starEach es X.env)).any (·.1)=false:=by rfl) :
  DE X (.Call (.Name x p1) (e :: es) [] pos) (Z.zar m ar) :=
 PE.imp (pe_call F hr hg hm hk hb .nil pass0 ha hdb he hpl) fun σ H Q ⟨ρ,d,r,e,k⟩=>by
  obtain ⟨ds,ea,e⟩:=Z.Res.bind_ok e
  refine ⟨ρ,ds,r,ea,fun vs H1 s1 d1=>?_⟩
  show spZ X.K m (vs++[]) H1 Q E0
  rw [List.append_nil]
  exact ⟨ds,d,d1,e,fun v H' s2 dv=>k v H' (s1.trans s2) dv⟩
end
end ZS
namespace ZS
open PySem PySem.Spec PyProof.Rows L2
structure ItZ (K:PySem.W.Frag) (J:It) (S:Hp→Prop) (ds:List Z.D):Prop where
 go:∀ (i:Nat) (d:Z.D) (H1:Hp),S H1→ds[i]?=some d→J.go i H1
 yld:∀ (i:Nat) (d:Z.D) (H1 H2:Hp) (x:V),S H1→ds[i]?=some d→J.yld i H1 x H2→Same H1 H2∧Den K H2 d x
 stop:∀ (H1:Hp),S H1→J.stop ds.length H1
noncomputable def tZi (K:PySem.W.Frag) (f:Z.LF):TI:=fun σ H R=>∃ ρ ds,RE K H σ ρ∧f ρ=.ok ds∧∀ J H',Same H H'→ItZ K J (Same H') ds→R J H'
noncomputable def tZj (K:PySem.W.Frag) (f:Z.LF):TI:=fun σ H R=>∃ ρ ds,RE K H σ ρ∧f ρ=.ok ds∧∀ J H',Same H H'→ItZ K J (Stb H') ds→R J H'
abbrev DI (X:Cx) (tg e:Expr) (f:Z.LF):Prop:=PI X tg e (tZi X.K f)
abbrev DJ (X:Cx) (tg e:Expr) (f:Z.LF):Prop:=PI X tg e (tZj X.K f)
section
variable {X:Cx} {tg e a b:Expr} {es:List Expr} {pos p:Pos} {f fa fb:Z.EF}
theorem PI.imp {t t':TI} (h:PI X tg e t) (k:∀ σ H R,t' σ H R→t σ H R):PI X tg e t':=fun pins s σ H R I w=>h pins s σ H R I (k σ H R w)
theorem ItZ.imp {K:PySem.W.Frag} {J:It} {S S':Hp→Prop} {ds:List Z.D} (h:ItZ K J S ds) (k:∀ H,S' H→S H):ItZ K J S' ds :=
 ⟨fun i d H1 s=>h.go i d H1 (k _ s),fun i d H1 H2 x s=>h.yld i d H1 H2 x (k _ s),fun H1 s=>h.stop H1 (k _ s)⟩
theorem zmu {g:Z.LF} (h:DJ X tg e g):DI X tg e g:=PI.imp h fun σ H R ⟨ρ,ds,r,e,k⟩=>⟨ρ,ds,r,e,fun J H' s z=>k J H' s (z.imp fun _ q=>stb q)⟩
theorem zoM {K:PySem.W.Frag} {H:Hp} {q:Addr} {vs:List V} {ds:List Z.D} (h:SqT K H q vs) (t:zaE K H ds vs):ItZ K (Itt K q) (Stb H) ds where
 go:=fun i d H1 s hi=>by
  obtain ⟨v,h1,_⟩:=t.get hi
  exact ⟨vs,v,zdI s h,h1⟩
 yld:=fun i d H1 H2 x s hi y=>by
  obtain ⟨e,y⟩:=y
  obtain ⟨v,h1,h2⟩:=t.get hi
  have:=y vs (zdI s h)
  rw [h1] at this;cases this
  subst e
  exact ⟨Same.refl _,h2.ups s⟩
 stop:=fun H1 s=>⟨vs,zdI s h,by rw [t.length];exact Nat.le_refl _⟩
theorem zoO {K:PySem.W.Frag} {H:Hp} {q:Addr} {vs:List V} {ds:List Z.D} {S:Hp→Prop} (h:∀ H1,S H1→SqL K H1 q vs) (t:∀ H1,S H1→zaE K H1 ds vs) (t0:zaE K H ds vs):ItZ K (Itl K q) S ds where
 go:=fun i d H1 s hi=>by
  obtain ⟨v,h1,_⟩:=t0.get hi
  exact ⟨vs,v,h H1 s,h1⟩
 yld:=fun i d H1 H2 x s hi y=>by
  obtain ⟨e,y⟩:=y
  obtain ⟨v,h1,h2⟩:=(t H1 s).get hi
  have:=y vs (h H1 s)
  rw [h1] at this;cases this
  subst e
  exact ⟨Same.refl _,h2⟩
 stop:=fun H1 s=>⟨vs,h H1 s,by rw [t0.length];exact Nat.le_refl _⟩
theorem ints_get (lo:Int) (n i:Nat) (d:Z.D) (h:(Z.zints lo n)[i]?=some d):i < n∧d=.int (lo+i):=by
 unfold Z.zints at h
 rw [List.getElem?_map] at h
 cases q:(List.range n)[i]? with
 | none=>rw [q] at h;cases h
 | some j =>
  rw [q] at h;cases h
  obtain ⟨h1,h2⟩:=List.getElem?_eq_some_iff.mp q
  rw [List.length_range] at h1
  rw [List.getElem_range] at h2
  subst h2
  exact ⟨h1,rfl⟩
theorem zmg {K:PySem.W.Frag} {S:Hp→Prop} (lo:Int) (n:Nat):ItZ K (Itr lo n) S (Z.zints lo n) where
 go:=fun i d H1 s hi=>(ints_get lo n i d hi).1
 yld:=fun i d H1 H2 x s hi y=>by
  obtain ⟨e,y⟩:=y
  obtain ⟨_,rfl⟩:=ints_get lo n i d hi
  subst e
  rw [y]
  exact ⟨Same.refl _,zb4⟩
 stop:=fun H1 s=>by
  show n≤(Z.zints lo n).length
  unfold Z.zints
  rw [List.length_map,List.length_range]
  exact Nat.le_refl _
theorem zlJ {P:Program} {w:World} {K:PySem.W.Frag} {tg:Expr} (it:Addr) (lo:Int) (n:Nat):Turn P w K tg (Itr lo n) [it] it (fun i h=>IsLongIter h it (lo+(i:Nat)*1) ((n:Int)-(i:Nat)) 1) where
 mem:=by simp
 obj:=fun i h st b hb=>by
  have e:b=it:=by simpa using hb
  subst e
  exact ⟨_,st,fun v z=>by
   have z':Data.fields _=Data.cell v:=z
   cases z'⟩
 keep:=fun i h h' st k=>k it (by simp) _ st
 item:=by
  intro X hP hw hK hc i pins s σ H E I hf st hg
  subst hP hw hK
  obtain ⟨f0,f1,f2,f3,f4,f5⟩:=hf it (by simp)
  have W:=Walks.longrange (prog:=X.prog) (w:=X.w) (I.ok.hd hc) it lo 1 n
  refine W.item i s _ _ hg st fun v h' tk hv st' kk=>?_
  obtain ⟨t,rfl⟩:=hv
  have I1:Inv X pins σ H { s with heap:=h',toks:=tk }:=I.turned (fun b o hb e=>kk b o (by simpa using hb) e) f0 f1 f3 f4 f5
  refine ⟨_,rfl,go_of (s:={ s with heap:=h',toks:=tk }) (n := "longrange_iterator") st' rfl rfl (by decide) ⟨.int (lo+i),H,I1,⟨t,?_⟩,⟨rfl,rfl⟩,st',fun b hb=>(hf b hb).1⟩⟩
  rw [Int.mul_one]
 done:=by
  intro X hP hw hK hc i pins s σ H E I hf st hg
  subst hP hw hK
  obtain ⟨f0,f1,f2,f3,f4,f5⟩:=hf it (by simp)
  exact wpAny_pyNext_long_end (I.ok.hd hc) st (by have:n≤i:=hg;lia) fun h' eb=>⟨rfl,I.turned (t':=s.toks) (fun b o hb e=>eb b o hb e) f0 f1 f3 f4 f5⟩
 self:=fun _ _ _ _ _ st h=>wpAny_pyIter_longiter st h
theorem range_any {pins:List (Addr×Obj)} {σ:St} {H:Hp} {s:Shared} {R:It→Hp→Prop} {E:Value→Shared→Prop} {lo hi:Int} {t u v:Tok} {tk:Nat} (I:Inv X pins σ H s)
  (q:R (Itr lo (hi-lo).toNat) H):wpAny (model X.prog X.w) X.A (pyIter (.ref s.heap.objs.size)) (PIE X pins σ tg R) E { s with heap:=s.heap.push { cls:=.type "range",data:=.fields #[.int lo t,.int hi u,.int 1 v] },toks:=tk }:=by
 have I1:Inv X pins σ H { s with heap:=s.heap.push { cls:=.type "range",data:=.fields #[.int lo t,.int hi u,.int 1 v] },toks:=tk }:=I.kept fun b o e=>Heap.get?_push_of_some _ e
 have e1:lo+((0:Nat):Int)*1=lo:=by simp
 have e2:(((hi-lo).toNat:Nat):Int)-((0:Nat):Int)=Builtin.Range.rangeSize lo hi 1:=by rw [rangeSize_one];split<;>lia
 cases hs:Builtin.Range.small lo hi 1 with
 | true =>
  refine wpAny_pyIter_range (IsRange.new ..) hs ?_
  refine ⟨(s.heap.push { cls:=.type "range",data:=.fields #[.int lo t,.int hi u,.int 1 v] }).objs.size,[(s.heap.push { cls:=.type "range",data:=.fields #[.int lo t,.int hi u,.int 1 v] }).objs.size],_,_,H,rfl,
   I1.kept (t':=tk) fun b o e=>Heap.get?_push_of_some _ e,turn_range _ lo (hi-lo).toNat,?_,fun b hb=>?_,q⟩
  ·show IsRangeIter _ _ (lo+((0:Nat):Int)*1) ((((hi-lo).toNat:Nat):Int)-((0:Nat):Int)) 1
   rw [e1,e2]
   exact Heap.get?_push_size _ rfl
  ·have e:b=(s.heap.push { cls:=.type "range",data:=.fields #[.int lo t,.int hi u,.int 1 v] }).objs.size:=by simpa using hb
   subst e
   exact I1.fpOk (Nat.le_refl _) (I1.hok.fresh (Nat.le_refl _))
 | false =>
  refine wpAny_pyIter_longrange (IsRange.new ..) hs ?_
  refine ⟨(s.heap.push { cls:=.type "range",data:=.fields #[.int lo t,.int hi u,.int 1 v] }).objs.size,[(s.heap.push { cls:=.type "range",data:=.fields #[.int lo t,.int hi u,.int 1 v] }).objs.size],_,_,H,rfl,
   I1.kept (t':=tk) fun b o e=>Heap.get?_push_of_some _ e,zlJ _ lo (hi-lo).toNat,?_,fun b hb=>?_,q⟩
  ·show IsLongIter _ _ (lo+((0:Nat):Int)*1) ((((hi-lo).toNat:Nat):Int)-((0:Nat):Int)) 1
   rw [e1,e2]
   exact Heap.get?_push_size _ rfl
  ·have e:b=(s.heap.push { cls:=.type "range",data:=.fields #[.int lo t,.int hi u,.int 1 v] }).objs.size:=by simpa using hb
   subst e
   exact I1.fpOk (Nat.le_refl _) (I1.hok.fresh (Nat.le_refl _))
noncomputable def zsF (ta:TA):TI:=fun σ H R=>ta σ H fun vs H1=>∃ j:Int,vs=[.int j]∧R (Itr 0 j.toNat) H1
noncomputable def zsE (ta:TA):TI:=fun σ H R=>ta σ H fun vs H1=>∃ i j:Int,vs=[.int i,.int j]∧R (Itr i (j-i).toNat) H1
theorem zop {a:Expr} {ta:TA} {p pos:Pos} (hg:Gl X "range") (hm:X.mg "range" = none) (ha:PA X [a] ta) (hs:starEach [a] X.env=[(false,eval a X.env)]:=by rfl):PI X tg (.Call (.Name "range" p) [a] [] pos) (zsF ta):=by
 intro pins s σ H R I h
 refine Call_ (ld_blt I hg hm boot_range (PyProof.Rows.callWith_type1 (thn (ha pos pins s σ H _ I h) fun us s1 ⟨vs,H1,I1,r1,q1⟩=>?_) hs rfl))
 obtain ⟨j,e,q⟩:=q1
 subst e
 cases r1 with
 | cons r rr =>
  cases rr
  obtain ⟨t,rfl⟩:=r
  exact call_range_1 (range_any I1 (by simpa using q))
theorem zoo {a b:Expr} {ta:TA} {p pos:Pos} (hg:Gl X "range") (hm:X.mg "range" = none) (ha:PA X [a,b] ta) (hs:starEach [a,b] X.env=[(false,eval a X.env),(false,eval b X.env)]:=by rfl) (hs2:starEach [b] X.env=[(false,eval b X.env)]:=by rfl) :
  PI X tg (.Call (.Name "range" p) [a,b] [] pos) (zsE ta):=by
 intro pins s σ H R I h
 refine Call_ (ld_blt I hg hm boot_range (PyProof.Rows.callWith_type1 (thn (ha pos pins s σ H _ I h) fun us s1 ⟨vs,H1,I1,r1,q1⟩=>?_) (by rw [hs,hs2]) (by rw [hs2];rfl)))
 obtain ⟨i,j,e,q⟩:=q1
 subst e
 cases r1 with
 | cons r rr =>
  cases rr with
  | cons r' rr =>
   cases rr
   obtain ⟨t,rfl⟩:=r
   obtain ⟨t',rfl⟩:=r'
   exact call_range_2 (range_any I1 q)
theorem zbU (hg:Gl X "range") (hm:X.mg "range" = none) (ha:DE X a fa) (hs:starEach [a] X.env=[(false,eval a X.env)]:=by rfl) (hs1:starEach (a :: []) X.env=(false,eval a X.env) :: starEach [] X.env:=by rfl):DJ X tg (.Call (.Name "range" p) [a] [] pos) (Z.iRng1 fa) :=
 PI.imp (zop hg hm (pa_cons ha pa_nil hs1) hs) fun σ H R ⟨ρ,ds,r,e,k⟩=>by
  obtain ⟨x,ea,e⟩:=Z.Res.bind_ok e
  refine ⟨ρ,x,r,ea,fun v H1 s1 d1=>?_⟩
  split at e
  ·rename_i j
   cases e
   simp only [Den] at d1
   exact ⟨j,by rw [d1],k _ H1 s1 (zmg 0 j.toNat)⟩
  ·cases e
theorem zg4 (hg : Gl X "range") (hm : X.mg "range" = none) (ha : DE X a fa) (hb : DE X b fb) (hs : starEach [a, b] X.env = [(false, eval a X.env), (false, eval b X.env)] := by rfl) (hs2 : starEach [b] X.env = [(false, eval b X.env)] := by rfl)
  (h1:starEach (a :: [b]) X.env=(false,eval a X.env) :: starEach [b] X.env:=by rfl) (h2:starEach (b :: []) X.env=(false,eval b X.env) :: starEach [] X.env:=by rfl):DJ X tg (.Call (.Name "range" p) [a,b] [] pos) (Z.iRng2 fa fb) :=
 PI.imp (zoo hg hm (pa_cons ha (pa_cons hb pa_nil h2) h1) hs hs2) fun σ H R ⟨ρ,ds,r,e,k⟩=>by
  obtain ⟨x,ea,e⟩:=Z.Res.bind_ok e
  obtain ⟨y,eb,e⟩:=Z.Res.bind_ok e
  obtain ⟨i,j,rfl,rfl,rfl⟩:∃ i j,x=.int i∧y=.int j∧ds=Z.zints i (j-i).toNat:=by
   split at e
   ·cases e
    exact ⟨_,_,rfl,rfl,rfl⟩
   ·cases e
  refine ⟨ρ,_,r,ea,fun v H1 s1 d1=>⟨ρ,_,r.up s1,eb,fun u H2 s2 d2=>?_⟩⟩
  simp only [Den] at d1 d2
  exact ⟨i,j,by rw [d1,d2],k _ H2 (s1.trans s2) (zmg i (j-i).toNat)⟩
noncomputable def Its (z:Str):It:=⟨fun i _=>i < z.cps.size,fun i H x H'=>H'=H∧∃ c,z.cps[i]?=some c∧x=.str ⟨#[c]⟩,fun i _=>i=z.cps.size⟩
theorem zmY {P:Program} {w:World} {K:PySem.W.Frag} (z:Str) (it:Addr) (n:String) (hn:["enumerate", "zip", "dict_itemiterator", "dict_reverseitemiterator", "odict_iterator", "itertools.zip_longest", "itertools.pairwise"].contains n=false) (t:Tok)
  (W:∀ A:Around,A.handled=none→Walks P w A it [it] [it] z.cps.size (SignAt z) (fun i h=>h.IsStrIter it n z t i)) (self:∀ (A:Around) (i:Nat) (s:Shared) (Q:Value→Shared→Prop) (E:Value→Shared→Prop),s.heap.IsStrIter it n z t i→Q (.ref it) s→wpAny (model P w) A (pyIter (.ref it)) Q E s) :
  Turn P w K tg (Its z) [it] it (fun i h=>h.IsStrIter it n z t i) where
 mem:=by simp
 obj:=fun i h st b hb=>by
  have e:b=it:=by simpa using hb
  subst e
  obtain ⟨o,e,c,d⟩:=st
  exact ⟨o,e,fun v z=>by rw [d] at z;cases z⟩
 keep:=fun i h h' st k=>by
  obtain ⟨o,e,c,d⟩:=st
  exact ⟨o,k it (by simp) o e,c,d⟩
 item:=by
  intro X hP hw hK hc i pins s σ H E I hf st hg
  subst hP hw hK
  obtain ⟨f0,f1,f2,f3,f4,f5⟩:=hf it (by simp)
  refine (W X.A (I.ok.hd hc)).item i s _ _ hg st fun v h' tk hv st' kk=>?_
  obtain ⟨c,u,hcc,rfl⟩:=hv
  have I1:Inv X pins σ H { s with heap:=h',toks:=tk }:=I.turned (fun b o hb e=>kk b o (by simpa using hb) e) f0 f1 f3 f4 f5
  obtain ⟨o,e,c',d⟩:=id st'
  exact ⟨_,rfl,go_of (s:={ s with heap:=h',toks:=tk }) e c' d hn ⟨.str ⟨#[c]⟩,H,I1,⟨u,rfl⟩,⟨rfl,c,hcc,rfl⟩,st',fun b hb=>(hf b hb).1⟩⟩
 done:=by
  intro X hP hw hK hc i pins s σ H E I hf st hg
  subst hP hw hK
  obtain ⟨f0,f1,f2,f3,f4,f5⟩:=hf it (by simp)
  have hg':i=z.cps.size:=hg
  subst hg'
  exact (W X.A (I.ok.hd hc)).done s _ _ st fun h' tk kk=>⟨rfl,I.turned (fun b o hb e=>kk b o (by simpa using hb) e) f0 f1 f3 f4 f5⟩
 self:=self
theorem zoN {K:PySem.W.Frag} {S:Hp→Prop} (cs:List Nat):ItZ K (Its ⟨cs.toArray⟩) S (cs.map fun c=>.str [c]) where
 go:=fun i d H1 s hi=>by
  show i < cs.toArray.size
  obtain ⟨h1,_⟩:=List.getElem?_eq_some_iff.mp hi
  simpa using h1
 yld:=fun i d H1 H2 x s hi y=>by
  obtain ⟨e,c,hc,rfl⟩:=y
  have hc':cs[i]?=some c:=by simpa using hc
  rw [List.getElem?_map,hc'] at hi
  cases hi
  subst e
  exact ⟨Same.refl _,ze4 (cs:=[c])⟩
 stop:=fun H1 s=>by
  show (cs.map fun c=>Z.D.str [c]).length=cs.toArray.size
  simp
theorem znJ {pins : List (Addr × Obj)} {σ : St} {H : Hp} {s : Shared} {R : It → Hp → Prop} {E : Value → Shared → Prop} {d : Z.D} {v : V} {u : Value} {ds : List Z.D} {S : Hp → Prop} (I : Inv X pins σ H s) (rv : RelV v u) (hd : zcv X.K H d v) (hi : Z.zh8 d = .ok ds)
  (hS:∀ H1,S H1→Stb H H1) (hL:∀ es q vs,d=.lst es→v=.ref q→SqL X.K H q vs→∀ H1,S H1→SqL X.K H1 q vs)
  (k:∀ J,ItZ X.K J S ds→R J H):wpAny (model X.prog X.w) X.A (pyIter u) (PIE X pins σ tg R) E s:=by
 unfold Z.zh8 at hi
 split at hi
 ·cases hi
  obtain ⟨q,vs,rfl,hq,t⟩:=hd.tup
  cases rv
  obtain ⟨its,r',pl,hz⟩:=I.tuple hq
  refine wpAny_pyIter_tuple (show s.heap.IsTuple q its.toArray from pl) ?_
  refine ⟨s.heap.objs.size,[s.heap.objs.size],_,_,H,rfl,I.kept (t':=s.toks) fun b o e=>Heap.get?_push_of_some _ e,turn_tuple q _,⟨_,Heap.get?_push_size _ rfl,rfl,rfl⟩,fun b hb=>?_,k _ ((zoM hq t).imp hS)⟩
  have e:b=s.heap.objs.size:=by simpa using hb
  subst e
  exact I.fpOk (Nat.le_refl _) (I.hok.fresh (Nat.le_refl _))
 ·cases hi
  obtain ⟨q,vs,rfl,hq,t⟩:=hd.lst
  cases rv
  obtain ⟨its,r',pl,hz⟩:=I.list hq
  refine wpAny_pyIter_list pl.isList ?_
  refine ⟨s.heap.objs.size,[s.heap.objs.size],_,_,H,rfl,I.kept (t':=s.toks) fun b o e=>Heap.get?_push_of_some _ e,turn_list q _,⟨_,Heap.get?_push_size _ rfl,rfl,rfl⟩,fun b hb=>?_,
   k _ (zoO (fun H1 s1=>hL _ q vs rfl rfl hq H1 s1) (fun H1 s1=>t.ups (hS H1 s1)) t)⟩
  have e:b=s.heap.objs.size:=by simpa using hb
  subst e
  exact I.fpOk (Nat.le_refl _) (I.hok.fresh (Nat.le_refl _))
 ·cases hi
  rename_i cs
  rw [hd.str] at rv
  obtain ⟨t,rfl⟩:=rv
  have fin:∀ (n:String) (hn:["enumerate", "zip", "dict_itemiterator", "dict_reverseitemiterator", "odict_iterator", "itertools.zip_longest", "itertools.pairwise"].contains n=false)
    (W:∀ A:Around,A.handled=none→Walks X.prog X.w A s.heap.objs.size [s.heap.objs.size] [s.heap.objs.size] (⟨cs.toArray⟩:Str).cps.size (SignAt ⟨cs.toArray⟩) (fun i h=>h.IsStrIter s.heap.objs.size n ⟨cs.toArray⟩ t i))
    (self:∀ (A:Around) (i:Nat) (s':Shared) (Q:Value→Shared→Prop) (E:Value→Shared→Prop),s'.heap.IsStrIter s.heap.objs.size n ⟨cs.toArray⟩ t i→Q (.ref s.heap.objs.size) s'→wpAny (model X.prog X.w) A (pyIter (.ref s.heap.objs.size)) Q E s'),
    PIE X pins σ tg R (.ref s.heap.objs.size) { s with heap:=s.heap.push { cls:=.type n,data:=.fields #[.str ⟨cs.toArray⟩ t,.int 0 0] } }:=by
   intro n hn W self
   refine ⟨s.heap.objs.size,[s.heap.objs.size],_,_,H,rfl,I.kept (t':=s.toks) fun b o e=>Heap.get?_push_of_some _ e,zmY ⟨cs.toArray⟩ _ n hn t W self,⟨_,Heap.get?_push_size _ rfl,rfl,rfl⟩,fun b hb=>?_,k _ (zoN cs)⟩
   have e:b=s.heap.objs.size:=by simpa using hb
   subst e
   exact I.fpOk (Nat.le_refl _) (I.hok.fresh (Nat.le_refl _))
  cases ha:(⟨cs.toArray⟩:Str).cps.all (· < 128)
  ·exact wpAny_pyIter_wide ha (fin "str_iterator" (by decide) (fun A' hA=>Walks.strWide hA _ _ t) fun _ _ _ _ _ st hQ=>wpAny_pyIter_striter_wide st hQ)
  ·exact wpAny_pyIter_ascii ha (fin "str_ascii_iterator" (by decide) (fun A' hA=>Walks.strAscii hA _ _ t) fun _ _ _ _ _ st hQ=>wpAny_pyIter_striter_ascii st hQ)
 ·cases hi
theorem zdt (ha:DW X a fa):DI X tg a (Z.zfK fa):=by
 intro pins s σ H R I w
 obtain ⟨ρ,ds,r,e,k⟩:=w
 obtain ⟨d,ea,e⟩:=Z.Res.bind_ok e
 refine thn (ha pins s σ H (fun v H1=>Same H H1∧zcv X.K H1 d v) I ⟨ρ,d,r,ea,fun v H1 s1 d1=>⟨s1,d1⟩⟩) ?_
 rintro u s1 ⟨v,H1,I1,rv,sm,hd⟩
 exact znJ (S:=Same H1) I1 rv hd e (fun _ q=>stb q) (fun _ _ _ _ _ hq H2 s2=>s2.seq hq) fun J z=>k J H1 sm z
theorem zgb (ha:DE X a fa):DJ X tg a (Z.zfK fa):=by
 intro pins s σ H R I w
 obtain ⟨ρ,ds,r,e,k⟩:=w
 obtain ⟨d,ea,e⟩:=Z.Res.bind_ok e
 refine thn (ha pins s σ H (fun v H1=>Same H H1∧Den X.K H1 d v) I ⟨ρ,d,r,ea,fun v H1 s1 d1=>⟨s1,d1⟩⟩) ?_
 rintro u s1 ⟨v,H1,I1,rv,sm,hd⟩
 refine znJ (S:=Stb H1) I1 rv (.inl hd) e (fun _ q=>q) (fun es q vs e1 e2 hq H2 s2=>?_) fun J z=>k J H1 sm z
 subst e1
 simp only [Den] at hd
 obtain ⟨q',vs',e3,hz,_⟩:=hd
 rw [e2] at e3;cases e3
 rw [I1.list_inj hq hz.sq]
 exact (hz.mono s2).sq
def zgj (H0:Hp) (σ:St) (ρ:Z.Env):Prop:=(∀ (i j:Nat) (ks ls:List (List Int)) (a:Addr),ρ[i]?=some (some (.dic ks))→ρ[j]?=some (some (.dic ls))→σ[i]?=some (some (.ref a))→σ[j]?=some (some (.ref a))→i=j) ∧
 ∀ (i:Nat) (ks:List (List Int)) (q:Addr),ρ[i]?=some (some (.dic ks))→σ[i]?=some (some (.ref q))→H0 q=none
theorem zgj.non {H0:Hp} {σ:St} {ρ:Z.Env} (h:∀ (i:Nat) (ks:List (List Int)),ρ[i]?≠some (some (.dic ks))):zgj H0 σ ρ:=⟨fun i _ ks _ _ e=>absurd e (h i ks),fun i ks _ e=>absurd e (h i ks)⟩
structure RS (K:PySem.W.Frag) (H0 H:Hp) (σ:St) (ρ:Z.Env):Prop where
 same:Same H0 H
 re:RE K H σ ρ
 fresh:∀ (i:Nat) (xs:List Z.D) (q:Addr),ρ[i]?=some (some (.own xs))→σ[i]?=some (some (.ref q))→H0 q=none
 bors:∀ (i:Nat) (xs:List Z.D),ρ[i]?=some (some (.bor xs))→∃ v,σ[i]?=some (some v)∧zcv K H0 (.lst xs) v
 dic:zgj H0 σ ρ
def flZ (K:PySem.W.Frag) (H0 H:Hp) (D:Ends):Z.Fl→Prop
 | .nx ρ'=>∀ σ' H',Stb H H'→RS K H0 H' σ' ρ'→D.nx σ' H'
 | .rt d=>∀ v H',Same H0 H'→Den K H' d v→D.rt v H'
 | .bk ρ'=>∀ σ' H',Stb H H'→RS K H0 H' σ' ρ'→D.bk σ' H'
 | .ct ρ'=>∀ σ' H',Stb H H'→RS K H0 H' σ' ρ'→D.ct σ' H'
noncomputable def tS (K:PySem.W.Frag) (H0:Hp) (g:Z.SF):TS:=fun D σ H=>∃ ρ fl,RS K H0 H σ ρ∧g ρ=.ok fl∧flZ K H0 H D fl
abbrev DS (X:Cx) (H0:Hp) (st:Stmt) (g:Z.SF):Prop:=PS X st (tS X.K H0 g)
abbrev DSs (X:Cx) (H0:Hp) (st:List Stmt) (g:Z.SF):Prop:=PSs X st (tS X.K H0 g)
theorem PS.imp {st:Stmt} {t t':TS} (h:PS X st t) (k:∀ D σ H,t' D σ H→t D σ H):PS X st t':=fun pins s σ H D I w=>h pins s σ H D I (k D σ H w)
theorem PSs.imp {st:List Stmt} {t t':TS} (h:PSs X st t) (k:∀ D σ H,t' D σ H→t D σ H):PSs X st t':=fun pins s σ H D I w=>h pins s σ H D I (k D σ H w)
theorem RS.up {K:PySem.W.Frag} {H0 H H':Hp} {σ:St} {ρ:Z.Env} (h:RS K H0 H σ ρ) (e:Same H H'):RS K H0 H' σ ρ:=⟨h.same.trans e,h.re.up e,h.fresh,h.bors,h.dic⟩
theorem flZ.up {K:PySem.W.Frag} {H0 H H1:Hp} {D:Ends} {fl:Z.Fl} (h:flZ K H0 H D fl) (e:Stb H H1):flZ K H0 H1 D fl:=by
 cases fl with
 | nx ρ'=>exact fun σ' H' s r=>h σ' H' (e.trans s) r
 | rt d=>exact h
 | bk ρ'=>exact fun σ' H' s r=>h σ' H' (e.trans s) r
 | ct ρ'=>exact fun σ' H' s r=>h σ' H' (e.trans s) r
theorem zaS {α:Type} {l:List (Option α)} {i j:Nat} {x:Option α} {y:α} (h:(l.set i x)[j]?=some (some y)):(i=j∧i < l.length∧x=some y)∨(i≠j∧l[j]?=some (some y)):=by
 by_cases hij:i=j
 ·subst hij
  by_cases hl:i < l.length
  ·rw [List.getElem?_set_self hl] at h
   exact .inl ⟨rfl,hl,Option.some.inj h⟩
  ·rw [List.getElem?_eq_none (by simpa using hl)] at h;cases h
 ·rw [List.getElem?_set_ne hij] at h
  exact .inr ⟨hij,h⟩
theorem zgj.set {H0:Hp} {σ:St} {ρ:Z.Env} {i:Nat} {v:V} {l:Z.L} (h:zgj H0 σ ρ) (n:∀ ks,l≠.dic ks):zgj H0 (σ.set i (some v)) (ρ.set i (some l)):=by
 have get:∀ (j:Nat) (ks:List (List Int)),(ρ.set i (some l))[j]?=some (some (.dic ks))→ρ[j]?=some (some (.dic ks))∧(σ.set i (some v))[j]?=σ[j]?:=fun j ks e=>by
  rcases zaS e with ⟨_,_,e⟩ | ⟨hj,e⟩
  ·exact absurd (Option.some.inj e) (n ks)
  ·exact ⟨e,List.getElem?_set_ne hj⟩
 exact ⟨fun j k ks ls a e1 e2 e3 e4=>h.1 j k ks ls a (get j ks e1).1 (get k ls e2).1 (by rw [←(get j ks e1).2];exact e3) (by rw [←(get k ls e2).2];exact e4),fun j ks q e1 e2=>h.2 j ks q (get j ks e1).1 (by rw [←(get j ks e1).2];exact e2)⟩
theorem zgj.setρ {H0:Hp} {σ:St} {ρ:Z.Env} {i:Nat} {l:Z.L} (h:zgj H0 σ ρ) (n:∀ ks,l≠.dic ks):zgj H0 σ (ρ.set i (some l)):=by
 have get:∀ (j:Nat) (ks:List (List Int)),(ρ.set i (some l))[j]?=some (some (.dic ks))→ρ[j]?=some (some (.dic ks)):=fun j ks e=>by
  rcases zaS e with ⟨_,_,e⟩ | ⟨hj,e⟩
  ·exact absurd (Option.some.inj e) (n ks)
  ·exact e
 exact ⟨fun j k ks ls a e1 e2 e3 e4=>h.1 j k ks ls a (get j ks e1) (get k ls e2) e3 e4,fun j ks q e1 e2=>h.2 j ks q (get j ks e1) e2⟩
theorem RS.setV {K : PySem.W.Frag} {H0 H : Hp} {σ : St} {ρ : Z.Env} {i : Nat} {d : Z.D} {v : V} (h : RS K H0 H σ ρ) (hd : Den K H d v) : RS K H0 H (σ.set i (some v)) (ρ.set i (some (.val d))) := by
 have getσ:∀ (j:Nat),i≠j→(σ.set i (some v))[j]?=σ[j]?:=fun j hj=>List.getElem?_set_ne hj
 refine ⟨h.same,⟨by simp [h.re.len],fun j l e=>?_,fun j k xs ys q e1 e2 e3 e4=>?_⟩,fun j xs q e1 e2=>?_,fun j xs e1=>?_,h.dic.set fun _ z=>nomatch z⟩
 ·rcases zaS e with ⟨rfl,hl,e⟩ | ⟨hj,e⟩
  ·cases e
   exact ⟨v,List.getElem?_set_self (by rw [←h.re.len];exact hl),hd⟩
  ·rw [getσ j hj];exact h.re.get j l e
 ·rcases zaS e1 with ⟨_,_,e⟩ | ⟨hj,e1⟩
  ·cases e
  ·rcases zaS e2 with ⟨_,_,e⟩ | ⟨hk,e2⟩
   ·cases e
   ·rw [getσ j hj] at e3
    rw [getσ k hk] at e4
    exact h.re.sep j k xs ys q e1 e2 e3 e4
 ·rcases zaS e1 with ⟨_,_,e⟩ | ⟨hj,e1⟩
  ·cases e
  ·rw [getσ j hj] at e2
   exact h.fresh j xs q e1 e2
 ·rcases zaS e1 with ⟨_,_,e⟩ | ⟨hj,e1⟩
  ·cases e
  ·rw [getσ j hj]
   exact h.bors j xs e1
theorem RS.setO {K : PySem.W.Frag} {H0 H : Hp} {σ : St} {ρ : Z.Env} {i : Nat} {ds : List Z.D} {q : Addr} {vs : List V} (h : RS K H0 H σ ρ) (hq : H q = some (.lst vs)) (t : zaE K H ds vs) (h0 : H0 q = none)
  (nq:∀ (j:Nat) (xs:List Z.D),j≠i→ρ[j]?=some (some (.own xs))→σ[j]?≠some (some (.ref q))):RS K H0 H (σ.set i (some (.ref q))) (ρ.set i (some (.own ds))):=by
 have getσ:∀ (j:Nat),i≠j→(σ.set i (some (V.ref q)))[j]?=σ[j]?:=fun j hj=>List.getElem?_set_ne hj
 refine ⟨h.same,⟨by simp [h.re.len],fun j l e=>?_,fun j k xs ys p e1 e2 e3 e4=>?_⟩,fun j xs p e1 e2=>?_,fun j xs e1=>?_,h.dic.set fun _ z=>nomatch z⟩
 ·rcases zaS e with ⟨rfl,hl,e⟩ | ⟨hj,e⟩
  ·cases e
   exact ⟨.ref q,List.getElem?_set_self (by rw [←h.re.len];exact hl),q,vs,rfl,hq,t⟩
  ·rw [getσ j hj];exact h.re.get j l e
 ·rcases zaS e1 with ⟨rfl,hl,_⟩ | ⟨hj,e1⟩
  ·rcases zaS e2 with ⟨rfl,_,_⟩ | ⟨hk,e2⟩
   ·rfl
   ·rw [List.getElem?_set_self (by rw [←h.re.len];exact hl)] at e3
    cases e3
    rw [getσ k hk] at e4
    exact absurd e4 (nq k ys (Ne.symm hk) e2)
  ·rcases zaS e2 with ⟨rfl,hl,_⟩ | ⟨hk,e2⟩
   ·rw [List.getElem?_set_self (by rw [←h.re.len];exact hl)] at e4
    cases e4
    rw [getσ j hj] at e3
    exact absurd e3 (nq j xs (Ne.symm hj) e1)
   ·rw [getσ j hj] at e3
    rw [getσ k hk] at e4
    exact h.re.sep j k xs ys p e1 e2 e3 e4
 ·rcases zaS e1 with ⟨rfl,hl,_⟩ | ⟨hj,e1⟩
  ·rw [List.getElem?_set_self (by rw [←h.re.len];exact hl)] at e2
   cases e2
   exact h0
  ·rw [getσ j hj] at e2
   exact h.fresh j xs p e1 e2
 ·rcases zaS e1 with ⟨_,_,e⟩ | ⟨hj,e1⟩
  ·cases e
  ·rw [getσ j hj]
   exact h.bors j xs e1
theorem RS.chg {K : PySem.W.Frag} {H0 H : Hp} {σ : St} {ρ : Z.Env} {i : Nat} {xs ds : List Z.D} {q : Addr} {us vs : List V} (h : RS K H0 H σ ρ) (ei : ρ[i]? = some (some (.own xs))) (si : σ[i]? = some (some (.ref q))) (hq : H q = some (.lst us)) (t : zaE K H ds vs) :
  RS K H0 (upd H q (.lst vs)) σ (ρ.set i (some (.own ds))):=by
 have st:Stb H (upd H q (.lst vs)):=zex hq
 have h0:H0 q=none:=h.fresh i xs q ei si
 have hs:Same H0 (upd H q (.lst vs)):=fun b u e=>by rw [upd_ne (ne_of_none e h0)];exact h.same b u e
 refine ⟨hs,⟨by simp [h.re.len],fun j l e=>?_,fun j k xs' ys p e1 e2 e3 e4=>?_⟩,fun j xs' p e1 e2=>?_,fun j xs' e1=>?_,h.dic.setρ fun _ z=>nomatch z⟩
 ·rcases zaS e with ⟨rfl,hl,e⟩ | ⟨hj,e⟩
  ·cases e
   exact ⟨.ref q,si,q,vs,rfl,upd_same,t.ups st⟩
  ·obtain ⟨v,e1,r⟩:=h.re.get j l e
   refine ⟨v,e1,?_⟩
   cases l with
   | val d=>exact Den.ups (show Den K H d v from r) st
   | own zs =>
    obtain ⟨q',ws,rfl,hq',t'⟩:=r
    have:q'≠q:=by
     rintro rfl
     exact hj (h.re.sep i j xs zs q' ei e si e1)
    exact ⟨q',ws,rfl,by rw [upd_ne this];exact hq',t'.ups st⟩
   | bor zs =>
    obtain ⟨v',e2,r2⟩:=h.bors j zs e
    rw [e1] at e2
    cases e2
    exact r2.up hs
   | dic ks =>
    obtain ⟨q',as,rfl,hq',t'⟩:=r
    have:q'≠q:=by
     rintro rfl
     rw [hq] at hq';cases hq'
    exact ⟨q',as,rfl,by rw [upd_ne this];exact hq',t'.ups st⟩
   | fdc ks =>
    obtain ⟨q',o',as,rfl,hq',t'⟩:=r
    exact ⟨q',o',as,rfl,st.frz _ _ _ hq',t'.ups st⟩
   | idc ps =>
    obtain ⟨q',o',rfl,hq'⟩:=r
    exact ⟨q',o',rfl,st.frz _ _ _ hq'⟩
 ·have old:∀ {j:Nat} {zs:List Z.D},(ρ.set i (some (Z.L.own ds)))[j]?=some (some (.own zs))→∃ zs',ρ[j]?=some (some (.own zs')):=fun {j zs} e=>by
   rcases zaS e with ⟨rfl,_,_⟩ | ⟨_,e⟩
   ·exact ⟨xs,ei⟩
   ·exact ⟨zs,e⟩
  obtain ⟨_,o1⟩:=old e1
  obtain ⟨_,o2⟩:=old e2
  exact h.re.sep j k _ _ p o1 o2 e3 e4
 ·rcases zaS e1 with ⟨rfl,_,_⟩ | ⟨_,e1⟩
  ·exact h.fresh i xs p ei e2
  ·exact h.fresh j xs' p e1 e2
 ·rcases zaS e1 with ⟨_,_,e⟩ | ⟨_,e1⟩
  ·cases e
  ·exact h.bors j xs' e1
theorem RS.frz {K : PySem.W.Frag} {H0 H : Hp} {σ : St} {ρ : Z.Env} {i : Nat} {xs : List Z.D} {q : Addr} {us : List V} {o : Obj} (h : RS K H0 H σ ρ) (ei : ρ[i]? = some (some (.own xs))) (si : σ[i]? = some (some (.ref q))) (hq : H q = some (.lst us)) (t : zaE K H xs us) :
  RS K H0 (upd H q (.frz o (.lst us))) σ (ρ.set i (some (.val (.lst xs)))):=by
 have st:Stb H (upd H q (.frz o (.lst us))):=zex hq
 have h0:H0 q=none:=h.fresh i xs q ei si
 have hs:Same H0 (upd H q (.frz o (.lst us))):=fun b u e=>by rw [upd_ne (ne_of_none e h0)];exact h.same b u e
 refine ⟨hs,⟨by simp [h.re.len],fun j l e=>?_,fun j k xs' ys p e1 e2 e3 e4=>?_⟩,fun j xs' p e1 e2=>?_,fun j xs' e1=>?_,h.dic.setρ fun _ z=>nomatch z⟩
 ·rcases zaS e with ⟨rfl,hl,e⟩ | ⟨hj,e⟩
  ·cases e
   exact ⟨.ref q,si,zkq (.inl ⟨o,upd_same⟩) (t.ups st)⟩
  ·obtain ⟨v,e1,r⟩:=h.re.get j l e
   refine ⟨v,e1,?_⟩
   cases l with
   | val d=>exact Den.ups (show Den K H d v from r) st
   | own zs =>
    obtain ⟨q',ws,rfl,hq',t'⟩:=r
    have:q'≠q:=by
     rintro rfl
     exact hj (h.re.sep i j xs zs q' ei e si e1)
    exact ⟨q',ws,rfl,by rw [upd_ne this];exact hq',t'.ups st⟩
   | bor zs =>
    obtain ⟨v',e2,r2⟩:=h.bors j zs e
    rw [e1] at e2
    cases e2
    exact r2.up hs
   | dic ks =>
    obtain ⟨q',as,rfl,hq',t'⟩:=r
    have:q'≠q:=by
     rintro rfl
     rw [hq] at hq';cases hq'
    exact ⟨q',as,rfl,by rw [upd_ne this];exact hq',t'.ups st⟩
   | fdc ks =>
    obtain ⟨q',o',as,rfl,hq',t'⟩:=r
    exact ⟨q',o',as,rfl,st.frz _ _ _ hq',t'.ups st⟩
   | idc ps =>
    obtain ⟨q',o',rfl,hq'⟩:=r
    exact ⟨q',o',rfl,st.frz _ _ _ hq'⟩
 ·rcases zaS e1 with ⟨_,_,e⟩ | ⟨_,e1⟩
  ·cases e
  ·rcases zaS e2 with ⟨_,_,e⟩ | ⟨_,e2⟩
   ·cases e
   ·exact h.re.sep j k _ _ p e1 e2 e3 e4
 ·rcases zaS e1 with ⟨_,_,e⟩ | ⟨_,e1⟩
  ·cases e
  ·exact h.fresh j xs' p e1 e2
 ·rcases zaS e1 with ⟨_,_,e⟩ | ⟨_,e1⟩
  ·cases e
  ·exact h.bors j xs' e1
variable {H0:Hp} {st:Stmt} {sts:List Stmt} {g u:Z.SF}
theorem zay:DSs X H0 [] Z.zbn:=PSs.imp pss_nil fun D σ H ⟨ρ,fl,rs,e,k⟩=>by
 cases e
 exact k σ H (Stb.refl H) rs
theorem zah (h:DS X H0 st g):DSs X H0 [st] g:=pss_one h
theorem zae (h1:DS X H0 st g) (h2:DSs X H0 sts u):DSs X H0 (st :: sts) (Z.zaI g u):=PSs.imp (pss_cons h1 h2) fun D σ H ⟨ρ,fl,rs,e,k⟩=>by
 obtain ⟨f1,e1,e⟩:=Z.Res.bind_ok e
 refine ⟨ρ,f1,rs,e1,?_⟩
 cases f1 with
 | nx ρ'=>exact fun σ' H' s r=>⟨ρ',fl,r,e,k.up s⟩
 | rt d=>cases e;exact k
 | bk ρ'=>cases e;exact k
 | ct ρ'=>cases e;exact k
theorem zap (h:DE X a fa):DS X H0 (.Return (some a) pos) (Z.zbS fa):=PS.imp (ps_ret h) fun D σ H ⟨ρ,fl,rs,e,k⟩=>by
 obtain ⟨d,ea,e⟩:=Z.Res.bind_ok e
 cases e
 exact ⟨ρ,d,rs.re,ea,fun v H' s dv=>k v H' (rs.same.trans s) dv⟩
theorem zbr {c:Expr} {b1 b2:List Stmt} {t:Z.TF} (hc:DT X c t) (h1:DSs X H0 b1 g) (h2:DSs X H0 b2 u):DS X H0 (.If c b1 b2 pos) (Z.sIf t g u):=PS.imp (ps_if hc h1 h2) fun D σ H ⟨ρ,fl,rs,e,k⟩=>by
 obtain ⟨x,ea,e⟩:=Z.Res.bind_ok e
 refine ⟨ρ,x,rs.re,ea,fun H1 s1=>?_⟩
 cases x with
 | true =>
  simp only [if_true] at e ⊢
  exact ⟨ρ,fl,rs.up s1,e,k.up (stb s1)⟩
 | false =>
  simp only [Bool.false_eq_true,if_false] at e ⊢
  exact ⟨ρ,fl,rs.up s1,e,k.up (stb s1)⟩
theorem zan {i:Nat} {x:Str} {pos':Pos} (hN:X.N.Nodup) (hi:X.N[i]?=some x) (hx:Loc X.env.scope x) (he:DE X a fa) (hs:swapsWith a (some (.Name x pos')) pos.line X.env=pure false:=by rfl) (hf:X.fn x=true∨X.env.scope.names.lookup x=some .local:=by first | exact .inl rfl | exact .inr rfl | assumption) :
  DS X H0 (.Assign [.Name x pos'] a pos) (Z.zbj i fa):=PS.imp (ps_set hN hi hx he hs hf) fun D σ H ⟨ρ,fl,rs,e,k⟩=>by
 obtain ⟨d,ea,e⟩:=Z.Res.bind_ok e
 cases e
 exact ⟨ρ,d,rs.re,ea,fun v H' s dv=>k _ H' (stb s) ((rs.up s).setV dv)⟩
theorem RS.noq {K:PySem.W.Frag} {H1 H:Hp} {σ:St} {ρ:Z.Env} {q:Addr} (h:RS K H1 H σ ρ) (hq:H q=none) (j:Nat) (xs:List Z.D) (e:ρ[j]?=some (some (.own xs))):σ[j]?≠some (some (.ref q)):=fun z=>by
 obtain ⟨v,e1,q',vs,rfl,h2,_⟩:=h.re.get j _ e
 rw [z] at e1;cases e1
 rw [hq] at h2;cases h2
theorem zeu {i:Nat} {x:Str} {pos':Pos} {l:Z.LF} (hN:X.N.Nodup) (hi:X.N[i]?=some x) (hx:Loc X.env.scope x) (he:DL X a l) (hs:swapsWith a (some (.Name x pos')) pos.line X.env=pure false:=by rfl) (hf:X.fn x=true∨X.env.scope.names.lookup x=some .local:=by first | exact .inl rfl | exact .inr rfl | assumption) :
  DS X H0 (.Assign [.Name x pos'] a pos) (Z.zjn i l):=PS.imp (ps_set hN hi hx he hs hf) fun D σ H ⟨ρ,fl,rs,e,k⟩=>by
 obtain ⟨d,ea,e⟩:=Z.Res.bind_ok e
 cases e
 refine ⟨ρ,d,rs.re,ea,fun q vs H' s hn h1 t=>k _ H' (stb s) ((rs.up s).setO h1 t (rs.same.free hn) fun j xs _ e=>?_)⟩
 exact rs.noq hn j xs e
noncomputable def tG (K:PySem.W.Frag) (H0:Hp) (g:Z.GF):TG:=fun v σ H Q=>∃ ρ d ρ',RS K H0 H σ ρ∧Den K H d v∧g d ρ=.ok ρ'∧∀ σ' H',Same H H'→RS K H0 H' σ' ρ'→Q σ' H'
noncomputable def tGs (K:PySem.W.Frag) (H0:Hp) (is:List Nat):TGs:=fun vs σ H Q=>∃ ρ ds ρ',RS K H0 H σ ρ∧zaE K H ds vs∧Z.zeE is ds ρ=.ok ρ'∧∀ σ' H',Same H H'→RS K H0 H' σ' ρ'→Q σ' H'
abbrev DG (X:Cx) (H0:Hp) (tg:Expr) (g:Z.GF):Prop:=PG X tg (tG X.K H0 g)
abbrev DGs (X:Cx) (H0:Hp) (tgs:List Expr) (is:List Nat):Prop:=PGs X tgs (tGs X.K H0 is)
theorem PG.imp {t t':TG} (h:PG X tg t) (k:∀ v σ H Q,t' v σ H Q→t v σ H Q):PG X tg t':=fun pins s σ H v u Q I r w=>h pins s σ H v u Q I r (k v σ H Q w)
theorem PGs.imp {t t':TGs} (h:PGs X es t) (k:∀ v σ H Q,t' v σ H Q→t v σ H Q):PGs X es t':=fun pins s σ H v u Q I r w=>h pins s σ H v u Q I r (k v σ H Q w)
theorem zaH {i:Nat} {x:Str} (hN:X.N.Nodup) (hi:X.N[i]?=some x) (hx:Loc X.env.scope x) (hf:X.fn x=true∨X.env.scope.names.lookup x=some .local:=by first | exact .inl rfl | exact .inr rfl | assumption):DG X H0 (.Name x pos) (Z.gName i) :=
 PG.imp (pg_name hN hi hx hf) fun v σ H Q ⟨ρ,d,ρ',rs,hd,e,k⟩=>by
  cases e
  exact k _ H (Same.refl H) (rs.setV hd)
theorem zde:DGs X H0 [] []:=PGs.imp pgs_nil fun vs σ H Q ⟨ρ,ds,ρ',rs,hd,e,k⟩=>by
 cases ds with
 | nil =>
  simp only [zaE] at hd
  cases e
  exact ⟨hd,k σ H (Same.refl H) rs⟩
 | cons d ds=>cases e
theorem zaG {i:Nat} {is:List Nat} {x:Str} (hN:X.N.Nodup) (hi:X.N[i]?=some x) (hx:Loc X.env.scope x) (h2:DGs X H0 es is) (hs:(assignEach ((.Name x pos) :: es) X.env).map (·.2)=assign (.Name x pos) X.env :: (assignEach es X.env).map (·.2):=by rfl)
  (hf:X.fn x=true∨X.env.scope.names.lookup x=some .local:=by first | exact .inl rfl | exact .inr rfl | assumption):DGs X H0 (.Name x pos :: es) (i :: is) :=
 PGs.imp (pgs_cons (pg_name hN hi hx hf) h2 hs) fun vs σ H Q ⟨ρ,ds,ρ',rs,hd,e,k⟩=>by
  cases ds with
  | nil=>cases e
  | cons d ds =>
   simp only [zaE] at hd
   obtain ⟨v,r,rfl,h1,h2⟩:=hd
   exact ⟨v,r,rfl,ρ.set i (some (.val d)),ds,ρ',rs.setV h1,h2,e,k⟩
theorem zeU {x1 n : Nat} {is : List Nat} (hc : X.calm = true) (h : DGs X H0 es is) (hl : is.length = n) (hn : (assignEach es X.env).length = n := by rfl) (hst : (assignEach es X.env).findIdx? (·.1) = none := by rfl) : DG X H0 (.Tuple es x1 pos) (Z.gTup is) :=
 PG.imp (pg_tup hc h hn hst) fun v σ H Q ⟨ρ,d,ρ',rs,hd,e,k⟩=>by
  unfold Z.gTup at e
  split at e
  ·rename_i ds
   obtain ⟨q,vs,rfl,hq,t⟩:=zcv.tup (.inl hd)
   have hlen:∀ (is:List Nat) (ds:List Z.D) (ρ ρ':Z.Env),Z.zeE is ds ρ=.ok ρ'→ds.length=is.length:=by
    intro is
    induction is with
    | nil=>intro ds ρ ρ' e;cases ds with
     | nil=>rfl
     | cons d ds=>cases e
    | cons i is ih=>intro ds ρ ρ' e;cases ds with
     | nil=>cases e
     | cons d ds=>simp [ih ds _ _ e]
   exact ⟨q,vs,rfl,hq,by rw [t.length,hlen is ds ρ ρ' e];exact hl,ρ,ds,ρ',rs,t,e,k⟩
  ·cases e
theorem zja {g:Z.GF} (he:DE X a fa) (hg:DG X H0 tg g) (hs:swapsWithSole [tg] a pos.line X.env=pure false:=by rfl) (hw:swappedStores [tg] a X.env=pure none:=by rfl)
  (h1:(assignEach [tg] X.env).map (·.2)=[assign tg X.env]:=by rfl):DS X H0 (.Assign [tg] a pos) (Z.zoi fa g):=PS.imp (ps_asg he hg hs hw h1) fun D σ H ⟨ρ,fl,rs,e,k⟩=>by
 obtain ⟨d,ea,e⟩:=Z.Res.bind_ok e
 obtain ⟨ρ',eb,e⟩:=Z.Res.bind_ok e
 cases e
 exact ⟨ρ,d,rs.re,ea,fun v H' s dv=>⟨ρ,d,ρ',rs.up s,dv,eb,fun σ2 H2 s2 r2=>k σ2 H2 ((stb s).trans (stb s2)) r2⟩⟩
theorem zcr {it : Z.LF} {G : Z.GF} {iter : Expr} {body : List Stmt} (hp : PassesOwn (model X.prog X.w) X.A X.env X.xe) (hc : X.calm = true) (hi : DJ X tg iter it) (hg : DG X H0 tg G) (hb : DSs X H0 body g)
  (hs:∀ x,foldedSetIterable iter X.env x=pure x:=by intro _;rfl):DS X H0 (.For tg iter body [] pos) (Z.zfE it G g):=PS.imp (ps_for hp hc hi hg hb hs) fun D σ H ⟨ρ,fl,rs,e,k⟩=>by
 obtain ⟨ds,ei,e⟩:=Z.Res.bind_ok e
 refine ⟨ρ,ds,rs.re,ei,fun J H1 s1 z=>?_⟩
 refine ⟨fun i m σ' H'=>m=ds.length-i∧i≤ds.length∧∃ ρ',RS X.K H0 H' σ' ρ'∧Stb H1 H'∧Z.zfp G g (ds.drop i) ρ'=.ok fl,⟨ds.length,by simp,Nat.zero_le _,ρ,rs.up s1,Stb.refl H1,by simpa using e⟩,?_⟩
 rintro i m σ2 H2 ⟨rfl,hil,ρ2,r2,s2,e2⟩
 by_cases hlt:i < ds.length
 ·obtain ⟨d,hd⟩:∃ d,ds[i]?=some d:=⟨ds[i],by simp [hlt]⟩
  have hdrop:ds.drop i=d :: ds.drop (i+1):=by
   rw [List.drop_eq_getElem_cons hlt]
   have:ds[i]=d:=by
    have:=List.getElem?_eq_getElem hlt
    rw [this] at hd;exact Option.some.inj hd
   rw [this]
  rw [hdrop] at e2
  unfold Z.zfp at e2
  obtain ⟨ρ3,eg,e2⟩:=Z.Res.bind_ok e2
  obtain ⟨f3,eb,e2⟩:=Z.Res.bind_ok e2
  refine .inr ⟨z.go i d H2 s2 hd,fun σ' H'=>∃ ρ',RS X.K H0 H' σ' ρ'∧Stb H1 H'∧Z.zfp G g (ds.drop (i+1)) ρ'=.ok fl,fun σ' H' w=>⟨_,by lia,rfl,hlt,w⟩,fun x H3 y=>?_⟩
  obtain ⟨sy,dx⟩:=z.yld i d H2 H3 x s2 hd y
  replace s2:=s2.trans (stb sy)
  refine ⟨ρ2,d,ρ3,r2.up sy,dx,eg,fun σ4 H4 s4' r4=>⟨ρ3,f3,r4,eb,?_⟩⟩
  have s4:=stb s4'
  cases f3 with
  | nx ρ5=>exact fun σ5 H5 s5 r5=>⟨ρ5,r5,(s2.trans s4).trans s5,e2⟩
  | ct ρ5=>exact fun σ5 H5 s5 r5=>⟨ρ5,r5,(s2.trans s4).trans s5,e2⟩
  | bk ρ5 =>
   cases e2
   exact fun σ5 H5 s5 r5=>k σ5 H5 ((stb s1).trans ((s2.trans s4).trans s5)) r5
  | rt d5 =>
   cases e2
   exact k
 ·have:i=ds.length:=by lia
  subst this
  rw [List.drop_length] at e2
  cases e2
  exact .inl ⟨z.stop H2 s2,k σ2 H2 ((stb s1).trans s2) r2⟩
theorem zgZ {i:Nat} (h:DSs X H0 sts g):DSs X H0 sts (Z.znL i g):=by
 intro pins s σ H D I w
 obtain ⟨ρ,fl,rs,e,k⟩:=w
 unfold Z.znL Z.frz at e
 split at e
 ·rename_i xs ei
  obtain ⟨v,si,q,us,rfl,hq,t⟩:=rs.re.get i _ ei
  obtain ⟨o,I2⟩:=zfJ I hq
  exact h pins s σ _ D I2 ⟨_,fl,rs.frz ei si hq t,e,k.up (zex hq)⟩
 ·exact h pins s σ H D I ⟨ρ,fl,rs,e,k⟩
theorem zms {i:Nat} {o:Expr} {p1 p2:Pos} (ho:PE X o (tVar i)) (ha:DE X a fa) (hs:swapsWith (.Call (.Attribute o "append" p1) [a] [] p2) none pos.line X.env=pure false:=by rfl) (hs1:starEach (a :: []) X.env=(false,eval a X.env) :: starEach [] X.env:=by rfl)
  (hbm:PE X (.Call (.Attribute o "append" p1) [a] [] p2) (tBM X.K "list" zlV (tVar i) (tCons (tZ X.K fa) tNil))) :
  DS X H0 (.Expr (.Call (.Attribute o "append" p1) [a] [] p2) pos) (Z.zco i fa):=PS.imp (ps_expr hbm hs) fun D σ H ⟨ρ,fl,rs,e,k⟩=>by
 obtain ⟨d,ea,e⟩:=Z.Res.bind_ok e
 split at e
 ·rename_i xs ei
  unfold Z.guard at e
  split at e
  ·rename_i hl
   cases e
   obtain ⟨v,si,q,us,rfl,hq,t⟩:=rs.re.get i _ ei
   refine ⟨.ref q,si,.inl ⟨rfl,us,SqL.of hq⟩,ρ,d,rs.re,ea,fun v' H1 s1 dv=>?_⟩
   have hq1:H1 q=some (.lst us):=s1 _ _ hq
   refine ⟨q,us,v',rfl,rfl,hq1,by rw [t.length,sizeLine_eq];exact hl,?_⟩
   exact k σ _ ((stb s1).trans (zex hq1)) ((rs.up s1).chg ei si hq1 ((t.up s1).append (zaE.cons dv zaE.nil)))
  ·cases e
 ·cases e
end
end ZS
namespace ZS
open PySem PySem.Spec PyProof.Rows L2
theorem zfU {env : Env} : ∀ (names : List (Str × NameKind)) (acc : List (Str × Addr)), (∀ y ∈ names, y.2 = .free → ∃ c, env.cells.lookup y.1 = some c) → (∀ x c, acc.lookup x = some c → env.cells.lookup x = some c) →
  ∃ cl,(forIn names acc fun (x:Str×NameKind) (cs:List (Str×Addr))=>(if (x.2==NameKind.free)=true then do let c ←cellOf env x.1;pure (ForInStep.yield ((x.1,c) :: cs)) else pure (ForInStep.yield cs):Sem (ForInStep (List (Str×Addr)))))=pure cl ∧
   (∀ x c,cl.lookup x=some c→env.cells.lookup x=some c)∧(∀ x,(acc.lookup x).isSome=true→(cl.lookup x).isSome=true)∧(∀ y∈names,y.2=.free→(cl.lookup y.1).isSome=true)
 | [],acc,_,ha=>⟨acc,rfl,ha,fun _ h=>h,fun y hy=>by cases hy⟩
 | (n, k) :: r, acc, hn, ha => by
  by_cases hk:k=.free
  ·subst hk
   obtain ⟨c,hc⟩:=hn (n,.free) List.mem_cons_self rfl
   have ha':∀ x d,((n,c) :: acc).lookup x=some d→env.cells.lookup x=some d:=fun x d e=>by
    rw [List.lookup_cons] at e
    split at e
    ·rename_i q;cases e;rw [beq_iff_eq.mp q];exact hc
    ·exact ha x d e
   obtain ⟨cl,e,h1,h2,h3⟩:=zfU r ((n,c) :: acc) (fun y hy=>hn y (List.mem_cons_of_mem _ hy)) ha'
   have self:(cl.lookup n).isSome=true:=h2 n (by rw [List.lookup_cons_self];rfl)
   refine ⟨cl,?_,h1,fun x hx=>h2 x ?_,fun y hy hf=>?_⟩
   ·rw [List.forIn_cons]
    simp only [beq_self_eq_true,if_true]
    have:cellOf env n=pure c:=by unfold cellOf;rw [hc]
    rw [this]
    exact e
   ·rw [List.lookup_cons]
    split
    ·rfl
    ·exact hx
   ·rcases List.mem_cons.mp hy with rfl | hy
    ·exact self
    ·exact h3 y hy hf
  ·obtain ⟨cl,e,h1,h2,h3⟩:=zfU r acc (fun y hy=>hn y (List.mem_cons_of_mem _ hy)) ha
   have hb:(k==NameKind.free)=false:=by simpa using hk
   refine ⟨cl,?_,h1,h2,fun y hy hf=>?_⟩
   ·rw [List.forIn_cons]
    simp only [hb,Bool.false_eq_true,if_false]
    exact e
   ·rcases List.mem_cons.mp hy with rfl | hy
    ·exact absurd hf hk
    ·exact h3 y hy hf
theorem ziv {env:Env} {scope:Scope} (hn:∀ y∈scope.names,y.2=.free→∃ c,env.cells.lookup y.1=some c) :
  ∃ cl,closureFor scope env=pure cl∧(∀ x c,cl.lookup x=some c→env.cells.lookup x=some c)∧(∀ y∈scope.names,y.2=.free→(cl.lookup y.1).isSome=true):=by
 obtain ⟨cl,e,h1,_,h3⟩:=zfU (env:=env) scope.names [] hn (fun x c e=>by cases e)
 refine ⟨cl,?_,h1,h3⟩
 unfold closureFor
 first
  | exact e
  | (simp only [bind_pure];exact e)
  | (rw [show _=_ from e];rfl)
theorem zdS {env : Env} {x : Str} : ∀ (names : List (Str × NameKind)), (names.map fun (n, k) => if (k == NameKind.free && env.scope.kind == .function && env.kindOf n == some .cell) = true then (n, NameKind.cell) else (n, k)).lookup x = (names.lookup x).map fun k => if (k == NameKind.free && env.scope.kind == .function && env.kindOf x == some .cell) = true then NameKind.cell else k
 | []=>rfl
 | (n, k) :: r => by
  have ih:=@zdS env x r
  show List.lookup x ((if (k==NameKind.free&&env.scope.kind==.function&&env.kindOf n==some .cell)=true then (n,NameKind.cell) else (n,k)) :: _)=_
  by_cases hx:x=n
  ·subst hx
   by_cases hc:(k==NameKind.free&&env.scope.kind==.function&&env.kindOf x==some .cell)=true
   ·rw [if_pos hc,List.lookup_cons_self,List.lookup_cons_self,Option.map_some,if_pos hc]
   ·rw [if_neg hc,List.lookup_cons_self,List.lookup_cons_self,Option.map_some,if_neg hc]
  ·have hb:(x==n)=false:=by simpa using hx
   by_cases hc:(k==NameKind.free&&env.scope.kind==.function&&env.kindOf n==some .cell)=true
   ·rw [if_pos hc,List.lookup_cons,List.lookup_cons,hb]
    exact ih
   ·rw [if_neg hc,List.lookup_cons,List.lookup_cons,hb]
    exact ih
noncomputable abbrev blk (X:Cx) (N':List Str) (scope:Scope) (cl:List (Str×Addr)) (C:Addr) (fp:List Addr) (s₂:Shared) (H₂:Hp):Cx :=
 { prog:=X.prog,w:=X.w,K:=X.K,mg:=X.mg,base:=X.base,A:=X.A,N:=N',s₀:=s₂,H₀:=H₂,env:=compEnvC scope cl C X.env,outer:=X.stack,stack:=X.stack,ex:=fp,fn:=fun _=>false,calm:=X.calm,pn:=[],xe:=fun _ _=>False }
structure Blk (N N':List Str) (n:Nat) (is:List Nat) (sc osc:Scope):Prop where
 kind:sc.kind=.function
 cell:∀ y∈sc.names,y.2≠.cell
 loc:∀ y∈sc.names,y.2=.local→sc.names.lookup y.1=some .local
 free:∀ y∈sc.names,y.2=.free→osc.names.lookup y.1=some .cell∨osc.names.lookup y.1=some .free
 len:N'.length=n+is.length
 cap:∀ (j i:Nat),is[j]?=some i→∃ x,N'[n+j]?=some x∧N[i]?=some x∧sc.names.lookup x=some .free
 own:∀ (j:Nat),j < n→∃ x,N'[j]?=some x∧sc.names.lookup x=some .local
section
variable {X:Cx} {tg e a b elt iter:Expr} {ifs:List Expr} {pos:Pos} {N':List Str} {n:Nat} {is:List Nat} {scope:Scope}
noncomputable def zm5 (σ:St) (n:Nat) (is:List Nat):St:=List.replicate n none++is.map fun i=>(σ[i]?).join
theorem zdD (n:Nat) (is:List Nat) (ρ:Z.Env) (i:Nat) (xs:List Z.D):(List.replicate n none++Z.zhq ρ is:Z.Env)[i]?≠some (some (.own xs)):=by
 intro e
 by_cases hi:i < n
 ·rw [List.getElem?_append_left (by simpa using hi),List.getElem?_replicate] at e
  split at e<;>cases e
 ·rw [List.getElem?_append_right (by simpa using hi)] at e
  unfold Z.zhq at e
  rw [List.getElem?_map] at e
  cases q:is[i-(List.replicate n (none:Option Z.L)).length]? with
  | none=>rw [q] at e;cases e
  | some j =>
   rw [q] at e
   have e':Z.zhp ρ j=some (.own xs):=Option.some.inj e
   unfold Z.zhp at e'
   split at e'<;>cases e'
theorem zhb (n:Nat) (is:List Nat) (ρ:Z.Env) (i:Nat) (ks:List (List Int)):(List.replicate n none++Z.zhq ρ is:Z.Env)[i]?≠some (some (.dic ks)):=by
 intro e
 by_cases hi:i < n
 ·rw [List.getElem?_append_left (by simpa using hi),List.getElem?_replicate] at e
  split at e<;>cases e
 ·rw [List.getElem?_append_right (by simpa using hi)] at e
  unfold Z.zhq at e
  rw [List.getElem?_map] at e
  cases q:is[i-(List.replicate n (none:Option Z.L)).length]? with
  | none=>rw [q] at e;cases e
  | some j =>
   rw [q] at e
   have e':Z.zhp ρ j=some (.dic ks):=Option.some.inj e
   unfold Z.zhp at e'
   split at e'<;>cases e'
theorem zpw {K : PySem.W.Frag} {H H' : Hp} {σ : St} {ρ : Z.Env} (h : RE K H σ ρ) (s : Same H H') : RS K H H' (zm5 σ n is) (List.replicate n none ++ Z.zhq ρ is) := by
 have key:∀ (i:Nat) (l:Z.L),(List.replicate n none++Z.zhq ρ is:Z.Env)[i]?=some (some l)→∃ v,(zm5 σ n is)[i]?=some (some v)∧RL K H l v:=?_
 refine ⟨s,⟨by simp [zm5,Z.zhq],fun i l e=>let ⟨v,h1,h2⟩:=key i l e;⟨v,h1,h2.up s⟩,fun i j xs ys q e1=>absurd e1 (zdD n is ρ i xs)⟩,fun i xs q e1=>absurd e1 (zdD n is ρ i xs),fun i xs e1=>key i _ e1,zgj.non (zhb n is ρ)⟩
 intro i l e
 by_cases hi:i < n
 ·rw [List.getElem?_append_left (by simpa using hi),List.getElem?_replicate] at e
  split at e<;>cases e
 ·rw [List.getElem?_append_right (by simpa using hi)] at e
  unfold zm5
  rw [List.getElem?_append_right (by simpa using hi)]
  simp only [List.length_replicate] at e ⊢
  unfold Z.zhq at e
  rw [List.getElem?_map] at e ⊢
  cases q:is[i-n]? with
  | none=>rw [q] at e;cases e
  | some j =>
   rw [q] at e
   have e':Z.zhp ρ j=some l:=Option.some.inj e
   unfold Z.zhp at e'
   split at e'
   ·rename_i d hd
    cases e'
    obtain ⟨v,h1,h2⟩:=h.get j _ hd
    refine ⟨v,?_,h2⟩
    simp [h1]
   ·rename_i d hd
    cases e'
    obtain ⟨v,h1,h2⟩:=h.get j _ hd
    refine ⟨v,?_,h2⟩
    simp [h1]
   ·rename_i d hd
    cases e'
    obtain ⟨v,h1,h2⟩:=h.get j _ hd
    refine ⟨v,?_,h2⟩
    simp [h1]
   ·cases e'
theorem ze6 {prog:Program} {w:World} {A:Around} {R:Result→Shared→Prop} {s:Shared} {elt target iter:Expr} {ifs:List Expr} {scope:Scope} {pos:Pos} {it acc:Value} {env:Env} (I:Nat→Shared→Prop)
  (turn : ∀ n s, I n s → wpAny (model prog w) A (pyNext it) (fun r s₁ => match r with
   | none=>R (.ok .next) s₁
   | some v=>wpAny (model prog w) A (letOwnedTupleGo target it v) (fun _ s₁=>wpAny (model prog w) A (assign target env v) (fun _ s₂ =>
     wpAny (model prog w) A (forIn ifs true fun c r=>if r=true then do let ok ←isTrue c env (eval c env);pure (ForInStep.yield ok) else pure (ForInStep.yield r)) (fun ok s₃ =>
      if ok=true then wpAny (model prog w) A (eval elt env) (fun x s₄ =>
       wpAny (model prog w) A (call (.builtin "list.append") [acc,x]) (fun _ s₅=>∃ m,m < n∧I m s₅) (fun _ _=>False) s₄) (fun _ _=>False) s₃
      else ∃ m,m < n∧I m s₃) (fun _ _=>False) s₂) (fun _ _=>False) s₁) (fun _ _=>False) s₁) (fun _ _=>False) s)
  (n:Nat) (h:I n s) :
  codeAny (model prog w) A (.compLoop (.ListComp elt [⟨target,iter,ifs,0⟩] scope pos) 0 it acc env) R s:=by
 refine codeAny_loop rfl I (fun n s hI=>?_) n h
 show wpAny _ A ((compTurn (.ListComp elt [⟨target,iter,ifs,0⟩] scope pos) 0 it acc env).onRaise (fun x=>do noteFrame x env;theTreesLotGoes x)) _ _ s
 refine wpAny_noted ?_
 rw [compTurn_list]
 refine wpAny_bind (wpAny_standAt (wpAny_bind (wpAny_mono (turn n s hI) (fun r s₁ h₁=>?_) fun _ _ h'=>h'.elim)))
 cases r with
 | none=>exact wpAny_pure h₁
 | some v =>
  refine wpAny_bind (wpAny_mono h₁ (fun _ s₁ h₁=>?_) fun _ _ h'=>h'.elim)
  refine wpAny_bind (wpAny_mono h₁ (fun _ s₂ h₂=>wpAny_bind (wpAny_mono h₂ (fun ok s₃ h₃=>?_) fun _ _ h'=>h'.elim)) fun _ _ h'=>h'.elim)
  cases ok with
  | false=>exact wpAny_pure ⟨rfl,h₃⟩
  | true =>
   exact wpAny_bind (wpAny_bind (wpAny_mono h₃ (fun x s₄ h₄=>wpAny_bind (wpAny_mono h₄ (fun _ s₅ h₅=>wpAny_pure (wpAny_pure ⟨rfl,h₅⟩)) fun _ _ h'=>h'.elim)) fun _ _ h'=>h'.elim))
structure Off (X:Cx) (pins:List (Addr×Obj)) (H:Hp) (C:Addr):Prop where
 free:H C=none
 loc:C≠X.env.locals
 new:X.s₀.heap.objs.size≤C
 cell:∀ x c,X.env.cells.lookup x=some c→c≠C
 pin:∀ p∈X.pn++pins,p.1≠C
theorem Off.inv {pins:List (Addr×Obj)} {σ:St} {H:Hp} {s:Shared} {C:Addr} {h':Heap} (o:Off X pins H C) (I:Inv X pins σ H s) (hs:Heap.SameBut C s.heap h'):Inv X pins σ H { s with heap:=h' } :=
 I.turned (t':=s.toks) (fun b ob hb e=>(hs.2 b hb).trans e) o.free o.loc (.inr o.new) o.cell o.pin
def Ran (X:Cx) (pins:List (Addr×Obj)) (σ:St) (H₂:Hp) (ys:List Z.D) (acc:Value) (C:Addr) (s':Shared):Prop :=
 ∃ D H' vs m,acc=.ref D∧s'.heap.Ns C m∧Inv X pins σ H' s'∧Off X pins H' C∧H₂ D=none∧Same H₂ H'∧H' D=some (.lst vs)∧zaE X.K H' ys vs
theorem znE {it : Addr} {fp : List Addr} {tn : Nat → Heap → Prop} {J : It} {pins : List (Addr × Obj)} {σ : St} {ρ : Z.Env} {H₂ : Hp} {s₂ : Shared} {E : Value → Shared → Prop} {cl : List (Str × Addr)} {G : Z.GF} {t : Z.TF} {fe : Z.EF} {ds ys : List Z.D}
  (hcalm:X.calm=true) (B:Blk X.N N' n is scope X.env.scope) (I2:Inv X pins σ H₂ s₂) (T:Turn X.prog X.w X.K tg J fp it tn) (st0:tn 0 s₂.heap) (fo:∀ b∈fp,FpOk X pins H₂ b) (z:ItZ X.K J (Same H₂) ds) (re:RE X.K H₂ σ ρ)
  (hcl1:∀ x c,cl.lookup x=some c→X.env.cells.lookup x=some c) (hcl2:∀ y∈scope.names,y.2=.free→(cl.lookup y.1).isSome=true)
  (hG:∀ d ρ ρ1,G d ρ=.ok ρ1→ρ1.length=ρ.length∧∀ i,n≤i→ρ1[i]?=ρ[i]?)
  (hg:∀ C s H H0,DG (blk X N' scope cl C fp s H) H0 tg G)
  (ht:∀ (C:Addr) (s s':Shared) (H:Hp) (pins':List (Addr×Obj)) (σ':St) (H':Hp) (Q:Bool→Hp→Prop),Inv (blk X N' scope cl C fp s H) pins' σ' H' s'→tZt X.K t σ' H' Q →
   wpAny (model X.prog X.w) X.A (forIn ifs true fun c r=>if r=true then do let ok ←isTrue c (compEnvC scope cl C X.env) (eval c (compEnvC scope cl C X.env));pure (ForInStep.yield ok) else pure (ForInStep.yield r)) (TP (blk X N' scope cl C fp s H) pins' σ' Q) (fun _ _=>False) s')
  (he:∀ C s H,DE (blk X N' scope cl C fp s H) elt fe) (hlen:ds.length≤Z.line) (ego:Z.zc7 G t fe (List.replicate n none++Z.zhq ρ is) ds=.ok ys) :
  wpAny (model X.prog X.w) X.A (newList []) (fun acc s₃=>wpAny (model X.prog X.w) X.A (newFunctionEnv scope X.env.globals cl [] X.env.qual none .none (some X.env)) (fun cenv s₄ =>
   codeAny (model X.prog X.w) X.A (.compStart (.ListComp elt [⟨tg,iter,ifs,0⟩] scope pos) 0 (.ref it) acc { cenv with scope:=relabel scope X.env }) (fun r s'=>r=.ok .next∧Ran X pins σ H₂ ys acc cenv.locals s') s₄) E s₃) E s₂:=by
 refine wpAny_newObj_type (wpAny_newFunctionEnv B.cell (by intro y hy;simp at hy) (fun h₁ hns₁ hsb₁=>?_) B.kind)
 dsimp only at hns₁ hsb₁ ⊢
 generalize hH2:s₂.heap.push { cls:=.type "list",dict:=none,data:=.seq ([]:List Value).toArray }=HH at hns₁ hsb₁ ⊢
 have hC:HH.objs.size=s₂.heap.objs.size+1:=by rw [←hH2,Heap.size_push]
 have hDC:s₂.heap.objs.size≠HH.objs.size:=by rw [hC];exact Nat.ne_of_lt (Nat.lt_succ_self _)
 have below:∀ b,b < s₂.heap.objs.size→b≠HH.objs.size∧b≠s₂.heap.objs.size:=fun b hb=>⟨by rw [hC];exact Nat.ne_of_lt (Nat.lt_succ_of_lt hb),Nat.ne_of_lt hb⟩
 have old:∀ b o,s₂.heap.get? b=some o→h₁.get? b=some o:=fun b o e=>hsb₁.extBut b o (below b (Heap.lt_size e)).1 (Heap.get?_push_of_some _ (hH2▸Heap.get?_push_of_some _ e))
 have hacc:h₁.get? s₂.heap.objs.size=some { cls:=.type "list",data:=.seq ([]:List Value).toArray }:=hsb₁.extBut _ _ hDC (Heap.get?_push_of_some _ (hH2▸Heap.get?_push_size _ rfl))
 have fpo:∀ b∈fp,∃ o,s₂.heap.get? b=some o∧∀ v,o.data≠.cell v:=T.obj 0 _ st0
 have fplt:∀ b∈fp,b < s₂.heap.objs.size:=fun b hb=>let ⟨_,e,_⟩:=fpo b hb;Heap.lt_size e
 generalize hD:s₂.heap.objs.size=D at hDC below old hacc hC ⊢
 generalize hCC:HH.objs.size=C at hns₁ hsb₁ hDC below hC ⊢
 have hDn:H₂ D=none:=I2.hok.fresh (by rw [hD];exact Nat.le_refl _)
 have hCn:H₂ C=none:=I2.hok.fresh (by rw [hD,hC];exact Nat.le_succ _)
 -- the block's context is in order
 have ok : (blk X N' scope cl C fp s₂ H₂).Ok := by
  refine ⟨I2.ok.mod,B.kind,I2.ok.glob,I2.ok.blt,by show s₂.heap.objs.size≤C;rw [hD,hC];exact Nat.le_succ _,fun x y c e1 e2=>I2.ok.inj x y c (hcl1 x c e1) (hcl1 y c e2),fun x hx=>?_,fun x c hf=>(by cases hf),I2.ok.hd,I2.ok.frames,.inl rfl,
   fun b hb=>⟨(below b (by rw [←hD];exact fplt b hb)).1,fun x c e=>(fo b hb).2.2.2.2.1 x c (hcl1 x c e)⟩,I2.bs,Nat.le_trans I2.ok.bsz I2.sz,fun b o e hb=>?_,fun b hb z=>?_,I2.stack,I2.stkFree⟩
  ·have hx':(relabel scope X.env).names.lookup x=some .cell∨(relabel scope X.env).names.lookup x=some .free:=hx
   have e:=zdS (env:=X.env) (x:=x) scope.names
   have e':(relabel scope X.env).names.lookup x=_:=e
   rw [e'] at hx'
   cases q:scope.names.lookup x with
   | none=>rw [q] at hx';rcases hx' with h | h<;>cases h
   | some k =>
    have hm:=PySem.mem_of_lookup q
    have hk:k=.free:=by
     rw [q] at hx'
     simp only [Option.map_some] at hx'
     by_cases hc:(k==NameKind.free&&X.env.scope.kind==.function&&X.env.kindOf x==some .cell)=true
     ·rw [Bool.and_eq_true,Bool.and_eq_true] at hc
      exact beq_iff_eq.mp hc.1.1
     ·rw [if_neg hc] at hx'
      rcases hx' with h | h
      ·exact absurd (Option.some.inj h) (B.cell _ hm)
      ·exact Option.some.inj h
    subst hk
    exact Option.isSome_iff_exists.mp (hcl2 _ hm rfl)
  ·rcases (fo b hb).2.2.2.1 with q | q
   ·exact I2.ok.noex b o e q
   ·exact absurd (Nat.lt_of_lt_of_le (Heap.lt_size (I2.ok.bs b o e).1) q) (Nat.lt_irrefl _)
  ·rcases List.mem_cons.mp (I2.stkSub b z) with q | q
   ·exact (fo b hb).2.1 q
   ·exact (fo b hb).2.2.1 q
 have Hd:HOk X.prog X.w (upd H₂ D (.lst [])) h₁:=I2.hok.laid old (by rw [hD];exact Nat.le_refl _) ⟨Nat.zero_le _,[],_,.nil,hacc⟩
 have ne2:∀ b,b < s₂.heap.objs.size→b≠D:=fun b hb=>by rw [←hD];exact Nat.ne_of_lt hb
 have cellS:∀ x c,X.env.cells.lookup x=some c→c < s₂.heap.objs.size∧∀ v,s₂.heap.IsCell c v→h₁.IsCell c v:=fun x c e=>by
  obtain ⟨v,o,ho,hd⟩:=I2.cell x c e
  exact ⟨Heap.lt_size ho,fun v' ⟨o',ho',hd'⟩=>⟨o',old c o' ho',hd'⟩⟩
 have I4 : Inv (blk X N' scope cl C fp s₂ H₂) [] (zm5 σ n is) (upd H₂ D (.lst [])) { s₂ with heap := h₁, toks := s₂.toks + ([] : List (Str × Value)).length } := by
  refine ⟨ok,rfl,I2.bare,Un.laid old (by rw [hD];exact Nat.le_refl _) hDn,⟨_,hns₁,fun i x v e1 e2 e3=>?_⟩,fun x c e=>?_,by show upd H₂ D (.lst []) C=none;rw [upd_ne (Ne.symm hDC)];exact hCn,fun x c e=>?_,fun p hp=>absurd (show p∈([]:List (Addr×Obj)) from hp) (by simp),Hd,by simp [zm5,B.len]⟩
  ·unfold zm5 at e2
   by_cases hi:i < n
   ·rw [List.getElem?_append_left (by simpa using hi),List.getElem?_replicate] at e2
    split at e2<;>cases e2
   ·rw [List.getElem?_append_right (by simpa using hi),List.getElem?_map] at e2
    simp only [List.length_replicate] at e2
    cases q:is[i-n]? with
    | none=>rw [q] at e2;cases e2
    | some j =>
     rw [q] at e2
     simp only [Option.map_some] at e2
     obtain ⟨x',c1,c2,c3⟩:=B.cap (i-n) j q
     have hin:n+(i-n)=i:=by lia
     rw [hin] at c1
     have e1':N'[i]?=some x:=e1
     rw [c1] at e1';cases e1'
     have hσ:σ[j]?=some (some v):=by
      cases r:σ[j]? with
      | none=>rw [r] at e2;cases e2
      | some y =>
       rw [r] at e2
       have:y=some v:=by simpa using e2
       rw [this]
     obtain ⟨m,hn,hl⟩:=I2.loc
     have hm:=PySem.mem_of_lookup c3
     have hk:=B.free _ hm rfl
     have hvis:Vis X.env.scope x:=by
      rcases hk with k | k
      ·exact .inr (.inl k)
      ·exact .inr (.inr k)
     obtain ⟨u,ru,lk⟩:=hl j x v c2 hσ hvis
     refine ⟨u,ru,?_⟩
     rcases lk with ⟨k1,_⟩ | ⟨k1,c,hc,hcell⟩
     ·have k1':X.env.scope.names.lookup x=some .local:=k1
      rcases hk with k | k
      ·rw [k] at k1';cases k1'
      ·rw [k] at k1';cases k1'
     ·obtain ⟨c',hc'⟩:=Option.isSome_iff_exists.mp (hcl2 _ hm rfl)
      have:c'=c:=by
       have:=hcl1 x c' hc'
       rw [hc] at this;exact (Option.some.inj this).symm
      subst this
      refine .inr ⟨?_,c',hc',(cellS x c' hc).2 _ hcell⟩
      show (relabel scope X.env).names.lookup x=some .cell∨(relabel scope X.env).names.lookup x=some .free
      have e:=zdS (env:=X.env) (x:=x) scope.names
      have e':(relabel scope X.env).names.lookup x=_:=e
      rw [e',c3]
      simp only [Option.map_some]
      split
      ·exact .inl rfl
      ·exact .inr rfl
  ·obtain ⟨v,hv⟩:=I2.cell x c (hcl1 x c e)
   exact ⟨v,(cellS x c (hcl1 x c e)).2 v hv⟩
  ·have hlt:=(cellS x c (hcl1 x c e)).1
   rw [upd_ne (ne2 c hlt)]
   exact I2.freeC x c (hcl1 x c e)
 have rs4:RS X.K H₂ (upd H₂ D (.lst [])) (zm5 σ n is) (List.replicate n none++Z.zhq ρ is):=zpw re (zb0 hDn)
 have st4:tn 0 h₁:=T.keep 0 _ _ st0 fun b hb o e=>old b o e
 have fr4:∀ b∈fp,(upd H₂ D (.lst [])) b=none:=fun b hb=>by rw [upd_ne (ne2 b (fplt b hb))];exact (fo b hb).1
 -- what stays true of the iterator's objects
 have stat:∀ {H':Hp},(∀ b∈fp,H' b=none)→∀ b∈fp,FpOk (blk X N' scope cl C fp s₂ H₂) [] H' b:=fun hn b hb=>by
  refine ⟨hn b hb,(below b (by rw [←hD];exact fplt b hb)).1,?_,.inl hb,fun x c e=>(fo b hb).2.2.2.2.1 x c (hcl1 x c e),fun p hp=>absurd (show p∈([]:List (Addr×Obj)) from hp) (by simp)⟩
  intro q
  rcases List.mem_cons.mp (I2.stkSub b q) with q | q
  ·exact (fo b hb).2.1 q
  ·exact (fo b hb).2.2.1 q
 have loop : codeAny (model X.prog X.w) X.A (.compLoop (.ListComp elt [⟨tg, iter, ifs, 0⟩] scope pos) 0 (.ref it) (.ref D) (compEnvC scope cl C X.env)) (fun r s' => r = .ok .next ∧ Ran X pins σ H₂ ys (.ref D) C s')
   { s₂ with heap:=h₁,toks:=s₂.toks+([]:List (Str×Value)).length }:=by
  refine ze6 (fun m s'=>∃ i σ' H' vs zs,m=ds.length+1-i∧i≤ds.length∧vs.length≤i∧Inv (blk X N' scope cl C fp s₂ H₂) [] σ' H' s'∧tn i s'.heap∧(∀ b∈fp,H' b=none)∧H' D=some (.lst vs)∧Same H₂ H' ∧
   RS X.K H₂ H' σ' (List.replicate n none++Z.zhq ρ is)∧(∃ rest,Z.zc7 G t fe (List.replicate n none++Z.zhq ρ is) (ds.drop i)=.ok rest∧zs++rest=ys)∧zaE X.K H' zs vs) ?_ (ds.length+1)
   ⟨0,zm5 σ n is,_,[],[],rfl,Nat.zero_le _,Nat.le_refl _,I4,st4,fr4,upd_same,zb0 hDn,rs4,⟨ys,by simpa using ego,rfl⟩,zaE.nil⟩
  ·rintro m s' ⟨i,σ3,H3,vs,zs,rfl,hil,hvl,I3,st3,fr3,hD3,sm3,re3,⟨rest,er,ez⟩,dz⟩
   by_cases hlt:i < ds.length
   ·obtain ⟨d,hd⟩:∃ d,ds[i]?=some d:=⟨ds[i],by simp [hlt]⟩
    have hdrop:ds.drop i=d :: ds.drop (i+1):=by
     rw [List.drop_eq_getElem_cons hlt]
     have:ds[i]=d:=by
      have:=List.getElem?_eq_getElem hlt
      rw [this] at hd;exact Option.some.inj hd
     rw [this]
    rw [hdrop] at er
    unfold Z.zc7 at er
    obtain ⟨ρ1,eg,er⟩:=Z.Res.bind_ok er
    obtain ⟨c1,ec,er⟩:=Z.Res.bind_ok er
    refine thn (T.item (blk X N' scope cl C fp s₂ H₂) rfl rfl rfl hcalm i [] s' σ3 H3 (fun _ _=>False) I3 (stat fr3) st3 (z.go i d H3 sm3 hd)) fun r s4 ⟨u,hr,h4⟩=>?_
    subst hr
    refine thn h4 fun _ s5 ⟨x,H5,I5,r5,y5,st5,fr5⟩=>?_
    obtain ⟨sy,dx⟩:=z.yld i d H3 H5 x sm3 hd y5
    replace re3:=re3.up sy
    replace sm3:=sm3.trans sy
    replace hD3:=sy _ _ hD3
    replace dz:=dz.up sy
    have I5':=I5.pinned (stat fr5) (T.obj _ _ st5)
    have rs5:RS X.K H₂ H5 σ3 (List.replicate n none++Z.zhq ρ is):=re3
    refine thn (hg C s₂ H₂ H₂ _ s5 σ3 H5 x u (fun σ6 H6=>Same H5 H6∧RS X.K H₂ H6 σ6 ρ1) I5' r5 ⟨_,d,ρ1,rs5,dx,eg,fun σ' H' s' r'=>⟨s',r'⟩⟩) fun _ s6 ⟨σ6,H6,I6,sm6,rs6⟩=>?_
    refine thn (ht C s₂ s6 H₂ _ σ6 H6 (fun b H7=>b=c1∧Same H6 H7) I6 ⟨ρ1,c1,rs6.re,ec,fun H7 s7=>⟨rfl,s7⟩⟩) fun ok s7 ⟨H7,I7,e7,sm7⟩=>?_
    subst e7
    have sm57:Same H5 H7:=sm6.trans sm7
    have re7:RE X.K H7 σ6 ρ1:=rs6.re.up sm7
    have re0:∀ {H9:Hp},Same H7 H9→RS X.K H₂ H9 σ6 (List.replicate n none++Z.zhq ρ is):=fun {H9} s9=>by
     obtain ⟨gl,gk⟩:=hG d _ ρ1 eg
     refine ⟨(rs6.same.trans sm7).trans s9,⟨by rw [←gl];exact re7.len,fun j l e=>?_,fun j k xs ys q e1=>absurd e1 (zdD n is ρ j xs)⟩,fun j xs q e1=>absurd e1 (zdD n is ρ j xs),fun j xs e=>?_,zgj.non (zhb n is ρ)⟩
     rotate_left
     ·by_cases hj:n≤j
      ·rw [←gk j hj] at e
       exact rs6.bors j xs e
      ·rw [List.getElem?_append_left (by simp;lia),List.getElem?_replicate] at e
       split at e<;>cases e
     by_cases hj:n≤j
     ·rw [←gk j hj] at e
      exact (re7.up s9).get j l e
     ·rw [List.getElem?_append_left (by simp;lia),List.getElem?_replicate] at e
      split at e<;>cases e
    have fin:∀ {H9:Hp} {s9:Shared} (vs9:List V) (zs9:List Z.D),Inv (blk X N' scope cl C fp s₂ H₂) ([]++pinsAt fp s5.heap) σ6 H9 s9→H9 D=some (.lst vs9)→vs9.length≤i+1→Same H₂ H9→RS X.K H₂ H9 σ6 (List.replicate n none++Z.zhq ρ is) →
      (∃ rest,Z.zc7 G t fe (List.replicate n none++Z.zhq ρ is) (ds.drop (i+1))=.ok rest∧zs9++rest=ys)→zaE X.K H9 zs9 vs9→∃ m,m < ds.length+1-i∧∃ i σ' H' vs zs,m=ds.length+1-i∧i≤ds.length∧vs.length≤i∧Inv (blk X N' scope cl C fp s₂ H₂) [] σ' H' s9∧tn i s9.heap∧(∀ b∈fp,H' b=none)∧H' D=some (.lst vs)∧Same H₂ H' ∧
       RS X.K H₂ H' σ' (List.replicate n none++Z.zhq ρ is)∧(∃ rest,Z.zc7 G t fe (List.replicate n none++Z.zhq ρ is) (ds.drop i)=.ok rest∧zs++rest=ys)∧zaE X.K H' zs vs:=by
     intro H9 s9 vs9 zs9 I9 hD9 hv9 sm9 re9 er9 dz9
     refine ⟨ds.length+1-(i+1),by lia,i+1,σ6,H9,vs9,zs9,rfl,hlt,hv9,I9.unpinned,T.keep _ _ _ st5 fun b hb o e=>(I9.pin (b,o) (List.mem_append_right _ (List.mem_append_right _ (mem_pinsAt hb e)))).1,fun b hb=>?_,hD9,sm9,re9,er9,dz9⟩
     obtain ⟨o,e,_⟩:=T.obj _ _ st5 b hb
     exact (I9.pin (b,o) (List.mem_append_right _ (List.mem_append_right _ (mem_pinsAt hb e)))).2.1
    have hD7:H7 D=some (.lst vs):=sm57 _ _ hD3
    cases ok with
    | false =>
     simp only [Bool.false_eq_true,if_false] at er ⊢
     exact fin vs zs I7 hD7 (Nat.le_succ_of_le hvl) (sm3.trans sm57) (re0 (Same.refl _)) ⟨rest,er,ez⟩ (dz.up sm57)
    | true =>
     simp only [if_true] at er ⊢
     obtain ⟨y,ey,er⟩:=Z.Res.bind_ok er
     obtain ⟨rest2,er2,er⟩:=Z.Res.bind_ok er
     cases er
     refine thn (he C s₂ H₂ _ s7 σ6 H7 (fun v H8=>Same H7 H8∧Den X.K H8 y v) I7 ⟨ρ1,y,re7,ey,fun v H8 s8 d8=>⟨s8,d8⟩⟩) fun u8 s8 ⟨v8,H8,I8,rv8,sm8,dy⟩=>?_
     have hD8:H8 D=some (.lst vs):=sm8 _ _ hD7
     have sm28:Same H₂ H8:=(sm3.trans sm57).trans sm8
     refine thn (ziT (X:=blk X N' scope cl C fp s₂ H₂) _ s8 σ6 H8 (.ref D) [v8] (.ref D) [u8] (fun v H9=>v=.non∧H9=upd H8 D (.lst (vs++[v8]))) I8 rfl (.cons rv8 .nil) ⟨D,vs,v8,rfl,rfl,hD8,?_,rfl,rfl⟩) fun _ s9 ⟨v9,H9,I9,_,_,e9⟩=>?_
     ·rw [sizeLine_eq]
      have:Z.line=16777216:=rfl
      lia
     subst e9
     have st8:Stb H8 (upd H8 D (.lst (vs++[v8]))):=zex hD8
     have sm9:Same H₂ (upd H8 D (.lst (vs++[v8]))):=fun b o e=>by rw [upd_ne (ne_of_none e hDn)];exact sm28 b o e
     have re8:=re0 sm8
     refine fin (vs++[v8]) (zs++[y]) I9 upd_same (by simp;lia) sm9 ⟨sm9,⟨re8.re.len,fun j l e=>?_,fun j k xs ys q e1=>absurd e1 (zdD n is ρ j xs)⟩,fun j xs q e1=>absurd e1 (zdD n is ρ j xs),re8.bors,re8.dic⟩ ⟨rest2,er2,by rw [List.append_assoc];exact ez⟩ ((((dz.up sm57).up sm8).append (zaE.cons dy zaE.nil)).ups st8)
     obtain ⟨v,h1,h2⟩:=re8.re.get j l e
     refine ⟨v,h1,?_⟩
     cases l with
     | val dd=>exact Den.ups (show Den X.K H8 dd v from h2) st8
     | own xs=>exact absurd e (zdD n is ρ j xs)
     | bor xs =>
      obtain ⟨v',h3,h4⟩:=re8.bors j xs e
      rw [h1] at h3
      cases h3
      exact h4.up sm9
     | dic ks=>exact absurd e (zhb n is ρ j ks)
     | fdc ks =>
      obtain ⟨q',o',as,rfl,hq',t'⟩:=h2
      exact ⟨q',o',as,rfl,st8.frz _ _ _ hq',t'.ups st8⟩
     | idc ps =>
      obtain ⟨q',o',rfl,hq'⟩:=h2
      exact ⟨q',o',rfl,st8.frz _ _ _ hq'⟩
   ·have:i=ds.length:=by lia
    subst this
    rw [List.drop_length] at er
    cases er
    rw [List.append_nil] at ez
    subst ez
    refine thn (T.done (blk X N' scope cl C fp s₂ H₂) rfl rfl rfl hcalm _ [] s' σ3 H3 (fun _ _=>False) I3 (stat fr3) st3 (z.stop H3 sm3)) fun r s4 ⟨hr,J4⟩=>?_
    subst hr
    obtain ⟨m',hn',_⟩:=J4.loc
    have neC:∀ b o,s₂.heap.get? b=some o→b≠C:=fun b o e=>(below b (by rw [←hD];exact Heap.lt_size e)).1
    have I9:Inv X pins σ H3 s4:=I2.call' (s':=s4) J4.os J4.base J4.hok J4.bare fun b hb=>⟨(fo b hb).2.2.2.1,(fo b hb).2.1,(fo b hb).2.2.2.2.1,(fo b hb).2.2.2.2.2⟩
    have szC:s₂.heap.objs.size≤C:=by rw [hD,hC];exact Nat.le_succ _
    refine ⟨rfl,D,H3,vs,m',rfl,hn',I9,⟨J4.free,?_,Nat.le_trans I2.sz szC,fun x c e=>?_,fun p hp=>?_⟩,hDn,sm3,hD3,dz⟩
    ·exact Nat.ne_of_gt (Nat.lt_of_lt_of_le I2.lt szC)
    ·exact Nat.ne_of_lt (Nat.lt_of_lt_of_le (cellS x c e).1 szC)
    ·exact neC p.1 p.2 (I2.pin p hp).1
 have hst:codeAny (model X.prog X.w) X.A (.compStart (.ListComp elt [⟨tg,iter,ifs,0⟩] scope pos) 0 (.ref it) (.ref D) (compEnvC scope cl C X.env)) (fun r s'=>r=.ok .next∧Ran X pins σ H₂ ys (.ref D) C s')
   { s₂ with heap:=h₁,toks:=s₂.toks+([]:List (Str×Value)).length }:=codeAny_compStart_list loop (T.self _ 0 _ _ _ st4 loop)
 exact hst
theorem zaQ {k:Nat} (h:k < n) (d:Z.D) (ρ ρ1:Z.Env) (e:Z.gName k d ρ=.ok ρ1):ρ1.length=ρ.length∧∀ i,n≤i→ρ1[i]?=ρ[i]?:=by
 cases e
 exact ⟨by simp,fun i hi=>List.getElem?_set_ne (by lia)⟩
theorem zgU:∀ (ks:List Nat),(∀ k∈ks,k < n)→∀ (ds:List Z.D) (ρ ρ1:Z.Env),Z.zeE ks ds ρ=.ok ρ1→ρ1.length=ρ.length∧∀ i,n≤i→ρ1[i]?=ρ[i]?
 | [],_,[],ρ,ρ1,e=>by cases e;exact ⟨rfl,fun _ _=>rfl⟩
 | [],_,_ :: _,_,_,e=>by cases e
 | _ :: _,_,[],_,_,e=>by cases e
 | k :: ks,h,d :: ds,ρ,ρ1,e=>by
  obtain ⟨h1,h2⟩:=zgU ks (fun k hk=>h k (List.mem_cons_of_mem _ hk)) ds _ ρ1 e
  refine ⟨by rw [h1];simp,fun i hi=>?_⟩
  rw [h2 i hi]
  have:=h k List.mem_cons_self
  exact List.getElem?_set_ne (by lia)
theorem zfo {ks:List Nat} (h:∀ k∈ks,k < n) (d:Z.D) (ρ ρ1:Z.Env) (e:Z.gTup ks d ρ=.ok ρ1):ρ1.length=ρ.length∧∀ i,n≤i→ρ1[i]?=ρ[i]?:=by
 unfold Z.gTup at e
 split at e
 ·exact zgU ks h _ ρ ρ1 e
 ·cases e
def Tst (X:Cx) (ifs:List Expr) (t:Z.TF):Prop:=∀ (pins:List (Addr×Obj)) (s:Shared) (σ:St) (H:Hp) (Q:Bool→Hp→Prop),Inv X pins σ H s→tZt X.K t σ H Q →
 wpAny (model X.prog X.w) X.A (forIn ifs true fun c r=>if r=true then do let ok ←isTrue c X.env (eval c X.env);pure (ForInStep.yield ok) else pure (ForInStep.yield r)) (TP X pins σ Q) X.xe s
theorem zdi:Tst X [] Z.zdA:=fun pins s σ H Q I ⟨ρ,b,r,e,k⟩=>by
 cases e
 exact wpAny_tests_nil ⟨H,I,k H (Same.refl H)⟩
theorem zdN {c:Expr} {t:Z.TF} (h:DT X c t):Tst X [c] t:=fun pins s σ H Q I w=>wpAny_tests_one (h pins s σ H Q I w)
theorem zk4 {it:Z.LF} {G:Z.GF} {t:Z.TF} {fe:Z.EF} {pins:List (Addr×Obj)} {σ:St} {H:Hp} {s:Shared} {ρ:Z.Env} {ys:List Z.D} {use:Option (Value→Sem Unit)} {Q:Value→Shared→Prop} {ps:Pos} (hcalm:X.calm=true) (hi:DI X tg iter it) (B:Blk X.N N' n is scope X.env.scope)
  (hG:∀ d ρ ρ1,G d ρ=.ok ρ1→ρ1.length=ρ.length∧∀ i,n≤i→ρ1[i]?=ρ[i]?)
  (hg:∀ cl C fp s H H0,DG (blk X N' scope cl C fp s H) H0 tg G) (ht:∀ cl C fp s H,Tst (blk X N' scope cl C fp s H) ifs t) (he:∀ cl C fp s H,DE (blk X N' scope cl C fp s H) elt fe)
  (hs:∀ x,foldedSetIterable iter X.env x=pure x)
  (I:Inv X pins σ H s) (re:RE X.K H σ ρ) (ec:Z.zcu it n is G t fe ρ=.ok ys)
  (fin:∀ acc C s' H₂,Same H H₂→Ran X pins σ H₂ ys acc C s'→compPost (model X.prog X.w) X.A X.xe use Q acc C (.ok .next) s') :
  wpAny (model X.prog X.w) X.A (comprehension (.ListComp elt [⟨tg,iter,ifs,0⟩] scope pos) scope X.env ps (newList []) false (eval iter X.env) use) Q X.xe s:=by
 obtain ⟨ds,ei,ec⟩:=Z.Res.bind_ok ec
 unfold Z.guard at ec
 split at ec
 ·rename_i hlen
  have hfree:∀ y∈scope.names,y.2=.free→∃ c,X.env.cells.lookup y.1=some c:=fun y hy hf=>I.ok.has y.1 (B.free y hy hf)
  obtain ⟨cl,hcl,hcl1,hcl2⟩:=ziv hfree
  refine wpAny_comprehension_free (use:=use) rfl hs hcl B.kind B.loc ?_
  refine thn (hi pins s σ H (fun J H₂=>Same H H₂∧ItZ X.K J (Same H₂) ds) I ⟨ρ,ds,re,ei,fun J H' s' z=>⟨s',z⟩⟩) fun x s₁ h₁=>?_
  refine thn h₁ fun itv s₂ ⟨it',fp,tn,J,H₂,e2,I2,T,st0,fo,sm,z⟩=>?_
  subst e2
  refine thn (znE (iter:=iter) (pos:=pos) (cl:=cl) hcalm B I2 T st0 fo z (re.up sm) hcl1 hcl2 hG (fun C s H H0=>hg cl C fp s H H0) (fun C s s' H' pins' σ' H'' Q' I' w=>ht cl C fp s H' pins' s' σ' H'' Q' I' w) (fun C s H=>he cl C fp s H) hlen ec) fun acc s₃ h₃=>?_
  refine thn h₃ fun cenv s₄ h₄=>codeAny_mono h₄ fun r s' ⟨er,ran⟩=>?_
  subst er
  exact fin acc cenv.locals s' H₂ sm ran
 ·cases ec
theorem zcp {it:Z.LF} {G:Z.GF} {t:Z.TF} {fe:Z.EF} (hcalm:X.calm=true) (hi:DI X tg iter it) (B:Blk X.N N' n is scope X.env.scope) (hG:∀ d ρ ρ1,G d ρ=.ok ρ1→ρ1.length=ρ.length∧∀ i,n≤i→ρ1[i]?=ρ[i]?)
  (hg:∀ cl C fp s H H0,DG (blk X N' scope cl C fp s H) H0 tg G) (ht:∀ cl C fp s H,Tst (blk X N' scope cl C fp s H) ifs t) (he:∀ cl C fp s H,DE (blk X N' scope cl C fp s H) elt fe)
  (hs:∀ x,foldedSetIterable iter X.env x=pure x:=by intro _;rfl):DL X (.ListComp elt [⟨tg,iter,ifs,0⟩] scope pos) (Z.zcu it n is G t fe):=by
 intro pins s σ H Q I w
 obtain ⟨ρ,ys,re,e,k⟩:=w
 rw [eval_ListComp]
 refine zk4 (use:=none) hcalm hi B hG hg ht he hs I re e fun acc C s' H₂ sm ran=>?_
 obtain ⟨D,H',vs,m,rfl,hns,I',off,hDn,sm',hD,dz⟩:=ran
 exact ⟨m,hns,fun h' hs'=>⟨.ref D,H',off.inv I' hs',rfl,k D vs H' (sm.trans sm') (sm.free hDn) hD dz⟩⟩
theorem znD {it:Z.LF} {G:Z.GF} {t:Z.TF} {fe:Z.EF} {i:Nat} {x:Str} {px spos:Pos} {D:Ends} {pins:List (Addr×Obj)} {σ:St} {H:Hp} {s:Shared} {ρ:Z.Env} {ys:List Z.D} (hcalm:X.calm=true) (hN:X.N.Nodup) (hix:X.N[i]?=some x) (hx:Loc X.env.scope x)
  (hsw:swapsWith (.ListComp elt [⟨tg,iter,ifs,0⟩] scope pos) (some (.Name x px)) spos.line X.env=pure true) (hi:DI X tg iter it) (B:Blk X.N N' n is scope X.env.scope) (hG:∀ d ρ ρ1,G d ρ=.ok ρ1→ρ1.length=ρ.length∧∀ i,n≤i→ρ1[i]?=ρ[i]?)
  (hg:∀ cl C fp s H H0,DG (blk X N' scope cl C fp s H) H0 tg G) (ht:∀ cl C fp s H,Tst (blk X N' scope cl C fp s H) ifs t) (he:∀ cl C fp s H,DE (blk X N' scope cl C fp s H) elt fe)
  (hs:∀ x,foldedSetIterable iter X.env x=pure x) (hf:X.fn x=true∨X.env.scope.names.lookup x=some .local) (I:Inv X pins σ H s) (re:RE X.K H σ ρ) (e:Z.zcu it n is G t fe ρ=.ok ys)
  (k:∀ q vs H',Same H H'→H q=none→H' q=some (.lst vs)→zaE X.K H' ys vs→∃ H'',(∀ s',Inv X pins (σ.set i (some (.ref q))) H' s'→Inv X pins (σ.set i (some (.ref q))) H'' s')∧D.nx (σ.set i (some (.ref q))) H'') :
  wpAny (model X.prog X.w) X.A (exec (.Assign [.Name x px] (.ListComp elt [⟨tg,iter,ifs,0⟩] scope pos) spos) X.env) (SP X pins D) X.xe s:=by
 rw [exec_Assign_Name_used _ _ _ _ hsw]
 refine wpAny_bind (wpAny_standAt (wpAny_bind ?_))
 show wpAny _ X.A (do let _ ←comprehension (.ListComp elt [⟨tg,iter,ifs,0⟩] scope pos) scope X.env _ (newList []) false (eval iter X.env) (some (assign (.Name x px) X.env))) _ _ s
 refine wpAny_bind (wpAny_mono (zk4 (use:=some (assign (.Name x px) X.env)) (Q:=fun _ s'=>SP X pins D .next s') hcalm hi B hG hg ht he hs I re e fun acc C s' H₂ sm ran=>?_) (fun _ s' hq=>wpAny_pure (wpAny_pure hq)) fun _ _ e=>e)
 obtain ⟨q,H',vs,m,rfl,hns,I',off,hDn,sm',hD,dz⟩:=ran
 obtain ⟨H'',hI,hnx⟩:=k q vs H' (sm.trans sm') (sm.free hDn) hD dz
 refine wpAny_assign_Name (store_ok2 I' hN hix hx (v:=.ref q) rfl (fun s'' I'' ⟨a,sb,ha⟩=>?_) hf)
 have hCa:C≠a:=by
  rcases ha with rfl | ha
  ·exact off.loc
  ·exact fun z=>off.cell x a ha z.symm
 refine ⟨m,hns.sameBut sb hCa,fun h' hs'=>⟨_,H'',?_,hnx⟩⟩
 exact hI _ (off.inv I'' hs')
theorem zoT {H0:Hp} {it:Z.LF} {G:Z.GF} {t:Z.TF} {fe:Z.EF} {i:Nat} {x:Str} {px spos:Pos} (hcalm:X.calm=true) (hN:X.N.Nodup) (hix:X.N[i]?=some x) (hx:Loc X.env.scope x)
  (hi:DI X tg iter it) (B:Blk X.N N' n is scope X.env.scope) (hG:∀ d ρ ρ1,G d ρ=.ok ρ1→ρ1.length=ρ.length∧∀ i,n≤i→ρ1[i]?=ρ[i]?)
  (hg:∀ cl C fp s H H0,DG (blk X N' scope cl C fp s H) H0 tg G) (ht:∀ cl C fp s H,Tst (blk X N' scope cl C fp s H) ifs t) (he:∀ cl C fp s H,DE (blk X N' scope cl C fp s H) elt fe)
  (hsw:swapsWith (.ListComp elt [⟨tg,iter,ifs,0⟩] scope pos) (some (.Name x px)) spos.line X.env=pure true:=by rfl)
  (hs:∀ x,foldedSetIterable iter X.env x=pure x:=by intro _;rfl) (hf:X.fn x=true∨X.env.scope.names.lookup x=some .local:=by first | exact .inl rfl | exact .inr rfl | assumption) :
  DS X H0 (.Assign [.Name x px] (.ListComp elt [⟨tg,iter,ifs,0⟩] scope pos) spos) (Z.zjn i (Z.zcu it n is G t fe)):=by
 intro pins s σ H D I w
 obtain ⟨ρ,fl,rs,e,k⟩:=w
 obtain ⟨ys,ey,e⟩:=Z.Res.bind_ok e
 cases e
 refine znD hcalm hN hix hx hsw hi B hG hg ht he hs hf I rs.re ey fun q vs H' s' hn h1 t'=>⟨H',fun _ j=>j,?_⟩
 exact k _ H' (stb s') ((rs.up s').setO h1 t' (rs.same.free hn) fun j xs _ e=>rs.noq hn j xs e)
theorem zel {H0 : Hp} {it : Z.LF} {G : Z.GF} {t : Z.TF} {fe : Z.EF} {i : Nat} {x : Str} {px spos : Pos} (hcalm : X.calm = true) (hN : X.N.Nodup) (hix : X.N[i]? = some x) (hx : Loc X.env.scope x)
  (hi:DI X tg iter it) (B:Blk X.N N' n is scope X.env.scope) (hG:∀ d ρ ρ1,G d ρ=.ok ρ1→ρ1.length=ρ.length∧∀ i,n≤i→ρ1[i]?=ρ[i]?)
  (hg:∀ cl C fp s H H0,DG (blk X N' scope cl C fp s H) H0 tg G) (ht:∀ cl C fp s H,Tst (blk X N' scope cl C fp s H) ifs t) (he:∀ cl C fp s H,DE (blk X N' scope cl C fp s H) elt fe)
  (hsw:swapsWith (.ListComp elt [⟨tg,iter,ifs,0⟩] scope pos) (some (.Name x px)) spos.line X.env=pure true:=by rfl)
  (hs:∀ x,foldedSetIterable iter X.env x=pure x:=by intro _;rfl) (hf:X.fn x=true∨X.env.scope.names.lookup x=some .local:=by first | exact .inl rfl | exact .inr rfl | assumption) :
  DS X H0 (.Assign [.Name x px] (.ListComp elt [⟨tg,iter,ifs,0⟩] scope pos) spos) (Z.zbj i (Z.eL (Z.zcu it n is G t fe))):=by
 have h1:DS X H0 (.Assign [.Name x px] (.ListComp elt [⟨tg,iter,ifs,0⟩] scope pos) spos) (Z.zjn i (Z.zcu it n is G t fe)):=zoT hcalm hN hix hx hi B hG hg ht he hsw hs hf
 intro pins s σ H D I w
 obtain ⟨ρ,fl,rs,e,k⟩:=w
 obtain ⟨d,ed,e⟩:=Z.Res.bind_ok e
 cases e
 unfold Z.eL at ed
 cases ey:Z.zcu it n is G t fe ρ with
 | bad=>rw [ey] at ed;cases ed
 | ok ys =>
  rw [ey] at ed
  cases ed
  refine thn (h1 pins s σ H { D with nx:=fun σ' H'=>Stb H H'∧RS X.K H0 H' σ' (ρ.set i (some (.own ys))) } I ⟨ρ,.nx (ρ.set i (some (.own ys))),rs,by show (Z.zcu it n is G t fe ρ).bind _=_;rw [ey];rfl,fun σ' H' s' r'=>⟨s',r'⟩⟩) fun fl' s' h=>?_
  cases fl' with
  | next =>
   obtain ⟨σ',H',I',st',rs'⟩:=h
   by_cases hl:i < ρ.length
   ·have ei:(ρ.set i (some (Z.L.own ys)))[i]?=some (some (.own ys)):=List.getElem?_set_self hl
    obtain ⟨v,si,q,us,rfl,hq,t'⟩:=rs'.re.get i _ ei
    obtain ⟨o,I2⟩:=zfJ I' hq
    have r2:=rs'.frz (o:=o) ei si hq t'
    rw [List.set_set] at r2
    exact ⟨σ',_,I2,k σ' _ (st'.trans (zex hq)) r2⟩
   ·have e0:ρ.set i (some (Z.L.own ys))=ρ:=List.set_eq_of_length_le (by lia)
    have e1:ρ.set i (some (Z.L.val (.lst ys)))=ρ:=List.set_eq_of_length_le (by lia)
    rw [e0] at rs'
    have k':=k
    rw [e1] at k'
    exact ⟨σ',H',I',k' σ' H' st' rs'⟩
  | brk=>exact h
  | cont=>exact h
  | ret u=>exact h
end
section
variable {P:Program} {w:World} {K:PySem.W.Frag} {mg:Str→Option Value} {base:Heap}
theorem ziE {N:List Str} {vs:List V} {ds:List Z.D} {H:Hp} (t:zaE K H ds vs) (hl:vs.length≤N.length):RS K H H (L2.start N vs) (Z.start N.length ds):=by
 have noown:∀ (i:Nat) (xs:List Z.D),(Z.start N.length ds)[i]?≠some (some (.own xs)):=by
  intro i xs e
  unfold Z.start at e
  by_cases hi:i < ds.length
  ·rw [List.getElem?_append_left (by simpa using hi),List.getElem?_map] at e
   cases q:ds[i]? with
   | none=>rw [q] at e;cases e
   | some d=>rw [q] at e;cases e
  ·rw [List.getElem?_append_right (by simpa using hi),List.getElem?_replicate] at e
   split at e<;>cases e
 have nobor:∀ (i:Nat) (xs:List Z.D),(Z.start N.length ds)[i]?≠some (some (.bor xs)):=by
  intro i xs e
  unfold Z.start at e
  by_cases hi:i < ds.length
  ·rw [List.getElem?_append_left (by simpa using hi),List.getElem?_map] at e
   cases q:ds[i]? with
   | none=>rw [q] at e;cases e
   | some d=>rw [q] at e;cases e
  ·rw [List.getElem?_append_right (by simpa using hi),List.getElem?_replicate] at e
   split at e<;>cases e
 have nodic:∀ (i:Nat) (ks:List (List Int)),(Z.start N.length ds)[i]?≠some (some (.dic ks)):=by
  intro i ks e
  unfold Z.start at e
  by_cases hi:i < ds.length
  ·rw [List.getElem?_append_left (by simpa using hi),List.getElem?_map] at e
   cases q:ds[i]? with
   | none=>rw [q] at e;cases e
   | some d=>rw [q] at e;cases e
  ·rw [List.getElem?_append_right (by simpa using hi),List.getElem?_replicate] at e
   split at e<;>cases e
 have hlen:=t.length
 refine ⟨Same.refl H,⟨?_,fun i l e=>?_,fun i j xs ys q e1=>absurd e1 (noown i xs)⟩,fun i xs q e1=>absurd e1 (noown i xs),fun i xs e1=>absurd e1 (nobor i xs),zgj.non nodic⟩
 ·unfold Z.start L2.start
  simp
  lia
 ·unfold Z.start at e
  by_cases hi:i < ds.length
  ·rw [List.getElem?_append_left (by simpa using hi),List.getElem?_map] at e
   cases q:ds[i]? with
   | none=>rw [q] at e;cases e
   | some d =>
    rw [q] at e
    cases e
    obtain ⟨v,h1,h2⟩:=t.get q
    refine ⟨v,?_,h2⟩
    unfold L2.start
    rw [List.getElem?_append_left (by simp;lia),List.getElem?_map,h1]
    rfl
  ·rw [List.getElem?_append_right (by simpa using hi),List.getElem?_replicate] at e
   split at e<;>cases e
theorem fnZ {x qual:Str} {st:Stmt} {f:Addr} {fd:FuncData} {N ps:List Str} {k:Nat} {b:Z.SF} (F:Fun K x qual st f fd) (S:FnScope N ps (defScope st))
  (hb:∀ (cdv:Value) (A:Around) (outer:List Env) (s:Shared) (H:Hp) (E:XK),Room k (A.deeper (envOfC qual (defScope st) s.heap.objs.size f cdv)) →
   DSs (cxOf CX0 P w K mg base N qual (defScope st) f cdv A outer s H E).nox H (defBody st) b):FnOk P w K mg base CX0 (k+1) f fd ps (spZ K (Z.fn ps.length N.length b)):=by
 have hlen:∀ (vs:List V) (H:Hp) (Q:VK) (E:XK),spZ K (Z.fn ps.length N.length b) vs H Q E→vs.length=ps.length:=fun vs H Q E ⟨ds,d,t,e,_⟩=>by
  unfold Z.fn at e
  split at e
  ·rename_i h;rw [t.length];exact h
  ·cases e
 refine F.ok S hlen (fun cdv A outer s H vs Q E hr h=>⟨_,hb cdv A outer s H E hr,?_⟩)
 have hl:=hlen vs H Q E h
 obtain ⟨ds,d,t,e,k⟩:=h
 have hpl:ps.length≤N.length:=by have:=congrArg List.length S.pre;rw [List.length_take] at this;lia
 have rs:RS K H H (L2.start N vs) (Z.start N.length ds):=ziE t (by lia)
 unfold Z.fn at e
 split at e
 ·cases eb:b (Z.start N.length ds) with
  | bad=>rw [eb] at e;cases e
  | ok fl =>
   rw [eb] at e
   refine ⟨_,fl,rs,eb,?_⟩
   cases fl with
   | rt d'=>cases e;exact fun v H' s' dv=>k v H' s' dv
   | nx ρ'=>cases e;exact fun σ' H' _ rs'=>k .non H' rs'.same zkp
   | bk ρ'=>cases e
   | ct ρ'=>cases e
 ·cases e
end
end ZS
namespace ZS
open PySem PySem.Spec PyProof.Rows L2
noncomputable def zqp (N N':List Str) (n:Nat) (is:List Nat) (sc osc:Scope):Bool :=
 (sc.kind==.function)&&sc.names.all (fun y=>y.2 != .cell)&&sc.names.all (fun y=>y.2 != .local || sc.names.lookup y.1==some .local) &&
 sc.names.all (fun y=>y.2 != .free || osc.names.lookup y.1==some .cell || osc.names.lookup y.1==some .free)&&(N'.length==n+is.length) &&
 (List.range is.length).all (fun j=>match is[j]?,N'[n+j]? with
  | some i,some x=>N[i]?==some x&&sc.names.lookup x==some .free
  | _,_=>false) &&
 (List.range n).all (fun j=>match N'[j]? with
  | some x=>sc.names.lookup x==some .local
  | none=>false)
theorem Blk.of {N N':List Str} {n:Nat} {is:List Nat} {sc osc:Scope} (h:zqp N N' n is sc osc=true):Blk N N' n is sc osc:=by
 unfold zqp at h
 simp only [Bool.and_eq_true,List.all_eq_true,beq_iff_eq,Bool.or_eq_true,bne_iff_ne,ne_eq,List.mem_range] at h
 obtain ⟨⟨⟨⟨⟨⟨h1,h2⟩,h3⟩,h4⟩,h5⟩,h6⟩,h7⟩:=h
 refine ⟨h1,h2,fun y hy e=>?_,fun y hy e=>?_,h5,fun j i e=>?_,fun j hj=>?_⟩
 ·rcases h3 y hy with q | q
  ·exact absurd e q
  ·exact q
 ·rcases h4 y hy with (q | q) | q
  ·exact absurd e q
  ·exact .inl q
  ·exact .inr q
 ·have hj:j < is.length:=(List.getElem?_eq_some_iff.mp e).1
  have q:=h6 j hj
  rw [e] at q
  cases r:N'[n+j]? with
  | none=>rw [r] at q;cases q
  | some x =>
   rw [r] at q
   simp only [Bool.and_eq_true,beq_iff_eq] at q
   exact ⟨x,rfl,q.1,q.2⟩
 ·have q:=h7 j hj
  cases r:N'[j]? with
  | none=>rw [r] at q;cases q
  | some x =>
   rw [r] at q
   exact ⟨x,rfl,beq_iff_eq.mp q⟩
structure Def (K:PySem.W.Frag) (mg:Str→Option Value) (x:Str) (st:Stmt) (ps:List Str):Prop where
 ex:∃ f fd,Fun K x x st f fd∧mg x=some (.ref f)∧Binds K fd ps []
structure Cal (P:Program) (w:World) (K:PySem.W.Frag) (mg:Str→Option Value) (base:Heap) (x:Str) (k:Nat) (ps:List Str) (m:List Z.D→Z.Res Z.D):Prop where
 ex:∃ g fd,FnOk P w K mg base CX0 k g fd ps (spZ K m)∧mg x=some (.ref g)∧PySem.W.keepIn K (.ref g)=true∧Binds K fd ps []
theorem Cal.mk' {P:Program} {w:World} {K:PySem.W.Frag} {mg:Str→Option Value} {base:Heap} {x:Str} {k:Nat} {st:Stmt} {N ps:List Str} {b:Z.SF} (d:Def K mg x st ps) (S:FnScope N ps (defScope st))
  (hb:∀ (f:Addr) (cdv:Value) (A:Around) (outer:List Env) (s:Shared) (H:Hp) (E:XK),Room k (A.deeper (envOfC x (defScope st) s.heap.objs.size f cdv)) →
   DSs (cxOf CX0 P w K mg base N x (defScope st) f cdv A outer s H E).nox H (defBody st) b):Cal P w K mg base x (k+1) ps (Z.fn ps.length N.length b):=by
 obtain ⟨f,fd,F,hm,hb'⟩:=d.ex
 exact ⟨f,fd,fnZ F S (hb f),hm,F.kp,hb'⟩
section
variable {X:Cx} {e:Expr} {es:List Expr} {pos:Pos}
theorem zai {k:Nat} {ps:List Str} {x:Str} {m:List Z.D→Z.Res Z.D} {ar:Z.AF} {p1:Pos} (C:Cal X.prog X.w X.K X.mg X.base x k ps m) (hr:Room k X.A) (hg:Gl X x)
  (ha:DA X (e :: es) ar) (hdb:(x==("__debug__" : Str))=false:=by decide +kernel) (he:starEach (e :: es) X.env=(false,eval e X.env) :: starEach es X.env:=by rfl) (hpl:(backTo pos (starEach es X.env)).any (·.1)=false:=by rfl) :
  DE X (.Call (.Name x p1) (e :: es) [] pos) (Z.zar m ar) :=
 let ⟨_,_,F,hm,hk,hb⟩:=C.ex;zoY F hr hg hm hk hb ha hdb he hpl
end
theorem zcs {X:Cx} {pos:Pos} {x:Str} {i:Int} {t:Tok} (hg:Gl X x) (hm:X.mg x=some (.int i t)) (hb:(x==("__debug__" : Str))=false:=by decide +kernel):DE X (.Name x pos) (Z.eC (.int i)) :=
 zoX (v:=.int i) hg hm ⟨t,rfl⟩ (fun _=>zb4) hb
theorem zlc {K:PySem.W.Frag} {H:Hp} {a:Addr} {ns:List Int} (hO:Only H) (h:SqL K H a (ns.map V.int)):Den K H (.lst (ns.map Z.D.int)) (.ref a):=by
 refine zkq ?_ (zaE.zints ns)
 rcases h with (h | ⟨o,h⟩) | h
 ·rcases hO a with z | ⟨o,xs,z⟩
  ·rw [h] at z;cases z
  ·rw [h] at z;cases z
 ·exact .inl ⟨o,h⟩
 ·exact .inr h
theorem zpN {K:PySem.W.Frag} {H:Hp} {a:Addr} {ns:List Int} {m:List Z.D→Z.Res Z.D} (hO:Only H) (h:SqL K H a (ns.map V.int)) (e:m [.lst (ns.map .int)]=.ok (.bl true)):spZ K m [.ref a] H (fun v _=>v=.bl true) fun _ _ _=>False :=
 ⟨_,_,zaE.cons (zlc hO h) zaE.nil,e,fun v H' _ d=>by simpa only [Den] using d⟩
end ZS
namespace ZS
open PySem PySem.Spec PyProof.Rows L2
section
variable {X:Cx} {e a b:Expr} {pos:Pos} {f fa fb:Z.EF}
theorem zkI (x y:List Nat):((⟨x.toArray⟩:Str)==(⟨y.toArray⟩:Str))=(x==y):=by
 rw [Bool.eq_iff_iff,beq_iff_eq,beq_iff_eq]
 constructor
 ·intro h;injection h with h;simpa using h
 ·rintro rfl;rfl
theorem rcS {A:Around} {s:Shared} {K:PySem.W.Frag} {H:Hp} {d1 d2:Z.D} {v1 v2:V} {u1 u2:Value} {k:Bool} (h:Z.eqS d1 d2=some k) (h1:zcv K H d1 v1) (h2:zcv K H d2 v2) (r1:RelV v1 u1) (r2:RelV v2 u2):SeqAt.RcAt A s u1 u2 k∧SeqAt.EqAt A s u1 u2 k∧SeqAt.RcNeAt A s u1 u2 (!k):=by
 unfold Z.eqS at h
 split at h
 ·cases h;rw [h1.non] at r1;rw [h2.non] at r2;cases r1;cases r2;exact ⟨SeqAt.RcAt.none_none,SeqAt.EqAt.same _,SeqAt.RcNeAt.none_none⟩
 ·cases h;rw [h1.bl] at r1;rw [h2.bl] at r2;cases r1;cases r2;exact ⟨SeqAt.RcAt.bool_bool _ _,SeqAt.EqAt.bool_bool _ _,SeqAt.RcNeAt.bool_bool _ _⟩
 ·cases h;rw [h1.bl] at r1;rw [h2.int] at r2;cases r1;obtain ⟨t,rfl⟩:=r2;exact ⟨SeqAt.RcAt.bool_int _ _ _,SeqAt.EqAt.bool_int _ _ _,SeqAt.RcNeAt.bool_int _ _ _⟩
 ·cases h;rw [h1.int] at r1;rw [h2.bl] at r2;cases r2;obtain ⟨t,rfl⟩:=r1;exact ⟨SeqAt.RcAt.int_bool _ _ _,SeqAt.EqAt.int_bool _ _ _,SeqAt.RcNeAt.int_bool _ _ _⟩
 ·cases h;rw [h1.int] at r1;rw [h2.int] at r2;obtain ⟨t,rfl⟩:=r1;obtain ⟨t',rfl⟩:=r2;exact ⟨SeqAt.RcAt.int_int _ _ _ _,SeqAt.EqAt.int_int _ _ _ _,SeqAt.RcNeAt.int_int _ _ _ _⟩
 ·cases h;rw [h1.str] at r1;rw [h2.str] at r2;obtain ⟨t,rfl⟩:=r1;obtain ⟨t',rfl⟩:=r2;rw [←zkI];exact ⟨SeqAt.RcAt.str_str _ _ _ _,SeqAt.EqAt.str_str _ _ _ _,SeqAt.RcNeAt.str_str _ _ _ _⟩
 ·cases h;rw [h1.non] at r1;rw [h2.bl] at r2;cases r1;cases r2;exact ⟨SeqAt.RcAt.none_bool _,SeqAt.EqAt.none_bool _,SeqAt.RcNeAt.none_bool _⟩
 ·cases h;rw [h1.non] at r1;rw [h2.int] at r2;cases r1;obtain ⟨t,rfl⟩:=r2;exact ⟨SeqAt.RcAt.none_int _ _,SeqAt.EqAt.none_int _ _,SeqAt.RcNeAt.none_int _ _⟩
 ·cases h;rw [h1.non] at r1;rw [h2.str] at r2;cases r1;obtain ⟨t,rfl⟩:=r2;exact ⟨SeqAt.RcAt.none_str _ _,SeqAt.EqAt.none_str _ _,SeqAt.RcNeAt.none_str _ _⟩
 ·cases h;rw [h1.bl] at r1;rw [h2.non] at r2;cases r1;cases r2;exact ⟨SeqAt.RcAt.bool_none _,SeqAt.EqAt.bool_none _,SeqAt.RcNeAt.bool_none _⟩
 ·cases h;rw [h1.bl] at r1;rw [h2.str] at r2;cases r1;obtain ⟨t,rfl⟩:=r2;exact ⟨SeqAt.RcAt.bool_str _ _ _,SeqAt.EqAt.bool_str _ _ _,SeqAt.RcNeAt.bool_str _ _ _⟩
 ·cases h;rw [h1.int] at r1;rw [h2.non] at r2;cases r2;obtain ⟨t,rfl⟩:=r1;exact ⟨SeqAt.RcAt.int_none _ _,SeqAt.EqAt.int_none _ _,SeqAt.RcNeAt.int_none _ _⟩
 ·cases h;rw [h1.int] at r1;rw [h2.str] at r2;obtain ⟨t,rfl⟩:=r1;obtain ⟨t',rfl⟩:=r2;exact ⟨SeqAt.RcAt.int_str _ _ _ _,SeqAt.EqAt.int_str _ _ _ _,SeqAt.RcNeAt.int_str _ _ _ _⟩
 ·cases h;rw [h1.str] at r1;rw [h2.non] at r2;cases r2;obtain ⟨t,rfl⟩:=r1;exact ⟨SeqAt.RcAt.str_none _ _,SeqAt.EqAt.str_none _ _,SeqAt.RcNeAt.str_none _ _⟩
 ·cases h;rw [h1.str] at r1;rw [h2.bl] at r2;cases r2;obtain ⟨t,rfl⟩:=r1;exact ⟨SeqAt.RcAt.str_bool _ _ _,SeqAt.EqAt.str_bool _ _ _,SeqAt.RcNeAt.str_bool _ _ _⟩
 ·cases h;rw [h1.str] at r1;rw [h2.int] at r2;obtain ⟨t,rfl⟩:=r1;obtain ⟨t',rfl⟩:=r2;exact ⟨SeqAt.RcAt.str_int _ _ _ _,SeqAt.EqAt.str_int _ _ _ _,SeqAt.RcNeAt.str_int _ _ _ _⟩
 ·cases h
noncomputable def eAt (g:Z.D→Z.D→Option Bool) (as bs:List Z.D) (j:Nat):Bool:=match as[j]?,bs[j]? with
 | some x,some y=>(g x y).getD false
 | _,_=>true
theorem zfB {g : Z.D → Z.D → Option Bool} : ∀ {as bs : List Z.D} {k : Bool}, Z.ze7 g as bs = some k → k = ((List.range (min as.length bs.length)).all (eAt g as bs) && as.length == bs.length) ∧ ∀ (j : Nat) x y, as[j]? = some x → bs[j]? = some y → g x y = some (eAt g as bs j)
 | [],[],k,h=>by cases h;exact ⟨rfl,fun j x y e=>by simp at e⟩
 | [],_ :: _,k,h=>by cases h;exact ⟨by simp,fun j x y e=>by simp at e⟩
 | _ :: _,[],k,h=>by cases h;exact ⟨by simp,fun j x y _ e=>by simp at e⟩
 | a :: as,b :: bs,k,h=>by
  unfold Z.ze7 at h
  split at h
  ·rename_i p q e1 e2
   cases h
   obtain ⟨h1,h2⟩:=zfB e2
   refine ⟨?_,fun j x y ex ey=>?_⟩
   ·have:min (a :: as).length (b :: bs).length=min as.length bs.length+1:=by simp only [List.length_cons];lia
    rw [this,List.range_succ_eq_map,List.all_cons,List.all_map,h1]
    have e0:eAt g (a :: as) (b :: bs) 0=p:=by simp [eAt,e1]
    have es:(eAt g (a :: as) (b :: bs)∘Nat.succ)=eAt g as bs:=by
     funext j;simp [eAt]
    have el:((a :: as).length==(b :: bs).length)=(as.length==bs.length):=by
     rw [Bool.eq_iff_iff];simp
    rw [e0,es,el,Bool.and_assoc]
   ·cases j with
    | zero=>simp at ex ey;subst ex ey;simp [eAt,e1]
    | succ j =>
     have:=h2 j x y (by simpa using ex) (by simpa using ey)
     simpa [eAt] using this
  ·cases h
theorem zkT {pins:List (Addr×Obj)} {σ:St} {H:Hp} {s:Shared} (I:Inv X pins σ H s) (n:Nat) {A:Around} (hu:A.units+n < cLine)
  (ih:∀ {A:Around} {d1 d2:Z.D} {v1 v2:V} {u1 u2:Value} {k:Bool},A.units+n < cLine→Z.zgY n d1 d2=some k→zcv X.K H d1 v1→zcv X.K H d2 v2→RelV v1 u1→RelV v2 u2→SeqAt.RcAt A s u1 u2 k∧SeqAt.EqAt A s u1 u2 k∧SeqAt.RcNeAt A s u1 u2 (!k))
  {as bs:List Z.D} {vs ws:List V} {its its2:List Value} {k:Bool} (hk:Z.ze7 (Z.zgY n) as bs=some k) (ta:zaE X.K H as vs) (tb:zaE X.K H bs ws) (ra:Vals vs its) (rb:Vals ws its2) :
   ∀ j (h1:j < its.toArray.size) (h2:j < its2.toArray.size),SeqAt.EqAt A s its.toArray[j] its2.toArray[j] (eAt (Z.zgY n) as bs j):=by
  intro j hj1 hj2
  have la:=ta.length;have lb:=tb.length;have ra':=ra.length;have rb':=rb.length
  simp only [List.size_toArray] at hj1 hj2
  obtain ⟨x,ex⟩:∃ x,as[j]?=some x:=⟨as[j]'(by lia),List.getElem?_eq_getElem (by lia)⟩
  obtain ⟨y,ey⟩:∃ y,bs[j]?=some y:=⟨bs[j]'(by lia),List.getElem?_eq_getElem (by lia)⟩
  obtain ⟨vx,evx,dx⟩:=ta.get ex
  obtain ⟨vy,evy,dy⟩:=tb.get ey
  obtain ⟨ux,eux,rx⟩:=ra.get evx
  obtain ⟨uy,euy,ry⟩:=rb.get evy
  have e1:its.toArray[j]=ux:=by
   have:=List.getElem?_eq_getElem hj1
   rw [eux] at this;simpa using (Option.some.inj this).symm
  have e2:its2.toArray[j]=uy:=by
   have:=List.getElem?_eq_getElem hj2
   rw [euy] at this;simpa using (Option.some.inj this).symm
  rw [e1,e2]
  exact (ih hu ((zfB hk).2 j x y ex ey) (.inl dx) (.inl dy) rx ry).2.1
theorem zaM {K:PySem.W.Frag} {H:Hp} {d1 d2:Z.D} {v:V} {k:Bool} (h:Z.eqS d1 d2=some k) (h1:zcv K H d1 v) (h2:zcv K H d2 v):k=true:=by
 unfold Z.eqS at h
 split at h<;>first
  | (cases h;rfl)
  | (cases h;done)
  | (have e:=h1.bl.symm.trans h2.bl;cases h;injection e with e;subst e;simp)
  | (have e:=h1.int.symm.trans h2.int;cases h;injection e with e;subst e;simp)
  | (have e:=h1.str.symm.trans h2.str;cases h;injection e with e;rw [←zkI,e];simp)
  | (have e:=h1.bl.symm.trans h2.int;cases e)
  | (have e:=h1.int.symm.trans h2.bl;cases e)
  | (have e:=h1.non.symm.trans h2.bl;cases e)
  | (have e:=h1.non.symm.trans h2.int;cases e)
  | (have e:=h1.non.symm.trans h2.str;cases e)
  | (have e:=h1.bl.symm.trans h2.non;cases e)
  | (have e:=h1.bl.symm.trans h2.str;cases e)
  | (have e:=h1.int.symm.trans h2.non;cases e)
  | (have e:=h1.int.symm.trans h2.str;cases e)
  | (have e:=h1.str.symm.trans h2.non;cases e)
  | (have e:=h1.str.symm.trans h2.bl;cases e)
  | (have e:=h1.str.symm.trans h2.int;cases e)
theorem zhD {K:PySem.W.Frag} {H:Hp} {n:Nat} (ih:∀ {d1 d2:Z.D} {v:V} {k:Bool},Z.zgY n d1 d2=some k→zcv K H d1 v→zcv K H d2 v→k=true) {as bs:List Z.D} {vs:List V} {k:Bool} (h:Z.ze7 (Z.zgY n) as bs=some k) (ta:zaE K H as vs) (tb:zaE K H bs vs):k=true:=by
 obtain ⟨h1,h2⟩:=zfB h
 have la:=ta.length;have lb:=tb.length
 rw [h1,show (as.length==bs.length)=true by simp;lia,Bool.and_true,List.all_eq_true]
 intro j hj
 rw [List.mem_range] at hj
 obtain ⟨x,ex⟩:∃ x,as[j]?=some x:=⟨as[j]'(by lia),List.getElem?_eq_getElem (by lia)⟩
 obtain ⟨y,ey⟩:∃ y,bs[j]?=some y:=⟨bs[j]'(by lia),List.getElem?_eq_getElem (by lia)⟩
 obtain ⟨vx,evx,dx⟩:=ta.get ex
 obtain ⟨vy,evy,dy⟩:=tb.get ey
 rw [evx] at evy;cases evy
 exact ih (h2 j x y ex ey) (.inl dx) (.inl dy)
theorem zkO {pins:List (Addr×Obj)} {σ:St} {H:Hp} {s:Shared} {a:Addr} {xs ys:List V} (I:Inv X pins σ H s) (h:SqT X.K H a xs) (h':SqL X.K H a ys):False:=by
 obtain ⟨its,r,⟨o,e,c,n,d⟩,_⟩:=I.tuple h
 obtain ⟨its',r',⟨o',n',e',c',_⟩,_⟩:=I.list h'
 rw [e] at e';cases e'
 rw [c] at c';injection c' with z;exact absurd z (by decide)
noncomputable def sq:Z.D→Bool
 | .tup _=>true
 | .lst _=>true
 | _=>false
noncomputable def dc:Z.D→Bool
 | .dct _ _=>true
 | _=>false
theorem zaB (n:Nat) {d1 d2:Z.D} (h:(sq d1=false∧sq d2=false)∨dc d1=true∨dc d2=true):Z.zgY n d1 d2=Z.eqS d1 d2:=by
 cases d1<;>cases d2<;>cases n<;>first | rfl | (simp [sq,dc] at h)
theorem zmo {pins : List (Addr × Obj)} {σ : St} {H : Hp} {s : Shared} (I : Inv X pins σ H s) (n : Nat) (ih : ∀ m, m < n → ∀ {d1 d2 : Z.D} {v : V} {k : Bool}, Z.zgY m d1 d2 = some k → zcv X.K H d1 v → zcv X.K H d2 v → k = true) {d1 d2 : Z.D} {v : V} {k : Bool} (h : Z.zgY n d1 d2 = some k) (h1 : zcv X.K H d1 v) (h2 : zcv X.K H d2 v) : k = true := by
  cases d1<;>cases d2
  case non.non=>exact zaM ((zaB n (.inl ⟨rfl,rfl⟩)).symm.trans h) h1 h2
  case non.bl=>exact zaM ((zaB n (.inl ⟨rfl,rfl⟩)).symm.trans h) h1 h2
  case non.int=>exact zaM ((zaB n (.inl ⟨rfl,rfl⟩)).symm.trans h) h1 h2
  case non.str=>exact zaM ((zaB n (.inl ⟨rfl,rfl⟩)).symm.trans h) h1 h2
  case non.tup=>obtain ⟨_,_,e,_⟩:=h2.tup;rw [e] at h1;cases h1.non
  case non.lst=>obtain ⟨_,_,e,_⟩:=h2.lst;rw [e] at h1;cases h1.non
  case non.dct=>exact zaM ((zaB n (.inl ⟨rfl,rfl⟩)).symm.trans h) h1 h2
  case bl.non=>exact zaM ((zaB n (.inl ⟨rfl,rfl⟩)).symm.trans h) h1 h2
  case bl.bl=>exact zaM ((zaB n (.inl ⟨rfl,rfl⟩)).symm.trans h) h1 h2
  case bl.int=>exact zaM ((zaB n (.inl ⟨rfl,rfl⟩)).symm.trans h) h1 h2
  case bl.str=>exact zaM ((zaB n (.inl ⟨rfl,rfl⟩)).symm.trans h) h1 h2
  case bl.tup=>obtain ⟨_,_,e,_⟩:=h2.tup;rw [e] at h1;cases h1.bl
  case bl.lst=>obtain ⟨_,_,e,_⟩:=h2.lst;rw [e] at h1;cases h1.bl
  case bl.dct=>exact zaM ((zaB n (.inl ⟨rfl,rfl⟩)).symm.trans h) h1 h2
  case int.non=>exact zaM ((zaB n (.inl ⟨rfl,rfl⟩)).symm.trans h) h1 h2
  case int.bl=>exact zaM ((zaB n (.inl ⟨rfl,rfl⟩)).symm.trans h) h1 h2
  case int.int=>exact zaM ((zaB n (.inl ⟨rfl,rfl⟩)).symm.trans h) h1 h2
  case int.str=>exact zaM ((zaB n (.inl ⟨rfl,rfl⟩)).symm.trans h) h1 h2
  case int.tup=>obtain ⟨_,_,e,_⟩:=h2.tup;rw [e] at h1;cases h1.int
  case int.lst=>obtain ⟨_,_,e,_⟩:=h2.lst;rw [e] at h1;cases h1.int
  case int.dct=>exact zaM ((zaB n (.inl ⟨rfl,rfl⟩)).symm.trans h) h1 h2
  case str.non=>exact zaM ((zaB n (.inl ⟨rfl,rfl⟩)).symm.trans h) h1 h2
  case str.bl=>exact zaM ((zaB n (.inl ⟨rfl,rfl⟩)).symm.trans h) h1 h2
  case str.int=>exact zaM ((zaB n (.inl ⟨rfl,rfl⟩)).symm.trans h) h1 h2
  case str.str=>exact zaM ((zaB n (.inl ⟨rfl,rfl⟩)).symm.trans h) h1 h2
  case str.tup=>obtain ⟨_,_,e,_⟩:=h2.tup;rw [e] at h1;cases h1.str
  case str.lst=>obtain ⟨_,_,e,_⟩:=h2.lst;rw [e] at h1;cases h1.str
  case str.dct=>exact zaM ((zaB n (.inl ⟨rfl,rfl⟩)).symm.trans h) h1 h2
  case tup.non=>obtain ⟨_,_,e,_⟩:=h1.tup;rw [e] at h2;cases h2.non
  case tup.bl=>obtain ⟨_,_,e,_⟩:=h1.tup;rw [e] at h2;cases h2.bl
  case tup.int=>obtain ⟨_,_,e,_⟩:=h1.tup;rw [e] at h2;cases h2.int
  case tup.str=>obtain ⟨_,_,e,_⟩:=h1.tup;rw [e] at h2;cases h2.str
  case tup.tup =>
   cases n with
   | zero=>cases h
   | succ n =>
    obtain ⟨_,_,e,q,ta⟩:=h1.tup;obtain ⟨_,_,e',q',tb⟩:=h2.tup;rw [e] at e';cases e'
    have:=I.tuple_inj q q';subst this
    exact zhD (ih n (Nat.lt_succ_self n)) h ta tb
  case tup.lst=>obtain ⟨_,_,e,q,_⟩:=h1.tup;obtain ⟨_,_,e',q',_⟩:=h2.lst;rw [e] at e';cases e';exact (zkO I q q').elim
  case tup.dct=>exact zaM ((zaB n (.inr (.inr rfl))).symm.trans h) h1 h2
  case lst.non=>obtain ⟨_,_,e,_⟩:=h1.lst;rw [e] at h2;cases h2.non
  case lst.bl=>obtain ⟨_,_,e,_⟩:=h1.lst;rw [e] at h2;cases h2.bl
  case lst.int=>obtain ⟨_,_,e,_⟩:=h1.lst;rw [e] at h2;cases h2.int
  case lst.str=>obtain ⟨_,_,e,_⟩:=h1.lst;rw [e] at h2;cases h2.str
  case lst.tup=>obtain ⟨_,_,e,q,_⟩:=h1.lst;obtain ⟨_,_,e',q',_⟩:=h2.tup;rw [e] at e';cases e';exact (zkO I q' q).elim
  case lst.lst =>
   cases n with
   | zero=>cases h
   | succ n =>
    obtain ⟨_,_,e,q,ta⟩:=h1.lst;obtain ⟨_,_,e',q',tb⟩:=h2.lst;rw [e] at e';cases e'
    have:=I.list_inj q q';subst this
    exact zhD (ih n (Nat.lt_succ_self n)) h ta tb
  case lst.dct=>exact zaM ((zaB n (.inr (.inr rfl))).symm.trans h) h1 h2
  case dct.non=>exact zaM ((zaB n (.inl ⟨rfl,rfl⟩)).symm.trans h) h1 h2
  case dct.bl=>exact zaM ((zaB n (.inl ⟨rfl,rfl⟩)).symm.trans h) h1 h2
  case dct.int=>exact zaM ((zaB n (.inl ⟨rfl,rfl⟩)).symm.trans h) h1 h2
  case dct.str=>exact zaM ((zaB n (.inl ⟨rfl,rfl⟩)).symm.trans h) h1 h2
  case dct.tup=>exact zaM ((zaB n (.inr (.inl rfl))).symm.trans h) h1 h2
  case dct.lst=>exact zaM ((zaB n (.inr (.inl rfl))).symm.trans h) h1 h2
  case dct.dct=>exact zaM ((zaB n (.inl ⟨rfl,rfl⟩)).symm.trans h) h1 h2
theorem zkX {pins:List (Addr×Obj)} {σ:St} {H:Hp} {s:Shared} (I:Inv X pins σ H s) (n:Nat):∀ {d1 d2:Z.D} {v:V} {k:Bool},Z.zgY n d1 d2=some k→zcv X.K H d1 v→zcv X.K H d2 v→k=true:=by
 induction n using Nat.strongRecOn with
 | _ n ih=>exact zmo I n ih
theorem ztB {pins:List (Addr×Obj)} {σ:St} {H:Hp} {s:Shared} (I:Inv X pins σ H s) (n:Nat) (ih:∀ m,m < n→∀ {A:Around} {d1 d2:Z.D} {v1 v2:V} {u1 u2:Value} {k:Bool},A.units+m < cLine→Z.zgY m d1 d2=some k→zcv X.K H d1 v1→zcv X.K H d2 v2→RelV v1 u1→RelV v2 u2→SeqAt.RcAt A s u1 u2 k∧SeqAt.EqAt A s u1 u2 k∧SeqAt.RcNeAt A s u1 u2 (!k)) {A:Around} {d1 d2:Z.D} {v1 v2:V} {u1 u2:Value} {k:Bool} (hu:A.units+n < cLine) (h:Z.zgY n d1 d2=some k) (h1:zcv X.K H d1 v1) (h2:zcv X.K H d2 v2) (r1:RelV v1 u1) (r2:RelV v2 u2) :
  SeqAt.RcAt A s u1 u2 k∧SeqAt.EqAt A s u1 u2 k∧SeqAt.RcNeAt A s u1 u2 (!k):=by
  have hu0:A.units < cLine:=by lia
  have tupL:∀ {ds:List Z.D} {v:V} {u:Value},zcv X.K H (.tup ds) v→RelV v u→∃ q its,u=.ref q∧s.heap.IsTuple q its:=fun hd rv=>by
   obtain ⟨q,vs,rfl,hq,_⟩:=hd.tup
   cases rv
   obtain ⟨its,_,p,_⟩:=I.tuple hq
   exact ⟨q,its.toArray,rfl,p⟩
  have lstL:∀ {ds:List Z.D} {v:V} {u:Value},zcv X.K H (.lst ds) v→RelV v u→∃ q its,u=.ref q∧s.heap.IsList q its:=fun hd rv=>by
   obtain ⟨q,vs,rfl,hq,_⟩:=hd.lst
   cases rv
   obtain ⟨its,_,p,_⟩:=I.list hq
   exact ⟨q,its.toArray,rfl,p.isList⟩
  cases d1<;>cases d2
  case non.non=>exact rcS ((zaB n (.inl ⟨rfl,rfl⟩)).symm.trans h) h1 h2 r1 r2
  case non.bl=>exact rcS ((zaB n (.inl ⟨rfl,rfl⟩)).symm.trans h) h1 h2 r1 r2
  case non.int=>exact rcS ((zaB n (.inl ⟨rfl,rfl⟩)).symm.trans h) h1 h2 r1 r2
  case non.str=>exact rcS ((zaB n (.inl ⟨rfl,rfl⟩)).symm.trans h) h1 h2 r1 r2
  case non.tup =>
   obtain rfl:k=false:=by cases n<;>cases h<;>rfl
   rw [h1.non] at r1;cases r1
   obtain ⟨q2,its2,rfl,p2⟩:=tupL h2 r2
   exact ⟨SeqAt.RcAt.none_tuple p2 hu0,SeqAt.EqAt.none_tuple p2 hu0,SeqAt.RcNeAt.none_tuple p2 hu0⟩
  case non.lst =>
   obtain rfl:k=false:=by cases n<;>cases h<;>rfl
   rw [h1.non] at r1;cases r1
   obtain ⟨q2,its2,rfl,p2⟩:=lstL h2 r2
   exact ⟨SeqAt.RcAt.none_list p2 hu0,SeqAt.EqAt.none_list p2 hu0,SeqAt.RcNeAt.none_list p2 hu0⟩
  case non.dct=>exact rcS ((zaB n (.inl ⟨rfl,rfl⟩)).symm.trans h) h1 h2 r1 r2
  case bl.non=>exact rcS ((zaB n (.inl ⟨rfl,rfl⟩)).symm.trans h) h1 h2 r1 r2
  case bl.bl=>exact rcS ((zaB n (.inl ⟨rfl,rfl⟩)).symm.trans h) h1 h2 r1 r2
  case bl.int=>exact rcS ((zaB n (.inl ⟨rfl,rfl⟩)).symm.trans h) h1 h2 r1 r2
  case bl.str=>exact rcS ((zaB n (.inl ⟨rfl,rfl⟩)).symm.trans h) h1 h2 r1 r2
  case bl.tup =>
   obtain rfl:k=false:=by cases n<;>cases h<;>rfl
   rw [h1.bl] at r1;cases r1
   obtain ⟨q2,its2,rfl,p2⟩:=tupL h2 r2
   exact ⟨SeqAt.RcAt.bool_tuple _ p2 hu0,SeqAt.EqAt.bool_tuple _ p2 hu0,SeqAt.RcNeAt.bool_tuple _ p2 hu0⟩
  case bl.lst =>
   obtain rfl:k=false:=by cases n<;>cases h<;>rfl
   rw [h1.bl] at r1;cases r1
   obtain ⟨q2,its2,rfl,p2⟩:=lstL h2 r2
   exact ⟨SeqAt.RcAt.bool_list _ p2 hu0,SeqAt.EqAt.bool_list _ p2 hu0,SeqAt.RcNeAt.bool_list _ p2 hu0⟩
  case bl.dct=>exact rcS ((zaB n (.inl ⟨rfl,rfl⟩)).symm.trans h) h1 h2 r1 r2
  case int.non=>exact rcS ((zaB n (.inl ⟨rfl,rfl⟩)).symm.trans h) h1 h2 r1 r2
  case int.bl=>exact rcS ((zaB n (.inl ⟨rfl,rfl⟩)).symm.trans h) h1 h2 r1 r2
  case int.int=>exact rcS ((zaB n (.inl ⟨rfl,rfl⟩)).symm.trans h) h1 h2 r1 r2
  case int.str=>exact rcS ((zaB n (.inl ⟨rfl,rfl⟩)).symm.trans h) h1 h2 r1 r2
  case int.tup =>
   obtain rfl:k=false:=by cases n<;>cases h<;>rfl
   rw [h1.int] at r1;obtain ⟨t1,rfl⟩:=r1
   obtain ⟨q2,its2,rfl,p2⟩:=tupL h2 r2
   exact ⟨SeqAt.RcAt.int_tuple _ _ p2 hu0,SeqAt.EqAt.int_tuple _ _ p2 hu0,SeqAt.RcNeAt.int_tuple _ _ p2 hu0⟩
  case int.lst =>
   obtain rfl:k=false:=by cases n<;>cases h<;>rfl
   rw [h1.int] at r1;obtain ⟨t1,rfl⟩:=r1
   obtain ⟨q2,its2,rfl,p2⟩:=lstL h2 r2
   exact ⟨SeqAt.RcAt.int_list _ _ p2 hu0,SeqAt.EqAt.int_list _ _ p2 hu0,SeqAt.RcNeAt.int_list _ _ p2 hu0⟩
  case int.dct=>exact rcS ((zaB n (.inl ⟨rfl,rfl⟩)).symm.trans h) h1 h2 r1 r2
  case str.non=>exact rcS ((zaB n (.inl ⟨rfl,rfl⟩)).symm.trans h) h1 h2 r1 r2
  case str.bl=>exact rcS ((zaB n (.inl ⟨rfl,rfl⟩)).symm.trans h) h1 h2 r1 r2
  case str.int=>exact rcS ((zaB n (.inl ⟨rfl,rfl⟩)).symm.trans h) h1 h2 r1 r2
  case str.str=>exact rcS ((zaB n (.inl ⟨rfl,rfl⟩)).symm.trans h) h1 h2 r1 r2
  case str.tup =>
   obtain rfl:k=false:=by cases n<;>cases h<;>rfl
   rw [h1.str] at r1;obtain ⟨t1,rfl⟩:=r1
   obtain ⟨q2,its2,rfl,p2⟩:=tupL h2 r2
   exact ⟨SeqAt.RcAt.str_tuple _ _ p2 hu0,SeqAt.EqAt.str_tuple _ _ p2 hu0,SeqAt.RcNeAt.str_tuple _ _ p2 hu0⟩
  case str.lst =>
   obtain rfl:k=false:=by cases n<;>cases h<;>rfl
   rw [h1.str] at r1;obtain ⟨t1,rfl⟩:=r1
   obtain ⟨q2,its2,rfl,p2⟩:=lstL h2 r2
   exact ⟨SeqAt.RcAt.str_list _ _ p2 hu0,SeqAt.EqAt.str_list _ _ p2 hu0,SeqAt.RcNeAt.str_list _ _ p2 hu0⟩
  case str.dct=>exact rcS ((zaB n (.inl ⟨rfl,rfl⟩)).symm.trans h) h1 h2 r1 r2
  case tup.non =>
   obtain rfl:k=false:=by cases n<;>cases h<;>rfl
   obtain ⟨q1,its1,rfl,p1⟩:=tupL h1 r1
   rw [h2.non] at r2;cases r2
   exact ⟨SeqAt.RcAt.tuple_none p1 hu0,SeqAt.EqAt.tuple_none p1 hu0,SeqAt.RcNeAt.tuple_none p1 hu0⟩
  case tup.bl =>
   obtain rfl:k=false:=by cases n<;>cases h<;>rfl
   obtain ⟨q1,its1,rfl,p1⟩:=tupL h1 r1
   rw [h2.bl] at r2;cases r2
   exact ⟨SeqAt.RcAt.tuple_bool _ p1 hu0,SeqAt.EqAt.tuple_bool _ p1 hu0,SeqAt.RcNeAt.tuple_bool _ p1 hu0⟩
  case tup.int =>
   obtain rfl:k=false:=by cases n<;>cases h<;>rfl
   obtain ⟨q1,its1,rfl,p1⟩:=tupL h1 r1
   rw [h2.int] at r2;obtain ⟨t2,rfl⟩:=r2
   exact ⟨SeqAt.RcAt.tuple_int _ _ p1 hu0,SeqAt.EqAt.tuple_int _ _ p1 hu0,SeqAt.RcNeAt.tuple_int _ _ p1 hu0⟩
  case tup.str =>
   obtain rfl:k=false:=by cases n<;>cases h<;>rfl
   obtain ⟨q1,its1,rfl,p1⟩:=tupL h1 r1
   rw [h2.str] at r2;obtain ⟨t2,rfl⟩:=r2
   exact ⟨SeqAt.RcAt.tuple_str _ _ p1 hu0,SeqAt.EqAt.tuple_str _ _ p1 hu0,SeqAt.RcNeAt.tuple_str _ _ p1 hu0⟩
  case tup.lst =>
   obtain rfl:k=false:=by cases n<;>cases h<;>rfl
   obtain ⟨q1,its1,rfl,p1⟩:=tupL h1 r1
   obtain ⟨q2,its2,rfl,p2⟩:=lstL h2 r2
   exact ⟨SeqAt.RcAt.tuple_list p1 p2 hu0,SeqAt.EqAt.tuple_list p1 p2 hu0,SeqAt.RcNeAt.tuple_list p1 p2 hu0⟩
  case tup.dct=>exact rcS ((zaB n (.inr (.inr rfl))).symm.trans h) h1 h2 r1 r2
  case lst.non =>
   obtain rfl:k=false:=by cases n<;>cases h<;>rfl
   obtain ⟨q1,its1,rfl,p1⟩:=lstL h1 r1
   rw [h2.non] at r2;cases r2
   exact ⟨SeqAt.RcAt.list_none p1 hu0,SeqAt.EqAt.list_none p1 hu0,SeqAt.RcNeAt.list_none p1 hu0⟩
  case lst.bl =>
   obtain rfl:k=false:=by cases n<;>cases h<;>rfl
   obtain ⟨q1,its1,rfl,p1⟩:=lstL h1 r1
   rw [h2.bl] at r2;cases r2
   exact ⟨SeqAt.RcAt.list_bool _ p1 hu0,SeqAt.EqAt.list_bool _ p1 hu0,SeqAt.RcNeAt.list_bool _ p1 hu0⟩
  case lst.int =>
   obtain rfl:k=false:=by cases n<;>cases h<;>rfl
   obtain ⟨q1,its1,rfl,p1⟩:=lstL h1 r1
   rw [h2.int] at r2;obtain ⟨t2,rfl⟩:=r2
   exact ⟨SeqAt.RcAt.list_int _ _ p1 hu0,SeqAt.EqAt.list_int _ _ p1 hu0,SeqAt.RcNeAt.list_int _ _ p1 hu0⟩
  case lst.str =>
   obtain rfl:k=false:=by cases n<;>cases h<;>rfl
   obtain ⟨q1,its1,rfl,p1⟩:=lstL h1 r1
   rw [h2.str] at r2;obtain ⟨t2,rfl⟩:=r2
   exact ⟨SeqAt.RcAt.list_str _ _ p1 hu0,SeqAt.EqAt.list_str _ _ p1 hu0,SeqAt.RcNeAt.list_str _ _ p1 hu0⟩
  case lst.tup =>
   obtain rfl:k=false:=by cases n<;>cases h<;>rfl
   obtain ⟨q1,its1,rfl,p1⟩:=lstL h1 r1
   obtain ⟨q2,its2,rfl,p2⟩:=tupL h2 r2
   exact ⟨SeqAt.RcAt.list_tuple p1 p2 hu0,SeqAt.EqAt.list_tuple p1 p2 hu0,SeqAt.RcNeAt.list_tuple p1 p2 hu0⟩
  case lst.dct=>exact rcS ((zaB n (.inr (.inr rfl))).symm.trans h) h1 h2 r1 r2
  case dct.non=>exact rcS ((zaB n (.inl ⟨rfl,rfl⟩)).symm.trans h) h1 h2 r1 r2
  case dct.bl=>exact rcS ((zaB n (.inl ⟨rfl,rfl⟩)).symm.trans h) h1 h2 r1 r2
  case dct.int=>exact rcS ((zaB n (.inl ⟨rfl,rfl⟩)).symm.trans h) h1 h2 r1 r2
  case dct.str=>exact rcS ((zaB n (.inl ⟨rfl,rfl⟩)).symm.trans h) h1 h2 r1 r2
  case dct.tup=>exact rcS ((zaB n (.inr (.inl rfl))).symm.trans h) h1 h2 r1 r2
  case dct.lst=>exact rcS ((zaB n (.inr (.inl rfl))).symm.trans h) h1 h2 r1 r2
  case dct.dct=>exact rcS ((zaB n (.inl ⟨rfl,rfl⟩)).symm.trans h) h1 h2 r1 r2
  case tup.tup as bs =>
   cases n with
   | zero=>cases h
   | succ n =>
    have hk:Z.ze7 (Z.zgY n) as bs=some k:=h
    have hs:=fun (z:v1=v2)=>zkX I (n+1) (d1:=.tup as) (d2:=.tup bs) (v:=v1) h h1 (z▸h2)
    obtain ⟨q,vs,rfl,hq,ta⟩:=h1.tup
    obtain ⟨q',ws,rfl,hq',tb⟩:=h2.tup
    cases r1;cases r2
    obtain ⟨its,ra,pa,_⟩:=I.tuple hq
    obtain ⟨its2,rb,pb,_⟩:=I.tuple hq'
    have hi:=zkT I n (A:=A.in1) (show A.units+1+n < cLine by lia) (ih n (Nat.lt_succ_self n)) hk ta tb ra rb
    have e:=(zfB hk).1
    have la:=ta.length;have lb:=tb.length;have ra':=ra.length;have rb':=rb.length
    have t1:=SeqAt.RcAt.tuples (s:=s) (A:=A) (show s.heap.IsTuple q its.toArray from pa) (show s.heap.IsTuple q' its2.toArray from pb) hu0 hi
    have t2:=SeqAt.RcNeAt.tuples (s:=s) (A:=A) (show s.heap.IsTuple q its.toArray from pa) (show s.heap.IsTuple q' its2.toArray from pb) hu0 hi
    simp only [List.size_toArray] at t1 t2
    rw [←ra',←rb',la,lb,←e] at t1 t2
    refine ⟨t1,?_,t2⟩
    by_cases hqq:q=q'
    ·subst hqq;rw [hs rfl];exact SeqAt.EqAt.same _
    ·exact SeqAt.EqAt.of_refs hqq t1
  case lst.lst as bs =>
   cases n with
   | zero=>cases h
   | succ n =>
    have hk:Z.ze7 (Z.zgY n) as bs=some k:=h
    have hs:=fun (z:v1=v2)=>zkX I (n+1) (d1:=.lst as) (d2:=.lst bs) (v:=v1) h h1 (z▸h2)
    obtain ⟨q,vs,rfl,hq,ta⟩:=h1.lst
    obtain ⟨q',ws,rfl,hq',tb⟩:=h2.lst
    cases r1;cases r2
    obtain ⟨its,ra,pa,_⟩:=I.list hq
    obtain ⟨its2,rb,pb,_⟩:=I.list hq'
    have e:=(zfB hk).1
    have la:=ta.length;have lb:=tb.length;have ra':=ra.length;have rb':=rb.length
    have t:SeqAt.RcAt A s (.ref q) (.ref q') k∧SeqAt.RcNeAt A s (.ref q) (.ref q') (!k):=by
     by_cases hlen:as.length=bs.length
     ·have hi:=zkT I n (A:=A.in1) (show A.units+1+n < cLine by lia) (ih n (Nat.lt_succ_self n)) hk ta tb ra rb
      have t1:=SeqAt.RcAt.lists (s:=s) (A:=A) pa.isList pb.isList (by simp only [List.size_toArray];lia) hu0 hi
      have t2:=SeqAt.RcNeAt.lists (s:=s) (A:=A) pa.isList pb.isList (by simp only [List.size_toArray];lia) hu0 hi
      simp only [List.size_toArray] at t1 t2
      rw [←ra',la] at t1 t2
      rw [hlen,Nat.min_self,beq_self_eq_true,Bool.and_true,←hlen] at e
      rw [←e] at t1 t2
      exact ⟨t1,t2⟩
     ·have:(as.length==bs.length)=false:=by simpa using hlen
      rw [this,Bool.and_false] at e
      subst e
      exact ⟨SeqAt.RcAt.lists_lengths pa.isList pb.isList (by simp only [List.size_toArray,bne_iff_ne,ne_eq];lia) hu0,SeqAt.RcNeAt.lists_lengths pa.isList pb.isList (by simp only [List.size_toArray,bne_iff_ne,ne_eq];lia) hu0⟩
    refine ⟨t.1,?_,t.2⟩
    by_cases hqq:q=q'
    ·subst hqq;rw [hs rfl];exact SeqAt.EqAt.same _
    ·exact SeqAt.EqAt.of_refs hqq t.1
theorem rcN {pins:List (Addr×Obj)} {σ:St} {H:Hp} {s:Shared} (I:Inv X pins σ H s) (n:Nat):∀ {A:Around} {d1 d2:Z.D} {v1 v2:V} {u1 u2:Value} {k:Bool},A.units+n < cLine→Z.zgY n d1 d2=some k→zcv X.K H d1 v1→zcv X.K H d2 v2→RelV v1 u1→RelV v2 u2→SeqAt.RcAt A s u1 u2 k∧SeqAt.EqAt A s u1 u2 k∧SeqAt.RcNeAt A s u1 u2 (!k):=by
 induction n using Nat.strongRecOn with
 | _ n ih=>exact ztB I n ih
theorem zgn (hu:X.A.units+64 < cLine):Cmp X .Eq Z.oEq:=by
 have ho:OpR X (compareOp .Eq) (fun x y H Q=>∃ d1 d2 k,zcv X.K H d1 x∧zcv X.K H d2 y∧Z.eqD d1 d2=some k∧Q (.bl k) H):=by
  intro pins s σ H x y v u Q I rx ry h
  obtain ⟨d1,d2,k,h1,h2,e,q⟩:=h
  exact (rcN I 6 (A:=X.A) (by lia) e h1 h2 rx ry).1 X.prog X.w X.xe _ ⟨.bl k,H,I,rfl,q⟩
 exact ⟨_,ho,fun x y dx dy d H Q h1 h2 e k=>by
  unfold Z.oEq at e
  split at e
  ·rename_i z hz
   cases e
   exact ⟨dx,dy,z,h1,h2,hz,k _ H (Same.refl H) zcZ⟩
  ·cases e⟩
theorem zmV (hu:X.A.units+64 < cLine):Cmp X .NotEq Z.oNe:=by
 have ho:OpR X (compareOp .NotEq) (fun x y H Q=>∃ d1 d2 k,zcv X.K H d1 x∧zcv X.K H d2 y∧Z.eqD d1 d2=some k∧Q (.bl (!k)) H):=by
  intro pins s σ H x y v u Q I rx ry h
  obtain ⟨d1,d2,k,h1,h2,e,q⟩:=h
  exact (rcN I 6 (A:=X.A) (by lia) e h1 h2 rx ry).2.2 X.prog X.w X.xe _ ⟨.bl (!k),H,I,rfl,q⟩
 exact ⟨_,ho,fun x y dx dy d H Q h1 h2 e k=>by
  unfold Z.oNe at e
  split at e
  ·rename_i z hz
   cases e
   exact ⟨dx,dy,z,h1,h2,hz,k _ H (Same.refl H) zcZ⟩
  ·cases e⟩
theorem znr:∀ {a b:Sum Int (List Nat)},zpe a=zpe b→a=b
 | .inl a,.inl b,h=>by injection h with h;rw [h]
 | .inl _,.inr _,h=>by cases h
 | .inr _,.inl _,h=>by cases h
 | .inr a,.inr b,h=>by
  injection h with h
  injection h with h
  have:a=b:=by simpa using congrArg Array.toList h
  rw [this]
theorem ziX:∀ {a b:List (Sum Int (List Nat))},a.map zpe=b.map zpe→a=b
 | [],[],_=>rfl
 | [],_ :: _,h=>by cases h
 | _ :: _,[],h=>by cases h
 | a :: as,b :: bs,h=>by
  simp only [List.map_cons,List.cons.injEq] at h
  rw [znr h.1,ziX h.2]
theorem zmD {pins:List (Addr×Obj)} {σ:St} {H:Hp} {s:Shared} {a:Addr} {o:Obj} {kvs:List (Key×V)} (I:Inv X pins σ H s) (hq:H a=some (.frz o (.dK kvs))):∃ o',s.heap.get? a=some o'∧o'.cls=.type "dict" := by
 obtain ⟨_,_,_,_,_,o',es,ep,h1,h2,_⟩:=(show ObjOk X.prog X.w H s.heap a (.frz o (.dK kvs)) from I.hok a _ hq)
 exact ⟨o',h1,h2.1⟩
theorem znN {pins:List (Addr×Obj)} {σ:St} {H:Hp} {s:Shared} {a:Addr} {xs:List V} {o:Obj} {kvs:List (Key×V)} (I:Inv X pins σ H s) (h:SqT X.K H a xs) (h':H a=some (.frz o (.dK kvs))):False:=by
 obtain ⟨its,r,⟨o1,e,c,n,d⟩,_⟩:=I.tuple h
 obtain ⟨o2,e',c'⟩:=zmD I h'
 rw [e] at e';cases e'
 rw [c] at c';injection c' with z;exact absurd z (by decide)
theorem znO {pins:List (Addr×Obj)} {σ:St} {H:Hp} {s:Shared} {a:Addr} {xs:List V} {o:Obj} {kvs:List (Key×V)} (I:Inv X pins σ H s) (h:SqL X.K H a xs) (h':H a=some (.frz o (.dK kvs))):False:=by
 obtain ⟨its,r,⟨o1,n,e,c,_⟩,_⟩:=I.list h
 obtain ⟨o2,e',c'⟩:=zmD I h'
 rw [e] at e';cases e'
 rw [c] at c';injection c' with z;exact absurd z (by decide)
mutual
theorem Den.inj {pins:List (Addr×Obj)} {σ:St} {H:Hp} {s:Shared} (I:Inv X pins σ H s):∀ (d1 d2:Z.D) (v:V),Den X.K H d1 v→Den X.K H d2 v→d1=d2
 | .non,d2,v,h1,h2=>by
  simp only [Den] at h1;subst h1
  cases d2<;>simp only [Den] at h2<;>first | rfl | (cases h2;done) | skip
  case tup=>obtain ⟨_,_,e,_⟩:=h2;cases e
  case lst=>obtain ⟨_,_,e,_⟩:=h2;cases e
  case dct=>obtain ⟨_,_,_,e,_⟩:=h2;cases e
 | .bl b,d2,v,h1,h2=>by
  simp only [Den] at h1;subst h1
  cases d2<;>simp only [Den] at h2<;>first | (injection h2 with h2;rw [h2]) | (cases h2;done) | skip
  case tup=>obtain ⟨_,_,e,_⟩:=h2;cases e
  case lst=>obtain ⟨_,_,e,_⟩:=h2;cases e
  case dct=>obtain ⟨_,_,_,e,_⟩:=h2;cases e
 | .int i,d2,v,h1,h2=>by
  simp only [Den] at h1;subst h1
  cases d2<;>simp only [Den] at h2<;>first | (injection h2 with h2;rw [h2]) | (cases h2;done) | skip
  case tup=>obtain ⟨_,_,e,_⟩:=h2;cases e
  case lst=>obtain ⟨_,_,e,_⟩:=h2;cases e
  case dct=>obtain ⟨_,_,_,e,_⟩:=h2;cases e
 | .str cs,d2,v,h1,h2=>by
  simp only [Den] at h1;subst h1
  cases d2<;>simp only [Den] at h2<;>first | (injection h2 with h2;injection h2 with h2;have:=congrArg Array.toList h2;simp at this;rw [this]) | (cases h2;done) | skip
  case tup=>obtain ⟨_,_,e,_⟩:=h2;cases e
  case lst=>obtain ⟨_,_,e,_⟩:=h2;cases e
  case dct=>obtain ⟨_,_,_,e,_⟩:=h2;cases e
 | .tup ds,d2,v,h1,h2=>by
  simp only [Den] at h1
  obtain ⟨a,vs,rfl,q,t⟩:=h1
  cases d2<;>simp only [Den] at h2
  case tup es =>
   obtain ⟨a',vs',e,q',t'⟩:=h2;cases e
   rw [I.tuple_inj q' q] at t'
   rw [zaE.inj I ds es vs t t']
  case lst es=>obtain ⟨a',vs',e,q',t'⟩:=h2;cases e;exact (zkO I q q'.sq).elim
  case dct ks es=>obtain ⟨a',o,kvs,e,q',_⟩:=h2;cases e;exact (znN I q q').elim
  all_goals cases h2
 | .lst ds,d2,v,h1,h2=>by
  simp only [Den] at h1
  obtain ⟨a,vs,rfl,q,t⟩:=h1
  cases d2<;>simp only [Den] at h2
  case lst es =>
   obtain ⟨a',vs',e,q',t'⟩:=h2;cases e
   rw [I.list_inj q'.sq q.sq] at t'
   rw [zaE.inj I ds es vs t t']
  case tup es=>obtain ⟨a',vs',e,q',t'⟩:=h2;cases e;exact (zkO I q' q.sq).elim
  case dct ks es=>obtain ⟨a',o,kvs,e,q',_⟩:=h2;cases e;exact (znO I q.sq q').elim
  all_goals cases h2
 | .dct ks ds,d2,v,h1,h2=>by
  simp only [Den] at h1
  obtain ⟨a,o,kvs,rfl,q,hk,t⟩:=h1
  cases d2<;>simp only [Den] at h2
  case lst es=>obtain ⟨a',vs',e,q',t'⟩:=h2;cases e;exact (znO I q'.sq q).elim
  case tup es=>obtain ⟨a',vs',e,q',t'⟩:=h2;cases e;exact (znN I q' q).elim
  case dct ks' es =>
   obtain ⟨a',o',kvs',e,q',hk',t'⟩:=h2;cases e
   rw [q] at q';cases q'
   rw [zaE.inj I ds es _ t t',ziX (hk.symm.trans hk')]
  all_goals cases h2
theorem zaE.inj {pins:List (Addr×Obj)} {σ:St} {H:Hp} {s:Shared} (I:Inv X pins σ H s):∀ (d1 d2:List Z.D) (v:List V),zaE X.K H d1 v→zaE X.K H d2 v→d1=d2
 | [],d2,v,h1,h2=>by
  simp only [zaE] at h1;subst h1
  cases d2 with
  | nil=>rfl
  | cons d ds=>simp only [zaE] at h2;obtain ⟨_,_,e,_⟩:=h2;cases e
 | d :: ds,d2,v,h1,h2=>by
  simp only [zaE] at h1
  obtain ⟨u,r,rfl,q,t⟩:=h1
  cases d2 with
  | nil=>simp only [zaE] at h2;cases h2
  | cons d' ds' =>
   simp only [zaE] at h2;obtain ⟨u',r',e,q',t'⟩:=h2
   cases e
   rw [Den.inj I d d' u q q',zaE.inj I ds ds' r t t']
end
theorem ziy {x:Z.D}:∀ {ys:List Z.D} {k:Bool},Z.zdW x ys=some k→k=ys.any (fun y=>(Z.eqD y x).getD false)∧∀ y∈ys,Z.eqD y x=some ((Z.eqD y x).getD false)
 | [],k,h=>by cases h;exact ⟨rfl,fun y hy=>by cases hy⟩
 | y :: ys,k,h=>by
  unfold Z.zdW at h
  split at h
  ·rename_i a b ea eb
   cases h
   obtain ⟨h1,h2⟩:=ziy eb
   refine ⟨by rw [List.any_cons,ea,h1];rfl,fun z hz=>?_⟩
   rcases List.mem_cons.mp hz with rfl | hz
   ·rw [ea];rfl
   ·exact h2 z hz
  ·cases h
theorem zkU {pins : List (Addr × Obj)} {σ : St} {H : Hp} {s : Shared} (I : Inv X pins σ H s) {A : Around} (hu : A.units + 60 < cLine) {x : Z.D} {v : V} {u : Value} (hx : zcv X.K H x v) (rx : RelV v u) : ∀ {ys : List Z.D} {vs : List V} {us : List Value}, zaE X.K H ys vs → Vals vs us → (∀ y ∈ ys, Z.eqD y x = some ((Z.eqD y x).getD false)) →
  ∃ e:Value→Bool,(∀ w∈us,SeqAt.EqAt A s w u (e w))∧us.any e=ys.any (fun y=>(Z.eqD y x).getD false):=by
 intro ys vs us
 have key:∀ {ys:List Z.D} {vs:List V} {us:List Value},zaE X.K H ys vs→Vals vs us→(∀ y∈ys,Z.eqD y x=some ((Z.eqD y x).getD false))→(∀ w∈us,∃ b,SeqAt.EqAt A s w u b)∧∀ e:Value→Bool,(∀ w∈us,∀ y vy,Den X.K H y vy→RelV vy w→y∈ys→e w=(Z.eqD y x).getD false)→us.any e=ys.any (fun y=>(Z.eqD y x).getD false):=by
  intro ys
  induction ys with
  | nil=>intro vs us t r _;simp only [zaE] at t;subst t;cases r;exact ⟨fun w hw=>(by cases hw),fun _ _=>rfl⟩
  | cons y ys ih =>
   intro vs us t r hh
   simp only [zaE] at t
   obtain ⟨vy,vr,rfl,dy,tr⟩:=t
   cases r with
   | cons ry rr =>
    obtain ⟨h1,h2⟩:=ih tr rr (fun z hz=>hh z (List.mem_cons_of_mem _ hz))
    refine ⟨fun w hw=>?_,fun e he=>?_⟩
    ·rcases List.mem_cons.mp hw with rfl | hw
     ·exact ⟨_,(rcN I 6 (A:=A) (by lia) (hh y List.mem_cons_self) (.inl dy) hx ry rx).2.1⟩
     ·exact h1 w hw
    ·rw [List.any_cons,List.any_cons,he _ List.mem_cons_self y vy dy ry List.mem_cons_self,h2 e fun w hw z vz dz rz hz=>he w (List.mem_cons_of_mem _ hw) z vz dz rz (List.mem_cons_of_mem _ hz)]
 intro t r hh
 classical
 let e:Value→Bool:=fun w=>if h:∃ y vy,Den X.K H y vy∧RelV vy w∧y∈ys then (Z.eqD h.choose x).getD false else false
 have he:∀ w y vy,Den X.K H y vy→RelV vy w→y∈ys→e w=(Z.eqD y x).getD false:=by
  intro w y vy dy ry hy
  have hex:∃ y vy,Den X.K H y vy∧RelV vy w∧y∈ys:=⟨y,vy,dy,ry,hy⟩
  show (if h:_ then _ else _)=_
  rw [dif_pos hex]
  obtain ⟨vy',dy',ry',hy'⟩:=hex.choose_spec
  have ev:vy'=vy:=ry'.inj ry
  subst ev
  rw [Den.inj I _ _ _ dy' dy]
 refine ⟨e,fun w hw=>?_,(key t r hh).2 e fun w hw y vy dy ry hy=>he w y vy dy ry hy⟩
 obtain ⟨j,hj,ej⟩:=List.getElem_of_mem hw
 have hl:=r.length
 have ht:=t.length
 obtain ⟨y,ey⟩:∃ y,ys[j]?=some y:=⟨ys[j]'(by lia),List.getElem?_eq_getElem (by lia)⟩
 obtain ⟨vy,evy,dy⟩:=t.get ey
 obtain ⟨u',eu',ru'⟩:=r.get evy
 have:u'=w:=by
  have:=List.getElem?_eq_getElem hj
  rw [eu',ej] at this;exact Option.some.inj this
 subst this
 have hy:y∈ys:=List.mem_of_getElem? ey
 rw [he _ y vy dy ru' hy]
 exact (rcN I 6 (A:=A) (by lia) (hh y hy) (.inl dy) hx ru' rx).2.1
theorem zpB (hu:X.A.units+64 < cLine):OpR X (compareOp .In) (fun x y H Q=>∃ d ys q vs k,zcv X.K H d x∧y=.ref q∧(SqL X.K H q vs∨SqT X.K H q vs)∧zaE X.K H ys vs∧Z.zdW d ys=some k∧Q (.bl k) H):=by
 intro pins s σ H x y v u Q I rx ry h
 obtain ⟨d,ys,q,vs,k,hd,rfl,hq,t,e,k'⟩:=h
 cases ry
 obtain ⟨e1,e2⟩:=ziy e
 subst e1
 rcases hq with hq | hq
 ·obtain ⟨its,r,pl,hz⟩:=I.list hq
  obtain ⟨f,hf,hfa⟩:=zkU I (A:=X.A.in1) (show X.A.units+1+60 < cLine by lia) hd rx t r e2
  refine SeqAt.in_listAt f pl.isList (fun w hw=>hf w (by simpa using hw)) ⟨.bl _,H,I,rfl,?_⟩
  rw [show its.toArray.any f=its.any f by simp,hfa]
  exact k'
 ·obtain ⟨its,r,pl,hz⟩:=I.tuple hq
  obtain ⟨f,hf,hfa⟩:=zkU I (A:=X.A.in1) (show X.A.units+1+60 < cLine by lia) hd rx t r e2
  refine SeqAt.in_tupleAt f pl (fun w hw=>hf w (by simpa using hw)) ⟨.bl _,H,I,rfl,?_⟩
  rw [show its.toArray.any f=its.any f by simp,hfa]
  exact k'
theorem zlY (hu:X.A.units+64 < cLine):OpR X (compareOp .NotIn) (fun x y H Q=>∃ d ys q vs k,zcv X.K H d x∧y=.ref q∧(SqL X.K H q vs∨SqT X.K H q vs)∧zaE X.K H ys vs∧Z.zdW d ys=some k∧Q (.bl (!k)) H):=by
 intro pins s σ H x y v u Q I rx ry h
 obtain ⟨d,ys,q,vs,k,hd,rfl,hq,t,e,k'⟩:=h
 cases ry
 obtain ⟨e1,e2⟩:=ziy e
 subst e1
 rcases hq with hq | hq
 ·obtain ⟨its,r,pl,hz⟩:=I.list hq
  obtain ⟨f,hf,hfa⟩:=zkU I (A:=X.A.in1) (show X.A.units+1+60 < cLine by lia) hd rx t r e2
  refine SeqAt.notIn_listAt f pl.isList (fun w hw=>hf w (by simpa using hw)) ⟨.bl _,H,I,rfl,?_⟩
  rw [show its.toArray.any f=its.any f by simp,hfa]
  exact k'
 ·obtain ⟨its,r,pl,hz⟩:=I.tuple hq
  obtain ⟨f,hf,hfa⟩:=zkU I (A:=X.A.in1) (show X.A.units+1+60 < cLine by lia) hd rx t r e2
  refine SeqAt.notIn_tupleAt f pl (fun w hw=>hf w (by simpa using hw)) ⟨.bl _,H,I,rfl,?_⟩
  rw [show its.toArray.any f=its.any f by simp,hfa]
  exact k'
theorem zst (hu:X.A.units+64 < cLine):Cmp X .In Z.oIn:=⟨_,zpB hu,fun x y dx dy d H Q h1 h2 e k=>by
 unfold Z.oIn at e
 split at e
 ·split at e
  ·rename_i b hb
   cases e
   obtain ⟨q,vs,rfl,hq,t⟩:=h2.tup
   exact ⟨dx,_,q,vs,b,h1,rfl,.inr hq,t,hb,k _ H (Same.refl H) zcZ⟩
  ·cases e
 ·split at e
  ·rename_i b hb
   cases e
   obtain ⟨q,vs,rfl,hq,t⟩:=h2.lst
   exact ⟨dx,_,q,vs,b,h1,rfl,.inl hq,t,hb,k _ H (Same.refl H) zcZ⟩
  ·cases e
 ·cases e⟩
theorem zix (hu:X.A.units+64 < cLine):Cmp X .NotIn Z.zdL:=⟨_,zlY hu,fun x y dx dy d H Q h1 h2 e k=>by
 unfold Z.zdL at e
 split at e
 ·split at e
  ·rename_i b hb
   cases e
   obtain ⟨q,vs,rfl,hq,t⟩:=h2.tup
   exact ⟨dx,_,q,vs,b,h1,rfl,.inr hq,t,hb,k _ H (Same.refl H) zcZ⟩
  ·cases e
 ·split at e
  ·rename_i b hb
   cases e
   obtain ⟨q,vs,rfl,hq,t⟩:=h2.lst
   exact ⟨dx,_,q,vs,b,h1,rfl,.inl hq,t,hb,k _ H (Same.refl H) zcZ⟩
  ·cases e
 ·cases e⟩
theorem zmP : ∀ {xs : List Z.D} {k : Bool}, Z.allB xs = some k → ∃ bs : List Bool, xs = bs.map Z.D.bl ∧ k = bs.all id
 | [],k,h=>by cases h;exact ⟨[],rfl,rfl⟩
 | x :: xs,k,h=>by
  cases x with
  | bl b =>
   have h':(Z.allB xs).map (b&&·)=some k:=h
   cases q:Z.allB xs with
   | none=>rw [q] at h';cases h'
   | some k' =>
    rw [q] at h'
    cases h'
    obtain ⟨bs,rfl,rfl⟩:=zmP q
    exact ⟨b :: bs,rfl,rfl⟩
  | non=>cases h
  | int _=>cases h
  | str _=>cases h
  | tup _=>cases h
  | lst _=>cases h
  | dct _ _=>cases h
theorem zk1 {K:PySem.W.Frag} {H:Hp}:∀ {bs:List Bool} {vs:List V},zaE K H (bs.map Z.D.bl) vs→vs=bs.map V.bl
 | [],vs,h=>by simp only [List.map_nil,zaE] at h;subst h;rfl
 | b :: bs,vs,h=>by
  simp only [List.map_cons,zaE] at h
  obtain ⟨v,r,rfl,hv,ht⟩:=h
  simp only [Den] at hv
  rw [hv,zk1 ht];rfl
theorem all_range (bs:List Bool):((List.range bs.length).all fun i=>bs[i]?.getD true)=bs.all id:=by
 induction bs with
 | nil=>rfl
 | cons b bs ih =>
  rw [List.length_cons,List.range_succ_eq_map,List.all_cons,List.all_map,List.all_cons]
  have:((fun i=>((b :: bs)[i]?).getD true)∘Nat.succ)=fun i=>bs[i]?.getD true:=by funext i;simp
  rw [this,ih]
  simp
theorem zmI (hc:X.calm=true):CallR X (.builtin "all") (fun xs H Q=>∃ (q:Addr) (bs:List Bool),xs=[.ref q]∧SqL X.K H q (bs.map V.bl)∧Q (.bl (bs.all id)) H):=by
 intro pins s σ H xs us Q I r h
 obtain ⟨q,bs,rfl,hq,k⟩:=h
 obtain ⟨u,rfl,ru⟩:=vals1 r
 cases ru
 obtain ⟨its,rv,pl,hz⟩:=I.list hq
 have hl:=rv.length
 rw [List.length_map] at hl
 have hlt:q < s.heap.objs.size:=by obtain ⟨_,e,_⟩:=pl.isList;exact Heap.lt_size e
 have hh:X.A.in1.handled=none:=I.ok.hd hc
 refine call_all_walk (wpAny_pyIter_list pl.isList ?_)
 refine ⟨s.heap.objs.size,[s.heap.objs.size,q],[s.heap.objs.size],its.toArray.size,_,_,fun i=>bs[i]?.getD true,rfl,Walks.list hh s.heap.objs.size q (Nat.ne_of_lt hlt) its.toArray,⟨⟨_,Heap.get?_push_size _ rfl,rfl,rfl⟩,pl.isList.push _⟩,?_,fun h' tk hk=>?_⟩
 ·intro i v s' Q' E' hv hQ
  have hi:its[i]?=some v:=by simpa using hv
  obtain ⟨hi1,_⟩:=List.getElem?_eq_some_iff.mp hi
  have hb:(bs.map V.bl)[i]?=some (V.bl (bs[i]'(by lia))):=by
   rw [List.getElem?_map,List.getElem?_eq_getElem (by lia)];rfl
  obtain ⟨u,hu,ru⟩:=rv.get hb
  rw [hi] at hu;cases hu
  cases ru
  refine wpAny_truthy_bool ?_
  have:bs[i]?.getD true=bs[i]'(by lia):=by rw [List.getElem?_eq_getElem (by lia)];rfl
  rw [←this]
  exact hQ
 ·have I1:Inv X pins σ H { s with heap:=s.heap.push { cls:=.type "list_iterator",data:=.fields #[.ref q,.int 0 0] } }:=I.kept (t':=s.toks) fun b o e=>Heap.get?_push_of_some _ e
  obtain ⟨f0,f1,f2,f3,f4,f5⟩:=I.fpOk (H':=H) (Nat.le_refl s.heap.objs.size) I.fresh
  have I2:=I1.turned (h':=h') (t':=tk) (it:=s.heap.objs.size) (fun b o hb e=>hk b o (by simpa using hb) e) f0 f1 f3 f4 f5
  refine ⟨.bl _,H,I2,rfl,?_⟩
  have e:(List.range its.toArray.size).all (fun i=>bs[i]?.getD true)=bs.all id:=by
   rw [List.size_toArray,←hl,all_range]
  rw [e]
  exact k
theorem zhL {x : Str} {p1 : Pos} (hg : Gl X x) (hm : X.mg x = none) (hv : bootBuiltins x = some (.builtin "all")) (ha : DW X a fa) (hc : X.calm = true := by rfl) (hn : x ≠ "__name__" := by decide +kernel) (hdb : (x == ("__debug__" : Str)) = false := by decide +kernel)
  (he:starEach (a :: []) X.env=(false,eval a X.env) :: starEach [] X.env:=by rfl) (hpl:(backTo pos (starEach [] X.env)).any (·.1)=false:=by rfl):DE X (.Call (.Name x p1) [a] [] pos) (Z.eU Z.zmU fa) :=
 PE.imp (pe_callB (zmI hc) hg hm hv (pa_cons ha pa_nil he) hn hdb he hpl) fun σ H Q ⟨ρ,d,r,e,k⟩=>by
  obtain ⟨x,ea,e⟩:=Z.Res.bind_ok e
  refine ⟨ρ,x,r,ea,fun v H1 s1 d1=>?_⟩
  unfold Z.zmU at e
  split at e
  ·split at e
   ·rename_i xs k' hk
    cases e
    obtain ⟨bs,rfl,rfl⟩:=zmP hk
    obtain ⟨q,vs,rfl,hq,t⟩:=d1.lst
    rw [zk1 t] at hq
    exact ⟨q,bs,rfl,hq,k _ H1 s1 zcZ⟩
   ·cases e
  ·cases e
end
section
variable {X:Cx} {es:List Expr} {f:Z.EF} {g:Z.AF}
theorem zad {v j p} (ha:DE X (.Constant v j p) f) (hr:DA X es g):DA X ((.Constant v j p) :: es) (Z.zab f g):=zen ha hr rfl
theorem zaa {x p} (ha:DE X (.Name x p) f) (hr:DA X es g):DA X ((.Name x p) :: es) (Z.zab f g):=zen ha hr rfl
theorem zcR {xs j p} (ha:DE X (.Tuple xs j p) f) (hr:DA X es g):DA X ((.Tuple xs j p) :: es) (Z.zab f g):=zen ha hr rfl
theorem zdw {xs p} (ha:DE X (.List xs p) f) (hr:DA X es g):DA X ((.List xs p) :: es) (Z.zab f g):=zen ha hr rfl
theorem za1 {x o y p} (ha:DE X (.BinOp x o y p) f) (hr:DA X es g):DA X ((.BinOp x o y p) :: es) (Z.zab f g):=zen ha hr rfl
theorem zaR {x xs ks p} (ha:DE X (.Call x xs ks p) f) (hr:DA X es g):DA X ((.Call x xs ks p) :: es) (Z.zab f g):=zen ha hr rfl
theorem zaD {x y p} (ha:DE X (.Subscript x y p) f) (hr:DA X es g):DA X ((.Subscript x y p) :: es) (Z.zab f g):=zen ha hr rfl
theorem zkx {x os ys p} (ha:DE X (.Compare x os ys p) f) (hr:DA X es g):DA X ((.Compare x os ys p) :: es) (Z.zab f g):=zen ha hr rfl
theorem zmz {o x p} (ha:DE X (.UnaryOp o x p) f) (hr:DA X es g):DA X ((.UnaryOp o x p) :: es) (Z.zab f g):=zen ha hr rfl
end
end ZS
namespace ZQ
open PySem PySem.Spec PyProof.Rows L2 ZS
noncomputable abbrev St:=L2.St
structure QE (X:Cx) (e:Expr) (f:Z.EF):Prop where p:DE X e f
structure QW (X:Cx) (e:Expr) (f:Z.EF):Prop where p:DW X e f
structure QL (X:Cx) (e:Expr) (f:Z.LF):Prop where p:DL X e f
structure QT (X:Cx) (e:Expr) (f:Z.TF):Prop where p:DT X e f
structure QTW (X:Cx) (e:Expr) (f:Z.TF):Prop where p:DTW X e f
structure QA (X:Cx) (es:List Expr) (f:Z.AF):Prop where p:DA X es f
structure QP (X:Cx) (e:Option Expr) (f:Z.PF):Prop where p:DP X e f
structure QI (X:Cx) (tg e:Expr) (f:Z.LF):Prop where p:DI X tg e f
structure QJ (X:Cx) (tg e:Expr) (f:Z.LF):Prop where p:DJ X tg e f
structure QS (X:Cx) (H0:Hp) (st:Stmt) (g:Z.SF):Prop where p:DS X H0 st g
structure QSs (X:Cx) (H0:Hp) (st:List Stmt) (g:Z.SF):Prop where p:DSs X H0 st g
structure QG (X:Cx) (H0:Hp) (tg:Expr) (g:Z.GF):Prop where p:DG X H0 tg g
structure QGs (X:Cx) (H0:Hp) (tgs:List Expr) (is:List Nat):Prop where p:DGs X H0 tgs is
structure QTst (X:Cx) (ifs:List Expr) (t:Z.TF):Prop where p:Tst X ifs t
section
variable {X:Cx} {tg e a b c elt iter:Expr} {es ifs:List Expr} {pos p:Pos} {f fa fb fc:Z.EF} {g u:Z.SF} {H0:Hp} {st:Stmt} {sts:List Stmt} {N':List Str} {n:Nat} {is:List Nat} {scope:Scope}
theorem zac {i:Int} {j}:QE X (.Constant (.int i) j pos) (Z.eC (.int i)):=⟨ZS.zac ⟩
theorem zdV {x:Bool} {j}:QE X (.Constant (.bool x) j pos) (Z.eC (.bl x)):=⟨ZS.zdV ⟩
theorem zg8 {j}:QE X (.Constant .none j pos) (Z.eC .non):=⟨ZS.zg8 ⟩
theorem zax {x:Str} {cs:List Nat} {j} (h:x=⟨cs.toArray⟩):QE X (.Constant (.str x) j pos) (Z.eC (.str cs)):=⟨ZS.zax (h:=h)⟩
theorem zao (i:Nat) {x:Str} (hN:X.N[i]?=some x:=by rfl) (hv:Vis X.env.scope x:=by first | exact Or.inl rfl | exact Or.inr (Or.inl rfl) | exact Or.inr (Or.inr rfl)) (hd:(x==("__debug__" : Str))=false:=by decide +kernel) (hcd:(x==("__classdict__" : Str))=false:=by decide +kernel):QE X (.Name x pos) (Z.eV i):=⟨ZS.zao (i:=i) (hN:=hN) (hv:=hv) (hd:=hd) (hcd:=hcd)⟩
theorem zaj (i:Nat) {x:Str} (hN:X.N[i]?=some x:=by rfl) (hv:Vis X.env.scope x:=by first | exact Or.inl rfl | exact Or.inr (Or.inl rfl) | exact Or.inr (Or.inr rfl)) (hd:(x==("__debug__" : Str))=false:=by decide +kernel) (hcd:(x==("__classdict__" : Str))=false:=by decide +kernel):QW X (.Name x pos) (Z.eW i):=⟨ZS.zaj (i:=i) (hN:=hN) (hv:=hv) (hd:=hd) (hcd:=hcd)⟩
theorem zcs {X:Cx} {pos:Pos} {x:Str} {i:Int} {t:Tok} (hg:Gl X x) (hm:X.mg x=some (.int i t)) (hb:(x==("__debug__" : Str))=false:=by decide +kernel):QE X (.Name x pos) (Z.eC (.int i)):=⟨ZS.zcs (hg:=hg) (hm:=hm) (hb:=hb)⟩
theorem zaf (h:QE X e f):QW X e f:=⟨ZS.zaf (h:=h.p)⟩
theorem zes {l:Z.LF} (h:QL X e l):QW X e (Z.eL l):=⟨ZS.zes (h:=h.p)⟩
theorem zhK {l:Z.LF} (h:QL X e l):QE X e (Z.eL l):=⟨ZS.zhK (h:=h.p)⟩
theorem zg6 (ha:QW X a fa) (hb:QW X b fb):QE X (.BinOp a .Sub b pos) (Z.eB Z.znf fa fb):=⟨ZS.zg6 (ha:=ha.p) (hb:=hb.p)⟩
theorem zc0 (ha:QW X a fa) (hb:QW X b fb):QE X (.BinOp a .Mult b pos) (Z.eB Z.zf7 fa fb):=⟨ZS.zc0 (ha:=ha.p) (hb:=hb.p)⟩
theorem zbk (ha:QW X a fa) (hb:QW X b fb):QE X (.BinOp a .FloorDiv b pos) (Z.eB Z.oDiv fa fb):=⟨ZS.zbk (ha:=ha.p) (hb:=hb.p)⟩
theorem zaT (ha:QW X a fa) (hb:QW X b fb):QE X (.BinOp a .Mod b pos) (Z.eB Z.oMod fa fb):=⟨ZS.zaT (ha:=ha.p) (hb:=hb.p)⟩
theorem zg7 (ha:QW X a fa) (hb:QW X b fb):QE X (.BinOp a .Pow b pos) (Z.eB Z.ziP fa fb):=⟨ZS.zg7 (ha:=ha.p) (hb:=hb.p)⟩
theorem zam (ha:QW X a fa) (hb:QW X b fb):QE X (.BinOp a .Add b pos) (Z.eB Z.zbh fa fb):=⟨ZS.zam (ha:=ha.p) (hb:=hb.p)⟩
theorem zg9 (ha:QW X a fa):QE X (.UnaryOp .USub a pos) (Z.eU Z.zni fa):=⟨ZS.zg9 (ha:=ha.p)⟩
theorem zcK {op:CmpOp} {o:Z.D→Z.D→Z.Res Z.D} (h:Cmp X op o) (ha:QW X a fa) (hb:QW X b fb) (hm:behindInMarks op b=false):QE X (.Compare a [op] [b] pos) (Z.eB o fa fb):=⟨ZS.zcK (h:=h) (ha:=ha.p) (hb:=hb.p) (hm:=hm)⟩
theorem zas {op:CmpOp} {o:Z.D→Z.D→Z.Res Z.D} (h:Cmp X op o) (ha:QW X a fa) (hb:QW X b fb) (hm:behindInMarks op b=false):QT X (.Compare a [op] [b] pos) (Z.tE (Z.eB o fa fb)):=⟨ZS.zas (h:=h) (ha:=ha.p) (hb:=hb.p) (hm:=hm)⟩
theorem ziu {op op':CmpOp} {o o':Z.D→Z.D→Z.Res Z.D} (h:Cmp X op o) (h':Cmp X op' o') (ha:QW X a fa) (hb:QW X b fb) (hc:QW X c fc) (hm:lastMarks [op,op'] [b,c]=false:=by with_unfolding_all rfl):QE X (.Compare a [op,op'] [b,c] pos) (Z.zeS o o' fa fb fc):=⟨ZS.ziu (h:=h) (h':=h') (ha:=ha.p) (hb:=hb.p) (hc:=hc.p) (hm:=hm)⟩
theorem zfs {op op':CmpOp} {o o':Z.D→Z.D→Z.Res Z.D} (h:Cmp X op o) (h':Cmp X op' o') (ha:QW X a fa) (hb:QW X b fb) (hc:QW X c fc) (hm:lastMarks [op,op'] [b,c]=false:=by with_unfolding_all rfl):QT X (.Compare a [op,op'] [b,c] pos) (Z.tE (Z.zeS o o' fa fb fc)):=⟨ZS.zfs (h:=h) (h':=h') (ha:=ha.p) (hb:=hb.p) (hc:=hc.p) (hm:=hm)⟩
theorem zmy {j pos'} (ha:QW X a fa):QE X (.Compare a [.Is] [.Constant .none j pos'] pos) (Z.eU Z.ziR fa):=⟨ZS.zmy (ha:=ha.p)⟩
theorem zhG {j pos'} (ha:QW X a fa):QT X (.Compare a [.Is] [.Constant .none j pos'] pos) (Z.tE (Z.eU Z.ziR fa)):=⟨ZS.zhG (ha:=ha.p)⟩
theorem zfP {j pos'} (ha:QW X a fa):QT X (.Compare a [.IsNot] [.Constant .none j pos'] pos) (Z.tE (Z.eU Z.ze1 fa)):=⟨ZS.zfP (ha:=ha.p)⟩
theorem zd2 {op} (h:QE X a fa):QE X (.BoolOp op [a] pos) fa:=⟨ZS.zd2 (h:=h.p)⟩
theorem zeV {rest:List Expr} (ha:QE X a fa) (hb:QE X (.BoolOp .And (b :: rest) pos) fb):QE X (.BoolOp .And (a :: b :: rest) pos) (Z.zmp fa fb):=⟨ZS.zeV (ha:=ha.p) (hb:=hb.p)⟩
theorem zmw {rest:List Expr} (ha:QE X a fa) (hb:QE X (.BoolOp .Or (b :: rest) pos) fb):QE X (.BoolOp .Or (a :: b :: rest) pos) (Z.eOr fa fb):=⟨ZS.zmw (ha:=ha.p) (hb:=hb.p)⟩
theorem zmx (ha:QE X a fa):QE X (.UnaryOp .Not a pos) (Z.zq0 fa):=⟨ZS.zmx (ha:=ha.p)⟩
theorem zhl (h:QE X e f) (he:∀ whole,isTrue e X.env whole=(do let v ←whole;standAt e.pos;holding [v] (truthy v)):=by intro _;rfl):QT X e (Z.tE f):=⟨ZS.zhl (h:=h.p) (he:=he)⟩
theorem zdC {t:Z.TF} (h:QT X a t):QT X (.UnaryOp .Not a pos) (Z.tNot t):=⟨ZS.zdC (h:=h.p)⟩
theorem zdU {t:Z.TF} (h:QT X a t):QTW X (.BoolOp .And [a] pos) t:=⟨ZS.zdU (h:=h.p)⟩
theorem zeF {t:Z.TF} (h:QT X a t):QTW X (.BoolOp .Or [a] pos) t:=⟨ZS.zeF (h:=h.p)⟩
theorem zet {t u:Z.TF} {rest:List Expr} (ha:QT X a t) (hb:QTW X (.BoolOp .And (b :: rest) pos) u):QTW X (.BoolOp .And (a :: b :: rest) pos) (Z.tAnd t u):=⟨ZS.zet (ha:=ha.p) (hb:=hb.p)⟩
theorem ze3 {t u:Z.TF} {rest:List Expr} (ha:QT X a t) (hb:QTW X (.BoolOp .Or (b :: rest) pos) u):QTW X (.BoolOp .Or (a :: b :: rest) pos) (Z.tOr t u):=⟨ZS.ze3 (ha:=ha.p) (hb:=hb.p)⟩
theorem dtw {t:Z.TF} (h:QTW X e t):QT X e t:=⟨ZS.dtw (h:=h.p)⟩
theorem zgm {t:Z.TF} (hc:QT X c t) (ha:QE X a fa) (hb:QE X b fb):QE X (.IfExp c a b pos) (Z.eIf t fa fb):=⟨ZS.zgm (hc:=hc.p) (ha:=ha.p) (hb:=hb.p)⟩
theorem zag  : QA X [] Z.zav:=⟨ZS.zag ⟩
theorem zad {g:Z.AF} {v j p} (ha:QE X (.Constant v j p) f) (hr:QA X es g):QA X ((.Constant v j p) :: es) (Z.zab f g):=⟨ZS.zad (ha:=ha.p) (hr:=hr.p)⟩
theorem zaa {g:Z.AF} {x p} (ha:QE X (.Name x p) f) (hr:QA X es g):QA X ((.Name x p) :: es) (Z.zab f g):=⟨ZS.zaa (ha:=ha.p) (hr:=hr.p)⟩
theorem zcR {g:Z.AF} {xs j p} (ha:QE X (.Tuple xs j p) f) (hr:QA X es g):QA X ((.Tuple xs j p) :: es) (Z.zab f g):=⟨ZS.zcR (ha:=ha.p) (hr:=hr.p)⟩
theorem zdw {g:Z.AF} {xs p} (ha:QE X (.List xs p) f) (hr:QA X es g):QA X ((.List xs p) :: es) (Z.zab f g):=⟨ZS.zdw (ha:=ha.p) (hr:=hr.p)⟩
theorem za1 {g:Z.AF} {x o y p} (ha:QE X (.BinOp x o y p) f) (hr:QA X es g):QA X ((.BinOp x o y p) :: es) (Z.zab f g):=⟨ZS.za1 (ha:=ha.p) (hr:=hr.p)⟩
theorem zaR {g:Z.AF} {x xs ks p} (ha:QE X (.Call x xs ks p) f) (hr:QA X es g):QA X ((.Call x xs ks p) :: es) (Z.zab f g):=⟨ZS.zaR (ha:=ha.p) (hr:=hr.p)⟩
theorem zaD {g:Z.AF} {x y p} (ha:QE X (.Subscript x y p) f) (hr:QA X es g):QA X ((.Subscript x y p) :: es) (Z.zab f g):=⟨ZS.zaD (ha:=ha.p) (hr:=hr.p)⟩
theorem zkx {g:Z.AF} {x os ys p} (ha:QE X (.Compare x os ys p) f) (hr:QA X es g):QA X ((.Compare x os ys p) :: es) (Z.zab f g):=⟨ZS.zkx (ha:=ha.p) (hr:=hr.p)⟩
theorem zmz {g:Z.AF} {o x p} (ha:QE X (.UnaryOp o x p) f) (hr:QA X es g):QA X ((.UnaryOp o x p) :: es) (Z.zab f g):=⟨ZS.zmz (ha:=ha.p) (hr:=hr.p)⟩
theorem za8 {x1} {g:Z.AF} (h:QA X es g):QE X (.Tuple es x1 pos) (Z.zd1 g):=⟨ZS.za8 (h:=h.p)⟩
theorem zaz {g:Z.AF} (h:QA X es g):QL X (.List es pos) (Z.zbp g):=⟨ZS.zaz (h:=h.p)⟩
theorem zb6 (t:Z.Ty) {x y:Str} {p1 p2:Pos} (hg:Gl X x) (hm:X.mg x=none) (hv:bootBuiltins x=some (.builtin "isinstance")) (hg2:Gl X y) (hm2:X.mg y=none) (hv2:bootBuiltins y=some (.type (tyC t))) (ha:QW X a fa) (hn:x ≠ "__name__" := by decide +kernel) (hdb:(x==("__debug__" : Str))=false:=by decide +kernel) (hn2:y ≠ "__name__" := by decide +kernel) (hdb2:(y==("__debug__" : Str))=false:=by decide +kernel) (he:starEach (a :: [.Name y p2]) X.env=(false,eval a X.env) :: starEach [.Name y p2] X.env:=by rfl) (hpl:(backTo pos (starEach [.Name y p2] X.env)).any (·.1)=false:=by rfl) (he2:starEach ((.Name y p2) :: []) X.env=(false,eval (.Name y p2) X.env) :: starEach [] X.env:=by rfl):QE X (.Call (.Name x p1) [a,.Name y p2] [] pos) (Z.eU (Z.zfH t) fa):=⟨ZS.zb6 (t:=t) (hg:=hg) (hm:=hm) (hv:=hv) (hg2:=hg2) (hm2:=hm2) (hv2:=hv2) (ha:=ha.p) (hn:=hn) (hdb:=hdb) (hn2:=hn2) (hdb2:=hdb2) (he:=he) (hpl:=hpl) (he2:=he2)⟩
theorem zbb {x:Str} {p1:Pos} (hg:Gl X x) (hm:X.mg x=none) (hv:bootBuiltins x=some (.builtin "len")) (ha:QW X a fa) (hn:x ≠ "__name__" := by decide +kernel) (hdb:(x==("__debug__" : Str))=false:=by decide +kernel) (he:starEach (a :: []) X.env=(false,eval a X.env) :: starEach [] X.env:=by rfl) (hpl:(backTo pos (starEach [] X.env)).any (·.1)=false:=by rfl):QE X (.Call (.Name x p1) [a] [] pos) (Z.eU Z.zdh fa):=⟨ZS.zbb (hg:=hg) (hm:=hm) (hv:=hv) (ha:=ha.p) (hn:=hn) (hdb:=hdb) (he:=he) (hpl:=hpl)⟩
theorem zal (ha:QW X a fa) (hb:QW X b fb) (hs:PlainIx b:=by intro _ _;rfl):QE X (.Subscript a b pos) (Z.eB Z.oIx fa fb):=⟨ZS.zal (ha:=ha.p) (hb:=hb.p) (hs:=hs)⟩
theorem zfT  : QP X none Z.pNo:=⟨ZS.zfT ⟩
theorem zeG (h:QW X e f):QP X (some e) (Z.pAt f):=⟨ZS.zeG (h:=h.p)⟩
theorem zcH {lo hi:Option Expr} {gl gh:Z.PF} {p2:Pos} (ha:QW X a fa) (hl:QP X lo gl) (hh:QP X hi gh):QE X (.Subscript a (.Slice lo hi none p2) pos) (Z.eSl fa gl gh):=⟨ZS.zcH (ha:=ha.p) (hl:=hl.p) (hh:=hh.p)⟩
theorem zgk {lo hi:Option Expr} {gl gh:Z.PF} {p2:Pos} (ha:QW X a fa) (hl:QP X lo gl) (hh:QP X hi gh):QL X (.Subscript a (.Slice lo hi none p2) pos) (Z.lSl fa gl gh):=⟨ZS.zgk (ha:=ha.p) (hl:=hl.p) (hh:=hh.p)⟩
theorem zg3 (ha:QW X a fa) (hb:QW X b fb):QL X (.BinOp a .Add b pos) (Z.zme fa fb):=⟨ZS.zg3 (ha:=ha.p) (hb:=hb.p)⟩
theorem zai {k:Nat} {ps:List Str} {x:Str} {m:List Z.D→Z.Res Z.D} {ar:Z.AF} {p1:Pos} (C:Cal X.prog X.w X.K X.mg X.base x k ps m) (hr:Room k X.A) (hg:Gl X x) (ha:QA X (e :: es) ar) (hdb:(x==("__debug__" : Str))=false:=by decide +kernel) (he:starEach (e :: es) X.env=(false,eval e X.env) :: starEach es X.env:=by rfl) (hpl:(backTo pos (starEach es X.env)).any (·.1)=false:=by rfl):QE X (.Call (.Name x p1) (e :: es) [] pos) (Z.zar m ar):=⟨ZS.zai (C:=C) (hr:=hr) (hg:=hg) (ha:=ha.p) (hdb:=hdb) (he:=he) (hpl:=hpl)⟩
theorem zmu {g:Z.LF} (h:QJ X tg e g):QI X tg e g:=⟨ZS.zmu (h:=h.p)⟩
theorem zbU (hg:Gl X "range") (hm:X.mg "range" = none) (ha:QE X a fa) (hs:starEach [a] X.env=[(false,eval a X.env)]:=by rfl) (hs1:starEach (a :: []) X.env=(false,eval a X.env) :: starEach [] X.env:=by rfl):QJ X tg (.Call (.Name "range" p) [a] [] pos) (Z.iRng1 fa):=⟨ZS.zbU (hg:=hg) (hm:=hm) (ha:=ha.p) (hs:=hs) (hs1:=hs1)⟩
theorem zg4 (hg:Gl X "range") (hm:X.mg "range" = none) (ha:QE X a fa) (hb:QE X b fb) (hs:starEach [a,b] X.env=[(false,eval a X.env),(false,eval b X.env)]:=by rfl) (hs2:starEach [b] X.env=[(false,eval b X.env)]:=by rfl) (h1:starEach (a :: [b]) X.env=(false,eval a X.env) :: starEach [b] X.env:=by rfl) (h2:starEach (b :: []) X.env=(false,eval b X.env) :: starEach [] X.env:=by rfl):QJ X tg (.Call (.Name "range" p) [a,b] [] pos) (Z.iRng2 fa fb):=⟨ZS.zg4 (hg:=hg) (hm:=hm) (ha:=ha.p) (hb:=hb.p) (hs:=hs) (hs2:=hs2) (h1:=h1) (h2:=h2)⟩
theorem zdt (ha:QW X a fa):QI X tg a (Z.zfK fa):=⟨ZS.zdt (ha:=ha.p)⟩
theorem zgb (ha:QE X a fa):QJ X tg a (Z.zfK fa):=⟨ZS.zgb (ha:=ha.p)⟩
theorem zay  : QSs X H0 [] Z.zbn:=⟨ZS.zay ⟩
theorem zah (h:QS X H0 st g):QSs X H0 [st] g:=⟨ZS.zah (h:=h.p)⟩
theorem zae (h1:QS X H0 st g) (h2:QSs X H0 sts u):QSs X H0 (st :: sts) (Z.zaI g u):=⟨ZS.zae (h1:=h1.p) (h2:=h2.p)⟩
theorem zap (h:QE X a fa):QS X H0 (.Return (some a) pos) (Z.zbS fa):=⟨ZS.zap (h:=h.p)⟩
theorem zbr {c:Expr} {b1 b2:List Stmt} {t:Z.TF} (hc:QT X c t) (h1:QSs X H0 b1 g) (h2:QSs X H0 b2 u):QS X H0 (.If c b1 b2 pos) (Z.sIf t g u):=⟨ZS.zbr (hc:=hc.p) (h1:=h1.p) (h2:=h2.p)⟩
theorem zan {i:Nat} {x:Str} {pos':Pos} (hN:X.N.Nodup) (hi:X.N[i]?=some x) (hx:Loc X.env.scope x) (he:QE X a fa) (hs:swapsWith a (some (.Name x pos')) pos.line X.env=pure false:=by rfl) (hf:X.fn x=true∨X.env.scope.names.lookup x=some .local:=by first | exact .inl rfl | exact .inr rfl | assumption):QS X H0 (.Assign [.Name x pos'] a pos) (Z.zbj i fa):=⟨ZS.zan (hN:=hN) (hi:=hi) (hx:=hx) (he:=he.p) (hs:=hs) (hf:=hf)⟩
theorem zeu {i:Nat} {x:Str} {pos':Pos} {l:Z.LF} (hN:X.N.Nodup) (hi:X.N[i]?=some x) (hx:Loc X.env.scope x) (he:QL X a l) (hs:swapsWith a (some (.Name x pos')) pos.line X.env=pure false:=by rfl) (hf:X.fn x=true∨X.env.scope.names.lookup x=some .local:=by first | exact .inl rfl | exact .inr rfl | assumption):QS X H0 (.Assign [.Name x pos'] a pos) (Z.zjn i l):=⟨ZS.zeu (hN:=hN) (hi:=hi) (hx:=hx) (he:=he.p) (hs:=hs) (hf:=hf)⟩
theorem zaH {i:Nat} {x:Str} (hN:X.N.Nodup) (hi:X.N[i]?=some x) (hx:Loc X.env.scope x) (hf:X.fn x=true∨X.env.scope.names.lookup x=some .local:=by first | exact .inl rfl | exact .inr rfl | assumption):QG X H0 (.Name x pos) (Z.gName i):=⟨ZS.zaH (hN:=hN) (hi:=hi) (hx:=hx) (hf:=hf)⟩
theorem zde  : QGs X H0 [] []:=⟨ZS.zde ⟩
theorem zaG {i:Nat} {is:List Nat} {x:Str} (hN:X.N.Nodup) (hi:X.N[i]?=some x) (hx:Loc X.env.scope x) (h2:QGs X H0 es is) (hs:(assignEach ((.Name x pos) :: es) X.env).map (·.2)=assign (.Name x pos) X.env :: (assignEach es X.env).map (·.2):=by rfl) (hf:X.fn x=true∨X.env.scope.names.lookup x=some .local:=by first | exact .inl rfl | exact .inr rfl | assumption):QGs X H0 (.Name x pos :: es) (i :: is):=⟨ZS.zaG (hN:=hN) (hi:=hi) (hx:=hx) (h2:=h2.p) (hs:=hs) (hf:=hf)⟩
theorem zeU {x1 n:Nat} {is:List Nat} (hc:X.calm=true) (h:QGs X H0 es is) (hl:is.length=n) (hn:(assignEach es X.env).length=n:=by rfl) (hst:(assignEach es X.env).findIdx? (·.1)=none:=by rfl):QG X H0 (.Tuple es x1 pos) (Z.gTup is):=⟨ZS.zeU (hc:=hc) (h:=h.p) (hl:=hl) (hn:=hn) (hst:=hst)⟩
theorem zja {g:Z.GF} (he:QE X a fa) (hg:QG X H0 tg g) (hs:swapsWithSole [tg] a pos.line X.env=pure false:=by rfl) (hw:swappedStores [tg] a X.env=pure none:=by rfl) (h1:(assignEach [tg] X.env).map (·.2)=[assign tg X.env]:=by rfl):QS X H0 (.Assign [tg] a pos) (Z.zoi fa g):=⟨ZS.zja (he:=he.p) (hg:=hg.p) (hs:=hs) (hw:=hw) (h1:=h1)⟩
theorem zcr {it:Z.LF} {G:Z.GF} {iter:Expr} {body:List Stmt} (hp:PassesOwn (model X.prog X.w) X.A X.env X.xe) (hc:X.calm=true) (hi:QJ X tg iter it) (hg:QG X H0 tg G) (hb:QSs X H0 body g) (hs:∀ x,foldedSetIterable iter X.env x=pure x:=by intro _;rfl):QS X H0 (.For tg iter body [] pos) (Z.zfE it G g):=⟨ZS.zcr (hp:=hp) (hc:=hc) (hi:=hi.p) (hg:=hg.p) (hb:=hb.p) (hs:=hs)⟩
theorem zgZ {i:Nat} (h:QSs X H0 sts g):QSs X H0 sts (Z.znL i g):=⟨ZS.zgZ (h:=h.p)⟩
theorem zcp {it:Z.LF} {G:Z.GF} {t:Z.TF} {fe:Z.EF} (hcalm:X.calm=true) (hi:QI X tg iter it) (B:Blk X.N N' n is scope X.env.scope) (hG:∀ d ρ ρ1,G d ρ=.ok ρ1→ρ1.length=ρ.length∧∀ i,n≤i→ρ1[i]?=ρ[i]?) (hg:∀ cl C fp s H H0,QG (blk X N' scope cl C fp s H) H0 tg G) (ht:∀ cl C fp s H,QTst (blk X N' scope cl C fp s H) ifs t) (he:∀ cl C fp s H,QE (blk X N' scope cl C fp s H) elt fe) (hs:∀ x,foldedSetIterable iter X.env x=pure x:=by intro _;rfl):QL X (.ListComp elt [⟨tg,iter,ifs,0⟩] scope pos) (Z.zcu it n is G t fe):=⟨ZS.zcp (hcalm:=hcalm) (hi:=hi.p) (B:=B) (hG:=hG) (hg:=fun y0 y1 y2 y3 y4 y5=>(hg y0 y1 y2 y3 y4 y5).p) (ht:=fun y0 y1 y2 y3 y4=>(ht y0 y1 y2 y3 y4).p) (he:=fun y0 y1 y2 y3 y4=>(he y0 y1 y2 y3 y4).p) (hs:=hs)⟩
theorem zel {H0:Hp} {it:Z.LF} {G:Z.GF} {t:Z.TF} {fe:Z.EF} {i:Nat} {x:Str} {px spos:Pos} (hcalm:X.calm=true) (hN:X.N.Nodup) (hix:X.N[i]?=some x) (hx:Loc X.env.scope x) (hi:QI X tg iter it) (B:Blk X.N N' n is scope X.env.scope) (hG:∀ d ρ ρ1,G d ρ=.ok ρ1→ρ1.length=ρ.length∧∀ i,n≤i→ρ1[i]?=ρ[i]?) (hg:∀ cl C fp s H H0,QG (blk X N' scope cl C fp s H) H0 tg G) (ht:∀ cl C fp s H,QTst (blk X N' scope cl C fp s H) ifs t) (he:∀ cl C fp s H,QE (blk X N' scope cl C fp s H) elt fe) (hsw:swapsWith (.ListComp elt [⟨tg,iter,ifs,0⟩] scope pos) (some (.Name x px)) spos.line X.env=pure true:=by rfl) (hs:∀ x,foldedSetIterable iter X.env x=pure x:=by intro _;rfl) (hf:X.fn x=true∨X.env.scope.names.lookup x=some .local:=by first | exact .inl rfl | exact .inr rfl | assumption):QS X H0 (.Assign [.Name x px] (.ListComp elt [⟨tg,iter,ifs,0⟩] scope pos) spos) (Z.zbj i (Z.eL (Z.zcu it n is G t fe))):=⟨ZS.zel (hcalm:=hcalm) (hN:=hN) (hix:=hix) (hx:=hx) (hi:=hi.p) (B:=B) (hG:=hG) (hg:=fun y0 y1 y2 y3 y4 y5=>(hg y0 y1 y2 y3 y4 y5).p) (ht:=fun y0 y1 y2 y3 y4=>(ht y0 y1 y2 y3 y4).p) (he:=fun y0 y1 y2 y3 y4=>(he y0 y1 y2 y3 y4).p) (hsw:=hsw) (hs:=hs) (hf:=hf)⟩
theorem zdi  : QTst X [] Z.zdA:=⟨ZS.zdi ⟩
theorem zdN {c:Expr} {t:Z.TF} (h:QT X c t):QTst X [c] t:=⟨ZS.zdN (h:=h.p)⟩
theorem zhL {x:Str} {p1:Pos} (hg:Gl X x) (hm:X.mg x=none) (hv:bootBuiltins x=some (.builtin "all")) (ha:QW X a fa) (hc:X.calm=true:=by rfl) (hn:x ≠ "__name__" := by decide +kernel) (hdb:(x==("__debug__" : Str))=false:=by decide +kernel) (he:starEach (a :: []) X.env=(false,eval a X.env) :: starEach [] X.env:=by rfl) (hpl:(backTo pos (starEach [] X.env)).any (·.1)=false:=by rfl):QE X (.Call (.Name x p1) [a] [] pos) (Z.eU Z.zmU fa):=⟨ZS.zhL (hg:=hg) (hm:=hm) (hv:=hv) (ha:=ha.p) (hc:=hc) (hn:=hn) (hdb:=hdb) (he:=he) (hpl:=hpl)⟩
theorem zds {P:Program} {w:World} {K:PySem.W.Frag} {mg:Str→Option Value} {base:Heap} {x:Str} {k:Nat} {st:Stmt} {N ps:List Str} {b:Z.SF} (d:ZS.Def K mg x st ps) (S:FnScope N ps (defScope st))
  (hb:∀ (f:Addr) (cdv:Value) (A:Around) (outer:List PySem.Env) (s:Shared) (H:Hp) (E:XK),Room k (A.deeper (envOfC x (defScope st) s.heap.objs.size f cdv)) →
   QSs (cxOf CX0 P w K mg base N x (defScope st) f cdv A outer s H E).nox H (defBody st) b):ZS.Cal P w K mg base x (k+1) ps (Z.fn ps.length N.length b) :=
 ZS.Cal.mk' d S fun f cdv A outer s H E hr=>(hb f cdv A outer s H E hr).p
theorem fnQ {P:Program} {w:World} {K:PySem.W.Frag} {mg:Str→Option Value} {base:Heap} {x qual:Str} {st:Stmt} {f:Addr} {fd:FuncData} {N ps:List Str} {k:Nat} {b:Z.SF} (F:Fun K x qual st f fd) (S:FnScope N ps (defScope st))
  (hb:∀ (cdv:Value) (A:Around) (outer:List PySem.Env) (s:Shared) (H:Hp) (E:XK),Room k (A.deeper (envOfC qual (defScope st) s.heap.objs.size f cdv)) →
   QSs (cxOf CX0 P w K mg base N qual (defScope st) f cdv A outer s H E).nox H (defBody st) b):FnOk P w K mg base CX0 (k+1) f fd ps (ZS.spZ K (Z.fn ps.length N.length b)) :=
 ZS.fnZ F S fun cdv A outer s H E hr=>(hb cdv A outer s H E hr).p
end
end ZQ
noncomputable section
namespace Z
noncomputable def zc6:D→Res D
 | .lst xs=>.ok (.tup xs)
 | .tup xs=>.ok (.tup xs)
 | _=>.bad
@[simp] theorem zo9 (xs:List D):zc6 (.lst xs)=.ok (.tup xs):=rfl
@[simp] theorem zo8 (xs:List D):zc6 (.tup xs)=.ok (.tup xs):=rfl
noncomputable def zpG:D→D→Res D
 | .int i,.int j=>.ok (.bl (decide (0≤i∧i < j)))
 | _,_=>.bad
@[simp] theorem zpd (i j:Int):zpG (.int i) (.int j)=.ok (.bl (decide (0≤i∧i < j))):=rfl
noncomputable def zl3:D→D→Res D
 | .int i,.int j=>.ok (.bl (!decide (0≤i∧i < j)))
 | _,_=>.bad
@[simp] theorem znh (i j:Int):zl3 (.int i) (.int j)=.ok (.bl (!decide (0≤i∧i < j))):=rfl
noncomputable def letters:List Nat:=[97,98,99,100,101,102,103,104,105,106,107,108,109,110,111,112,113,114,115,116,117,118,119,120,121,122]
noncomputable def signs:List Nat:=[46,61,35,97,98,99,100,101,102,103,104,105,106,107,108,109,110,111,112,113,114,115,116,117,118,119,120,121,122]
noncomputable def zpc:D→D→Res D
 | .int i,.int j=>.ok (.int (max i j))
 | _,_=>.bad
@[simp] theorem zqJ (i j:Int):zpc (.int i) (.int j)=.ok (.int (max i j)):=rfl
noncomputable def ztQ:D→D→Res D
 | .int i,.int j=>.ok (.int (min i j))
 | _,_=>.bad
@[simp] theorem zqI (i j:Int):ztQ (.int i) (.int j)=.ok (.int (min i j)):=rfl
noncomputable def znR:D→Res D
 | .int i=>.ok (.int i)
 | .bl b=>.ok (.int (if b then 1 else 0))
 | _=>.bad
@[simp] theorem zqP (i:Int):znR (.int i)=.ok (.int i):=rfl
@[simp] theorem zrQ (b:Bool):znR (.bl b)=.ok (.int (if b then 1 else 0)):=rfl
noncomputable def lOf (a:EF) (ρ:Env):Res (List D):=(a ρ).bind fun x=>match x with
 | .lst xs=>.ok xs
 | .tup xs=>.ok xs
 | _=>.bad
noncomputable def zoI:D→Res (List D)
 | .lst xs=>.ok xs
 | .tup xs=>.ok xs
 | _=>.bad
@[simp] theorem ztU (a:EF) (ρ:Env):lOf a ρ=(a ρ).bind zoI:=rfl
@[simp] theorem zpM (xs:List D):zoI (.lst xs)=.ok xs:=rfl
@[simp] theorem zpL (xs:List D):zoI (.tup xs)=.ok xs:=rfl
noncomputable def zky (x:D):List D→Option Nat
 | []=>some 0
 | y :: r=>match eqD y x,zky x r with
  | some a,some b=>some (b+(if a then 1 else 0))
  | _,_=>none
noncomputable def ziS:D→D→Res D
 | .lst ys,x=>match zky x ys with
  | some n=>.ok (.int n)
  | none=>.bad
 | _,_=>.bad
noncomputable def znI:List D→Option Int
 | []=>some 0
 | .int i :: r=>(znI r).map (i+·)
 | _ :: _=>none
noncomputable def zpa:D→Res D
 | .lst xs=>match znI xs with
  | some i=>.ok (.int i)
  | none=>.bad
 | _=>.bad
theorem ziD:∀ (ns:List Int),znI (ns.map D.int)=some ns.sum
 | []=>rfl
 | n :: ns=>by simp [znI,ziD ns]
noncomputable def zpo (i:Nat) (l:LF) (ρ:Env):Res Fl:=(l ρ).bind fun ys=>match ρ[i]? with
 | some (some (.own xs))=>guard (xs.length+ys.length≤line) (.ok (.nx (ρ.set i (some (.own (xs++ys))))))
 | _=>.bad
noncomputable def pair (a b:D):D:=.tup [a,b]
noncomputable def zoR (k:Nat):List D→List D
 | []=>[]
 | d :: ds=>pair (.int k) d :: zoR (k+1) ds
noncomputable def zeI:List D→List D→List D
 | a :: as,b :: bs=>pair a b :: zeI as bs
 | _,_=>[]
noncomputable def zsf (a:EF) (ρ:Env):Res (List D):=(a ρ).bind fun x=>(zh8 x).bind fun ds=>.ok (zoR 0 ds)
@[simp] theorem zse (a:EF) (ρ:Env):zsf a ρ=(a ρ).bind fun x=>(zh8 x).bind fun ds=>.ok (zoR 0 ds):=rfl
noncomputable def zqw:D→Res (List D)
 | .tup xs=>.ok xs
 | .lst xs=>.ok xs
 | _=>.bad
@[simp] theorem zqu (xs:List D):zqw (.tup xs)=.ok xs:=rfl
@[simp] theorem zqv (xs:List D):zqw (.lst xs)=.ok xs:=rfl
noncomputable def zrf:D→Res (List D)
 | .tup xs=>.ok xs
 | _=>.bad
@[simp] theorem zqt (xs:List D):zrf (.tup xs)=.ok xs:=rfl
noncomputable def zoP (a b:EF) (ρ:Env):Res (List D):=(a ρ).bind fun x=>(b ρ).bind fun y=>(zqw x).bind fun xs=>(zrf y).bind fun ys=>.ok (zeI xs ys)
@[simp] theorem zth (a b:EF) (ρ:Env):zoP a b ρ=(a ρ).bind fun x=>(b ρ).bind fun y=>(zqw x).bind fun xs=>(zrf y).bind fun ys=>.ok (zeI xs ys):=rfl
end Z
end
namespace ZS
open PySem PySem.Spec PyProof.Rows L2
section
variable {X:Cx} {e a b:Expr} {es:List Expr} {pos p:Pos} {f fa fb:Z.EF}
theorem zcG {x:Str} {p1:Pos} (hg:Gl X x) (hm:X.mg x=none) (hv:bootBuiltins x=some (.type "tuple")) (ha:DW X a fa) (hn:x ≠ "__name__" := by decide +kernel) (hdb:(x==("__debug__" : Str))=false:=by decide +kernel)
  (he:starEach (a :: []) X.env=(false,eval a X.env) :: starEach [] X.env:=by rfl) (hpl:(backTo pos (starEach [] X.env)).any (·.1)=false:=by rfl):DE X (.Call (.Name x p1) [a] [] pos) (Z.eU Z.zc6 fa) :=
 PE.imp (pe_callTy ziw hg hm hv (pa_cons ha pa_nil he) hn hdb he hpl) fun σ H Q ⟨ρ,d,r,e,k⟩=>by
  obtain ⟨x,ea,e⟩:=Z.Res.bind_ok e
  refine ⟨ρ,x,r,ea,fun v H1 s1 d1=>?_⟩
  unfold Z.zc6 at e
  split at e
  ·cases e
   obtain ⟨q,vs,rfl,hq,t⟩:=d1.lst
   refine ⟨q,vs,rfl,.inl ⟨hq,fun l hl=>?_⟩⟩
   have s2:Same H1 (upd H1 l (.tup vs)):=zb0 hl
   exact k _ _ (s1.trans s2) (zdr (.inl (.inl upd_same)) (t.up s2))
  ·cases e
   obtain ⟨q,vs,rfl,hq,t⟩:=d1.tup
   exact ⟨q,vs,rfl,.inr ⟨hq,k _ H1 s1 (zdr hq t)⟩⟩
  ·cases e
end
end ZS
namespace ZQ
open PySem PySem.Spec PyProof.Rows L2 ZS
section
variable {X:Cx} {tg e a b c:Expr} {es:List Expr} {pos p:Pos} {f fa fb fc:Z.EF} {H0:Hp}
theorem zcG {x:Str} {p1:Pos} (hg:Gl X x) (hm:X.mg x=none) (hv:bootBuiltins x=some (.type "tuple")) (ha:QW X a fa) (hn:x ≠ "__name__" := by decide +kernel) (hdb:(x==("__debug__" : Str))=false:=by decide +kernel) (he:starEach (a :: []) X.env=(false,eval a X.env) :: starEach [] X.env:=by rfl) (hpl:(backTo pos (starEach [] X.env)).any (·.1)=false:=by rfl):QE X (.Call (.Name x p1) [a] [] pos) (Z.eU Z.zc6 fa):=⟨ZS.zcG (hg:=hg) (hm:=hm) (hv:=hv) (ha:=ha.p) (hn:=hn) (hdb:=hdb) (he:=he) (hpl:=hpl)⟩
theorem zeT {i:Nat} {o:Expr} {p1 p2:Pos} (ho:PE X o (tVar i)) (ha:QE X a fa) (hs:swapsWith (.Call (.Attribute o "append" p1) [a] [] p2) none pos.line X.env=pure false:=by rfl) (hs1:starEach (a :: []) X.env=(false,eval a X.env) :: starEach [] X.env:=by rfl)
  (hbase:attributeBase o "append" X.env (eval o X.env)=eval o X.env:=by rfl)
  (hfew:((backTo p2 (starEach (a :: []) X.env)).all (fun x=>!x.1)&&(backToKw p2 (keywordEach [] X.env)).all (fun x=>x.1.isSome)
   && decide ((a :: []).length+([]:List Keyword).length+(if ([]:List Keyword).isEmpty then 0 else 1) < 30))=true:=by rfl)
  (hline:(p1.endLine==p2.line)=true:=by rfl) (hplain:(backTo p2 (starEach [] X.env)).any (·.1)=false:=by rfl) :
  QS X H0 (.Expr (.Call (.Attribute o "append" p1) [a] [] p2) pos) (Z.zco i fa) :=
 ⟨ZS.zms ho ha.p hs hs1 (zlX PySem.F.plainAttrs_list PySem.F.slot_list_append PySem.F.type_list_append ziT ho (pa_cons ha.p pa_nil hs1) hbase hfew hline hs1 hplain)⟩
end
end ZQ
namespace ZS
open PySem PySem.Spec PyProof.Rows L2
section
variable {X:Cx} {e a b:Expr} {es:List Expr} {pos p:Pos} {f fa fb:Z.EF}
theorem zpK (i j:Int):(if j > i then j else i)=max i j:=by split<;>lia
theorem zis {x:Str} {p1:Pos} (hg:Gl X x) (hm:X.mg x=none) (hv:bootBuiltins x=some (.builtin "max")) (ha:DW X a fa) (hb:DW X b fb) (hc:X.calm=true:=by rfl) (hn:x ≠ "__name__" := by decide +kernel) (hdb:(x==("__debug__" : Str))=false:=by decide +kernel)
  (he:starEach (a :: [b]) X.env=(false,eval a X.env) :: starEach [b] X.env:=by rfl) (he2:starEach (b :: []) X.env=(false,eval b X.env) :: starEach [] X.env:=by rfl) (hpl:(backTo pos (starEach [b] X.env)).any (·.1)=false:=by rfl):DE X (.Call (.Name x p1) [a,b] [] pos) (Z.eB Z.zpc fa fb) :=
 PE.imp (pe_callB (call_max2 hc) hg hm hv (pa_cons ha (pa_cons hb pa_nil he2) he) hn hdb he hpl) fun σ H Q ⟨ρ,d,r,e,k⟩=>by
  obtain ⟨x,ea,e⟩:=Z.Res.bind_ok e
  obtain ⟨y,eb,e⟩:=Z.Res.bind_ok e
  refine ⟨ρ,x,r,ea,fun v H1 s1 d1=>⟨ρ,y,r.up s1,eb,fun u H2 s2 d2=>?_⟩⟩
  obtain ⟨i,j,rfl,rfl,rfl⟩:∃ i j,x=.int i∧y=.int j∧d=.int (max i j):=by
   unfold Z.zpc at e
   split at e
   ·cases e;exact ⟨_,_,rfl,rfl,rfl⟩
   ·cases e
  refine ⟨i,j,by rw [d1.int,d2.int],?_⟩
  rw [zpK]
  exact k _ H2 (s1.trans s2) zb4
theorem zkv {x:Str} {p1:Pos} (hg:Gl X x) (hm:X.mg x=none) (hv:bootBuiltins x=some (.type "int")) (ha:DW X a fa) (hn:x ≠ "__name__" := by decide +kernel) (hdb:(x==("__debug__" : Str))=false:=by decide +kernel)
  (he:starEach (a :: []) X.env=(false,eval a X.env) :: starEach [] X.env:=by rfl) (hpl:(backTo pos (starEach [] X.env)).any (·.1)=false:=by rfl):DE X (.Call (.Name x p1) [a] [] pos) (Z.eU Z.znR fa) :=
 PE.imp (pe_callTy call_int1 hg hm hv (pa_cons ha pa_nil he) hn hdb he hpl) fun σ H Q ⟨ρ,d,r,e,k⟩=>by
  obtain ⟨x,ea,e⟩:=Z.Res.bind_ok e
  refine ⟨ρ,x,r,ea,fun v H1 s1 d1=>?_⟩
  unfold Z.znR at e
  split at e
  ·cases e;exact .inl ⟨_,by rw [d1.int],k _ H1 s1 zb4⟩
  ·cases e;exact .inr ⟨_,by rw [d1.bl],k _ H1 s1 zb4⟩
  ·cases e
theorem zkn {x:Str} {p1:Pos} (hg:Gl X x) (hm:X.mg x=none) (hv:bootBuiltins x=some (.type "list")) (ha:DW X a fa) (hn:x ≠ "__name__" := by decide +kernel) (hdb:(x==("__debug__" : Str))=false:=by decide +kernel)
  (he:starEach (a :: []) X.env=(false,eval a X.env) :: starEach [] X.env:=by rfl) (hpl:(backTo pos (starEach [] X.env)).any (·.1)=false:=by rfl):DL X (.Call (.Name x p1) [a] [] pos) (Z.lOf fa) :=
 PE.imp (pe_callTy zjj hg hm hv (pa_cons ha pa_nil he) hn hdb he hpl) fun σ H Q ⟨ρ,d,r,e,k⟩=>by
  obtain ⟨x,ea,e⟩:=Z.Res.bind_ok e
  refine ⟨ρ,x,r,ea,fun v H1 s1 d1=>?_⟩
  split at e
  ·cases e
   obtain ⟨q,vs,rfl,hq,t⟩:=d1.lst
   refine ⟨q,vs,rfl,.inl hq,fun l hl=>?_⟩
   have s2:Same H1 (upd H1 l (.lst vs)):=zb0 hl
   exact k l _ _ (s1.trans s2) (s1.free hl) upd_same (t.up s2)
  ·cases e
   obtain ⟨q,vs,rfl,hq,t⟩:=d1.tup
   refine ⟨q,vs,rfl,.inr hq,fun l hl=>?_⟩
   have s2:Same H1 (upd H1 l (.lst vs)):=zb0 hl
   exact k l _ _ (s1.trans s2) (s1.free hl) upd_same (t.up s2)
  ·cases e
theorem zmq {i:Nat} {o:Expr} {p1 p2:Pos} {l:Z.LF} {H0:Hp} (hs:swapsWith (.Call (.Attribute o "extend" p1) [a] [] p2) none pos.line X.env=pure false:=by rfl)
  (hbm:PE X (.Call (.Attribute o "extend" p1) [a] [] p2) (tBM X.K "list" zlU (tVar i) (tCons (tZl X.K l) tNil))) :
  DS X H0 (.Expr (.Call (.Attribute o "extend" p1) [a] [] p2) pos) (Z.zpo i l):=PS.imp (ps_expr hbm hs) fun D σ H ⟨ρ,fl,rs,e,k⟩=>by
 obtain ⟨ys,ea,e⟩:=Z.Res.bind_ok e
 split at e
 ·rename_i xs ei
  unfold Z.guard at e
  split at e
  ·rename_i hl
   cases e
   obtain ⟨v,si,q,us,rfl,hq,t⟩:=rs.re.get i _ ei
   refine ⟨.ref q,si,.inl ⟨rfl,us,SqL.of hq⟩,ρ,ys,rs.re,ea,fun c vs H1 s1 hn hc tc=>?_⟩
   have hq1:H1 q=some (.lst us):=s1 _ _ hq
   refine ⟨q,c,us,vs,rfl,rfl,hq1,hc,by rw [t.length,tc.length,sizeLine_eq];exact hl,?_⟩
   exact k σ _ ((stb s1).trans (zex hq1)) ((rs.up s1).chg ei si hq1 ((t.up s1).append tc))
  ·cases e
 ·cases e
theorem zk6 {x:Z.D}:∀ {ys:List Z.D} {k:Nat},Z.zky x ys=some k→k=ys.countP (fun y=>(Z.eqD y x).getD false)∧∀ y∈ys,Z.eqD y x=some ((Z.eqD y x).getD false)
 | [],k,h=>by cases h;exact ⟨rfl,fun y hy=>by cases hy⟩
 | y :: ys,k,h=>by
  unfold Z.zky at h
  split at h
  ·rename_i a b ea eb
   cases h
   obtain ⟨h1,h2⟩:=zk6 eb
   refine ⟨by rw [List.countP_cons,ea,h1];rfl,fun z hz=>?_⟩
   rcases List.mem_cons.mp hz with rfl | hz
   ·rw [ea];rfl
   ·exact h2 z hz
  ·cases h
theorem zo1 {pins:List (Addr×Obj)} {σ:St} {H:Hp} {s:Shared} (I:Inv X pins σ H s) {A:Around} (hu:A.units+60 < cLine) {x:Z.D} {v:V} {u:Value} (hx:zcv X.K H x v) (rx:RelV v u) {ys:List Z.D} {vs:List V} {us:List Value} (t:zaE X.K H ys vs) (r:Vals vs us) (hh:∀ y∈ys,Z.eqD y x=some ((Z.eqD y x).getD false)) :
  ∃ e:Value→Bool,(∀ w∈us,SeqAt.EqAt A s w u (e w))∧us.countP e=ys.countP (fun y=>(Z.eqD y x).getD false):=by
 classical
 let e:Value→Bool:=fun w=>if h:∃ y vy,Den X.K H y vy∧RelV vy w∧y∈ys then (Z.eqD h.choose x).getD false else false
 have he:∀ w y vy,Den X.K H y vy→RelV vy w→y∈ys→e w=(Z.eqD y x).getD false:=by
  intro w y vy dy ry hy
  have hex:∃ y vy,Den X.K H y vy∧RelV vy w∧y∈ys:=⟨y,vy,dy,ry,hy⟩
  show (if h:_ then _ else _)=_
  rw [dif_pos hex]
  obtain ⟨vy',dy',ry',hy'⟩:=hex.choose_spec
  have ev:vy'=vy:=ry'.inj ry
  subst ev
  rw [Den.inj I _ _ _ dy' dy]
 have cnt:∀ {zs:List Z.D} {vs:List V} {us:List Value},zaE X.K H zs vs→Vals vs us→(∀ z∈zs,z∈ys)→us.countP e=zs.countP (fun y=>(Z.eqD y x).getD false):=by
  intro zs
  induction zs with
  | nil=>intro vs us t r _;simp only [zaE] at t;subst t;cases r;rfl
  | cons z zs ih =>
   intro vs us t r hm
   simp only [zaE] at t
   obtain ⟨vy,vr,rfl,dy,tr⟩:=t
   cases r with
   | cons ry rr=>rw [List.countP_cons,List.countP_cons,ih tr rr (fun w hw=>hm w (List.mem_cons_of_mem _ hw)),he _ z vy dy ry (hm z List.mem_cons_self)]
 refine ⟨e,fun w hw=>?_,cnt t r fun _ h=>h⟩
 obtain ⟨j,hj,ej⟩:=List.getElem_of_mem hw
 have hl:=r.length
 have ht:=t.length
 obtain ⟨y,ey⟩:∃ y,ys[j]?=some y:=⟨ys[j]'(by lia),List.getElem?_eq_getElem (by lia)⟩
 obtain ⟨vy,evy,dy⟩:=t.get ey
 obtain ⟨u',eu',ru'⟩:=r.get evy
 have:u'=w:=by
  have:=List.getElem?_eq_getElem hj
  rw [eu',ej] at this;exact Option.some.inj this
 subst this
 have hy:y∈ys:=List.mem_of_getElem? ey
 rw [he _ y vy dy ru' hy]
 exact (rcN I 6 (A:=A) (by lia) (hh y hy) (.inl dy) hx ru' rx).2.1
def zpx (K:PySem.W.Frag):V→List V→Hp→VK→Prop:=fun x vs H Q=>∃ d ys q us v k,x=.ref q∧vs=[v]∧SqL K H q us∧zaE K H ys us∧zcv K H d v∧Z.zky d ys=some k∧Q (.int k) H
theorem znq (hu:X.A.units+64 < cLine):MtR X "list.count" (zpx X.K):=by
 intro pins s σ H x vs v us Q I rx rv h
 obtain ⟨d,ys,q,us',v',k,rfl,rfl,hq,t,hd,e,k'⟩:=h
 cases rx
 obtain ⟨u,rfl,ru⟩:=rv.one
 obtain ⟨e1,e2⟩:=zk6 e
 subst e1
 obtain ⟨its,r,pl,hz⟩:=I.list hq
 obtain ⟨f,hf,hfa⟩:=zo1 I (A:=X.A.in1) (show X.A.units+1+60 < cLine by lia) hd ru t r e2
 obtain ⟨⟨cls,dd,data,sl⟩,ho,hc,n,hd'⟩:=id pl.isList
 simp only at hc hd'
 subst hc hd'
 refine call_meets F.slot_list_count ⟨_,ho,rfl⟩ F.entry_list_count (F.args_list_count_2 _ _) (SeqAt.list_countAt q its.toArray n dd sl u f) ⟨ho,fun w hw=>hf w (by simpa using hw),?_⟩
 refine ⟨.int _,H,I.tok _,⟨_,rfl⟩,?_⟩
 show Q (.int ((its.countP f:Nat):Int)) H
 rw [hfa]
 exact k'
theorem zit {o : Expr} {p1 p2 : Pos} (hu : X.A.units + 64 < cLine) (ho : DW X o fa) (hb : DW X b fb)
  (hbase:attributeBase o "count" X.env (eval o X.env)=eval o X.env:=by rfl)
  (hfew:((backTo p2 (starEach (b :: []) X.env)).all (fun x=>!x.1)&&(backToKw p2 (keywordEach [] X.env)).all (fun x=>x.1.isSome)
   && decide ((b :: []).length+([]:List Keyword).length+(if ([]:List Keyword).isEmpty then 0 else 1) < 30))=true:=by rfl)
  (hline:(p1.endLine==p2.line)=true:=by rfl) (hs1:starEach (b :: []) X.env=(false,eval b X.env) :: starEach [] X.env:=by rfl) (hplain:(backTo p2 (starEach [] X.env)).any (·.1)=false:=by rfl) :
  DE X (.Call (.Attribute o "count" p1) [b] [] p2) (Z.eB Z.ziS fa fb) :=
 PE.imp (zlX PySem.F.plainAttrs_list PySem.F.slot_list_count PySem.F.type_list_count (znq hu) ho (pa_cons hb pa_nil hs1) hbase hfew hline hs1 hplain) fun σ H Q ⟨ρ,d,r,e,k⟩=>by
  obtain ⟨x,ea,e⟩:=Z.Res.bind_ok e
  obtain ⟨y,eb,e⟩:=Z.Res.bind_ok e
  refine ⟨ρ,x,r,ea,fun v H1 s1 d1=>?_⟩
  unfold Z.ziS at e
  split at e
  ·rename_i ys _
   split at e
   ·rename_i n hn
    cases e
    obtain ⟨q,vs,rfl,hq,t⟩:=d1.lst
    refine ⟨.inl ⟨rfl,vs,hq⟩,ρ,y,r.up s1,eb,fun u H2 s2 d2=>?_⟩
    exact ⟨y,ys,q,vs,u,n,rfl,rfl,s2.seq hq,t.up s2,d2,hn,k _ H2 (s1.trans s2) zb4⟩
   ·cases e
  ·cases e
theorem zlL : ∀ {xs : List Z.D} {k : Int}, Z.znI xs = some k → ∃ ns : List Int, xs = ns.map Z.D.int ∧ k = ns.sum
 | [],k,h=>by cases h;exact ⟨[],rfl,rfl⟩
 | x :: xs,k,h=>by
  cases x with
  | int b =>
   have h':(Z.znI xs).map (b+·)=some k:=h
   cases q:Z.znI xs with
   | none=>rw [q] at h';cases h'
   | some k' =>
    rw [q] at h'
    cases h'
    obtain ⟨bs,rfl,rfl⟩:=zlL q
    exact ⟨b :: bs,rfl,rfl⟩
  | non=>cases h
  | bl _=>cases h
  | str _=>cases h
  | tup _=>cases h
  | lst _=>cases h
  | dct _ _=>cases h
theorem zfv {K:PySem.W.Frag} {H:Hp}:∀ {ns:List Int} {vs:List V},zaE K H (ns.map Z.D.int) vs→vs=ns.map V.int
 | [],vs,h=>by simp only [List.map_nil,zaE] at h;subst h;rfl
 | b :: bs,vs,h=>by
  simp only [List.map_cons,zaE] at h
  obtain ⟨v,r,rfl,hv,ht⟩:=h
  simp only [Den] at hv
  rw [hv,zfv ht];rfl
theorem zol (ns : List Int) : preSum (fun i => ns[i]?.getD 0) ns.length = ns.sum := by
 have key:∀ k,k≤ns.length→preSum (fun i=>ns[i]?.getD 0) k=(ns.take k).sum:=by
  intro k
  induction k with
  | zero=>intro _;simp [preSum]
  | succ k ih =>
   intro hk
   have e:preSum (fun i=>ns[i]?.getD 0) (k+1)=preSum (fun i=>ns[i]?.getD 0) k+ns[k]?.getD 0:=rfl
   have hsum:∀ (xs ys:List Int),(xs++ys).sum=xs.sum+ys.sum:=fun xs ys=>by
    induction xs with
    | nil=>simp
    | cons x xs ih=>simp only [List.cons_append,List.sum_cons,ih];lia
   rw [e,ih (by lia),List.take_add_one,hsum,List.getElem?_eq_getElem (show k < ns.length by lia)]
   simp
 have:=key ns.length (Nat.le_refl _)
 rwa [List.take_length] at this
theorem zmG (hc:X.calm=true):CallR X (.builtin "sum") (fun xs H Q=>∃ (q:Addr) (ns:List Int),xs=[.ref q]∧SqL X.K H q (ns.map V.int)∧Q (.int ns.sum) H):=by
 intro pins s σ H xs us Q I r h
 obtain ⟨q,ns,rfl,hq,k⟩:=h
 obtain ⟨u,rfl,ru⟩:=vals1 r
 cases ru
 obtain ⟨its,rv,pl,hz⟩:=I.list hq
 have hl:=rv.length
 rw [List.length_map] at hl
 have hlt:q < s.heap.objs.size:=by obtain ⟨_,e,_⟩:=pl.isList;exact Heap.lt_size e
 have hh:X.A.in1.handled=none:=I.ok.hd hc
 refine call_sum_walkG (wpAny_pyIter_list pl.isList ?_)
 refine ⟨s.heap.objs.size,[s.heap.objs.size,q],[s.heap.objs.size],its.toArray.size,_,_,fun i=>ns[i]?.getD 0,rfl,Walks.list hh s.heap.objs.size q (Nat.ne_of_lt hlt) its.toArray,⟨⟨_,Heap.get?_push_size _ rfl,rfl,rfl⟩,pl.isList.push _⟩,?_,?_,fun h' tk t' hk=>?_⟩
 ·intro b hb
  show b < (s.heap.push _).objs.size
  rw [Heap.size_push]
  rcases List.mem_cons.mp hb with rfl | hb
  ·exact Nat.lt_succ_self _
  ·rw [List.mem_singleton.mp hb];exact Nat.lt_succ_of_lt hlt
 ·intro i v hv
  have hi:its[i]?=some v:=by simpa using hv
  obtain ⟨hi1,_⟩:=List.getElem?_eq_some_iff.mp hi
  have hb:(ns.map V.int)[i]?=some (V.int (ns[i]'(by lia))):=by
   rw [List.getElem?_map,List.getElem?_eq_getElem (by lia)];rfl
  obtain ⟨u,hu,ru⟩:=rv.get hb
  rw [hi] at hu;cases hu
  obtain ⟨t,rfl⟩:=ru
  exact ⟨t,by show Value.int _ t=Value.int (ns[i]?.getD 0) t;rw [List.getElem?_eq_getElem (by lia)];rfl⟩
 ·have I1:Inv X pins σ H { s with heap:=s.heap.push { cls:=.type "list_iterator",data:=.fields #[.ref q,.int 0 0] } }:=I.kept (t':=s.toks) fun b o e=>Heap.get?_push_of_some _ e
  obtain ⟨f0,f1,f2,f3,f4,f5⟩:=I.fpOk (H':=H) (Nat.le_refl s.heap.objs.size) I.fresh
  have I2:=I1.turned (h':=h') (t':=tk) (it:=s.heap.objs.size) (fun b o hb e=>hk b o (by simpa using hb) e) f0 f1 f3 f4 f5
  refine ⟨.int _,H,I2,⟨t',rfl⟩,?_⟩
  rw [List.size_toArray,←hl,zol]
  exact k
theorem zk2 {x : Str} {p1 : Pos} (hg : Gl X x) (hm : X.mg x = none) (hv : bootBuiltins x = some (.builtin "sum")) (ha : DW X a fa) (hc : X.calm = true := by rfl) (hn : x ≠ "__name__" := by decide +kernel) (hdb : (x == ("__debug__" : Str)) = false := by decide +kernel)
  (he:starEach (a :: []) X.env=(false,eval a X.env) :: starEach [] X.env:=by rfl) (hpl:(backTo pos (starEach [] X.env)).any (·.1)=false:=by rfl):DE X (.Call (.Name x p1) [a] [] pos) (Z.eU Z.zpa fa) :=
 PE.imp (pe_callB (zmG hc) hg hm hv (pa_cons ha pa_nil he) hn hdb he hpl) fun σ H Q ⟨ρ,d,r,e,k⟩=>by
  obtain ⟨x,ea,e⟩:=Z.Res.bind_ok e
  refine ⟨ρ,x,r,ea,fun v H1 s1 d1=>?_⟩
  unfold Z.zpa at e
  split at e
  ·split at e
   ·rename_i xs k' hk
    cases e
    obtain ⟨bs,rfl,rfl⟩:=zlL hk
    obtain ⟨q,vs,rfl,hq,t⟩:=d1.lst
    rw [zfv t] at hq
    exact ⟨q,bs,rfl,hq,k _ H1 s1 zb4⟩
   ·cases e
  ·cases e
end
end ZS
namespace ZQ
open PySem PySem.Spec PyProof.Rows L2 ZS
section
variable {X:Cx} {tg e a b c:Expr} {es:List Expr} {pos p:Pos} {f fa fb fc:Z.EF} {H0:Hp}
theorem zis {x:Str} {p1:Pos} (hg:Gl X x) (hm:X.mg x=none) (hv:bootBuiltins x=some (.builtin "max")) (ha:QW X a fa) (hb:QW X b fb) (hc:X.calm=true:=by rfl) (hn:x ≠ "__name__" := by decide +kernel) (hdb:(x==("__debug__" : Str))=false:=by decide +kernel) (he:starEach (a :: [b]) X.env=(false,eval a X.env) :: starEach [b] X.env:=by rfl) (he2:starEach (b :: []) X.env=(false,eval b X.env) :: starEach [] X.env:=by rfl) (hpl:(backTo pos (starEach [b] X.env)).any (·.1)=false:=by rfl):QE X (.Call (.Name x p1) [a,b] [] pos) (Z.eB Z.zpc fa fb):=⟨ZS.zis (hg:=hg) (hm:=hm) (hv:=hv) (ha:=ha.p) (hb:=hb.p) (hc:=hc) (hn:=hn) (hdb:=hdb) (he:=he) (he2:=he2) (hpl:=hpl)⟩
theorem zkv {x:Str} {p1:Pos} (hg:Gl X x) (hm:X.mg x=none) (hv:bootBuiltins x=some (.type "int")) (ha:QW X a fa) (hn:x ≠ "__name__" := by decide +kernel) (hdb:(x==("__debug__" : Str))=false:=by decide +kernel) (he:starEach (a :: []) X.env=(false,eval a X.env) :: starEach [] X.env:=by rfl) (hpl:(backTo pos (starEach [] X.env)).any (·.1)=false:=by rfl):QE X (.Call (.Name x p1) [a] [] pos) (Z.eU Z.znR fa):=⟨ZS.zkv (hg:=hg) (hm:=hm) (hv:=hv) (ha:=ha.p) (hn:=hn) (hdb:=hdb) (he:=he) (hpl:=hpl)⟩
theorem zkn {x:Str} {p1:Pos} (hg:Gl X x) (hm:X.mg x=none) (hv:bootBuiltins x=some (.type "list")) (ha:QW X a fa) (hn:x ≠ "__name__" := by decide +kernel) (hdb:(x==("__debug__" : Str))=false:=by decide +kernel) (he:starEach (a :: []) X.env=(false,eval a X.env) :: starEach [] X.env:=by rfl) (hpl:(backTo pos (starEach [] X.env)).any (·.1)=false:=by rfl):QL X (.Call (.Name x p1) [a] [] pos) (Z.lOf fa):=⟨ZS.zkn (hg:=hg) (hm:=hm) (hv:=hv) (ha:=ha.p) (hn:=hn) (hdb:=hdb) (he:=he) (hpl:=hpl)⟩
theorem zit {o:Expr} {p1 p2:Pos} (hu:X.A.units+64 < cLine) (ho:QW X o fa) (hb:QW X b fb) (hbase:attributeBase o "count" X.env (eval o X.env)=eval o X.env:=by rfl) (hfew:((backTo p2 (starEach (b :: []) X.env)).all (fun x=>!x.1)&&(backToKw p2 (keywordEach [] X.env)).all (fun x=>x.1.isSome)
   && decide ((b :: []).length+([]:List Keyword).length+(if ([]:List Keyword).isEmpty then 0 else 1) < 30))=true:=by rfl) (hline:(p1.endLine==p2.line)=true:=by rfl) (hs1:starEach (b :: []) X.env=(false,eval b X.env) :: starEach [] X.env:=by rfl) (hplain:(backTo p2 (starEach [] X.env)).any (·.1)=false:=by rfl):QE X (.Call (.Attribute o "count" p1) [b] [] p2) (Z.eB Z.ziS fa fb):=⟨ZS.zit (hu:=hu) (ho:=ho.p) (hb:=hb.p) (hbase:=hbase) (hfew:=hfew) (hline:=hline) (hs1:=hs1) (hplain:=hplain)⟩
theorem zk2 {x:Str} {p1:Pos} (hg:Gl X x) (hm:X.mg x=none) (hv:bootBuiltins x=some (.builtin "sum")) (ha:QW X a fa) (hc:X.calm=true:=by rfl) (hn:x ≠ "__name__" := by decide +kernel) (hdb:(x==("__debug__" : Str))=false:=by decide +kernel) (he:starEach (a :: []) X.env=(false,eval a X.env) :: starEach [] X.env:=by rfl) (hpl:(backTo pos (starEach [] X.env)).any (·.1)=false:=by rfl):QE X (.Call (.Name x p1) [a] [] pos) (Z.eU Z.zpa fa):=⟨ZS.zk2 (hg:=hg) (hm:=hm) (hv:=hv) (ha:=ha.p) (hc:=hc) (hn:=hn) (hdb:=hdb) (he:=he) (hpl:=hpl)⟩
theorem zn0 {i:Nat} {o:Expr} {p1 p2:Pos} {l:Z.LF} (ho:PE X o (tVar i)) (ha:QL X a l) (hs:swapsWith (.Call (.Attribute o "extend" p1) [a] [] p2) none pos.line X.env=pure false:=by rfl) (hs1:starEach (a :: []) X.env=(false,eval a X.env) :: starEach [] X.env:=by rfl)
  (hbase:attributeBase o "extend" X.env (eval o X.env)=eval o X.env:=by rfl)
  (hfew:((backTo p2 (starEach (a :: []) X.env)).all (fun x=>!x.1)&&(backToKw p2 (keywordEach [] X.env)).all (fun x=>x.1.isSome)
   && decide ((a :: []).length+([]:List Keyword).length+(if ([]:List Keyword).isEmpty then 0 else 1) < 30))=true:=by rfl)
  (hline:(p1.endLine==p2.line)=true:=by rfl) (hplain:(backTo p2 (starEach [] X.env)).any (·.1)=false:=by rfl) :
  QS X H0 (.Expr (.Call (.Attribute o "extend" p1) [a] [] p2) pos) (Z.zpo i l) :=
 ⟨ZS.zmq hs (zlX PySem.F.plainAttrs_list PySem.F.slot_list_extend PySem.F.type_list_extend zma ho (pa_cons ha.p pa_nil hs1) hbase hfew hline hs1 hplain)⟩
end
end ZQ
namespace ZS
open PySem PySem.Spec PyProof.Rows L2 PySem.W
theorem zgq {i:Int}:∀ {ns:List Int},i∈ns→WData.weight (.int i)≤WData.weightAll (ns.map WData.int)
 | [],h=>by cases h
 | n :: ns,h=>by
  rcases List.mem_cons.mp h with rfl | h
  ·simp only [List.map_cons,WData.weightAll];lia
  ·have:=zgq h
   simp only [List.map_cons,WData.weightAll];lia
theorem zkz {ns:List Int} (h:WData.layableAll [WData.list (ns.map WData.int)]=true):∀ i∈ns,Z.bits i≤2 ^ 20:=by
 intro i hi
 have h1:WData.layable (.list (ns.map WData.int))=true:=List.all_eq_true.mp h _ List.mem_cons_self
 unfold WData.layable at h1
 rw [Bool.and_eq_true] at h1
 have h2:WData.weight (.list (ns.map WData.int))≤2 ^ 20:=of_decide_eq_true h1.2
 have h3:WData.weight (.list (ns.map WData.int))=WData.weightAll (ns.map WData.int):=by simp only [WData.weight]
 have h4:=zgq hi
 have h5:WData.weight (.int i)=Z.bits i:=by
  simp only [WData.weight]
  unfold Z.bits
  by_cases hz:i=0
  ·subst hz;rfl
  ·rw [if_neg hz,if_neg (by simpa using hz)]
 lia
theorem zpi {l : OpenLaw} {n k : Nat} {q : Program} {loose : List Str} {XP : (Str → Option Value) → Heap → Prop} {YP : World → Heap → Prop} {d : DefRec} {K : Params → Frag} {m : List Z.D → Z.Res Z.D} {x : Str}
  (hn:l.most=some n) (hn2:n≤sizeLine) (hdf:d.params.defaults=[]) (hr:Room k callerA)
  (hY:∀ (w:World) (h:Heap),YP w h→(K w.params).In h)
  (F:∀ (w:World) (mg:Str→Option Value) (fa:Addr) (h:Heap),(K w.params).In h→h.Ns mainGlobals mg→mg d.name=some (.ref fa) →
   ∃ fd:FuncData,(∀ (s:Shared) (u:Value),BindsTo s fd ⟨[u],[]⟩ [(x,u)]) ∧
    ∀ base:Heap,(K w.params).In base→base.Ns mainGlobals mg→FnOk l.prog w (K w.params) mg base CX0 k fa fd [x] (spZ (K w.params) m))
  (hold:∀ ns:List Int,ns.length≤n→(∀ i∈ns,Z.bits i≤2 ^ 20)→m [.lst (ns.map .int)]=.ok (.bl true)) :
  WalkO q loose XP YP l.row.toRowW d [] (fun f vs=>PySem.call f vs):=by
 intro w s₀ s₁ mg mb G Y fa o pm cd doc dV kV ho hd hcd hD hmg hg args vals as hpre hlay hrd hwl hlo
 cases Dflts.none hD hdf
 cases Dflts.noKw hD
 obtain ⟨a,vs,ns,rfl,rfl,hobj,hints,hlen⟩:=Att.script_of hn hpre hwl
 have KX:=hY w _ Y
 obtain ⟨fd,hb,hF⟩:=F w mg fa _ KX G.T.g hmg
 have C:=law_call KX G.T.g G.T.b G.T.builtins G.T.nolimit hg hobj hints (Nat.le_trans hlen hn2) hr hF hb (fun H hO hS=>zpN hO hS (hold ns hlen (zkz hlay))) fun H e s' z=>z
 refine enter_call (codeAny_mono C fun r s' hq=>?_)
 obtain ⟨rfl,h2,h3,h4⟩:=hq
 exact ⟨.inl ⟨.bool true,.bool true,[],rfl,fun _=>rfl,.bool true,Att.post_true l _,fun _=>⟨List.Pairwise.nil,fun _ hm=>(nomatch hm)⟩⟩,h2,h3,h4⟩
end ZS
namespace ZS
open PySem PySem.Spec PyProof.Rows L2
section
variable {prog:Program} {w:World} {A:Around} {E:Value→Shared→Prop} {s:Shared}
theorem zlk {it t:Addr} {i:Nat} {items:Array Value} {x:Value} {Q:Value→Shared→Prop} (hit:s.heap.IsTupleIter it t i) (ht:s.heap.IsTuple t items) (hx:items[i]?=some x)
  (hQ:∀ h',h'.IsTupleIter it t (i+1)→Heap.SameBut it s.heap h'→Q x { s with heap:=h' }):wpAny (model prog w) A (Builtin.SmallTypes.nextOf (.ref it)) Q E s:=by
 obtain ⟨ob,hob,hcl,hda⟩:=id hit
 obtain ⟨ot,hot,_,nt,hdt⟩:=ht
 unfold Builtin.SmallTypes.nextOf
 refine wpAny_bind (wpAny_callSpecial?_slot (name:=Str.ofString "__next__") hit.typeIs F.slot_tuple_iterator_next (wpAny_call_entry F.slot_tuple_iterator_next hit.typeIs F.entry_tuple_iterator_next ?_ (F.args_tuple_iterator_next_1 _)))
 show wpAny _ _ (field (.ref it) 0 >>= _) _ _ _
 refine wpAny_bind (wpAny_field hob hda (x:=.ref t) rfl ?_)
 show wpAny _ _ (if (Value.ref t==Value.none)=true then _ else _) _ _ _
 have hno:¬ (Value.ref t==Value.none)=true:=Bool.false_ne_true
 rw [if_neg hno]
 show wpAny _ _ (field (.ref it) 1 >>= _) _ _ _
 refine wpAny_bind (wpAny_field hob hda (x:=.int i 0) rfl ?_)
 show wpAny _ _ (seqItems? (.ref t) >>= _) _ _ _
 refine wpAny_bind (wpAny_seqItems hot hdt ?_)
 simp only [Int.toNat_natCast,hx]
 refine wpAny_bind (wpAny_setField hob hda (by simp) (wpAny_pure ⟨x,rfl,wpAny_pure (hQ _ ⟨_,Heap.get?_update_self _ hob (Obj.isFreed_of_fields (Obj.data_mapFields hda _)),(Obj.cls_mapFields ..).trans hcl,?_⟩ (Heap.SameBut.update ..))⟩))
 rw [Obj.data_mapFields hda];simp [rawInt]
theorem zl7 {it t:Addr} {i:Nat} {items:Array Value} {Q:Value→Shared→Prop} (hh:A.handled=none) (hit:s.heap.IsTupleIter it t i) (ht:s.heap.IsTuple t items) (hx:items[i]?=none)
  (hE:∀ h' e,Heap.ExtBut it s.heap h'→(∃ o,h'.get? e=some o∧o.cls=.type "StopIteration")→E (.ref e) { s with heap:=h' }):wpAny (model prog w) A (Builtin.SmallTypes.nextOf (.ref it)) Q E s:=by
 obtain ⟨ob,hob,hcl,hda⟩:=id hit
 obtain ⟨ot,hot,_,nt,hdt⟩:=ht
 unfold Builtin.SmallTypes.nextOf
 refine wpAny_bind (wpAny_callSpecial?_slot (name:=Str.ofString "__next__") hit.typeIs F.slot_tuple_iterator_next (wpAny_call_entry F.slot_tuple_iterator_next hit.typeIs F.entry_tuple_iterator_next ?_ (F.args_tuple_iterator_next_1 _)))
 show wpAny _ _ (field (.ref it) 0 >>= _) _ _ _
 refine wpAny_bind (wpAny_field hob hda (x:=.ref t) rfl ?_)
 show wpAny _ _ (if (Value.ref t==Value.none)=true then _ else _) _ _ _
 have hno:¬ (Value.ref t==Value.none)=true:=Bool.false_ne_true
 rw [if_neg hno]
 show wpAny _ _ (field (.ref it) 1 >>= _) _ _ _
 refine wpAny_bind (wpAny_field hob hda (x:=.int i 0) rfl ?_)
 show wpAny _ _ (seqItems? (.ref t) >>= _) _ _ _
 refine wpAny_bind (wpAny_seqItems hot hdt ?_)
 simp only [Int.toNat_natCast,hx]
 refine wpAny_bind (wpAny_rule (wpAny_bind (wpAny_setField hob hda (by simp) ?_)))
 show wpAny _ _ (newExc (.type "StopIteration") [] >>= _) _ _ _
 refine wpAny_bind ?_
 simp only [newExc,newTuple]
 refine wpAny_bind (wpAny_newObj_type ?_ (by size_fits))
 refine wpAny_bind (m:=firstArgMember _ _) (wpAny_of_eq (a:=Value.none) (by first | rfl | (simp only [firstArgMember];rfl)) ?_)
 refine wpAny_newObj_type ?_ (by size_fits)
 simp only [raiseNew]
 refine wpAny_bind (wpAny_handled ?_)
 first | rw [show A.in1.handled=none from hh] | rw [hh]
 exact wpAny_bind (wpAny_pure (wpAny_throw (hE _ _ (((Heap.SameBut.update ..).extBut.push _).push _) ⟨_,Heap.get?_push_size _ rfl,rfl⟩)))
end
theorem zqf {prog:Program} {w:World} {A:Around} (hh:A.handled=none) (it t:Addr) (hne:t≠it) (items:Array Value) :
  Draws prog w A it [it,t] items.size (fun i v=>items[i]?=some v) (fun i h=>h.IsTupleIter it t i∧h.IsTuple t items) where
 live:=fun _ _ st=>let ⟨o,ho,_⟩:=st.1;⟨o,ho⟩
 frame:=fun _ _ _ st hk=>by
  obtain ⟨⟨o,e,r⟩,⟨o2,e2,r2⟩⟩:=st
  exact ⟨⟨o,hk it (by simp) o e,r⟩,⟨o2,hk t (by simp) o2 e2,r2⟩⟩
 item:=fun i s Q E hi st hQ=>by
  refine zlk st.1 st.2 (x:=items[i]) (by simp [hi]) fun h' hit' hs'=>?_
  exact hQ _ h' s.toks (by simp [hi]) ⟨hit',st.2.extBut hs'.extBut hne⟩ hs'
 done:=fun s Q E st hE=>zl7 hh st.1 st.2 (by simp) hE
theorem zn5 {X:Cx} {pins:List (Addr×Obj)} {σ:St} {H:Hp} {s:Shared} {h':Heap} {t':Nat} {ch:List Addr} (I:Inv X pins σ H s) (k:∀ b o,b∉ch→s.heap.get? b=some o→h'.get? b=some o) (hf:∀ b∈ch,FpOk X pins H b):Inv X pins σ H { s with heap:=h',toks:=t' }:=by
 have nch:∀ b u,H b=some u→b∉ch:=fun b u e hb=>by rw [(hf b hb).1] at e;cases e
 refine I.step (g':=s.gens) (d':=s.drawn) (ch:=ch) (fun b hb=>?_) (fun b o _ _ hc e _=>k b o hc e) (fun b o _ _ hc e _=>⟨o.slots,k b o hc e⟩) (fun _ _ _ _ n=>n)
  (fun b o hc e=>⟨o,k b o hc e⟩) (fun _ _ e=>e) (fun _ _ _ e=>e) (fun b ps e=>⟨#[],by rw [e];simp⟩) (fun m hm=>?_) (fun b u e=>?_) I.bare
 ·obtain ⟨f0,f1,f2,f3,f4,f5⟩:=hf b hb
  exact ⟨f3,f1,f4,f5⟩
 ·obtain ⟨o,es,ep,ho,r⟩:=hm
  exact ⟨o,es,ep,k _ o (fun hb=>(hf _ hb).2.1 rfl) ho,r⟩
 ·refine (I.hok b u e).stay (fun c v hc q=>k c v ?_ q) (fun _ q=>q) fun _ _ q=>q
  rcases hc with z | z
  ·rw [z];exact nch b u e
  ·exact nch c _ z
theorem zn4 {X : Cx} {pins : List (Addr × Obj)} {σ : St} {H : Hp} {s : Shared} {h' : Heap} {t' : Nat} {ch : List Addr} {T : Addr} {xs : List V} {us : List Value} (I : Inv X pins σ H s) (k : ∀ b o, b ∉ ch → s.heap.get? b = some o → h'.get? b = some o) (hf : ∀ b ∈ ch, FpOk X pins H b)
  (hT:s.heap.objs.size≤T) (hTT:h'.IsTuple T us.toArray) (r:Vals xs us) (hz:xs.length≤sizeLine):Inv X pins σ (upd H T (.tup xs)) { s with heap:=h',toks:=t' }:=by
 have hn:H T=none:=I.hok.fresh hT
 have nch:∀ b u,H b=some u→b∉ch:=fun b u e hb=>by rw [(hf b hb).1] at e;cases e
 have up:∀ b u,H b=some u→upd H T (.tup xs) b=some u:=fun b u e=>by rw [upd_ne (ne_of_none e hn)];exact e
 have lt:∀ b o,s.heap.get? b=some o→b≠T:=fun b o e z=>by rw [z] at e;exact absurd (Heap.lt_size e) (Nat.not_lt.mpr hT)
 refine I.step (g':=s.gens) (d':=s.drawn) (ch:=ch) (fun b hb=>?_) (fun b o _ _ hc e _=>k b o hc e) (fun b o _ _ hc e _=>⟨o.slots,k b o hc e⟩) (fun b o _ e n=>by rw [upd_ne (lt b o e)];exact n)
  (fun b o hc e=>⟨o,k b o hc e⟩) (fun b ys e=>up b _ e) (fun b o u e=>up b _ e) (fun b ps e=>⟨#[],by rw [up b _ e];simp⟩) (fun m hm=>?_) (fun b u e=>?_) I.bare
 ·obtain ⟨f0,f1,f2,f3,f4,f5⟩:=hf b hb
  exact ⟨f3,f1,f4,f5⟩
 ·obtain ⟨o,es,ep,ho,q⟩:=hm
  exact ⟨o,es,ep,k _ o (fun hb=>(hf _ hb).2.1 rfl) ho,q⟩
 ·by_cases hb:b=T
  ·subst hb
   rw [upd_same] at e;cases e
   exact ⟨hz,us,r,hTT⟩
  ·rw [upd_ne hb] at e
   refine (I.hok b u e).stay (fun c v hc q=>k c v ?_ q) (fun c q=>?_) fun c ys q=>up c _ q
   ·rcases hc with z | z
    ·rw [z];exact nch b u e
    ·exact nch c _ z
   ·exact up c _ q
end ZS
namespace ZS
open PySem PySem.Spec PyProof.Rows L2
structure Inn where
 at_:Nat→Hp→V→Prop
 end_:Nat→Hp→Prop
structure Src (P:Program) (w:World) (K:PySem.W.Frag) (J:Inn) (it:Addr) (inn:Nat→Heap→Prop):Prop where
 obj:∀ i h,inn i h→∃ o,h.get? it=some o∧(∀ v,o.data≠.cell v)∧o.cls≠.type "enumerate" ∧ o.cls≠.type "zip" ∧ o.cls≠.type "tuple"
 keep:∀ i h h',inn i h→(∀ o,h.get? it=some o→h'.get? it=some o)→inn i h'
 draw:∀ (X:Cx),X.prog=P→X.w=w→X.K=K→X.calm=true→∀ (i:Nat) (pins:List (Addr×Obj)) (s:Shared) (σ:St) (H:Hp),Inv X pins σ H s→inn i s.heap→((∃ y,J.at_ i H y)∨J.end_ i H) →
  ∃ (fp:List Addr) (n:Nat) (Pv:Nat→Value→Prop) (S:Nat→Heap→Prop),Draws P w X.A.in1 it fp n Pv S∧S i s.heap∧it∈fp∧(∀ b∈fp,b=it∨∃ o,s.heap.get? b=some o∧o.cls≠.type "enumerate" ∧ o.cls≠.type "zip" ∧ (H b=none→∃ o',K.lookup b=some o')) ∧
   ((∃ y,J.at_ i H y)→i < n∧∀ u,Pv i u→∃ y,RelV y u∧J.at_ i H y)∧(J.end_ i H→i=n)∧∀ j h,S j h→inn j h
noncomputable def zp1 (K:PySem.W.Frag) (t:Addr) (vs:List V):Inn:=⟨fun i H y=>SqT K H t vs∧vs[i]?=some y,fun i H=>SqT K H t vs∧vs.length=i⟩
noncomputable def zr5 (K:PySem.W.Frag) (t:Addr) (vs:List V):Inn:=⟨fun i H y=>SqL K H t vs∧vs[i]?=some y,fun i H=>SqL K H t vs∧vs.length=i⟩
theorem zjt {P : Program} {w : World} {K : PySem.W.Frag} {t it : Addr} {xs : List V} : Src P w K (zp1 K t xs) it (fun i h => h.IsTupleIter it t i) where
 obj:=fun i h st=>by
  obtain ⟨o,e,c,d⟩:=st
  exact ⟨o,e,fun v z=>(by rw [d] at z;cases z),by rw [c];decide,by rw [c];decide,by rw [c];decide⟩
 keep:=fun i h h' st k=>let ⟨o,e,r⟩:=st;⟨o,k o e,r⟩
 draw:=by
  intro X hP hw hK hc i pins s σ H I st hg
  subst hP hw hK
  have hq:SqT X.K H t xs:=by
   rcases hg with ⟨y,h,_⟩ | ⟨h,_⟩<;>exact h
  obtain ⟨its,r,p,hz⟩:=I.tuple hq
  obtain ⟨ot,hot,hct,nt,hdt⟩:=id p
  obtain ⟨oi,hoi,hci,hdi⟩:=id st
  have hne:t≠it:=by
   rintro rfl
   rw [hot] at hoi;cases hoi
   rw [hct] at hci;injection hci with z;exact absurd z (by decide)
  refine ⟨[it,t],its.toArray.size,_,_,zqf (A:=X.A.in1) (I.ok.hd hc) it t hne its.toArray,⟨st,p⟩,by simp,fun b hb=>?_,fun ⟨y,_,hyi⟩=>?_,fun ⟨_,hl⟩=>?_,fun j h q=>q.1⟩
  ·rcases List.mem_cons.mp hb with rfl | hb
   ·exact .inl rfl
   ·rw [List.mem_singleton] at hb;subst hb
    refine .inr ⟨ot,hot,by rw [hct];decide,by rw [hct];decide,fun hn=>?_⟩
    rcases hq with (z | ⟨o,z⟩) | ⟨o,_,_,z,_⟩
    ·rw [hn] at z;cases z
    ·rw [hn] at z;cases z
    ·exact ⟨o,z⟩
  ·obtain ⟨u,hu,ru⟩:=r.get hyi
   refine ⟨by rw [List.size_toArray];exact (List.getElem?_eq_some_iff.mp hu).1,fun u' hu'=>⟨y,?_,hq,hyi⟩⟩
   have:its[i]?=some u':=by simpa using hu'
   rw [hu] at this;cases this
   exact ru
  ·rw [List.size_toArray,←r.length,hl]
theorem zoc {P : Program} {w : World} {K : PySem.W.Frag} {t it : Addr} {xs : List V} : Src P w K (zr5 K t xs) it (fun i h => h.IsListIter it t i) where
 obj:=fun i h st=>by
  obtain ⟨o,e,c,d⟩:=st
  exact ⟨o,e,fun v z=>(by rw [d] at z;cases z),by rw [c];decide,by rw [c];decide,by rw [c];decide⟩
 keep:=fun i h h' st k=>let ⟨o,e,r⟩:=st;⟨o,k o e,r⟩
 draw:=by
  intro X hP hw hK hc i pins s σ H I st hg
  subst hP hw hK
  have hq:SqL X.K H t xs:=by
   rcases hg with ⟨y,h,_⟩ | ⟨h,_⟩<;>exact h
  obtain ⟨its,r,p,hz⟩:=I.list hq
  obtain ⟨ot,hot,hct,nt,hdt⟩:=id p.isList
  obtain ⟨oi,hoi,hci,hdi⟩:=id st
  have hne:t≠it:=by
   rintro rfl
   rw [hot] at hoi;cases hoi
   rw [hct] at hci;injection hci with z;exact absurd z (by decide)
  refine ⟨[it,t],its.toArray.size,_,_,Draws.list (A:=X.A.in1) (I.ok.hd hc) it t hne its.toArray,⟨st,p.isList⟩,by simp,fun b hb=>?_,fun ⟨y,_,hyi⟩=>?_,fun ⟨_,hl⟩=>?_,fun j h q=>q.1⟩
  ·rcases List.mem_cons.mp hb with rfl | hb
   ·exact .inl rfl
   ·rw [List.mem_singleton] at hb;subst hb
    refine .inr ⟨ot,hot,by rw [hct];decide,by rw [hct];decide,fun hn=>?_⟩
    rcases hq with (z | ⟨o,z⟩) | ⟨o,_,_,z,_⟩
    ·rw [hn] at z;cases z
    ·rw [hn] at z;cases z
    ·exact ⟨o,z⟩
  ·obtain ⟨u,hu,ru⟩:=r.get hyi
   refine ⟨by rw [List.size_toArray];exact (List.getElem?_eq_some_iff.mp hu).1,fun u' hu'=>⟨y,?_,hq,hyi⟩⟩
   have:its[i]?=some u':=by simpa using hu'
   rw [hu] at this;cases this
   exact ru
  ·rw [List.size_toArray,←r.length,hl]
section
variable {X:Cx} {a b:Expr} {pos p p2:Pos} {fa fb:Z.EF} {elts:List Expr} {x1:Nat}
end
end ZS
namespace ZS
open PySem PySem.Spec PyProof.Rows L2
structure Far (z TI TO i1 i2:Addr) (f1 f2:List Addr):Prop where
 ne:[z,TI,TO,i1,i2].Nodup
 a1:z∉f1∧TO∉f1∧i2∉f1
 a2:z∉f2∧TO∉f2∧i1∉f2
section
variable {prog:Program} {w:World} {A:Around} {E:Value→Shared→Prop} {s:Shared}
theorem zlH {z TI TO i1 i2:Addr} {f1 f2:List Addr} {n1 n2 k:Nat} {P1 P2:Nat→Value→Prop} {S1 S2:Nat→Heap→Prop} {a b:Value} {Q:Value→Shared→Prop} (F:Far z TI TO i1 i2 f1 f2) (D1:Draws prog w A i1 f1 n1 P1 S1) (D2:Draws prog w A i2 f2 n2 P2 S2)
  (hz:IsZip s.heap z TI TO .none) (hTI:IsPair s.heap TI (.ref i1) (.ref i2)) (hTO:IsPair s.heap TO a b) (h1:S1 k s.heap) (h2:S2 k s.heap) (hk1:k < n1) (hk2:k < n2)
  (hQ:∀ x y h' tk,P1 k x→P2 k y→IsZip h' z TI TO (rawInt s.heap.objs.size)→IsPair h' TO x y→S1 (k+1) h'→S2 (k+1) h'→IsPair h' s.heap.objs.size x y→(∀ c o,c∉[z,TO,i1,i2]→s.heap.get? c=some o→h'.get? c=some o)→Q (.ref s.heap.objs.size) { s with heap:=h',toks:=tk }) :
  wpAny (model prog w) A (Builtin.«zip.__next__» ⟨[.ref z],[]⟩) (fun fin s'=>∃ v,fin=.done (.ret v)∧Q v s') E s:=by
 have ne:=F.ne
 simp only [List.nodup_cons,List.mem_cons,List.not_mem_nil,or_false,not_or,List.nodup_nil,and_true,not_false_eq_true] at ne
 obtain ⟨⟨zTI,zTO,zi1,zi2⟩,⟨TITO,TIi1,TIi2⟩,⟨TOi1,TOi2⟩,i12⟩:=ne
 obtain ⟨zf1,TOf1,i2f1⟩:=F.a1
 obtain ⟨zf2,TOf2,i1f2⟩:=F.a2
 obtain ⟨hp,gs,dr,tk0,os⟩:=s
 show wpAny _ _ (field (.ref z) 2 >>= _) _ _ _
 refine wpAny_bind (wpAny_field hz rfl (x:=.bool false) rfl ?_)
 show wpAny _ _ (field (.ref z) 3 >>= _) _ _ _
 refine wpAny_bind (wpAny_field hz rfl (x:=.ref TI) rfl (wpAny_bind (wpAny_seqItems hTI rfl ?_)))
 show wpAny _ _ (Builtin.SmallTypes.ownedTupleIsFree (.ref z) >>= _) _ _ _
 refine wpAny_bind ?_
 unfold Builtin.SmallTypes.ownedTupleIsFree
 refine wpAny_bind (wpAny_field hz rfl (x:=.none) rfl (wpAny_pure ?_))
 simp only [if_true]
 refine wpAny_bind (wpAny_rule (wpAny_bind (wpAny_field hz rfl (x:=.ref TO) rfl (wpAny_bind (wpAny_setField_rec hz (by simp) fun g1 hz1 e1=>?_)))))
 have hz1:IsZip g1 z TI TO .ellipsis:=hz1
 have e1:Heap.SameBut z hp g1:=e1
 refine wpAny_bind ?_
 simp only [List.zipIdx_cons,List.zipIdx_nil,List.forIn_cons,List.forIn_nil]
 refine wpAny_bind (wpAny_bind (wpAny_onRaise ?_))
 show wpAny _ _ (Builtin.SmallTypes.nextOf (.ref i1) >>= _) _ _ _
 refine wpAny_bind (D1.item k _ _ _ hk1 (D1.frame k hp g1 h1 fun c hc o q=>e1.extBut c o (fun y=>zf1 (y▸hc)) q) fun x g2 t2 hx h12 e2=>wpAny_pure ?_)
 have e2:Heap.SameBut i1 g1 g2:=e2
 have hTO2:IsPair g2 TO a b:=e2.extBut _ _ TOi1 (e1.extBut _ _ (Ne.symm zTO) hTO)
 refine wpAny_bind (wpAny_seqItems hTO2 rfl (wpAny_bind (wpAny_updateSeq_pair hTO2 fun g3 hTO3 e3=>?_)))
 have hTO3:IsPair g3 TO x b:=hTO3
 have e3:Heap.SameBut TO g2 g3:=e3
 refine wpAny_bind (wpAny_letGo (wpAny_pure ?_))
 refine wpAny_bind (wpAny_bind (wpAny_onRaise ?_))
 show wpAny _ _ (Builtin.SmallTypes.nextOf (.ref i2) >>= _) _ _ _
 have h23:S2 k g3:=D2.frame k hp g3 h2 fun c hc o q=>e3.extBut c o (fun y=>TOf2 (y▸hc)) (e2.extBut c o (fun y=>i1f2 (y▸hc)) (e1.extBut c o (fun y=>zf2 (y▸hc)) q))
 refine wpAny_bind (D2.item k _ _ _ hk2 h23 fun y g4 t4 hy h24 e4=>wpAny_pure ?_)
 have e4:Heap.SameBut i2 g3 g4:=e4
 have hTO4:IsPair g4 TO x b:=e4.extBut _ _ TOi2 hTO3
 refine wpAny_bind (wpAny_seqItems hTO4 rfl (wpAny_bind (wpAny_updateSeq_pair hTO4 fun g5 hTO5 e5=>?_)))
 have hTO5:IsPair g5 TO x y:=hTO5
 have e5:Heap.SameBut TO g4 g5:=e5
 refine wpAny_bind (wpAny_letGo (wpAny_pure (wpAny_pure ?_)))
 refine wpAny_bind (wpAny_seqItems hTO5 rfl (wpAny_bind (wpAny_newTuple ?_)))
 have hsz:g5.objs.size=hp.objs.size:=by rw [e5.1,e4.1,e3.1,e2.1,e1.1]
 have hz5:IsZip g5 z TI TO .ellipsis:=e5.extBut _ _ zTO (e4.extBut _ _ zi2 (e3.extBut _ _ zTO (e2.extBut _ _ zi1 hz1)))
 have hzl:z < g5.objs.size:=Heap.lt_size hz5
 show wpAny _ _ (Builtin.SmallTypes.ownedTupleHandOut (.ref z) (.ref g5.objs.size) >>= _) _ _ _
 refine wpAny_bind ?_
 unfold Builtin.SmallTypes.ownedTupleHandOut
 have hz6:IsZip (g5.push { cls:=.type "tuple",data:=.seq #[x,y] }) z TI TO .ellipsis:=Heap.get?_push_of_some _ hz5
 refine wpAny_bind (wpAny_setField_rec hz6 (by simp) fun g7 hz7 e7=>?_)
 have hz7:IsZip g7 z TI TO (rawInt g5.objs.size):=hz7
 refine wpAny_setField_rec hz7 (by simp) fun g8 hz8 e8=>?_
 have hz8:IsZip g8 z TI TO (rawInt g5.objs.size):=hz8
 have up:∀ c o,c≠z→g5.get? c=some o→g8.get? c=some o:=fun c o h q=>e8.extBut _ _ h (e7.extBut _ _ h (Heap.get?_push_of_some _ q))
 have hT8:IsPair g8 g5.objs.size x y:=e8.extBut _ _ (Nat.ne_of_gt hzl) (e7.extBut _ _ (Nat.ne_of_gt hzl) (Heap.get?_push_size _ rfl))
 have s1:S1 (k+1) g8:=D1.frame _ g2 g8 h12 fun c hc o q=>up c o (fun y=>zf1 (y▸hc)) (e5.extBut c o (fun y=>TOf1 (y▸hc)) (e4.extBut c o (fun y=>i2f1 (y▸hc)) (e3.extBut c o (fun y=>TOf1 (y▸hc)) q)))
 have s2:S2 (k+1) g8:=D2.frame _ g4 g8 h24 fun c hc o q=>up c o (fun y=>zf2 (y▸hc)) (e5.extBut c o (fun y=>TOf2 (y▸hc)) q)
 have kp:∀ c o,c∉[z,TO,i1,i2]→hp.get? c=some o→g8.get? c=some o:=fun c o hc q=>by
  simp only [List.mem_cons,List.not_mem_nil,or_false,not_or] at hc
  exact up c o hc.1 (e5.extBut _ _ hc.2.1 (e4.extBut _ _ hc.2.2.2 (e3.extBut _ _ hc.2.1 (e2.extBut _ _ hc.2.2.1 (e1.extBut _ _ hc.1 q)))))
 rw [hsz] at hz8 hT8
 refine wpAny_pure ⟨_,rfl,?_⟩
 show Q (.ref g5.objs.size) _
 rw [hsz]
 exact hQ x y g8 t4 hx hy hz8 (up _ _ (Ne.symm zTO) hTO5) s1 s2 hT8 kp
theorem zmW {z TI TO i1 i2:Addr} {f1 f2:List Addr} {n1 n2 k:Nat} {P1 P2:Nat→Value→Prop} {S1 S2:Nat→Heap→Prop} {a b:Value} {Q:Fin→Shared→Prop} (F:Far z TI TO i1 i2 f1 f2) (D1:Draws prog w A i1 f1 n1 P1 S1) (D2:Draws prog w A i2 f2 n2 P2 S2)
  (hz:IsZip s.heap z TI TO .none) (hTI:IsPair s.heap TI (.ref i1) (.ref i2)) (hTO:IsPair s.heap TO a b) (h1:S1 k s.heap) (h2:S2 k s.heap) (hend:k=n1∨(k < n1∧k=n2))
  (hE:∀ h' e tk,(∀ c o,c∉[z,TO,i1,i2]→s.heap.get? c=some o→h'.get? c=some o)→(∃ o,h'.get? e=some o∧o.cls=.type "StopIteration")→E (.ref e) { s with heap:=h',toks:=tk }) :
  wpAny (model prog w) A (Builtin.«zip.__next__» ⟨[.ref z],[]⟩) Q E s:=by
 have ne:=F.ne
 simp only [List.nodup_cons,List.mem_cons,List.not_mem_nil,or_false,not_or,List.nodup_nil,and_true,not_false_eq_true] at ne
 obtain ⟨⟨zTI,zTO,zi1,zi2⟩,⟨TITO,TIi1,TIi2⟩,⟨TOi1,TOi2⟩,i12⟩:=ne
 obtain ⟨zf1,TOf1,i2f1⟩:=F.a1
 obtain ⟨zf2,TOf2,i1f2⟩:=F.a2
 obtain ⟨hp,gs,dr,tk0,os⟩:=s
 show wpAny _ _ (field (.ref z) 2 >>= _) _ _ _
 refine wpAny_bind (wpAny_field hz rfl (x:=.bool false) rfl ?_)
 show wpAny _ _ (field (.ref z) 3 >>= _) _ _ _
 refine wpAny_bind (wpAny_field hz rfl (x:=.ref TI) rfl (wpAny_bind (wpAny_seqItems hTI rfl ?_)))
 show wpAny _ _ (Builtin.SmallTypes.ownedTupleIsFree (.ref z) >>= _) _ _ _
 refine wpAny_bind ?_
 unfold Builtin.SmallTypes.ownedTupleIsFree
 refine wpAny_bind (wpAny_field hz rfl (x:=.none) rfl (wpAny_pure ?_))
 simp only [if_true]
 refine wpAny_bind (wpAny_rule (wpAny_bind (wpAny_field hz rfl (x:=.ref TO) rfl (wpAny_bind (wpAny_setField_rec hz (by simp) fun g1 hz1 e1=>?_)))))
 have hz1:IsZip g1 z TI TO .ellipsis:=hz1
 have e1:Heap.SameBut z hp g1:=e1
 refine wpAny_bind ?_
 simp only [List.zipIdx_cons,List.zipIdx_nil,List.forIn_cons,List.forIn_nil]
 refine wpAny_bind (wpAny_bind (wpAny_onRaise ?_))
 show wpAny _ _ (Builtin.SmallTypes.nextOf (.ref i1) >>= _) _ _ _
 have h11:S1 k g1:=D1.frame k hp g1 h1 fun c hc o q=>e1.extBut c o (fun y=>zf1 (y▸hc)) q
 rcases hend with rfl | ⟨hk1,rfl⟩
 ·refine wpAny_bind (D1.done _ _ _ h11 fun g2 e e2 he=>?_)
  obtain ⟨oe,hoe,hce⟩:=he
  have e2:Heap.ExtBut i1 g1 g2:=e2
  have hz2:IsZip g2 z TI TO .ellipsis:=e2 _ _ zi1 hz1
  have hez:e≠z:=fun q=>by subst q;rw [hz2] at hoe;cases hoe;simp at hce
  refine wpAny_setField_rec hz2 (by simp) fun g3 _ e3=>hE g3 e tk0 (fun c o hc q=>?_) ⟨oe,e3.extBut _ _ hez hoe,hce⟩
  simp only [List.mem_cons,List.not_mem_nil,or_false,not_or] at hc
  exact e3.extBut _ _ hc.1 (e2 _ _ hc.2.2.1 (e1.extBut _ _ hc.1 q))
 ·refine wpAny_bind (D1.item k _ _ _ hk1 h11 fun x g2 t2 hx h12 e2=>wpAny_pure ?_)
  have e2:Heap.SameBut i1 g1 g2:=e2
  have hTO2:IsPair g2 TO a b:=e2.extBut _ _ TOi1 (e1.extBut _ _ (Ne.symm zTO) hTO)
  refine wpAny_bind (wpAny_seqItems hTO2 rfl (wpAny_bind (wpAny_updateSeq_pair hTO2 fun g3 hTO3 e3=>?_)))
  have e3:Heap.SameBut TO g2 g3:=e3
  refine wpAny_bind (wpAny_letGo (wpAny_pure ?_))
  refine wpAny_bind (wpAny_bind (wpAny_onRaise ?_))
  show wpAny _ _ (Builtin.SmallTypes.nextOf (.ref i2) >>= _) _ _ _
  have h23:S2 k g3:=D2.frame k hp g3 h2 fun c hc o q=>e3.extBut c o (fun y=>TOf2 (y▸hc)) (e2.extBut c o (fun y=>i1f2 (y▸hc)) (e1.extBut c o (fun y=>zf2 (y▸hc)) q))
  refine wpAny_bind (D2.done _ _ _ h23 fun g4 e e4 he=>?_)
  obtain ⟨oe,hoe,hce⟩:=he
  have e4:Heap.ExtBut i2 g3 g4:=e4
  have hz4:IsZip g4 z TI TO .ellipsis:=e4 _ _ zi2 (e3.extBut _ _ zTO (e2.extBut _ _ zi1 hz1))
  have hez:e≠z:=fun q=>by subst q;rw [hz4] at hoe;cases hoe;simp at hce
  refine wpAny_setField_rec hz4 (by simp) fun g5 _ e5=>hE g5 e t2 (fun c o hc q=>?_) ⟨oe,e5.extBut _ _ hez hoe,hce⟩
  simp only [List.mem_cons,List.not_mem_nil,or_false,not_or] at hc
  exact e5.extBut _ _ hc.1 (e4 _ _ hc.2.2.2 (e3.extBut _ _ hc.2.1 (e2.extBut _ _ hc.2.2.1 (e1.extBut _ _ hc.1 q))))
end
end ZS
namespace ZS
open PySem PySem.Spec PyProof.Rows L2
noncomputable def ItP (J1 J2:Inn):It:=⟨fun i H=>(∃ y,J1.at_ i H y)∧∃ y,J2.at_ i H y,
 fun i H x H'=>∃ T y1 y2,H T=none∧x=.ref T∧H'=upd H T (.tup [y1,y2])∧J1.at_ i H y1∧J2.at_ i H y2,
 fun i H=>(J1.end_ i H∧((∃ y,J2.at_ i H y)∨J2.end_ i H))∨((∃ y,J1.at_ i H y)∧J2.end_ i H)⟩
theorem ztb {X:Cx} {pins:List (Addr×Obj)} {σ:St} {H:Hp} {s:Shared} {b:Addr} {o:Obj} (I:Inv X pins σ H s) (f:FpOk X pins H b) (h:X.K.lookup b=some o):False:=by
 have hb:=I.ok.mod.kin b o h
 rcases f.2.2.2.1 with z | z
 ·exact I.ok.noex b o hb z
 ·exact absurd (Heap.lt_size (I.ok.bs b o hb).1) (Nat.not_lt.mpr z)
def tnZ (z TI TO i1 i2:Addr) (n1 n2:Nat→Heap→Prop) (i:Nat) (h:Heap):Prop:=IsZip h z TI TO .none∧IsPair h TI (.ref i1) (.ref i2)∧(∃ a b,IsPair h TO a b)∧n1 i h∧n2 i h
theorem zkQ {h:Heap} {T:Addr} {a b:Value} (p:IsPair h T a b):∃ o,h.get? T=some o∧∀ v,o.data≠.cell v :=
 ⟨_,p,fun v z=>by
  have z':Data.seq _ _=Data.cell v:=z
  cases z'⟩
theorem zkG {P : Program} {w : World} {K : PySem.W.Frag} {J1 J2 : Inn} {z TI TO i1 i2 : Addr} {n1 n2 : Nat → Heap → Prop} {elts : List Expr} {x1 : Nat} {pos : Pos} (S1 : Src P w K J1 i1 n1) (S2 : Src P w K J2 i2 n2) (nd : [z, TI, TO, i1, i2].Nodup) :
  Turn P w K (.Tuple elts x1 pos) (ItP J1 J2) [z,TI,TO,i1,i2] z (tnZ z TI TO i1 i2 n1 n2):=by
 have far:∀ {X:Cx} {pins:List (Addr×Obj)} {σ:St} {H:Hp} {s:Shared} {f1 f2:List Addr},X.K=K→Inv X pins σ H s→(∀ b∈[z,TI,TO,i1,i2],FpOk X pins H b) →
   (∀ b∈f1,b=i1∨∃ o,s.heap.get? b=some o∧o.cls≠.type "enumerate" ∧ o.cls≠.type "zip" ∧ (H b=none→∃ o',K.lookup b=some o')) →
   (∀ b∈f2,b=i2∨∃ o,s.heap.get? b=some o∧o.cls≠.type "enumerate" ∧ o.cls≠.type "zip" ∧ (H b=none→∃ o',K.lookup b=some o'))→Far z TI TO i1 i2 f1 f2:=by
  intro X pins σ H s f1 f2 hK I hf g1 g2
  subst hK
  have nd':=nd
  simp only [List.nodup_cons,List.mem_cons,List.not_mem_nil,or_false,not_or,List.nodup_nil,and_true,not_false_eq_true] at nd'
  obtain ⟨⟨zTI,zTO,zi1,zi2⟩,⟨TITO,TIi1,TIi2⟩,⟨TOi1,TOi2⟩,i12⟩:=nd'
  have no1:∀ b,b∈[z,TI,TO,i1,i2]→b≠i1→b∉f1:=fun b hb hne hm=>by
   rcases g1 b hm with q | ⟨o,_,_,_,q⟩
   ·exact hne q
   ·obtain ⟨o',h'⟩:=q (hf b hb).1
    exact ztb I (hf b hb) h'
  have no2:∀ b,b∈[z,TI,TO,i1,i2]→b≠i2→b∉f2:=fun b hb hne hm=>by
   rcases g2 b hm with q | ⟨o,_,_,_,q⟩
   ·exact hne q
   ·obtain ⟨o',h'⟩:=q (hf b hb).1
    exact ztb I (hf b hb) h'
  exact ⟨nd,⟨no1 z (by simp) zi1,no1 TO (by simp) TOi1,no1 i2 (by simp) (Ne.symm i12)⟩,⟨no2 z (by simp) zi2,no2 TO (by simp) TOi2,no2 i1 (by simp) i12⟩⟩
 refine ⟨by simp,fun i h st b hb=>?_,fun i h h' st k=>?_,?_,?_,fun A i s Q E st hQ=>wpAny_pyIter_zip st.1 hQ⟩
 ·obtain ⟨hz,hTI,⟨a,b',hTO⟩,h1,h2⟩:=st
  simp only [List.mem_cons,List.not_mem_nil,or_false] at hb
  rcases hb with rfl | rfl | rfl | rfl | rfl
  ·exact ⟨_,hz,fun v z=>by
    have z':Data.fields _=Data.cell v:=z
    cases z'⟩
  ·exact zkQ hTI
  ·exact zkQ hTO
  ·obtain ⟨o,q,r,_⟩:=S1.obj i h h1;exact ⟨o,q,r⟩
  ·obtain ⟨o,q,r,_⟩:=S2.obj i h h2;exact ⟨o,q,r⟩
 ·obtain ⟨hz,hTI,⟨a,b',hTO⟩,h1,h2⟩:=st
  exact ⟨k z (by simp) _ hz,k TI (by simp) _ hTI,⟨a,b',k TO (by simp) _ hTO⟩,S1.keep i h h' h1 fun o q=>k i1 (by simp) o q,S2.keep i h h' h2 fun o q=>k i2 (by simp) o q⟩
 ·intro X hP hw hK hc i pins s σ H E I hf st hg
  obtain ⟨hz,hTI,⟨a,b',hTO⟩,h1,h2⟩:=st
  obtain ⟨f1,m1,P1,T1,D1,hs1,_,hfp1,hat1,_,hin1⟩:=S1.draw X hP hw hK hc i pins s σ H I h1 (.inl hg.1)
  obtain ⟨f2,m2,P2,T2,D2,hs2,_,hfp2,hat2,_,hin2⟩:=S2.draw X hP hw hK hc i pins s σ H I h2 (.inl hg.2)
  obtain ⟨hi1,hv1⟩:=hat1 hg.1
  obtain ⟨hi2,hv2⟩:=hat2 hg.2
  have FR:=far hK I hf hfp1 hfp2
  subst hP hw hK
  have hT:s.TypeIs (.ref z) "zip" := ⟨_,hz,rfl⟩
  unfold pyNext
  refine wpAny_bind (wpAny_attempt (wpAny_callSpecial?_slot (name:=Str.ofString "__next__") hT F.slot_zip_next (wpAny_call_entry F.slot_zip_next hT F.entry_zip_next (zlH FR D1 D2 hz hTI hTO hs1 hs2 hi1 hi2 fun x y h' tk px py z' to' s1' s2' tt kp=>wpAny_pure ?_) (F.args_zip_next_1 _))))
  refine ⟨_,rfl,?_⟩
  obtain ⟨y1,r1,a1⟩:=hv1 x px
  obtain ⟨y2,r2,a2⟩:=hv2 y py
  have lt:∀ {c o},s.heap.get? c=some o→c≠s.heap.objs.size:=fun q=>Nat.ne_of_lt (Heap.lt_size q)
  have hTn:H s.heap.objs.size=none:=I.fresh
  have hTz:s.heap.objs.size≠z:=(lt hz).symm
  refine wpAny_letOwnedTupleGo_zip z' fun h2' hz2 hs2'=>?_
  have nd':=nd
  simp only [List.nodup_cons,List.mem_cons,List.not_mem_nil,or_false,not_or,List.nodup_nil,and_true,not_false_eq_true] at nd'
  obtain ⟨⟨zTI,zTO,zi1,zi2⟩,⟨TITO,TIi1,TIi2⟩,⟨TOi1,TOi2⟩,i12⟩:=nd'
  have tt2:h2'.IsTuple s.heap.objs.size [x,y].toArray:=⟨_,hs2'.extBut _ _ hTz tt,rfl,_,rfl⟩
  have I2:Inv X pins σ (upd H s.heap.objs.size (.tup [y1,y2])) { s with heap:=h2',toks:=tk } :=
   zn4 (ch:=[z,TO,i1,i2]) I (fun b o hb q=>hs2'.extBut b o (fun e=>hb (by simp [e])) (kp b o hb q)) (fun b hb=>hf b (by simp only [List.mem_cons,List.not_mem_nil,or_false] at hb ⊢;rcases hb with e | e | e | e<;>simp [e])) (Nat.le_refl _) tt2 (.cons r1 (.cons r2 .nil)) (by show 2≤sizeLine;decide)
  have k1:n1 (i+1) h2':=S1.keep _ _ _ (hin1 _ _ s1') fun o q=>hs2'.extBut i1 o (Ne.symm zi1) q
  have k2:n2 (i+1) h2':=S2.keep _ _ _ (hin2 _ _ s2') fun o q=>hs2'.extBut i2 o (Ne.symm zi2) q
  have kTI:IsPair h2' TI (.ref i1) (.ref i2):=hs2'.extBut _ _ (Ne.symm zTI) (kp TI _ (by simp only [List.mem_cons,List.not_mem_nil,or_false,not_or];exact ⟨Ne.symm zTI,TITO,TIi1,TIi2⟩) hTI)
  refine ⟨.ref _,_,I2,rfl,⟨_,y1,y2,hTn,rfl,rfl,a1,a2⟩,⟨hz2,kTI,⟨x,y,hs2'.extBut _ _ (Ne.symm zTO) to'⟩,k1,k2⟩,fun b hb=>?_⟩
  have hbT:b≠s.heap.objs.size:=by
   simp only [List.mem_cons,List.not_mem_nil,or_false] at hb
   rcases hb with rfl | rfl | rfl | rfl | rfl
   ·exact lt hz
   ·exact lt hTI
   ·exact lt hTO
   ·obtain ⟨o,q,_⟩:=S1.obj i _ h1;exact lt q
   ·obtain ⟨o,q,_⟩:=S2.obj i _ h2;exact lt q
  rw [upd_ne hbT]
  exact (hf b hb).1
 ·intro X hP hw hK hc i pins s σ H E I hf st hg
  obtain ⟨hz,hTI,⟨a,b',hTO⟩,h1,h2⟩:=st
  have g1:(∃ y,J1.at_ i H y)∨J1.end_ i H:=by
   rcases hg with ⟨q,_⟩ | ⟨q,_⟩
   ·exact .inr q
   ·exact .inl q
  have g2:(∃ y,J2.at_ i H y)∨J2.end_ i H:=by
   rcases hg with ⟨_,q⟩ | ⟨_,q⟩
   ·exact q
   ·exact .inr q
  obtain ⟨f1,m1,P1,T1,D1,hs1,_,hfp1,hat1,hend1,hin1⟩:=S1.draw X hP hw hK hc i pins s σ H I h1 g1
  obtain ⟨f2,m2,P2,T2,D2,hs2,_,hfp2,hat2,hend2,hin2⟩:=S2.draw X hP hw hK hc i pins s σ H I h2 g2
  have FR:=far hK I hf hfp1 hfp2
  have he:i=m1∨(i < m1∧i=m2):=by
   rcases hg with ⟨q,_⟩ | ⟨q,q2⟩
   ·exact .inl (hend1 q)
   ·exact .inr ⟨(hat1 q).1,hend2 q2⟩
  subst hP hw hK
  have hT:s.TypeIs (.ref z) "zip" := ⟨_,hz,rfl⟩
  unfold pyNext
  refine wpAny_bind (wpAny_attempt (wpAny_callSpecial?_slot (name:=Str.ofString "__next__") hT F.slot_zip_next (wpAny_call_entry F.slot_zip_next hT F.entry_zip_next (zmW FR D1 D2 hz hTI hTO hs1 hs2 he fun h' e tk kp hx=>?_) (F.args_zip_next_1 _))))
  obtain ⟨o,ho,hco⟩:=hx
  refine wpAny_bind (wpAny_isInstance (T := "StopIteration") (b:=true) ⟨o,ho,hco⟩ isSubtype_stop (wpAny_pure ⟨rfl,?_⟩))
  exact zn5 (ch:=[z,TO,i1,i2]) I kp fun b hb=>hf b (by simp only [List.mem_cons,List.not_mem_nil,or_false] at hb ⊢;rcases hb with e | e | e | e<;>simp [e])
noncomputable abbrev zh (T1 T2:String) (h:Heap) (l1 l2:Addr):Heap:=((((h.push { cls:=.type T1,data:=.fields #[.ref l1,.int 0 0] }).push { cls:=.type T2,data:=.fields #[.ref l2,.int 0 0] }).push { cls:=.type "tuple",data:=.seq #[.ref h.objs.size,.ref (h.objs.size+1)] }).push { cls:=.type "tuple",data:=.seq #[.none,.none] }).push
 { cls:=.type "zip",data:=.fields #[.none,.bool false,.bool false,.ref (h.objs.size+2),.ref (h.objs.size+3)] }
theorem zjN (l1 l2:Addr) (xs ys:Array Value):Meets (Builtin.«zip.__new__» ⟨[.type "zip",.ref l1,.ref l2],[]⟩) (fun _ R s=>s.heap.IsTuple l1 xs∧s.heap.IsTuple l2 ys∧R (.ok (.ret (.ref (s.heap.objs.size+4)))) { s with heap:=zh "tuple_iterator" "tuple_iterator" s.heap l1 l2 }) :=
 .of_wp fun prog w A R s h=>by
  obtain ⟨hp,gs,dr,tk,os⟩:=s
  obtain ⟨hl1,hl2,h⟩:=h
  have hsub:=sub_zip
  have q1:Heap.IsTuple (Shared.heap ⟨hp,gs,dr,tk,os⟩) l1 xs:=hl1
  have q2:Heap.IsTuple (Shared.heap ⟨hp.push { cls:=.type "tuple_iterator",data:=.fields #[.ref l1,.int 0 0] },gs,dr,tk,os⟩) l2 ys:=Heap.IsTuple.push hl2 _
  wp_walk using wpAny_pyIter_tuple q1,wpAny_pyIter_tuple q2
  simp only [zh,Heap.size_push] at h ⊢
  exact ⟨_,rfl,h⟩
theorem zjO (l1 l2:Addr) (xs ys:Array Value):Meets (Builtin.«zip.__new__» ⟨[.type "zip",.ref l1,.ref l2],[]⟩) (fun _ R s=>s.heap.IsList l1 xs∧s.heap.IsTuple l2 ys∧R (.ok (.ret (.ref (s.heap.objs.size+4)))) { s with heap:=zh "list_iterator" "tuple_iterator" s.heap l1 l2 }) :=
 .of_wp fun prog w A R s h=>by
  obtain ⟨hp,gs,dr,tk,os⟩:=s
  obtain ⟨hl1,hl2,h⟩:=h
  have hsub:=sub_zip
  have q1:Heap.IsList (Shared.heap ⟨hp,gs,dr,tk,os⟩) l1 xs:=hl1
  have q2:Heap.IsTuple (Shared.heap ⟨hp.push { cls:=.type "list_iterator",data:=.fields #[.ref l1,.int 0 0] },gs,dr,tk,os⟩) l2 ys:=Heap.IsTuple.push hl2 _
  wp_walk using wpAny_pyIter_list q1,wpAny_pyIter_tuple q2
  simp only [zh,Heap.size_push] at h ⊢
  exact ⟨_,rfl,h⟩
theorem zkC (T1 T2:String) (h:Heap) (l1 l2:Addr):IsZip (zh T1 T2 h l1 l2) (h.objs.size+4) (h.objs.size+2) (h.objs.size+3) .none∧IsPair (zh T1 T2 h l1 l2) (h.objs.size+2) (.ref h.objs.size) (.ref (h.objs.size+1))∧IsPair (zh T1 T2 h l1 l2) (h.objs.size+3) .none .none ∧
  (zh T1 T2 h l1 l2).get? h.objs.size=some { cls:=.type T1,data:=.fields #[.ref l1,.int 0 0] }∧(zh T1 T2 h l1 l2).get? (h.objs.size+1)=some { cls:=.type T2,data:=.fields #[.ref l2,.int 0 0] }∧∀ c o,h.get? c=some o→(zh T1 T2 h l1 l2).get? c=some o:=by
 have z1:(h.push { cls:=.type T1,data:=.fields #[.ref l1,.int 0 0] }).objs.size=h.objs.size+1:=Heap.size_push ..
 have z2:((h.push { cls:=.type T1,data:=.fields #[.ref l1,.int 0 0] }).push { cls:=.type T2,data:=.fields #[.ref l2,.int 0 0] }).objs.size=h.objs.size+2:=by rw [Heap.size_push,z1]
 have z3:(((h.push { cls:=.type T1,data:=.fields #[.ref l1,.int 0 0] }).push { cls:=.type T2,data:=.fields #[.ref l2,.int 0 0] }).push { cls:=.type "tuple",data:=.seq #[.ref h.objs.size,.ref (h.objs.size+1)] }).objs.size=h.objs.size+3:=by rw [Heap.size_push,z2]
 have z4:((((h.push { cls:=.type T1,data:=.fields #[.ref l1,.int 0 0] }).push { cls:=.type T2,data:=.fields #[.ref l2,.int 0 0] }).push { cls:=.type "tuple",data:=.seq #[.ref h.objs.size,.ref (h.objs.size+1)] }).push { cls:=.type "tuple",data:=.seq #[.none,.none] }).objs.size=h.objs.size+4:=by rw [Heap.size_push,z3]
 refine ⟨?_,?_,?_,?_,?_,fun c o q=>?_⟩
 ·show Heap.get? _ _=_
  rw [←z4];exact Heap.get?_push_size _ rfl
 ·show Heap.get? _ _=_
  rw [←z2];exact Heap.get?_push_of_some _ (Heap.get?_push_of_some _ (Heap.get?_push_size _ rfl))
 ·show Heap.get? _ _=_
  rw [←z3];exact Heap.get?_push_of_some _ (Heap.get?_push_size _ rfl)
 ·exact Heap.get?_push_of_some _ (Heap.get?_push_of_some _ (Heap.get?_push_of_some _ (Heap.get?_push_of_some _ (Heap.get?_push_size _ rfl))))
 ·show Heap.get? _ _=_
  rw [←z1];exact Heap.get?_push_of_some _ (Heap.get?_push_of_some _ (Heap.get?_push_of_some _ (Heap.get?_push_size _ rfl)))
 ·exact Heap.get?_push_of_some _ (Heap.get?_push_of_some _ (Heap.get?_push_of_some _ (Heap.get?_push_of_some _ (Heap.get?_push_of_some _ q))))
theorem zhN:∀ (xs ys:List Z.D) (i:Nat),(Z.zeI xs ys)[i]?=(xs[i]?).bind fun x=>(ys[i]?).map fun y=>Z.pair x y
 | [],ys,i=>by cases ys<;>simp [Z.zeI]
 | x :: xs,[],i=>by simp [Z.zeI]
 | x :: xs,y :: ys,0=>by simp [Z.zeI]
 | x :: xs,y :: ys,i+1=>by simp [Z.zeI,zhN xs ys i]
theorem zkB:∀ (xs ys:List Z.D),(Z.zeI xs ys).length=min xs.length ys.length
 | [],ys=>by cases ys<;>simp [Z.zeI]
 | x :: xs,[]=>by simp [Z.zeI]
 | x :: xs,y :: ys=>by simp [Z.zeI,zkB xs ys]
structure Gives (K:PySem.W.Frag) (J:Inn) (S:Hp→Prop) (ds:List Z.D):Prop where
 at_:∀ (i:Nat) d H1,S H1→ds[i]?=some d→(∃ y,J.at_ i H1 y)∧∀ y,J.at_ i H1 y→Den K H1 d y
 end_:∀ H1,S H1→J.end_ ds.length H1
theorem zmf {K : PySem.W.Frag} {J1 J2 : Inn} {S : Hp → Prop} {xs ys : List Z.D} (g1 : Gives K J1 S xs) (g2 : Gives K J2 S ys) : ItZ K (ItP J1 J2) S (Z.zeI xs ys) where
 go:=fun i d H1 s hi=>by
  rw [zhN] at hi
  cases q:xs[i]? with
  | none=>rw [q] at hi;cases hi
  | some x =>
   rw [q] at hi
   cases q2:ys[i]? with
   | none=>simp [q2] at hi
   | some y=>exact ⟨(g1.at_ i x H1 s q).1,(g2.at_ i y H1 s q2).1⟩
 yld:=fun i d H1 H2 x s hi y=>by
  obtain ⟨T,y1,y2,hT,rfl,rfl,a1,a2⟩:=y
  rw [zhN] at hi
  cases q:xs[i]? with
  | none=>rw [q] at hi;cases hi
  | some x =>
   rw [q] at hi
   cases q2:ys[i]? with
   | none=>simp [q2] at hi
   | some y =>
    simp only [q2,Option.bind_some,Option.map_some,Option.some.injEq] at hi
    subst hi
    have sm:Same H1 (upd H1 T (.tup [y1,y2])):=zb0 hT
    exact ⟨sm,zdr (.inl (.inl upd_same)) (zaE.cons (((g1.at_ i x H1 s q).2 y1 a1).up sm) (zaE.cons (((g2.at_ i y H1 s q2).2 y2 a2).up sm) zaE.nil))⟩
 stop:=fun H1 s=>by
  rw [zkB]
  have e1:=g1.end_ H1 s
  have e2:=g2.end_ H1 s
  rcases Nat.lt_trichotomy xs.length ys.length with h | h | h
  ·rw [Nat.min_eq_left (Nat.le_of_lt h)]
   exact .inl ⟨e1,.inl (g2.at_ xs.length _ H1 s (List.getElem?_eq_getElem h)).1⟩
  ·rw [Nat.min_eq_left (Nat.le_of_eq h)]
   rw [←h] at e2
   exact .inl ⟨e1,.inr e2⟩
  ·rw [Nat.min_eq_right (Nat.le_of_lt h)]
   exact .inr ⟨(g1.at_ ys.length _ H1 s (List.getElem?_eq_getElem h)).1,e2⟩
theorem zgT {K:PySem.W.Frag} {H:Hp} {q:Addr} {vs:List V} {ds:List Z.D} (h:SqT K H q vs) (t:zaE K H ds vs):Gives K (zp1 K q vs) (Stb H) ds :=
 ⟨fun i d H1 s hi=>by
  obtain ⟨y,hy,dy⟩:=t.get hi
  refine ⟨⟨y,zdI s h,hy⟩,fun y' hy'=>?_⟩
  have:=hy'.2
  rw [hy] at this;cases this
  exact dy.ups s,fun H1 s=>⟨zdI s h,t.length⟩⟩
theorem zmj {K:PySem.W.Frag} {H:Hp} {q:Addr} {vs:List V} {ds:List Z.D} (h:FzL K H q vs) (t:zaE K H ds vs):Gives K (zr5 K q vs) (Stb H) ds :=
 ⟨fun i d H1 s hi=>by
  obtain ⟨y,hy,dy⟩:=t.get hi
  refine ⟨⟨y,(h.mono s).sq,hy⟩,fun y' hy'=>?_⟩
  have:=hy'.2
  rw [hy] at this;cases this
  exact dy.ups s,fun H1 s=>⟨(h.mono s).sq,t.length⟩⟩
section
variable {X:Cx} {a b:Expr} {pos p p2:Pos} {fa fb:Z.EF} {elts:List Expr} {x1:Nat}
theorem zmk {pins:List (Addr×Obj)} {σ:St} {H:Hp} {s:Shared} (I:Inv X pins σ H s):∀ b∈[s.heap.objs.size+4,s.heap.objs.size+2,s.heap.objs.size+3,s.heap.objs.size,s.heap.objs.size+1],FpOk X pins H b:=fun b hb=>by
 have h:s.heap.objs.size≤b:=by
  simp only [List.mem_cons,List.not_mem_nil,or_false] at hb
  lia
 exact I.fpOk h (I.hok.fresh h)
theorem zl8 (n:Nat):[n+4,n+2,n+3,n,n+1].Nodup:=by
 simp only [List.nodup_cons,List.mem_cons,List.not_mem_nil,or_false,not_or,List.nodup_nil,and_true,not_false_eq_true]
 lia
theorem zhI (hg:Gl X "zip") (hm:X.mg "zip" = none) (ha:DE X a fa) (hb:DE X b fb) (hs:starEach [a,b] X.env=[(false,eval a X.env),(false,eval b X.env)]:=by rfl) (hs2:starEach [b] X.env=[(false,eval b X.env)]:=by rfl)
  (h1:starEach (a :: [b]) X.env=(false,eval a X.env) :: starEach [b] X.env:=by rfl) (h2:starEach (b :: []) X.env=(false,eval b X.env) :: starEach [] X.env:=by rfl):DJ X (.Tuple elts x1 p2) (.Call (.Name "zip" p) [a,b] [] pos) (Z.zoP fa fb):=by
 intro pins s σ H R I w
 obtain ⟨ρ,ds,r,e,k⟩:=w
 obtain ⟨d1,ea,e⟩:=Z.Res.bind_ok e
 obtain ⟨d2,eb,e⟩:=Z.Res.bind_ok e
 obtain ⟨xs,ex,e⟩:=Z.Res.bind_ok e
 obtain ⟨ys,ey,e⟩:=Z.Res.bind_ok e
 cases e
 refine Call_ (ld_blt I hg hm (by kernel_rfl:bootBuiltins "zip" = some (.type "zip")) (PyProof.Rows.callWith_type1 (thn ((pa_cons ha (pa_cons hb pa_nil h2) h1) pos pins s σ H (fun vs H1=>∃ v u,vs=[v,u]∧Same H H1∧Den X.K H1 d1 v∧Den X.K H1 d2 u) I ⟨ρ,d1,r,ea,fun v H1 s1 q1=>⟨ρ,d2,r.up s1,eb,fun u H2 s2 q2=>⟨v,u,rfl,s1.trans s2,q1.up s2,q2⟩⟩⟩) fun us s1 ⟨vs,H1,I1,r1,q1⟩=>?_) (by rw [hs,hs2]) (by rw [hs2];rfl)))
 obtain ⟨v,u,rfl,sm,hd1,hd2⟩:=q1
 obtain ⟨u1,u2,rfl,ru1,ru2⟩:=vals2 r1
 have hd2':∃ ys0,d2=.tup ys0∧ys0=ys:=by
  cases d2 with
  | tup ys0=>cases ey;exact ⟨_,rfl,rfl⟩
  | non=>cases ey
  | bl _=>cases ey
  | int _=>cases ey
  | str _=>cases ey
  | lst _=>cases ey
  | dct _ _=>cases ey
 obtain ⟨_,rfl,rfl⟩:=hd2'
 obtain ⟨q2,vs2,rfl,hq2,t2⟩:=zcv.tup (.inl hd2)
 cases ru2
 obtain ⟨its2,rv2,pt2,_⟩:=I1.tuple hq2
 cases d1 with
 | tup xs0 =>
  cases ex
  obtain ⟨q,vs,rfl,hq,t⟩:=zcv.tup (.inl hd1)
  cases ru1
  obtain ⟨its,rv,pt,hz⟩:=I1.tuple hq
  obtain ⟨f1,f2,f3,f4,f5,f6⟩:=zkC "tuple_iterator" "tuple_iterator" s1.heap q q2
  refine callType_new F.called_zip (by decide) (F.typeCall_zip_2 _ _) (F.newCall_zip_2 _ _) (fun obj=>F.args_object_init_3 obj _ _) F.entry_zip_new (zjN q q2 its.toArray its2.toArray) ⟨pt,pt2,⟨_,f1,rfl⟩,wpAny_pyIter_zip f1 ?_⟩
  exact ⟨_,[s1.heap.objs.size+4,s1.heap.objs.size+2,s1.heap.objs.size+3,s1.heap.objs.size,s1.heap.objs.size+1],_,ItP (zp1 X.K q vs) (zp1 X.K q2 vs2),H1,rfl,I1.kept (t':=s1.toks) f6,zkG zjt zjt (zl8 _),⟨f1,f2,⟨_,_,f3⟩,⟨_,f4,rfl,rfl⟩,⟨_,f5,rfl,rfl⟩⟩,zmk I1,k _ H1 sm (zmf (zgT hq t) (zgT hq2 t2))⟩
 | lst xs0 =>
  cases ex
  simp only [Den] at hd1
  obtain ⟨q,vs,rfl,hq,t⟩:=hd1
  cases ru1
  obtain ⟨its,rv,pt,hz⟩:=I1.list hq.sq
  obtain ⟨f1,f2,f3,f4,f5,f6⟩:=zkC "list_iterator" "tuple_iterator" s1.heap q q2
  refine callType_new F.called_zip (by decide) (F.typeCall_zip_2 _ _) (F.newCall_zip_2 _ _) (fun obj=>F.args_object_init_3 obj _ _) F.entry_zip_new (zjO q q2 its.toArray its2.toArray) ⟨pt.isList,pt2,⟨_,f1,rfl⟩,wpAny_pyIter_zip f1 ?_⟩
  exact ⟨_,[s1.heap.objs.size+4,s1.heap.objs.size+2,s1.heap.objs.size+3,s1.heap.objs.size,s1.heap.objs.size+1],_,ItP (zr5 X.K q vs) (zp1 X.K q2 vs2),H1,rfl,I1.kept (t':=s1.toks) f6,zkG zoc zjt (zl8 _),⟨f1,f2,⟨_,_,f3⟩,⟨_,f4,rfl,rfl⟩,⟨_,f5,rfl,rfl⟩⟩,zmk I1,k _ H1 sm (zmf (zmj hq t) (zgT hq2 t2))⟩
 | non=>cases ex
 | bl _=>cases ex
 | int _=>cases ex
 | str _=>cases ex
 | dct _ _=>cases ex
end
end ZS
namespace ZQ
open PySem PySem.Spec PyProof.Rows L2 ZS
section
variable {X:Cx} {a b:Expr} {pos p p2:Pos} {fa fb:Z.EF} {elts:List Expr} {x1:Nat}
theorem zhI (hg:Gl X "zip") (hm:X.mg "zip" = none) (ha:QE X a fa) (hb:QE X b fb) (hs:starEach [a,b] X.env=[(false,eval a X.env),(false,eval b X.env)]:=by rfl) (hs2:starEach [b] X.env=[(false,eval b X.env)]:=by rfl)
  (h1:starEach (a :: [b]) X.env=(false,eval a X.env) :: starEach [b] X.env:=by rfl) (h2:starEach (b :: []) X.env=(false,eval b X.env) :: starEach [] X.env:=by rfl):QJ X (.Tuple elts x1 p2) (.Call (.Name "zip" p) [a,b] [] pos) (Z.zoP fa fb) :=
 ⟨ZS.zhI hg hm ha.p hb.p hs hs2 h1 h2⟩
end
end ZQ
noncomputable section
namespace Z
end Z
end
namespace ZS
open PySem PySem.Spec PyProof.Rows L2
end ZS
namespace ZQ
open PySem PySem.Spec PyProof.Rows L2 ZS
end ZQ
noncomputable section
namespace Z
noncomputable def zr4 (hi:Int) (n:Nat):List D:=(List.range n).map fun i=>D.int (hi-(i:Nat))
noncomputable def zqh:D→D→D→Res (List D)
 | .int i,.int j,.int k=>guard (k=-1∧-1000000000≤i∧i≤1000000000∧-1000000000≤j∧j≤1000000000) (.ok (zr4 i (i-j).toNat))
 | _,_,_=>.bad
noncomputable def zsb (a b c:EF) (ρ:Env):Res (List D):=(a ρ).bind fun x=>(b ρ).bind fun y=>(c ρ).bind fun z=>zqh x y z
@[simp] theorem zsa (a b c:EF) (ρ:Env):zsb a b c ρ=(a ρ).bind fun x=>(b ρ).bind fun y=>(c ρ).bind fun z=>zqh x y z:=rfl
noncomputable def zpv:D→D→Res (List D)
 | .lst [d],.int n=>guard (0≤n∧n≤16777216) (.ok (List.replicate n.toNat d))
 | _,_=>.bad
theorem znM (d:D) (n:Int):zpv (.lst [d]) (.int n)=guard (0≤n∧n≤16777216) (.ok (List.replicate n.toNat d)):=rfl
theorem zok {x y:D} {ds:List D} (h:zpv x y=.ok ds):∃ d n,x=.lst [d]∧y=.int n∧0≤n∧n≤16777216∧ds=List.replicate n.toNat d:=by
 unfold zpv at h
 split at h
 ·obtain ⟨⟨h1,h2⟩,e⟩:=zfn h
  cases e
  exact ⟨_,_,rfl,rfl,h1,h2,rfl⟩
 ·cases h
noncomputable def zpR (a:LF) (b:EF) (ρ:Env):Res (List D):=(a ρ).bind fun xs=>(b ρ).bind fun y=>zpv (.lst xs) y
@[simp] theorem ztd (a:LF) (b:EF) (ρ:Env):zpR a b ρ=(a ρ).bind fun xs=>(b ρ).bind fun y=>zpv (.lst xs) y:=rfl
noncomputable def zrH:D→Res D
 | .bl b=>.ok (.bl (!b))
 | _=>.bad
@[simp] theorem zqD (b:Bool):zrH (.bl b)=.ok (.bl (!b)):=rfl
end Z
end
namespace ZS
open PySem PySem.Spec PyProof.Rows L2
section
variable {X:Cx} {tg:Expr}
variable {a b c:Expr} {p pos:Pos} {fa fb fc:Z.EF}
theorem zir {K:PySem.W.Frag} {H:Hp} {d:Z.D} {w:V} (h:Den K H d w):∀ n,zaE K H (List.replicate n d) (List.replicate n w)
 | 0=>zaE.nil
 | n+1=>zaE.cons h (zir h n)
theorem zkW {w:V}:∀ n:Nat,(List.replicate n [w]).flatten=List.replicate n w
 | 0=>rfl
 | n+1=>by rw [List.replicate_succ,List.flatten_cons,zkW n];rfl
theorem zkZ {la:Z.LF} (ha:DL X a la) (hb:DW X b fb):DL X (.BinOp a .Mult b pos) (Z.zpR la fb):=PE.imp (pe_op L2.zpA ha hb) fun σ H Q ⟨ρ,ds,r,e,k⟩=>by
 obtain ⟨xs,ea,e⟩:=Z.Res.bind_ok e
 obtain ⟨y,eb,e⟩:=Z.Res.bind_ok e
 obtain ⟨d,n,hx,rfl,h0,h1,rfl⟩:=Z.zok e
 cases hx
 refine ⟨ρ,[d],r,ea,fun l vs H1 s1 hn hv t=>⟨ρ,_,r.up s1,eb,fun u H2 s2 d2=>?_⟩⟩
 simp only [zaE] at t
 obtain ⟨w,r',rfl,dw,rfl⟩:=t
 refine ⟨l,n,[w],rfl,d2.int,s2 _ _ hv,by lia,by lia,?_,fun z hz=>?_⟩
 ·rw [sizeLine_eq];simp;lia
 ·rw [zkW]
  have s12:=s1.trans s2
  have s3:Same H2 (upd H2 z (.lst (List.replicate n.toNat w))):=zb0 hz
  exact k z _ _ (s12.trans s3) (s12.free hz) upd_same (zir ((dw.up s2).up s3) _)
end
end ZS
namespace ZQ
open PySem PySem.Spec PyProof.Rows L2 ZS
section
variable {X:Cx} {tg a b c:Expr} {p pos:Pos} {fa fb fc:Z.EF} {la:Z.LF}
theorem zkZ (ha:QL X a la) (hb:QW X b fb):QL X (.BinOp a .Mult b pos) (Z.zpR la fb):=⟨ZS.zkZ ha.p hb.p⟩
end
end ZQ
noncomputable section
namespace Z
noncomputable def zfa:List D→Option (List (List Nat))
 | []=>some []
 | .str c :: r=>(zfa r).map (c :: ·)
 | _ :: _=>none
noncomputable def zf9 (sep:List Nat):List (List Nat)→List Nat
 | []=>[]
 | [x]=>x
 | x :: y :: r=>x++sep++zf9 sep (y :: r)
noncomputable def zjL:D→D→Res D
 | .str sep,.lst xs=>match zfa xs with
  | some ts=>guard ((ts.map List.length).sum+ts.length*sep.length≤line) (.ok (.str (zf9 sep ts)))
  | none=>.bad
 | _,_=>.bad
theorem znl {x y d:D} (h:zjL x y=.ok d):∃ sep xs ts,x=.str sep∧y=.lst xs∧zfa xs=some ts∧(ts.map List.length).sum+ts.length*sep.length≤16777216∧d=.str (zf9 sep ts):=by
 unfold zjL at h
 split at h
 ·split at h
  ·rename_i hs
   obtain ⟨h1,e⟩:=zfn h
   cases e
   exact ⟨_,_,_,rfl,rfl,hs,h1,rfl⟩
  ·cases h
 ·cases h
theorem zht:∀ ts:List (List Nat),zfa (ts.map D.str)=some ts
 | []=>rfl
 | t :: ts=>by simp [zfa,zht ts]
theorem ziY:∀ ts:List (List Nat),zf9 [] ts=ts.flatten
 | []=>rfl
 | [x]=>by simp [zf9]
 | x :: y :: r=>by rw [zf9,ziY (y :: r)];simp
theorem zl4 {ts:List (List Nat)} (h:ts.flatten.length≤16777216):zjL (.str []) (.lst (ts.map D.str))=.ok (.str ts.flatten):=by
 show (match zfa (ts.map D.str) with | some ts=>guard ((ts.map List.length).sum+ts.length*0≤line) (Res.ok (D.str (zf9 [] ts))) | none=>Res.bad)=_
 rw [zht]
 simp only [ziY]
 rw [zfm]
 rw [List.length_flatten] at h
 simpa using h
noncomputable def zlj:D→D→Res D
 | .str t,.str [c]=>.ok (.int (t.count c))
 | _,_=>.bad
@[simp] theorem zrV (t:List Nat) (c:Nat):zlj (.str t) (.str [c])=.ok (.int (t.count c)):=rfl
theorem znm {x y d:D} (h:zlj x y=.ok d):∃ t c,x=.str t∧y=.str [c]∧d=.int (t.count c):=by
 unfold zlj at h
 split at h
 ·cases h;exact ⟨_,_,rfl,rfl,rfl⟩
 ·cases h
noncomputable def zpb:D→Res D
 | .tup xs=>.ok (.tup xs.reverse)
 | .str cs=>guard (cs.length≤line) (.ok (.str cs.reverse))
 | _=>.bad
@[simp] theorem zqB (xs:List D):zpb (.tup xs)=.ok (.tup xs.reverse):=rfl
@[simp] theorem zqC (cs:List Nat):zpb (.str cs)=guard (cs.length≤line) (.ok (.str cs.reverse)):=rfl
noncomputable def znu (is:List Nat) (d:D) (ρ:Env):Res Env:=match d with
 | .tup ds=>zeE is ds ρ
 | .lst ds=>zeE is ds ρ
 | _=>.bad
theorem zkV (is:List Nat) (ds:List D) (ρ:Env):znu is (.lst ds) ρ=zeE is ds ρ:=rfl
end Z
end
namespace ZS
open PySem PySem.Spec PyProof.Rows L2
def zpg (K:PySem.W.Frag) (H:Hp) (b:Bool) (d:Z.D) (v:V):Prop:=if b=true then zcv K H d v else Den K H d v
def zfX (K:PySem.W.Frag) (H:Hp):List Bool→List Z.D→List V→Prop
 | [],[],vs=>vs=[]
 | b :: bs,d :: ds,vs=>∃ v r,vs=v :: r∧zpg K H b d v∧zfX K H bs ds r
 | _,_,_=>False
theorem zpg.up {K:PySem.W.Frag} {H H':Hp} {b:Bool} {d:Z.D} {v:V} (h:zpg K H b d v) (e:Same H H'):zpg K H' b d v:=by
 unfold zpg at h ⊢
 cases b with
 | true=>exact zcv.up (show zcv K H d v from h) e
 | false=>exact Den.up (show Den K H d v from h) e
theorem zfX.up {K:PySem.W.Frag} {H H':Hp} (e:Same H H'):∀ {bs:List Bool} {ds:List Z.D} {vs:List V},zfX K H bs ds vs→zfX K H' bs ds vs
 | [],[],_,h=>h
 | [],_ :: _,_,h=>h.elim
 | _ :: _,[],_,h=>h.elim
 | b :: bs,d :: ds,_,⟨v,r,e1,h1,h2⟩=>⟨v,r,e1,h1.up e,zfX.up e h2⟩
theorem zfX.length {K:PySem.W.Frag} {H:Hp}:∀ {bs:List Bool} {ds:List Z.D} {vs:List V},zfX K H bs ds vs→vs.length=ds.length∧ds.length=bs.length
 | [],[],vs,h=>by have:vs=[]:=h;subst this;exact ⟨rfl,rfl⟩
 | [],_ :: _,_,h=>h.elim
 | _ :: _,[],_,h=>h.elim
 | b :: bs,d :: ds,_,⟨v,r,e1,h1,h2⟩=>by
  have:=zfX.length h2
  subst e1
  simp [this.1,this.2]
theorem zfX.get {K:PySem.W.Frag} {H:Hp}:∀ {bs:List Bool} {ds:List Z.D} {vs:List V} {i:Nat} {b:Bool} {d:Z.D},zfX K H bs ds vs→bs[i]?=some b→ds[i]?=some d→∃ v,vs[i]?=some v∧zpg K H b d v
 | [],[],_,_,_,_,_,e,_=>by simp at e
 | [],_ :: _,_,_,_,_,h,_,_=>h.elim
 | _ :: _,[],_,_,_,_,h,_,_=>h.elim
 | b :: bs,d :: ds,_,0,b',d',⟨v,r,e1,h1,h2⟩,eb,ed=>by
  simp at eb ed
  subst e1;subst eb;subst ed
  exact ⟨v,rfl,h1⟩
 | b :: bs,d :: ds,_,i+1,b',d',⟨v,r,e1,h1,h2⟩,eb,ed=>by
  subst e1
  obtain ⟨u,q1,q2⟩:=zfX.get (i:=i) h2 (by simpa using eb) (by simpa using ed)
  exact ⟨u,by simpa using q1,q2⟩
noncomputable def zty (K:PySem.W.Frag) (bs:List Bool) (f:Z.AF):TA:=fun σ H Q=>∃ ρ ds,RE K H σ ρ∧f ρ=.ok ds∧∀ vs H',Same H H'→zfX K H' bs ds vs→Q vs H'
abbrev DAF (X:Cx) (es:List Expr) (bs:List Bool) (f:Z.AF):Prop:=PA X es (zty X.K bs f)
section
variable {X:Cx} {e:Expr} {es:List Expr} {pos:Pos} {f:Z.EF}
noncomputable def ztA (K:PySem.W.Frag) (bs:List Bool) (m:List Z.D→Z.Res Z.D):Sp:=fun vs H Q _=>∃ ds d,zfX K H bs ds vs∧m ds=.ok d∧∀ v H',Same H H'→Den K H' d v→Q v H'
end
section
variable {P:Program} {w:World} {K:PySem.W.Frag} {mg:Str→Option Value} {base:Heap}
structure CalB (P:Program) (w:World) (K:PySem.W.Frag) (mg:Str→Option Value) (base:Heap) (x:Str) (k:Nat) (ps:List Str) (bs:List Bool) (m:List Z.D→Z.Res Z.D):Prop where
 ex:∃ g fd,FnOk P w K mg base CX0 k g fd ps (ztA K bs m)∧mg x=some (.ref g)∧PySem.W.keepIn K (.ref g)=true∧Binds K fd ps []
end
section
variable {X:Cx} {e:Expr} {es:List Expr} {pos:Pos}
end
end ZS
namespace ZQ
open PySem PySem.Spec PyProof.Rows L2 ZS
structure QAF (X:Cx) (es:List Expr) (bs:List Bool) (f:Z.AF):Prop where p:DAF X es bs f
section
variable {X:Cx} {e:Expr} {es:List Expr} {pos:Pos} {f:Z.EF}
end
end ZQ
namespace ZS
open PySem PySem.Spec PyProof.Rows L2
section
variable {prog:Program} {w:World} {A:Around} {E:Value→Shared→Prop} {s:Shared}
theorem zhH {it l:Addr} {items:Array Value} (hne:l≠it):∀ (n i:Nat) (s:Shared) (Q:List Value→Shared→Prop),s.heap.IsListIter it l i→s.heap.IsList l items→i+n≤items.size →
  (∀ h',h'.IsListIter it l (i+n)→Heap.SameBut it s.heap h'→Q ((items.toList.drop i).take n) { s with heap:=h' })→wpAny (model prog w) A (draw (.ref it) n) Q E s
 | 0,i,s,Q,hit,_,_,hQ=>by
  show wpAny _ _ (pure []) Q E s
  exact wpAny_pure (by simpa using hQ s.heap hit (Heap.SameBut.refl ..))
 | n+1,i,s,Q,hit,ht,hle,hQ=>by
  have hlt:i < items.size:=by lia
  show wpAny _ _ (pyNext (.ref it) >>= _) Q E s
  refine wpAny_bind (wpAny_pyNext_list_item hit ht (x:=items[i]) (by simp [hlt]) fun h₁ hit₁ hs₁=>?_)
  refine wpAny_bind (wpAny_holding (zhH hne n (i+1) _ _ hit₁ (ht.extBut hs₁.extBut hne) (by lia) fun h₂ hit₂ hs₂=>wpAny_pure ?_))
  have hd:items.toList.drop i=items[i] :: items.toList.drop (i+1):=by simp [List.drop_eq_getElem_cons,hlt]
  have:=hQ h₂ (by rw [show i+(n+1)=i+1+n by lia];exact hit₂) (hs₁.trans hs₂)
  rw [hd,List.take_succ_cons] at this
  exact this
theorem zfD {t:Addr} {items:Array Value} {Q:List Value→Shared→Prop} (hh:A.handled=none) (ht:s.heap.IsList t items)
  (hQ:∀ h',Heap.ExtBut s.heap.objs.size s.heap h'→Q items.toList { s with heap:=h' }):wpAny (model prog w) A (unpackItems (.ref t) items.size none) Q E s:=by
 have hlt:t≠s.heap.objs.size:=by obtain ⟨o,ho,_⟩:=ht;exact Nat.ne_of_lt (Heap.lt_size ho)
 unfold unpackItems
 refine wpAny_bind ?_
 ·unfold notIterableAtAll
  refine wpAny_bind (wpAny_specialOf ht.typeIs slot_list_iter.lookup ?_)
  refine wpAny_pure ?_
  simp only [Bool.false_eq_true,if_false]
  refine wpAny_bind (wpAny_holding (wpAny_pyIter_list ht ?_))
  refine wpAny_bind (wpAny_holding (zhH hlt items.size 0 _ _ ⟨_,Heap.get?_push_size _ rfl,rfl,rfl⟩ (ht.push _) (by lia) fun h₁ hit₁ hs₁=>?_))
  have hall:List.take items.size (List.drop 0 items.toList)=items.toList:=by
   rw [List.drop_zero];exact List.take_of_length_le (by simp)
  rw [hall]
  rw [if_neg (by simp)]
  have ht₁:h₁.IsList t items:=(ht.push _).extBut hs₁.extBut hlt
  refine wpAny_bind (wpAny_holding (wpAny_pyNext_list_end hh hit₁ ht₁ (by simp) fun h₂ he₂=>?_))
  simp only [Option.isSome_none,Bool.false_eq_true,if_false]
  refine wpAny_pure (hQ h₂ fun b o hb e=>he₂ b o hb (hs₁.extBut b o hb (Heap.get?_push_of_some _ e)))
theorem zfz {env:Env} {elts:List Expr} {x1} {pos:Pos} {t:Addr} {items:Array Value} {Q:Unit→Shared→Prop} (hh:A.handled=none) (ht:s.heap.IsList t items)
  (hn:(assignEach elts env).length=items.size) (hstar:(assignEach elts env).findIdx? (·.1)=none)
  (h:∀ h',Heap.ExtBut s.heap.objs.size s.heap h'→wpAny (model prog w) A (assignInOrder ((assignEach elts env).map (·.2)) items.toList) Q E { s with heap:=h' }) :
  wpAny (model prog w) A (assign (.Tuple elts x1 pos) env (.ref t)) Q E s:=by
 rw [assign_Tuple]
 refine wpAny_bind (wpAny_standAt ?_)
 unfold unpack
 rw [hn,hstar]
 exact wpAny_bind (wpAny_holding (zfD hh ht h))
end
section
variable {X:Cx} {tg o e a b:Expr} {es:List Expr} {pos:Pos} {fa fb:Z.EF} {H0:Hp}
noncomputable def zsj (K:PySem.W.Frag) (n:Nat) (t:TGs):TG:=fun v σ H Q=>∃ a xs,v=.ref a∧SqL K H a xs∧xs.length=n∧t xs σ H Q
theorem zpy {es:List Expr} {k:Nat} {t:TGs} {n:Nat} (hc:X.calm=true) (h:PGs X es t)
  (hn:(assignEach es X.env).length=n:=by rfl) (hst:(assignEach es X.env).findIdx? (·.1)=none:=by rfl):PG X (.Tuple es k pos) (zsj X.K n t):=by
 intro pins s σ H v u Q I r hw
 obtain ⟨a,xs,e1,hq,hl,hw⟩:=hw
 subst e1
 cases r
 obtain ⟨its,rv,ht,hz⟩:=I.list hq
 refine zfz (I.ok.hd hc) ht.isList (by simp [hn,←hl,rv.length]) hst fun h' hx=>?_
 have I1:Inv X pins σ H { s with heap:=h' }:=I.kept (t':=s.toks) fun b o e=>hx b o (Nat.ne_of_lt (Heap.lt_size e)) e
 exact h pins _ σ H xs _ Q I1 (by simpa using rv) hw
theorem zhE:∀ (is:List Nat) (ds:List Z.D) (ρ ρ':Z.Env),Z.zeE is ds ρ=.ok ρ'→ds.length=is.length:=by
 intro is
 induction is with
 | nil=>intro ds ρ ρ' e;cases ds with
  | nil=>rfl
  | cons d ds=>cases e
 | cons i is ih=>intro ds ρ ρ' e;cases ds with
  | nil=>cases e
  | cons d ds=>simp [ih ds _ _ e]
theorem zjh {x1 n:Nat} {is:List Nat} (hc:X.calm=true) (h:DGs X H0 es is) (hl:is.length=n) (hn:(assignEach es X.env).length=n:=by rfl) (hst:(assignEach es X.env).findIdx? (·.1)=none:=by rfl):DG X H0 (.Tuple es x1 pos) (Z.znu is):=by
 intro pins s σ H v u Q I r hw
 obtain ⟨ρ,d,ρ',rs,hd,e,k⟩:=hw
 unfold Z.znu at e
 split at e
 ·rename_i ds
  obtain ⟨q,vs,rfl,hq,t⟩:=zcv.tup (.inl hd)
  exact pg_tup hc h hn hst pins s σ H _ u Q I r ⟨q,vs,rfl,hq,by rw [t.length,zhE is ds ρ ρ' e];exact hl,ρ,ds,ρ',rs,t,e,k⟩
 ·rename_i ds
  obtain ⟨q,vs,rfl,hq,t⟩:=zcv.lst (.inl hd)
  exact zpy hc h hn hst pins s σ H _ u Q I r ⟨q,vs,rfl,hq,by rw [t.length,zhE is ds ρ ρ' e];exact hl,ρ,ds,ρ',rs,t,e,k⟩
 ·cases e
theorem zkE:∀ {ts:List Str} {its:List Value},Vals (ts.map V.str) its→∃ l:List (Str×Tok),strValues l=its∧l.map (·.1)=ts
 | [],its,h=>by cases h;exact ⟨[],rfl,rfl⟩
 | t :: ts,its,h=>by
  cases h with
  | cons r rr =>
   obtain ⟨tk,rfl⟩:=r
   obtain ⟨l,rfl,h2⟩:=zkE rr
   exact ⟨(t,tk) :: l,rfl,by rw [←h2];rfl⟩
def rJoin (K:PySem.W.Frag):V→List V→Hp→VK→Prop:=fun x vs H Q=>∃ sep q ts,x=.str sep∧vs=[.ref q]∧SqL K H q (ts.map V.str)∧JoinOk sep ts=true∧Q (.str (Txt.join sep ts)) H
theorem zoD:MtR X "str.join" (rJoin X.K):=by
 intro pins s σ H x vs v us Q I rx rv h
 obtain ⟨sep,q,ts,rfl,rfl,hq,hok,k⟩:=h
 obtain ⟨t,rfl⟩:=rx
 obtain ⟨u,rfl,ru⟩:=rv.one
 cases ru
 obtain ⟨its,r,pl,hz⟩:=I.list hq
 obtain ⟨l,rfl,hl⟩:=zkE r
 exact SC.join pl.isList hl hok fun t' c=>⟨.str (Txt.join sep ts),H,I.tok c,⟨t',rfl⟩,k⟩
noncomputable def mkS (cs:List Nat):Str:=⟨cs.toArray⟩
theorem zhJ {K : PySem.W.Frag} {H : Hp} : ∀ {xs : List Z.D} {ts : List (List Nat)} {vs : List V}, Z.zfa xs = some ts → zaE K H xs vs → vs = (ts.map mkS).map V.str
 | [],ts,vs,e,h=>by cases e;simp only [zaE] at h;subst h;rfl
 | x :: xs,ts,vs,e,h=>by
  cases x with
  | str c =>
   have e':(Z.zfa xs).map (c :: ·)=some ts:=e
   cases q:Z.zfa xs with
   | none=>rw [q] at e';cases e'
   | some ts' =>
    rw [q] at e'
    cases e'
    simp only [zaE] at h
    obtain ⟨v,r,rfl,hv,ht⟩:=h
    simp only [Den] at hv
    rw [hv,zhJ q ht];rfl
  | non=>cases e
  | bl _=>cases e
  | int _=>cases e
  | tup _=>cases e
  | lst _=>cases e
  | dct _ _=>cases e
theorem zmc (cs:List Nat):(mkS cs).length=cs.length:=by simp [mkS,Str.length]
theorem zmd (a b:List Nat):mkS a++mkS b=mkS (a++b):=by
 show (⟨a.toArray++b.toArray⟩:Str)=_
 simp [mkS]
theorem zoL (sep:List Nat):∀ ts:List (List Nat),Txt.join (mkS sep) (ts.map mkS)=mkS (Z.zf9 sep ts):=by
 intro ts
 show Builtin.Str.glued _ _=_
 rw [StrLaws.glued_eq_join]
 induction ts with
 | nil=>rfl
 | cons x ts ih =>
  cases ts with
  | nil=>rfl
  | cons y r =>
   show mkS x++mkS sep++Str.join (mkS sep) ((y :: r).map mkS)=_
   rw [ih,zmd,zmd]
   rfl
theorem zoK {sep:List Nat} {ts:List (List Nat)} (h:(ts.map List.length).sum+ts.length*sep.length≤16777216):JoinOk (mkS sep) (ts.map mkS)=true:=by
 unfold JoinOk
 rw [StrLaws.joinTotal]
 have e:(ts.map mkS).map (·.length)=ts.map List.length:=by rw [List.map_map];exact List.map_congr_left fun x _=>zmc x
 rw [e,List.length_map,zmc]
 simp only [Builtin.Str.tooLong,Bool.not_eq_true',decide_eq_false_iff_not,gt_iff_lt,Nat.not_lt]
 rw [sizeLine_eq];exact h
theorem zku {p1 p2:Pos} (ho:DE X o fa) (hb:DW X b fb)
  (hbase:attributeBase o "join" X.env (eval o X.env)=eval o X.env:=by rfl)
  (hfew:((backTo p2 (starEach (b :: []) X.env)).all (fun x=>!x.1)&&(backToKw p2 (keywordEach [] X.env)).all (fun x=>x.1.isSome)
   && decide ((b :: []).length+([]:List Keyword).length+(if ([]:List Keyword).isEmpty then 0 else 1) < 30))=true:=by rfl)
  (hline:(p1.endLine==p2.line)=true:=by rfl) (hs1:starEach (b :: []) X.env=(false,eval b X.env) :: starEach [] X.env:=by rfl) (hplain:(backTo p2 (starEach [] X.env)).any (·.1)=false:=by rfl) :
  DE X (.Call (.Attribute o "join" p1) [b] [] p2) (Z.eB Z.zjL fa fb) :=
 PE.imp (zlX PySem.F.plainAttrs_str PySem.F.slot_str_join PySem.F.type_str_join zoD ho (pa_cons hb pa_nil hs1) hbase hfew hline hs1 hplain) fun σ H Q ⟨ρ,d,r,e,k⟩=>by
  obtain ⟨x,ea,e⟩:=Z.Res.bind_ok e
  obtain ⟨y,eb,e⟩:=Z.Res.bind_ok e
  obtain ⟨sep,xs,ts,rfl,rfl,et,hl,rfl⟩:=Z.znl e
  refine ⟨ρ,_,r,ea,fun v H1 s1 d1=>?_⟩
  simp only [Den] at d1
  subst d1
  refine ⟨rfl,ρ,_,r.up s1,eb,fun u H2 s2 d2=>?_⟩
  obtain ⟨q,vs,rfl,hq,t⟩:=d2.lst
  rw [zhJ et t] at hq
  refine ⟨mkS sep,q,ts.map mkS,rfl,rfl,hq,zoK hl,?_⟩
  rw [zoL]
  exact k _ H2 (s1.trans s2) ze4
theorem zoy (x : Str) (c : Nat) (lim : Nat) : ∀ (n lo : Nat) (st : Array Nat × Nat), st.2 ≤ lo → st.1.size + n ≤ lim → lo + n = x.length + 1 →
  (forIn (List.range' lo n) st (StrLaws.occBody x ⟨#[c]⟩ x.length lim)).run.fst.size=st.1.size+(x.cps.toList.drop lo).count c:=by
 intro n
 induction n with
 | zero =>
  intro lo st h1 h2 h3
  have:x.cps.toList.drop lo=[]:=List.drop_eq_nil_of_le (by simp;show x.length≤lo;lia)
  simp [this]
 | succ n ih =>
  intro lo st h1 h2 h3
  rw [List.range'_succ,List.forIn_cons]
  by_cases hlo:lo < x.length
  ·have hlo':lo < x.cps.toList.length:=by rw [Array.length_toList];exact hlo
   have hsub:Builtin.Str.subAt x ⟨#[c]⟩ lo=decide (x.cps.toList[lo]=c):=by
    have so:=StrLaws.subAt_one x c lo
    rw [Bool.eq_iff_iff,decide_eq_true_eq]
    constructor
    ·intro h
     have:=so.mp ⟨by show lo+1≤x.length;lia,h⟩
     rw [List.getElem?_eq_getElem hlo'] at this
     exact Option.some.inj this
    ·intro h
     exact (so.mpr (by rw [List.getElem?_eq_getElem hlo',h])).2
   rw [List.drop_eq_getElem_cons hlo']
   by_cases hc:x.cps.toList[lo]=c
   ·have hcond:((st.1.size < lim∧st.2≤lo)∧lo+(⟨#[c]⟩:Str).length≤x.length)∧Builtin.Str.subAt x ⟨#[c]⟩ lo=true:=⟨⟨⟨by lia,h1⟩,by show lo+1≤x.length;lia⟩,by rw [hsub];simp [hc]⟩
    have e:StrLaws.occBody x ⟨#[c]⟩ x.length lim lo st=pure (ForInStep.yield (st.1.push lo,lo+1)):=by unfold StrLaws.occBody;rw [if_pos hcond];rfl
    rw [e]
    have:=ih (lo+1) (st.1.push lo,lo+1) (Nat.le_refl _) (by simp;lia) (by lia)
    simp only [pure_bind]
    rw [this,hc,List.count_cons_self]
    simp only [Array.size_push]
    lia
   ·have hcond:¬ (((st.1.size < lim∧st.2≤lo)∧lo+(⟨#[c]⟩:Str).length≤x.length)∧Builtin.Str.subAt x ⟨#[c]⟩ lo=true):=fun z=>by rw [hsub] at z;exact hc (of_decide_eq_true z.2)
    have e:StrLaws.occBody x ⟨#[c]⟩ x.length lim lo st=pure (ForInStep.yield (st.1,st.2)):=by unfold StrLaws.occBody;rw [if_neg hcond]
    rw [e]
    have:=ih (lo+1) (st.1,st.2) (by simp;lia) (by simp;lia) (by lia)
    simp only [pure_bind]
    rw [this,List.count_cons_of_ne hc]
  ·have hcond:¬ (((st.1.size < lim∧st.2≤lo)∧lo+(⟨#[c]⟩:Str).length≤x.length)∧Builtin.Str.subAt x ⟨#[c]⟩ lo=true):=fun z=>hlo (by have:=z.1.2;change lo+1≤x.length at this;lia)
   have e:StrLaws.occBody x ⟨#[c]⟩ x.length lim lo st=pure (ForInStep.yield (st.1,st.2)):=by unfold StrLaws.occBody;rw [if_neg hcond]
   rw [e]
   have:=ih (lo+1) (st.1,st.2) (by simp;lia) (by simp;lia) (by lia)
   simp only [pure_bind]
   rw [this]
   have h5:x.cps.toList.drop lo=[]:=List.drop_eq_nil_of_le (by simp;show x.length≤lo;lia)
   have h6:x.cps.toList.drop (lo+1)=[]:=List.drop_eq_nil_of_le (by simp;show x.length≤lo+1;lia)
   rw [h5,h6]
theorem zl1 (t:List Nat) (c:Nat):(Builtin.Str.occurrences (mkS t) ⟨#[c]⟩ 0 (mkS t).length ((mkS t).length+1)).length=t.count c:=by
 rw [StrLaws.occ_eq]
 have:=zoy (mkS t) c ((mkS t).length+1) ((mkS t).length+1) 0 (#[],0) (Nat.le_refl _) (by simp) (by lia)
 simpa [mkS] using this
def zrz:V→List V→Hp→VK→Prop:=fun x vs H Q=>∃ t c,x=.str (mkS t)∧vs=[.str ⟨#[c]⟩]∧Q (.int ((t.count c:Nat):Int)) H
theorem zoE:MtR X "str.count" zrz:=by
 intro pins s σ H x vs v us Q I rx rv h
 obtain ⟨t,c,rfl,rfl,k⟩:=h
 obtain ⟨tk,rfl⟩:=rx
 obtain ⟨u,rfl,ru⟩:=rv.one
 obtain ⟨tk2,rfl⟩:=ru
 refine call_gives F.slot_str_count (typeIs_str _ _ _) F.entry_str_count (F.args_str_count_2 _ _) (gives_str_count _ _ tk tk2) ?_
 rw [zl1]
 exact ⟨.int _,H,I.tok _,⟨_,rfl⟩,k⟩
theorem zkw {p1 p2:Pos} (ho:DW X o fa) (hb:DW X b fb)
  (hbase:attributeBase o "count" X.env (eval o X.env)=eval o X.env:=by rfl)
  (hfew:((backTo p2 (starEach (b :: []) X.env)).all (fun x=>!x.1)&&(backToKw p2 (keywordEach [] X.env)).all (fun x=>x.1.isSome)
   && decide ((b :: []).length+([]:List Keyword).length+(if ([]:List Keyword).isEmpty then 0 else 1) < 30))=true:=by rfl)
  (hline:(p1.endLine==p2.line)=true:=by rfl) (hs1:starEach (b :: []) X.env=(false,eval b X.env) :: starEach [] X.env:=by rfl) (hplain:(backTo p2 (starEach [] X.env)).any (·.1)=false:=by rfl) :
  DE X (.Call (.Attribute o "count" p1) [b] [] p2) (Z.eB Z.zlj fa fb) :=
 PE.imp (zlX PySem.F.plainAttrs_str PySem.F.slot_str_count PySem.F.type_str_count zoE ho (pa_cons hb pa_nil hs1) hbase hfew hline hs1 hplain) fun σ H Q ⟨ρ,d,r,e,k⟩=>by
  obtain ⟨x,ea,e⟩:=Z.Res.bind_ok e
  obtain ⟨y,eb,e⟩:=Z.Res.bind_ok e
  obtain ⟨t,c,rfl,rfl,rfl⟩:=Z.znm e
  refine ⟨ρ,_,r,ea,fun v H1 s1 d1=>?_⟩
  have d1':=d1.str
  subst d1'
  refine ⟨rfl,ρ,_,r.up s1,eb,fun u H2 s2 d2=>?_⟩
  have d2':=d2.str
  subst d2'
  exact ⟨t,c,rfl,rfl,k _ H2 (s1.trans s2) zb4⟩
end
end ZS
namespace ZQ
open PySem PySem.Spec PyProof.Rows L2 ZS
section
variable {X:Cx} {tg o e a b:Expr} {es:List Expr} {pos:Pos} {fa fb:Z.EF} {H0:Hp}
theorem zjh {x1 n:Nat} {is:List Nat} (hc:X.calm=true) (h:QGs X H0 es is) (hl:is.length=n) (hn:(assignEach es X.env).length=n:=by rfl) (hst:(assignEach es X.env).findIdx? (·.1)=none:=by rfl):QG X H0 (.Tuple es x1 pos) (Z.znu is):=⟨ZS.zjh hc h.p hl hn hst⟩
theorem zku {p1 p2:Pos} (ho:QE X o fa) (hb:QW X b fb)
  (hbase:attributeBase o "join" X.env (eval o X.env)=eval o X.env:=by rfl)
  (hfew:((backTo p2 (starEach (b :: []) X.env)).all (fun x=>!x.1)&&(backToKw p2 (keywordEach [] X.env)).all (fun x=>x.1.isSome)
   && decide ((b :: []).length+([]:List Keyword).length+(if ([]:List Keyword).isEmpty then 0 else 1) < 30))=true:=by rfl)
  (hline:(p1.endLine==p2.line)=true:=by rfl) (hs1:starEach (b :: []) X.env=(false,eval b X.env) :: starEach [] X.env:=by rfl) (hplain:(backTo p2 (starEach [] X.env)).any (·.1)=false:=by rfl) :
  QE X (.Call (.Attribute o "join" p1) [b] [] p2) (Z.eB Z.zjL fa fb):=⟨ZS.zku ho.p hb.p hbase hfew hline hs1 hplain⟩
theorem zkw {p1 p2:Pos} (ho:QW X o fa) (hb:QW X b fb)
  (hbase:attributeBase o "count" X.env (eval o X.env)=eval o X.env:=by rfl)
  (hfew:((backTo p2 (starEach (b :: []) X.env)).all (fun x=>!x.1)&&(backToKw p2 (keywordEach [] X.env)).all (fun x=>x.1.isSome)
   && decide ((b :: []).length+([]:List Keyword).length+(if ([]:List Keyword).isEmpty then 0 else 1) < 30))=true:=by rfl)
  (hline:(p1.endLine==p2.line)=true:=by rfl) (hs1:starEach (b :: []) X.env=(false,eval b X.env) :: starEach [] X.env:=by rfl) (hplain:(backTo p2 (starEach [] X.env)).any (·.1)=false:=by rfl) :
  QE X (.Call (.Attribute o "count" p1) [b] [] p2) (Z.eB Z.zlj fa fb):=⟨ZS.zkw ho.p hb.p hbase hfew hline hs1 hplain⟩
end
end ZQ
namespace ZS
open PySem PySem.Spec PyProof.Rows L2
section
variable {prog:Program} {w:World} {A:Around} {E:Value→Shared→Prop} {s:Shared}
theorem zlC (n:Nat):Builtin.Slice.sliceAdjust none none (-1) (n:Int)=((n:Int)-1,-1):=by
 unfold Builtin.Slice.sliceAdjust
 have h1:((-1:Int) < 0):=by lia
 simp only [h1,if_true]
theorem zld (n:Nat):Builtin.Slice.slicePlaces ((n:Int)-1) (-1) (-1)=n:=by
 unfold Builtin.Slice.slicePlaces
 have h1:¬ ((-1:Int) > 0):=by lia
 simp only [h1,if_false,Int.neg_neg,Int.ediv_one]
 split<;>lia
theorem zgc {sl:Addr} {uk:Tok} {n:Nat} {Q:Int×Int×Nat→Shared→Prop} (hs:s.heap.IsSliceOf sl .none .none (.int (-1) uk))
  (h:Q ((n:Int)-1,-1,n) s):wpAny (model prog w) A (Builtin.Slice.sliceApplied (.ref sl) (pure (n:Int))) Q E s:=by
 obtain ⟨os,hos,hcs,hds⟩:=id hs
 unfold Builtin.Slice.sliceApplied Builtin.Slice.sliceFields
 refine wpAny_bind (wpAny_bind (wpAny_field hos hds (x:=.none) rfl (wpAny_bind (wpAny_field hos hds (x:=.none) rfl (wpAny_bind (wpAny_field hos hds (x:=.int (-1) uk) rfl (wpAny_pure ?_)))))))
 refine wpAny_bind (slicePart_int ?_)
 show wpAny _ _ (if ((-1:Int)==0)=true then _ else _) _ _ s
 rw [if_neg (by decide)]
 refine wpAny_bind (slicePart_none (wpAny_bind (slicePart_none (wpAny_bind (wpAny_pure ?_)))))
 show wpAny _ _ (match Builtin.Slice.sliceAdjust none none (-1) (n:Int) with | (lo,hi)=>pure (lo,(-1:Int),Builtin.Slice.slicePlaces lo hi (-1))) _ _ s
 rw [zlC n]
 show wpAny _ _ (pure ((n:Int)-1,(-1:Int),Builtin.Slice.slicePlaces ((n:Int)-1) (-1) (-1))) _ _ s
 rw [zld]
 exact wpAny_pure h
theorem zm9 (xs : Array Value) : ((List.range xs.size).filterMap fun (m : Nat) => xs[(((xs.size : Nat) : Int) - 1 + (m : Int) * (-1)).toNat]?).toArray = xs.toList.reverse.toArray := by
 congr 1
 apply List.ext_getElem?
 intro i
 have key:∀ (l:List Nat),(∀ m∈l,m < xs.size)→(l.filterMap fun (m:Nat)=>xs[(((xs.size:Nat):Int)-1+(m:Int)*(-1)).toNat]?)=l.map fun m=>xs.toList.reverse[m]?.getD .none:=by
  intro l
  induction l with
  | nil=>intro _;rfl
  | cons m l ih =>
   intro hl
   have hm:=hl m List.mem_cons_self
   have e1:(((xs.size:Nat):Int)-1+(m:Int)*(-1)).toNat=xs.size-1-m:=by lia
   have e2:xs[xs.size-1-m]?=some (xs[xs.size-1-m]'(by lia)):=Array.getElem?_eq_getElem (by lia)
   have e3:xs.toList.reverse[m]?=some (xs[xs.size-1-m]'(by lia)):=by
    rw [List.getElem?_reverse (by simpa using hm)]
    simp only [Array.length_toList,Array.getElem?_toList]
    exact e2
   rw [List.filterMap_cons,e1,e2,List.map_cons,e3,ih fun k hk=>hl k (List.mem_cons_of_mem _ hk)]
   rfl
 rw [key _ (fun m hm=>List.mem_range.mp hm),List.getElem?_map]
 by_cases hi:i < xs.size
 ·rw [List.getElem?_range hi]
  have:i < xs.toList.reverse.length:=by simpa using hi
  show some (xs.toList.reverse[i]?.getD Value.none)=_
  rw [List.getElem?_eq_getElem this]
  rfl
 ·rw [List.getElem?_eq_none (by simpa using hi),List.getElem?_eq_none (by simpa using hi)]
  rfl
theorem zfL {t sl:Addr} {items:Array Value} {uk:Tok} {Q:Value→Shared→Prop} (ht:IsTup s.heap t items) (hs:s.heap.IsSliceOf sl .none .none (.int (-1) uk))
  (h:Q (.ref s.heap.objs.size) { s with heap:=s.heap.push { cls:=.type "tuple",data:=.seq items.toList.reverse.toArray } })
  (hsz:items.size≤sizeLine):wpAny (model prog w) A (getItem (.ref t) (.ref sl)) Q E s:=by
 have htake:sizeOk (.seq items.toList.reverse.toArray):=by
  show items.toList.reverse.toArray.size≤sizeLine
  simpa using hsz
 obtain ⟨os,hos,hcs,hds⟩:=id hs
 have hTs:s.TypeIs (.ref sl) "slice" := ⟨os,hos,hcs⟩
 unfold getItem
 try with_reducible refine wpAny_holding ?_
 first | refine wpAny_bind (wpAny_pure ?_) | skip
 refine wpAny_bind (wpAny_sequenceKey ht.typeIs (by decide) ?_)
 refine wpAny_bind (wpAny_callSpecial?_slot (name:=Str.ofString "__getitem__") ht.typeIs PyProof.Rows.slot_tuple_getitem
  (wpAny_call_entry PyProof.Rows.slot_tuple_getitem ht.typeIs entry_tuple_getitem ?_ (args_tuple_getitem _ _)))
 show wpAny _ _ (Builtin.Tuple.tupleItemsOf (.ref t) >>= _) _ _ s
 refine wpAny_bind (tupleItemsOf_ ht ?_)
 refine wpAny_bind (wpAny_typeOf hTs ?_)
 rw [if_pos (by decide)]
 refine wpAny_bind (zgc hs ?_)
 have hno:¬ (((((items.size:Nat):Int)-1)==0&&(-1:Int)==1&&items.size==items.size)=true):=by simp
 show wpAny _ _ (if ((((items.size:Nat):Int)-1)==0&&(-1:Int)==1&&items.size==items.size)=true then _ else _) _ _ s
 rw [if_neg hno,zm9]
 first
  | exact wpAny_bind (m:=Builtin.Tuple.tupleExact _) (wpAny_newObj_type (wpAny_pure ⟨_,rfl,wpAny_pure h⟩) htake)
  | exact wpAny_bind (m:=Builtin.Tuple.tupleExact _) (wpAny_newObj_type (wpAny_bind (wpAny_pure (wpAny_pure ⟨_,rfl,wpAny_pure h⟩))) htake)
  | exact wpAny_bind (wpAny_bind (m:=Builtin.Tuple.tupleExact _) (wpAny_newObj_type (wpAny_pure (wpAny_pure ⟨_,rfl,wpAny_pure h⟩)) htake))
  | exact wpAny_bind (wpAny_bind (m:=Builtin.Tuple.tupleExact _) (wpAny_newObj_type (wpAny_pure ⟨_,rfl,wpAny_pure h⟩) htake))
end
section
variable {X:Cx} {e st:Expr} {te:TE} {pos p2:Pos} {fa:Z.EF}
theorem zoj (x:Str) (u:Tok):Txt.sliceBy x none none (-1,u)=⟨x.cps.toList.reverse.toArray⟩:=by
 have h:=step_rev_list x u
 have e:x.cps.toList.reverse=(List.range x.length).map fun k=>x.cps.getD (x.length-1-k) 0:=by
  apply List.ext_getElem?
  intro i
  rw [List.getElem?_map]
  by_cases hi:i < x.cps.size
  ·have hi':i < x.length:=hi
   rw [List.getElem?_range hi',List.getElem?_reverse (by simpa using hi)]
   simp only [Array.length_toList,Array.getElem?_toList,Option.map_some]
   have hx:x.length=x.cps.size:=rfl
   rw [hx]
   have h2:x.cps.size-1-i < x.cps.size:=by lia
   rw [Array.getElem?_eq_getElem h2]
   simp [Array.getD,h2]
  ·have hi':¬ i < x.length:=hi
   rw [List.getElem?_eq_none (by simpa using hi),List.getElem?_eq_none (by simpa using hi')]
   rfl
 rw [←e] at h
 generalize Txt.sliceBy x none none (-1,u)=y at h
 obtain ⟨c⟩:=y
 have h':c.toList=x.cps.toList.reverse:=h
 rw [←h']
theorem zkF:∀ {xs:List V} {us:List Value},Vals xs us→Vals xs.reverse us.reverse
 | [],_,h=>by cases h;exact .nil
 | x :: xs,us,h=>by
  cases h with
  | cons r rr =>
   rw [List.reverse_cons,List.reverse_cons]
   exact (zkF rr).append (.cons r .nil)
def ztG (K:PySem.W.Frag):V→Hp→VK→Prop:=fun x H Q=>(∃ a xs,x=.ref a∧SqT K H a xs∧∀ p,H p=none→Q (.ref p) (upd H p (.tup xs.reverse)))∨(∃ z,x=.str z∧z.length≤sizeLine∧Q (.str ⟨z.cps.toList.reverse.toArray⟩) H)
theorem zpz (he : PE X e te) (hs : PO X (some st) (zn7 (tC (.int (-1))))) (hsub : ∀ v u, subscripted (.Slice none none (some st) p2) false v u = operate [v, u] (getItem v u)) : PE X (.Subscript e (.Slice none none (some st) p2) pos) (fun σ H Q => te σ H fun x H1 => ztG X.K x H1 Q) := by
 intro pins s σ H Q I h
 refine Subscript_ (thn (he pins s σ H _ I h) fun v s1 ⟨x,H1,I1,r1,q1⟩=>?_)
 refine wpAny_Slice ?_
 rw [evalPart_none]
 refine wpAny_pure (wpAny_pure ?_)
 refine thn (hs pins s1 σ H1 (fun o H'=>o=some (-1)∧H'=H1) I1 ⟨-1,rfl,rfl,rfl⟩) fun vs s2 ⟨o,H2,I2,pl,e1,e2⟩=>?_
 subst e1
 subst e2
 cases pl with
 | int _ uk =>
  have I4:Inv X pins σ H2 { s2 with heap:=s2.heap.push { cls:=.type "slice",data:=.fields #[.none,.none,.int (-1) uk] } }:=I2.kept (t':=s2.toks) fun b ob q=>Heap.get?_push_of_some _ q
  show wpAny (model X.prog X.w) X.A (subscriptTail e (.Slice none none (some st) p2) v (.ref s2.heap.objs.size)) (EP X pins σ Q) X.xe { s2 with heap:=s2.heap.push { cls:=.type "slice",data:=.fields #[.none,.none,.int (-1) uk] } }
  rcases q1 with ⟨a,xs,rfl,hx,q⟩ | ⟨z,rfl,hz,q⟩
  ·cases r1
   obtain ⟨its,r,ht,hz⟩:=I4.tuple hx
   have hlen:its.toArray.size=xs.length:=by rw [List.size_toArray];exact r.length.symm
   refine tail_any (ops:=[.ref a,.ref s2.heap.objs.size]) ht.typeIs PyProof.Rows.slot_tuple_getitem.lookup ?_ (hsub _ _)
   refine zfL ht (Heap.IsSliceOf.new ..) ?_ (by rw [hlen];exact hz)
   refine ⟨.ref _,_,I4.laid (t':=s2.toks) (o:=.tup xs.reverse) (fun b ob q=>Heap.get?_push_of_some _ q) (Nat.le_refl _) ?_,rfl,q _ (I4.hok.fresh (Nat.le_refl _))⟩
   refine ⟨by rw [List.length_reverse];exact hz,its.reverse,?_,?_⟩
   ·exact zkF r
   ·have:=IsTup.new (h:=s2.heap.push { cls:=.type "slice",data:=.fields #[.none,.none,.int (-1) uk] }) its.reverse.toArray
    simpa using this
  ·obtain ⟨tk,rfl⟩:=r1
   refine tail_any (ops:=[.str z tk,.ref s2.heap.objs.size]) (typeIs_str _ z tk) F.slot_str_getitem.lookup ?_ (hsub _ _)
   refine wpAny_getItem_str_slice (l:=none) (u:=none) (st:=some (-1,uk)) ⟨_,Heap.get?_push_size _ rfl,rfl,rfl⟩ rfl ?_
   refine post_val_or_str ⟨?_,fun t' c=>?_⟩
   ·exact Nat.le_trans (Txt.sliceBy_le z _ _ (-1,uk) (by show (-1:Int)≠0;decide)) hz
   ·show EP X pins σ Q (.str (Txt.sliceBy z none none (-1,uk)) t') _
    rw [zoj]
    exact ⟨.str ⟨z.cps.toList.reverse.toArray⟩,H2,I4.tok c,⟨t',rfl⟩,q⟩
theorem zlT {K:PySem.W.Frag} {H:Hp}:∀ {ds:List Z.D} {vs:List V},zaE K H ds vs→zaE K H ds.reverse vs.reverse
 | [],vs,h=>by simp only [zaE] at h;subst h;exact zaE.nil
 | d :: ds,vs,h=>by
  simp only [zaE] at h
  obtain ⟨v,r,rfl,h1,h2⟩:=h
  rw [List.reverse_cons,List.reverse_cons]
  exact (zlT h2).append (zaE.cons h1 zaE.nil)
theorem zmv {j p3 p4} (ha:DW X e fa):DE X (.Subscript e (.Slice none none (some (.UnaryOp .USub (.Constant (.int 1) j p3) p4)) p2) pos) (Z.eU Z.zpb fa):=by
 have hs:PO X (some (.UnaryOp .USub (.Constant (.int 1) j p3) p4)) (zn7 (tC (.int (-1)))):=zlW (te:=tC (.int (-1))) (PE.imp (pe_un un_neg pe_int) fun σ H Q h=>⟨1,rfl,h⟩)
 refine PE.imp (zpz ha hs (fun _ _=>by with_unfolding_all rfl)) fun σ H Q ⟨ρ,d,r,e,k⟩=>?_
 obtain ⟨x,ea,e⟩:=Z.Res.bind_ok e
 refine ⟨ρ,x,r,ea,fun v H1 s1 d1=>?_⟩
 unfold Z.zpb at e
 split at e
 ·rename_i xs
  cases e
  obtain ⟨q,vs,rfl,hq,t⟩:=d1.tup
  refine .inl ⟨q,vs,rfl,hq,fun p hp=>?_⟩
  have s2:Same H1 (upd H1 p (.tup vs.reverse)):=zb0 hp
  exact k _ _ (s1.trans s2) (zdr (SqT.of upd_same) ((zlT t).up s2))
 ·rename_i cs
  obtain ⟨hl,e⟩:=Z.zfn e
  cases e
  have d1':=d1.str
  subst d1'
  refine .inr ⟨_,rfl,?_,?_⟩
  ·show cs.toArray.size≤sizeLine
   rw [List.size_toArray,sizeLine_eq];exact hl
  ·have:(⟨cs.toArray.toList.reverse.toArray⟩:Str)=⟨cs.reverse.toArray⟩:=by simp
   rw [this]
   exact k _ H1 s1 ze4
 ·cases e
end
end ZS
namespace ZQ
open PySem PySem.Spec PyProof.Rows L2 ZS
section
variable {X:Cx} {e:Expr} {pos p2:Pos} {fa:Z.EF}
theorem zmv {j p3 p4} (ha:QW X e fa):QE X (.Subscript e (.Slice none none (some (.UnaryOp .USub (.Constant (.int 1) j p3) p4)) p2) pos) (Z.eU Z.zpb fa):=⟨ZS.zmv ha.p⟩
end
end ZQ
noncomputable section
namespace Z
noncomputable def zmT (_:Env):Res Fl:=.bad
@[simp] theorem zsY (ρ:Env):zmT ρ=.bad:=rfl
noncomputable def zuc (_:Env):Res D:=.bad
@[simp] theorem ztn (ρ:Env):zuc ρ=.bad:=rfl
noncomputable def zl2:D→D→Res D
 | .tup [d],.int n=>guard (0≤n∧n≤1000000) (.ok (.tup (List.replicate n.toNat d)))
 | _,_=>.bad
theorem zng {x y d:D} (h:zl2 x y=.ok d):∃ e n,x=.tup [e]∧y=.int n∧0≤n∧n≤1000000∧d=.tup (List.replicate n.toNat e):=by
 unfold zl2 at h
 split at h
 ·obtain ⟨⟨h0,h1⟩,e⟩:=zfn h
  cases e
  exact ⟨_,_,rfl,rfl,h0,h1,rfl⟩
 ·cases h
noncomputable def zrb (f:List D→Res D) (ds:List D):Res D:=f (ds++[.non])
@[simp] theorem zra (f:List D→Res D) (ds:List D):zrb f ds=f (ds++[.non]):=rfl
end Z
end
namespace ZS
open PySem PySem.Spec PyProof.Rows L2
theorem zmr {X:Cx} {H0:Hp} {st:Stmt}:DS X H0 st Z.zmT:=fun _ _ _ _ _ _ ⟨_,_,_,e,_⟩=>nomatch e
theorem zfQ {X:Cx} {H0:Hp} {sts:List Stmt}:DSs X H0 sts Z.zmT:=fun _ _ _ _ _ _ ⟨_,_,_,e,_⟩=>nomatch e
theorem zk7 {P:Program} {w:World} {K:PySem.W.Frag} {mg:Str→Option Value} {base:Heap} {x:Str} {k:Nat} {ps:List Str} {m:List Z.D→Z.Res Z.D} (C:Cal P w K mg base x k ps m) (hm:∀ ds d,m ds≠.ok d:=by intro ds d h;unfold Z.fn at h;split at h<;>cases h):Cal P w K mg base x k ps (fun _=>.bad):=by
 obtain ⟨g,fd,F,h⟩:=C.ex
 have:spZ K m=spZ K fun _=>.bad:=by
  funext vs H Q E
  refine propext ⟨fun ⟨ds,d,_,e,_⟩=>absurd e (hm ds d),fun ⟨ds,d,_,e,_⟩=>nomatch e⟩
 rw [this] at F
 exact ⟨g,fd,F,h⟩
structure FunD (K:PySem.W.Frag) (x qual:Str) (st:Stmt) (f:Addr) (fd:FuncData):Prop where
 ex:∃ (oc:Value) (od:Option Addr) (dV kV doc pm:Value) (an:Option Addr) (cdv ct:Value) (osl:Array (Option Value)),
  fd=PySem.W.fnOf x qual (defArgs st) (defBody st) (defScope st) dV kV doc pm an cdv ct∧K.lookup f=some ⟨oc,od,.func fd,osl⟩∧PySem.W.codeIn K cdv qual=true
 kp:PySem.W.keepIn K (.ref f)=true
section
variable {P:Program} {w:World} {K:PySem.W.Frag} {mg:Str→Option Value} {base:Heap}
theorem FunD.ok {x qual:Str} {st:Stmt} {f:Addr} {fd:FuncData} {N ps:List Str} {k:Nat} {sp:Sp} (F:FunD K x qual st f fd) (S:FnScope N ps (defScope st)) (len:∀ vs H Q E,sp vs H Q E→vs.length=ps.length)
  (hbody:∀ (cdv:Value) (A:Around) (outer:List Env) (s:Shared) (H:Hp) (vs:List V) (Q:VK) (E:XK),Room k (A.deeper (envOfC qual (defScope st) s.heap.objs.size f cdv))→sp vs H Q E →
   ∃ t,PSs (cxOf CX0 P w K mg base N qual (defScope st) f cdv A outer s H E).nox (defBody st) t∧t { nx:=fun _ H'=>Q .non H',rt:=Q } (start N vs) H):FnOk P w K mg base CX0 (k+1) f fd ps sp:=by
 obtain ⟨oc,od,dV,kV,doc,pm,an,cdv,ct,osl,rfl,lk,hcd⟩:=F.ex
 refine zp4 lk hcd S len fun A outer s H vs Q E hr hsp=>?_
 obtain ⟨t,h,q⟩:=hbody cdv A outer s H vs Q E hr hsp
 exact ⟨t,h.nox,q⟩
theorem zt7 {x qual:Str} {st:Stmt} {f:Addr} {fd:FuncData} {N ps:List Str} {k:Nat} {b:Z.SF} (F:FunD K x qual st f fd) (S:FnScope N ps (defScope st))
  (hb:∀ (cdv:Value) (A:Around) (outer:List Env) (s:Shared) (H:Hp) (E:XK),Room k (A.deeper (envOfC qual (defScope st) s.heap.objs.size f cdv)) →
   DSs (cxOf CX0 P w K mg base N qual (defScope st) f cdv A outer s H E).nox H (defBody st) b):FnOk P w K mg base CX0 (k+1) f fd ps (spZ K (Z.fn ps.length N.length b)):=by
 have hlen:∀ (vs:List V) (H:Hp) (Q:VK) (E:XK),spZ K (Z.fn ps.length N.length b) vs H Q E→vs.length=ps.length:=fun vs H Q E ⟨ds,d,t,e,_⟩=>by
  unfold Z.fn at e
  split at e
  ·rename_i h;rw [t.length];exact h
  ·cases e
 refine F.ok S hlen (fun cdv A outer s H vs Q E hr h=>⟨_,hb cdv A outer s H E hr,?_⟩)
 have hl:=hlen vs H Q E h
 obtain ⟨ds,d,t,e,k⟩:=h
 have hpl:ps.length≤N.length:=by have:=congrArg List.length S.pre;rw [List.length_take] at this;lia
 have rs:RS K H H (L2.start N vs) (Z.start N.length ds):=ziE t (by lia)
 unfold Z.fn at e
 split at e
 ·cases eb:b (Z.start N.length ds) with
  | bad=>rw [eb] at e;cases e
  | ok fl =>
   rw [eb] at e
   refine ⟨_,fl,rs,eb,?_⟩
   cases fl with
   | rt d'=>cases e;exact fun v H' s' dv=>k v H' s' dv
   | nx ρ'=>cases e;exact fun σ' H' _ rs'=>k .non H' rs'.same zkp
   | bk ρ'=>cases e
   | ct ρ'=>cases e
 ·cases e
structure DefD (K:PySem.W.Frag) (mg:Str→Option Value) (x:Str) (st:Stmt) (ps:List Str):Prop where
 ex:∃ f fd,FunD K x x st f fd∧mg x=some (.ref f)∧Binds K fd ps []∧Binds K fd ps [.none]
structure CalD (P:Program) (w:World) (K:PySem.W.Frag) (mg:Str→Option Value) (base:Heap) (x:Str) (k:Nat) (ps:List Str) (m:List Z.D→Z.Res Z.D):Prop where
 ex:∃ g fd,FnOk P w K mg base CX0 k g fd ps (spZ K m)∧mg x=some (.ref g)∧PySem.W.keepIn K (.ref g)=true∧Binds K fd ps []∧Binds K fd ps [.none]
theorem CalD.full {x:Str} {k:Nat} {ps:List Str} {m:List Z.D→Z.Res Z.D} (C:CalD P w K mg base x k ps m):Cal P w K mg base x k ps m :=
 let ⟨g,fd,h1,h2,h3,h4,_⟩:=C.ex;⟨g,fd,h1,h2,h3,h4⟩
theorem CalD.mk' {x:Str} {k:Nat} {st:Stmt} {N ps:List Str} {b:Z.SF} (d:DefD K mg x st ps) (S:FnScope N ps (defScope st))
  (hb:∀ (f:Addr) (cdv:Value) (A:Around) (outer:List Env) (s:Shared) (H:Hp) (E:XK),Room k (A.deeper (envOfC x (defScope st) s.heap.objs.size f cdv)) →
   DSs (cxOf CX0 P w K mg base N x (defScope st) f cdv A outer s H E).nox H (defBody st) b):CalD P w K mg base x (k+1) ps (Z.fn ps.length N.length b):=by
 obtain ⟨f,fd,F,hm,hb',hb2⟩:=d.ex
 exact ⟨f,fd,zt7 F S (hb f),hm,F.kp,hb',hb2⟩
theorem zoW {x:Str} {st:Stmt} {ps:List Str} {f t:Addr} {oc:Value} {od an:Option Addr} {osl:Array (Option Value)} {kV doc pm cdv ct tc:Value} {td:Option Addr} {tn:Nat} {tsl:Array (Option Value)}
  (l:K.lookup f=some ⟨oc,od,.func (PySem.W.fnOf x x (defArgs st) (defBody st) (defScope st) (.ref t) kV doc pm an cdv ct),osl⟩)
  (c:PySem.W.codeIn K cdv x=true) (k:PySem.W.keepIn K (.ref f)=true) (lt:K.lookup t=some ⟨tc,td,.seq #[.none] tn,tsl⟩) (hm:mg x=some (.ref f))
  (h1:∀ us:List Value,us.length=ps.length→∃ kk:Option (Array Value)→Sem (List (Str×Value)),bindArgs (PySem.W.fnOf x x (defArgs st) (defBody st) (defScope st) (.ref t) kV doc pm an cdv ct) ⟨us,[]⟩=seqItems? (.ref t) >>= kk∧kk (some #[.none])=pure (ps.zip us))
  (h2:∀ us:List Value,us.length+1=ps.length→∃ kk:Option (Array Value)→Sem (List (Str×Value)),bindArgs (PySem.W.fnOf x x (defArgs st) (defBody st) (defScope st) (.ref t) kV doc pm an cdv ct) ⟨us,[]⟩=seqItems? (.ref t) >>= kk∧kk (some #[.none])=pure (ps.zip (us++[.none]))):DefD K mg x st ps:=by
 refine ⟨f,_,⟨⟨oc,od,.ref t,kV,doc,pm,an,cdv,ct,osl,rfl,l,c⟩,k⟩,hm,fun s us hK hl=>?_,fun s us hK hl=>?_⟩
 ·rw [List.append_nil] at hl ⊢
  obtain ⟨kk,e1,e2⟩:=h1 us hl
  exact BindsTo.of_defaults (T:=t) (items:=#[.none]) rfl (hK t _ lt) rfl e1 e2
 ·obtain ⟨kk,e1,e2⟩:=h2 us (by simpa using hl)
  exact BindsTo.of_defaults (T:=t) (items:=#[.none]) rfl (hK t _ lt) rfl e1 e2
end
section
variable {X:Cx} {e:Expr} {es:List Expr} {pos:Pos}
end
end ZS
namespace ZQ
open PySem PySem.Spec PyProof.Rows L2 ZS
section
variable {X:Cx} {e:Expr} {es:List Expr} {pos:Pos} {H0:Hp} {st:Stmt} {sts:List Stmt}
theorem zmr:QS X H0 st Z.zmT:=⟨ZS.zmr⟩
theorem zfQ:QSs X H0 sts Z.zmT:=⟨ZS.zfQ⟩
theorem zss {P:Program} {w:World} {K:PySem.W.Frag} {mg:Str→Option Value} {base:Heap} {x:Str} {k:Nat} {st:Stmt} {N ps:List Str} {b:Z.SF} (d:ZS.DefD K mg x st ps) (S:FnScope N ps (defScope st))
  (hb:∀ (f:Addr) (cdv:Value) (A:Around) (outer:List PySem.Env) (s:Shared) (H:Hp) (E:XK),Room k (A.deeper (envOfC x (defScope st) s.heap.objs.size f cdv)) →
   QSs (cxOf CX0 P w K mg base N x (defScope st) f cdv A outer s H E).nox H (defBody st) b):ZS.CalD P w K mg base x (k+1) ps (Z.fn ps.length N.length b) :=
 ZS.CalD.mk' d S fun f cdv A outer s H E hr=>(hb f cdv A outer s H E hr).p
end
end ZQ
namespace PySem
open Sem (wp)
open Builtin
theorem zge:fillsNumberSlot (.type "tuple") "mul" = pure false :=
 fillsNumberSlot_seq (id := "tuple.__mul__") (r:=some (.builtin "tuple.__rmul__")) F.slot_tuple_mul.lookup (by decide +kernel) F.slot_tuple_rmul.lookup (by decide +kernel)
theorem ziI:seqRepeat? (.type "tuple")=pure (some (.builtin "tuple.__mul__")):=by
 unfold seqRepeat?
 rw [seqSlot_of (T := "tuple") (name := "__mul__") (id := "tuple.__mul__") F.slot_tuple_mul.lookup (by decide +kernel),seqSlot_of (T := "tuple") (name := "__rmul__") (id := "tuple.__rmul__") F.slot_tuple_rmul.lookup (by decide +kernel)]
 rfl
theorem zev (a:Int) (t:Tok) (l:Addr) (items:Array Value) (n:Nat) (dd:Option Addr) (sl:Array (Option Value)) :
  Meets (Builtin.«int.__rmul__» ⟨[.int a t,.ref l],[]⟩) (fun _ R s=>s.heap.get? l=some { cls:=.type "tuple",dict:=dd,data:=.seq items n,slots:=sl }∧R (.ok (.ret Value.notImplemented)) s) :=
 .of_wp fun prog w A R s h=>by obtain ⟨hp,g,d,tk,os⟩:=s;obtain ⟨hl,h⟩:=h;wp_walk;exact ⟨_,rfl,h⟩
theorem zgt (a:Int) (t:Tok) (l:Addr) (x:Value) (n:Nat) (dd:Option Addr) (sl:Array (Option Value)) (h0:a=0) :
  Meets (Builtin.«tuple.__mul__» ⟨[.ref l,.int a t],[]⟩) (fun _ R s=>s.heap.get? l=some { cls:=.type "tuple",dict:=dd,data:=.seq #[x] n,slots:=sl }∧R (.ok (.ret (.ref s.heap.objs.size))) { s with heap:=s.heap.push { cls:=.type "tuple",data:=.seq #[] } }) :=
 .of_wp fun prog w A R s h=>by
  obtain ⟨hp,g,d,tk,os⟩:=s;obtain ⟨hl,h⟩:=h;subst h0
  wp_walk
  exact ⟨_,rfl,h⟩
theorem zgs (a:Int) (t:Tok) (l:Addr) (x:Value) (n:Nat) (dd:Option Addr) (sl:Array (Option Value)) (h0:a=1) :
  Meets (Builtin.«tuple.__mul__» ⟨[.ref l,.int a t],[]⟩) (fun _ R s=>s.heap.get? l=some { cls:=.type "tuple",dict:=dd,data:=.seq #[x] n,slots:=sl }∧R (.ok (.ret (.ref l))) s) :=
 .of_wp fun prog w A R s h=>by
  obtain ⟨hp,g,d,tk,os⟩:=s;obtain ⟨hl,h⟩:=h;subst h0
  wp_walk
  exact ⟨_,rfl,h⟩
theorem zgr (a:Int) (t:Tok) (l:Addr) (x:Value) (n:Nat) (dd:Option Addr) (sl:Array (Option Value)) (h1:¬ (decide (a < -(2 ^ 63)) || decide (a≥2 ^ 63))=true) (h2:¬ ((#[x]:Array Value).isEmpty || a==1)=true) (h3:¬ (decide (a≤0) || (#[x]:Array Value).isEmpty)=true) (h4:¬ ((#[x]:Array Value).size:Int)*a > (2 ^ 63-1) / 8) (h5:¬ Tuple.tupleTooMany (((#[x]:Array Value).size:Int)*a)=true) (h6:((List.replicate a.toNat #[x]).foldl (·++·) #[]).size≤sizeLine) :
  Meets (Builtin.«tuple.__mul__» ⟨[.ref l,.int a t],[]⟩) (fun _ R s=>s.heap.get? l=some { cls:=.type "tuple",dict:=dd,data:=.seq #[x] n,slots:=sl }∧R (.ok (.ret (.ref s.heap.objs.size))) { s with heap:=s.heap.push { cls:=.type "tuple",data:=.seq ((List.replicate a.toNat #[x]).foldl (·++·) #[]) } }) :=
 .of_wp fun prog w A R s h=>by
  obtain ⟨hp,g,d,tk,os⟩:=s;obtain ⟨hl,h⟩:=h
  wp_walk
  refine wpAny_ite_false (by simpa using h1) ?_
  wp_walk
  refine wpAny_ite_false (by simpa using h2) ?_
  wp_walk
  refine wpAny_ite_false (by simpa using h3) ?_
  wp_walk
  refine wpAny_ite_false (decide_eq_false h4) ?_
  wp_walk
  refine wpAny_ite_false (by simpa using h5) ?_
  wp_walk
  exact ⟨_,rfl,h⟩
end PySem
namespace ZS
open PySem PySem.Spec PyProof.Rows L2
section
variable {X:Cx} {a b:Expr} {pos:Pos} {fa fb:Z.EF}
noncomputable def zry (K:PySem.W.Frag):R2:=fun x y H Q=>∃ l k w,x=.ref l∧y=.int k∧SqT K H l [w]∧0≤k∧k≤1000000∧(k=1→Q (.ref l) H)∧(k≠1→∀ p,H p=none→Q (.ref p) (upd H p (.tup (List.replicate k.toNat w))))
theorem ziZ (v:Value):∀ (k:Nat) (acc:Array Value),List.foldl (fun x1 x2=>x1++x2) acc (List.replicate k #[v])=acc++(List.replicate k v).toArray
 | 0,acc=>by simp
 | k+1,acc=>by
  rw [List.replicate_succ,List.foldl_cons,ziZ v k,List.replicate_succ]
  apply Array.toList_inj.mp
  simp
theorem ziC {w:V} {u:Value} (r:RelV w u):∀ k:Nat,Vals (List.replicate k w) (List.replicate k u)
 | 0=>.nil
 | k+1=>.cons r (ziC r k)
theorem zor : OpR X (binaryOp .Mult) (zry X.K) := by
 intro pins s σ H x y v u Q I rx ry h
 obtain ⟨l,k,w,rfl,rfl,hq,h0,h1,q1,q2⟩:=h
 cases rx
 obtain ⟨t,rfl⟩:=ry
 obtain ⟨its,r,ht,hz⟩:=I.tuple hq
 obtain ⟨x,rfl,rx⟩:=vals1 r
 obtain ⟨⟨cls,dd,data,sl⟩,ho,hc,n,hd⟩:=id ht
 simp only at hc hd
 subst hc hd
 have e:s.heap.get? l=some { cls:=.type "tuple",dict:=dd,data:=.seq #[x] n,slots:=sl }:=ho
 refine wpAny_binaryOp_repeat_ref (T := "tuple") (U := "int") (by decide) ⟨_,e,rfl⟩ (fun s'=>typeIs_int s' k t) zge F.fills_int_mul F.slot_int_rmul ziI F.slot_int_index.lookup
  (call_meets F.slot_int_rmul (typeIs_int s k t) F.entry_int_rmul (F.args_int_rmul_2 _ _) (zev k t l #[x] n dd sl) ⟨e,rfl,⟨_,e,rfl⟩,?_⟩)
 by_cases hk1:k=1
 ·exact call_meets F.slot_tuple_mul ⟨_,e,rfl⟩ F.entry_tuple_mul (F.args_tuple_mul_2 _ _) (zgs k t l x n dd sl hk1) ⟨e,⟨.ref l,H,I,rfl,q1 hk1⟩⟩
 ·by_cases hk0:k=0
  ·refine call_meets F.slot_tuple_mul ⟨_,e,rfl⟩ F.entry_tuple_mul (F.args_tuple_mul_2 _ _) (zgt k t l x n dd sl hk0) ⟨e,?_⟩
   have q:=q2 hk1 _ (I.hok.fresh (Nat.le_refl s.heap.objs.size))
   rw [hk0] at q
   refine ⟨.ref _,_,I.laid (t':=s.toks) (o:=.tup []) (fun b ob z=>Heap.get?_push_of_some _ z) (Nat.le_refl _) ?_,rfl,q⟩
   exact ⟨Nat.zero_le _,[],.nil,IsTup.new _ _⟩
  ·have hk2:2≤k:=by lia
   have hf:=ziZ x k.toNat #[]
   rw [Array.empty_append] at hf
   have hs:(1000000:Nat)≤sizeLine:=by decide
   refine call_meets F.slot_tuple_mul ⟨_,e,rfl⟩ F.entry_tuple_mul (F.args_tuple_mul_2 _ _) (zgr k t l x n dd sl ?_ ?_ ?_ ?_ ?_ ?_) ⟨e,?_⟩
   ·simp;lia
   ·simp;lia
   ·simp;lia
   ·show ¬ ((1:Nat):Int)*k > (2 ^ 63-1) / 8
    lia
   ·show ¬ (decide (((1:Nat):Int)*k > (sizeLine:Int)))=true
    rw [decide_eq_true_eq]
    have:((1000000:Nat):Int)≤(sizeLine:Int):=Int.ofNat_le.mpr hs
    generalize (sizeLine:Int)=z at this ⊢
    lia
   ·rw [hf,List.size_toArray,List.length_replicate];lia
   ·rw [hf]
    refine ⟨.ref _,_,I.laid (t':=s.toks) (o:=.tup (List.replicate k.toNat w)) (fun b ob z=>Heap.get?_push_of_some _ z) (Nat.le_refl _) ?_,rfl,q2 hk1 _ (I.hok.fresh (Nat.le_refl _))⟩
    exact ⟨by rw [List.length_replicate];lia,_,ziC rx k.toNat,IsTup.new _ _⟩
theorem zkr (ha:DW X a fa) (hb:DW X b fb):DE X (.BinOp a .Mult b pos) (Z.eB Z.zl2 fa fb):=PE.imp (pe_op zor ha hb) fun σ H Q ⟨ρ,d,r,e,k⟩=>by
 obtain ⟨x,ea,e⟩:=Z.Res.bind_ok e
 obtain ⟨y,eb,e⟩:=Z.Res.bind_ok e
 obtain ⟨d0,n,rfl,rfl,h0,h1,rfl⟩:=Z.zng e
 refine ⟨ρ,_,r,ea,fun v H1 s1 d1=>⟨ρ,_,r.up s1,eb,fun u H2 s2 d2=>?_⟩⟩
 obtain ⟨q,vs,rfl,hq,t⟩:=d1.tup
 simp only [zaE] at t
 obtain ⟨w,r',rfl,dw,rfl⟩:=t
 refine ⟨q,n,w,rfl,d2.int,?_,h0,h1,fun hn=>?_,fun hn p hp=>?_⟩
 ·exact zdI (stb s2) hq
 ·subst hn
  exact k _ H2 (s1.trans s2) (zdr (zdI (stb s2) hq) (zaE.cons (dw.up s2) zaE.nil))
 ·have s3:Same H2 (upd H2 p (.tup (List.replicate n.toNat w))):=zb0 hp
  exact k _ _ ((s1.trans s2).trans s3) (zdr (SqT.of upd_same) (zir ((dw.up s2).up s3) _))
end
end ZS
namespace ZQ
open PySem PySem.Spec PyProof.Rows L2 ZS
section
variable {X:Cx} {a b:Expr} {pos:Pos} {fa fb:Z.EF}
theorem zkr (ha:QW X a fa) (hb:QW X b fb):QE X (.BinOp a .Mult b pos) (Z.eB Z.zl2 fa fb):=⟨ZS.zkr ha.p hb.p⟩
end
end ZQ
noncomputable section
namespace Z
noncomputable def zsq (c:Nat):List Nat→List (List Nat)
 | []=>[[]]
 | x :: r=>if x=c then [] :: zsq c r else match zsq c r with
  | []=>[[x]]
  | p :: ps=>(x :: p) :: ps
noncomputable def zsP:D→D→Res (List D)
 | .str cs,.str [c]=>guard (cs.length+2≤line) (.ok ((zsq c cs).map .str))
 | _,_=>.bad
noncomputable def zpP (a b:EF) (ρ:Env):Res (List D):=(a ρ).bind fun x=>(b ρ).bind fun y=>zsP x y
noncomputable def tlD:D→D→Res (List D)
 | .tup xs,.lst ys=>.ok (zeI xs ys)
 | _,_=>.bad
noncomputable def zr7 (a b:EF) (ρ:Env):Res (List D):=(a ρ).bind fun x=>(b ρ).bind fun y=>tlD x y
@[simp] theorem zr6 (a b:EF) (ρ:Env):zr7 a b ρ=(a ρ).bind fun x=>(b ρ).bind fun y=>tlD x y:=rfl
@[simp] theorem ztx (xs ys:List D):tlD (.tup xs) (.lst ys)=.ok (zeI xs ys):=rfl
@[simp] theorem zqS (a b:EF) (ρ:Env):zpP a b ρ=(a ρ).bind fun x=>(b ρ).bind fun y=>zsP x y:=rfl
end Z
end
namespace ZS
open PySem PySem.Spec PyProof.Rows L2
section
variable {prog:Program} {w:World} {A:Around} {E:Value→Shared→Prop} {s:Shared} {x y:Str} {t u:Tok} {Q:Value→Shared→Prop}
end
section
variable {X:Cx} {o a b:Expr} {pos p p2:Pos} {fa fb:Z.EF} {elts:List Expr} {x1:Nat}
end
end ZS
namespace ZQ
open PySem PySem.Spec PyProof.Rows L2 ZS
section
variable {X:Cx} {o a b:Expr} {pos p p2:Pos} {fa fb:Z.EF} {elts:List Expr} {x1:Nat}
end
end ZQ
noncomputable section
namespace Z
noncomputable def zlN (cs:List Nat):List D:=cs.map fun c=>.str [c]
noncomputable def lsK:D→Res (List D)
 | .str cs=>guard (cs.length≤line) (.ok (zlN cs))
 | _=>.bad
noncomputable def ztV (a:EF) (ρ:Env):Res (List D):=(a ρ).bind lsK
@[simp] theorem zte (a:EF) (ρ:Env):ztV a ρ=(a ρ).bind lsK:=rfl
@[simp] theorem zrY (cs:List Nat):lsK (.str cs)=guard (cs.length≤line) (.ok (zlN cs)):=rfl
noncomputable def zpC (x:D):Res D:=(lsK x).map D.tup
@[simp] theorem zrF (cs:List Nat):zpC (.str cs)=guard (cs.length≤line) (.ok (.tup (zlN cs))):=by
 unfold zpC
 rw [zrY]
 unfold guard
 split<;>rfl
end Z
end
namespace ZS
open PySem PySem.Spec PyProof.Rows L2
section
variable {prog:Program} {w:World} {A:Around} {E:Value→Shared→Prop} {s:Shared} {R:Result→Shared→Prop} {x:Str} {t:Tok}
end
section
variable {X:Cx} {a b e:Expr} {pos p2:Pos} {fa fb:Z.EF}
end
end ZS
namespace ZQ
open PySem PySem.Spec PyProof.Rows L2 ZS
section
variable {X:Cx} {a b e:Expr} {pos p2:Pos} {fa fb:Z.EF}
end
end ZQ
namespace PySem
namespace F
end F
namespace F
end F
def Heap.IsRvd (h:Heap) (a t:Addr) (i:Int):Prop:=∃ o,h.get? a=some o∧o.cls=.type "reversed" ∧ o.data=.fields #[.ref t,rawInt i]
theorem Heap.IsRvd.typeIs {s:Shared} {a l:Addr} {i:Int} (x:s.heap.IsRvd a l i):s.TypeIs (.ref a) "reversed" := let ⟨o,ho,hc,_⟩:=x;⟨o,ho,hc⟩
theorem Heap.IsRvd.at {h h':Heap} {a l:Addr} {i:Int} (x:h.IsRvd a l i) (e:∀ o,h.get? a=some o→h'.get? a=some o):h'.IsRvd a l i:=let ⟨o,ho,r⟩:=x;⟨o,e _ ho,r⟩
section
variable {prog:Program} {w:World} {A:Around} {E:Value→Shared→Prop} {s:Shared}
end
end PySem
noncomputable section
namespace Z
noncomputable def rvK:D→Res (List D)
 | .tup xs=>.ok xs.reverse
 | .lst xs=>.ok xs.reverse
 | _=>.bad
noncomputable def zr0 (a:EF) (ρ:Env):Res (List D):=(a ρ).bind rvK
@[simp] theorem zrZ (a:EF) (ρ:Env):zr0 a ρ=(a ρ).bind rvK:=rfl
@[simp] theorem zru (xs:List D):rvK (.tup xs)=.ok xs.reverse:=rfl
@[simp] theorem zrv (xs:List D):rvK (.lst xs)=.ok xs.reverse:=rfl
end Z
end
namespace PySem
section
variable {prog:Program} {w:World} {A:Around} {s:Shared} {R:Result→Shared→Prop}
variable {I:Addr} {fp wr:List Addr} {G:Array GenState→Array GenState→Prop} {n:Nat} {P:Nat→Value→Prop} {St:Nat→Shared→Prop}
end
section
variable {prog:Program} {w:World} {A:Around} {E:Value→Shared→Prop} {s:Shared} {I t:Addr} {items:Array Value} {Q:Value→Shared→Prop}
end
end PySem
namespace ZS
open PySem PySem.Spec PyProof.Rows L2
section
variable {X:Cx} {a:Expr} {pos p p1 p2:Pos} {fa:Z.EF}
end
end ZS
namespace ZQ
open PySem PySem.Spec PyProof.Rows L2 ZS
section
variable {X:Cx} {a:Expr} {pos p p1 p2:Pos} {fa:Z.EF}
end
end ZQ
noncomputable section
namespace Z
noncomputable def zbK (x:D):Option (Option L)→Res (List D)
 | some (some (.bor ys))=>match x with
  | .tup xs=>.ok (zeI xs ys)
  | _=>.bad
 | some (some (.val (.tup ys)))=>match x with
  | .tup xs=>.ok (zeI xs ys)
  | _=>.bad
 | _=>.bad
noncomputable def zr9 (a:EF) (i:Nat) (ρ:Env):Res (List D):=(a ρ).bind fun x=>zbK x ρ[i]?
@[simp] theorem zr8 (a:EF) (i:Nat) (ρ:Env):zr9 a i ρ=(a ρ).bind fun x=>zbK x ρ[i]?:=rfl
@[simp] theorem zq9 (xs ys:List D):zbK (.tup xs) (some (some (.bor ys)))=.ok (zeI xs ys):=rfl
@[simp] theorem zq8 (xs ys:List D):zbK (.tup xs) (some (some (.val (.tup ys))))=.ok (zeI xs ys):=rfl
end Z
end
namespace ZS
open PySem PySem.Spec PyProof.Rows L2
theorem bd1 {fd:FuncData} {ps:List Str} (h:∀ a0:Value,bindArgs fd ⟨[a0],[]⟩=pure (ps.zip [a0])):∀ us:List Value,us.length=1→bindArgs fd ⟨us,[]⟩=pure (ps.zip us)
 | [a0],_=>h a0
theorem bd2 {fd:FuncData} {ps:List Str} (h:∀ a0 a1:Value,bindArgs fd ⟨[a0,a1],[]⟩=pure (ps.zip [a0,a1])):∀ us:List Value,us.length=2→bindArgs fd ⟨us,[]⟩=pure (ps.zip us)
 | [a0,a1],_=>h a0 a1
theorem bd3 {fd:FuncData} {ps:List Str} (h:∀ a0 a1 a2:Value,bindArgs fd ⟨[a0,a1,a2],[]⟩=pure (ps.zip [a0,a1,a2])):∀ us:List Value,us.length=3→bindArgs fd ⟨us,[]⟩=pure (ps.zip us)
 | [a0,a1,a2],_=>h a0 a1 a2
theorem bd4 {fd:FuncData} {ps:List Str} (h:∀ a0 a1 a2 a3:Value,bindArgs fd ⟨[a0,a1,a2,a3],[]⟩=pure (ps.zip [a0,a1,a2,a3])):∀ us:List Value,us.length=4→bindArgs fd ⟨us,[]⟩=pure (ps.zip us)
 | [a0,a1,a2,a3],_=>h a0 a1 a2 a3
theorem bd5 {fd:FuncData} {ps:List Str} (h:∀ a0 a1 a2 a3 a4:Value,bindArgs fd ⟨[a0,a1,a2,a3,a4],[]⟩=pure (ps.zip [a0,a1,a2,a3,a4])):∀ us:List Value,us.length=5→bindArgs fd ⟨us,[]⟩=pure (ps.zip us)
 | [a0,a1,a2,a3,a4],_=>h a0 a1 a2 a3 a4
theorem bd6 {fd:FuncData} {ps:List Str} (h:∀ a0 a1 a2 a3 a4 a5:Value,bindArgs fd ⟨[a0,a1,a2,a3,a4,a5],[]⟩=pure (ps.zip [a0,a1,a2,a3,a4,a5])):∀ us:List Value,us.length=6→bindArgs fd ⟨us,[]⟩=pure (ps.zip us)
 | [a0,a1,a2,a3,a4,a5],_=>h a0 a1 a2 a3 a4 a5
def zue (H0 H1:Hp):Hp→Prop:=fun H2=>Stb H1 H2∧Same H0 H2
noncomputable def tZk (K:PySem.W.Frag) (H0:Hp) (f:Z.LF):TI:=fun σ H R=>∃ ρ ds,RS K H0 H σ ρ∧f ρ=.ok ds∧∀ J H',Same H H'→ItZ K J (zue H0 H') ds→R J H'
abbrev DK (X:Cx) (H0:Hp) (tg e:Expr) (f:Z.LF):Prop:=PI X tg e (tZk X.K H0 f)
theorem Gives.imp {K:PySem.W.Frag} {J:Inn} {S S':Hp→Prop} {ds:List Z.D} (h:Gives K J S ds) (k:∀ H,S' H→S H):Gives K J S' ds :=
 ⟨fun i d H1 s=>h.at_ i d H1 (k _ s),fun H1 s=>h.end_ H1 (k _ s)⟩
section
variable {X:Cx} {H0:Hp} {tg a b:Expr} {pos p p2:Pos} {fa:Z.EF} {elts:List Expr} {x1:Nat} {g:Z.SF}
end
end ZS
namespace ZQ
open PySem PySem.Spec PyProof.Rows L2 ZS
structure QK (X:Cx) (H0:Hp) (tg e:Expr) (f:Z.LF):Prop where p:DK X H0 tg e f
section
variable {X:Cx} {H0:Hp} {tg a b:Expr} {pos p p2:Pos} {fa:Z.EF} {elts:List Expr} {x1:Nat} {g:Z.SF}
end
end ZQ
noncomputable section
namespace Z
noncomputable def zl6:D→D→Res D
 | .int a,.int b=>.ok (.int (a+b))
 | _,_=>.bad
@[simp] theorem zpJ (a b:Int):zl6 (.int a) (.int b)=.ok (.int (a+b)):=rfl
noncomputable def ztR (c:Bool):D→Res D
 | .bl b=>.ok (.bl (b==c))
 | _=>.bad
@[simp] theorem zrP (c b:Bool):ztR c (.bl b)=.ok (.bl (b==c)):=rfl
noncomputable def zrI (c:Bool):D→Res D
 | .bl b=>.ok (.bl (b != c))
 | _=>.bad
@[simp] theorem zqE (c b:Bool):zrI c (.bl b)=.ok (.bl (b != c)):=rfl
noncomputable def zjS:List D→Option (List Int)
 | []=>some []
 | .int i :: r=>(zjS r).map (i :: ·)
 | _ :: _=>none
theorem zh9:∀ {ds:List D} {ns:List Int},zjS ds=some ns→ds=ns.map .int
 | [],ns,h=>by cases h;rfl
 | d :: r,ns,h=>by
  cases d with
  | int i =>
   obtain ⟨ms,e,rfl⟩:=Option.map_eq_some_iff.mp (show (zjS r).map (i :: ·)=some ns from h)
   rw [zh9 e];rfl
  | non=>cases h
  | bl _=>cases h
  | str _=>cases h
  | tup _=>cases h
  | lst _=>cases h
  | dct _ _=>cases h
@[simp] theorem zgS:∀ ns:List Int,zjS (ns.map .int)=some ns
 | []=>rfl
 | n :: ns=>by
  show (zjS (ns.map .int)).map (n :: ·)=_
  rw [zgS ns];rfl
noncomputable def mxl (k:Int):List Int→Int
 | []=>k
 | n :: ns=>ns.foldl max n
theorem fold_max : ∀ (ns : List Int) (n : Int), n ≤ ns.foldl max n ∧ (∀ m ∈ ns, m ≤ ns.foldl max n) ∧ (ns.foldl max n = n ∨ ns.foldl max n ∈ ns)
 | [],n=>⟨Int.le_refl _,by simp,.inl rfl⟩
 | m :: ns,n=>by
  obtain ⟨a,b,c⟩:=fold_max ns (max n m)
  rw [List.foldl_cons]
  refine ⟨by lia,fun x hx=>?_,?_⟩
  ·rcases List.mem_cons.mp hx with rfl | hx
   ·lia
   ·exact b x hx
  ·rcases c with c | c
   ·rw [c]
    by_cases h:n≤m
    ·rw [show max n m=m by lia];exact .inr List.mem_cons_self
    ·rw [show max n m=n by lia];exact .inl rfl
   ·exact .inr (List.mem_cons_of_mem _ c)
theorem znT {k M:Int} {ns:List Int} (h:M∈ns) (g:∀ m∈ns,m≤M):mxl k ns=M:=by
 cases ns with
 | nil=>cases h
 | cons n ns =>
  obtain ⟨a,b,c⟩:=fold_max ns n
  show ns.foldl max n=M
  have h1:M≤ns.foldl max n:=by
   rcases List.mem_cons.mp h with rfl | h
   ·exact a
   ·exact b M h
  have h2:ns.foldl max n≤M:=by
   rcases c with c | c
   ·rw [c];exact g n List.mem_cons_self
   ·exact g _ (List.mem_cons_of_mem _ c)
  lia
noncomputable def zjK:D→D→Res D
 | .lst ds,.int k=>match zjS ds with
  | some ns=>.ok (.int (mxl k ns))
  | none=>.bad
 | _,_=>.bad
theorem zoz (k:Int) (ns:List Int):zjK (.lst (ns.map .int)) (.int k)=.ok (.int (mxl k ns)):=by
 unfold zjK
 simp only [zgS]
theorem znj {x y d:D} (h:zjK x y=.ok d):∃ ns k,x=.lst (ns.map .int)∧y=.int k∧d=.int (mxl k ns):=by
 unfold zjK at h
 split at h
 ·split at h
  ·rename_i ns e
   cases h
   exact ⟨ns,_,by rw [zh9 e],rfl,rfl⟩
  ·cases h
 ·cases h
end Z
end
noncomputable section
namespace Z
noncomputable def ziQ:D→Res D
 | .lst ds=>match zjS ds with
  | some (n :: ns)=>.ok (.int (ns.foldl max n))
  | _=>.bad
 | _=>.bad
theorem zoA (n:Int) (ns:List Int):ziQ (.lst ((n :: ns).map .int))=.ok (.int (ns.foldl max n)):=by
 unfold ziQ
 simp only [zgS]
theorem znk {x d:D} (h:ziQ x=.ok d):∃ n ns,x=.lst ((n :: ns).map .int)∧d=.int (mxl 0 (n :: ns)):=by
 unfold ziQ at h
 split at h
 ·split at h
  ·rename_i n ns e
   cases h
   exact ⟨n,ns,by rw [zh9 e],rfl⟩
  ·cases h
 ·cases h
end Z
end
namespace ZS
open PySem PySem.Spec PyProof.Rows L2
section
variable {X:Cx} {H0:Hp} {pos:Pos}
theorem zso {i:Nat} {ρ:Z.Env} {d:Z.D} (h:Z.eV i ρ=.ok d):ρ[i]?=some (some (.val d)):=by
 unfold Z.eV at h
 split at h
 ·rename_i e;cases h;exact e
 ·cases h
theorem zqe {i:Nat} {x:Str} {a:Expr} {fa:Z.EF} {pos':Pos} {op:Operator} {r:R2} {o:Z.D→Z.D→Z.Res Z.D} (hN:X.N.Nodup) (hi:X.N[i]?=some x) (hx:Loc X.env.scope x) (hr:OpR X (inplaceOp op) r) (hz:OpZ X.K r o) (he:DE X a fa) (hf:X.fn x=true∨X.env.scope.names.lookup x=some .local) :
  DS X H0 (.AugAssign (.Name x pos') op a pos) (Z.zbj i (Z.eB o (Z.eV i) fa)):=PS.imp (ps_aug hN hi hx he hr hf) fun D σ H ⟨ρ,fl,rs,e,k⟩=>by
 obtain ⟨d,ea,e⟩:=Z.Res.bind_ok e
 cases e
 obtain ⟨dx,e1,ea⟩:=Z.Res.bind_ok ea
 obtain ⟨dy,e2,ea⟩:=Z.Res.bind_ok ea
 obtain ⟨v,si,dv⟩:=rs.re.get i _ (zso e1)
 refine ⟨v,si,ρ,dy,rs.re,e2,fun y H1 s1 dy1=>?_⟩
 exact hz v y dx dy d H1 _ (.inl (Den.up dv s1)) (.inl dy1) ea fun z H2 s2 dz=>k _ H2 (stb (s1.trans s2)) ((rs.up (s1.trans s2)).setV dz)
theorem zoq {K:PySem.W.Frag}:OpZ K (rI0 fun i j=>.int (i+j)) Z.zl6:=zfj (gd:=fun i j=>.int (i+j)) (fun dx dy d e=>by
 unfold Z.zl6 at e;split at e
 ·cases e;exact ⟨_,_,rfl,rfl,rfl⟩
 ·cases e) fun _ _ _=>zb4
end
end ZS
namespace ZQ
open PySem PySem.Spec PyProof.Rows L2 ZS
section
variable {X:Cx} {H0:Hp} {pos:Pos}
theorem zoU {i:Nat} {x:Str} {a:Expr} {fa:Z.EF} {pos':Pos} (hN:X.N.Nodup) (hi:X.N[i]?=some x) (hx:Loc X.env.scope x) (he:QE X a fa) (hf:X.fn x=true∨X.env.scope.names.lookup x=some .local:=by first | exact .inl rfl | exact .inr rfl | assumption) :
  QS X H0 (.AugAssign (.Name x pos') .Add a pos) (Z.zbj i (Z.eB Z.zl6 (Z.eV i) fa)):=⟨ZS.zqe hN hi hx iop_add zoq he.p hf⟩
end
end ZQ
namespace ZMx
open PySem PySem.Spec PyProof.Rows
section
variable {prog:Program} {w:World} {A:Around} {R:Result→Shared→Prop} {I S:Addr} {fp wr:List Addr} {n:Nat} {P:Nat→Value→Prop} {St:Nat→Heap→Prop}
noncomputable abbrev two (b:Value) (c:Nat):Obj:={ cls:=.type "list",data:=.seq #[b,b] c }
noncomputable abbrev lp (I S:Addr) (kw:List (Str×Value)):Code:=.builtin "max.loop" ⟨[.ref I,.none,.ref S],kw⟩
theorem nm:(toString "max" ++ toString ".loop" : String) = "max.loop" := by decide
theorem go (W:Walks prog w A.in1 I fp wr n P St) {bt:Nat→Nat→Bool} (hc:CmpOf prog w A.in1 .Gt P bt) (out:S∉fp) (kw:List (Str×Value)) :
  ∀ (k j:Nat) (s:Shared) (b:Value) (c:Nat),n=j+1+k→St (j+1) s.heap→P (argBest bt j) b→s.heap.get? S=some (two b c) →
   (∀ v h' tk,P (argBest bt (n-1)) v→(∀ a o,a≠S→a∉wr→s.heap.get? a=some o→h'.get? a=some o)→R (.ok (.ret v)) { s with heap:=h',toks:=tk }) →
   codeAny (model prog w) A (lp I S kw) R s:=by
 have ow:S∉wr:=fun z=>out (W.sub S z)
 have oth:∀ {h:Heap} {a:Addr} {o:Obj} (f:Obj→Obj),a≠S→h.get? a=some o→(h.update S f).get? a=some o:=fun f ne e=>(Heap.get?_update_other _ _ (Ne.symm ne)).trans e
 intro k
 induction k with
 | zero =>
  intro j s b c hn st pb gS fin
  refine codeAny_builtin PySem.F.entry_max_loop ?_
  rw [Around.under_plainId PySem.F.plain_max_loop (⟨[.ref I,.none,.ref S],kw⟩)]
  show wpAny (model prog w) A.in1 (seqItems? (.ref S) >>= _) _ _ s
  refine wpAny_bind (wpAny_seqItems gS rfl (wpAny_bind (wpAny_tryCatch (W.done s _ _ (by rw [hn];exact st) fun h1 t1 k1=>?_))))
  have g1:=k1 S _ ow gS
  show wpAny (model prog w) A.in1 (updateSeq S (fun _=>#[]) >>= _) _ _ _
  refine wpAny_bind (wpAny_updateSeq g1 rfl (wpAny_bind (wpAny_letGo (wpAny_pure ?_))))
  refine fin b _ t1 (by rw [hn];exact pb) fun a o ne nw e=>oth _ ne (k1 a o nw e)
 | succ k ih =>
  intro j s b c hn st pb gS fin
  refine codeAny_builtin PySem.F.entry_max_loop ?_
  rw [Around.under_plainId PySem.F.plain_max_loop (⟨[.ref I,.none,.ref S],kw⟩)]
  show wpAny (model prog w) A.in1 (seqItems? (.ref S) >>= _) _ _ s
  refine wpAny_bind (wpAny_seqItems gS rfl (wpAny_bind (wpAny_tryCatch (W.item (j+1) s _ _ (by lia) st fun v h1 t1 pv st1 k1=>?_))))
  have g1:=k1 S _ ow gS
  refine wpAny_bind (wpAny_pure ?_)
  show wpAny (model prog w) A.in1 (tryCatch (holding [v,v] (richCompare .Gt v b >>= _)) _ >>= _) _ _ _
  refine wpAny_bind (wpAny_tryCatch (wpAny_holding (wpAny_bind (hc (j+1) (argBest bt j) v b _ _ _ pv pb (wpAny_bind (wpAny_holding (wpAny_truthy_bool (wpAny_bind (wpAny_letGo (wpAny_pure ?_))))))))))
  have stay:∀ (f:Obj→Obj),St (j+1+1) (h1.update S f):=fun f=>W.frame _ _ _ st1 fun a ha o e=>oth f (fun z=>out (z▸ha)) e
  cases q:bt (j+1) (argBest bt j) with
  | true =>
   simp only [if_true]
   refine wpAny_bind (wpAny_updateSeq g1 rfl (wpAny_bind (wpAny_letGo ?_)))
   rw [nm]
   refine wpAny_pure ⟨plainId_quiet PySem.F.plain_max_loop _,ih (j+1) _ v _ (by lia) (stay _) (by simp only [argBest,q,if_true];exact pv) (Heap.get?_update_self _ g1 rfl) fun v' h2 t2 pv' k2=>?_⟩
   exact fin v' h2 t2 pv' fun a o ne nw e=>k2 a o ne nw (oth _ ne (k1 a o nw e))
  | false =>
   simp only [Bool.false_eq_true,if_false]
   refine wpAny_bind (wpAny_letGo ?_)
   rw [nm]
   refine wpAny_pure ⟨plainId_quiet PySem.F.plain_max_loop _,ih (j+1) _ b c (by lia) st1 (by simp only [argBest,q,Bool.false_eq_true,if_false];exact pb) g1 fun v' h2 t2 pv' k2=>?_⟩
   exact fin v' h2 t2 pv' fun a o ne nw e=>k2 a o ne nw (k1 a o nw e)
theorem first (W:Walks prog w A.in1 I fp wr n P St) {bt:Nat→Nat→Bool} (hc:CmpOf prog w A.in1 .Gt P bt) (out:S∉fp) {x:Str} {d:Value} {s:Shared} {c:Nat} (st:St 0 s.heap) (gS:s.heap.get? S=some { cls:=.type "list",data:=.seq #[] c })
  (none_:n=0→∀ h' tk,(∀ a o,a≠S→a∉wr→s.heap.get? a=some o→h'.get? a=some o)→R (.ok (.ret d)) { s with heap:=h',toks:=tk })
  (fin:0 < n→∀ v h' tk,P (argBest bt (n-1)) v→(∀ a o,a≠S→a∉wr→s.heap.get? a=some o→h'.get? a=some o)→R (.ok (.ret v)) { s with heap:=h',toks:=tk }) :
  codeAny (model prog w) A (lp I S [(x,d)]) R s:=by
 have ow:S∉wr:=fun z=>out (W.sub S z)
 have oth:∀ {h:Heap} {a:Addr} {o:Obj} (f:Obj→Obj),a≠S→h.get? a=some o→(h.update S f).get? a=some o:=fun f ne e=>(Heap.get?_update_other _ _ (Ne.symm ne)).trans e
 refine codeAny_builtin PySem.F.entry_max_loop ?_
 rw [Around.under_plainId PySem.F.plain_max_loop (⟨[.ref I,.none,.ref S],[(x,d)]⟩)]
 show wpAny (model prog w) A.in1 (seqItems? (.ref S) >>= _) _ _ s
 by_cases h0:n=0
 ·subst h0
  refine wpAny_bind (wpAny_seqItems gS rfl (wpAny_bind (wpAny_tryCatch (W.done s _ _ st fun h1 t1 k1=>?_))))
  refine wpAny_bind (wpAny_rule (wpAny_pure ?_))
  exact none_ rfl h1 t1 fun a o _ nw e=>k1 a o nw e
 ·have hp:0 < n:=Nat.pos_of_ne_zero h0
  refine wpAny_bind (wpAny_seqItems gS rfl (wpAny_bind (wpAny_tryCatch (W.item 0 s _ _ hp st fun v h1 t1 pv st1 k1=>?_))))
  have g1:=k1 S _ ow gS
  refine wpAny_bind (wpAny_pure ?_)
  refine wpAny_bind (wpAny_updateSeq g1 rfl ?_)
  rw [nm]
  refine wpAny_pure ⟨plainId_quiet PySem.F.plain_max_loop _,go W hc out [(x,d)] (n-1) 0 _ v _ (by lia) (W.frame _ _ _ st1 fun a ha o e=>oth _ (fun z=>out (z▸ha)) e) pv (Heap.get?_update_self _ g1 rfl) fun v' h2 t2 pv' k2=>?_⟩
  exact fin hp v' h2 t2 pv' fun a o ne nw e=>k2 a o ne nw (oth _ ne (k1 a o nw e))
theorem args (a d:Value):argsOk "max" ⟨[a],[(Str.ofString "default",d)]⟩:=by unfold argsOk;kernel_rfl
theorem binds (d:Value):Builtin.Builtins.bindParams "max" ["key", "default"] 0 ⟨[],[(Str.ofString "default",d)]⟩=pure [none,some d]:=by kernel_rfl
theorem call {x d:Value} {Q:Value→Shared→Prop} {E:Value→Shared→Prop} {s:Shared}
  (h:wpAny (model prog w) A.in1 (pyIter x) (fun it s2=>∃ I fp wr n P St bt,it=.ref I∧Walks prog w A.in1 I fp wr n P St∧St 0 s2.heap∧(∀ b∈fp,b < s2.heap.objs.size)∧CmpOf prog w A.in1 .Gt P bt ∧
   (n=0→∀ h' tk,(∀ a o,a∉wr→s2.heap.get? a=some o→h'.get? a=some o)→Q d { s2 with heap:=h',toks:=tk }) ∧
   (0 < n→∀ v h' tk,P (argBest bt (n-1)) v→(∀ a o,a∉wr→s2.heap.get? a=some o→h'.get? a=some o)→Q v { s2 with heap:=h',toks:=tk })) E s) :
  wpAny (model prog w) A (PySem.call (.builtin "max") [x] [(Str.ofString "default",d)]) Q E s:=by
 refine kmk_tree PySem.F.kind_max PySem.F.plain_max PySem.F.entry_max (args x d) ?_
 show wpAny (model prog w) A.in1 (Builtin.Builtins.bindParams "max" ["key", "default"] 0 ⟨[],[(Str.ofString "default",d)]⟩ >>= _) _ _ s
 rw [binds]
 refine wpAny_bind (wpAny_pure (wpAny_bind (wpAny_pure (wpAny_bind (wpAny_mono h (fun it s2 q=>?_) fun _ _ e=>e)))))
 obtain ⟨I,fp,wr,n,P,St,bt,rfl,W,st,lt,hc,q0,q1⟩:=q
 refine wpAny_bind (wpAny_newObj_type ?_)
 have out:s2.heap.objs.size∉fp:=fun z=>Nat.lt_irrefl _ (lt _ z)
 have keep:∀ {h':Heap},(∀ a o,a≠s2.heap.objs.size→a∉wr→(s2.heap.push { cls:=.type "list",data:=.seq #[] }).get? a=some o→h'.get? a=some o)→∀ a o,a∉wr→s2.heap.get? a=some o→h'.get? a=some o :=
  fun k a o nw e=>k a o (Nat.ne_of_lt (Heap.lt_size e)) nw (Heap.get?_push_of_some _ e)
 rw [nm]
 refine wpAny_pure ⟨plainId_quiet PySem.F.plain_max_loop _,first W hc out (W.frame _ _ _ st fun a _ o e=>Heap.get?_push_of_some _ e) (Heap.get?_push_size _ rfl) (fun z h' tk k=>q0 z h' tk (keep k)) fun z v h' tk pv k=>q1 z v h' tk pv (keep k)⟩
end
end ZMx
namespace ZMx
open PySem PySem.Spec PyProof.Rows
section
variable {prog:Program} {w:World} {A:Around} {R:Result→Shared→Prop} {I S:Addr} {fp wr:List Addr} {n:Nat} {P:Nat→Value→Prop} {St:Nat→Heap→Prop}
theorem zp5 (W:Walks prog w A.in1 I fp wr n P St) {bt:Nat→Nat→Bool} (hc:CmpOf prog w A.in1 .Gt P bt) (out:S∉fp) {s:Shared} {c:Nat} (hp:0 < n) (st:St 0 s.heap) (gS:s.heap.get? S=some { cls:=.type "list",data:=.seq #[] c })
  (fin:∀ v h' tk,P (argBest bt (n-1)) v→(∀ a o,a≠S→a∉wr→s.heap.get? a=some o→h'.get? a=some o)→R (.ok (.ret v)) { s with heap:=h',toks:=tk }) :
  codeAny (model prog w) A (lp I S []) R s:=by
 have ow:S∉wr:=fun z=>out (W.sub S z)
 have oth:∀ {h:Heap} {a:Addr} {o:Obj} (f:Obj→Obj),a≠S→h.get? a=some o→(h.update S f).get? a=some o:=fun f ne e=>(Heap.get?_update_other _ _ (Ne.symm ne)).trans e
 refine codeAny_builtin PySem.F.entry_max_loop ?_
 rw [Around.under_plainId PySem.F.plain_max_loop (⟨[.ref I,.none,.ref S],[]⟩)]
 show wpAny (model prog w) A.in1 (seqItems? (.ref S) >>= _) _ _ s
 refine wpAny_bind (wpAny_seqItems gS rfl (wpAny_bind (wpAny_tryCatch (W.item 0 s _ _ hp st fun v h1 t1 pv st1 k1=>?_))))
 have g1:=k1 S _ ow gS
 refine wpAny_bind (wpAny_pure ?_)
 refine wpAny_bind (wpAny_updateSeq g1 rfl ?_)
 rw [nm]
 refine wpAny_pure ⟨plainId_quiet PySem.F.plain_max_loop _,go W hc out [] (n-1) 0 _ v _ (by lia) (W.frame _ _ _ st1 fun a ha o e=>oth _ (fun z=>out (z▸ha)) e) pv (Heap.get?_update_self _ g1 rfl) fun v' h2 t2 pv' k2=>?_⟩
 exact fin v' h2 t2 pv' fun a o ne nw e=>k2 a o ne nw (oth _ ne (k1 a o nw e))
theorem zsC (a:Value):argsOk "max" ⟨[a],[]⟩:=by unfold argsOk;kernel_rfl
theorem zqq:Builtin.Builtins.bindParams "max" ["key", "default"] 0 ⟨[],[]⟩=pure [none,none]:=by kernel_rfl
theorem zsr {x:Value} {Q:Value→Shared→Prop} {E:Value→Shared→Prop} {s:Shared}
  (h:wpAny (model prog w) A.in1 (pyIter x) (fun it s2=>∃ I fp wr n P St bt,it=.ref I∧Walks prog w A.in1 I fp wr n P St∧St 0 s2.heap∧(∀ b∈fp,b < s2.heap.objs.size)∧CmpOf prog w A.in1 .Gt P bt∧0 < n ∧
   (∀ v h' tk,P (argBest bt (n-1)) v→(∀ a o,a∉wr→s2.heap.get? a=some o→h'.get? a=some o)→Q v { s2 with heap:=h',toks:=tk })) E s) :
  wpAny (model prog w) A (PySem.call (.builtin "max") [x] []) Q E s:=by
 refine kmk_tree PySem.F.kind_max PySem.F.plain_max PySem.F.entry_max (zsC x) ?_
 show wpAny (model prog w) A.in1 (Builtin.Builtins.bindParams "max" ["key", "default"] 0 ⟨[],[]⟩ >>= _) _ _ s
 rw [zqq]
 refine wpAny_bind (wpAny_pure (wpAny_bind (wpAny_pure (wpAny_bind (wpAny_mono h (fun it s2 q=>?_) fun _ _ e=>e)))))
 obtain ⟨I,fp,wr,n,P,St,bt,rfl,W,st,lt,hc,hp,q1⟩:=q
 refine wpAny_bind (wpAny_newObj_type ?_)
 have out:s2.heap.objs.size∉fp:=fun z=>Nat.lt_irrefl _ (lt _ z)
 have keep:∀ {h':Heap},(∀ a o,a≠s2.heap.objs.size→a∉wr→(s2.heap.push { cls:=.type "list",data:=.seq #[] }).get? a=some o→h'.get? a=some o)→∀ a o,a∉wr→s2.heap.get? a=some o→h'.get? a=some o :=
  fun k a o nw e=>k a o (Nat.ne_of_lt (Heap.lt_size e)) nw (Heap.get?_push_of_some _ e)
 rw [nm]
 refine wpAny_pure ⟨plainId_quiet PySem.F.plain_max_loop _,zp5 W hc out hp (W.frame _ _ _ st fun a _ o e=>Heap.get?_push_of_some _ e) (Heap.get?_push_size _ rfl) fun v h' tk pv k=>q1 v h' tk pv (keep k)⟩
end
end ZMx
namespace ZS
open PySem PySem.Spec PyProof.Rows L2
section
variable {X:Cx} {a c:Expr} {fa fc:Z.EF} {pos:Pos}
theorem zoH (hcalm:X.calm=true) {pins:List (Addr×Obj)} {s:Shared} {σ:St} {H:Hp} {q:Addr} {ns:List Int} {k:Int} {t:Tok} {Q:VK} (I:Inv X pins σ H s) (hq:SqL X.K H q (ns.map V.int)) (w:Q (.int (Z.mxl k ns)) H) :
  wpAny (model X.prog X.w) X.A (call (.builtin "max") [.ref q] [(Str.ofString "default",.int k t)]) (EP X pins σ Q) X.xe s:=by
 obtain ⟨its,rv,pl,hz⟩:=I.list hq
 have hl:=rv.length
 rw [List.length_map] at hl
 have hlt:q < s.heap.objs.size:=by obtain ⟨_,e,_⟩:=pl.isList;exact Heap.lt_size e
 have hh:X.A.in1.handled=none:=I.ok.hd hcalm
 have item:∀ (i:Nat) v,its.toArray[i]?=some v→∃ u,v=Value.int (ns[i]?.getD 0) u:=by
  intro i v hv
  have hi:its[i]?=some v:=by simpa using hv
  obtain ⟨hi1,_⟩:=List.getElem?_eq_some_iff.mp hi
  have hb:(ns.map V.int)[i]?=some (V.int (ns[i]'(by lia))):=by
   rw [List.getElem?_map,List.getElem?_eq_getElem (by lia)];rfl
  obtain ⟨u,hu,ru⟩:=rv.get hb
  rw [hi] at hu;cases hu
  obtain ⟨u,rfl⟩:=ru
  exact ⟨u,by rw [List.getElem?_eq_getElem (by lia)];rfl⟩
 have I1:Inv X pins σ H { s with heap:=s.heap.push { cls:=.type "list_iterator",data:=.fields #[.ref q,.int 0 0] } }:=I.kept (t':=s.toks) fun b o e=>Heap.get?_push_of_some _ e
 obtain ⟨f0,f1,f2,f3,f4,f5⟩:=I.fpOk (H':=H) (Nat.le_refl s.heap.objs.size) I.fresh
 have I2:∀ (h':Heap) (tk:Nat),(∀ b o,b∉[s.heap.objs.size]→(s.heap.push { cls:=.type "list_iterator",data:=.fields #[.ref q,.int 0 0] }).get? b=some o→h'.get? b=some o)→Inv X pins σ H { s with heap:=h',toks:=tk }:=fun h' tk hk=>by
  have z:=I1.turned (h':=h') (t':=tk) (it:=s.heap.objs.size) (fun b o hb e=>hk b o (by simpa using hb) e) f0 f1 f3 f4 f5
  exact z
 refine ZMx.call (wpAny_pyIter_list pl.isList ?_)
 refine ⟨s.heap.objs.size,[s.heap.objs.size,q],[s.heap.objs.size],its.toArray.size,_,_,fun i j=>decide (ns[i]?.getD 0 > ns[j]?.getD 0),rfl,Walks.list hh s.heap.objs.size q (Nat.ne_of_lt hlt) its.toArray,⟨⟨_,Heap.get?_push_size _ rfl,rfl,rfl⟩,pl.isList.push _⟩,?_,CmpOf.ints_gt (fun i=>ns[i]?.getD 0) item,fun h0 h' tk hk=>?_,fun hp v h' tk hv hk=>?_⟩
 ·intro b hb
  show b < (s.heap.push _).objs.size
  rw [Heap.size_push]
  rcases List.mem_cons.mp hb with rfl | hb
  ·exact Nat.lt_succ_self _
  ·rw [List.mem_singleton.mp hb];exact Nat.lt_succ_of_lt hlt
 ·refine ⟨.int k,H,I2 h' tk hk,⟨t,rfl⟩,?_⟩
  have:ns=[]:=by
   rw [List.size_toArray] at h0
   exact List.length_eq_zero_iff.mp (by lia)
  subst this
  exact w
 ·obtain ⟨u,rfl⟩:=item _ _ hv
  obtain ⟨b1,b2⟩:=argBest_gt (fun i=>ns[i]?.getD 0) (its.toArray.size-1)
  rw [List.size_toArray] at hp
  have hM:ns[argBest (fun i j=>decide (ns[i]?.getD 0 > ns[j]?.getD 0)) (its.toArray.size-1)]?.getD 0=Z.mxl k ns:=by
   refine (Z.znT ?_ fun m hm=>?_).symm
   ·rw [List.size_toArray] at b1 ⊢
    rw [List.getElem?_eq_getElem (by lia)]
    exact List.getElem_mem _
   ·obtain ⟨j,hj,rfl⟩:=List.getElem_of_mem hm
    have:=b2 j (by rw [List.size_toArray];lia)
    rw [List.getElem?_eq_getElem hj] at this
    exact this
  refine ⟨.int (Z.mxl k ns),H,I2 h' tk hk,⟨u,by rw [hM]⟩,w⟩
theorem zks {x:Str} {p1 kp:Pos} (hg:Gl X x) (hm:X.mg x=none) (hv:bootBuiltins x=some (.builtin "max")) (ha:DW X a fa) (hb:DE X c fc) (hc:X.calm=true:=by rfl) (hn:x ≠ "__name__" := by decide +kernel) (hdb:(x==("__debug__" : Str))=false:=by decide +kernel)
  (he:starEach (a :: []) X.env=(false,eval a X.env) :: starEach [] X.env:=by rfl) (hb1:backTo pos (starEach (a :: []) X.env)=(false,eval a X.env) :: backTo pos (starEach [] X.env):=by rfl) (hpl:(backTo pos (starEach (a :: []) X.env)).any (·.1)=false:=by rfl) :
  DE X (.Call (.Name x p1) [a] [⟨some (Str.ofString "default"),c,kp⟩] pos) (Z.eB Z.zjK fa fc):=by
 intro pins s σ H Q I h
 obtain ⟨ρ,d,r,e,k⟩:=h
 obtain ⟨dx,ea,e⟩:=Z.Res.bind_ok e
 obtain ⟨dy,eb,e⟩:=Z.Res.bind_ok e
 obtain ⟨ns,n,rfl,rfl,rfl⟩:=Z.znj e
 refine wpAny_Call_Name_kw (ld_blt I hg hm hv ?_ hn hdb)
 refine callWith_kw ?_ hb1 hpl
 refine thn (pa_cons ha pa_nil he pos pins s σ H (fun vs H1=>∃ v,vs=[v]∧Same H H1∧zcv X.K H1 (.lst (ns.map .int)) v) I ⟨ρ,_,r,ea,fun v H1 s1 d1=>⟨v,rfl,s1,d1⟩⟩) fun us s1 ⟨vs,H1,I1,r1,q1⟩=>?_
 obtain ⟨v,rfl,sm,d1⟩:=q1
 obtain ⟨u,rfl,ru⟩:=vals1 r1
 refine kws_cons (thn (hb pins s1 σ H1 (fun y H2=>Same H1 H2∧y=.int n) I1 ⟨ρ,_,r.up sm,eb,fun y H2 s2 dy=>⟨s2,by simpa only [Den] using dy⟩⟩) fun w s2 ⟨y,H2,I2,r2,q2⟩=>kws_nil ?_)
 obtain ⟨sm2,rfl⟩:=q2
 obtain ⟨t,rfl⟩:=r2
 obtain ⟨q,vs,rfl,hq,tt⟩:=(d1.up sm2).lst
 rw [zfv tt] at hq
 cases ru
 exact zoH hc I2 hq (k _ H2 (sm.trans sm2) zb4)
end
end ZS
namespace ZQ
open PySem PySem.Spec PyProof.Rows L2 ZS
section
variable {X:Cx} {a c:Expr} {fa fc:Z.EF} {pos:Pos}
theorem zks {x:Str} {p1 kp:Pos} (hg:Gl X x) (hm:X.mg x=none) (hv:bootBuiltins x=some (.builtin "max")) (ha:QW X a fa) (hb:QE X c fc) (hc:X.calm=true:=by rfl) (hn:x ≠ "__name__" := by decide +kernel) (hdb:(x==("__debug__" : Str))=false:=by decide +kernel)
  (he:starEach (a :: []) X.env=(false,eval a X.env) :: starEach [] X.env:=by rfl) (hb1:backTo pos (starEach (a :: []) X.env)=(false,eval a X.env) :: backTo pos (starEach [] X.env):=by rfl) (hpl:(backTo pos (starEach (a :: []) X.env)).any (·.1)=false:=by rfl) :
  QE X (.Call (.Name x p1) [a] [⟨some (Str.ofString "default"),c,kp⟩] pos) (Z.eB Z.zjK fa fc):=⟨ZS.zks hg hm hv ha.p hb.p hc hn hdb he hb1 hpl⟩
end
end ZQ
namespace ZS
open PySem PySem.Spec PyProof.Rows L2
section
variable {X:Cx} {a c:Expr} {fa fc:Z.EF} {pos:Pos}
theorem zmH (hcalm : X.calm = true) : CallR X (.builtin "max") (fun xs H Q => ∃ (q : Addr) (ns : List Int), xs = [.ref q] ∧ SqL X.K H q (ns.map V.int) ∧ ns ≠ [] ∧ Q (.int (Z.mxl 0 ns)) H) := by
 intro pins s σ H xs us Q I r h
 obtain ⟨q,ns,rfl,hq,hne,w⟩:=h
 obtain ⟨u,rfl,ru⟩:=vals1 r
 cases ru
 obtain ⟨its,rv,pl,hz⟩:=I.list hq
 have hl:=rv.length
 rw [List.length_map] at hl
 have hlt:q < s.heap.objs.size:=by obtain ⟨_,e,_⟩:=pl.isList;exact Heap.lt_size e
 have hh:X.A.in1.handled=none:=I.ok.hd hcalm
 have hns:0 < ns.length:=List.length_pos_iff.mpr hne
 have item:∀ (i:Nat) v,its.toArray[i]?=some v→∃ u,v=Value.int (ns[i]?.getD 0) u:=by
  intro i v hv
  have hi:its[i]?=some v:=by simpa using hv
  obtain ⟨hi1,_⟩:=List.getElem?_eq_some_iff.mp hi
  have hb:(ns.map V.int)[i]?=some (V.int (ns[i]'(by lia))):=by
   rw [List.getElem?_map,List.getElem?_eq_getElem (by lia)];rfl
  obtain ⟨u,hu,ru⟩:=rv.get hb
  rw [hi] at hu;cases hu
  obtain ⟨u,rfl⟩:=ru
  exact ⟨u,by rw [List.getElem?_eq_getElem (by lia)];rfl⟩
 have I1:Inv X pins σ H { s with heap:=s.heap.push { cls:=.type "list_iterator",data:=.fields #[.ref q,.int 0 0] } }:=I.kept (t':=s.toks) fun b o e=>Heap.get?_push_of_some _ e
 obtain ⟨f0,f1,f2,f3,f4,f5⟩:=I.fpOk (H':=H) (Nat.le_refl s.heap.objs.size) I.fresh
 have I2:∀ (h':Heap) (tk:Nat),(∀ b o,b∉[s.heap.objs.size]→(s.heap.push { cls:=.type "list_iterator",data:=.fields #[.ref q,.int 0 0] }).get? b=some o→h'.get? b=some o)→Inv X pins σ H { s with heap:=h',toks:=tk }:=fun h' tk hk=>by
  have z:=I1.turned (h':=h') (t':=tk) (it:=s.heap.objs.size) (fun b o hb e=>hk b o (by simpa using hb) e) f0 f1 f3 f4 f5
  exact z
 refine ZMx.zsr (wpAny_pyIter_list pl.isList ?_)
 refine ⟨s.heap.objs.size,[s.heap.objs.size,q],[s.heap.objs.size],its.toArray.size,_,_,fun i j=>decide (ns[i]?.getD 0 > ns[j]?.getD 0),rfl,Walks.list hh s.heap.objs.size q (Nat.ne_of_lt hlt) its.toArray,⟨⟨_,Heap.get?_push_size _ rfl,rfl,rfl⟩,pl.isList.push _⟩,?_,CmpOf.ints_gt (fun i=>ns[i]?.getD 0) item,by rw [List.size_toArray];lia,fun v h' tk hv hk=>?_⟩
 ·intro b hb
  show b < (s.heap.push _).objs.size
  rw [Heap.size_push]
  rcases List.mem_cons.mp hb with rfl | hb
  ·exact Nat.lt_succ_self _
  ·rw [List.mem_singleton.mp hb];exact Nat.lt_succ_of_lt hlt
 ·obtain ⟨u,rfl⟩:=item _ _ hv
  obtain ⟨b1,b2⟩:=argBest_gt (fun i=>ns[i]?.getD 0) (its.toArray.size-1)
  have hM:ns[argBest (fun i j=>decide (ns[i]?.getD 0 > ns[j]?.getD 0)) (its.toArray.size-1)]?.getD 0=Z.mxl 0 ns:=by
   refine (Z.znT ?_ fun m hm=>?_).symm
   ·rw [List.size_toArray] at b1 ⊢
    rw [List.getElem?_eq_getElem (by lia)]
    exact List.getElem_mem _
   ·obtain ⟨j,hj,rfl⟩:=List.getElem_of_mem hm
    have:=b2 j (by rw [List.size_toArray];lia)
    rw [List.getElem?_eq_getElem hj] at this
    exact this
  refine ⟨.int (Z.mxl 0 ns),H,I2 h' tk hk,⟨u,by rw [hM]⟩,w⟩
theorem zkt {x:Str} {p1:Pos} (hg:Gl X x) (hm:X.mg x=none) (hv:bootBuiltins x=some (.builtin "max")) (ha:DW X a fa) (hc:X.calm=true:=by rfl) (hn:x ≠ "__name__" := by decide +kernel) (hdb:(x==("__debug__" : Str))=false:=by decide +kernel)
  (he:starEach (a :: []) X.env=(false,eval a X.env) :: starEach [] X.env:=by rfl) (hpl:(backTo pos (starEach [] X.env)).any (·.1)=false:=by rfl):DE X (.Call (.Name x p1) [a] [] pos) (Z.eU Z.ziQ fa) :=
 PE.imp (pe_callB (zmH hc) hg hm hv (pa_cons ha pa_nil he) hn hdb he hpl) fun σ H Q ⟨ρ,d,r,e,k⟩=>by
  obtain ⟨x,ea,e⟩:=Z.Res.bind_ok e
  refine ⟨ρ,x,r,ea,fun v H1 s1 d1=>?_⟩
  obtain ⟨n,ns,rfl,rfl⟩:=Z.znk e
  obtain ⟨q,vs,rfl,hq,t⟩:=d1.lst
  rw [zfv t] at hq
  exact ⟨q,n :: ns,rfl,hq,by simp,k _ H1 s1 zb4⟩
end
end ZS
namespace ZQ
open PySem PySem.Spec PyProof.Rows L2 ZS
section
variable {X:Cx} {a c:Expr} {fa fc:Z.EF} {pos:Pos}
theorem zkt {x:Str} {p1:Pos} (hg:Gl X x) (hm:X.mg x=none) (hv:bootBuiltins x=some (.builtin "max")) (ha:QW X a fa) (hc:X.calm=true:=by rfl) (hn:x ≠ "__name__" := by decide +kernel) (hdb:(x==("__debug__" : Str))=false:=by decide +kernel) (he:starEach (a :: []) X.env=(false,eval a X.env) :: starEach [] X.env:=by rfl) (hpl:(backTo pos (starEach [] X.env)).any (·.1)=false:=by rfl):QE X (.Call (.Name x p1) [a] [] pos) (Z.eU Z.ziQ fa):=⟨ZS.zkt (hg:=hg) (hm:=hm) (hv:=hv) (ha:=ha.p) (hc:=hc) (hn:=hn) (hdb:=hdb) (he:=he) (hpl:=hpl)⟩
end
end ZQ
noncomputable section
namespace Z
def Ok {α:Type} (r:Res α) (Q:α→Prop):Prop:=∃ a,r=.ok a∧Q a
theorem Ok.intro {α:Type} {r:Res α} {Q:α→Prop} {a:α} (h:r=.ok a) (q:Q a):Ok r Q:=⟨a,h,q⟩
theorem Ok.imp {α:Type} {r:Res α} {P Q:α→Prop} (h:Ok r P) (k:∀ a,P a→Q a):Ok r Q:=let ⟨a,e,p⟩:=h;⟨a,e,k a p⟩
theorem Ok.eq {α:Type} {r:Res α} {a:α} (h:Ok r fun x=>x=a):r=.ok a:=by obtain ⟨x,e,rfl⟩:=h;exact e
@[simp] theorem zqs {α:Type} (a:α) (Q:α→Prop):Ok (.ok a) Q↔Q a:=⟨fun ⟨_,e,q⟩=>by cases e;exact q,fun q=>⟨a,rfl,q⟩⟩
@[simp] theorem ztu {α:Type} (Q:α→Prop):Ok (.bad:Res α) Q↔False:=⟨fun ⟨_,e,_⟩=>(by cases e),False.elim⟩
@[simp] theorem zsI {α β:Type} (r:Res α) (f:α→Res β) (Q:β→Prop):Ok (r.bind f) Q↔Ok r fun a=>Ok (f a) Q:=by
 cases r with
 | ok a=>simp
 | bad=>simp
@[simp] theorem zts {α β:Type} (r:Res α) (f:α→β) (Q:β→Prop):Ok (r.map f) Q↔Ok r fun a=>Q (f a):=by
 cases r with
 | ok a=>simp
 | bad=>simp
@[simp] theorem zq7 {α:Type} (p:Prop) (r:Res α) (Q:α→Prop):Ok (guard p r) Q↔p∧Ok r Q:=by
 constructor
 ·rintro ⟨a,e,q⟩
  obtain ⟨h,e⟩:=zfn e
  exact ⟨h,a,e,q⟩
 ·rintro ⟨h,k⟩
  rw [zfm h];exact k
@[simp] theorem ztt {α:Type} {c:Prop} [Decidable c] (r r':Res α) (Q:α→Prop):Ok (if c then r else r') Q↔if c then Ok r Q else Ok r' Q:=by split<;>rfl
noncomputable abbrev v (d:D):Option L:=some (.val d)
noncomputable abbrev vi (i:Int):Option L:=some (.val (.int i))
noncomputable abbrev vs (cs:List Nat):Option L:=some (.val (.str cs))
noncomputable abbrev ow (xs:List D):Option L:=some (.own xs)
noncomputable abbrev bo (xs:List D):Option L:=some (.bor xs)
noncomputable def asW:Option (Option L)→Res D
 | some (some (.val d))=>.ok d
 | some (some (.own xs))=>.ok (.lst xs)
 | some (some (.bor xs))=>.ok (.lst xs)
 | _=>.bad
noncomputable def asV:Option (Option L)→Res D
 | some (some (.val d))=>.ok d
 | _=>.bad
@[simp] theorem zuj (i:Nat) (ρ:Env):eW i ρ=asW ρ[i]?:=by
 unfold eW asW
 cases ρ[i]? with
 | none=>rfl
 | some o=>cases o with
  | none=>rfl
  | some l=>cases l<;>rfl
@[simp] theorem zuk (i:Nat) (ρ:Env):eV i ρ=asV ρ[i]?:=by
 unfold eV asV
 cases ρ[i]? with
 | none=>rfl
 | some o=>cases o with
  | none=>rfl
  | some l=>cases l<;>rfl
@[simp] theorem zsy (d:D):asW (some (some (.val d)))=.ok d:=rfl
@[simp] theorem zsz (xs:List D):asW (some (some (.own xs)))=.ok (.lst xs):=rfl
@[simp] theorem zsA (xs:List D):asW (some (some (.bor xs)))=.ok (.lst xs):=rfl
@[simp] theorem zsB (d:D):asV (some (some (.val d)))=.ok d:=rfl
theorem za2 {b:SF} {ρ:Env} {d:D} (h:Ok (b ρ) fun fl=>zcL (.ok fl)=.ok d):zcL (b ρ)=.ok d:=by
 obtain ⟨fl,e,q⟩:=h;rw [e,q]
theorem zeB {b:SF} {ρ:Env} {P:D→Prop} (h:Ok (b ρ) fun fl=>Ok (zcL (.ok fl)) P):Ok (zcL (b ρ)) P:=by
 obtain ⟨fl,e,q⟩:=h;rw [e];exact q
@[simp] theorem zrs (ρ:Env):zrt ρ=.ok (.ct ρ):=rfl
@[simp] theorem zqx (ρ:Env):zpp ρ=.ok (.bk ρ):=rfl
@[simp] theorem zsU (e:EF) (g:GF) (ρ:Env):zoi e g ρ=(e ρ).bind fun d=>(g d ρ).bind fun ρ'=>.ok (.nx ρ'):=rfl
@[simp] theorem zsh (i j:Nat) (a b:D) (ρ:Env):gTup [i,j] (.tup [a,b]) ρ=.ok ((ρ.set i (v a)).set j (v b)):=rfl
noncomputable def ztq (i:Nat) (ρ:Env) (d:D):Option (Option L)→Res Fl
 | some (some (.own xs))=>guard (xs.length < line) (.ok (.nx (ρ.set i (ow (xs++[d])))))
 | _=>.bad
@[simp] theorem zpq (i:Nat) (e:EF) (ρ:Env):zco i e ρ=(e ρ).bind fun d=>ztq i ρ d ρ[i]?:=rfl
@[simp] theorem zq6 (i:Nat) (ρ:Env) (d:D) (xs:List D):ztq i ρ d (some (some (.own xs)))=guard (xs.length < line) (.ok (.nx (ρ.set i (ow (xs++[d]))))):=rfl
noncomputable def ztj (i:Nat) (ρ:Env) (ys:List D):Option (Option L)→Res Fl
 | some (some (.own xs))=>guard (xs.length+ys.length≤line) (.ok (.nx (ρ.set i (ow (xs++ys)))))
 | _=>.bad
@[simp] theorem zsX (i:Nat) (l:LF) (ρ:Env):zpo i l ρ=(l ρ).bind fun ys=>ztj i ρ ys ρ[i]?:=rfl
@[simp] theorem zqZ (i:Nat) (ρ:Env) (ys xs:List D):ztj i ρ ys (some (some (.own xs)))=guard (xs.length+ys.length≤line) (.ok (.nx (ρ.set i (ow (xs++ys))))):=rfl
noncomputable def zp3 (i:Nat) (ρ:Env):Option (Option L)→Env
 | some (some (.own xs))=>ρ.set i (v (.lst xs))
 | _=>ρ
@[simp] theorem zsV (i:Nat) (a:SF) (ρ:Env):znL i a ρ=a (zp3 i ρ ρ[i]?):=by
 unfold znL frz zp3
 cases ρ[i]? with
 | none=>rfl
 | some o=>cases o with
  | none=>rfl
  | some l=>cases l<;>rfl
@[simp] theorem zqY (i:Nat) (ρ:Env) (xs:List D):zp3 i ρ (some (some (.own xs)))=ρ.set i (v (.lst xs)):=rfl
@[simp] theorem zqX (i:Nat) (ρ:Env) (d:D):zp3 i ρ (some (some (.val d)))=ρ:=rfl
@[simp] theorem zp2 (i:Nat) (ρ:Env):zp3 i ρ (some none)=ρ:=rfl
noncomputable def ztp:D→D→Res (List D)
 | .lst xs,.lst ys=>guard (xs.length+ys.length≤line) (.ok (xs++ys))
 | _,_=>.bad
theorem zpS (a b:EF) (ρ:Env):zme a b ρ=(a ρ).bind fun x=>(b ρ).bind fun y=>ztp x y:=rfl
@[simp] theorem zq2 (xs ys:List D):ztp (.lst xs) (.lst ys)=guard (xs.length+ys.length≤line) (.ok (xs++ys)):=rfl
noncomputable def slK (l h:Option Int):D→Res (List D)
 | .lst xs=>.ok (cut xs l h)
 | _=>.bad
theorem zpQ (a:EF) (lo hi:PF) (ρ:Env):lSl a lo hi ρ=(a ρ).bind fun x=>(lo ρ).bind fun l=>(hi ρ).bind fun h=>slK l h x:=rfl
@[simp] theorem zrj (l h:Option Int) (xs:List D):slK l h (.lst xs)=.ok (cut xs l h):=rfl
@[simp] theorem zrG (xs:List D) (l h:Option Int):oSl (.tup xs) l h=.ok (.tup (cut xs l h)):=rfl
@[simp] theorem zqz (cs:List Nat) (l h:Option Int):oSl (.str cs) l h=guard (cs.length≤line) (.ok (.str (cut cs l h))):=rfl
@[simp] theorem zpI (a b:List Nat):zbh (.str a) (.str b)=guard (a.length+b.length≤line) (.ok (.str (a++b))):=rfl
@[simp] theorem zpH (a b:List D):zbh (.tup a) (.tup b)=guard (a.length+b.length≤line) (.ok (.tup (a++b))):=rfl
@[simp] theorem zqF (a:Int):zni (.int a)=.ok (.int (-a)):=rfl
@[simp] theorem zqO:ziR .non=.ok (.bl true):=rfl
@[simp] theorem zqN (xs:List D):ziR (.tup xs)=.ok (.bl false):=rfl
@[simp] theorem zpF:ze1 .non=.ok (.bl false):=rfl
@[simp] theorem zpE (xs:List D):ze1 (.tup xs)=.ok (.bl true):=rfl
theorem zef (a b:Nat) (hb:b≤1000000) (ha:a < 18446744073709551616):ziP (.int (a:Int)) (.int (b:Int))=.ok (.int ((a ^ b:Nat):Int)):=by
 have h:(0:Int)≤b∧(b:Int)≤1000000∧(a:Int).natAbs < 2 ^ 64:=⟨by lia,by lia,by rw [Int.natAbs_natCast];exact ha⟩
 show guard _ _=_
 rw [zfm h,Int.toNat_natCast,Int.natCast_pow]
@[simp] theorem zs1:ziP (.int 10) (.int 60)=.ok (.int 1000000000000000000000000000000000000000000000000000000000000):=zef 10 60 (by decide) (by decide)
@[simp] theorem zs2:ziP (.int 10) (.int 59)=.ok (.int 100000000000000000000000000000000000000000000000000000000000):=zef 10 59 (by decide) (by decide)
@[simp] theorem zs3:ziP (.int 10) (.int 55)=.ok (.int 10000000000000000000000000000000000000000000000000000000):=zef 10 55 (by decide) (by decide)
@[simp] theorem zs4:ziP (.int 10) (.int 50)=.ok (.int 100000000000000000000000000000000000000000000000000):=zef 10 50 (by decide) (by decide)
@[simp] theorem zrE:ziP (.int 7919) (.int 9)=.ok (.int 122470950010456506152021579891552879):=zef 7919 9 (by decide) (by decide)
noncomputable def atK:Option D→Res D
 | some d=>.ok d
 | none=>.bad
@[simp] theorem zq5 (d:D):atK (some d)=.ok d:=rfl
theorem zl5 (xs:List D) (i:Int):oIx (.tup xs) (.int i)=atK ((ixZ xs.length i).bind fun j=>xs[j]?):=by
 show (match (ixZ xs.length i).bind fun j=>xs[j]? with | some v=>Res.ok v | none=>.bad)=_
 cases (ixZ xs.length i).bind fun j=>xs[j]?<;>rfl
theorem zoB (xs:List D) (i:Int):oIx (.lst xs) (.int i)=atK ((ixZ xs.length i).bind fun j=>xs[j]?):=by
 show (match (ixZ xs.length i).bind fun j=>xs[j]? with | some v=>Res.ok v | none=>.bad)=_
 cases (ixZ xs.length i).bind fun j=>xs[j]?<;>rfl
theorem zdk {xs:List D} {i:Int} {j:Nat} {d:D} (h:i=j) (e:xs[j]?=some d):oIx (.tup xs) (.int i)=.ok d∧oIx (.lst xs) (.int i)=.ok d:=by
 subst h
 have hj:j < xs.length:=(List.getElem?_eq_some_iff.mp e).1
 have:ixZ xs.length (j:Int)=some j:=by simp [ixZ,hj]
 rw [zl5,zoB,this]
 simp [e]
theorem zh7 {cs:List Nat} {i:Int} {j c:Nat} (h:i=j) (e:cs[j]?=some c) (hl:cs.length≤line):oIx (.str cs) (.int i)=.ok (.str [c]):=by
 subst h
 have hj:j < cs.length:=(List.getElem?_eq_some_iff.mp e).1
 have:ixZ cs.length (j:Int)=some j:=by simp [ixZ,hj]
 show guard (cs.length≤line) (match (ixZ cs.length (j:Int)).bind fun j=>cs[j]? with | some c=>Res.ok (D.str [c]) | none=>.bad)=_
 rw [zfm hl,this]
 simp [e]
theorem zgQ {xs:List D} {i:Int} (h0:0≤i) (h1:i < xs.length):∃ d∈xs,oIx (.lst xs) (.int i)=.ok d∧oIx (.tup xs) (.int i)=.ok d:=by
 have hj:i.toNat < xs.length:=by lia
 refine ⟨xs[i.toNat],List.getElem_mem hj,?_⟩
 have:=zdk (xs:=xs) (i:=i) (j:=i.toNat) (d:=xs[i.toNat]) (by lia) (List.getElem?_eq_getElem hj)
 exact ⟨this.2,this.1⟩
def turn (I:Env→Prop) (Q:Fl→Prop):Fl→Prop
 | .nx ρ=>I ρ
 | .ct ρ=>I ρ
 | .bk ρ=>Q (.nx ρ)
 | .rt d=>Q (.rt d)
@[simp] theorem zhP (I:Env→Prop) (Q:Fl→Prop) (ρ:Env):turn I Q (.nx ρ)↔I ρ:=Iff.rfl
@[simp] theorem zrd (I:Env→Prop) (Q:Fl→Prop) (ρ:Env):turn I Q (.ct ρ)↔I ρ:=Iff.rfl
@[simp] theorem zre (I:Env→Prop) (Q:Fl→Prop) (ρ:Env):turn I Q (.bk ρ)↔Q (.nx ρ):=Iff.rfl
@[simp] theorem zrc (I:Env→Prop) (Q:Fl→Prop) (d:D):turn I Q (.rt d)↔Q (.rt d):=Iff.rfl
theorem znW {g:GF} {b:SF} {Q:Fl→Prop} (I:Nat→Env→Prop):∀ (ds:List D) (ρ:Env) (i:Nat),I i ρ→(∀ j d ρ,ds[j]?=some d→I (i+j) ρ→Ok (g d ρ) fun ρ1=>Ok (b ρ1) (turn (I (i+j+1)) Q))→(∀ ρ,I (i+ds.length) ρ→Q (.nx ρ))→Ok (zfp g b ds ρ) Q
 | [],ρ,i,h,_,e=>by simpa [zfp] using e ρ h
 | d :: ds,ρ,i,h,k,e=>by
  obtain ⟨ρ1,e1,fl,e2,t⟩:=k 0 d ρ rfl h
  have ih:=fun ρ' (h':I (i+1) ρ')=>znW I (g:=g) (b:=b) (Q:=Q) ds ρ' (i+1) h' (fun j x ρ hj hP=>by
   have:=k (j+1) x ρ (by simpa using hj) (by simpa [Nat.add_assoc,Nat.add_comm 1 j] using hP)
   simpa [Nat.add_assoc,Nat.add_comm 1 j] using this) (fun ρ hP=>e ρ (by simpa [Nat.add_assoc,Nat.add_comm 1] using hP))
  unfold zfp
  rw [e1,Res.ok_bind,e2,Res.ok_bind]
  cases fl with
  | nx ρ'=>exact ih ρ' (by simpa using t)
  | ct ρ'=>exact ih ρ' (by simpa using t)
  | bk ρ'=>simpa using t
  | rt d=>simpa using t
theorem zcQ {g:GF} {b:SF} {Q:Fl→Prop} (I:Nat→Env→Prop) {ds:List D} {ρ:Env} (h0:I 0 ρ) (hs:∀ j d ρ,ds[j]?=some d→I j ρ→Ok (g d ρ) fun ρ1=>Ok (b ρ1) (turn (I (j+1)) Q)) (he:∀ ρ,I ds.length ρ→Q (.nx ρ)):Ok (zfp g b ds ρ) Q :=
 znW I ds ρ 0 h0 (fun j d ρ hd hI=>by rw [Nat.zero_add] at hI ⊢;exact hs j d ρ hd hI) (fun ρ h=>he ρ (by rwa [Nat.zero_add] at h))
theorem zmC {g:GF} {t:TF} {e:EF} {ρ:Env} {ds:List D} {Q:List D→Prop} (p:D→Bool) (h:D→D) (hs:∀ d∈ds,Ok (g d ρ) fun ρ1=>Ok (t ρ1) fun c=>c=p d∧(p d=true→Ok (e ρ1) fun y=>y=h d)) (hq:Q ((ds.filter p).map h)):Ok (zc7 g t e ρ ds) Q:=by
 refine ⟨_,zfx (p:=p) (h:=h) ds fun d hd=>?_,hq⟩
 obtain ⟨ρ1,e1,c,e2,hc,k⟩:=hs d hd
 exact ⟨ρ1,e1,by rw [e2,hc],fun hp=>(k hp).eq⟩
theorem zfw {g:GF} {e:EF} {ρ:Env} {ds:List D} {Q:List D→Prop} (h:D→D) (hs:∀ d∈ds,Ok (g d ρ) fun ρ1=>Ok (e ρ1) fun y=>y=h d) (hq:Q (ds.map h)):Ok (zc7 g zdA e ρ ds) Q:=by
 refine ⟨_,zhM (h:=h) ds fun d hd=>?_,hq⟩
 obtain ⟨ρ1,e1,k⟩:=hs d hd
 rw [e1];exact k.eq
theorem zbQ {α:Type} (enc:α→D) {g:GF} {t:TF} {e:EF} {ρ:Env} (f:α→Bool) (h:α→D):∀ {xs:List α} {Q:List D→Prop},(∀ x∈xs,Ok (g (enc x) ρ) fun ρ1=>Ok (t ρ1) fun c=>c=f x∧(f x=true→Ok (e ρ1) fun y=>y=h x))→Q ((xs.filter f).map h)→Ok (zc7 g t e ρ (xs.map enc)) Q:=by
 intro xs Q hs hq
 refine ⟨_,?_,hq⟩
 clear hq
 induction xs with
 | nil=>rfl
 | cons x xs ih =>
  obtain ⟨ρ1,e1,c,e2,hc,k⟩:=hs x List.mem_cons_self
  have ih':=ih fun y hy=>hs y (List.mem_cons_of_mem _ hy)
  cases hf:f x with
  | true =>
   rw [hf] at hc
   have:=(k hf).eq
   simp [zc7,e1,e2,hc,this,ih',hf]
  | false =>
   rw [hf] at hc
   simp [zc7,e1,e2,hc,ih',hf]
theorem zhe {α:Type} [DecidableEq α] {f:D→D→Option Bool} {h:α→D} (k:∀ x y,f (h x) (h y)=some (decide (x=y))):∀ (xs ys:List α),ze7 f (xs.map h) (ys.map h)=some (decide (xs=ys))
 | [],[]=>rfl
 | [],_ :: _=>rfl
 | _ :: _,[]=>rfl
 | x :: xs,y :: ys=>by simp [ze7,k,zhe k xs ys]
end Z
end
set_option maxRecDepth 4000
noncomputable section
namespace KG
open Z
noncomputable def zfV:SF:=(zbS (eOr (eB oIn (eW 0) (zd1 (zab (eC (.str [46])) (zab (eC (.str [61])) zav)))) (eB oEq (eW 0) (eW 1))))
noncomputable def zei:List D→Res D:=fn 2 2 zfV
theorem znv (x0 x1:D):zei [x0,x1]=zcL (zfV [some (.val x0),some (.val x1)]):=zdv _ _ _ _ rfl
noncomputable def zd6:SF:=(zaI (zjn 2 (zbp zav)) (zaI (zfE (iRng2 (eB oIx (eW 1) (eC (.int 0))) (eB zbh (eB oIx (eW 1) (eC (.int 0))) (eB oIx (eW 0) (eC (.int 2))))) (gName 3) (zpo 2 (zcu (iRng2 (eB oIx (eW 1) (eC (.int 1))) (eB zbh (eB oIx (eW 1) (eC (.int 1))) (eB oIx (eW 0) (eC (.int 1))))) 1 [3] (gName 0) zdA (zd1 (zab (eV 1) (zab (eV 0) zav)))))) (zbS (eU zc6 (eW 2)))))
noncomputable def zcV:List D→Res D:=fn 2 4 zd6
theorem zjX (x0 x1:D):zcV [x0,x1]=zcL (zd6 [some (.val x0),some (.val x1),none,none]):=zdv _ _ _ _ rfl
noncomputable def zcI:SF:=(zaI (sIf (tE (eB oLt (eW 1) (eU zdh (eW 0)))) (zbS (eB oIx (eW 0) (eW 1))) zbn) (zbS (eC (.int 0))))
noncomputable def zak:List D→Res D:=fn 2 2 zcI
theorem zeQ (x0 x1:D):zak [x0,x1]=zcL (zcI [some (.val x0),some (.val x1)]):=zdv _ _ _ _ rfl
noncomputable def zcC:SF:=(zaI (zbj 2 (eB oMod (eB zf7 (eB zbh (eB zbh (eB oMod (eW 0) (eC (.int 2147483629))) (eB zf7 (eB zf7 (eC (.int 7919)) (eW 1)) (eW 1))) (eW 1)) (eC (.int 48271))) (eC (.int 2147483647)))) (zaI (zbj 2 (eB oMod (eB zbh (eB zbh (eB zf7 (eW 2) (eW 2)) (eB zf7 (eC (.int 69621)) (eW 2))) (eW 1)) (eC (.int 2147483647)))) (zbS (eB oMod (eB zbh (eB zf7 (eW 2) (eC (.int 39373))) (eB zf7 (eC (.int 11)) (eW 1))) (eC (.int 2147483587))))))
noncomputable def zaq:List D→Res D:=fn 2 3 zcC
theorem zga (x0 x1:D):zaq [x0,x1]=zcL (zcC [some (.val x0),some (.val x1),none]):=zdv _ _ _ _ rfl
noncomputable def zc8:SF:=(zaI (zbj 2 (eB oIx (eW 1) (eC (.int 0)))) (zaI (zbj 3 (eB oIx (eW 1) (eC (.int 1)))) (zaI (sIf (tAnd (tE (zeS oLe oLt (eC (.int 0)) (eW 2) (eU zdh (eW 0)))) (tE (zeS oLe oLt (eC (.int 0)) (eW 3) (eU zdh (eB oIx (eW 0) (eC (.int 0))))))) (zbS (eB oIx (eB oIx (eW 0) (eW 2)) (eW 3))) zbn) (zbS (eC .non)))))
noncomputable def zc9:List D→Res D:=fn 2 4 zc8
theorem zlr (x0 x1:D):zc9 [x0,x1]=zcL (zc8 [some (.val x0),some (.val x1),none,none]):=zdv _ _ _ _ rfl
noncomputable def zjl:SF:=(zaI (zbj 3 (eL (zcu (zfK (zar zcV (zab (eV 1) (zab (eV 2) zav)))) 1 [0] (gName 0) zdA (zar zc9 (zab (eV 1) (zab (eV 0) zav)))))) (zaI (sIf (tNot (tE (eU zmU (eL (zcu (zfK (eW 3)) 1 [1] (gName 0) zdA (zar zei (zab (eV 0) (zab (eB oIx (eW 1) (eC (.int 3))) zav)))))))) (zbS (eC (.bl false))) zbn) (zbS (eB oGe (eB ziS (eW 3) (eC (.str [61]))) (eB oIx (eW 1) (eC (.int 4)))))))
noncomputable def zdT:List D→Res D:=fn 3 4 zjl
theorem zoQ (x0 x1 x2:D):zdT [x0,x1,x2]=zcL (zjl [some (.val x0),some (.val x1),some (.val x2),none]):=zdv _ _ _ _ rfl
noncomputable def zdE:SF:=(zaI (zjn 2 (zbp zav)) (zaI (zfE (iRng1 (eU zdh (eW 0))) (gName 3) (zpo 2 (zcu (iRng1 (eU zdh (eB oIx (eW 0) (eW 3)))) 1 [0,1,3] (gName 0) (tE (zar zdT (zab (eV 1) (zab (eV 2) (zab (zd1 (zab (eV 3) (zab (eV 0) zav))) zav))))) (zd1 (zab (eV 3) (zab (eV 0) zav)))))) (zbS (eU zc6 (eW 2)))))
noncomputable def zcx:List D→Res D:=fn 2 4 zdE
theorem zi3 (x0 x1:D):zcx [x0,x1]=zcL (zdE [some (.val x0),some (.val x1),none,none]):=zdv _ _ _ _ rfl
noncomputable def zeH:SF:=(zaI (sIf (tOr (tE (eB oLe (eB zbh (eB oIx (eW 1) (eC (.int 0))) (eB oIx (eW 0) (eC (.int 2)))) (eB oIx (eW 3) (eC (.int 0))))) (tE (eB oLe (eB zbh (eB oIx (eW 3) (eC (.int 0))) (eB oIx (eW 2) (eC (.int 2)))) (eB oIx (eW 1) (eC (.int 0)))))) (zbS (eC (.bl true))) zbn) (zaI (zbj 4 (eB zpc (eB oIx (eW 0) (eC (.int 5))) (eB oIx (eW 2) (eC (.int 5))))) (zbS (eOr (eB oLe (eB zbh (eB zbh (eB oIx (eW 1) (eC (.int 1))) (eB oIx (eW 0) (eC (.int 1)))) (eW 4)) (eB oIx (eW 3) (eC (.int 1)))) (eB oLe (eB zbh (eB zbh (eB oIx (eW 3) (eC (.int 1))) (eB oIx (eW 2) (eC (.int 1)))) (eW 4)) (eB oIx (eW 1) (eC (.int 1))))))))
noncomputable def zej:List D→Res D:=fn 4 5 zeH
theorem znx (x0 x1 x2 x3:D):zej [x0,x1,x2,x3]=zcL (zeH [some (.val x0),some (.val x1),some (.val x2),some (.val x3),none]):=zdv _ _ _ _ rfl
noncomputable def zb7:SF:=(zbS (eL (zcu (zoP (eV 0) (eV 1)) 2 [] (gTup [0,1]) (tE (eU ze1 (eW 1))) (zd1 (zab (eV 0) (zab (eV 1) zav))))))
noncomputable def zat:List D→Res D:=fn 2 2 zb7
theorem zfM (x0 x1:D):zat [x0,x1]=zcL (zb7 [some (.val x0),some (.val x1)]):=zdv _ _ _ _ rfl
noncomputable def zb8:SF:=(zbS (eU zmU (eL (zcu (zfK (eW 2)) 2 [0,1] (gTup [0,1]) zdA (zar zej (zab (eV 2) (zab (eV 3) (zab (eV 0) (zab (eV 1) zav)))))))))
noncomputable def zaL:List D→Res D:=fn 3 3 zb8
theorem zfN (x0 x1 x2:D):zaL [x0,x1,x2]=zcL (zb8 [some (.val x0),some (.val x1),some (.val x2)]):=zdv _ _ _ _ rfl
noncomputable def zhc:SF:=(zaI (zbj 3 (zar zat (zab (eV 1) (zab (eV 2) zav)))) (zaI (sIf (tNot (tE (eU zmU (eL (zcu (zfK (eW 3)) 2 [0] (gTup [0,1]) zdA (zar zdT (zab (eV 2) (zab (eV 0) (zab (eV 1) zav))))))))) (zbS (eC (.bl false))) zbn) (zbS (eU zmU (eL (zcu (iRng1 (eU zdh (eW 3))) 1 [3] (gName 0) zdA (zar zaL (zab (eB oIx (eB oIx (eW 1) (eW 0)) (eC (.int 0))) (zab (eB oIx (eB oIx (eW 1) (eW 0)) (eC (.int 1))) (zab (eL (lSl (eW 1) pNo (pAt (eW 0)))) zav))))))))))
noncomputable def zdM:List D→Res D:=fn 3 4 zhc
theorem znw (x0 x1 x2:D):zdM [x0,x1,x2]=zcL (zhc [some (.val x0),some (.val x1),some (.val x2),none]):=zdv _ _ _ _ rfl
end KG
end
namespace KG
open Z
noncomputable abbrev Rows:=List (List Nat)
noncomputable abbrev Pl:=Int×Int
structure Hall (rows:Rows) (C:Nat):Prop where
 r1:1≤rows.length
 r2:rows.length≤100
 c1:1≤C
 c2:C≤100
 len:∀ x∈rows,x.length=C
structure G where
 name:List Nat
 w:Nat
 d:Nat
 kind:List Nat
 wide:Nat
 gap:Nat
 worth:D
 wishes:D
structure GOk (g:G):Prop where
 w1:1≤g.w
 w2:g.w≤13
 d1:1≤g.d
 d2:g.d≤4
 kd:g.kind.length≤1
 wd:g.wide≤100
 gp:g.gap≤100
noncomputable def zfO (rows:Rows):D:=.tup (rows.map .str)
noncomputable def encP (p:Pl):D:=.tup [.int p.1,.int p.2]
noncomputable def zbT (g:G):D:=.tup [.str g.name,.int g.w,.int g.d,.str g.kind,.int g.wide,.int g.gap,g.worth,g.wishes]
noncomputable def zi8:Option Nat→D
 | some c=>.str [c]
 | none=>.non
@[simp] theorem ztM (p:Pl):oIx (encP p) (.int 0)=.ok (.int p.1):=rfl
@[simp] theorem ztL (p:Pl):oIx (encP p) (.int 1)=.ok (.int p.2):=rfl
@[simp] theorem zt6 (g:G):oIx (zbT g) (.int 0)=.ok (.str g.name):=rfl
@[simp] theorem zt5 (g:G):oIx (zbT g) (.int 1)=.ok (.int g.w):=rfl
@[simp] theorem zt4 (g:G):oIx (zbT g) (.int 2)=.ok (.int g.d):=rfl
@[simp] theorem zt3 (g:G):oIx (zbT g) (.int 3)=.ok (.str g.kind):=rfl
@[simp] theorem zt2 (g:G):oIx (zbT g) (.int 4)=.ok (.int g.wide):=rfl
@[simp] theorem zt1 (g:G):oIx (zbT g) (.int 5)=.ok (.int g.gap):=rfl
@[simp] theorem zt0 (g:G):oIx (zbT g) (.int 6)=.ok g.worth:=rfl
@[simp] theorem ztZ (g:G):oIx (zbT g) (.int 7)=.ok g.wishes:=rfl
@[simp] theorem ztY (rows:Rows):zdh (zfO rows)=.ok (.int rows.length):=by simp [zfO]
@[simp] theorem ztw (a b:Int):D.tup [.int a,.int b]=encP (a,b):=rfl
theorem zcJ (ρ:Env) (is:List Nat):zhq ρ is=is.map (zhp ρ):=rfl
noncomputable def zmF:Option (Option L)→Option L
 | some (some (.val d))=>some (.val d)
 | some (some (.bor xs))=>some (.bor xs)
 | some (some (.fdc ks))=>some (.fdc ks)
 | _=>none
theorem zbP (ρ:Env) (i:Nat):zhp ρ i=zmF ρ[i]?:=by
 unfold zhp zmF
 cases ρ[i]? with
 | none=>rfl
 | some o=>cases o with
  | none=>rfl
  | some l=>cases l<;>rfl
@[simp] theorem zqn (xs:List D):zmF (some (some (.bor xs)))=some (.bor xs):=rfl
@[simp] theorem zqm (ks:List (List Int)):zmF (some (some (.fdc ks)))=some (.fdc ks):=rfl
@[simp] theorem zql (d:D):zmF (some (some (.val d)))=some (.val d):=rfl
theorem Hall.row {rows:Rows} {C:Nat} (H:Hall rows C) {r:Nat} (h:r < rows.length):∃ row,rows[r]?=some row∧row.length=C∧oIx (zfO rows) (.int r)=.ok (.str row):=by
 refine ⟨rows[r],List.getElem?_eq_getElem h,H.len _ (List.getElem_mem h),(zdk (j:=r) rfl ?_).1⟩
 rw [List.getElem?_map,List.getElem?_eq_getElem h];rfl
theorem Hall.row0 {rows:Rows} {C:Nat} (H:Hall rows C):∃ row,row.length=C∧oIx (zfO rows) (.int 0)=.ok (.str row):=by
 obtain ⟨row,_,h1,h2⟩:=H.row (r:=0) H.r1
 exact ⟨row,h1,h2⟩
noncomputable def zbR (rows:Rows) (p:Pl):Option Nat:=if 0≤p.1∧0≤p.2 then (rows[p.1.toNat]?).bind (fun r=>r[p.2.toNat]?) else none
theorem zoh {rows:Rows} {C:Nat} (H:Hall rows C) {p:Pl} (h1:0≤p.1) (h2:p.1 < rows.length) (h3:0≤p.2) (h4:p.2 < C):∃ row c,oIx (zfO rows) (.int p.1)=.ok (.str row)∧row.length=C∧oIx (.str row) (.int p.2)=.ok (.str [c])∧zbR rows p=some c:=by
 obtain ⟨row,e1,hl,e2⟩:=H.row (r:=p.1.toNat) (by lia)
 rw [Int.toNat_of_nonneg h1] at e2
 have hc:p.2.toNat < row.length:=by lia
 have hl':=H.c2
 refine ⟨row,row[p.2.toNat],e2,hl,zh7 (j:=p.2.toNat) (by lia) (List.getElem?_eq_getElem hc) (by simp only [line];lia),?_⟩
 simp [zbR,h1,h3,e1,hc]
theorem zhT {rows:Rows} {C:Nat} (H:Hall rows C) {p:Pl} (h:¬ (0≤p.1∧p.1 < rows.length∧0≤p.2∧p.2 < C)):zbR rows p=none:=by
 unfold zbR
 by_cases h0:0≤p.1∧0≤p.2
 ·rw [if_pos h0]
  cases e:rows[p.1.toNat]? with
  | none=>rfl
  | some row =>
   obtain ⟨h1,h2⟩:=List.getElem?_eq_some_iff.mp e
   have:=H.len row (List.mem_of_getElem? e)
   simp only [Option.bind_some]
   exact List.getElem?_eq_none (by lia)
 ·rw [if_neg h0]
theorem zog {rows : Rows} {C : Nat} (H : Hall rows C) (p : Pl) : zc9 [zfO rows, encP p] = .ok (zi8 (zbR rows p)) := by
 rw [zlr]
 refine za2 ?_
 obtain ⟨row0,hl0,e0⟩:=H.row0
 have hc2:=H.c2
 have hln:C≤line:=by simp only [line];lia
 by_cases h:0≤p.1∧p.1 < rows.length∧0≤p.2∧p.2 < C
 ·obtain ⟨row,c,e1,_,e2,e3⟩:=zoh H h.1 h.2.1 h.2.2.1 h.2.2.2
  simp [zc8,e0,hl0,hln,h.1,h.2.1,h.2.2.1,h.2.2.2,e1,e2,e3,zi8]
 ·rw [zhT H h]
  have hr1:=H.r1
  by_cases a1:0≤p.1
  ·by_cases a2:p.1 < rows.length
   ·by_cases a3:0≤p.2
    ·have a4:¬ p.2 < C:=fun z=>h ⟨a1,a2,a3,z⟩
     simp [zc8,e0,hl0,hln,a1,a2,a3,a4,zi8]
    ·simp [zc8,e0,hl0,hln,a1,a2,a3,zi8]
   ·simp [zc8,e0,hl0,hln,a1,a2,zi8]
  ·simp [zc8,e0,hl0,hln,a1,zi8]
noncomputable def zcq (kind:List Nat):Option Nat→Bool
 | some c=>decide (c=46∨c=61∨kind=[c])
 | none=>false
theorem znY (c:List Nat):eqD (.str c) .non=some false:=rfl
theorem znZ (c:List Nat):eqD .non (.str c)=some false:=rfl
theorem znX (a b:List Nat):eqD (.str a) (.str b)=some (a==b):=rfl
theorem in2 (c:Nat):oIn (.str [c]) (.tup [.str [46],.str [61]])=.ok (.bl (decide (c=46∨c=61))):=by
 simp only [oIn,zdW,znX]
 by_cases h1:c=46
 ·subst h1;rfl
 ·by_cases h2:c=61
  ·subst h2;rfl
  ·have h1':¬ 46=c:=fun h=>h1 h.symm
   have h2':¬ 61=c:=fun h=>h2 h.symm
   simp [h1,h2,h1',h2']
theorem zmZ (s : Option Nat) (k : List Nat) : zei [zi8 s, .str k] = .ok (.bl (zcq k s)) := by
 rw [znv]
 refine za2 ?_
 cases s with
 | none=>simp [zfV,zi8,zcq,line,oIn,zdW,znZ,znY,oEq]
 | some c =>
  simp [zfV,zi8,zcq,line,in2]
  by_cases h1:c=46
  ·simp [h1]
  ·by_cases h2:c=61
   ·simp [h2]
   ·by_cases h3:k=[c]
    ·subst h3;simp [h1,h2]
    ·have h3':¬ [c]=k:=fun h=>h3 h.symm
     simp [h1,h2,h3,h3']
noncomputable def zdK (w:Nat) (r c:Int):List Pl:=(List.range w).map fun j=>(r,c+(j:Nat))
noncomputable def zeL (w:Nat) (p:Pl) (n:Nat):List Pl:=(List.range n).flatMap fun i=>zdK w (p.1+(i:Nat)) p.2
noncomputable def seats (g:G) (p:Pl):List Pl:=zeL g.w p g.d
theorem zeX (w:Nat) (p:Pl) (n:Nat):zeL w p (n+1)=zeL w p n++zdK w (p.1+(n:Nat)) p.2:=by
 simp [zeL,List.range_succ,List.flatMap_append]
theorem ziH (w:Nat) (r c:Int):(zdK w r c).length=w:=by simp [zdK]
theorem zeJ (w:Nat) (p:Pl) (n:Nat):(zeL w p n).length=n*w:=by
 induction n with
 | zero=>simp [zeL]
 | succ n ih=>rw [zeX,List.length_append,ih,ziH,Nat.succ_mul]
theorem ints_map (lo:Int) (n:Nat):zints lo n=(List.range n).map fun i=>D.int (lo+(i:Nat)):=rfl
theorem ints_get {lo:Int} {n j:Nat} {d:D} (h:(zints lo n)[j]?=some d):j < n∧d=.int (lo+(j:Nat)):=by
 rw [ints_map,List.getElem?_map] at h
 cases q:(List.range n)[j]? with
 | none=>rw [q] at h;cases h
 | some i =>
  rw [q] at h
  obtain ⟨h1,h2⟩:=List.getElem?_eq_some_iff.mp q
  rw [List.length_range] at h1
  rw [List.getElem_range] at h2
  subst h2
  simp at h
  exact ⟨h1,h.symm⟩
theorem zgu (a:Int) (n:Nat):(a+(n:Int)-a).toNat=n:=by lia
theorem zm3 {g : G} (k : GOk g) (p : Pl) : zcV [zbT g, encP p] = .ok (.tup ((seats g p).map encP)) := by
 rw [zjX]
 refine za2 ?_
 have hw:=k.w2
 have hd:=k.d2
 simp [zd6,zgu,line]
 refine zcQ (fun i ρ=>∃ x,ρ=[v (zbT g),v (encP p),ow ((zeL g.w p i).map encP),x]) ⟨none,rfl⟩ ?_ ?_
 ·rintro j d ρ hj ⟨x,rfl⟩
  obtain ⟨hj,rfl⟩:=ints_get hj
  simp [zbC,zgu,line,zcJ,zbP]
  refine ⟨by lia,zfw (fun d=>.tup [.int (p.1+(j:Nat)),d]) ?_ ?_⟩
  ·rintro d hd
   obtain ⟨i,hi⟩:=List.getElem?_of_mem hd
   obtain ⟨_,rfl⟩:=ints_get hi
   simp [line]
  ·refine ⟨?_,?_⟩
   ·rw [List.length_map,zeJ,zeh]
    have:j*g.w≤4*13:=Nat.mul_le_mul (by lia) hw
    lia
   ·simp [zeX,zdK,ints_map]
 ·rintro ρ ⟨x,rfl⟩
  simp [seats]
noncomputable def zla (rows:Rows) (s:Pl):Bool:=zbR rows s==some 61
noncomputable def zc3 (rows:Rows) (g:G) (p:Pl):Bool:=(seats g p).all (fun s=>zcq g.kind (zbR rows s))&&decide (g.wide≤(seats g p).countP (zla rows))
theorem zk5 (rows:Rows):∀ (ss:List Pl),zky (.str [61]) (ss.map fun s=>zi8 (zbR rows s))=some (ss.countP (zla rows))
 | []=>rfl
 | s :: ss=>by
  rw [List.map_cons,zky,zk5 rows ss,List.countP_cons]
  cases e:zbR rows s with
  | none=>simp [zi8,zla,e,znY,znZ]
  | some c=>simp [zi8,zla,e,znX]
theorem all_map {α:Type} (f:α→Bool) (xs:List α):allB (xs.map fun x=>D.bl (f x))=some (xs.all f):=by
 have:=zmQ (xs.map f)
 rw [List.map_map] at this
 rw [show (xs.map fun x=>D.bl (f x))=xs.map (D.bl∘f) from rfl,this]
 congr 1
 induction xs with
 | nil=>rfl
 | cons x xs ih=>simp
theorem zml {rows : Rows} {C : Nat} (H : Hall rows C) {g : G} (k : GOk g) (p : Pl) : zdT [zfO rows, zbT g, encP p] = .ok (.bl (zc3 rows g p)) := by
 rw [zoQ]
 refine za2 ?_
 have hlen:(seats g p).length≤16777216:=by
  rw [seats,zeJ]
  have:g.d*g.w≤4*13:=Nat.mul_le_mul k.d2 k.w2
  lia
 simp [zjl,zbC,zm3 k,line,zcJ,zbP,hlen]
 refine zfw (fun d=>match d with | .tup [.int a,.int b]=>zi8 (zbR rows (a,b)) | _=>.non) ?_ ?_
 ·intro d hd
  obtain ⟨q,_,rfl⟩:=List.mem_map.mp hd
  simp [zog H]
  rfl
 ·have e1:(List.map encP (seats g p)).map (fun d=>match d with | .tup [.int a,.int b]=>zi8 (zbR rows (a,b)) | _=>.non)=(seats g p).map fun s=>zi8 (zbR rows s):=by
   rw [List.map_map];rfl
  rw [e1]
  simp [zbC,line,hlen,zcJ,zbP]
  refine zfw (fun d=>match d with | .str [c]=>.bl (zcq g.kind (some c)) | _=>.bl false) ?_ ?_
  ·intro d hd
   obtain ⟨q,_,rfl⟩:=List.mem_map.mp hd
   simp [zmZ]
   cases zbR rows q<;>rfl
  ·have e2:((seats g p).map fun s=>zi8 (zbR rows s)).map (fun d=>match d with | .str [c]=>D.bl (zcq g.kind (some c)) | _=>D.bl false)=(seats g p).map fun s=>D.bl (zcq g.kind (zbR rows s)):=by
    rw [List.map_map]
    apply List.map_congr_left
    intro s _
    show (match zi8 (zbR rows s) with | .str [c]=>D.bl (zcq g.kind (some c)) | _=>D.bl false)=_
    cases zbR rows s<;>rfl
   rw [e2]
   simp only [zmU,all_map,zqs]
   cases ha:(seats g p).all fun s=>zcq g.kind (zbR rows s) with
   | false=>simp [zc3,ha]
   | true=>simp [zc3,ha,ziS,zk5]
noncomputable def okS (rows:Rows) (g:G) (s:Pl):Bool:=zcq g.kind (zbR rows s)
theorem zmO {α:Type} {f:α→Bool} {xs:List α} {x:α} (h:x∈xs) (e:f x=false):xs.all f=false:=by
 rw [Bool.eq_false_iff]
 intro z
 rw [List.all_eq_true] at z
 rw [z x h] at e;cases e
theorem zoG {w j:Nat} {r c:Int} (h:j < w):(r,c+(j:Nat))∈zdK w r c:=List.mem_map.mpr ⟨j,List.mem_range.mpr h,rfl⟩
theorem ziU {g:G} {p:Pl} {i j:Nat} (hi:i < g.d) (hj:j < g.w):(p.1+(i:Nat),p.2+(j:Nat))∈seats g p :=
 List.mem_flatMap.mpr ⟨i,List.mem_range.mpr hi,zoG hj⟩
theorem zhF {rows:Rows} {g:G} {p s:Pl} (h:s∈seats g p) (e:okS rows g s=false):zc3 rows g p=false:=by
 unfold zc3
 have:=zmO (f:=okS rows g) h e
 rw [show (seats g p).all (fun s=>zcq g.kind (zbR rows s))=(seats g p).all (okS rows g) from rfl,this]
 rfl
noncomputable def ze0 (r C:Nat):List Pl:=(List.range C).map fun (c:Nat)=>(((r:Nat):Int),((c:Nat):Int))
noncomputable def zfA (n C:Nat):List Pl:=(List.range n).flatMap fun r=>ze0 r C
theorem zfW (n C:Nat):zfA (n+1) C=zfA n C++ze0 n C:=by simp [zfA,List.range_succ,List.flatMap_append]
theorem zgJ (r C:Nat):(ze0 r C).length=C:=by simp [ze0]
theorem zhd (n C:Nat):(zfA n C).length=n*C:=by
 induction n with
 | zero=>simp [zfA]
 | succ n ih=>rw [zfW,List.length_append,ih,zgJ,Nat.succ_mul]
noncomputable def places (rows:Rows) (C:Nat) (g:G):List Pl:=(zfA rows.length C).filter (zc3 rows g)
theorem places_of_ok {rows : Rows} {C : Nat} (H : Hall rows C) {g : G} (k : GOk g) : zcx [zfO rows, zbT g] = .ok (.tup ((places rows C g).map encP)) := by
 rw [zi3]
 refine za2 ?_
 have hc2:=H.c2
 have hr2:=H.r2
 simp [zdE,line]
 refine zcQ (fun i ρ=>i≤rows.length∧∃ x,ρ=[v (zfO rows),v (zbT g),ow (((zfA i C).filter (zc3 rows g)).map encP),x]) ⟨Nat.zero_le _,none,rfl⟩ ?_ ?_
 ·rintro i d ρ hi ⟨_,x,rfl⟩
  obtain ⟨hi',rfl⟩:=ints_get hi
  obtain ⟨row,_,hl,e1⟩:=H.row hi'
  have hln:C≤16777216:=by lia
  simp [e1,hl,zbC,line,zcJ,zbP,hln]
  refine zmC (fun d=>match d with | .int c=>zc3 rows g ((i:Int),c) | _=>false) (fun d=>.tup [.int (i:Nat),d]) ?_ ?_
  ·intro d hd
   obtain ⟨c,hc⟩:=List.getElem?_of_mem hd
   obtain ⟨_,rfl⟩:=ints_get hc
   simp [line,zml H k]
  ·have e2:((zints 0 C).filter (fun d=>match d with | .int c=>zc3 rows g ((i:Int),c) | _=>false)).map (fun d=>D.tup [.int (i:Nat),d])=((ze0 i C).filter (zc3 rows g)).map encP:=by
    rw [ints_map,ze0,List.filter_map,List.filter_map,List.map_map,List.map_map]
    congr 1
    ·funext c;simp
    ·congr 1;funext c;simp
   rw [e2,zfW,List.filter_append,List.map_append]
   have h1:=List.length_filter_le (zc3 rows g) (zfA i C)
   have h2:=List.length_filter_le (zc3 rows g) (ze0 i C)
   rw [zhd] at h1
   rw [zgJ] at h2
   have h3:i*C≤100*100:=Nat.mul_le_mul (by lia) hc2
   refine ⟨?_,by lia,rfl⟩
   rw [List.length_map]
   lia
 ·rintro ρ ⟨_,x,rfl⟩
  simp [places]
noncomputable def zb9 (g:G) (p:Pl) (h:G) (q:Pl):Bool:=decide (p.1+g.d≤q.1∨q.1+h.d≤p.1∨p.2+g.w+max (g.gap:Int) (h.gap:Int)≤q.2∨q.2+h.w+max (g.gap:Int) (h.gap:Int)≤p.2)
theorem znG (g:G) (p:Pl) (h:G) (q:Pl):zej [zbT g,encP p,zbT h,encP q]=.ok (.bl (zb9 g p h q)):=by
 rw [znx]
 refine za2 ?_
 by_cases h1:p.1+g.d≤q.1
 ·simp [zeH,zb9,h1]
 ·by_cases h2:q.1+h.d≤p.1
  ·simp [zeH,zb9,h1,h2]
  ·by_cases h3:p.2+g.w+max (g.gap:Int) h.gap≤q.2
   ·simp [zeH,zb9,h1,h2,h3]
   ·simp [zeH,zb9,h1,h2,h3]
end KG
set_option maxRecDepth 8000
namespace KG
open Z
def Bd (ns:List Int):Prop:=∀ i∈ns,bits i≤2 ^ 20
theorem zeo {ns:List Int} (hb:Bd ns) {k:Int} (h:0≤k):∃ c,zak [.lst (ns.map .int),.int k]=.ok (.int c)∧bits c≤2 ^ 20:=by
 by_cases hk:k < ns.length
 ·have hj:k.toNat < ns.length:=by lia
  have e:=(zdk (xs:=ns.map D.int) (i:=k) (j:=k.toNat) (d:=.int ns[k.toNat]) (by lia) (by simp [hj])).2
  refine ⟨ns[k.toNat],?_,hb _ (List.getElem_mem hj)⟩
  rw [zeQ]
  refine za2 ?_
  simp [zcI,hk,e]
 ·refine ⟨0,?_,by decide⟩
  rw [zeQ]
  refine za2 ?_
  simp [zcI,hk]
theorem mixed (c:Int) {k:Int} (h0:0≤k) (h1:k≤1000):∃ m,zaq [.int c,.int k]=.ok (.int m)∧0≤m:=by
 have q1:zaY 7919 k:=zbg (by decide) (by decide)
 have q2:zaY (7919*k) k:=zdZ (by lia) (by lia)
 have q3:∀ x,zaY x 48271:=fun x=>zdZ (by decide) (by decide)
 have q4:∀ x:Int,zaY (x % 2147483647) (x % 2147483647):=fun x=>zbg (by lia) (by lia)
 have q5:∀ x,zaY 69621 x:=fun x=>zbg (by decide) (by decide)
 have q6:∀ x,zaY x 39373:=fun x=>zdZ (by decide) (by decide)
 have q7:∀ x,zaY 11 x:=fun x=>zbg (by decide) (by decide)
 rw [zga]
 have:Ok (zcL (zcC [v (.int c),v (.int k),none])) fun d=>∃ m,d=.int m∧0≤m:=by
  refine zeB ?_
  simp [zcC,q1,q2,q3,q4,q5,q6,q7]
  lia
 obtain ⟨d,e,m,rfl,hm⟩:=this
 exact ⟨m,e,hm⟩
theorem zfl (z:Int):∃ q∈letters,oIx (.str letters) (.int (z % 26))=.ok (.str [q]) :=
 zkS (by lia) (by simp [letters];lia) (by decide)
theorem zf8 {q:Nat} (h:q∈letters):q∈signs:=(by decide:∀ q∈letters,q∈signs) q h
structure HallG (rows:Rows) (C:Nat):Prop extends Hall rows C where
 r6:rows.length≤6
 c12:C≤12
 sg:∀ x∈rows,∀ c∈x,c∈signs
theorem zsg {rows:Rows} {C:Nat} (h1:1≤rows.length) (h2:rows.length≤6) (h3:1≤C) (h4:C≤12) (h:∀ x∈rows,x.length=C∧∀ c∈x,c∈signs):HallG rows C :=
 ⟨⟨h1,by lia,h3,by lia,fun x hx=>(h x hx).1⟩,h2,h4,fun x hx=>(h x hx).2⟩
def zfC (C i:Nat) (rows:Rows):Prop:=rows.length=i∧∀ x∈rows,x.length=C∧∀ c∈x,c∈signs
def zmS (j:Nat) (ln:List Nat):Prop:=ln.length=j∧∀ c∈ln,c∈signs
theorem zmS.nil:zmS 0 []:=⟨rfl,fun c h=>by cases h⟩
theorem zfC.nil (C:Nat):zfC C 0 []:=⟨rfl,fun c h=>by cases h⟩
theorem zfC.add {C i:Nat} {rows:Rows} {ln:List Nat} (h:zfC C i rows) (hl:zmS C ln):zfC C (i+1) (rows++[ln]) :=
 ⟨by simp [h.1],fun c hc=>by
  rcases List.mem_append.mp hc with hc | hc
  ·exact h.2 c hc
  ·rw [List.mem_singleton.mp hc];exact hl⟩
theorem zdj {z:Int} (h:0≤z):∃ n:Nat,z=n:=⟨z.toNat,by lia⟩
theorem zgR {xs:List D} {i:Int} {Q:D→Prop} (h0:0≤i) (h1:i < xs.length) (h:∀ d∈xs,Q d):Ok (oIx (.lst xs) (.int i)) Q:=by
 obtain ⟨d,hd,e,_⟩:=zgQ h0 h1
 exact ⟨d,e,h d hd⟩
end KG
namespace KG
open Z
structure GrpG (g:G):Prop extends GOk g where
 w12:g.w≤12
 d3:g.d≤3
 kl:g.kind=[]∨∃ c∈letters,g.kind=[c]
 wdd:g.wide≤g.w*g.d
 g6:g.gap≤6
 wsh:∃ (wt:Int) (ws:List Pl),ws.length≤6∧g.worth=.int wt∧g.wishes=.tup (ws.map encP)
theorem zqW {g:G} (h1:1≤g.w) (h2:g.w≤12) (h3:1≤g.d) (h4:g.d≤3) (h5:g.kind=[]∨∃ c∈letters,g.kind=[c]) (h6:g.wide≤g.w*g.d) (h7:g.gap≤6) (h8:∃ (wt:Int) (ws:List Pl),ws.length≤6∧g.worth=.int wt∧g.wishes=.tup (ws.map encP)):GrpG g :=
 ⟨⟨h1,by lia,h3,by lia,by rcases h5 with h | ⟨c,_,h⟩<;>rw [h]<;>simp,by
  have:g.w*g.d≤12*3:=Nat.mul_le_mul h2 h4
  lia,by lia⟩,h2,h4,h5,h6,h7,h8⟩
end KG
noncomputable section
namespace KG
open Z
@[simp] theorem zr2 (b:Bool):zeK .bool (.bl b)=true:=rfl
@[simp] theorem zqT (xs:List D):zeK .tuple (.tup xs)=true:=rfl
@[simp] theorem ztf (p:Pl):zeK .tuple (encP p)=true:=rfl
@[simp] theorem zqU (i:Int):zeK .int (.int i)=true:=rfl
@[simp] theorem zp0 (i:Int):zeK .bool (.int i)=false:=rfl
theorem eqP (n:Nat) (p q:Pl):zgY (n+1) (encP p) (encP q)=some (decide (p=q)):=by
 show ze7 (zgY n) [.int p.1,.int p.2] [.int q.1,.int q.2]=_
 have e:∀ a b:Int,zgY n (.int a) (.int b)=some (decide (a=b)):=fun a b=>by
  cases n<;>rfl
 simp only [ze7,e]
 congr 1
 rw [Bool.eq_iff_iff]
 simp [Prod.ext_iff]
theorem zsl (n:Nat) (ps qs:List Pl):ze7 (zgY (n+1)) (ps.map encP) (qs.map encP)=some (decide (ps=qs)):=zhe (eqP n) ps qs
theorem ztk (n:Nat) (ps qs:List Int):ze7 (zgY n) (ps.map D.int) (qs.map D.int)=some (decide (ps=qs)):=zhe (fun a b=>by cases n<;>rfl) ps qs
@[simp] theorem neP (ps qs:List Pl):oNe (.lst (ps.map encP)) (.lst (qs.map encP))=.ok (.bl (!decide (ps=qs))):=by
 have:eqD (.lst (ps.map encP)) (.lst (qs.map encP))=some (decide (ps=qs)):=zsl 4 ps qs
 unfold oNe;rw [this]
@[simp] theorem zui (ps qs:List Pl):oEq (.lst (ps.map encP)) (.lst (qs.map encP))=.ok (.bl (decide (ps=qs))):=by
 have:eqD (.lst (ps.map encP)) (.lst (qs.map encP))=some (decide (ps=qs)):=zsl 4 ps qs
 unfold oEq;rw [this]
@[simp] theorem zuh (ps qs:List Pl):oEq (.tup (ps.map encP)) (.tup (qs.map encP))=.ok (.bl (decide (ps=qs))):=by
 have:eqD (.tup (ps.map encP)) (.tup (qs.map encP))=some (decide (ps=qs)):=zsl 4 ps qs
 unfold oEq;rw [this]
@[simp] theorem neI (ps qs:List Int):oNe (.lst (ps.map D.int)) (.lst (qs.map D.int))=.ok (.bl (!decide (ps=qs))):=by
 have:eqD (.lst (ps.map D.int)) (.lst (qs.map D.int))=some (decide (ps=qs)):=ztk 5 ps qs
 unfold oNe;rw [this]
theorem zsD (p:Pl):∀ (qs:List Pl),zdW (encP p) (qs.map encP)=some (decide (p∈qs))
 | []=>rfl
 | q :: qs=>by
  rw [List.map_cons,zdW,zsD p qs,show eqD (encP q) (encP p)=some (decide (q=p)) from eqP 5 q p]
  show some (decide (q=p) || decide (p∈qs))=_
  congr 1
  rw [Bool.eq_iff_iff]
  simp only [Bool.or_eq_true,decide_eq_true_eq,List.mem_cons]
  exact ⟨fun h=>h.imp Eq.symm id,fun h=>h.imp Eq.symm id⟩
@[simp] theorem zug (p:Pl) (qs:List Pl):oIn (encP p) (.tup (qs.map encP))=.ok (.bl (decide (p∈qs))):=by
 simp only [oIn,zsD]
@[simp] theorem zrW (p:Pl) (qs:List Pl):zdL (encP p) (.tup (qs.map encP))=.ok (.bl (!decide (p∈qs))):=by
 simp only [zdL,zsD]
end KG
end
noncomputable section
namespace KG
open Z
theorem take_snoc {α:Type} {xs:List α} {i:Nat} {x:α} (h:xs[i]?=some x):xs.take (i+1)=xs.take i++[x]:=by
 rw [List.take_add_one,h];rfl
theorem zp8 (acc:List Int):oEq (.lst (acc.map D.int)) (.lst [])=.ok (.bl (decide (acc=[]))):=by
 have:eqD (.lst (acc.map D.int)) (.lst ([].map D.int))=some (decide (acc=[])):=ztk 5 acc []
 unfold oEq;rw [show (D.lst ([]:List D))=D.lst (([]:List Int).map D.int) from rfl,this]
theorem places_len {rows:Rows} {C:Nat} (H:Hall rows C) (g:G):(places rows C g).length≤10000:=by
 have h1:=List.length_filter_le (zc3 rows g) (zfA rows.length C)
 rw [zhd] at h1
 have:rows.length*C≤100*100:=Nat.mul_le_mul H.r2 H.c2
 unfold places;lia
end KG
end
set_option maxRecDepth 4000
namespace KG
open Z
end KG
set_option maxRecDepth 8000
namespace KG
open Z
noncomputable abbrev GP:=G×Pl
noncomputable abbrev GO:=G×Option Pl
noncomputable def zd0:Option Pl→D
 | none=>.non
 | some p=>encP p
@[simp] theorem zqa (p:Pl):zd0 (some p)=encP p:=rfl
@[simp] theorem zqb:zd0 none=.non:=rfl
noncomputable def zkY (x:GP):D:=.tup [zbT x.1,encP x.2]
noncomputable def zp9 (x:GO):D:=.tup [zbT x.1,zd0 x.2]
theorem zph:∀ (xs:List GO),zeI (xs.map fun x=>zbT x.1) (xs.map fun x=>zd0 x.2)=xs.map zp9
 | []=>rfl
 | x :: xs=>by simp [zeI,zph xs];rfl
@[simp] theorem zta (o:Option Pl):ze1 (zd0 o)=.ok (.bl o.isSome):=by cases o<;>rfl
@[simp] theorem ztW (o:Option Pl):ziR (zd0 o)=.ok (.bl o.isNone):=by cases o<;>rfl
@[simp] theorem gX (x:GP) (i j:Nat) (ρ:Env):gTup [i,j] (zkY x) ρ=.ok ((ρ.set i (v (zbT x.1))).set j (v (encP x.2))):=rfl
@[simp] theorem gY (x:GO) (i j:Nat) (ρ:Env):gTup [i,j] (zp9 x) ρ=.ok ((ρ.set i (v (zbT x.1))).set j (v (zd0 x.2))):=rfl
theorem zeR {α:Type} (xs:List α):xs.filter (fun _=>true)=xs:=List.filter_eq_self.mpr fun _ _=>rfl
noncomputable def sit:List GO→List GP
 | []=>[]
 | (g,some p) :: xs=>(g,p) :: sit xs
 | (_,none) :: xs=>sit xs
theorem zju:∀ (xs:List GO),(xs.filter fun x=>x.2.isSome).map zp9=(sit xs).map zkY
 | []=>rfl
 | (g,some p) :: xs=>by
  rw [List.filter_cons_of_pos (by rfl)]
  simp only [List.map_cons,sit,zju xs];rfl
 | (g,none) :: xs=>by
  rw [List.filter_cons_of_neg (by simp)]
  simp only [sit,zju xs]
theorem zgv:∀ (xs:List GO),(sit xs).length≤xs.length
 | []=>Nat.le_refl _
 | (g,some p) :: xs=>by have:=zgv xs;simp only [sit,List.length_cons];lia
 | (g,none) :: xs=>by have:=zgv xs;simp only [sit,List.length_cons];lia
theorem zeg:∀ {xs:List GO} {y:GP},y∈sit xs↔(y.1,some y.2)∈xs
 | [],y=>by simp [sit]
 | (g,some p) :: xs,y=>by
  simp only [sit,List.mem_cons,zeg (xs:=xs),Prod.mk.injEq,Option.some.injEq]
  constructor
  ·rintro (rfl | h)
   ·exact .inl ⟨rfl,rfl⟩
   ·exact .inr h
  ·rintro (⟨h1,h2⟩ | h)
   ·left;rw [←h1,←h2]
   ·exact .inr h
 | (g,none) :: xs,y=>by
  simp only [sit,List.mem_cons,zeg (xs:=xs),Prod.mk.injEq,reduceCtorEq,and_false,false_or]
theorem zhQ {xs:List GO} (h:xs.length≤16777216):zat [.tup (xs.map fun x=>zbT x.1),.tup (xs.map fun x=>zd0 x.2)]=.ok (.lst ((sit xs).map zkY)):=by
 rw [zfM]
 refine za2 ?_
 simp [zb7,zbC,line,zcJ,zbP,zph,h]
 refine zbQ zp9 (fun x=>x.2.isSome) zp9 ?_ ?_
 ·intro x hx
  simp
  exact fun _=>⟨by decide,rfl⟩
 ·rw [zju]
theorem zh5 {α:Type} (f:α→Bool) (xs:List α):zmU (.lst (xs.map fun x=>D.bl (f x)))=.ok (.bl (xs.all f)):=by
 simp only [zmU,all_map]
theorem zn2 (g:G) (p:Pl) {xs:List GP} (h:xs.length≤16777216):zaL [zbT g,encP p,.lst (xs.map zkY)]=.ok (.bl (xs.all fun x=>zb9 g p x.1 x.2)):=by
 rw [zfN]
 refine za2 ?_
 simp [zb8,zbC,line,zcJ,zbP,h]
 refine zbQ zkY (fun _=>true) (fun x=>.bl (zb9 g p x.1 x.2)) ?_ ?_
 ·intro x hx
  simp [znG]
 ·rw [zeR,zh5]
  simp
theorem zk3 {α:Type} (xs:List α) {k:Nat} (h:k≤xs.length):cut xs none (some (k:Int))=xs.take k:=by
 have:¬ (k:Int) < 0:=by lia
 simp [cut,sIx,this]
noncomputable def zjR (ss:List GP) (k:Nat):Bool:=match ss[k]? with
 | some x=>(ss.take k).all fun y=>zb9 x.1 x.2 y.1 y.2
 | none=>true
noncomputable def zhC (rows:Rows) (ss:List GP):Bool:=(ss.all fun x=>zc3 rows x.1 x.2)&&(List.range ss.length).all (zjR ss)
theorem zns {rows : Rows} {C : Nat} (H : Hall rows C) {xs : List GO} (h6 : xs.length ≤ 6) (hg : ∀ x ∈ xs, GOk x.1) : zdM [zfO rows, .tup (xs.map fun x => zbT x.1), .tup (xs.map fun x => zd0 x.2)] = .ok (.bl (zhC rows (sit xs))) := by
 rw [znw]
 refine za2 ?_
 have hl0:=zgv xs
 have hl:(sit xs).length≤16777216:=by lia
 have hlx:xs.length≤16777216:=by lia
 have hk:∀ x∈sit xs,GOk x.1:=fun x hx=>hg _ (zeg.mp hx)
 generalize hss:sit xs=ss at hl0 hl hk
 simp [zhc,zbC,line,zcJ,zbP,zhQ hlx,hss,hl]
 refine zbQ zkY (fun _=>true) (fun x=>.bl (zc3 rows x.1 x.2)) ?_ ?_
 ·intro x hx
  simp [zml H (hk x hx)]
 ·rw [zeR,zh5]
  cases e:(ss.all fun x=>zc3 rows x.1 x.2) with
  | false=>simp [zhC,e]
  | true =>
   simp [hl]
   refine Z.zfw (fun d=>match d with | .int c=>.bl (zjR ss c.toNat) | d=>d) ?_ ?_
   ·intro d hd
    obtain ⟨j,hj⟩:=List.getElem?_of_mem hd
    obtain ⟨hj',rfl⟩:=ints_get hj
    obtain ⟨x,ex⟩:∃ x,ss[j]?=some x:=⟨_,List.getElem?_eq_getElem hj'⟩
    have i1:=(zdk (xs:=ss.map zkY) (i:=j) (j:=j) (d:=zkY x) rfl (by rw [List.getElem?_map,ex];rfl)).2
    have i2:oIx (zkY x) (.int 0)=.ok (zbT x.1):=rfl
    have i3:oIx (zkY x) (.int 1)=.ok (encP x.2):=rfl
    have ct:=zk3 (ss.map zkY) (k:=j) (by rw [List.length_map];lia)
    have af:=zn2 x.1 x.2 (xs:=ss.take j) (by rw [List.length_take];lia)
    rw [List.map_take] at af
    rw [Int.zero_add]
    simp [i1,i2,i3,zpQ,ct,af,zjR,ex]
   ·have:(zints 0 ss.length).map (fun d=>match d with | .int c=>.bl (zjR ss c.toNat) | d=>d)=(List.range ss.length).map fun j=>D.bl (zjR ss j):=by
     rw [ints_map,List.map_map]
     refine List.map_congr_left fun j _=>?_
     simp
    rw [this,zh5]
    simp [zhC,e]
theorem zln {rows:Rows} {ss:List GP}:zhC rows ss=true↔(∀ x∈ss,zc3 rows x.1 x.2=true)∧ss.Pairwise fun a b=>zb9 b.1 b.2 a.1 a.2=true:=by
 unfold zhC
 rw [Bool.and_eq_true,List.all_eq_true,List.all_eq_true,List.pairwise_iff_getElem]
 refine and_congr_right fun _=>?_
 constructor
 ·intro h i j hi hj hij
  have:=h j (List.mem_range.mpr hj)
  rw [zjR,List.getElem?_eq_getElem hj] at this
  rw [List.all_eq_true] at this
  exact this ss[i] (List.mem_iff_getElem.mpr ⟨i,by rw [List.length_take];lia,by rw [List.getElem_take]⟩)
 ·intro h k hk
  rw [List.mem_range] at hk
  rw [zjR,List.getElem?_eq_getElem hk]
  rw [List.all_eq_true]
  intro y hy
  obtain ⟨i,hi,rfl⟩:=List.mem_iff_getElem.mp hy
  rw [List.length_take] at hi
  rw [List.getElem_take]
  exact h i k (by lia) hk (by lia)
end KG
namespace KG
open Z
theorem zmN (g:G) (p:Pl) (h:G) (q:Pl):zb9 g p h q=zb9 h q g p:=by
 unfold zb9
 rw [decide_eq_decide,Int.max_comm (h.gap:Int)]
 lia
theorem zhS {R:GP→GP→Prop}:∀ {xs:List GO},(sit xs).Pairwise R↔xs.Pairwise fun a b=>∀ p q,a.2=some p→b.2=some q→R (a.1,p) (b.1,q)
 | []=>by simp [sit]
 | (g,some p) :: xs=>by
  simp only [sit,List.pairwise_cons,zhS (xs:=xs)]
  refine and_congr_left fun _=>?_
  constructor
  ·intro h b hb p' q hp hq
   cases hp
   exact h (b.1,q) (zeg.mpr (by simp only [←hq];exact hb))
  ·intro h y hy
   exact h _ (zeg.mp hy) p y.2 rfl rfl
 | (g,none) :: xs=>by
  simp only [sit,List.pairwise_cons,zhS (xs:=xs)]
  exact ⟨fun h=>⟨fun b hb p q hp=>(by cases hp),h⟩,fun h=>h.2⟩
end KG
set_option maxRecDepth 4000
noncomputable section
namespace KH
open Z KG
noncomputable def zdl:SF:=(zbS (eB zbh (eB zbh (eSl (eW 0) pNo (pAt (eW 1))) (zd1 (zab (eV 2) zav))) (eSl (eW 0) (pAt (eB zbh (eW 1) (eC (.int 1)))) pNo)))
noncomputable def zbD:List D→Res D:=fn 3 3 zdl
theorem zia (x0 x1 x2:D):zbD [x0,x1,x2]=zcL (zdl [some (.val x0),some (.val x1),some (.val x2)]):=zdv _ _ _ _ rfl
noncomputable def zdm:SF:=(zbS (eU zc6 (eL (zcu (zfK (eW 0)) 1 [1,2] (gName 0) (tE (zar KG.zaL (zab (eV 1) (zab (eV 0) (zab (eV 2) zav))))) (eV 0)))))
noncomputable def zb1:List D→Res D:=fn 3 3 zdm
theorem zib (x0 x1 x2:D):zb1 [x0,x1,x2]=zcL (zdm [some (.val x0),some (.val x1),some (.val x2)]):=zdv _ _ _ _ rfl
noncomputable def zdo:SF:=(zaI (zjn 2 (zbp zav)) (zaI (zfE (zfK (eV 1)) (gName 3) (zaI (zco 2 (eB oMod (eW 0) (eW 3))) (zbj 0 (eB oDiv (eW 0) (eW 3))))) (znL 2 (zbS (eV 2)))))
noncomputable def zaF:List D→Res D:=fn 2 4 zdo
theorem zif (x0 x1:D):zaF [x0,x1]=zcL (zdo [some (.val x0),some (.val x1),none,none]):=zdv _ _ _ _ rfl
noncomputable def zdz:SF:=(zaI (zbj 1 (zar KG.zak (zab (eV 0) (zab (eC (.int 0)) zav)))) (zaI (zbj 2 (eB zbh (eC (.int 1)) (eB oMod (eB oDiv (eW 1) (eC (.int 2))) (eC (.int 6))))) (zaI (zbj 3 (eB zbh (eC (.int 1)) (eB oMod (eB oDiv (eW 1) (eC (.int 12))) (eC (.int 12))))) (zaI (zbj 4 (eB oIx (eC (.str letters)) (eB oMod (eB oDiv (eW 1) (eC (.int 144))) (eC (.int 26))))) (zaI (zbj 5 (eB oIx (eC (.str letters)) (eB oMod (eB zbh (eB zbh (eB oDiv (eW 1) (eC (.int 144))) (eC (.int 1))) (eB oMod (eB oDiv (eW 1) (eC (.int 3744))) (eC (.int 25)))) (eC (.int 26))))) (zaI (zbj 6 (eB oIx (eL (zbp (zab (eC (.str [46,46,46,46,46,46,46,61])) (zab (eB zbh (eB zbh (eC (.str [46,46])) (eC (.str [46,46,46,61,35]))) (eW 4)) (zab (eB zbh (eB zbh (eB zbh (eC (.str [46,46,46])) (eC (.str [61,61,35]))) (eW 4)) (eW 5)) zav))))) (eB oMod (eB oDiv (eW 1) (eC (.int 93600))) (eC (.int 3))))) (zaI (sIf (tE (eB oEq (eB oMod (eW 1) (eC (.int 2))) (eC (.int 1)))) (zaI (zbj 6 (eC (.str signs))) (zbj 7 (zar zaF (zab (zar KG.zak (zab (eV 0) (zab (eC (.int 1)) zav))) (zab (eL (zpR (zbp (zab (eC (.int 29)) zav)) (eB zf7 (eW 2) (eW 3)))) zav))))) (zaI (zbj 2 (eB oIx (eL (zbp (zab (eC (.int 1)) (zab (eC (.int 2)) (zab (eC (.int 3)) (zab (eC (.int 4)) (zab (eC (.int 2)) (zab (eC (.int 3)) zav)))))))) (eB znf (eW 2) (eC (.int 1))))) (zaI (zbj 3 (eB oIx (eL (zbp (zab (eC (.int 1)) (zab (eC (.int 2)) (zab (eC (.int 3)) (zab (eC (.int 4)) (zab (eC (.int 5)) (zab (eC (.int 6)) (zab (eC (.int 8)) (zab (eC (.int 3)) (zab (eC (.int 4)) (zab (eC (.int 5)) (zab (eC (.int 6)) (zab (eC (.int 12)) zav)))))))))))))) (eB znf (eW 3) (eC (.int 1))))) (zbj 7 (eL (zcu (iRng1 (eB zf7 (eW 2) (eW 3))) 1 [0] (gName 0) zdA (eB oMod (eB oDiv (zar KG.zaq (zab (zar KG.zak (zab (eV 1) (zab (eC (.int 1)) zav))) (zab (eV 0) zav))) (eC (.int 5))) (eC (.int 8))))))))) (zaI (zjn 8 (zbp zav)) (zaI (zfE (iRng1 (eV 2)) (gName 9) (zco 8 (eB zjL (eC (.str [])) (eL (zcu (zfK (eL (lSl (eW 7) (pAt (eB zf7 (eW 9) (eW 3))) (pAt (eB zf7 (eB zbh (eW 9) (eC (.int 1))) (eW 3)))))) 1 [6] (gName 0) zdA (eB oIx (eW 1) (eW 0))))))) (zbS (zd1 (zab (eU zc6 (eW 8)) (zab (eV 4) (zab (eV 5) zav))))))))))))))
noncomputable def zdb:List D→Res D:=fn 1 10 zdz
theorem zj3 (x0:D):zdb [x0]=zcL (zdz [some (.val x0),none,none,none,none,none,none,none,none,none]):=zdv _ _ _ _ rfl
noncomputable def zdy:SF:=(zaI (zbj 2 (eC (.str letters))) (zaI (zbj 3 (eB zbh (eC (.int 1)) (eB oMod (eW 0) (eC (.int 8))))) (zaI (zbj 4 (eB oMod (eB oDiv (eW 0) (eC (.int 8))) (eW 3))) (zaI (zbj 5 (eC (.str []))) (zaI (zfE (iRng1 (eV 3)) (gName 6) (zaI (zbj 7 (eB zbh (eB oDiv (eB oDiv (eW 0) (eC (.int 64))) (eB zbh (eW 6) (eC (.int 1)))) (eB zf7 (eW 6) (eW 6)))) (zaI (sIf (tE (eB oEq (eW 6) (eW 4))) (zbj 7 (eB zbh (eW 7) (eW 1))) zbn) (zbj 5 (eB zbh (eW 5) (eB oIx (eW 2) (eB oMod (eW 7) (eC (.int 26))))))))) (zbS (eV 5)))))))
noncomputable def zcz:List D→Res D:=fn 2 8 zdy
theorem zj2 (x0 x1:D):zcz [x0,x1]=zcL (zdy [some (.val x0),some (.val x1),none,none,none,none,none,none]):=zdv _ _ _ _ rfl
noncomputable def zed:SF:=(zaI (zbj 2 (eL (zbp (zab (eC (.str [])) (zab (eC (.str [97])) (zab (eC (.str [98])) (zab (eC (.str [99])) (zab (eC (.str [100])) (zab (eC (.str [101])) (zab (eC (.str [102])) (zab (eC (.str [103])) (zab (eC (.str [104])) (zab (eC (.str [105])) (zab (eC (.str [106])) (zab (eC (.str [107])) (zab (eC (.str [108])) (zab (eC (.str [109])) (zab (eC (.str [110])) (zab (eC (.str [111])) (zab (eC (.str [112])) (zab (eC (.str [113])) (zab (eC (.str [114])) (zab (eC (.str [115])) zav))))))))))))))))))))))) (zaI (zbj 2 (eL (zme (eW 2) (eL (zbp (zab (eC (.str [116])) (zab (eC (.str [117])) (zab (eC (.str [118])) (zab (eC (.str [119])) (zab (eC (.str [120])) (zab (eC (.str [121])) (zab (eC (.str [122])) zav)))))))))))) (zaI (zoi (zar zaF (zab (eV 0) (zab (eL (zbp (zab (eC (.int 12)) (zab (eC (.int 3)) (zab (eC (.int 27)) (zab (eC (.int 7)) (zab (eC (.int 2)) (zab (eC (.int 64)) zav)))))))) zav))) (znu [3,4,5,6,7,8])) (zaI (zbj 9 (eB oDiv (eW 0) (eC (.int 870912)))) (zaI (zbj 10 (eB oMod (eW 9) (eB zbh (eB zf7 (eB zbh (eW 3) (eC (.int 1))) (eB zbh (eW 4) (eC (.int 1)))) (eC (.int 1))))) (zaI (zbj 11 (eB oIx (eL (zbp (zab (eL (zbp (zab (eC (.int 4)) (zab (eC (.int 3)) (zab (eC (.int 3)) (zab (eC (.int 3)) (zab (eC (.int 3)) (zab (eC (.int 3)) (zab (eC (.int 3)) zav))))))))) (zab (eL (zme (eL (zbp (zab (eB ziP (eC (.int 10)) (eC (.int 60))) zav))) (eL (zpR (zbp (zab (eB znf (eB ziP (eC (.int 10)) (eC (.int 60))) (eC (.int 1))) zav)) (eC (.int 6)))))) zav)))) (eW 7))) (zaI (zbj 12 (zar zaF (zab (eB oDiv (eW 9) (eB zbh (eB zf7 (eB zbh (eW 3) (eC (.int 1))) (eB zbh (eW 4) (eC (.int 1)))) (eC (.int 1)))) (zab (eV 11) zav)))) (zaI (zbj 13 (eL (zcu (iRng1 (eC (.int 6))) 1 [8,12] (gName 0) (tE (eB oEq (eB oMod (eB oDiv (eW 1) (eB oIx (eL (zbp (zab (eC (.int 1)) (zab (eC (.int 2)) (zab (eC (.int 4)) (zab (eC (.int 8)) (zab (eC (.int 16)) (zab (eC (.int 32)) zav)))))))) (eW 0))) (eC (.int 2))) (eC (.int 1)))) (zd1 (zab (eV 0) (zab (eB zbh (eC (.int 1)) (eB oIx (eW 2) (eB zbh (eC (.int 1)) (eW 0)))) zav)))))) (zbS (zd1 (zab (eV 1) (zab (eB zbh (eW 3) (eC (.int 1))) (zab (eB zbh (eW 4) (eC (.int 1))) (zab (eB oIx (eW 2) (eW 5)) (zab (eV 10) (zab (eV 6) (zab (eB oIx (eW 12) (eC (.int 0))) (zab (eU zc6 (eW 13)) zav))))))))))))))))))
noncomputable def zcY:List D→Res D:=fn 2 14 zed
theorem zlt (x0 x1:D):zcY [x0,x1]=zcL (zed [some (.val x0),some (.val x1),none,none,none,none,none,none,none,none,none,none,none,none]):=zdv _ _ _ _ rfl
noncomputable def zdf:SF:=(zaI (zbj 4 (eB zbh (eC (.int 1)) (eB oMod (eW 0) (eC (.int 3))))) (zaI (zbj 5 (eB oIx (eL (zbp (zab (eC (.int 1)) (zab (eC (.int 1)) (zab (eC (.int 1)) (zab (eC (.int 2)) zav)))))) (eB oMod (eB oDiv (eW 0) (eC (.int 3))) (eC (.int 4))))) (zaI (zbj 6 (eB oIx (eL (zbp (zab (eC (.str [])) (zab (eC (.str [])) (zab (eB oIx (eW 2) (eC (.int 0))) (zab (eB oIx (eW 2) (eC (.int 1))) zav)))))) (eB oMod (eB oDiv (eW 0) (eC (.int 12))) (eC (.int 4))))) (zaI (zbj 7 (eB oIx (eL (zbp (zab (eC (.int 0)) (zab (eC (.int 0)) (zab (eC (.int 0)) (zab (eC (.int 1)) zav)))))) (eB oMod (eB oDiv (eW 0) (eC (.int 48))) (eC (.int 4))))) (zaI (zbj 8 (eB oMod (eB oDiv (eW 0) (eC (.int 768))) (eC (.int 4)))) (zaI (zbj 9 (eB zbh (eC (.int 1)) (eB oMod (eB oDiv (eW 0) (eC (.int 3072))) (eC (.int 3))))) (zaI (sIf (tE (eV 3)) (zaI (zbj 8 (eB oMod (eB oDiv (eW 0) (eC (.int 768))) (eB ziP (eC (.int 10)) (eC (.int 40))))) (zbj 9 (eB zbh (eC (.int 1)) (eB oMod (eB oDiv (eW 0) (eC (.int 3072))) (eB ziP (eC (.int 10)) (eC (.int 39))))))) zbn) (zaI (zjn 10 (zbp zav)) (zaI (zfE (iRng1 (eC (.int 4))) (gName 11) (sIf (tE (eB oEq (eB oMod (eB oDiv (eW 0) (eB oIx (eL (zbp (zab (eC (.int 9216)) (zab (eC (.int 27648)) (zab (eC (.int 82944)) (zab (eC (.int 248832)) zav)))))) (eW 11))) (eC (.int 3))) (eC (.int 1)))) (zco 10 (zd1 (zab (eV 11) (zab (eB zbh (eW 9) (eB zf7 (eW 11) (eU znR (eW 3)))) zav)))) zbn)) (zbS (zd1 (zab (eV 1) (zab (eV 4) (zab (eV 5) (zab (eV 6) (zab (eV 7) (zab (eB oIx (eL (zbp (zab (eC (.int 0)) (zab (eC (.int 0)) (zab (eC (.int 1)) (zab (eC (.int 2)) zav)))))) (eB oMod (eB oDiv (eW 0) (eC (.int 192))) (eC (.int 4)))) (zab (eV 8) (zab (eU zc6 (eW 10)) zav)))))))))))))))))))
noncomputable def zbY:List D→Res D:=fn 4 12 zdf
theorem zi6 (x0 x1 x2 x3:D):zbY [x0,x1,x2,x3]=zcL (zdf [some (.val x0),some (.val x1),some (.val x2),some (.val x3),none,none,none,none,none,none,none,none]):=zdv _ _ _ _ rfl
noncomputable def zc2:SF:=(zaI (zoi (zar zaF (zab (zar KG.zak (zab (eV 0) (zab (eC (.int 2)) zav))) (zab (eL (zbp (zab (eC (.int 4)) (zab (eC (.int 7)) (zab (eC (.int 4)) (zab (eC (.int 4)) zav)))))) zav))) (znu [3,4,5,6])) (zaI (zjn 7 (zbp zav)) (zaI (zfE (iRng1 (eV 4)) (gName 8) (zaI (zbj 9 (zar zcz (zab (zar KG.zak (zab (eV 0) (zab (eC (.int 3)) zav))) (zab (eV 8) zav)))) (zaI (zbj 10 (zar KG.zak (zab (eV 0) (zab (eB zbh (eC (.int 4)) (eW 8)) zav)))) (zaI (sIf (tE (eB oGe (eB zbh (eC (.int 4)) (eW 8)) (eU zdh (eW 0)))) (zbj 10 (eB zf7 (zar KG.zaq (zab (zar KG.zak (zab (eV 0) (zab (eC (.int 2)) zav))) (zab (eV 8) zav))) (zar KG.zaq (zab (zar KG.zak (zab (eV 0) (zab (eC (.int 3)) zav))) (zab (eV 8) zav))))) zbn) (sIf (tAnd (tE (eB oEq (eW 6) (eC (.int 1)))) (tAnd (tE (eB oGt (eW 8) (eC (.int 0)))) (tE (eB oGt (eB oMod (eW 10) (eC (.int 3))) (eC (.int 0)))))) (zco 7 (eB zbh (zd1 (zab (eV 9) zav)) (eSl (eB oIx (eW 7) (eC (.int 0))) (pAt (eC (.int 1))) pNo))) (sIf (tE (eB oEq (eB oMod (eW 3) (eC (.int 2))) (eC (.int 1)))) (zco 7 (zar zcY (zab (eV 10) (zab (eV 9) zav)))) (zco 7 (zar zbY (zab (eB oMod (eW 10) (eB ziP (eC (.int 10)) (eC (.int 50)))) (zab (eV 9) (zab (eB zbh (eW 1) (eW 2)) (zab (eB oEq (eW 5) (eC (.int 1))) zav)))))))))))) (zbS (eU zc6 (eW 7))))))
noncomputable def zcF:List D→Res D:=fn 3 11 zc2
theorem zie (x0 x1 x2:D):zcF [x0,x1,x2]=zcL (zc2 [some (.val x0),some (.val x1),some (.val x2),none,none,none,none,none,none,none,none]):=zdv _ _ _ _ rfl
noncomputable def zdg:SF:=(zaI (sIf (tOr (tE (eB oGt (eB zbh (eW 2) (eB oIx (eW 1) (eC (.int 2)))) (eU zdh (eW 0)))) (tE (eB oGt (eB zbh (eW 3) (eB oIx (eW 1) (eC (.int 1)))) (eU zdh (eB oIx (eW 0) (eC (.int 0))))))) (zbS (eC (.bl false))) zbn) (zaI (zbj 4 (eC (.str []))) (zaI (zfE (iRng2 (eV 2) (eB zbh (eW 2) (eB oIx (eW 1) (eC (.int 2))))) (gName 5) (zbj 4 (eB zbh (eW 4) (eSl (eB oIx (eW 0) (eW 5)) (pAt (eW 3)) (pAt (eB zbh (eW 3) (eB oIx (eW 1) (eC (.int 1))))))))) (zaI (sIf (tE (eB oNe (eL (zcu (zfK (eW 4)) 1 [1] (gName 0) (tAnd (tE (eB oNe (eW 0) (eC (.str [46])))) (tAnd (tE (eB oNe (eW 0) (eC (.str [61])))) (tE (eB oNe (eW 0) (eB oIx (eW 1) (eC (.int 3))))))) (eV 0))) (eL (zbp zav)))) (zbS (eC (.bl false))) zbn) (zbS (eB oGe (eB zlj (eW 4) (eC (.str [61]))) (eB oIx (eW 1) (eC (.int 4)))))))))
noncomputable def zcW:List D→Res D:=fn 4 6 zdg
theorem zj4 (x0 x1 x2 x3:D):zcW [x0,x1,x2,x3]=zcL (zdg [some (.val x0),some (.val x1),some (.val x2),some (.val x3),none,none]):=zdv _ _ _ _ rfl
noncomputable def zdn:SF:=(zaI (zjn 2 (zbp zav)) (zaI (zfE (iRng1 (eU zdh (eW 0))) (gName 3) (zfE (iRng1 (eU zdh (eB oIx (eW 0) (eC (.int 0))))) (gName 4) (sIf (tE (zar zcW (zab (eV 0) (zab (eV 1) (zab (eV 3) (zab (eV 4) zav)))))) (zco 2 (zd1 (zab (eV 3) (zab (eV 4) zav)))) zbn))) (znL 2 (zbS (eV 2)))))
noncomputable def zbq:List D→Res D:=fn 2 5 zdn
theorem zid (x0 x1:D):zbq [x0,x1]=zcL (zdn [some (.val x0),some (.val x1),none,none,none]):=zdv _ _ _ _ rfl
noncomputable def zcD:SF:=(zaI (sIf (tOr (tE (eB oLe (eB zbh (eB oIx (eW 1) (eC (.int 0))) (eB oIx (eW 0) (eC (.int 2)))) (eB oIx (eW 3) (eC (.int 0))))) (tE (eB oLe (eB zbh (eB oIx (eW 3) (eC (.int 0))) (eB oIx (eW 2) (eC (.int 2)))) (eB oIx (eW 1) (eC (.int 0)))))) (zbS (eC (.bl true))) zbn) (zaI (zbj 4 (eB zpc (eB oIx (eW 0) (eC (.int 5))) (eB oIx (eW 2) (eC (.int 5))))) (zbS (eOr (eB oLe (eB zbh (eB zbh (eB oIx (eW 1) (eC (.int 1))) (eB oIx (eW 0) (eC (.int 1)))) (eW 4)) (eB oIx (eW 3) (eC (.int 1)))) (eB oLe (eB zbh (eB zbh (eB oIx (eW 3) (eC (.int 1))) (eB oIx (eW 2) (eC (.int 1)))) (eW 4)) (eB oIx (eW 1) (eC (.int 1))))))))
noncomputable def zcA:List D→Res D:=fn 4 5 zcD
theorem zi7 (x0 x1 x2 x3:D):zcA [x0,x1,x2,x3]=zcL (zcD [some (.val x0),some (.val x1),some (.val x2),some (.val x3),none]):=zdv _ _ _ _ rfl
noncomputable def zea:SF:=(zaI (zjn 4 (zbp zav)) (zaI (zfE (zfK (eB oIx (eW 0) (eW 3))) (gName 5) (zaI (zbj 6 (eC (.bl true))) (zaI (zfE (iRng1 (eU zdh (eW 1))) (gName 7) (zaI (zbj 8 (eB oIx (eW 2) (eW 7))) (sIf (tAnd (tE (eB oNe (eW 7) (eW 3))) (tE (eU ze1 (eW 8)))) (zbj 6 (zmp (eV 6) (zar zcA (zab (eB oIx (eW 1) (eW 3)) (zab (eV 5) (zab (eB oIx (eW 1) (eW 7)) (zab (eV 8) zav))))))) zbn))) (sIf (tE (eV 6)) (zco 4 (eV 5)) zbn)))) (znL 4 (zbS (eV 4)))))
noncomputable def zaC:List D→Res D:=fn 4 9 zea
theorem zj1 (x0 x1 x2 x3:D):zaC [x0,x1,x2,x3]=zcL (zea [some (.val x0),some (.val x1),some (.val x2),some (.val x3),none,none,none,none,none]):=zdv _ _ _ _ rfl
noncomputable def zd7:SF:=(zbS (eB zbh (eB zbh (eSl (eW 0) pNo (pAt (eW 1))) (zd1 (zab (eV 2) zav))) (eSl (eW 0) (pAt (eB zbh (eW 1) (eC (.int 1)))) pNo)))
noncomputable def zaZ:List D→Res D:=fn 3 3 zd7
theorem zjY (x0 x1 x2:D):zaZ [x0,x1,x2]=zcL (zd7 [some (.val x0),some (.val x1),some (.val x2)]):=zdv _ _ _ _ rfl
noncomputable def zc1:SF:=(zaI (zbj 3 (eU zc6 (eL (zcu (zfK (eW 1)) 1 [] (gName 0) zdA (eC .non))))) (zaI (zfE (iRng1 (eU zdh (eW 1))) (gName 4) (zaI (zbj 5 (zar KG.zaq (zab (zar KG.zak (zab (eV 2) (zab (eB zbh (eC (.int 1)) (eW 4)) zav))) (zab (eB zbh (eC (.int 90)) (eW 4)) zav)))) (zaI (sIf (tE (eB oLt (eB zbh (eC (.int 10)) (eW 4)) (eU zdh (eW 2)))) (zbj 5 (eB oIx (eW 2) (eB zbh (eC (.int 10)) (eW 4)))) zbn) (zaI (zbj 6 (zar zaC (zab (eV 0) (zab (eV 1) (zab (eV 3) (zab (eV 4) zav)))))) (sIf (tAnd (tE (eB oNe (eW 6) (eL (zbp zav)))) (tE (eB oGt (eB oMod (eW 5) (eC (.int 5))) (eC (.int 0))))) (zbj 3 (zar zaZ (zab (eV 3) (zab (eV 4) (zab (eB oIx (eW 6) (eB oMod (eB oDiv (eW 5) (eC (.int 5))) (eU zdh (eW 6)))) zav))))) zbn))))) (zbS (eV 3))))
noncomputable def zcE:List D→Res D:=fn 3 7 zc1
theorem zic (x0 x1 x2:D):zcE [x0,x1,x2]=zcL (zc1 [some (.val x0),some (.val x1),some (.val x2),none,none,none,none]):=zdv _ _ _ _ rfl
noncomputable def zec:SF:=(zbS (eU zc6 (eL (zcu (iRng1 (eU zdh (eW 0))) 1 [1,0] (gName 0) zdA (eIf (tE (eB oEq (eB oMod (eB oDiv (eW 1) (eB oIx (eL (zbp (zab (eC (.int 1)) (zab (eC (.int 2)) (zab (eC (.int 4)) (zab (eC (.int 8)) (zab (eC (.int 16)) (zab (eC (.int 32)) zav)))))))) (eW 0))) (eC (.int 2))) (eC (.int 1)))) (eB oIx (eW 2) (eW 0)) (eC .non))))))
noncomputable def zdc:List D→Res D:=fn 2 2 zec
theorem zj5 (x0 x1:D):zdc [x0,x1]=zcL (zec [some (.val x0),some (.val x1)]):=zdv _ _ _ _ rfl
noncomputable def zeb:SF:=(zaI (zbj 3 (eC (.int 1))) (zaI (zjn 4 (zbp zav)) (zaI (zfE (zfK (eV 1)) (gName 5) (zaI (zbj 6 (eB zbh (eC (.int 1)) (eU zdh (zar zbq (zab (eV 0) (zab (eV 5) zav)))))) (sIf (tE (eB oLe (eB zf7 (eW 3) (eW 6)) (eW 2))) (zaI (zbj 3 (eB zf7 (eW 3) (eW 6))) (zco 4 (eV 5))) zbn))) (zbS (eU zc6 (eW 4))))))
noncomputable def zdx:List D→Res D:=fn 3 7 zeb
theorem zls (x0 x1 x2:D):zdx [x0,x1,x2]=zcL (zeb [some (.val x0),some (.val x1),some (.val x2),none,none,none,none]):=zdv _ _ _ _ rfl
end KH
end
set_option maxRecDepth 8000
namespace KH
open Z KG
noncomputable def zg5:Int→List Int→List Int
 | _,[]=>[]
 | c,s :: ss=>c % s :: zg5 (c / s) ss
noncomputable def aft:Int→List Int→Int
 | c,[]=>c
 | c,s :: ss=>aft (c / s) ss
theorem zk0:∀ (c:Int) (a b:List Int),zg5 c (a++b)=zg5 c a++zg5 (aft c a) b
 | c,[],b=>rfl
 | c,s :: a,b=>by simp [zg5,aft,zk0 (c / s) a b]
theorem zmR:∀ (c:Int) (a b:List Int),aft c (a++b)=aft (aft c a) b
 | c,[],b=>rfl
 | c,s :: a,b=>by simp [aft,zmR (c / s) a b]
theorem zgl:∀ (c:Int) (a:List Int),(zg5 c a).length=a.length
 | c,[]=>rfl
 | c,s :: a=>by simp [zg5,zgl (c / s) a]
def Szs (ss:List Int):Prop:=ss.length≤100∧∀ s∈ss,0 < s∧s≤1000000000000000000000000000000000000000000000000000000000000
theorem zfu {ss:List Int} (h:Szs ss) (c:Int):zaF [.int c,.lst (ss.map .int)]=.ok (.lst ((zg5 c ss).map .int)):=by
 rw [zif]
 refine za2 ?_
 simp [zdo,line]
 refine zcQ (fun i ρ=>∃ x,ρ=[vi (aft c (ss.take i)),v (.lst (ss.map .int)),ow ((zg5 c (ss.take i)).map .int),x]) ⟨none,by simp [aft,zg5]⟩ ?_ ?_
 ·rintro j d ρ hj ⟨x,rfl⟩
  rw [List.getElem?_map] at hj
  cases e:ss[j]? with
  | none=>rw [e] at hj;cases hj
  | some s =>
   rw [e] at hj;cases hj
   obtain ⟨h1,h2⟩:=h.2 s (List.mem_of_getElem? e)
   have hl:(zg5 c (ss.take j)).length < 16777216:=by rw [zgl,List.length_take];have:=h.1;lia
   simp [h1,line,hl,zau h1 (by lia),take_snoc e,zk0,zmR,zg5,aft]
 ·rintro ρ ⟨x,rfl⟩
  simp
theorem zko:∀ (c:Int) (ss:List Int) (m:Int),(∀ s∈ss,0 < s∧s≤m)→∀ x∈zg5 c ss,0≤x∧x < m
 | c,[],m,_=>by simp [zg5]
 | c,s :: ss,m,h=>by
  intro x hx
  simp only [zg5,List.mem_cons] at hx
  rcases hx with rfl | hx
  ·obtain ⟨h1,h2⟩:=h s List.mem_cons_self
   have:=Int.emod_lt_of_pos c h1
   exact ⟨Int.emod_nonneg _ (by lia),by lia⟩
  ·exact zko (c / s) ss m (fun t ht=>h t (List.mem_cons_of_mem _ ht)) x hx
theorem zlB {α:Type} (xs:List α) {r c:Nat} (h:(r+1)*c≤xs.length):(cut xs (some ((r:Int)*c)) (some (((r:Int)+1)*c))).length=c:=by
 have h1:((r:Int)*c)=((r*c:Nat):Int):=by push_cast;rfl
 have h2:(((r:Int)+1)*c)=(((r+1)*c:Nat):Int):=by push_cast;rfl
 rw [h1,h2]
 have h3:(r+1)*c=r*c+c:=Nat.succ_mul ..
 have n1:¬ ((r*c:Nat):Int) < 0:=by lia
 have n2:¬ (((r+1)*c:Nat):Int) < 0:=by lia
 have a2:min ((r+1)*c) xs.length=(r+1)*c:=Nat.min_eq_left h
 have a1:min (r*c) xs.length=r*c:=Nat.min_eq_left (Nat.le_trans (Nat.mul_le_mul_right c (Nat.le_succ r)) h)
 simp only [cut,sIx,n1,n2,if_false,Int.toNat_natCast,List.length_take,List.length_drop,a1,a2]
 rw [h3,Nat.add_sub_cancel_left]
 exact Nat.min_eq_left (Nat.le_sub_of_add_le (by rw [Nat.add_comm,←h3];exact h))
theorem zlm {α:Type} {xs:List α} {l h:Option Int} {x:α} (hx:x∈cut xs l h):x∈xs:=List.mem_of_mem_drop (List.mem_of_mem_take hx)
theorem zo0 {α β:Type} (f:α→β) (xs:List α) (l h:Option Int):cut (xs.map f) l h=(cut xs l h).map f:=by
 simp [cut,List.map_take,List.map_drop]
theorem zlR {sg : List Nat} {nums : List Int} {R C : Nat} (hs : sg.length ≤ 100) (hsg : ∀ c ∈ sg, c ∈ signs) (hn : ∀ x ∈ nums, 0 ≤ x ∧ x < sg.length) (hl : nums.length = R * C) (hR : R ≤ 6) (hC : C ≤ 12) {b : SF} {Q : Fl → Prop}
  (hb:b=zco 8 (eB zjL (eC (.str [])) (eL (zcu (zfK (eL (lSl (eW 7) (pAt (eB zf7 (eW 9) (eW 3))) (pAt (eB zf7 (eB zbh (eW 9) (eC (.int 1))) (eW 3)))))) 1 [6] (gName 0) zdA (eB oIx (eW 1) (eW 0))))))
  (x0 x1 x2 x4 x5:Option L) (hQ:∀ rows x,zfC C R rows→Q (.nx [x0,x1,x2,vi C,x4,x5,vs sg,v (.lst (nums.map .int)),ow (rows.map .str),x])) :
  Ok (zfp (gName 9) b (zints 0 R) [x0,x1,x2,vi C,x4,x5,vs sg,v (.lst (nums.map .int)),ow [],none]) Q:=by
 subst hb
 refine zcQ (fun i ρ=>∃ rows x,zfC C i rows∧ρ=[x0,x1,x2,vi C,x4,x5,vs sg,v (.lst (nums.map .int)),ow (rows.map .str),x]) ⟨[],none,zfC.nil C,rfl⟩ ?_ ?_
 ·rintro i d ρ hi ⟨rows,x,hrow,rfl⟩
  obtain ⟨hi',rfl⟩:=ints_get hi
  have q1:zaY (i:Int) (C:Int):=zbg (by lia) (by lia)
  have q2:zaY ((i:Int)+1) (C:Int):=zbg (by lia) (by lia)
  have hle:(i+1)*C≤nums.length:=by rw [hl];exact Nat.mul_le_mul_right C hi'
  have hcl:=zlB nums hle
  have hcl':(cut nums (some ((i:Int)*C)) (some (((i:Int)+1)*C))).length≤16777216:=by lia
  have hrl:rows.length < 16777216:=by rw [hrow.1];lia
  simp [zbC,zpQ,q1,q2,line,zcJ,zbP,zo0,hcl']
  generalize hns:cut nums (some ((i:Int)*C)) (some (((i:Int)+1)*C))=ns at hcl hcl'
  have key:∀ x:Int,∃ q,(0≤x∧x < sg.length)→q∈signs∧oIx (.str sg) (.int x)=.ok (.str [q]):=fun x=>by
   by_cases h:0≤x∧x < sg.length
   ·obtain ⟨c,hc,e⟩:=zkS h.1 h.2 (by simp only [line];lia)
    exact ⟨c,fun _=>⟨hsg c hc,e⟩⟩
   ·exact ⟨0,fun h'=>absurd h' h⟩
  have kq:∃ q:Int→Nat,∀ x:Int,(0≤x∧x < sg.length)→q x∈signs∧oIx (.str sg) (.int x)=.ok (.str [q x]):=⟨fun x=>(key x).choose,fun x=>(key x).choose_spec⟩
  obtain ⟨q,hq⟩:=kq
  have hin:∀ x∈ns,0≤x∧x < sg.length:=fun x hx=>hn x (zlm (hns▸hx))
  refine zbQ D.int (fun _=>true) (fun x=>.str [q x]) ?_ ?_
  ·intro x hx
   simp [(hq x (hin x hx)).2]
  ·rw [zeR]
   have e1:ns.map (fun x=>D.str [q x])=(ns.map fun x=>[q x]).map D.str:=by rw [List.map_map];rfl
   have e2:(ns.map fun x=>[q x]).flatten=ns.map q:=by
    clear hcl hcl' hns hin e1
    induction ns with
    | nil=>rfl
    | cons a as ih=>simp [ih]
   rw [e1,zl4 (by rw [e2,List.length_map];lia),e2]
   simp [hrl]
   refine ⟨rows++[ns.map q],hrow.add ⟨by rw [List.length_map];exact hcl,?_⟩,by simp⟩
   intro c hc
   obtain ⟨x,hx,rfl⟩:=List.mem_map.mp hc
   exact (hq x (hin x hx)).1
 ·rintro ρ ⟨rows,x,hrow,rfl⟩
  rw [zeh] at hrow
  exact hQ rows x hrow
theorem zlM:signs.length=29:=by decide
theorem zn9 {n:Nat} (h:n≤100):Szs (List.replicate n 29):=⟨by simpa using h,fun s hs=>by rw [List.eq_of_mem_replicate hs];decide⟩
theorem zlp {ns : List Int} (hb : Bd ns) : ∃ rows C a b, HallG rows C ∧ a ∈ letters ∧ b ∈ letters ∧ zdb [.lst (ns.map .int)] = .ok (.tup [zfO rows, .str [a], .str [b]]) := by
 obtain ⟨f,ef,hf⟩:=zeo hb (k:=0) (by decide)
 obtain ⟨c1,ec1,_⟩:=zeo hb (k:=1) (by decide)
 obtain ⟨a,ha,ea⟩:=zfl (f / 144)
 obtain ⟨b,hlb,eb⟩:=zfl (f / 144+1+f / 3744 % 25)
 obtain ⟨R,hR⟩:=zdj (z:=1+f / 2 % 6) (by first | exact Int.emod_nonneg _ (by decide) | lia)
 obtain ⟨C,hC⟩:=zdj (z:=1+f / 12 % 12) (by first | exact Int.emod_nonneg _ (by decide) | lia)
 have hR1:1≤R∧R≤6:=by lia
 have hC1:1≤C∧C≤12:=by lia
 have hA:a∈signs:=zf8 ha
 have hB:b∈signs:=zf8 hlb
 have key:Ok (zcL (zdz [v (.lst (ns.map .int)),none,none,none,none,none,none,none,none,none])) fun d=>∃ rows R C,zfC C R rows∧1≤R∧R≤6∧1≤C∧C≤12∧d=.tup [zfO rows,.str [a],.str [b]]:=by
  refine zeB ?_
  simp [zdz,ef,ec1,zau,hR,hC,ea,eb,line]
  refine zgR (by first | exact Int.emod_nonneg _ (by decide) | lia) (by first | exact Int.emod_lt_of_pos _ (by decide) | (simp;lia)) ?_
  intro d hd
  obtain ⟨sg,rfl,hl8,hsg⟩:∃ sg,d=.str sg∧sg.length=8∧∀ c∈sg,c∈signs:=by
   have k46:46∈signs:=by decide
   have k61:61∈signs:=by decide
   have k35:35∈signs:=by decide
   simp at hd
   rcases hd with rfl | rfl | rfl
   ·exact ⟨_,rfl,rfl,by simp [k46,k61]⟩
   ·exact ⟨_,rfl,rfl,by simp [k46,k61,k35,hA]⟩
   ·exact ⟨_,rfl,rfl,by simp [k46,k61,k35,hA,hB]⟩
  by_cases hm:f % 2=1
  ·have q1:zaY (R:Int) (C:Int):=zbg (by lia) (by lia)
   have hrc:R*C≤100:=Nat.le_trans (Nat.mul_le_mul hR1.2 hC1.2) (by decide)
   obtain ⟨N,hrc2,hN⟩:∃ N:Nat,(R:Int)*C=(N:Int)∧N=R*C:=⟨R*C,by push_cast;rfl,rfl⟩
   rw [←hN] at hrc
   have dg:=zfu (zn9 hrc) c1
   rw [List.map_replicate] at dg
   have hg:N≤16777216:=by lia
   simp [hm,q1,ec1,znM,hrc2,hg,dg]
   refine ⟨by lia,?_⟩
   refine zlR (sg:=signs) (nums:=zg5 c1 (List.replicate N 29)) (R:=R) (C:=C) (by decide) (fun c hc=>hc) ?_ (by rw [zgl,List.length_replicate];exact hN) hR1.2 hC1.2 rfl _ _ _ _ _ ?_
   ·intro x hx
    have:=zko c1 _ 29 (fun s hs=>by rw [List.eq_of_mem_replicate hs];decide) x hx
    rw [zlM];exact this
   ·intro rows x hrow
    simp [line]
    exact ⟨rows,R,C,hrow,hR1.1,hR1.2,hC1.1,hC1.2,rfl⟩
  ·simp [hm]
   have h6:(R:Int)-1 < 6:=by lia
   refine zgR (by first | exact Int.emod_nonneg _ (by decide) | lia) (by first | exact Int.emod_lt_of_pos _ (by decide) | (simp;lia)) ?_
   intro d hd
   obtain ⟨R',rfl,hR'⟩:∃ R':Nat,d=.int R'∧1≤R'∧R'≤6:=by
    simp at hd
    rcases hd with rfl | rfl | rfl | rfl | rfl | rfl
    all_goals first | exact ⟨1,rfl,by decide⟩ | exact ⟨2,rfl,by decide⟩ | exact ⟨3,rfl,by decide⟩ | exact ⟨4,rfl,by decide⟩
   simp
   refine zgR (by first | exact Int.emod_nonneg _ (by decide) | lia) (by first | exact Int.emod_lt_of_pos _ (by decide) | (simp;lia)) ?_
   intro d hd
   obtain ⟨C',rfl,hC'⟩:∃ C':Nat,d=.int C'∧1≤C'∧C'≤12:=by
    simp at hd
    rcases hd with rfl | rfl | rfl | rfl | rfl | rfl | rfl | rfl | rfl | rfl | rfl | rfl
    all_goals first | exact ⟨1,rfl,by decide⟩ | exact ⟨2,rfl,by decide⟩ | exact ⟨3,rfl,by decide⟩ | exact ⟨4,rfl,by decide⟩ | exact ⟨5,rfl,by decide⟩ | exact ⟨6,rfl,by decide⟩ | exact ⟨8,rfl,by decide⟩ | exact ⟨12,rfl,by decide⟩
   have q1:zaY (R':Int) (C':Int):=zbg (by lia) (by lia)
   have hrc:R'*C'≤100:=Nat.le_trans (Nat.mul_le_mul hR'.2 hC'.2) (by decide)
   obtain ⟨N,hrc2,hN⟩:∃ N:Nat,(R':Int)*C'=(N:Int)∧N=R'*C':=⟨R'*C',by push_cast;rfl,rfl⟩
   rw [←hN] at hrc
   have hrc3:N≤16777216:=by lia
   simp [q1,zbC,zcJ,zbP,line,hrc2,hrc3]
   have kx:∀ i:Nat,∃ m,i≤1000→KG.zaq [.int c1,.int i]=.ok (.int m):=fun i=>by
    by_cases h:i≤1000
    ·obtain ⟨m,e,_⟩:=mixed c1 (k:=(i:Int)) (by lia) (by lia)
     exact ⟨m,fun _=>e⟩
    ·exact ⟨0,fun h'=>absurd h' h⟩
   have kq:∃ m:Nat→Int,∀ i:Nat,i≤1000→KG.zaq [.int c1,.int i]=.ok (.int (m i)):=⟨fun x=>(kx x).choose,fun x=>(kx x).choose_spec⟩
   obtain ⟨m,hm⟩:=kq
   refine Z.zfw (fun d=>match d with | .int c=>.int (m c.toNat / 5 % 8) | d=>d) ?_ ?_
   ·intro d hd
    obtain ⟨j,hj⟩:=List.getElem?_of_mem hd
    obtain ⟨hj',rfl⟩:=ints_get hj
    rw [Int.zero_add]
    simp [ec1,hm j (by lia),zau]
   ·have e:(zints 0 N).map (fun d=>match d with | .int c=>D.int (m c.toNat / 5 % 8) | d=>d)=((List.range N).map fun j=>m j / 5 % 8).map D.int:=by
     rw [ints_map,List.map_map,List.map_map]
     refine List.map_congr_left fun j _=>?_
     simp
    obtain ⟨nums,hnums⟩:∃ nums,nums=(List.range N).map fun j=>m j / 5 % 8:=⟨_,rfl⟩
    rw [e,←hnums]
    refine zlR (sg:=sg) (nums:=nums) (R:=R') (C:=C') (by lia) hsg ?_ (by simp [hnums,hN]) hR'.2 hC'.2 rfl _ _ _ _ _ ?_
    ·intro x hx
     rw [hnums] at hx
     obtain ⟨j,_,rfl⟩:=List.mem_map.mp hx
     rw [hl8]
     lia
    ·intro rows x hrow
     simp [line]
     exact ⟨rows,R',C',hrow,hR'.1,hR'.2,hC'.1,hC'.2,rfl⟩
 obtain ⟨d,e,rows,R',C',hrow,r1,r2,c1',c2',rfl⟩:=key
 exact ⟨rows,C',a,b,zsg (by rw [hrow.1];exact r1) (by rw [hrow.1];exact r2) c1' c2' hrow.2,ha,hlb,by rw [zj3];exact e⟩
end KH
namespace KH
open Z KG
@[simp] theorem zs5:ziP (.int 10) (.int 40)=.ok (.int 10000000000000000000000000000000000000000):=zef 10 40 (by decide) (by decide)
@[simp] theorem zs6:ziP (.int 10) (.int 39)=.ok (.int 1000000000000000000000000000000000000000):=zef 10 39 (by decide) (by decide)
theorem zoC (c : Int) {k : Int} (h0 : 0 ≤ k) (h1 : k ≤ 1000) : ∃ nm, zcz [.int c, .int k] = .ok (.str nm) := by
 obtain ⟨S,hS⟩:=zdj (z:=1+c % 8) (by first | exact Int.emod_nonneg _ (by decide) | lia)
 rw [zj2]
 have:Ok (zcL (zdy [v (.int c),v (.int k),none,none,none,none,none,none])) fun d=>∃ nm,d=.str nm:=by
  refine zeB ?_
  have s0':0 < S:=by lia
  simp [zdy,zau,hS,s0']
  refine zcQ (fun i ρ=>∃ nm x y,nm.length=i∧ρ=[vi c,vi k,vs letters,vi S,vi (c / 8 % S),vs nm,x,y]) ⟨[],none,none,rfl,rfl⟩ ?_ ?_
  ·rintro j d ρ hj ⟨nm,x,y,hn,rfl⟩
   obtain ⟨hj',rfl⟩:=ints_get hj
   have hj8:(j:Int) < 8:=by lia
   have q1:zaY (j:Int) (j:Int):=zbg (by lia) (by lia)
   have q4:zem ((j:Int)+1):=zau (by lia) (by lia)
   have hl:nm.length+1≤16777216:=by lia
   by_cases he:(j:Int)=c / 8 % S
   ·obtain ⟨q,hq,eq⟩:=zfl (c / 64 / ((j:Int)+1)+(j:Int)*j+k)
    simp [q1,q4,zau,he.symm,eq,line,hl,hn]
    lia
   ·obtain ⟨q,hq,eq⟩:=zfl (c / 64 / ((j:Int)+1)+(j:Int)*j)
    simp [q1,q4,zau,he,eq,line,hl,hn]
    lia
  ·rintro ρ ⟨nm,x,y,hn,rfl⟩
   simp
 obtain ⟨d,e,nm,rfl⟩:=this
 exact ⟨nm,e⟩
noncomputable def kinds:List D:=[.str [],.str [97],.str [98],.str [99],.str [100],.str [101],.str [102],.str [103],.str [104],.str [105],.str [106],.str [107],.str [108],.str [109],.str [110],.str [111],.str [112],.str [113],.str [114],.str [115],.str [116],.str [117],.str [118],.str [119],.str [120],.str [121],.str [122]]
theorem kinds_ok:∀ d∈kinds,∃ kd,d=.str kd∧(kd=[]∨∃ c∈letters,kd=[c]):=by
 intro d hd
 have:kinds=.str [] :: letters.map fun c=>.str [c]:=rfl
 rw [this] at hd
 rcases List.mem_cons.mp hd with rfl | hd
 ·exact ⟨[],rfl,.inl rfl⟩
 ·obtain ⟨c,hc,rfl⟩:=List.mem_map.mp hd
  exact ⟨[c],rfl,.inr ⟨c,hc,rfl⟩⟩
noncomputable def pw2:Nat→Int
 | 0=>1
 | 1=>2
 | 2=>4
 | 3=>8
 | 4=>16
 | _=>32
theorem znU (c:Int) {k:Int} (h0:0≤k) (h1:k≤1000):∃ m,KG.zaq [.int c,.int k]=.ok (.int m)∧0≤m∧m < 2147483587:=by
 have q1:zaY 7919 k:=zbg (by decide) (by decide)
 have q2:zaY (7919*k) k:=zdZ (by lia) (by lia)
 have q3:∀ x,zaY x 48271:=fun x=>zdZ (by decide) (by decide)
 have q4:∀ x:Int,zaY (x % 2147483647) (x % 2147483647):=fun x=>zbg (by lia) (by lia)
 have q5:∀ x,zaY 69621 x:=fun x=>zbg (by decide) (by decide)
 have q6:∀ x,zaY x 39373:=fun x=>zdZ (by decide) (by decide)
 have q7:∀ x,zaY 11 x:=fun x=>zbg (by decide) (by decide)
 rw [zga]
 have:Ok (zcL (zcC [v (.int c),v (.int k),none])) fun d=>∃ m,d=.int m∧0≤m∧m < 2147483587:=by
  refine zeB ?_
  simp [zcC,q1,q2,q3,q4,q5,q6,q7]
  lia
 obtain ⟨d,e,m,rfl,hm⟩:=this
 exact ⟨m,e,hm⟩
end KH
namespace KH
open Z KG
theorem renamed {g:G} (h:GrpG g) (nm:List Nat):GrpG { g with name:=nm } :=
 zqW h.w1 h.w12 h.d1 h.d3 h.kl h.wdd h.g6 h.wsh
theorem zj8 (g:G) (nm:List Nat):oSl (zbT g) (some 1) none=.ok (.tup [.int g.w,.int g.d,.str g.kind,.int g.wide,.int g.gap,g.worth,g.wishes]):=rfl
noncomputable def zm0:SF:=(sIf (tAnd (tE (eB oEq (eW 6) (eC (.int 1)))) (tAnd (tE (eB oGt (eW 8) (eC (.int 0)))) (tE (eB oGt (eB oMod (eW 10) (eC (.int 3))) (eC (.int 0)))))) (zco 7 (eB zbh (zd1 (zab (eV 9) zav)) (eSl (eB oIx (eW 7) (eC (.int 0))) (pAt (eC (.int 1))) pNo))) (sIf (tE (eB oEq (eB oMod (eW 3) (eC (.int 2))) (eC (.int 1)))) (zco 7 (zar zcY (zab (eV 10) (zab (eV 9) zav)))) (zco 7 (zar zbY (zab (eB oMod (eW 10) (eB ziP (eC (.int 10)) (eC (.int 50)))) (zab (eV 9) (zab (eB zbh (eW 1) (eW 2)) (zab (eB oEq (eW 5) (eC (.int 1))) zav))))))))
theorem zsw:zc2=(zaI (zoi (zar zaF (zab (zar KG.zak (zab (eV 0) (zab (eC (.int 2)) zav))) (zab (eL (zbp (zab (eC (.int 4)) (zab (eC (.int 7)) (zab (eC (.int 4)) (zab (eC (.int 4)) zav)))))) zav))) (znu [3,4,5,6])) (zaI (zjn 7 (zbp zav)) (zaI (zfE (iRng1 (eV 4)) (gName 8) (zaI (zbj 9 (zar zcz (zab (zar KG.zak (zab (eV 0) (zab (eC (.int 3)) zav))) (zab (eV 8) zav)))) (zaI (zbj 10 (zar KG.zak (zab (eV 0) (zab (eB zbh (eC (.int 4)) (eW 8)) zav)))) (zaI (sIf (tE (eB oGe (eB zbh (eC (.int 4)) (eW 8)) (eU zdh (eW 0)))) (zbj 10 (eB zf7 (zar KG.zaq (zab (zar KG.zak (zab (eV 0) (zab (eC (.int 2)) zav))) (zab (eV 8) zav))) (zar KG.zaq (zab (zar KG.zak (zab (eV 0) (zab (eC (.int 3)) zav))) (zab (eV 8) zav))))) zbn) zm0)))) (zbS (eU zc6 (eW 7)))))):=rfl
end KH
namespace KH
open Z KG
theorem zoZ (row:List Nat) {c w:Nat} (h:c+w≤row.length):cut row (some (c:Int)) (some ((c:Int)+w))=(row.drop c).take w:=by
 have n1:¬ (c:Int) < 0:=by lia
 have n2:¬ (c:Int)+w < 0:=by lia
 have e:((c:Int)+w).toNat=c+w:=by lia
 simp only [cut,sIx,n1,n2,if_false,Int.toNat_natCast,e]
 rw [Nat.min_eq_left h,Nat.min_eq_left (by lia:c≤row.length),Nat.add_sub_cancel_left]
theorem zlS {rows:Rows} {C:Nat} (H:Hall rows C) {r c w:Nat} {row:List Nat} (hr:rows[r]?=some row) (h:c+w≤C):((row.drop c).take w).map some=(zdK w (r:Int) (c:Int)).map (zbR rows):=by
 have hl:=H.len row (List.mem_of_getElem? hr)
 apply List.ext_getElem?
 intro j
 simp only [List.getElem?_map,zdK,List.getElem?_take,List.getElem?_drop]
 by_cases hj:j < w
 ·rw [if_pos hj,List.getElem?_range hj]
  have hc:c+j < row.length:=by lia
  rw [List.getElem?_eq_getElem hc]
  simp only [Option.map_some,zbR]
  have e1:((c:Int)+(j:Int)).toNat=c+j:=by lia
  rw [if_pos ⟨by lia,by lia⟩]
  simp [hr,e1,hc]
 ·rw [if_neg hj,List.getElem?_eq_none (by simp;lia)]
  rfl
theorem zud (k : List Nat) (c : Nat) : (!(c == 46) && (!(c == 61) && !([c] == k))) = !zcq k (some c) := by
 by_cases h1:c=46
 ·simp [zcq,h1]
 ·by_cases h2:c=61
  ·simp [zcq,h2]
  ·by_cases h3:k=[c]
   ·subst h3;simp [zcq]
   ·have h3':¬ [c]=k:=fun h=>h3 h.symm
    simp [zcq,h1,h2,h3,h3']
theorem znp (xs:List D):oNe (.lst xs) (.lst [])=.ok (.bl (!xs.isEmpty)):=by
 cases xs<;>rfl
theorem zhh {rows : Rows} {C : Nat} (H : Hall rows C) {g : G} (k : GOk g) {r c : Nat} (hr : r < rows.length) (hc : c < C) : zcW [zfO rows, zbT g, .int (r : Nat), .int (c : Nat)] = .ok (.bl (zc3 rows g ((r : Int), (c : Int)))) := by
 rw [zj4]
 refine za2 ?_
 obtain ⟨row0,hl0,e0⟩:=H.row0
 have hc2:=H.c2
 have hln:C≤16777216:=by lia
 have w1:=k.w1;have d1:=k.d1;have w2:=k.w2;have d2:=k.d2
 by_cases h1:(rows.length:Int) < (r:Int)+g.d
 ·have hb:zc3 rows g ((r:Int),(c:Int))=false:=by
   refine zhF (s:=((r:Int)+((g.d-1:Nat):Int),(c:Int)+((0:Nat):Int))) (ziU (p:=((r:Int),(c:Int))) (i:=g.d-1) (j:=0) (by lia) (by lia)) ?_
   unfold okS
   rw [zhT H (by simp only;lia)];rfl
  simp [zdg,h1,hb]
 ·by_cases h2:(C:Int) < (c:Int)+g.w
  ·have hb:zc3 rows g ((r:Int),(c:Int))=false:=by
    refine zhF (s:=((r:Int)+((0:Nat):Int),(c:Int)+((g.w-1:Nat):Int))) (ziU (p:=((r:Int),(c:Int))) (i:=0) (j:=g.w-1) (by lia) (by lia)) ?_
    unfold okS
    rw [zhT H (by simp only;lia)];rfl
   simp [zdg,h1,h2,hb,e0,hl0,line,hln]
  ·have hdd:((r:Int)+g.d).toNat-r=g.d:=by lia
   simp [zdg,h1,h2,e0,hl0,line,hln,zgu,hdd]
   refine zcQ (fun i ρ=>∃ (sg:List Nat) (x:Option L),sg.map some=(zeL g.w ((r:Int),(c:Int)) i).map (zbR rows)∧ρ=[v (zfO rows),v (zbT g),vi (r:Nat),vi (c:Nat),vs sg,x]) ⟨[],none,rfl,rfl⟩ ?_ ?_
   ·rintro i d ρ hi ⟨sg,x,hsg,rfl⟩
    obtain ⟨hi',rfl⟩:=ints_get hi
    obtain ⟨row,er,hl,e1⟩:=H.row (r:=r+i) (by lia)
    have e1':oIx (zfO rows) (.int ((r:Int)+(i:Nat)))=.ok (.str row):=by
     have:((r+i:Nat):Int)=(r:Int)+(i:Nat):=by lia
     rw [←this];exact e1
    have hsl:sg.length=i*g.w:=by
     have:=congrArg List.length hsg
     simpa [zeJ] using this
    have hm:i*g.w≤4*13:=Nat.mul_le_mul (by lia) w2
    have ec:=zoZ row (c:=c) (w:=g.w) (by lia)
    have hll:sg.length+((row.drop c).take g.w).length≤16777216:=by
     rw [List.length_take];lia
    have hrl:row.length≤16777216:=by lia
    simp [e1',line,ec,hrl]
    have hll':sg.length+min g.w (row.length-c)≤16777216:=by simpa using hll
    refine ⟨hll',?_⟩
    have rs:=zlS H er (c:=c) (w:=g.w) (by lia)
    rw [List.map_take,List.map_drop] at rs
    have:((r+i:Nat):Int)=(r:Int)+(i:Nat):=by lia
    rw [this] at rs
    rw [hsg,zeX,List.map_append,rs]
   ·rintro ρ ⟨sg,x,hsg,rfl⟩
    rw [zeh] at hsg
    have hsl:sg.length=g.d*g.w:=by
     have:=congrArg List.length hsg
     simpa [zeJ] using this
    have hm:g.d*g.w≤4*13:=Nat.mul_le_mul d2 w2
    have hsl':sg.length≤16777216:=by lia
    have eall:(seats g ((r:Int),(c:Int))).all (fun s=>zcq g.kind (zbR rows s))=sg.all fun c=>zcq g.kind (some c):=by
     have h1:(seats g ((r:Int),(c:Int))).all (fun s=>zcq g.kind (zbR rows s))=((seats g ((r:Int),(c:Int))).map (zbR rows)).all (zcq g.kind):=by rw [List.all_map];rfl
     rw [h1,show seats g ((r:Int),(c:Int))=zeL g.w ((r:Int),(c:Int)) g.d from rfl,←hsg,List.all_map];rfl
    have ecnt:(seats g ((r:Int),(c:Int))).countP (zla rows)=sg.count 61:=by
     have h1:(seats g ((r:Int),(c:Int))).countP (zla rows)=((seats g ((r:Int),(c:Int))).map (zbR rows)).countP (fun o=>o==some 61):=by rw [List.countP_map];rfl
     rw [h1,show seats g ((r:Int),(c:Int))=zeL g.w ((r:Int),(c:Int)) g.d from rfl,←hsg,List.countP_map,List.count]
     refine List.countP_congr fun x _=>?_
     simp
    simp [zbC,line,zcJ,zbP,hsl']
    refine zbQ (fun c=>.str [c]) (fun c=>!zcq g.kind (some c)) (fun c=>.str [c]) ?_ ?_
    ·intro x hx
     have:=zud g.kind x
     cases h46:(x==46)<;>cases h61:(x==61)<;>simp_all -implicitDefEqProofs
    ·rw [znp]
     unfold zc3
     rw [eall,ecnt]
     cases ha:sg.all fun c=>zcq g.kind (some c) with
     | true =>
      have:sg.filter (fun c=>!zcq g.kind (some c))=[]:=by
       rw [List.filter_eq_nil_iff]
       intro x hx
       rw [List.all_eq_true] at ha
       simp [ha x hx]
      rw [this]
      simp
     | false =>
      have:(sg.filter (fun c=>!zcq g.kind (some c)))≠[]:=by
       intro h
       rw [List.filter_eq_nil_iff] at h
       rw [Bool.eq_false_iff] at ha
       refine ha (List.all_eq_true.mpr fun x hx=>?_)
       have:=h x hx
       simpa using this
      obtain ⟨y,ys,e⟩:=List.exists_cons_of_ne_nil this
      rw [e]
      simp
theorem zer {rows : Rows} {C : Nat} (H : Hall rows C) {g : G} (k : GOk g) : zbq [zfO rows, zbT g] = .ok (.lst ((places rows C g).map encP)) := by
 rw [zid]
 refine za2 ?_
 have hc2:=H.c2
 have hr2:=H.r2
 obtain ⟨row0,hl0,e0⟩:=H.row0
 have hln:C≤16777216:=by lia
 simp [zdn,line]
 refine zcQ (fun i ρ=>i≤rows.length∧∃ x y,ρ=[v (zfO rows),v (zbT g),ow (((zfA i C).filter (zc3 rows g)).map encP),x,y]) ⟨Nat.zero_le _,none,none,rfl⟩ ?_ ?_
 ·rintro i d ρ hi ⟨_,x,y,rfl⟩
  obtain ⟨hi',rfl⟩:=ints_get hi
  simp [e0,hl0,line,hln]
  refine zcQ (fun j ρ=>j≤C∧∃ y,ρ=[v (zfO rows),v (zbT g),ow (((zfA i C++ze0 i j).filter (zc3 rows g)).map encP),vi (i:Nat),y]) ⟨Nat.zero_le _,y,by simp [ze0]⟩ ?_ ?_
  ·rintro j d ρ hj ⟨_,y,rfl⟩
   obtain ⟨hj',rfl⟩:=ints_get hj
   have e3:ze0 i (j+1)=ze0 i j++[((i:Int),(j:Int))]:=by simp [ze0,List.range_succ]
   have h1:=List.length_filter_le (zc3 rows g) (zfA i C++ze0 i j)
   rw [List.length_append,zhd,zgJ] at h1
   have h3:i*C≤100*100:=Nat.mul_le_mul (by lia) hc2
   rw [e3,←List.append_assoc,List.filter_append (zfA i C++ze0 i j)]
   generalize (zfA i C++ze0 i j).filter (zc3 rows g)=fs at h1 ⊢
   have lf:=zhh H k hi' hj'
   cases hf:zc3 rows g ((i:Int),(j:Int)) with
   | true =>
    simp [lf,hf,line]
    lia
   | false =>
    simp [lf,hf,line]
    lia
  ·rintro ρ ⟨_,y,rfl⟩
   simp only [zeh]
   simp
   rw [zfW]
   exact ⟨by lia,by simp⟩
 ·rintro ρ ⟨_,x,y,rfl⟩
  simp [places]
theorem zeD (g:G) (p:Pl) (h:G) (q:Pl):zcA [zbT g,encP p,zbT h,encP q]=.ok (.bl (zb9 g p h q)):=by
 rw [zi7]
 refine za2 ?_
 by_cases h1:p.1+g.d≤q.1
 ·simp [zcD,zb9,h1]
 ·by_cases h2:q.1+h.d≤p.1
  ·simp [zcD,zb9,h1,h2]
  ·by_cases h3:p.2+g.w+max (g.gap:Int) h.gap≤q.2
   ·simp [zcD,zb9,h1,h2,h3]
   ·simp [zcD,zb9,h1,h2,h3]
noncomputable def okJ (xs:List GO) (g:G) (k:Nat) (p:Pl) (j:Nat):Bool:=decide (j=k) || match xs[j]? with
 | some (h,some q)=>zb9 g p h q
 | _=>true
noncomputable def openAt (xs:List GO) (g:G) (k:Nat) (p:Pl):Bool:=(List.range xs.length).all (okJ xs g k p)
noncomputable def zct (rows:Rows) (C:Nat) (xs:List GO) (g:G) (k:Nat):List Pl:=(places rows C g).filter (openAt xs g k)
noncomputable def za9 (xs:List GO):D:=.tup (xs.map fun x=>zbT x.1)
noncomputable def za0 (xs:List GO):D:=.tup (xs.map fun x=>zd0 x.2)
noncomputable def zbW (rows:Rows) (C:Nat) (xs:List GO):D:=.lst (xs.map fun x=>.lst ((places rows C x.1).map encP))
theorem zhV {rows : Rows} {C : Nat} (H : Hall rows C) {xs : List GO} (h6 : xs.length ≤ 6) {k : Nat} {x : GO} (hk : xs[k]? = some x) : zaC [zbW rows C xs, za9 xs, za0 xs, .int (k : Nat)] = .ok (.lst ((zct rows C xs x.1 k).map encP)) := by
 rw [zj1]
 refine za2 ?_
 have i1:=(zdk (xs:=xs.map fun x=>D.lst ((places rows C x.1).map encP)) (i:=(k:Nat)) (j:=k) rfl (by rw [List.getElem?_map,hk];rfl)).2
 have i2:=(zdk (xs:=xs.map fun x=>zbT x.1) (i:=(k:Nat)) (j:=k) rfl (by rw [List.getElem?_map,hk];rfl)).1
 have hpl:=places_len H x.1
 unfold zbW za9 za0 zct
 generalize hS:xs.map (fun x=>D.lst ((places rows C x.1).map encP))=S at i1
 simp [zea,line,i1]
 generalize places rows C x.1=ps at hpl
 refine zcQ (fun i ρ=>∃ x5 x6 x7 x8,ρ=[v (.lst S),v (.tup (xs.map fun x=>zbT x.1)),v (.tup (xs.map fun x=>zd0 x.2)),vi (k:Nat),ow (((ps.take i).filter (openAt xs x.1 k)).map encP),x5,x6,x7,x8]) ⟨none,none,none,none,rfl⟩ ?_ ?_
 ·rintro i d ρ hi ⟨x5,x6,x7,x8,rfl⟩
  rw [List.getElem?_map] at hi
  cases ep:ps[i]? with
  | none=>rw [ep] at hi;cases hi
  | some p =>
   rw [ep] at hi;cases hi
   have hfl:=List.length_filter_le (openAt xs x.1 k) (ps.take i)
   rw [List.length_take] at hfl
   rw [take_snoc ep,List.filter_append]
   generalize (ps.take i).filter (openAt xs x.1 k)=fs at hfl
   have hfl':fs.length < 16777216:=by lia
   simp
   refine zcQ (fun j ρ=>∃ x7 x8,ρ=[v (.lst S),v (.tup (xs.map fun x=>zbT x.1)),v (.tup (xs.map fun x=>zd0 x.2)),vi (k:Nat),ow (fs.map encP),v (encP p),v (.bl ((List.range j).all (okJ xs x.1 k p))),x7,x8]) ⟨x7,x8,by simp⟩ ?_ ?_
   ·rintro j d ρ hj ⟨x7,x8,rfl⟩
    obtain ⟨hj',rfl⟩:=ints_get hj
    obtain ⟨y,ey⟩:∃ y,xs[j]?=some y:=⟨_,List.getElem?_eq_getElem hj'⟩
    have j1:=(zdk (xs:=xs.map fun x=>zd0 x.2) (i:=(j:Nat)) (j:=j) rfl (by rw [List.getElem?_map,ey];rfl)).1
    have j2:=(zdk (xs:=xs.map fun x=>zbT x.1) (i:=(j:Nat)) (j:=j) rfl (by rw [List.getElem?_map,ey];rfl)).1
    rw [List.range_succ,List.all_append]
    generalize (List.range j).all (okJ xs x.1 k p)=fr
    by_cases hjk:j=k
    ·have e:okJ xs x.1 k p j=true:=by simp [okJ,hjk]
     subst hjk
     simp [j1,e]
    ·have hjk':¬ (j:Int)=k:=by lia
     obtain ⟨h,o⟩:=y
     cases o with
     | none =>
      have e:okJ xs x.1 k p j=true:=by simp [okJ,ey]
      simp [j1,hjk',e]
     | some q =>
      have e:okJ xs x.1 k p j=zb9 x.1 p h q:=by simp [okJ,ey,hjk]
      have nN:ze1 (encP q)=.ok (.bl true):=rfl
      cases fr with
      | true=>simp [j1,j2,hjk',e,i2,zeD,nN]
      | false=>simp [j1,j2,hjk',e,i2,zeD,nN]
   ·rintro ρ ⟨x7,x8,rfl⟩
    rw [zeh]
    have e:openAt xs x.1 k p=(List.range xs.length).all (okJ xs x.1 k p):=rfl
    rw [←e]
    cases ho:openAt xs x.1 k p with
    | true =>
     simp [line,hfl',ho]
    | false =>
     simp [ho]
 ·rintro ρ ⟨x5,x6,x7,x8,rfl⟩
  rw [List.length_map,List.take_length]
  simp
end KH
namespace KH
open Z KG
theorem zjw {ds:List D} {k:Nat} (h:k < ds.length) (d:D):cut ds none (some (k:Int))++(d :: cut ds (some ((k:Int)+1)) none)=ds.set k d:=by
 have e1:cut ds none (some (k:Int))=ds.take k:=zk3 ds (by lia)
 have e2:cut ds (some ((k:Int)+1)) none=ds.drop (k+1):=by
  have:¬ (k:Int)+1 < 0:=by lia
  have h3:((k:Int)+1).toNat=k+1:=by lia
  have h4:min (k+1) ds.length=k+1:=by lia
  simp [cut,sIx,this,h3,h4]
  rw [List.take_of_length_le (by simp)]
 rw [e1,e2,List.set_eq_take_append_cons_drop,if_pos h]
theorem zlI {ds:List D} {k:Nat} (h:k < ds.length) (hl:ds.length≤1000) (d:D):zaZ [.tup ds,.int (k:Nat),d]=.ok (.tup (ds.set k d)):=by
 rw [zjY]
 refine za2 ?_
 have c1:=ze5 ds none (some (k:Int))
 have c2:=ze5 ds (some ((k:Int)+1)) none
 have g1:(cut ds none (some (k:Int))).length+1≤16777216:=by lia
 have g2:(cut ds none (some (k:Int))).length+1+(cut ds (some ((k:Int)+1)) none).length≤16777216:=by lia
 simp [zd7,line,g1,g2,zjw h]
theorem zhO {ds:List D} {k:Nat} (h:k < ds.length) (hl:ds.length≤1000) (d:D):zbD [.tup ds,.int (k:Nat),d]=.ok (.tup (ds.set k d)):=by
 rw [zia]
 refine za2 ?_
 have c1:=ze5 ds none (some (k:Int))
 have c2:=ze5 ds (some ((k:Int)+1)) none
 have g1:(cut ds none (some (k:Int))).length+1≤16777216:=by lia
 have g2:(cut ds none (some (k:Int))).length+1+(cut ds (some ((k:Int)+1)) none).length≤16777216:=by lia
 simp [zdl,line,g1,g2,zjw h]
theorem zi9 (xs:List GO) (k:Nat) (g:G) (o:Option Pl):za0 (xs.set k (g,o))=.tup ((xs.map fun x=>zd0 x.2).set k (zd0 o)):=by
 simp [za0,List.map_set]
theorem zfr {xs:List GO} {k:Nat} {x:GO} (h:xs[k]?=some x) (o:Option Pl):za9 (xs.set k (x.1,o))=za9 xs:=by
 have hk:k < xs.length:=(List.getElem?_eq_some_iff.mp h).1
 have e:x=xs[k]:=by rw [List.getElem?_eq_getElem hk] at h;exact (Option.some.inj h).symm
 unfold za9
 rw [List.map_set]
 congr 1
 subst e
 apply List.ext_getElem (by simp)
 intro i h1 h2
 rw [List.getElem_set]
 split
 ·rename_i e;subst e;simp
 ·rfl
def Good (rows:Rows) (xs:List GO):Prop:=∀ (i:Nat) (g:G) (p:Pl),xs[i]?=some (g,some p)→zc3 rows g p=true∧∀ (j:Nat) (h:G) (q:Pl),xs[j]?=some (h,some q)→j≠i→zb9 g p h q=true
theorem zhB {xs : List GO} {g : G} {k : Nat} {p : Pl} : openAt xs g k p = true ↔ ∀ (j : Nat) (h : G) (q : Pl), xs[j]? = some (h, some q) → j ≠ k → zb9 g p h q = true := by
 unfold openAt
 rw [List.all_eq_true]
 constructor
 ·intro h j hh q e hj
  have hl:j < xs.length:=(List.getElem?_eq_some_iff.mp e).1
  have:=h j (List.mem_range.mpr hl)
  simpa [okJ,e,hj] using this
 ·intro h j hj
  unfold okJ
  by_cases hk:j=k
  ·simp [hk]
  ·cases e:xs[j]? with
   | none=>simp
   | some y =>
    obtain ⟨hh,o⟩:=y
    cases o with
    | none=>simp
    | some q=>simp [h j hh q e hk]
theorem Good.put {rows:Rows} {xs:List GO} (h:Good rows xs) {k:Nat} {x:GO} (hk:xs[k]?=some x) {p:Pl} (hf:zc3 rows x.1 p=true) (ho:openAt xs x.1 k p=true):Good rows (xs.set k (x.1,some p)):=by
 rw [zhB] at ho
 have hl:k < xs.length:=(List.getElem?_eq_some_iff.mp hk).1
 intro i g q e
 rw [List.getElem?_set] at e
 by_cases hi:k=i
 ·subst hi
  rw [if_pos rfl,if_pos hl] at e
  cases e
  refine ⟨hf,fun j hh r ej hj=>?_⟩
  rw [List.getElem?_set,if_neg (fun z=>hj z.symm)] at ej
  exact ho j hh r ej hj
 ·rw [if_neg hi] at e
  obtain ⟨h1,h2⟩:=h i g q e
  refine ⟨h1,fun j hh r ej hj=>?_⟩
  rw [List.getElem?_set] at ej
  by_cases hj':k=j
  ·subst hj'
   rw [if_pos rfl,if_pos hl] at ej
   cases ej
   rw [zmN]
   exact ho i g q e (fun z=>hi z.symm)
  ·rw [if_neg hj'] at ej
   exact h2 j hh r ej hj
theorem Good.sub {rows:Rows} {xs ys:List GO} (h:Good rows xs) (hs:∀ (i:Nat) (g:G) (p:Pl),ys[i]?=some (g,some p)→xs[i]?=some (g,some p)):Good rows ys:=by
 intro i g p e
 obtain ⟨h1,h2⟩:=h i g p (hs i g p e)
 exact ⟨h1,fun j hh q ej hj=>h2 j hh q (hs j hh q ej) hj⟩
theorem Good.keeps {rows:Rows} {xs:List GO} (h:Good rows xs):zhC rows (sit xs)=true:=by
 rw [zln]
 constructor
 ·intro y hy
  obtain ⟨i,hi⟩:=List.getElem?_of_mem (zeg.mp hy)
  exact (h i y.1 y.2 hi).1
 ·rw [zhS,List.pairwise_iff_getElem]
  intro i j hi hj hij p q ep eq
  have e1:xs[i]?=some (xs[i].1,some p):=by rw [List.getElem?_eq_getElem hi,←ep]
  have e2:xs[j]?=some (xs[j].1,some q):=by rw [List.getElem?_eq_getElem hj,←eq]
  exact (h j _ q e2).2 i _ p e1 (by lia)
theorem zhW (ps:List Pl) (g:G) {ss:List GP} (hp:ps.length≤10000) (hs:ss.length≤6):zb1 [.tup (ps.map encP),zbT g,.lst (ss.map zkY)]=.ok (.tup ((ps.filter fun p=>ss.all fun x=>zb9 g p x.1 x.2).map encP)):=by
 rw [zib]
 refine za2 ?_
 have hp':ps.length≤16777216:=by lia
 simp [zdm,zbC,line,zcJ,zbP,hp']
 refine zbQ encP (fun p=>ss.all fun x=>zb9 g p x.1 x.2) encP ?_ ?_
 ·intro p hp
  simp [zn2 g p (xs:=ss) (by lia)]
 ·rfl
theorem zm2 {xs:List GO} {g:G} {k:Nat} {x:GO} (hk:xs[k]?=some x) (p:Pl):((sit (xs.set k (x.1,none))).all fun y=>zb9 g p y.1 y.2)=openAt xs g k p:=by
 rw [Bool.eq_iff_iff,zhB,List.all_eq_true]
 have hl:k < xs.length:=(List.getElem?_eq_some_iff.mp hk).1
 constructor
 ·intro h j hh q e hj
  have hm:(hh,some q)∈xs.set k (x.1,none):=by
   refine List.mem_of_getElem? (i:=j) ?_
   rw [List.getElem?_set,if_neg (fun z=>hj z.symm)];exact e
  exact h (hh,q) (zeg.mpr hm)
 ·intro h y hy
  obtain ⟨j,e⟩:=List.getElem?_of_mem (zeg.mp hy)
  rw [List.getElem?_set] at e
  by_cases hj:k=j
  ·rw [if_pos hj] at e
   subst hj
   rw [if_pos hl] at e
   exact nomatch congrArg Prod.snd (Option.some.inj e)
  ·rw [if_neg hj] at e
   exact h j y.1 y.2 e (fun z=>hj z.symm)
theorem zh6 {rows:Rows} {C:Nat} {g:G} {p:Pl} (h:p∈places rows C g):zc3 rows g p=true:=(List.mem_filter.mp h).2
noncomputable def zlP:SF:=(sIf (tAnd (tE (eB oNe (eW 6) (eL (zbp zav)))) (tE (eB oGt (eB oMod (eW 5) (eC (.int 5))) (eC (.int 0))))) (zbj 3 (zar zaZ (zab (eV 3) (zab (eV 4) (zab (eB oIx (eW 6) (eB oMod (eB oDiv (eW 5) (eC (.int 5))) (eU zdh (eW 6)))) zav))))) zbn)
theorem zsv:zc1=(zaI (zbj 3 (eU zc6 (eL (zcu (zfK (eW 1)) 1 [] (gName 0) zdA (eC .non))))) (zaI (zfE (iRng1 (eU zdh (eW 1))) (gName 4) (zaI (zbj 5 (zar KG.zaq (zab (zar KG.zak (zab (eV 2) (zab (eB zbh (eC (.int 1)) (eW 4)) zav))) (zab (eB zbh (eC (.int 90)) (eW 4)) zav)))) (zaI (sIf (tE (eB oLt (eB zbh (eC (.int 10)) (eW 4)) (eU zdh (eW 2)))) (zbj 5 (eB oIx (eW 2) (eB zbh (eC (.int 10)) (eW 4)))) zbn) (zaI (zbj 6 (zar zaC (zab (eV 0) (zab (eV 1) (zab (eV 3) (zab (eV 4) zav)))))) zlP)))) (zbS (eV 3)))):=rfl
theorem zlO {rows : Rows} {C : Nat} (H : Hall rows C) {ns : List Int} (hb : Bd ns) {gs : List G} (h6 : gs.length ≤ 6) : ∃ xs : List GO, xs.map (·.1) = gs ∧ Good rows xs ∧ zcE [.lst (gs.map fun g => .lst ((places rows C g).map encP)), .tup (gs.map zbT), .lst (ns.map .int)] = .ok (za0 xs) := by
 rw [zic]
 have hl6:gs.length≤16777216:=by lia
 have : Ok (zcL (zc1 [v (.lst (gs.map fun g => .lst ((places rows C g).map encP))), v (.tup (gs.map zbT)), v (.lst (ns.map .int)), none, none, none, none])) fun d => ∃ xs : List GO, xs.map (·.1) = gs ∧ Good rows xs ∧ d = za0 xs := by
  refine zeB ?_
  simp [zsv,zbC,line,zcJ,zbP,hl6]
  refine zbQ zbT (fun _=>true) (fun _=>.non) (fun x hx=>by simp) ?_
  rw [zeR]
  refine zcQ (fun i ρ=>∃ (xs:List GO) (x4 x5 x6:Option L),xs.map (·.1)=gs∧Good rows xs∧ρ=[v (.lst (gs.map fun g=>.lst ((places rows C g).map encP))),v (.tup (gs.map zbT)),v (.lst (ns.map .int)),v (za0 xs),x4,x5,x6]) ⟨gs.map fun g=>(g,none),none,none,none,(by rw [List.map_map];exact List.map_id gs),?_,?_⟩ ?_ ?_
  ·intro i g p e
   rw [List.getElem?_map] at e
   cases q:gs[i]?<;>rw [q] at e<;>simp at e
  ·simp [za0,List.map_map]
  ·rintro k d ρ hk ⟨xs,x4,x5,x6,hxs,hgood,rfl⟩
   obtain ⟨hk',rfl⟩:=ints_get hk
   have hxl:xs.length=gs.length:=by rw [←hxs,List.length_map]
   obtain ⟨x,ex⟩:∃ x,xs[k]?=some x:=⟨_,List.getElem?_eq_getElem (by lia)⟩
   obtain ⟨c,ec,hc⟩:=zeo hb (k:=1+(k:Int)) (by lia)
   obtain ⟨m,em,hm⟩:=mixed c (k:=90+(k:Int)) (by lia) (by lia)
   have eo:=zhV H (xs:=xs) (by lia) ex
   have es:zbW rows C xs=.lst (gs.map fun g=>.lst ((places rows C g).map encP)):=by rw [zbW,←hxs,List.map_map];rfl
   have eg:za9 xs=.tup (gs.map zbT):=by rw [za9,←hxs,List.map_map];rfl
   rw [es,eg] at eo
   have hopl:(zct rows C xs x.1 k).length≤10000:=Nat.le_trans (List.length_filter_le _ _) (places_len H x.1)
   have hop:∀ p∈zct rows C xs x.1 k,zc3 rows x.1 p=true∧openAt xs x.1 k p=true:=fun p hp=>by
    obtain ⟨h1,h2⟩:=List.mem_filter.mp hp
    exact ⟨zh6 h1,h2⟩
   generalize zct rows C xs x.1 k=op at eo hopl hop
   have fin:∀ cl:Int,Ok (zlP [v (.lst (gs.map fun g=>.lst ((places rows C g).map encP))),v (.tup (gs.map zbT)),v (.lst (ns.map .int)),v (za0 xs),vi (k:Nat),vi cl,v (.lst (op.map encP))]) fun fl=>∃ ys:List GO,ys.map (·.1)=gs∧Good rows ys∧fl=.nx [v (.lst (gs.map fun g=>.lst ((places rows C g).map encP))),v (.tup (gs.map zbT)),v (.lst (ns.map .int)),v (za0 ys),vi (k:Nat),vi cl,v (.lst (op.map encP))]:=by
    intro cl
    cases op with
    | nil =>
     simp [zlP,line,znp]
     exact ⟨xs,hxs,hgood,rfl⟩
    | cons p0 ps =>
     by_cases h5:0 < cl % 5
     ·obtain ⟨z,hz⟩:=zdj (z:=cl / 5 % ((ps.length:Int)+1)) (Int.emod_nonneg _ (by lia))
      have hz2:=Int.emod_lt_of_pos (cl / 5) (show (0:Int) < (ps.length:Int)+1 by lia)
      have hzl:z < (p0 :: ps).length:=by simp;lia
      obtain ⟨p,ep⟩:∃ p,(p0 :: ps)[z]?=some p:=⟨_,List.getElem?_eq_getElem hzl⟩
      have ip:=(zdk (xs:=(p0 :: ps).map encP) (i:=(z:Nat)) (j:=z) rfl (by rw [List.getElem?_map,ep];rfl)).2
      simp only [List.map_cons] at ip
      obtain ⟨f1,f2⟩:=hop p (List.mem_of_getElem? ep)
      have hw:=zlI (ds:=xs.map fun x=>zd0 x.2) (k:=k) (by simp;lia) (by simp;lia) (encP p)
      have hp0:(0:Int) < (ps.length:Int)+1:=by lia
      rw [show D.tup (xs.map fun x=>zd0 x.2)=za0 xs from rfl] at hw
      simp [zlP,line,znp,h5,zau,hp0,hz,ip,hw]
      refine ⟨xs.set k (x.1,some p),?_,hgood.put ex f1 f2,?_⟩
      ·have:=zfr ex (some p)
       rw [List.map_set,hxs]
       refine List.ext_getElem (by simp) fun i h1 h2=>?_
       rw [List.getElem_set]
       split
       ·rename_i e;subst e
        have:gs[k]?=some x.1:=by rw [←hxs,List.getElem?_map,ex];rfl
        rw [List.getElem?_eq_getElem hk'] at this
        exact (Option.some.inj this).symm
       ·rfl
      ·rw [zi9];rfl
     ·simp [zlP,line,znp,h5]
      exact ⟨xs,hxs,hgood,rfl⟩
   by_cases hlt:10+(k:Int) < ns.length
   ·have hj:10+k < ns.length:=by lia
    have e10:=(zdk (xs:=ns.map D.int) (i:=10+(k:Int)) (j:=10+k) (d:=.int ns[10+k]) (by lia) (by simp [hj])).2
    simp [ec,em,hlt,e10,eo]
    refine (fin _).imp ?_
    rintro fl ⟨ys,h1,h2,rfl⟩
    simp only [zhP]
    exact ⟨ys,h1,h2,_,_,_,rfl⟩
   ·simp [ec,em,hlt,eo]
    refine (fin _).imp ?_
    rintro fl ⟨ys,h1,h2,rfl⟩
    simp only [zhP]
    exact ⟨ys,h1,h2,_,_,_,rfl⟩
  ·rintro ρ ⟨xs,x4,x5,x6,hxs,hgood,rfl⟩
   simp
   exact ⟨xs,hxs,hgood,rfl⟩
 obtain ⟨d,e,xs,h1,h2,rfl⟩:=this
 exact ⟨xs,h1,h2,e⟩
end KH
namespace KH
open Z KG
structure GrpP (g:G):Prop extends GrpG g where
 pos:∃ (wt:Int) (ws:List Pl),ws.length≤6∧0≤wt∧(∀ p∈ws,0≤p.2)∧g.worth=.int wt∧g.wishes=.tup (ws.map encP)
theorem zm6 {g:G} (h:GrpP g) (nm:List Nat):GrpP { g with name:=nm }:=⟨renamed h.toGrpG nm,h.pos⟩
theorem zm7 {wl:List Pl} {r m:Int} (h:∀ p∈wl,0≤p.2) (hm:0≤m):∀ a b,(a,b)∈wl++[(r,m)]→0≤b:=by
 intro a b hp
 rcases List.mem_append.mp hp with hp | hp
 ·exact h _ hp
 ·rw [List.mem_singleton] at hp
  cases hp
  exact hm
theorem zom {wl:List Pl} (h:∀ p∈wl,0≤p.2):∀ a b,(a,b)∈wl→0≤b:=fun a b hp=>h _ hp
theorem zm8 (f:D→Bool) (ws:List Int) (hn:∀ x∈ws,0≤x):∀ p∈((zints 0 6).filter f).map (fun d=>match d with | .int r=>(r,1+ws[r.toNat+1]?.getD 0) | d=>((0,0):Pl)),0≤p.2:=by
 intro p hp
 obtain ⟨d,hd,rfl⟩:=List.mem_map.mp hp
 cases d with
 | int r =>
  show 0≤1+ws[r.toNat+1]?.getD 0
  cases e:ws[r.toNat+1]? with
  | none=>simp
  | some x =>
   have:=hn x (List.mem_of_getElem? e)
   show 0≤1+x
   lia
 | _=>exact Int.le_refl _
theorem zo6 (c:Int) (nm:List Nat):∃ g,GrpP g∧zcY [.int c,.str nm]=.ok (zbT g):=by
 have dg:=zfu (ss:=[12,3,27,7,2,64]) ⟨by decide,by decide⟩ c
 obtain ⟨w,hw⟩:=zdj (z:=c % 12) (by first | exact Int.emod_nonneg _ (by decide) | lia)
 obtain ⟨d,hd⟩:=zdj (z:=c / 12 % 3) (by first | exact Int.emod_nonneg _ (by decide) | lia)
 obtain ⟨kd,hkd⟩:=zdj (z:=c / 12 / 3 % 27) (by first | exact Int.emod_nonneg _ (by decide) | lia)
 obtain ⟨gp,hgp⟩:=zdj (z:=c / 12 / 3 / 27 % 7) (by first | exact Int.emod_nonneg _ (by decide) | lia)
 obtain ⟨gr,hgr⟩:=zdj (z:=c / 12 / 3 / 27 / 7 % 2) (by first | exact Int.emod_nonneg _ (by decide) | lia)
 obtain ⟨bt,hbt⟩:=zdj (z:=c / 12 / 3 / 27 / 7 / 2 % 64) (by first | exact Int.emod_nonneg _ (by decide) | lia)
 have ed:zg5 c [12,3,27,7,2,64]=[(w:Int),d,kd,gp,gr,bt]:=by simp only [zg5,hw,hd,hkd,hgp,hgr,hbt]
 rw [ed] at dg
 simp only [List.map_cons,List.map_nil] at dg
 obtain ⟨M,hM,hM2⟩:∃ M:Nat,((w:Int)+1)*((d:Int)+1)=(M:Int)∧M=(w+1)*(d+1):=⟨(w+1)*(d+1),by push_cast;rfl,rfl⟩
 have hM3:M≤36:=by rw [hM2];exact Nat.le_trans (Nat.mul_le_mul (by lia:w+1≤12) (by lia:d+1≤3)) (by decide)
 obtain ⟨wd,hwd⟩:=zdj (z:=c / 870912 % ((M:Int)+1)) (Int.emod_nonneg _ (by lia))
 have hwd2:wd≤M:=by
  have:=Int.emod_lt_of_pos (c / 870912) (show (0:Int) < (M:Int)+1 by lia)
  lia
 have q1:zaY ((w:Int)+1) ((d:Int)+1):=zbg (by lia) (by lia)
 have q2:zem ((M:Int)+1):=zau (by lia) (by lia)
 have q3:(0:Int) < (M:Int)+1:=by lia
 obtain ⟨ss,hss,hs7,ess⟩:∃ ss:List Int,Szs ss∧ss.length=7∧oIx (.lst [.lst [.int 4,.int 3,.int 3,.int 3,.int 3,.int 3,.int 3],.lst [.int 1000000000000000000000000000000000000000000000000000000000000,.int 999999999999999999999999999999999999999999999999999999999999,.int 999999999999999999999999999999999999999999999999999999999999,.int 999999999999999999999999999999999999999999999999999999999999,.int 999999999999999999999999999999999999999999999999999999999999,.int 999999999999999999999999999999999999999999999999999999999999,.int 999999999999999999999999999999999999999999999999999999999999]]) (.int gr)=.ok (.lst (ss.map .int)):=by
  have:gr=0∨gr=1:=by lia
  rcases this with rfl | rfl
  ·exact ⟨[4,3,3,3,3,3,3],⟨by decide,by decide⟩,rfl,rfl⟩
  ·exact ⟨[1000000000000000000000000000000000000000000000000000000000000,999999999999999999999999999999999999999999999999999999999999,999999999999999999999999999999999999999999999999999999999999,999999999999999999999999999999999999999999999999999999999999,999999999999999999999999999999999999999999999999999999999999,999999999999999999999999999999999999999999999999999999999999,999999999999999999999999999999999999999999999999999999999999],⟨by decide,by decide⟩,rfl,rfl⟩
 have dg2:=zfu hss (c / 870912 / ((M:Int)+1))
 have hl7:(zg5 (c / 870912 / ((M:Int)+1)) ss).length=7:=by rw [zgl,hs7]
 have hnn:∀ x∈zg5 (c / 870912 / ((M:Int)+1)) ss,0≤x:=fun x hx=>(zko _ ss _ hss.2 x hx).1
 generalize zg5 (c / 870912 / ((M:Int)+1)) ss=ws at dg2 hl7 hnn
 obtain ⟨kx,hkx,ekx⟩:∃ kx,(kx=[]∨∃ c∈letters,kx=[c])∧oIx (.lst kinds) (.int kd)=.ok (.str kx):=by
  obtain ⟨x,hx,e,_⟩:=zgQ (xs:=kinds) (i:=(kd:Int)) (by lia) (by simp [kinds];lia)
  obtain ⟨k,rfl,hk⟩:=kinds_ok x hx
  exact ⟨k,hk,e⟩
 rw [zlt]
 have:Ok (zcL (zed [v (.int c),v (.str nm),none,none,none,none,none,none,none,none,none,none,none,none])) fun x=>∃ (wt:Int) (wl:List Pl),wl.length≤6∧(0≤wt∧∀ p∈wl,0≤p.2)∧x=zbT ⟨nm,w+1,d+1,kx,wd,gp,.int wt,.tup (wl.map encP)⟩:=by
  refine zeB ?_
  unfold kinds at ekx
  simp [zed,line,zpS,dg,zkV,zeE,zau,q1,hM,q2,q3,hwd,znM,ess,dg2,zbC,zcJ,zbP,ekx]
  obtain ⟨e6,i0⟩:zints 0 6=[.int 0,.int 1,.int 2,.int 3,.int 4,.int 5]∧∃ w0,0≤w0∧oIx (.lst (ws.map .int)) (.int 0)=.ok (.int w0):=⟨rfl,by
   match ws,hl7,hnn with
   | a :: as,_,hnn=>exact ⟨a,hnn a List.mem_cons_self,(zdk (xs:=(a :: as).map D.int) (i:=0) (j:=0) rfl rfl).2⟩⟩
  obtain ⟨w0,hw0,i0⟩:=i0
  refine zmC (fun d=>match d with | .int r=>decide ((bt:Int) / pw2 r.toNat % 2=1) | _=>false) (fun d=>match d with | .int r=>encP (r,1+ws[r.toNat+1]?.getD 0) | d=>d) ?_ ?_
  ·intro d hd
   match ws,hl7 with
   | [a0,a1,a2,a3,a4,a5,a6],_ =>
    rw [e6] at hd
    simp only [List.mem_cons,List.not_mem_nil,or_false] at hd
    have t2:∀ (a b c d e f:D),oIx (.lst [a,b,c,d,e,f]) (.int 0)=.ok a∧oIx (.lst [a,b,c,d,e,f]) (.int 1)=.ok b∧oIx (.lst [a,b,c,d,e,f]) (.int 2)=.ok c∧oIx (.lst [a,b,c,d,e,f]) (.int 3)=.ok d∧oIx (.lst [a,b,c,d,e,f]) (.int 4)=.ok e∧oIx (.lst [a,b,c,d,e,f]) (.int 5)=.ok f:=fun _ _ _ _ _ _=>⟨rfl,rfl,rfl,rfl,rfl,rfl⟩
    have t7:∀ (o a b c d e f:D),oIx (.lst [o,a,b,c,d,e,f]) (.int 1)=.ok a∧oIx (.lst [o,a,b,c,d,e,f]) (.int 2)=.ok b∧oIx (.lst [o,a,b,c,d,e,f]) (.int 3)=.ok c∧oIx (.lst [o,a,b,c,d,e,f]) (.int 4)=.ok d∧oIx (.lst [o,a,b,c,d,e,f]) (.int 5)=.ok e∧oIx (.lst [o,a,b,c,d,e,f]) (.int 6)=.ok f:=fun _ _ _ _ _ _ _=>⟨rfl,rfl,rfl,rfl,rfl,rfl⟩
    rcases hd with rfl | rfl | rfl | rfl | rfl | rfl
    all_goals
     simp [line,zau,t2,t7,pw2]
     rw [Bool.eq_iff_iff];simp
  ·rw [i0]
   simp
   refine ⟨w0,((zints 0 6).filter fun d=>match d with | .int r=>decide ((bt:Int) / pw2 r.toNat % 2=1) | _=>false).map (fun d=>match d with | .int r=>(r,1+ws[r.toNat+1]?.getD 0) | d=>(0,0)),?_,⟨hw0,fun a b hp=>zm8 _ _ hnn (a,b) hp⟩,?_⟩
   ·rw [List.length_map]
    refine Nat.le_trans (List.length_filter_le _ _) ?_
    rw [zeh];decide
   ·have:∀ ds:List D,(∀ d∈ds,∃ r,d=.int r)→ds.map (fun d=>match d with | .int r=>encP (r,1+ws[r.toNat+1]?.getD 0) | d=>d)=(ds.map (fun d=>match d with | .int r=>(r,1+ws[r.toNat+1]?.getD 0) | d=>((0,0):Pl))).map encP:=by
     intro ds h
     rw [List.map_map]
     refine List.map_congr_left fun d hd=>?_
     obtain ⟨r,rfl⟩:=h d hd
     rfl
    rw [this _ (fun d hd=>by
     obtain ⟨j,hj⟩:=List.getElem?_of_mem (List.mem_filter.mp hd).1
     obtain ⟨_,rfl⟩:=ints_get hj
     exact ⟨_,rfl⟩)]
    simp [zbT]
 obtain ⟨x,e,wt,ws,hws,⟨hp0,hp1⟩,rfl⟩:=this
 exact ⟨_,⟨zqW (by show 1≤w+1;lia) (by show w+1≤12;lia) (by show 1≤d+1;lia) (by show d+1≤3;lia) hkx (by show wd≤(w+1)*(d+1);lia) (by show gp≤6;lia) ⟨wt,ws,hws,rfl,rfl⟩,wt,ws,hws,hp0,hp1,rfl,rfl⟩,e⟩
theorem zmi (z : Int) (nm : List Nat) {a b : Nat} (ha : a ∈ letters) (hb : b ∈ letters) (gr : Bool) : ∃ g, GrpP g ∧ zbY [.int z, .str nm, .str [a, b], .bl gr] = .ok (zbT g) := by
 obtain ⟨w,hw⟩:=zdj (z:=1+z % 3) (by first | exact Int.emod_nonneg _ (by decide) | lia)
 have i0:oIx (.str [a,b]) (.int 0)=.ok (.str [a]):=zh7 (j:=0) rfl rfl (by simp [line])
 have i1:oIx (.str [a,b]) (.int 1)=.ok (.str [b]):=zh7 (j:=1) rfl rfl (by simp [line])
 rw [zi6]
 have:Ok (zcL (zdf [v (.int z),v (.str nm),v (.str [a,b]),v (.bl gr),none,none,none,none,none,none,none,none])) fun x=>∃ g,GrpP g∧x=zbT g:=by
  refine zeB ?_
  simp [zdf,zau,hw,line,i0,i1]
  refine zgR (by first | exact Int.emod_nonneg _ (by decide) | lia) (by first | exact Int.emod_lt_of_pos _ (by decide) | (simp;lia)) ?_
  intro x hx
  obtain ⟨d,rfl,d1,d2⟩:∃ d:Nat,x=.int d∧1≤d∧d≤3:=by
   simp at hx
   rcases hx with rfl | rfl
   ·exact ⟨1,rfl,by decide,by decide⟩
   ·exact ⟨2,rfl,by decide,by decide⟩
  refine zgR (by first | exact Int.emod_nonneg _ (by decide) | lia) (by first | exact Int.emod_lt_of_pos _ (by decide) | (simp;lia)) ?_
  intro x hx
  obtain ⟨kd,rfl,hkd⟩:∃ kd,x=.str kd∧(kd=[]∨∃ c∈letters,kd=[c]):=by
   simp at hx
   rcases hx with rfl | rfl | rfl
   ·exact ⟨[],rfl,.inl rfl⟩
   ·exact ⟨_,rfl,.inr ⟨_,ha,rfl⟩⟩
   ·exact ⟨_,rfl,.inr ⟨_,hb,rfl⟩⟩
  refine zgR (by first | exact Int.emod_nonneg _ (by decide) | lia) (by first | exact Int.emod_lt_of_pos _ (by decide) | (simp;lia)) ?_
  intro x hx
  obtain ⟨wd,rfl,hwd⟩:∃ wd:Nat,x=.int wd∧wd≤1:=by
   simp at hx
   rcases hx with rfl | rfl
   ·exact ⟨0,rfl,by decide⟩
   ·exact ⟨1,rfl,by decide⟩
  have hwd2:wd≤w*d:=Nat.le_trans hwd (Nat.mul_le_mul (show 1≤w by lia) d1)
  have fin:∀ (wt mr:Int),0≤mr→Ok (zfp (gName 11) (sIf (tE (eB oEq (eB oMod (eB oDiv (eW 0) (eB oIx (eL (zbp (zab (eC (.int 9216)) (zab (eC (.int 27648)) (zab (eC (.int 82944)) (zab (eC (.int 248832)) zav)))))) (eW 11))) (eC (.int 3))) (eC (.int 1)))) (zco 10 (zd1 (zab (eV 11) (zab (eB zbh (eW 9) (eB zf7 (eW 11) (eU znR (eW 3)))) zav)))) zbn) (zints 0 4) [v (.int z),v (.str nm),v (.str [a,b]),v (.bl gr),vi w,vi d,vs kd,vi wd,vi wt,vi mr,ow [],none]) fun fl=>∃ (wl:List Pl) (x:Option L),wl.length≤4∧(∀ p∈wl,0≤p.2)∧fl=.nx [v (.int z),v (.str nm),v (.str [a,b]),v (.bl gr),vi w,vi d,vs kd,vi wd,vi wt,vi mr,ow (wl.map encP),x]:=by
   intro wt mr hmr
   refine zcQ (fun i ρ=>∃ (wl:List Pl) (x:Option L),wl.length≤i∧(∀ p∈wl,0≤p.2)∧ρ=[v (.int z),v (.str nm),v (.str [a,b]),v (.bl gr),vi w,vi d,vs kd,vi wd,vi wt,vi mr,ow (wl.map encP),x]) ⟨[],none,Nat.zero_le _,by simp,rfl⟩ ?_ ?_
   ·rintro j y ρ hj ⟨wl,x,hl,hw,rfl⟩
    obtain ⟨hj',rfl⟩:=ints_get hj
    obtain ⟨n,hn0,hn⟩:∃ n:Int,(0 < n∧n < 1000000)∧oIx (.lst [.int 9216,.int 27648,.int 82944,.int 248832]) (.int (0+(j:Nat)))=.ok (.int n):=by
     match j,hj' with
     | 0,_=>exact ⟨9216,by decide,rfl⟩
     | 1,_=>exact ⟨27648,by decide,rfl⟩
     | 2,_=>exact ⟨82944,by decide,rfl⟩
     | 3,_=>exact ⟨248832,by decide,rfl⟩
    rw [Int.zero_add] at hn
    have hd:=zau hn0.1 (by lia)
    have q1:∀ x:Int,zaY (j:Int) x:=fun x=>zbg (by lia) (by lia)
    have hll:wl.length < 16777216:=by lia
    by_cases h:z / n % 3=1
    ·cases gr <;>
     ·simp [line,hn,hd,h,q1,hll,znR]
      refine ⟨wl++[(_,_)],by simp;lia,?_,by simp;rfl⟩
      exact zm7 hw (by lia)
    ·simp [line,hn,hd,h]
     exact ⟨wl,by lia,zom hw,rfl⟩
   ·rintro ρ ⟨wl,x,hl,hw,rfl⟩
    exact ⟨wl,x,by simpa using hl,hw,rfl⟩
  have hgp:∃ gp:Nat,gp≤6∧oIx (.lst [.int 0,.int 0,.int 1,.int 2]) (.int (z / 192 % 4))=.ok (.int gp):=by
   obtain ⟨x,hx,e,_⟩:=zgQ (xs:=[D.int 0,.int 0,.int 1,.int 2]) (i:=z / 192 % 4) (by lia) (by simp;lia)
   simp at hx
   rcases hx with rfl | rfl | rfl
   ·exact ⟨0,by decide,e⟩
   ·exact ⟨1,by decide,e⟩
   ·exact ⟨2,by decide,e⟩
  obtain ⟨gp,hgp6,egp⟩:=hgp
  cases gr
  ·simp
   refine (fin _ _ (by first | exact Int.emod_nonneg _ (by decide) | lia)).imp ?_
   rintro fl ⟨wl,x,hl,hw,rfl⟩
   simp [zau,egp,line]
   exact ⟨⟨nm,w,d,kd,wd,gp,_,_⟩,⟨zqW (by show 1≤w;lia) (by show w≤12;lia) d1 d2 hkd hwd2 hgp6 ⟨_,wl,by lia,rfl,rfl⟩,_,wl,by lia,(by first | exact Int.emod_nonneg _ (by decide) | lia),hw,rfl,rfl⟩,rfl⟩
  ·simp
   refine (fin _ _ (by first | exact Int.emod_nonneg _ (by decide) | lia)).imp ?_
   rintro fl ⟨wl,x,hl,hw,rfl⟩
   simp [zau,egp,line]
   exact ⟨⟨nm,w,d,kd,wd,gp,_,_⟩,⟨zqW (by show 1≤w;lia) (by show w≤12;lia) d1 d2 hkd hwd2 hgp6 ⟨_,wl,by lia,rfl,rfl⟩,_,wl,by lia,(by first | exact Int.emod_nonneg _ (by decide) | lia),hw,rfl,rfl⟩,rfl⟩
 obtain ⟨x,e,g,hg,rfl⟩:=this
 exact ⟨g,hg,e⟩
theorem zlq {ns : List Int} (hb : Bd ns) {a b : Nat} (ha : a ∈ letters) (hlb : b ∈ letters) : ∃ gs : List G, gs.length ≤ 6 ∧ (∀ g ∈ gs, GrpP g) ∧ zcF [.lst (ns.map .int), .str [a], .str [b]] = .ok (.tup (gs.map zbT)) := by
 obtain ⟨c2,ec2,_⟩:=zeo hb (k:=2) (by decide)
 obtain ⟨c3,ec3,_⟩:=zeo hb (k:=3) (by decide)
 have dg:=zfu (ss:=[4,7,4,4]) ⟨by decide,by decide⟩ c2
 obtain ⟨wy,hwy⟩:=zdj (z:=c2 % 4) (by first | exact Int.emod_nonneg _ (by decide) | lia)
 obtain ⟨mn,hmn⟩:=zdj (z:=c2 / 4 % 7) (by first | exact Int.emod_nonneg _ (by decide) | lia)
 obtain ⟨gr,hgr⟩:=zdj (z:=c2 / 4 / 7 % 4) (by first | exact Int.emod_nonneg _ (by decide) | lia)
 obtain ⟨tw,htw⟩:=zdj (z:=c2 / 4 / 7 / 4 % 4) (by first | exact Int.emod_nonneg _ (by decide) | lia)
 have ed:zg5 c2 [4,7,4,4]=[(wy:Int),mn,gr,tw]:=by simp only [zg5,hwy,hmn,hgr,htw]
 rw [ed] at dg
 simp only [List.map_cons,List.map_nil] at dg
 rw [zie]
 have : Ok (zcL (zc2 [v (.lst (ns.map .int)), v (.str [a]), v (.str [b]), none, none, none, none, none, none, none, none])) fun x => ∃ gs : List G, gs.length ≤ 6 ∧ (∀ g ∈ gs, GrpP g) ∧ x = .tup (gs.map zbT) := by
  refine zeB ?_
  simp [zsw,ec2,dg,line,zkV,zeE]
  refine zcQ (fun i ρ=>∃ (gs:List G) (x y z:Option L),gs.length=i∧(∀ g∈gs,GrpP g)∧ρ=[v (.lst (ns.map .int)),v (.str [a]),v (.str [b]),vi wy,vi mn,vi gr,vi tw,ow (gs.map zbT),x,y,z]) ⟨[],none,none,none,rfl,fun g h=>absurd h List.not_mem_nil,rfl⟩ ?_ ?_
  ·rintro j d ρ hj ⟨gs,x,y,z,hl,hg,rfl⟩
   obtain ⟨hj',rfl⟩:=ints_get hj
   obtain ⟨nm,en⟩:=zoC c3 (k:=(j:Int)) (by lia) (by lia)
   obtain ⟨c,ec,hc⟩:=zeo hb (k:=4+(j:Int)) (by lia)
   obtain ⟨m2,em2,a1,a2⟩:=znU c2 (k:=(j:Int)) (by lia) (by lia)
   obtain ⟨m3,em3,a3,a4⟩:=znU c3 (k:=(j:Int)) (by lia) (by lia)
   have q1:zaY m2 m3:=zbg (by lia) (by lia)
   have hll:gs.length < 16777216:=by lia
   have fin:∀ cl:Int,Ok (zm0 [v (.lst (ns.map .int)),v (.str [a]),v (.str [b]),vi wy,vi mn,vi gr,vi tw,ow (gs.map zbT),vi (j:Nat),vs nm,vi cl]) fun fl=>∃ g,GrpP g∧fl=.nx [v (.lst (ns.map .int)),v (.str [a]),v (.str [b]),vi wy,vi mn,vi gr,vi tw,ow ((gs++[g]).map zbT),vi (j:Nat),vs nm,vi cl]:=by
    intro cl
    by_cases ht:(tw:Int)=1∧0 < (j:Int)∧0 < cl % 3
    ·obtain ⟨t1,t2,t3⟩:=ht
     have t1':tw=1:=by lia
     have t2':0 < j:=by lia
     match gs,hl,hg with
     | [],h,_=>simp at h;lia
     | g0 :: gr',h,hg =>
      have i0:oIx (.lst ((g0 :: gr').map zbT)) (.int 0)=.ok (zbT g0):=(zdk (xs:=(g0 :: gr').map zbT) (i:=0) (j:=0) rfl rfl).2
      simp only [List.map_cons] at i0
      have hll':gr'.length < 16777215:=by simp at hll;lia
      simp [zm0,t1',t2',t3,i0,zj8 g0 nm,line,hll']
      refine ⟨by lia,{ g0 with name:=nm },zm6 (hg g0 List.mem_cons_self) nm,rfl⟩
    ·have hf:Ok (tAnd (tE (eB oEq (eW 6) (eC (.int 1)))) (tAnd (tE (eB oGt (eW 8) (eC (.int 0)))) (tE (eB oGt (eB oMod (eW 10) (eC (.int 3))) (eC (.int 0))))) [v (.lst (ns.map .int)),v (.str [a]),v (.str [b]),vi wy,vi mn,vi gr,vi tw,ow (gs.map zbT),vi (j:Nat),vs nm,vi cl]) fun c=>c=false:=by
      by_cases t1:tw=1
      ·by_cases t2:0 < j
       ·have t3:¬ 0 < cl % 3:=fun z=>ht ⟨by lia,by lia,z⟩
        simp [t1,t2,t3]
       ·simp [t1,t2]
      ·have t1':¬ (tw:Int)=1:=by lia
       simp [t1']
     unfold zm0
     rw [zrr,hf.eq]
     simp only [Res.ok_bind]
     by_cases hy:wy % 2=1
     ·obtain ⟨g,hgg,eg⟩:=zo6 cl nm
      have hy':((wy:Int) % 2==1)=true:=by simp;lia
      simp [hy',eg,line,hll]
      exact ⟨g,hgg,rfl⟩
     ·obtain ⟨g,hgg,eg⟩:=zmi (cl % 100000000000000000000000000000000000000000000000000) nm ha hlb ((gr:Int)==1)
      have hy':((wy:Int) % 2==1)=false:=by simp;lia
      simp [hy',eg,line,hll]
      exact ⟨g,hgg,rfl⟩
   by_cases hge:(ns.length:Int)≤4+(j:Int)
   ·simp [ec3,en,ec,hge,ec2,em2,em3,q1]
    refine (fin _).imp ?_
    rintro fl ⟨g,hgg,rfl⟩
    simp only [zhP]
    exact ⟨gs++[g],by simp [hl],fun x hx=>(List.mem_append.mp hx).elim (hg x) (fun h=>by rw [List.mem_singleton.mp h];exact hgg),_,_,_,rfl⟩
   ·simp [ec3,en,ec,hge]
    refine (fin _).imp ?_
    rintro fl ⟨g,hgg,rfl⟩
    simp only [zhP]
    exact ⟨gs++[g],by simp [hl],fun x hx=>(List.mem_append.mp hx).elim (hg x) (fun h=>by rw [List.mem_singleton.mp h];exact hgg),_,_,_,rfl⟩
  ·rintro ρ ⟨gs,x,y,z,hl,hg,rfl⟩
   rw [zeh] at hl
   simp
   exact ⟨gs,by lia,hg,rfl⟩
 obtain ⟨x,e,gs,h1,h2,rfl⟩:=this
 exact ⟨gs,h1,h2,e⟩
end KH
set_option maxRecDepth 4000
noncomputable section
namespace K64
open Z KG KH
noncomputable def zee:SF:=(zbS (zmp (eU (zfH .int) (eW 0)) (zq0 (eU (zfH .bool) (eW 0)))))
noncomputable def zcX:List D→Res D:=fn 1 1 zee
theorem zj7 (x0:D):zcX [x0]=zcL (zee [some (.val x0)]):=zdv _ _ _ _ rfl
noncomputable def zba:SF:=(zbS (zmp (zar zcX (zab (eV 0) zav)) (zeS oLe oLe (eW 1) (eW 0) (eW 2))))
noncomputable def za7:List D→Res D:=fn 3 3 zba
theorem zfq (x0 x1 x2:D):za7 [x0,x1,x2]=zcL (zba [some (.val x0),some (.val x1),some (.val x2)]):=zdv _ _ _ _ rfl
noncomputable def zd4:SF:=(zbS (eB zbh (eB oIx (eW 0) (eC (.int 6))) (eU zpa (eL (zcu (zfK (eB oIx (eW 0) (eC (.int 7)))) 1 [1] (gName 0) (tE (eB oEq (eB oIx (eW 0) (eC (.int 0))) (eW 1))) (eB oIx (eW 0) (eC (.int 1))))))))
noncomputable def zbL:List D→Res D:=fn 2 2 zd4
theorem zjV (x0 x1:D):zbL [x0,x1]=zcL (zd4 [some (.val x0),some (.val x1)]):=zdv _ _ _ _ rfl
noncomputable def zd3:SF:=(zbS (eU zpa (eL (zcu (zfK (zar KG.zat (zab (eV 0) (zab (eV 1) zav)))) 2 [] (gTup [0,1]) zdA (zar zbL (zab (eV 0) (zab (eB oIx (eW 1) (eC (.int 0))) zav)))))))
noncomputable def zcw:List D→Res D:=fn 2 2 zd3
theorem zjU (x0 x1:D):zcw [x0,x1]=zcL (zd3 [some (.val x0),some (.val x1)]):=zdv _ _ _ _ rfl
noncomputable def zcU:SF:=(zaI (zbj 3 (eIf (tE (eU ziR (eW 2))) (eB zl2 (zd1 (zab (eC .non) zav)) (eU zdh (eW 1))) (eV 2))) (zaI (sIf (tNot (tE (zar KG.zdM (zab (eV 0) (zab (eV 1) (zab (eV 3) zav)))))) zmT zbn) (zbS (eV 3))))
noncomputable def zbB:List D→Res D:=fn 3 4 zcU
theorem zgX (x0 x1 x2:D):zbB [x0,x1,x2]=zcL (zcU [some (.val x0),some (.val x1),some (.val x2),none]):=zdv _ _ _ _ rfl
noncomputable def zdp:SF:=(zbS (eL (zcu (zfK (eW 1)) 1 [0] (gName 0) zdA (zar KG.zcx (zab (eV 1) (zab (eV 0) zav))))))
noncomputable def zb3:List D→Res D:=fn 2 2 zdp
theorem zih (x0 x1:D):zb3 [x0,x1]=zcL (zdp [some (.val x0),some (.val x1)]):=zdv _ _ _ _ rfl
noncomputable def zd5:SF:=(zbS (zar KH.zb1 (zab (eB oIx (eW 1) (eW 3)) (zab (eB oIx (eW 0) (eW 3)) (zab (zar KG.zat (zab (eV 0) (zab (eV 2) zav))) zav)))))
noncomputable def zbM:List D→Res D:=fn 4 4 zd5
theorem zjW (x0 x1 x2 x3:D):zbM [x0,x1,x2,x3]=zcL (zd5 [some (.val x0),some (.val x1),some (.val x2),some (.val x3)]):=zdv _ _ _ _ rfl
noncomputable def zbZ:SF:=(zbS (zmp (zar za7 (zab (eV 1) (zab (eC (.int 0)) (zab (eB znf (eU zdh (eW 0)) (eC (.int 1))) zav)))) (eU ziR (eB oIx (eW 0) (eW 1)))))
noncomputable def zb2:List D→Res D:=fn 2 2 zbZ
theorem zig (x0 x1:D):zb2 [x0,x1]=zcL (zbZ [some (.val x0),some (.val x1)]):=zdv _ _ _ _ rfl
noncomputable def zbs:SF:=(zaI (sIf (tOr (tNot (tE (eU (zfH .tuple) (eW 0)))) (tE (eB oNe (eU zdh (eW 0)) (eW 2)))) (zbS (eC (.bl false))) zbn) (zbS (zmp (eU (zfH .str) (eB oIx (eW 0) (eC (.int 0)))) (eB oEq (eB oIx (eW 0) (eC (.int 0))) (eW 1)))))
noncomputable def zaP:List D→Res D:=fn 3 3 zbs
theorem zhj (x0 x1 x2:D):zaP [x0,x1,x2]=zcL (zbs [some (.val x0),some (.val x1),some (.val x2)]):=zdv _ _ _ _ rfl
noncomputable def zdH:SF:=(zbS (zmp (zar zaP (zab (eV 0) (zab (eC (.str [101,97,99,104])) (zab (eC (.int 3)) zav)))) (eU (zfH .tuple) (eB oIx (eW 0) (eC (.int 2))))))
noncomputable def zdd:List D→Res D:=fn 1 1 zdH
theorem zlu (x0:D):zdd [x0]=zcL (zdH [some (.val x0)]):=zdv _ _ _ _ rfl
noncomputable def zcB:SF:=(zbS (eL (zcu (iRng1 (eU zdh (eW 0))) 1 [0,1] (gName 0) (tAnd (tE (eU ziR (eB oIx (eW 1) (eW 0)))) (tE (eB zdL (eW 0) (eW 2)))) (eV 0))))
noncomputable def zbo:List D→Res D:=fn 2 2 zcB
theorem zgf (x0 x1:D):zbo [x0,x1]=zcL (zcB [some (.val x0),some (.val x1)]):=zdv _ _ _ _ rfl
noncomputable def zdF:SF:=(zaI (zbj 4 (zar zcw (zab (eV 0) (zab (eV 2) zav)))) (zaI (zfE (zfK (zar zbo (zab (eV 2) (zab (eV 3) zav)))) (gName 5) (zaI (zbj 6 (eL (zcu (zfK (zar zbM (zab (eV 0) (zab (eV 1) (zab (eV 2) (zab (eV 5) zav)))))) 1 [0,5] (gName 0) zdA (zar zbL (zab (eB oIx (eW 1) (eW 2)) (zab (eB oIx (eW 0) (eC (.int 0))) zav)))))) (zbj 4 (eB zl6 (eV 4) (eB zjK (eW 6) (eC (.int 0))))))) (zbS (eV 4))))
noncomputable def zbX:List D→Res D:=fn 4 7 zdF
theorem zi4 (x0 x1 x2 x3:D):zbX [x0,x1,x2,x3]=zcL (zdF [some (.val x0),some (.val x1),some (.val x2),some (.val x3),none,none,none]):=zdv _ _ _ _ rfl
noncomputable def zaA (self:List D→Res D):SF:=(zaI (sIf (tE (zar zaP (zab (eV 5) (zab (eC (.str [101,110,100])) (zab (eC (.int 1)) zav))))) (zbS (eB oLe (zar zbX (zab (eV 0) (zab (eV 1) (zab (eV 3) (zab (eV 4) zav))))) (eW 2))) zbn) (zaI (sIf (tOr (tNot (tE (zar zdd (zab (eV 5) zav)))) (tOr (tNot (tE (zar zb2 (zab (eV 3) (zab (eB oIx (eW 5) (eC (.int 1))) zav))))) (tE (eB oIn (eB oIx (eW 5) (eC (.int 1))) (eW 4))))) (zbS (eC (.bl false))) zbn) (zaI (zbj 6 (eB oIx (eW 5) (eC (.int 1)))) (zaI (zbj 7 (zar zbM (zab (eV 0) (zab (eV 1) (zab (eV 3) (zab (eV 6) zav)))))) (zaI (sIf (tE (eB oNe (eU zdh (eB oIx (eW 5) (eC (.int 2)))) (eB zbh (eU zdh (eW 7)) (eC (.int 1))))) (zbS (eC (.bl false))) zbn) (zaI (zfE (zoP (eV 7) (eB oIx (eW 5) (eC (.int 2)))) (gTup [8,9]) (sIf (tNot (tE (zar self (zab (eV 0) (zab (eV 1) (zab (eV 2) (zab (zar KH.zbD (zab (eV 3) (zab (eV 6) (zab (eV 8) zav)))) (zab (eV 4) (zab (eV 9) zav))))))))) (zbS (eC (.bl false))) zbn)) (zbS (zar self (zab (eV 0) (zab (eV 1) (zab (eV 2) (zab (eV 3) (zab (eB zbh (eW 4) (zd1 (zab (eV 6) zav))) (zab (eB oIx (eB oIx (eW 5) (eC (.int 2))) (eU zni (eC (.int 1)))) zav))))))))))))))
noncomputable def zaJ:Nat→List D→Res D
 | 0=>fun _=>.bad
 | k+1=>fn 6 10 (zaA (zaJ k))
theorem zgg (k:Nat) (x0 x1 x2 x3 x4 x5:D):zaJ (k+1) [x0,x1,x2,x3,x4,x5]=zcL (zaA (zaJ k) [some (.val x0),some (.val x1),some (.val x2),some (.val x3),some (.val x4),some (.val x5),none,none,none,none]):=zdv _ _ _ _ rfl
noncomputable def zfy:SF:=(zaI (zbj 5 (zar zbB (zab (eV 0) (zab (eV 1) (zab (eV 4) zav))))) (zbS (zar (zaJ 9) (zab (eV 1) (zab (zar zb3 (zab (eV 0) (zab (eV 1) zav))) (zab (eV 2) (zab (eV 5) (zab (zd1 zav) (zab (eV 3) zav)))))))))
noncomputable def zdB:List D→Res D:=fn 5 6 zfy
theorem zmm (x0 x1 x2 x3 x4:D):zdB [x0,x1,x2,x3,x4]=zcL (zfy [some (.val x0),some (.val x1),some (.val x2),some (.val x3),some (.val x4),none]):=zdv _ _ _ _ rfl
noncomputable def zcS:SF:=(zaI (zbj 2 (eB oIx (eW 0) (eC (.int 6)))) (zaI (zfE (zfK (eB oIx (eW 0) (eC (.int 7)))) (gTup [3,4]) (sIf (tE (eB oEq (eW 3) (eW 1))) (zbj 2 (eB zbh (eW 2) (eW 4))) zbn)) (zbS (eV 2))))
noncomputable def zaW:List D→Res D:=fn 2 5 zcS
theorem zgV (x0 x1:D):zaW [x0,x1]=zcL (zcS [some (.val x0),some (.val x1),none,none,none]):=zdv _ _ _ _ rfl
noncomputable def zdG:SF:=(zaI (zbj 2 (eC (.int 0))) (zaI (zfE (zoP (eV 0) (eV 1)) (gTup [3,4]) (sIf (tE (eU ze1 (eW 4))) (zbj 2 (eB zbh (eW 2) (zar zaW (zab (eV 3) (zab (eB oIx (eW 4) (eC (.int 0))) zav))))) zbn)) (zbS (eV 2))))
noncomputable def zcy:List D→Res D:=fn 2 5 zdG
theorem zi5 (x0 x1:D):zcy [x0,x1]=zcL (zdG [some (.val x0),some (.val x1),none,none,none]):=zdv _ _ _ _ rfl
noncomputable def zcT:SF:=(zaI (zbj 4 (zar zcy (zab (eV 1) (zab (eV 2) zav)))) (zaI (zfE (iRng1 (eU zdh (eW 1))) (gName 5) (sIf (tAnd (tE (eU ziR (eB oIx (eW 2) (eW 5)))) (tE (eB zdL (eW 5) (eW 3)))) (zaI (zbj 6 (eL (zcu (zfK (zar KH.zaC (zab (eV 0) (zab (eV 1) (zab (eV 2) (zab (eV 5) zav)))))) 1 [1,5] (gName 0) zdA (zar zaW (zab (eB oIx (eW 1) (eW 2)) (zab (eB oIx (eW 0) (eC (.int 0))) zav)))))) (zbj 4 (eB zbh (eW 4) (eU ziQ (eL (zme (eL (zbp (zab (eC (.int 0)) zav))) (eW 6))))))) zbn)) (zbS (eV 4))))
noncomputable def za6:List D→Res D:=fn 4 7 zcT
theorem zgW (x0 x1 x2 x3:D):za6 [x0,x1,x2,x3]=zcL (zcT [some (.val x0),some (.val x1),some (.val x2),some (.val x3),none,none,none]):=zdv _ _ _ _ rfl
noncomputable def zaw (self:List D→Res D):SF:=(zaI (sIf (tOr (tNot (tE (eU (zfH .tuple) (eW 3)))) (tE (eB zdL (eU zdh (eW 3)) (zd1 (zab (eC (.int 1)) (zab (eC (.int 3)) zav)))))) (zbS (eC (.bl false))) zbn) (zaI (sIf (tE (eB oEq (eU zdh (eW 3)) (eC (.int 1)))) (zbS (zmp (eB oEq (eB oIx (eW 3) (eC (.int 0))) (eC (.str [101,110,100]))) (eB oLe (zar za6 (zab (eV 0) (zab (eV 1) (zab (eV 4) (zab (eV 5) zav))))) (eW 2)))) zbn) (zaI (zbj 6 (eB oIx (eW 3) (eC (.int 1)))) (zaI (sIf (tOr (tE (eB oNe (eB oIx (eW 3) (eC (.int 0))) (eC (.str [101,97,99,104])))) (tOr (tNot (tE (eU (zfH .int) (eW 6)))) (tOr (tE (eU (zfH .bool) (eW 6))) (tNot (tE (zeS oLe oLt (eC (.int 0)) (eW 6) (eU zdh (eW 1)))))))) (zbS (eC (.bl false))) zbn) (zaI (sIf (tOr (tE (eU ze1 (eB oIx (eW 4) (eW 6)))) (tOr (tE (eB oIn (eW 6) (eW 5))) (tNot (tE (eU (zfH .tuple) (eB oIx (eW 3) (eC (.int 2)))))))) (zbS (eC (.bl false))) zbn) (zaI (zbj 7 (zar KH.zaC (zab (eV 0) (zab (eV 1) (zab (eV 4) (zab (eV 6) zav)))))) (zaI (sIf (tE (eB oNe (eU zdh (eB oIx (eW 3) (eC (.int 2)))) (eB zbh (eU zdh (eW 7)) (eC (.int 1))))) (zbS (eC (.bl false))) zbn) (zaI (zfE (zoP (eV 7) (eB oIx (eW 3) (eC (.int 2)))) (gTup [8,9]) (sIf (tNot (tE (zar self (zab (eV 0) (zab (eV 1) (zab (eV 2) (zab (eV 9) (zab (zar KH.zaZ (zab (eV 4) (zab (eV 6) (zab (eV 8) zav)))) (zab (eV 5) zav))))))))) (zbS (eC (.bl false))) zbn)) (zbS (zar self (zab (eV 0) (zab (eV 1) (zab (eV 2) (zab (eB oIx (eB oIx (eW 3) (eC (.int 2))) (eU zni (eC (.int 1)))) (zab (eV 4) (zab (eL (zme (eW 5) (eL (zbp (zab (eV 6) zav))))) zav))))))))))))))))
noncomputable def zaX:Nat→List D→Res D
 | 0=>fun _=>.bad
 | k+1=>fn 6 10 (zaw (zaX k))
theorem zhi (k:Nat) (x0 x1 x2 x3 x4 x5:D):zaX (k+1) [x0,x1,x2,x3,x4,x5]=zcL (zaw (zaX k) [some (.val x0),some (.val x1),some (.val x2),some (.val x3),some (.val x4),some (.val x5),none,none,none,none]):=zdv _ _ _ _ rfl
noncomputable def zd8 (self:List D→Res D):SF:=(zaI (zbj 5 (eL (zcu (iRng1 (eU zdh (eW 1))) 1 [2,3] (gName 0) (tAnd (tE (eU ziR (eB oIx (eW 1) (eW 0)))) (tE (eB zdL (eW 0) (eW 2)))) (eV 0)))) (zaI (sIf (tOr (tE (eB oEq (eW 5) (eL (zbp zav)))) (tE (eB oEq (eB oMod (eW 4) (eC (.int 4))) (eC (.int 3))))) (zbS (zd1 (zab (eC (.str [101,110,100])) zav))) zbn) (zaI (zbj 6 (eB oIx (eW 5) (eB oMod (eB oDiv (eW 4) (eC (.int 4))) (eU zdh (eW 5))))) (zaI (zbj 4 (eB zbh (eB oDiv (eW 4) (eC (.int 11))) (eC (.int 1)))) (zaI (zjn 7 (zbp zav)) (zaI (zfE (zfK (zar KH.zaC (zab (eV 0) (zab (eV 1) (zab (eV 2) (zab (eV 6) zav)))))) (gName 8) (zco 7 (zar self (zab (eV 0) (zab (eV 1) (zab (zar KH.zaZ (zab (eV 2) (zab (eV 6) (zab (eV 8) zav)))) (zab (eV 3) (zab (eV 4) zav)))))))) (zbS (zd1 (zab (eC (.str [101,97,99,104])) (zab (eV 6) (zab (eB zbh (eU zc6 (eW 7)) (zd1 (zab (zar self (zab (eV 0) (zab (eV 1) (zab (eV 2) (zab (eL (zme (eW 3) (eL (zbp (zab (eV 6) zav))))) (zab (eV 4) zav)))))) zav))) zav)))))))))))
noncomputable def zbN:Nat→List D→Res D
 | 0=>fun _=>.bad
 | k+1=>fn 5 9 (zd8 (zbN k))
theorem zjZ (k:Nat) (x0 x1 x2 x3 x4:D):zbN (k+1) [x0,x1,x2,x3,x4]=zcL (zd8 (zbN k) [some (.val x0),some (.val x1),some (.val x2),some (.val x3),some (.val x4),none,none,none,none]):=zdv _ _ _ _ rfl
noncomputable def zbm (self:List D→Res D):SF:=(zaI (zbj 3 (eB oMod (eW 1) (eC (.int 7)))) (zaI (sIf (tE (eB oEq (eU zdh (eW 0)) (eC (.int 1)))) (zbS (eB oIx (eL (zbp (zab (zd1 (zab (eC (.str [101,110,100])) (zab (eC (.int 0)) zav))) (zab (zd1 (zab (eC (.str [115,116,117,99,107])) zav)) (zab (eL (zbp (zab (eC (.str [101,110,100])) zav))) (zab (zd1 (zab (eC (.str [101,97,99,104])) (zab (eB oMod (eB oDiv (eW 1) (eC (.int 7))) (eB zbh (eW 2) (eC (.int 1)))) (zab (zd1 (zab (eV 0) zav)) zav)))) (zab (zd1 zav) (zab (zd1 (zab (eC (.str [101,110,100])) zav)) (zab (eV 0) zav))))))))) (eW 3))) zbn) (zaI (sIf (tE (eB oGt (eB oMod (eB oDiv (eW 1) (eC (.int 8))) (eC (.int 3))) (eC (.int 0)))) (zaI (zbj 4 (eB oMod (eB oDiv (eW 1) (eC (.int 24))) (eU zdh (eB oIx (eW 0) (eC (.int 2)))))) (zbS (zd1 (zab (eB oIx (eW 0) (eC (.int 0))) (zab (eB oIx (eW 0) (eC (.int 1))) (zab (eB zbh (eB zbh (eSl (eB oIx (eW 0) (eC (.int 2))) pNo (pAt (eW 4))) (zd1 (zab (zar self (zab (eB oIx (eB oIx (eW 0) (eC (.int 2))) (eW 4)) (zab (eB oDiv (eW 1) (eC (.int 24))) (zab (eV 2) zav)))) zav))) (eSl (eB oIx (eW 0) (eC (.int 2))) (pAt (eB zbh (eW 4) (eC (.int 1)))) pNo)) zav)))))) zbn) (zaI (sIf (tE (eB oEq (eW 3) (eC (.int 0)))) (zbS (zd1 (zab (eB oIx (eW 0) (eC (.int 0))) (zab (eB oIx (eL (zbp (zab (eV 2) (zab (eU zni (eC (.int 1))) (zab (eC (.bl true)) (zab (eC .non) (zab (eB zbh (eB oIx (eW 0) (eC (.int 1))) (eC (.int 1))) (zab (eC (.int 0)) zav)))))))) (eB oMod (eB oDiv (eW 1) (eC (.int 24))) (eC (.int 6)))) (zab (eB oIx (eW 0) (eC (.int 2))) zav))))) zbn) (zaI (sIf (tE (eB oEq (eW 3) (eC (.int 1)))) (zbS (eB zbh (zd1 (zab (eC (.str [115,116,117,99,107])) zav)) (eSl (eW 0) (pAt (eC (.int 1))) pNo))) zbn) (zaI (sIf (tE (eB oEq (eW 3) (eC (.int 2)))) (zbS (zd1 (zab (eC (.str [101,110,100])) zav))) zbn) (zaI (sIf (tE (eB oEq (eW 3) (eC (.int 3)))) (zbS (zd1 (zab (eB oIx (eW 0) (eC (.int 0))) (zab (eB oIx (eW 0) (eC (.int 1))) (zab (eB zbh (eB oIx (eW 0) (eC (.int 2))) (eSl (eB oIx (eW 0) (eC (.int 2))) (pAt (eU zni (eC (.int 1)))) pNo)) zav))))) zbn) (zaI (sIf (tE (eB oEq (eW 3) (eC (.int 4)))) (zbS (zd1 (zab (eB oIx (eW 0) (eC (.int 0))) (zab (eB oIx (eW 0) (eC (.int 1))) (zab (eSl (eB oIx (eW 0) (eC (.int 2))) pNo (pAt (eU zni (eC (.int 1))))) zav))))) zbn) (zaI (sIf (tE (eB oEq (eW 3) (eC (.int 5)))) (zbS (zd1 (zab (eB oIx (eW 0) (eC (.int 0))) (zab (eB oIx (eW 0) (eC (.int 1))) (zab (eL (lOf (eB oIx (eW 0) (eC (.int 2))))) zav))))) zbn) (zbS (zd1 (zab (eB oIx (eW 0) (eC (.int 0))) (zab (eB oIx (eW 0) (eC (.int 1))) (zab (eU zpb (eB oIx (eW 0) (eC (.int 2)))) zav))))))))))))))
noncomputable def zbO:Nat→List D→Res D
 | 0=>fun _=>.bad
 | k+1=>fn 3 5 (zbm (zbO k))
theorem zj6 (k:Nat) (x0 x1 x2:D):zbO (k+1) [x0,x1,x2]=zcL (zbm (zbO k) [some (.val x0),some (.val x1),some (.val x2),none,none]):=zdv _ _ _ _ rfl
noncomputable def zd9:SF:=(zbS (zmp (eU (zfH .bool) (eW 0)) (eB oEq (eW 0) (eW 1))))
noncomputable def zda:List D→Res D:=fn 2 2 zd9
theorem zj0 (x0 x1:D):zda [x0,x1]=zcL (zd9 [some (.val x0),some (.val x1)]):=zdv _ _ _ _ rfl
noncomputable def zmM:SF:=(zaI (zoi (zar KH.zdb (zab (eV 0) zav)) (znu [1,2,3])) (zaI (zbj 4 (zar KH.zdx (zab (eV 1) (zab (zar KH.zcF (zab (eV 0) (zab (eV 2) (zab (eV 3) zav)))) (zab (eC (.int 60)) zav))))) (zaI (zbj 5 (eL (zcu (zfK (eW 4)) 1 [1] (gName 0) zdA (zar KH.zbq (zab (eV 1) (zab (eV 0) zav)))))) (zaI (zbj 6 (zar KG.zaq (zab (eB zbh (zar KG.zak (zab (eV 0) (zab (eC (.int 16)) zav))) (zar KG.zak (zab (eV 0) (zab (eC (.int 0)) zav)))) (zab (eC (.int 5)) zav)))) (zaI (zbj 7 (zar KH.zdc (zab (zar KH.zcE (zab (eV 5) (zab (eV 4) (zab (eV 0) zav)))) (zab (eV 6) zav)))) (zaI (zbj 8 (zar KG.zaq (zab (zar KG.zak (zab (eV 0) (zab (eC (.int 1)) zav))) (zab (eC (.int 72)) zav)))) (zaI (zbj 9 (zar (zbN 9) (zab (eV 5) (zab (eV 4) (zab (eV 7) (zab (eL (zbp zav)) (zab (eV 8) zav))))))) (zaI (zbj 10 (zar za6 (zab (eV 5) (zab (eV 4) (zab (eV 7) (zab (eL (zbp zav)) zav)))))) (zaI (zfE (iRng1 (eC (.int 4))) (gName 11) (zaI (zbj 12 (eB znf (eW 10) (eB oIx (eL (zbp (zab (eC (.int 0)) (zab (eC (.int 1)) (zab (eC (.int 2)) (zab (eC (.int 5)) zav)))))) (eB oMod (zar KG.zaq (zab (eV 8) (zab (eV 11) zav))) (eC (.int 4)))))) (zaI (zbj 13 (eV 9)) (zaI (sIf (tE (eB oGt (eW 11) (eC (.int 0)))) (zbj 13 (zar (zbO 9) (zab (eV 9) (zab (zar KG.zaq (zab (eV 8) (zab (eB zbh (eC (.int 10)) (eW 11)) zav))) (zab (eU zdh (eW 4)) zav))))) zbn) (sIf (tNot (tE (zar zda (zab (zar zdB (zab (eV 1) (zab (eV 4) (zab (eV 12) (zab (eV 13) (zab (eV 7) zav)))))) (zab (zar (zaX 9) (zab (eV 5) (zab (eV 4) (zab (eV 12) (zab (eV 13) (zab (eV 7) (zab (eL (zbp zav)) zav))))))) zav))))) (zbS (eC (.bl false))) zbn))))) (zbS (eC (.bl true))))))))))))
noncomputable def zi0:List D→Res D:=fn 1 14 zmM
theorem zp7 (x0:D):zi0 [x0]=zcL (zmM [some (.val x0),none,none,none,none,none,none,none,none,none,none,none,none,none]):=zdv _ _ _ _ rfl
end K64
end
set_option maxRecDepth 8000
namespace K64
open Z KG
open KH
noncomputable def zek:List Nat:=[101,97,99,104]
noncomputable def isStr (d:D) (w:List Nat):Bool:=match d with
 | .str t=>t==w
 | _=>false
noncomputable def zeW (xs:List GO) (d:D):Bool:=match d with
 | .int i=>decide (0≤i)&&(decide (i < xs.length)&&match xs[i.toNat]? with
  | some (_,none)=>true
  | _=>false)
 | _=>false
theorem zkD {xs:List GO} {d:D} (h:zeW xs d=true):∃ (k:Nat) (g:G),d=.int (k:Nat)∧xs[k]?=some (g,none):=by
 cases d with
 | int i =>
  simp only [zeW,Bool.and_eq_true,decide_eq_true_eq] at h
  obtain ⟨h0,h1,h2⟩:=h
  refine ⟨i.toNat,?_⟩
  split at h2
  ·rename_i g e
   exact ⟨g,by congr 1;lia,e⟩
  ·cases h2
 | _=>cases h
theorem zmX {xs:List GO} {k:Nat} {g:G} (h:xs[k]?=some (g,none)):zeW xs (.int (k:Nat))=true:=by
 have hl:k < xs.length:=(List.getElem?_eq_some_iff.mp h).1
 have hl':(k:Int) < xs.length:=by lia
 simp only [zeW,Int.toNat_natCast,h]
 simp [hl']
theorem zfI (d:D):zcX [d]=.ok (.bl (match d with | .int _=>true | _=>false)):=by
 rw [zj7]
 refine za2 ?_
 cases d<;>simp [zee,zeK]
theorem ze8 (d:D) (a b:Int):za7 [d,.int a,.int b]=.ok (.bl (match d with | .int i=>decide (a≤i)&&decide (i≤b) | _=>false)):=by
 rw [zfq]
 refine za2 ?_
 cases d with
 | int i =>
  by_cases h:a≤i
  ·simp [zba,zfI,h]
  ·simp [zba,zfI,h]
 | _=>simp [zba,zfI]
theorem zlb {xs : List GO} (d : D) : zb2 [za0 xs, d] = .ok (.bl (zeW xs d)) := by
 rw [zig]
 refine za2 ?_
 have hl:zdh (za0 xs)=.ok (.int xs.length):=by simp [za0]
 cases d with
 | int i =>
  by_cases h0:0≤i
  ·by_cases h1:i < xs.length
   ·have h1':i≤(xs.length:Int)-1:=by lia
    have hk:i.toNat < xs.length:=by lia
    have ix:oIx (za0 xs) (.int i)=.ok (zd0 (xs[i.toNat]).2):=(zdk (xs:=xs.map fun y:GO=>zd0 y.2) (i:=i) (j:=i.toNat) (by lia) (by rw [List.getElem?_map,List.getElem?_eq_getElem hk];rfl)).1
    have e:zeW xs (.int i)=(xs[i.toNat]).2.isNone:=by
     simp only [zeW,h0,h1,decide_true,Bool.true_and,List.getElem?_eq_getElem hk]
     generalize xs[i.toNat]=y
     obtain ⟨g,o⟩:=y
     cases o<;>rfl
    rw [e]
    simp [zbZ,hl,ze8,h0,h1',ix]
   ·have h1':¬ i≤(xs.length:Int)-1:=by lia
    simp [zbZ,hl,ze8,h0,h1',h1,zeW]
  ·simp [zbZ,hl,ze8,h0,zeW]
 | _=>simp [zbZ,hl,ze8,zeW]
noncomputable def zjp (d:D) (w:List Nat) (n:Nat):Bool:=match d with
 | .tup (a :: r)=>(r.length+1==n)&&isStr a w
 | _=>false
theorem zjk (d : D) (w : List Nat) {n : Nat} (hn : 1 ≤ n) : zaP [d, .str w, .int (n : Nat)] = .ok (.bl (zjp d w n)) := by
 rw [zhj]
 refine za2 ?_
 cases d with
 | tup xs =>
  cases xs with
  | nil =>
   have:¬ (0:Int)=(n:Int):=by lia
   simp [zbs,zeK,zjp,this]
  | cons a r =>
   have i0:oIx (.tup (a :: r)) (.int 0)=.ok a:=(zdk (xs:=a :: r) (i:=0) (j:=0) rfl rfl).1
   by_cases h:r.length+1=n
   ·have h':(r.length:Int)+1=(n:Int):=by lia
    cases a with
    | str t=>simp [zbs,zeK,zjp,h',h,i0,isStr]
    | _=>simp [zbs,zeK,zjp,h',h,i0,isStr]
   ·have h':¬ (r.length:Int)+1=(n:Int):=by lia
    simp [zbs,zeK,zjp,h',h]
 | _=>simp [zbs,zeK,zjp]
noncomputable def zhk (d:D):Bool:=match d with
 | .tup [a,_,.tup _]=>isStr a zek
 | _=>false
theorem zoS (d : D) : zdd [d] = .ok (.bl (zhk d)) := by
 rw [zlu]
 refine za2 ?_
 have bo:=zjk d zek (n:=3) (by decide)
 have bo':zaP [d,.str [101,97,99,104],.int 3]=.ok (.bl (zjp d zek 3)):=bo
 cases hb:zjp d zek 3 with
 | false =>
  rw [hb] at bo'
  have:zhk d=false:=by
   unfold zhk
   split
   ·rename_i a _ _
    have hb':(((2:Nat)+1==3)&&isStr a zek)=false:=hb
    simpa using hb'
   ·rfl
  simp [zdH,bo',this]
 | true =>
  rw [hb] at bo'
  unfold zjp at hb
  split at hb
  ·rename_i a r
   simp only [Bool.and_eq_true,beq_iff_eq] at hb
   match r,hb with
   | [b,c],⟨_,hs⟩ =>
    have i2:oIx (.tup [a,b,c]) (.int 2)=.ok c:=rfl
    cases c with
    | tup ps=>simp [zdH,bo',i2,zeK,zhk,hs]
    | _=>simp [zdH,bo',i2,zeK,zhk]
  ·cases hb
noncomputable def zc5 (rows:Rows) (C:Nat) (xs:List GO):D:=.lst (xs.map fun x=>.tup ((places rows C x.1).map encP))
theorem zkJ {rows:Rows} {C:Nat} (H:Hall rows C) {xs:List GO} (h6:xs.length≤6) {k:Nat} {g:G} (hk:xs[k]?=some (g,none)):zbM [za9 xs,zc5 rows C xs,za0 xs,.int (k:Nat)]=.ok (.tup ((zct rows C xs g k).map encP)):=by
 rw [zjW]
 refine za2 ?_
 have hl:k < xs.length:=(List.getElem?_eq_some_iff.mp hk).1
 have i1:oIx (zc5 rows C xs) (.int (k:Nat))=.ok (.tup ((places rows C g).map encP)):=(zdk (xs:=xs.map fun y:GO=>D.tup ((places rows C y.1).map encP)) (i:=(k:Nat)) (j:=k) rfl (by rw [List.getElem?_map,hk];rfl)).2
 have i2:oIx (za9 xs) (.int (k:Nat))=.ok (zbT g):=(zdk (xs:=xs.map fun y:GO=>zbT y.1) (i:=(k:Nat)) (j:=k) rfl (by rw [List.getElem?_map,hk];rfl)).1
 have ht:=zhQ (xs:=xs) (by lia)
 rw [show D.tup (xs.map fun x=>zbT x.1)=za9 xs from rfl,show D.tup (xs.map fun x=>zd0 x.2)=za0 xs from rfl] at ht
 have hsl:=zgv xs
 have ho:=zhW (places rows C g) g (ss:=sit xs) (places_len H g) (by lia)
 have hset:xs.set k (g,none)=xs:=by
  have:xs[k]=(g,none):=(List.getElem?_eq_some_iff.mp hk).2
  rw [←this];exact List.set_getElem_self hl
 have he:(places rows C g).filter (fun p=>(sit xs).all fun x=>zb9 g p x.1 x.2)=zct rows C xs g k:=by
  unfold zct
  refine List.filter_congr fun p _=>?_
  have:=zm2 (g:=g) hk p
  simp only at this
  rw [hset] at this
  exact this
 rw [he] at ho
 simp [zd5,i1,i2,ht,ho]
theorem zeC {rows:Rows} {C:Nat} (H:Hall rows C) (xs:List GO) (g:G) (k:Nat):(zct rows C xs g k).length≤10000:=Nat.le_trans (List.length_filter_le _ _) (places_len H g)
theorem ziz {rows:Rows} {C:Nat} (H:Hall rows C) {xs:List GO} (h6:xs.length≤6) (hg:∀ x∈xs,GOk x.1):zb3 [zfO rows,za9 xs]=.ok (zc5 rows C xs):=by
 rw [zih]
 refine za2 ?_
 have hl:xs.length≤16777216:=by lia
 unfold za9
 simp [zdp,zbC,line,zcJ,zbP,hl]
 refine zbQ (fun x:GO=>zbT x.1) (fun _=>true) (fun x=>.tup ((places rows C x.1).map encP)) ?_ ?_
 ·intro x hx
  simp [places_of_ok H (hg x hx)]
 ·rw [zeR];rfl
theorem zpT {rows:Rows} {C:Nat} (H:Hall rows C) {xs:List GO} (h6:xs.length≤6) (hg:∀ x∈xs,GOk x.1) (hk:Good rows xs):KG.zdM [zfO rows,za9 xs,za0 xs]=.ok (.bl true):=by
 have:=zns H h6 hg
 rw [hk.keeps] at this
 exact this
theorem zmn {rows:Rows} {C:Nat} (H:Hall rows C) {xs:List GO} (h6:xs.length≤6) (hg:∀ x∈xs,GOk x.1) (hk:Good rows xs):zbB [zfO rows,za9 xs,za0 xs]=.ok (za0 xs):=by
 rw [zgX]
 refine za2 ?_
 have hN:ziR (za0 xs)=.ok (.bl false):=rfl
 simp [zcU,hN,zpT H h6 hg hk]
theorem zny {rows:Rows} {xs:List GO} (h6:xs.length≤6) (hk:Good rows xs) (c:Int):∃ ys:List GO,ys.map (·.1)=xs.map (·.1)∧(∀ (i:Nat) (g:G) (p:Pl),ys[i]?=some (g,some p)→xs[i]?=some (g,some p))∧Good rows ys∧KH.zdc [za0 xs,.int c]=.ok (za0 ys):=by
 obtain ⟨ys,hys⟩:∃ ys:List GO,ys=(List.range xs.length).map fun i=>(((xs[i]?).map (·.1)).getD ⟨[],0,0,[],0,0,.non,.non⟩,if decide (c / pw2 i % 2=1) then ((xs[i]?).bind (·.2)) else none):=⟨_,rfl⟩
 have at_:∀ (i:Nat) (x:GO),xs[i]?=some x→ys[i]?=some (x.1,if decide (c / pw2 i % 2=1) then x.2 else none):=fun i x e=>by
  have hl:i < xs.length:=(List.getElem?_eq_some_iff.mp e).1
  rw [hys,List.getElem?_map,List.getElem?_range hl]
  simp [e]
 have hyl:ys.length=xs.length:=by rw [hys];simp
 have sub:∀ (i:Nat) (g:G) (p:Pl),ys[i]?=some (g,some p)→xs[i]?=some (g,some p):=fun i g p e=>by
  cases ex:xs[i]? with
  | none =>
   have:ys[i]?=none:=List.getElem?_eq_none (by rw [hyl];exact List.getElem?_eq_none_iff.mp ex)
   rw [this] at e;cases e
  | some x =>
   rw [at_ i x ex] at e
   obtain ⟨g',o⟩:=x
   simp only [Option.some.injEq,Prod.mk.injEq] at e
   obtain ⟨rfl,e⟩:=e
   split at e
   ·rw [e]
   ·cases e
 refine ⟨ys,?_,sub,hk.sub sub,?_⟩
 ·refine List.ext_getElem? fun i=>?_
  rw [List.getElem?_map,List.getElem?_map]
  cases e:xs[i]? with
  | none =>
   have:ys[i]?=none:=List.getElem?_eq_none (by rw [hyl];exact List.getElem?_eq_none_iff.mp e)
   rw [this]
  | some x=>rw [at_ i x e];rfl
 ·rw [zj5]
  refine za2 ?_
  have hol:zdh (za0 xs)=.ok (.int xs.length):=by simp [za0]
  have hl:xs.length≤16777216:=by lia
  simp [zec,zbC,line,zcJ,zbP,hol,hl]
  have e0:zints 0 xs.length=(List.range xs.length).map fun j=>D.int (j:Nat):=by
   rw [ints_map];exact List.map_congr_left fun j _=>by rw [Int.zero_add]
  rw [e0]
  refine zbQ (fun j:Nat=>D.int (j:Nat)) (fun _=>true) (fun j=>zd0 (if decide (c / pw2 j % 2=1) then ((xs[j]?).bind (·.2)) else none)) ?_ ?_
  ·intro j hj
   rw [List.mem_range] at hj
   obtain ⟨x,ex⟩:∃ x,xs[j]?=some x:=⟨_,List.getElem?_eq_getElem hj⟩
   have ix:oIx (za0 xs) (.int (j:Nat))=.ok (zd0 x.2):=(zdk (xs:=xs.map fun y:GO=>zd0 y.2) (i:=(j:Nat)) (j:=j) rfl (by rw [List.getElem?_map,ex];rfl)).1
   obtain ⟨q,hq0,hq⟩:∃ q:Int,(0 < q∧q≤32)∧q=pw2 j∧oIx (.lst [.int 1,.int 2,.int 4,.int 8,.int 16,.int 32]) (.int (j:Nat))=.ok (.int q):=by
    match j,(by lia:j < 6) with
    | 0,_=>exact ⟨1,by decide,rfl,rfl⟩
    | 1,_=>exact ⟨2,by decide,rfl,rfl⟩
    | 2,_=>exact ⟨4,by decide,rfl,rfl⟩
    | 3,_=>exact ⟨8,by decide,rfl,rfl⟩
    | 4,_=>exact ⟨16,by decide,rfl,rfl⟩
    | 5,_=>exact ⟨32,by decide,rfl,rfl⟩
   obtain ⟨hq1,hq⟩:=hq
   rw [←hq1]
   have hd:=zau hq0.1 (by lia)
   by_cases hb:c / q % 2=1
   ·simp [line,hq,hd,hb,ix,ex]
   ·simp [line,hq,hd,hb]
  ·rw [zeR]
   unfold za0
   rw [hys,List.map_map]
   rfl
noncomputable def wtD:D→Int
 | .int w=>w
 | _=>0
noncomputable def plD:D→Pl
 | .tup [.int a,.int b]=>(a,b)
 | _=>(0,0)
noncomputable def wsD:D→List Pl
 | .tup ds=>ds.map plD
 | _=>[]
noncomputable def more (ws:List Pl) (row:Int):Int:=((ws.filter fun p=>decide (p.1=row)).map (·.2)).sum
noncomputable def wIn (g:G) (row:Int):Int:=wtD g.worth+more (wsD g.wishes) row
noncomputable def wO (x:GO):Int:=match x.2 with
 | none=>0
 | some p=>wIn x.1 p.1
theorem zjq (ws:List Pl):wsD (.tup (ws.map encP))=ws:=by
 show (ws.map encP).map plD=ws
 rw [List.map_map]
 have:(plD∘encP)=id:=funext fun p=>rfl
 rw [this,List.map_id]
theorem zpD (ns:List Int):zpa (.lst (ns.map D.int))=.ok (.int ns.sum):=by
 show (match znI (ns.map D.int) with | some i=>Res.ok (D.int i) | none=>.bad)=_
 rw [ziD]
theorem zgp {g:G} (h:GrpG g) (row:Int):zbL [zbT g,.int row]=.ok (.int (wIn g row)):=by
 obtain ⟨wt,ws,hl,e1,e2⟩:=h.wsh
 rw [zjV]
 refine za2 ?_
 have hl':ws.length≤16777216:=by lia
 have e3:wIn g row=wt+more ws row:=by
  unfold wIn
  rw [e1,e2,zjq];rfl
 rw [e3]
 simp [zd4,zbC,line,zcJ,zbP,e1,e2,hl']
 refine zbQ encP (fun p=>decide (p.1=row)) (fun p=>.int p.2) (xs:=ws) (fun p _=>?_) ?_
 ·simp
  rfl
 ·rw [show (ws.filter fun p=>decide (p.1=row)).map (fun p=>D.int p.2)=((ws.filter fun p=>decide (p.1=row)).map (·.2)).map D.int from by rw [List.map_map];rfl,zpD]
  simp [more]
theorem zjs:∀ (xs:List GO),((sit xs).map fun y=>wIn y.1 y.2.1).sum=(xs.map wO).sum
 | []=>rfl
 | (g,none) :: xs=>by simp [sit,wO,zjs xs]
 | (g,some p) :: xs=>by simp [sit,wO,zjs xs]
theorem zjr {xs:List GO} (h:xs.length≤6) (hg:∀ x∈xs,GrpG x.1):zcw [.tup (xs.map fun x=>zbT x.1),.tup (xs.map fun x=>zd0 x.2)]=.ok (.int (xs.map wO).sum):=by
 rw [zjU]
 refine za2 ?_
 have et:=zhQ (xs:=xs) (by lia)
 have hsl:=zgv xs
 have hsl':(sit xs).length≤16777216:=by lia
 simp [zd3,et,zbC,line,zcJ,hsl']
 refine zbQ zkY (fun _=>true) (fun y=>.int (wIn y.1 y.2.1)) (xs:=sit xs) (fun y hy=>?_) ?_
 ·have:=zgp (hg _ (zeg.mp hy)) y.2.1
  have gX:∀ ρ:Env,gTup [0,1] (zkY y) ρ=.ok ((ρ.set 0 (v (zbT y.1))).set 1 (v (encP y.2))):=fun ρ=>rfl
  simp [gX,this]
 ·rw [zeR,show (sit xs).map (fun y=>D.int (wIn y.1 y.2.1))=((sit xs).map fun y=>wIn y.1 y.2.1).map D.int from by rw [List.map_map];rfl,zpD,zjs]
  simp
noncomputable def gt (g:G):Int:=wtD g.worth+((wsD g.wishes).map (·.2)).sum
theorem zkH (f:Pl→Bool):∀ ws:List Pl,(∀ p∈ws,0≤p.2)→0≤((ws.filter f).map (·.2)).sum∧((ws.filter f).map (·.2)).sum≤(ws.map (·.2)).sum
 | [],_=>by simp
 | p :: ws,h=>by
  obtain ⟨a,b⟩:=zkH f ws fun q hq=>h q (List.mem_cons_of_mem _ hq)
  have:=h p List.mem_cons_self
  cases c:f p
  ·rw [List.filter_cons_of_neg (by simp [c]),List.map_cons,List.sum_cons];lia
  ·rw [List.filter_cons_of_pos c,List.map_cons,List.map_cons,List.sum_cons,List.sum_cons];lia
theorem zpj {g:G} (k:GrpP g) (r:Int):0≤wIn g r∧wIn g r≤gt g:=by
 obtain ⟨wt,ws,hl,h0,h1,e1,e2⟩:=k.pos
 obtain ⟨a,b⟩:=zkH (fun p=>decide (p.1=r)) ws h1
 unfold wIn gt more
 rw [e1,e2,zjq]
 show 0≤wt+_∧wt+_≤wt+_
 lia
noncomputable def zbi (xs:List GO) (left:List Nat) (k:Nat):Bool:=(match xs[k]? with | some (_,none)=>true | _=>false)&&!left.contains k
theorem any_ints (k:Nat):∀ left:List Nat,zdW (.int (k:Nat)) (left.map fun n=>D.int (n:Nat))=some (left.contains k)
 | []=>rfl
 | n :: left=>by
  show (match eqD (.int (n:Nat)) (.int (k:Nat)),zdW (.int (k:Nat)) (left.map fun n=>D.int (n:Nat)) with | some x,some y=>some (x || y) | _,_=>none)=_
  rw [any_ints k left,List.contains_cons]
  show some (decide ((n:Int)=k) || _)=_
  congr 2
  rw [Bool.eq_iff_iff]
  simp
  lia
theorem zm1 {xs:List GO} (h6:xs.length≤6) (left:List Nat):zbo [za0 xs,.tup (left.map fun n=>D.int (n:Nat))]=.ok (.lst (((List.range xs.length).filter (zbi xs left)).map fun n=>D.int (n:Nat))):=by
 have hl:zdh (za0 xs)=.ok (.int xs.length):=by simp [za0]
 have el:zints 0 xs.length=(List.range xs.length).map fun n=>D.int (n:Nat):=by
  rw [ints_map]
  refine List.map_congr_left fun n _=>?_
  simp
 have hx:xs.length≤16777216:=by lia
 rw [zgf]
 refine za2 ?_
 simp [zcB,hl,zbC,zcJ,zbP,line,hx]
 rw [el]
 refine zbQ (fun n:Nat=>D.int (n:Nat)) (zbi xs left) (fun n=>D.int (n:Nat)) (xs:=List.range xs.length) (fun k hk=>?_) (by simp)
 have hk':k < xs.length:=List.mem_range.mp hk
 obtain ⟨⟨g,o⟩,e⟩:∃ x,xs[k]?=some x:=⟨_,List.getElem?_eq_getElem hk'⟩
 have ix:oIx (za0 xs) (.int (k:Nat))=.ok (zd0 o):=(zdk (xs:=xs.map fun y:GO=>zd0 y.2) (i:=k) (j:=k) rfl (by rw [List.getElem?_map,e];rfl)).1
 have ni:zdL (.int (k:Nat)) (.tup (left.map fun n=>D.int (n:Nat)))=.ok (.bl (!left.contains k)):=by
  show (match zdW (.int (k:Nat)) (left.map fun n=>D.int (n:Nat)) with | some b=>Res.ok (D.bl !b) | none=>Res.bad)=_
  rw [any_ints]
 cases o with
 | none=>simp [ix,ni,zbi,e]
 | some p =>
  have en:ziR (encP p)=.ok (.bl false):=rfl
  simp [ix,zd0,en,zbi,e]
noncomputable def zew (f:Pl→D→Bool):List Pl→List D→Bool
 | p :: ps,d :: ds=>f p d&&zew f ps ds
 | _,_=>true
theorem zn3 (ps : List Pl) (ds : List D) : ∀ {j : Nat} {d : D}, (zeI (ps.map encP) ds)[j]? = some d → ∃ p e, ps[j]? = some p ∧ ds[j]? = some e ∧ d = .tup [encP p, e] := by
 induction ps generalizing ds with
 | nil=>intro j d h;cases ds<;>simp [zeI] at h
 | cons p ps ih =>
  intro j d h
  cases ds with
  | nil=>simp [zeI] at h
  | cons e ds =>
   cases j with
   | zero=>simp [zeI] at h;exact ⟨p,e,rfl,rfl,h.symm⟩
   | succ j =>
    have h':(zeI (ps.map encP) ds)[j]?=some d:=by simpa [zeI] using h
    obtain ⟨p',e',h1,h2,h3⟩:=ih ds h'
    exact ⟨p',e',by simpa using h1,by simpa using h2,h3⟩
theorem zfY {f:Pl→D→Bool}:∀ {ps:List Pl} {ds:List D} {j:Nat} {p:Pl} {e:D},ps[j]?=some p→ds[j]?=some e→f p e=false→zew f ps ds=false
 | [],_,_,_,_,h,_,_=>by simp at h
 | _ :: _,[],_,_,_,_,h,_=>by simp at h
 | p :: ps,d :: ds,0,_,_,h1,h2,h3=>by
  simp at h1 h2;subst h1;subst h2
  simp [zew,h3]
 | p :: ps,d :: ds,j+1,_,_,h1,h2,h3=>by
  have:=zfY (ps:=ps) (ds:=ds) (j:=j) (by simpa using h1) (by simpa using h2) h3
  simp [zew,this]
theorem zgo {f:Pl→D→Bool}:∀ {ps:List Pl} {ds:List D},(∀ (j:Nat) (p:Pl) (e:D),ps[j]?=some p→ds[j]?=some e→f p e=true)→zew f ps ds=true
 | [],ds,_=>by cases ds<;>rfl
 | p :: ps,[],_=>rfl
 | p :: ps,d :: ds,h=>by
  simp only [zew,h 0 p d rfl rfl,Bool.true_and]
  exact zgo fun j p' e' h1 h2=>h (j+1) p' e' (by simpa using h1) (by simpa using h2)
theorem ziB (as bs:List D):(zeI as bs).length=min as.length bs.length:=by
 induction as generalizing bs with
 | nil=>cases bs<;>simp [zeI]
 | cons a as ih=>cases bs with
  | nil=>simp [zeI]
  | cons b bs=>simp [zeI,ih]
theorem zlG {f : Pl → D → Bool} {ps : List Pl} {ds : List D} {b : SF} {i j : Nat} {I : Env → Prop} {ρ : Env} (hI : I ρ)
  (hs:∀ ρ p e,I ρ→(∃ n:Nat,ps[n]?=some p∧ds[n]?=some e)→Ok (b ((ρ.set i (v (encP p))).set j (v e))) fun fl=>(f p e=true→∃ ρ',fl=.nx ρ'∧I ρ')∧(f p e=false→fl=.rt (.bl false)))
  {Q:Fl→Prop} (hf:zew f ps ds=false→Q (.rt (.bl false))) (ht:zew f ps ds=true→∀ ρ,I ρ→Q (.nx ρ)):Ok (zfp (gTup [i,j]) b (zeI (ps.map encP) ds) ρ) Q:=by
 refine zcQ (fun n ρ=>I ρ∧∀ m p e,m < n→ps[m]?=some p→ds[m]?=some e→f p e=true) ⟨hI,fun m p e h=>absurd h (Nat.not_lt_zero _)⟩ ?_ ?_
 ·rintro n d ρ hn ⟨hI,hold⟩
  obtain ⟨p,e,h1,h2,rfl⟩:=zn3 ps ds hn
  rw [zsh]
  simp only [zqs]
  refine (hs ρ p e hI ⟨n,h1,h2⟩).imp fun fl ⟨k1,k2⟩=>?_
  cases hfe:f p e with
  | true =>
   obtain ⟨ρ',rfl,hI'⟩:=k1 hfe
   refine ⟨hI',fun m p' e' hm h1' h2'=>?_⟩
   by_cases h:m < n
   ·exact hold m p' e' h h1' h2'
   ·have:m=n:=by lia
    subst this
    rw [h1] at h1';cases h1'
    rw [h2] at h2';cases h2'
    exact hfe
  | false =>
   rw [k2 hfe]
   exact hf (zfY h1 h2 hfe)
 ·rintro ρ ⟨hI,hold⟩
  refine ht (zgo fun m p e h1 h2=>hold m p e ?_ h1 h2) ρ hI
  rw [ziB,List.length_map]
  have a:=(List.getElem?_eq_some_iff.mp h1).1
  have b:=(List.getElem?_eq_some_iff.mp h2).1
  lia
theorem zjv {xs:List GO} {k:Nat} {x:GO}:(xs.set k x).length=xs.length:=List.length_set
theorem zjx {rows:Rows} {C:Nat} {xs:List GO} {k:Nat} {x:GO} (h:xs[k]?=some x) (o:Option Pl):zc5 rows C (xs.set k (x.1,o))=zc5 rows C xs:=by
 have hl:k < xs.length:=(List.getElem?_eq_some_iff.mp h).1
 have e:xs[k]=x:=(List.getElem?_eq_some_iff.mp h).2
 unfold zc5
 rw [List.map_set]
 congr 1
 refine List.ext_getElem (by simp) fun i h1 h2=>?_
 rw [List.getElem_set]
 split
 ·rename_i q;subst q;simp [e]
 ·rfl
theorem zhu {rows:Rows} {C:Nat} {xs:List GO} {k:Nat} {x:GO} (h:xs[k]?=some x) (o:Option Pl):zbW rows C (xs.set k (x.1,o))=zbW rows C xs:=by
 have hl:k < xs.length:=(List.getElem?_eq_some_iff.mp h).1
 have e:xs[k]=x:=(List.getElem?_eq_some_iff.mp h).2
 unfold zbW
 rw [List.map_set]
 congr 1
 refine List.ext_getElem (by simp) fun i h1 h2=>?_
 rw [List.getElem_set]
 split
 ·rename_i q;subst q;simp [e]
 ·rfl
theorem ze9 {xs:List GO} (h6:xs.length≤6) {k:Nat} {g:G} {o:Option Pl} (hk:xs[k]?=some (g,o)) (p:Pl):KH.zbD [za0 xs,.int (k:Nat),encP p]=.ok (za0 (xs.set k (g,some p)))∧KH.zaZ [za0 xs,.int (k:Nat),encP p]=.ok (za0 (xs.set k (g,some p))):=by
 have hl:k < xs.length:=(List.getElem?_eq_some_iff.mp hk).1
 have h1:=zhO (ds:=xs.map fun x=>zd0 x.2) (k:=k) (by simp;lia) (by simp;lia) (encP p)
 have h2:=zlI (ds:=xs.map fun x=>zd0 x.2) (k:=k) (by simp;lia) (by simp;lia) (encP p)
 rw [zi9]
 exact ⟨h1,h2⟩
theorem zp6 {rows : Rows} {C : Nat} (H : Hall rows C) {gs : List G} (h6 : gs.length ≤ 6) (hg : ∀ g ∈ gs, GOk g) : ∃ hs : List G, hs.length ≤ 6 ∧ (∀ h ∈ hs, h ∈ gs) ∧ KH.zdx [zfO rows, .tup (gs.map zbT), .int 60] = .ok (.tup (hs.map zbT)) := by
 rw [zls]
 have:Ok (zcL (zeb [v (zfO rows),v (.tup (gs.map zbT)),v (.int 60),none,none,none,none])) fun d=>∃ hs:List G,hs.length≤6∧(∀ h∈hs,h∈gs)∧d=.tup (hs.map zbT):=by
  refine zeB ?_
  simp [zeb,line]
  refine zcQ (fun i ρ=>∃ (many:Int) (hs:List G) (x5 x6:Option L),(0≤many∧many≤60)∧hs.length≤i∧(∀ h∈hs,h∈gs)∧ρ=[v (zfO rows),v (.tup (gs.map zbT)),vi 60,vi many,ow (hs.map zbT),x5,x6]) ⟨1,[],none,none,by decide,Nat.zero_le _,fun h hh=>absurd hh List.not_mem_nil,rfl⟩ ?_ ?_
  ·rintro i d ρ hi ⟨many,hs,x5,x6,hm,hl,hsub,rfl⟩
   rw [List.getElem?_map] at hi
   cases eg:gs[i]? with
   | none=>rw [eg] at hi;cases hi
   | some g =>
    rw [eg] at hi;cases hi
    have hgm:=List.mem_of_getElem? eg
    have lp:=KH.zer H (hg g hgm)
    have hpl:=places_len H g
    generalize places rows C g=ps at lp hpl
    have q1:zaY many (1+(ps.length:Int)):=zbg (by lia) (by lia)
    have hil:i < gs.length:=(List.getElem?_eq_some_iff.mp eg).1
    have hll:hs.length < 16777216:=by lia
    by_cases hle:many*(1+(ps.length:Int))≤60
    ·have h0:0≤many*(1+(ps.length:Int)):=Int.mul_nonneg hm.1 (by lia)
     simp [lp,q1,hle,line,hll]
     exact ⟨_,⟨h0,hle⟩,hs++[g],by simp;lia,fun h hh=>(List.mem_append.mp hh).elim (hsub h) (fun e=>by rw [List.mem_singleton.mp e];exact hgm),rfl,by simp⟩
    ·simp [lp,q1,hle]
     exact ⟨_,hm,hs,by lia,hsub,rfl,rfl⟩
  ·rintro ρ ⟨many,hs,x5,x6,hm,hl,hsub,rfl⟩
   rw [List.length_map] at hl
   simp
   exact ⟨hs,by lia,hsub,rfl⟩
 obtain ⟨d,e,hs,h1,h2,rfl⟩:=this
 exact ⟨hs,h1,h2,e⟩
noncomputable def Mx (rows:Rows) (C:Nat) (cs:List GO) (k:Nat):Int:=match cs[k]? with
 | some (g,_)=>mxl 0 ((zct rows C cs g k).map fun p=>wIn g p.1)
 | none=>0
theorem zoF {rows : Rows} {C : Nat} (H : Hall rows C) {cs : List GO} (h6 : cs.length ≤ 6) (hg : ∀ x ∈ cs, GrpP x.1) (left : List Nat) :
  zbX [za9 cs,zc5 rows C cs,za0 cs,.tup (left.map fun n=>D.int (n:Nat))]=.ok (.int ((cs.map wO).sum+(((List.range cs.length).filter (zbi cs left)).map (Mx rows C cs)).sum)):=by
 have ew:zcw [za9 cs,za0 cs]=.ok (.int (cs.map wO).sum):=zjr h6 fun x hx=>(hg x hx).toGrpG
 have es:=zm1 h6 left
 generalize hks:(List.range cs.length).filter (zbi cs left)=ks at es
 rw [zi4]
 refine za2 ?_
 simp [zdF,ew,es]
 refine zcQ (fun i ρ=>∃ (x y:Option L),ρ=[v (za9 cs),v (zc5 rows C cs),v (za0 cs),v (.tup (left.map fun n=>D.int (n:Nat))),vi ((cs.map wO).sum+((ks.map (Mx rows C cs)).take i).sum),x,y]) ⟨none,none,by simp⟩ ?_ ?_
 ·rintro j d ρ hj ⟨x,y,rfl⟩
  rw [List.getElem?_map] at hj
  obtain ⟨k,hk,rfl⟩:=Option.map_eq_some_iff.mp hj
  have hkm:k∈ks:=List.mem_of_getElem? hk
  rw [←hks] at hkm
  obtain ⟨hkr,hst⟩:=List.mem_filter.mp hkm
  obtain ⟨g,eg⟩:∃ g,cs[k]?=some (g,none):=by
   unfold zbi at hst
   rw [Bool.and_eq_true] at hst
   have q1:=hst.1
   split at q1
   ·rename_i g e;exact ⟨g,e⟩
   ·cases q1
  have kg:=hg _ (List.mem_of_getElem? eg)
  have sp:=zkJ H h6 eg
  have ol:=zeC H cs g k
  have ol':(zct rows C cs g k).length≤16777216:=by lia
  have ixg:oIx (za9 cs) (.int (k:Nat))=.ok (zbT g):=(zdk (xs:=cs.map fun y:GO=>zbT y.1) (i:=k) (j:=k) rfl (by rw [List.getElem?_map,eg];rfl)).1
  simp [sp,zbC,zcJ,zbP,line,ol']
  refine zbQ encP (fun _=>true) (fun p=>.int (wIn g p.1)) (xs:=zct rows C cs g k) (fun p hp=>?_) ?_
  ·have:=zgp kg.toGrpG p.1
   simp [ixg,this]
  ·rw [zeR,show (zct rows C cs g k).map (fun p=>D.int (wIn g p.1))=((zct rows C cs g k).map fun p=>wIn g p.1).map D.int from by rw [List.map_map];rfl]
   have ft:((ks.map (Mx rows C cs)).take (j+1)).sum=((ks.map (Mx rows C cs)).take j).sum+mxl 0 ((zct rows C cs g k).map fun p=>wIn g p.1):=by
    rw [List.take_add_one,List.getElem?_map,hk,List.sum_append]
    simp [Mx,eg]
   generalize (zct rows C cs g k).map (fun p=>wIn g p.1)=ws at ft ⊢
   generalize (ks.map (Mx rows C cs)).take (j+1)=ta at ft ⊢
   generalize (ks.map (Mx rows C cs)).take j=tb at ft ⊢
   simp [zoz]
   lia
 ·rintro ρ ⟨x,y,rfl⟩
  rw [List.length_map,List.take_of_length_le (by rw [List.length_map];exact Nat.le_refl _)]
  simp
noncomputable def endC:List Nat:=[101,110,100]
def zsH:Nat→D→Prop
 | 0,_=>True
 | n+1,d=>d=.tup [.str endC]∨∃ (i:Int) (ps:List D),d=.tup [.str zek,.int i,.tup ps]∧∀ p∈ps,zsH n p
noncomputable def nW (cs:List GO) (left:List Nat):Nat:=((List.range cs.length).filter (zbi cs left)).length
theorem zjT {p q : Nat → Bool} {k : Nat} : ∀ l : List Nat, (∀ j ∈ l, q j = true → p j = true) → k ∈ l → p k = true → q k = false → (l.filter q).length < (l.filter p).length
 | [],_,h,_,_=>by cases h
 | j :: l,hq,h,hp,hn=>by
  have mono:∀ l:List Nat,(∀ j∈l,q j=true→p j=true)→(l.filter q).length≤(l.filter p).length:=by
   intro l
   induction l with
   | nil=>intro _;simp
   | cons j l ih =>
    intro h
    have:=ih fun i hi=>h i (List.mem_cons_of_mem _ hi)
    have hj:=h j List.mem_cons_self
    cases c:q j
    ·rw [List.filter_cons_of_neg (by simp [c])]
     refine Nat.le_trans this ?_
     rw [List.filter_cons]
     split<;>simp
    ·rw [List.filter_cons_of_pos c,List.filter_cons_of_pos (hj c)]
     simp
     exact this
  by_cases e:j=k
  ·subst e
   rw [List.filter_cons_of_neg (by simp [hn]),List.filter_cons_of_pos hp]
   have:=mono l fun i hi=>hq i (List.mem_cons_of_mem _ hi)
   simp
   lia
  ·have hk:k∈l:=by
    rcases List.mem_cons.mp h with z | z
    ·exact absurd z.symm e
    ·exact z
   have:=zjT l (fun i hi=>hq i (List.mem_cons_of_mem _ hi)) hk hp hn
   have hj:=hq j List.mem_cons_self
   cases c:q j
   ·rw [List.filter_cons_of_neg (by simp [c]),List.filter_cons]
    split<;>simp<;>lia
   ·rw [List.filter_cons_of_pos c,List.filter_cons_of_pos (hj c)]
    simp
    exact this
theorem zc4 {cs:List GO} {left:List Nat} {k:Nat}:zbi cs left k=true↔(∃ g,cs[k]?=some (g,none))∧k∉left:=by
 unfold zbi
 rw [Bool.and_eq_true]
 constructor
 ·rintro ⟨a,b⟩
  refine ⟨?_,by simpa using b⟩
  split at a
  ·rename_i g e;exact ⟨g,e⟩
  ·cases a
 ·rintro ⟨⟨g,e⟩,b⟩
  rw [e]
  exact ⟨rfl,by simpa using b⟩
theorem zl9 {cs:List GO} {left:List Nat} {k:Nat} {g:G} (h:cs[k]?=some (g,none)) (hl:k∉left) (p:Pl):nW (cs.set k (g,some p)) left < nW cs left:=by
 unfold nW
 rw [List.length_set]
 have hk:k < cs.length:=(List.getElem?_eq_some_iff.mp h).1
 refine zjT (k:=k) _ (fun j _ hj=>?_) (List.mem_range.mpr hk) (zc4.mpr ⟨⟨g,h⟩,hl⟩) ?_
 ·obtain ⟨⟨g',e⟩,nl⟩:=zc4.mp hj
  refine zc4.mpr ⟨?_,nl⟩
  rw [List.getElem?_set] at e
  split at e
  ·cases e
  ·exact ⟨g',e⟩
 ·cases q:zbi (cs.set k (g,some p)) left k with
  | false=>rfl
  | true =>
   obtain ⟨⟨g',e⟩,_⟩:=zc4.mp q
   rw [List.getElem?_set] at e
   simp [hk] at e
theorem zjM {cs:List GO} {left:List Nat} {k:Nat} {g:G} (h:cs[k]?=some (g,none)) (hl:k∉left):nW cs (left++[k]) < nW cs left:=by
 unfold nW
 have hk:k < cs.length:=(List.getElem?_eq_some_iff.mp h).1
 refine zjT (k:=k) _ (fun j _ hj=>?_) (List.mem_range.mpr hk) (zc4.mpr ⟨⟨g,h⟩,hl⟩) ?_
 ·obtain ⟨a,nl⟩:=zc4.mp hj
  exact zc4.mpr ⟨a,fun z=>nl (List.mem_append_left _ z)⟩
 ·cases q:zbi cs (left++[k]) k with
  | false=>rfl
  | true =>
   obtain ⟨_,nl⟩:=zc4.mp q
   exact absurd (List.mem_append_right _ (List.mem_singleton.mpr rfl)) nl
theorem zpO {ps:List D} {l:D} (h:ps.getLast?=some l):oIx (.tup ps) (.int (-1))=.ok l:=by
 obtain ⟨ys,rfl⟩:=List.getLast?_eq_some_iff.mp h
 rw [zl5]
 have:ixZ (ys++[l]).length (-1)=some ys.length:=by simp [ixZ];lia
 rw [this]
 simp
noncomputable def zjQ (left:List Nat):D:=.tup (left.map fun n=>D.int (n:Nat))
theorem zne (ds:List D):zc6 (.lst ds)=.ok (.tup ds):=rfl
def ziA:Nat→D→Prop
 | 0,_=>False
 | n+1,d=>d=.tup [.str endC]∨∃ (i:Int) (ps:List D),d=.tup [.str zek,.int i,.tup ps]∧0 < ps.length∧ps.length≤100000∧∀ p∈ps,ziA n p
theorem zn6 {rows : Rows} {C : Nat} (H : Hall rows C) : ∀ (n : Nat) (cs : List GO) (left : List Nat) (m : Int), cs.length ≤ 6 → left.length + n ≤ 100 → nW cs left < n →
  Ok (zbN n [zbW rows C cs,za9 cs,za0 cs,.lst (left.map fun n=>D.int (n:Nat)),.int m]) (ziA n):=by
 intro n
 induction n with
 | zero=>intro cs left m _ _ h;lia
 | succ n ih =>
  intro cs left m h6 hlf hn
  rw [zjZ]
  refine zeB ?_
  have hl:zdh (za9 cs)=.ok (.int cs.length):=by simp [za9]
  have el:zints 0 cs.length=(List.range cs.length).map fun n=>D.int (n:Nat):=by
   rw [ints_map]
   refine List.map_congr_left fun n _=>?_
   simp
  have hx:cs.length≤16777216:=by lia
  simp [zd8,hl,zbC,zcJ,zbP,line,hx]
  rw [el]
  refine zbQ (fun n:Nat=>D.int (n:Nat)) (zbi cs left) (fun n=>D.int (n:Nat)) (xs:=List.range cs.length) (fun k hk=>?_) ?_
  ·have hk':k < cs.length:=List.mem_range.mp hk
   obtain ⟨⟨g,o⟩,e⟩:∃ x,cs[k]?=some x:=⟨_,List.getElem?_eq_getElem hk'⟩
   have ix:oIx (za0 cs) (.int (k:Nat))=.ok (zd0 o):=(zdk (xs:=cs.map fun y:GO=>zd0 y.2) (i:=k) (j:=k) rfl (by rw [List.getElem?_map,e];rfl)).1
   have ni:zdL (.int (k:Nat)) (.lst (left.map fun n=>D.int (n:Nat)))=.ok (.bl (!left.contains k)):=by
    show (match zdW (.int (k:Nat)) (left.map fun n=>D.int (n:Nat)) with | some b=>Res.ok (D.bl !b) | none=>Res.bad)=_
    rw [any_ints]
   cases o with
   | none=>simp [ix,ni,zbi,e]
   | some p =>
    have en:ziR (encP p)=.ok (.bl false):=rfl
    simp [ix,zd0,en,zbi,e]
  ·have hst:∀ k∈(List.range cs.length).filter (zbi cs left),zbi cs left k=true:=fun k hk=>(List.mem_filter.mp hk).2
   have hnw:((List.range cs.length).filter (zbi cs left)).length=nW cs left:=rfl
   generalize (List.range cs.length).filter (zbi cs left)=ks at hst hnw
   have eqn:oEq (.lst (ks.map fun n=>D.int (n:Nat))) (.lst [])=.ok (.bl (decide (ks=[]))):=by
    have:=zp8 (ks.map fun n:Nat=>(n:Int))
    rw [List.map_map] at this
    rw [show (ks.map fun n=>D.int (n:Nat))=ks.map (D.int∘fun n:Nat=>(n:Int)) from rfl,this]
    simp
   by_cases h0:ks=[]
   ·subst h0
    have eqn':oEq (.lst []) (.lst [])=.ok (.bl true):=rfl
    simp [eqn',line]
    exact Or.inl rfl
   ·by_cases h4:m % 4=3
    ·simp [eqn,h0,h4,line]
     exact Or.inl rfl
    ·have hkl:0 < ks.length:=List.length_pos_iff.mpr h0
     have hkl':(0:Int) < ks.length:=by lia
     have hj0:0≤m / 4 % (ks.length:Int):=Int.emod_nonneg _ (by lia)
     have hj1:m / 4 % (ks.length:Int) < ks.length:=Int.emod_lt_of_pos _ hkl'
     obtain ⟨j,hj⟩:∃ j:Nat,m / 4 % (ks.length:Int)=(j:Nat):=⟨(m / 4 % (ks.length:Int)).toNat,by lia⟩
     have hjl:j < ks.length:=by lia
     obtain ⟨k,ek⟩:∃ k,ks[j]?=some k:=⟨_,List.getElem?_eq_getElem hjl⟩
     have ik:oIx (.lst (ks.map fun n=>D.int (n:Nat))) (.int (j:Nat))=.ok (.int (k:Nat)):=(zdk (xs:=ks.map fun n=>D.int (n:Nat)) (i:=(j:Nat)) (j:=j) rfl (by rw [List.getElem?_map,ek];rfl)).2
     obtain ⟨⟨g,hk⟩,hnl⟩:=zc4.mp (hst k (List.mem_of_getElem? ek))
     have so:KH.zaC [zbW rows C cs,za9 cs,za0 cs,.int (k:Nat)]=.ok (.lst ((zct rows C cs g k).map encP)):=KH.zhV H h6 hk
     have hol:=zeC H cs g k
     generalize zct rows C cs g k=op at so hol
     have n2:=zjM hk hnl
     have last:=ih cs (left++[k]) (m / 11+1) h6 (by simp;lia) (by lia)
     obtain ⟨dl,el',tl⟩:=last
     have el2:zbN n [zbW rows C cs,za9 cs,za0 cs,.lst (left.map (fun n=>D.int (n:Nat))++[.int (k:Nat)]),.int (m / 11+1)]=.ok dl:=by
      rw [List.map_append] at el'
      exact el'
     have hd5:zem 4:=zau (by decide) (by decide)
     have hd13:zem 11:=zau (by decide) (by decide)
     simp [eqn,h0,h4,hd5,hd13,hkl',hj,ik,so,line]
     refine ⟨hkl,zcQ (fun i ρ=>∃ (ps:List D) (x:Option L),ps.length=i∧(∀ p∈ps,ziA n p)∧ρ=[v (zbW rows C cs),v (za9 cs),v (za0 cs),v (.lst (left.map fun n=>D.int (n:Nat))),vi (m / 11+1),v (.lst (ks.map fun n=>D.int (n:Nat))),vi (k:Nat),ow ps,x]) ⟨[],none,rfl,fun p h=>(List.not_mem_nil h).elim,rfl⟩ ?_ ?_⟩
     ·rintro i d ρ hi ⟨ps,x,hpl,hps,rfl⟩
      rw [List.getElem?_map] at hi
      obtain ⟨p,hp,rfl⟩:=Option.map_eq_some_iff.mp hi
      have hil:i < op.length:=(List.getElem?_eq_some_iff.mp hp).1
      have n1:=zl9 hk hnl p
      obtain ⟨dp,ep,tp⟩:=ih (cs.set k (g,some p)) left (m / 11+1) (by rw [zjv];exact h6) (by lia) (by lia)
      rw [show za9 (cs.set k (g,some p))=za9 cs from zfr hk (some p),show zbW rows C (cs.set k (g,some p))=zbW rows C cs from zhu hk (some p)] at ep
      have hps':ps.length < 16777216:=by lia
      simp [(ze9 h6 hk p).2,ep,line,hps']
      exact ⟨hpl,fun q hq=>hq.elim (hps q) (fun z=>by rw [z];exact tp)⟩
     ·rintro ρ ⟨ps,x,hpl,hps,rfl⟩
      rw [List.length_map] at hpl
      have hps':ps.length+1≤16777216:=by lia
      have hlf':left.length+1≤16777216:=by lia
      simp [zne,line,hps',hlf',zme,el2]
      refine Or.inr ⟨(k:Nat),ps++[dl],rfl,by simp,by simp;lia,fun q hq=>(List.mem_append.mp hq).elim (hps q) (fun z=>by rw [List.mem_singleton.mp z];exact tl)⟩
theorem ziW {g:G} (k:GrpP g) (row:Int):zaW [zbT g,.int row]=.ok (.int (wIn g row)):=by
 obtain ⟨wt,ws,hl,h0,h1,e1,e2⟩:=k.pos
 have i6:oIx (zbT g) (.int 6)=.ok (.int wt):=by rw [←e1];rfl
 have i7:oIx (zbT g) (.int 7)=.ok (.tup (ws.map encP)):=by rw [←e2];rfl
 have e3:wIn g row=wt+more ws row:=by
  unfold wIn
  rw [e1,e2,zjq];rfl
 rw [zgV,e3]
 refine za2 ?_
 simp [zcS,i6,i7]
 refine zcQ (fun i ρ=>∃ x3 x4,ρ=[v (zbT g),vi row,vi (wt+more (ws.take i) row),x3,x4]) ⟨none,none,by simp [more]⟩ ?_ ?_
 ·rintro j d ρ hj ⟨x3,x4,rfl⟩
  rw [List.getElem?_map] at hj
  obtain ⟨p,hp,rfl⟩:=Option.map_eq_some_iff.mp hj
  have gX:∀ ρ:Env,gTup [3,4] (encP p) ρ=.ok ((ρ.set 3 (v (.int p.1))).set 4 (v (.int p.2))):=fun ρ=>rfl
  have ft:more (ws.take (j+1)) row=more (ws.take j) row+if p.1=row then p.2 else 0:=by
   unfold more
   rw [List.take_add_one,hp,List.filter_append,List.map_append,List.sum_append]
   by_cases h:p.1=row<;>simp [h]
  generalize more (ws.take (j+1)) row=ta at ft ⊢
  generalize more (ws.take j) row=tb at ft ⊢
  by_cases h:p.1=row
  ·rw [if_pos h] at ft
   simp [gX,h]
   lia
  ·rw [if_neg h] at ft
   simp [gX,h]
   lia
 ·rintro ρ ⟨x3,x4,rfl⟩
  rw [List.length_map,List.take_of_length_le (Nat.le_refl _)]
  simp
theorem zlF {α:Type} (f h:α→D):∀ xs:List α,zeI (xs.map f) (xs.map h)=xs.map fun x=>.tup [f x,h x]
 | []=>rfl
 | x :: xs=>by simp [zeI,zlF f h xs];rfl
theorem ziV {xs:List GO} (h6:xs.length≤6) (hg:∀ x∈xs,GrpP x.1):zcy [za9 xs,za0 xs]=.ok (.int (xs.map wO).sum):=by
 have hl:xs.length≤16777216:=by lia
 unfold za9 za0
 rw [zi5]
 refine za2 ?_
 simp [zdG,zlF,line,hl]
 refine zcQ (fun i ρ=>∃ x3 x4,ρ=[v (.tup (xs.map fun x=>zbT x.1)),v (.tup (xs.map fun x=>zd0 x.2)),vi (((xs.take i).map wO).sum),x3,x4]) ⟨none,none,by simp⟩ ?_ ?_
 ·rintro j d ρ hj ⟨x3,x4,rfl⟩
  rw [List.getElem?_map] at hj
  obtain ⟨⟨g,o⟩,hp,rfl⟩:=Option.map_eq_some_iff.mp hj
  have kg:=hg _ (List.mem_of_getElem? hp)
  have ft:((xs.take (j+1)).map wO).sum=((xs.take j).map wO).sum+wO (g,o):=by
   rw [List.take_add_one,hp,List.map_append,List.sum_append]
   simp
  generalize ((xs.take (j+1)).map wO).sum=ta at ft ⊢
  generalize ((xs.take j).map wO).sum=tb at ft ⊢
  cases o with
  | none =>
   have:ta=tb:=by rw [ft];show tb+0=tb;lia
   have en:ze1 D.non=.ok (.bl false):=rfl
   subst this
   simp [zd0,en]
  | some p =>
   have:ta=tb+wIn g p.1:=ft
   have en:ze1 (encP p)=.ok (.bl true):=rfl
   have i0:oIx (encP p) (.int 0)=.ok (.int p.1):=rfl
   subst this
   simp [zd0,en,i0,ziW kg]
 ·rintro ρ ⟨x3,x4,rfl⟩
  rw [List.length_map,List.take_of_length_le (Nat.le_refl _)]
  simp
theorem zmJ {rows:Rows} {C:Nat} (H:Hall rows C) {xs:List GO} (h6:xs.length≤6) (hg:∀ x∈xs,GOk x.1) (hk:Good rows xs) {n d r:D} (h:zaJ 9 [za9 xs,zc5 rows C xs,n,za0 xs,.tup [],d]=.ok r):zdB [zfO rows,za9 xs,n,d,za0 xs]=.ok r:=by
 have e1:=zmn H h6 hg hk
 have e2:=ziz H h6 hg
 rw [zmm]
 refine za2 ?_
 simp [zfy,e1,e2,h]
theorem zgP {α:Type} {xs:List α} {lo hi:Option Int} {x:α} (h:x∈cut xs lo hi):x∈xs:=List.mem_of_mem_drop (List.mem_of_mem_take h)
noncomputable def zmb (rows:Rows) (C:Nat) (cs:List GO) (left:List Nat):Int:=(cs.map wO).sum+(((List.range cs.length).filter (zbi cs left)).map (Mx rows C cs)).sum
noncomputable def zbV (rows:Rows) (C:Nat) (N:Int):Nat→List GO→List Nat→D→Bool
 | 0,_,_,_=>false
 | n+1,cs,left,d=>match d with
  | .tup [a]=>isStr a endC&&decide (zmb rows C cs left≤N)
  | .tup [a,.int i,.tup ps]=>isStr a zek&&(zeW cs (.int i)&&(!left.contains i.toNat&&(match cs[i.toNat]? with
   | some (g,_)=>(ps.length==(zct rows C cs g i.toNat).length+1)&&(zew (fun p e=>zbV rows C N n (cs.set i.toNat (g,some p)) left e) (zct rows C cs g i.toNat) ps&&zbV rows C N n cs (left++[i.toNat]) (ps.getLast?.getD .non))
   | none=>false)))
  | _=>false
def TrN:Nat→D→Prop
 | 0,_=>True
 | n+1,d=>(∃ xs,d=.lst xs)∨d=.tup []∨(∃ w,d=.tup [.str w])∨(∃ w b,d=.tup [.str w,b])∨∃ w b c,d=.tup [.str w,b,c]∧∀ ps,c=.tup ps→∀ p∈ps,TrN n p
theorem zhs {rows:Rows} {C n:Nat} {N:Int} {cs:List GO} {left:List Nat} {w:List Nat} {b:D} (h:zeW cs b=false) (c:D):zbV rows C N (n+1) cs left (.tup [.str w,b,c])=false:=by
 cases b with
 | int i=>cases c<;>simp [zbV,h]
 | _=>cases c<;>simp [zbV]
theorem zhr {rows:Rows} {C n:Nat} {N:Int} {cs:List GO} {left:List Nat} {w:List Nat} {b:D} (h:(w==zek)=false) (c:D):zbV rows C N (n+1) cs left (.tup [.str w,b,c])=false:=by
 cases b with
 | int i=>cases c<;>simp [zbV,isStr,h]
 | _=>cases c<;>simp [zbV]
theorem zsx {rows : Rows} {C : Nat} (H : Hall rows C) (N : Int) : ∀ (n : Nat) (cs : List GO) (left : List Nat) (d : D), cs.length ≤ 6 → (∀ x ∈ cs, GrpP x.1) → left.length + n ≤ 100 → nW cs left < n → TrN n d →
  zaJ n [za9 cs,zc5 rows C cs,.int N,za0 cs,zjQ left,d]=.ok (.bl (zbV rows C N n cs left d)):=by
 intro n
 induction n with
 | zero=>intro cs left d _ _ _ h;lia
 | succ n ih =>
  intro cs left d h6 hg hlf hn ht
  rw [zgg]
  refine za2 ?_
  have bs:=zjk d endC (n:=1) (by decide)
  have bs':zaP [d,.str [101,110,100],.int 1]=.ok (.bl (zjp d endC 1)):=bs
  have be:=zoS d
  have mo:zbX [za9 cs,zc5 rows C cs,za0 cs,zjQ left]=.ok (.int (zmb rows C cs left)):=zoF H h6 hg left
  rcases ht with ⟨zs,rfl⟩ | rfl | ⟨w,rfl⟩ | ⟨w,b,rfl⟩ | ⟨w,b,c,rfl,hps⟩
  ·have e1:zjp (.lst zs) endC 1=false:=rfl
   have e2:zhk (.lst zs)=false:=rfl
   rw [e1] at bs';rw [e2] at be
   simp [zaA,bs',be,zbV]
  ·have e1:zjp (.tup []) endC 1=false:=rfl
   have e2:zhk (.tup [])=false:=rfl
   rw [e1] at bs';rw [e2] at be
   simp [zaA,bs',be,zbV]
  ·have e1:zjp (.tup [.str w]) endC 1=(w==endC):=by simp [zjp,isStr]
   have e2:zhk (.tup [.str w])=false:=rfl
   rw [e1] at bs';rw [e2] at be
   cases hw:(w==endC) with
   | false =>
    rw [hw] at bs'
    simp [zaA,bs',be,zbV,isStr,hw]
   | true =>
    rw [hw] at bs'
    simp [zaA,bs',mo,zbV,isStr,hw]
  ·have e1:zjp (.tup [.str w,b]) endC 1=false:=rfl
   have e2:zhk (.tup [.str w,b])=false:=rfl
   rw [e1] at bs';rw [e2] at be
   simp [zaA,bs',be,zbV]
  ·have e1:zjp (.tup [.str w,b,c]) endC 1=false:=rfl
   have i1:oIx (.tup [.str w,b,c]) (.int 1)=.ok b:=rfl
   have i2:oIx (.tup [.str w,b,c]) (.int 2)=.ok c:=rfl
   rw [e1] at bs'
   cases he:zhk (.tup [.str w,b,c]) with
   | false =>
    rw [he] at be
    have:zbV rows C N (n+1) cs left (.tup [.str w,b,c])=false:=by
     cases c with
     | tup ps=>exact zhr (show (w==zek)=false from he) _
     | _=>cases b<;>simp [zbV]
    simp [zaA,bs',be,this]
   | true =>
    rw [he] at be
    obtain ⟨ps,rfl⟩:∃ ps,c=.tup ps:=by
     cases c with
     | tup ps=>exact ⟨ps,rfl⟩
     | _=>cases he
    have hw:(w==zek)=true:=he
    have wo:=zlb (xs:=cs) b
    cases hwt:zeW cs b with
    | false =>
     rw [hwt] at wo
     simp [zaA,bs',be,i1,wo,zhs hwt]
    | true =>
     rw [hwt] at wo
     obtain ⟨k,g,rfl,hk⟩:=zkD hwt
     have inn:oIn (.int (k:Nat)) (zjQ left)=.ok (.bl (left.contains k)):=by
      show (match zdW (.int (k:Nat)) (left.map fun n=>D.int (n:Nat)) with | some b=>Res.ok (D.bl b) | none=>Res.bad)=_
      rw [any_ints]
     have hpb:zbV rows C N (n+1) cs left (.tup [.str w,.int (k:Nat),.tup ps])=(!left.contains k&&((ps.length==(zct rows C cs g k).length+1)&&(zew (fun p e=>zbV rows C N n (cs.set k (g,some p)) left e) (zct rows C cs g k) ps&&zbV rows C N n cs (left++[k]) (ps.getLast?.getD .non)))):=by
      simp only [zbV,isStr,hw,hwt,hk,Int.toNat_natCast,Bool.true_and]
     rw [hpb]
     cases hin:left.contains k with
     | true =>
      rw [hin] at inn
      simp [zaA,bs',be,i1,wo,inn]
     | false =>
      rw [hin] at inn
      have hnl:k∉left:=by simpa using hin
      have kg:=hg _ (List.mem_of_getElem? hk)
      have so:=zkJ H h6 hk
      have hol:=zeC H cs g k
      generalize zct rows C cs g k=op at so hol
      by_cases hlen:ps.length=op.length+1
      ·have hlen':(ps.length:Int)=(op.length:Int)+1:=by lia
       obtain ⟨l,hl⟩:∃ l,ps.getLast?=some l:=by
        cases ps with
        | nil=>simp at hlen
        | cons a r=>exact ⟨_,List.getLast?_eq_some_getLast (by simp)⟩
       have il:=zpO hl
       have hlin:TrN n l:=hps ps rfl l (List.mem_of_getLast? hl)
       have n2:=zjM hk hnl
       have el:=ih cs (left++[k]) l h6 hg (by simp;lia) (by lia) hlin
       have ad:zbh (zjQ left) (.tup [.int (k:Nat)])=.ok (zjQ (left++[k])):=by
        unfold zjQ
        rw [znn _ _ (by simp [line];lia)]
        simp
       rw [hl]
       simp [zaA,bs',be,i1,i2,wo,inn,so,line,hlen']
       refine zlG (f:=fun p e=>zbV rows C N n (cs.set k (g,some p)) left e) (I:=fun ρ=>∃ x7 x8,ρ=[v (za9 cs),v (zc5 rows C cs),vi N,v (za0 cs),v (zjQ left),v (.tup [.str w,.int (k:Nat),.tup ps]),vi (k:Nat),v (.tup (op.map encP)),x7,x8]) ⟨none,none,rfl⟩ ?_ ?_ ?_
       ·rintro ρ p e ⟨x7,x8,rfl⟩ ⟨m,hm1,hm2⟩
        have n1:=zl9 hk hnl p
        have:=ih (cs.set k (g,some p)) left e (by rw [zjv];exact h6) (fun x hx=>by
         rcases List.mem_or_eq_of_mem_set hx with z | z
         ·exact hg x z
         ·rw [z];exact kg) (by lia) (by lia) (hps ps rfl e (List.mem_of_getElem? hm2))
        rw [show za9 (cs.set k (g,some p))=za9 cs from zfr hk (some p),show zc5 rows C (cs.set k (g,some p))=zc5 rows C cs from zjx hk (some p)] at this
        cases hpe:zbV rows C N n (cs.set k (g,some p)) left e with
        | true =>
         rw [hpe] at this
         simp [(ze9 h6 hk p).1,this]
        | false =>
         rw [hpe] at this
         simp [(ze9 h6 hk p).1,this]
       ·intro h
        simp [h,hlen]
       ·rintro h ρ ⟨x7,x8,rfl⟩
        simp [h,i2,il,ad,el,line,hlen]
      ·have hlen':¬ (ps.length:Int)=(op.length:Int)+1:=by lia
       simp [zaA,bs',be,i1,i2,wo,inn,so,line,hlen',hlen]
theorem zsk {ns:List Int} (h:∀ n∈ns,0≤n):ns.foldl max 0=mxl 0 ns:=by
 cases ns with
 | nil=>rfl
 | cons n ns =>
  show ns.foldl max (max 0 n)=ns.foldl max n
  rw [show max 0 n=n from by have:=h n List.mem_cons_self;lia]
theorem znH {rows:Rows} {C:Nat} (H:Hall rows C) {cs:List GO} (h6:cs.length≤6) (hg:∀ x∈cs,GrpP x.1) (left:List Nat) :
  za6 [zbW rows C cs,za9 cs,za0 cs,.lst (left.map fun n=>D.int (n:Nat))]=.ok (.int (zmb rows C cs left)):=by
 have ew:=ziV h6 hg
 have hl:zdh (za9 cs)=.ok (.int cs.length):=by simp [za9]
 have el:zints 0 cs.length=(List.range cs.length).map fun n=>D.int (n:Nat):=by
  rw [ints_map]
  refine List.map_congr_left fun n _=>?_
  simp
 have hx:cs.length≤16777216:=by lia
 rw [zgW]
 refine za2 ?_
 simp [zcT,ew,hl,line,hx]
 rw [el]
 refine zcQ (fun i ρ=>∃ (x y:Option L),ρ=[v (zbW rows C cs),v (za9 cs),v (za0 cs),v (.lst (left.map fun n=>D.int (n:Nat))),vi ((cs.map wO).sum+((((List.range cs.length).take i).filter (zbi cs left)).map (Mx rows C cs)).sum),x,y]) ⟨none,none,by simp⟩ ?_ ?_
 ·rintro j d ρ hj ⟨x,y,rfl⟩
  rw [List.getElem?_map] at hj
  obtain ⟨k,hk,rfl⟩:=Option.map_eq_some_iff.mp hj
  obtain ⟨hjl,rfl⟩:j < cs.length∧k=j:=by
   have:=List.getElem?_eq_some_iff.mp hk
   obtain ⟨h1,h2⟩:=this
   rw [List.length_range] at h1
   rw [List.getElem_range] at h2
   exact ⟨h1,h2.symm⟩
  have ft:((((List.range cs.length).take (k+1)).filter (zbi cs left)).map (Mx rows C cs)).sum=((((List.range cs.length).take k).filter (zbi cs left)).map (Mx rows C cs)).sum+if zbi cs left k then Mx rows C cs k else 0:=by
   rw [List.take_add_one,hk,List.filter_append,List.map_append,List.sum_append]
   cases q:zbi cs left k<;>simp [q]
  generalize ((((List.range cs.length).take (k+1)).filter (zbi cs left)).map (Mx rows C cs)).sum=ta at ft ⊢
  generalize ((((List.range cs.length).take k).filter (zbi cs left)).map (Mx rows C cs)).sum=tb at ft ⊢
  obtain ⟨⟨g,o⟩,eg⟩:∃ x,cs[k]?=some x:=⟨_,List.getElem?_eq_getElem hjl⟩
  have ix:oIx (za0 cs) (.int (k:Nat))=.ok (zd0 o):=(zdk (xs:=cs.map fun y:GO=>zd0 y.2) (i:=k) (j:=k) rfl (by rw [List.getElem?_map,eg];rfl)).1
  have ni:zdL (.int (k:Nat)) (.lst (left.map fun n=>D.int (n:Nat)))=.ok (.bl (!left.contains k)):=by
   show (match zdW (.int (k:Nat)) (left.map fun n=>D.int (n:Nat)) with | some b=>Res.ok (D.bl !b) | none=>Res.bad)=_
   rw [any_ints]
  cases o with
  | some p =>
   have en:ziR (encP p)=.ok (.bl false):=rfl
   have q:zbi cs left k=false:=by simp [zbi,eg]
   rw [q,if_neg (by decide)] at ft
   simp [ix,zd0,en]
   lia
  | none =>
   cases hc:left.contains k with
   | true =>
    have q:zbi cs left k=false:=by unfold zbi;rw [eg,hc];rfl
    rw [q,if_neg (by decide)] at ft
    rw [hc] at ni
    simp [ix,ni]
    lia
   | false =>
    have q:zbi cs left k=true:=by unfold zbi;rw [eg,hc];rfl
    rw [q,if_pos rfl] at ft
    rw [hc] at ni
    have kg:=hg _ (List.mem_of_getElem? eg)
    have so:KH.zaC [zbW rows C cs,za9 cs,za0 cs,.int (k:Nat)]=.ok (.lst ((zct rows C cs g k).map encP)):=KH.zhV H h6 eg
    have ol:=zeC H cs g k
    have ol':(zct rows C cs g k).length≤16777216:=by lia
    have ixg:oIx (za9 cs) (.int (k:Nat))=.ok (zbT g):=(zdk (xs:=cs.map fun y:GO=>zbT y.1) (i:=k) (j:=k) rfl (by rw [List.getElem?_map,eg];rfl)).1
    have mx:Mx rows C cs k=mxl 0 ((zct rows C cs g k).map fun p=>wIn g p.1):=by unfold Mx;rw [eg]
    rw [mx] at ft
    simp [ix,ni,so,zbC,zcJ,zbP,line,ol']
    refine zbQ encP (fun _=>true) (fun p=>.int (wIn g p.1)) (xs:=zct rows C cs g k) (fun p hp=>?_) ?_
    ·have:=ziW kg p.1
     simp [ixg,this]
    ·rw [zeR,show (zct rows C cs g k).map (fun p=>D.int (wIn g p.1))=((zct rows C cs g k).map fun p=>wIn g p.1).map D.int from by rw [List.map_map];rfl]
     have hnn:∀ n∈(zct rows C cs g k).map fun p=>wIn g p.1,0≤n:=fun n hn=>by
      obtain ⟨p,_,rfl⟩:=List.mem_map.mp hn
      exact (zpj kg p.1).1
     have hwl:((zct rows C cs g k).map fun p=>wIn g p.1).length+1≤16777216:=by rw [List.length_map];lia
     generalize (zct rows C cs g k).map (fun p=>wIn g p.1)=ws at ft hnn hwl ⊢
     have om:=zoA 0 ws
     rw [zsk hnn] at om
     have om':ziQ (.lst (.int 0 :: ws.map .int))=.ok (.int (mxl 0 ws)):=om
     simp [zme,line,hwl,om',Nat.add_comm]
     lia
 ·rintro ρ ⟨x,y,rfl⟩
  rw [List.length_map,List.take_of_length_le (Nat.le_refl _)]
  simp [zmb]
theorem zlo {rows : Rows} {C : Nat} (H : Hall rows C) (N : Int) : ∀ (n : Nat) (cs : List GO) (left : List Nat) (d : D), cs.length ≤ 6 → (∀ x ∈ cs, GrpP x.1) → left.length + n ≤ 100 → nW cs left < n → TrN n d →
  zaX n [zbW rows C cs,za9 cs,.int N,d,za0 cs,.lst (left.map fun n=>D.int (n:Nat))]=.ok (.bl (zbV rows C N n cs left d)):=by
 intro n
 induction n with
 | zero=>intro cs left d _ _ _ h;lia
 | succ n ih =>
  intro cs left d h6 hg hlf hn ht
  rw [zhi]
  refine za2 ?_
  have hgl:zdh (za9 cs)=.ok (.int cs.length):=by simp [za9]
  have n13:∀ z:Int,zdL (.int z) (encP (1,3))=.ok (.bl (!(decide (z=1∨z=3)))):=fun z=>by
   show zdL (.int z) (.tup [.int 1,.int 3])=_
   simp only [zdL,zdW,eqD,zgY,eqS]
   by_cases h2:z=1
   ·subst h2;rfl
   ·by_cases h3:z=3
    ·subst h3;rfl
    ·have h2':¬ 1=z:=fun h=>h2 h.symm
     have h3':¬ 3=z:=fun h=>h3 h.symm
     simp [h2,h3,h2',h3']
  have yo:=znH H h6 hg left
  rcases ht with ⟨zs,rfl⟩ | rfl | ⟨w,rfl⟩ | ⟨w,b,rfl⟩ | ⟨w,b,c,rfl,hps⟩
  ·simp [zaw,zeK,zbV]
  ·simp [zaw,zeK,zbV,line,n13]
  ·have i0:oIx (.tup [.str w]) (.int 0)=.ok (.str w):=rfl
   have eN:oEq (.str w) (.str [101,110,100])=.ok (.bl (w==endC)):=rfl
   cases hw:(w==endC) with
   | false =>
    rw [hw] at eN
    simp [zaw,zeK,zbV,line,n13,i0,eN,isStr,hw]
   | true =>
    rw [hw] at eN
    simp [zaw,zeK,zbV,line,n13,i0,eN,isStr,hw,yo]
  ·simp [zaw,zeK,zbV,line,n13]
  ·have i1 : oIx (.tup [.str w, b, c]) (.int 1) = .ok b := rfl
   have i0:oIx (.tup [.str w,b,c]) (.int 0)=.ok (.str w):=rfl
   have i2:oIx (.tup [.str w,b,c]) (.int 2)=.ok c:=rfl
   have eN:oNe (.str w) (.str [101,97,99,104])=.ok (.bl (!(w==zek))):=rfl
   cases hw:(w==zek) with
   | false =>
    rw [hw] at eN
    simp [zaw,zeK,line,n13,i0,i1,i2,eN,zhr hw]
   | true =>
    rw [hw] at eN
    cases hwt:zeW cs b with
    | false =>
     rw [zhs hwt]
     cases b with
     | int i =>
      by_cases a0:0≤i
      ·by_cases a1:i < cs.length
       ·have hk:i.toNat < cs.length:=by lia
        have ix:oIx (za0 cs) (.int i)=.ok (zd0 (cs[i.toNat]).2):=(zdk (xs:=cs.map fun y:GO=>zd0 y.2) (i:=i) (j:=i.toNat) (by lia) (by rw [List.getElem?_map,List.getElem?_eq_getElem hk];rfl)).1
        obtain ⟨g,o,hgo⟩:∃ g o,cs[i.toNat]=(g,o):=⟨_,_,rfl⟩
        have hk2:cs[i.toNat]?=some (g,o):=by rw [List.getElem?_eq_getElem hk,hgo]
        rw [hgo] at ix
        cases o with
        | none =>
         have wt:zeW cs (.int i)=true:=by
          rw [show i=((i.toNat:Nat):Int) from by lia]
          exact zmX hk2
         rw [wt] at hwt
         cases hwt
        | some p =>
         have nN1:ze1 (encP p)=.ok (.bl true):=rfl
         simp [zaw,zeK,line,n13,i0,i1,i2,eN,hgl,a0,a1,ix,nN1]
       ·simp [zaw,zeK,line,n13,i0,i1,i2,eN,hgl,a0,a1]
      ·simp [zaw,zeK,line,n13,i0,i1,i2,eN,hgl,a0]
     | _=>simp [zaw,zeK,line,n13,i0,i1,i2,eN,hgl]
    | true =>
     obtain ⟨k,g,rfl,hk⟩:=zkD hwt
     have hkl:k < cs.length:=(List.getElem?_eq_some_iff.mp hk).1
     have a0:(0:Int)≤(k:Nat):=by lia
     have a1:((k:Nat):Int) < cs.length:=by lia
     have ix:oIx (za0 cs) (.int (k:Nat))=.ok .non:=(zdk (xs:=cs.map fun y:GO=>zd0 y.2) (i:=k) (j:=k) rfl (by rw [List.getElem?_map,hk];rfl)).1
     have nN0:ze1 D.non=.ok (.bl false):=rfl
     have inn:oIn (.int (k:Nat)) (.lst (left.map fun n=>D.int (n:Nat)))=.ok (.bl (left.contains k)):=by
      show (match zdW (.int (k:Nat)) (left.map fun n=>D.int (n:Nat)) with | some b=>Res.ok (D.bl b) | none=>Res.bad)=_
      rw [any_ints]
     cases hin:left.contains k with
     | true =>
      rw [hin] at inn
      have:zbV rows C N (n+1) cs left (.tup [.str w,.int (k:Nat),c])=false:=by
       cases c with
       | tup ps =>
        simp only [zbV,isStr,hw,hwt,hk,Int.toNat_natCast,Bool.true_and,hin]
        rfl
       | _=>simp [zbV]
      simp [zaw,zeK,line,n13,i0,i1,i2,eN,hgl,a0,a1,ix,nN0,inn,this]
     | false =>
      rw [hin] at inn
      cases c with
      | tup ps =>
       have hnl:k∉left:=by simpa using hin
       have kg:=hg _ (List.mem_of_getElem? hk)
       have so:KH.zaC [zbW rows C cs,za9 cs,za0 cs,.int (k:Nat)]=.ok (.lst ((zct rows C cs g k).map encP)):=KH.zhV H h6 hk
       have hol:=zeC H cs g k
       have hpb:zbV rows C N (n+1) cs left (.tup [.str w,.int (k:Nat),.tup ps])=((ps.length==(zct rows C cs g k).length+1)&&(zew (fun p e=>zbV rows C N n (cs.set k (g,some p)) left e) (zct rows C cs g k) ps&&zbV rows C N n cs (left++[k]) (ps.getLast?.getD .non))):=by
        simp only [zbV,isStr,hw,hwt,hk,Int.toNat_natCast,Bool.true_and,hin,Bool.not_false]
       rw [hpb]
       generalize zct rows C cs g k=op at so hol
       by_cases hlen:ps.length=op.length+1
       ·have hlen':(ps.length:Int)=(op.length:Int)+1:=by lia
        obtain ⟨l,hl⟩:∃ l,ps.getLast?=some l:=by
         cases ps with
         | nil=>simp at hlen
         | cons a r=>exact ⟨_,List.getLast?_eq_some_getLast (by simp)⟩
        have il:=zpO hl
        have hlin:TrN n l:=hps ps rfl l (List.mem_of_getLast? hl)
        have n2:=zjM hk hnl
        have el:=ih cs (left++[k]) l h6 hg (by simp;lia) (by lia) hlin
        rw [List.map_append] at el
        have el2:zaX n [zbW rows C cs,za9 cs,.int N,l,za0 cs,.lst (left.map (fun n=>D.int (n:Nat))++[.int (k:Nat)])]=_:=el
        have hlf':left.length+1≤16777216:=by lia
        rw [hl]
        simp [zaw,zeK,line,n13,i0,i1,i2,eN,hgl,a0,a1,ix,nN0,inn,so,hlen']
        refine zlG (f:=fun p e=>zbV rows C N n (cs.set k (g,some p)) left e) (I:=fun ρ=>∃ x7 x8,ρ=[v (zbW rows C cs),v (za9 cs),vi N,v (.tup [.str w,.int (k:Nat),.tup ps]),v (za0 cs),v (.lst (left.map fun n=>D.int (n:Nat))),vi (k:Nat),v (.lst (op.map encP)),x7,x8]) ⟨none,none,rfl⟩ ?_ ?_ ?_
        ·rintro ρ p e ⟨x7,x8,rfl⟩ ⟨m,hm1,hm2⟩
         have n1:=zl9 hk hnl p
         have:=ih (cs.set k (g,some p)) left e (by rw [zjv];exact h6) (fun x hx=>by
          rcases List.mem_or_eq_of_mem_set hx with z | z
          ·exact hg x z
          ·rw [z];exact kg) (by lia) (by lia) (hps ps rfl e (List.mem_of_getElem? hm2))
         rw [show za9 (cs.set k (g,some p))=za9 cs from zfr hk (some p),show zbW rows C (cs.set k (g,some p))=zbW rows C cs from zhu hk (some p)] at this
         cases hpe:zbV rows C N n (cs.set k (g,some p)) left e with
         | true =>
          rw [hpe] at this
          simp [(ze9 h6 hk p).2,this]
         | false =>
          rw [hpe] at this
          simp [(ze9 h6 hk p).2,this]
        ·intro h
         simp [h,hlen]
        ·rintro h ρ ⟨x7,x8,rfl⟩
         simp [h,i2,il,el2,line,hlen,zme,hlf']
       ·have hlen':¬ (ps.length:Int)=(op.length:Int)+1:=by lia
        simp [zaw,zeK,line,n13,i0,i1,i2,eN,hgl,a0,a1,ix,nN0,inn,so,hlen',hlen]
      | _=>simp [zaw,zeK,line,n13,i0,i1,i2,eN,hgl,a0,a1,ix,nN0,inn,zbV]
theorem znQ {w:List Nat} {b:D} {ps:List D} (h:∀ p∈ps,∀ m,TrN m p):∀ m,TrN m (.tup [.str w,b,.tup ps]):=fun m=>by
 cases m with
 | zero=>trivial
 | succ m =>
  refine .inr (.inr (.inr (.inr ⟨_,_,_,rfl,fun qs e=>?_⟩)))
  cases e
  exact fun p hp=>h p hp m
theorem zrD {w:List Nat} {b:D} {ps:List D}:∀ m,TrN m (.tup [.str w,b,.lst ps]):=fun m=>by
 cases m with
 | zero=>trivial
 | succ m=>exact .inr (.inr (.inr (.inr ⟨_,_,_,rfl,fun qs e=>nomatch e⟩)))
theorem ztJ {w:List Nat} {b:D}:∀ m,TrN m (.tup [.str w,b]):=fun m=>by
 cases m with
 | zero=>trivial
 | succ m=>exact .inr (.inr (.inr (.inl ⟨_,_,rfl⟩)))
theorem zo7 {w:List Nat}:∀ m,TrN m (.tup [.str w]):=fun m=>by
 cases m with
 | zero=>trivial
 | succ m=>exact .inr (.inr (.inl ⟨_,rfl⟩))
theorem ztK:∀ m,TrN m (.tup []):=fun m=>by
 cases m with
 | zero=>trivial
 | succ m=>exact .inr (.inl rfl)
theorem ztI {xs:List D}:∀ m,TrN m (.lst xs):=fun m=>by
 cases m with
 | zero=>trivial
 | succ m=>exact .inl ⟨_,rfl⟩
theorem ziA.pap:∀ (n:Nat) {d:D},ziA n d→∀ m,TrN m d
 | 0,_,h,_=>h.elim
 | n+1,d,h,m=>by
  rcases h with rfl | ⟨k,ps,rfl,h0,hl,hp⟩
  ·exact zo7 m
  ·exact znQ (fun p hp'=>ziA.pap n (hp p hp')) m
theorem ztS (a b c d e f:D) {z:Int} (h0:0≤z) (h1:z < 6):∃ y,oIx (.lst [a,b,c,d,e,f]) (.int z)=.ok y:=by
 obtain ⟨y,_,e,_⟩:=zgQ (xs:=[a,b,c,d,e,f]) (i:=z) h0 (by simp;lia)
 exact ⟨y,e⟩
theorem zo4 : ∀ (n : Nat) {d : D} (c : Int) {many : Int}, 0 ≤ many → ziA n d → ∀ f, n ≤ f → ∃ e, zbO f [d, .int c, .int many] = .ok e ∧ ∀ m, TrN m e := by
 intro n
 induction n with
 | zero=>intro d c many _ h;exact h.elim
 | succ n ih =>
  intro d c many hm h f hf
  obtain ⟨f,rfl⟩:∃ f',f=f'+1:=⟨f-1,by lia⟩
  rw [zj6]
  have:Ok (zcL (zbm (zbO f) [v d,v (.int c),v (.int many),none,none])) fun e=>∀ m,TrN m e:=by
   refine zeB ?_
   rcases h with rfl | ⟨k,ps,rfl,hps0,hl,hp⟩
   ·have l1:zdh (.tup [.str endC])=.ok (.int 1):=rfl
    have hm1:0 < many+1:=by lia
    simp [zbm,l1,line,zau,hm1]
    refine zgR (by lia) (by simp;lia) ?_
    intro e he
    simp at he
    rcases he with rfl | rfl | rfl | rfl | rfl | rfl | rfl
    ·exact ztJ
    ·exact zo7
    ·exact ztI
    ·refine znQ (fun p hp=>?_)
     rw [List.mem_singleton.mp hp]
     exact zo7
    ·exact ztK
    ·exact zo7
    ·exact zo7
   ·obtain ⟨y,hy⟩:=ztS (.int many) (.int (-1)) (.bl true) .non (.int (k+1)) (.int 0) (z:=c / 24 % 6) (by lia) (by lia)
    have i0:oIx (.tup [.str zek,.int k,.tup ps]) (.int 0)=.ok (.str zek):=rfl
    have i1:oIx (.tup [.str zek,.int k,.tup ps]) (.int 1)=.ok (.int k):=rfl
    have i2:oIx (.tup [.str zek,.int k,.tup ps]) (.int 2)=.ok (.tup ps):=rfl
    have s1:oSl (.tup [.str zek,.int k,.tup ps]) (some 1) none=.ok (.tup [.int k,.tup ps]):=rfl
    have l3:zdh (.tup [.str zek,.int k,.tup ps])=.ok (.int 3):=rfl
    have hpp:∀ p∈ps,∀ m,TrN m p:=fun p h'=>ziA.pap n (hp p h')
    by_cases h3:0 < c / 8 % 3
    ·have hpos:(0:Int) < (ps.length:Int):=by lia
     obtain ⟨z,hz⟩:=zdj (z:=c / 24 % (ps.length:Int)) (Int.emod_nonneg _ (by lia))
     have hz2:=Int.emod_lt_of_pos (c / 24) hpos
     have hzl:z < ps.length:=by lia
     obtain ⟨p,ep⟩:∃ p,ps[z]?=some p:=⟨_,List.getElem?_eq_getElem hzl⟩
     have ip:=(zdk (xs:=ps) (i:=(z:Nat)) (j:=z) rfl ep).1
     obtain ⟨e,he,hpe⟩:=ih (c / 24) hm (hp p (List.mem_of_getElem? ep)) f (by lia)
     have c1:=ze5 ps none (some (z:Int))
     have c2:=ze5 ps (some ((z:Int)+1)) none
     have g1:(cut ps none (some (z:Int))).length+1≤16777216:=by lia
     have g2:(cut ps none (some (z:Int))).length+1+(cut ps (some ((z:Int)+1)) none).length≤16777216:=by lia
     simp [zbm,l3,i0,i1,i2,line,zau,h3,hpos,hps0,hz,ip,he,g1,g2,zjw hzl]
     refine znQ (fun q hq=>?_)
     rcases List.mem_or_eq_of_mem_set hq with h' | rfl
     ·exact hpp q h'
     ·exact hpe
    ·have c1 := ze5 ps (some (-1)) none
     have g1:ps.length+(cut ps (some (-1)) none).length≤16777216:=by lia
     by_cases w0:c % 7=0
     ·simp [zbm,l3,h3,w0,i0,i1,i2,line,zau,hy]
      exact znQ hpp
     ·by_cases w1:c % 7=1
      ·simp [zbm,l3,h3,w1,line,zau,s1]
       exact znQ hpp
      ·by_cases w2:c % 7=2
       ·simp [zbm,l3,h3,w2,line,zau]
        exact zo7
       ·by_cases w3:c % 7=3
        ·simp [zbm,l3,h3,w3,line,zau,i0,i1,i2,g1]
         refine znQ (fun q hq=>?_)
         rcases List.mem_append.mp hq with h' | h'
         ·exact hpp q h'
         ·exact hpp q (K64.zgP h')
        ·by_cases w4:c % 7=4
         ·simp [zbm,l3,h3,w4,line,zau,i0,i1,i2]
          exact znQ (fun q hq=>hpp q (K64.zgP hq))
         ·by_cases w5:c % 7=5
          ·simp [zbm,l3,h3,w5,line,zau,i0,i1,i2]
           exact zrD
          ·simp [zbm,l3,h3,w0,w1,w2,w3,w4,w5,line,zau,i0,i1,i2]
           exact znQ (fun q hq=>hpp q (List.mem_reverse.mp hq))
  obtain ⟨e,h1,h2⟩:=this
  exact ⟨e,h1,h2⟩
theorem zlK (a b:Bool):zda [.bl a,.bl b]=.ok (.bl (a==b)):=by
 rw [zj0]
 refine za2 ?_
 simp [zd9,zeK]
theorem holds (ns:List Int) (hn:ns.length≤63) (hb:∀ i∈ns,bits i≤2 ^ 20):zi0 [.lst (ns.map .int)]=.ok (.bl true):=by
 rw [zp7]
 refine za2 ?_
 obtain ⟨rows,C,a,b,H,ha,hlb,eh⟩:=KH.zlp hb
 obtain ⟨gs0,hg60,hgs00,eg0⟩:=KH.zlq hb ha hlb
 obtain ⟨gs,hg6,hsub,efew⟩:=zp6 H.toHall hg60 (fun g h=>(hgs00 g h).toGOk)
 have hgs0:∀ g∈gs,GrpP g:=fun g h=>hgs00 g (hsub g h)
 have hgs:∀ g∈gs,GOk g:=fun g h=>(hgs0 g h).toGOk
 obtain ⟨zs,hzs,hgood,es⟩:=zlO H.toHall hb hg6
 have hzl:zs.length=gs.length:=by rw [←hzs,List.length_map]
 obtain ⟨c16,ec16,_⟩:=zeo hb (k:=16) (by decide)
 obtain ⟨c0,ec0,_⟩:=zeo hb (k:=0) (by decide)
 obtain ⟨c1,ec1,_⟩:=zeo hb (k:=1) (by decide)
 obtain ⟨m5,em5,_⟩:=mixed (c16+c0) (k:=5) (by decide) (by decide)
 obtain ⟨m72,em72,_⟩:=mixed c1 (k:=72) (by decide) (by decide)
 obtain ⟨xs,hxs,hxz,hk,ef⟩:=zny (rows:=rows) (xs:=zs) (by lia) hgood m5
 rw [hzs] at hxs
 have hxl:xs.length≤6:=by
  have:=congrArg List.length hxs
  rw [List.length_map] at this
  lia
 have hxp:∀ x∈xs,GrpP x.1:=fun x hx=>hgs0 x.1 (by rw [←hxs];exact List.mem_map.mpr ⟨x,hx,rfl⟩)
 have hok:∀ x∈xs,GOk x.1:=fun x hx=>(hxp x hx).toGOk
 have eG:D.tup (gs.map zbT)=za9 xs:=by rw [za9,←hxs,List.map_map];rfl
 have eS:D.lst (gs.map fun g=>.lst ((places rows C g).map encP))=zbW rows C xs:=by rw [zbW,←hxs,List.map_map];rfl
 have hl6:gs.length≤16777216:=by lia
 have hgl:zdh (za9 xs)=.ok (.int xs.length):=by simp [za9]
 have gX3:∀ (p q r:D) (ρ:Env),znu [1,2,3] (.tup [p,q,r]) ρ=.ok (((ρ.set 1 (v p)).set 2 (v q)).set 3 (v r)):=fun _ _ _ _=>rfl
 simp [zmM,eh,gX3,eg0,efew,zbC,line,zcJ,zbP,hl6]
 refine zbQ zbT (fun _=>true) (fun g=>.lst ((places rows C g).map encP)) ?_ ?_
 ·intro g hg
  simp [KH.zer H.toHall (hgs g hg)]
 rw [zeR]
 rw [eS,eG] at es
 rw [eS,eG]
 have hn9:nW xs [] < 9:=by
  have:=List.length_filter_le (zbi xs []) (List.range xs.length)
  rw [List.length_range] at this
  unfold nW
  lia
 have both:∀ (N:Int) (d:D),(∀ m,TrN m d)→zdB [zfO rows,za9 xs,.int N,d,za0 xs]=.ok (.bl (zbV rows C N 9 xs [] d))∧zaX 9 [zbW rows C xs,za9 xs,.int N,d,za0 xs,.lst []]=.ok (.bl (zbV rows C N 9 xs [] d)):=fun N d hd=>by
  refine ⟨zmJ H.toHall hxl hok hk ?_,?_⟩
  ·exact zsx H.toHall N 9 xs [] d hxl hxp (by decide) hn9 (hd 9)
  ·exact zlo H.toHall N 9 xs [] d hxl hxp (by decide) hn9 (hd 9)
 obtain ⟨t,et,tt⟩:=zn6 H.toHall 9 xs [] m72 hxl (by decide) hn9
 rw [List.map_nil] at et
 have ey:=znH H.toHall hxl hxp []
 rw [List.map_nil] at ey
 generalize zmb rows C xs []=W at ey
 simp [ec16,ec0,em5,es,ef,ec1,em72,et,ey,line]
 refine zcQ (fun i ρ=>∃ x y z,ρ=[v (.lst (ns.map .int)),v (zfO rows),v (.str [a]),v (.str [b]),v (za9 xs),v (zbW rows C xs),vi m5,v (za0 xs),vi m72,v t,vi W,x,y,z]) ⟨none,none,none,rfl⟩ ?_ ?_
 ·rintro j d ρ hj ⟨x,y,z,rfl⟩
  obtain ⟨hj3,rfl⟩:j < 4∧d=.int (j:Nat):=by
   match j,hj with
   | 0,hj=>cases hj;exact ⟨by decide,rfl⟩
   | 1,hj=>cases hj;exact ⟨by decide,rfl⟩
   | 2,hj=>cases hj;exact ⟨by decide,rfl⟩
   | 3,hj=>cases hj;exact ⟨by decide,rfl⟩
  obtain ⟨mj,emj,_⟩:=mixed m72 (k:=(j:Nat)) (by lia) (by lia)
  obtain ⟨m2,em2,_⟩:=mixed m72 (k:=10+(j:Nat)) (by lia) (by lia)
  obtain ⟨q,iq⟩:∃ q:Int,oIx (.lst [.int 0,.int 1,.int 2,.int 5]) (.int (mj % 4))=.ok (.int q):=by
   obtain ⟨y,hy,e,_⟩:=zgQ (xs:=[D.int 0,.int 1,.int 2,.int 5]) (i:=mj % 4) (by lia) (by simp;lia)
   simp at hy
   rcases hy with rfl | rfl | rfl | rfl<;>exact ⟨_,e⟩
  by_cases h0:0 < j
  ·obtain ⟨e,ee,he⟩:=zo4 9 m2 (many:=(xs.length:Int)) (by lia) tt 9 (by decide)
   obtain ⟨b1,b2⟩:=both (W-q) e he
   simp [emj,iq,h0,em2,hgl,ee,b1,b2,zlK,line]
  ·obtain ⟨b1,b2⟩:=both (W-q) t (ziA.pap 9 tt)
   simp [emj,iq,h0,b1,b2,zlK,line]
 ·rintro ρ ⟨x,y,z,rfl⟩
  simp
end K64
set_option maxRecDepth 100000
namespace K64
open PySem PySem.Spec PyProof.Rows L2 ZQ KG KH
noncomputable def top (i:Nat):Stmt:=PySem.Challenge.pw_besideseats_k64_trees_looked_at.main.body.getD i (.Pass ⟨0,0,0,0⟩)
theorem zk9:bootBuiltins "all" = some (.builtin "all"):=by kernel_rfl
theorem zkA:bootBuiltins "bool" = some (.type "bool"):=by kernel_rfl
theorem zmL:bootBuiltins "int" = some (.type "int"):=by kernel_rfl
theorem zbf:bootBuiltins "isinstance" = some (.builtin "isinstance"):=by kernel_rfl
theorem zbl:bootBuiltins "len" = some (.builtin "len"):=by kernel_rfl
theorem zo5:bootBuiltins "list" = some (.type "list"):=by kernel_rfl
theorem zk8:bootBuiltins "max" = some (.builtin "max"):=by kernel_rfl
theorem zqr:bootBuiltins "str" = some (.type "str"):=by kernel_rfl
theorem zn1:bootBuiltins "sum" = some (.builtin "sum"):=by kernel_rfl
theorem zb5:bootBuiltins "tuple" = some (.type "tuple"):=by kernel_rfl
noncomputable abbrev zcn:Stmt:=top 4
theorem zgH:FnScope ["thing"] ["thing"] (defScope zcn):=⟨rfl,rfl,rfl,by decide +kernel,rfl,by decide +kernel,by decide +kernel⟩
theorem zkm {P:Program} {w:World} {K:PySem.W.Frag} {mg:Str→Option Value} {base:Heap} (g_bool:mg "bool" = none) (g_int:mg "int" = none) (g_isinstance:mg "isinstance" = none) (f:Addr) (cdv:Value) (A:Around) (outer:List PySem.Env) (s:Shared) (H:Hp) (E:XK) (hr:Room 0 (A.deeper (envOfC "is_whole" (defScope zcn) s.heap.objs.size f cdv))) :
  QSs (cxOf CX0 P w K mg base ["thing"] "is_whole" (defScope zcn) f cdv A outer s H E).nox H (defBody zcn) zee:=by
 have nd:=zgH.nd
 have hu:=hr.units
 exact (zah (zap (zeV (zb6 .int rfl g_isinstance zbf rfl g_int zmL (zaj 0)) (zd2 (zmx (zb6 .bool rfl g_isinstance zbf rfl g_bool zkA (zaj 0)))))))
theorem zjJ {P:Program} {w:World} {K:PySem.W.Frag} {mg:Str→Option Value} {base:Heap} (d:ZS.Def K mg "is_whole" zcn ["thing"]) (g_bool:mg "bool" = none) (g_int:mg "int" = none) (g_isinstance:mg "isinstance" = none):ZS.Cal P w K mg base "is_whole" 1 ["thing"] zcX :=
 zds (N:=["thing"]) (b:=zee) d zgH (zkm g_bool g_int g_isinstance)
noncomputable abbrev zaK:Stmt:=top 5
theorem zdJ:FnScope ["thing", "least", "most"] ["thing", "least", "most"] (defScope zaK):=⟨rfl,rfl,rfl,by decide +kernel,rfl,by decide +kernel,by decide +kernel⟩
theorem zft {P:Program} {w:World} {K:PySem.W.Frag} {mg:Str→Option Value} {base:Heap} (C_is_whole:ZS.Cal P w K mg base "is_whole" 1 ["thing"] (zcX)) (f:Addr) (cdv:Value) (A:Around) (outer:List PySem.Env) (s:Shared) (H:Hp) (E:XK) (hr:Room 1 (A.deeper (envOfC "is_whole_within" (defScope zaK) s.heap.objs.size f cdv))) :
  QSs (cxOf CX0 P w K mg base ["thing", "least", "most"] "is_whole_within" (defScope zaK) f cdv A outer s H E).nox H (defBody zaK) zba:=by
 have nd:=zdJ.nd
 have hu:=hr.units
 exact (zah (zap (zeV (zai C_is_whole (hr.mono (by decide)) rfl (zaa (zao 0) zag)) (zd2 (ziu ZS.zjo ZS.zjo (zaj 1) (zaj 0) (zaj 2))))))
theorem zfk {P:Program} {w:World} {K:PySem.W.Frag} {mg:Str→Option Value} {base:Heap} (d:ZS.Def K mg "is_whole_within" zaK ["thing", "least", "most"]) (C_is_whole:ZS.Cal P w K mg base "is_whole" 1 ["thing"] (zcX)):ZS.Cal P w K mg base "is_whole_within" 2 ["thing", "least", "most"] za7 :=
 zds (N:=["thing", "least", "most"]) (b:=zba) d zdJ (zft C_is_whole)
noncomputable abbrev zcb:Stmt:=top 14
theorem zgx:FnScope ["group", "row"] ["group", "row"] (defScope zcb):=⟨rfl,rfl,rfl,by decide +kernel,rfl,by decide +kernel,by decide +kernel⟩
theorem zka {P:Program} {w:World} {K:PySem.W.Frag} {mg:Str→Option Value} {base:Heap} (g_sum:mg "sum" = none) {t_WISHES:Tok} (c_WISHES:mg "WISHES" = some (.int 7 t_WISHES)) {t_WORTH:Tok} (c_WORTH:mg "WORTH" = some (.int 6 t_WORTH)) (f:Addr) (cdv:Value) (A:Around) (outer:List PySem.Env) (s:Shared) (H:Hp) (E:XK) (hr:Room 0 (A.deeper (envOfC "worth_in" (defScope zcb) s.heap.objs.size f cdv))) :
  QSs (cxOf CX0 P w K mg base ["group", "row"] "worth_in" (defScope zcb) f cdv A outer s H E).nox H (defBody zcb) zd4:=by
 have nd:=zgx.nd
 have hu:=hr.units
 exact (zah (zap (zam (zaf (zal (zaj 0) (zaf (zcs rfl c_WORTH)))) (zaf (zk2 rfl g_sum zn1 (zes (zcp rfl (zdt (zaf (zal (zaj 0) (zaf (zcs rfl c_WISHES))))) (N':=["wish", "row"]) (n:=1) (is:=[1]) (ZS.Blk.of (by kernel_rfl)) (ZS.zaQ (by decide)) (fun _ _ _ _ _ _=>(zaH (i:=0) (show List.Nodup (["wish", "row"]:List Str) by decide +kernel) rfl (by first | exact Or.inl rfl | exact Or.inr rfl))) (fun _ _ _ _ _=>(zdN (zas (ZS.zgn hu) (zaf (zal (zaj 0) (zaf zac))) (zaj 1) (nomark _)))) (fun _ _ _ _ _=>(zal (zaj 0) (zaf zac))))))))))
theorem zjz {P:Program} {w:World} {K:PySem.W.Frag} {mg:Str→Option Value} {base:Heap} (d:ZS.Def K mg "worth_in" zcb ["group", "row"]) (g_sum:mg "sum" = none) {t_WISHES:Tok} (c_WISHES:mg "WISHES" = some (.int 7 t_WISHES)) {t_WORTH:Tok} (c_WORTH:mg "WORTH" = some (.int 6 t_WORTH)):ZS.Cal P w K mg base "worth_in" 1 ["group", "row"] zbL :=
 zds (N:=["group", "row"]) (b:=zd4) d zgx (zka g_sum c_WISHES c_WORTH)
noncomputable abbrev zcM:Stmt:=top 16
theorem zhw:FnScope ["hall", "seat", "row", "column"] ["hall", "seat"] (defScope zcM):=⟨rfl,rfl,rfl,by decide +kernel,rfl,by decide +kernel,by decide +kernel⟩
theorem zlv {P:Program} {w:World} {K:PySem.W.Frag} {mg:Str→Option Value} {base:Heap} (g_len:mg "len" = none) (f:Addr) (cdv:Value) (A:Around) (outer:List PySem.Env) (s:Shared) (H:Hp) (E:XK) (hr:Room 0 (A.deeper (envOfC "sign_at" (defScope zcM) s.heap.objs.size f cdv))) :
  QSs (cxOf CX0 P w K mg base ["hall", "seat", "row", "column"] "sign_at" (defScope zcM) f cdv A outer s H E).nox H (defBody zcM) KG.zc8:=by
 have nd:=zhw.nd
 have hu:=hr.units
 exact (zae (zan (i:=2) nd rfl (by first | exact Or.inl rfl | exact Or.inr rfl) (zal (zaj 1) (zaf zac))) (zae (zan (i:=3) nd rfl (by first | exact Or.inl rfl | exact Or.inr rfl) (zal (zaj 1) (zaf zac))) (zae (zbr (dtw (zet (zfs ZS.zjo ZS.zqo (zaf zac) (zaj 2) (zaf (zbb rfl g_len zbl (zaj 0)))) (zdU (zfs ZS.zjo ZS.zqo (zaf zac) (zaj 3) (zaf (zbb rfl g_len zbl (zaf (zal (zaj 0) (zaf zac))))))))) (zah (zap (zal (zaf (zal (zaj 0) (zaj 2))) (zaj 3)))) zay) (zah (zap zg8)))))
theorem zlf {P:Program} {w:World} {K:PySem.W.Frag} {mg:Str→Option Value} {base:Heap} (d:ZS.Def K mg "sign_at" zcM ["hall", "seat"]) (g_len:mg "len" = none):ZS.Cal P w K mg base "sign_at" 1 ["hall", "seat"] KG.zc9 :=
 zds (N:=["hall", "seat", "row", "column"]) (b:=KG.zc8) d zhw (zlv g_len)
noncomputable abbrev zdP:Stmt:=top 18
theorem zkK:FnScope ["sign", "kind"] ["sign", "kind"] (defScope zdP):=⟨rfl,rfl,rfl,by decide +kernel,rfl,by decide +kernel,by decide +kernel⟩
theorem znA {P:Program} {w:World} {K:PySem.W.Frag} {mg:Str→Option Value} {base:Heap}  (f:Addr) (cdv:Value) (A:Around) (outer:List PySem.Env) (s:Shared) (H:Hp) (E:XK) (hr:Room 0 (A.deeper (envOfC "takes" (defScope zdP) s.heap.objs.size f cdv))) :
  QSs (cxOf CX0 P w K mg base ["sign", "kind"] "takes" (defScope zdP) f cdv A outer s H E).nox H (defBody zdP) KG.zfV:=by
 have nd:=zkK.nd
 have hu:=hr.units
 exact (zah (zap (zmw (zcK (ZS.zst hu) (zaj 0) (zaf (za8 (zad (zax (by decide +kernel)) (zad (zax (by decide +kernel)) zag)))) (by with_unfolding_all rfl)) (zd2 (zcK (ZS.zgn hu) (zaj 0) (zaj 1) (nomark _))))))
theorem znb {P:Program} {w:World} {K:PySem.W.Frag} {mg:Str→Option Value} {base:Heap} (d:ZS.Def K mg "takes" zdP ["sign", "kind"])  : ZS.Cal P w K mg base "takes" 1 ["sign", "kind"] KG.zei :=
 zds (N:=["sign", "kind"]) (b:=KG.zfV) d zkK (znA )
noncomputable abbrev zcd:Stmt:=top 19
theorem zgz:FnScope ["group", "place", "seats", "row"] ["group", "place"] (defScope zcd):=⟨rfl,rfl,rfl,by decide +kernel,rfl,by decide +kernel,by decide +kernel⟩
theorem zkc {P:Program} {w:World} {K:PySem.W.Frag} {mg:Str→Option Value} {base:Heap} (g_range:mg "range" = none) (g_tuple:mg "tuple" = none) {t_DEPTH:Tok} (c_DEPTH:mg "DEPTH" = some (.int 2 t_DEPTH)) {t_WIDTH:Tok} (c_WIDTH:mg "WIDTH" = some (.int 1 t_WIDTH)) (f:Addr) (cdv:Value) (A:Around) (outer:List PySem.Env) (s:Shared) (H:Hp) (E:XK) (hr:Room 0 (A.deeper (envOfC "seats_of" (defScope zcd) s.heap.objs.size f cdv))) :
  QSs (cxOf CX0 P w K mg base ["group", "place", "seats", "row"] "seats_of" (defScope zcd) f cdv A outer s H E).nox H (defBody zcd) KG.zd6:=by
 have nd:=zgz.nd
 have hu:=hr.units
 exact (zae (zeu (i:=2) nd rfl (by first | exact Or.inl rfl | exact Or.inr rfl) (zaz zag)) (zae (zcr PassesOwn.never rfl (zg4 rfl g_range (zal (zaj 1) (zaf zac)) (zam (zaf (zal (zaj 1) (zaf zac))) (zaf (zal (zaj 0) (zaf (zcs rfl c_DEPTH)))))) (zaH (i:=3) nd rfl (by first | exact Or.inl rfl | exact Or.inr rfl)) (zah (zn0 (i:=2) (pv 2) (zcp rfl (zmu (zg4 rfl g_range (zal (zaj 1) (zaf zac)) (zam (zaf (zal (zaj 1) (zaf zac))) (zaf (zal (zaj 0) (zaf (zcs rfl c_WIDTH))))))) (N':=["column", "row"]) (n:=1) (is:=[3]) (ZS.Blk.of (by kernel_rfl)) (ZS.zaQ (by decide)) (fun _ _ _ _ _ _=>(zaH (i:=0) (show List.Nodup (["column", "row"]:List Str) by decide +kernel) rfl (by first | exact Or.inl rfl | exact Or.inr rfl))) (fun _ _ _ _ _=>zdi) (fun _ _ _ _ _=>(za8 (zaa (zao 1) (zaa (zao 0) zag)))))))) (zah (zap (zcG rfl g_tuple zb5 (zaj 2))))))
theorem zjB {P:Program} {w:World} {K:PySem.W.Frag} {mg:Str→Option Value} {base:Heap} (d:ZS.Def K mg "seats_of" zcd ["group", "place"]) (g_range:mg "range" = none) (g_tuple:mg "tuple" = none) {t_DEPTH:Tok} (c_DEPTH:mg "DEPTH" = some (.int 2 t_DEPTH)) {t_WIDTH:Tok} (c_WIDTH:mg "WIDTH" = some (.int 1 t_WIDTH)):ZS.Cal P w K mg base "seats_of" 1 ["group", "place"] KG.zcV :=
 zds (N:=["group", "place", "seats", "row"]) (b:=KG.zd6) d zgz (zkc g_range g_tuple c_DEPTH c_WIDTH)
noncomputable abbrev zeO:Stmt:=top 20
theorem zlQ:FnScope ["hall", "group", "place", "signs"] ["hall", "group", "place"] (defScope zeO):=⟨rfl,rfl,rfl,by decide +kernel,rfl,by decide +kernel,by decide +kernel⟩
theorem zoV {P:Program} {w:World} {K:PySem.W.Frag} {mg:Str→Option Value} {base:Heap} (C_seats_of:ZS.Cal P w K mg base "seats_of" 1 ["group", "place"] (KG.zcV)) (C_sign_at:ZS.Cal P w K mg base "sign_at" 1 ["hall", "seat"] (KG.zc9)) (C_takes:ZS.Cal P w K mg base "takes" 1 ["sign", "kind"] (KG.zei)) (g_all:mg "all" = none) {t_KIND:Tok} (c_KIND:mg "KIND" = some (.int 3 t_KIND)) {t_WIDE:Tok} (c_WIDE:mg "WIDE" = some (.int 4 t_WIDE)) (f:Addr) (cdv:Value) (A:Around) (outer:List PySem.Env) (s:Shared) (H:Hp) (E:XK) (hr:Room 1 (A.deeper (envOfC "fits" (defScope zeO) s.heap.objs.size f cdv))) :
  QSs (cxOf CX0 P w K mg base ["hall", "group", "place", "signs"] "fits" (defScope zeO) f cdv A outer s H E).nox H (defBody zeO) KG.zjl:=by
 have nd:=zlQ.nd
 have hu:=hr.units
 exact (zae (zel (i:=3) rfl nd rfl (by first | exact Or.inl rfl | exact Or.inr rfl) (zdt (zaf (zai C_seats_of (hr.mono (by decide)) rfl (zaa (zao 1) (zaa (zao 2) zag))))) (N':=["seat", "hall"]) (n:=1) (is:=[0]) (ZS.Blk.of (by kernel_rfl)) (ZS.zaQ (by decide)) (fun _ _ _ _ _ _=>(zaH (i:=0) (show List.Nodup (["seat", "hall"]:List Str) by decide +kernel) rfl (by first | exact Or.inl rfl | exact Or.inr rfl))) (fun _ _ _ _ _=>zdi) (fun _ _ _ _ _=>(zai C_sign_at (hr.mono (by decide)) rfl (zaa (zao 1) (zaa (zao 0) zag))))) (zae (zbr (zdC (zhl (zhL rfl g_all zk9 (zes (zcp rfl (zdt (zaj 3)) (N':=["sign", "group"]) (n:=1) (is:=[1]) (ZS.Blk.of (by kernel_rfl)) (ZS.zaQ (by decide)) (fun _ _ _ _ _ _=>(zaH (i:=0) (show List.Nodup (["sign", "group"]:List Str) by decide +kernel) rfl (by first | exact Or.inl rfl | exact Or.inr rfl))) (fun _ _ _ _ _=>zdi) (fun _ _ _ _ _=>(zai C_takes (hr.mono (by decide)) rfl (zaa (zao 0) (zaD (zal (zaj 1) (zaf (zcs rfl c_KIND))) zag))))))))) (zah (zap zdV)) zay) (zah (zap (zcK ZS.zsu (zaf (zit hu (zaj 3) (zaf (zax (by decide +kernel))))) (zaf (zal (zaj 1) (zaf (zcs rfl c_WIDE)))) (nomark _))))))
theorem zox {P:Program} {w:World} {K:PySem.W.Frag} {mg:Str→Option Value} {base:Heap} (d:ZS.Def K mg "fits" zeO ["hall", "group", "place"]) (C_seats_of:ZS.Cal P w K mg base "seats_of" 1 ["group", "place"] (KG.zcV)) (C_sign_at:ZS.Cal P w K mg base "sign_at" 1 ["hall", "seat"] (KG.zc9)) (C_takes:ZS.Cal P w K mg base "takes" 1 ["sign", "kind"] (KG.zei)) (g_all:mg "all" = none) {t_KIND:Tok} (c_KIND:mg "KIND" = some (.int 3 t_KIND)) {t_WIDE:Tok} (c_WIDE:mg "WIDE" = some (.int 4 t_WIDE)):ZS.Cal P w K mg base "fits" 2 ["hall", "group", "place"] KG.zdT :=
 zds (N:=["hall", "group", "place", "signs"]) (b:=KG.zjl) d zlQ (zoV C_seats_of C_sign_at C_takes g_all c_KIND c_WIDE)
noncomputable abbrev zbE:Stmt:=top 21
theorem zfZ:FnScope ["hall", "group", "places", "row"] ["hall", "group"] (defScope zbE):=⟨rfl,rfl,rfl,by decide +kernel,rfl,by decide +kernel,by decide +kernel⟩
theorem zjb {P:Program} {w:World} {K:PySem.W.Frag} {mg:Str→Option Value} {base:Heap} (C_fits:ZS.Cal P w K mg base "fits" 2 ["hall", "group", "place"] (KG.zdT)) (g_len:mg "len" = none) (g_range:mg "range" = none) (g_tuple:mg "tuple" = none) (f:Addr) (cdv:Value) (A:Around) (outer:List PySem.Env) (s:Shared) (H:Hp) (E:XK) (hr:Room 2 (A.deeper (envOfC "places_of" (defScope zbE) s.heap.objs.size f cdv))) :
  QSs (cxOf CX0 P w K mg base ["hall", "group", "places", "row"] "places_of" (defScope zbE) f cdv A outer s H E).nox H (defBody zbE) KG.zdE:=by
 have nd:=zfZ.nd
 have hu:=hr.units
 exact (zae (zeu (i:=2) nd rfl (by first | exact Or.inl rfl | exact Or.inr rfl) (zaz zag)) (zae (zcr PassesOwn.never rfl (zbU rfl g_range (zbb rfl g_len zbl (zaj 0))) (zaH (i:=3) nd rfl (by first | exact Or.inl rfl | exact Or.inr rfl)) (zah (zn0 (i:=2) (pv 2) (zcp rfl (zmu (zbU rfl g_range (zbb rfl g_len zbl (zaf (zal (zaj 0) (zaj 3)))))) (N':=["column", "hall", "group", "row"]) (n:=1) (is:=[0,1,3]) (ZS.Blk.of (by kernel_rfl)) (ZS.zaQ (by decide)) (fun _ _ _ _ _ _=>(zaH (i:=0) (show List.Nodup (["column", "hall", "group", "row"]:List Str) by decide +kernel) rfl (by first | exact Or.inl rfl | exact Or.inr rfl))) (fun _ _ _ _ _=>(zdN (zhl (zai C_fits (hr.mono (by decide)) rfl (zaa (zao 1) (zaa (zao 2) (zcR (za8 (zaa (zao 3) (zaa (zao 0) zag))) zag))))))) (fun _ _ _ _ _=>(za8 (zaa (zao 3) (zaa (zao 0) zag)))))))) (zah (zap (zcG rfl g_tuple zb5 (zaj 2))))))
theorem ziJ {P:Program} {w:World} {K:PySem.W.Frag} {mg:Str→Option Value} {base:Heap} (d:ZS.Def K mg "places_of" zbE ["hall", "group"]) (C_fits:ZS.Cal P w K mg base "fits" 2 ["hall", "group", "place"] (KG.zdT)) (g_len:mg "len" = none) (g_range:mg "range" = none) (g_tuple:mg "tuple" = none):ZS.Cal P w K mg base "places_of" 3 ["hall", "group"] KG.zcx :=
 zds (N:=["hall", "group", "places", "row"]) (b:=KG.zdE) d zfZ (zjb C_fits g_len g_range g_tuple)
noncomputable abbrev zdR:Stmt:=top 23
theorem zkM:FnScope ["one", "here", "other", "there", "gap"] ["one", "here", "other", "there"] (defScope zdR):=⟨rfl,rfl,rfl,by decide +kernel,rfl,by decide +kernel,by decide +kernel⟩
theorem znC {P:Program} {w:World} {K:PySem.W.Frag} {mg:Str→Option Value} {base:Heap} (g_max:mg "max" = none) {t_DEPTH:Tok} (c_DEPTH:mg "DEPTH" = some (.int 2 t_DEPTH)) {t_GAP:Tok} (c_GAP:mg "GAP" = some (.int 5 t_GAP)) {t_WIDTH:Tok} (c_WIDTH:mg "WIDTH" = some (.int 1 t_WIDTH)) (f:Addr) (cdv:Value) (A:Around) (outer:List PySem.Env) (s:Shared) (H:Hp) (E:XK) (hr:Room 0 (A.deeper (envOfC "apart" (defScope zdR) s.heap.objs.size f cdv))) :
  QSs (cxOf CX0 P w K mg base ["one", "here", "other", "there", "gap"] "apart" (defScope zdR) f cdv A outer s H E).nox H (defBody zdR) KG.zeH:=by
 have nd:=zkM.nd
 have hu:=hr.units
 exact (zae (zbr (dtw (ze3 (zas ZS.zjo (zaf (zam (zaf (zal (zaj 1) (zaf zac))) (zaf (zal (zaj 0) (zaf (zcs rfl c_DEPTH)))))) (zaf (zal (zaj 3) (zaf zac))) (nomark _)) (zeF (zas ZS.zjo (zaf (zam (zaf (zal (zaj 3) (zaf zac))) (zaf (zal (zaj 2) (zaf (zcs rfl c_DEPTH)))))) (zaf (zal (zaj 1) (zaf zac))) (nomark _))))) (zah (zap zdV)) zay) (zae (zan (i:=4) nd rfl (by first | exact Or.inl rfl | exact Or.inr rfl) (zis rfl g_max zk8 (zaf (zal (zaj 0) (zaf (zcs rfl c_GAP)))) (zaf (zal (zaj 2) (zaf (zcs rfl c_GAP)))))) (zah (zap (zmw (zcK ZS.zjo (zaf (zam (zaf (zam (zaf (zal (zaj 1) (zaf zac))) (zaf (zal (zaj 0) (zaf (zcs rfl c_WIDTH)))))) (zaj 4))) (zaf (zal (zaj 3) (zaf zac))) (nomark _)) (zd2 (zcK ZS.zjo (zaf (zam (zaf (zam (zaf (zal (zaj 3) (zaf zac))) (zaf (zal (zaj 2) (zaf (zcs rfl c_WIDTH)))))) (zaj 4))) (zaf (zal (zaj 1) (zaf zac))) (nomark _))))))))
theorem znd {P:Program} {w:World} {K:PySem.W.Frag} {mg:Str→Option Value} {base:Heap} (d:ZS.Def K mg "apart" zdR ["one", "here", "other", "there"]) (g_max:mg "max" = none) {t_DEPTH:Tok} (c_DEPTH:mg "DEPTH" = some (.int 2 t_DEPTH)) {t_GAP:Tok} (c_GAP:mg "GAP" = some (.int 5 t_GAP)) {t_WIDTH:Tok} (c_WIDTH:mg "WIDTH" = some (.int 1 t_WIDTH)):ZS.Cal P w K mg base "apart" 1 ["one", "here", "other", "there"] KG.zej :=
 zds (N:=["one", "here", "other", "there", "gap"]) (b:=KG.zeH) d zkM (znC g_max c_DEPTH c_GAP c_WIDTH)
noncomputable abbrev zaN:Stmt:=top 24
theorem zdX:FnScope ["groups", "seating"] ["groups", "seating"] (defScope zaN):=⟨rfl,rfl,rfl,by decide +kernel,rfl,by decide +kernel,by decide +kernel⟩
theorem zfR {P:Program} {w:World} {K:PySem.W.Frag} {mg:Str→Option Value} {base:Heap} (g_zip:mg "zip" = none) (f:Addr) (cdv:Value) (A:Around) (outer:List PySem.Env) (s:Shared) (H:Hp) (E:XK) (hr:Room 0 (A.deeper (envOfC "those_that_sit" (defScope zaN) s.heap.objs.size f cdv))) :
  QSs (cxOf CX0 P w K mg base ["groups", "seating"] "those_that_sit" (defScope zaN) f cdv A outer s H E).nox H (defBody zaN) KG.zb7:=by
 have nd:=zdX.nd
 have hu:=hr.units
 exact (zah (zap (zhK (zcp rfl (zmu (zhI rfl g_zip (zao 0) (zao 1))) (N':=["group", "place"]) (n:=2) (is:=[]) (ZS.Blk.of (by kernel_rfl)) (ZS.zfo (by decide)) (fun _ _ _ _ _ _=>(zeU rfl (zaG (i:=0) (show List.Nodup (["group", "place"]:List Str) by decide +kernel) rfl (by first | exact Or.inl rfl | exact Or.inr rfl) (zaG (i:=1) (show List.Nodup (["group", "place"]:List Str) by decide +kernel) rfl (by first | exact Or.inl rfl | exact Or.inr rfl) zde)) rfl)) (fun _ _ _ _ _=>(zdN (zfP (zaj 1)))) (fun _ _ _ _ _=>(za8 (zaa (zao 0) (zaa (zao 1) zag))))))))
theorem zfF {P:Program} {w:World} {K:PySem.W.Frag} {mg:Str→Option Value} {base:Heap} (d:ZS.Def K mg "those_that_sit" zaN ["groups", "seating"]) (g_zip:mg "zip" = none):ZS.Cal P w K mg base "those_that_sit" 1 ["groups", "seating"] KG.zat :=
 zds (N:=["groups", "seating"]) (b:=KG.zb7) d zdX (zfR g_zip)
noncomputable abbrev zaO:Stmt:=top 25
theorem zdY:FnScope ["group", "place", "seated"] ["group", "place", "seated"] (defScope zaO):=⟨rfl,rfl,rfl,by decide +kernel,rfl,by decide +kernel,by decide +kernel⟩
theorem zfS {P:Program} {w:World} {K:PySem.W.Frag} {mg:Str→Option Value} {base:Heap} (C_apart:ZS.Cal P w K mg base "apart" 1 ["one", "here", "other", "there"] (KG.zej)) (g_all:mg "all" = none) (f:Addr) (cdv:Value) (A:Around) (outer:List PySem.Env) (s:Shared) (H:Hp) (E:XK) (hr:Room 1 (A.deeper (envOfC "apart_from_all" (defScope zaO) s.heap.objs.size f cdv))) :
  QSs (cxOf CX0 P w K mg base ["group", "place", "seated"] "apart_from_all" (defScope zaO) f cdv A outer s H E).nox H (defBody zaO) KG.zb8:=by
 have nd:=zdY.nd
 have hu:=hr.units
 exact (zah (zap (zhL rfl g_all zk9 (zes (zcp rfl (zdt (zaj 2)) (N':=["other", "there", "group", "place"]) (n:=2) (is:=[0,1]) (ZS.Blk.of (by kernel_rfl)) (ZS.zfo (by decide)) (fun _ _ _ _ _ _=>(zeU rfl (zaG (i:=0) (show List.Nodup (["other", "there", "group", "place"]:List Str) by decide +kernel) rfl (by first | exact Or.inl rfl | exact Or.inr rfl) (zaG (i:=1) (show List.Nodup (["other", "there", "group", "place"]:List Str) by decide +kernel) rfl (by first | exact Or.inl rfl | exact Or.inr rfl) zde)) rfl)) (fun _ _ _ _ _=>zdi) (fun _ _ _ _ _=>(zai C_apart (hr.mono (by decide)) rfl (zaa (zao 2) (zaa (zao 3) (zaa (zao 0) (zaa (zao 1) zag)))))))))))
theorem zfG {P:Program} {w:World} {K:PySem.W.Frag} {mg:Str→Option Value} {base:Heap} (d:ZS.Def K mg "apart_from_all" zaO ["group", "place", "seated"]) (C_apart:ZS.Cal P w K mg base "apart" 1 ["one", "here", "other", "there"] (KG.zej)) (g_all:mg "all" = none):ZS.Cal P w K mg base "apart_from_all" 2 ["group", "place", "seated"] KG.zaL :=
 zds (N:=["group", "place", "seated"]) (b:=KG.zb8) d zdY (zfS C_apart g_all)
noncomputable abbrev zdQ:Stmt:=top 26
theorem zkL:FnScope ["hall", "groups", "seating", "seated"] ["hall", "groups", "seating"] (defScope zdQ):=⟨rfl,rfl,rfl,by decide +kernel,rfl,by decide +kernel,by decide +kernel⟩
theorem znB {P:Program} {w:World} {K:PySem.W.Frag} {mg:Str→Option Value} {base:Heap} (C_apart_from_all:ZS.Cal P w K mg base "apart_from_all" 2 ["group", "place", "seated"] (KG.zaL)) (C_fits:ZS.Cal P w K mg base "fits" 2 ["hall", "group", "place"] (KG.zdT)) (C_those_that_sit:ZS.Cal P w K mg base "those_that_sit" 1 ["groups", "seating"] (KG.zat)) (g_all:mg "all" = none) (g_len:mg "len" = none) (g_range:mg "range" = none) (f:Addr) (cdv:Value) (A:Around) (outer:List PySem.Env) (s:Shared) (H:Hp) (E:XK) (hr:Room 2 (A.deeper (envOfC "keeps" (defScope zdQ) s.heap.objs.size f cdv))) :
  QSs (cxOf CX0 P w K mg base ["hall", "groups", "seating", "seated"] "keeps" (defScope zdQ) f cdv A outer s H E).nox H (defBody zdQ) KG.zhc:=by
 have nd:=zkL.nd
 have hu:=hr.units
 exact (zae (zan (i:=3) nd rfl (by first | exact Or.inl rfl | exact Or.inr rfl) (zai C_those_that_sit (hr.mono (by decide)) rfl (zaa (zao 1) (zaa (zao 2) zag)))) (zae (zbr (zdC (zhl (zhL rfl g_all zk9 (zes (zcp rfl (zdt (zaj 3)) (N':=["group", "place", "hall"]) (n:=2) (is:=[0]) (ZS.Blk.of (by kernel_rfl)) (ZS.zfo (by decide)) (fun _ _ _ _ _ _=>(zeU rfl (zaG (i:=0) (show List.Nodup (["group", "place", "hall"]:List Str) by decide +kernel) rfl (by first | exact Or.inl rfl | exact Or.inr rfl) (zaG (i:=1) (show List.Nodup (["group", "place", "hall"]:List Str) by decide +kernel) rfl (by first | exact Or.inl rfl | exact Or.inr rfl) zde)) rfl)) (fun _ _ _ _ _=>zdi) (fun _ _ _ _ _=>(zai C_fits (hr.mono (by decide)) rfl (zaa (zao 2) (zaa (zao 0) (zaa (zao 1) zag)))))))))) (zah (zap zdV)) zay) (zah (zap (zhL rfl g_all zk9 (zes (zcp rfl (zmu (zbU rfl g_range (zbb rfl g_len zbl (zaj 3)))) (N':=["k", "seated"]) (n:=1) (is:=[3]) (ZS.Blk.of (by kernel_rfl)) (ZS.zaQ (by decide)) (fun _ _ _ _ _ _=>(zaH (i:=0) (show List.Nodup (["k", "seated"]:List Str) by decide +kernel) rfl (by first | exact Or.inl rfl | exact Or.inr rfl))) (fun _ _ _ _ _=>zdi) (fun _ _ _ _ _=>(zai C_apart_from_all (hr.mono (by decide)) rfl (zaD (zal (zaf (zal (zaj 1) (zaj 0))) (zaf zac)) (zaD (zal (zaf (zal (zaj 1) (zaj 0))) (zaf zac)) (zaD (zhK (zgk (zaj 1) zfT (zeG (zaj 0)))) zag))))))))))))
theorem znc {P:Program} {w:World} {K:PySem.W.Frag} {mg:Str→Option Value} {base:Heap} (d:ZS.Def K mg "keeps" zdQ ["hall", "groups", "seating"]) (C_apart_from_all:ZS.Cal P w K mg base "apart_from_all" 2 ["group", "place", "seated"] (KG.zaL)) (C_fits:ZS.Cal P w K mg base "fits" 2 ["hall", "group", "place"] (KG.zdT)) (C_those_that_sit:ZS.Cal P w K mg base "those_that_sit" 1 ["groups", "seating"] (KG.zat)) (g_all:mg "all" = none) (g_len:mg "len" = none) (g_range:mg "range" = none):ZS.Cal P w K mg base "keeps" 3 ["hall", "groups", "seating"] KG.zdM :=
 zds (N:=["hall", "groups", "seating", "seated"]) (b:=KG.zhc) d zkL (znB C_apart_from_all C_fits C_those_that_sit g_all g_len g_range)
noncomputable abbrev zca:Stmt:=top 27
theorem zgw:FnScope ["groups", "seating"] ["groups", "seating"] (defScope zca):=⟨rfl,rfl,rfl,by decide +kernel,rfl,by decide +kernel,by decide +kernel⟩
theorem zj9 {P:Program} {w:World} {K:PySem.W.Frag} {mg:Str→Option Value} {base:Heap} (C_those_that_sit:ZS.Cal P w K mg base "those_that_sit" 1 ["groups", "seating"] (KG.zat)) (C_worth_in:ZS.Cal P w K mg base "worth_in" 1 ["group", "row"] (zbL)) (g_sum:mg "sum" = none) (f:Addr) (cdv:Value) (A:Around) (outer:List PySem.Env) (s:Shared) (H:Hp) (E:XK) (hr:Room 1 (A.deeper (envOfC "worth_of" (defScope zca) s.heap.objs.size f cdv))) :
  QSs (cxOf CX0 P w K mg base ["groups", "seating"] "worth_of" (defScope zca) f cdv A outer s H E).nox H (defBody zca) zd3:=by
 have nd:=zgw.nd
 have hu:=hr.units
 exact (zah (zap (zk2 rfl g_sum zn1 (zes (zcp rfl (zdt (zaf (zai C_those_that_sit (hr.mono (by decide)) rfl (zaa (zao 0) (zaa (zao 1) zag))))) (N':=["group", "place"]) (n:=2) (is:=[]) (ZS.Blk.of (by kernel_rfl)) (ZS.zfo (by decide)) (fun _ _ _ _ _ _=>(zeU rfl (zaG (i:=0) (show List.Nodup (["group", "place"]:List Str) by decide +kernel) rfl (by first | exact Or.inl rfl | exact Or.inr rfl) (zaG (i:=1) (show List.Nodup (["group", "place"]:List Str) by decide +kernel) rfl (by first | exact Or.inl rfl | exact Or.inr rfl) zde)) rfl)) (fun _ _ _ _ _=>zdi) (fun _ _ _ _ _=>(zai C_worth_in (hr.mono (by decide)) rfl (zaa (zao 0) (zaD (zal (zaj 1) (zaf zac)) zag)))))))))
theorem zjy {P:Program} {w:World} {K:PySem.W.Frag} {mg:Str→Option Value} {base:Heap} (d:ZS.Def K mg "worth_of" zca ["groups", "seating"]) (C_those_that_sit:ZS.Cal P w K mg base "those_that_sit" 1 ["groups", "seating"] (KG.zat)) (C_worth_in:ZS.Cal P w K mg base "worth_in" 1 ["group", "row"] (zbL)) (g_sum:mg "sum" = none):ZS.Cal P w K mg base "worth_of" 2 ["groups", "seating"] zcw :=
 zds (N:=["groups", "seating"]) (b:=zd3) d zgw (zj9 C_those_that_sit C_worth_in g_sum)
noncomputable abbrev za5:Stmt:=top 29
theorem zeA:FnScope ["hall", "groups", "fast", "seating"] ["hall", "groups", "fast"] (defScope za5):=⟨rfl,rfl,rfl,by decide +kernel,rfl,by decide +kernel,by decide +kernel⟩
theorem zg2 {P:Program} {w:World} {K:PySem.W.Frag} {mg:Str→Option Value} {base:Heap} (C_keeps:ZS.Cal P w K mg base "keeps" 3 ["hall", "groups", "seating"] (KG.zdM)) (g_len:mg "len" = none) (f:Addr) (cdv:Value) (A:Around) (outer:List PySem.Env) (s:Shared) (H:Hp) (E:XK) (hr:Room 3 (A.deeper (envOfC "fast_seating" (defScope za5) s.heap.objs.size f cdv))) :
  QSs (cxOf CX0 P w K mg base ["hall", "groups", "fast", "seating"] "fast_seating" (defScope za5) f cdv A outer s H E).nox H (defBody za5) zcU:=by
 have nd:=zeA.nd
 have hu:=hr.units
 exact (zae (zan (i:=3) nd rfl (by first | exact Or.inl rfl | exact Or.inr rfl) (zgm (zhG (zaj 2)) (zkr (zaf (za8 (zad zg8 zag))) (zaf (zbb rfl g_len zbl (zaj 1)))) (zao 2))) (zae (zbr (zdC (zhl (zai C_keeps (hr.mono (by decide)) rfl (zaa (zao 0) (zaa (zao 1) (zaa (zao 3) zag)))))) (zah zmr) zay) (zah (zap (zao 3)))))
theorem zgO {P:Program} {w:World} {K:PySem.W.Frag} {mg:Str→Option Value} {base:Heap} (d:ZS.Def K mg "fast_seating" za5 ["hall", "groups", "fast"]) (C_keeps:ZS.Cal P w K mg base "keeps" 3 ["hall", "groups", "seating"] (KG.zdM)) (g_len:mg "len" = none):ZS.Cal P w K mg base "fast_seating" 4 ["hall", "groups", "fast"] zbB :=
 zds (N:=["hall", "groups", "fast", "seating"]) (b:=zcU) d zeA (zg2 C_keeps g_len)
noncomputable abbrev zbt:Stmt:=top 30
theorem zfb:FnScope ["seating", "k", "place"] ["seating", "k", "place"] (defScope zbt):=⟨rfl,rfl,rfl,by decide +kernel,rfl,by decide +kernel,by decide +kernel⟩
theorem zii {P:Program} {w:World} {K:PySem.W.Frag} {mg:Str→Option Value} {base:Heap}  (f:Addr) (cdv:Value) (A:Around) (outer:List PySem.Env) (s:Shared) (H:Hp) (E:XK) (hr:Room 0 (A.deeper (envOfC "with_place" (defScope zbt) s.heap.objs.size f cdv))) :
  QSs (cxOf CX0 P w K mg base ["seating", "k", "place"] "with_place" (defScope zbt) f cdv A outer s H E).nox H (defBody zbt) KH.zdl:=by
 have nd:=zfb.nd
 have hu:=hr.units
 exact (zah (zap (zam (zaf (zam (zaf (zcH (zaj 0) zfT (zeG (zaj 1)))) (zaf (za8 (zaa (zao 2) zag))))) (zaf (zcH (zaj 0) (zeG (zaf (zam (zaj 1) (zaf zac)))) zfT)))))
theorem zhX {P:Program} {w:World} {K:PySem.W.Frag} {mg:Str→Option Value} {base:Heap} (d:ZS.Def K mg "with_place" zbt ["seating", "k", "place"])  : ZS.Cal P w K mg base "with_place" 1 ["seating", "k", "place"] KH.zbD :=
 zds (N:=["seating", "k", "place"]) (b:=KH.zdl) d zfb (zii )
noncomputable abbrev zbu:Stmt:=top 31
theorem zfc:FnScope ["places", "group", "seated"] ["places", "group", "seated"] (defScope zbu):=⟨rfl,rfl,rfl,by decide +kernel,rfl,by decide +kernel,by decide +kernel⟩
theorem zij {P:Program} {w:World} {K:PySem.W.Frag} {mg:Str→Option Value} {base:Heap} (C_apart_from_all:ZS.Cal P w K mg base "apart_from_all" 2 ["group", "place", "seated"] (KG.zaL)) (g_tuple:mg "tuple" = none) (f:Addr) (cdv:Value) (A:Around) (outer:List PySem.Env) (s:Shared) (H:Hp) (E:XK) (hr:Room 2 (A.deeper (envOfC "open_among" (defScope zbu) s.heap.objs.size f cdv))) :
  QSs (cxOf CX0 P w K mg base ["places", "group", "seated"] "open_among" (defScope zbu) f cdv A outer s H E).nox H (defBody zbu) KH.zdm:=by
 have nd:=zfc.nd
 have hu:=hr.units
 exact (zah (zap (zcG rfl g_tuple zb5 (zes (zcp rfl (zdt (zaj 0)) (N':=["place", "group", "seated"]) (n:=1) (is:=[1,2]) (ZS.Blk.of (by kernel_rfl)) (ZS.zaQ (by decide)) (fun _ _ _ _ _ _=>(zaH (i:=0) (show List.Nodup (["place", "group", "seated"]:List Str) by decide +kernel) rfl (by first | exact Or.inl rfl | exact Or.inr rfl))) (fun _ _ _ _ _=>(zdN (zhl (zai C_apart_from_all (hr.mono (by decide)) rfl (zaa (zao 1) (zaa (zao 0) (zaa (zao 2) zag))))))) (fun _ _ _ _ _=>(zao 0)))))))
theorem zhY {P:Program} {w:World} {K:PySem.W.Frag} {mg:Str→Option Value} {base:Heap} (d:ZS.Def K mg "open_among" zbu ["places", "group", "seated"]) (C_apart_from_all:ZS.Cal P w K mg base "apart_from_all" 2 ["group", "place", "seated"] (KG.zaL)) (g_tuple:mg "tuple" = none):ZS.Cal P w K mg base "open_among" 3 ["places", "group", "seated"] KH.zb1 :=
 zds (N:=["places", "group", "seated"]) (b:=KH.zdm) d zfc (zij C_apart_from_all g_tuple)
noncomputable abbrev zbA:Stmt:=top 33
theorem zfi:FnScope ["hall", "groups"] ["hall", "groups"] (defScope zbA):=⟨rfl,rfl,rfl,by decide +kernel,rfl,by decide +kernel,by decide +kernel⟩
theorem ziq {P:Program} {w:World} {K:PySem.W.Frag} {mg:Str→Option Value} {base:Heap} (C_places_of:ZS.Cal P w K mg base "places_of" 3 ["hall", "group"] (KG.zcx)) (f:Addr) (cdv:Value) (A:Around) (outer:List PySem.Env) (s:Shared) (H:Hp) (E:XK) (hr:Room 3 (A.deeper (envOfC "all_places" (defScope zbA) s.heap.objs.size f cdv))) :
  QSs (cxOf CX0 P w K mg base ["hall", "groups"] "all_places" (defScope zbA) f cdv A outer s H E).nox H (defBody zbA) zdp:=by
 have nd:=zfi.nd
 have hu:=hr.units
 exact (zah (zap (zhK (zcp rfl (zdt (zaj 1)) (N':=["group", "hall"]) (n:=1) (is:=[0]) (ZS.Blk.of (by kernel_rfl)) (ZS.zaQ (by decide)) (fun _ _ _ _ _ _=>(zaH (i:=0) (show List.Nodup (["group", "hall"]:List Str) by decide +kernel) rfl (by first | exact Or.inl rfl | exact Or.inr rfl))) (fun _ _ _ _ _=>zdi) (fun _ _ _ _ _=>(zai C_places_of (hr.mono (by decide)) rfl (zaa (zao 1) (zaa (zao 0) zag))))))))
theorem zh4 {P:Program} {w:World} {K:PySem.W.Frag} {mg:Str→Option Value} {base:Heap} (d:ZS.Def K mg "all_places" zbA ["hall", "groups"]) (C_places_of:ZS.Cal P w K mg base "places_of" 3 ["hall", "group"] (KG.zcx)):ZS.Cal P w K mg base "all_places" 4 ["hall", "groups"] zb3 :=
 zds (N:=["hall", "groups"]) (b:=zdp) d zfi (ziq C_places_of)
noncomputable abbrev zcc:Stmt:=top 34
theorem zgy:FnScope ["groups", "places", "seating", "k"] ["groups", "places", "seating", "k"] (defScope zcc):=⟨rfl,rfl,rfl,by decide +kernel,rfl,by decide +kernel,by decide +kernel⟩
theorem zkb {P:Program} {w:World} {K:PySem.W.Frag} {mg:Str→Option Value} {base:Heap} (C_open_among:ZS.Cal P w K mg base "open_among" 3 ["places", "group", "seated"] (KH.zb1)) (C_those_that_sit:ZS.Cal P w K mg base "those_that_sit" 1 ["groups", "seating"] (KG.zat)) (f:Addr) (cdv:Value) (A:Around) (outer:List PySem.Env) (s:Shared) (H:Hp) (E:XK) (hr:Room 3 (A.deeper (envOfC "spots_of" (defScope zcc) s.heap.objs.size f cdv))) :
  QSs (cxOf CX0 P w K mg base ["groups", "places", "seating", "k"] "spots_of" (defScope zcc) f cdv A outer s H E).nox H (defBody zcc) zd5:=by
 have nd:=zgy.nd
 have hu:=hr.units
 exact (zah (zap (zai C_open_among (hr.mono (by decide)) rfl (zaD (zal (zaj 1) (zaj 3)) (zaD (zal (zaj 0) (zaj 3)) (zaR (zai C_those_that_sit (hr.mono (by decide)) rfl (zaa (zao 0) (zaa (zao 2) zag))) zag))))))
theorem zjA {P:Program} {w:World} {K:PySem.W.Frag} {mg:Str→Option Value} {base:Heap} (d:ZS.Def K mg "spots_of" zcc ["groups", "places", "seating", "k"]) (C_open_among:ZS.Cal P w K mg base "open_among" 3 ["places", "group", "seated"] (KH.zb1)) (C_those_that_sit:ZS.Cal P w K mg base "those_that_sit" 1 ["groups", "seating"] (KG.zat)):ZS.Cal P w K mg base "spots_of" 4 ["groups", "places", "seating", "k"] zbM :=
 zds (N:=["groups", "places", "seating", "k"]) (b:=zd5) d zgy (zkb C_open_among C_those_that_sit)
noncomputable abbrev zbz:Stmt:=top 35
theorem zfh:FnScope ["seating", "thing"] ["seating", "thing"] (defScope zbz):=⟨rfl,rfl,rfl,by decide +kernel,rfl,by decide +kernel,by decide +kernel⟩
theorem zio {P:Program} {w:World} {K:PySem.W.Frag} {mg:Str→Option Value} {base:Heap} (C_is_whole_within:ZS.Cal P w K mg base "is_whole_within" 2 ["thing", "least", "most"] (za7)) (g_len:mg "len" = none) (f:Addr) (cdv:Value) (A:Around) (outer:List PySem.Env) (s:Shared) (H:Hp) (E:XK) (hr:Room 2 (A.deeper (envOfC "is_waiting" (defScope zbz) s.heap.objs.size f cdv))) :
  QSs (cxOf CX0 P w K mg base ["seating", "thing"] "is_waiting" (defScope zbz) f cdv A outer s H E).nox H (defBody zbz) zbZ:=by
 have nd:=zfh.nd
 have hu:=hr.units
 exact (zah (zap (zeV (zai C_is_whole_within (hr.mono (by decide)) rfl (zaa (zao 1) (zad zac (za1 (zg6 (zaf (zbb rfl g_len zbl (zaj 0))) (zaf zac)) zag)))) (zd2 (zmy (zaf (zal (zaj 0) (zaj 1))))))))
theorem zh3 {P:Program} {w:World} {K:PySem.W.Frag} {mg:Str→Option Value} {base:Heap} (d:ZS.Def K mg "is_waiting" zbz ["seating", "thing"]) (C_is_whole_within:ZS.Cal P w K mg base "is_whole_within" 2 ["thing", "least", "most"] (za7)) (g_len:mg "len" = none):ZS.Cal P w K mg base "is_waiting" 3 ["seating", "thing"] zb2 :=
 zds (N:=["seating", "thing"]) (b:=zbZ) d zfh (zio C_is_whole_within g_len)
noncomputable abbrev zbe:Stmt:=top 36
theorem zeN:FnScope ["thing", "word", "length"] ["thing", "word", "length"] (defScope zbe):=⟨rfl,rfl,rfl,by decide +kernel,rfl,by decide +kernel,by decide +kernel⟩
theorem zho {P:Program} {w:World} {K:PySem.W.Frag} {mg:Str→Option Value} {base:Heap} (g_isinstance:mg "isinstance" = none) (g_len:mg "len" = none) (g_str:mg "str" = none) (g_tuple:mg "tuple" = none) (f:Addr) (cdv:Value) (A:Around) (outer:List PySem.Env) (s:Shared) (H:Hp) (E:XK) (hr:Room 0 (A.deeper (envOfC "begins_with" (defScope zbe) s.heap.objs.size f cdv))) :
  QSs (cxOf CX0 P w K mg base ["thing", "word", "length"] "begins_with" (defScope zbe) f cdv A outer s H E).nox H (defBody zbe) zbs:=by
 have nd:=zeN.nd
 have hu:=hr.units
 exact (zae (zbr (dtw (ze3 (zdC (zhl (zb6 .tuple rfl g_isinstance zbf rfl g_tuple zb5 (zaj 0)))) (zeF (zas (ZS.zmV hu) (zaf (zbb rfl g_len zbl (zaj 0))) (zaj 2) (nomark _))))) (zah (zap zdV)) zay) (zah (zap (zeV (zb6 .str rfl g_isinstance zbf rfl g_str zqr (zaf (zal (zaj 0) (zaf zac)))) (zd2 (zcK (ZS.zgn hu) (zaf (zal (zaj 0) (zaf zac))) (zaj 1) (nomark _)))))))
theorem zhg {P:Program} {w:World} {K:PySem.W.Frag} {mg:Str→Option Value} {base:Heap} (d:ZS.Def K mg "begins_with" zbe ["thing", "word", "length"]) (g_isinstance:mg "isinstance" = none) (g_len:mg "len" = none) (g_str:mg "str" = none) (g_tuple:mg "tuple" = none):ZS.Cal P w K mg base "begins_with" 1 ["thing", "word", "length"] zaP :=
 zds (N:=["thing", "word", "length"]) (b:=zbs) d zeN (zho g_isinstance g_len g_str g_tuple)
noncomputable abbrev zcP:Stmt:=top 37
theorem zhz:FnScope ["thing"] ["thing"] (defScope zcP):=⟨rfl,rfl,rfl,by decide +kernel,rfl,by decide +kernel,by decide +kernel⟩
theorem zly {P:Program} {w:World} {K:PySem.W.Frag} {mg:Str→Option Value} {base:Heap} (C_begins_with:ZS.Cal P w K mg base "begins_with" 1 ["thing", "word", "length"] (zaP)) (g_isinstance:mg "isinstance" = none) (g_tuple:mg "tuple" = none) (f:Addr) (cdv:Value) (A:Around) (outer:List PySem.Env) (s:Shared) (H:Hp) (E:XK) (hr:Room 1 (A.deeper (envOfC "is_each" (defScope zcP) s.heap.objs.size f cdv))) :
  QSs (cxOf CX0 P w K mg base ["thing"] "is_each" (defScope zcP) f cdv A outer s H E).nox H (defBody zcP) zdH:=by
 have nd:=zhz.nd
 have hu:=hr.units
 exact (zah (zap (zeV (zai C_begins_with (hr.mono (by decide)) rfl (zaa (zao 0) (zad (zax (by decide +kernel)) (zad zac zag)))) (zd2 (zb6 .tuple rfl g_isinstance zbf rfl g_tuple zb5 (zaf (zal (zaj 0) (zaf zac))))))))
theorem zli {P:Program} {w:World} {K:PySem.W.Frag} {mg:Str→Option Value} {base:Heap} (d:ZS.Def K mg "is_each" zcP ["thing"]) (C_begins_with:ZS.Cal P w K mg base "begins_with" 1 ["thing", "word", "length"] (zaP)) (g_isinstance:mg "isinstance" = none) (g_tuple:mg "tuple" = none):ZS.Cal P w K mg base "is_each" 2 ["thing"] zdd :=
 zds (N:=["thing"]) (b:=zdH) d zhz (zly C_begins_with g_isinstance g_tuple)
noncomputable abbrev zaU:Stmt:=top 39
theorem zep:FnScope ["seating", "left"] ["seating", "left"] (defScope zaU):=⟨rfl,rfl,rfl,by decide +kernel,rfl,by decide +kernel,by decide +kernel⟩
theorem zgh {P:Program} {w:World} {K:PySem.W.Frag} {mg:Str→Option Value} {base:Heap} (g_len:mg "len" = none) (g_range:mg "range" = none) (f:Addr) (cdv:Value) (A:Around) (outer:List PySem.Env) (s:Shared) (H:Hp) (E:XK) (hr:Room 0 (A.deeper (envOfC "still_waiting" (defScope zaU) s.heap.objs.size f cdv))) :
  QSs (cxOf CX0 P w K mg base ["seating", "left"] "still_waiting" (defScope zaU) f cdv A outer s H E).nox H (defBody zaU) zcB:=by
 have nd:=zep.nd
 have hu:=hr.units
 exact (zah (zap (zhK (zcp rfl (zmu (zbU rfl g_range (zbb rfl g_len zbl (zaj 0)))) (N':=["k", "seating", "left"]) (n:=1) (is:=[0,1]) (ZS.Blk.of (by kernel_rfl)) (ZS.zaQ (by decide)) (fun _ _ _ _ _ _=>(zaH (i:=0) (show List.Nodup (["k", "seating", "left"]:List Str) by decide +kernel) rfl (by first | exact Or.inl rfl | exact Or.inr rfl))) (fun _ _ _ _ _=>(zdN (dtw (zet (zhG (zaf (zal (zaj 1) (zaj 0)))) (zdU (zas (ZS.zix hu) (zaj 0) (zaj 2) (by with_unfolding_all rfl))))))) (fun _ _ _ _ _=>(zao 0))))))
theorem zgd {P:Program} {w:World} {K:PySem.W.Frag} {mg:Str→Option Value} {base:Heap} (d:ZS.Def K mg "still_waiting" zaU ["seating", "left"]) (g_len:mg "len" = none) (g_range:mg "range" = none):ZS.Cal P w K mg base "still_waiting" 1 ["seating", "left"] zbo :=
 zds (N:=["seating", "left"]) (b:=zcB) d zep (zgh g_len g_range)
noncomputable abbrev zbF:Stmt:=top 40
theorem zf0:FnScope ["groups", "places", "seating", "left", "most", "k", "worths"] ["groups", "places", "seating", "left"] (defScope zbF):=⟨rfl,rfl,rfl,by decide +kernel,rfl,by decide +kernel,by decide +kernel⟩
theorem zjc {P:Program} {w:World} {K:PySem.W.Frag} {mg:Str→Option Value} {base:Heap} (C_spots_of:ZS.Cal P w K mg base "spots_of" 4 ["groups", "places", "seating", "k"] (zbM)) (C_still_waiting:ZS.Cal P w K mg base "still_waiting" 1 ["seating", "left"] (zbo)) (C_worth_in:ZS.Cal P w K mg base "worth_in" 1 ["group", "row"] (zbL)) (C_worth_of:ZS.Cal P w K mg base "worth_of" 2 ["groups", "seating"] (zcw)) (g_max:mg "max" = none) (f:Addr) (cdv:Value) (A:Around) (outer:List PySem.Env) (s:Shared) (H:Hp) (E:XK) (hr:Room 4 (A.deeper (envOfC "most_from" (defScope zbF) s.heap.objs.size f cdv))) :
  QSs (cxOf CX0 P w K mg base ["groups", "places", "seating", "left", "most", "k", "worths"] "most_from" (defScope zbF) f cdv A outer s H E).nox H (defBody zbF) zdF:=by
 have nd:=zf0.nd
 have hu:=hr.units
 exact (zae (zan (i:=4) nd rfl (by first | exact Or.inl rfl | exact Or.inr rfl) (zai C_worth_of (hr.mono (by decide)) rfl (zaa (zao 0) (zaa (zao 2) zag)))) (zae (zcr PassesOwn.never rfl (zgb (zai C_still_waiting (hr.mono (by decide)) rfl (zaa (zao 2) (zaa (zao 3) zag)))) (zaH (i:=5) nd rfl (by first | exact Or.inl rfl | exact Or.inr rfl)) (zae (zel (i:=6) rfl nd rfl (by first | exact Or.inl rfl | exact Or.inr rfl) (zdt (zaf (zai C_spots_of (hr.mono (by decide)) rfl (zaa (zao 0) (zaa (zao 1) (zaa (zao 2) (zaa (zao 5) zag))))))) (N':=["place", "groups", "k"]) (n:=1) (is:=[0,5]) (ZS.Blk.of (by kernel_rfl)) (ZS.zaQ (by decide)) (fun _ _ _ _ _ _=>(zaH (i:=0) (show List.Nodup (["place", "groups", "k"]:List Str) by decide +kernel) rfl (by first | exact Or.inl rfl | exact Or.inr rfl))) (fun _ _ _ _ _=>zdi) (fun _ _ _ _ _=>(zai C_worth_in (hr.mono (by decide)) rfl (zaD (zal (zaj 1) (zaj 2)) (zaD (zal (zaj 0) (zaf zac)) zag))))) (zah (zoU (i:=4) nd rfl (by first | exact Or.inl rfl | exact Or.inr rfl) (zks rfl g_max zk8 (zaj 6) zac))))) (zah (zap (zao 4)))))
theorem ziK {P:Program} {w:World} {K:PySem.W.Frag} {mg:Str→Option Value} {base:Heap} (d:ZS.Def K mg "most_from" zbF ["groups", "places", "seating", "left"]) (C_spots_of:ZS.Cal P w K mg base "spots_of" 4 ["groups", "places", "seating", "k"] (zbM)) (C_still_waiting:ZS.Cal P w K mg base "still_waiting" 1 ["seating", "left"] (zbo)) (C_worth_in:ZS.Cal P w K mg base "worth_in" 1 ["group", "row"] (zbL)) (C_worth_of:ZS.Cal P w K mg base "worth_of" 2 ["groups", "seating"] (zcw)) (g_max:mg "max" = none):ZS.Cal P w K mg base "most_from" 5 ["groups", "places", "seating", "left"] zbX :=
 zds (N:=["groups", "places", "seating", "left", "most", "k", "worths"]) (b:=zdF) d zf0 (zjc C_spots_of C_still_waiting C_worth_in C_worth_of g_max)
noncomputable abbrev zaV:Stmt:=top 41
theorem zdq:FnScope ["groups", "places", "number", "seating", "left", "tree", "k", "spots", "place", "inner"] ["groups", "places", "number", "seating", "left", "tree"] (defScope zaV):=⟨rfl,rfl,rfl,by decide +kernel,rfl,by decide +kernel,by decide +kernel⟩
theorem zgi {P:Program} {w:World} {K:PySem.W.Frag} {mg:Str→Option Value} {base:Heap} (C_begins_with:ZS.Cal P w K mg base "begins_with" 1 ["thing", "word", "length"] (zaP)) (C_is_each:ZS.Cal P w K mg base "is_each" 2 ["thing"] (zdd)) (C_is_waiting:ZS.Cal P w K mg base "is_waiting" 3 ["seating", "thing"] (zb2)) (C_most_from:ZS.Cal P w K mg base "most_from" 5 ["groups", "places", "seating", "left"] (zbX)) (C_spots_of:ZS.Cal P w K mg base "spots_of" 4 ["groups", "places", "seating", "k"] (zbM)) (C_with_place:ZS.Cal P w K mg base "with_place" 1 ["seating", "k", "place"] (KH.zbD)) (g_len:mg "len" = none) (g_zip:mg "zip" = none) (j:Nat) {self:List Z.D→Z.Res Z.D} (C_self:ZS.Cal P w K mg base "bounds_beside" (6+j) ["groups", "places", "number", "seating", "left", "tree"] self) (f:Addr) (cdv:Value) (A:Around) (outer:List PySem.Env) (s:Shared) (H:Hp) (E:XK) (hr:Room (6+j) (A.deeper (envOfC "bounds_beside" (defScope zaV) s.heap.objs.size f cdv))) :
  QSs (cxOf CX0 P w K mg base ["groups", "places", "number", "seating", "left", "tree", "k", "spots", "place", "inner"] "bounds_beside" (defScope zaV) f cdv A outer s H E).nox H (defBody zaV) (zaA self):=by
 have nd:=zdq.nd
 have hu:=hr.units
 exact (zae (zbr (zhl (zai C_begins_with (hr.mono (by lia)) rfl (zaa (zao 5) (zad (zax (by decide +kernel)) (zad zac zag))))) (zah (zap (zcK ZS.zjo (zaf (zai C_most_from (hr.mono (by lia)) rfl (zaa (zao 0) (zaa (zao 1) (zaa (zao 3) (zaa (zao 4) zag)))))) (zaj 2) (nomark _)))) zay) (zae (zbr (dtw (ze3 (zdC (zhl (zai C_is_each (hr.mono (by lia)) rfl (zaa (zao 5) zag)))) (ze3 (zdC (zhl (zai C_is_waiting (hr.mono (by lia)) rfl (zaa (zao 3) (zaD (zal (zaj 5) (zaf zac)) zag))))) (zeF (zas (ZS.zst hu) (zaf (zal (zaj 5) (zaf zac))) (zaj 4) (by with_unfolding_all rfl)))))) (zah (zap zdV)) zay) (zae (zan (i:=6) nd rfl (by first | exact Or.inl rfl | exact Or.inr rfl) (zal (zaj 5) (zaf zac))) (zae (zan (i:=7) nd rfl (by first | exact Or.inl rfl | exact Or.inr rfl) (zai C_spots_of (hr.mono (by lia)) rfl (zaa (zao 0) (zaa (zao 1) (zaa (zao 3) (zaa (zao 6) zag)))))) (zae (zbr (zas (ZS.zmV hu) (zaf (zbb rfl g_len zbl (zaf (zal (zaj 5) (zaf zac))))) (zaf (zam (zaf (zbb rfl g_len zbl (zaj 7))) (zaf zac))) (nomark _)) (zah (zap zdV)) zay) (zae (zcr PassesOwn.never rfl (zhI rfl g_zip (zao 7) (zal (zaj 5) (zaf zac))) (zeU rfl (zaG (i:=8) nd rfl (by first | exact Or.inl rfl | exact Or.inr rfl) (zaG (i:=9) nd rfl (by first | exact Or.inl rfl | exact Or.inr rfl) zde)) rfl) (zah (zbr (zdC (zhl (zai C_self (hr.mono (Nat.le_refl _)) rfl (zaa (zao 0) (zaa (zao 1) (zaa (zao 2) (zaR (zai C_with_place (hr.mono (by lia)) rfl (zaa (zao 3) (zaa (zao 6) (zaa (zao 8) zag)))) (zaa (zao 4) (zaa (zao 9) zag))))))))) (zah (zap zdV)) zay))) (zah (zap (zai C_self (hr.mono (Nat.le_refl _)) rfl (zaa (zao 0) (zaa (zao 1) (zaa (zao 2) (zaa (zao 3) (za1 (zam (zaj 4) (zaf (za8 (zaa (zao 6) zag)))) (zaD (zal (zaf (zal (zaj 5) (zaf zac))) (zaf (zg9 (zaf zac)))) zag)))))))))))))))
theorem zeq {P:Program} {w:World} {K:PySem.W.Frag} {mg:Str→Option Value} {base:Heap} (d:ZS.Def K mg "bounds_beside" zaV ["groups", "places", "number", "seating", "left", "tree"]) (C_begins_with:ZS.Cal P w K mg base "begins_with" 1 ["thing", "word", "length"] (zaP)) (C_is_each:ZS.Cal P w K mg base "is_each" 2 ["thing"] (zdd)) (C_is_waiting:ZS.Cal P w K mg base "is_waiting" 3 ["seating", "thing"] (zb2)) (C_most_from:ZS.Cal P w K mg base "most_from" 5 ["groups", "places", "seating", "left"] (zbX)) (C_spots_of:ZS.Cal P w K mg base "spots_of" 4 ["groups", "places", "seating", "k"] (zbM)) (C_with_place:ZS.Cal P w K mg base "with_place" 1 ["seating", "k", "place"] (KH.zbD)) (g_len:mg "len" = none) (g_zip:mg "zip" = none):∀ j,ZS.Cal P w K mg base "bounds_beside" (6+j) ["groups", "places", "number", "seating", "left", "tree"] (zaJ j)
 | 0=>ZS.zk7 (zds (k:=5) (N:=["groups", "places", "number", "seating", "left", "tree", "k", "spots", "place", "inner"]) (b:=Z.zmT) d zdq fun _ _ _ _ _ _ _ _=>zfQ)
 | j+1=>zds (k:=6+j) (N:=["groups", "places", "number", "seating", "left", "tree", "k", "spots", "place", "inner"]) (b:=zaA (zaJ j)) d zdq (zgi C_begins_with C_is_each C_is_waiting C_most_from C_spots_of C_with_place g_len g_zip j (zeq d C_begins_with C_is_each C_is_waiting C_most_from C_spots_of C_with_place g_len g_zip j))
noncomputable abbrev zdu:Stmt:=top 42
theorem ziG:FnScope ["hall", "groups", "number", "tree", "fast", "seating"] ["hall", "groups", "number", "tree", "fast"] (defScope zdu):=⟨rfl,rfl,rfl,by decide +kernel,rfl,by decide +kernel,by decide +kernel⟩
theorem zmt {P:Program} {w:World} {K:PySem.W.Frag} {mg:Str→Option Value} {base:Heap} (C_all_places:ZS.Cal P w K mg base "all_places" 4 ["hall", "groups"] (zb3)) (C_bounds_beside:ZS.Cal P w K mg base "bounds_beside" 15 ["groups", "places", "number", "seating", "left", "tree"] (zaJ 9)) (C_fast_seating:ZS.Cal P w K mg base "fast_seating" 4 ["hall", "groups", "fast"] (zbB)) (f:Addr) (cdv:Value) (A:Around) (outer:List PySem.Env) (s:Shared) (H:Hp) (E:XK) (hr:Room 15 (A.deeper (envOfC "bounds" (defScope zdu) s.heap.objs.size f cdv))) :
  QSs (cxOf CX0 P w K mg base ["hall", "groups", "number", "tree", "fast", "seating"] "bounds" (defScope zdu) f cdv A outer s H E).nox H (defBody zdu) zfy:=by
 have nd:=ziG.nd
 have hu:=hr.units
 exact (zae (zan (i:=5) nd rfl (by first | exact Or.inl rfl | exact Or.inr rfl) (zai C_fast_seating (hr.mono (by decide)) rfl (zaa (zao 0) (zaa (zao 1) (zaa (zao 4) zag))))) (zah (zap (zai C_bounds_beside (hr.mono (by decide)) rfl (zaa (zao 1) (zaR (zai C_all_places (hr.mono (by decide)) rfl (zaa (zao 0) (zaa (zao 1) zag))) (zaa (zao 2) (zaa (zao 5) (zcR (za8 zag) (zaa (zao 3) zag))))))))))
theorem zl0 {P:Program} {w:World} {K:PySem.W.Frag} {mg:Str→Option Value} {base:Heap} (d:ZS.DefD K mg "bounds" zdu ["hall", "groups", "number", "tree", "fast"]) (C_all_places:ZS.Cal P w K mg base "all_places" 4 ["hall", "groups"] (zb3)) (C_bounds_beside:ZS.Cal P w K mg base "bounds_beside" 15 ["groups", "places", "number", "seating", "left", "tree"] (zaJ 9)) (C_fast_seating:ZS.Cal P w K mg base "fast_seating" 4 ["hall", "groups", "fast"] (zbB)):ZS.CalD P w K mg base "bounds" 16 ["hall", "groups", "number", "tree", "fast"] zdB :=
 zss (N:=["hall", "groups", "number", "tree", "fast", "seating"]) (b:=zfy) d ziG (zmt C_all_places C_bounds_beside C_fast_seating)
noncomputable abbrev zbd:Stmt:=top 44
theorem zeM:FnScope ["_law_script", "_law_k"] ["_law_script", "_law_k"] (defScope zbd):=⟨rfl,rfl,rfl,by decide +kernel,rfl,by decide +kernel,by decide +kernel⟩
theorem zhn {P:Program} {w:World} {K:PySem.W.Frag} {mg:Str→Option Value} {base:Heap} (g_len:mg "len" = none) (f:Addr) (cdv:Value) (A:Around) (outer:List PySem.Env) (s:Shared) (H:Hp) (E:XK) (hr:Room 0 (A.deeper (envOfC "_law_cell_at" (defScope zbd) s.heap.objs.size f cdv))) :
  QSs (cxOf CX0 P w K mg base ["_law_script", "_law_k"] "_law_cell_at" (defScope zbd) f cdv A outer s H E).nox H (defBody zbd) KG.zcI:=by
 have nd:=zeM.nd
 have hu:=hr.units
 exact (zae (zbr (zas ZS.zqo (zaj 1) (zaf (zbb rfl g_len zbl (zaj 0))) (nomark _)) (zah (zap (zal (zaj 0) (zaj 1)))) zay) (zah (zap zac)))
theorem zhf {P:Program} {w:World} {K:PySem.W.Frag} {mg:Str→Option Value} {base:Heap} (d:ZS.Def K mg "_law_cell_at" zbd ["_law_script", "_law_k"]) (g_len:mg "len" = none):ZS.Cal P w K mg base "_law_cell_at" 1 ["_law_script", "_law_k"] KG.zak :=
 zds (N:=["_law_script", "_law_k"]) (b:=KG.zcI) d zeM (zhn g_len)
noncomputable abbrev zbH:Stmt:=top 45
theorem zf4:FnScope ["_law_cell", "_law_k", "_law_number"] ["_law_cell", "_law_k"] (defScope zbH):=⟨rfl,rfl,rfl,by decide +kernel,rfl,by decide +kernel,by decide +kernel⟩
theorem zje {P:Program} {w:World} {K:PySem.W.Frag} {mg:Str→Option Value} {base:Heap}  (f:Addr) (cdv:Value) (A:Around) (outer:List PySem.Env) (s:Shared) (H:Hp) (E:XK) (hr:Room 0 (A.deeper (envOfC "_law_mixed" (defScope zbH) s.heap.objs.size f cdv))) :
  QSs (cxOf CX0 P w K mg base ["_law_cell", "_law_k", "_law_number"] "_law_mixed" (defScope zbH) f cdv A outer s H E).nox H (defBody zbH) KG.zcC:=by
 have nd:=zf4.nd
 have hu:=hr.units
 exact (zae (zan (i:=2) nd rfl (by first | exact Or.inl rfl | exact Or.inr rfl) (zaT (zaf (zc0 (zaf (zam (zaf (zam (zaf (zaT (zaj 0) (zaf zac))) (zaf (zc0 (zaf (zc0 (zaf zac) (zaj 1))) (zaj 1))))) (zaj 1))) (zaf zac))) (zaf zac))) (zae (zan (i:=2) nd rfl (by first | exact Or.inl rfl | exact Or.inr rfl) (zaT (zaf (zam (zaf (zam (zaf (zc0 (zaj 2) (zaj 2))) (zaf (zc0 (zaf zac) (zaj 2))))) (zaj 1))) (zaf zac))) (zah (zap (zaT (zaf (zam (zaf (zc0 (zaj 2) (zaf zac))) (zaf (zc0 (zaf zac) (zaj 1))))) (zaf zac))))))
theorem ziM {P:Program} {w:World} {K:PySem.W.Frag} {mg:Str→Option Value} {base:Heap} (d:ZS.Def K mg "_law_mixed" zbH ["_law_cell", "_law_k"])  : ZS.Cal P w K mg base "_law_mixed" 1 ["_law_cell", "_law_k"] KG.zaq :=
 zds (N:=["_law_cell", "_law_k", "_law_number"]) (b:=KG.zcC) d zf4 (zje )
noncomputable abbrev zby:Stmt:=top 46
theorem zfg:FnScope ["_law_cell", "_law_sizes", "_law_found", "_law_size"] ["_law_cell", "_law_sizes"] (defScope zby):=⟨rfl,rfl,rfl,by decide +kernel,rfl,by decide +kernel,by decide +kernel⟩
theorem zin {P:Program} {w:World} {K:PySem.W.Frag} {mg:Str→Option Value} {base:Heap}  (f:Addr) (cdv:Value) (A:Around) (outer:List PySem.Env) (s:Shared) (H:Hp) (E:XK) (hr:Room 0 (A.deeper (envOfC "_law_digits" (defScope zby) s.heap.objs.size f cdv))) :
  QSs (cxOf CX0 P w K mg base ["_law_cell", "_law_sizes", "_law_found", "_law_size"] "_law_digits" (defScope zby) f cdv A outer s H E).nox H (defBody zby) KH.zdo:=by
 have nd:=zfg.nd
 have hu:=hr.units
 exact (zae (zeu (i:=2) nd rfl (by first | exact Or.inl rfl | exact Or.inr rfl) (zaz zag)) (zae (zcr PassesOwn.never rfl (zgb (zao 1)) (zaH (i:=3) nd rfl (by first | exact Or.inl rfl | exact Or.inr rfl)) (zae (zeT (i:=2) (pv 2) (zaT (zaj 0) (zaj 3))) (zah (zan (i:=0) nd rfl (by first | exact Or.inl rfl | exact Or.inr rfl) (zbk (zaj 0) (zaj 3)))))) (zgZ (i:=2) (zah (zap (zao 2))))))
theorem zh2 {P:Program} {w:World} {K:PySem.W.Frag} {mg:Str→Option Value} {base:Heap} (d:ZS.Def K mg "_law_digits" zby ["_law_cell", "_law_sizes"])  : ZS.Cal P w K mg base "_law_digits" 1 ["_law_cell", "_law_sizes"] KH.zaF :=
 zds (N:=["_law_cell", "_law_sizes", "_law_found", "_law_size"]) (b:=KH.zdo) d zfg (zin )
noncomputable abbrev zcj:Stmt:=top 47
theorem zgE:FnScope ["_law_script", "_law_first", "_law_rows", "_law_columns", "_law_one", "_law_other", "_law_signs", "_law_numbers", "_law_hall_here", "_law_r"] ["_law_script"] (defScope zcj):=⟨rfl,rfl,rfl,by decide +kernel,rfl,by decide +kernel,by decide +kernel⟩
theorem zki {P:Program} {w:World} {K:PySem.W.Frag} {mg:Str→Option Value} {base:Heap} (C_law_cell_at:ZS.Cal P w K mg base "_law_cell_at" 1 ["_law_script", "_law_k"] (KG.zak)) (C_law_digits:ZS.Cal P w K mg base "_law_digits" 1 ["_law_cell", "_law_sizes"] (KH.zaF)) (C_law_mixed:ZS.Cal P w K mg base "_law_mixed" 1 ["_law_cell", "_law_k"] (KG.zaq)) (g_range:mg "range" = none) (g_tuple:mg "tuple" = none) (f:Addr) (cdv:Value) (A:Around) (outer:List PySem.Env) (s:Shared) (H:Hp) (E:XK) (hr:Room 1 (A.deeper (envOfC "_law_hall" (defScope zcj) s.heap.objs.size f cdv))) :
  QSs (cxOf CX0 P w K mg base ["_law_script", "_law_first", "_law_rows", "_law_columns", "_law_one", "_law_other", "_law_signs", "_law_numbers", "_law_hall_here", "_law_r"] "_law_hall" (defScope zcj) f cdv A outer s H E).nox H (defBody zcj) KH.zdz:=by
 have nd:=zgE.nd
 have hu:=hr.units
 exact (zae (zan (i:=1) nd rfl (by first | exact Or.inl rfl | exact Or.inr rfl) (zai C_law_cell_at (hr.mono (by decide)) rfl (zaa (zao 0) (zad zac zag)))) (zae (zan (i:=2) nd rfl (by first | exact Or.inl rfl | exact Or.inr rfl) (zam (zaf zac) (zaf (zaT (zaf (zbk (zaj 1) (zaf zac))) (zaf zac))))) (zae (zan (i:=3) nd rfl (by first | exact Or.inl rfl | exact Or.inr rfl) (zam (zaf zac) (zaf (zaT (zaf (zbk (zaj 1) (zaf zac))) (zaf zac))))) (zae (zan (i:=4) nd rfl (by first | exact Or.inl rfl | exact Or.inr rfl) (zal (zaf (zax (by decide +kernel))) (zaf (zaT (zaf (zbk (zaj 1) (zaf zac))) (zaf zac))))) (zae (zan (i:=5) nd rfl (by first | exact Or.inl rfl | exact Or.inr rfl) (zal (zaf (zax (by decide +kernel))) (zaf (zaT (zaf (zam (zaf (zam (zaf (zbk (zaj 1) (zaf zac))) (zaf zac))) (zaf (zaT (zaf (zbk (zaj 1) (zaf zac))) (zaf zac))))) (zaf zac))))) (zae (zan (i:=6) nd rfl (by first | exact Or.inl rfl | exact Or.inr rfl) (zal (zes (zaz (zad (zax (by decide +kernel)) (za1 (zam (zaf (zam (zaf (zax (by decide +kernel))) (zaf (zax (by decide +kernel))))) (zaj 4)) (za1 (zam (zaf (zam (zaf (zam (zaf (zax (by decide +kernel))) (zaf (zax (by decide +kernel))))) (zaj 4))) (zaj 5)) zag))))) (zaf (zaT (zaf (zbk (zaj 1) (zaf zac))) (zaf zac))))) (zae (zbr (zas (ZS.zgn hu) (zaf (zaT (zaj 1) (zaf zac))) (zaf zac) (nomark _)) (zae (zan (i:=6) nd rfl (by first | exact Or.inl rfl | exact Or.inr rfl) (zax (by decide +kernel))) (zah (zan (i:=7) nd rfl (by first | exact Or.inl rfl | exact Or.inr rfl) (zai C_law_digits (hr.mono (by decide)) rfl (zaR (zai C_law_cell_at (hr.mono (by decide)) rfl (zaa (zao 0) (zad zac zag))) (za1 (zhK (zkZ (zaz (zad zac zag)) (zaf (zc0 (zaj 2) (zaj 3))))) zag)))))) (zae (zan (i:=2) nd rfl (by first | exact Or.inl rfl | exact Or.inr rfl) (zal (zes (zaz (zad zac (zad zac (zad zac (zad zac (zad zac (zad zac zag)))))))) (zaf (zg6 (zaj 2) (zaf zac))))) (zae (zan (i:=3) nd rfl (by first | exact Or.inl rfl | exact Or.inr rfl) (zal (zes (zaz (zad zac (zad zac (zad zac (zad zac (zad zac (zad zac (zad zac (zad zac (zad zac (zad zac (zad zac (zad zac zag)))))))))))))) (zaf (zg6 (zaj 3) (zaf zac))))) (zah (zel (i:=7) rfl nd rfl (by first | exact Or.inl rfl | exact Or.inr rfl) (zmu (zbU rfl g_range (zc0 (zaj 2) (zaj 3)))) (N':=["_law_k", "_law_script"]) (n:=1) (is:=[0]) (ZS.Blk.of (by kernel_rfl)) (ZS.zaQ (by decide)) (fun _ _ _ _ _ _=>(zaH (i:=0) (show List.Nodup (["_law_k", "_law_script"]:List Str) by decide +kernel) rfl (by first | exact Or.inl rfl | exact Or.inr rfl))) (fun _ _ _ _ _=>zdi) (fun _ _ _ _ _=>(zaT (zaf (zbk (zaf (zai C_law_mixed (hr.mono (by decide)) rfl (zaR (zai C_law_cell_at (hr.mono (by decide)) rfl (zaa (zao 1) (zad zac zag))) (zaa (zao 0) zag)))) (zaf zac))) (zaf zac)))))))) (zae (zeu (i:=8) nd rfl (by first | exact Or.inl rfl | exact Or.inr rfl) (zaz zag)) (zae (zcr PassesOwn.never rfl (zbU rfl g_range (zao 2)) (zaH (i:=9) nd rfl (by first | exact Or.inl rfl | exact Or.inr rfl)) (zah (zeT (i:=8) (pv 8) (zku (zax (by decide +kernel)) (zes (zcp rfl (zdt (zes (zgk (zaj 7) (zeG (zaf (zc0 (zaj 9) (zaj 3)))) (zeG (zaf (zc0 (zaf (zam (zaj 9) (zaf zac))) (zaj 3))))))) (N':=["_law_number", "_law_signs"]) (n:=1) (is:=[6]) (ZS.Blk.of (by kernel_rfl)) (ZS.zaQ (by decide)) (fun _ _ _ _ _ _=>(zaH (i:=0) (show List.Nodup (["_law_number", "_law_signs"]:List Str) by decide +kernel) rfl (by first | exact Or.inl rfl | exact Or.inr rfl))) (fun _ _ _ _ _=>zdi) (fun _ _ _ _ _=>(zal (zaj 1) (zaj 0))))))))) (zah (zap (za8 (zaR (zcG rfl g_tuple zb5 (zaj 8)) (zaa (zao 4) (zaa (zao 5) zag)))))))))))))))
theorem zjG {P:Program} {w:World} {K:PySem.W.Frag} {mg:Str→Option Value} {base:Heap} (d:ZS.Def K mg "_law_hall" zcj ["_law_script"]) (C_law_cell_at:ZS.Cal P w K mg base "_law_cell_at" 1 ["_law_script", "_law_k"] (KG.zak)) (C_law_digits:ZS.Cal P w K mg base "_law_digits" 1 ["_law_cell", "_law_sizes"] (KH.zaF)) (C_law_mixed:ZS.Cal P w K mg base "_law_mixed" 1 ["_law_cell", "_law_k"] (KG.zaq)) (g_range:mg "range" = none) (g_tuple:mg "tuple" = none):ZS.Cal P w K mg base "_law_hall" 2 ["_law_script"] KH.zdb :=
 zds (N:=["_law_script", "_law_first", "_law_rows", "_law_columns", "_law_one", "_law_other", "_law_signs", "_law_numbers", "_law_hall_here", "_law_r"]) (b:=KH.zdz) d zgE (zki C_law_cell_at C_law_digits C_law_mixed g_range g_tuple)
noncomputable abbrev zci:Stmt:=top 48
theorem zgD:FnScope ["_law_cell", "_law_k", "_law_letters", "_law_size", "_law_at", "_law_name_here", "_law_j", "_law_number"] ["_law_cell", "_law_k"] (defScope zci):=⟨rfl,rfl,rfl,by decide +kernel,rfl,by decide +kernel,by decide +kernel⟩
theorem zkh {P:Program} {w:World} {K:PySem.W.Frag} {mg:Str→Option Value} {base:Heap} (g_range:mg "range" = none) (f:Addr) (cdv:Value) (A:Around) (outer:List PySem.Env) (s:Shared) (H:Hp) (E:XK) (hr:Room 0 (A.deeper (envOfC "_law_name" (defScope zci) s.heap.objs.size f cdv))) :
  QSs (cxOf CX0 P w K mg base ["_law_cell", "_law_k", "_law_letters", "_law_size", "_law_at", "_law_name_here", "_law_j", "_law_number"] "_law_name" (defScope zci) f cdv A outer s H E).nox H (defBody zci) KH.zdy:=by
 have nd:=zgD.nd
 have hu:=hr.units
 exact (zae (zan (i:=2) nd rfl (by first | exact Or.inl rfl | exact Or.inr rfl) (zax (by decide +kernel))) (zae (zan (i:=3) nd rfl (by first | exact Or.inl rfl | exact Or.inr rfl) (zam (zaf zac) (zaf (zaT (zaj 0) (zaf zac))))) (zae (zan (i:=4) nd rfl (by first | exact Or.inl rfl | exact Or.inr rfl) (zaT (zaf (zbk (zaj 0) (zaf zac))) (zaj 3))) (zae (zan (i:=5) nd rfl (by first | exact Or.inl rfl | exact Or.inr rfl) (zax (by decide +kernel))) (zae (zcr PassesOwn.never rfl (zbU rfl g_range (zao 3)) (zaH (i:=6) nd rfl (by first | exact Or.inl rfl | exact Or.inr rfl)) (zae (zan (i:=7) nd rfl (by first | exact Or.inl rfl | exact Or.inr rfl) (zam (zaf (zbk (zaf (zbk (zaj 0) (zaf zac))) (zaf (zam (zaj 6) (zaf zac))))) (zaf (zc0 (zaj 6) (zaj 6))))) (zae (zbr (zas (ZS.zgn hu) (zaj 6) (zaj 4) (nomark _)) (zah (zan (i:=7) nd rfl (by first | exact Or.inl rfl | exact Or.inr rfl) (zam (zaj 7) (zaj 1)))) zay) (zah (zan (i:=5) nd rfl (by first | exact Or.inl rfl | exact Or.inr rfl) (zam (zaj 5) (zaf (zal (zaj 2) (zaf (zaT (zaj 7) (zaf zac))))))))))) (zah (zap (zao 5))))))))
theorem zjF {P:Program} {w:World} {K:PySem.W.Frag} {mg:Str→Option Value} {base:Heap} (d:ZS.Def K mg "_law_name" zci ["_law_cell", "_law_k"]) (g_range:mg "range" = none):ZS.Cal P w K mg base "_law_name" 1 ["_law_cell", "_law_k"] KH.zcz :=
 zds (N:=["_law_cell", "_law_k", "_law_letters", "_law_size", "_law_at", "_law_name_here", "_law_j", "_law_number"]) (b:=KH.zdy) d zgD (zkh g_range)
noncomputable abbrev zcO:Stmt:=top 49
theorem zhy:FnScope ["_law_cell", "_law_name_here", "_law_letters", "_law_width", "_law_depth", "_law_kind", "_law_gap", "_law_great", "_law_bits", "_law_rest", "_law_wide", "_law_sizes", "_law_worths", "_law_wishes"] ["_law_cell", "_law_name_here"] (defScope zcO):=⟨rfl,rfl,rfl,by decide +kernel,rfl,by decide +kernel,by decide +kernel⟩
theorem zlx {P:Program} {w:World} {K:PySem.W.Frag} {mg:Str→Option Value} {base:Heap} (C_law_digits:ZS.Cal P w K mg base "_law_digits" 1 ["_law_cell", "_law_sizes"] (KH.zaF)) (g_range:mg "range" = none) (g_tuple:mg "tuple" = none) (f:Addr) (cdv:Value) (A:Around) (outer:List PySem.Env) (s:Shared) (H:Hp) (E:XK) (hr:Room 1 (A.deeper (envOfC "_law_any" (defScope zcO) s.heap.objs.size f cdv))) :
  QSs (cxOf CX0 P w K mg base ["_law_cell", "_law_name_here", "_law_letters", "_law_width", "_law_depth", "_law_kind", "_law_gap", "_law_great", "_law_bits", "_law_rest", "_law_wide", "_law_sizes", "_law_worths", "_law_wishes"] "_law_any" (defScope zcO) f cdv A outer s H E).nox H (defBody zcO) KH.zed:=by
 have nd:=zhy.nd
 have hu:=hr.units
 exact (zae (zan (i:=2) nd rfl (by first | exact Or.inl rfl | exact Or.inr rfl) (zhK (zaz (zad (zax (by decide +kernel)) (zad (zax (by decide +kernel)) (zad (zax (by decide +kernel)) (zad (zax (by decide +kernel)) (zad (zax (by decide +kernel)) (zad (zax (by decide +kernel)) (zad (zax (by decide +kernel)) (zad (zax (by decide +kernel)) (zad (zax (by decide +kernel)) (zad (zax (by decide +kernel)) (zad (zax (by decide +kernel)) (zad (zax (by decide +kernel)) (zad (zax (by decide +kernel)) (zad (zax (by decide +kernel)) (zad (zax (by decide +kernel)) (zad (zax (by decide +kernel)) (zad (zax (by decide +kernel)) (zad (zax (by decide +kernel)) (zad (zax (by decide +kernel)) (zad (zax (by decide +kernel)) zag))))))))))))))))))))))) (zae (zan (i:=2) nd rfl (by first | exact Or.inl rfl | exact Or.inr rfl) (zhK (zg3 (zaj 2) (zes (zaz (zad (zax (by decide +kernel)) (zad (zax (by decide +kernel)) (zad (zax (by decide +kernel)) (zad (zax (by decide +kernel)) (zad (zax (by decide +kernel)) (zad (zax (by decide +kernel)) (zad (zax (by decide +kernel)) zag)))))))))))) (zae (zja (zai C_law_digits (hr.mono (by decide)) rfl (zaa (zao 0) (zdw (zhK (zaz (zad zac (zad zac (zad zac (zad zac (zad zac (zad zac zag)))))))) zag))) (zjh rfl (zaG (i:=3) nd rfl (by first | exact Or.inl rfl | exact Or.inr rfl) (zaG (i:=4) nd rfl (by first | exact Or.inl rfl | exact Or.inr rfl) (zaG (i:=5) nd rfl (by first | exact Or.inl rfl | exact Or.inr rfl) (zaG (i:=6) nd rfl (by first | exact Or.inl rfl | exact Or.inr rfl) (zaG (i:=7) nd rfl (by first | exact Or.inl rfl | exact Or.inr rfl) (zaG (i:=8) nd rfl (by first | exact Or.inl rfl | exact Or.inr rfl) zde)))))) rfl)) (zae (zan (i:=9) nd rfl (by first | exact Or.inl rfl | exact Or.inr rfl) (zbk (zaj 0) (zaf zac))) (zae (zan (i:=10) nd rfl (by first | exact Or.inl rfl | exact Or.inr rfl) (zaT (zaj 9) (zaf (zam (zaf (zc0 (zaf (zam (zaj 3) (zaf zac))) (zaf (zam (zaj 4) (zaf zac))))) (zaf zac))))) (zae (zan (i:=11) nd rfl (by first | exact Or.inl rfl | exact Or.inr rfl) (zal (zes (zaz (zdw (zhK (zaz (zad zac (zad zac (zad zac (zad zac (zad zac (zad zac (zad zac zag))))))))) (za1 (zhK (zg3 (zes (zaz (za1 (zg7 (zaf zac) (zaf zac)) zag))) (zes (zkZ (zaz (za1 (zg6 (zaf (zg7 (zaf zac) (zaf zac))) (zaf zac)) zag)) (zaf zac))))) zag)))) (zaj 7))) (zae (zan (i:=12) nd rfl (by first | exact Or.inl rfl | exact Or.inr rfl) (zai C_law_digits (hr.mono (by decide)) rfl (za1 (zbk (zaj 9) (zaf (zam (zaf (zc0 (zaf (zam (zaj 3) (zaf zac))) (zaf (zam (zaj 4) (zaf zac))))) (zaf zac)))) (zaa (zao 11) zag)))) (zae (zel (i:=13) rfl nd rfl (by first | exact Or.inl rfl | exact Or.inr rfl) (zmu (zbU rfl g_range zac)) (N':=["_law_r", "_law_bits", "_law_worths"]) (n:=1) (is:=[8,12]) (ZS.Blk.of (by kernel_rfl)) (ZS.zaQ (by decide)) (fun _ _ _ _ _ _=>(zaH (i:=0) (show List.Nodup (["_law_r", "_law_bits", "_law_worths"]:List Str) by decide +kernel) rfl (by first | exact Or.inl rfl | exact Or.inr rfl))) (fun _ _ _ _ _=>(zdN (zas (ZS.zgn hu) (zaf (zaT (zaf (zbk (zaj 1) (zaf (zal (zes (zaz (zad zac (zad zac (zad zac (zad zac (zad zac (zad zac zag)))))))) (zaj 0))))) (zaf zac))) (zaf zac) (nomark _)))) (fun _ _ _ _ _=>(za8 (zaa (zao 0) (za1 (zam (zaf zac) (zaf (zal (zaj 2) (zaf (zam (zaf zac) (zaj 0)))))) zag))))) (zah (zap (za8 (zaa (zao 1) (za1 (zam (zaj 3) (zaf zac)) (za1 (zam (zaj 4) (zaf zac)) (zaD (zal (zaj 2) (zaj 5)) (zaa (zao 10) (zaa (zao 6) (zaD (zal (zaj 12) (zaf zac)) (zaR (zcG rfl g_tuple zb5 (zaj 13)) zag)))))))))))))))))))
theorem zlh {P:Program} {w:World} {K:PySem.W.Frag} {mg:Str→Option Value} {base:Heap} (d:ZS.Def K mg "_law_any" zcO ["_law_cell", "_law_name_here"]) (C_law_digits:ZS.Cal P w K mg base "_law_digits" 1 ["_law_cell", "_law_sizes"] (KH.zaF)) (g_range:mg "range" = none) (g_tuple:mg "tuple" = none):ZS.Cal P w K mg base "_law_any" 2 ["_law_cell", "_law_name_here"] KH.zcY :=
 zds (N:=["_law_cell", "_law_name_here", "_law_letters", "_law_width", "_law_depth", "_law_kind", "_law_gap", "_law_great", "_law_bits", "_law_rest", "_law_wide", "_law_sizes", "_law_worths", "_law_wishes"]) (b:=KH.zed) d zhy (zlx C_law_digits g_range g_tuple)
noncomputable abbrev zbI:Stmt:=top 50
theorem zf5:FnScope ["_law_number", "_law_name_here", "_law_letters", "_law_great", "_law_width", "_law_depth", "_law_kind", "_law_wide", "_law_worth_here", "_law_more", "_law_wishes", "_law_r"] ["_law_number", "_law_name_here", "_law_letters", "_law_great"] (defScope zbI):=⟨rfl,rfl,rfl,by decide +kernel,rfl,by decide +kernel,by decide +kernel⟩
theorem zjf {P:Program} {w:World} {K:PySem.W.Frag} {mg:Str→Option Value} {base:Heap} (g_int:mg "int" = none) (g_range:mg "range" = none) (g_tuple:mg "tuple" = none) (f:Addr) (cdv:Value) (A:Around) (outer:List PySem.Env) (s:Shared) (H:Hp) (E:XK) (hr:Room 0 (A.deeper (envOfC "_law_group" (defScope zbI) s.heap.objs.size f cdv))) :
  QSs (cxOf CX0 P w K mg base ["_law_number", "_law_name_here", "_law_letters", "_law_great", "_law_width", "_law_depth", "_law_kind", "_law_wide", "_law_worth_here", "_law_more", "_law_wishes", "_law_r"] "_law_group" (defScope zbI) f cdv A outer s H E).nox H (defBody zbI) KH.zdf:=by
 have nd:=zf5.nd
 have hu:=hr.units
 exact (zae (zan (i:=4) nd rfl (by first | exact Or.inl rfl | exact Or.inr rfl) (zam (zaf zac) (zaf (zaT (zaj 0) (zaf zac))))) (zae (zan (i:=5) nd rfl (by first | exact Or.inl rfl | exact Or.inr rfl) (zal (zes (zaz (zad zac (zad zac (zad zac (zad zac zag)))))) (zaf (zaT (zaf (zbk (zaj 0) (zaf zac))) (zaf zac))))) (zae (zan (i:=6) nd rfl (by first | exact Or.inl rfl | exact Or.inr rfl) (zal (zes (zaz (zad (zax (by decide +kernel)) (zad (zax (by decide +kernel)) (zaD (zal (zaj 2) (zaf zac)) (zaD (zal (zaj 2) (zaf zac)) zag)))))) (zaf (zaT (zaf (zbk (zaj 0) (zaf zac))) (zaf zac))))) (zae (zan (i:=7) nd rfl (by first | exact Or.inl rfl | exact Or.inr rfl) (zal (zes (zaz (zad zac (zad zac (zad zac (zad zac zag)))))) (zaf (zaT (zaf (zbk (zaj 0) (zaf zac))) (zaf zac))))) (zae (zan (i:=8) nd rfl (by first | exact Or.inl rfl | exact Or.inr rfl) (zaT (zaf (zbk (zaj 0) (zaf zac))) (zaf zac))) (zae (zan (i:=9) nd rfl (by first | exact Or.inl rfl | exact Or.inr rfl) (zam (zaf zac) (zaf (zaT (zaf (zbk (zaj 0) (zaf zac))) (zaf zac))))) (zae (zbr (zhl (zao 3)) (zae (zan (i:=8) nd rfl (by first | exact Or.inl rfl | exact Or.inr rfl) (zaT (zaf (zbk (zaj 0) (zaf zac))) (zaf (zg7 (zaf zac) (zaf zac))))) (zah (zan (i:=9) nd rfl (by first | exact Or.inl rfl | exact Or.inr rfl) (zam (zaf zac) (zaf (zaT (zaf (zbk (zaj 0) (zaf zac))) (zaf (zg7 (zaf zac) (zaf zac))))))))) zay) (zae (zeu (i:=10) nd rfl (by first | exact Or.inl rfl | exact Or.inr rfl) (zaz zag)) (zae (zcr PassesOwn.never rfl (zbU rfl g_range zac) (zaH (i:=11) nd rfl (by first | exact Or.inl rfl | exact Or.inr rfl)) (zah (zbr (zas (ZS.zgn hu) (zaf (zaT (zaf (zbk (zaj 0) (zaf (zal (zes (zaz (zad zac (zad zac (zad zac (zad zac zag)))))) (zaj 11))))) (zaf zac))) (zaf zac) (nomark _)) (zah (zeT (i:=10) (pv 10) (za8 (zaa (zao 11) (za1 (zam (zaj 9) (zaf (zc0 (zaj 11) (zaf (zkv rfl g_int zmL (zaj 3)))))) zag))))) zay))) (zah (zap (za8 (zaa (zao 1) (zaa (zao 4) (zaa (zao 5) (zaa (zao 6) (zaa (zao 7) (zaD (zal (zes (zaz (zad zac (zad zac (zad zac (zad zac zag)))))) (zaf (zaT (zaf (zbk (zaj 0) (zaf zac))) (zaf zac)))) (zaa (zao 8) (zaR (zcG rfl g_tuple zb5 (zaj 10)) zag))))))))))))))))))))
theorem ziN {P:Program} {w:World} {K:PySem.W.Frag} {mg:Str→Option Value} {base:Heap} (d:ZS.Def K mg "_law_group" zbI ["_law_number", "_law_name_here", "_law_letters", "_law_great"]) (g_int:mg "int" = none) (g_range:mg "range" = none) (g_tuple:mg "tuple" = none):ZS.Cal P w K mg base "_law_group" 1 ["_law_number", "_law_name_here", "_law_letters", "_law_great"] KH.zbY :=
 zds (N:=["_law_number", "_law_name_here", "_law_letters", "_law_great", "_law_width", "_law_depth", "_law_kind", "_law_wide", "_law_worth_here", "_law_more", "_law_wishes", "_law_r"]) (b:=KH.zdf) d zf5 (zjf g_int g_range g_tuple)
noncomputable abbrev zbx:Stmt:=top 51
theorem zff:FnScope ["_law_script", "_law_one", "_law_other", "_law_way", "_law_many", "_law_great", "_law_twins", "_law_groups_here", "_law_k", "_law_name_here", "_law_cell"] ["_law_script", "_law_one", "_law_other"] (defScope zbx):=⟨rfl,rfl,rfl,by decide +kernel,rfl,by decide +kernel,by decide +kernel⟩
theorem zim {P:Program} {w:World} {K:PySem.W.Frag} {mg:Str→Option Value} {base:Heap} (C_law_any:ZS.Cal P w K mg base "_law_any" 2 ["_law_cell", "_law_name_here"] (KH.zcY)) (C_law_cell_at:ZS.Cal P w K mg base "_law_cell_at" 1 ["_law_script", "_law_k"] (KG.zak)) (C_law_digits:ZS.Cal P w K mg base "_law_digits" 1 ["_law_cell", "_law_sizes"] (KH.zaF)) (C_law_group:ZS.Cal P w K mg base "_law_group" 1 ["_law_number", "_law_name_here", "_law_letters", "_law_great"] (KH.zbY)) (C_law_mixed:ZS.Cal P w K mg base "_law_mixed" 1 ["_law_cell", "_law_k"] (KG.zaq)) (C_law_name:ZS.Cal P w K mg base "_law_name" 1 ["_law_cell", "_law_k"] (KH.zcz)) (g_len:mg "len" = none) (g_range:mg "range" = none) (g_tuple:mg "tuple" = none) (f:Addr) (cdv:Value) (A:Around) (outer:List PySem.Env) (s:Shared) (H:Hp) (E:XK) (hr:Room 2 (A.deeper (envOfC "_law_groups" (defScope zbx) s.heap.objs.size f cdv))) :
  QSs (cxOf CX0 P w K mg base ["_law_script", "_law_one", "_law_other", "_law_way", "_law_many", "_law_great", "_law_twins", "_law_groups_here", "_law_k", "_law_name_here", "_law_cell"] "_law_groups" (defScope zbx) f cdv A outer s H E).nox H (defBody zbx) KH.zc2:=by
 have nd:=zff.nd
 have hu:=hr.units
 exact (zae (zja (zai C_law_digits (hr.mono (by decide)) rfl (zaR (zai C_law_cell_at (hr.mono (by decide)) rfl (zaa (zao 0) (zad zac zag))) (zdw (zhK (zaz (zad zac (zad zac (zad zac (zad zac zag)))))) zag))) (zjh rfl (zaG (i:=3) nd rfl (by first | exact Or.inl rfl | exact Or.inr rfl) (zaG (i:=4) nd rfl (by first | exact Or.inl rfl | exact Or.inr rfl) (zaG (i:=5) nd rfl (by first | exact Or.inl rfl | exact Or.inr rfl) (zaG (i:=6) nd rfl (by first | exact Or.inl rfl | exact Or.inr rfl) zde)))) rfl)) (zae (zeu (i:=7) nd rfl (by first | exact Or.inl rfl | exact Or.inr rfl) (zaz zag)) (zae (zcr PassesOwn.never rfl (zbU rfl g_range (zao 4)) (zaH (i:=8) nd rfl (by first | exact Or.inl rfl | exact Or.inr rfl)) (zae (zan (i:=9) nd rfl (by first | exact Or.inl rfl | exact Or.inr rfl) (zai C_law_name (hr.mono (by decide)) rfl (zaR (zai C_law_cell_at (hr.mono (by decide)) rfl (zaa (zao 0) (zad zac zag))) (zaa (zao 8) zag)))) (zae (zan (i:=10) nd rfl (by first | exact Or.inl rfl | exact Or.inr rfl) (zai C_law_cell_at (hr.mono (by decide)) rfl (zaa (zao 0) (za1 (zam (zaf zac) (zaj 8)) zag)))) (zae (zbr (zas ZS.zsu (zaf (zam (zaf zac) (zaj 8))) (zaf (zbb rfl g_len zbl (zaj 0))) (nomark _)) (zah (zan (i:=10) nd rfl (by first | exact Or.inl rfl | exact Or.inr rfl) (zc0 (zaf (zai C_law_mixed (hr.mono (by decide)) rfl (zaR (zai C_law_cell_at (hr.mono (by decide)) rfl (zaa (zao 0) (zad zac zag))) (zaa (zao 8) zag)))) (zaf (zai C_law_mixed (hr.mono (by decide)) rfl (zaR (zai C_law_cell_at (hr.mono (by decide)) rfl (zaa (zao 0) (zad zac zag))) (zaa (zao 8) zag))))))) zay) (zah (zbr (dtw (zet (zas (ZS.zgn hu) (zaj 6) (zaf zac) (nomark _)) (zet (zas ZS.zo2 (zaj 8) (zaf zac) (nomark _)) (zdU (zas ZS.zo2 (zaf (zaT (zaj 10) (zaf zac))) (zaf zac) (nomark _)))))) (zah (zeT (i:=7) (pv 7) (zam (zaf (za8 (zaa (zao 9) zag))) (zaf (zcH (zaf (zal (zaj 7) (zaf zac))) (zeG (zaf zac)) zfT))))) (zah (zbr (zas (ZS.zgn hu) (zaf (zaT (zaj 3) (zaf zac))) (zaf zac) (nomark _)) (zah (zeT (i:=7) (pv 7) (zai C_law_any (hr.mono (by decide)) rfl (zaa (zao 10) (zaa (zao 9) zag))))) (zah (zeT (i:=7) (pv 7) (zai C_law_group (hr.mono (by decide)) rfl (za1 (zaT (zaj 10) (zaf (zg7 (zaf zac) (zaf zac)))) (zaa (zao 9) (za1 (zam (zaj 1) (zaj 2)) (zkx (zcK (ZS.zgn hu) (zaj 5) (zaf zac) (nomark _)) zag))))))))))))))) (zah (zap (zcG rfl g_tuple zb5 (zaj 7)))))))
theorem zh1 {P:Program} {w:World} {K:PySem.W.Frag} {mg:Str→Option Value} {base:Heap} (d:ZS.Def K mg "_law_groups" zbx ["_law_script", "_law_one", "_law_other"]) (C_law_any:ZS.Cal P w K mg base "_law_any" 2 ["_law_cell", "_law_name_here"] (KH.zcY)) (C_law_cell_at:ZS.Cal P w K mg base "_law_cell_at" 1 ["_law_script", "_law_k"] (KG.zak)) (C_law_digits:ZS.Cal P w K mg base "_law_digits" 1 ["_law_cell", "_law_sizes"] (KH.zaF)) (C_law_group:ZS.Cal P w K mg base "_law_group" 1 ["_law_number", "_law_name_here", "_law_letters", "_law_great"] (KH.zbY)) (C_law_mixed:ZS.Cal P w K mg base "_law_mixed" 1 ["_law_cell", "_law_k"] (KG.zaq)) (C_law_name:ZS.Cal P w K mg base "_law_name" 1 ["_law_cell", "_law_k"] (KH.zcz)) (g_len:mg "len" = none) (g_range:mg "range" = none) (g_tuple:mg "tuple" = none):ZS.Cal P w K mg base "_law_groups" 3 ["_law_script", "_law_one", "_law_other"] KH.zcF :=
 zds (N:=["_law_script", "_law_one", "_law_other", "_law_way", "_law_many", "_law_great", "_law_twins", "_law_groups_here", "_law_k", "_law_name_here", "_law_cell"]) (b:=KH.zc2) d zff (zim C_law_any C_law_cell_at C_law_digits C_law_group C_law_mixed C_law_name g_len g_range g_tuple)
noncomputable abbrev zck:Stmt:=top 52
theorem zgF:FnScope ["_law_hall_here", "_law_group_here", "_law_row", "_law_column", "_law_signs", "_law_r"] ["_law_hall_here", "_law_group_here", "_law_row", "_law_column"] (defScope zck):=⟨rfl,rfl,rfl,by decide +kernel,rfl,by decide +kernel,by decide +kernel⟩
theorem zkj {P:Program} {w:World} {K:PySem.W.Frag} {mg:Str→Option Value} {base:Heap} (g_len:mg "len" = none) (g_range:mg "range" = none) (f:Addr) (cdv:Value) (A:Around) (outer:List PySem.Env) (s:Shared) (H:Hp) (E:XK) (hr:Room 0 (A.deeper (envOfC "_law_fits" (defScope zck) s.heap.objs.size f cdv))) :
  QSs (cxOf CX0 P w K mg base ["_law_hall_here", "_law_group_here", "_law_row", "_law_column", "_law_signs", "_law_r"] "_law_fits" (defScope zck) f cdv A outer s H E).nox H (defBody zck) KH.zdg:=by
 have nd:=zgF.nd
 have hu:=hr.units
 exact (zae (zbr (dtw (ze3 (zas ZS.zo2 (zaf (zam (zaj 2) (zaf (zal (zaj 1) (zaf zac))))) (zaf (zbb rfl g_len zbl (zaj 0))) (nomark _)) (zeF (zas ZS.zo2 (zaf (zam (zaj 3) (zaf (zal (zaj 1) (zaf zac))))) (zaf (zbb rfl g_len zbl (zaf (zal (zaj 0) (zaf zac))))) (nomark _))))) (zah (zap zdV)) zay) (zae (zan (i:=4) nd rfl (by first | exact Or.inl rfl | exact Or.inr rfl) (zax (by decide +kernel))) (zae (zcr PassesOwn.never rfl (zg4 rfl g_range (zao 2) (zam (zaj 2) (zaf (zal (zaj 1) (zaf zac))))) (zaH (i:=5) nd rfl (by first | exact Or.inl rfl | exact Or.inr rfl)) (zah (zan (i:=4) nd rfl (by first | exact Or.inl rfl | exact Or.inr rfl) (zam (zaj 4) (zaf (zcH (zaf (zal (zaj 0) (zaj 5))) (zeG (zaj 3)) (zeG (zaf (zam (zaj 3) (zaf (zal (zaj 1) (zaf zac)))))))))))) (zae (zbr (zas (ZS.zmV hu) (zes (zcp rfl (zdt (zaj 4)) (N':=["_law_sign", "_law_group_here"]) (n:=1) (is:=[1]) (ZS.Blk.of (by kernel_rfl)) (ZS.zaQ (by decide)) (fun _ _ _ _ _ _=>(zaH (i:=0) (show List.Nodup (["_law_sign", "_law_group_here"]:List Str) by decide +kernel) rfl (by first | exact Or.inl rfl | exact Or.inr rfl))) (fun _ _ _ _ _=>(zdN (dtw (zet (zas (ZS.zmV hu) (zaj 0) (zaf (zax (by decide +kernel))) (nomark _)) (zet (zas (ZS.zmV hu) (zaj 0) (zaf (zax (by decide +kernel))) (nomark _)) (zdU (zas (ZS.zmV hu) (zaj 0) (zaf (zal (zaj 1) (zaf zac))) (nomark _)))))))) (fun _ _ _ _ _=>(zao 0)))) (zes (zaz zag)) (nomark _)) (zah (zap zdV)) zay) (zah (zap (zcK ZS.zsu (zaf (zkw (zaj 4) (zaf (zax (by decide +kernel))))) (zaf (zal (zaj 1) (zaf zac))) (nomark _))))))))
theorem zjH {P:Program} {w:World} {K:PySem.W.Frag} {mg:Str→Option Value} {base:Heap} (d:ZS.Def K mg "_law_fits" zck ["_law_hall_here", "_law_group_here", "_law_row", "_law_column"]) (g_len:mg "len" = none) (g_range:mg "range" = none):ZS.Cal P w K mg base "_law_fits" 1 ["_law_hall_here", "_law_group_here", "_law_row", "_law_column"] KH.zcW :=
 zds (N:=["_law_hall_here", "_law_group_here", "_law_row", "_law_column", "_law_signs", "_law_r"]) (b:=KH.zdg) d zgF (zkj g_len g_range)
noncomputable abbrev zbw:Stmt:=top 53
theorem zfe:FnScope ["_law_hall_here", "_law_group_here", "_law_found", "_law_row", "_law_column"] ["_law_hall_here", "_law_group_here"] (defScope zbw):=⟨rfl,rfl,rfl,by decide +kernel,rfl,by decide +kernel,by decide +kernel⟩
theorem zil {P:Program} {w:World} {K:PySem.W.Frag} {mg:Str→Option Value} {base:Heap} (C_law_fits:ZS.Cal P w K mg base "_law_fits" 1 ["_law_hall_here", "_law_group_here", "_law_row", "_law_column"] (KH.zcW)) (g_len:mg "len" = none) (g_range:mg "range" = none) (f:Addr) (cdv:Value) (A:Around) (outer:List PySem.Env) (s:Shared) (H:Hp) (E:XK) (hr:Room 1 (A.deeper (envOfC "_law_places" (defScope zbw) s.heap.objs.size f cdv))) :
  QSs (cxOf CX0 P w K mg base ["_law_hall_here", "_law_group_here", "_law_found", "_law_row", "_law_column"] "_law_places" (defScope zbw) f cdv A outer s H E).nox H (defBody zbw) KH.zdn:=by
 have nd:=zfe.nd
 have hu:=hr.units
 exact (zae (zeu (i:=2) nd rfl (by first | exact Or.inl rfl | exact Or.inr rfl) (zaz zag)) (zae (zcr PassesOwn.never rfl (zbU rfl g_range (zbb rfl g_len zbl (zaj 0))) (zaH (i:=3) nd rfl (by first | exact Or.inl rfl | exact Or.inr rfl)) (zah (zcr PassesOwn.never rfl (zbU rfl g_range (zbb rfl g_len zbl (zaf (zal (zaj 0) (zaf zac))))) (zaH (i:=4) nd rfl (by first | exact Or.inl rfl | exact Or.inr rfl)) (zah (zbr (zhl (zai C_law_fits (hr.mono (by decide)) rfl (zaa (zao 0) (zaa (zao 1) (zaa (zao 3) (zaa (zao 4) zag)))))) (zah (zeT (i:=2) (pv 2) (za8 (zaa (zao 3) (zaa (zao 4) zag))))) zay))))) (zgZ (i:=2) (zah (zap (zao 2))))))
theorem zh0 {P:Program} {w:World} {K:PySem.W.Frag} {mg:Str→Option Value} {base:Heap} (d:ZS.Def K mg "_law_places" zbw ["_law_hall_here", "_law_group_here"]) (C_law_fits:ZS.Cal P w K mg base "_law_fits" 1 ["_law_hall_here", "_law_group_here", "_law_row", "_law_column"] (KH.zcW)) (g_len:mg "len" = none) (g_range:mg "range" = none):ZS.Cal P w K mg base "_law_places" 2 ["_law_hall_here", "_law_group_here"] KH.zbq :=
 zds (N:=["_law_hall_here", "_law_group_here", "_law_found", "_law_row", "_law_column"]) (b:=KH.zdn) d zfe (zil C_law_fits g_len g_range)
noncomputable abbrev zbJ:Stmt:=top 54
theorem zf6:FnScope ["_law_one", "_law_here", "_law_other", "_law_there", "_law_gap"] ["_law_one", "_law_here", "_law_other", "_law_there"] (defScope zbJ):=⟨rfl,rfl,rfl,by decide +kernel,rfl,by decide +kernel,by decide +kernel⟩
theorem zjg {P:Program} {w:World} {K:PySem.W.Frag} {mg:Str→Option Value} {base:Heap} (g_max:mg "max" = none) (f:Addr) (cdv:Value) (A:Around) (outer:List PySem.Env) (s:Shared) (H:Hp) (E:XK) (hr:Room 0 (A.deeper (envOfC "_law_apart" (defScope zbJ) s.heap.objs.size f cdv))) :
  QSs (cxOf CX0 P w K mg base ["_law_one", "_law_here", "_law_other", "_law_there", "_law_gap"] "_law_apart" (defScope zbJ) f cdv A outer s H E).nox H (defBody zbJ) KH.zcD:=by
 have nd:=zf6.nd
 have hu:=hr.units
 exact (zae (zbr (dtw (ze3 (zas ZS.zjo (zaf (zam (zaf (zal (zaj 1) (zaf zac))) (zaf (zal (zaj 0) (zaf zac))))) (zaf (zal (zaj 3) (zaf zac))) (nomark _)) (zeF (zas ZS.zjo (zaf (zam (zaf (zal (zaj 3) (zaf zac))) (zaf (zal (zaj 2) (zaf zac))))) (zaf (zal (zaj 1) (zaf zac))) (nomark _))))) (zah (zap zdV)) zay) (zae (zan (i:=4) nd rfl (by first | exact Or.inl rfl | exact Or.inr rfl) (zis rfl g_max zk8 (zaf (zal (zaj 0) (zaf zac))) (zaf (zal (zaj 2) (zaf zac))))) (zah (zap (zmw (zcK ZS.zjo (zaf (zam (zaf (zam (zaf (zal (zaj 1) (zaf zac))) (zaf (zal (zaj 0) (zaf zac))))) (zaj 4))) (zaf (zal (zaj 3) (zaf zac))) (nomark _)) (zd2 (zcK ZS.zjo (zaf (zam (zaf (zam (zaf (zal (zaj 3) (zaf zac))) (zaf (zal (zaj 2) (zaf zac))))) (zaj 4))) (zaf (zal (zaj 1) (zaf zac))) (nomark _))))))))
theorem ziO {P:Program} {w:World} {K:PySem.W.Frag} {mg:Str→Option Value} {base:Heap} (d:ZS.Def K mg "_law_apart" zbJ ["_law_one", "_law_here", "_law_other", "_law_there"]) (g_max:mg "max" = none):ZS.Cal P w K mg base "_law_apart" 1 ["_law_one", "_law_here", "_law_other", "_law_there"] KH.zcA :=
 zds (N:=["_law_one", "_law_here", "_law_other", "_law_there", "_law_gap"]) (b:=KH.zcD) d zf6 (zjg g_max)
noncomputable abbrev zch:Stmt:=top 55
theorem zgC:FnScope ["_law_spots", "_law_groups_here", "_law_seating", "_law_k", "_law_found", "_law_place", "_law_free", "_law_j", "_law_there"] ["_law_spots", "_law_groups_here", "_law_seating", "_law_k"] (defScope zch):=⟨rfl,rfl,rfl,by decide +kernel,rfl,by decide +kernel,by decide +kernel⟩
theorem zkg {P:Program} {w:World} {K:PySem.W.Frag} {mg:Str→Option Value} {base:Heap} (C_law_apart:ZS.Cal P w K mg base "_law_apart" 1 ["_law_one", "_law_here", "_law_other", "_law_there"] (KH.zcA)) (g_len:mg "len" = none) (g_range:mg "range" = none) (f:Addr) (cdv:Value) (A:Around) (outer:List PySem.Env) (s:Shared) (H:Hp) (E:XK) (hr:Room 1 (A.deeper (envOfC "_law_open" (defScope zch) s.heap.objs.size f cdv))) :
  QSs (cxOf CX0 P w K mg base ["_law_spots", "_law_groups_here", "_law_seating", "_law_k", "_law_found", "_law_place", "_law_free", "_law_j", "_law_there"] "_law_open" (defScope zch) f cdv A outer s H E).nox H (defBody zch) KH.zea:=by
 have nd:=zgC.nd
 have hu:=hr.units
 exact (zae (zeu (i:=4) nd rfl (by first | exact Or.inl rfl | exact Or.inr rfl) (zaz zag)) (zae (zcr PassesOwn.never rfl (zgb (zal (zaj 0) (zaj 3))) (zaH (i:=5) nd rfl (by first | exact Or.inl rfl | exact Or.inr rfl)) (zae (zan (i:=6) nd rfl (by first | exact Or.inl rfl | exact Or.inr rfl) zdV) (zae (zcr PassesOwn.never rfl (zbU rfl g_range (zbb rfl g_len zbl (zaj 1))) (zaH (i:=7) nd rfl (by first | exact Or.inl rfl | exact Or.inr rfl)) (zae (zan (i:=8) nd rfl (by first | exact Or.inl rfl | exact Or.inr rfl) (zal (zaj 2) (zaj 7))) (zah (zbr (dtw (zet (zas (ZS.zmV hu) (zaj 7) (zaj 3) (nomark _)) (zdU (zfP (zaj 8))))) (zah (zan (i:=6) nd rfl (by first | exact Or.inl rfl | exact Or.inr rfl) (zeV (zao 6) (zd2 (zai C_law_apart (hr.mono (by decide)) rfl (zaD (zal (zaj 1) (zaj 3)) (zaa (zao 5) (zaD (zal (zaj 1) (zaj 7)) (zaa (zao 8) zag))))))))) zay)))) (zah (zbr (zhl (zao 6)) (zah (zeT (i:=4) (pv 4) (zao 5))) zay))))) (zgZ (i:=4) (zah (zap (zao 4))))))
theorem zjE {P:Program} {w:World} {K:PySem.W.Frag} {mg:Str→Option Value} {base:Heap} (d:ZS.Def K mg "_law_open" zch ["_law_spots", "_law_groups_here", "_law_seating", "_law_k"]) (C_law_apart:ZS.Cal P w K mg base "_law_apart" 1 ["_law_one", "_law_here", "_law_other", "_law_there"] (KH.zcA)) (g_len:mg "len" = none) (g_range:mg "range" = none):ZS.Cal P w K mg base "_law_open" 2 ["_law_spots", "_law_groups_here", "_law_seating", "_law_k"] KH.zaC :=
 zds (N:=["_law_spots", "_law_groups_here", "_law_seating", "_law_k", "_law_found", "_law_place", "_law_free", "_law_j", "_law_there"]) (b:=KH.zea) d zgC (zkg C_law_apart g_len g_range)
noncomputable abbrev zce:Stmt:=top 56
theorem zgA:FnScope ["_law_seating", "_law_k", "_law_place"] ["_law_seating", "_law_k", "_law_place"] (defScope zce):=⟨rfl,rfl,rfl,by decide +kernel,rfl,by decide +kernel,by decide +kernel⟩
theorem zkd {P:Program} {w:World} {K:PySem.W.Frag} {mg:Str→Option Value} {base:Heap}  (f:Addr) (cdv:Value) (A:Around) (outer:List PySem.Env) (s:Shared) (H:Hp) (E:XK) (hr:Room 0 (A.deeper (envOfC "_law_with" (defScope zce) s.heap.objs.size f cdv))) :
  QSs (cxOf CX0 P w K mg base ["_law_seating", "_law_k", "_law_place"] "_law_with" (defScope zce) f cdv A outer s H E).nox H (defBody zce) KH.zd7:=by
 have nd:=zgA.nd
 have hu:=hr.units
 exact (zah (zap (zam (zaf (zam (zaf (zcH (zaj 0) zfT (zeG (zaj 1)))) (zaf (za8 (zaa (zao 2) zag))))) (zaf (zcH (zaj 0) (zeG (zaf (zam (zaj 1) (zaf zac)))) zfT)))))
theorem zjC {P:Program} {w:World} {K:PySem.W.Frag} {mg:Str→Option Value} {base:Heap} (d:ZS.Def K mg "_law_with" zce ["_law_seating", "_law_k", "_law_place"])  : ZS.Cal P w K mg base "_law_with" 1 ["_law_seating", "_law_k", "_law_place"] KH.zaZ :=
 zds (N:=["_law_seating", "_law_k", "_law_place"]) (b:=KH.zd7) d zgA (zkd )
noncomputable abbrev zcN:Stmt:=top 57
theorem zhx:FnScope ["_law_hall_here", "_law_groups_here", "_law_most", "_law_many", "_law_kept", "_law_group_here", "_law_count"] ["_law_hall_here", "_law_groups_here", "_law_most"] (defScope zcN):=⟨rfl,rfl,rfl,by decide +kernel,rfl,by decide +kernel,by decide +kernel⟩
theorem zlw {P:Program} {w:World} {K:PySem.W.Frag} {mg:Str→Option Value} {base:Heap} (C_law_places:ZS.Cal P w K mg base "_law_places" 2 ["_law_hall_here", "_law_group_here"] (KH.zbq)) (g_len:mg "len" = none) (g_tuple:mg "tuple" = none) (f:Addr) (cdv:Value) (A:Around) (outer:List PySem.Env) (s:Shared) (H:Hp) (E:XK) (hr:Room 2 (A.deeper (envOfC "_law_few" (defScope zcN) s.heap.objs.size f cdv))) :
  QSs (cxOf CX0 P w K mg base ["_law_hall_here", "_law_groups_here", "_law_most", "_law_many", "_law_kept", "_law_group_here", "_law_count"] "_law_few" (defScope zcN) f cdv A outer s H E).nox H (defBody zcN) KH.zeb:=by
 have nd:=zhx.nd
 have hu:=hr.units
 exact (zae (zan (i:=3) nd rfl (by first | exact Or.inl rfl | exact Or.inr rfl) zac) (zae (zeu (i:=4) nd rfl (by first | exact Or.inl rfl | exact Or.inr rfl) (zaz zag)) (zae (zcr PassesOwn.never rfl (zgb (zao 1)) (zaH (i:=5) nd rfl (by first | exact Or.inl rfl | exact Or.inr rfl)) (zae (zan (i:=6) nd rfl (by first | exact Or.inl rfl | exact Or.inr rfl) (zam (zaf zac) (zaf (zbb rfl g_len zbl (zaf (zai C_law_places (hr.mono (by decide)) rfl (zaa (zao 0) (zaa (zao 5) zag)))))))) (zah (zbr (zas ZS.zjo (zaf (zc0 (zaj 3) (zaj 6))) (zaj 2) (nomark _)) (zae (zan (i:=3) nd rfl (by first | exact Or.inl rfl | exact Or.inr rfl) (zc0 (zaj 3) (zaj 6))) (zah (zeT (i:=4) (pv 4) (zao 5)))) zay)))) (zah (zap (zcG rfl g_tuple zb5 (zaj 4)))))))
theorem zlg {P:Program} {w:World} {K:PySem.W.Frag} {mg:Str→Option Value} {base:Heap} (d:ZS.Def K mg "_law_few" zcN ["_law_hall_here", "_law_groups_here", "_law_most"]) (C_law_places:ZS.Cal P w K mg base "_law_places" 2 ["_law_hall_here", "_law_group_here"] (KH.zbq)) (g_len:mg "len" = none) (g_tuple:mg "tuple" = none):ZS.Cal P w K mg base "_law_few" 3 ["_law_hall_here", "_law_groups_here", "_law_most"] KH.zdx :=
 zds (N:=["_law_hall_here", "_law_groups_here", "_law_most", "_law_many", "_law_kept", "_law_group_here", "_law_count"]) (b:=KH.zeb) d zhx (zlw C_law_places g_len g_tuple)
noncomputable abbrev zbv:Stmt:=top 58
theorem zfd:FnScope ["_law_spots", "_law_groups_here", "_law_script", "_law_seating", "_law_k", "_law_cell", "_law_some"] ["_law_spots", "_law_groups_here", "_law_script"] (defScope zbv):=⟨rfl,rfl,rfl,by decide +kernel,rfl,by decide +kernel,by decide +kernel⟩
theorem zik {P:Program} {w:World} {K:PySem.W.Frag} {mg:Str→Option Value} {base:Heap} (C_law_cell_at:ZS.Cal P w K mg base "_law_cell_at" 1 ["_law_script", "_law_k"] (KG.zak)) (C_law_mixed:ZS.Cal P w K mg base "_law_mixed" 1 ["_law_cell", "_law_k"] (KG.zaq)) (C_law_open:ZS.Cal P w K mg base "_law_open" 2 ["_law_spots", "_law_groups_here", "_law_seating", "_law_k"] (KH.zaC)) (C_law_with:ZS.Cal P w K mg base "_law_with" 1 ["_law_seating", "_law_k", "_law_place"] (KH.zaZ)) (g_len:mg "len" = none) (g_range:mg "range" = none) (g_tuple:mg "tuple" = none) (f:Addr) (cdv:Value) (A:Around) (outer:List PySem.Env) (s:Shared) (H:Hp) (E:XK) (hr:Room 2 (A.deeper (envOfC "_law_seated" (defScope zbv) s.heap.objs.size f cdv))) :
  QSs (cxOf CX0 P w K mg base ["_law_spots", "_law_groups_here", "_law_script", "_law_seating", "_law_k", "_law_cell", "_law_some"] "_law_seated" (defScope zbv) f cdv A outer s H E).nox H (defBody zbv) KH.zc1:=by
 have nd:=zfd.nd
 have hu:=hr.units
 exact (zae (zan (i:=3) nd rfl (by first | exact Or.inl rfl | exact Or.inr rfl) (zcG rfl g_tuple zb5 (zes (zcp rfl (zdt (zaj 1)) (N':=["_law_group_here"]) (n:=1) (is:=[]) (ZS.Blk.of (by kernel_rfl)) (ZS.zaQ (by decide)) (fun _ _ _ _ _ _=>(zaH (i:=0) (show List.Nodup (["_law_group_here"]:List Str) by decide +kernel) rfl (by first | exact Or.inl rfl | exact Or.inr rfl))) (fun _ _ _ _ _=>zdi) (fun _ _ _ _ _=>zg8))))) (zae (zcr PassesOwn.never rfl (zbU rfl g_range (zbb rfl g_len zbl (zaj 1))) (zaH (i:=4) nd rfl (by first | exact Or.inl rfl | exact Or.inr rfl)) (zae (zan (i:=5) nd rfl (by first | exact Or.inl rfl | exact Or.inr rfl) (zai C_law_mixed (hr.mono (by decide)) rfl (zaR (zai C_law_cell_at (hr.mono (by decide)) rfl (zaa (zao 2) (za1 (zam (zaf zac) (zaj 4)) zag))) (za1 (zam (zaf zac) (zaj 4)) zag)))) (zae (zbr (zas ZS.zqo (zaf (zam (zaf zac) (zaj 4))) (zaf (zbb rfl g_len zbl (zaj 2))) (nomark _)) (zah (zan (i:=5) nd rfl (by first | exact Or.inl rfl | exact Or.inr rfl) (zal (zaj 2) (zaf (zam (zaf zac) (zaj 4)))))) zay) (zae (zan (i:=6) nd rfl (by first | exact Or.inl rfl | exact Or.inr rfl) (zai C_law_open (hr.mono (by decide)) rfl (zaa (zao 0) (zaa (zao 1) (zaa (zao 3) (zaa (zao 4) zag)))))) (zah (zbr (dtw (zet (zas (ZS.zmV hu) (zaj 6) (zes (zaz zag)) (nomark _)) (zdU (zas ZS.zo2 (zaf (zaT (zaj 5) (zaf zac))) (zaf zac) (nomark _))))) (zah (zan (i:=3) nd rfl (by first | exact Or.inl rfl | exact Or.inr rfl) (zai C_law_with (hr.mono (by decide)) rfl (zaa (zao 3) (zaa (zao 4) (zaD (zal (zaj 6) (zaf (zaT (zaf (zbk (zaj 5) (zaf zac))) (zaf (zbb rfl g_len zbl (zaj 6)))))) zag)))))) zay)))))) (zah (zap (zao 3)))))
theorem zhZ {P:Program} {w:World} {K:PySem.W.Frag} {mg:Str→Option Value} {base:Heap} (d:ZS.Def K mg "_law_seated" zbv ["_law_spots", "_law_groups_here", "_law_script"]) (C_law_cell_at:ZS.Cal P w K mg base "_law_cell_at" 1 ["_law_script", "_law_k"] (KG.zak)) (C_law_mixed:ZS.Cal P w K mg base "_law_mixed" 1 ["_law_cell", "_law_k"] (KG.zaq)) (C_law_open:ZS.Cal P w K mg base "_law_open" 2 ["_law_spots", "_law_groups_here", "_law_seating", "_law_k"] (KH.zaC)) (C_law_with:ZS.Cal P w K mg base "_law_with" 1 ["_law_seating", "_law_k", "_law_place"] (KH.zaZ)) (g_len:mg "len" = none) (g_range:mg "range" = none) (g_tuple:mg "tuple" = none):ZS.Cal P w K mg base "_law_seated" 3 ["_law_spots", "_law_groups_here", "_law_script"] KH.zcE :=
 zds (N:=["_law_spots", "_law_groups_here", "_law_script", "_law_seating", "_law_k", "_law_cell", "_law_some"]) (b:=KH.zc1) d zfd (zik C_law_cell_at C_law_mixed C_law_open C_law_with g_len g_range g_tuple)
noncomputable abbrev zcl:Stmt:=top 59
theorem zgG:FnScope ["_law_seating", "_law_cell"] ["_law_seating", "_law_cell"] (defScope zcl):=⟨rfl,rfl,rfl,by decide +kernel,rfl,by decide +kernel,by decide +kernel⟩
theorem zkk {P:Program} {w:World} {K:PySem.W.Frag} {mg:Str→Option Value} {base:Heap} (g_len:mg "len" = none) (g_range:mg "range" = none) (g_tuple:mg "tuple" = none) (f:Addr) (cdv:Value) (A:Around) (outer:List PySem.Env) (s:Shared) (H:Hp) (E:XK) (hr:Room 0 (A.deeper (envOfC "_law_fast" (defScope zcl) s.heap.objs.size f cdv))) :
  QSs (cxOf CX0 P w K mg base ["_law_seating", "_law_cell"] "_law_fast" (defScope zcl) f cdv A outer s H E).nox H (defBody zcl) KH.zec:=by
 have nd:=zgG.nd
 have hu:=hr.units
 exact (zah (zap (zcG rfl g_tuple zb5 (zes (zcp rfl (zmu (zbU rfl g_range (zbb rfl g_len zbl (zaj 0)))) (N':=["_law_k", "_law_cell", "_law_seating"]) (n:=1) (is:=[1,0]) (ZS.Blk.of (by kernel_rfl)) (ZS.zaQ (by decide)) (fun _ _ _ _ _ _=>(zaH (i:=0) (show List.Nodup (["_law_k", "_law_cell", "_law_seating"]:List Str) by decide +kernel) rfl (by first | exact Or.inl rfl | exact Or.inr rfl))) (fun _ _ _ _ _=>zdi) (fun _ _ _ _ _=>(zgm (zas (ZS.zgn hu) (zaf (zaT (zaf (zbk (zaj 1) (zaf (zal (zes (zaz (zad zac (zad zac (zad zac (zad zac (zad zac (zad zac zag)))))))) (zaj 0))))) (zaf zac))) (zaf zac) (nomark _)) (zal (zaj 2) (zaj 0)) zg8)))))))
theorem zjI {P:Program} {w:World} {K:PySem.W.Frag} {mg:Str→Option Value} {base:Heap} (d:ZS.Def K mg "_law_fast" zcl ["_law_seating", "_law_cell"]) (g_len:mg "len" = none) (g_range:mg "range" = none) (g_tuple:mg "tuple" = none):ZS.Cal P w K mg base "_law_fast" 1 ["_law_seating", "_law_cell"] KH.zdc :=
 zds (N:=["_law_seating", "_law_cell"]) (b:=KH.zec) d zgG (zkk g_len g_range g_tuple)
noncomputable abbrev za3:Stmt:=top 60
theorem zey:FnScope ["_law_group_here", "_law_row", "_law_found", "_law_wished", "_law_more"] ["_law_group_here", "_law_row"] (defScope za3):=⟨rfl,rfl,rfl,by decide +kernel,rfl,by decide +kernel,by decide +kernel⟩
theorem zg0 {P:Program} {w:World} {K:PySem.W.Frag} {mg:Str→Option Value} {base:Heap}  (f:Addr) (cdv:Value) (A:Around) (outer:List PySem.Env) (s:Shared) (H:Hp) (E:XK) (hr:Room 0 (A.deeper (envOfC "_law_worth_in" (defScope za3) s.heap.objs.size f cdv))) :
  QSs (cxOf CX0 P w K mg base ["_law_group_here", "_law_row", "_law_found", "_law_wished", "_law_more"] "_law_worth_in" (defScope za3) f cdv A outer s H E).nox H (defBody za3) zcS:=by
 have nd:=zey.nd
 have hu:=hr.units
 exact (zae (zan (i:=2) nd rfl (by first | exact Or.inl rfl | exact Or.inr rfl) (zal (zaj 0) (zaf zac))) (zae (zcr PassesOwn.never rfl (zgb (zal (zaj 0) (zaf zac))) (zeU rfl (zaG (i:=3) nd rfl (by first | exact Or.inl rfl | exact Or.inr rfl) (zaG (i:=4) nd rfl (by first | exact Or.inl rfl | exact Or.inr rfl) zde)) rfl) (zah (zbr (zas (ZS.zgn hu) (zaj 3) (zaj 1) (nomark _)) (zah (zan (i:=2) nd rfl (by first | exact Or.inl rfl | exact Or.inr rfl) (zam (zaj 2) (zaj 4)))) zay))) (zah (zap (zao 2)))))
theorem zgK {P:Program} {w:World} {K:PySem.W.Frag} {mg:Str→Option Value} {base:Heap} (d:ZS.Def K mg "_law_worth_in" za3 ["_law_group_here", "_law_row"])  : ZS.Cal P w K mg base "_law_worth_in" 1 ["_law_group_here", "_law_row"] zaW :=
 zds (N:=["_law_group_here", "_law_row", "_law_found", "_law_wished", "_law_more"]) (b:=zcS) d zey (zg0 )
noncomputable abbrev zbG:Stmt:=top 61
theorem zf3:FnScope ["_law_groups_here", "_law_seating", "_law_found", "_law_group_here", "_law_place"] ["_law_groups_here", "_law_seating"] (defScope zbG):=⟨rfl,rfl,rfl,by decide +kernel,rfl,by decide +kernel,by decide +kernel⟩
theorem zjd {P:Program} {w:World} {K:PySem.W.Frag} {mg:Str→Option Value} {base:Heap} (C_law_worth_in:ZS.Cal P w K mg base "_law_worth_in" 1 ["_law_group_here", "_law_row"] (zaW)) (g_zip:mg "zip" = none) (f:Addr) (cdv:Value) (A:Around) (outer:List PySem.Env) (s:Shared) (H:Hp) (E:XK) (hr:Room 1 (A.deeper (envOfC "_law_worth" (defScope zbG) s.heap.objs.size f cdv))) :
  QSs (cxOf CX0 P w K mg base ["_law_groups_here", "_law_seating", "_law_found", "_law_group_here", "_law_place"] "_law_worth" (defScope zbG) f cdv A outer s H E).nox H (defBody zbG) zdG:=by
 have nd:=zf3.nd
 have hu:=hr.units
 exact (zae (zan (i:=2) nd rfl (by first | exact Or.inl rfl | exact Or.inr rfl) zac) (zae (zcr PassesOwn.never rfl (zhI rfl g_zip (zao 0) (zao 1)) (zeU rfl (zaG (i:=3) nd rfl (by first | exact Or.inl rfl | exact Or.inr rfl) (zaG (i:=4) nd rfl (by first | exact Or.inl rfl | exact Or.inr rfl) zde)) rfl) (zah (zbr (zfP (zaj 4)) (zah (zan (i:=2) nd rfl (by first | exact Or.inl rfl | exact Or.inr rfl) (zam (zaj 2) (zaf (zai C_law_worth_in (hr.mono (by decide)) rfl (zaa (zao 3) (zaD (zal (zaj 4) (zaf zac)) zag))))))) zay))) (zah (zap (zao 2)))))
theorem ziL {P:Program} {w:World} {K:PySem.W.Frag} {mg:Str→Option Value} {base:Heap} (d:ZS.Def K mg "_law_worth" zbG ["_law_groups_here", "_law_seating"]) (C_law_worth_in:ZS.Cal P w K mg base "_law_worth_in" 1 ["_law_group_here", "_law_row"] (zaW)) (g_zip:mg "zip" = none):ZS.Cal P w K mg base "_law_worth" 2 ["_law_groups_here", "_law_seating"] zcy :=
 zds (N:=["_law_groups_here", "_law_seating", "_law_found", "_law_group_here", "_law_place"]) (b:=zdG) d zf3 (zjd C_law_worth_in g_zip)
noncomputable abbrev za4:Stmt:=top 62
theorem zez:FnScope ["_law_spots", "_law_groups_here", "_law_seating", "_law_out", "_law_found", "_law_k", "_law_worths"] ["_law_spots", "_law_groups_here", "_law_seating", "_law_out"] (defScope za4):=⟨rfl,rfl,rfl,by decide +kernel,rfl,by decide +kernel,by decide +kernel⟩
theorem zg1 {P:Program} {w:World} {K:PySem.W.Frag} {mg:Str→Option Value} {base:Heap} (C_law_open:ZS.Cal P w K mg base "_law_open" 2 ["_law_spots", "_law_groups_here", "_law_seating", "_law_k"] (KH.zaC)) (C_law_worth:ZS.Cal P w K mg base "_law_worth" 2 ["_law_groups_here", "_law_seating"] (zcy)) (C_law_worth_in:ZS.Cal P w K mg base "_law_worth_in" 1 ["_law_group_here", "_law_row"] (zaW)) (g_len:mg "len" = none) (g_max:mg "max" = none) (g_range:mg "range" = none) (f:Addr) (cdv:Value) (A:Around) (outer:List PySem.Env) (s:Shared) (H:Hp) (E:XK) (hr:Room 2 (A.deeper (envOfC "_law_most_yet" (defScope za4) s.heap.objs.size f cdv))) :
  QSs (cxOf CX0 P w K mg base ["_law_spots", "_law_groups_here", "_law_seating", "_law_out", "_law_found", "_law_k", "_law_worths"] "_law_most_yet" (defScope za4) f cdv A outer s H E).nox H (defBody za4) zcT:=by
 have nd:=zez.nd
 have hu:=hr.units
 exact (zae (zan (i:=4) nd rfl (by first | exact Or.inl rfl | exact Or.inr rfl) (zai C_law_worth (hr.mono (by decide)) rfl (zaa (zao 1) (zaa (zao 2) zag)))) (zae (zcr PassesOwn.never rfl (zbU rfl g_range (zbb rfl g_len zbl (zaj 1))) (zaH (i:=5) nd rfl (by first | exact Or.inl rfl | exact Or.inr rfl)) (zah (zbr (dtw (zet (zhG (zaf (zal (zaj 2) (zaj 5)))) (zdU (zas (ZS.zix hu) (zaj 5) (zaj 3) (by with_unfolding_all rfl))))) (zae (zel (i:=6) rfl nd rfl (by first | exact Or.inl rfl | exact Or.inr rfl) (zdt (zaf (zai C_law_open (hr.mono (by decide)) rfl (zaa (zao 0) (zaa (zao 1) (zaa (zao 2) (zaa (zao 5) zag))))))) (N':=["_law_place", "_law_groups_here", "_law_k"]) (n:=1) (is:=[1,5]) (ZS.Blk.of (by kernel_rfl)) (ZS.zaQ (by decide)) (fun _ _ _ _ _ _=>(zaH (i:=0) (show List.Nodup (["_law_place", "_law_groups_here", "_law_k"]:List Str) by decide +kernel) rfl (by first | exact Or.inl rfl | exact Or.inr rfl))) (fun _ _ _ _ _=>zdi) (fun _ _ _ _ _=>(zai C_law_worth_in (hr.mono (by decide)) rfl (zaD (zal (zaj 1) (zaj 2)) (zaD (zal (zaj 0) (zaf zac)) zag))))) (zah (zan (i:=4) nd rfl (by first | exact Or.inl rfl | exact Or.inr rfl) (zam (zaj 4) (zaf (zkt rfl g_max zk8 (zes (zg3 (zes (zaz (zad zac zag))) (zaj 6))))))))) zay))) (zah (zap (zao 4)))))
theorem zgM {P:Program} {w:World} {K:PySem.W.Frag} {mg:Str→Option Value} {base:Heap} (d:ZS.Def K mg "_law_most_yet" za4 ["_law_spots", "_law_groups_here", "_law_seating", "_law_out"]) (C_law_open:ZS.Cal P w K mg base "_law_open" 2 ["_law_spots", "_law_groups_here", "_law_seating", "_law_k"] (KH.zaC)) (C_law_worth:ZS.Cal P w K mg base "_law_worth" 2 ["_law_groups_here", "_law_seating"] (zcy)) (C_law_worth_in:ZS.Cal P w K mg base "_law_worth_in" 1 ["_law_group_here", "_law_row"] (zaW)) (g_len:mg "len" = none) (g_max:mg "max" = none) (g_range:mg "range" = none):ZS.Cal P w K mg base "_law_most_yet" 3 ["_law_spots", "_law_groups_here", "_law_seating", "_law_out"] za6 :=
 zds (N:=["_law_spots", "_law_groups_here", "_law_seating", "_law_out", "_law_found", "_law_k", "_law_worths"]) (b:=zcT) d zez (zg1 C_law_open C_law_worth C_law_worth_in g_len g_max g_range)
noncomputable abbrev zbc:Stmt:=top 63
theorem zdO:FnScope ["_law_spots", "_law_groups_here", "_law_number", "_law_tree_here", "_law_seating", "_law_out", "_law_k", "_law_some", "_law_place", "_law_one"] ["_law_spots", "_law_groups_here", "_law_number", "_law_tree_here", "_law_seating", "_law_out"] (defScope zbc):=⟨rfl,rfl,rfl,by decide +kernel,rfl,by decide +kernel,by decide +kernel⟩
theorem zhm {P:Program} {w:World} {K:PySem.W.Frag} {mg:Str→Option Value} {base:Heap} (C_law_most_yet:ZS.Cal P w K mg base "_law_most_yet" 3 ["_law_spots", "_law_groups_here", "_law_seating", "_law_out"] (za6)) (C_law_open:ZS.Cal P w K mg base "_law_open" 2 ["_law_spots", "_law_groups_here", "_law_seating", "_law_k"] (KH.zaC)) (C_law_with:ZS.Cal P w K mg base "_law_with" 1 ["_law_seating", "_law_k", "_law_place"] (KH.zaZ)) (g_bool:mg "bool" = none) (g_int:mg "int" = none) (g_isinstance:mg "isinstance" = none) (g_len:mg "len" = none) (g_tuple:mg "tuple" = none) (g_zip:mg "zip" = none) (j:Nat) {self:List Z.D→Z.Res Z.D} (C_self:ZS.Cal P w K mg base "_law_is_tree" (4+j) ["_law_spots", "_law_groups_here", "_law_number", "_law_tree_here", "_law_seating", "_law_out"] self) (f:Addr) (cdv:Value) (A:Around) (outer:List PySem.Env) (s:Shared) (H:Hp) (E:XK) (hr:Room (4+j) (A.deeper (envOfC "_law_is_tree" (defScope zbc) s.heap.objs.size f cdv))) :
  QSs (cxOf CX0 P w K mg base ["_law_spots", "_law_groups_here", "_law_number", "_law_tree_here", "_law_seating", "_law_out", "_law_k", "_law_some", "_law_place", "_law_one"] "_law_is_tree" (defScope zbc) f cdv A outer s H E).nox H (defBody zbc) (zaw self):=by
 have nd:=zdO.nd
 have hu:=hr.units
 exact (zae (zbr (dtw (ze3 (zdC (zhl (zb6 .tuple rfl g_isinstance zbf rfl g_tuple zb5 (zaj 3)))) (zeF (zas (ZS.zix hu) (zaf (zbb rfl g_len zbl (zaj 3))) (zaf (za8 (zad zac (zad zac zag)))) (by with_unfolding_all rfl))))) (zah (zap zdV)) zay) (zae (zbr (zas (ZS.zgn hu) (zaf (zbb rfl g_len zbl (zaj 3))) (zaf zac) (nomark _)) (zah (zap (zeV (zcK (ZS.zgn hu) (zaf (zal (zaj 3) (zaf zac))) (zaf (zax (by decide +kernel))) (nomark _)) (zd2 (zcK ZS.zjo (zaf (zai C_law_most_yet (hr.mono (by lia)) rfl (zaa (zao 0) (zaa (zao 1) (zaa (zao 4) (zaa (zao 5) zag)))))) (zaj 2) (nomark _)))))) zay) (zae (zan (i:=6) nd rfl (by first | exact Or.inl rfl | exact Or.inr rfl) (zal (zaj 3) (zaf zac))) (zae (zbr (dtw (ze3 (zas (ZS.zmV hu) (zaf (zal (zaj 3) (zaf zac))) (zaf (zax (by decide +kernel))) (nomark _)) (ze3 (zdC (zhl (zb6 .int rfl g_isinstance zbf rfl g_int zmL (zaj 6)))) (ze3 (zhl (zb6 .bool rfl g_isinstance zbf rfl g_bool zkA (zaj 6))) (zeF (zdC (zfs ZS.zjo ZS.zqo (zaf zac) (zaj 6) (zaf (zbb rfl g_len zbl (zaj 1)))))))))) (zah (zap zdV)) zay) (zae (zbr (dtw (ze3 (zfP (zaf (zal (zaj 4) (zaj 6)))) (ze3 (zas (ZS.zst hu) (zaj 6) (zaj 5) (by with_unfolding_all rfl)) (zeF (zdC (zhl (zb6 .tuple rfl g_isinstance zbf rfl g_tuple zb5 (zaf (zal (zaj 3) (zaf zac)))))))))) (zah (zap zdV)) zay) (zae (zan (i:=7) nd rfl (by first | exact Or.inl rfl | exact Or.inr rfl) (zai C_law_open (hr.mono (by lia)) rfl (zaa (zao 0) (zaa (zao 1) (zaa (zao 4) (zaa (zao 6) zag)))))) (zae (zbr (zas (ZS.zmV hu) (zaf (zbb rfl g_len zbl (zaf (zal (zaj 3) (zaf zac))))) (zaf (zam (zaf (zbb rfl g_len zbl (zaj 7))) (zaf zac))) (nomark _)) (zah (zap zdV)) zay) (zae (zcr PassesOwn.never rfl (zhI rfl g_zip (zao 7) (zal (zaj 3) (zaf zac))) (zeU rfl (zaG (i:=8) nd rfl (by first | exact Or.inl rfl | exact Or.inr rfl) (zaG (i:=9) nd rfl (by first | exact Or.inl rfl | exact Or.inr rfl) zde)) rfl) (zah (zbr (zdC (zhl (zai C_self (hr.mono (Nat.le_refl _)) rfl (zaa (zao 0) (zaa (zao 1) (zaa (zao 2) (zaa (zao 9) (zaR (zai C_law_with (hr.mono (by lia)) rfl (zaa (zao 4) (zaa (zao 6) (zaa (zao 8) zag)))) (zaa (zao 5) zag))))))))) (zah (zap zdV)) zay))) (zah (zap (zai C_self (hr.mono (Nat.le_refl _)) rfl (zaa (zao 0) (zaa (zao 1) (zaa (zao 2) (zaD (zal (zaf (zal (zaj 3) (zaf zac))) (zaf (zg9 (zaf zac)))) (zaa (zao 4) (za1 (zhK (zg3 (zaj 5) (zes (zaz (zaa (zao 6) zag))))) zag)))))))))))))))))
theorem zeP {P:Program} {w:World} {K:PySem.W.Frag} {mg:Str→Option Value} {base:Heap} (d:ZS.Def K mg "_law_is_tree" zbc ["_law_spots", "_law_groups_here", "_law_number", "_law_tree_here", "_law_seating", "_law_out"]) (C_law_most_yet:ZS.Cal P w K mg base "_law_most_yet" 3 ["_law_spots", "_law_groups_here", "_law_seating", "_law_out"] (za6)) (C_law_open:ZS.Cal P w K mg base "_law_open" 2 ["_law_spots", "_law_groups_here", "_law_seating", "_law_k"] (KH.zaC)) (C_law_with:ZS.Cal P w K mg base "_law_with" 1 ["_law_seating", "_law_k", "_law_place"] (KH.zaZ)) (g_bool:mg "bool" = none) (g_int:mg "int" = none) (g_isinstance:mg "isinstance" = none) (g_len:mg "len" = none) (g_tuple:mg "tuple" = none) (g_zip:mg "zip" = none):∀ j,ZS.Cal P w K mg base "_law_is_tree" (4+j) ["_law_spots", "_law_groups_here", "_law_number", "_law_tree_here", "_law_seating", "_law_out"] (zaX j)
 | 0=>ZS.zk7 (zds (k:=3) (N:=["_law_spots", "_law_groups_here", "_law_number", "_law_tree_here", "_law_seating", "_law_out", "_law_k", "_law_some", "_law_place", "_law_one"]) (b:=Z.zmT) d zdO fun _ _ _ _ _ _ _ _=>zfQ)
 | j+1=>zds (k:=4+j) (N:=["_law_spots", "_law_groups_here", "_law_number", "_law_tree_here", "_law_seating", "_law_out", "_law_k", "_law_some", "_law_place", "_law_one"]) (b:=zaw (zaX j)) d zdO (zhm C_law_most_yet C_law_open C_law_with g_bool g_int g_isinstance g_len g_tuple g_zip j (zeP d C_law_most_yet C_law_open C_law_with g_bool g_int g_isinstance g_len g_tuple g_zip j))
noncomputable abbrev zcf:Stmt:=top 64
theorem zeY:FnScope ["_law_spots", "_law_groups_here", "_law_seating", "_law_out", "_law_cell", "_law_waiting", "_law_k", "_law_trees", "_law_place"] ["_law_spots", "_law_groups_here", "_law_seating", "_law_out", "_law_cell"] (defScope zcf):=⟨rfl,rfl,rfl,by decide +kernel,rfl,by decide +kernel,by decide +kernel⟩
theorem zke {P:Program} {w:World} {K:PySem.W.Frag} {mg:Str→Option Value} {base:Heap} (C_law_open:ZS.Cal P w K mg base "_law_open" 2 ["_law_spots", "_law_groups_here", "_law_seating", "_law_k"] (KH.zaC)) (C_law_with:ZS.Cal P w K mg base "_law_with" 1 ["_law_seating", "_law_k", "_law_place"] (KH.zaZ)) (g_len:mg "len" = none) (g_range:mg "range" = none) (g_tuple:mg "tuple" = none) (j:Nat) {self:List Z.D→Z.Res Z.D} (C_self:ZS.Cal P w K mg base "_law_tree" (3+j) ["_law_spots", "_law_groups_here", "_law_seating", "_law_out", "_law_cell"] self) (f:Addr) (cdv:Value) (A:Around) (outer:List PySem.Env) (s:Shared) (H:Hp) (E:XK) (hr:Room (3+j) (A.deeper (envOfC "_law_tree" (defScope zcf) s.heap.objs.size f cdv))) :
  QSs (cxOf CX0 P w K mg base ["_law_spots", "_law_groups_here", "_law_seating", "_law_out", "_law_cell", "_law_waiting", "_law_k", "_law_trees", "_law_place"] "_law_tree" (defScope zcf) f cdv A outer s H E).nox H (defBody zcf) (zd8 self):=by
 have nd:=zeY.nd
 have hu:=hr.units
 exact (zae (zel (i:=5) rfl nd rfl (by first | exact Or.inl rfl | exact Or.inr rfl) (zmu (zbU rfl g_range (zbb rfl g_len zbl (zaj 1)))) (N':=["_law_k", "_law_seating", "_law_out"]) (n:=1) (is:=[2,3]) (ZS.Blk.of (by kernel_rfl)) (ZS.zaQ (by decide)) (fun _ _ _ _ _ _=>(zaH (i:=0) (show List.Nodup (["_law_k", "_law_seating", "_law_out"]:List Str) by decide +kernel) rfl (by first | exact Or.inl rfl | exact Or.inr rfl))) (fun _ _ _ _ _=>(zdN (dtw (zet (zhG (zaf (zal (zaj 1) (zaj 0)))) (zdU (zas (ZS.zix hu) (zaj 0) (zaj 2) (by with_unfolding_all rfl))))))) (fun _ _ _ _ _=>(zao 0))) (zae (zbr (dtw (ze3 (zas (ZS.zgn hu) (zaj 5) (zes (zaz zag)) (nomark _)) (zeF (zas (ZS.zgn hu) (zaf (zaT (zaj 4) (zaf zac))) (zaf zac) (nomark _))))) (zah (zap (za8 (zad (zax (by decide +kernel)) zag)))) zay) (zae (zan (i:=6) nd rfl (by first | exact Or.inl rfl | exact Or.inr rfl) (zal (zaj 5) (zaf (zaT (zaf (zbk (zaj 4) (zaf zac))) (zaf (zbb rfl g_len zbl (zaj 5))))))) (zae (zan (i:=4) nd rfl (by first | exact Or.inl rfl | exact Or.inr rfl) (zam (zaf (zbk (zaj 4) (zaf zac))) (zaf zac))) (zae (zeu (i:=7) nd rfl (by first | exact Or.inl rfl | exact Or.inr rfl) (zaz zag)) (zae (zcr PassesOwn.never rfl (zgb (zai C_law_open (hr.mono (by lia)) rfl (zaa (zao 0) (zaa (zao 1) (zaa (zao 2) (zaa (zao 6) zag)))))) (zaH (i:=8) nd rfl (by first | exact Or.inl rfl | exact Or.inr rfl)) (zah (zeT (i:=7) (pv 7) (zai C_self (hr.mono (Nat.le_refl _)) rfl (zaa (zao 0) (zaa (zao 1) (zaR (zai C_law_with (hr.mono (by lia)) rfl (zaa (zao 2) (zaa (zao 6) (zaa (zao 8) zag)))) (zaa (zao 3) (zaa (zao 4) zag))))))))) (zah (zap (za8 (zad (zax (by decide +kernel)) (zaa (zao 6) (za1 (zam (zaf (zcG rfl g_tuple zb5 (zaj 7))) (zaf (za8 (zaR (zai C_self (hr.mono (Nat.le_refl _)) rfl (zaa (zao 0) (zaa (zao 1) (zaa (zao 2) (za1 (zhK (zg3 (zaj 3) (zes (zaz (zaa (zao 6) zag))))) (zaa (zao 4) zag)))))) zag)))) zag))))))))))))
theorem zgL {P:Program} {w:World} {K:PySem.W.Frag} {mg:Str→Option Value} {base:Heap} (d:ZS.Def K mg "_law_tree" zcf ["_law_spots", "_law_groups_here", "_law_seating", "_law_out", "_law_cell"]) (C_law_open:ZS.Cal P w K mg base "_law_open" 2 ["_law_spots", "_law_groups_here", "_law_seating", "_law_k"] (KH.zaC)) (C_law_with:ZS.Cal P w K mg base "_law_with" 1 ["_law_seating", "_law_k", "_law_place"] (KH.zaZ)) (g_len:mg "len" = none) (g_range:mg "range" = none) (g_tuple:mg "tuple" = none):∀ j,ZS.Cal P w K mg base "_law_tree" (3+j) ["_law_spots", "_law_groups_here", "_law_seating", "_law_out", "_law_cell"] (zbN j)
 | 0=>ZS.zk7 (zds (k:=2) (N:=["_law_spots", "_law_groups_here", "_law_seating", "_law_out", "_law_cell", "_law_waiting", "_law_k", "_law_trees", "_law_place"]) (b:=Z.zmT) d zeY fun _ _ _ _ _ _ _ _=>zfQ)
 | j+1=>zds (k:=3+j) (N:=["_law_spots", "_law_groups_here", "_law_seating", "_law_out", "_law_cell", "_law_waiting", "_law_k", "_law_trees", "_law_place"]) (b:=zd8 (zbN j)) d zeY (zke C_law_open C_law_with g_len g_range g_tuple j (zgL d C_law_open C_law_with g_len g_range g_tuple j))
noncomputable abbrev zcm:Stmt:=top 65
theorem zeZ:FnScope ["_law_tree_here", "_law_cell", "_law_many", "_law_way", "_law_at"] ["_law_tree_here", "_law_cell", "_law_many"] (defScope zcm):=⟨rfl,rfl,rfl,by decide +kernel,rfl,by decide +kernel,by decide +kernel⟩
theorem zkl {P:Program} {w:World} {K:PySem.W.Frag} {mg:Str→Option Value} {base:Heap} (g_len:mg "len" = none) (g_list:mg "list" = none) (j:Nat) {self:List Z.D→Z.Res Z.D} (C_self:ZS.Cal P w K mg base "_law_bent" (1+j) ["_law_tree_here", "_law_cell", "_law_many"] self) (f:Addr) (cdv:Value) (A:Around) (outer:List PySem.Env) (s:Shared) (H:Hp) (E:XK) (hr:Room (1+j) (A.deeper (envOfC "_law_bent" (defScope zcm) s.heap.objs.size f cdv))) :
  QSs (cxOf CX0 P w K mg base ["_law_tree_here", "_law_cell", "_law_many", "_law_way", "_law_at"] "_law_bent" (defScope zcm) f cdv A outer s H E).nox H (defBody zcm) (zbm self):=by
 have nd:=zeZ.nd
 have hu:=hr.units
 exact (zae (zan (i:=3) nd rfl (by first | exact Or.inl rfl | exact Or.inr rfl) (zaT (zaj 1) (zaf zac))) (zae (zbr (zas (ZS.zgn hu) (zaf (zbb rfl g_len zbl (zaj 0))) (zaf zac) (nomark _)) (zah (zap (zal (zes (zaz (zcR (za8 (zad (zax (by decide +kernel)) (zad zac zag))) (zcR (za8 (zad (zax (by decide +kernel)) zag)) (zdw (zhK (zaz (zad (zax (by decide +kernel)) zag))) (zcR (za8 (zad (zax (by decide +kernel)) (za1 (zaT (zaf (zbk (zaj 1) (zaf zac))) (zaf (zam (zaj 2) (zaf zac)))) (zcR (za8 (zaa (zao 0) zag)) zag)))) (zcR (za8 zag) (zcR (za8 (zad (zax (by decide +kernel)) zag)) (zaa (zao 0) zag))))))))) (zaj 3)))) zay) (zae (zbr (zas ZS.zo2 (zaf (zaT (zaf (zbk (zaj 1) (zaf zac))) (zaf zac))) (zaf zac) (nomark _)) (zae (zan (i:=4) nd rfl (by first | exact Or.inl rfl | exact Or.inr rfl) (zaT (zaf (zbk (zaj 1) (zaf zac))) (zaf (zbb rfl g_len zbl (zaf (zal (zaj 0) (zaf zac))))))) (zah (zap (za8 (zaD (zal (zaj 0) (zaf zac)) (zaD (zal (zaj 0) (zaf zac)) (za1 (zam (zaf (zam (zaf (zcH (zaf (zal (zaj 0) (zaf zac))) zfT (zeG (zaj 4)))) (zaf (za8 (zaR (zai C_self (hr.mono (Nat.le_refl _)) rfl (zaD (zal (zaf (zal (zaj 0) (zaf zac))) (zaj 4)) (za1 (zbk (zaj 1) (zaf zac)) (zaa (zao 2) zag)))) zag))))) (zaf (zcH (zaf (zal (zaj 0) (zaf zac))) (zeG (zaf (zam (zaj 4) (zaf zac)))) zfT))) zag))))))) zay) (zae (zbr (zas (ZS.zgn hu) (zaj 3) (zaf zac) (nomark _)) (zah (zap (za8 (zaD (zal (zaj 0) (zaf zac)) (zaD (zal (zes (zaz (zaa (zao 2) (zmz (zg9 (zaf zac)) (zad zdV (zad zg8 (za1 (zam (zaf (zal (zaj 0) (zaf zac))) (zaf zac)) (zad zac zag)))))))) (zaf (zaT (zaf (zbk (zaj 1) (zaf zac))) (zaf zac)))) (zaD (zal (zaj 0) (zaf zac)) zag)))))) zay) (zae (zbr (zas (ZS.zgn hu) (zaj 3) (zaf zac) (nomark _)) (zah (zap (zam (zaf (za8 (zad (zax (by decide +kernel)) zag))) (zaf (zcH (zaj 0) (zeG (zaf zac)) zfT))))) zay) (zae (zbr (zas (ZS.zgn hu) (zaj 3) (zaf zac) (nomark _)) (zah (zap (za8 (zad (zax (by decide +kernel)) zag)))) zay) (zae (zbr (zas (ZS.zgn hu) (zaj 3) (zaf zac) (nomark _)) (zah (zap (za8 (zaD (zal (zaj 0) (zaf zac)) (zaD (zal (zaj 0) (zaf zac)) (za1 (zam (zaf (zal (zaj 0) (zaf zac))) (zaf (zcH (zaf (zal (zaj 0) (zaf zac))) (zeG (zaf (zg9 (zaf zac)))) zfT))) zag)))))) zay) (zae (zbr (zas (ZS.zgn hu) (zaj 3) (zaf zac) (nomark _)) (zah (zap (za8 (zaD (zal (zaj 0) (zaf zac)) (zaD (zal (zaj 0) (zaf zac)) (zaD (zcH (zaf (zal (zaj 0) (zaf zac))) zfT (zeG (zaf (zg9 (zaf zac))))) zag)))))) zay) (zae (zbr (zas (ZS.zgn hu) (zaj 3) (zaf zac) (nomark _)) (zah (zap (za8 (zaD (zal (zaj 0) (zaf zac)) (zaD (zal (zaj 0) (zaf zac)) (zaR (zhK (zkn rfl g_list zo5 (zaf (zal (zaj 0) (zaf zac))))) zag)))))) zay) (zah (zap (za8 (zaD (zal (zaj 0) (zaf zac)) (zaD (zal (zaj 0) (zaf zac)) (zaD (zmv (zaf (zal (zaj 0) (zaf zac)))) zag)))))))))))))))
theorem zgN {P:Program} {w:World} {K:PySem.W.Frag} {mg:Str→Option Value} {base:Heap} (d:ZS.Def K mg "_law_bent" zcm ["_law_tree_here", "_law_cell", "_law_many"]) (g_len:mg "len" = none) (g_list:mg "list" = none):∀ j,ZS.Cal P w K mg base "_law_bent" (1+j) ["_law_tree_here", "_law_cell", "_law_many"] (zbO j)
 | 0=>ZS.zk7 (zds (k:=0) (N:=["_law_tree_here", "_law_cell", "_law_many", "_law_way", "_law_at"]) (b:=Z.zmT) d zeZ fun _ _ _ _ _ _ _ _=>zfQ)
 | j+1=>zds (k:=1+j) (N:=["_law_tree_here", "_law_cell", "_law_many", "_law_way", "_law_at"]) (b:=zbm (zbO j)) d zeZ (zkl g_len g_list j (zgN d g_len g_list j))
noncomputable abbrev zcg:Stmt:=top 66
theorem zgB:FnScope ["_law_found", "_law_due"] ["_law_found", "_law_due"] (defScope zcg):=⟨rfl,rfl,rfl,by decide +kernel,rfl,by decide +kernel,by decide +kernel⟩
theorem zkf {P:Program} {w:World} {K:PySem.W.Frag} {mg:Str→Option Value} {base:Heap} (g_bool:mg "bool" = none) (g_isinstance:mg "isinstance" = none) (f:Addr) (cdv:Value) (A:Around) (outer:List PySem.Env) (s:Shared) (H:Hp) (E:XK) (hr:Room 0 (A.deeper (envOfC "_law_told" (defScope zcg) s.heap.objs.size f cdv))) :
  QSs (cxOf CX0 P w K mg base ["_law_found", "_law_due"] "_law_told" (defScope zcg) f cdv A outer s H E).nox H (defBody zcg) zd9:=by
 have nd:=zgB.nd
 have hu:=hr.units
 exact (zah (zap (zeV (zb6 .bool rfl g_isinstance zbf rfl g_bool zkA (zaj 0)) (zd2 (zcK (ZS.zgn hu) (zaj 0) (zaj 1) (nomark _))))))
theorem zjD {P:Program} {w:World} {K:PySem.W.Frag} {mg:Str→Option Value} {base:Heap} (d:ZS.Def K mg "_law_told" zcg ["_law_found", "_law_due"]) (g_bool:mg "bool" = none) (g_isinstance:mg "isinstance" = none):ZS.Cal P w K mg base "_law_told" 1 ["_law_found", "_law_due"] zda :=
 zds (N:=["_law_found", "_law_due"]) (b:=zd9) d zgB (zkf g_bool g_isinstance)
noncomputable abbrev zgI:Stmt:=top 67
theorem znK:FnScope ["_law_script", "_law_hall_here", "_law_one", "_law_other", "_law_groups_here", "_law_spots", "_law_bits", "_law_fast_here", "_law_cell", "_law_made", "_law_yet", "_law_k", "_law_number", "_law_tree_here"] ["_law_script"] (defScope zgI):=⟨rfl,rfl,rfl,by decide +kernel,rfl,by decide +kernel,by decide +kernel⟩
theorem zqg {P:Program} {w:World} {K:PySem.W.Frag} {mg:Str→Option Value} {base:Heap} (C_law_bent:ZS.Cal P w K mg base "_law_bent" 10 ["_law_tree_here", "_law_cell", "_law_many"] (zbO 9)) (C_law_cell_at:ZS.Cal P w K mg base "_law_cell_at" 1 ["_law_script", "_law_k"] (KG.zak)) (C_law_fast:ZS.Cal P w K mg base "_law_fast" 1 ["_law_seating", "_law_cell"] (KH.zdc)) (C_law_few:ZS.Cal P w K mg base "_law_few" 3 ["_law_hall_here", "_law_groups_here", "_law_most"] (KH.zdx)) (C_law_groups:ZS.Cal P w K mg base "_law_groups" 3 ["_law_script", "_law_one", "_law_other"] (KH.zcF)) (C_law_hall:ZS.Cal P w K mg base "_law_hall" 2 ["_law_script"] (KH.zdb)) (C_law_is_tree:ZS.Cal P w K mg base "_law_is_tree" 13 ["_law_spots", "_law_groups_here", "_law_number", "_law_tree_here", "_law_seating", "_law_out"] (zaX 9)) (C_law_mixed:ZS.Cal P w K mg base "_law_mixed" 1 ["_law_cell", "_law_k"] (KG.zaq)) (C_law_most_yet:ZS.Cal P w K mg base "_law_most_yet" 3 ["_law_spots", "_law_groups_here", "_law_seating", "_law_out"] (za6)) (C_law_places:ZS.Cal P w K mg base "_law_places" 2 ["_law_hall_here", "_law_group_here"] (KH.zbq)) (C_law_seated:ZS.Cal P w K mg base "_law_seated" 3 ["_law_spots", "_law_groups_here", "_law_script"] (KH.zcE)) (C_law_told:ZS.Cal P w K mg base "_law_told" 1 ["_law_found", "_law_due"] (zda)) (C_law_tree:ZS.Cal P w K mg base "_law_tree" 12 ["_law_spots", "_law_groups_here", "_law_seating", "_law_out", "_law_cell"] (zbN 9)) (C_bounds:ZS.CalD P w K mg base "bounds" 16 ["hall", "groups", "number", "tree", "fast"] (zdB)) (g_len:mg "len" = none) (g_range:mg "range" = none) (f:Addr) (cdv:Value) (A:Around) (outer:List PySem.Env) (s:Shared) (H:Hp) (E:XK) (hr:Room 16 (A.deeper (envOfC "law" (defScope zgI) s.heap.objs.size f cdv))) :
  QSs (cxOf CX0 P w K mg base ["_law_script", "_law_hall_here", "_law_one", "_law_other", "_law_groups_here", "_law_spots", "_law_bits", "_law_fast_here", "_law_cell", "_law_made", "_law_yet", "_law_k", "_law_number", "_law_tree_here"] "law" (defScope zgI) f cdv A outer s H E).nox H (defBody zgI) zmM:=by
 have nd:=znK.nd
 have hu:=hr.units
 exact (zae (zja (zai C_law_hall (hr.mono (by decide)) rfl (zaa (zao 0) zag)) (zjh rfl (zaG (i:=1) nd rfl (by first | exact Or.inl rfl | exact Or.inr rfl) (zaG (i:=2) nd rfl (by first | exact Or.inl rfl | exact Or.inr rfl) (zaG (i:=3) nd rfl (by first | exact Or.inl rfl | exact Or.inr rfl) zde))) rfl)) (zae (zan (i:=4) nd rfl (by first | exact Or.inl rfl | exact Or.inr rfl) (zai C_law_few (hr.mono (by decide)) rfl (zaa (zao 1) (zaR (zai C_law_groups (hr.mono (by decide)) rfl (zaa (zao 0) (zaa (zao 2) (zaa (zao 3) zag)))) (zad zac zag))))) (zae (zel (i:=5) rfl nd rfl (by first | exact Or.inl rfl | exact Or.inr rfl) (zdt (zaj 4)) (N':=["_law_group_here", "_law_hall_here"]) (n:=1) (is:=[1]) (ZS.Blk.of (by kernel_rfl)) (ZS.zaQ (by decide)) (fun _ _ _ _ _ _=>(zaH (i:=0) (show List.Nodup (["_law_group_here", "_law_hall_here"]:List Str) by decide +kernel) rfl (by first | exact Or.inl rfl | exact Or.inr rfl))) (fun _ _ _ _ _=>zdi) (fun _ _ _ _ _=>(zai C_law_places (hr.mono (by decide)) rfl (zaa (zao 1) (zaa (zao 0) zag))))) (zae (zan (i:=6) nd rfl (by first | exact Or.inl rfl | exact Or.inr rfl) (zai C_law_mixed (hr.mono (by decide)) rfl (za1 (zam (zaf (zai C_law_cell_at (hr.mono (by decide)) rfl (zaa (zao 0) (zad zac zag)))) (zaf (zai C_law_cell_at (hr.mono (by decide)) rfl (zaa (zao 0) (zad zac zag))))) (zad zac zag)))) (zae (zan (i:=7) nd rfl (by first | exact Or.inl rfl | exact Or.inr rfl) (zai C_law_fast (hr.mono (by decide)) rfl (zaR (zai C_law_seated (hr.mono (by decide)) rfl (zaa (zao 5) (zaa (zao 4) (zaa (zao 0) zag)))) (zaa (zao 6) zag)))) (zae (zan (i:=8) nd rfl (by first | exact Or.inl rfl | exact Or.inr rfl) (zai C_law_mixed (hr.mono (by decide)) rfl (zaR (zai C_law_cell_at (hr.mono (by decide)) rfl (zaa (zao 0) (zad zac zag))) (zad zac zag)))) (zae (zan (i:=9) nd rfl (by first | exact Or.inl rfl | exact Or.inr rfl) (zai C_law_tree (hr.mono (by decide)) rfl (zaa (zao 5) (zaa (zao 4) (zaa (zao 7) (zdw (zhK (zaz zag)) (zaa (zao 8) zag))))))) (zae (zan (i:=10) nd rfl (by first | exact Or.inl rfl | exact Or.inr rfl) (zai C_law_most_yet (hr.mono (by decide)) rfl (zaa (zao 5) (zaa (zao 4) (zaa (zao 7) (zdw (zhK (zaz zag)) zag)))))) (zae (zcr PassesOwn.never rfl (zbU rfl g_range zac) (zaH (i:=11) nd rfl (by first | exact Or.inl rfl | exact Or.inr rfl)) (zae (zan (i:=12) nd rfl (by first | exact Or.inl rfl | exact Or.inr rfl) (zg6 (zaj 10) (zaf (zal (zes (zaz (zad zac (zad zac (zad zac (zad zac zag)))))) (zaf (zaT (zaf (zai C_law_mixed (hr.mono (by decide)) rfl (zaa (zao 8) (zaa (zao 11) zag)))) (zaf zac))))))) (zae (zan (i:=13) nd rfl (by first | exact Or.inl rfl | exact Or.inr rfl) (zao 9)) (zae (zbr (zas ZS.zo2 (zaj 11) (zaf zac) (nomark _)) (zah (zan (i:=13) nd rfl (by first | exact Or.inl rfl | exact Or.inr rfl) (zai C_law_bent (hr.mono (by decide)) rfl (zaa (zao 9) (zaR (zai C_law_mixed (hr.mono (by decide)) rfl (zaa (zao 8) (za1 (zam (zaf zac) (zaj 11)) zag))) (zaR (zbb rfl g_len zbl (zaj 4)) zag)))))) zay) (zah (zbr (zdC (zhl (zai C_law_told (hr.mono (by decide)) rfl (zaR (zai C_bounds.full (hr.mono (by decide)) rfl (zaa (zao 1) (zaa (zao 4) (zaa (zao 12) (zaa (zao 13) (zaa (zao 7) zag)))))) (zaR (zai C_law_is_tree (hr.mono (by decide)) rfl (zaa (zao 5) (zaa (zao 4) (zaa (zao 12) (zaa (zao 13) (zaa (zao 7) (zdw (zhK (zaz zag)) zag))))))) zag))))) (zah (zap zdV)) zay)))))) (zah (zap zdV)))))))))))
end K64
namespace K64
open PySem PySem.Spec PyProof.Rows L2
noncomputable abbrev km0:String := "besideseats.plain"
noncomputable abbrev km1:String := "besideseats.groups"
noncomputable abbrev km2:String := "besideseats.halls"
noncomputable abbrev km3:String := "besideseats.places"
noncomputable abbrev km4:String := "besideseats.seatings"
noncomputable abbrev km5:String := "besideseats.rooms"
noncomputable abbrev km6:String := "besideseats.papers"
noncomputable abbrev km7:String := "besideseats.trees"
noncomputable abbrev km8:String := "law_besideseats_k64_trees_looked_at"
noncomputable def kd (P:Params) (n:String) (t:Nat) (v:Value):DictEntry:={ hash:=PyData.keyHash P (Str.ofString n),key:=.str (Str.ofString n) t,val:=v }
noncomputable def kc (n:String) (t l:Nat) (a b c d e f g h i j:Value) (u:Nat):Obj:={ cls:=.type "code",data:=.fields #[.str (Str.ofString n) t,.str (Str.ofString n) (t+1),.str (Str.ofString "/claim/cut.py") (t+2),.int l 0,a,.int 0 0,.int 0 0,b,c,.bool true,d,e,f,g,h,i,j,.int l 0,.str (Str.ofString "/claim/cut.py") u] }
noncomputable def kf (n:String) (i:Nat) (m:String) (t c:Nat) (v:Value:=.none):Obj:={ cls:=.type "function",data:=.func { name:=Str.ofString n,qualname:=Str.ofString n,params:=defArgs (top i),body:=.stmts (defBody (top i)),scope:=defScope (top i),globals:=3,closure:=[],defaults:=v,kwdefaults:=.none,pyModule:=.str (Str.ofString m) t,code:=.ref c } }
noncomputable def KK (P:Params):PySem.W.Frag:=(fun (_:Str.ofString "a" = Str.mk #[97])=>(nat_lit 3,{ cls:=.type "dict",data:=.dict #[kd P "__name__" 165 (.str (Str.ofString "law_besideseats_k64_trees_looked_at") 451),kd P "__doc__" 166 .none,kd P "__package__" 167 .none,kd P "__loader__" 168 (.builtin "__main__.__loader__#opaque"),kd P "__spec__" 169 .none,kd P "__annotations__" 170 (.ref 6),kd P "__builtins__" 171 (.ref 4),kd P "__file__" 173 (.str (Str.ofString "/claim/cut.py") 172),kd P "__cached__" 174 .none,kd P "SeatError" 206 (.ref 24),kd P "NoSeating" 222 (.ref 37),kd P "is_whole" 231 (.ref 46),kd P "is_whole_within" 240 (.ref 53),kd P "WIDTH" 244 (.int 1 243),kd P "DEPTH" 246 (.int 2 245),kd P "KIND" 248 (.int 3 247),kd P "WIDE" 250 (.int 4 249),kd P "GAP" 252 (.int 5 251),kd P "WORTH" 254 (.int 6 253),kd P "WISHES" 256 (.int 7 255),kd P "worth_in" 262 (.ref 58),kd P "sign_at" 274 (.ref 65),kd P "takes" 284 (.ref 72),kd P "seats_of" 290 (.ref 77),kd P "fits" 296 (.ref 82),kd P "places_of" 302 (.ref 87),kd P "apart" 315 (.ref 94),kd P "those_that_sit" 321 (.ref 99),kd P "apart_from_all" 327 (.ref 104),kd P "keeps" 333 (.ref 109),kd P "worth_of" 339 (.ref 114),kd P "fast_seating" 351 (.ref 121),kd P "with_place" 360 (.ref 128),kd P "open_among" 366 (.ref 133),kd P "all_places" 374 (.ref 138),kd P "spots_of" 384 (.ref 145),kd P "is_waiting" 392 (.ref 152),kd P "begins_with" 401 (.ref 159),kd P "is_each" 408 (.ref 166),kd P "still_waiting" 416 (.ref 171),kd P "most_from" 422 (.ref 176),kd P "bounds_beside" 438 (.ref 183),kd P "bounds" 450 (.ref 191),kd P "_law_cell_at" 460 (.ref 198),kd P "_law_mixed" 469 (.ref 205),kd P "_law_digits" 479 (.ref 212),kd P "_law_hall" 485 (.ref 217),kd P "_law_name" 499 (.ref 224),kd P "_law_any" 505 (.ref 229),kd P "_law_group" 523 (.ref 236),kd P "_law_groups" 540 (.ref 243),kd P "_law_fits" 546 (.ref 248),kd P "_law_places" 557 (.ref 255),kd P "_law_apart" 568 (.ref 262),kd P "_law_open" 583 (.ref 269),kd P "_law_with" 592 (.ref 276),kd P "_law_few" 605 (.ref 283),kd P "_law_seated" 611 (.ref 288),kd P "_law_fast" 617 (.ref 293),kd P "_law_worth_in" 628 (.ref 300),kd P "_law_worth" 639 (.ref 307),kd P "_law_most_yet" 645 (.ref 312),kd P "_law_is_tree" 661 (.ref 319),kd P "_law_tree" 667 (.ref 324),kd P "_law_bent" 678 (.ref 331),kd P "_law_told" 686 (.ref 338),kd P "law" 692 (.ref 343)] 67 }) ::
 (nat_lit 45,kc "is_whole" 225 7 (.int 1 0) (.int 3 0) (.ref 40) (.int 181 0) (.ref 41) .none (.ref 42) (.ref 43) (.ref 44) (.int 229 0) 230) ::
 (nat_lit 46,kf "is_whole" 4 km0 223 45) ::
 (nat_lit 52,kc "is_whole_within" 232 9 (.int 3 0) (.int 3 0) (.ref 47) (.int 181 0) (.ref 48) .none (.ref 49) (.ref 50) (.ref 51) (.int 238 0) 239) ::
 (nat_lit 53,kf "is_whole_within" 5 km0 223 52) ::
 (nat_lit 57,kc "worth_in" 257 19 (.int 2 0) (.int 3 0) (.ref 54) (.int 181 0) (.ref 55) .none .none .none (.ref 56) (.int 260 0) 261) ::
 (nat_lit 58,kf "worth_in" 14 km1 241 57) ::
 (nat_lit 64,kc "sign_at" 265 22 (.int 2 0) (.int 3 0) (.ref 59) (.int 181 0) (.ref 60) .none (.ref 61) (.ref 62) (.ref 63) (.int 272 0) 273) ::
 (nat_lit 65,kf "sign_at" 16 km2 263 64) ::
 (nat_lit 71,kc "takes" 277 29 (.int 2 0) (.int 3 0) (.ref 66) (.int 181 0) (.ref 67) .none (.ref 68) (.ref 69) (.ref 70) (.int 282 0) 283) ::
 (nat_lit 72,kf "takes" 18 km3 275 71) ::
 (nat_lit 76,kc "seats_of" 285 31 (.int 2 0) (.int 3 0) (.ref 73) (.int 181 0) (.ref 74) .none .none .none (.ref 75) (.int 288 0) 289) ::
 (nat_lit 77,kf "seats_of" 19 km3 275 76) ::
 (nat_lit 81,kc "fits" 291 36 (.int 3 0) (.int 3 0) (.ref 78) (.int 181 0) (.ref 79) .none .none .none (.ref 80) (.int 294 0) 295) ::
 (nat_lit 82,kf "fits" 20 km3 275 81) ::
 (nat_lit 86,kc "places_of" 297 41 (.int 2 0) (.int 3 0) (.ref 83) (.int 181 0) (.ref 84) .none .none .none (.ref 85) (.int 300 0) 301) ::
 (nat_lit 87,kf "places_of" 21 km3 275 86) ::
 (nat_lit 93,kc "apart" 305 47 (.int 4 0) (.int 3 0) (.ref 88) (.int 181 0) (.ref 89) .none (.ref 90) (.ref 91) (.ref 92) (.int 313 0) 314) ::
 (nat_lit 94,kf "apart" 23 km4 303 93) ::
 (nat_lit 98,kc "those_that_sit" 316 52 (.int 2 0) (.int 3 0) (.ref 95) (.int 181 0) (.ref 96) .none .none .none (.ref 97) (.int 319 0) 320) ::
 (nat_lit 99,kf "those_that_sit" 24 km4 303 98) ::
 (nat_lit 103,kc "apart_from_all" 322 54 (.int 3 0) (.int 3 0) (.ref 100) (.int 181 0) (.ref 101) .none .none .none (.ref 102) (.int 325 0) 326) ::
 (nat_lit 104,kf "apart_from_all" 25 km4 303 103) ::
 (nat_lit 108,kc "keeps" 328 56 (.int 3 0) (.int 3 0) (.ref 105) (.int 181 0) (.ref 106) .none .none .none (.ref 107) (.int 331 0) 332) ::
 (nat_lit 109,kf "keeps" 26 km4 303 108) ::
 (nat_lit 113,kc "worth_of" 334 61 (.int 2 0) (.int 3 0) (.ref 110) (.int 181 0) (.ref 111) .none .none .none (.ref 112) (.int 337 0) 338) ::
 (nat_lit 114,kf "worth_of" 27 km4 303 113) ::
 (nat_lit 120,kc "fast_seating" 342 64 (.int 3 0) (.int 3 0) (.ref 115) (.int 181 0) (.ref 116) .none (.ref 117) (.ref 118) (.ref 119) (.int 349 0) 350) ::
 (nat_lit 121,kf "fast_seating" 29 km5 340 120) ::
 (nat_lit 127,kc "with_place" 352 69 (.int 3 0) (.int 3 0) (.ref 122) (.int 181 0) (.ref 123) .none (.ref 124) (.ref 125) (.ref 126) (.int 358 0) 359) ::
 (nat_lit 128,kf "with_place" 30 km5 340 127) ::
 (nat_lit 132,kc "open_among" 361 71 (.int 3 0) (.int 3 0) (.ref 129) (.int 181 0) (.ref 130) .none .none .none (.ref 131) (.int 364 0) 365) ::
 (nat_lit 133,kf "open_among" 31 km5 340 132) ::
 (nat_lit 137,kc "all_places" 369 74 (.int 2 0) (.int 3 0) (.ref 134) (.int 181 0) (.ref 135) .none .none .none (.ref 136) (.int 372 0) 373) ::
 (nat_lit 138,kf "all_places" 33 km6 367 137) ::
 (nat_lit 144,kc "spots_of" 375 76 (.int 4 0) (.int 3 0) (.ref 139) (.int 181 0) (.ref 140) .none (.ref 141) (.ref 142) (.ref 143) (.int 382 0) 383) ::
 (nat_lit 145,kf "spots_of" 34 km6 367 144) ::
 (nat_lit 151,kc "is_waiting" 385 78 (.int 2 0) (.int 3 0) (.ref 146) (.int 181 0) (.ref 147) .none (.ref 148) (.ref 149) (.ref 150) (.int 390 0) 391) ::
 (nat_lit 152,kf "is_waiting" 35 km6 367 151) ::
 (nat_lit 158,kc "begins_with" 393 80 (.int 3 0) (.int 3 0) (.ref 153) (.int 181 0) (.ref 154) .none (.ref 155) (.ref 156) (.ref 157) (.int 399 0) 400) ::
 (nat_lit 159,kf "begins_with" 36 km6 367 158) ::
 (nat_lit 165,kc "is_each" 402 84 (.int 1 0) (.int 3 0) (.ref 160) (.int 181 0) (.ref 161) .none (.ref 162) (.ref 163) (.ref 164) (.int 406 0) 407) ::
 (nat_lit 166,kf "is_each" 37 km6 367 165) ::
 (nat_lit 170,kc "still_waiting" 411 87 (.int 2 0) (.int 3 0) (.ref 167) (.int 181 0) (.ref 168) .none .none .none (.ref 169) (.int 414 0) 415) ::
 (nat_lit 171,kf "still_waiting" 39 km7 409 170) ::
 (nat_lit 175,kc "most_from" 417 89 (.int 4 0) (.int 3 0) (.ref 172) (.int 181 0) (.ref 173) .none .none .none (.ref 174) (.int 420 0) 421) ::
 (nat_lit 176,kf "most_from" 40 km7 409 175) ::
 (nat_lit 182,kc "bounds_beside" 423 95 (.int 6 0) (.int 3 0) (.ref 177) (.int 181 0) (.ref 178) .none (.ref 179) (.ref 180) (.ref 181) (.int 436 0) 437) ::
 (nat_lit 183,kf "bounds_beside" 41 km7 409 182) ::
 (nat_lit 190,kc "bounds" 439 108 (.int 5 0) (.int 3 0) (.ref 185) (.int 181 0) (.ref 186) .none (.ref 187) (.ref 188) (.ref 189) (.int 448 0) 449) ::
 (nat_lit 191,kf "bounds" 42 km7 409 190 (.ref 184)) ::
 (nat_lit 197,kc "_law_cell_at" 453 112 (.int 2 0) (.int 3 0) (.ref 192) (.int 181 0) (.ref 193) .none (.ref 194) (.ref 195) (.ref 196) (.int 458 0) 459) ::
 (nat_lit 198,kf "_law_cell_at" 44 km8 451 197) ::
 (nat_lit 204,kc "_law_mixed" 461 116 (.int 2 0) (.int 3 0) (.ref 199) (.int 181 0) (.ref 200) .none (.ref 201) (.ref 202) (.ref 203) (.int 467 0) 468) ::
 (nat_lit 205,kf "_law_mixed" 45 km8 451 204) ::
 (nat_lit 211,kc "_law_digits" 470 120 (.int 2 0) (.int 3 0) (.ref 206) (.int 181 0) (.ref 207) .none (.ref 208) (.ref 209) (.ref 210) (.int 477 0) 478) ::
 (nat_lit 212,kf "_law_digits" 46 km8 451 211) ::
 (nat_lit 216,kc "_law_hall" 480 126 (.int 1 0) (.int 3 0) (.ref 213) (.int 181 0) (.ref 214) .none .none .none (.ref 215) (.int 483 0) 484) ::
 (nat_lit 217,kf "_law_hall" 47 km8 451 216) ::
 (nat_lit 223,kc "_law_name" 486 144 (.int 2 0) (.int 3 0) (.ref 218) (.int 181 0) (.ref 219) .none (.ref 220) (.ref 221) (.ref 222) (.int 497 0) 498) ::
 (nat_lit 224,kf "_law_name" 48 km8 451 223) ::
 (nat_lit 228,kc "_law_any" 500 155 (.int 2 0) (.int 3 0) (.ref 225) (.int 181 0) (.ref 226) .none .none .none (.ref 227) (.int 503 0) 504) ::
 (nat_lit 229,kf "_law_any" 49 km8 451 228) ::
 (nat_lit 235,kc "_law_group" 506 165 (.int 4 0) (.int 3 0) (.ref 230) (.int 181 0) (.ref 231) .none (.ref 232) (.ref 233) (.ref 234) (.int 521 0) 522) ::
 (nat_lit 236,kf "_law_group" 50 km8 451 235) ::
 (nat_lit 242,kc "_law_groups" 524 180 (.int 3 0) (.int 3 0) (.ref 237) (.int 181 0) (.ref 238) .none (.ref 239) (.ref 240) (.ref 241) (.int 538 0) 539) ::
 (nat_lit 243,kf "_law_groups" 51 km8 451 242) ::
 (nat_lit 247,kc "_law_fits" 541 195 (.int 4 0) (.int 3 0) (.ref 244) (.int 181 0) (.ref 245) .none .none .none (.ref 246) (.int 544 0) 545) ::
 (nat_lit 248,kf "_law_fits" 52 km8 451 247) ::
 (nat_lit 254,kc "_law_places" 547 204 (.int 2 0) (.int 3 0) (.ref 249) (.int 181 0) (.ref 250) .none (.ref 251) (.ref 252) (.ref 253) (.int 555 0) 556) ::
 (nat_lit 255,kf "_law_places" 53 km8 451 254) ::
 (nat_lit 261,kc "_law_apart" 558 211 (.int 4 0) (.int 3 0) (.ref 256) (.int 181 0) (.ref 257) .none (.ref 258) (.ref 259) (.ref 260) (.int 566 0) 567) ::
 (nat_lit 262,kf "_law_apart" 54 km8 451 261) ::
 (nat_lit 268,kc "_law_open" 569 216 (.int 4 0) (.int 3 0) (.ref 263) (.int 181 0) (.ref 264) .none (.ref 265) (.ref 266) (.ref 267) (.int 581 0) 582) ::
 (nat_lit 269,kf "_law_open" 55 km8 451 268) ::
 (nat_lit 275,kc "_law_with" 584 227 (.int 3 0) (.int 3 0) (.ref 270) (.int 181 0) (.ref 271) .none (.ref 272) (.ref 273) (.ref 274) (.int 590 0) 591) ::
 (nat_lit 276,kf "_law_with" 56 km8 451 275) ::
 (nat_lit 282,kc "_law_few" 593 229 (.int 3 0) (.int 3 0) (.ref 277) (.int 181 0) (.ref 278) .none (.ref 279) (.ref 280) (.ref 281) (.int 603 0) 604) ::
 (nat_lit 283,kf "_law_few" 57 km8 451 282) ::
 (nat_lit 287,kc "_law_seated" 606 238 (.int 3 0) (.int 3 0) (.ref 284) (.int 181 0) (.ref 285) .none .none .none (.ref 286) (.int 609 0) 610) ::
 (nat_lit 288,kf "_law_seated" 58 km8 451 287) ::
 (nat_lit 292,kc "_law_fast" 612 248 (.int 2 0) (.int 3 0) (.ref 289) (.int 181 0) (.ref 290) .none .none .none (.ref 291) (.int 615 0) 616) ::
 (nat_lit 293,kf "_law_fast" 59 km8 451 292) ::
 (nat_lit 299,kc "_law_worth_in" 618 250 (.int 2 0) (.int 3 0) (.ref 294) (.int 181 0) (.ref 295) .none (.ref 296) (.ref 297) (.ref 298) (.int 626 0) 627) ::
 (nat_lit 300,kf "_law_worth_in" 60 km8 451 299) ::
 (nat_lit 306,kc "_law_worth" 629 256 (.int 2 0) (.int 3 0) (.ref 301) (.int 181 0) (.ref 302) .none (.ref 303) (.ref 304) (.ref 305) (.int 637 0) 638) ::
 (nat_lit 307,kf "_law_worth" 61 km8 451 306) ::
 (nat_lit 311,kc "_law_most_yet" 640 262 (.int 4 0) (.int 3 0) (.ref 308) (.int 181 0) (.ref 309) .none .none .none (.ref 310) (.int 643 0) 644) ::
 (nat_lit 312,kf "_law_most_yet" 62 km8 451 311) ::
 (nat_lit 318,kc "_law_is_tree" 646 269 (.int 6 0) (.int 3 0) (.ref 313) (.int 181 0) (.ref 314) .none (.ref 315) (.ref 316) (.ref 317) (.int 659 0) 660) ::
 (nat_lit 319,kf "_law_is_tree" 63 km8 451 318) ::
 (nat_lit 323,kc "_law_tree" 662 286 (.int 5 0) (.int 3 0) (.ref 320) (.int 181 0) (.ref 321) .none .none .none (.ref 322) (.int 665 0) 666) ::
 (nat_lit 324,kf "_law_tree" 64 km8 451 323) ::
 (nat_lit 330,kc "_law_bent" 668 296 (.int 3 0) (.int 3 0) (.ref 325) (.int 181 0) (.ref 326) .none (.ref 327) (.ref 328) (.ref 329) (.int 676 0) 677) ::
 (nat_lit 331,kf "_law_bent" 65 km8 451 330) ::
 (nat_lit 337,kc "_law_told" 679 316 (.int 2 0) (.int 3 0) (.ref 332) (.int 181 0) (.ref 333) .none (.ref 334) (.ref 335) (.ref 336) (.int 684 0) 685) ::
 (nat_lit 338,kf "_law_told" 66 km8 451 337) ::
 (nat_lit 342,kc "law" 687 318 (.int 1 0) (.int 3 0) (.ref 339) (.int 181 0) (.ref 340) .none .none .none (.ref 341) (.int 690 0) 691) ::
 (nat_lit 343,kf "law" 67 km8 451 342) ::
 (nat_lit 184,{ cls:=.type "tuple",data:=.seq #[.none] }) :: []) (by kernel_rfl)
noncomputable def KA:List Addr:=[nat_lit 3,nat_lit 45,nat_lit 46,nat_lit 52,nat_lit 53,nat_lit 57,nat_lit 58,nat_lit 64,nat_lit 65,nat_lit 71,nat_lit 72,nat_lit 76,nat_lit 77,nat_lit 81,nat_lit 82,nat_lit 86,nat_lit 87,nat_lit 93,nat_lit 94,nat_lit 98,nat_lit 99,nat_lit 103,nat_lit 104,nat_lit 108,nat_lit 109,nat_lit 113,nat_lit 114,nat_lit 120,nat_lit 121,nat_lit 127,nat_lit 128,nat_lit 132,nat_lit 133,nat_lit 137,nat_lit 138,nat_lit 144,nat_lit 145,nat_lit 151,nat_lit 152,nat_lit 158,nat_lit 159,nat_lit 165,nat_lit 166,nat_lit 170,nat_lit 171,nat_lit 175,nat_lit 176,nat_lit 182,nat_lit 183,nat_lit 190,nat_lit 191,nat_lit 197,nat_lit 198,nat_lit 204,nat_lit 205,nat_lit 211,nat_lit 212,nat_lit 216,nat_lit 217,nat_lit 223,nat_lit 224,nat_lit 228,nat_lit 229,nat_lit 235,nat_lit 236,nat_lit 242,nat_lit 243,nat_lit 247,nat_lit 248,nat_lit 254,nat_lit 255,nat_lit 261,nat_lit 262,nat_lit 268,nat_lit 269,nat_lit 275,nat_lit 276,nat_lit 282,nat_lit 283,nat_lit 287,nat_lit 288,nat_lit 292,nat_lit 293,nat_lit 299,nat_lit 300,nat_lit 306,nat_lit 307,nat_lit 311,nat_lit 312,nat_lit 318,nat_lit 319,nat_lit 323,nat_lit 324,nat_lit 330,nat_lit 331,nat_lit 337,nat_lit 338,nat_lit 342,nat_lit 343,nat_lit 184]
end K64
namespace PySem.W.Fast
noncomputable def tw18436531301368393485:Unit:=()
noncomputable def tw17235551921830463150:Unit:=()
noncomputable def tw2776526424728163685:Unit:=()
noncomputable def tw18018455092843804168:Unit:=()
noncomputable def tw4080804020212775284:Unit:=()
noncomputable def tw11094511603411855546:Unit:=()
noncomputable def tw1842522107423577503:Unit:=()
noncomputable def tw7278806455672508411:Unit:=()
noncomputable def tw14264841119607703387:Unit:=()
noncomputable def tw5797818662850754780:Unit:=()
noncomputable def tw16288530394118349221:Unit:=()
noncomputable def tw17235361560506108373:Unit:=()
noncomputable def tw9939989237631893360:Unit:=()
noncomputable def tw9793880268121381580:Unit:=()
noncomputable def tw13122893501794839017:Unit:=()
noncomputable def tw18112830441951772368:Unit:=()
noncomputable def tw152870624253910848:Unit:=()
noncomputable def tw15946268864126723629:Unit:=()
noncomputable def tw9352103183045277296:Unit:=()
noncomputable def tw3166115749859317397:Unit:=()
end PySem.W.Fast
namespace K64
open PySem PySem.Spec PyProof.Rows L2 ZQ KG KH
theorem all_mk {l:PySem.W.OpenLaw} {w:World} {K:PySem.W.Frag} {h:Heap} {mg:Str→Option Value} {fa:Addr} (X:K.In h) (G:h.Ns mainGlobals mg) (hfa:mg "law" = some (.ref fa))
  {f0:Addr} {od0 an0:Option Addr} {sl0:Array (Option Value)} {oc0 kV0 dc0 pm0 cd0 ct0:Value} (a0:PySem.W.nsIn K mainGlobals "is_whole" = some (some (.ref f0))) (l0:K.lookup f0=some ⟨oc0,od0,.func (PySem.W.fnOf "is_whole" "is_whole" (defArgs zcn) (defBody zcn) (defScope zcn) .none kV0 dc0 pm0 an0 cd0 ct0),sl0⟩) (c0:PySem.W.codeIn K cd0 "is_whole" = true) (k0:PySem.W.keepIn K (.ref f0)=true)
  {f1:Addr} {od1 an1:Option Addr} {sl1:Array (Option Value)} {oc1 kV1 dc1 pm1 cd1 ct1:Value} (a1:PySem.W.nsIn K mainGlobals "is_whole_within" = some (some (.ref f1))) (l1:K.lookup f1=some ⟨oc1,od1,.func (PySem.W.fnOf "is_whole_within" "is_whole_within" (defArgs zaK) (defBody zaK) (defScope zaK) .none kV1 dc1 pm1 an1 cd1 ct1),sl1⟩) (c1:PySem.W.codeIn K cd1 "is_whole_within" = true) (k1:PySem.W.keepIn K (.ref f1)=true)
  {f2:Addr} {od2 an2:Option Addr} {sl2:Array (Option Value)} {oc2 kV2 dc2 pm2 cd2 ct2:Value} (a2:PySem.W.nsIn K mainGlobals "worth_in" = some (some (.ref f2))) (l2:K.lookup f2=some ⟨oc2,od2,.func (PySem.W.fnOf "worth_in" "worth_in" (defArgs zcb) (defBody zcb) (defScope zcb) .none kV2 dc2 pm2 an2 cd2 ct2),sl2⟩) (c2:PySem.W.codeIn K cd2 "worth_in" = true) (k2:PySem.W.keepIn K (.ref f2)=true)
  {f3:Addr} {od3 an3:Option Addr} {sl3:Array (Option Value)} {oc3 kV3 dc3 pm3 cd3 ct3:Value} (a3:PySem.W.nsIn K mainGlobals "sign_at" = some (some (.ref f3))) (l3:K.lookup f3=some ⟨oc3,od3,.func (PySem.W.fnOf "sign_at" "sign_at" (defArgs zcM) (defBody zcM) (defScope zcM) .none kV3 dc3 pm3 an3 cd3 ct3),sl3⟩) (c3:PySem.W.codeIn K cd3 "sign_at" = true) (k3:PySem.W.keepIn K (.ref f3)=true)
  {f4:Addr} {od4 an4:Option Addr} {sl4:Array (Option Value)} {oc4 kV4 dc4 pm4 cd4 ct4:Value} (a4:PySem.W.nsIn K mainGlobals "takes" = some (some (.ref f4))) (l4:K.lookup f4=some ⟨oc4,od4,.func (PySem.W.fnOf "takes" "takes" (defArgs zdP) (defBody zdP) (defScope zdP) .none kV4 dc4 pm4 an4 cd4 ct4),sl4⟩) (c4:PySem.W.codeIn K cd4 "takes" = true) (k4:PySem.W.keepIn K (.ref f4)=true)
  {f5:Addr} {od5 an5:Option Addr} {sl5:Array (Option Value)} {oc5 kV5 dc5 pm5 cd5 ct5:Value} (a5:PySem.W.nsIn K mainGlobals "seats_of" = some (some (.ref f5))) (l5:K.lookup f5=some ⟨oc5,od5,.func (PySem.W.fnOf "seats_of" "seats_of" (defArgs zcd) (defBody zcd) (defScope zcd) .none kV5 dc5 pm5 an5 cd5 ct5),sl5⟩) (c5:PySem.W.codeIn K cd5 "seats_of" = true) (k5:PySem.W.keepIn K (.ref f5)=true)
  {f6:Addr} {od6 an6:Option Addr} {sl6:Array (Option Value)} {oc6 kV6 dc6 pm6 cd6 ct6:Value} (a6:PySem.W.nsIn K mainGlobals "fits" = some (some (.ref f6))) (l6:K.lookup f6=some ⟨oc6,od6,.func (PySem.W.fnOf "fits" "fits" (defArgs zeO) (defBody zeO) (defScope zeO) .none kV6 dc6 pm6 an6 cd6 ct6),sl6⟩) (c6:PySem.W.codeIn K cd6 "fits" = true) (k6:PySem.W.keepIn K (.ref f6)=true)
  {f7:Addr} {od7 an7:Option Addr} {sl7:Array (Option Value)} {oc7 kV7 dc7 pm7 cd7 ct7:Value} (a7:PySem.W.nsIn K mainGlobals "places_of" = some (some (.ref f7))) (l7:K.lookup f7=some ⟨oc7,od7,.func (PySem.W.fnOf "places_of" "places_of" (defArgs zbE) (defBody zbE) (defScope zbE) .none kV7 dc7 pm7 an7 cd7 ct7),sl7⟩) (c7:PySem.W.codeIn K cd7 "places_of" = true) (k7:PySem.W.keepIn K (.ref f7)=true)
  {f8:Addr} {od8 an8:Option Addr} {sl8:Array (Option Value)} {oc8 kV8 dc8 pm8 cd8 ct8:Value} (a8:PySem.W.nsIn K mainGlobals "apart" = some (some (.ref f8))) (l8:K.lookup f8=some ⟨oc8,od8,.func (PySem.W.fnOf "apart" "apart" (defArgs zdR) (defBody zdR) (defScope zdR) .none kV8 dc8 pm8 an8 cd8 ct8),sl8⟩) (c8:PySem.W.codeIn K cd8 "apart" = true) (k8:PySem.W.keepIn K (.ref f8)=true)
  {f9:Addr} {od9 an9:Option Addr} {sl9:Array (Option Value)} {oc9 kV9 dc9 pm9 cd9 ct9:Value} (a9:PySem.W.nsIn K mainGlobals "those_that_sit" = some (some (.ref f9))) (l9:K.lookup f9=some ⟨oc9,od9,.func (PySem.W.fnOf "those_that_sit" "those_that_sit" (defArgs zaN) (defBody zaN) (defScope zaN) .none kV9 dc9 pm9 an9 cd9 ct9),sl9⟩) (c9:PySem.W.codeIn K cd9 "those_that_sit" = true) (k9:PySem.W.keepIn K (.ref f9)=true)
  {f10:Addr} {od10 an10:Option Addr} {sl10:Array (Option Value)} {oc10 kV10 dc10 pm10 cd10 ct10:Value} (a10:PySem.W.nsIn K mainGlobals "apart_from_all" = some (some (.ref f10))) (l10:K.lookup f10=some ⟨oc10,od10,.func (PySem.W.fnOf "apart_from_all" "apart_from_all" (defArgs zaO) (defBody zaO) (defScope zaO) .none kV10 dc10 pm10 an10 cd10 ct10),sl10⟩) (c10:PySem.W.codeIn K cd10 "apart_from_all" = true) (k10:PySem.W.keepIn K (.ref f10)=true)
  {f11:Addr} {od11 an11:Option Addr} {sl11:Array (Option Value)} {oc11 kV11 dc11 pm11 cd11 ct11:Value} (a11:PySem.W.nsIn K mainGlobals "keeps" = some (some (.ref f11))) (l11:K.lookup f11=some ⟨oc11,od11,.func (PySem.W.fnOf "keeps" "keeps" (defArgs zdQ) (defBody zdQ) (defScope zdQ) .none kV11 dc11 pm11 an11 cd11 ct11),sl11⟩) (c11:PySem.W.codeIn K cd11 "keeps" = true) (k11:PySem.W.keepIn K (.ref f11)=true)
  {f12:Addr} {od12 an12:Option Addr} {sl12:Array (Option Value)} {oc12 kV12 dc12 pm12 cd12 ct12:Value} (a12:PySem.W.nsIn K mainGlobals "worth_of" = some (some (.ref f12))) (l12:K.lookup f12=some ⟨oc12,od12,.func (PySem.W.fnOf "worth_of" "worth_of" (defArgs zca) (defBody zca) (defScope zca) .none kV12 dc12 pm12 an12 cd12 ct12),sl12⟩) (c12:PySem.W.codeIn K cd12 "worth_of" = true) (k12:PySem.W.keepIn K (.ref f12)=true)
  {f13:Addr} {od13 an13:Option Addr} {sl13:Array (Option Value)} {oc13 kV13 dc13 pm13 cd13 ct13:Value} (a13:PySem.W.nsIn K mainGlobals "fast_seating" = some (some (.ref f13))) (l13:K.lookup f13=some ⟨oc13,od13,.func (PySem.W.fnOf "fast_seating" "fast_seating" (defArgs za5) (defBody za5) (defScope za5) .none kV13 dc13 pm13 an13 cd13 ct13),sl13⟩) (c13:PySem.W.codeIn K cd13 "fast_seating" = true) (k13:PySem.W.keepIn K (.ref f13)=true)
  {f14:Addr} {od14 an14:Option Addr} {sl14:Array (Option Value)} {oc14 kV14 dc14 pm14 cd14 ct14:Value} (a14:PySem.W.nsIn K mainGlobals "with_place" = some (some (.ref f14))) (l14:K.lookup f14=some ⟨oc14,od14,.func (PySem.W.fnOf "with_place" "with_place" (defArgs zbt) (defBody zbt) (defScope zbt) .none kV14 dc14 pm14 an14 cd14 ct14),sl14⟩) (c14:PySem.W.codeIn K cd14 "with_place" = true) (k14:PySem.W.keepIn K (.ref f14)=true)
  {f15:Addr} {od15 an15:Option Addr} {sl15:Array (Option Value)} {oc15 kV15 dc15 pm15 cd15 ct15:Value} (a15:PySem.W.nsIn K mainGlobals "open_among" = some (some (.ref f15))) (l15:K.lookup f15=some ⟨oc15,od15,.func (PySem.W.fnOf "open_among" "open_among" (defArgs zbu) (defBody zbu) (defScope zbu) .none kV15 dc15 pm15 an15 cd15 ct15),sl15⟩) (c15:PySem.W.codeIn K cd15 "open_among" = true) (k15:PySem.W.keepIn K (.ref f15)=true)
  {f16:Addr} {od16 an16:Option Addr} {sl16:Array (Option Value)} {oc16 kV16 dc16 pm16 cd16 ct16:Value} (a16:PySem.W.nsIn K mainGlobals "all_places" = some (some (.ref f16))) (l16:K.lookup f16=some ⟨oc16,od16,.func (PySem.W.fnOf "all_places" "all_places" (defArgs zbA) (defBody zbA) (defScope zbA) .none kV16 dc16 pm16 an16 cd16 ct16),sl16⟩) (c16:PySem.W.codeIn K cd16 "all_places" = true) (k16:PySem.W.keepIn K (.ref f16)=true)
  {f17:Addr} {od17 an17:Option Addr} {sl17:Array (Option Value)} {oc17 kV17 dc17 pm17 cd17 ct17:Value} (a17:PySem.W.nsIn K mainGlobals "spots_of" = some (some (.ref f17))) (l17:K.lookup f17=some ⟨oc17,od17,.func (PySem.W.fnOf "spots_of" "spots_of" (defArgs zcc) (defBody zcc) (defScope zcc) .none kV17 dc17 pm17 an17 cd17 ct17),sl17⟩) (c17:PySem.W.codeIn K cd17 "spots_of" = true) (k17:PySem.W.keepIn K (.ref f17)=true)
  {f18:Addr} {od18 an18:Option Addr} {sl18:Array (Option Value)} {oc18 kV18 dc18 pm18 cd18 ct18:Value} (a18:PySem.W.nsIn K mainGlobals "is_waiting" = some (some (.ref f18))) (l18:K.lookup f18=some ⟨oc18,od18,.func (PySem.W.fnOf "is_waiting" "is_waiting" (defArgs zbz) (defBody zbz) (defScope zbz) .none kV18 dc18 pm18 an18 cd18 ct18),sl18⟩) (c18:PySem.W.codeIn K cd18 "is_waiting" = true) (k18:PySem.W.keepIn K (.ref f18)=true)
  {f19:Addr} {od19 an19:Option Addr} {sl19:Array (Option Value)} {oc19 kV19 dc19 pm19 cd19 ct19:Value} (a19:PySem.W.nsIn K mainGlobals "begins_with" = some (some (.ref f19))) (l19:K.lookup f19=some ⟨oc19,od19,.func (PySem.W.fnOf "begins_with" "begins_with" (defArgs zbe) (defBody zbe) (defScope zbe) .none kV19 dc19 pm19 an19 cd19 ct19),sl19⟩) (c19:PySem.W.codeIn K cd19 "begins_with" = true) (k19:PySem.W.keepIn K (.ref f19)=true)
  {f20:Addr} {od20 an20:Option Addr} {sl20:Array (Option Value)} {oc20 kV20 dc20 pm20 cd20 ct20:Value} (a20:PySem.W.nsIn K mainGlobals "is_each" = some (some (.ref f20))) (l20:K.lookup f20=some ⟨oc20,od20,.func (PySem.W.fnOf "is_each" "is_each" (defArgs zcP) (defBody zcP) (defScope zcP) .none kV20 dc20 pm20 an20 cd20 ct20),sl20⟩) (c20:PySem.W.codeIn K cd20 "is_each" = true) (k20:PySem.W.keepIn K (.ref f20)=true)
  {f21:Addr} {od21 an21:Option Addr} {sl21:Array (Option Value)} {oc21 kV21 dc21 pm21 cd21 ct21:Value} (a21:PySem.W.nsIn K mainGlobals "still_waiting" = some (some (.ref f21))) (l21:K.lookup f21=some ⟨oc21,od21,.func (PySem.W.fnOf "still_waiting" "still_waiting" (defArgs zaU) (defBody zaU) (defScope zaU) .none kV21 dc21 pm21 an21 cd21 ct21),sl21⟩) (c21:PySem.W.codeIn K cd21 "still_waiting" = true) (k21:PySem.W.keepIn K (.ref f21)=true)
  {f22:Addr} {od22 an22:Option Addr} {sl22:Array (Option Value)} {oc22 kV22 dc22 pm22 cd22 ct22:Value} (a22:PySem.W.nsIn K mainGlobals "most_from" = some (some (.ref f22))) (l22:K.lookup f22=some ⟨oc22,od22,.func (PySem.W.fnOf "most_from" "most_from" (defArgs zbF) (defBody zbF) (defScope zbF) .none kV22 dc22 pm22 an22 cd22 ct22),sl22⟩) (c22:PySem.W.codeIn K cd22 "most_from" = true) (k22:PySem.W.keepIn K (.ref f22)=true)
  {f23:Addr} {od23 an23:Option Addr} {sl23:Array (Option Value)} {oc23 kV23 dc23 pm23 cd23 ct23:Value} (a23:PySem.W.nsIn K mainGlobals "bounds_beside" = some (some (.ref f23))) (l23:K.lookup f23=some ⟨oc23,od23,.func (PySem.W.fnOf "bounds_beside" "bounds_beside" (defArgs zaV) (defBody zaV) (defScope zaV) .none kV23 dc23 pm23 an23 cd23 ct23),sl23⟩) (c23:PySem.W.codeIn K cd23 "bounds_beside" = true) (k23:PySem.W.keepIn K (.ref f23)=true)
  {f24 t24:Addr} {od24 an24 td24:Option Addr} {sl24 ts24:Array (Option Value)} {tn24:Nat} {oc24 kV24 dc24 pm24 cd24 ct24 tc24:Value} (a24:PySem.W.nsIn K mainGlobals "bounds" = some (some (.ref f24))) (l24:K.lookup f24=some ⟨oc24,od24,.func (PySem.W.fnOf "bounds" "bounds" (defArgs zdu) (defBody zdu) (defScope zdu) (.ref t24) kV24 dc24 pm24 an24 cd24 ct24),sl24⟩) (c24:PySem.W.codeIn K cd24 "bounds" = true) (k24:PySem.W.keepIn K (.ref f24)=true) (q24:K.lookup t24=some ⟨tc24,td24,.seq #[.none] tn24,ts24⟩)
  {f25:Addr} {od25 an25:Option Addr} {sl25:Array (Option Value)} {oc25 kV25 dc25 pm25 cd25 ct25:Value} (a25:PySem.W.nsIn K mainGlobals "_law_cell_at" = some (some (.ref f25))) (l25:K.lookup f25=some ⟨oc25,od25,.func (PySem.W.fnOf "_law_cell_at" "_law_cell_at" (defArgs zbd) (defBody zbd) (defScope zbd) .none kV25 dc25 pm25 an25 cd25 ct25),sl25⟩) (c25:PySem.W.codeIn K cd25 "_law_cell_at" = true) (k25:PySem.W.keepIn K (.ref f25)=true)
  {f26:Addr} {od26 an26:Option Addr} {sl26:Array (Option Value)} {oc26 kV26 dc26 pm26 cd26 ct26:Value} (a26:PySem.W.nsIn K mainGlobals "_law_mixed" = some (some (.ref f26))) (l26:K.lookup f26=some ⟨oc26,od26,.func (PySem.W.fnOf "_law_mixed" "_law_mixed" (defArgs zbH) (defBody zbH) (defScope zbH) .none kV26 dc26 pm26 an26 cd26 ct26),sl26⟩) (c26:PySem.W.codeIn K cd26 "_law_mixed" = true) (k26:PySem.W.keepIn K (.ref f26)=true)
  {f27:Addr} {od27 an27:Option Addr} {sl27:Array (Option Value)} {oc27 kV27 dc27 pm27 cd27 ct27:Value} (a27:PySem.W.nsIn K mainGlobals "_law_digits" = some (some (.ref f27))) (l27:K.lookup f27=some ⟨oc27,od27,.func (PySem.W.fnOf "_law_digits" "_law_digits" (defArgs zby) (defBody zby) (defScope zby) .none kV27 dc27 pm27 an27 cd27 ct27),sl27⟩) (c27:PySem.W.codeIn K cd27 "_law_digits" = true) (k27:PySem.W.keepIn K (.ref f27)=true)
  {f28:Addr} {od28 an28:Option Addr} {sl28:Array (Option Value)} {oc28 kV28 dc28 pm28 cd28 ct28:Value} (a28:PySem.W.nsIn K mainGlobals "_law_hall" = some (some (.ref f28))) (l28:K.lookup f28=some ⟨oc28,od28,.func (PySem.W.fnOf "_law_hall" "_law_hall" (defArgs zcj) (defBody zcj) (defScope zcj) .none kV28 dc28 pm28 an28 cd28 ct28),sl28⟩) (c28:PySem.W.codeIn K cd28 "_law_hall" = true) (k28:PySem.W.keepIn K (.ref f28)=true)
  {f29:Addr} {od29 an29:Option Addr} {sl29:Array (Option Value)} {oc29 kV29 dc29 pm29 cd29 ct29:Value} (a29:PySem.W.nsIn K mainGlobals "_law_name" = some (some (.ref f29))) (l29:K.lookup f29=some ⟨oc29,od29,.func (PySem.W.fnOf "_law_name" "_law_name" (defArgs zci) (defBody zci) (defScope zci) .none kV29 dc29 pm29 an29 cd29 ct29),sl29⟩) (c29:PySem.W.codeIn K cd29 "_law_name" = true) (k29:PySem.W.keepIn K (.ref f29)=true)
  {f30:Addr} {od30 an30:Option Addr} {sl30:Array (Option Value)} {oc30 kV30 dc30 pm30 cd30 ct30:Value} (a30:PySem.W.nsIn K mainGlobals "_law_any" = some (some (.ref f30))) (l30:K.lookup f30=some ⟨oc30,od30,.func (PySem.W.fnOf "_law_any" "_law_any" (defArgs zcO) (defBody zcO) (defScope zcO) .none kV30 dc30 pm30 an30 cd30 ct30),sl30⟩) (c30:PySem.W.codeIn K cd30 "_law_any" = true) (k30:PySem.W.keepIn K (.ref f30)=true)
  {f31:Addr} {od31 an31:Option Addr} {sl31:Array (Option Value)} {oc31 kV31 dc31 pm31 cd31 ct31:Value} (a31:PySem.W.nsIn K mainGlobals "_law_group" = some (some (.ref f31))) (l31:K.lookup f31=some ⟨oc31,od31,.func (PySem.W.fnOf "_law_group" "_law_group" (defArgs zbI) (defBody zbI) (defScope zbI) .none kV31 dc31 pm31 an31 cd31 ct31),sl31⟩) (c31:PySem.W.codeIn K cd31 "_law_group" = true) (k31:PySem.W.keepIn K (.ref f31)=true)
  {f32:Addr} {od32 an32:Option Addr} {sl32:Array (Option Value)} {oc32 kV32 dc32 pm32 cd32 ct32:Value} (a32:PySem.W.nsIn K mainGlobals "_law_groups" = some (some (.ref f32))) (l32:K.lookup f32=some ⟨oc32,od32,.func (PySem.W.fnOf "_law_groups" "_law_groups" (defArgs zbx) (defBody zbx) (defScope zbx) .none kV32 dc32 pm32 an32 cd32 ct32),sl32⟩) (c32:PySem.W.codeIn K cd32 "_law_groups" = true) (k32:PySem.W.keepIn K (.ref f32)=true)
  {f33:Addr} {od33 an33:Option Addr} {sl33:Array (Option Value)} {oc33 kV33 dc33 pm33 cd33 ct33:Value} (a33:PySem.W.nsIn K mainGlobals "_law_fits" = some (some (.ref f33))) (l33:K.lookup f33=some ⟨oc33,od33,.func (PySem.W.fnOf "_law_fits" "_law_fits" (defArgs zck) (defBody zck) (defScope zck) .none kV33 dc33 pm33 an33 cd33 ct33),sl33⟩) (c33:PySem.W.codeIn K cd33 "_law_fits" = true) (k33:PySem.W.keepIn K (.ref f33)=true)
  {f34:Addr} {od34 an34:Option Addr} {sl34:Array (Option Value)} {oc34 kV34 dc34 pm34 cd34 ct34:Value} (a34:PySem.W.nsIn K mainGlobals "_law_places" = some (some (.ref f34))) (l34:K.lookup f34=some ⟨oc34,od34,.func (PySem.W.fnOf "_law_places" "_law_places" (defArgs zbw) (defBody zbw) (defScope zbw) .none kV34 dc34 pm34 an34 cd34 ct34),sl34⟩) (c34:PySem.W.codeIn K cd34 "_law_places" = true) (k34:PySem.W.keepIn K (.ref f34)=true)
  {f35:Addr} {od35 an35:Option Addr} {sl35:Array (Option Value)} {oc35 kV35 dc35 pm35 cd35 ct35:Value} (a35:PySem.W.nsIn K mainGlobals "_law_apart" = some (some (.ref f35))) (l35:K.lookup f35=some ⟨oc35,od35,.func (PySem.W.fnOf "_law_apart" "_law_apart" (defArgs zbJ) (defBody zbJ) (defScope zbJ) .none kV35 dc35 pm35 an35 cd35 ct35),sl35⟩) (c35:PySem.W.codeIn K cd35 "_law_apart" = true) (k35:PySem.W.keepIn K (.ref f35)=true)
  {f36:Addr} {od36 an36:Option Addr} {sl36:Array (Option Value)} {oc36 kV36 dc36 pm36 cd36 ct36:Value} (a36:PySem.W.nsIn K mainGlobals "_law_open" = some (some (.ref f36))) (l36:K.lookup f36=some ⟨oc36,od36,.func (PySem.W.fnOf "_law_open" "_law_open" (defArgs zch) (defBody zch) (defScope zch) .none kV36 dc36 pm36 an36 cd36 ct36),sl36⟩) (c36:PySem.W.codeIn K cd36 "_law_open" = true) (k36:PySem.W.keepIn K (.ref f36)=true)
  {f37:Addr} {od37 an37:Option Addr} {sl37:Array (Option Value)} {oc37 kV37 dc37 pm37 cd37 ct37:Value} (a37:PySem.W.nsIn K mainGlobals "_law_with" = some (some (.ref f37))) (l37:K.lookup f37=some ⟨oc37,od37,.func (PySem.W.fnOf "_law_with" "_law_with" (defArgs zce) (defBody zce) (defScope zce) .none kV37 dc37 pm37 an37 cd37 ct37),sl37⟩) (c37:PySem.W.codeIn K cd37 "_law_with" = true) (k37:PySem.W.keepIn K (.ref f37)=true)
  {f38:Addr} {od38 an38:Option Addr} {sl38:Array (Option Value)} {oc38 kV38 dc38 pm38 cd38 ct38:Value} (a38:PySem.W.nsIn K mainGlobals "_law_few" = some (some (.ref f38))) (l38:K.lookup f38=some ⟨oc38,od38,.func (PySem.W.fnOf "_law_few" "_law_few" (defArgs zcN) (defBody zcN) (defScope zcN) .none kV38 dc38 pm38 an38 cd38 ct38),sl38⟩) (c38:PySem.W.codeIn K cd38 "_law_few" = true) (k38:PySem.W.keepIn K (.ref f38)=true)
  {f39:Addr} {od39 an39:Option Addr} {sl39:Array (Option Value)} {oc39 kV39 dc39 pm39 cd39 ct39:Value} (a39:PySem.W.nsIn K mainGlobals "_law_seated" = some (some (.ref f39))) (l39:K.lookup f39=some ⟨oc39,od39,.func (PySem.W.fnOf "_law_seated" "_law_seated" (defArgs zbv) (defBody zbv) (defScope zbv) .none kV39 dc39 pm39 an39 cd39 ct39),sl39⟩) (c39:PySem.W.codeIn K cd39 "_law_seated" = true) (k39:PySem.W.keepIn K (.ref f39)=true)
  {f40:Addr} {od40 an40:Option Addr} {sl40:Array (Option Value)} {oc40 kV40 dc40 pm40 cd40 ct40:Value} (a40:PySem.W.nsIn K mainGlobals "_law_fast" = some (some (.ref f40))) (l40:K.lookup f40=some ⟨oc40,od40,.func (PySem.W.fnOf "_law_fast" "_law_fast" (defArgs zcl) (defBody zcl) (defScope zcl) .none kV40 dc40 pm40 an40 cd40 ct40),sl40⟩) (c40:PySem.W.codeIn K cd40 "_law_fast" = true) (k40:PySem.W.keepIn K (.ref f40)=true)
  {f41:Addr} {od41 an41:Option Addr} {sl41:Array (Option Value)} {oc41 kV41 dc41 pm41 cd41 ct41:Value} (a41:PySem.W.nsIn K mainGlobals "_law_worth_in" = some (some (.ref f41))) (l41:K.lookup f41=some ⟨oc41,od41,.func (PySem.W.fnOf "_law_worth_in" "_law_worth_in" (defArgs za3) (defBody za3) (defScope za3) .none kV41 dc41 pm41 an41 cd41 ct41),sl41⟩) (c41:PySem.W.codeIn K cd41 "_law_worth_in" = true) (k41:PySem.W.keepIn K (.ref f41)=true)
  {f42:Addr} {od42 an42:Option Addr} {sl42:Array (Option Value)} {oc42 kV42 dc42 pm42 cd42 ct42:Value} (a42:PySem.W.nsIn K mainGlobals "_law_worth" = some (some (.ref f42))) (l42:K.lookup f42=some ⟨oc42,od42,.func (PySem.W.fnOf "_law_worth" "_law_worth" (defArgs zbG) (defBody zbG) (defScope zbG) .none kV42 dc42 pm42 an42 cd42 ct42),sl42⟩) (c42:PySem.W.codeIn K cd42 "_law_worth" = true) (k42:PySem.W.keepIn K (.ref f42)=true)
  {f43:Addr} {od43 an43:Option Addr} {sl43:Array (Option Value)} {oc43 kV43 dc43 pm43 cd43 ct43:Value} (a43:PySem.W.nsIn K mainGlobals "_law_most_yet" = some (some (.ref f43))) (l43:K.lookup f43=some ⟨oc43,od43,.func (PySem.W.fnOf "_law_most_yet" "_law_most_yet" (defArgs za4) (defBody za4) (defScope za4) .none kV43 dc43 pm43 an43 cd43 ct43),sl43⟩) (c43:PySem.W.codeIn K cd43 "_law_most_yet" = true) (k43:PySem.W.keepIn K (.ref f43)=true)
  {f44:Addr} {od44 an44:Option Addr} {sl44:Array (Option Value)} {oc44 kV44 dc44 pm44 cd44 ct44:Value} (a44:PySem.W.nsIn K mainGlobals "_law_is_tree" = some (some (.ref f44))) (l44:K.lookup f44=some ⟨oc44,od44,.func (PySem.W.fnOf "_law_is_tree" "_law_is_tree" (defArgs zbc) (defBody zbc) (defScope zbc) .none kV44 dc44 pm44 an44 cd44 ct44),sl44⟩) (c44:PySem.W.codeIn K cd44 "_law_is_tree" = true) (k44:PySem.W.keepIn K (.ref f44)=true)
  {f45:Addr} {od45 an45:Option Addr} {sl45:Array (Option Value)} {oc45 kV45 dc45 pm45 cd45 ct45:Value} (a45:PySem.W.nsIn K mainGlobals "_law_tree" = some (some (.ref f45))) (l45:K.lookup f45=some ⟨oc45,od45,.func (PySem.W.fnOf "_law_tree" "_law_tree" (defArgs zcf) (defBody zcf) (defScope zcf) .none kV45 dc45 pm45 an45 cd45 ct45),sl45⟩) (c45:PySem.W.codeIn K cd45 "_law_tree" = true) (k45:PySem.W.keepIn K (.ref f45)=true)
  {f46:Addr} {od46 an46:Option Addr} {sl46:Array (Option Value)} {oc46 kV46 dc46 pm46 cd46 ct46:Value} (a46:PySem.W.nsIn K mainGlobals "_law_bent" = some (some (.ref f46))) (l46:K.lookup f46=some ⟨oc46,od46,.func (PySem.W.fnOf "_law_bent" "_law_bent" (defArgs zcm) (defBody zcm) (defScope zcm) .none kV46 dc46 pm46 an46 cd46 ct46),sl46⟩) (c46:PySem.W.codeIn K cd46 "_law_bent" = true) (k46:PySem.W.keepIn K (.ref f46)=true)
  {f47:Addr} {od47 an47:Option Addr} {sl47:Array (Option Value)} {oc47 kV47 dc47 pm47 cd47 ct47:Value} (a47:PySem.W.nsIn K mainGlobals "_law_told" = some (some (.ref f47))) (l47:K.lookup f47=some ⟨oc47,od47,.func (PySem.W.fnOf "_law_told" "_law_told" (defArgs zcg) (defBody zcg) (defScope zcg) .none kV47 dc47 pm47 an47 cd47 ct47),sl47⟩) (c47:PySem.W.codeIn K cd47 "_law_told" = true) (k47:PySem.W.keepIn K (.ref f47)=true)
  {f48:Addr} {od48 an48:Option Addr} {sl48:Array (Option Value)} {oc48 kV48 dc48 pm48 cd48 ct48:Value} (a48:PySem.W.nsIn K mainGlobals "law" = some (some (.ref f48))) (l48:K.lookup f48=some ⟨oc48,od48,.func (PySem.W.fnOf "law" "law" (defArgs zgI) (defBody zgI) (defScope zgI) .none kV48 dc48 pm48 an48 cd48 ct48),sl48⟩) (c48:PySem.W.codeIn K cd48 "law" = true) (k48:PySem.W.keepIn K (.ref f48)=true)
  {t_DEPTH:Tok} (v_DEPTH:PySem.W.nsIn K mainGlobals "DEPTH" = some (some (.int 2 t_DEPTH)))
  {t_GAP:Tok} (v_GAP:PySem.W.nsIn K mainGlobals "GAP" = some (some (.int 5 t_GAP)))
  {t_KIND:Tok} (v_KIND:PySem.W.nsIn K mainGlobals "KIND" = some (some (.int 3 t_KIND)))
  {t_WIDE:Tok} (v_WIDE:PySem.W.nsIn K mainGlobals "WIDE" = some (some (.int 4 t_WIDE)))
  {t_WIDTH:Tok} (v_WIDTH:PySem.W.nsIn K mainGlobals "WIDTH" = some (some (.int 1 t_WIDTH)))
  {t_WISHES:Tok} (v_WISHES:PySem.W.nsIn K mainGlobals "WISHES" = some (some (.int 7 t_WISHES)))
  {t_WORTH:Tok} (v_WORTH:PySem.W.nsIn K mainGlobals "WORTH" = some (some (.int 6 t_WORTH)))
  (n_all:PySem.W.nsIn K mainGlobals "all" = some none)
  (n_bool:PySem.W.nsIn K mainGlobals "bool" = some none)
  (n_int:PySem.W.nsIn K mainGlobals "int" = some none)
  (n_isinstance:PySem.W.nsIn K mainGlobals "isinstance" = some none)
  (n_len:PySem.W.nsIn K mainGlobals "len" = some none)
  (n_list:PySem.W.nsIn K mainGlobals "list" = some none)
  (n_max:PySem.W.nsIn K mainGlobals "max" = some none)
  (n_range:PySem.W.nsIn K mainGlobals "range" = some none)
  (n_str:PySem.W.nsIn K mainGlobals "str" = some none)
  (n_sum:PySem.W.nsIn K mainGlobals "sum" = some none)
  (n_tuple:PySem.W.nsIn K mainGlobals "tuple" = some none)
  (n_zip:PySem.W.nsIn K mainGlobals "zip" = some none) :
  ∃ fd:FuncData,(∀ (s:Shared) (v:Value),BindsTo s fd ⟨[v],[]⟩ [("_law_script",v)])∧∀ base:Heap,K.In base→base.Ns mainGlobals mg→FnOk l.prog w K mg base CX0 17 fa fd ["_law_script"] (ZS.spZ K zi0):=by
 have e:=hfa.symm.trans (PySem.W.mg_of X G a48)
 cases e
 have F0:=fun_mk (st:=zcn) l0 c0 k0
 have D0:ZS.Def K mg "is_whole" zcn ["thing"]:=⟨f0,_,F0,PySem.W.mg_of X G a0,F0.binds fun _ _ _ _ _ _ us hl=>ZS.bd1 (fun _=>rfl) us hl⟩
 have F1:=fun_mk (st:=zaK) l1 c1 k1
 have D1:ZS.Def K mg "is_whole_within" zaK ["thing", "least", "most"]:=⟨f1,_,F1,PySem.W.mg_of X G a1,F1.binds fun _ _ _ _ _ _ us hl=>ZS.bd3 (fun _ _ _=>rfl) us hl⟩
 have F2:=fun_mk (st:=zcb) l2 c2 k2
 have D2:ZS.Def K mg "worth_in" zcb ["group", "row"]:=⟨f2,_,F2,PySem.W.mg_of X G a2,F2.binds fun _ _ _ _ _ _ us hl=>ZS.bd2 (fun _ _=>rfl) us hl⟩
 have F3:=fun_mk (st:=zcM) l3 c3 k3
 have D3:ZS.Def K mg "sign_at" zcM ["hall", "seat"]:=⟨f3,_,F3,PySem.W.mg_of X G a3,F3.binds fun _ _ _ _ _ _ us hl=>ZS.bd2 (fun _ _=>rfl) us hl⟩
 have F4:=fun_mk (st:=zdP) l4 c4 k4
 have D4:ZS.Def K mg "takes" zdP ["sign", "kind"]:=⟨f4,_,F4,PySem.W.mg_of X G a4,F4.binds fun _ _ _ _ _ _ us hl=>ZS.bd2 (fun _ _=>rfl) us hl⟩
 have F5:=fun_mk (st:=zcd) l5 c5 k5
 have D5:ZS.Def K mg "seats_of" zcd ["group", "place"]:=⟨f5,_,F5,PySem.W.mg_of X G a5,F5.binds fun _ _ _ _ _ _ us hl=>ZS.bd2 (fun _ _=>rfl) us hl⟩
 have F6:=fun_mk (st:=zeO) l6 c6 k6
 have D6:ZS.Def K mg "fits" zeO ["hall", "group", "place"]:=⟨f6,_,F6,PySem.W.mg_of X G a6,F6.binds fun _ _ _ _ _ _ us hl=>ZS.bd3 (fun _ _ _=>rfl) us hl⟩
 have F7:=fun_mk (st:=zbE) l7 c7 k7
 have D7:ZS.Def K mg "places_of" zbE ["hall", "group"]:=⟨f7,_,F7,PySem.W.mg_of X G a7,F7.binds fun _ _ _ _ _ _ us hl=>ZS.bd2 (fun _ _=>rfl) us hl⟩
 have F8:=fun_mk (st:=zdR) l8 c8 k8
 have D8:ZS.Def K mg "apart" zdR ["one", "here", "other", "there"]:=⟨f8,_,F8,PySem.W.mg_of X G a8,F8.binds fun _ _ _ _ _ _ us hl=>ZS.bd4 (fun _ _ _ _=>rfl) us hl⟩
 have F9:=fun_mk (st:=zaN) l9 c9 k9
 have D9:ZS.Def K mg "those_that_sit" zaN ["groups", "seating"]:=⟨f9,_,F9,PySem.W.mg_of X G a9,F9.binds fun _ _ _ _ _ _ us hl=>ZS.bd2 (fun _ _=>rfl) us hl⟩
 have F10:=fun_mk (st:=zaO) l10 c10 k10
 have D10:ZS.Def K mg "apart_from_all" zaO ["group", "place", "seated"]:=⟨f10,_,F10,PySem.W.mg_of X G a10,F10.binds fun _ _ _ _ _ _ us hl=>ZS.bd3 (fun _ _ _=>rfl) us hl⟩
 have F11:=fun_mk (st:=zdQ) l11 c11 k11
 have D11:ZS.Def K mg "keeps" zdQ ["hall", "groups", "seating"]:=⟨f11,_,F11,PySem.W.mg_of X G a11,F11.binds fun _ _ _ _ _ _ us hl=>ZS.bd3 (fun _ _ _=>rfl) us hl⟩
 have F12:=fun_mk (st:=zca) l12 c12 k12
 have D12:ZS.Def K mg "worth_of" zca ["groups", "seating"]:=⟨f12,_,F12,PySem.W.mg_of X G a12,F12.binds fun _ _ _ _ _ _ us hl=>ZS.bd2 (fun _ _=>rfl) us hl⟩
 have F13:=fun_mk (st:=za5) l13 c13 k13
 have D13:ZS.Def K mg "fast_seating" za5 ["hall", "groups", "fast"]:=⟨f13,_,F13,PySem.W.mg_of X G a13,F13.binds fun _ _ _ _ _ _ us hl=>ZS.bd3 (fun _ _ _=>rfl) us hl⟩
 have F14:=fun_mk (st:=zbt) l14 c14 k14
 have D14:ZS.Def K mg "with_place" zbt ["seating", "k", "place"]:=⟨f14,_,F14,PySem.W.mg_of X G a14,F14.binds fun _ _ _ _ _ _ us hl=>ZS.bd3 (fun _ _ _=>rfl) us hl⟩
 have F15:=fun_mk (st:=zbu) l15 c15 k15
 have D15:ZS.Def K mg "open_among" zbu ["places", "group", "seated"]:=⟨f15,_,F15,PySem.W.mg_of X G a15,F15.binds fun _ _ _ _ _ _ us hl=>ZS.bd3 (fun _ _ _=>rfl) us hl⟩
 have F16:=fun_mk (st:=zbA) l16 c16 k16
 have D16:ZS.Def K mg "all_places" zbA ["hall", "groups"]:=⟨f16,_,F16,PySem.W.mg_of X G a16,F16.binds fun _ _ _ _ _ _ us hl=>ZS.bd2 (fun _ _=>rfl) us hl⟩
 have F17:=fun_mk (st:=zcc) l17 c17 k17
 have D17:ZS.Def K mg "spots_of" zcc ["groups", "places", "seating", "k"]:=⟨f17,_,F17,PySem.W.mg_of X G a17,F17.binds fun _ _ _ _ _ _ us hl=>ZS.bd4 (fun _ _ _ _=>rfl) us hl⟩
 have F18:=fun_mk (st:=zbz) l18 c18 k18
 have D18:ZS.Def K mg "is_waiting" zbz ["seating", "thing"]:=⟨f18,_,F18,PySem.W.mg_of X G a18,F18.binds fun _ _ _ _ _ _ us hl=>ZS.bd2 (fun _ _=>rfl) us hl⟩
 have F19:=fun_mk (st:=zbe) l19 c19 k19
 have D19:ZS.Def K mg "begins_with" zbe ["thing", "word", "length"]:=⟨f19,_,F19,PySem.W.mg_of X G a19,F19.binds fun _ _ _ _ _ _ us hl=>ZS.bd3 (fun _ _ _=>rfl) us hl⟩
 have F20:=fun_mk (st:=zcP) l20 c20 k20
 have D20:ZS.Def K mg "is_each" zcP ["thing"]:=⟨f20,_,F20,PySem.W.mg_of X G a20,F20.binds fun _ _ _ _ _ _ us hl=>ZS.bd1 (fun _=>rfl) us hl⟩
 have F21:=fun_mk (st:=zaU) l21 c21 k21
 have D21:ZS.Def K mg "still_waiting" zaU ["seating", "left"]:=⟨f21,_,F21,PySem.W.mg_of X G a21,F21.binds fun _ _ _ _ _ _ us hl=>ZS.bd2 (fun _ _=>rfl) us hl⟩
 have F22:=fun_mk (st:=zbF) l22 c22 k22
 have D22:ZS.Def K mg "most_from" zbF ["groups", "places", "seating", "left"]:=⟨f22,_,F22,PySem.W.mg_of X G a22,F22.binds fun _ _ _ _ _ _ us hl=>ZS.bd4 (fun _ _ _ _=>rfl) us hl⟩
 have F23:=fun_mk (st:=zaV) l23 c23 k23
 have D23:ZS.Def K mg "bounds_beside" zaV ["groups", "places", "number", "seating", "left", "tree"]:=⟨f23,_,F23,PySem.W.mg_of X G a23,F23.binds fun _ _ _ _ _ _ us hl=>ZS.bd6 (fun _ _ _ _ _ _=>rfl) us hl⟩
 have D24:ZS.DefD K mg "bounds" zdu ["hall", "groups", "number", "tree", "fast"]:=ZS.zoW l24 c24 k24 q24 (PySem.W.mg_of X G a24) (fun us hl=>match us,hl with | [_,_,_,_,_],_=>⟨_,rfl,rfl⟩) (fun us hl=>match us,hl with | [_,_,_,_],_=>⟨_,rfl,rfl⟩)
 have F25:=fun_mk (st:=zbd) l25 c25 k25
 have D25:ZS.Def K mg "_law_cell_at" zbd ["_law_script", "_law_k"]:=⟨f25,_,F25,PySem.W.mg_of X G a25,F25.binds fun _ _ _ _ _ _ us hl=>ZS.bd2 (fun _ _=>rfl) us hl⟩
 have F26:=fun_mk (st:=zbH) l26 c26 k26
 have D26:ZS.Def K mg "_law_mixed" zbH ["_law_cell", "_law_k"]:=⟨f26,_,F26,PySem.W.mg_of X G a26,F26.binds fun _ _ _ _ _ _ us hl=>ZS.bd2 (fun _ _=>rfl) us hl⟩
 have F27:=fun_mk (st:=zby) l27 c27 k27
 have D27:ZS.Def K mg "_law_digits" zby ["_law_cell", "_law_sizes"]:=⟨f27,_,F27,PySem.W.mg_of X G a27,F27.binds fun _ _ _ _ _ _ us hl=>ZS.bd2 (fun _ _=>rfl) us hl⟩
 have F28:=fun_mk (st:=zcj) l28 c28 k28
 have D28:ZS.Def K mg "_law_hall" zcj ["_law_script"]:=⟨f28,_,F28,PySem.W.mg_of X G a28,F28.binds fun _ _ _ _ _ _ us hl=>ZS.bd1 (fun _=>rfl) us hl⟩
 have F29:=fun_mk (st:=zci) l29 c29 k29
 have D29:ZS.Def K mg "_law_name" zci ["_law_cell", "_law_k"]:=⟨f29,_,F29,PySem.W.mg_of X G a29,F29.binds fun _ _ _ _ _ _ us hl=>ZS.bd2 (fun _ _=>rfl) us hl⟩
 have F30:=fun_mk (st:=zcO) l30 c30 k30
 have D30:ZS.Def K mg "_law_any" zcO ["_law_cell", "_law_name_here"]:=⟨f30,_,F30,PySem.W.mg_of X G a30,F30.binds fun _ _ _ _ _ _ us hl=>ZS.bd2 (fun _ _=>rfl) us hl⟩
 have F31:=fun_mk (st:=zbI) l31 c31 k31
 have D31:ZS.Def K mg "_law_group" zbI ["_law_number", "_law_name_here", "_law_letters", "_law_great"]:=⟨f31,_,F31,PySem.W.mg_of X G a31,F31.binds fun _ _ _ _ _ _ us hl=>ZS.bd4 (fun _ _ _ _=>rfl) us hl⟩
 have F32:=fun_mk (st:=zbx) l32 c32 k32
 have D32:ZS.Def K mg "_law_groups" zbx ["_law_script", "_law_one", "_law_other"]:=⟨f32,_,F32,PySem.W.mg_of X G a32,F32.binds fun _ _ _ _ _ _ us hl=>ZS.bd3 (fun _ _ _=>rfl) us hl⟩
 have F33:=fun_mk (st:=zck) l33 c33 k33
 have D33:ZS.Def K mg "_law_fits" zck ["_law_hall_here", "_law_group_here", "_law_row", "_law_column"]:=⟨f33,_,F33,PySem.W.mg_of X G a33,F33.binds fun _ _ _ _ _ _ us hl=>ZS.bd4 (fun _ _ _ _=>rfl) us hl⟩
 have F34:=fun_mk (st:=zbw) l34 c34 k34
 have D34:ZS.Def K mg "_law_places" zbw ["_law_hall_here", "_law_group_here"]:=⟨f34,_,F34,PySem.W.mg_of X G a34,F34.binds fun _ _ _ _ _ _ us hl=>ZS.bd2 (fun _ _=>rfl) us hl⟩
 have F35:=fun_mk (st:=zbJ) l35 c35 k35
 have D35:ZS.Def K mg "_law_apart" zbJ ["_law_one", "_law_here", "_law_other", "_law_there"]:=⟨f35,_,F35,PySem.W.mg_of X G a35,F35.binds fun _ _ _ _ _ _ us hl=>ZS.bd4 (fun _ _ _ _=>rfl) us hl⟩
 have F36:=fun_mk (st:=zch) l36 c36 k36
 have D36:ZS.Def K mg "_law_open" zch ["_law_spots", "_law_groups_here", "_law_seating", "_law_k"]:=⟨f36,_,F36,PySem.W.mg_of X G a36,F36.binds fun _ _ _ _ _ _ us hl=>ZS.bd4 (fun _ _ _ _=>rfl) us hl⟩
 have F37:=fun_mk (st:=zce) l37 c37 k37
 have D37:ZS.Def K mg "_law_with" zce ["_law_seating", "_law_k", "_law_place"]:=⟨f37,_,F37,PySem.W.mg_of X G a37,F37.binds fun _ _ _ _ _ _ us hl=>ZS.bd3 (fun _ _ _=>rfl) us hl⟩
 have F38:=fun_mk (st:=zcN) l38 c38 k38
 have D38:ZS.Def K mg "_law_few" zcN ["_law_hall_here", "_law_groups_here", "_law_most"]:=⟨f38,_,F38,PySem.W.mg_of X G a38,F38.binds fun _ _ _ _ _ _ us hl=>ZS.bd3 (fun _ _ _=>rfl) us hl⟩
 have F39:=fun_mk (st:=zbv) l39 c39 k39
 have D39:ZS.Def K mg "_law_seated" zbv ["_law_spots", "_law_groups_here", "_law_script"]:=⟨f39,_,F39,PySem.W.mg_of X G a39,F39.binds fun _ _ _ _ _ _ us hl=>ZS.bd3 (fun _ _ _=>rfl) us hl⟩
 have F40:=fun_mk (st:=zcl) l40 c40 k40
 have D40:ZS.Def K mg "_law_fast" zcl ["_law_seating", "_law_cell"]:=⟨f40,_,F40,PySem.W.mg_of X G a40,F40.binds fun _ _ _ _ _ _ us hl=>ZS.bd2 (fun _ _=>rfl) us hl⟩
 have F41:=fun_mk (st:=za3) l41 c41 k41
 have D41:ZS.Def K mg "_law_worth_in" za3 ["_law_group_here", "_law_row"]:=⟨f41,_,F41,PySem.W.mg_of X G a41,F41.binds fun _ _ _ _ _ _ us hl=>ZS.bd2 (fun _ _=>rfl) us hl⟩
 have F42:=fun_mk (st:=zbG) l42 c42 k42
 have D42:ZS.Def K mg "_law_worth" zbG ["_law_groups_here", "_law_seating"]:=⟨f42,_,F42,PySem.W.mg_of X G a42,F42.binds fun _ _ _ _ _ _ us hl=>ZS.bd2 (fun _ _=>rfl) us hl⟩
 have F43:=fun_mk (st:=za4) l43 c43 k43
 have D43:ZS.Def K mg "_law_most_yet" za4 ["_law_spots", "_law_groups_here", "_law_seating", "_law_out"]:=⟨f43,_,F43,PySem.W.mg_of X G a43,F43.binds fun _ _ _ _ _ _ us hl=>ZS.bd4 (fun _ _ _ _=>rfl) us hl⟩
 have F44:=fun_mk (st:=zbc) l44 c44 k44
 have D44:ZS.Def K mg "_law_is_tree" zbc ["_law_spots", "_law_groups_here", "_law_number", "_law_tree_here", "_law_seating", "_law_out"]:=⟨f44,_,F44,PySem.W.mg_of X G a44,F44.binds fun _ _ _ _ _ _ us hl=>ZS.bd6 (fun _ _ _ _ _ _=>rfl) us hl⟩
 have F45:=fun_mk (st:=zcf) l45 c45 k45
 have D45:ZS.Def K mg "_law_tree" zcf ["_law_spots", "_law_groups_here", "_law_seating", "_law_out", "_law_cell"]:=⟨f45,_,F45,PySem.W.mg_of X G a45,F45.binds fun _ _ _ _ _ _ us hl=>ZS.bd5 (fun _ _ _ _ _=>rfl) us hl⟩
 have F46:=fun_mk (st:=zcm) l46 c46 k46
 have D46:ZS.Def K mg "_law_bent" zcm ["_law_tree_here", "_law_cell", "_law_many"]:=⟨f46,_,F46,PySem.W.mg_of X G a46,F46.binds fun _ _ _ _ _ _ us hl=>ZS.bd3 (fun _ _ _=>rfl) us hl⟩
 have F47:=fun_mk (st:=zcg) l47 c47 k47
 have D47:ZS.Def K mg "_law_told" zcg ["_law_found", "_law_due"]:=⟨f47,_,F47,PySem.W.mg_of X G a47,F47.binds fun _ _ _ _ _ _ us hl=>ZS.bd2 (fun _ _=>rfl) us hl⟩
 have F48:=fun_mk (st:=zgI) l48 c48 k48
 have c_DEPTH:=PySem.W.mg_of X G v_DEPTH
 have c_GAP:=PySem.W.mg_of X G v_GAP
 have c_KIND:=PySem.W.mg_of X G v_KIND
 have c_WIDE:=PySem.W.mg_of X G v_WIDE
 have c_WIDTH:=PySem.W.mg_of X G v_WIDTH
 have c_WISHES:=PySem.W.mg_of X G v_WISHES
 have c_WORTH:=PySem.W.mg_of X G v_WORTH
 have g_all:=PySem.W.mg_none_of X G n_all
 have g_bool:=PySem.W.mg_none_of X G n_bool
 have g_int:=PySem.W.mg_none_of X G n_int
 have g_isinstance:=PySem.W.mg_none_of X G n_isinstance
 have g_len:=PySem.W.mg_none_of X G n_len
 have g_list:=PySem.W.mg_none_of X G n_list
 have g_max:=PySem.W.mg_none_of X G n_max
 have g_range:=PySem.W.mg_none_of X G n_range
 have g_str:=PySem.W.mg_none_of X G n_str
 have g_sum:=PySem.W.mg_none_of X G n_sum
 have g_tuple:=PySem.W.mg_none_of X G n_tuple
 have g_zip:=PySem.W.mg_none_of X G n_zip
 refine ⟨PySem.W.fnOf "law" "law" (defArgs zgI) (defBody zgI) (defScope zgI) .none kV48 dc48 pm48 an48 cd48 ct48,fun s v=>.of_eq rfl,fun base _ _=>?_⟩
 have C_is_whole:ZS.Cal l.prog w K mg base "is_whole" 1 ["thing"] zcX:=zjJ D0 g_bool g_int g_isinstance
 have C_is_whole_within:ZS.Cal l.prog w K mg base "is_whole_within" 2 ["thing", "least", "most"] za7:=zfk D1 C_is_whole
 have C_worth_in:ZS.Cal l.prog w K mg base "worth_in" 1 ["group", "row"] zbL:=zjz D2 g_sum c_WISHES c_WORTH
 have C_sign_at:ZS.Cal l.prog w K mg base "sign_at" 1 ["hall", "seat"] KG.zc9:=zlf D3 g_len
 have C_takes:ZS.Cal l.prog w K mg base "takes" 1 ["sign", "kind"] KG.zei:=znb D4 
 have C_seats_of:ZS.Cal l.prog w K mg base "seats_of" 1 ["group", "place"] KG.zcV:=zjB D5 g_range g_tuple c_DEPTH c_WIDTH
 have C_fits:ZS.Cal l.prog w K mg base "fits" 2 ["hall", "group", "place"] KG.zdT:=zox D6 C_seats_of C_sign_at C_takes g_all c_KIND c_WIDE
 have C_places_of:ZS.Cal l.prog w K mg base "places_of" 3 ["hall", "group"] KG.zcx:=ziJ D7 C_fits g_len g_range g_tuple
 have C_apart:ZS.Cal l.prog w K mg base "apart" 1 ["one", "here", "other", "there"] KG.zej:=znd D8 g_max c_DEPTH c_GAP c_WIDTH
 have C_those_that_sit:ZS.Cal l.prog w K mg base "those_that_sit" 1 ["groups", "seating"] KG.zat:=zfF D9 g_zip
 have C_apart_from_all:ZS.Cal l.prog w K mg base "apart_from_all" 2 ["group", "place", "seated"] KG.zaL:=zfG D10 C_apart g_all
 have C_keeps:ZS.Cal l.prog w K mg base "keeps" 3 ["hall", "groups", "seating"] KG.zdM:=znc D11 C_apart_from_all C_fits C_those_that_sit g_all g_len g_range
 have C_worth_of:ZS.Cal l.prog w K mg base "worth_of" 2 ["groups", "seating"] zcw:=zjy D12 C_those_that_sit C_worth_in g_sum
 have C_fast_seating:ZS.Cal l.prog w K mg base "fast_seating" 4 ["hall", "groups", "fast"] zbB:=zgO D13 C_keeps g_len
 have C_with_place:ZS.Cal l.prog w K mg base "with_place" 1 ["seating", "k", "place"] KH.zbD:=zhX D14 
 have C_open_among:ZS.Cal l.prog w K mg base "open_among" 3 ["places", "group", "seated"] KH.zb1:=zhY D15 C_apart_from_all g_tuple
 have C_all_places:ZS.Cal l.prog w K mg base "all_places" 4 ["hall", "groups"] zb3:=zh4 D16 C_places_of
 have C_spots_of:ZS.Cal l.prog w K mg base "spots_of" 4 ["groups", "places", "seating", "k"] zbM:=zjA D17 C_open_among C_those_that_sit
 have C_is_waiting:ZS.Cal l.prog w K mg base "is_waiting" 3 ["seating", "thing"] zb2:=zh3 D18 C_is_whole_within g_len
 have C_begins_with:ZS.Cal l.prog w K mg base "begins_with" 1 ["thing", "word", "length"] zaP:=zhg D19 g_isinstance g_len g_str g_tuple
 have C_is_each:ZS.Cal l.prog w K mg base "is_each" 2 ["thing"] zdd:=zli D20 C_begins_with g_isinstance g_tuple
 have C_still_waiting:ZS.Cal l.prog w K mg base "still_waiting" 1 ["seating", "left"] zbo:=zgd D21 g_len g_range
 have C_most_from:ZS.Cal l.prog w K mg base "most_from" 5 ["groups", "places", "seating", "left"] zbX:=ziK D22 C_spots_of C_still_waiting C_worth_in C_worth_of g_max
 have C_bounds_beside:ZS.Cal l.prog w K mg base "bounds_beside" 15 ["groups", "places", "number", "seating", "left", "tree"] (zaJ 9):=zeq D23 C_begins_with C_is_each C_is_waiting C_most_from C_spots_of C_with_place g_len g_zip 9
 have C_bounds:ZS.CalD l.prog w K mg base "bounds" 16 ["hall", "groups", "number", "tree", "fast"] zdB:=zl0 D24 C_all_places C_bounds_beside C_fast_seating
 have C_law_cell_at:ZS.Cal l.prog w K mg base "_law_cell_at" 1 ["_law_script", "_law_k"] KG.zak:=zhf D25 g_len
 have C_law_mixed:ZS.Cal l.prog w K mg base "_law_mixed" 1 ["_law_cell", "_law_k"] KG.zaq:=ziM D26 
 have C_law_digits:ZS.Cal l.prog w K mg base "_law_digits" 1 ["_law_cell", "_law_sizes"] KH.zaF:=zh2 D27 
 have C_law_hall:ZS.Cal l.prog w K mg base "_law_hall" 2 ["_law_script"] KH.zdb:=zjG D28 C_law_cell_at C_law_digits C_law_mixed g_range g_tuple
 have C_law_name:ZS.Cal l.prog w K mg base "_law_name" 1 ["_law_cell", "_law_k"] KH.zcz:=zjF D29 g_range
 have C_law_any:ZS.Cal l.prog w K mg base "_law_any" 2 ["_law_cell", "_law_name_here"] KH.zcY:=zlh D30 C_law_digits g_range g_tuple
 have C_law_group:ZS.Cal l.prog w K mg base "_law_group" 1 ["_law_number", "_law_name_here", "_law_letters", "_law_great"] KH.zbY:=ziN D31 g_int g_range g_tuple
 have C_law_groups:ZS.Cal l.prog w K mg base "_law_groups" 3 ["_law_script", "_law_one", "_law_other"] KH.zcF:=zh1 D32 C_law_any C_law_cell_at C_law_digits C_law_group C_law_mixed C_law_name g_len g_range g_tuple
 have C_law_fits:ZS.Cal l.prog w K mg base "_law_fits" 1 ["_law_hall_here", "_law_group_here", "_law_row", "_law_column"] KH.zcW:=zjH D33 g_len g_range
 have C_law_places:ZS.Cal l.prog w K mg base "_law_places" 2 ["_law_hall_here", "_law_group_here"] KH.zbq:=zh0 D34 C_law_fits g_len g_range
 have C_law_apart:ZS.Cal l.prog w K mg base "_law_apart" 1 ["_law_one", "_law_here", "_law_other", "_law_there"] KH.zcA:=ziO D35 g_max
 have C_law_open:ZS.Cal l.prog w K mg base "_law_open" 2 ["_law_spots", "_law_groups_here", "_law_seating", "_law_k"] KH.zaC:=zjE D36 C_law_apart g_len g_range
 have C_law_with:ZS.Cal l.prog w K mg base "_law_with" 1 ["_law_seating", "_law_k", "_law_place"] KH.zaZ:=zjC D37 
 have C_law_few:ZS.Cal l.prog w K mg base "_law_few" 3 ["_law_hall_here", "_law_groups_here", "_law_most"] KH.zdx:=zlg D38 C_law_places g_len g_tuple
 have C_law_seated:ZS.Cal l.prog w K mg base "_law_seated" 3 ["_law_spots", "_law_groups_here", "_law_script"] KH.zcE:=zhZ D39 C_law_cell_at C_law_mixed C_law_open C_law_with g_len g_range g_tuple
 have C_law_fast:ZS.Cal l.prog w K mg base "_law_fast" 1 ["_law_seating", "_law_cell"] KH.zdc:=zjI D40 g_len g_range g_tuple
 have C_law_worth_in:ZS.Cal l.prog w K mg base "_law_worth_in" 1 ["_law_group_here", "_law_row"] zaW:=zgK D41 
 have C_law_worth:ZS.Cal l.prog w K mg base "_law_worth" 2 ["_law_groups_here", "_law_seating"] zcy:=ziL D42 C_law_worth_in g_zip
 have C_law_most_yet:ZS.Cal l.prog w K mg base "_law_most_yet" 3 ["_law_spots", "_law_groups_here", "_law_seating", "_law_out"] za6:=zgM D43 C_law_open C_law_worth C_law_worth_in g_len g_max g_range
 have C_law_is_tree:ZS.Cal l.prog w K mg base "_law_is_tree" 13 ["_law_spots", "_law_groups_here", "_law_number", "_law_tree_here", "_law_seating", "_law_out"] (zaX 9):=zeP D44 C_law_most_yet C_law_open C_law_with g_bool g_int g_isinstance g_len g_tuple g_zip 9
 have C_law_tree:ZS.Cal l.prog w K mg base "_law_tree" 12 ["_law_spots", "_law_groups_here", "_law_seating", "_law_out", "_law_cell"] (zbN 9):=zgL D45 C_law_open C_law_with g_len g_range g_tuple 9
 have C_law_bent:ZS.Cal l.prog w K mg base "_law_bent" 10 ["_law_tree_here", "_law_cell", "_law_many"] (zbO 9):=zgN D46 g_len g_list 9
 have C_law_told:ZS.Cal l.prog w K mg base "_law_told" 1 ["_law_found", "_law_due"] zda:=zjD D47 g_bool g_isinstance
 exact fnQ (N:=["_law_script", "_law_hall_here", "_law_one", "_law_other", "_law_groups_here", "_law_spots", "_law_bits", "_law_fast_here", "_law_cell", "_law_made", "_law_yet", "_law_k", "_law_number", "_law_tree_here"]) (b:=zmM) F48 znK (zqg C_law_bent C_law_cell_at C_law_fast C_law_few C_law_groups C_law_hall C_law_is_tree C_law_mixed C_law_most_yet C_law_places C_law_seated C_law_told C_law_tree C_bounds g_len g_range fa)
theorem walk {l:PySem.W.OpenLaw} {q:Program} {loose:List Str} {XP:(Str→Option Value)→Heap→Prop} {YP:World→Heap→Prop} {d:DefRec} {K:Params→PySem.W.Frag} (hn:l.most=some 63) (hdf:d.params.defaults=[])
  (hY:∀ (w:World) (h:Heap),YP w h→(K w.params).In h)
  (F:∀ (w:World) (mg:Str→Option Value) (fa:Addr) (h:Heap),(K w.params).In h→h.Ns mainGlobals mg→mg d.name=some (.ref fa) →
   ∃ fd:FuncData,(∀ (s:Shared) (u:Value),BindsTo s fd ⟨[u],[]⟩ [("_law_script",u)])∧∀ base:Heap,(K w.params).In base→base.Ns mainGlobals mg→FnOk l.prog w (K w.params) mg base CX0 17 fa fd ["_law_script"] (ZS.spZ (K w.params) zi0)) :
  PySem.W.WalkO q loose XP YP l.row.toRowW d [] (fun f vs=>PySem.call f vs) :=
 ZS.zpi (n:=63) (k:=17) (x := "_law_script") (m:=zi0) hn (by decide) hdf ⟨rfl,by decide,by decide⟩ hY F holds
end K64
open PySem PySem.W PyProof.Rows
set_option maxRecDepth 100000 in
set_option maxHeartbeats 0 in
theorem PySem.Challenge.cw_besideseats_k64_trees_looked_at_holds : PySem.Challenge.rw_besideseats_k64_trees_looked_at.Holds := by
 w_on;o_law;o_head (PySem.W.kHook K64.KK K64.KA (fun _=>by kernel_rfl));(case hw=>w_witness2)
 k_fill
 refine K64.walk (l:=PySem.Challenge.rw_besideseats_k64_trees_looked_at) rfl rfl (fun w h Y=>PySem.W.kIn_of Y) ?F
 case F =>
  intro w mg fa h KX G hmg
  refine' K64.all_mk KX G hmg ?a0 ?l0 ?c0 ?k0 ?a1 ?l1 ?c1 ?k1 ?a2 ?l2 ?c2 ?k2 ?a3 ?l3 ?c3 ?k3 ?a4 ?l4 ?c4 ?k4 ?a5 ?l5 ?c5 ?k5 ?a6 ?l6 ?c6 ?k6 ?a7 ?l7 ?c7 ?k7 ?a8 ?l8 ?c8 ?k8 ?a9 ?l9 ?c9 ?k9 ?a10 ?l10 ?c10 ?k10 ?a11 ?l11 ?c11 ?k11 ?a12 ?l12 ?c12 ?k12 ?a13 ?l13 ?c13 ?k13 ?a14 ?l14 ?c14 ?k14 ?a15 ?l15 ?c15 ?k15 ?a16 ?l16 ?c16 ?k16 ?a17 ?l17 ?c17 ?k17 ?a18 ?l18 ?c18 ?k18 ?a19 ?l19 ?c19 ?k19 ?a20 ?l20 ?c20 ?k20 ?a21 ?l21 ?c21 ?k21 ?a22 ?l22 ?c22 ?k22 ?a23 ?l23 ?c23 ?k23 ?a24 ?l24 ?c24 ?k24 ?q24 ?a25 ?l25 ?c25 ?k25 ?a26 ?l26 ?c26 ?k26 ?a27 ?l27 ?c27 ?k27 ?a28 ?l28 ?c28 ?k28 ?a29 ?l29 ?c29 ?k29 ?a30 ?l30 ?c30 ?k30 ?a31 ?l31 ?c31 ?k31 ?a32 ?l32 ?c32 ?k32 ?a33 ?l33 ?c33 ?k33 ?a34 ?l34 ?c34 ?k34 ?a35 ?l35 ?c35 ?k35 ?a36 ?l36 ?c36 ?k36 ?a37 ?l37 ?c37 ?k37 ?a38 ?l38 ?c38 ?k38 ?a39 ?l39 ?c39 ?k39 ?a40 ?l40 ?c40 ?k40 ?a41 ?l41 ?c41 ?k41 ?a42 ?l42 ?c42 ?k42 ?a43 ?l43 ?c43 ?k43 ?a44 ?l44 ?c44 ?k44 ?a45 ?l45 ?c45 ?k45 ?a46 ?l46 ?c46 ?k46 ?a47 ?l47 ?c47 ?k47 ?a48 ?l48 ?c48 ?k48 ?v_DEPTH ?v_GAP ?v_KIND ?v_WIDE ?v_WIDTH ?v_WISHES ?v_WORTH ?n_all ?n_bool ?n_int ?n_isinstance ?n_len ?n_list ?n_max ?n_range ?n_str ?n_sum ?n_tuple ?n_zip
  (case a0=>k_is)
  (case l0=>k_is)
  (case c0=>k_is)
  (case k0=>k_is)
  (case a1=>k_is)
  (case l1=>k_is)
  (case c1=>k_is)
  (case k1=>k_is)
  (case a2=>k_is)
  (case l2=>k_is)
  (case c2=>k_is)
  (case k2=>k_is)
  (case a3=>k_is)
  (case l3=>k_is)
  (case c3=>k_is)
  (case k3=>k_is)
  (case a4=>k_is)
  (case l4=>k_is)
  (case c4=>k_is)
  (case k4=>k_is)
  (case a5=>k_is)
  (case l5=>k_is)
  (case c5=>k_is)
  (case k5=>k_is)
  (case a6=>k_is)
  (case l6=>k_is)
  (case c6=>k_is)
  (case k6=>k_is)
  (case a7=>k_is)
  (case l7=>k_is)
  (case c7=>k_is)
  (case k7=>k_is)
  (case a8=>k_is)
  (case l8=>k_is)
  (case c8=>k_is)
  (case k8=>k_is)
  (case a9=>k_is)
  (case l9=>k_is)
  (case c9=>k_is)
  (case k9=>k_is)
  (case a10=>k_is)
  (case l10=>k_is)
  (case c10=>k_is)
  (case k10=>k_is)
  (case a11=>k_is)
  (case l11=>k_is)
  (case c11=>k_is)
  (case k11=>k_is)
  (case a12=>k_is)
  (case l12=>k_is)
  (case c12=>k_is)
  (case k12=>k_is)
  (case a13=>k_is)
  (case l13=>k_is)
  (case c13=>k_is)
  (case k13=>k_is)
  (case a14=>k_is)
  (case l14=>k_is)
  (case c14=>k_is)
  (case k14=>k_is)
  (case a15=>k_is)
  (case l15=>k_is)
  (case c15=>k_is)
  (case k15=>k_is)
  (case a16=>k_is)
  (case l16=>k_is)
  (case c16=>k_is)
  (case k16=>k_is)
  (case a17=>k_is)
  (case l17=>k_is)
  (case c17=>k_is)
  (case k17=>k_is)
  (case a18=>k_is)
  (case l18=>k_is)
  (case c18=>k_is)
  (case k18=>k_is)
  (case a19=>k_is)
  (case l19=>k_is)
  (case c19=>k_is)
  (case k19=>k_is)
  (case a20=>k_is)
  (case l20=>k_is)
  (case c20=>k_is)
  (case k20=>k_is)
  (case a21=>k_is)
  (case l21=>k_is)
  (case c21=>k_is)
  (case k21=>k_is)
  (case a22=>k_is)
  (case l22=>k_is)
  (case c22=>k_is)
  (case k22=>k_is)
  (case a23=>k_is)
  (case l23=>k_is)
  (case c23=>k_is)
  (case k23=>k_is)
  (case a24=>k_is)
  (case l24=>k_is)
  (case c24=>k_is)
  (case k24=>k_is)
  (case q24=>k_is)
  (case a25=>k_is)
  (case l25=>k_is)
  (case c25=>k_is)
  (case k25=>k_is)
  (case a26=>k_is)
  (case l26=>k_is)
  (case c26=>k_is)
  (case k26=>k_is)
  (case a27=>k_is)
  (case l27=>k_is)
  (case c27=>k_is)
  (case k27=>k_is)
  (case a28=>k_is)
  (case l28=>k_is)
  (case c28=>k_is)
  (case k28=>k_is)
  (case a29=>k_is)
  (case l29=>k_is)
  (case c29=>k_is)
  (case k29=>k_is)
  (case a30=>k_is)
  (case l30=>k_is)
  (case c30=>k_is)
  (case k30=>k_is)
  (case a31=>k_is)
  (case l31=>k_is)
  (case c31=>k_is)
  (case k31=>k_is)
  (case a32=>k_is)
  (case l32=>k_is)
  (case c32=>k_is)
  (case k32=>k_is)
  (case a33=>k_is)
  (case l33=>k_is)
  (case c33=>k_is)
  (case k33=>k_is)
  (case a34=>k_is)
  (case l34=>k_is)
  (case c34=>k_is)
  (case k34=>k_is)
  (case a35=>k_is)
  (case l35=>k_is)
  (case c35=>k_is)
  (case k35=>k_is)
  (case a36=>k_is)
  (case l36=>k_is)
  (case c36=>k_is)
  (case k36=>k_is)
  (case a37=>k_is)
  (case l37=>k_is)
  (case c37=>k_is)
  (case k37=>k_is)
  (case a38=>k_is)
  (case l38=>k_is)
  (case c38=>k_is)
  (case k38=>k_is)
  (case a39=>k_is)
  (case l39=>k_is)
  (case c39=>k_is)
  (case k39=>k_is)
  (case a40=>k_is)
  (case l40=>k_is)
  (case c40=>k_is)
  (case k40=>k_is)
  (case a41=>k_is)
  (case l41=>k_is)
  (case c41=>k_is)
  (case k41=>k_is)
  (case a42=>k_is)
  (case l42=>k_is)
  (case c42=>k_is)
  (case k42=>k_is)
  (case a43=>k_is)
  (case l43=>k_is)
  (case c43=>k_is)
  (case k43=>k_is)
  (case a44=>k_is)
  (case l44=>k_is)
  (case c44=>k_is)
  (case k44=>k_is)
  (case a45=>k_is)
  (case l45=>k_is)
  (case c45=>k_is)
  (case k45=>k_is)
  (case a46=>k_is)
  (case l46=>k_is)
  (case c46=>k_is)
  (case k46=>k_is)
  (case a47=>k_is)
  (case l47=>k_is)
  (case c47=>k_is)
  (case k47=>k_is)
  (case a48=>k_is)
  (case l48=>k_is)
  (case c48=>k_is)
  (case k48=>k_is)
  (case v_DEPTH=>k_is)
  (case v_GAP=>k_is)
  (case v_KIND=>k_is)
  (case v_WIDE=>k_is)
  (case v_WIDTH=>k_is)
  (case v_WISHES=>k_is)
  (case v_WORTH=>k_is)
  (case n_all=>k_is)
  (case n_bool=>k_is)
  (case n_int=>k_is)
  (case n_isinstance=>k_is)
  (case n_len=>k_is)
  (case n_list=>k_is)
  (case n_max=>k_is)
  (case n_range=>k_is)
  (case n_str=>k_is)
  (case n_sum=>k_is)
  (case n_tuple=>k_is)
  (case n_zip=>k_is)
#print axioms PySem.Challenge.cw_besideseats_k64_trees_looked_at_holds
