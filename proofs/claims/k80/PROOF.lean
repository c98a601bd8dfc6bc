import PyProof.Rows.All
import Wide.All
import OpenK.AllK
import Wide.FinOn
import Lean
import KE.KMinKey
import PyProof.WalkInts
import PyProof.SeqI3
import PyProof.Rows.CallKwBuiltin
import KE.KIsAll
import PyProof.StrBlock
import PyProof.Rows.StrLen
import KE.KIntText
import PyProof.StrLawsFirst
import PyProof.StrLawsIn
import PyProof.EqAt
import PyProof.EqKinds
import PyProof.TupleCall
import KE.KLam
import PySem.Challenge.RW_besideseats_k80_halls_of_desks
set_option Elab.async false
set_option linter.all false
set_option maxRecDepth 100000
set_option genSizeOf false
set_option compiler.extract_closed false
set_option bootstrap.genMatcherCode false
namespace L2
open PySem PySem.Spec PyProof.Rows
abbrev Key:=Sum Int Str
def keyIs:Key→Value→Bool
  | .inl k,v=>Value.isInt k v
  | .inr x,v=>Value.isStrOf x v
def keyH (w:World):Key→Int
  | .inl k=>hashInt k
  | .inr x=>hashStr w x
theorem keyIs_shape:∀ {k:Key} {v:Value},keyIs k v=true→(∃ i t,k=Sum.inl i∧v=Value.int i t)∨(∃ x t,k=Sum.inr x∧v=Value.str x t)
  | .inl i,v,h=>by
    obtain ⟨t,e⟩:=Value.isInt_shape (k:=i) (v:=v) h
    exact .inl ⟨i,t,rfl,e⟩
  | .inr x,v,h=>by
    obtain ⟨t,e⟩:=Value.isStrOf_shape (x:=x) (v:=v) h
    exact .inr ⟨x,t,rfl,e⟩
theorem key_ll (a b:Int):decide ((Sum.inl a:Key)=Sum.inl b)=(a==b):=by
  by_cases e:a=b
  · subst e;simp
  · have h:¬ (Sum.inl a:Key)=Sum.inl b:=fun q=>e (Sum.inl.inj q)
    rw [decide_eq_false h]
    exact (beq_eq_false_iff_ne.mpr e).symm
theorem key_rr (a b:Str):decide ((Sum.inr a:Key)=Sum.inr b)=decide (a=b):=by
  by_cases e:a=b
  · subst e;simp
  · have h:¬ (Sum.inr a:Key)=Sum.inr b:=fun q=>e (Sum.inr.inj q)
    rw [decide_eq_false h,decide_eq_false e]
theorem key_lr (a:Int) (b:Str):decide ((Sum.inl a:Key)=Sum.inr b)=false:=decide_eq_false (fun q=>nomatch q)
theorem key_rl (a:Str) (b:Int):decide ((Sum.inr a:Key)=Sum.inl b)=false:=decide_eq_false (fun q=>nomatch q)
def mixKind (prog:Program) (w:World):PySem.KeyKind prog w Key where
  is:=keyIs
  hash:=keyH w
  inj:=fun v a b ha hb=>by
    rcases keyIs_shape ha with ⟨i,t,rfl,rfl⟩ | ⟨x,t,rfl,rfl⟩
    · rcases keyIs_shape hb with ⟨j,u,rfl,e⟩ | ⟨y,u,rfl,e⟩
      · injection e with e1 _;rw [e1]
      · exact nomatch e
    · rcases keyIs_shape hb with ⟨j,u,rfl,e⟩ | ⟨y,u,rfl,e⟩
      · exact nomatch e
      · injection e with e1 _;rw [e1]
  byValue:=fun k v h=>by
    rcases keyIs_shape h with ⟨i,t,rfl,rfl⟩ | ⟨x,t,rfl,rfl⟩<;>rfl
  pyHash:=fun hv h=>by
    rcases keyIs_shape hv with ⟨i,t,rfl,rfl⟩ | ⟨x,t,rfl,rfl⟩
    · exact wpAny_pyHash_int h
    · exact wpAny_pyHash_str h
  eqBool:=fun hu hv h=>by
    rcases keyIs_shape hu with ⟨i,t,rfl,rfl⟩ | ⟨x,t,rfl,rfl⟩
    · rcases keyIs_shape hv with ⟨j,u,rfl,rfl⟩ | ⟨y,u,rfl,rfl⟩
      · rw [key_ll] at h;exact wpAny_eqBool_int h
      · rw [key_lr] at h;exact SeqAt.EqAt.int_str i t y u _ _ _ _ h
    · rcases keyIs_shape hv with ⟨j,u,rfl,rfl⟩ | ⟨y,u,rfl,rfl⟩
      · rw [key_rl] at h;exact SeqAt.EqAt.str_int x t j u _ _ _ _ h
      · rw [key_rr] at h;exact wpAny_eqBool_str h
  «strs»:=fun k x t v h=>by
    rcases keyIs_shape h with ⟨i,u,rfl,e⟩ | ⟨y,u,rfl,e⟩
    · exact nomatch e
    · injection e with e1 _
      subst e1
      cases v<;>rfl
end L2
namespace L2
open PySem PySem.Spec PyProof.Rows
inductive V where
  | non | bl (b:Bool) | int (i:Int) | str (x:Str) | byt (b:Array UInt8) | flt (b:UInt64) | ref (a:Addr) | ty (n:String)
  deriving DecidableEq
def RelV:V→Value→Prop
  | .non,u=>u=Value.none
  | .bl b,u=>u=Value.bool b
  | .int i,u=>∃ t,u=Value.int i t
  | .str x,u=>∃ t,u=Value.str x t
  | .byt b,u=>∃ t,u=Value.bytes b t
  | .flt b,u=>∃ t,u=Value.float b t
  | .ref a,u=>u=Value.ref a
  | .ty n,u=>u=Value.type n
abbrev Vals:List V→List Value→Prop:=Paired RelV
theorem Vals.length {xs:List V} {us:List Value} (r:Vals xs us):xs.length=us.length:=Paired.length r
theorem Vals.get:∀ {xs:List V} {us:List Value} {i:Nat} {x:V},Vals xs us→xs[i]?=some x→∃ u,us[i]?=some u∧RelV x u
  | _,_,_,_,.nil,e=>by simp at e
  | _,_,0,_,.cons r _,e=>by simp at e;subst e;exact ⟨_,rfl,r⟩
  | _,_,i+1,x,.cons _ t,e=>by
    obtain ⟨u,h1,h2⟩:=Vals.get (i:=i) (x:=x) t (by simpa using e)
    exact ⟨u,by simpa using h1,h2⟩
theorem Vals.set {x:V} {u:Value} (r:RelV x u):∀ {xs:List V} {us:List Value} (i:Nat),Vals xs us→Vals (xs.set i x) (us.set i u)
  | _,_,_,.nil=>.nil
  | _,_,0,.cons _ t=>.cons r t
  | _,_,i+1,.cons q t=>.cons q (Vals.set r i t)
theorem Vals.append:∀ {xs ys:List V} {us ws:List Value},Vals xs us→Vals ys ws→Vals (xs++ys) (us++ws)
  | _,_,_,_,.nil,s=>s
  | _,_,_,_,.cons r t,s=>.cons r (Vals.append t s)
theorem Vals.take:∀ {xs:List V} {us:List Value} (n:Nat),Vals xs us→Vals (xs.take n) (us.take n)
  | _,_,0,_=>.nil
  | _,_,_+1,.nil=>.nil
  | _,_,n+1,.cons r t=>.cons r (Vals.take n t)
theorem Vals.drop:∀ {xs:List V} {us:List Value} (n:Nat),Vals xs us→Vals (xs.drop n) (us.drop n)
  | _,_,0,r=>r
  | _,_,_+1,.nil=>.nil
  | _,_,n+1,.cons _ t=>Vals.drop n t
theorem Vals.none_of:∀ {xs:List V} {us:List Value} {i:Nat},Vals xs us→xs[i]?=none→us[i]?=none:=fun {xs us i} r e=>by
  have h1:=r.length
  have h2:xs.length≤i:=List.getElem?_eq_none_iff.mp e
  exact List.getElem?_eq_none_iff.mpr (by lia)
def RelO:Option V→Option Value→Prop
  | some v,some u=>RelV v u
  | none,none=>True
  | _,_=>False
def KV {κ:Type}:List (κ×V)→List (κ×Value)→Prop:=Paired fun (p:κ×V) (q:κ×Value)=>p.1=q.1∧RelV p.2 q.2
def kV:Key→V
  | .inl i=>.int i
  | .inr x=>.str x
inductive HO where
    | lst (xs:List V)
    | tup (xs:List V)
    | dK (kvs:List (Key×V)) | dT (kvs:List (List Key×V))
    | set (S:Int→Bool) (n:Nat)
    | ins (C dx:Addr) (fs:List (Str×V))
    | own (x:Addr)
    | xd (fs:List (Str×V))
    | met (f x:Addr)
    | rng (lo hi:Int)
    | frz (o:Obj) (u:HO)
    | tbl (q:Str)
  | cod (q:Str)
    | ext (φ:Heap→Prop)
abbrev Hp:=Addr→Option HO
def Prm:HO→Prop
  | .tbl _=>True
  | .cod _=>True
  | _=>False
def upd (H:Hp) (a:Addr) (o:HO):Hp:=fun b=>if b=a then some o else H b
theorem upd_same {H:Hp} {a:Addr} {o:HO}:upd H a o a=some o:=by unfold upd;rw [if_pos rfl]
theorem upd_ne {H:Hp} {a b:Addr} {o:HO} (h:b≠a):upd H a o b=H b:=by unfold upd;rw [if_neg h]
theorem ne_of_none {H:Hp} {a b:Addr} {o:HO} (h:H a=some o) (h':H b=none):a≠b:=by
  intro e;subst e;rw [h] at h';cases h'
section
variable (P:Program) (w:World)
def ObjOk (H:Hp) (h:Heap) (a:Addr):HO→Prop
  | .lst xs=>xs.length≤sizeLine∧∃ (its:List Value) (n:Nat),Vals xs its∧h.get? a=some { cls:=.type "list",data:=.seq its.toArray n }
  | .tup xs=>xs.length≤sizeLine∧∃ its:List Value,Vals xs its∧IsTup h a its.toArray
  | .dK kvs=>kvs.length≤sizeLine∧(a==sysModules)=false∧∃ vs,KV kvs vs∧h.DictOf (mixKind P w) a vs
  | .dT kvs=>kvs.length≤sizeLine∧(a==sysModules)=false∧∃ xs:List (List Key×Addr×Value),
      Paired (fun (p:List Key×V) (q:List Key×Addr×Value)=>p.1=q.1∧H q.2.1=some (.tup (p.1.map kV))∧RelV p.2 q.2.2) kvs xs ∧
      ∃ o es ep,h.get? a=some o∧o.ExactDict∧o.data=.dict es ep∧es.toList=xs.map (entryOfKey (tupleKind (mixKind P w)))∧(xs.map (·.1)).Nodup
  | .set S n=>h.SetOf (intKind P w) a S n
  | .ins C dx fs=>H dx=some (.own a)∧fs.length≤1000∧dx≠a∧h.get? a=some (PySem.W.instObj C dx) ∧
      ∃ mA,h.Ns1 dx mA∧(∀ f,RelO (fs.lookup f) (mA f))∧PySem.Within mA (fs.map (·.1))
  | .own _=>∃ o,h.get? a=some o
  | .xd fs=>∃ mA,h.Ns1 a mA∧∀ f,RelO (fs.lookup f) (mA f)
  | .rng lo hi=>∃ t u v,h.get? a=some { cls:=.type "range",data:=.fields #[.int lo t,.int hi u,.int 1 v] }
  | .frz o u=>h.get? a=some o∧ObjOk H h a u
  | .tbl q=>∃ ps:Array Value,h.get? a=some { cls:=.none,data:=.fields ps }∧TriplesOk ps.toList∧∀ pos cv,codeAmong pos ps.toList=some cv→∃ c,cv=.ref c∧H c=some (.cod q)
  | .cod q=>h.CodeRec (.ref a) q
  | .met f x=>h.get? a=some (PySem.W.methodObj (.ref f) (.ref x))
  | .ext φ=>φ h∧(∃ o,h.get? a=some o)∧∀ h1 h2:Heap,φ h1→(∀ o,h1.get? a=some o→h2.get? a=some o)→φ h2
def HOk (H:Hp) (h:Heap):Prop:=∀ a o,H a=some o→ObjOk P w H h a o
end
section
variable {P:Program} {w:World} {H H':Hp} {h h':Heap} {a:Addr} {o:HO}
theorem ObjOk.lt (x:ObjOk P w H h a o):a < h.objs.size:=by
  cases o with
  | lst xs=>obtain ⟨_,_,_,_,e⟩:=x;exact Heap.lt_size e
  | tup xs=>obtain ⟨_,_,_,p⟩:=x;exact p.lt
  | dK kvs=>obtain ⟨_,_,_,_,o,_,_,e,_⟩:=x;exact Heap.lt_size e
  | dT kvs=>obtain ⟨_,_,_,_,o,_,_,e,_⟩:=x;exact Heap.lt_size e
  | set S n=>obtain ⟨o,_,_,_,e,_⟩:=x;exact Heap.lt_size e
  | ins C dx fs=>obtain ⟨_,_,_,e,_⟩:=x;exact Heap.lt_size e
  | own y=>obtain ⟨_,e⟩:=x;exact Heap.lt_size e
  | xd fs=>obtain ⟨_,⟨_,_,_,e,_⟩,_⟩:=x;exact Heap.lt_size e
  | rng lo hi=>obtain ⟨_,_,_,e⟩:=x;exact Heap.lt_size e
  | frz ob u=>obtain ⟨e,_⟩:=x;exact Heap.lt_size e
  | tbl q=>obtain ⟨_,e,_⟩:=x;exact Heap.lt_size e
  | cod q=>obtain ⟨_,_,_,_,e1,e2,_⟩:=x;cases e1;exact Heap.lt_size e2
  | met f y=>exact Heap.lt_size (show h.get? a=some _ from x)
  | ext φ=>obtain ⟨_,⟨_,e⟩,_⟩:=x;exact Heap.lt_size e
theorem Paired.mapP {α β:Type} {F G:α→β→Prop}:∀ {l₁:List α} {l₂:List β},Paired F l₁ l₂→(∀ a b,F a b→G a b)→Paired G l₁ l₂
  | _,_,.nil,_=>.nil
  | _,_,.cons r t,f=>.cons (f _ _ r) (Paired.mapP t f)
theorem ObjOk.stay (x:ObjOk P w H h a o) (k:∀ b u,(b=a∨H b=some (.own a))→h.get? b=some u→h'.get? b=some u)
    (ho:∀ b,H b=some (.own a)→H' b=some (.own a)) (ht:∀ b xs,H b=some (.tup xs)→H' b=some (.tup xs)) (hp:∀ b u,Prm u→H b=some u→H' b=some u):ObjOk P w H' h' a o:=by
  induction o with
  | lst xs=>obtain ⟨z,its,n,r,e⟩:=x;exact ⟨z,its,n,r,k _ _ (.inl rfl) e⟩
  | tup xs=>obtain ⟨z,its,r,ob,e,c⟩:=x;exact ⟨z,its,r,ob,k _ _ (.inl rfl) e,c⟩
  | dK kvs=>obtain ⟨z,y,vs,r,ob,es,ep,e,c⟩:=x;exact ⟨z,y,vs,r,ob,es,ep,k _ _ (.inl rfl) e,c⟩
  | dT kvs =>
    obtain ⟨z,y,xs,r,ob,es,ep,e,c⟩:=x
    exact ⟨z,y,xs,Paired.mapP r fun p q z=>⟨z.1,ht _ _ z.2.1,z.2.2⟩,ob,es,ep,k _ _ (.inl rfl) e,c⟩
  | set S n=>obtain ⟨ob,es,ep,t,e,c⟩:=x;exact ⟨ob,es,ep,t,k _ _ (.inl rfl) e,c⟩
  | ins C dx fs =>
    obtain ⟨d,z,ne,e,mA,⟨od,es,ep,e2,c⟩,r⟩:=x
    exact ⟨ho _ d,z,ne,k _ _ (.inl rfl) e,mA,⟨od,es,ep,k _ _ (.inr d) e2,c⟩,r⟩
  | own y=>obtain ⟨ob,e⟩:=x;exact ⟨ob,k _ _ (.inl rfl) e⟩
  | xd fs=>obtain ⟨mA,⟨od,es,ep,e,c⟩,r⟩:=x;exact ⟨mA,⟨od,es,ep,k _ _ (.inl rfl) e,c⟩,r⟩
  | rng lo hi=>obtain ⟨t,u,v,e⟩:=x;exact ⟨t,u,v,k _ _ (.inl rfl) e⟩
  | frz ob u ih=>obtain ⟨e,q⟩:=x;exact ⟨k _ _ (.inl rfl) e,ih q⟩
  | tbl q =>
    obtain ⟨ps,e,t,g⟩:=x
    exact ⟨ps,k a _ (.inl rfl) e,t,fun pos cv r=>let ⟨c,e1,e2⟩:=g pos cv r;⟨c,e1,hp c _ trivial e2⟩⟩
  | cod q =>
    obtain ⟨c,oc,vs,t,e1,e2,r⟩:=x
    cases e1
    exact ⟨a,oc,vs,t,rfl,k a _ (.inl rfl) e2,r⟩
  | met f y =>
    have e:h.get? a=some (PySem.W.methodObj (.ref f) (.ref y)):=x
    show h'.get? a=some (PySem.W.methodObj (.ref f) (.ref y))
    exact k a _ (.inl rfl) e
  | ext φ=>obtain ⟨p,⟨o,e⟩,st⟩:=x;exact ⟨st _ _ p fun o q=>k _ _ (.inl rfl) q,⟨o,k _ _ (.inl rfl) e⟩,st⟩
theorem HOk.lt (x:HOk P w H h) (e:H a=some o):a < h.objs.size:=(x a o e).lt
theorem HOk.fresh (x:HOk P w H h) (e:h.objs.size≤a):H a=none:=by
  cases q:H a with
  | none=>rfl
  | some u=>exact absurd (Nat.lt_of_lt_of_le (x.lt q) e) (Nat.lt_irrefl _)
theorem HOk.kept (x:HOk P w H h) (k:∀ b u,h.get? b=some u→h'.get? b=some u):HOk P w H h':=fun a o e =>
  (x a o e).stay (fun b u _ q=>k b u q) (fun _ q=>q) (fun _ _ q=>q) fun _ _ _ q=>q
theorem HOk.laid (x:HOk P w H h) (k:∀ b u,h.get? b=some u→h'.get? b=some u) (hp:h.objs.size≤a) (new:ObjOk P w (upd H a o) h' a o):HOk P w (upd H a o) h':=fun b u e=>by
  have hn:=x.fresh hp
  by_cases hb:b=a
  · subst hb;rw [upd_same] at e;cases e;exact new
  · rw [upd_ne hb] at e
    exact (x b u e).stay (fun c v _ q=>k c v q) (fun c q=>by rw [upd_ne (ne_of_none q hn)];exact q) (fun c xs q=>by rw [upd_ne (ne_of_none q hn)];exact q) fun c v _ q=>by rw [upd_ne (ne_of_none q hn)];exact q
end
def Rd (H:Hp) (a:Addr) (u:HO):Prop:=H a=some u∨∃ o,H a=some (.frz o u)
theorem Rd.of {H:Hp} {a:Addr} {u:HO} (h:H a=some u):Rd H a u:=.inl h
theorem Rd.ok {P:Program} {w:World} {H:Hp} {h:Heap} {a:Addr} {u:HO} (r:Rd H a u) (x:HOk P w H h):ObjOk P w H h a u:=by
  rcases r with r | ⟨o,r⟩
  · exact x a u r
  · obtain ⟨_,q⟩:=x a _ r
    exact q
def Mut:Option HO→Prop
  | some (.lst _)=>True
  | some (.dK _)=>True
  | some (.dT _)=>True
  | some (.set _ _)=>True
  | some (.ins _ _ _)=>True
  | some (.ext _)=>True
  | _=>False
section
variable {P:Program} {w:World} {H:Hp} {h h':Heap} {x e:Addr} {o':HO}
theorem HOk.write (ok : HOk P w H h) (mu : Mut (H x)) (he : e = x ∨ H e = some (.own x)) (k : ∀ b u, b ≠ e → h.get? b = some u → h'.get? b = some u) (heo : ∃ u, h'.get? e = some u)
    (new:ObjOk P w (upd H x o') h' x o'):HOk P w (upd H x o') h':=fun b u q=>by
  have nown:∀ c y,H c=some (.own y)→c≠x:=fun c y r z=>by subst z;rw [r] at mu;exact mu
  have ntup:∀ c xs,H c=some (.tup xs)→c≠x:=fun c xs r z=>by subst z;rw [r] at mu;exact mu
  have nprm:∀ c u,Prm u→H c=some u→c≠x:=fun c u p r z=>by subst z;rw [r] at mu;cases u<;>first | exact p | exact mu
  by_cases hb:b=x
  · subst hb;rw [upd_same] at q;cases q;exact new
  · rw [upd_ne hb] at q
    by_cases hbe:b=e
    · have q':H b=some (.own x):=by
        rcases he with z | z
        · exact absurd (hbe.trans z) hb
        · rw [hbe];exact z
      rw [q] at q';cases q'
      obtain ⟨v,hv⟩:=heo
      exact ⟨v,by rw [hbe];exact hv⟩
    · refine (ok b u q).stay (fun c v hc r=>k c v ?_ r) (fun c r=>by rw [upd_ne (nown c b r)];exact r) (fun c xs r=>by rw [upd_ne (ntup c xs r)];exact r) fun c v p r=>by rw [upd_ne (nprm c v p r)];exact r
      rcases hc with rfl | hc
      · exact hbe
      · rintro rfl
        rcases he with z | z
        · exact nown c b hc z
        · rw [hc] at z;cases z;exact hb rfl
end
structure Un (fs ex:List Addr) (H H':Hp) (h h':Heap):Prop where
  keep:∀ b o,h.get? b=some o→H b=none→b∉fs→b∉ex→h'.get? b=some o
  slot:∀ b o,h.get? b=some o→H b=none→b∈fs→b∉ex→∃ sl,h'.get? b=some { o with slots:=sl }
  free:∀ b o,h.get? b=some o→H b=none→b∉ex→H' b=none
  there:∀ b o,h.get? b=some o→b∉ex→∃ o',h'.get? b=some o'
  tups:∀ b xs,H b=some (.tup xs)→H' b=some (.tup xs)
  frzs:∀ b o u,H b=some (.frz o u)→H' b=some (.frz o u)
  tbls:∀ b u,Prm u→H b=some u→H' b=some u
section
variable {fs fs' ex ex':List Addr} {H H1 H2:Hp} {h h1 h2 h':Heap} {a x e:Addr} {o:HO}
theorem Un.any (u:Un fs ex H H1 h h1) {b:Addr} {ob:Obj} (q:h.get? b=some ob) (n:H b=none) (hx:b∉ex):∃ sl,h1.get? b=some { ob with slots:=sl }:=by
  by_cases hb:b∈fs
  · exact u.slot b ob q n hb hx
  · exact ⟨ob.slots,u.keep b ob q n hb hx⟩
theorem Un.kept (k:∀ b u,h.get? b=some u→h'.get? b=some u):Un fs ex H H h h' :=
  ⟨fun b ob q _ _ _=>k b ob q,fun b ob q _ _ _=>⟨ob.slots,k b ob q⟩,fun _ _ _ n _=>n,fun b ob q _=>⟨ob,k b ob q⟩,fun _ _ q=>q,fun _ _ _ q=>q,fun _ _ _ q=>q⟩
theorem Un.refl:Un fs ex H H h h:=Un.kept fun _ _ q=>q
theorem Un.laid (k:∀ b u,h.get? b=some u→h'.get? b=some u) (hp:h.objs.size≤a) (hn:H a=none):Un fs ex H (upd H a o) h h' where
  keep:=fun b u q _ _ _=>k b u q
  slot:=fun b u q _ _ _=>⟨u.slots,k b u q⟩
  free:=fun b u q n _=>by rw [upd_ne (Nat.ne_of_lt (Nat.lt_of_lt_of_le (Heap.lt_size q) hp))];exact n
  there:=fun b u q _=>⟨u,k b u q⟩
  tups:=fun b xs q=>by rw [upd_ne (ne_of_none q hn)];exact q
  frzs:=fun b u xs q=>by rw [upd_ne (ne_of_none q hn)];exact q
  tbls:=fun b u _ q=>by rw [upd_ne (ne_of_none q hn)];exact q
theorem Un.write (mu:Mut (H x)) (he:e=x∨H e=some (.own x)) (k:∀ b u,b≠e→h.get? b=some u→h'.get? b=some u) (heo:∃ u,h'.get? e=some u):Un fs ex H (upd H x o) h h':=by
  have hx:∀ b,H b=none→b≠x:=fun b n z=>by subst z;rw [n] at mu;exact mu
  have hb:∀ b,H b=none→b≠e:=fun b n z=>by
    subst z
    rcases he with r | r
    · exact hx b n r
    · rw [n] at r;cases r
  have hm:∀ b u,H b=some u→¬ Mut (some u)→b≠x:=fun b u q nm z=>by subst z;rw [q] at mu;exact nm mu
  refine ⟨fun b u q n _ _=>k b u (hb b n) q,fun b u q n _ _=>⟨u.slots,k b u (hb b n) q⟩,fun b u q n _=>by rw [upd_ne (hx b n)];exact n,fun b u q _=>?_,
    fun b xs q=>by rw [upd_ne (hm b _ q fun z=>z)];exact q,fun b u xs q=>by rw [upd_ne (hm b _ q fun z=>z)];exact q,fun b u p q=>by rw [upd_ne (hm b _ q fun z=>by cases u<;>first | exact p | exact z)];exact q⟩
  by_cases hbe:b=e
  · subst hbe;exact heo
  · exact ⟨u,k b u hbe q⟩
theorem Un.mono (u:Un fs ex H H1 h h1) (hs:∀ b∈fs,b∈fs') (hx:∀ b∈ex,b∈ex'):Un fs' ex' H H1 h h1 :=
  ⟨fun b ob q n hb he=>u.keep b ob q n (fun z=>hb (hs b z)) fun z=>he (hx b z),fun _ _ q n _ he=>u.any q n fun z=>he (hx _ z),fun b ob q n he=>u.free b ob q n fun z=>he (hx b z),fun b ob q he=>u.there b ob q fun z=>he (hx b z),u.tups,u.frzs,u.tbls⟩
end
def trk (h:Heap) (H:Hp):List Addr:=(List.range h.objs.size).filter fun a=>(H a).isSome
def hidT (h:Heap) (H:Hp):Heap:=PySem.W.hideAll h (trk h H)
theorem hidT_size (h:Heap) (H:Hp):(hidT h H).objs.size=h.objs.size:=PySem.W.hideAll_size _ _
theorem hidT_get {h:Heap} {H:Hp} {b:Addr} {o:Obj} (e:h.get? b=some o) (n:H b=none):(hidT h H).get? b=some o :=
  PySem.W.hideAll_get _ e fun hm=>by
    have q:(H b).isSome=true:=(List.mem_filter.mp hm).2
    rw [n] at q;simp at q
theorem of_hidT {h:Heap} {H:Hp} {b:Addr} {o:Obj} (e:(hidT h H).get? b=some o):h.get? b=some o∧H b=none:=by
  have e':h.get? b=some o:=PySem.W.of_hideAll (trk h H) e
  refine ⟨e',?_⟩
  cases q:H b with
  | none=>rfl
  | some x =>
    have hm:b∈trk h H:=List.mem_filter.mpr ⟨List.mem_range.mpr (Heap.lt_size e'),by simp [q]⟩
    have z:(hidT h H).get? b=none:=PySem.W.hideAll_none (trk h H) hm
    rw [z] at e;cases e
def allNews (g h:Heap) (L:Addr):List (Addr×Obj):=(List.range h.objs.size).filterMap fun a=>if a=L∨(g.get? a).isSome=true then none else (h.get? a).map fun o=>(a,o)
def rest (g h:Heap) (L d:Addr):List (Addr×Obj):=(allNews g h L).filter fun p=>decide (p.1≠d)
end L2
namespace L2
open PySem PySem.Spec PyProof.Rows
structure Mod (K:PySem.W.Frag) (mg:Str→Option Value) (base:Heap):Prop where
  kin:K.In base
  glob:base.Ns mainGlobals mg
  blt:∃ mb,base.Ns builtinsNs mb∧∀ x:Str,x ≠ "__name__" → mb x=bootBuiltins x
  nolimit:base.NoLimit
def lamNames:List Str:=["best_among", "paper_beside"]
def lamQ (x:Str):Str:=x ++ ".<locals>." ++ "<lambda>"
def BMain (mg:Str→Option Value) (base:Heap):Prop:=∃ bm ob,mg "__builtins__" = some (.ref bm)∧bm≠builtinsNs∧base.get? bm=some ob∧ob.cls=.type "module" ∧ ob.dict=some builtinsNs∧ob.data=.plain
def TabOk (K:PySem.W.Frag) (mg:Str→Option Value) (base:Heap) (H:Hp):Prop:=∀ x∈lamNames,∀ c P,PySem.W.tabIn K x=some (c,P)→H P=some (.tbl (lamQ x))∧PySem.W.CodeHd base c P∧BMain mg base
theorem TabOk.up {K:PySem.W.Frag} {mg:Str→Option Value} {base:Heap} {H H':Hp} (t:TabOk K mg base H) (u:∀ b o,Prm o→H b=some o→H' b=some o):TabOk K mg base H':=fun x hx c P e=>⟨u _ _ trivial (t x hx c P e).1,(t x hx c P e).2⟩
structure Cx where
  prog:Program
  w:World
  K:PySem.W.Frag
  mg:Str→Option Value
  base:Heap
  A:Around
  N:List Str
  s₀:Shared
  H₀:Hp
  env:Env
  outer:List Env
  stack:List Env
  ex:List Addr
  fn:Str→Bool
  calm:Bool
  pn:List (Addr×Obj)
  xe:Value→Shared→Prop
def frs (l:List Env):List Addr:=l.filterMap (·.frame)
abbrev Cx.fs (X:Cx):List Addr:=frs X.outer
def Vis (sc:Scope) (x:Str):Prop:=sc.names.lookup x=some .local∨sc.names.lookup x=some .cell∨sc.names.lookup x=some .free
def Loc (sc:Scope) (x:Str):Prop:=sc.names.lookup x=some .local∨sc.names.lookup x=some .cell
def Look (env:Env) (h:Heap) (m:Str→Option Value) (x:Str) (u:Value):Prop :=
  (env.kindOf x=some .local∧m x=some u)∨((env.kindOf x=some .cell∨env.kindOf x=some .free)∧∃ c,env.cells.lookup x=some c∧h.IsCell c (some u))
structure Cx.Ok (X:Cx):Prop where
  mod:Mod X.K X.mg X.base
  kind:X.env.scope.kind=.function
  glob:X.env.globals=mainGlobals
  blt:X.env.builtins=builtinsNs
  above:X.s₀.heap.objs.size≤X.env.locals
  inj:∀ x y c,X.env.cells.lookup x=some c→X.env.cells.lookup y=some c→x=y
  has:∀ x,(X.env.kindOf x=some .cell∨X.env.kindOf x=some .free)→∃ c,X.env.cells.lookup x=some c
  cab:∀ x c,X.fn x=true→X.env.cells.lookup x=some c→X.s₀.heap.objs.size≤c
  hd:X.calm=true→X.A.handled=none
  frames:X.A.frames=some X.stack
  stk:X.stack=X.outer∨(X.stack=X.env :: X.outer∧X.env.frame=some X.env.locals)
  exf:∀ b∈X.ex,b≠X.env.locals∧∀ x c,X.env.cells.lookup x=some c→c≠b
  bs:∀ b o,X.base.get? b=some o→X.s₀.heap.get? b=some o∧X.H₀ b=none
  bsz:X.base.objs.size≤X.s₀.heap.objs.size
  noex:∀ b o,X.base.get? b=some o→b∉X.ex
  exfs:∀ b∈X.ex,b∉X.fs
  funs:X.s₀.heap.FunFrames X.base X.outer
  frf:∀ b∈X.fs,X.H₀ b=none
structure Inv (X:Cx) (pins:List (Addr×Obj)) (σ:List (Option V)) (H:Hp) (s:Shared):Prop where
  ok:X.Ok
  os:s.os=X.s₀.os
  bare:AllBare s.gens
  base:Un X.fs X.ex X.H₀ H X.s₀.heap s.heap
  loc:∃ m,s.heap.Ns X.env.locals m∧∀ (i:Nat) (x:Str) (v:V),X.N[i]?=some x→σ[i]?=some (some v)→Vis X.env.scope x→∃ u,RelV v u∧Look X.env s.heap m x u
  cell:∀ x c,X.env.cells.lookup x=some c→∃ v,s.heap.IsCell c v
  free:H X.env.locals=none
  freeC:∀ x c,X.env.cells.lookup x=some c→H c=none
  pin:∀ p∈X.pn++pins,s.heap.get? p.1=some p.2∧H p.1=none∧p.1≠X.env.locals∧p.1∉X.fs∧∀ v,p.2.data≠.cell v
  hok:HOk X.prog X.w H s.heap
  len:σ.length=X.N.length
  tab:TabOk X.K X.mg X.base H
section
variable {X:Cx} {pins:List (Addr×Obj)} {σ:List (Option V)} {H H':Hp} {s:Shared} {h':Heap}
theorem Cx.Ok.nofr (ok:X.Ok) {b:Addr} {o:Obj} (e:X.base.get? b=some o):b∉X.fs:=fun hb=>by
  have:=(ok.funs.mem hb).1
  rw [e] at this;cases this
theorem Inv.bs (I:Inv X pins σ H s):∀ b o,X.base.get? b=some o→s.heap.get? b=some o∧H b=none:=fun b o e =>
  ⟨I.base.keep b o (I.ok.bs b o e).1 (I.ok.bs b o e).2 (I.ok.nofr e) (I.ok.noex b o e),I.base.free b o (I.ok.bs b o e).1 (I.ok.bs b o e).2 (I.ok.noex b o e)⟩
theorem Inv.bk (I:Inv X pins σ H s):∀ b o,X.base.get? b=some o→s.heap.get? b=some o:=fun b o e=>(I.bs b o e).1
theorem Inv.mod (I:Inv X pins σ H s):Mod X.K X.mg X.base:=I.ok.mod
theorem Inv.kIn (I:Inv X pins σ H s):X.K.In s.heap:=I.ok.mod.kin.keeps I.bk
theorem Inv.nolimit (I:Inv X pins σ H s):s.heap.NoLimit:=I.ok.mod.nolimit.keeps I.bk
theorem Inv.fr (I:Inv X pins σ H s):∃ m,Fr X.base X.env.locals s.heap m :=
  let ⟨m,hn,_⟩:=I.loc
  ⟨m,hn,I.bk,Nat.le_trans I.ok.bsz I.ok.above⟩
theorem Inv.lt (I:Inv X pins σ H s):X.env.locals < s.heap.objs.size:=let ⟨_,hn,_⟩:=I.loc;hn.lt
theorem Inv.sz (I:Inv X pins σ H s):X.s₀.heap.objs.size≤s.heap.objs.size:=Nat.le_trans I.ok.above (Nat.le_of_lt I.lt)
theorem Inv.nofs (I:Inv X pins σ H s) {a:Addr} (h:s.heap.objs.size≤a):a∉X.fs:=fun hb=>by
  obtain ⟨_,o,ho,_⟩:=I.ok.funs.mem hb
  exact absurd (Nat.lt_of_lt_of_le (Heap.lt_size ho) (Nat.le_trans I.sz h)) (Nat.lt_irrefl _)
theorem Inv.cne (I:Inv X pins σ H s):∀ x c,X.env.cells.lookup x=some c→c≠X.env.locals:=fun x c e z=>by
  obtain ⟨v,o,ho,hd⟩:=I.cell x c e
  obtain ⟨m,⟨o',es,ep,ho',hd',_⟩,_⟩:=I.loc
  rw [z,ho'] at ho;cases ho;rw [hd'] at hd;cases hd
theorem Inv.funs (I:Inv X pins σ H s):s.heap.FunFrames X.base X.outer:=by
  have all:∀ (l:List Env),(∀ b∈frs l,b∈X.fs)→X.s₀.heap.FunFrames X.base l→s.heap.FunFrames X.base l:=by
    intro l
    induction l with
    | nil=>intro _ _;trivial
    | cons env r ih =>
      intro hs hl
      obtain ⟨hk,⟨L,o,hf,hn,ho,hd⟩,hr⟩:=hl
      have hL:L∈X.fs:=hs L (by unfold frs;rw [List.filterMap_cons,hf];exact List.mem_cons_self)
      obtain ⟨sl,e⟩:=I.base.slot L o ho (I.ok.frf L hL) hL fun z=>I.ok.exfs L z hL
      exact ⟨hk,⟨L,_,hf,hn,e,hd⟩,ih (fun b hb=>hs b (by unfold frs;rw [List.filterMap_cons,hf];exact List.mem_cons_of_mem _ hb)) hr⟩
  exact all X.outer (fun _ hb=>hb) I.ok.funs
theorem Inv.stack (I:Inv X pins σ H s):s.heap.FunFrames X.base X.stack:=by
  rcases I.ok.stk with e | ⟨e,hf⟩
  · rw [e];exact I.funs
  · rw [e]
    obtain ⟨m,hn,_⟩:=I.loc
    refine .cons (by rw [I.ok.kind];decide) hf hn ?_ I.funs
    exact Heap.get?_none_of_le (Nat.le_trans I.ok.bsz I.ok.above)
theorem Inv.stkSub (I:Inv X pins σ H s):∀ b∈frs X.stack,b∈X.env.locals :: X.fs:=fun b hb=>by
  rcases I.ok.stk with e | ⟨e,hf⟩
  · rw [e] at hb;exact List.mem_cons_of_mem _ hb
  · rw [e] at hb
    unfold frs at hb
    rw [List.filterMap_cons,hf] at hb
    exact hb
theorem Inv.stkFree (I:Inv X pins σ H s):∀ b∈frs X.stack,H b=none:=fun b hb=>by
  rcases List.mem_cons.mp (I.stkSub b hb) with e | hb
  · rw [e];exact I.free
  · obtain ⟨_,o,ho,_⟩:=I.ok.funs.mem hb
    exact I.base.free b o ho (I.ok.frf b hb) fun z=>I.ok.exfs b z hb
theorem Inv.step {g':Array GenState} {t':Nat} {d':Drawn} {ch:List Addr} (I:Inv X pins σ H s)
    (hch:∀ b∈ch,(b∈X.ex∨X.s₀.heap.objs.size≤b)∧b≠X.env.locals∧(∀ x c,X.env.cells.lookup x=some c→c≠b)∧∀ p∈X.pn++pins,p.1≠b)
    (keep:∀ b o,b≠X.env.locals→b∉X.fs→b∉ch→s.heap.get? b=some o→H b=none→h'.get? b=some o)
    (slot:∀ b o,b≠X.env.locals→b∈X.fs→b∉ch→s.heap.get? b=some o→H b=none→∃ sl,h'.get? b=some { o with slots:=sl }) (free:∀ b o,b∉ch→s.heap.get? b=some o→H b=none→H' b=none)
    (there:∀ b o,b∉ch→s.heap.get? b=some o→∃ o',h'.get? b=some o')
    (tups:∀ b xs,H b=some (.tup xs)→H' b=some (.tup xs)) (frzs:∀ b o u,H b=some (.frz o u)→H' b=some (.frz o u)) (tbls:∀ b u,Prm u→H b=some u→H' b=some u)
    (ns:∀ m,s.heap.Ns X.env.locals m→h'.Ns X.env.locals m) (hok:HOk X.prog X.w H' h') (hg:AllBare g') :
    Inv X pins σ H' { s with heap:=h',gens:=g',drawn:=d',toks:=t' }:=by
  have neL:∀ b o,X.s₀.heap.get? b=some o→b≠X.env.locals:=fun b o e=>Nat.ne_of_lt (Nat.lt_of_lt_of_le (Heap.lt_size e) I.ok.above)
  have neC:∀ b o,X.s₀.heap.get? b=some o→b∉X.ex→b∉ch:=fun b o e hx hb=>by
    rcases (hch b hb).1 with z | z
    · exact hx z
    · exact absurd (Nat.lt_of_lt_of_le (Heap.lt_size e) z) (Nat.lt_irrefl _)
  have cellK:∀ x c,X.env.cells.lookup x=some c→∀ v,s.heap.IsCell c v→h'.IsCell c v:=fun x c e v ⟨o,ho,hd⟩=>by
    have nch:c∉ch:=fun z=>(hch c z).2.2.1 x c e rfl
    by_cases hc:c∈X.fs
    · obtain ⟨sl,q⟩:=slot c o (I.cne x c e) hc nch ho (I.freeC x c e)
      exact ⟨_,q,hd⟩
    · exact ⟨o,keep c o (I.cne x c e) hc nch ho (I.freeC x c e),hd⟩
  refine ⟨I.ok,I.os,hg,⟨fun b o e n hb hx=>?_,fun b o e n hb hx=>?_,fun b o e n hx=>?_,fun b o e hx=>?_,fun b xs e=>tups b xs (I.base.tups b xs e),fun b o xs e=>frzs b o xs (I.base.frzs b o xs e),fun b u p e=>tbls b u p (I.base.tbls b u p e)⟩,?_,fun x c e=>?_,?_,fun x c e=>?_,fun p hp=>?_,hok,I.len,I.tab.up tbls⟩
  · exact keep b o (neL b o e) hb (neC b o e hx) (I.base.keep b o e n hb hx) (I.base.free b o e n hx)
  · obtain ⟨sl,e1⟩:=I.base.slot b o e n hb hx
    obtain ⟨sl',e2⟩:=slot b _ (neL b o e) hb (neC b o e hx) e1 (I.base.free b o e n hx)
    exact ⟨sl',e2⟩
  · obtain ⟨o',e1⟩:=I.base.there b o e hx
    exact free b o' (neC b o e hx) e1 (I.base.free b o e n hx)
  · obtain ⟨o',e1⟩:=I.base.there b o e hx
    exact there b o' (neC b o e hx) e1
  · obtain ⟨m,hn,hl⟩:=I.loc
    refine ⟨m,ns m hn,fun i x v e1 e2 e3=>?_⟩
    obtain ⟨u,r,l⟩:=hl i x v e1 e2 e3
    refine ⟨u,r,?_⟩
    rcases l with l | ⟨k,c,e,z⟩
    · exact .inl l
    · exact .inr ⟨k,c,e,cellK x c e _ z⟩
  · obtain ⟨v,z⟩:=I.cell x c e
    exact ⟨v,cellK x c e v z⟩
  · obtain ⟨m,⟨o,_,_,ho,_⟩,_⟩:=I.loc
    exact free _ o (fun z=>(hch _ z).2.1 rfl) ho I.free
  · obtain ⟨v,o,ho,hd⟩:=I.cell x c e
    exact free c o (fun z=>(hch c z).2.2.1 x c e rfl) ho (I.freeC x c e)
  · obtain ⟨e,n,ne,nf,d⟩:=I.pin p hp
    have nch:p.1∉ch:=fun z=>(hch p.1 z).2.2.2 p hp rfl
    exact ⟨keep p.1 p.2 ne nf nch e n,free p.1 p.2 nch e n,ne,nf,d⟩
theorem Inv.un {t':Nat} (I:Inv X pins σ H s) (u:Un X.fs [] H H' s.heap h') (hok:HOk X.prog X.w H' h'):Inv X pins σ H' { s with heap:=h',toks:=t' }:=by
  obtain ⟨m,⟨o,es,ep,ho,r⟩,_⟩:=id I.loc
  obtain ⟨sl,hL⟩:=u.any ho I.free (by simp)
  exact I.step (g':=s.gens) (d':=s.drawn) (ch:=[]) (fun _ z=>nomatch z) (fun b o _ hb _ e n=>u.keep b o e n hb (by simp)) (fun b o _ hb _ e n=>u.slot b o e n hb (by simp)) (fun b o _ e n=>u.free b o e n (by simp)) (fun b o _ e=>u.there b o e (by simp)) u.tups u.frzs u.tbls (fun m' hm=>by
    obtain ⟨o',es',ep',ho',r'⟩:=hm
    rw [ho] at ho';cases ho'
    exact ⟨_,es',ep',hL,r'⟩) hok I.bare
theorem Inv.call {g':Array GenState} {t':Nat} {d':Drawn} {ch:List Addr} (I:Inv X pins σ H s) (u:Un (frs X.stack) ch H H' s.heap h') (hok:HOk X.prog X.w H' h') (hg:AllBare g')
    (hch:∀ b∈ch,(b∈X.ex∨X.s₀.heap.objs.size≤b)∧b≠X.env.locals∧(∀ x c,X.env.cells.lookup x=some c→c≠b)∧∀ p∈X.pn++pins,p.1≠b) :
    Inv X pins σ H' { s with heap:=h',gens:=g',drawn:=d',toks:=t' }:=by
  obtain ⟨m,⟨o,es,ep,ho,r⟩,_⟩:=id I.loc
  obtain ⟨sl,hL⟩:=u.any ho I.free fun z=>(hch _ z).2.1 rfl
  exact I.step (ch:=ch) hch (fun b o hL hb hc e n=>u.keep b o e n (fun z=>(List.mem_cons.mp (I.stkSub b z)).elim hL hb) hc) (fun b o _ _ hc e n=>u.any e n hc) (fun b o hc e n=>u.free b o e n hc) (fun b o hc e=>u.there b o e hc) u.tups u.frzs u.tbls (fun m' hm=>by
    obtain ⟨o',es',ep',ho',r'⟩:=hm
    rw [ho] at ho';cases ho'
    exact ⟨_,es',ep',hL,r'⟩) hok hg
theorem Inv.turned {t':Nat} {it:Addr} (I:Inv X pins σ H s) (k:∀ b o,b≠it→s.heap.get? b=some o→h'.get? b=some o) (hn:H it=none) (hL:it≠X.env.locals)
    (h1:it∈X.ex∨X.s₀.heap.objs.size≤it) (h2:∀ x c,X.env.cells.lookup x=some c→c≠it) (h3:∀ p∈X.pn++pins,p.1≠it):Inv X pins σ H { s with heap:=h',toks:=t' }:=by
  have nit:∀ b u,H b=some u→b≠it:=fun b u e z=>by rw [z,hn] at e;cases e
  refine I.step (g':=s.gens) (d':=s.drawn) (ch:=[it]) (fun b hb=>?_) (fun b o _ _ hc e _=>k b o (fun z=>hc (by simp [z])) e) (fun b o _ _ hc e _=>⟨o.slots,k b o (fun z=>hc (by simp [z])) e⟩) (fun _ _ _ _ n=>n)
    (fun b o hc e=>⟨o,k b o (fun z=>hc (by simp [z])) e⟩) (fun _ _ e=>e) (fun _ _ _ e=>e) (fun _ _ _ e=>e) (fun m hm=>?_) (fun b u e=>?_) I.bare
  · have e:b=it:=by simpa using hb
    subst e
    exact ⟨h1,hL,h2,h3⟩
  · obtain ⟨o,es,ep,ho,r⟩:=hm
    exact ⟨o,es,ep,k _ o (Ne.symm hL) ho,r⟩
  · refine (I.hok b u e).stay (fun c v hc q=>k c v ?_ q) (fun _ q=>q) (fun _ _ q=>q) fun _ _ _ q=>q
    rcases hc with z | z
    · rw [z];exact nit b u e
    · exact nit c _ z
theorem Inv.tok (I:Inv X pins σ H s) (t:Nat):Inv X pins σ H { s with toks:=t }:=I.un (h':=s.heap) (t':=t) Un.refl I.hok
theorem Inv.kept {t':Nat} (I:Inv X pins σ H s) (k:∀ b u,s.heap.get? b=some u→h'.get? b=some u):Inv X pins σ H { s with heap:=h',toks:=t' }:=I.un (Un.kept k) (I.hok.kept k)
theorem Inv.laid {a:Addr} {o:HO} {t':Nat} (I:Inv X pins σ H s) (k:∀ b u,s.heap.get? b=some u→h'.get? b=some u) (hp:s.heap.objs.size≤a) (new:ObjOk X.prog X.w (upd H a o) h' a o) :
    Inv X pins σ (upd H a o) { s with heap:=h',toks:=t' }:=I.un (Un.laid k hp (I.hok.fresh hp)) (I.hok.laid k hp new)
theorem Inv.write {x e:Addr} {o:HO} {t':Nat} (I:Inv X pins σ H s) (mu:Mut (H x)) (he:e=x∨H e=some (.own x)) (k:∀ b u,b≠e→s.heap.get? b=some u→h'.get? b=some u) (heo:∃ u,h'.get? e=some u)
    (new:ObjOk X.prog X.w (upd H x o) h' x o):Inv X pins σ (upd H x o) { s with heap:=h',toks:=t' }:=I.un (Un.write mu he k heo) (I.hok.write mu he k heo new)
theorem Inv.pins_of {pins':List (Addr×Obj)} (I:Inv X pins σ H s) (h:∀ p∈pins',s.heap.get? p.1=some p.2∧H p.1=none∧p.1≠X.env.locals∧p.1∉X.fs∧∀ v,p.2.data≠.cell v):Inv X pins' σ H s :=
  ⟨I.ok,I.os,I.bare,I.base,I.loc,I.cell,I.free,I.freeC,fun p hp=>(List.mem_append.mp hp).elim (fun z=>I.pin p (List.mem_append_left _ z)) (h p),I.hok,I.len,I.tab⟩
theorem nodup_ix {N:List Str} (hN:N.Nodup) {i j:Nat} {x:Str} (a:N[i]?=some x) (b:N[j]?=some x):i=j:=by
  obtain ⟨h1,e1⟩:=List.getElem?_eq_some_iff.mp a
  obtain ⟨h2,e2⟩:=List.getElem?_eq_some_iff.mp b
  exact (List.getElem_inj hN).mp (e1.trans e2.symm)
theorem store_ok2 {M : Model} {A : Around} {E : Value → Shared → Prop} {i : Nat} {x : Str} {v : V} {u : Value} {Q : Unit → Shared → Prop} (I : Inv X pins σ H s) (hN : X.N.Nodup) (hi : X.N[i]? = some x) (hx : Loc X.env.scope x) (r : RelV v u)
    (h:∀ s',Inv X pins (σ.set i (some v)) H s'→(∃ a,Heap.SameBut a s.heap s'.heap∧(a=X.env.locals∨X.env.cells.lookup x=some a))∧(X.env.scope.names.lookup x=some .local→s.toks < s'.toks)→Q () s') (hf:X.fn x=true∨X.env.scope.names.lookup x=some .local:=by first | exact .inl rfl | exact .inr rfl | assumption):wpAny M A (storeName X.env x u) Q E s:=by
  obtain ⟨m,hn,hl⟩:=id I.loc
  have hcls:(X.env.scope.kind==.class || (X.env.scope.kind==.module&&X.env.locals != X.env.globals))=false:=by rw [I.ok.kind];rfl
  have hiσ:i < σ.length:=by rw [I.len];exact (List.getElem?_eq_some_iff.mp hi).1
  have cne:=I.cne
  have tracked:∀ {a:Addr} {h':Heap},(∃ o,s.heap.get? a=some o∧H a=none)→Heap.SameBut a s.heap h'→HOk X.prog X.w H h':=fun {a h'} ha hs b ob e=>by
    obtain ⟨_,_,hfree⟩:=ha
    refine (I.hok b ob e).stay (fun c w' hc q=>(hs.2 c ?_).trans q) (fun _ q=>q) (fun _ _ q=>q) fun _ _ _ q=>q
    rintro rfl
    rcases hc with rfl | hc
    · rw [hfree] at e;cases e
    · rw [hfree] at hc;cases hc
  rcases hx with hk | hk
  · refine wpAny_storeName_local hk hn (fun h' hn' hs=>?_) hcls
    obtain ⟨oL,_,_,hoL,_⟩:=id hn
    refine h _ ⟨I.ok,I.os,I.bare,⟨fun b o e n hb hx=>?_,fun b o e n hb hx=>?_,I.base.free,fun b o e hx=>?_,I.base.tups,I.base.frzs,I.base.tbls⟩,⟨_,hn',fun j y v' e1 e2 e3=>?_⟩,fun y c e=>?_,I.free,I.freeC,fun p hp=>?_,tracked ⟨oL,hoL,I.free⟩ hs,by simpa using I.len,I.tab⟩ ⟨⟨_,hs,.inl rfl⟩,fun _=>Nat.lt_succ_self _⟩
    · exact (hs.2 b (Nat.ne_of_lt (Nat.lt_of_lt_of_le (Heap.lt_size e) I.ok.above))).trans (I.base.keep b o e n hb hx)
    · obtain ⟨sl,e1⟩:=I.base.slot b o e n hb hx
      exact ⟨sl,(hs.2 b (Nat.ne_of_lt (Nat.lt_of_lt_of_le (Heap.lt_size e) I.ok.above))).trans e1⟩
    · obtain ⟨o',e1⟩:=I.base.there b o e hx
      exact ⟨o',(hs.2 b (Nat.ne_of_lt (Nat.lt_of_lt_of_le (Heap.lt_size e) I.ok.above))).trans e1⟩
    · by_cases hj:j=i
      · subst hj
        rw [hi] at e1;cases e1
        rw [List.getElem?_set_self hiσ] at e2
        cases e2
        exact ⟨u,r,.inl ⟨hk,by simp⟩⟩
      · rw [List.getElem?_set_ne (Ne.symm hj)] at e2
        obtain ⟨u',r',q⟩:=hl j y v' e1 e2 e3
        refine ⟨u',r',?_⟩
        rcases q with ⟨k,e⟩ | ⟨k,c,e,z⟩
        · refine .inl ⟨k,?_⟩
          have:y≠x:=fun e=>hj (nodup_ix hN e1 (e▸hi))
          simp [this,e]
        · exact .inr ⟨k,c,e,z.sameBut hs (cne y c e)⟩
    · obtain ⟨w',z⟩:=I.cell y c e
      exact ⟨w',z.sameBut hs (cne y c e)⟩
    · obtain ⟨e,n,ne,nf,d⟩:=I.pin p hp
      exact ⟨(hs.2 p.1 ne).trans e,n,ne,nf,d⟩
  · have hfn:X.fn x=true:=by
      rcases hf with z | z
      · exact z
      · rw [z] at hk;cases hk
    obtain ⟨c,hc⟩:=I.ok.has x (.inl hk)
    obtain ⟨w',z⟩:=I.cell x c hc
    refine wpAny_storeName_cell I.ok.kind hk hc z (fun h' hc' hs=>?_)
    obtain ⟨oc,hoc,hocd⟩:=id z
    refine h { s with heap:=h' } ⟨I.ok,I.os,I.bare,⟨fun b o e n hb hx=>?_,fun b o e n hb hx=>?_,I.base.free,fun b o e hx=>?_,I.base.tups,I.base.frzs,I.base.tbls⟩,⟨m,hn.sameBut hs (Ne.symm (cne x c hc)),fun j y v' e1 e2 e3=>?_⟩,fun y c' e=>?_,I.free,I.freeC,fun p hp=>?_,tracked ⟨oc,hoc,I.freeC x c hc⟩ hs,by simpa using I.len,I.tab⟩ ⟨⟨c,hs,.inr hc⟩,fun z=>absurd (hk.symm.trans z) (by decide)⟩
    · exact (hs.2 b (Nat.ne_of_lt (Nat.lt_of_lt_of_le (Heap.lt_size e) (I.ok.cab x c hfn hc)))).trans (I.base.keep b o e n hb hx)
    · obtain ⟨sl,e1⟩:=I.base.slot b o e n hb hx
      exact ⟨sl,(hs.2 b (Nat.ne_of_lt (Nat.lt_of_lt_of_le (Heap.lt_size e) (I.ok.cab x c hfn hc)))).trans e1⟩
    · obtain ⟨o',e1⟩:=I.base.there b o e hx
      exact ⟨o',(hs.2 b (Nat.ne_of_lt (Nat.lt_of_lt_of_le (Heap.lt_size e) (I.ok.cab x c hfn hc)))).trans e1⟩
    · by_cases hj:j=i
      · subst hj
        rw [hi] at e1;cases e1
        rw [List.getElem?_set_self hiσ] at e2
        cases e2
        exact ⟨u,r,.inr ⟨.inl hk,c,hc,hc'⟩⟩
      · rw [List.getElem?_set_ne (Ne.symm hj)] at e2
        obtain ⟨u',r',q⟩:=hl j y v' e1 e2 e3
        refine ⟨u',r',?_⟩
        rcases q with q | ⟨k,c',e,z'⟩
        · exact .inl q
        · refine .inr ⟨k,c',e,z'.sameBut hs ?_⟩
          rintro rfl
          exact hj (nodup_ix hN e1 (I.ok.inj _ _ _ e hc▸hi))
    · by_cases hcc:c'=c
      · subst hcc;exact ⟨_,hc'⟩
      · obtain ⟨w2,z2⟩:=I.cell y c' e
        exact ⟨w2,z2.sameBut hs hcc⟩
    · obtain ⟨e,n,ne,nf,d⟩:=I.pin p hp
      refine ⟨(hs.2 p.1 ?_).trans e,n,ne,nf,d⟩
      intro q
      rw [q,hoc] at e
      have q':oc=p.2:=Option.some.inj e
      exact d w' (by rw [←q'];exact hocd)
theorem store_ok {M:Model} {A:Around} {E:Value→Shared→Prop} {i:Nat} {x:Str} {v:V} {u:Value} {Q:Unit→Shared→Prop} (I:Inv X pins σ H s) (hN:X.N.Nodup) (hi:X.N[i]?=some x) (hx:Loc X.env.scope x) (r:RelV v u)
    (h:∀ s',Inv X pins (σ.set i (some v)) H s'→Q () s') (hf:X.fn x=true∨X.env.scope.names.lookup x=some .local:=by first | exact .inl rfl | exact .inr rfl | assumption):wpAny M A (storeName X.env x u) Q E s :=
  store_ok2 I hN hi hx r (fun s' I' _=>h s' I') hf
theorem Inv.call' {s':Shared} {ch:List Addr} (I:Inv X pins σ H s) (ho:s'.os=s.os) (u:Un (frs X.stack) ch H H' s.heap s'.heap) (hok:HOk X.prog X.w H' s'.heap) (hg:AllBare s'.gens)
    (hch:∀ b∈ch,(b∈X.ex∨X.s₀.heap.objs.size≤b)∧b≠X.env.locals∧(∀ x c,X.env.cells.lookup x=some c→c≠b)∧∀ p∈X.pn++pins,p.1≠b):Inv X pins σ H' s':=by
  obtain ⟨h',g',d',t',o'⟩:=s'
  have e:o'=s.os:=ho
  subst e
  exact I.call (g':=g') (t':=t') (d':=d') u hok hg hch
end
abbrev XK:=Value→Option Addr→Hp→Prop
abbrev St:=List (Option V)
abbrev VK:=V→Hp→Prop
abbrev TE:=St→Hp→VK→Prop
abbrev TT:=St→Hp→(Bool→Hp→Prop)→Prop
abbrev TA:=St→Hp→(List V→Hp→Prop)→Prop
structure Ends where
  nx:St→Hp→Prop
  rt:VK
  bk:St→Hp→Prop:=fun _ _=>False
  ct:St→Hp→Prop:=fun _ _=>False
abbrev TS:=Ends→St→Hp→Prop
def EP (X:Cx) (pins:List (Addr×Obj)) (σ:St) (Q:VK) (u:Value) (s':Shared):Prop:=∃ v H',Inv X pins σ H' s'∧RelV v u∧Q v H'
def TP (X:Cx) (pins:List (Addr×Obj)) (σ:St) (Q:Bool→Hp→Prop) (b:Bool) (s':Shared):Prop:=∃ H',Inv X pins σ H' s'∧Q b H'
def AP (X:Cx) (pins:List (Addr×Obj)) (σ:St) (Q:List V→Hp→Prop) (us:List Value) (s':Shared):Prop:=∃ vs H',Inv X pins σ H' s'∧Vals vs us∧Q vs H'
def SP (X:Cx) (pins:List (Addr×Obj)) (D:Ends) (f:Flow) (s':Shared):Prop :=
  match f with
  | .next=>∃ σ' H',Inv X pins σ' H' s'∧D.nx σ' H'
  | .brk=>∃ σ' H',Inv X pins σ' H' s'∧D.bk σ' H'
  | .cont=>∃ σ' H',Inv X pins σ' H' s'∧D.ct σ' H'
  | .ret u=>∃ v σ' H',Inv X pins σ' H' s'∧RelV v u∧D.rt v H'
def PE (X:Cx) (e:Expr) (t:TE):Prop :=
  ∀ (pins:List (Addr×Obj)) (s:Shared) (σ:St) (H:Hp) (Q:VK),Inv X pins σ H s→t σ H Q→wpAny (model X.prog X.w) X.A (eval e X.env) (EP X pins σ Q) X.xe s
def PT (X:Cx) (e:Expr) (t:TT):Prop :=
  ∀ (pins:List (Addr×Obj)) (s:Shared) (σ:St) (H:Hp) (Q:Bool→Hp→Prop),Inv X pins σ H s→t σ H Q→wpAny (model X.prog X.w) X.A (isTrue e X.env (eval e X.env)) (TP X pins σ Q) X.xe s
def PW (X:Cx) (e:Expr) (t:TT):Prop :=
  ∀ (whole:Sem Value) (pins:List (Addr×Obj)) (s:Shared) (σ:St) (H:Hp) (Q:Bool→Hp→Prop),Inv X pins σ H s→t σ H Q→wpAny (model X.prog X.w) X.A (isTrue e X.env whole) (TP X pins σ Q) X.xe s
theorem PW.pt {X:Cx} {e:Expr} {t:TT} (h:PW X e t):PT X e t:=h _
def PA (X:Cx) (es:List Expr) (t:TA):Prop :=
  ∀ (pos:Pos) (pins:List (Addr×Obj)) (s:Shared) (σ:St) (H:Hp) (Q:List V→Hp→Prop),Inv X pins σ H s→t σ H Q→wpAny (model X.prog X.w) X.A (spliced (backTo pos (starEach es X.env))) (AP X pins σ Q) X.xe s
def PS (X:Cx) (st:Stmt) (t:TS):Prop :=
  ∀ (pins:List (Addr×Obj)) (s:Shared) (σ:St) (H:Hp) (D:Ends),Inv X pins σ H s→t D σ H→wpAny (model X.prog X.w) X.A (exec st X.env) (SP X pins D) X.xe s
def PSs (X:Cx) (st:List Stmt) (t:TS):Prop :=
  ∀ (pins:List (Addr×Obj)) (s:Shared) (σ:St) (H:Hp) (D:Ends),Inv X pins σ H s→t D σ H→wpAny (model X.prog X.w) X.A (execs st X.env) (SP X pins D) X.xe s
theorem thn {α:Type} {t:Sem α} {Q Q':α→Shared→Prop} {M:Model} {A:Around} {E:Value→Shared→Prop} {s:Shared} (h:wpAny M A t Q E s) (hQ:∀ a s,Q a s→Q' a s):wpAny M A t Q' E s:=wpAny_mono h hQ fun _ _ x=>x
end L2
namespace L2
open PySem PySem.Spec PyProof.Rows
section
variable {X:Cx}
def tVar (i:Nat):TE:=fun σ H Q=>∃ v,σ[i]?=some (some v)∧Q v H
def tC (v:V):TE:=fun _ H Q=>Q v H
theorem pe_var {i:Nat} {x:Str} {pos:Pos} (hN:X.N[i]?=some x) (hv:Vis X.env.scope x) (hd:(x==("__debug__" : Str))=false:=by decide) (hcd:(x==("__classdict__" : Str))=false:=by decide):PE X (.Name x pos) (tVar i):=by
  intro pins s σ H Q I h
  obtain ⟨v,e,h⟩:=h
  obtain ⟨m,hn,hl⟩:=I.loc
  obtain ⟨u,r,l⟩:=hl i x v hN e hv
  have fin:EP X pins σ Q u s:=⟨v,H,I,r,h⟩
  rcases l with ⟨hk,hm⟩ | ⟨hk,c,hc,hcell⟩
  · exact wpAny_Name (wpAny_loadName_local I.ok.kind hk hn hm fin) hd
  · rcases hk with hk | hk
    · exact wpAny_Name (wpAny_loadName_cell I.ok.kind hk hc hcell fin) hd
    · exact wpAny_Name (wpAny_loadName_free I.ok.kind hk hc hcell fin hcd) hd
theorem pe_int {i j pos}:PE X (.Constant (.int i) j pos) (tC (.int i)):=fun _ _ _ H _ I h=>wpAny_Constant_int ⟨.int i,H,I.tok _,⟨_,rfl⟩,h⟩
theorem pe_bl {b j pos}:PE X (.Constant (.bool b) j pos) (tC (.bl b)):=fun _ _ _ H _ I h=>Constant_bool ⟨.bl b,H,I,rfl,h⟩
theorem pe_non {j pos}:PE X (.Constant .none j pos) (tC .non):=fun _ _ _ H _ I h=>Constant_none ⟨.non,H,I,rfl,h⟩
theorem pe_str {x j pos}:PE X (.Constant (.str x) j pos) (tC (.str x)):=fun _ _ _ H _ I h=>Calls.Constant_str ⟨.str x,H,I.tok _,⟨_,rfl⟩,h⟩
def Gl (X:Cx) (x:Str):Prop:=X.env.kindOf x=some .globalImplicit
theorem ld_glob {E:Value→Shared→Prop} {pins:List (Addr×Obj)} {s:Shared} {σ:St} {H:Hp} {x:Str} {u:Value} {pos:Pos} {Q:Value→Shared→Prop} (I:Inv X pins σ H s) (hg:Gl X x) (hm:X.mg x=some u) (h:Q u s)
    (hd:(x==("__debug__" : Str))=false:=by decide):wpAny (model X.prog X.w) X.A (eval (.Name x pos) X.env) Q E s :=
  Calls.Name_function_global I.ok.kind hg (Calls.loadGlobal_global (by rw [I.ok.glob];exact I.mod.glob.keeps I.bk) hm h) hd
theorem ld_blt {E:Value→Shared→Prop} {pins:List (Addr×Obj)} {s:Shared} {σ:St} {H:Hp} {x:Str} {u:Value} {pos:Pos} {Q:Value→Shared→Prop} (I:Inv X pins σ H s) (hg:Gl X x) (hm:X.mg x=none) (hv:bootBuiltins x=some u) (h:Q u s)
    (hn:x ≠ "__name__" := by decide) (hd:(x==("__debug__" : Str))=false:=by decide):wpAny (model X.prog X.w) X.A (eval (.Name x pos) X.env) Q E s:=by
  obtain ⟨mb,h1,h2⟩:=I.mod.blt
  exact Calls.Name_function_global I.ok.kind hg (Calls.loadGlobal_builtin (by rw [I.ok.glob];exact I.mod.glob.keeps I.bk) hm (by rw [I.ok.blt];exact h1.keeps I.bk) ((h2 x hn).trans hv) h) hd
theorem pe_glob {x:Str} {v:V} {u:Value} {pos:Pos} (hg:Gl X x) (hm:X.mg x=some u) (r:RelV v u) (hd:(x==("__debug__" : Str))=false:=by decide):PE X (.Name x pos) (tC v) :=
  fun _ _ _ H _ I h=>ld_glob I hg hm ⟨v,H,I,r,h⟩ hd
theorem pe_bltn {x:Str} {v:V} {u:Value} {pos:Pos} (hg:Gl X x) (hm:X.mg x=none) (hv:bootBuiltins x=some u) (r:RelV v u) (hn:x ≠ "__name__" := by decide) (hd:(x==("__debug__" : Str))=false:=by decide):PE X (.Name x pos) (tC v) :=
  fun _ _ _ H _ I h=>ld_blt I hg hm hv ⟨v,H,I,r,h⟩ hn hd
variable {a b:Expr} {ta tb:TE} {pos:Pos}
def tB (t:TE):TT:=fun σ H Q=>t σ H fun x H1=>∃ c,x=.bl c∧Q c H1
theorem pt_val {e:Expr} {t:TE} (h:PE X e t) (he:∀ whole,isTrue e X.env whole=(do let v ←whole;standAt e.pos;holding [v] (truthy v)):=by intro _;rfl):PT X e (tB t):=by
  intro pins s σ H Q I hw
  refine isTrue_plain (thn (h pins s σ H _ I hw) fun v s1 ⟨x,H1,I1,r1,q1⟩=>?_) (he _)
  obtain ⟨d,rfl,q⟩:=q1
  cases r1
  exact wpAny_truthy_bool ⟨H1,I1,q⟩
variable {tA tB':TT} {rest:List Expr}
def tAnd (t u:TT):TT:=fun σ H Q=>t σ H fun c H1=>if c=true then u σ H1 Q else Q false H1
def tOr (t u:TT):TT:=fun σ H Q=>t σ H fun c H1=>if c=true then Q true H1 else u σ H1 Q
def tNot (t:TT):TT:=fun σ H Q=>t σ H fun c H1=>Q (!c) H1
theorem pw_and1 (ha:PT X a tA):PW X (.BoolOp .And [a] pos) tA:=by
  intro wh pins s σ H Q I h
  refine isTrue_and (thn (ha pins s σ H Q I h) fun c s1 e=>?_)
  cases c with
  | true=>exact isTrue_and_nil e
  | false=>exact e
theorem pw_or1 (ha:PT X a tA):PW X (.BoolOp .Or [a] pos) tA:=by
  intro wh pins s σ H Q I h
  refine isTrue_or (thn (ha pins s σ H Q I h) fun c s1 e=>?_)
  cases c with
  | false=>exact isTrue_or_nil e
  | true=>exact e
theorem pw_and (ha:PT X a tA) (hb:PW X (.BoolOp .And (b :: rest) pos) tB'):PW X (.BoolOp .And (a :: b :: rest) pos) (tAnd tA tB'):=by
  intro wh pins s σ H Q I h
  refine isTrue_and (thn (ha pins s σ H _ I h) fun c s1 ⟨H1,I1,q1⟩=>?_)
  cases c with
  | true=>exact hb wh pins s1 σ H1 Q I1 q1
  | false=>exact ⟨H1,I1,q1⟩
theorem pw_or (ha:PT X a tA) (hb:PW X (.BoolOp .Or (b :: rest) pos) tB'):PW X (.BoolOp .Or (a :: b :: rest) pos) (tOr tA tB'):=by
  intro wh pins s σ H Q I h
  refine isTrue_or (thn (ha pins s σ H _ I h) fun c s1 ⟨H1,I1,q1⟩=>?_)
  cases c with
  | true=>exact ⟨H1,I1,q1⟩
  | false=>exact hb wh pins s1 σ H1 Q I1 q1
theorem pt_not (ha:PT X a tA):PT X (.UnaryOp .Not a pos) (tNot tA):=by
  intro pins s σ H Q I h
  exact isTrue_not (ha pins s σ H (fun c H1=>Q (!c) H1) I h)
def tAndV (ta tb:TE):TE:=fun σ H Q=>ta σ H fun x H1=>∃ c,x=.bl c∧if c=true then tb σ H1 Q else Q (.bl false) H1
def tOrV (ta tb:TE):TE:=fun σ H Q=>ta σ H fun x H1=>∃ c,x=.bl c∧if c=true then Q (.bl true) H1 else tb σ H1 Q
def tNotV (ta:TE):TE:=fun σ H Q=>ta σ H fun x H1=>∃ c,x=.bl c∧Q (.bl (!c)) H1
theorem pe_one {op} {t:TE} (h:PE X a t):PE X (.BoolOp op [a] pos) t:=fun pins s σ H Q I hw=>BoolOp_one (h pins s σ H Q I hw)
theorem pe_and (ha:PE X a ta) (hb:PE X (.BoolOp .And (b :: rest) pos) tb):PE X (.BoolOp .And (a :: b :: rest) pos) (tAndV ta tb):=by
  intro pins s σ H Q I h
  refine BoolOp_and (thn (ha pins s σ H _ I h) fun v s1 ⟨x,H1,I1,r1,q1⟩=>?_)
  obtain ⟨c,rfl,q1⟩:=q1
  cases r1
  refine wpAny_truthy_bool ?_
  cases c with
  | true=>exact hb pins s1 σ H1 Q I1 q1
  | false=>exact ⟨.bl false,H1,I1,rfl,q1⟩
theorem pe_or (ha:PE X a ta) (hb:PE X (.BoolOp .Or (b :: rest) pos) tb):PE X (.BoolOp .Or (a :: b :: rest) pos) (tOrV ta tb):=by
  intro pins s σ H Q I h
  refine BoolOp_or (thn (ha pins s σ H _ I h) fun v s1 ⟨x,H1,I1,r1,q1⟩=>?_)
  obtain ⟨c,rfl,q1⟩:=q1
  cases r1
  refine wpAny_truthy_bool ?_
  cases c with
  | false=>exact hb pins s1 σ H1 Q I1 q1
  | true=>exact ⟨.bl true,H1,I1,rfl,q1⟩
theorem pe_not (ha:PE X a ta):PE X (.UnaryOp .Not a pos) (tNotV ta):=by
  intro pins s σ H Q I h
  refine UnaryOp_ (thn (ha pins s σ H _ I h) fun v s1 ⟨x,H1,I1,r1,q1⟩=>?_)
  obtain ⟨c,rfl,q1⟩:=q1
  cases r1
  exact not_of (wpAny_truthy_bool ⟨.bl (!c),H1,I1,rfl,q1⟩)
end
end L2
namespace L2
open PySem PySem.Spec PyProof.Rows
def SqL (K:PySem.W.Frag) (H:Hp) (a:Addr) (xs:List V):Prop :=
  Rd H a (.lst xs) ∨
    ∃ (o:Obj) (its:Array Value) (n:Nat),K.lookup a=some o∧o.cls=.type "list" ∧ o.dict=none∧o.data=.seq its n∧its.size≤sizeLine∧Vals xs its.toList
def SqT (K:PySem.W.Frag) (H:Hp) (a:Addr) (xs:List V):Prop :=
  Rd H a (.tup xs) ∨
    ∃ (o:Obj) (its:Array Value) (n:Nat),K.lookup a=some o∧o.cls=.type "tuple" ∧ o.data=.seq its n∧its.size≤sizeLine∧Vals xs its.toList
def absV:Value→Option V
  | .none=>some .non
  | .bool b=>some (.bl b)
  | .int i _=>some (.int i)
  | .str x _=>some (.str x)
  | .bytes b _=>some (.byt b)
  | .float b _=>some (.flt b)
  | .ref a=>some (.ref a)
  | .type n=>some (.ty n)
  | _=>none
theorem RelV.abs {x:V} {u:Value} (r:RelV x u):absV u=some x:=by
  cases x with
  | non=>cases r;rfl
  | bl _=>cases r;rfl
  | int _=>obtain ⟨t,rfl⟩:=r;rfl
  | str _=>obtain ⟨t,rfl⟩:=r;rfl
  | byt _=>obtain ⟨t,rfl⟩:=r;rfl
  | flt _=>obtain ⟨t,rfl⟩:=r;rfl
  | ref _=>cases r;rfl
  | ty _=>cases r;rfl
theorem RelV.inj {x y:V} {u:Value} (r:RelV x u) (q:RelV y u):x=y:=Option.some.inj (r.abs.symm.trans q.abs)
theorem Vals.inj:∀ {xs ys:List V} {us:List Value},Vals xs us→Vals ys us→xs=ys
  | _,_,_,.nil,.nil=>rfl
  | _,_,_,.cons r t,.cons r' t'=>by rw [r.inj r',Vals.inj t t']
section
variable {X:Cx} {pins:List (Addr×Obj)} {σ:St} {H:Hp} {s:Shared} {a:Addr} {xs ys:List V}
theorem SqL.of {K:PySem.W.Frag} (h:H a=some (.lst xs)):SqL K H a xs:=.inl (.inl h)
theorem SqT.of {K:PySem.W.Frag} (h:H a=some (.tup xs)):SqT K H a xs:=.inl (.inl h)
theorem Inv.list (I:Inv X pins σ H s) (h:SqL X.K H a xs):∃ its:List Value,Vals xs its∧PlainL s.heap a its.toArray∧xs.length≤sizeLine:=by
  rcases h with h | ⟨o,its,n,hk,hc,hd,hs,hz,r⟩
  · obtain ⟨z,its,n,r,e⟩:=h.ok I.hok
    exact ⟨its,r,⟨_,n,e,rfl,rfl,rfl⟩,z⟩
  · refine ⟨its.toList,r,⟨o,n,I.kIn a o hk,hc,hd,by simpa using hs⟩,?_⟩
    have e:=r.length
    simp only [Array.length_toList] at e
    lia
theorem Inv.tuple (I:Inv X pins σ H s) (h:SqT X.K H a xs):∃ its:List Value,Vals xs its∧IsTup s.heap a its.toArray∧xs.length≤sizeLine:=by
  rcases h with h | ⟨o,its,n,hk,hc,hs,hz,r⟩
  · obtain ⟨z,its,r,p⟩:=h.ok I.hok
    exact ⟨its,r,p,z⟩
  · refine ⟨its.toList,r,⟨o,I.kIn a o hk,hc,n,by simpa using hs⟩,?_⟩
    have e:=r.length
    simp only [Array.length_toList] at e
    lia
theorem Inv.list_inj (I:Inv X pins σ H s) (h:SqL X.K H a xs) (h':SqL X.K H a ys):xs=ys:=by
  obtain ⟨its,r,⟨o,n,e,_,_,d⟩,_⟩:=I.list h
  obtain ⟨its',r',⟨o',n',e',_,_,d'⟩,_⟩:=I.list h'
  rw [e] at e';cases e'
  rw [d] at d'
  injection d' with d1 _
  have:its=its':=by simpa using congrArg Array.toList d1
  subst this
  exact r.inj r'
theorem Inv.tuple_inj (I:Inv X pins σ H s) (h:SqT X.K H a xs) (h':SqT X.K H a ys):xs=ys:=by
  obtain ⟨its,r,⟨o,e,_,n,d⟩,_⟩:=I.tuple h
  obtain ⟨its',r',⟨o',e',_,n',d'⟩,_⟩:=I.tuple h'
  rw [e] at e';cases e'
  rw [d] at d'
  injection d' with d1 _
  have:its=its':=by simpa using congrArg Array.toList d1
  subst this
  exact r.inj r'
end
abbrev Cx.wish (X:Cx) (E:Value→Shared→Prop):Cx:={ X with xe:=E }
abbrev Cx.nox (X:Cx):Cx:=X.wish fun _ _=>False
theorem Cx.Ok.wish {X:Cx} (ok:X.Ok) (E:Value→Shared→Prop):(X.wish E).Ok :=
  ⟨ok.mod,ok.kind,ok.glob,ok.blt,ok.above,ok.inj,ok.has,ok.cab,ok.hd,ok.frames,ok.stk,ok.exf,ok.bs,ok.bsz,ok.noex,ok.exfs,ok.funs,ok.frf⟩
theorem Cx.Ok.unwish {X:Cx} {E:Value→Shared→Prop} (ok:(X.wish E).Ok):X.Ok :=
  ⟨ok.mod,ok.kind,ok.glob,ok.blt,ok.above,ok.inj,ok.has,ok.cab,ok.hd,ok.frames,ok.stk,ok.exf,ok.bs,ok.bsz,ok.noex,ok.exfs,ok.funs,ok.frf⟩
section
variable {X:Cx} {pins:List (Addr×Obj)} {σ:St} {H:Hp} {s:Shared} {E:Value→Shared→Prop}
theorem Inv.wish (I:Inv X pins σ H s) (E:Value→Shared→Prop):Inv (X.wish E) pins σ H s:=⟨I.ok.wish E,I.os,I.bare,I.base,I.loc,I.cell,I.free,I.freeC,I.pin,I.hok,I.len,I.tab⟩
theorem Inv.unwish (I:Inv (X.wish E) pins σ H s):Inv X pins σ H s:=⟨I.ok.unwish,I.os,I.bare,I.base,I.loc,I.cell,I.free,I.freeC,I.pin,I.hok,I.len,I.tab⟩
theorem SP.unwish {D:Ends} {f:Flow} {s':Shared} (h:SP (X.wish E) pins D f s'):SP X pins D f s':=by
  cases f with
  | next=>obtain ⟨σ',H',I,q⟩:=h;exact ⟨σ',H',I.unwish,q⟩
  | brk=>obtain ⟨σ',H',I,q⟩:=h;exact ⟨σ',H',I.unwish,q⟩
  | cont=>obtain ⟨σ',H',I,q⟩:=h;exact ⟨σ',H',I.unwish,q⟩
  | ret u=>obtain ⟨v,σ',H',I,r,q⟩:=h;exact ⟨v,σ',H',I.unwish,r,q⟩
theorem PE.nox {e:Expr} {t:TE} (h:PE X.nox e t):PE X e t:=fun pins s σ H Q I hw =>
  wpAny_mono (h pins s σ H Q (I.wish _) hw) (fun _ _ ⟨v,H',I',r,q⟩=>⟨v,H',I'.unwish,r,q⟩) fun _ _ z=>False.elim z
theorem PT.nox {e:Expr} {t:TT} (h:PT X.nox e t):PT X e t:=fun pins s σ H Q I hw =>
  wpAny_mono (h pins s σ H Q (I.wish _) hw) (fun _ _ ⟨H',I',q⟩=>⟨H',I'.unwish,q⟩) fun _ _ z=>False.elim z
theorem PSs.nox {st:List Stmt} {t:TS} (h:PSs X.nox st t):PSs X st t:=fun pins s σ H D I hw =>
  wpAny_mono (h pins s σ H D (I.wish _) hw) (fun _ _ q=>q.unwish) fun _ _ z=>False.elim z
end
section
variable {X:Cx} {st:Stmt} {rest:List Stmt} {t u:TS} {e:Expr} {te:TE} {pos:Pos}
def tNext:TS:=fun D σ H=>D.nx σ H
def tSeq (t u:TS):TS:=fun D σ H=>t { D with nx:=u D } σ H
theorem pss_nil:PSs X [] tNext:=fun _ _ σ H _ I h=>wpAny_execs_nil ⟨σ,H,I,h⟩
theorem pss_cons (h1:PS X st t) (h2:PSs X rest u):PSs X (st :: rest) (tSeq t u):=by
  intro pins s σ H D I h
  refine wpAny_execs_cons (thn (h1 pins s σ H { D with nx:=u D } I h) fun f s1 q=>?_)
  cases f with
  | next =>
    obtain ⟨σ',H',I',q⟩:=q
    exact h2 pins s1 σ' H' D I' q
  | ret v=>exact q
  | brk=>exact q
  | cont=>exact q
theorem pss_one (h1:PS X st t):PSs X [st] t:=by
  intro pins s σ H D I h
  refine wpAny_execs_cons (thn (h1 pins s σ H D I h) fun f s1 q=>?_)
  cases f with
  | next=>exact wpAny_execs_nil q
  | ret v=>exact q
  | brk=>exact q
  | cont=>exact q
theorem Inv.quiet {pins:List (Addr×Obj)} {σ:St} {H:Hp} {s:Shared} (I:Inv X pins σ H s):interactive X.env=false:=by simp [interactive,I.ok.kind]
def tDrop (te:TE):TS:=fun D σ H=>te σ H fun _ H1=>D.nx σ H1
theorem ps_expr (he:PE X e te) (hs:swapsWith e none pos.line X.env=pure false:=by rfl):PS X (.Expr e pos) (tDrop te):=by
  intro pins s σ H D I h
  exact wpAny_Expr_any (thn (he pins s σ H _ I h) fun v s1 ⟨x,H1,I1,r1,q1⟩=>⟨σ,H1,I1,q1⟩) I.quiet hs
def tRet (te:TE):TS:=fun D σ H=>te σ H D.rt
theorem ps_ret (he:PE X e te):PS X (.Return (some e) pos) (tRet te):=by
  intro pins s σ H D I h
  exact wpAny_Return_some (thn (he pins s σ H _ I h) fun v s1 ⟨x,H1,I1,r1,q1⟩=>⟨x,σ,H1,I1,r1,q1⟩)
def tIfS (c:TT) (t u:TS):TS:=fun D σ H=>c σ H fun b H1=>if b=true then t D σ H1 else u D σ H1
theorem ps_if {c:Expr} {a b:List Stmt} {tc:TT} (hc:PT X c tc) (ha:PSs X a t) (hb:PSs X b u):PS X (.If c a b pos) (tIfS tc t u):=by
  intro pins s σ H D I h
  refine wpAny_If (thn (hc pins s σ H _ I h) fun d s1 ⟨H1,I1,q1⟩=>?_)
  cases d with
  | true=>exact ha pins s1 σ H1 D I1 q1
  | false=>exact hb pins s1 σ H1 D I1 q1
end
abbrev TG:=V→St→Hp→(St→Hp→Prop)→Prop
abbrev TGs:=List V→St→Hp→(St→Hp→Prop)→Prop
def PG (X:Cx) (target:Expr) (t:TG):Prop :=
  ∀ (pins:List (Addr×Obj)) (s:Shared) (σ:St) (H:Hp) (v:V) (u:Value) (Q:St→Hp→Prop),Inv X pins σ H s→RelV v u→t v σ H Q →
    wpAny (model X.prog X.w) X.A (assign target X.env u) (fun _ s'=>∃ σ' H',Inv X pins σ' H' s'∧Q σ' H') X.xe s
def PGs (X:Cx) (ts:List Expr) (t:TGs):Prop :=
  ∀ (pins:List (Addr×Obj)) (s:Shared) (σ:St) (H:Hp) (vs:List V) (us:List Value) (Q:St→Hp→Prop),Inv X pins σ H s→Vals vs us→t vs σ H Q →
    wpAny (model X.prog X.w) X.A (assignInOrder ((assignEach ts X.env).map (·.2)) us) (fun _ s'=>∃ σ' H',Inv X pins σ' H' s'∧Q σ' H') X.xe s
abbrev TSet:=V→V→V→Hp→(Hp→Prop)→Prop
def PSet (X:Cx) (t:TSet):Prop :=
  ∀ (pins:List (Addr×Obj)) (s:Shared) (σ:St) (H:Hp) (o i v:V) (ov iv u:Value) (Q:Hp→Prop),Inv X pins σ H s→RelV o ov→RelV i iv→RelV v u→t o i v H Q →
    wpAny (model X.prog X.w) X.A (setItem ov iv u) (fun _ s'=>∃ H',Inv X pins σ H' s'∧Q H') X.xe s
section
variable {X:Cx} {pos:Pos}
def gName (i:Nat):TG:=fun v σ H Q=>Q (σ.set i (some v)) H
theorem pg_name {i:Nat} {x:Str} (hN:X.N.Nodup) (hi:X.N[i]?=some x) (hx:Loc X.env.scope x) (hf:X.fn x=true∨X.env.scope.names.lookup x=some .local:=by first | exact .inl rfl | exact .inr rfl | assumption):PG X (.Name x pos) (gName i):=by
  intro pins s σ H v u Q I r h
  exact wpAny_assign_Name (store_ok I hN hi hx r (fun s' I'=>⟨_,H,I',h⟩) hf)
def gNil:TGs:=fun vs σ H Q=>vs=[]∧Q σ H
def gCons (t:TG) (u:TGs):TGs:=fun vs σ H Q=>∃ v r,vs=v :: r∧t v σ H fun σ' H'=>u r σ' H' Q
theorem pgs_nil:PGs X [] gNil:=by
  intro pins s σ H vs us Q I r h
  obtain ⟨e,h⟩:=h
  subst e
  cases r
  exact assignInOrder_nil ⟨σ,H,I,h⟩
theorem pgs_cons {e:Expr} {es:List Expr} {t:TG} {u:TGs} (h1:PG X e t) (h2:PGs X es u)
    (hs:(assignEach (e :: es) X.env).map (·.2)=assign e X.env :: (assignEach es X.env).map (·.2):=by rfl):PGs X (e :: es) (gCons t u):=by
  intro pins s σ H vs us Q I r h
  obtain ⟨v,vr,e1,h⟩:=h
  subst e1
  cases r with
  | cons r rr =>
    rw [hs]
    refine assignInOrder_cons (thn (h1 pins s σ H _ _ _ I r h) fun _ s1 ⟨σ1,H1,I1,q1⟩=>?_)
    exact h2 pins s1 σ1 H1 _ _ Q I1 rr q1
def gTup (K:PySem.W.Frag) (n:Nat) (t:TGs):TG:=fun v σ H Q=>∃ a xs,v=.ref a∧SqT K H a xs∧xs.length=n∧t xs σ H Q
theorem pg_tup {es:List Expr} {k:Nat} {t:TGs} {n:Nat} (hc:X.calm=true) (h:PGs X es t)
    (hn:(assignEach es X.env).length=n:=by rfl) (hst:(assignEach es X.env).findIdx? (·.1)=none:=by rfl):PG X (.Tuple es k pos) (gTup X.K n t):=by
  intro pins s σ H v u Q I r hw
  obtain ⟨a,xs,e1,hq,hl,hw⟩:=hw
  subst e1
  cases r
  obtain ⟨its,rv,ht,hz⟩:=I.tuple hq
  refine assign_Tuple_tuple (I.ok.hd hc) ht (by simp [hn,←hl,rv.length]) hst fun h' hx=>?_
  have I1:Inv X pins σ H { s with heap:=h' }:=I.kept (t':=s.toks) fun b o e=>hx b o (Nat.ne_of_lt (Heap.lt_size e)) e
  exact h pins _ σ H xs _ Q I1 (by simpa using rv) hw
def gSub (to ti:TE) (t:TSet):TG:=fun v σ H Q=>to σ H fun o H1=>ti σ H1 fun i H2=>t o i v H2 fun H3=>Q σ H3
theorem pg_sub {o i:Expr} {to ti:TE} {t:TSet} (ho:PE X o to) (hi:PE X i ti) (hs:PSet X t)
    (ha:∀ v,assign (.Subscript o i pos) X.env v=(do
      let ov ←holding [v] (eval o X.env)
      let iv ←holding [v,ov] (eval i X.env)
      standAt pos
      holding [v,ov,iv] (setItem ov iv v)
      release [v,ov,iv] []):=by intro _;rfl):PG X (.Subscript o i pos) (gSub to ti t):=by
  intro pins s σ H v u Q I r h
  rw [ha]
  refine wpAny_bind (wpAny_holding (thn (ho pins s σ H _ I h) fun ov s1 ⟨x,H1,I1,r1,q1⟩=>?_))
  refine wpAny_bind (wpAny_holding (thn (hi pins s1 σ H1 _ I1 q1) fun iv s2 ⟨y,H2,I2,r2,q2⟩=>?_))
  refine wpAny_bind (wpAny_standAt (wpAny_bind (wpAny_holding (thn (hs pins s2 σ H2 x y v ov iv u _ I2 r1 r2 r q2) fun _ s3 ⟨H3,I3,q3⟩=>?_))))
  exact wpAny_release ⟨σ,H3,I3,q3⟩
def tAsg (te:TE) (g:TG):TS:=fun D σ H=>te σ H fun x H1=>g x σ H1 D.nx
theorem ps_asg {tg e:Expr} {te:TE} {g:TG} (he:PE X e te) (hg:PG X tg g) (hs:swapsWithSole [tg] e pos.line X.env=pure false:=by rfl) (hw:swappedStores [tg] e X.env=pure none:=by rfl)
    (h1:(assignEach [tg] X.env).map (·.2)=[assign tg X.env]:=by rfl):PS X (.Assign [tg] e pos) (tAsg te g):=by
  intro pins s σ H D I h
  refine wpAny_Assign_stores (thn (he pins s σ H _ I h) fun v s1 ⟨x,H1,I1,r1,q1⟩=>?_) hs hw
  rw [h1]
  exact thn (hg pins s1 σ H1 x v _ I1 r1 q1) fun _ s2 q=>q
theorem ps_set {i:Nat} {x:Str} {e:Expr} {te:TE} {pos':Pos} (hN:X.N.Nodup) (hi:X.N[i]?=some x) (hx:Loc X.env.scope x) (he:PE X e te) (hs:swapsWith e (some (.Name x pos')) pos.line X.env=pure false:=by rfl) (hf:X.fn x=true∨X.env.scope.names.lookup x=some .local:=by first | exact .inl rfl | exact .inr rfl | assumption) :
    PS X (.Assign [.Name x pos'] e pos) (tAsg te (gName i)):=by
  intro pins s σ H D I h
  refine wpAny_Assign_Name (thn (he pins s σ H _ I h) fun v s1 ⟨y,H1,I1,r1,q1⟩=>?_) hs
  exact store_ok I1 hN hi hx r1 (fun s2 I2=>⟨_,H1,I2,q1⟩) hf
end
section
variable {X:Cx} {pos:Pos}
end
structure It where
  go:Nat→Hp→Prop
  yld:Nat→Hp→V→Hp→Prop
  stop:Nat→Hp→Prop
def FpOk (X:Cx) (pins:List (Addr×Obj)) (H:Hp) (b:Addr):Prop :=
  H b=none∧b≠X.env.locals∧b∉X.fs∧(b∈X.ex∨X.s₀.heap.objs.size≤b)∧(∀ x c,X.env.cells.lookup x=some c→c≠b)∧∀ p∈X.pn++pins,p.1≠b
theorem Inv.fpOk {X:Cx} {pins:List (Addr×Obj)} {σ:St} {H H':Hp} {s:Shared} {b:Addr} (I:Inv X pins σ H s) (hb:s.heap.objs.size≤b) (hn:H' b=none):FpOk X pins H' b:=by
  refine ⟨hn,Nat.ne_of_gt (Nat.lt_of_lt_of_le I.lt hb),I.nofs hb,.inr (Nat.le_trans I.sz hb),fun x c e z=>?_,fun p hp z=>?_⟩
  · obtain ⟨v,q⟩:=I.cell x c e
    exact absurd (Nat.lt_of_lt_of_le q.lt (by rw [z];exact hb)) (Nat.lt_irrefl _)
  · exact absurd (Nat.lt_of_lt_of_le (Heap.lt_size (I.pin p hp).1) (by rw [z];exact hb)) (Nat.lt_irrefl _)
structure Turn (P:Program) (w:World) (K:PySem.W.Frag) (tg:Expr) (J:It) (fp:List Addr) (it:Addr) (tn:Nat→Heap→Prop):Prop where
  mem:it∈fp
  obj:∀ i h,tn i h→∀ b∈fp,∃ o,h.get? b=some o∧∀ v,o.data≠.cell v
  keep:∀ i h h',tn i h→(∀ b∈fp,∀ o,h.get? b=some o→h'.get? b=some o)→tn i h'
  item:∀ (X:Cx),X.prog=P→X.w=w→X.K=K→X.calm=true→∀ (i:Nat) (pins:List (Addr×Obj)) (s:Shared) (σ:St) (H:Hp) (E:Value→Shared→Prop),Inv X pins σ H s→(∀ b∈fp,FpOk X pins H b)→tn i s.heap→J.go i H →
    wpAny (model P w) X.A (pyNext (.ref it)) (fun r s1=>∃ u,r=some u ∧
      wpAny (model P w) X.A (letOwnedTupleGo tg (.ref it) u) (fun _ s2=>∃ x H',Inv X pins σ H' s2∧RelV x u∧J.yld i H x H'∧tn (i+1) s2.heap∧∀ b∈fp,H' b=none) E s1) E s
  done:∀ (X:Cx),X.prog=P→X.w=w→X.K=K→X.calm=true→∀ (i:Nat) (pins:List (Addr×Obj)) (s:Shared) (σ:St) (H:Hp) (E:Value→Shared→Prop),Inv X pins σ H s→(∀ b∈fp,FpOk X pins H b)→tn i s.heap→J.stop i H →
    wpAny (model P w) X.A (pyNext (.ref it)) (fun r s1=>r=none∧Inv X pins σ H s1) E s
  self:∀ (A:Around) (i:Nat) (s:Shared) (Q:Value→Shared→Prop) (E:Value→Shared→Prop),tn i s.heap→Q (.ref it) s→wpAny (model P w) A (pyIter (.ref it)) Q E s
abbrev TI:=St→Hp→(It→Hp→Prop)→Prop
def PIE (X:Cx) (pins:List (Addr×Obj)) (σ:St) (tg:Expr) (R:It→Hp→Prop) (itv:Value) (s2:Shared):Prop :=
  ∃ (it:Addr) (fp:List Addr) (tn:Nat→Heap→Prop) (J:It) (H':Hp),itv=.ref it∧Inv X pins σ H' s2∧Turn X.prog X.w X.K tg J fp it tn∧tn 0 s2.heap∧(∀ b∈fp,FpOk X pins H' b)∧R J H'
def PI (X:Cx) (tg iter:Expr) (wi:TI):Prop :=
  ∀ (pins:List (Addr×Obj)) (s:Shared) (σ:St) (H:Hp) (R:It→Hp→Prop),Inv X pins σ H s→wi σ H R →
    wpAny (model X.prog X.w) X.A (eval iter X.env) (fun v s1=>wpAny (model X.prog X.w) X.A (pyIter v) (PIE X pins σ tg R) X.xe s1) X.xe s
theorem go_of {M : Model} {A : Around} {E : Value → Shared → Prop} {s : Shared} {tg : Expr} {it : Addr} {u : Value} {o : Obj} {n : String} {vs : Array Value} {Q : Unit → Shared → Prop} (ho : s.heap.get? it = some o) (hc : o.cls = .type n) (hd : o.data = .fields vs)
    (hn:["enumerate", "zip", "dict_itemiterator", "dict_reverseitemiterator", "odict_iterator", "itertools.zip_longest", "itertools.pairwise"].contains n=false) (hQ:Q () s):wpAny M A (letOwnedTupleGo tg (.ref it) u) Q E s:=by
  unfold letOwnedTupleGo
  cases tg <;> first
    | exact wpAny_pure hQ
    | (cases u<;>first
        | exact wpAny_pure hQ
        | (refine wpAny_bind (wpAny_load ho ?_)
           rw [hc,hd]
           show wpAny M A (if (["enumerate", "zip", "dict_itemiterator", "dict_reverseitemiterator", "odict_iterator", "itertools.zip_longest", "itertools.pairwise"].contains n&&vs[0]?==some (rawInt _))=true then _ else _) Q E s
           rw [if_neg (by intro h;rw [hn,Bool.false_and] at h;cases h)]
           exact wpAny_pure hQ))
def Itl (K:PySem.W.Frag) (a:Addr):It :=
  ⟨fun i H=>∃ xs x,SqL K H a xs∧xs[i]?=some x,fun i H x H'=>H'=H∧∀ xs,SqL K H a xs→xs[i]?=some x,fun i H=>∃ xs,SqL K H a xs∧xs.length≤i⟩
def Itt (K:PySem.W.Frag) (a:Addr):It :=
  ⟨fun i H=>∃ xs x,SqT K H a xs∧xs[i]?=some x,fun i H x H'=>H'=H∧∀ xs,SqT K H a xs→xs[i]?=some x,fun i H=>∃ xs,SqT K H a xs∧xs.length≤i⟩
def Itr (lo:Int) (n:Nat):It:=⟨fun i _=>i < n,fun i H x H'=>H'=H∧x=.int (lo+i),fun i _=>n≤i⟩
theorem turn_list {P:Program} {w:World} {K:PySem.W.Frag} {tg:Expr} (a it:Addr):Turn P w K tg (Itl K a) [it] it (fun i h=>h.IsListIter it a i) where
  mem:=by simp
  obj:=fun i h st b hb=>by
    have e:b=it:=by simpa using hb
    subst e
    obtain ⟨o,e,c,d⟩:=st
    exact ⟨o,e,fun v z=>by rw [d] at z;cases z⟩
  keep:=fun i h h' st k=>st.at fun o e=>k it (by simp) o e
  item:=by
    intro X hP hw hK hc i pins s σ H E I hf st hg
    subst hP hw hK
    obtain ⟨xs,x,hq,hx⟩:=hg
    obtain ⟨its,rv,p,hz⟩:=I.list hq
    obtain ⟨u,hu,ru⟩:=rv.get hx
    obtain ⟨f0,f1,f2,f3,f4,f5⟩:=hf it (by simp)
    refine wpAny_pyNext_list_item st p.isList (x:=u) (by simpa using hu) fun h' st' sb=>?_
    have I1:Inv X pins σ H { s with heap:=h' }:=I.turned (t':=s.toks) (fun b o hb e=>(sb.2 b hb).trans e) f0 f1 f3 f4 f5
    obtain ⟨o,e,c,d⟩:=id st'
    exact ⟨u,rfl,go_of (s:={ s with heap:=h' }) e c d (by decide) ⟨x,H,I1,ru,⟨rfl,fun ys hy=>by rw [I.list_inj hy hq];exact hx⟩,st',fun b hb=>(hf b hb).1⟩⟩
  done:=by
    intro X hP hw hK hc i pins s σ H E I hf st hg
    subst hP hw hK
    obtain ⟨xs,hq,hx⟩:=hg
    obtain ⟨its,rv,p,hz⟩:=I.list hq
    obtain ⟨f0,f1,f2,f3,f4,f5⟩:=hf it (by simp)
    have hl:=rv.length
    exact wpAny_pyNext_list_end (I.ok.hd hc) st p.isList (by simp;lia) fun h' eb=>⟨rfl,I.turned (t':=s.toks) (fun b o hb e=>eb b o hb e) f0 f1 f3 f4 f5⟩
  self:=fun _ _ _ _ _ st h=>wpAny_pyIter_listiter st h
theorem turn_tuple {P:Program} {w:World} {K:PySem.W.Frag} {tg:Expr} (a it:Addr):Turn P w K tg (Itt K a) [it] it (fun i h=>h.IsTupleIter it a i) where
  mem:=by simp
  obj:=fun i h st b hb=>by
    have e:b=it:=by simpa using hb
    subst e
    obtain ⟨o,e,c,d⟩:=st
    exact ⟨o,e,fun v z=>by rw [d] at z;cases z⟩
  keep:=fun i h h' st k=>st.at fun o e=>k it (by simp) o e
  item:=by
    intro X hP hw hK hc i pins s σ H E I hf st hg
    subst hP hw hK
    obtain ⟨xs,x,hq,hx⟩:=hg
    obtain ⟨its,rv,p,hz⟩:=I.tuple hq
    obtain ⟨u,hu,ru⟩:=rv.get hx
    obtain ⟨f0,f1,f2,f3,f4,f5⟩:=hf it (by simp)
    refine wpAny_pyNext_tuple_item st (show s.heap.IsTuple a its.toArray from p) (x:=u) (by simpa using hu) fun h' st' sb=>?_
    have I1:Inv X pins σ H { s with heap:=h' }:=I.turned (t':=s.toks) (fun b o hb e=>(sb.2 b hb).trans e) f0 f1 f3 f4 f5
    obtain ⟨o,e,c,d⟩:=id st'
    exact ⟨u,rfl,go_of (s:={ s with heap:=h' }) e c d (by decide) ⟨x,H,I1,ru,⟨rfl,fun ys hy=>by rw [I.tuple_inj hy hq];exact hx⟩,st',fun b hb=>(hf b hb).1⟩⟩
  done:=by
    intro X hP hw hK hc i pins s σ H E I hf st hg
    subst hP hw hK
    obtain ⟨xs,hq,hx⟩:=hg
    obtain ⟨its,rv,p,hz⟩:=I.tuple hq
    obtain ⟨f0,f1,f2,f3,f4,f5⟩:=hf it (by simp)
    have hl:=rv.length
    exact wpAny_pyNext_tuple_end (I.ok.hd hc) st (show s.heap.IsTuple a its.toArray from p) (by simp;lia) fun h' eb=>⟨rfl,I.turned (t':=s.toks) (fun b o hb e=>eb b o hb e) f0 f1 f3 f4 f5⟩
  self:=fun _ _ _ _ _ st h=>wpAny_pyIter_tupleiter st h
theorem turn_range {P:Program} {w:World} {K:PySem.W.Frag} {tg:Expr} (it:Addr) (lo:Int) (n:Nat):Turn P w K tg (Itr lo n) [it] it (fun i h=>IsRangeIter h it (lo+(i:Nat)*1) ((n:Int)-(i:Nat)) 1) where
  mem:=by simp
  obj:=fun i h st b hb=>by
    have e:b=it:=by simpa using hb
    subst e
    exact ⟨_,st,fun v z=>by
      have z':Data.fields _=Data.cell v:=z
      cases z'⟩
  keep:=fun i h h' st k=>k it (by simp) _ st
  item:=by
    intro X hP hw hK hc i pins s σ H E I hf st hg
    subst hP hw hK
    obtain ⟨f0,f1,f2,f3,f4,f5⟩:=hf it (by simp)
    have W:=Walks.range (prog:=X.prog) (w:=X.w) (I.ok.hd hc) it lo 1 n
    refine W.item i s _ _ hg st fun v h' tk hv st' kk=>?_
    obtain ⟨t,rfl⟩:=hv
    have I1:Inv X pins σ H { s with heap:=h',toks:=tk }:=I.turned (fun b o hb e=>kk b o (by simpa using hb) e) f0 f1 f3 f4 f5
    refine ⟨_,rfl,go_of (s:={ s with heap:=h',toks:=tk }) (n := "range_iterator") st' rfl rfl (by decide) ⟨.int (lo+i),H,I1,⟨t,?_⟩,⟨rfl,rfl⟩,st',fun b hb=>(hf b hb).1⟩⟩
    rw [Int.mul_one]
  done:=by
    intro X hP hw hK hc i pins s σ H E I hf st hg
    subst hP hw hK
    obtain ⟨f0,f1,f2,f3,f4,f5⟩:=hf it (by simp)
    exact wpAny_pyNext_range_end (I.ok.hd hc) st (by have:n≤i:=hg;lia) fun h' eb=>⟨rfl,I.turned (t':=s.toks) (fun b o hb e=>eb b o hb e) f0 f1 f3 f4 f5⟩
  self:=fun _ _ _ _ _ st h=>wpAny_pyIter_rangeiter st h
end L2
namespace L2
open PySem PySem.Spec PyProof.Rows
section
variable {X:Cx} {tg:Expr}
def iRng1 (ta:TA):TI:=fun σ H R=>ta σ H fun vs H1=>∃ j:Int,vs=[.int j]∧-(2 ^ 62)≤j∧j < 2 ^ 62∧R (Itr 0 j.toNat) H1
def tFor (wi:TI) (g:TG) (tb:TS):TS:=fun D σ H=>wi σ H fun J H1=>∃ W:Nat→Nat→St→Hp→Prop,(∃ m,W 0 m σ H1)∧∀ i m σ H,W i m σ H →
  (J.stop i H∧D.nx σ H)∨(J.go i H∧∃ N:St→Hp→Prop,(∀ σ' H',N σ' H'→∃ m',m' < m∧W (i+1) m' σ' H')∧∀ x H',J.yld i H x H'→g x σ H' fun σ2 H2=>tb { D with nx:=N,ct:=N,bk:=D.nx } σ2 H2)
def pinsAt (fp:List Addr) (h:Heap):List (Addr×Obj):=fp.filterMap fun b=>(h.get? b).map fun o=>(b,o)
theorem mem_pinsAt {fp:List Addr} {h:Heap} {b:Addr} {o:Obj} (hb:b∈fp) (e:h.get? b=some o):(b,o)∈pinsAt fp h:=List.mem_filterMap.mpr ⟨b,hb,by rw [e];rfl⟩
theorem of_pinsAt {fp:List Addr} {h:Heap} {p:Addr×Obj} (hp:p∈pinsAt fp h):p.1∈fp∧h.get? p.1=some p.2:=by
  obtain ⟨b,hb,e⟩:=List.mem_filterMap.mp hp
  cases q:h.get? b with
  | none=>rw [q] at e;cases e
  | some o =>
    rw [q] at e
    have e':(b,o)=p:=Option.some.inj e
    subst e'
    exact ⟨hb,q⟩
theorem Inv.pinned {pins:List (Addr×Obj)} {σ:St} {H:Hp} {s:Shared} {fp:List Addr} (I:Inv X pins σ H s) (hf:∀ b∈fp,FpOk X pins H b) (ho:∀ b∈fp,∃ o,s.heap.get? b=some o∧∀ v,o.data≠.cell v):Inv X (pins++pinsAt fp s.heap) σ H s :=
  I.pins_of fun p hp=>(List.mem_append.mp hp).elim (fun z=>I.pin p (List.mem_append_right _ z)) fun z=>by
    obtain ⟨hb,e⟩:=of_pinsAt z
    obtain ⟨f0,f1,f2,_⟩:=hf p.1 hb
    obtain ⟨o,e',d⟩:=ho p.1 hb
    rw [e] at e';cases e'
    exact ⟨e,f0,f1,f2,d⟩
theorem Inv.unpinned {pins pl:List (Addr×Obj)} {σ:St} {H:Hp} {s:Shared} (I:Inv X (pins++pl) σ H s):Inv X pins σ H s:=I.pins_of fun p hp=>I.pin p (List.mem_append_right _ (List.mem_append_left _ hp))
theorem ps_for {iter:Expr} {body:List Stmt} {wi:TI} {g:TG} {tb:TS} {pos:Pos} (hp:PassesOwn (model X.prog X.w) X.A X.env X.xe) (hc:X.calm=true) (hi:PI X tg iter wi) (hg:PG X tg g) (hb:PSs X body tb)
    (hs:∀ x,foldedSetIterable iter X.env x=pure x:=by intro _;rfl):PS X (.For tg iter body [] pos) (tFor wi g tb):=by
  intro pins s σ H D I h
  refine wpAny_For (thn (hi pins s σ H _ I h) fun v s1 h1=>thn h1 fun itv s2 h2=>?_) hs
  obtain ⟨it,fp,tn,J,H2,e,I2,T,st2,f2,W,⟨m0,w0⟩,turn⟩:=h2
  subst e
  -- what stays true of the iterator's objects through the loop
  have stat:∀ {H':Hp},(∀ b∈fp,H' b=none)→∀ b∈fp,FpOk X pins H' b:=fun hn b hb=>⟨hn b hb,(f2 b hb).2⟩
  refine codeAny_forLoop_any (fun n s'=>∃ i σ' H',Inv X pins σ' H' s'∧tn i s'.heap∧(∀ b∈fp,H' b=none)∧W i n σ' H') ?_ m0 ⟨0,σ,H2,I2,st2,fun b hb=>(f2 b hb).1,w0⟩
  rintro n s3 ⟨i,σ3,H3,I3,st3,fr3,w3⟩
  rcases turn i n σ3 H3 w3 with ⟨stop,qn⟩ | ⟨go,N,hN,step⟩
  · refine wpAny_passesOwn hp (thn (T.done X rfl rfl rfl hc i pins s3 σ3 H3 X.xe I3 (stat fr3) st3 stop) fun r s4 ⟨hr,I4⟩=>?_)
    subst hr
    exact wpAny_execs_nil ⟨σ3,H3,I4,qn⟩
  · refine wpAny_passesOwn hp (thn (T.item X rfl rfl rfl hc i pins s3 σ3 H3 X.xe I3 (stat fr3) st3 go) fun r s4 ⟨u,hr,h4⟩=>?_)
    subst hr
    refine wpAny_passesOwn hp (thn h4 fun _ s5 ⟨x,H5,I5,r5,y5,st5,fr5⟩=>?_)
    have I5':=I5.pinned (stat fr5) (T.obj _ _ st5)
    refine wpAny_passesOwn hp (thn (hg _ s5 σ3 H5 x u _ I5' r5 (step x H5 y5)) fun _ s6 ⟨σ6,H6,I6,q6⟩=>?_)
    refine wpAny_passesOwn hp (thn (hb _ s6 σ6 H6 _ I6 q6) fun f s7 q7=>?_)
    have again:∀ {σ7:St} {H7:Hp},Inv X (pins++pinsAt fp s5.heap) σ7 H7 s7→N σ7 H7→∃ m,m < n∧∃ i σ' H',Inv X pins σ' H' s7∧tn i s7.heap∧(∀ b∈fp,H' b=none)∧W i m σ' H':=fun {σ7 H7} I7 n7=>by
      obtain ⟨m',hm,w7⟩:=hN σ7 H7 n7
      refine ⟨m',hm,i+1,σ7,H7,I7.unpinned,T.keep _ _ _ st5 fun b hb o e=>(I7.pin (b,o) (List.mem_append_right _ (List.mem_append_right _ (mem_pinsAt hb e)))).1,fun b hb=>?_,w7⟩
      obtain ⟨o,e,d⟩:=T.obj _ _ st5 b hb
      exact (I7.pin (b,o) (List.mem_append_right _ (List.mem_append_right _ (mem_pinsAt hb e)))).2.1
    cases f with
    | next=>obtain ⟨σ7,H7,I7,n7⟩:=q7;exact again I7 n7
    | cont=>obtain ⟨σ7,H7,I7,n7⟩:=q7;exact again I7 n7
    | brk=>obtain ⟨σ7,H7,I7,q7⟩:=q7;exact ⟨σ7,H7,I7.unpinned,q7⟩
    | ret v=>obtain ⟨x7,σ7,H7,I7,r7,q7⟩:=q7;exact ⟨x7,σ7,H7,I7.unpinned,r7,q7⟩
end
end L2
namespace L2
open PySem PySem.Spec PyProof.Rows
abbrev R2:=V→V→Hp→VK→Prop
def OpR (X:Cx) (f:Value→Value→Sem Value) (r:R2):Prop :=
  ∀ (pins:List (Addr×Obj)) (s:Shared) (σ:St) (H:Hp) (x y:V) (v u:Value) (Q:VK),Inv X pins σ H s→RelV x v→RelV y u→r x y H Q →
    wpAny (model X.prog X.w) X.A (f v u) (EP X pins σ Q) X.xe s
def CallR (X:Cx) (f:Value) (r:List V→Hp→VK→Prop):Prop :=
  ∀ (pins:List (Addr×Obj)) (s:Shared) (σ:St) (H:Hp) (xs:List V) (us:List Value) (Q:VK),Inv X pins σ H s→Vals xs us→r xs H Q →
    wpAny (model X.prog X.w) X.A (call f us) (EP X pins σ Q) X.xe s
def tOp (r:R2) (ta tb:TE):TE:=fun σ H Q=>ta σ H fun x H1=>tb σ H1 fun y H2=>r x y H2 Q
def rI (C:Int→Int→Prop) (g:Int→Int→V):R2:=fun x y H Q=>∃ i j,x=.int i∧y=.int j∧C i j∧Q (g i j) H
def rI0 (g:Int→Int→V):R2:=fun x y H Q=>∃ i j,x=.int i∧y=.int j∧Q (g i j) H
section
variable {X:Cx} {a b c:Expr} {ta tb tc:TE} {pos:Pos}
theorem binT (ha:PE X a ta) (hb:PE X b tb) {pins:List (Addr×Obj)} {s:Shared} {σ:St} {H:Hp} {R:V→V→Hp→Prop} (I:Inv X pins σ H s)
    (h:ta σ H fun x H1=>tb σ H1 fun y H2=>R x y H2) {Q:Value→Shared→Prop} {f:Value→Value→Sem Value}
    (hf:∀ v u s2 x y H2,Inv X pins σ H2 s2→RelV x v→RelV y u→R x y H2→wpAny (model X.prog X.w) X.A (f v u) Q X.xe s2) :
    wpAny (model X.prog X.w) X.A (eval a X.env) (fun v s₁=>wpAny (model X.prog X.w) X.A (eval b X.env) (fun u s₂=>wpAny (model X.prog X.w) X.A (f v u) Q X.xe s₂) X.xe s₁) X.xe s:=by
  refine thn (ha pins s σ H _ I h) fun v s1 ⟨x,H1,I1,r1,q1⟩=>?_
  refine thn (hb pins s1 σ H1 _ I1 q1) fun u s2 ⟨y,H2,I2,r2,q2⟩=>?_
  exact hf v u s2 x y H2 I2 r1 r2 q2
theorem pe_op {op:Operator} {r:R2} (ho:OpR X (binaryOp op) r) (ha:PE X a ta) (hb:PE X b tb):PE X (.BinOp a op b pos) (tOp r ta tb):=by
  intro pins s σ H Q I h
  exact wpAny_BinOp (binT ha hb I h fun v u s2 x y H2 I2 rx ry q=>ho pins s2 σ H2 x y v u Q I2 rx ry q)
theorem opI {f:Value→Value→Sem Value} {C:Int→Int→Prop} {g:Int→Int→Int}
    (rule:∀ (i j:Int) (t u:Tok) (s:Shared) (Q:Value→Shared→Prop) (E:Value→Shared→Prop),C i j→Q (.int (g i j) s.toks) { s with toks:=s.toks+1 }→wpAny (model X.prog X.w) X.A (f (.int i t) (.int j u)) Q E s) :
    OpR X f (rI C fun i j=>.int (g i j)):=by
  intro pins s σ H x y v u Q I rx ry h
  obtain ⟨i,j,rfl,rfl,hc,q⟩:=h
  obtain ⟨t,rfl⟩:=rx
  obtain ⟨t',rfl⟩:=ry
  exact rule i j t t' s _ _ hc ⟨.int (g i j),H,I.tok _,⟨_,rfl⟩,q⟩
theorem opI0 {f:Value→Value→Sem Value} {g:Int→Int→Int}
    (rule:∀ (i j:Int) (t u:Tok) (s:Shared) (Q:Value→Shared→Prop) (E:Value→Shared→Prop),Q (.int (g i j) s.toks) { s with toks:=s.toks+1 }→wpAny (model X.prog X.w) X.A (f (.int i t) (.int j u)) Q E s) :
    OpR X f (rI0 fun i j=>.int (g i j)):=by
  intro pins s σ H x y v u Q I rx ry h
  obtain ⟨i,j,rfl,rfl,q⟩:=h
  obtain ⟨t,rfl⟩:=rx
  obtain ⟨t',rfl⟩:=ry
  exact rule i j t t' s _ _ ⟨.int (g i j),H,I.tok _,⟨_,rfl⟩,q⟩
theorem opB0 {f:Value→Value→Sem Value} {g:Int→Int→Bool}
    (rule:∀ (i j:Int) (t u:Tok) (s:Shared) (Q:Value→Shared→Prop) (E:Value→Shared→Prop),Q (.bool (g i j)) s→wpAny (model X.prog X.w) X.A (f (.int i t) (.int j u)) Q E s) :
    OpR X f (rI0 fun i j=>.bl (g i j)):=by
  intro pins s σ H x y v u Q I rx ry h
  obtain ⟨i,j,rfl,rfl,q⟩:=h
  obtain ⟨t,rfl⟩:=rx
  obtain ⟨t',rfl⟩:=ry
  exact rule i j t t' s _ _ ⟨.bl (g i j),H,I,rfl,q⟩
def CMul (i j:Int):Prop:=(-(2 ^ 64) < i∧i < 2 ^ 64)∨(-(2 ^ 64) < j∧j < 2 ^ 64)
theorem CMul.ok {i j:Int} (h:CMul i j):IntMulOk i j:=by
  rcases h with ⟨h1,h2⟩ | ⟨h1,h2⟩
  · exact .of_left (intBits_le_64 h1 h2)
  · exact .of_right (intBits_le_64 h1 h2)
theorem op_add:OpR X (binaryOp .Add) (rI0 fun i j=>.int (i+j)):=opI0 fun _ _ _ _ _ _ _ q=>add_int q
theorem op_mod:OpR X (binaryOp .Mod) (rI (fun _ j=>0 < j) fun i j=>.int (i % j)):=opI fun i j _ _ _ _ _ hc q=>by
  have h1:(0:Int) < j:=hc
  exact mod_int' (by lia) (by rw [Int.fmod_eq_emod_of_nonneg i (by lia)];exact q)
end
section
variable {X:Cx} {a b c:Expr} {ta tb tc:TE} {pos:Pos}
theorem fin_bl {pins:List (Addr×Obj)} {σ:St} {H:Hp} {s:Shared} {Q:VK} {k k':Bool} (I:Inv X pins σ H s) (q:Q (.bl k) H) (e:k=k'):EP X pins σ Q (.bool k') s:=by
  subst e
  exact ⟨.bl k,H,I,rfl,q⟩
theorem op_lt:OpR X (compareOp .Lt) (rI0 fun i j=>.bl (decide (i < j))):=opB0 fun _ _ _ _ _ _ _ q=>lt_int q
theorem op_le:OpR X (compareOp .LtE) (rI0 fun i j=>.bl (decide (i≤j))):=opB0 fun _ _ _ _ _ _ _ q=>le_int q
theorem op_notN:OpR X (compareOp .IsNot) (fun x y H Q=>y=.non∧Q (.bl (!decide (x=.non))) H):=by
  intro pins s σ H x y v u Q I rx ry h
  obtain ⟨rfl,q⟩:=h
  cases ry
  refine isnot_none_gen (fin_bl I q ?_)
  cases x<;>first
    | (cases rx;rfl)
    | (obtain ⟨t,rfl⟩:=rx;rfl)
theorem OpR.or {f:Value→Value→Sem Value} {r r':R2} (h:OpR X f r) (h':OpR X f r'):OpR X f (fun x y H Q=>r x y H Q∨r' x y H Q):=by
  intro pins s σ H x y v u Q I rx ry q
  rcases q with q | q
  · exact h pins s σ H x y v u Q I rx ry q
  · exact h' pins s σ H x y v u Q I rx ry q
theorem nomark (b:Expr) {op:CmpOp} (h:op≠.In:=by decide) (h2:op≠.NotIn:=by decide):behindInMarks op b=false:=by
  have e1:(op==CmpOp.In)=false:=by cases op<;>first | rfl | exact absurd rfl h
  have e2:(op==CmpOp.NotIn)=false:=by cases op<;>first | rfl | exact absurd rfl h2
  cases b<;>simp [behindInMarks,e1,e2]
theorem pe_cmpR {op:CmpOp} {r:R2} (ho:OpR X (compareOp op) r) (ha:PE X a ta) (hb:PE X b tb) (hm:behindInMarks op b=false):PE X (.Compare a [op] [b] pos) (tOp r ta tb):=by
  intro pins s σ H Q I h
  exact wpAny_Compare1 (binT ha hb I h fun v u s2 x y H2 I2 rx ry q=>ho pins s2 σ H2 x y v u Q I2 rx ry q) hm
def tTest (t:TE):TT:=fun σ H Q=>t σ H fun x H'=>∃ k,x=.bl k∧Q k H'
theorem pt_cmpR {op:CmpOp} {r:R2} (ho:OpR X (compareOp op) r) (ha:PE X a ta) (hb:PE X b tb) (hm:behindInMarks op b=false):PT X (.Compare a [op] [b] pos) (tTest (tOp r ta tb)):=by
  intro pins s σ H Q I h
  refine wpAny_isTrue_Compare1 (thn (ha pins s σ H _ I h) fun v s1 ⟨x,H1,I1,r1,q1⟩=>thn (hb pins s1 σ H1 _ I1 q1) fun u s2 ⟨y,H2,I2,r2,q2⟩ =>
    thn (ho pins s2 σ H2 x y v u _ I2 r1 r2 q2) fun c s3 ⟨z,H3,I3,r3,k,e,q3⟩=>?_) hm
  subst e
  cases r3
  exact wpAny_truthy_bool ⟨H3,I3,q3⟩
def tChain (r r':R2) (ta tb tc:TE):TE:=fun σ H Q=>ta σ H fun x H1=>tb σ H1 fun y H2=>r x y H2 fun z H3=>∃ k,z=.bl k ∧
  (if k=true then tc σ H3 fun w' H4=>r' y w' H4 Q else Q (.bl false) H3)
theorem pe_chain {op op':CmpOp} {r r':R2} (ho:OpR X (compareOp op) r) (ho':OpR X (compareOp op') r') (ha:PE X a ta) (hb:PE X b tb) (hc:PE X c tc)
    (hm:lastMarks [op,op'] [b,c]=false:=by with_unfolding_all rfl):PE X (.Compare a [op,op'] [b,c] pos) (tChain r r' ta tb tc):=by
  intro pins s σ H Q I h
  refine Compare_chain (thn (ha pins s σ H _ I h) fun v s1 ⟨x,H1,I1,r1,q1⟩=>chain_link (thn (hb pins s1 σ H1 _ I1 q1) fun u s2 ⟨y,H2,I2,r2,q2⟩ =>
    thn (ho pins s2 σ H2 x y v u _ I2 r1 r2 q2) fun d s3 ⟨z,H3,I3,r3,k,e,q3⟩=>?_)) hm
  subst e
  cases r3
  refine wpAny_truthy_bool ?_
  cases k with
  | false=>exact ite_ff ⟨.bl false,H3,I3,rfl,q3⟩
  | true=>exact ite_tt (chain_last (thn (hc pins s3 σ H3 _ I3 q3) fun w' s4 ⟨z',H4,I4,r4,q4⟩=>ho' pins s4 σ H4 y z' u w' Q I4 r2 r4 q4))
theorem pt_chain {op op':CmpOp} {r r':R2} (ho:OpR X (compareOp op) r) (ho':OpR X (compareOp op') r') (ha:PE X a ta) (hb:PE X b tb) (hc:PE X c tc)
    (hm:lastMarks [op,op'] [b,c]=false:=by with_unfolding_all rfl):PT X (.Compare a [op,op'] [b,c] pos) (tTest (tChain r r' ta tb tc)):=by
  intro pins s σ H Q I h
  refine isTrue_chain (thn (ha pins s σ H _ I h) fun v s1 ⟨x,H1,I1,r1,q1⟩=>test_link (thn (hb pins s1 σ H1 _ I1 q1) fun u s2 ⟨y,H2,I2,r2,q2⟩ =>
    thn (ho pins s2 σ H2 x y v u _ I2 r1 r2 q2) fun d s3 ⟨z,H3,I3,r3,k,e,q3⟩=>?_)) hm
  subst e
  cases r3
  refine wpAny_truthy_bool ?_
  cases k with
  | false =>
    obtain ⟨k',e',q'⟩:=q3
    cases e'
    exact ite_ff ⟨H3,I3,q'⟩
  | true =>
    refine ite_tt (test_last (thn (hc pins s3 σ H3 _ I3 q3) fun w' s4 ⟨z',H4,I4,r4,q4⟩=>thn (ho' pins s4 σ H4 y z' u w' _ I4 r2 r4 q4) fun d' s5 ⟨z2,H5,I5,r5,k2,e2,q5⟩=>?_))
    subst e2
    cases r5
    exact wpAny_truthy_bool ⟨H5,I5,q5⟩
theorem line63:(sizeLine:Nat) < 2 ^ 63:=by rw [sizeLine_eq];decide
theorem op_add_str:OpR X (binaryOp .Add) (fun x y H Q=>∃ i j,x=.str i∧y=.str j∧i.length+j.length≤sizeLine∧Q (.str (i++j)) H):=by
  intro pins s σ H x y v u Q I rx ry h
  obtain ⟨i,j,rfl,rfl,hz,q⟩:=h
  obtain ⟨t,rfl⟩:=rx
  obtain ⟨t',rfl⟩:=ry
  exact add_str (fun t' tk=>⟨.str (i++j),H,I.tok _,⟨_,rfl⟩,q⟩) hz
theorem vals1 {x:V} {us:List Value} (r:Vals [x] us):∃ u,us=[u]∧RelV x u:=by
  cases r with
  | cons r1 r2=>cases r2;exact ⟨_,rfl,r1⟩
theorem vals2 {x y:V} {us:List Value} (r:Vals [x,y] us):∃ u w',us=[u,w']∧RelV x u∧RelV y w':=by
  cases r with
  | cons r1 r2 =>
    cases r2 with
    | cons r3 r4=>cases r4;exact ⟨_,_,rfl,r1,r3⟩
theorem call_int1:CallR X (.type "int") (fun xs H Q=>(∃ i,xs=[.int i]∧Q (.int i) H)∨∃ k,xs=[.bl k]∧Q (.int (if k then 1 else 0)) H):=by
  intro pins s σ H xs us Q I r h
  rcases h with ⟨i,rfl,q⟩ | ⟨k,rfl,q⟩
  · obtain ⟨u,rfl,t,rfl⟩:=vals1 r
    exact call_int_int ⟨.int i,H,I,⟨_,rfl⟩,q⟩
  · obtain ⟨u,rfl,r1⟩:=vals1 r
    cases r1
    exact call_int_bool ⟨.int (if k then 1 else 0),H,I.tok _,⟨_,rfl⟩,q⟩
def LenV (K:PySem.W.Frag) (x:V) (H:Hp) (n:Nat):Prop :=
  match x with
  | .str y=>y.length≤sizeLine∧n=y.length
  | .byt y=>y.size≤sizeLine∧n=y.size
  | .ref p=>(∃ xs,SqL K H p xs∧n=xs.length)∨∃ xs,SqT K H p xs∧n=xs.length
  | _=>False
theorem call_len:CallR X (.builtin "len") (fun xs H Q=>∃ x n,xs=[x]∧LenV X.K x H n∧Q (.int n) H):=by
  intro pins s σ H xs us Q I r h
  obtain ⟨x,n,rfl,e,q⟩:=h
  obtain ⟨u,rfl,rx⟩:=vals1 r
  have hl:=line63
  have hs:sizeLine=16777216:=sizeLine_eq
  cases x with
  | str y =>
    obtain ⟨t,rfl⟩:=rx
    obtain ⟨hy,e'⟩:y.length≤sizeLine∧n=y.length:=e
    subst e'
    exact len_str (by lia) ⟨.int _,H,I.tok _,⟨_,rfl⟩,q⟩
  | byt y =>
    obtain ⟨t,rfl⟩:=rx
    obtain ⟨hy,e'⟩:y.size≤sizeLine∧n=y.size:=e
    subst e'
    exact PySem.W.len_bytes (by lia) ⟨.int _,H,I.tok _,⟨_,rfl⟩,q⟩
  | ref p =>
    cases rx
    have e':(∃ xs,SqL X.K H p xs∧n=xs.length)∨∃ xs,SqT X.K H p xs∧n=xs.length:=e
    rcases e' with ⟨xs,hx,e'⟩ | ⟨xs,hx,e'⟩
    · subst e'
      obtain ⟨its,r',pl,hz⟩:=I.list hx
      have hlen:=r'.length
      exact Calls.call_len_list pl.isList (by simp only [List.size_toArray];lia) ⟨.int xs.length,H,I.tok _,⟨_,by simp only [List.size_toArray];rw [hlen]⟩,q⟩
    · subst e'
      obtain ⟨its,r',pl,hz⟩:=I.tuple hx
      have hlen:=r'.length
      exact len_tuple pl (by simp only [List.size_toArray];lia) ⟨.int xs.length,H,I.tok _,⟨_,by simp only [List.size_toArray];rw [hlen]⟩,q⟩
  | _=>exact (show False from e).elim
end
end L2
namespace L2
open PySem PySem.Spec PyProof.Rows
structure ObjM (h:Heap) (x dx C:Addr) (mA:Str→Option Value):Prop where
  obj:h.get? x=some (PySem.W.instObj C dx)
  ns:h.Ns1 dx mA
  ne:dx≠x
theorem lookIn_ns {h:Heap} {dx:Addr} {mA:Str→Option Value} (n:h.Ns1 dx mA):∃ od,h.get? dx=some od∧∀ name,PySem.W.lookIn name od=some (mA name):=by
  obtain ⟨o,es,ep,ho,hd,hk,_,hm⟩:=n
  refine ⟨o,ho,fun name=>?_⟩
  have e:=hm name
  unfold nsFind findBy at e
  rw [←Array.find?_toList] at e
  unfold PySem.W.lookIn
  rw [hd]
  dsimp only
  split
  · rename_i y q
    rw [q] at e
    exact congrArg some e
  · rename_i q
    rw [q] at e
    have a:es.toList.any (·.refKey)=false:=by
      rw [List.any_eq_false]
      intro y hy
      obtain ⟨z,t,hkey⟩:=hk y (Array.mem_toList_iff.mp hy)
      simp [DictEntry.refKey,hkey]
    have a':¬ es.toList.any (·.refKey)=true:=by rw [a];exact Bool.false_ne_true
    rw [if_neg a']
    exact congrArg some e
theorem ObjM.look {h:Heap} {x dx C:Addr} {mA:Str→Option Value} (I:ObjM h x dx C mA):∃ od,PySem.W.InstAt h x (PySem.W.instObj C dx) C (some od)∧∀ name,PySem.W.lookIn name od=some (mA name) :=
  let ⟨od,ho,hl⟩:=lookIn_ns I.ns
  ⟨od,⟨I.obj,rfl,rfl,ho⟩,hl⟩
section
variable {prog:Program} {w:World} {A:Around} {E:Value→Shared→Prop} {s:Shared} {K:PySem.W.Frag} {x dx C f:Addr} {mA:Str→Option Value} {name:Str} {v:Value}
theorem get_map {expr:Bool} {Q:Value→Shared→Prop} (X:K.In s.heap) (I:ObjM s.heap x dx C mA) (hg:PySem.W.plainGet K C name=true) (hh:PySem.W.hasDictIn K C=true)
    (ha:PySem.W.findIn K (.ref C) name=some none) (hv:mA name=some v) (hv':PySem.W.handedIn v=true) (h:Q v { s with toks:=s.toks+1 }) :
    wpAny (model prog w) A (getAttr (.ref x) name expr) Q E s:=by
  obtain ⟨od,J,hl⟩:=I.look
  exact PySem.W.get_value X J (PySem.W.plainGet_of hg).1 (PySem.W.findObj_own hh ha rfl (by rw [hl,hv])) hv' h
theorem get_meth {pl:Sem Bool} {Q:Value×List Value→Shared→Prop} (X:K.In s.heap) (I:ObjM s.heap x dx C mA) (hg:PySem.W.plainGet K C name=true)
    (hf:PySem.W.findIn K (.ref C) name=some (some (.ref f))) (ht:PySem.W.isFn K (.ref f)=true) (hv:mA name=none) (h:Q (.ref f,[.ref x]) s) :
    wpAny (model prog w) A (getMethod (.ref x) name pl) Q E s:=by
  obtain ⟨od,J,hl⟩:=I.look
  exact PySem.W.method_fn X J (PySem.W.plainGet_of hg).1 (PySem.W.plainGet_of hg).2 hf (beq_iff_eq.mp ht) (by show (PySem.W.lookIn name od).map (·.isSome)=some false;rw [hl,hv];rfl) h
theorem set_map {ns:List Str} {Q:Unit→Shared→Prop} (X:K.In s.heap) (I:ObjM s.heap x dx C mA)
    (hs:PySem.W.findIn K (.ref C) "__setattr__" = some (some (.builtin "object.__setattr__"))) (hp:PySem.W.plainOver K C=true) (ht:PySem.W.takerIn K C name=some none) (hh:PySem.W.hasDictIn K C=true)
    (hw:PySem.Within mA ns) (hsz:ns.length≤sizeLine)
    (h:∀ h',ObjM h' x dx C (fun y=>if y=name then some v else mA y)→Heap.SameBut dx s.heap h'→Q () { s with heap:=h',toks:=s.toks+2 }) :
    wpAny (model prog w) A (setAttr (.ref x) name v) Q E s:=by
  obtain ⟨od,J,hl⟩:=I.look
  refine PySem.W.set_plain X J hs (PySem.W.osa_open (s:={ s with toks:=s.toks+1 }) (r:=none) X J hp ht fun b=>?_)
  obtain ⟨cd,hc,hd'⟩:=PySem.W.any_some hh
  have hx:s.heap.get? x=some ⟨.ref C,some dx,.plain,#[]⟩:=I.obj
  refine wpAny_bind (wpAny_pure (wpAny_bind (wpAny_bind (wpAny_loadPart hx (wpAny_bind (PySem.W.Looks.here (s:={ s with toks:=s.toks+1 }) (PySem.W.looks_clsIn X hc) ?_))))))
  rw [hd']
  refine wpAny_pure (a:=some dx) (wpAny_bind (wpAny_pure (wpAny_bind ?_)))
  refine wpAny_nsSet1 (s:={ s with toks:=s.toks+1 }) I.ns fun h' hn2 hs2=>?_
  obtain ⟨oD,esD,epD,hoD,hdD,hcD⟩:=hn2.count (PySem.Within.cons name v hw)
  refine wpAny_bind (wpAny_lookBehind hoD (by rw [hdD];exact pastItsLine_dict (Nat.le_trans hcD (by rw [List.length_cons];lia))) ?_)
  exact wpAny_pure (h _ ⟨(hs2.2 _ (Ne.symm I.ne)).trans I.obj,hn2,I.ne⟩ hs2)
theorem make_map {R:Result→Shared→Prop} {vs:List Value} {kw:List (Str×Value)} (X:K.In s.heap) (hm:PySem.W.makesIn K C=true)
    (hi:PySem.W.findIn K (.ref C) "__init__" = some (some (.ref f))) (hf:PySem.W.typeIn K (.ref f)=some (.type "function"))
    (h:codeAny (model prog w) (A.under (.builtin "type.__call__" ⟨.ref C :: vs,kw⟩)) (.call (.ref f) ⟨.ref (s.heap.objs.size+1) :: vs,kw⟩) (PySem.W.InitBack (s.heap.objs.size+1) R)
      { s with heap:=(s.heap.push PySem.W.emptyDict).push (PySem.W.instObj C s.heap.objs.size) }) :
    codeAny (model prog w) A (.call (.ref C) ⟨vs,kw⟩) R s:=by
  obtain ⟨hh,g,d,t,os⟩:=s
  exact PySem.W.make_core (PySem.W.makes_of X hm) (PySem.W.looks_findIn X hi) (fun self=>PySem.W.bind_fn X self hf) (.inl rfl) h
end
def putF (f:Str) (v:V):List (Str×V)→List (Str×V)
  | []=>[(f,v)]
  | (g,x) :: r=>if g=f then (g,v) :: r else (g,x) :: putF f v r
theorem lookup_putF (f g : Str) (v : V) : ∀ fs : List (Str × V), (putF f v fs).lookup g = if g = f then some v else fs.lookup g
  | []=>by
    show List.lookup g [(f,v)]=_
    by_cases h:g=f
    · have hb:(g==f)=true:=beq_iff_eq.mpr h
      simp only [List.lookup,hb,if_pos h]
    · have hb:(g==f)=false:=beq_eq_false_iff_ne.mpr h
      simp only [List.lookup,hb,if_neg h]
  | (k, x) :: r => by
    have ih:=lookup_putF f g v r
    rw [show putF f v ((k,x) :: r)=(if k=f then (k,v) :: r else (k,x) :: putF f v r) from rfl]
    by_cases hk:k=f
    · rw [if_pos hk]
      by_cases h:g=k
      · have hb:(g==k)=true:=beq_iff_eq.mpr h
        simp only [List.lookup,hb,if_pos (h.trans hk)]
      · have hb:(g==k)=false:=beq_eq_false_iff_ne.mpr h
        simp only [List.lookup,hb,if_neg (fun e:g=f=>h (e.trans hk.symm))]
    · rw [if_neg hk]
      by_cases h:g=k
      · have hb:(g==k)=true:=beq_iff_eq.mpr h
        simp only [List.lookup,hb,if_neg (fun e:g=f=>hk (h.symm.trans e))]
      · have hb:(g==k)=false:=beq_eq_false_iff_ne.mpr h
        simp only [List.lookup,hb]
        exact ih
theorem keys_putF (f : Str) (v : V) : ∀ fs : List (Str × V), f ∈ (putF f v fs).map (·.1) ∧ ∀ g, g ∈ fs.map (·.1) → g ∈ (putF f v fs).map (·.1)
  | []=>⟨by simp [putF],fun g h=>by simp at h⟩
  | (k, x) :: r => by
    obtain ⟨i1,i2⟩:=keys_putF f v r
    rw [show putF f v ((k,x) :: r)=(if k=f then (k,v) :: r else (k,x) :: putF f v r) from rfl]
    by_cases hk:k=f
    · rw [if_pos hk]
      subst hk
      exact ⟨by simp,fun g h=>by simpa using h⟩
    · rw [if_neg hk]
      refine ⟨?_,fun g h=>?_⟩
      · rw [List.map_cons]
        exact List.mem_cons_of_mem _ i1
      · rw [List.map_cons] at h ⊢
        rcases List.mem_cons.mp h with e | e
        · exact List.mem_cons.mpr (.inl e)
        · exact List.mem_cons_of_mem _ (i2 g e)
theorem length_putF (f:Str) (v:V):∀ fs:List (Str×V),(putF f v fs).length≤fs.length+1
  | []=>by simp [putF]
  | (k,x) :: r=>by
    have ih:=length_putF f v r
    rw [show putF f v ((k,x) :: r)=(if k=f then (k,v) :: r else (k,x) :: putF f v r) from rfl]
    by_cases hk:k=f
    · rw [if_pos hk,List.length_cons,List.length_cons];lia
    · rw [if_neg hk,List.length_cons,List.length_cons];lia
theorem RelO.some_of {v:V} {o:Option Value} (r:RelO (some v) o):∃ u,o=some u∧RelV v u:=by
  cases o with
  | none=>exact (show False from r).elim
  | some u=>exact ⟨u,rfl,r⟩
theorem RelO.none_of {o:Option Value} (r:RelO none o):o=none:=by
  cases o with
  | none=>rfl
  | some u=>exact (show False from r).elim
theorem handed_of {v:V} {u:Value} (r:RelV v u):PySem.W.handedIn u=true:=by
  cases v with
  | non=>cases (show u=Value.none from r);rfl
  | bl b=>cases (show u=Value.bool b from r);rfl
  | int i=>obtain ⟨t,e⟩:=(show ∃ t,u=Value.int i t from r);cases e;rfl
  | str x=>obtain ⟨t,e⟩:=(show ∃ t,u=Value.str x t from r);cases e;rfl
  | byt b=>obtain ⟨t,e⟩:=(show ∃ t,u=Value.bytes b t from r);cases e;rfl
  | flt b=>obtain ⟨t,e⟩:=(show ∃ t,u=Value.float b t from r);cases e;rfl
  | ref a=>cases (show u=Value.ref a from r);rfl
  | ty n=>cases (show u=Value.type n from r);rfl
section
variable {P:Program} {w:World} {H H':Hp} {h h':Heap} {a C dx:Addr} {fs fs':List (Str×V)}
theorem ins_get (hok:HOk P w H h) (e:H a=some (.ins C dx fs)):∃ mA,ObjM h a dx C mA∧(∀ f,RelO (fs.lookup f) (mA f))∧PySem.Within mA (fs.map (·.1))∧fs.length≤1000∧H dx=some (.own a):=by
  obtain ⟨d,z,ne,ob,mA,n,r,q⟩:=(show ObjOk P w H h a (.ins C dx fs) from hok a _ e)
  exact ⟨mA,⟨ob,n,ne⟩,r,q,z,d⟩
end
structure Cls (K:PySem.W.Frag) (C:Addr):Prop where
  pg:PySem.W.plainGet K C Str.empty=true
  hd:PySem.W.hasDictIn K C=true
  po:PySem.W.plainOver K C=true
  sa:PySem.W.findIn K (.ref C) "__setattr__" = some (some (.builtin "object.__setattr__"))
theorem Cls.get {K:PySem.W.Frag} {C:Addr} (c:Cls K C) (f:Str):PySem.W.plainGet K C f=true:=c.pg
def NoAttr (K:PySem.W.Frag) (C:Addr) (f:Str):Prop:=PySem.W.findIn K (.ref C) f=some none
theorem NoAttr.taker {K:PySem.W.Frag} {C:Addr} {f:Str} (n:NoAttr K C f):PySem.W.takerIn K C f=some none:=by
  unfold PySem.W.takerIn
  rw [show PySem.W.findIn K (.ref C) f=some none from n]
  rfl
structure Con (K:PySem.W.Frag) (C:Addr) (f:Str) (v:V) (u:Value):Prop where
  at_:PySem.W.findIn K (.ref C) f=some (some u)
  rel:RelV v u
  get:PySem.W.specialIn K u "__get__" = some none
  cp:PySem.W.copiedNames.contains f=false
structure Meth (K:PySem.W.Frag) (C:Addr) (m:Str) (f:Addr):Prop where
  at_:PySem.W.findIn K (.ref C) m=some (some (.ref f))
  fn:PySem.W.isFn K (.ref f)=true
  kp:PySem.W.keepIn K (.ref f)=true
section
variable {X:Cx} {pins:List (Addr×Obj)} {σ:St} {H:Hp} {s:Shared} {a C dx:Addr} {fs:List (Str×V)} {f:Str} {v:V} {A:Around} {E:Value→Shared→Prop}
theorem getattr_ok {b:Bool} {Q:Value→Shared→Prop} (I:Inv X pins σ H s) (e:H a=some (.ins C dx fs)) (c:Cls X.K C) (n:NoAttr X.K C f) (l:fs.lookup f=some v)
    (h:∀ u s',Inv X pins σ H s'→RelV v u→Q u s'):wpAny (model X.prog X.w) A (getAttr (.ref a) f b) Q E s:=by
  obtain ⟨mA,O,r,_,_,_⟩:=ins_get I.hok e
  obtain ⟨u,hu,ru⟩:=RelO.some_of (v:=v) (o:=mA f) (by rw [←l];exact r f)
  exact get_map I.kIn O (c.get f) c.hd n hu (handed_of ru) (h u _ (I.tok _) ru)
theorem getmeth_ok {m:Str} {g:Addr} {pl:Sem Bool} {Q:Value×List Value→Shared→Prop} (I:Inv X pins σ H s) (e:H a=some (.ins C dx fs)) (c:Cls X.K C) (k:Meth X.K C m g) (l:fs.lookup m=none)
    (h:Q (.ref g,[.ref a]) s):wpAny (model X.prog X.w) A (getMethod (.ref a) m pl) Q E s:=by
  obtain ⟨mA,O,r,_,_,_⟩:=ins_get I.hok e
  have hn:mA m=none:=RelO.none_of (by rw [←l];exact r m)
  exact get_meth I.kIn O (c.get m) k.at_ k.fn hn h
theorem setattr_ok {y:V} {u:Value} {Q:Unit→Shared→Prop} (I:Inv X pins σ H s) (e:H a=some (.ins C dx fs)) (c:Cls X.K C) (n:NoAttr X.K C f) (hl:fs.length < 1000) (ry:RelV y u)
    (h:∀ s',Inv X pins σ (upd H a (.ins C dx (putF f y fs))) s'→Q () s'):wpAny (model X.prog X.w) A (setAttr (.ref a) f u) Q E s:=by
  obtain ⟨mA,O,r,wi,_,ho⟩:=ins_get I.hok e
  have hz:(fs.map (·.1)).length≤sizeLine:=by rw [List.length_map,sizeLine_eq];lia
  refine set_map I.kIn O c.sa c.po n.taker c.hd wi hz fun h' O' sb=>h _ ?_
  have hd:∃ o,h'.get? dx=some o:=let ⟨o,_,_,e',_⟩:=O'.ns;⟨o,e'⟩
  refine I.write (x:=a) (e:=dx) (by rw [e];exact True.intro) (.inr ho) (fun b q hb z=>(sb.2 b hb).trans z) hd ?_
  refine ⟨by rw [upd_ne O.ne];exact ho,?_,O.ne,O'.obj,_,O'.ns,fun g=>?_,fun g hg=>?_⟩
  · have:=length_putF f y fs;lia
  · show RelO ((putF f y fs).lookup g) (if g=f then some u else mA g)
    rw [lookup_putF]
    by_cases q:g=f
    · rw [if_pos q,if_pos q];exact ry
    · rw [if_neg q,if_neg q];exact r g
  · by_cases q:g=f
    · rw [q];exact (keys_putF f y fs).1
    · refine (keys_putF f y fs).2 g (wi g fun z=>hg ?_)
      show (if g=f then some u else mA g)=none
      rw [if_neg q];exact z
theorem Inv.made (I:Inv X pins σ H s):Inv X pins σ (upd (upd H s.heap.objs.size (.own (s.heap.objs.size+1))) (s.heap.objs.size+1) (.ins C s.heap.objs.size []))
    { s with heap:=(s.heap.push PySem.W.emptyDict).push (PySem.W.instObj C s.heap.objs.size) }:=by
  have e1:(s.heap.push PySem.W.emptyDict).get? s.heap.objs.size=some PySem.W.emptyDict:=Heap.get?_push_size s.heap rfl
  have e2:((s.heap.push PySem.W.emptyDict).push (PySem.W.instObj C s.heap.objs.size)).get? (s.heap.objs.size+1)=some (PySem.W.instObj C s.heap.objs.size):=by
    have:=Heap.get?_push_size (s.heap.push PySem.W.emptyDict) (o:=PySem.W.instObj C s.heap.objs.size) rfl
    rwa [Heap.size_push] at this
  have e3:(s.heap.push PySem.W.emptyDict).Ns s.heap.objs.size (fun _=>none):=⟨PySem.W.emptyDict,#[],_,e1,rfl,(fun e he=>absurd he (by simp)),fun _=>rfl⟩
  have I1:=I.laid (a:=s.heap.objs.size) (o:=.own (s.heap.objs.size+1)) (h':=s.heap.push PySem.W.emptyDict) (t':=s.toks) (fun b u q=>Heap.get?_push_of_some _ q) (Nat.le_refl _) ⟨_,e1⟩
  refine I1.laid (a:=s.heap.objs.size+1) (o:=.ins C s.heap.objs.size []) (t':=s.toks) (fun b u q=>Heap.get?_push_of_some _ q) (Nat.le_of_eq (Heap.size_push _ _)) ?_
  have ne:s.heap.objs.size≠s.heap.objs.size+1:=Nat.ne_of_lt (Nat.lt_succ_self _)
  refine ⟨by rw [upd_ne ne,upd_same],Nat.zero_le _,ne,e2,fun _=>none,(Heap.Ns1.of_empty e3).at fun o q=>Heap.get?_push_of_some _ q,fun _=>True.intro,fun y hy=>absurd rfl hy⟩
theorem attr_of {prog:Program} {w:World} {env:Env} {e:Expr} {f:Str} {pos:Pos} {s:Shared} {Q:Value→Shared→Prop} (hb:attributeBase e f env (eval e env)=eval e env)
    (h:wpAny (model prog w) A (eval e env) (fun o s₁=>wpAny (model prog w) A (getAttr o f true) Q E s₁) E s):wpAny (model prog w) A (eval (.Attribute e f pos) env) Q E s :=
  Attribute_any_ h (by rw [arm_eval_Attribute,hb])
end
def tFld (K:PySem.W.Frag) (ta:TE) (f:Str):TE:=fun σ H Q=>ta σ H fun x H1=>∃ a C dx fs v,x=.ref a∧H1 a=some (.ins C dx fs)∧Cls K C∧NoAttr K C f∧fs.lookup f=some v∧Q v H1
def sFld (K:PySem.W.Frag) (ta tv:TE) (f:Str):TS:=fun D σ H=>tv σ H fun y H1=>ta σ H1 fun x H2=>∃ a C dx fs,x=.ref a∧H2 a=some (.ins C dx fs)∧Cls K C∧NoAttr K C f∧fs.length < 1000 ∧
  D.nx σ (upd H2 a (.ins C dx (putF f y fs)))
section
variable {X:Cx} {o e value:Expr} {f:Str} {pos pos' tpos:Pos} {ta tv:TE}
theorem pe_fld (he:PE X e ta) (hb:attributeBase e f X.env (eval e X.env)=eval e X.env):PE X (.Attribute e f pos) (tFld X.K ta f):=by
  intro pins s σ H Q I h
  refine attr_of hb (thn (he pins s σ H _ I h) fun u s1 ⟨x,H1,I1,rx,a,C,dx,fs,v,ex,ea,c,n,l,q⟩=>?_)
  subst ex
  obtain rfl:u=Value.ref a:=rx
  exact getattr_ok I1 ea c n l fun u' s2 I2 ru=>⟨v,H1,I2,ru,q⟩
theorem ps_fld (ha:PE X o ta) (hv:PE X value tv) (hs:swapsWith value (some (.Attribute o f pos')) pos.line X.env=pure false):PS X (.Assign [.Attribute o f pos'] value pos) (sFld X.K ta tv f):=by
  intro pins s σ H D I h
  refine plainObj_wpAny_Assign_Attribute (thn (hv pins s σ H _ I h) fun u s1 ⟨y,H1,I1,ry,q⟩=>thn (ha pins s1 σ H1 _ I1 q) fun ov s2 ⟨x,H2,I2,rx,a,C,dx,fs,ex,ea,c,n,l,q2⟩=>?_) hs
  subst ex
  obtain rfl:ov=Value.ref a:=rx
  exact setattr_ok I2 ea c n l ry fun s3 I3=>⟨σ,_,I3,q2⟩
end
section
variable {X:Cx} {pins:List (Addr×Obj)} {σ:St} {H:Hp} {s:Shared} {A:Around} {E:Value→Shared→Prop} {Q:Value→Shared→Prop} {c:Value} {b:Bool}
inductive TyOf (K:PySem.W.Frag) (H:Hp):V→Value→Prop where
  | non:TyOf K H .non (.type "NoneType")
  | bl (x:Bool):TyOf K H (.bl x) (.type "bool")
  | int (i:Int):TyOf K H (.int i) (.type "int")
  | str (x:Str):TyOf K H (.str x) (.type "str")
  | flt (x:UInt64):TyOf K H (.flt x) (.type "float")
  | lst {a:Addr} {xs:List V} (e:H a=some (.lst xs)):TyOf K H (.ref a) (.type "list")
  | frz {a:Addr} {o:Obj} {xs:List V} (e:H a=some (.frz o (.lst xs))):TyOf K H (.ref a) (.type "list")
  | tup {a:Addr} {xs:List V} (e:H a=some (.tup xs)):TyOf K H (.ref a) (.type "tuple")
  | dK {a:Addr} {kvs:List (Key×V)} (e:H a=some (.dK kvs)):TyOf K H (.ref a) (.type "dict")
  | dT {a:Addr} {kvs:List (List Key×V)} (e:H a=some (.dT kvs)):TyOf K H (.ref a) (.type "dict")
  | ins {a C dx:Addr} {fs:List (Str×V)} (e:H a=some (.ins C dx fs)) (cl:Cls K C) (ha:PySem.W.findIn K (.ref C) "__class__" = some (some (.builtin "object.__class__")))
      (hn:PySem.W.specialIn K (.builtin "object.__class__") "__get__" = some (some (.builtin "getset_descriptor.__get__"))) (htk:PySem.W.takesIn K (.builtin "object.__class__")=some true)
      (hm:PySem.W.mroIn K C (.type "object")=some true):TyOf K H (.ref a) (.ref C)
end
end L2
namespace L2
open PySem PySem.Spec PyProof.Rows
structure Room (k:Nat) (A:Around):Prop where
  hd:A.handled=none
  dp:A.depth+3*k+5 < recursionLimit
  un:A.units+16*k+200 < cLine
theorem Room.mono {j k:Nat} {A:Around} (r:Room k A) (h:j≤k):Room j A:=⟨r.hd,by have:=r.dp;lia,by have:=r.un;lia⟩
theorem Room.deeper {k:Nat} {A:Around} (r:Room (k+1) A) (env:Env):Room k (A.deeper env) :=
  ⟨r.hd,by have:=r.dp;show A.depth+1+3*k+5 < _;lia,by have:=r.un;show A.units+3+16*k+200 < _;lia⟩
theorem make_depth {A:Around} {C:Addr} {us:List Value} {kw:List (Str×Value)}:(A.under (.builtin "type.__call__" ⟨.ref C :: us,kw⟩)).depth=A.depth+1:=by
  first | rfl | simp [Around.under,Code.weight,Code.isCreation,Code.isGuard,Code.isCaller,Code.frames,Code.isFrame,guardIds]
theorem make_units {A:Around} {C:Addr} {us:List Value} {kw:List (Str×Value)}:(A.under (.builtin "type.__call__" ⟨.ref C :: us,kw⟩)).units=A.units+1:=by
  first | rfl | simp [Around.under,Code.cUnits,Code.frames,Code.isFrame]
theorem Room.make {k:Nat} {A:Around} (r:Room (k+1) A) (C:Addr) (us:List Value) (kw:List (Str×Value)):Room k (A.under (.builtin "type.__call__" ⟨.ref C :: us,kw⟩)) :=
  ⟨r.hd,by have:=r.dp;rw [make_depth];lia,by have:=r.un;rw [make_units];lia⟩
theorem Room.depth {k:Nat} {A:Around} (r:Room k A):A.depth < recursionLimit:=by have:=r.dp;lia
theorem Room.units {k:Nat} {A:Around} (r:Room k A):A.units+64 < cLine:=by have:=r.un;lia
def tNil:TA:=fun _ H Q=>Q [] H
def tCons (ta:TE) (tr:TA):TA:=fun σ H Q=>ta σ H fun x H1=>tr σ H1 fun xs H2=>Q (x :: xs) H2
section
variable {X:Cx} {e:Expr} {es:List Expr} {te:TE} {t:TA} {pos:Pos}
theorem pa_nil:PA X [] tNil:=fun _ _ _ _ H Q I h=>Calls.spliced_nil ⟨[],H,I,.nil,h⟩
theorem pa_cons (ha:PE X e te) (hr:PA X es t) (hs:starEach (e :: es) X.env=(false,eval e X.env) :: starEach es X.env:=by rfl):PA X (e :: es) (tCons te t):=by
  intro pos pins s σ H Q I h
  rw [hs]
  show wpAny _ _ (spliced ((false,eval e X.env) :: backTo pos (starEach es X.env))) _ _ s
  refine Calls.spliced_cons (thn (ha pins s σ H _ I h) fun u s1 ⟨x,H1,I1,r1,q1⟩=>?_)
  exact thn (hr pos pins s1 σ H1 _ I1 q1) fun us s2 ⟨xs,H2,I2,r2,q2⟩=>⟨x :: xs,H2,I2,.cons r1 r2,q2⟩
def tTup (t:TA):TE:=fun σ H Q=>t σ H fun xs H1=>xs.length≤sizeLine∧∀ p,H1 p=none→Q (.ref p) (upd H1 p (.tup xs))
def tLst (t:TA):TE:=fun σ H Q=>t σ H fun xs H1=>xs.length≤sizeLine∧∀ p,H1 p=none→Q (.ref p) (upd H1 p (.lst xs))
theorem pe_tup {x1} (h:PA X es t):PE X (.Tuple es x1 pos) (tTup t):=by
  intro pins s σ H Q I hq
  refine wpAny_Tuple_spliced (thn (h pos pins s σ H _ I hq) fun us s1 ⟨xs,H1,I1,r,z,q⟩=>⟨by rw [←r.length];exact z,?_⟩)
  have hf:H1 s1.heap.objs.size=none:=I1.hok.fresh (Nat.le_refl _)
  refine ⟨.ref s1.heap.objs.size,upd H1 s1.heap.objs.size (.tup xs),I1.laid (t':=s1.toks) (fun b u e=>Heap.get?_push_of_some _ e) (Nat.le_refl _) ?_,rfl,q _ hf⟩
  exact ⟨z,us,r,⟨_,Heap.get?_push_size _ rfl,rfl,_,rfl⟩⟩
theorem pe_lst (h:PA X es t):PE X (.List es pos) (tLst t):=by
  intro pins s σ H Q I hq
  refine wpAny_List_spliced (thn (h pos pins s σ H _ I hq) fun us s1 ⟨xs,H1,I1,r,z,q⟩=>⟨by rw [←r.length];exact z,?_⟩)
  have hf:H1 s1.heap.objs.size=none:=I1.hok.fresh (Nat.le_refl _)
  refine ⟨.ref s1.heap.objs.size,upd H1 s1.heap.objs.size (.lst xs),I1.laid (t':=s1.toks) (fun b u e=>Heap.get?_push_of_some _ e) (Nat.le_refl _) ?_,rfl,q _ hf⟩
  exact ⟨z,us,0,r,Heap.get?_push_size _ rfl⟩
end
abbrev Sp:=List V→Hp→VK→XK→Prop
abbrev CXT:=List Env→Hp→Shared→XK→Value→Shared→Prop
structure Env0 (P:Program) (w:World) (K:PySem.W.Frag) (mg:Str→Option Value) (base:Heap) (A:Around) (outer:List Env) (s:Shared) (H:Hp):Prop where
  frames:A.frames=some outer
  mod:Mod K mg base
  bs:∀ b o,base.get? b=some o→s.heap.get? b=some o∧H b=none
  bsz:base.objs.size≤s.heap.objs.size
  funs:s.heap.FunFrames base outer
  frf:∀ b∈frs outer,H b=none
  hok:HOk P w H s.heap
  bare:AllBare s.gens
  tab:TabOk K mg base H
def CE (outer:List Env) (P:Program) (w:World) (H:Hp) (s:Shared) (Q:VK) (u:Value) (s':Shared):Prop :=
  ∃ v H',s'.os=s.os∧AllBare s'.gens∧Un (frs outer) [] H H' s.heap s'.heap∧HOk P w H' s'.heap∧RelV v u∧Q v H'
def CR (CX:CXT) (outer:List Env) (P:Program) (w:World) (H:Hp) (s:Shared) (Q:VK) (E:XK) (r:Result) (s':Shared):Prop :=
  match r with
  | .ok (.ret u)=>CE outer P w H s Q u s'
  | .ok _=>False
  | .error e=>CX outer H s E e s'
structure FnOk (P:Program) (w:World) (K:PySem.W.Frag) (mg:Str→Option Value) (base:Heap) (CX:CXT) (k:Nat) (f:Addr) (fd:FuncData) (ps:List Str) (sp:Sp):Prop where
  len:∀ vs H Q E,sp vs H Q E→vs.length=ps.length
  run:∀ (A:Around) (outer:List Env) (s:Shared) (H:Hp) (args:Args) (us:List Value) (vs:List V) (Q:VK) (E:XK),Room k A→Env0 P w K mg base A outer s H→BindsTo s fd args (ps.zip us)→Vals vs us→sp vs H Q E →
    codeAny (model P w) A (.call (.ref f) args) (CR CX outer P w H s Q E) s
theorem Env0.make {P:Program} {w:World} {K:PySem.W.Frag} {mg:Str→Option Value} {base:Heap} {A:Around} {outer:List Env} {s:Shared} {H:Hp} (e:Env0 P w K mg base A outer s H) (C:Addr) (us:List Value) (kw:List (Str×Value)) :
    Env0 P w K mg base (A.under (.builtin "type.__call__" ⟨.ref C :: us,kw⟩)) outer s H:=⟨by first | exact e.frames | (simpa [Around.under,Code.envs,Code.isFrame,pushEnvs] using e.frames),e.mod,e.bs,e.bsz,e.funs,e.frf,e.hok,e.bare,e.tab⟩
theorem Env0.in1 {P:Program} {w:World} {K:PySem.W.Frag} {mg:Str→Option Value} {base:Heap} {A:Around} {outer:List Env} {s:Shared} {H:Hp} (e:Env0 P w K mg base A outer s H) :
    Env0 P w K mg base A.in1 outer s H:=⟨e.frames,e.mod,e.bs,e.bsz,e.funs,e.frf,e.hok,e.bare,e.tab⟩
section
variable {X:Cx} {pins:List (Addr×Obj)} {σ:St} {H:Hp} {s s':Shared}
theorem Inv.env0 (I:Inv X pins σ H s):Env0 X.prog X.w X.K X.mg X.base X.A X.stack s H :=
  ⟨I.ok.frames,I.ok.mod,I.bs,Nat.le_trans I.ok.bsz I.sz,I.stack,I.stkFree,I.hok,I.bare,I.tab⟩
theorem Inv.after {Q:VK} {u:Value} (I:Inv X pins σ H s) (h:CE X.stack X.prog X.w H s Q u s'):EP X pins σ Q u s':=by
  obtain ⟨v,H',os,bare,un,hok,r,q⟩:=h
  obtain ⟨hh,g,d,t,os'⟩:=s'
  obtain rfl:os'=s.os:=os
  exact ⟨v,H',I.call (h':=hh) (g':=g) (d':=d) (t':=t) (ch:=[]) un hok bare (fun b z=>absurd z (by simp)),r,q⟩
end
def tCall (sp:Sp) (dvs:List V) (E:XK) (t:TA):TE:=fun σ H Q=>t σ H fun vs H1=>sp (vs++dvs) H1 Q E
def tMeth (C:Addr) (m:Str) (sp:Sp) (dvs:List V) (E:XK) (ta:TE) (t:TA):TE:=fun σ H Q=>ta σ H fun x H1=>∃ a dx fs,x=.ref a∧H1 a=some (.ins C dx fs)∧fs.lookup m=none ∧
  t σ H1 fun vs H2=>sp (x :: (vs++dvs)) H2 Q E
def tMake (C:Addr) (sp:Sp) (dvs:List V) (E:XK) (t:TA):TE:=fun σ H Q=>t σ H fun vs H1=>∀ x dx,H1 x=none→H1 dx=none→dx≠x →
  sp (.ref x :: (vs++dvs)) (upd (upd H1 dx (.own x)) x (.ins C dx [])) (fun v H2=>v=.non∧Q (.ref x) H2) E
def Binds (K:PySem.W.Frag) (fd:FuncData) (ps:List Str) (ds:List Value):Prop :=
  ∀ (s:Shared) (us:List Value),K.In s.heap→(us++ds).length=ps.length→BindsTo s fd ⟨us,[]⟩ (ps.zip (us++ds))
theorem Binds.all {K:PySem.W.Frag} {fd:FuncData} {ps:List Str} (h:∀ us:List Value,us.length=ps.length→bindArgs fd ⟨us,[]⟩=pure (ps.zip us)):Binds K fd ps []:=fun s us _ hl=>by
  rw [List.append_nil] at hl ⊢
  exact .of_eq (h us hl)
def Passes (CX:CXT) (X:Cx) (E:XK):Prop:=∀ (pins:List (Addr×Obj)) (σ:St) (H:Hp) (s:Shared) (e:Value) (s':Shared),Inv X pins σ H s→CX X.stack H s E e s'→X.xe e s'
section
variable {X:Cx} {CX:CXT} {k:Nat} {f C:Addr} {fd:FuncData} {ps:List Str} {sp:Sp} {dvs:List V} {ds:List Value} {E:XK} {x m:Str} {p pos apos:Pos} {e o:Expr} {es:List Expr} {ta:TE} {t:TA}
theorem run_fn {pins:List (Addr×Obj)} {σ:St} {H:Hp} {s:Shared} {Q:VK} {us:List Value} {vs:List V} (F:FnOk X.prog X.w X.K X.mg X.base CX k f fd ps sp) (hr:Room k X.A) (hb:Binds X.K fd ps ds) (hd:Vals dvs ds) (hx:Passes CX X E)
    (I:Inv X pins σ H s) (r:Vals vs us) (h:sp (vs++dvs) H Q E):wpAny (model X.prog X.w) X.A (call (.ref f) us) (EP X pins σ Q) X.xe s:=by
  have r2:Vals (vs++dvs) (us++ds):=r.append hd
  have hl:(us++ds).length=ps.length:=by rw [←r2.length];exact F.len _ _ _ _ h
  refine wpAny_call (codeAny_mono (F.run X.A X.stack s H ⟨us,[]⟩ (us++ds) (vs++dvs) Q E hr I.env0 (hb s us I.kIn hl) r2 h) fun r s' hq=>?_)
  cases r with
  | error e=>exact hx pins σ H s e s' I hq
  | ok fl =>
    cases fl with
    | ret u=>exact I.after hq
    | next=>exact False.elim hq
    | brk=>exact False.elim hq
    | cont=>exact False.elim hq
theorem pe_call (F:FnOk X.prog X.w X.K X.mg X.base CX k f fd ps sp) (hr:Room k X.A) (hg:Gl X x) (hm:X.mg x=some (.ref f)) (hk:PySem.W.keepIn X.K (.ref f)=true) (hb:Binds X.K fd ps ds) (hd:Vals dvs ds) (hx:Passes CX X E)
    (ha:PA X (e :: es) t) (hdb:(x==("__debug__" : Str))=false:=by decide) (he:starEach (e :: es) X.env=(false,eval e X.env) :: starEach es X.env:=by rfl) (hpl:(backTo pos (starEach es X.env)).any (·.1)=false:=by rfl) :
    PE X (.Call (.Name x p) (e :: es) [] pos) (tCall sp dvs E t):=by
  intro pins s σ H Q I h
  refine wpAny_Call_Name_kw (ld_glob I hg hm ?_ hdb)
  refine PySem.W.callWith_K (h₀:=X.base) I.ok.mod.kin hk (thn (ha pos pins s σ H _ I h) fun us s1 ⟨vs,H1,I1,r,q⟩=>⟨I1.kIn,?_⟩) he hpl
  exact run_fn F hr hb hd hx I1 r q
theorem pe_meth {pl:Sem Bool} (he:PE X o ta) (c:Cls X.K C) (hm:Meth X.K C m f) (F:FnOk X.prog X.w X.K X.mg X.base CX k f fd ps sp) (hr:Room k X.A) (hb:Binds X.K fd ps ds) (hd:Vals dvs ds) (hx:Passes CX X E) (ha:PA X (e :: es) t)
    (hst:starEach (e :: es) X.env=(false,eval e X.env) :: starEach es X.env:=by rfl) (hpl:(backTo pos (starEach es X.env)).any (·.1)=false:=by rfl)
    (ht:eval (.Call (.Attribute o m apos) (e :: es) [] pos) X.env=(do
      let ov ←eval o X.env
      standAt apos.atName
      let (f,first) ←holding [ov] (getMethod ov m pl)
      callWith pos f first (backTo pos (starEach (e :: es) X.env)) (backToKw pos (keywordEach [] X.env))):=by rfl) :
    PE X (.Call (.Attribute o m apos) (e :: es) [] pos) (tMeth C m sp dvs E ta t):=by
  intro pins s σ H Q I h
  refine PySem.W.methodCall_KW (pl:=pl) (thn (he pins s σ H _ I h) fun u s1 ⟨x,H1,I1,rx,a,dx,fs,ex,ea,l,q⟩=>?_) ht
  subst ex
  obtain rfl:u=Value.ref a:=rx
  refine getmeth_ok I1 ea c hm l ?_
  refine PySem.W.callWith_K (first:=[.ref a]) (h₀:=X.base) I.ok.mod.kin hm.kp (thn (ha pos pins s1 σ H1 _ I1 q) fun us s2 ⟨vs,H2,I2,r,q2⟩=>⟨I2.kIn,?_⟩) hst hpl
  exact run_fn (us:=.ref a :: us) (vs:=.ref a :: vs) F hr hb hd hx I2 (.cons rfl r) q2
theorem pe_meth0 {pl:Sem Bool} (he:PE X o ta) (c:Cls X.K C) (hm:Meth X.K C m f) (F:FnOk X.prog X.w X.K X.mg X.base CX k f fd ps sp) (hr:Room k X.A) (hb:Binds X.K fd ps ds) (hd:Vals dvs ds) (hx:Passes CX X E)
    (ht:eval (.Call (.Attribute o m apos) [] [] pos) X.env=(do
      let ov ←eval o X.env
      standAt apos.atName
      let (f,first) ←holding [ov] (getMethod ov m pl)
      callWith pos f first (backTo pos (starEach [] X.env)) (backToKw pos (keywordEach [] X.env))):=by rfl) :
    PE X (.Call (.Attribute o m apos) [] [] pos) (tMeth C m sp dvs E ta tNil):=by
  intro pins s σ H Q I h
  refine PySem.W.methodCall_KW (pl:=pl) (thn (he pins s σ H _ I h) fun u s1 ⟨x,H1,I1,rx,a,dx,fs,ex,ea,l,q⟩=>?_) ht
  subst ex
  obtain rfl:u=Value.ref a:=rx
  refine getmeth_ok I1 ea c hm l ?_
  exact PySem.W.callWith_K0 (first:=[.ref a]) I1.kIn hm.kp (run_fn (us:=[.ref a]) (vs:=[.ref a]) F hr hb hd hx I1 (.cons rfl .nil) q)
structure Mk (K:PySem.W.Frag) (C f:Addr):Prop where
  makes:PySem.W.makesIn K C=true
  init:PySem.W.findIn K (.ref C) "__init__" = some (some (.ref f))
  fn:PySem.W.isFn K (.ref f)=true
  kp:PySem.W.keepIn K (.ref C)=true
theorem run_make {pins:List (Addr×Obj)} {σ:St} {H:Hp} {s:Shared} {Q:VK} {us:List Value} {vs:List V} (M:Mk X.K C f) (F:FnOk X.prog X.w X.K X.mg X.base CX k f fd ps sp) (hr:Room (k+1) X.A) (hb:Binds X.K fd ps ds) (hd:Vals dvs ds)
    (hx:Passes CX X E) (I:Inv X pins σ H s) (r:Vals vs us)
    (h:∀ x dx,H x=none→H dx=none→dx≠x→sp (.ref x :: (vs++dvs)) (upd (upd H dx (.own x)) x (.ins C dx [])) (fun v H2=>v=.non∧Q (.ref x) H2) E) :
    wpAny (model X.prog X.w) X.A (call (.ref C) us) (EP X pins σ Q) X.xe s:=by
  have hq:=h (s.heap.objs.size+1) s.heap.objs.size (I.hok.fresh (Nat.le_succ _)) (I.hok.fresh (Nat.le_refl _)) (Nat.ne_of_lt (Nat.lt_succ_self _))
  have I2:=Inv.made (C:=C) I
  have r2:Vals (V.ref (s.heap.objs.size+1) :: (vs++dvs)) (Value.ref (s.heap.objs.size+1) :: (us++ds)):=.cons rfl (r.append hd)
  have hl:(Value.ref (s.heap.objs.size+1) :: us++ds).length=ps.length:=by
    have e:=r2.length
    rw [F.len _ _ _ _ hq] at e
    exact e.symm
  refine wpAny_call (make_map (f:=f) I.kIn M.makes M.init (beq_iff_eq.mp M.fn) (codeAny_mono (F.run _ X.stack _ _ ⟨Value.ref (s.heap.objs.size+1) :: us,[]⟩ (Value.ref (s.heap.objs.size+1) :: (us++ds)) _ _ E (hr.make C us [])
    (I2.env0.make C us []) (hb _ (Value.ref (s.heap.objs.size+1) :: us) I2.kIn hl) r2 hq) fun r s' hq'=>?_))
  cases r with
  | error e=>exact hx pins σ _ _ e s' I2 hq'
  | ok fl =>
    cases fl with
    | ret u =>
      obtain ⟨v,H',I3,rv,ev,q3⟩:=I2.after hq'
      subst ev
      exact ⟨rv,⟨V.ref (s.heap.objs.size+1),H',I3,rfl,q3⟩⟩
    | next=>exact False.elim hq'
    | brk=>exact False.elim hq'
    | cont=>exact False.elim hq'
theorem pe_make (M:Mk X.K C f) (F:FnOk X.prog X.w X.K X.mg X.base CX k f fd ps sp) (hr:Room (k+1) X.A) (hg:Gl X x) (hm:X.mg x=some (.ref C)) (hb:Binds X.K fd ps ds) (hd:Vals dvs ds) (hx:Passes CX X E)
    (ha:PA X (e :: es) t) (hdb:(x==("__debug__" : Str))=false:=by decide) (he:starEach (e :: es) X.env=(false,eval e X.env) :: starEach es X.env:=by rfl) (hpl:(backTo pos (starEach es X.env)).any (·.1)=false:=by rfl) :
    PE X (.Call (.Name x p) (e :: es) [] pos) (tMake C sp dvs E t):=by
  intro pins s σ H Q I h
  refine wpAny_Call_Name_kw (ld_glob I hg hm ?_ hdb)
  refine PySem.W.callWith_K (h₀:=X.base) I.ok.mod.kin M.kp (thn (ha pos pins s σ H _ I h) fun us s1 ⟨vs,H1,I1,r,q⟩=>⟨I1.kIn,?_⟩) he hpl
  exact run_make M F hr hb hd hx I1 r q
end
section
variable {X:Cx} {CX:CXT} {k:Nat} {f C:Addr} {fd:FuncData} {ps ks:List Str} {sp:Sp} {E:XK} {x m:Str} {p pos apos kpos:Pos} {e o:Expr} {es:List Expr} {kws:List Keyword} {te ta:TE} {t tk:TA} {nm:Option Str}
structure KBinds (K:PySem.W.Frag) (fd:FuncData) (ps ks:List Str) (g:List Value→List Value→List Value) (gV:List V→List V→List V):Prop where
  to:∀ (s:Shared) (us ws:List Value),K.In s.heap→(g us ws).length=ps.length→BindsTo s fd ⟨us,ks.zip ws⟩ (ps.zip (g us ws))
  rel:∀ {vs:List V} {us:List Value} {zs:List V} {ws:List Value},Vals vs us→Vals zs ws→Vals (gV vs zs) (g us ws)
variable {g:List Value→List Value→List Value} {gV:List V→List V→List V}
end
structure FnScope (N P:List Str) (sc:Scope):Prop where
  kind:sc.kind=.function
  co:sc.isCoroutine=false
  gen:sc.isGenerator=false
  nd:N.Nodup
  pre:N.take P.length=P
  par:∀ x∈P,sc.names.lookup x=some .local∨sc.names.lookup x=some .cell
  nofree:∀ y∈sc.names,y.2≠.free
theorem bindL_out {kindOf:Str→Option NameKind} {x:Str}:∀ {binds:List (Str×Value)} {m:Str→Option Value},(∀ v,(x,v)∉binds)→bindL kindOf binds m x=m x
  | [],_,_=>rfl
  | (n,v) :: r,m,h=>by
    unfold bindL
    rw [bindL_out fun w hw=>h w (List.mem_cons_of_mem _ hw)]
    split
    · have:x≠n:=by rintro rfl;exact h v List.mem_cons_self
      simp [this]
    · rfl
theorem bindC_out {kindOf:Str→Option NameKind} {x:Str}:∀ {binds:List (Str×Value)} {m:Str→Option Value},(∀ v,(x,v)∉binds)→bindC kindOf binds m x=m x
  | [],_,_=>rfl
  | (n,v) :: r,m,h=>by
    unfold bindC
    rw [bindC_out fun w hw=>h w (List.mem_cons_of_mem _ hw)]
    split
    · rfl
    · have:x≠n:=by rintro rfl;exact h v List.mem_cons_self
      simp [this]
theorem bindL_get {kindOf:Str→Option NameKind} {x:Str} {v:Value}:∀ {P:List Str} {vs:List Value} {i:Nat} {m:Str→Option Value},P.Nodup→P[i]?=some x→vs[i]?=some v→kindOf x=some .local →
    bindL kindOf (P.zip vs) m x=some v
  | [],_,_,_,_,h,_,_=>by simp at h
  | _ :: _,[],_,_,_,_,h,_=>by simp at h
  | p :: P,w :: vs,0,m,nd,h1,h2,hk=>by
    simp at h1 h2;subst h1;subst h2
    show bindL kindOf ((p,w) :: P.zip vs) m p=_
    unfold bindL
    rw [bindL_out fun v hv=>(List.nodup_cons.mp nd).1 (List.of_mem_zip hv).1,if_pos hk]
    simp
  | p :: P,w :: vs,i+1,m,nd,h1,h2,hk=>by
    show bindL kindOf ((p,w) :: P.zip vs) m x=_
    unfold bindL
    exact bindL_get (i:=i) (List.nodup_cons.mp nd).2 (by simpa using h1) (by simpa using h2) hk
theorem bindC_get {kindOf:Str→Option NameKind} {x:Str} {v:Value}:∀ {P:List Str} {vs:List Value} {i:Nat} {m:Str→Option Value},P.Nodup→P[i]?=some x→vs[i]?=some v→kindOf x≠some .local →
    bindC kindOf (P.zip vs) m x=some v
  | [],_,_,_,_,h,_,_=>by simp at h
  | _ :: _,[],_,_,_,_,h,_=>by simp at h
  | p :: P,w :: vs,0,m,nd,h1,h2,hk=>by
    simp at h1 h2;subst h1;subst h2
    show bindC kindOf ((p,w) :: P.zip vs) m p=_
    unfold bindC
    rw [bindC_out fun v hv=>(List.nodup_cons.mp nd).1 (List.of_mem_zip hv).1,if_neg hk]
    simp
  | p :: P,w :: vs,i+1,m,nd,h1,h2,hk=>by
    show bindC kindOf ((p,w) :: P.zip vs) m x=_
    unfold bindC
    exact bindC_get (i:=i) (List.nodup_cons.mp nd).2 (by simpa using h1) (by simpa using h2) hk
def start (N:List Str) (vs:List V):St:=vs.map some++List.replicate (N.length-vs.length) none
def cxOf (CX:CXT) (P:Program) (w:World) (K:PySem.W.Frag) (mg:Str→Option Value) (base:Heap) (N:List Str) (qual:Str) (scope:Scope) (f:Addr) (cd:Value) (A:Around) (outer:List Env) (s:Shared) (H:Hp) (E:XK):Cx where
  prog:=P
  w:=w
  K:=K
  mg:=mg
  base:=base
  A:=A.deeper (envOfC qual scope s.heap.objs.size f cd)
  N:=N
  s₀:=s
  H₀:=H
  env:=envOfC qual scope s.heap.objs.size f cd
  outer:=outer
  stack:=envOfC qual scope s.heap.objs.size f cd :: outer
  ex:=[]
  calm:=true
  fn:=fun _=>true
  pn:=[]
  xe:=fun e s'=>wpAny (model P w) (A.deeper (envOfC qual scope s.heap.objs.size f cd)) (leaving (envOfC qual scope s.heap.objs.size f cd) e) (fun _ s''=>CX outer H s E e s'') (fun e' s''=>CX outer H s E e' s'') s'
theorem cell_has {sc:Scope} {n:Nat} {x:Str} (h:sc.names.lookup x=some .cell):∃ c,(cellsFrom n sc.names []).lookup x=some c:=by
  have q:=PySem.W.cellsFrom_some sc.names n [] (.inl h)
  exact Option.isSome_iff_exists.mp q
theorem inv_start {CX : CXT} {P : Program} {w : World} {K : PySem.W.Frag} {mg : Str → Option Value} {base : Heap} {N ps : List Str} {qual : Str} {scope : Scope} {f : Addr} {cd : Value} {A : Around} {outer : List Env} {s s1 : Shared} {H : Hp} {E : XK} {us : List Value} {vs : List V}
    (S:FnScope N ps scope) (hd:A.handled=none) (e0:Env0 P w K mg base A outer s H) (hl:vs.length=ps.length) (r:Vals vs us)
    (x:InCallC s s.heap.objs.size (bindL (envOfC qual scope s.heap.objs.size f cd).kindOf (ps.zip us) fun _=>none) (cellsFrom (s.heap.objs.size+1) scope.names []) (bindC (envOfC qual scope s.heap.objs.size f cd).kindOf (ps.zip us) fun _=>none) s1) :
    Inv (cxOf CX P w K mg base N qual scope f cd A outer s H E) [] (start N vs) H s1:=by
  have hpl:ps.length≤N.length:=by have:=congrArg List.length S.pre;rw [List.length_take] at this;lia
  obtain ⟨h1,tk,rfl,hk⟩:=x.done
  have noA:∀ b:Addr,b∉(cxOf CX P w K mg base N qual scope f cd A outer s H E).ex:=fun b z=>absurd (show b∈([]:List Addr) from z) (by simp)
  refine ⟨⟨e0.mod,S.kind,rfl,rfl,Nat.le_refl _,fun y z c h1 h2=>?_,fun y hy=>?_,fun y c _ h=>?_,fun _=>hd,Around.frames_deeper e0.frames,.inr ⟨rfl,rfl⟩,fun b z=>absurd z (noA b),e0.bs,e0.bsz,fun b _ _=>noA b,fun b z=>absurd z (noA b),e0.funs,e0.frf⟩,
    rfl,e0.bare,Un.kept hk,⟨_,x.toInCall.ns,fun i y v h1 h2 h3=>?_⟩,fun y c h=>⟨_,x.cell y c h⟩,e0.hok.fresh (Nat.le_refl _),fun y c h=>?_,fun p hp=>absurd (show p∈([]:List (Addr×Obj)) from hp) (by simp),e0.hok.kept hk,?_,e0.tab⟩
  · exact name_of_addr x.apart (PySem.mem_of_lookup h1) (PySem.mem_of_lookup h2)
  · have hy:scope.names.lookup y=some .cell∨scope.names.lookup y=some .free:=hy
    rcases hy with hy | hy
    · exact cell_has hy
    · exact absurd rfl (S.nofree _ (PySem.mem_of_lookup hy))
  · exact Nat.le_of_lt (x.above y c (PySem.mem_of_lookup h))
  · have hi:i < vs.length:=by
      unfold start at h2
      by_cases hi:i < vs.length
      · exact hi
      · rw [List.getElem?_append_right (by simpa using hi)] at h2
        rw [List.getElem?_replicate] at h2
        split at h2<;>cases h2
    have ha:vs[i]?=some v:=by
      unfold start at h2
      rw [List.getElem?_append_left (by simpa using hi),List.getElem?_map] at h2
      cases e:vs[i]? with
      | none=>rw [e] at h2;cases h2
      | some a=>rw [e] at h2;cases h2;rfl
    obtain ⟨u,hu,rv⟩:=r.get ha
    have hp:ps[i]?=some y:=by
      rw [←S.pre,List.getElem?_take_of_lt (by lia)];exact h1
    have ndP:ps.Nodup:=by rw [←S.pre];exact S.nd.sublist (List.take_sublist _ _)
    refine ⟨u,rv,?_⟩
    rcases S.par y (List.mem_of_getElem? hp) with k | k
    · exact .inl ⟨k,bindL_get ndP hp hu k⟩
    · obtain ⟨c,e⟩:=cell_has (n:=s.heap.objs.size+1) k
      refine .inr ⟨.inl k,c,e,?_⟩
      have q:=x.cell y c e
      rw [bindC_get ndP hp hu (by show scope.names.lookup y≠_;rw [k];decide)] at q
      exact q
  · exact e0.hok.fresh (Nat.le_of_lt (x.above y c (PySem.mem_of_lookup h)))
  · unfold start
    show _=N.length
    rw [List.length_append,List.length_map,List.length_replicate]
    lia
theorem fn_of {CX:CXT} {P:Program} {w:World} {K:PySem.W.Frag} {mg:Str→Option Value} {base:Heap} {k:Nat} {f:Addr} {name qual:Str} {params:Arguments} {body:List Stmt} {scope:Scope} {dV kV doc pm cdv ct oc:Value} {an od:Option Addr}
    {osl:Array (Option Value)} {N ps:List Str} {sp:Sp} (lk:K.lookup f=some ⟨oc,od,.func (PySem.W.fnOf name qual params body scope dV kV doc pm an cdv ct),osl⟩) (hcd:PySem.W.codeIn K cdv qual=true) (S:FnScope N ps scope)
    (len:∀ vs H Q E,sp vs H Q E→vs.length=ps.length)
    (hbody:∀ (A:Around) (outer:List Env) (s:Shared) (H:Hp) (vs:List V) (Q:VK) (E:XK),Room k (A.deeper (envOfC qual scope s.heap.objs.size f cdv))→sp vs H Q E →
      ∃ t,PSs (cxOf CX P w K mg base N qual scope f cdv A outer s H E) body t∧t { nx:=fun _ H'=>Q .non H',rt:=Q } (start N vs) H) :
    FnOk P w K mg base CX (k+1) f (PySem.W.fnOf name qual params body scope dV kV doc pm an cdv ct) ps sp:=by
  refine ⟨len,fun A outer s H args us vs Q E hr e0 hb r hsp=>?_⟩
  have hl:=len _ _ _ _ hsp
  have KX:K.In s.heap:=e0.mod.kin.keeps fun b o e=>(e0.bs b o e).1
  have lim:s.heap.NoLimit:=e0.mod.nolimit.keeps fun b o e=>(e0.bs b o e).1
  have hkind:∀ y∈ps.zip us,scope.names.lookup y.1=some .local∨(scope.names.lookup y.1=some .cell∧((cellsFrom (s.heap.objs.size+1) scope.names []).lookup y.1).isSome=true):=fun ⟨n,v⟩ hy=>by
    rcases S.par n (List.of_mem_zip hy).1 with q | q
    · exact .inl q
    · exact .inr ⟨q,PySem.W.cellsFrom_some _ _ _ (.inl q)⟩
  refine codeAny_call_function hr.depth (KX _ _ lk) rfl S.co S.gen rfl (PySem.W.codeRec_of KX hcd) (hb _ _ _ _ ?_)
  refine wpAny_newFunctionEnv_cells S.kind hkind fun env he s1 x=>?_
  subst he
  refine ⟨lim.keeps x.toInCall.keep,codeAny_func ?_⟩
  obtain ⟨t,ht,hq⟩:=hbody A outer s H vs Q E (hr.deeper _) hsp
  have I:Inv (cxOf CX P w K mg base N qual scope f cdv A outer s H E) [] (start N vs) H s1:=inv_start S hr.hd e0 hl r x
  refine wpAny_mono (ht [] s1 (start N vs) H _ I hq) (fun fl s' hs=>?_) fun e s' hs=>hs
  have fin:∀ {σ':St} {H':Hp} {v:V} {u:Value},Inv (cxOf CX P w K mg base N qual scope f cdv A outer s H E) [] σ' H' s'→RelV v u→Q v H'→CE outer P w H s Q u s' :=
    fun {σ' H' v u} J rv q=>⟨v,H',J.os,J.bare,J.base,J.hok,rv,q⟩
  cases fl with
  | ret u =>
    obtain ⟨v,σ',H',J,rv,q⟩:=hs
    exact fin J rv q
  | next =>
    obtain ⟨σ',H',J,q⟩:=hs
    exact fin (v:=V.non) (u:=Value.none) J rfl q
  | brk =>
    obtain ⟨_,_,_,q⟩:=hs
    exact False.elim q
  | cont =>
    obtain ⟨_,_,_,q⟩:=hs
    exact False.elim q
end L2
namespace L2
open PySem PySem.Spec PyProof.Rows
section
variable {X:Cx} {x:Str} {p pos:Pos} {e:Expr} {es:List Expr} {t:TA} {id T:String} {r:List V→Hp→VK→Prop}
def tCB (r:List V→Hp→VK→Prop) (t:TA):TE:=fun σ H Q=>t σ H fun vs H1=>r vs H1 Q
theorem pe_callB (hc:CallR X (.builtin id) r) (hg:Gl X x) (hm:X.mg x=none) (hv:bootBuiltins x=some (.builtin id)) (ha:PA X (e :: es) t) (hn:x ≠ "__name__" := by decide) (hdb:(x==("__debug__" : Str))=false:=by decide)
    (he:starEach (e :: es) X.env=(false,eval e X.env) :: starEach es X.env:=by rfl) (hpl:(backTo pos (starEach es X.env)).any (·.1)=false:=by rfl):PE X (.Call (.Name x p) (e :: es) [] pos) (tCB r t):=by
  intro pins s σ H Q I h
  refine wpAny_Call_Name_kw (ld_blt I hg hm hv ?_ hn hdb)
  exact PyProof.Rows.callWith_builtin1 (thn (ha pos pins s σ H _ I h) fun us s1 ⟨vs,H1,I1,r1,q1⟩=>hc pins s1 σ H1 vs us Q I1 r1 q1) he hpl
theorem pe_callTy (hc:CallR X (.type T) r) (hg:Gl X x) (hm:X.mg x=none) (hv:bootBuiltins x=some (.type T)) (ha:PA X (e :: es) t) (hn:x ≠ "__name__" := by decide) (hdb:(x==("__debug__" : Str))=false:=by decide)
    (he:starEach (e :: es) X.env=(false,eval e X.env) :: starEach es X.env:=by rfl) (hpl:(backTo pos (starEach es X.env)).any (·.1)=false:=by rfl):PE X (.Call (.Name x p) (e :: es) [] pos) (tCB r t):=by
  intro pins s σ H Q I h
  refine wpAny_Call_Name_kw (ld_blt I hg hm hv ?_ hn hdb)
  exact PyProof.Rows.callWith_type1 (thn (ha pos pins s σ H _ I h) fun us s1 ⟨vs,H1,I1,r1,q1⟩=>hc pins s1 σ H1 vs us Q I1 r1 q1) he hpl
end
end L2
namespace HT
open PySem PyProof.Rows
section
open PySem.SeqAt
open PySem.AutoSeq1 (wpAny_loadPart')
open PySem.MeetsSeq PySem.MeetsSeq2 PySem.MeetsSeq3
end
section
variable {prog:Program} {w:World} {A:Around} {E:Value→Shared→Prop} {s:Shared}
theorem cat_tup {t b:Addr} {vs ws:List Value} {Q:Value→Shared→Prop} (ht:IsTup s.heap t vs.toArray) (hb:IsTup s.heap b ws.toArray) (hv:vs≠[])
    (h1:ws=[]→Q (.ref t) s) (h2:ws≠[]→Q (.ref s.heap.objs.size) { s with heap:=s.heap.push { cls:=.type "tuple",data:=.seq (vs++ws).toArray } })
    (hsz:vs.length+ws.length≤sizeLine):wpAny (model prog w) A (binaryOp .Add (.ref t) (.ref b)) Q E s:=by
  obtain ⟨⟨cls,dd,data,sl⟩,ho,hc,n,hd⟩:=id ht
  obtain ⟨⟨cls2,dd2,data2,sl2⟩,ho2,hc2,n2,hd2⟩:=id hb
  simp only at hc hd hc2 hd2
  subst hc hd hc2 hd2
  have e:vs.toArray++ws.toArray=(vs++ws).toArray:=by simp
  by_cases hw:ws=[]
  · exact concat_meets ⟨_,ho,rfl⟩ ⟨_,ho2,rfl⟩ noFill_tuple_add seq_tuple_add PySem.F.slot_tuple_add PySem.F.entry_tuple_add (PySem.F.args_tuple_add_2 _ _)
      (tuple_addW1 t b vs.toArray ws.toArray n n2 dd dd2 sl sl2 (by simpa using hv) (by simp [hw])) ⟨ho,ho2,h1 hw⟩
  · refine concat_meets ⟨_,ho,rfl⟩ ⟨_,ho2,rfl⟩ noFill_tuple_add seq_tuple_add PySem.F.slot_tuple_add PySem.F.entry_tuple_add (PySem.F.args_tuple_add_2 _ _)
      (tuple_addW2 t b vs.toArray ws.toArray n n2 dd dd2 sl sl2 (by simpa using hv) (by simpa using hw) (by rw [List.size_toArray,List.size_toArray];exact hsz)) ⟨ho,ho2,?_⟩
    rw [e]
    exact h2 hw
def sIx (n d:Nat):Option Int→Nat
  | none=>d
  | some v=>if v < 0 then (v+(n:Int)).toNat else min v.toNat n
theorem sIx_le (n d:Nat) (hd:d≤n) (o:Option Int):sIx n d o≤n:=by
  cases o with
  | none=>exact hd
  | some v =>
    show (if v < 0 then (v+(n:Int)).toNat else min v.toNat n)≤n
    by_cases hv:v < 0
    · rw [if_pos hv];lia
    · rw [if_neg hv];exact Nat.min_le_right _ _
theorem clip_eq (v:Int) (n d:Nat):(if v < 0 then max (v+(n:Int)) 0 else min v (n:Int))=((sIx n d (some v):Nat):Int):=by
  show (if v < 0 then max (v+(n:Int)) 0 else min v (n:Int))=(((if v < 0 then (v+(n:Int)).toNat else min v.toNat n):Nat):Int)
  by_cases hv:v < 0
  · simp only [if_pos hv];lia
  · simp only [if_neg hv];lia
theorem adjust_gen (lo hi:Option Int) (n:Nat):Builtin.Slice.sliceAdjust lo hi 1 (n:Int)=(((sIx n 0 lo:Nat):Int),((sIx n n hi:Nat):Int)):=by
  have h1:¬ ((1:Int) < 0):=by lia
  unfold Builtin.Slice.sliceAdjust
  simp only [h1,if_false]
  refine Prod.ext ?_ ?_
  · cases lo with
    | none=>rfl
    | some v=>exact clip_eq v n 0
  · cases hi with
    | none=>rfl
    | some v=>exact clip_eq v n n
theorem places_gen (i j:Nat):Builtin.Slice.slicePlaces (i:Int) (j:Int) 1=j-i:=by
  unfold Builtin.Slice.slicePlaces
  have h1:(1:Int) > 0:=by lia
  simp only [h1,if_true,Int.ediv_one]
  split<;>lia
theorem slicePart_ {v:Value} {o:Option Int} {Q:Option Int→Shared→Prop} (p:IsPart v o) (h:Q o s):wpAny (model prog w) A (Builtin.Slice.slicePartIndex v) Q E s:=by
  cases p with
  | none=>exact slicePart_none h
  | int i t=>exact slicePart_int h
theorem sliceApplied_gen {sl:Addr} {vl vu:Value} {lo hi:Option Int} {n:Nat} {Q:Int×Int×Nat→Shared→Prop} (hs:s.heap.IsSliceOf sl vl vu .none) (pl:IsPart vl lo) (pu:IsPart vu hi)
    (h:Q (((sIx n 0 lo:Nat):Int),1,sIx n n hi-sIx n 0 lo) s):wpAny (model prog w) A (Builtin.Slice.sliceApplied (.ref sl) (pure (n:Int))) Q E s:=by
  obtain ⟨os,hos,hcs,hds⟩:=id hs
  unfold Builtin.Slice.sliceApplied Builtin.Slice.sliceFields
  refine wpAny_bind (wpAny_bind (wpAny_field hos hds (x:=vl) rfl (wpAny_bind (wpAny_field hos hds (x:=vu) rfl (wpAny_bind (wpAny_field hos hds (x:=.none) rfl (wpAny_pure ?_)))))))
  refine wpAny_bind (slicePart_none ?_)
  show wpAny _ _ (if ((1:Int)==0)=true then _ else _) _ _ s
  rw [if_neg (by decide)]
  refine wpAny_bind (slicePart_ pl (wpAny_bind (slicePart_ pu (wpAny_bind (wpAny_pure ?_)))))
  show wpAny _ _ (match Builtin.Slice.sliceAdjust lo hi 1 (n:Int) with | (lo,hi)=>pure (lo,(1:Int),Builtin.Slice.slicePlaces lo hi 1)) _ _ s
  rw [adjust_gen lo hi n]
  show wpAny _ _ (pure (((sIx n 0 lo:Nat):Int),(1:Int),Builtin.Slice.slicePlaces ((sIx n 0 lo:Nat):Int) ((sIx n n hi:Nat):Int) 1)) _ _ s
  rw [places_gen]
  exact wpAny_pure h
theorem pick_gen (xs:Array Value) (i k:Nat):((List.range k).filterMap fun (m:Nat)=>xs[((i:Int)+(m:Int)*1).toNat]?).toArray=((xs.toList.drop i).take k).toArray:=by
  have e:(fun (m:Nat)=>xs[((i:Int)+(m:Int)*1).toNat]?)=fun m=>xs[i+m]?:=by
    funext m
    have:((i:Int)+(m:Int)*1).toNat=i+m:=by lia
    rw [this]
  rw [e]
  have:=pick_run xs i k
  rw [List.filterMap_map] at this
  have e2:((fun x=>xs[x]?)∘fun x=>i+x)=fun m=>xs[i+m]?:=rfl
  rw [e2] at this
  rw [this]
theorem getItem_tuple_cut {t sl:Addr} {items:Array Value} {vl vu:Value} {lo hi:Option Int} {Q:Value→Shared→Prop} (ht:IsTup s.heap t items) (hs:s.heap.IsSliceOf sl vl vu .none) (pl:IsPart vl lo) (pu:IsPart vu hi)
    (hw:¬ (sIx items.size 0 lo=0∧sIx items.size items.size hi=items.size))
    (h:Q (.ref s.heap.objs.size) { s with heap:=s.heap.push { cls:=.type "tuple",data:=.seq ((items.toList.drop (sIx items.size 0 lo)).take (sIx items.size items.size hi-sIx items.size 0 lo)).toArray } })
    (hsz:items.size≤sizeLine):wpAny (model prog w) A (getItem (.ref t) (.ref sl)) Q E s:=by
  have htake:sizeOk (.seq ((items.toList.drop (sIx items.size 0 lo)).take (sIx items.size items.size hi-sIx items.size 0 lo)).toArray):=by
    show ((items.toList.drop (sIx items.size 0 lo)).take (sIx items.size items.size hi-sIx items.size 0 lo)).toArray.size≤sizeLine
    rw [List.size_toArray,List.length_take,List.length_drop,Array.length_toList]
    lia
  have hj:sIx items.size items.size hi≤items.size:=sIx_le _ _ (Nat.le_refl _) hi
  obtain ⟨os,hos,hcs,hds⟩:=id hs
  have hTs:s.TypeIs (.ref sl) "slice" := ⟨os,hos,hcs⟩
  unfold getItem
  try with_reducible refine wpAny_holding ?_
  first | refine wpAny_bind (wpAny_pure ?_) | skip
  refine wpAny_bind (wpAny_sequenceKey ht.typeIs (by decide) ?_)
  refine wpAny_bind (wpAny_callSpecial?_slot (name:=Str.ofString "__getitem__") ht.typeIs PyProof.Rows.slot_tuple_getitem
    (wpAny_call_entry PyProof.Rows.slot_tuple_getitem ht.typeIs entry_tuple_getitem ?_ (args_tuple_getitem _ _)))
  show wpAny _ _ (Builtin.Tuple.tupleItemsOf (.ref t) >>= _) _ _ s
  refine wpAny_bind (tupleItemsOf_ ht ?_)
  refine wpAny_bind (wpAny_typeOf hTs ?_)
  rw [if_pos (by decide)]
  refine wpAny_bind (sliceApplied_gen hs pl pu ?_)
  have hno:¬ ((((sIx items.size 0 lo:Nat):Int)==0&&(1:Int)==1&&(sIx items.size items.size hi-sIx items.size 0 lo)==items.size)=true):=by
    intro q
    rw [Bool.and_eq_true,Bool.and_eq_true] at q
    have q1:((sIx items.size 0 lo:Nat):Int)=0:=eq_of_beq q.1.1
    have q2:sIx items.size items.size hi-sIx items.size 0 lo=items.size:=eq_of_beq q.2
    exact hw ⟨by lia,by lia⟩
  show wpAny _ _ (if (((sIx items.size 0 lo:Nat):Int)==0&&(1:Int)==1&&(sIx items.size items.size hi-sIx items.size 0 lo)==items.size)=true then _ else _) _ _ s
  rw [if_neg hno,pick_gen]
  first
    | exact wpAny_bind (m:=Builtin.Tuple.tupleExact _) (wpAny_newObj_type (wpAny_pure ⟨_,rfl,wpAny_pure h⟩) htake)
    | exact wpAny_bind (m:=Builtin.Tuple.tupleExact _) (wpAny_newObj_type (wpAny_bind (wpAny_pure (wpAny_pure ⟨_,rfl,wpAny_pure h⟩))) htake)
    | exact wpAny_bind (wpAny_bind (m:=Builtin.Tuple.tupleExact _) (wpAny_newObj_type (wpAny_pure (wpAny_pure ⟨_,rfl,wpAny_pure h⟩)) htake))
    | exact wpAny_bind (wpAny_bind (m:=Builtin.Tuple.tupleExact _) (wpAny_newObj_type (wpAny_pure ⟨_,rfl,wpAny_pure h⟩) htake))
end
end HT
namespace L2
open PySem PySem.Spec PyProof.Rows
abbrev TO:=St→Hp→(Option Int→Hp→Prop)→Prop
def PO (X:Cx) (e:Option Expr) (t:TO):Prop :=
  ∀ (pins:List (Addr×Obj)) (s:Shared) (σ:St) (H:Hp) (Q:Option Int→Hp→Prop),Inv X pins σ H s→t σ H Q →
    wpAny (model X.prog X.w) X.A (evalPart e X.env) (fun u s'=>∃ o H',Inv X pins σ H' s'∧IsPart u o∧Q o H') X.xe s
def tNoPart:TO:=fun _ H Q=>Q none H
def tPart (t:TE):TO:=fun σ H Q=>t σ H fun x H1=>∃ i,x=.int i∧Q (some i) H1
section
variable {X:Cx} {e:Expr} {te:TE} {lo hi:Option Expr} {tl th:TO} {pos p2:Pos}
theorem po_none:PO X none tNoPart:=by
  intro pins s σ H Q I h
  rw [evalPart_none]
  exact wpAny_pure ⟨none,H,I,.none,h⟩
theorem po_some (h:PE X e te):PO X (some e) (tPart te):=by
  intro pins s σ H Q I hw
  rw [evalPart_some]
  refine thn (h pins s σ H _ I hw) fun u s1 ⟨x,H1,I1,r1,q1⟩=>?_
  obtain ⟨i,rfl,q⟩:=q1
  obtain ⟨t,rfl⟩:=r1
  exact ⟨some i,H1,I1,.int i t,q⟩
def SlR (X:Cx) (r:V→Option Int→Option Int→Hp→VK→Prop):Prop :=
  ∀ (pins:List (Addr×Obj)) (s:Shared) (σ:St) (H:Hp) (x:V) (v vl vu:Value) (lo hi:Option Int) (sl:Addr) (Q:VK),Inv X pins σ H s→RelV x v→s.heap.IsSliceOf sl vl vu .none→IsPart vl lo→IsPart vu hi→r x lo hi H Q →
    ∃ T id,typeLookup (.type T) "__getitem__" = pure (some (.builtin id))∧s.TypeIs v T∧wpAny (model X.prog X.w) X.A (getItem v (.ref sl)) (EP X pins σ Q) X.xe s
theorem SlR.or {r r':V→Option Int→Option Int→Hp→VK→Prop} (h:SlR X r) (h':SlR X r'):SlR X (fun x lo hi H Q=>r x lo hi H Q∨r' x lo hi H Q):=by
  intro pins s σ H x v vl vu lo hi sl Q I rx hs pl pu q
  rcases q with q | q
  · exact h pins s σ H x v vl vu lo hi sl Q I rx hs pl pu q
  · exact h' pins s σ H x v vl vu lo hi sl Q I rx hs pl pu q
def tSl (r:V→Option Int→Option Int→Hp→VK→Prop) (te:TE) (tl th:TO):TE:=fun σ H Q=>te σ H fun x H1=>tl σ H1 fun l H2=>th σ H2 fun u H3=>r x l u H3 Q
theorem pe_slice {r:V→Option Int→Option Int→Hp→VK→Prop} (hr:SlR X r) (he:PE X e te) (hl:PO X lo tl) (hu:PO X hi th):PE X (.Subscript e (.Slice lo hi none p2) pos) (tSl r te tl th):=by
  intro pins s σ H Q I h
  refine Subscript_ (thn (he pins s σ H _ I h) fun v s1 ⟨x,H1,I1,r1,q1⟩=>?_)
  refine wpAny_Slice (thn (hl pins s1 σ H1 _ I1 q1) fun vl s2 ⟨l,H2,I2,pl,q2⟩=>thn (hu pins s2 σ H2 _ I2 q2) fun vu s3 ⟨u,H3,I3,pu,q3⟩=>?_)
  rw [evalPart_none]
  refine wpAny_pure ?_
  have I4:Inv X pins σ H3 { s3 with heap:=s3.heap.push { cls:=.type "slice",data:=.fields #[vl,vu,.none] } }:=I3.kept (t':=s3.toks) fun b ob q=>Heap.get?_push_of_some _ q
  obtain ⟨T,id,hT,ht,hg⟩:=hr pins { s3 with heap:=s3.heap.push { cls:=.type "slice",data:=.fields #[vl,vu,.none] } } σ H3 x v vl vu l u s3.heap.objs.size Q I4 r1 (Heap.IsSliceOf.new ..) pl pu q3
  show wpAny (model X.prog X.w) X.A (subscriptTail e (.Slice lo hi none p2) v (.ref s3.heap.objs.size)) (EP X pins σ Q) X.xe { s3 with heap:=s3.heap.push { cls:=.type "slice",data:=.fields #[vl,vu,.none] } }
  exact tail_any (ops:=[.ref s3.heap.objs.size,v]) ht hT hg (by with_unfolding_all rfl)
def cutV (xs:List V) (lo hi:Option Int):List V:=(xs.drop (HT.sIx xs.length 0 lo)).take (HT.sIx xs.length xs.length hi-HT.sIx xs.length 0 lo)
theorem cutV_length (xs:List V) (lo hi:Option Int):(cutV xs lo hi).length≤xs.length:=by
  unfold cutV
  rw [List.length_take,List.length_drop]
  lia
def rSlT (K:PySem.W.Frag):V→Option Int→Option Int→Hp→VK→Prop:=fun x lo hi H Q=>∃ a xs,x=.ref a∧SqT K H a xs ∧
  ¬ (HT.sIx xs.length 0 lo=0∧HT.sIx xs.length xs.length hi=xs.length)∧∀ p,H p=none→Q (.ref p) (upd H p (.tup (cutV xs lo hi)))
theorem sl_tup:SlR X (rSlT X.K):=by
  intro pins s σ H x v vl vu lo hi sl Q I rx hs pl pu h
  obtain ⟨a,xs,rfl,hx,hw,q⟩:=h
  cases rx
  obtain ⟨its,r,ht,hz⟩:=I.tuple hx
  have hlen:its.toArray.size=xs.length:=by rw [List.size_toArray];exact r.length.symm
  refine ⟨"tuple",_,PyProof.Rows.slot_tuple_getitem.lookup,ht.typeIs,?_⟩
  refine HT.getItem_tuple_cut ht hs pl pu (by rw [hlen];exact hw) ?_ (by rw [hlen];exact hz)
  rw [hlen]
  refine ⟨.ref s.heap.objs.size,_,I.laid (t':=s.toks) (o:=.tup (cutV xs lo hi)) (fun b ob q=>Heap.get?_push_of_some _ q) (Nat.le_refl _) ?_,rfl,q _ (I.hok.fresh (Nat.le_refl _))⟩
  exact ⟨Nat.le_trans (cutV_length xs lo hi) hz,_,(r.drop (HT.sIx xs.length 0 lo)).take (HT.sIx xs.length xs.length hi-HT.sIx xs.length 0 lo),IsTup.new _ _⟩
def rCatT (K:PySem.W.Frag):R2:=fun x y H Q=>∃ a b xs ys,x=.ref a∧y=.ref b∧SqT K H a xs∧SqT K H b ys∧xs≠[]∧xs.length+ys.length≤sizeLine ∧
  (ys=[]→Q (.ref a) H)∧(ys≠[]→∀ p,H p=none→Q (.ref p) (upd H p (.tup (xs++ys))))
theorem Vals.nil_iff {xs:List V} {us:List Value} (r:Vals xs us):us=[]↔xs=[]:=by
  cases r with
  | nil=>simp
  | cons _ _=>simp
theorem op_catT:OpR X (binaryOp .Add) (rCatT X.K):=by
  intro pins s σ H x y v u Q I rx ry h
  obtain ⟨a,b,xs,ys,rfl,rfl,ha,hb,hx,hz,q1,q2⟩:=h
  cases rx
  cases ry
  obtain ⟨its,r1,p1,_⟩:=I.tuple ha
  obtain ⟨its2,r2,p2,_⟩:=I.tuple hb
  refine HT.cat_tup p1 p2 (fun z=>hx (r1.nil_iff.mp z)) (fun z=>⟨.ref a,H,I,rfl,q1 (r2.nil_iff.mp z)⟩) (fun z=>?_) (by rw [←r1.length,←r2.length];exact hz)
  refine ⟨.ref s.heap.objs.size,_,I.laid (t':=s.toks) (o:=.tup (xs++ys)) (fun b ob q=>Heap.get?_push_of_some _ q) (Nat.le_refl _) ?_,rfl,q2 (fun w=>z (r2.nil_iff.mpr w)) _ (I.hok.fresh (Nat.le_refl _))⟩
  exact ⟨by rw [List.length_append];exact hz,_,r1.append r2,IsTup.new _ _⟩
end
end L2
namespace L2
open PySem PySem.Spec PyProof.Rows
def ixN (n:Nat) (i:Int):Option Nat:=if 0≤i then (if i < n then some i.toNat else none) else if -(n:Int)≤i then some (i+n).toNat else none
def atI {α:Type} (xs:List α) (i:Int):Option α:=(ixN xs.length i).bind fun j=>xs[j]?
theorem ixN_seq {n:Nat} {i:Int} {j:Nat} (h:ixN n i=some j):seqIndex? i n=some j∧j < n∧-(n:Int)≤i∧i < n:=by
  unfold ixN at h
  by_cases h0:0≤i
  · rw [if_pos h0] at h
    by_cases h1:i < n
    · rw [if_pos h1] at h
      have e:i.toNat=j:=Option.some.inj h
      exact ⟨by rw [seqIndex_of h0 h1,e],by lia,by lia,h1⟩
    · rw [if_neg h1] at h;cases h
  · rw [if_neg h0] at h
    by_cases h1:-(n:Int)≤i
    · rw [if_pos h1] at h
      have e:(i+n).toNat=j:=Option.some.inj h
      exact ⟨by rw [seqIndex_neg (by lia) h1,e],by lia,h1,by lia⟩
    · rw [if_neg h1] at h;cases h
theorem atI_get {α:Type} {xs:List α} {i:Int} {v:α} (h:atI xs i=some v):∃ j,seqIndex? i xs.length=some j∧xs[j]?=some v∧j < xs.length∧-(xs.length:Int)≤i∧i < xs.length:=by
  unfold atI at h
  cases e:ixN xs.length i with
  | none=>rw [e] at h;cases h
  | some j =>
    rw [e] at h
    obtain ⟨h1,h2,h3,h4⟩:=ixN_seq e
    exact ⟨j,h1,h,h2,h3,h4⟩
def PlainIx (b:Expr):Prop:=∀ o i,subscripted b false o i=operate [o,i] (getItem o i)
def IxR (X:Cx) (r:R2):Prop :=
  ∀ (value slice:Expr) (pins:List (Addr×Obj)) (s:Shared) (σ:St) (H:Hp) (x y:V) (v u:Value) (Q:VK),Inv X pins σ H s→RelV x v→RelV y u→r x y H Q →
    subscripted slice false v u=operate [v,u] (getItem v u)→wpAny (model X.prog X.w) X.A (subscriptTail value slice v u) (EP X pins σ Q) X.xe s
def MtR (X:Cx) (id:String) (r:V→List V→Hp→VK→Prop):Prop :=
  ∀ (pins:List (Addr×Obj)) (s:Shared) (σ:St) (H:Hp) (x:V) (xs:List V) (v:Value) (us:List Value) (Q:VK),Inv X pins σ H s→RelV x v→Vals xs us→r x xs H Q →
    wpAny (model X.prog X.w) X.A (call (.builtin id) (v :: us)) (EP X pins σ Q) X.xe s
section
variable {X:Cx} {a b:Expr} {ta tb:TE} {pos:Pos}
theorem IxR.or {r r':R2} (h:IxR X r) (h':IxR X r'):IxR X (fun x y H Q=>r x y H Q∨r' x y H Q):=by
  intro value slice pins s σ H x y v u Q I rx ry q hs
  rcases q with q | q
  · exact h value slice pins s σ H x y v u Q I rx ry q hs
  · exact h' value slice pins s σ H x y v u Q I rx ry q hs
theorem MtR.or {id:String} {r r':V→List V→Hp→VK→Prop} (h:MtR X id r) (h':MtR X id r'):MtR X id (fun x xs H Q=>r x xs H Q∨r' x xs H Q):=by
  intro pins s σ H x xs v us Q I rx rs q
  rcases q with q | q
  · exact h pins s σ H x xs v us Q I rx rs q
  · exact h' pins s σ H x xs v us Q I rx rs q
theorem pe_ix {r:R2} (hr:IxR X r) (ha:PE X a ta) (hb:PE X b tb) (hs:PlainIx b):PE X (.Subscript a b pos) (tOp r ta tb):=by
  intro pins s σ H Q I h
  exact Subscript_ (binT ha hb I h fun v u s2 x y H2 I2 rx ry q=>hr a b pins s2 σ H2 x y v u Q I2 rx ry q (hs _ _))
def rIxL (K:PySem.W.Frag):R2:=fun x y H Q=>∃ p xs i v,x=.ref p∧y=.int i∧SqL K H p xs∧atI xs i=some v∧Q v H
def rIxT (K:PySem.W.Frag):R2:=fun x y H Q=>∃ p xs i v,x=.ref p∧y=.int i∧SqT K H p xs∧atI xs i=some v∧Q v H
def rIxS:R2:=fun x y H Q=>∃ z i c,x=.str z∧y=.int i∧z.length≤sizeLine∧atI z.cps.toList i=some c∧Q (.str ⟨#[c]⟩) H
theorem ix_list:IxR X (rIxL X.K):=by
  intro value slice pins s σ H x y v u Q I rx ry h hs
  obtain ⟨p,xs,i,z,rfl,rfl,hq,he,q⟩:=h
  cases rx
  obtain ⟨t,rfl⟩:=ry
  obtain ⟨its,r,pl,hz⟩:=I.list hq
  obtain ⟨j,h1,h2,h3,h4,h5⟩:=atI_get he
  obtain ⟨w,ew,rw'⟩:=r.get h2
  have hl:=r.length
  have hn:=line63
  have fin:EP X pins σ Q w s:=⟨z,H,I,rw',q⟩
  by_cases h0:0≤i
  · have hj:i.toNat=j:=by
      rw [seqIndex_of h0 h5] at h1
      exact Option.some.inj h1
    exact item_listR pl.isList h0 (by lia) (by rw [hj];simpa using ew) fin hs
  · have hj:(i+(its.toArray.size:Int)).toNat=j:=by
      rw [seqIndex_neg (by lia) h4] at h1
      rw [List.size_toArray,←hl]
      exact Option.some.inj h1
    exact subscriptTail_builtinR (x:=w) pl.isList.typeIs slot_list_getitem.lookup
      (wpAny_getItem_list_neg (Q:=fun r s'=>r=w∧EP X pins σ Q r s') pl.isList (by lia) (by rw [List.size_toArray]<;>lia) (by lia) (by rw [hj];simpa using ew) ⟨rfl,fin⟩) hs
theorem ix_tup:IxR X (rIxT X.K):=by
  intro value slice pins s σ H x y v u Q I rx ry h hs
  obtain ⟨p,xs,i,z,rfl,rfl,hq,he,q⟩:=h
  cases rx
  obtain ⟨t,rfl⟩:=ry
  obtain ⟨its,r,pl,hz⟩:=I.tuple hq
  obtain ⟨j,h1,h2,h3,h4,h5⟩:=atI_get he
  obtain ⟨w,ew,rw'⟩:=r.get h2
  have hl:=r.length
  have hn:=line63
  have fin:EP X pins σ Q w s:=⟨z,H,I,rw',q⟩
  exact subscriptTail_builtinR (x:=w) pl.typeIs slot_tuple_getitem.lookup
    (getItem_tuple (j:=j) (Q:=fun r s'=>r=w∧EP X pins σ Q r s') pl (by lia) (by lia) (by rw [List.size_toArray,←hl];exact h1) (by simpa using ew) ⟨rfl,fin⟩) hs
theorem ix_str:IxR X rIxS:=by
  intro value slice pins s σ H x y v u Q I rx ry h hs
  obtain ⟨z,i,c,rfl,rfl,hz,he,q⟩:=h
  obtain ⟨t,rfl⟩:=rx
  obtain ⟨t',rfl⟩:=ry
  obtain ⟨j,h1,h2,h3,h4,h5⟩:=atI_get he
  have hl:z.cps.toList.length=z.length:=by simp [Str.length]
  rw [hl] at h1 h4 h5
  have hn:=line63
  exact tail_any (typeIs_str s z t) slot_str_getitem.lookup (getItem_str (c:=c) (by
    have e1:decide (i < -(2 ^ 63:Int))=false:=decide_eq_false (by lia)
    have e2:decide (i≥2 ^ 63)=false:=decide_eq_false (by lia)
    rw [e1,e2,Bool.or_false]) (by rw [h1];simpa using h2) ⟨.str ⟨#[c]⟩,H,I.tok _,⟨_,rfl⟩,q⟩) hs
def rIx (K:PySem.W.Frag):R2:=fun x y H Q=>rIxL K x y H Q∨rIxT K x y H Q∨rIxS x y H Q
theorem ix_seq:IxR X (rIx X.K):=ix_list.or (ix_tup.or ix_str)
theorem mapSeq_set (its:List Value) (n j:Nat) (u:Value):Obj.mapSeq (·.setIfInBounds j u) { cls:=.type "list",data:=.seq its.toArray n }={ cls:=.type "list",data:=.seq (its.set j u).toArray n }:=by
  simp [Obj.mapSeq]
theorem Inv.lst {pins:List (Addr×Obj)} {σ:St} {H:Hp} {s:Shared} {p:Addr} {xs:List V} (I:Inv X pins σ H s) (h:H p=some (.lst xs)) :
    ∃ (its:List Value) (n:Nat),Vals xs its∧s.heap.get? p=some { cls:=.type "list",data:=.seq its.toArray n }∧xs.length≤sizeLine:=by
  obtain ⟨z,its,n,r,e⟩:=I.hok p _ h
  exact ⟨its,n,r,e,z⟩
theorem Inv.lstUpd {pins:List (Addr×Obj)} {σ:St} {H:Hp} {s:Shared} {p:Addr} {xs ys:List V} {its its':List Value} {n n':Nat} {f:Obj→Obj} (I:Inv X pins σ H s) (h:H p=some (.lst xs))
    (ho:s.heap.get? p=some { cls:=.type "list",data:=.seq its.toArray n }) (hf:f { cls:=.type "list",data:=.seq its.toArray n }={ cls:=.type "list",data:=.seq its'.toArray n' }) (r:Vals ys its') (hz:ys.length≤sizeLine) (t:Nat) :
    Inv X pins σ (upd H p (.lst ys)) { s with heap:=s.heap.update p f,toks:=t }:=by
  have e:(s.heap.update p f).get? p=some { cls:=.type "list",data:=.seq its'.toArray n' }:=by
    rw [Heap.get?_update_self f ho (by rw [hf]<;>rfl),hf]
  refine I.write (x:=p) (e:=p) (by rw [h];trivial) (.inl rfl) (fun b u hb q=>(Heap.get?_update_other _ _ (Ne.symm hb)).trans q) ⟨_,e⟩ ?_
  exact ⟨hz,its',n',r,e⟩
def rSetL:V→V→V→Hp→(Hp→Prop)→Prop:=fun o i v H Q=>∃ p xs k j,o=.ref p∧i=.int k∧H p=some (.lst xs)∧ixN xs.length k=some j∧Q (upd H p (.lst (xs.set j v)))
theorem set_list:PSet X rSetL:=by
  intro pins s σ H o i v ov iv u Q I ro ri rv h
  obtain ⟨p,xs,k,j,rfl,rfl,hp,hj,q⟩:=h
  cases ro
  obtain ⟨t,rfl⟩:=ri
  obtain ⟨its,n,r,ho,hz⟩:=I.lst hp
  obtain ⟨h1,h2,h3,h4⟩:=ixN_seq hj
  have hl:=r.length
  have hn:=line63
  have I':Inv X pins σ (upd H p (.lst (xs.set j v))) { s with heap:=s.heap.update p (Obj.mapSeq (·.setIfInBounds j u)) } :=
    I.lstUpd hp ho (mapSeq_set its n j u) (r.set rv j) (by rw [List.length_set];exact hz) s.toks
  by_cases h0:0≤k
  · have hk:k.toNat=j:=by
      rw [seqIndex_of h0 h4] at h1
      exact Option.some.inj h1
    exact PySem.W.ki_setAt ho h0 (by lia) (by rw [List.size_toArray,←hl];exact h4) (by rw [hk];exact ⟨_,I',q⟩)
  · have hk:(k+(its.toArray.size:Int)).toNat=j:=by
      rw [seqIndex_neg (by lia) h3] at h1
      rw [List.size_toArray,←hl]
      exact Option.some.inj h1
    exact PySem.W.ki_setBack ho (by lia) (by rw [List.size_toArray,←hl];exact h3) (by lia) (by rw [hk];exact ⟨_,I',q⟩)
theorem CallR.or {f:Value} {r r':List V→Hp→VK→Prop} (h:CallR X f r) (h':CallR X f r'):CallR X f (fun xs H Q=>r xs H Q∨r' xs H Q):=by
  intro pins s σ H xs us Q I rs q
  rcases q with q | q
  · exact h pins s σ H xs us Q I rs q
  · exact h' pins s σ H xs us Q I rs q
theorem call_list_of:CallR X (.type "list") (fun xs H Q=>∃ p ys,xs=[.ref p]∧(SqL X.K H p ys∨SqT X.K H p ys)∧∀ l,H l=none→Q (.ref l) (upd H l (.lst ys))):=by
  intro pins s σ H xs us Q I r h
  obtain ⟨p,ys,rfl,hq,q⟩:=h
  obtain ⟨u,rfl,rx⟩:=vals1 r
  cases rx
  have fin:∀ (its:List Value),Vals ys its→ys.length≤sizeLine→∀ (h':Heap) (c':Nat),(∀ b o',s.heap.get? b=some o'→h'.get? b=some o') →
      h'.get? s.heap.objs.size=some { cls:=.type "list",dict:=none,data:=.seq its.toArray c',slots:=#[] }→EP X pins σ Q (.ref s.heap.objs.size) { s with heap:=h' }:=fun its r' hz h' c' kp e =>
    ⟨.ref s.heap.objs.size,_,I.laid (t':=s.toks) kp (Nat.le_refl _) (show ObjOk X.prog X.w _ h' _ (.lst ys) from ⟨hz,its,c',r',e⟩),rfl,q _ (I.hok.fresh (Nat.le_refl _))⟩
  rcases hq with hq | hq
  · obtain ⟨its,r',pl,hz⟩:=I.list hq
    have hlen:=r'.length
    obtain ⟨o,ho,hc,n,hd⟩:=pl.isList
    exact call_list_seq p (.inl rfl) ho hc hd (fun h' c' kp e=>fin its r' hz h' c' kp e) (by simp only [List.size_toArray]<;>lia)
  · obtain ⟨its,r',pl,hz⟩:=I.tuple hq
    have hlen:=r'.length
    obtain ⟨o,ho,hc,n,hd⟩:=pl
    exact call_list_seq p (.inr rfl) ho hc hd (fun h' c' kp e=>fin its r' hz h' c' kp e) (by simp only [List.size_toArray]<;>lia)
theorem call_tuple_of:CallR X (.type "tuple") (fun xs H Q=>∃ p ys,xs=[.ref p]∧((SqL X.K H p ys∧∀ l,H l=none→Q (.ref l) (upd H l (.tup ys)))∨(SqT X.K H p ys∧Q (.ref p) H))):=by
  intro pins s σ H xs us Q I r h
  obtain ⟨p,ys,rfl,h⟩:=h
  obtain ⟨u,rfl,rx⟩:=vals1 r
  cases rx
  rcases h with ⟨hq,q⟩ | ⟨hq,q⟩
  · obtain ⟨its,r',pl,hz⟩:=I.list hq
    have hlen:=r'.length
    refine call_tuple_list pl.isList (fun h' kp=>?_) (by simp only [List.size_toArray]<;>lia)
    have I1:Inv X pins σ H { s with heap:=h' }:=I.kept (t':=s.toks) kp
    have I2:Inv X pins σ (upd H h'.objs.size (.tup ys)) { s with heap:=h'.push { cls:=.type "tuple",data:=.seq its.toArray } } :=
      I1.laid (t':=s.toks) (fun b o e=>Heap.get?_push_of_some _ e) (Nat.le_refl _) (show ObjOk X.prog X.w _ _ _ (.tup ys) from ⟨hz,its,r',IsTup.new _ _⟩)
    exact ⟨.ref h'.objs.size,_,I2,rfl,q _ (I1.hok.fresh (Nat.le_refl _))⟩
  · obtain ⟨its,r',pl,hz⟩:=I.tuple hq
    exact call_tuple_same pl ⟨.ref p,H,I,rfl,q⟩
def tyV (K:PySem.W.Frag) (T:String) (x:V) (H:Hp):Prop:=match x with
  | .str _=>T = "str"
  | .int _=>T = "int"
  | .ref p=>(T = "list" ∧ ∃ xs,SqL K H p xs)∨(T = "tuple" ∧ ∃ o,K.lookup p=some o∧o.cls=.type "tuple" ∧ o.dict=none) ∨
      (T = "dict" ∧ ((∃ kvs,H p=some (.dK kvs))∨∃ kvs,H p=some (.dT kvs)))∨(T = "set" ∧ ∃ S n,H p=some (.set S n))
  | _=>False
theorem tyV_is {pins : List (Addr × Obj)} {σ : St} {H : Hp} {s : Shared} {T : String} {x : V} {v : Value} (I : Inv X pins σ H s) (r : RelV x v) (ty : tyV X.K T x H) :
    s.TypeIs v T∧∀ a,v=.ref a→∃ ob,s.heap.get? a=some ob∧ob.dict=none:=by
  cases x with
  | str z =>
    obtain ⟨t,rfl⟩:=r
    cases (show T = "str" from ty)
    exact ⟨typeIs_str s z t,fun _ e=>nomatch e⟩
  | int i =>
    obtain ⟨t,rfl⟩:=r
    cases (show T = "int" from ty)
    exact ⟨typeIs_int s i t,fun _ e=>nomatch e⟩
  | ref p =>
    cases r
    rcases ty with ⟨rfl,xs,hq⟩ | ⟨rfl,o,hk,hc,hd⟩ | ⟨rfl,hk⟩ | ⟨rfl,S,n,hk⟩
    · obtain ⟨its,_,pl,_⟩:=I.list hq
      refine ⟨pl.isList.typeIs,fun a e=>?_⟩
      cases e
      obtain ⟨o,n,e,c,hd,_⟩:=pl
      exact ⟨o,e,hd⟩
    · refine ⟨⟨o,I.kIn p o hk,hc⟩,fun a e=>?_⟩
      cases e
      exact ⟨o,I.kIn _ o hk,hd⟩
    · have z:∃ o,s.heap.get? p=some o∧o.ExactDict:=by
        rcases hk with ⟨kvs,hk⟩ | ⟨kvs,hk⟩
        · obtain ⟨_,_,_,_,o,_,_,e,ex,_⟩:=I.hok p _ hk
          exact ⟨o,e,ex⟩
        · obtain ⟨_,_,_,_,o,_,_,e,ex,_⟩:=I.hok p _ hk
          exact ⟨o,e,ex⟩
      obtain ⟨o,e,ex⟩:=z
      refine ⟨⟨o,e,ex.1⟩,fun a e2=>?_⟩
      cases e2
      exact ⟨o,e,ex.2.1⟩
    · obtain ⟨o,_,_,_,e,ex,_⟩:=I.hok p _ hk
      refine ⟨⟨o,e,ex.1⟩,fun a e2=>?_⟩
      cases e2
      exact ⟨o,e,ex.2.1⟩
  | _=>exact False.elim ty
def tBM (K:PySem.W.Frag) (T:String) (r:V→List V→Hp→VK→Prop) (to:TE) (t:TA):TE:=fun σ H Q=>to σ H fun x H1=>tyV K T x H1∧t σ H1 fun xs H2=>r x xs H2 Q
variable {o e:Expr} {es:List Expr} {to:TE} {t:TA} {name:Str} {apos cpos:Pos} {T id:String} {r:V→List V→Hp→VK→Prop}
theorem pe_bm (pa:PlainAttrs T) (slot:Slot T name id) (hty:typeOf (.builtin id)=pure (.type "method_descriptor")) (hm:MtR X id r) (ho:PE X o to) (ha:PA X (e :: es) t)
    (hbase:attributeBase o name X.env (eval o X.env)=eval o X.env:=by rfl)
    (hfew:((backTo cpos (starEach (e :: es) X.env)).all (fun x=>!x.1)&&(backToKw cpos (keywordEach [] X.env)).all (fun x=>x.1.isSome)
      && decide ((e :: es).length+([]:List Keyword).length+(if ([]:List Keyword).isEmpty then 0 else 1) < 30))=true:=by rfl)
    (hline:(apos.endLine==cpos.line)=true:=by rfl) (hs:starEach (e :: es) X.env=(false,eval e X.env) :: starEach es X.env:=by rfl) (hplain:(backTo cpos (starEach es X.env)).any (·.1)=false:=by rfl) :
    PE X (.Call (.Attribute o name apos) (e :: es) [] cpos) (tBM X.K T r to t):=by
  intro pins s σ H Q I h
  refine wpAny_Call_method_late hbase hfew hline rfl (thn (ho pins s σ H _ I h) fun v s1 ⟨x,H1,I1,r1,ty,q1⟩=>?_)
  obtain ⟨h1,h2⟩:=tyV_is I1 r1 ty
  refine ⟨T,id,pa,slot,hty,h1,h2,?_⟩
  have hA:=ha cpos pins s1 σ H1 _ I1 q1
  rw [hs] at hA ⊢
  refine Calls.callWith_builtin (by show (false || (backTo cpos (starEach es X.env)).any (·.1))=false;rw [hplain]<;>rfl) (Calls.evalArgs_plain ?_)
  exact thn hA fun us s2 ⟨vs,H2,I2,r2,q2⟩=>hm pins s2 σ H2 x vs v us Q I2 r1 r2 q2
/- xs.append(e),list.index on a module's tuple .. are MtR facts of 06m -/
end
end L2
namespace L2
open PySem PySem.Spec PyProof.Rows
def MtM (X:Cx) (id:String) (r:V→List V→Hp→VK→Prop):Prop :=
  ∀ (pins:List (Addr×Obj)) (s:Shared) (σ:St) (H:Hp) (x:V) (xs:List V) (v:Value) (us:List Value) (Q:VK),Inv X pins σ H s→RelV x v→Vals xs us→r x xs H Q →
    wpAny (model X.prog X.w) X.A (call (.builtin id) (v :: us)) (EP X pins σ Q) X.xe s
theorem Vals.one:∀ {x:V} {us:List Value},Vals [x] us→∃ u,us=[u]∧RelV x u
  | _,_,.cons r .nil=>⟨_,rfl,r⟩
theorem Vals.zero:∀ {us:List Value},Vals [] us→us=[]
  | _,.nil=>rfl
theorem Vals.eraseIdx:∀ {xs:List V} {us:List Value} (i:Nat),Vals xs us→Vals (xs.eraseIdx i) (us.eraseIdx i)
  | _,_,_,.nil=>.nil
  | _,_,0,.cons _ t=>t
  | _,_,i+1,.cons r t=>.cons r (Vals.eraseIdx i t)
theorem Vals.reverse {xs:List V} {us:List Value} (h:Vals xs us):Vals xs.reverse us.reverse:=by
  induction h with
  | nil=>exact .nil
  | cons r t ih=>rw [List.reverse_cons,List.reverse_cons];exact Vals.append ih (.cons r .nil)
theorem Vals.rep {xs:List V} {us:List Value} (h:Vals xs us):∀ k:Nat,Vals (List.replicate k xs).flatten (List.replicate k us).flatten
  | 0=>.nil
  | k+1=>by
    rw [List.replicate_succ,List.replicate_succ,List.flatten_cons,List.flatten_cons]
    exact Vals.append h (Vals.rep h k)
theorem foldl_rep (its:List Value):∀ (k:Nat) (acc:List Value),
    List.foldl (fun x1 x2=>x1++x2) acc.toArray (List.replicate k its.toArray)=(acc++(List.replicate k its).flatten).toArray
  | 0,acc=>by simp
  | k+1,acc=>by
    have e:acc.toArray++its.toArray=(acc++its).toArray:=by simp
    have e2:(acc++its)++(List.replicate k its).flatten=acc++(List.replicate (k+1) its).flatten:=by
      rw [List.replicate_succ,List.flatten_cons,List.append_assoc]
    rw [←e2,←foldl_rep its k (acc++its),←e,List.replicate_succ,List.foldl_cons]
section
variable {X:Cx} {pins:List (Addr×Obj)} {σ:St} {H:Hp} {s:Shared} {l b:Addr} {xs ys zs:List V}
theorem Inv.lset {its its':List Value} {n:Nat} {f:Array Value→Array Value} {t':Nat} (I:Inv X pins σ H s) (hH:H l=some (.lst xs))
    (e:s.heap.get? l=some { cls:=.type "list",data:=.seq its.toArray n }) (hf:f its.toArray=its'.toArray) (hv:Vals ys its') (hz:ys.length≤sizeLine) :
    Inv X pins σ (upd H l (.lst ys)) { s with heap:=s.heap.update l (Obj.mapSeq f),toks:=t' }:=by
  have q:=PySem.IsL.update e f
  rw [hf] at q
  refine I.write (x:=l) (e:=l) (by rw [hH];exact trivial) (.inl rfl) (fun b' u hb hu=>(Heap.get?_update_other s.heap (Obj.mapSeq f) (Ne.symm hb)).trans hu) ⟨_,q⟩ ?_
  exact ⟨hz,its',_,hv,q⟩
theorem Inv.lnew {its:List Value} {t':Nat} (I:Inv X pins σ H s) (hv:Vals ys its) (hz:ys.length≤sizeLine) :
    Inv X pins σ (upd H s.heap.objs.size (.lst ys)) { s with heap:=s.heap.push { cls:=.type "list",data:=.seq its.toArray },toks:=t' } :=
  I.laid (fun _ _ q=>Heap.get?_push_of_some _ q) (Nat.le_refl _) ⟨hz,its,0,hv,Heap.get?_push_size _ rfl⟩
theorem Inv.fresh (I:Inv X pins σ H s):H s.heap.objs.size=none:=I.hok.fresh (Nat.le_refl _)
theorem Inv.lstM (I:Inv X pins σ H s) (hH:H l=some (.lst xs)):xs.length≤sizeLine∧∃ (its:List Value) (n:Nat),Vals xs its∧xs.length=its.length∧s.heap.get? l=some { cls:=.type "list",data:=.seq its.toArray n }:=by
  obtain ⟨z,its,n,r,e⟩:=I.hok l _ hH
  exact ⟨z,its,n,r,r.length,e⟩
theorem notLongL {n:Nat} (h:n≤sizeLine):Builtin.List.listTooLong n=false:=by
  unfold Builtin.List.listTooLong
  exact decide_eq_false (by lia)
end
section
variable {X:Cx}
def rAppend:V→List V→Hp→VK→Prop:=fun x vs H Q=>∃ l xs y,x=.ref l∧vs=[y]∧H l=some (.lst xs)∧xs.length < sizeLine∧Q .non (upd H l (.lst (xs++[y])))
theorem mt_append:MtM X "list.append" rAppend:=by
  intro pins s σ H x vs v us Q I rx rv h
  obtain ⟨l,xs,y,rfl,rfl,hH,hz,q⟩:=h
  cases rx
  obtain ⟨u,rfl,ru⟩:=rv.one
  obtain ⟨z,its,n,r,hl,e⟩:=I.lstM hH
  refine call_meets F.slot_list_append ⟨_,e,rfl⟩ F.entry_list_append (F.args_list_append_2 _ _) (PySem.list_append l its.toArray n u (by rw [List.size_toArray];lia)) ⟨e,?_⟩
  refine ⟨.non,_,I.lset (its':=its++[u]) hH e (by simp) (r.append (.cons ru .nil)) ?_,rfl,q⟩
  rw [List.length_append,List.length_singleton]
  lia
def rRep:R2:=fun x y H Q=>∃ l k xs,x=.ref l∧y=.int k∧H l=some (.lst xs)∧-(2 ^ 63)≤k∧k < 2 ^ 63∧xs.length*k.toNat≤sizeLine ∧
  ∀ p,H p=none→Q (.ref p) (upd H p (.lst (List.replicate k.toNat xs).flatten))
theorem len_rep {α:Type} (xs:List α) (k:Nat):(List.replicate k xs).flatten.length=k*xs.length:=by
  induction k with
  | zero=>simp
  | succ k ih=>rw [List.replicate_succ,List.flatten_cons,List.length_append,ih,Nat.succ_mul,Nat.add_comm]
theorem op_rep:OpR X (binaryOp .Mult) rRep:=by
  intro pins s σ H x y v u Q I rx ry h
  obtain ⟨l,k,xs,rfl,rfl,hH,h1,h2,hz,q⟩:=h
  cases rx
  obtain ⟨t,rfl⟩:=ry
  obtain ⟨z,its,n,r,hl,e⟩:=I.lstM hH
  have hlen:its.toArray.size*k.toNat≤sizeLine:=by rw [List.size_toArray,←hl];exact hz
  have hcap:¬ its.toArray.size*k.toNat > (2 ^ 63-1) / 8:=by
    have:(sizeLine:Nat)≤(2 ^ 63-1) / 8:=by decide
    lia
  have hfit:¬ (!Builtin.List.listFitsIndex k)=true:=by
    rw [fitsIndex_both h1 h2]
    exact Bool.false_ne_true
  have hlong:¬ Builtin.List.listTooLong (its.toArray.size*k.toNat)=true:=by
    rw [notLongL hlen]
    exact Bool.false_ne_true
  have hnew:List.foldl (fun x1 x2=>x1++x2) #[] (List.replicate (if its.toArray.isEmpty=true then 0 else k.toNat) its.toArray)=(List.replicate k.toNat its).flatten.toArray:=by
    have f0:∀ m:Nat,List.foldl (fun x1 x2=>x1++x2) #[] (List.replicate m its.toArray)=(List.replicate m its).flatten.toArray:=fun m=>by
      have:=foldl_rep its m []
      rw [List.nil_append] at this
      exact this
    rw [f0]
    cases its with
    | nil=>simp
    | cons a r'=>rw [if_neg (by simp)]
  refine wpAny_binaryOp_repeat_ref (T := "list") (U := "int") (by decide) ⟨_,e,rfl⟩ (fun s'=>typeIs_int s' k t) noFill_list_mul F.fills_int_mul F.slot_int_rmul repeat_list F.slot_int_index.lookup
    (call_meets F.slot_int_rmul (typeIs_int s k t) F.entry_int_rmul (F.args_int_rmul_2 _ _) (int___rmul___int_list k t l its.toArray n)
      ⟨e,rfl,⟨_,e,rfl⟩,call_meets F.slot_list_mul ⟨_,e,rfl⟩ F.entry_list_mul (F.args_list_mul_2 _ _) (AutoListH.list___mul___list_int_3 l its.toArray n k t hfit hcap hlong) ⟨e,?_⟩⟩)
  rw [hnew]
  exact ⟨.ref _,_,I.lnew (t':=s.toks) (r.rep k.toNat) (by rw [len_rep,Nat.mul_comm];exact hz),rfl,q _ I.fresh⟩
end
section
variable {prog:Program} {w:World} {A:Around} {E:Value→Shared→Prop} {s:Shared}
set_option maxRecDepth 100000 in
end
section
variable {X:Cx}
end
end L2
namespace Att
open PySem PySem.W PySem.Calls PyProof.Rows
theorem ints_of_wellAll {P:Params} {h:Heap}:∀ (ns:List Int) (vs:List Value),WellAll P h vs (ns.map WData.int)→IntsAre vs ns:=by
  intro ns
  induction ns with
  | nil =>
    intro vs w
    rw [List.map_nil] at w
    cases w
    exact .nil
  | cons n ns ih =>
    intro vs w
    rw [List.map_cons] at w
    cases w with
    | cons a b =>
      cases a
      exact .cons _ _ (ih _ b)
theorem script_of {l:OpenLaw} {n:Nat} (hn:l.most=some n) {P:Params} {h:Heap} {args:List WData} {vals:List Value}
    (hpre:l.row.toRowW.claim.pre args=true) (hwl:WellAll P h vals args) :
    ∃ a vs ns,vals=[Value.ref a]∧args=[WData.list (ns.map WData.int)]∧h.get? a=some { cls:=.type "list",data:=.seq vs.toArray }∧IntsAre vs ns∧ns.length≤n:=by
  have hsh:WShape.hasAll [] args [.list .int]=true:=(pre_splitW hpre).1
  have hc:l.pre.holds [] { args:=args }=true:=(pre_splitW hpre).2
  obtain ⟨d,r,rfl,h1,h2⟩:=hasAllW_cons hsh
  obtain rfl:=hasAllW_nil h2
  obtain ⟨xs,rfl,h3⟩:=hasW_list h1
  obtain ⟨ns,rfl⟩:=items_int h3
  have hlen:ns.length≤n:=by
    unfold OpenLaw.pre at hc
    have h4:(WTm.not (.lt (.lit (.int (n:Int))) (.len (.arg 0)))).holds [] { args:=[.list (ns.map .int)] }=true:=by
      have h4:=(holds_andW hc).1
      rw [hn] at h4
      exact h4
    have h5:=condW_of h4 (w_not (w_lt w_lit (w_len_list (w_arg rfl))))
    rw [List.length_map] at h5
    refine Nat.le_of_not_lt fun q=>?_
    have q':(n:Int) < ((ns.length:Nat):Int):=by lia
    first
      | (rw [decide_eq_true q'] at h5;exact absurd h5 (by decide))
      | (simp at h5;lia)
  cases hwl with
  | cons w1 w2 =>
    cases w2
    cases w1 with
    | list ho hall=>exact ⟨_,_,ns,rfl,rfl,ho,ints_of_wellAll ns _ hall,hlen⟩
theorem post_true (l:OpenLaw) (args:List WData):l.row.toRowW.claim.post args (.bool true) args=true :=
  postW_of (r:=l.row.toRowW) (X:=(true==true))
    (show WShape.has [] (.bool true) .bool=true by first | rfl | decide | simp [WShape.has,WShape.arms,WShape.armsAll])
    (show (WTm.eq .res (.lit (.bool true))).value [] { args:=args,res:=some (.bool true),after:=args }=some (.bool (true==true)) from w_eq_bool (w_res rfl) w_lit) rfl
section
variable {prog:Program} {w:World} {A:Around} {E:Value→Shared→Prop} {s:Shared} {K:Frag}
end
end Att
namespace L2
open PySem PySem.Spec PyProof.Rows
theorem vals_ints:∀ {vs:List Value} {ns:List Int},IntsAre vs ns→Vals (ns.map V.int) vs
  | _,_,.nil=>.nil
  | _,_,.cons n t h=>.cons ⟨t,rfl⟩ (vals_ints h)
def Only (H:Hp):Prop:=∀ b,H b=none∨(∃ o xs,H b=some (.frz o (.lst xs)))∨∃ q,H b=some (.tbl q)
def TabAt (K:PySem.W.Frag) (x:Str) (b:Addr):Prop:=x∈lamNames∧∃ c,PySem.W.tabIn K x=some (c,b)
theorem lam_one {K:PySem.W.Frag} (one:∀ x y c P c' ,x∈lamNames→y∈lamNames→PySem.W.tabIn K x=some (c,P)→PySem.W.tabIn K y=some (c',P)→x=y) {x y:Str} {b:Addr} (h:TabAt K x b) (g:TabAt K y b):x=y:=by
  obtain ⟨h1,c,h2⟩:=h
  obtain ⟨g1,d,g2⟩:=g
  exact one x y c b d h1 g1 h2 g2
open Classical in
noncomputable def tabH (K:PySem.W.Frag) (a:Addr) (u:HO) (s:Bool):Hp:=fun b=>if h:∃ x,TabAt K x b then some (.tbl (lamQ h.choose)) else if s=true∧b=a then some u else none
theorem law_call {P : Program} {w : World} {K : PySem.W.Frag} {mg mb : Str → Option Value} {CX : CXT} {k : Nat} {fa a : Addr} {fd : FuncData} {x : Str} {sp : Sp} {s₁ : Shared} {vs : List Value} {ns : List Int}
    (KX:K.In s₁.heap) (hns:s₁.heap.Ns mainGlobals mg) (hb:s₁.heap.Ns builtinsNs mb) (hbb:∀ x:Str,x ≠ "__name__" → mb x=bootBuiltins x) (hlim:s₁.heap.NoLimit) (hg:s₁.gens=#[])
    (ha:s₁.heap.get? a=some { cls:=.type "list",data:=.seq vs.toArray }) (hi:IntsAre vs ns) (hl:ns.length≤sizeLine) (hr:Room k callerA)
    (F:∀ base:Heap,K.In base→base.Ns mainGlobals mg→FnOk P w K mg base CX k fa fd [x] sp) (hbind:∀ (s:Shared) (u:Value),BindsTo s fd ⟨[u],[]⟩ [(x,u)])
    (hsp:∀ H:Hp,Only H→SqL K H a (ns.map V.int)→sp [.ref a] H (fun v _=>v=.bl true) fun _ _ _=>False)
    (hCX:∀ H e s',CX [] H s₁ (fun _ _ _=>False) e s'→False)
    (one:∀ x y c P c' ,x∈lamNames→y∈lamNames→PySem.W.tabIn K x=some (c,P)→PySem.W.tabIn K y=some (c',P)→x=y)
    (tab:∀ x∈lamNames,∀ c P,PySem.W.tabIn K x=some (c,P)→(PySem.W.CodeHd s₁.heap c P∧s₁.heap.get? P=some (PySem.W.tabObj #[]))∧s₁.heap.TableAt c P #[]) (bm:BMain mg s₁.heap) (noT:PySem.W.noTabs K=true) :
    codeAny (model P w) callerA (.call (.ref fa) ⟨[.ref a],[]⟩) (fun r s'=>r=.ok (.ret (.bool true))∧OldK s₁.heap s'.heap∧s'.os=s₁.os∧AllBare s'.gens) s₁:=by
  have rv:=vals_ints hi
  have lenV:=hi.length
  have tabG:∀ {b:Addr} {y:Str},TabAt K y b→s₁.heap.get? b=some (PySem.W.tabObj #[]):=fun {b y} ⟨h1,c,h2⟩=>(tab y h1 c b h2).1.2
  have notab:∀ {b:Addr} {o:Obj},s₁.heap.get? b=some o→o≠PySem.W.tabObj #[]→¬ ∃ y,TabAt K y b:=fun {b o} e n ⟨y,h⟩=>by
    have:=tabG h
    rw [e] at this
    exact n (Option.some.inj this)
  have at1:∀ {b:Addr} {u:HO} {q:Bool} {y:Str},TabAt K y b→tabH K a u q b=some (.tbl (lamQ y)):=fun {b u q y} h=>by
    have hh:∃ x,TabAt K x b:=⟨y,h⟩
    unfold tabH
    rw [dif_pos hh]
    rw [lam_one one hh.choose_spec h]
  have at2:∀ {b:Addr} {u:HO} {q:Bool},(¬ ∃ y,TabAt K y b)→tabH K a u q b=if q=true∧b=a then some u else none:=fun {b u q} h=>by
    unfold tabH
    rw [dif_neg h]
  -- from an abstract heap in which nothing but the script and the tables may be tracked
  have core:∀ (u:HO) (q:Bool),(∃ o xs,u=.frz o (.lst xs))→SqL K (tabH K a u q) a (ns.map V.int)→(q=true→ObjOk P w (tabH K a u q) s₁.heap a u)→(q=true→K.lookup a=none) →
      codeAny (model P w) callerA (.call (.ref fa) ⟨[.ref a],[]⟩) (fun r s'=>r=.ok (.ret (.bool true))∧OldK s₁.heap s'.heap∧s'.os=s₁.os∧AllBare s'.gens) s₁:=by
    intro u q hu hS hua hK
    generalize hHH:tabH K a u q=H at hS hua
    have na:¬ ∃ y,TabAt K y a:=notab ha fun z=>by cases z
    have of:∀ {b:Addr} {v:HO},H b=some v→(∃ y,TabAt K y b∧v=.tbl (lamQ y))∨(q=true∧b=a∧v=u):=fun {b v} e=>by
      by_cases hb:∃ y,TabAt K y b
      · obtain ⟨y,hy⟩:=hb
        rw [←hHH,at1 hy] at e
        cases e
        exact .inl ⟨y,hy,rfl⟩
      · rw [←hHH,at2 hb] at e
        split at e
        · rename_i hc
          cases e
          exact .inr ⟨hc.1,hc.2,rfl⟩
        · cases e
    have hok:HOk P w H s₁.heap:=fun b v e=>by
      rcases of e with ⟨y,hy,rfl⟩ | ⟨hq,rfl,rfl⟩
      · exact ⟨#[],tabG hy,trivial,fun pos cv z=>nomatch z⟩
      · exact hua hq
    have hO:Only H:=fun b=>by
      cases e:H b with
      | none=>exact .inl rfl
      | some v =>
        rcases of e with ⟨y,_,rfl⟩ | ⟨_,_,rfl⟩
        · exact .inr (.inr ⟨_,rfl⟩)
        · obtain ⟨o,xs,rfl⟩:=hu
          exact .inr (.inl ⟨o,xs,rfl⟩)
    have base_of:∀ {b:Addr} {o:Obj},s₁.heap.get? b=some o→H b=none→(hidT s₁.heap H).get? b=some o:=fun e n=>hidT_get e n
    have noA:∀ {b:Addr} {o:Obj},s₁.heap.get? b=some o→(∀ xs n,o.data≠.seq xs n)→(∀ xs,o.data≠.fields xs∨o.cls≠.none)→H b=none:=fun {b o} e d d2=>by
      cases r:H b with
      | none=>rfl
      | some v =>
        rcases of r with ⟨y,hy,_⟩ | ⟨_,hba,_⟩
        · rw [tabG hy] at e;cases e
          rcases d2 #[] with z | z
          · exact absurd rfl z
          · exact absurd rfl z
        · rw [hba,ha] at e;cases e
          exact absurd rfl (d _ _)
    have nsK:∀ {b:Addr} {m:Str→Option Value},s₁.heap.Ns b m→(hidT s₁.heap H).Ns b m:=fun {b m} ⟨o,es,ep,e,d,r⟩=>⟨o,es,ep,base_of e (noA e (fun xs n z=>by rw [d] at z;cases z) fun xs=>.inl fun z=>by rw [d] at z;cases z),d,r⟩
    have hKb:K.In (hidT s₁.heap H):=fun b o e=>base_of (KX b o e) (by
      cases r:H b with
      | none=>rfl
      | some v =>
        rcases of r with ⟨y,hy,_⟩ | ⟨hq,hba,_⟩
        · have e2:=KX b o e
          rw [tabG hy] at e2
          cases e2
          have h2:=List.all_eq_true.mp noT _ (PySem.W.mem_of_lookupK e)
          exact absurd (show false=true from h2) Bool.false_ne_true
        · rw [hba,hK hq] at e;cases e)
    have hM:Mod K mg (hidT s₁.heap H):=⟨hKb,nsK hns,⟨mb,nsK hb,hbb⟩,let ⟨mc,h1,h2⟩:=hlim;⟨mc,nsK h1,h2⟩⟩
    have hT:TabOk K mg (hidT s₁.heap H) H:=fun y hy c p e=>by
      obtain ⟨⟨⟨o,vs,file,tf,flags,tg,inF,text,tt,e1,e2,e3,r⟩,_⟩,_⟩:=tab y hy c p e
      obtain ⟨bmA,ob,b1,b2,b3,b4,b5,b6⟩:=bm
      refine ⟨by rw [←hHH];exact at1 ⟨hy,c,e⟩,⟨o,vs,file,tf,flags,tg,inF,text,tt,base_of e1 (noA e1 (fun xs n z=>by rw [e3] at z;cases z) fun xs=>.inr fun z=>by rw [e2] at z;cases z),e2,e3,r⟩,bmA,ob,b1,b2,base_of b3 (noA b3 (fun xs n z=>by rw [b6] at z;cases z) fun xs=>.inr fun z=>by rw [b4] at z;cases z),b4,b5,b6⟩
    have e0:Env0 P w K mg (hidT s₁.heap H) callerA [] s₁ H:=⟨rfl,hM,fun b o e=>of_hidT e,Nat.le_of_eq (hidT_size _ _),trivial,fun b hb=>absurd (show b∈([]:List Addr) from hb) (by simp),hok,.of_eq hg,hT⟩
    refine codeAny_mono ((F _ hKb (nsK hns)).run callerA [] s₁ H ⟨[.ref a],[]⟩ [.ref a] [.ref a] _ _ hr e0 (hbind s₁ (.ref a)) (.cons rfl .nil) (hsp H hO hS)) fun r s' h=>?_
    cases r with
    | error e=>exact (hCX H e s' h).elim
    | ok fl =>
      cases fl with
      | next=>exact False.elim h
      | brk=>exact False.elim h
      | cont=>exact False.elim h
      | ret u' =>
        obtain ⟨v,H',os,bare,un,hok',r',q'⟩:=h
        have q':v=.bl true:=q'
        subst q'
        obtain rfl:u'=Value.bool true:=r'
        refine ⟨rfl,⟨fun b o e=>?_,fun b o e=>un.there b o e (by simp)⟩,os,bare⟩
        cases r:H b with
        | none=>exact .inl (un.keep b o e r (by intro z;exact absurd (show b∈([]:List Addr) from z) (by simp)) (by simp))
        | some v =>
          rcases of r with ⟨y,hy,rfl⟩ | ⟨_,_,rfl⟩
          · have r2:=un.tbls b (.tbl (lamQ y)) trivial r
            obtain ⟨ps,g1,_⟩:=hok' b _ r2
            obtain ⟨h1,c,h2⟩:=hy
            have tb:=(tab y h1 c b h2).2
            have e3:o={ cls:=.none,data:=.fields #[] }:=Option.some.inj (e.symm.trans tb.2)
            subst e3
            exact .inr (.inl ⟨tb.isCodeTable,rfl,#[],ps,rfl,by rw [g1];simp⟩)
          · obtain ⟨ob,xs,rfl⟩:=hu
            have z2:=un.frzs b ob _ r
            obtain ⟨e1,_⟩:=hok b _ r
            obtain ⟨e2,_⟩:=hok' b _ z2
            rw [e] at e1;cases e1
            exact .inl e2
  have na:¬ ∃ y,TabAt K y a:=notab ha fun z=>by cases z
  cases hk:K.lookup a with
  | some o =>
    -- the script is one of the module's own objects
    have e:=KX a o hk
    rw [ha] at e
    cases e
    exact core (.frz { cls:=.type "list",data:=.seq vs.toArray } (.lst [])) false ⟨_,_,rfl⟩ (.inr ⟨_,vs.toArray,_,hk,rfl,rfl,rfl,by rw [List.size_toArray,lenV];exact hl,by simpa using rv⟩) (fun z=>nomatch z) fun z=>nomatch z
  | none =>
    refine core (.frz { cls:=.type "list",data:=.seq vs.toArray } (.lst (ns.map V.int))) true ⟨_,_,rfl⟩ (.inl (.inr ⟨{ cls:=.type "list",data:=.seq vs.toArray },by rw [at2 na];exact if_pos ⟨rfl,rfl⟩⟩)) (fun _=>⟨ha,by rw [List.length_map];exact hl,vs,_,rv,ha⟩) fun _=>hk
end L2
namespace L2
open PySem PySem.Spec PyProof.Rows
def defArgs (s:Stmt):Arguments:=match s with
  | .FunctionDef _ a _ _ _ _ _ _ _ _=>a
  | _=>{ posonlyargs:=[],args:=[],vararg:=none,kwonlyargs:=[],kw_defaults:=[],kwarg:=none,defaults:=[] }
def defBody (s:Stmt):List Stmt:=match s with
  | .FunctionDef _ _ b _ _ _ _ _ _ _=>b
  | _=>[]
def defScope (s:Stmt):Scope:=match s with
  | .FunctionDef _ _ _ _ _ _ sc _ _ _=>sc
  | _=>{ kind:=.function,names:=[],isGenerator:=false,isCoroutine:=false }
abbrev CX0:CXT:=fun _ _ _ _ _ _=>False
abbrev E0:XK:=fun _ _ _=>False
theorem pass0 {X:Cx}:Passes CX0 X E0:=fun _ _ _ _ _ _ _ h=>h.elim
structure Fun (K:PySem.W.Frag) (x qual:Str) (st:Stmt) (f:Addr) (fd:FuncData):Prop where
  ex:∃ (oc:Value) (od:Option Addr) (kV doc pm:Value) (an:Option Addr) (cdv ct:Value) (osl:Array (Option Value)),
    fd=PySem.W.fnOf x qual (defArgs st) (defBody st) (defScope st) .none kV doc pm an cdv ct∧K.lookup f=some ⟨oc,od,.func fd,osl⟩∧PySem.W.codeIn K cdv qual=true
  kp:PySem.W.keepIn K (.ref f)=true
section
variable {P:Program} {w:World} {K:PySem.W.Frag} {mg:Str→Option Value} {base:Heap}
theorem Fun.ok {x qual:Str} {st:Stmt} {f:Addr} {fd:FuncData} {N ps:List Str} {k:Nat} {sp:Sp} (F:Fun K x qual st f fd) (S:FnScope N ps (defScope st)) (len:∀ vs H Q E,sp vs H Q E→vs.length=ps.length)
    (hbody:∀ (cdv:Value) (A:Around) (outer:List Env) (s:Shared) (H:Hp) (vs:List V) (Q:VK) (E:XK),Room k (A.deeper (envOfC qual (defScope st) s.heap.objs.size f cdv))→sp vs H Q E →
      ∃ t,PSs (cxOf CX0 P w K mg base N qual (defScope st) f cdv A outer s H E).nox (defBody st) t∧t { nx:=fun _ H'=>Q .non H',rt:=Q } (start N vs) H):FnOk P w K mg base CX0 (k+1) f fd ps sp:=by
  obtain ⟨oc,od,kV,doc,pm,an,cdv,ct,osl,rfl,lk,hcd⟩:=F.ex
  refine fn_of lk hcd S len fun A outer s H vs Q E hr hsp=>?_
  obtain ⟨t,h,q⟩:=hbody cdv A outer s H vs Q E hr hsp
  exact ⟨t,h.nox,q⟩
theorem Fun.binds {x qual:Str} {st:Stmt} {f:Addr} {fd:FuncData} {ps:List Str} (F:Fun K x qual st f fd)
    (h:∀ (kV doc pm:Value) (an:Option Addr) (cdv ct:Value) (us:List Value),us.length=ps.length→bindArgs (PySem.W.fnOf x qual (defArgs st) (defBody st) (defScope st) .none kV doc pm an cdv ct) ⟨us,[]⟩=pure (ps.zip us)):Binds K fd ps []:=by
  obtain ⟨oc,od,kV,doc,pm,an,cdv,ct,osl,rfl,lk,hcd⟩:=F.ex
  exact .all (h kV doc pm an cdv ct)
theorem fun_mk {x qual:Str} {st:Stmt} {f:Addr} {oc:Value} {od an:Option Addr} {osl:Array (Option Value)} {kV doc pm cdv ct:Value} (l:K.lookup f=some ⟨oc,od,.func (PySem.W.fnOf x qual (defArgs st) (defBody st) (defScope st) .none kV doc pm an cdv ct),osl⟩)
    (c:PySem.W.codeIn K cdv qual=true) (k:PySem.W.keepIn K (.ref f)=true):Fun K x qual st f (PySem.W.fnOf x qual (defArgs st) (defBody st) (defScope st) .none kV doc pm an cdv ct):=⟨⟨oc,od,kV,doc,pm,an,cdv,ct,osl,rfl,l,c⟩,k⟩
end
section
variable {X:Cx}
theorem pv (i:Nat) {x:Str} {pos:Pos} (hN:X.N[i]?=some x:=by rfl) (hv:Vis X.env.scope x:=by first | exact Or.inl rfl | exact Or.inr (Or.inl rfl) | exact Or.inr (Or.inr rfl)) (hd:(x==("__debug__" : Str))=false:=by decide)
    (hcd:(x==("__classdict__" : Str))=false:=by decide):PE X (.Name x pos) (tVar i):=pe_var hN hv hd hcd
end
def Same (H H':Hp):Prop:=∀ b o,H b=some o→H' b=some o
theorem Same.refl (H:Hp):Same H H:=fun _ _ h=>h
theorem Same.trans {H H1 H2:Hp} (a:Same H H1) (b:Same H1 H2):Same H H2:=fun c o h=>b c o (a c o h)
theorem Same.free {H H':Hp} (e:Same H H') {l:Addr} (h:H' l=Option.none):H l=Option.none:=by
  cases q:H l with
  | none=>rfl
  | some o =>
    rw [e l o q] at h
    cases h
theorem Same.seq {K:PySem.W.Frag} {H H':Hp} {a:Addr} {xs:List V} (e:Same H H') (h:SqL K H a xs):SqL K H' a xs:=by
  rcases h with (h | ⟨o,h⟩) | h
  · exact .inl (.inl (e _ _ h))
  · exact .inl (.inr ⟨o,e _ _ h⟩)
  · exact .inr h
end L2
namespace L2
open PySem PySem.Spec PyProof.Rows
section
variable {κ:Type} [DecidableEq κ]
def valV (kvs:List (κ×V)) (k:κ):Option V:=(kvs.find? fun kv=>decide (kv.1=k)).map (·.2)
def putK (kvs:List (κ×V)) (k:κ) (v:V):List (κ×V) :=
  if (kvs.any fun kv=>decide (kv.1=k))=true then kvs.map (fun kv=>if kv.1=k then (kv.1,v) else kv) else kvs++[(k,v)]
def dropK (kvs:List (κ×V)) (k:κ):List (κ×V):=kvs.filter fun kv=>decide (kv.1≠k)
theorem valV_pos {p:κ×V} {r:List (κ×V)} {k:κ} (e:p.1=k):valV (p :: r) k=some p.2:=by simp [valV,List.find?_cons,e]
theorem valV_neg {p:κ×V} {r:List (κ×V)} {k:κ} (e:¬ p.1=k):valV (p :: r) k=valV r k:=by simp [valV,List.find?_cons,e]
theorem RelO.getD {o:Option V} {u:Option Value} {d:V} {d':Value} (r:RelO o u) (rd:RelV d d'):RelV (o.getD d) (u.getD d'):=by
  cases o with
  | none=>cases u with
    | none=>exact rd
    | some _=>exact (show False from r).elim
  | some _=>cases u with
    | none=>exact (show False from r).elim
    | some _=>exact r
theorem KV.val {kvs:List (κ×V)} {vs:List (κ×Value)} (r:KV kvs vs) (k:κ):RelO (valV kvs k) (valueAt vs k):=by
  unfold KV at r
  induction r with
  | nil=>exact True.intro
  | @cons p q ps qs h t ih =>
    obtain ⟨h1,h2⟩:=h
    by_cases e:p.1=k
    · have e':q.1=k:=h1.symm.trans e
      have b:valueAt (q :: qs) k=some q.2:=by simp [valueAt,List.find?_cons,e']
      rw [valV_pos e,b];exact h2
    · have e':¬ q.1=k:=fun z=>e (h1.trans z)
      have b:valueAt (q :: qs) k=valueAt qs k:=by simp [valueAt,List.find?_cons,e']
      rw [valV_neg e,b];exact ih
theorem KV.any {kvs:List (κ×V)} {vs:List (κ×Value)} (r:KV kvs vs) (k:κ):(kvs.any fun kv=>decide (kv.1=k))=vs.any fun kv=>decide (kv.1=k):=by
  unfold KV at r
  induction r with
  | nil=>rfl
  | cons h t ih=>rw [List.any_cons,List.any_cons,ih,h.1]
theorem KV.drop {kvs:List (κ×V)} {vs:List (κ×Value)} (r:KV kvs vs) (k:κ):KV (dropK kvs k) (without vs k):=by
  unfold KV at r ⊢
  unfold dropK without
  induction r with
  | nil=>exact .nil
  | @cons p q ps qs h t ih =>
    obtain ⟨h1,h2⟩:=h
    rw [List.filter_cons,List.filter_cons]
    by_cases e:p.1=k
    · have a:¬ decide (p.1≠k)=true:=by simp [e]
      have b:¬ decide (q.1≠k)=true:=by simp [h1.symm.trans e]
      rw [if_neg a,if_neg b];exact ih
    · have e':¬ q.1=k:=fun z=>e (h1.trans z)
      have a:decide (p.1≠k)=true:=by simp [e]
      have b:decide (q.1≠k)=true:=by simp [e']
      rw [if_pos a,if_pos b];exact .cons ⟨h1,h2⟩ ih
theorem KV.length {kvs:List (κ×V)} {vs:List (κ×Value)} (r:KV kvs vs):kvs.length=vs.length:=Paired.length r
end
abbrev KT (H:Hp):List (List Key×V)→List (List Key×Addr×Value)→Prop:=Paired fun p q=>p.1=q.1∧H q.2.1=some (.tup (p.1.map kV))∧RelV p.2 q.2.2
theorem KT.val {H:Hp} {kvs:List (List Key×V)} {xs:List (List Key×Addr×Value)} (r:KT H kvs xs) (k:List Key):RelO (valV kvs k) ((atKey xs k).map (·.2)):=by
  induction r with
  | nil=>exact True.intro
  | @cons p q ps qs h t ih =>
    obtain ⟨h1,_,h2⟩:=h
    by_cases e:p.1=k
    · have e':q.1=k:=h1.symm.trans e
      have b:atKey (q :: qs) k=some q.2:=by simp [atKey,List.find?_cons,e']
      rw [valV_pos e,b];exact h2
    · have e':¬ q.1=k:=fun z=>e (h1.trans z)
      have b:atKey (q :: qs) k=atKey qs k:=by simp [atKey,List.find?_cons,e']
      rw [valV_neg e,b];exact ih
theorem KT.keeps {H H':Hp} {kvs:List (List Key×V)} {xs:List (List Key×Addr×Value)} (r:KT H kvs xs) (ht:∀ b ys,H b=some (.tup ys)→H' b=some (.tup ys)):KT H' kvs xs :=
  Paired.mapP r fun _ _ z=>⟨z.1,ht _ _ z.2.1,z.2.2⟩
section
variable {P:Program} {w:World} {H:Hp} {h:Heap} {a:Addr}
end
def DGet (H:Hp) (a:Addr) (y:V) (r:Option V):Prop :=
  (∃ kvs k,Rd H a (.dK kvs)∧y=kV k∧r=valV kvs k)∨∃ kvs k b,Rd H a (.dT kvs)∧y=.ref b∧H b=some (.tup (k.map kV))∧r=valV kvs k
def DPut (H:Hp) (a:Addr) (y v:V) (H':Hp):Prop :=
  (∃ kvs k,H a=some (.dK kvs)∧y=kV k∧kvs.length < sizeLine∧H'=upd H a (.dK (putK kvs k v))) ∨
  ∃ kvs k b,H a=some (.dT kvs)∧y=.ref b∧H b=some (.tup (k.map kV))∧kvs.length < sizeLine∧H'=upd H a (.dT (putK kvs k v))
theorem DGet.k {H:Hp} {a:Addr} {kvs:List (Key×V)} {k:Key} (e:H a=some (.dK kvs)):DGet H a (kV k) (valV kvs k):=.inl ⟨kvs,k,.inl e,rfl,rfl⟩
theorem DGet.t {H:Hp} {a b:Addr} {kvs:List (List Key×V)} {k:List Key} (e:H a=some (.dT kvs)) (eb:H b=some (.tup (k.map kV))):DGet H a (.ref b) (valV kvs k):=.inr ⟨kvs,k,b,.inl e,rfl,eb,rfl⟩
theorem DPut.k {H:Hp} {a:Addr} {kvs:List (Key×V)} {k:Key} {v:V} (e:H a=some (.dK kvs)) (hl:kvs.length < sizeLine):DPut H a (kV k) v (upd H a (.dK (putK kvs k v))):=.inl ⟨kvs,k,e,rfl,hl,rfl⟩
theorem DPut.t {H:Hp} {a b:Addr} {kvs:List (List Key×V)} {k:List Key} {v:V} (e:H a=some (.dT kvs)) (eb:H b=some (.tup (k.map kV))) (hl:kvs.length < sizeLine) :
    DPut H a (.ref b) v (upd H a (.dT (putK kvs k v))):=.inr ⟨kvs,k,b,e,rfl,eb,hl,rfl⟩
section
variable {X:Cx} {pins:List (Addr×Obj)} {σ:St} {H:Hp} {s:Shared} {a:Addr} {y v:V} {u r:Value} {o:Option V} {A:Around} {E:Value→Shared→Prop}
end
section
variable {X:Cx} {pins:List (Addr×Obj)} {σ:St} {H:Hp} {s:Shared} {a:Addr} {kvs:List (Key×V)} {k:Key} {u:Value} {A:Around} {E:Value→Shared→Prop}
end
section
variable {X:Cx} {o i e value:Expr} {pos pos' tpos:Pos} {td ty tv:TE}
end
section
variable {X:Cx} {pos:Pos}
end
end L2
set_option genSizeOf true
noncomputable section
namespace Z
inductive D where
 | non
 | bl (b:Bool)
 | int (i:Int)
 | str (cs:List Nat)
 | tup (xs:List D)
 | lst (xs:List D)
 | dct (ks:List (Sum Int (List Nat))) (vs:List D)
inductive Res (α:Type) where
 | ok (a:α)
 | bad
namespace Res
def bind {α β:Type} (r:Res α) (f:α→Res β):Res β :=
 match r with
 | ok a=>f a
 | bad=>bad
@[simp] theorem ok_bind {α β:Type} (a:α) (f:α→Res β):(Res.ok a).bind f=f a:=rfl
@[simp] theorem bad_bind {α β:Type} (f:α→Res β):(Res.bad:Res α).bind f=bad:=rfl
def map {α β:Type} (f:α→β) (r:Res α):Res β :=
 match r with
 | ok a=>ok (f a)
 | bad=>bad
@[simp] theorem map_ok {α β:Type} (a:α) (f:α→β):(Res.ok a).map f=ok (f a):=rfl
@[simp] theorem map_bad {α β:Type} (f:α→β):(Res.bad:Res α).map f=bad:=rfl
theorem bind_ok {α β:Type} {r:Res α} {f:α→Res β} {b:β} (h:r.bind f=ok b):∃ a,r=ok a∧f a=ok b:=by
 cases r with
 | ok a=>exact ⟨a,rfl,h⟩
 | bad=>cases h
end Res
open Classical in
def guard {α:Type} (p:Prop) (r:Res α):Res α:=if p then r else .bad
@[simp] theorem guard_true {α:Type} (r:Res α):guard True r=r:=by unfold guard;exact if_pos trivial
theorem guard_pos {α:Type} {p:Prop} {r:Res α} (h:p):guard p r=r:=by unfold guard;exact if_pos h
theorem guard_ok {α:Type} {p:Prop} {r:Res α} {a:α} (h:guard p r=.ok a):p∧r=.ok a:=by
 unfold guard at h
 split at h
 ·rename_i q;exact ⟨q,h⟩
 ·cases h
inductive L where
 | val (d:D)
 | own (xs:List D)
 | bor (d:D)
 | dc (k:List (List Int) ⊕ List (List Nat×List Nat))
 | fdc (ks:List (List Int))
 | idc (ps:List (Int×Int))
 | exc (c:List Nat×List (List Nat×D))
abbrev L.dic (ks:List (List Int)):L:=.dc (.inl ks)
abbrev L.tdc (kvs:List (List Nat×List Nat)):L:=.dc (.inr kvs)
abbrev DK:=List (List Int) ⊕ List (List Nat×List Nat)
abbrev Env:=List (Option L)
abbrev EF:=Env→Res D
abbrev LF:=Env→Res (List D)
abbrev TF:=Env→Res Bool
abbrev AF:=Env→Res (List D)
inductive Fl where
 | nx (ρ:Env)
 | rt (d:D)
 | bk (ρ:Env)
 | ct (ρ:Env)
abbrev SF:=Env→Res Fl
abbrev GF:=D→Env→Res Env
abbrev line:Nat:=16777216
def deskK:List (List Nat):=[[104,97,108,108],[103,117,101,115,116,115],[104,101,108,100],[112,108,97,99,101,115]]
def thg (a kd:Nat) (ks:List (List Nat)) (vs:List D):D:=.dct (.inl a :: .inl kd :: ks.map .inr) vs
def eC (d:D) (_:Env):Res D:=.ok d
def eV (i:Nat) (ρ:Env):Res D:=match ρ[i]? with
 | some (some (.val d))=>.ok d
 | _=>.bad
def eW (i:Nat) (ρ:Env):Res D:=match ρ[i]? with
 | some (some (.val d))=>.ok d
 | some (some (.own xs))=>.ok (.lst xs)
 | some (some (.bor (.lst xs)))=>.ok (.lst xs)
 | _=>.bad
def eB (op:D→D→Res D) (a b:EF) (ρ:Env):Res D:=(a ρ).bind fun x=>(b ρ).bind fun y=>op x y
def eU (op:D→Res D) (a:EF) (ρ:Env):Res D:=(a ρ).bind op
def eAnd (a b:EF) (ρ:Env):Res D:=(a ρ).bind fun x=>match x with
 | .bl c=>if c then b ρ else .ok (.bl false)
 | _=>.bad
def eOr (a b:EF) (ρ:Env):Res D:=(a ρ).bind fun x=>match x with
 | .bl c=>if c then .ok (.bl true) else b ρ
 | _=>.bad
def eNot (a:EF) (ρ:Env):Res D:=(a ρ).bind fun x=>match x with
 | .bl c=>.ok (.bl !c)
 | _=>.bad
def eChain (op op':D→D→Res D) (a b c:EF) (ρ:Env):Res D:=(a ρ).bind fun x=>(b ρ).bind fun y=>(op x y).bind fun z=>match z with
 | .bl k=>if k then (c ρ).bind fun w=>op' y w else .ok (.bl false)
 | _=>.bad
def eIf (t:TF) (a b:EF) (ρ:Env):Res D:=(t ρ).bind fun c=>if c then a ρ else b ρ
def eL (l:LF) (ρ:Env):Res D:=(l ρ).map D.lst
def aNil (_:Env):Res (List D):=.ok []
def aCons (a:EF) (r:AF) (ρ:Env):Res (List D):=(a ρ).bind fun x=>(r ρ).bind fun xs=>.ok (x :: xs)
def lDisp (as:AF) (ρ:Env):Res (List D):=(as ρ).bind fun xs=>guard (xs.length≤line) (.ok xs)
def eTup (as:AF) (ρ:Env):Res D:=(as ρ).bind fun xs=>guard (xs.length≤line) (.ok (.tup xs))
def eCall (f:List D→Res D) (as:AF) (ρ:Env):Res D:=(as ρ).bind f
def tE (a:EF) (ρ:Env):Res Bool:=(a ρ).bind fun x=>match x with
 | .bl c=>.ok c
 | _=>.bad
def tAnd (a b:TF) (ρ:Env):Res Bool:=(a ρ).bind fun c=>if c then b ρ else .ok false
def tOr (a b:TF) (ρ:Env):Res Bool:=(a ρ).bind fun c=>if c then .ok true else b ρ
def tNot (a:TF) (ρ:Env):Res Bool:=(a ρ).bind fun c=>.ok !c
def bits (a:Int):Nat:=if a=0 then 0 else a.natAbs.log2+1
def oAdd:D→D→Res D
 | .int a,.int b=>.ok (.int (a+b))
 | .str a,.str b=>guard (a.length+b.length≤line) (.ok (.str (a++b)))
 | .tup a,.tup b=>guard (a.length+b.length≤line) (.ok (.tup (a++b)))
 | _,_=>.bad
def oSub:D→D→Res D
 | .int a,.int b=>.ok (.int (a-b))
 | _,_=>.bad
def mulFits (a b:Int):Prop:=((-18446744073709551616 < a∧a < 18446744073709551616)∨(-18446744073709551616 < b∧b < 18446744073709551616)∨(bits a≤16777216∧bits b≤16777216))
def oMul:D→D→Res D
 | .int a,.int b=>guard (mulFits a b) (.ok (.int (a*b)))
 | _,_=>.bad
def divFits (b:Int):Prop:=0 < b∧b < 1809251394333065553493296640760748560207343510400633813116524750123642650624
def oDiv:D→D→Res D
 | .int a,.int b=>guard (divFits b) (.ok (.int (a / b)))
 | _,_=>.bad
def oMod:D→D→Res D
 | .int a,.int b=>guard (0 < b) (.ok (.int (a % b)))
 | _,_=>.bad
def oShr:D→D→Res D
 | .int a,.int b=>guard (0≤b) (.ok (.int (a / 2 ^ b.toNat)))
 | _,_=>.bad
def oPow:D→D→Res D
 | .int a,.int b=>guard (0≤b∧b≤1000000∧a.natAbs < 2 ^ 64) (.ok (.int (a ^ b.toNat)))
 | _,_=>.bad
def oNeg:D→Res D
 | .int a=>.ok (.int (-a))
 | _=>.bad
def ltC:List Nat→List Nat→Bool
 | [],[]=>false
 | [],_ :: _=>true
 | _ :: _,[]=>false
 | a :: as,b :: bs=>if a < b then true else if a=b then ltC as bs else false
def oLt:D→D→Res D
 | .int a,.int b=>.ok (.bl (decide (a < b)))
 | _,_=>.bad
def oLe:D→D→Res D
 | .int a,.int b=>.ok (.bl (decide (a≤b)))
 | .str a,.str b=>.ok (.bl (!(ltC b a)))
 | _,_=>.bad
def oGt:D→D→Res D
 | .int a,.int b=>.ok (.bl (decide (b < a)))
 | _,_=>.bad
def oGe:D→D→Res D
 | .int a,.int b=>.ok (.bl (decide (b≤a)))
 | _,_=>.bad
def eqS:D→D→Option Bool
 | .non,.non=>some true
 | .bl a,.bl b=>some (a==b)
 | .bl a,.int b=>some ((if a then 1 else 0)==b)
 | .int a,.bl b=>some (a==(if b then 1 else 0))
 | .int a,.int b=>some (a==b)
 | .str a,.str b=>some (a==b)
 | .non,.bl _=>some false
 | .non,.int _=>some false
 | .non,.str _=>some false
 | .bl _,.non=>some false
 | .bl _,.str _=>some false
 | .int _,.non=>some false
 | .int _,.str _=>some false
 | .str _,.non=>some false
 | .str _,.bl _=>some false
 | .str _,.int _=>some false
 | _,_=>none
def allEq (f:D→D→Option Bool):List D→List D→Option Bool
 | [],[]=>some true
 | [],_ :: _=>some false
 | _ :: _,[]=>some false
 | a :: as,b :: bs=>match f a b,allEq f as bs with
  | some x,some y=>some (x&&y)
  | _,_=>none
def eqDn:Nat→D→D→Option Bool
 | n+1,.tup a,.tup b=>allEq (eqDn n) a b
 | n+1,.lst a,.lst b=>allEq (eqDn n) a b
 | _,.tup _,.lst _=>some false
 | _,.lst _,.tup _=>some false
 | _,.tup _,.non=>some false
 | _,.tup _,.bl _=>some false
 | _,.tup _,.int _=>some false
 | _,.tup _,.str _=>some false
 | _,.non,.tup _=>some false
 | _,.bl _,.tup _=>some false
 | _,.int _,.tup _=>some false
 | _,.str _,.tup _=>some false
 | _,.lst _,.non=>some false
 | _,.lst _,.bl _=>some false
 | _,.lst _,.int _=>some false
 | _,.lst _,.str _=>some false
 | _,.non,.lst _=>some false
 | _,.bl _,.lst _=>some false
 | _,.int _,.lst _=>some false
 | _,.str _,.lst _=>some false
 | _,x,y=>eqS x y
def eqD:D→D→Option Bool:=eqDn 6
def oEq (a b:D):Res D:=match eqD a b with
 | some x=>.ok (.bl x)
 | none=>.bad
def oNe (a b:D):Res D:=match eqD a b with
 | some x=>.ok (.bl !x)
 | none=>.bad
def oIsN:D→Res D
 | .non=>.ok (.bl true)
 | _=>.ok (.bl false)
def oNotN:D→Res D
 | .non=>.ok (.bl false)
 | _=>.ok (.bl true)
def anyEq (x:D):List D→Option Bool
 | []=>some false
 | y :: r=>match eqD y x,anyEq x r with
  | some a,some b=>some (a || b)
  | _,_=>none
def oIn:D→D→Res D
 | x,.tup ys=>match anyEq x ys with
  | some b=>.ok (.bl b)
  | none=>.bad
 | x,.lst ys=>match anyEq x ys with
  | some b=>.ok (.bl b)
  | none=>.bad
 | _,_=>.bad
def oNotIn:D→D→Res D
 | x,.tup ys=>match anyEq x ys with
  | some b=>.ok (.bl !b)
  | none=>.bad
 | x,.lst ys=>match anyEq x ys with
  | some b=>.ok (.bl !b)
  | none=>.bad
 | _,_=>.bad
def oLen:D→Res D
 | .str t=>guard (t.length≤line) (.ok (.int t.length))
 | .tup xs=>.ok (.int xs.length)
 | .lst xs=>.ok (.int xs.length)
 | _=>.bad
inductive Ty where
 | bool | int | str | tuple | list | dict
def isTy:Ty→D→Bool
 | .bool,.bl _=>true
 | .int,.bl _=>true
 | .int,.int _=>true
 | .str,.str _=>true
 | .tuple,.tup _=>true
 | .list,.lst _=>true
 | .dict,.dct _ _=>true
 | _,_=>false
def oIsTy (t:Ty) (x:D):Res D:=.ok (.bl (isTy t x))
def ixZ (n:Nat) (i:Int):Option Nat:=if 0≤i then (if i < n then some i.toNat else none) else if -(n:Int)≤i then some (i+n).toNat else none
def oIx:D→D→Res D
 | .tup xs,.int i=>match (ixZ xs.length i).bind fun j=>xs[j]? with
  | some v=>.ok v
  | none=>.bad
 | .lst xs,.int i=>match (ixZ xs.length i).bind fun j=>xs[j]? with
  | some v=>.ok v
  | none=>.bad
 | .str cs,.int i=>guard (cs.length≤line) (match (ixZ cs.length i).bind fun j=>cs[j]? with
  | some c=>.ok (.str [c])
  | none=>.bad)
 | _,_=>.bad
def sIx (n d:Nat):Option Int→Nat
 | none=>d
 | some i=>if i < 0 then (i+n).toNat else min i.toNat n
def cut {α:Type} (xs:List α) (lo hi:Option Int):List α:=(xs.drop (sIx xs.length 0 lo)).take (sIx xs.length xs.length hi-sIx xs.length 0 lo)
abbrev PF:=Env→Res (Option Int)
def pNo (_:Env):Res (Option Int):=.ok none
def pAt (a:EF) (ρ:Env):Res (Option Int):=(a ρ).bind fun x=>match x with
 | .int i=>.ok (some i)
 | _=>.bad
def oSl:D→Option Int→Option Int→Res D
 | .str cs,lo,hi=>guard (cs.length≤line) (.ok (.str (cut cs lo hi)))
 | .tup xs,lo,hi=>.ok (.tup (cut xs lo hi))
 | _,_,_=>.bad
def eSl (a:EF) (lo hi:PF) (ρ:Env):Res D:=(a ρ).bind fun x=>(lo ρ).bind fun l=>(hi ρ).bind fun h=>oSl x l h
def lSl (a:EF) (lo hi:PF) (ρ:Env):Res (List D):=(a ρ).bind fun x=>(lo ρ).bind fun l=>(hi ρ).bind fun h=>match x with
 | .lst xs=>.ok (cut xs l h)
 | _=>.bad
def lCat (a b:EF) (ρ:Env):Res (List D):=(a ρ).bind fun x=>(b ρ).bind fun y=>match x,y with
 | .lst xs,.lst ys=>guard (xs.length+ys.length≤line) (.ok (xs++ys))
 | _,_=>.bad
def allB:List D→Option Bool
 | []=>some true
 | .bl b :: r=>(allB r).map (b&&·)
 | _ :: _=>none
def oAll:D→Res D
 | .lst xs=>match allB xs with
  | some b=>.ok (.bl b)
  | none=>.bad
 | _=>.bad
def iterD:D→Res (List D)
 | .tup xs=>.ok xs
 | .lst xs=>.ok xs
 | .str cs=>.ok (cs.map fun c=>.str [c])
 | _=>.bad
def iSeq (a:EF) (ρ:Env):Res (List D):=(a ρ).bind iterD
def zints (lo:Int) (n:Nat):List D:=(List.range n).map fun i=>D.int (lo+(i:Nat))
def iRng1 (a:EF) (ρ:Env):Res (List D):=(a ρ).bind fun x=>match x with
 | .int j=>.ok (zints 0 j.toNat)
 | _=>.bad
def iRng2 (a b:EF) (ρ:Env):Res (List D):=(a ρ).bind fun x=>(b ρ).bind fun y=>match x,y with
 | .int i,.int j=>.ok (zints i (j-i).toNat)
 | _,_=>.bad
def gName (i:Nat) (d:D) (ρ:Env):Res Env:=.ok (ρ.set i (some (.val d)))
def gNames:List Nat→List D→Env→Res Env
 | [],[],ρ=>.ok ρ
 | i :: is,d :: ds,ρ=>gNames is ds (ρ.set i (some (.val d)))
 | _,_,_=>.bad
def gTup (is:List Nat) (d:D) (ρ:Env):Res Env:=match d with
 | .tup ds=>gNames is ds ρ
 | _=>.bad
def capt1 (ρ:Env) (i:Nat):Option L:=match ρ[i]? with
 | some (some (.val d))=>some (.val d)
 | some (some (.bor d))=>some (.bor d)
 | some (some (.fdc ks))=>some (.fdc ks)
 | _=>none
def capt (ρ:Env) (is:List Nat):Env:=is.map (capt1 ρ)
def compGo (g:GF) (t:TF) (e:EF) (ρ:Env):List D→Res (List D)
 | []=>.ok []
 | d :: r=>(g d ρ).bind fun ρ1=>(t ρ1).bind fun c=>if c then (e ρ1).bind fun y=>(compGo g t e ρ r).bind fun ys=>.ok (y :: ys) else compGo g t e ρ r
def lComp (it:LF) (n:Nat) (is:List Nat) (g:GF) (t:TF) (e:EF) (ρ:Env):Res (List D):=(it ρ).bind fun ds=>guard (ds.length≤line) (compGo g t e (List.replicate n none++capt ρ is) ds)
def tTrue (_:Env):Res Bool:=.ok true
def sNext (ρ:Env):Res Fl:=.ok (.nx ρ)
def sSeq (a b:SF) (ρ:Env):Res Fl:=(a ρ).bind fun fl=>match fl with
 | .nx ρ'=>b ρ'
 | o=>.ok o
def sSet (i:Nat) (e:EF) (ρ:Env):Res Fl:=(e ρ).bind fun d=>.ok (.nx (ρ.set i (some (.val d))))
def sOwn (i:Nat) (e:LF) (ρ:Env):Res Fl:=(e ρ).bind fun xs=>.ok (.nx (ρ.set i (some (.own xs))))
def sGet (e:EF) (g:GF) (ρ:Env):Res Fl:=(e ρ).bind fun d=>(g d ρ).bind fun ρ'=>.ok (.nx ρ')
def sIf (t:TF) (a b:SF) (ρ:Env):Res Fl:=(t ρ).bind fun c=>if c then a ρ else b ρ
def sRet (e:EF) (ρ:Env):Res Fl:=(e ρ).bind fun d=>.ok (.rt d)
def sRetN (_:Env):Res Fl:=.ok (.rt .non)
def sDrop (e:EF) (ρ:Env):Res Fl:=(e ρ).bind fun _=>.ok (.nx ρ)
def sBreak (ρ:Env):Res Fl:=.ok (.bk ρ)
def sCont (ρ:Env):Res Fl:=.ok (.ct ρ)
def frz (i:Nat) (ρ:Env):Env:=match ρ[i]? with
 | some (some (.own xs))=>ρ.set i (some (.val (.lst xs)))
 | _=>ρ
def sFrz (i:Nat) (a:SF) (ρ:Env):Res Fl:=a (frz i ρ)
def sAppend (i:Nat) (e:EF) (ρ:Env):Res Fl:=(e ρ).bind fun d=>match ρ[i]? with
 | some (some (.own xs))=>guard (xs.length < line) (.ok (.nx (ρ.set i (some (.own (xs++[d]))))))
 | _=>.bad
def sPut (i:Nat) (k e:EF) (ρ:Env):Res Fl:=(e ρ).bind fun d=>(k ρ).bind fun z=>match z,ρ[i]? with
 | .int z,some (some (.own xs))=>(match ixZ xs.length z with
  | some j=>.ok (.nx (ρ.set i (some (.own (xs.set j d)))))
  | none=>.bad)
 | _,_=>.bad
def forGo (g:GF) (b:SF):List D→Env→Res Fl
 | [],ρ=>.ok (.nx ρ)
 | d :: r,ρ=>(g d ρ).bind fun ρ1=>(b ρ1).bind fun fl=>match fl with
  | .nx ρ'=>forGo g b r ρ'
  | .ct ρ'=>forGo g b r ρ'
  | .bk ρ'=>.ok (.nx ρ')
  | .rt d=>.ok (.rt d)
def sFor (it:LF) (g:GF) (b:SF) (ρ:Env):Res Fl:=(it ρ).bind fun ds=>forGo g b ds ρ
def start (n:Nat) (ds:List D):Env:=ds.map (fun d=>some (.val d))++List.replicate (n-ds.length) none
def fn (ps n:Nat) (b:SF) (ds:List D):Res D:=if ds.length=ps then (match b (start n ds) with
 | .ok (.rt d)=>.ok d
 | .ok (.nx _)=>.ok .non
 | _=>.bad) else .bad
def lent:Bool→D→L
 | true,.lst xs=>.bor (.lst xs)
 | true,.dct ks vs=>.bor (.dct ks vs)
 | _,d=>.val d
def startB (n:Nat) (bs:List Bool) (ds:List D):Env:=(List.zipWith (fun b d=>some (lent b d)) bs ds)++List.replicate (n-ds.length) none
def fnB (bs:List Bool) (n:Nat) (b:SF) (ds:List D):Res D:=if ds.length=bs.length then (match b (startB n bs ds) with
 | .ok (.rt d)=>.ok d
 | .ok (.nx _)=>.ok .non
 | _=>.bad) else .bad
end Z
end
set_option genSizeOf false
noncomputable section
namespace Z
@[simp] theorem eC_a (d:D) (ρ:Env):eC d ρ=.ok d:=rfl
@[simp] theorem eB_a (o:D→D→Res D) (a b:EF) (ρ:Env):eB o a b ρ=(a ρ).bind fun x=>(b ρ).bind fun y=>o x y:=rfl
@[simp] theorem eU_a (o:D→Res D) (a:EF) (ρ:Env):eU o a ρ=(a ρ).bind o:=rfl
@[simp] theorem eL_a (l:LF) (ρ:Env):eL l ρ=(l ρ).map D.lst:=rfl
@[simp] theorem aNil_a (ρ:Env):aNil ρ=.ok []:=rfl
@[simp] theorem aCons_a (a:EF) (r:AF) (ρ:Env):aCons a r ρ=(a ρ).bind fun x=>(r ρ).bind fun xs=>.ok (x :: xs):=rfl
@[simp] theorem eCall_a (f:List D→Res D) (as:AF) (ρ:Env):eCall f as ρ=(as ρ).bind f:=rfl
@[simp] theorem sNext_a (ρ:Env):sNext ρ=.ok (.nx ρ):=rfl
@[simp] theorem sSet_a (i:Nat) (e:EF) (ρ:Env):sSet i e ρ=(e ρ).bind fun d=>.ok (.nx (ρ.set i (some (.val d)))):=rfl
@[simp] theorem sOwn_a (i:Nat) (e:LF) (ρ:Env):sOwn i e ρ=(e ρ).bind fun d=>.ok (.nx (ρ.set i (some (.own d)))):=rfl
@[simp] theorem sRet_a (e:EF) (ρ:Env):sRet e ρ=(e ρ).bind fun d=>.ok (.rt d):=rfl
@[simp] theorem sRetN_a (ρ:Env):sRetN ρ=.ok (.rt .non):=rfl
@[simp] theorem sIf_a (t:TF) (a b:SF) (ρ:Env):sIf t a b ρ=(t ρ).bind fun c=>if c then a ρ else b ρ:=rfl
@[simp] theorem eIf_a (t:TF) (a b:EF) (ρ:Env):eIf t a b ρ=(t ρ).bind fun c=>if c then a ρ else b ρ:=rfl
@[simp] theorem sFor_a (it:LF) (g:GF) (b:SF) (ρ:Env):sFor it g b ρ=(it ρ).bind fun ds=>forGo g b ds ρ:=rfl
def seqK (b:SF):Fl→Res Fl
 | .nx ρ'=>b ρ'
 | o=>.ok o
@[simp] theorem sSeq_a (a b:SF) (ρ:Env):sSeq a b ρ=(a ρ).bind (seqK b):=rfl
@[simp] theorem seqK_nx (b:SF) (ρ:Env):seqK b (.nx ρ)=b ρ:=rfl
@[simp] theorem seqK_rt (b:SF) (d:D):seqK b (.rt d)=.ok (.rt d):=rfl
@[simp] theorem seqK_bk (b:SF) (ρ:Env):seqK b (.bk ρ)=.ok (.bk ρ):=rfl
@[simp] theorem seqK_ct (b:SF) (ρ:Env):seqK b (.ct ρ)=.ok (.ct ρ):=rfl
def truK:D→Res Bool
 | .bl c=>.ok c
 | _=>.bad
@[simp] theorem tE_a (a:EF) (ρ:Env):tE a ρ=(a ρ).bind truK:=rfl
@[simp] theorem truK_bl (c:Bool):truK (.bl c)=.ok c:=rfl
@[simp] theorem tTrue_a (ρ:Env):tTrue ρ=.ok true:=rfl
@[simp] theorem tAnd_a (a b:TF) (ρ:Env):tAnd a b ρ=(a ρ).bind fun c=>if c then b ρ else .ok false:=rfl
@[simp] theorem tOr_a (a b:TF) (ρ:Env):tOr a b ρ=(a ρ).bind fun c=>if c then .ok true else b ρ:=rfl
@[simp] theorem tNot_a (a:TF) (ρ:Env):tNot a ρ=(a ρ).bind fun c=>.ok !c:=rfl
def boolK (f:Bool→Res D):D→Res D
 | .bl c=>f c
 | _=>.bad
@[simp] theorem boolK_bl (f:Bool→Res D) (c:Bool):boolK f (.bl c)=f c:=rfl
@[simp] theorem eAnd_a (a b:EF) (ρ:Env):eAnd a b ρ=(a ρ).bind (boolK fun c=>if c then b ρ else .ok (.bl false)):=rfl
@[simp] theorem eOr_a (a b:EF) (ρ:Env):eOr a b ρ=(a ρ).bind (boolK fun c=>if c then .ok (.bl true) else b ρ):=rfl
@[simp] theorem eNot_a (a:EF) (ρ:Env):eNot a ρ=(a ρ).bind (boolK fun c=>.ok (.bl !c)):=rfl
@[simp] theorem eChain_a (o o':D→D→Res D) (a b c:EF) (ρ:Env):eChain o o' a b c ρ=(a ρ).bind fun x=>(b ρ).bind fun y=>(o x y).bind (boolK fun k=>if k then (c ρ).bind fun w=>o' y w else .ok (.bl false)):=rfl
@[simp] theorem oAdd_int (a b:Int):oAdd (.int a) (.int b)=.ok (.int (a+b)):=rfl
@[simp] theorem oSub_int (a b:Int):oSub (.int a) (.int b)=.ok (.int (a-b)):=rfl
@[simp] theorem oMul_int (a b:Int):oMul (.int a) (.int b)=guard (mulFits a b) (.ok (.int (a*b))):=rfl
@[simp] theorem oDiv_int (a b:Int):oDiv (.int a) (.int b)=guard (divFits b) (.ok (.int (a / b))):=rfl
@[simp] theorem oMod_int (a b:Int):oMod (.int a) (.int b)=guard (0 < b) (.ok (.int (a % b))):=rfl
@[simp] theorem oShr_int (a b:Int):oShr (.int a) (.int b)=guard (0≤b) (.ok (.int (a / 2 ^ b.toNat))):=rfl
@[simp] theorem oLt_int (a b:Int):oLt (.int a) (.int b)=.ok (.bl (decide (a < b))):=rfl
@[simp] theorem oLe_int (a b:Int):oLe (.int a) (.int b)=.ok (.bl (decide (a≤b))):=rfl
@[simp] theorem oLe_str (a b:List Nat):oLe (.str a) (.str b)=.ok (.bl (!(ltC b a))):=rfl
@[simp] theorem oGt_int (a b:Int):oGt (.int a) (.int b)=.ok (.bl (decide (b < a))):=rfl
@[simp] theorem oGe_int (a b:Int):oGe (.int a) (.int b)=.ok (.bl (decide (b≤a))):=rfl
@[simp] theorem oEq_int (a b:Int):oEq (.int a) (.int b)=.ok (.bl (a==b)):=rfl
@[simp] theorem oEq_bl (a b:Bool):oEq (.bl a) (.bl b)=.ok (.bl (a==b)):=rfl
@[simp] theorem oEq_str (a b:List Nat):oEq (.str a) (.str b)=.ok (.bl (a==b)):=rfl
@[simp] theorem oNe_int (a b:Int):oNe (.int a) (.int b)=.ok (.bl (!(a==b))):=rfl
@[simp] theorem oNe_bl (a b:Bool):oNe (.bl a) (.bl b)=.ok (.bl (!(a==b))):=rfl
@[simp] theorem oNe_str (a b:List Nat):oNe (.str a) (.str b)=.ok (.bl (!(a==b))):=rfl
@[simp] theorem oLen_str (a:List Nat):oLen (.str a)=guard (a.length≤line) (.ok (.int a.length)):=rfl
@[simp] theorem oLen_tup (a:List D):oLen (.tup a)=.ok (.int a.length):=rfl
@[simp] theorem oLen_lst (a:List D):oLen (.lst a)=.ok (.int a.length):=rfl
@[simp] theorem oIsTy_a (t:Ty) (x:D):oIsTy t x=.ok (.bl (isTy t x)):=rfl
@[simp] theorem pNo_a (ρ:Env):pNo ρ=.ok none:=rfl
def intK:D→Res (Option Int)
 | .int i=>.ok (some i)
 | _=>.bad
@[simp] theorem intK_int (i:Int):intK (.int i)=.ok (some i):=rfl
@[simp] theorem pAt_a (a:EF) (ρ:Env):pAt a ρ=(a ρ).bind intK:=rfl
@[simp] theorem eSl_a (a:EF) (lo hi:PF) (ρ:Env):eSl a lo hi ρ=(a ρ).bind fun x=>(lo ρ).bind fun l=>(hi ρ).bind fun h=>oSl x l h:=rfl
@[simp] theorem iSeq_a (a:EF) (ρ:Env):iSeq a ρ=(a ρ).bind iterD:=rfl
def rng1K:D→Res (List D)
 | .int j=>.ok (zints 0 j.toNat)
 | _=>.bad
@[simp] theorem iRng1_a (a:EF) (ρ:Env):iRng1 a ρ=(a ρ).bind rng1K:=rfl
@[simp] theorem rng1K_int (j:Int):rng1K (.int j)=.ok (zints 0 j.toNat):=rfl
def rng2K:D→D→Res (List D)
 | .int i,.int j=>.ok (zints i (j-i).toNat)
 | _,_=>.bad
@[simp] theorem iRng2_a (a b:EF) (ρ:Env):iRng2 a b ρ=(a ρ).bind fun x=>(b ρ).bind fun y=>rng2K x y:=rfl
@[simp] theorem rng2K_int (i j:Int):rng2K (.int i) (.int j)=.ok (zints i (j-i).toNat):=rfl
@[simp] theorem iterD_tup (xs:List D):iterD (.tup xs)=.ok xs:=rfl
@[simp] theorem iterD_lst (xs:List D):iterD (.lst xs)=.ok xs:=rfl
@[simp] theorem iterD_str (cs:List Nat):iterD (.str cs)=.ok (cs.map fun c=>.str [c]):=rfl
@[simp] theorem gName_a (i:Nat) (d:D) (ρ:Env):gName i d ρ=.ok (ρ.set i (some (.val d))):=rfl
theorem lComp_a (it:LF) (n:Nat) (is:List Nat) (g:GF) (t:TF) (e:EF) (ρ:Env):lComp it n is g t e ρ=(it ρ).bind fun ds=>guard (ds.length≤line) (compGo g t e (List.replicate n none++capt ρ is) ds):=rfl
@[simp] theorem lDisp_a (as:AF) (ρ:Env):lDisp as ρ=(as ρ).bind fun xs=>guard (xs.length≤line) (.ok xs):=rfl
@[simp] theorem eTup_a (as:AF) (ρ:Env):eTup as ρ=(as ρ).bind fun xs=>guard (xs.length≤line) (.ok (.tup xs)):=rfl
def retK:Res Fl→Res D
 | .ok (.rt d)=>.ok d
 | .ok (.nx _)=>.ok .non
 | _=>.bad
@[simp] theorem retK_rt (d:D):retK (.ok (.rt d))=.ok d:=rfl
@[simp] theorem retK_nx (ρ:Env):retK (.ok (.nx ρ))=.ok .non:=rfl
theorem fn_a (ps n:Nat) (b:SF) (ds:List D) (h:ds.length=ps):fn ps n b ds=retK (b (start n ds)):=by
 unfold fn;rw [if_pos h];cases b (start n ds) with
 | bad=>rfl
 | ok f=>cases f<;>rfl
theorem mulFits_l {a b:Int} (h1:-18446744073709551616 < a) (h2:a < 18446744073709551616):mulFits a b:=by
 unfold mulFits;exact .inl ⟨h1,h2⟩
theorem mulFits_r {a b:Int} (h1:-18446744073709551616 < b) (h2:b < 18446744073709551616):mulFits a b:=by
 unfold mulFits;exact .inr (.inl ⟨h1,h2⟩)
theorem divFits_of {b:Int} (h0:0 < b) (h:b < 1809251394333065553493296640760748560207343510400633813116524750123642650624):divFits b:=by
 exact ⟨h0,h⟩
theorem ix_str {cs:List Nat} {i:Int} (h0:0≤i) (h1:i < cs.length) (hl:cs.length≤line):∃ c∈cs,oIx (.str cs) (.int i)=.ok (.str [c]):=by
 have hj:i.toNat < cs.length:=by lia
 refine ⟨cs[i.toNat],List.getElem_mem hj,?_⟩
 simp [oIx,hl,ixZ,h0,h1,hj]
theorem ints_at {n j:Nat} {d:D} (h:(zints 0 n)[j]?=some d):j < n∧d=.int (j:Nat):=by
 unfold zints at h
 rw [List.getElem?_map] at h
 cases q:(List.range n)[j]? with
 | none=>rw [q] at h;cases h
 | some i =>
  rw [q] at h
  obtain ⟨h1,h2⟩:=List.getElem?_eq_some_iff.mp q
  rw [List.length_range] at h1
  rw [List.getElem_range] at h2
  subst h2
  simp at h
  exact ⟨h1,h.symm⟩
@[simp] theorem ints_len (lo:Int) (n:Nat):(zints lo n).length=n:=by simp [zints]
@[simp] theorem lSl_a (xs:List D) (a:EF) (lo hi:PF) (ρ:Env) (h:a ρ=.ok (.lst xs)):lSl a lo hi ρ=(lo ρ).bind fun l=>(hi ρ).bind fun h=>.ok (cut xs l h):=by
 unfold lSl;rw [h];rfl
theorem compGo_map {g:GF} {e:EF} {ρ:Env} {h:D→D}:∀ (ds:List D),(∀ d∈ds,(g d ρ).bind e=.ok (h d))→compGo g tTrue e ρ ds=.ok (ds.map h)
 | [],_=>rfl
 | d :: ds,k=>by
  have h1:=k d List.mem_cons_self
  have h2:=compGo_map ds (fun x hx=>k x (List.mem_cons_of_mem _ hx))
  obtain ⟨ρ1,e1,e2⟩:=Res.bind_ok h1
  simp [compGo,e1,tTrue,e2,h2]
theorem allB_bl:∀ (bs:List Bool),allB (bs.map D.bl)=some (bs.all id)
 | []=>rfl
 | b :: bs=>by simp [allB,allB_bl bs]
@[simp high] theorem gt0 {α:Type _} (a:α) (l:List α):(a :: l)[0]?=some a:=rfl
@[simp high] theorem gtS {α:Type _} (a:α) (l:List α) (n:Nat):(a :: l)[n+1]?=l[n]?:=rfl
@[simp high] theorem st0 {α:Type _} (a x:α) (l:List α):(a :: l).set 0 x=x :: l:=rfl
@[simp high] theorem stS {α:Type _} (a x:α) (l:List α) (n:Nat):(a :: l).set (n+1) x=a :: l.set n x:=rfl
end Z
end
set_option maxHeartbeats 4000000
namespace ZS
open PySem PySem.Spec PyProof.Rows L2
abbrev St:=L2.St
def keyZ:Sum Int (List Nat)→Key
 | .inl i=>.inl i
 | .inr cs=>.inr ⟨cs.toArray⟩
def FzL (K:PySem.W.Frag) (H:Hp) (a:Addr) (xs:List V):Prop :=
 (∃ o,H a=some (.frz o (.lst xs))) ∨
  ∃ (o:Obj) (its:Array Value) (n:Nat),K.lookup a=some o∧o.cls=.type "list" ∧ o.dict=none∧o.data=.seq its n∧its.size≤sizeLine∧Vals xs its.toList
theorem FzL.sq {K:PySem.W.Frag} {H:Hp} {a:Addr} {xs:List V} (h:FzL K H a xs):SqL K H a xs:=by
 rcases h with ⟨o,h⟩ | h
 ·exact .inl (.inr ⟨o,h⟩)
 ·exact .inr h
structure Stb (H H':Hp):Prop where
 tup:∀ a xs,H a=some (.tup xs)→H' a=some (.tup xs)
 frz:∀ a o u,H a=some (.frz o u)→H' a=some (.frz o u)
theorem Stb.refl (H:Hp):Stb H H:=⟨fun _ _ h=>h,fun _ _ _ h=>h⟩
theorem Stb.trans {H H1 H2:Hp} (a:Stb H H1) (b:Stb H1 H2):Stb H H2:=⟨fun c xs h=>b.tup c xs (a.tup c xs h),fun c o u h=>b.frz c o u (a.frz c o u h)⟩
theorem stb {H H':Hp} (s:Same H H'):Stb H H':=⟨fun _ _ h=>s _ _ h,fun _ _ _ h=>s _ _ h⟩
theorem stb_upd {H:Hp} {p:Addr} {o u:HO} (h:H p=some o) (n1:∀ xs,o≠.tup xs) (n2:∀ ob x,o≠.frz ob x):Stb H (upd H p u) :=
 ⟨fun a xs e=>by rw [upd_ne (by rintro rfl;rw [h] at e;exact n1 xs (Option.some.inj e))];exact e,fun a ob x e=>by rw [upd_ne (by rintro rfl;rw [h] at e;exact n2 ob x (Option.some.inj e))];exact e⟩
theorem stb_lst {H:Hp} {p:Addr} {xs:List V} {u:HO} (h:H p=some (.lst xs)):Stb H (upd H p u):=stb_upd h (fun _ z=>nomatch z) (fun _ _ z=>nomatch z)
theorem FzL.mono {K:PySem.W.Frag} {H H':Hp} {a:Addr} {xs:List V} (e:Stb H H') (h:FzL K H a xs):FzL K H' a xs:=by
 rcases h with ⟨o,h⟩ | h
 ·exact .inl ⟨o,e.frz _ _ _ h⟩
 ·exact .inr h
theorem sqT_mono {K:PySem.W.Frag} {H H':Hp} {a:Addr} {xs:List V} (e:Stb H H') (h:SqT K H a xs):SqT K H' a xs:=by
 rcases h with (h | ⟨o,h⟩) | h
 ·exact .inl (.inl (e.tup _ _ h))
 ·exact .inl (.inr ⟨o,e.frz _ _ _ h⟩)
 ·exact .inr h
mutual
def Den (K:PySem.W.Frag) (H:Hp):Z.D→V→Prop
 | .non,v=>v=.non
 | .bl b,v=>v=.bl b
 | .int i,v=>v=.int i
 | .str cs,v=>v=.str ⟨cs.toArray⟩
 | .tup ds,v=>∃ a vs,v=.ref a∧SqT K H a vs∧Dens K H ds vs
 | .lst ds,v=>∃ a vs,v=.ref a∧FzL K H a vs∧Dens K H ds vs
 | .dct ks ds,v=>∃ a o kvs,v=.ref a∧H a=some (.frz o (.dK kvs))∧kvs.map (·.1)=ks.map keyZ∧Dens K H ds (kvs.map (·.2))∧∀ i r,ks≠.inl i :: r
def Dens (K:PySem.W.Frag) (H:Hp):List Z.D→List V→Prop
 | [],vs=>vs=[]
 | d :: ds,vs=>∃ v r,vs=v :: r∧Den K H d v∧Dens K H ds r
end
section
variable {K:PySem.W.Frag} {H H':Hp}
mutual
theorem Den.mono (e:Stb H H'):∀ (d:Z.D) (v:V),Den K H d v→Den K H' d v
 | .non,v,h=>by simp only [Den] at h ⊢;exact h
 | .bl b,v,h=>by simp only [Den] at h ⊢;exact h
 | .int i,v,h=>by simp only [Den] at h ⊢;exact h
 | .str cs,v,h=>by simp only [Den] at h ⊢;exact h
 | .tup ds,v,h=>by
  simp only [Den] at h ⊢
  obtain ⟨a,vs,e1,q,r⟩:=h
  exact ⟨a,vs,e1,sqT_mono e q,Dens.mono e ds vs r⟩
 | .lst ds,v,h=>by
  simp only [Den] at h ⊢
  obtain ⟨a,vs,e1,q,r⟩:=h
  exact ⟨a,vs,e1,q.mono e,Dens.mono e ds vs r⟩
 | .dct ks ds,v,h=>by
  simp only [Den] at h ⊢
  obtain ⟨a,o,kvs,e1,q,k,r,n⟩:=h
  exact ⟨a,o,kvs,e1,e.frz _ _ _ q,k,Dens.mono e ds _ r,n⟩
theorem Dens.mono (e:Stb H H'):∀ (ds:List Z.D) (vs:List V),Dens K H ds vs→Dens K H' ds vs
 | [],vs,h=>by simp only [Dens] at h ⊢;exact h
 | d :: ds,vs,h=>by
  simp only [Dens] at h ⊢
  obtain ⟨v,r,e1,q,t⟩:=h
  exact ⟨v,r,e1,Den.mono e d v q,Dens.mono e ds r t⟩
end
theorem Den.up {d:Z.D} {v:V} (h:Den K H d v) (e:Same H H'):Den K H' d v:=Den.mono (stb e) d v h
theorem Den.ups {d:Z.D} {v:V} (h:Den K H d v) (e:Stb H H'):Den K H' d v:=Den.mono e d v h
theorem Dens.ups {ds:List Z.D} {vs:List V} (h:Dens K H ds vs) (e:Stb H H'):Dens K H' ds vs:=Dens.mono e ds vs h
theorem Dens.up {ds:List Z.D} {vs:List V} (h:Dens K H ds vs) (e:Same H H'):Dens K H' ds vs:=Dens.mono (stb e) ds vs h
theorem Dens.nil:Dens K H [] []:=by simp only [Dens]
theorem Dens.cons {d:Z.D} {ds:List Z.D} {v:V} {vs:List V} (h:Den K H d v) (t:Dens K H ds vs):Dens K H (d :: ds) (v :: vs):=by
 simp only [Dens];exact ⟨v,vs,rfl,h,t⟩
theorem Dens.length:∀ {ds:List Z.D} {vs:List V},Dens K H ds vs→vs.length=ds.length
 | [],vs,h=>by simp only [Dens] at h;subst h;rfl
 | d :: ds,vs,h=>by
  simp only [Dens] at h
  obtain ⟨v,r,rfl,_,t⟩:=h
  simp [Dens.length t]
theorem Dens.get:∀ {ds:List Z.D} {vs:List V} {i:Nat} {d:Z.D},Dens K H ds vs→ds[i]?=some d→∃ v,vs[i]?=some v∧Den K H d v
 | [],_,_,_,_,e=>by simp at e
 | x :: ds,vs,0,d,h,e=>by
  simp only [Dens] at h
  obtain ⟨v,r,rfl,q,_⟩:=h
  simp at e;subst e
  exact ⟨v,rfl,q⟩
 | x :: ds,vs,i+1,d,h,e=>by
  simp only [Dens] at h
  obtain ⟨v,r,rfl,_,t⟩:=h
  obtain ⟨u,h1,h2⟩:=Dens.get (i:=i) t (by simpa using e)
  exact ⟨u,by simpa using h1,h2⟩
theorem Dens.append:∀ {ds es:List Z.D} {vs us:List V},Dens K H ds vs→Dens K H es us→Dens K H (ds++es) (vs++us)
 | [],_,_,_,h,g=>by simp only [Dens] at h;subst h;exact g
 | d :: ds,es,vs,us,h,g=>by
  simp only [Dens] at h
  obtain ⟨v,r,rfl,q,t⟩:=h
  exact Dens.cons q (Dens.append t g)
theorem Dens.drop:∀ {ds:List Z.D} {vs:List V} (n:Nat),Dens K H ds vs→Dens K H (ds.drop n) (vs.drop n)
 | _,_,0,h=>by simpa using h
 | [],vs,_+1,h=>by simp only [Dens] at h;subst h;simpa using Dens.nil
 | d :: ds,vs,n+1,h=>by
  simp only [Dens] at h
  obtain ⟨v,r,rfl,q,t⟩:=h
  simpa using Dens.drop n t
theorem Dens.take:∀ {ds:List Z.D} {vs:List V} (n:Nat),Dens K H ds vs→Dens K H (ds.take n) (vs.take n)
 | _,_,0,h=>by simpa using Dens.nil
 | [],vs,_+1,h=>by simp only [Dens] at h;subst h;simpa using Dens.nil
 | d :: ds,vs,n+1,h=>by
  simp only [Dens] at h
  obtain ⟨v,r,rfl,q,t⟩:=h
  simpa using Dens.cons q (Dens.take n t)
theorem Dens.set:∀ {ds:List Z.D} {vs:List V} {d:Z.D} {v:V} (n:Nat),Dens K H ds vs→Den K H d v→Dens K H (ds.set n d) (vs.set n v)
 | [],vs,_,_,_,h,_=>by simp only [Dens] at h;subst h;simpa using Dens.nil
 | x :: ds,vs,d,v,0,h,q=>by
  simp only [Dens] at h
  obtain ⟨u,r,rfl,_,t⟩:=h
  simpa using Dens.cons q t
 | x :: ds,vs,d,v,n+1,h,q=>by
  simp only [Dens] at h
  obtain ⟨u,r,rfl,p,t⟩:=h
  simpa using Dens.cons p (Dens.set n t q)
theorem Dens.zints:∀ (ns:List Int),Dens K H (ns.map Z.D.int) (ns.map V.int)
 | []=>Dens.nil
 | n :: ns=>Dens.cons (by simp only [Den]) (Dens.zints ns)
def DenW (K:PySem.W.Frag) (H:Hp) (d:Z.D) (v:V):Prop:=Den K H d v∨∃ ds a vs,d=.lst ds∧v=.ref a∧H a=some (.lst vs)∧Dens K H ds vs
theorem DenW.up {d:Z.D} {v:V} (h:DenW K H d v) (e:Same H H'):DenW K H' d v:=by
 rcases h with h | ⟨ds,a,vs,e1,e2,q,t⟩
 ·exact .inl (h.up e)
 ·exact .inr ⟨ds,a,vs,e1,e2,e _ _ q,t.up e⟩
theorem DenW.strong {d:Z.D} {v:V} (h:DenW K H d v) (n:∀ ds,d≠.lst ds):Den K H d v:=by
 rcases h with h | ⟨ds,a,vs,e1,_⟩
 ·exact h
 ·exact absurd e1 (n ds)
theorem DenW.non {v:V} (h:DenW K H .non v):v=.non:=by
 have:=h.strong (fun _ z=>nomatch z);simpa only [Den] using this
theorem DenW.bl {b:Bool} {v:V} (h:DenW K H (.bl b) v):v=.bl b:=by
 have:=h.strong (fun _ z=>nomatch z);simpa only [Den] using this
theorem DenW.int {i:Int} {v:V} (h:DenW K H (.int i) v):v=.int i:=by
 have:=h.strong (fun _ z=>nomatch z);simpa only [Den] using this
theorem DenW.str {cs:List Nat} {v:V} (h:DenW K H (.str cs) v):v=.str ⟨cs.toArray⟩:=by
 have:=h.strong (fun _ z=>nomatch z);simpa only [Den] using this
theorem DenW.tup {ds:List Z.D} {v:V} (h:DenW K H (.tup ds) v):∃ a vs,v=.ref a∧SqT K H a vs∧Dens K H ds vs:=by
 have:=h.strong (fun _ z=>nomatch z);simpa only [Den] using this
theorem DenW.lst {ds:List Z.D} {v:V} (h:DenW K H (.lst ds) v):∃ a vs,v=.ref a∧SqL K H a vs∧Dens K H ds vs:=by
 rcases h with h | ⟨es,a,vs,e1,e2,q,t⟩
 ·simp only [Den] at h
  obtain ⟨a,vs,e,q,t⟩:=h
  exact ⟨a,vs,e,q.sq,t⟩
 ·cases e1
  exact ⟨a,vs,e2,.inl (.inl q),t⟩
theorem DenW.dct {ks:List (Sum Int (List Nat))} {ds:List Z.D} {v:V} (h:DenW K H (.dct ks ds) v):∃ a o kvs,v=.ref a∧H a=some (.frz o (.dK kvs))∧kvs.map (·.1)=ks.map keyZ∧Dens K H ds (kvs.map (·.2))∧∀ i r,ks≠.inl i :: r:=by
 have:=h.strong (fun _ z=>nomatch z);simpa only [Den] using this
theorem den_non:Den K H .non .non:=by simp only [Den]
theorem den_bl {b:Bool}:Den K H (.bl b) (.bl b):=by simp only [Den]
theorem den_int {i:Int}:Den K H (.int i) (.int i):=by simp only [Den]
theorem den_str {cs:List Nat}:Den K H (.str cs) (.str ⟨cs.toArray⟩):=by simp only [Den]
theorem den_tup {ds:List Z.D} {a:Addr} {vs:List V} (h:SqT K H a vs) (t:Dens K H ds vs):Den K H (.tup ds) (.ref a):=by
 simp only [Den];exact ⟨a,vs,rfl,h,t⟩
theorem den_lst {ds:List Z.D} {a:Addr} {vs:List V} (h:FzL K H a vs) (t:Dens K H ds vs):Den K H (.lst ds) (.ref a):=by
 simp only [Den];exact ⟨a,vs,rfl,h,t⟩
end
def ClsN (K:PySem.W.Frag) (c:Str) (C:Addr):Prop:=PySem.W.nsIn K mainGlobals c=some (some (.ref C))∧Cls K C
def ThO (K:PySem.W.Frag) (H:Hp) (kd:Nat) (ks:List (List Nat)) (ds:List Z.D) (u:HO):Prop :=
 (kd=0∧ks=Z.deskK.take ks.length∧∃ C dx fs,u=.ins C dx fs∧ClsN K "Desk" C∧fs.map (·.1)=ks.map (fun c=>(⟨c.toArray⟩:Str))∧Dens K H ds (fs.map (·.2))) ∨
  kd=1∧∃ kvs:List (Key×V),u=.dK kvs∧kvs.map (·.1)=ks.map (fun c=>(Sum.inr ⟨c.toArray⟩:Key))∧Dens K H ds (kvs.map (·.2))
theorem ThO.ups {K:PySem.W.Frag} {H H':Hp} {kd:Nat} {ks:List (List Nat)} {ds:List Z.D} {u:HO} (h:ThO K H kd ks ds u) (e:Stb H H'):ThO K H' kd ks ds u:=by
 rcases h with ⟨h0,hk,C,dx,fs,h1,h2,h3,h4⟩ | ⟨h0,kvs,h1,h2,h3⟩
 ·exact .inl ⟨h0,hk,C,dx,fs,h1,h2,h3,h4.ups e⟩
 ·exact .inr ⟨h0,kvs,h1,h2,h3.ups e⟩
def Thg (K:PySem.W.Frag) (H:Hp) (d:Z.D) (v:V):Prop:=∃ a kd ks ds u,d=Z.thg a kd ks ds∧v=.ref a∧H a=some u∧ThO K H kd ks ds u
def DenB (K:PySem.W.Frag) (H:Hp) (d:Z.D) (v:V):Prop:=DenW K H d v∨Thg K H d v
theorem DenB.up {K:PySem.W.Frag} {H H':Hp} {d:Z.D} {v:V} (h:DenB K H d v) (e:Same H H'):DenB K H' d v:=by
 rcases h with h | ⟨a,kd,ks,ds,u,e1,e2,q,t⟩
 ·exact .inl (h.up e)
 ·exact .inr ⟨a,kd,ks,ds,u,e1,e2,e _ _ q,t.ups (stb e)⟩
def DenB0 (K:PySem.W.Frag) (H:Hp) (d:Z.D) (v:V):Prop:=DenW K H d v∨∃ a kd ks ds u,d=Z.thg a kd ks ds∧v=.ref a∧H a=some u
theorem DenB.z {K:PySem.W.Frag} {H:Hp} {d:Z.D} {v:V} (h:DenB K H d v):DenB0 K H d v:=by
 rcases h with h | ⟨a,kd,ks,ds,u,e1,e2,q,_⟩
 ·exact .inl h
 ·exact .inr ⟨a,kd,ks,ds,u,e1,e2,q⟩
theorem DenB0.lst {K:PySem.W.Frag} {H:Hp} {ds:List Z.D} {v:V} (h:DenB0 K H (.lst ds) v):DenW K H (.lst ds) v:=by
 rcases h with h | ⟨a,kd,ks,es,u,e1,_⟩
 ·exact h
 ·cases e1
theorem DenB.thg {K:PySem.W.Frag} {H:Hp} {a:Int} {r:List (Sum Int (List Nat))} {ds:List Z.D} {v:V} (h:DenB K H (.dct (.inl a :: r) ds) v):Thg K H (.dct (.inl a :: r) ds) v:=by
 rcases h with h | h
 ·obtain ⟨_,_,_,_,_,_,_,n⟩:=h.dct
  exact absurd rfl (n _ _)
 ·exact h
theorem DenB0.re {K:PySem.W.Frag} {H0 H H':Hp} {d:Z.D} {v:V} (h:DenB0 K H0 d v) (r:DenB K H d v) (h0:Same H0 H) (hs:Same H0 H') (st:Stb H H'):DenB K H' d v:=by
 rcases h with h | ⟨a,kd,ks,ds,u,rfl,rfl,q⟩
 ·exact .inl (h.up hs)
 ·obtain ⟨a',kd',ks',ds',u',e1,e2,q',t⟩:=r.thg
  cases e2
  have:=(h0 _ _ q).symm.trans q'
  cases this
  exact .inr ⟨_,kd',ks',ds',u,e1,rfl,hs _ _ q,t.ups st⟩
theorem DenB.lst {K:PySem.W.Frag} {H:Hp} {ds:List Z.D} {v:V} (h:DenB K H (.lst ds) v):DenW K H (.lst ds) v:=by
 rcases h with h | ⟨a,kd,ks,es,u,e1,_⟩
 ·exact h
 ·cases e1
def entI (x:List Int×Addr×Value):DictEntry:={ hash:=reduceHash (Builtin.Tuple.tupleHashOf (x.1.map hashInt)),key:=.ref x.2.1,val:=x.2.2 }
def DicAt (a:Addr) (ks:List (List Int)) (as:List Addr) (h:Heap):Prop:=ks.length≤sizeLine∧(a==sysModules)=false∧∃ (xs:List (List Int×Addr×Value)) (o:Obj) (es:Array DictEntry) (ep:Nat),xs.map (·.1)=ks∧xs.map (·.2.1)=as∧h.get? a=some o∧o.ExactDict∧o.data=.dict es ep∧es.toList=xs.map entI∧ks.Nodup
abbrev DicO (a:Addr) (ks:List (List Int)) (as:List Addr):HO:=.ext (DicAt a ks as)
def KeysAt (K:PySem.W.Frag) (H:Hp) (ks:List (List Int)) (as:List Addr):Prop:=Paired (fun (k:List Int) (b:Addr)=>Den K H (.tup (k.map .int)) (.ref b)) ks as
def kvT (kvs:List (List Nat×List Nat)):List (Key×V):=kvs.map fun p=>(Sum.inr ⟨p.1.toArray⟩,V.str ⟨p.2.toArray⟩)
def DcO (a:Addr):Z.DK→List Addr→HO
 | .inl ks,as=>DicO a ks as
 | .inr kvs,_=>.dK (kvT kvs)
def DcK (K:PySem.W.Frag) (H:Hp):Z.DK→List Addr→Prop
 | .inl ks,as=>KeysAt K H ks as
 | .inr _,_=>True
theorem dcO_lst {a:Addr} {k:Z.DK} {as:List Addr} {xs:List V}:DcO a k as≠.lst xs:=by cases k<;>exact fun z=>nomatch z
def kvI (ps:List (Int×Int)):List (Key×V):=ps.map fun p=>(Sum.inl p.1,V.int p.2)
def xcIn (K:PySem.W.Frag) (C:Addr):Bool:=match K.lookup C with
 | some ⟨.type "type",_,.cls cd,sl⟩=>(match cd.mro,sl.toList with
  | .ref C' :: tl,[_,_,_,_,some (.builtin n),_]=>C'==C&&n == "ValueError.__new__" && !cd.hasDel&&tl.contains (.type "BaseException")
  | _,_=>false)
 | _=>false
def XC (K:PySem.W.Frag) (c:List Nat) (C:Addr):Prop:=PySem.W.nsIn K mainGlobals ⟨c.toArray⟩=some (some (.ref C))∧xcIn K C=true
def XD (K:PySem.W.Frag) (H:Hp):Option Addr→List (List Nat×Z.D)→Prop
 | none,fs=>fs=[]
 | some dx,fs=>fs≠[]∧∃ od kvs,H dx=some (.frz od (.xd kvs))∧Paired (fun (p:Str×V) (q:List Nat×Z.D)=>p.1=⟨q.1.toArray⟩∧Den K H q.2 p.2) kvs fs
theorem XD.ups {K:PySem.W.Frag} {H H':Hp} {dd:Option Addr} {fs:List (List Nat×Z.D)} (h:XD K H dd fs) (e:Stb H H'):XD K H' dd fs:=by
 cases dd with
 | none=>exact h
 | some dx =>
  obtain ⟨n,od,kvs,q,p⟩:=h
  exact ⟨n,od,kvs,e.frz _ _ _ q,Paired.mapP p fun _ _ z=>⟨z.1,z.2.ups e⟩⟩
def XRel (K:PySem.W.Frag) (H:Hp) (c:List Nat×List (List Nat×Z.D)) (C:Addr) (dd:Option Addr):Prop:=XC K c.1 C∧XD K H dd c.2
theorem XRel.ups {K:PySem.W.Frag} {H H':Hp} {c:List Nat×List (List Nat×Z.D)} {C:Addr} {dd:Option Addr} (h:XRel K H c C dd) (e:Stb H H'):XRel K H' c C dd:=⟨h.1,h.2.ups e⟩
def RL (K:PySem.W.Frag) (H:Hp):Z.L→V→Prop
 | .val d,v=>Den K H d v
 | .own ds,v=>∃ a vs,v=.ref a∧H a=some (.lst vs)∧Dens K H ds vs
 | .bor d,v=>DenB K H d v
 | .dc k,v=>∃ a as,v=.ref a∧H a=some (DcO a k as)∧DcK K H k as
 | .fdc ks,v=>∃ a o as,v=.ref a∧H a=some (.frz o (DicO a ks as))∧KeysAt K H ks as
 | .idc ps,v=>∃ a o,v=.ref a∧H a=some (.frz o (.dK (kvI ps)))
 | .exc c,v=>∃ a o u C,v=.ref a∧H a=some (.frz o u)∧o.cls=.ref C∧(∃ vs,o.data=.fields vs)∧XRel K H c C o.dict
theorem KeysAt.ups {K:PySem.W.Frag} {H H':Hp} {ks:List (List Int)} {as:List Addr} (h:KeysAt K H ks as) (e:Stb H H'):KeysAt K H' ks as:=Paired.mapP h fun _ _ d=>Den.ups d e
theorem DcK.ups {K:PySem.W.Frag} {H H':Hp} {k:Z.DK} {as:List Addr} (h:DcK K H k as) (e:Stb H H'):DcK K H' k as:=by
 cases k with
 | inl ks=>exact KeysAt.ups (show KeysAt K H ks as from h) e
 | inr _=>exact True.intro
structure RE (K:PySem.W.Frag) (H:Hp) (σ:St) (ρ:Z.Env):Prop where
 len:ρ.length=σ.length
 get:∀ (i:Nat) (l:Z.L),ρ[i]?=some (some l)→∃ v,σ[i]?=some (some v)∧RL K H l v
 sep:∀ (i j:Nat) (xs ys:List Z.D) (a:Addr),ρ[i]?=some (some (.own xs))→ρ[j]?=some (some (.own ys))→σ[i]?=some (some (.ref a))→σ[j]?=some (some (.ref a))→i=j
section
variable {K:PySem.W.Frag} {H H':Hp} {σ:St} {ρ:Z.Env}
theorem RL.up {l:Z.L} {v:V} (h:RL K H l v) (e:Same H H'):RL K H' l v:=by
 cases l with
 | val d=>exact Den.up (show Den K H d v from h) e
 | own ds =>
  obtain ⟨a,vs,e1,q,t⟩:=h
  exact ⟨a,vs,e1,e _ _ q,t.up e⟩
 | bor d=>exact DenB.up (show DenB K H d v from h) e
 | dc ks =>
  obtain ⟨a,as,e1,q,t⟩:=h
  exact ⟨a,as,e1,e _ _ q,t.ups (stb e)⟩
 | fdc ks =>
  obtain ⟨a,o,as,e1,q,t⟩:=h
  exact ⟨a,o,as,e1,e _ _ q,t.ups (stb e)⟩
 | idc ps =>
  obtain ⟨a,o,e1,q⟩:=h
  exact ⟨a,o,e1,e _ _ q⟩
 | exc c =>
  obtain ⟨a,o,u,C,e1,q,r1,r2,r3⟩:=h
  exact ⟨a,o,u,C,e1,e _ _ q,r1,r2,r3.ups (stb e)⟩
theorem RE.up (h:RE K H σ ρ) (e:Same H H'):RE K H' σ ρ :=
 ⟨h.len,fun i l q=>let ⟨v,h1,h2⟩:=h.get i l q;⟨v,h1,h2.up e⟩,h.sep⟩
theorem upd_Same {a:Addr} {o:HO} (h:H a=none):Same H (upd H a o):=fun b u e=>by
 rw [upd_ne (ne_of_none e h)];exact e
end
def tZ (K:PySem.W.Frag) (f:Z.EF):TE:=fun σ H Q=>∃ ρ d,RE K H σ ρ∧f ρ=.ok d∧∀ v H',Same H H'→Den K H' d v→Q v H'
def tZw (K:PySem.W.Frag) (f:Z.EF):TE:=fun σ H Q=>∃ ρ d,RE K H σ ρ∧f ρ=.ok d∧∀ v H',Same H H'→DenW K H' d v→Q v H'
def tZl (K:PySem.W.Frag) (f:Z.LF):TE:=fun σ H Q=>∃ ρ ds,RE K H σ ρ∧f ρ=.ok ds∧∀ a vs H',Same H H'→H a=none→H' a=some (.lst vs)→Dens K H' ds vs→Q (.ref a) H'
def tZt (K:PySem.W.Frag) (f:Z.TF):TT:=fun σ H Q=>∃ ρ b,RE K H σ ρ∧f ρ=.ok b∧∀ H',Same H H'→Q b H'
def tZa (K:PySem.W.Frag) (f:Z.AF):TA:=fun σ H Q=>∃ ρ ds,RE K H σ ρ∧f ρ=.ok ds∧∀ vs H',Same H H'→Dens K H' ds vs→Q vs H'
def tZp (K:PySem.W.Frag) (f:Z.PF):TO:=fun σ H Q=>∃ ρ o,RE K H σ ρ∧f ρ=.ok o∧∀ H',Same H H'→Q o H'
abbrev DE (X:Cx) (e:Expr) (f:Z.EF):Prop:=PE X e (tZ X.K f)
abbrev DW (X:Cx) (e:Expr) (f:Z.EF):Prop:=PE X e (tZw X.K f)
abbrev DL (X:Cx) (e:Expr) (f:Z.LF):Prop:=PE X e (tZl X.K f)
abbrev DT (X:Cx) (e:Expr) (f:Z.TF):Prop:=PT X e (tZt X.K f)
abbrev DTW (X:Cx) (e:Expr) (f:Z.TF):Prop:=PW X e (tZt X.K f)
abbrev DA (X:Cx) (es:List Expr) (f:Z.AF):Prop:=PA X es (tZa X.K f)
abbrev DP (X:Cx) (e:Option Expr) (f:Z.PF):Prop:=PO X e (tZp X.K f)
section
variable {X:Cx} {e a b c:Expr} {es:List Expr} {pos:Pos} {f fa fb fc:Z.EF}
theorem PE.imp {t t':TE} (h:PE X e t) (k:∀ σ H Q,t' σ H Q→t σ H Q):PE X e t':=fun pins s σ H Q I w=>h pins s σ H Q I (k σ H Q w)
theorem PT.imp {t t':TT} (h:PT X e t) (k:∀ σ H Q,t' σ H Q→t σ H Q):PT X e t':=fun pins s σ H Q I w=>h pins s σ H Q I (k σ H Q w)
theorem PW.imp {t t':TT} (h:PW X e t) (k:∀ σ H Q,t' σ H Q→t σ H Q):PW X e t':=fun whole pins s σ H Q I w=>h whole pins s σ H Q I (k σ H Q w)
theorem PA.imp {t t':TA} (h:PA X es t) (k:∀ σ H Q,t' σ H Q→t σ H Q):PA X es t':=fun p pins s σ H Q I w=>h p pins s σ H Q I (k σ H Q w)
theorem PO.imp {o:Option Expr} {t t':TO} (h:PO X o t) (k:∀ σ H Q,t' σ H Q→t σ H Q):PO X o t':=fun pins s σ H Q I w=>h pins s σ H Q I (k σ H Q w)
theorem de_c {v:V} {d:Z.D} (h:PE X e (tC v)) (hd:∀ H,Den X.K H d v):DE X e (Z.eC d):=PE.imp h fun σ H Q ⟨ρ,d',_,e,k⟩=>by
 have e':Z.Res.ok d=Z.Res.ok d':=e
 cases e'
 exact k v H (Same.refl H) (hd H)
theorem de_int {i:Int} {j}:DE X (.Constant (.int i) j pos) (Z.eC (.int i)):=de_c pe_int fun _=>den_int
theorem de_bl {x:Bool} {j}:DE X (.Constant (.bool x) j pos) (Z.eC (.bl x)):=de_c pe_bl fun _=>den_bl
theorem de_non {j}:DE X (.Constant .none j pos) (Z.eC .non):=de_c pe_non fun _=>den_non
theorem de_str {x:Str} {cs:List Nat} {j} (h:x=⟨cs.toArray⟩):DE X (.Constant (.str x) j pos) (Z.eC (.str cs)):=by
 subst h;exact de_c pe_str fun _=>den_str
theorem eV_ok {i:Nat} {ρ:Z.Env} {d:Z.D} (h:Z.eV i ρ=.ok d):ρ[i]?=some (some (.val d)):=by
 unfold Z.eV at h
 split at h
 ·rename_i d' q;cases h;exact q
 ·cases h
theorem eW_ok {i:Nat} {ρ:Z.Env} {d:Z.D} (h:Z.eW i ρ=.ok d):ρ[i]?=some (some (.val d))∨(∃ xs,ρ[i]?=some (some (.own xs))∧d=.lst xs)∨∃ xs,ρ[i]?=some (some (.bor (.lst xs)))∧d=.lst xs:=by
 unfold Z.eW at h
 split at h
 ·rename_i d' q;cases h;exact .inl q
 ·rename_i xs q;cases h;exact .inr (.inl ⟨xs,q,rfl⟩)
 ·rename_i xs q;cases h;exact .inr (.inr ⟨xs,q,rfl⟩)
 ·cases h
theorem de_var {i:Nat} (h:PE X e (tVar i)):DE X e (Z.eV i):=PE.imp h fun σ H Q ⟨ρ,d,r,e,k⟩=>by
 obtain ⟨v,h1,h2⟩:=r.get i _ (eV_ok e)
 exact ⟨v,h1,k v H (Same.refl H) h2⟩
theorem dw_var {i:Nat} (h:PE X e (tVar i)):DW X e (Z.eW i):=PE.imp h fun σ H Q ⟨ρ,d,r,e,k⟩=>by
 rcases eW_ok e with q | ⟨xs,q,rfl⟩ | ⟨xs,q,rfl⟩
 rotate_left
 rotate_left
 ·obtain ⟨v,h1,h2⟩:=r.get i _ q
  exact ⟨v,h1,k v H (Same.refl H) (DenB.lst h2)⟩
 ·obtain ⟨v,h1,h2⟩:=r.get i _ q
  exact ⟨v,h1,k v H (Same.refl H) (.inl h2)⟩
 ·obtain ⟨v,h1,a,vs,rfl,h2,h3⟩:=r.get i _ q
  exact ⟨_,h1,k _ H (Same.refl H) (.inr ⟨xs,a,vs,rfl,rfl,h2,h3⟩)⟩
theorem de_v (i:Nat) {x:Str} (hN:X.N[i]?=some x:=by rfl) (hv:Vis X.env.scope x:=by first | exact Or.inl rfl | exact Or.inr (Or.inl rfl) | exact Or.inr (Or.inr rfl)) (hd:(x==("__debug__" : Str))=false:=by decide +kernel)
  (hcd:(x==("__classdict__" : Str))=false:=by decide +kernel):DE X (.Name x pos) (Z.eV i):=de_var (pe_var hN hv hd hcd)
theorem dw_v (i:Nat) {x:Str} (hN:X.N[i]?=some x:=by rfl) (hv:Vis X.env.scope x:=by first | exact Or.inl rfl | exact Or.inr (Or.inl rfl) | exact Or.inr (Or.inr rfl)) (hd:(x==("__debug__" : Str))=false:=by decide +kernel)
  (hcd:(x==("__classdict__" : Str))=false:=by decide +kernel):DW X (.Name x pos) (Z.eW i):=dw_var (pe_var hN hv hd hcd)
theorem de_glob {x:Str} {u:Value} {v:V} {d:Z.D} (hg:Gl X x) (hm:X.mg x=some u) (r:RelV v u) (hd:∀ H,Den X.K H d v) (hb:(x==("__debug__" : Str))=false:=by decide +kernel):DE X (.Name x pos) (Z.eC d) :=
 de_c (pe_glob hg hm r hb) hd
theorem dw_e (h:DE X e f):DW X e f:=PE.imp h fun σ H Q ⟨ρ,d,r,e,k⟩=>⟨ρ,d,r,e,fun v H' s q=>k v H' s (.inl q)⟩
theorem dw_l {l:Z.LF} (h:DL X e l):DW X e (Z.eL l):=PE.imp h fun σ H Q ⟨ρ,d,r,e,k⟩=>by
 unfold Z.eL at e
 cases q:l ρ with
 | bad=>rw [q] at e;cases e
 | ok ds =>
  rw [q] at e;cases e
  exact ⟨ρ,ds,r,q,fun a vs H' s hn h1 h2=>k _ H' s (.inr ⟨ds,a,vs,rfl,rfl,h1,h2⟩)⟩
theorem inv_freeze {pins : List (Addr × Obj)} {σ : St} {H : Hp} {s : Shared} {p : Addr} {xs : List V} (I : Inv X pins σ H s) (h : H p = some (.lst xs)) : ∃ o, Inv X pins σ (upd H p (.frz o (.lst xs))) s := by
 obtain ⟨z,its,n,r,ho⟩:=I.hok p _ h
 refine ⟨_,I.un (H':=upd H p (.frz { cls:=.type "list",data:=.seq its.toArray n } (.lst xs))) (h':=s.heap) (t':=s.toks) ?_ ?_⟩
 ·have ne:∀ b,H b=none→b≠p:=fun b e q=>by rw [q,h] at e;cases e
  refine ⟨fun b o q _ _ _=>q,fun b o q _ _ _=>⟨o.slots,q⟩,fun b o q e _=>by rw [upd_ne (ne b e)];exact e,fun b o q _=>⟨o,q⟩,fun b ys e=>?_,fun b o u e=>?_,fun b u pr e=>?_⟩
  ·have:b≠p:=by rintro rfl;rw [h] at e;cases e
   rw [upd_ne this];exact e
  ·have:b≠p:=by rintro rfl;rw [h] at e;cases e
   rw [upd_ne this];exact e
  ·have:b≠p:=by rintro rfl;rw [h] at e;cases e;exact pr
   rw [upd_ne this];exact e
 ·intro b u e
  by_cases hb:b=p
  ·subst hb
   rw [upd_same] at e;cases e
   exact ⟨ho,z,its,n,r,ho⟩
  ·rw [upd_ne hb] at e
   refine (I.hok b u e).stay (fun c w _ q=>q) (fun c q=>?_) (fun c ys q=>?_) fun c v pr q=>?_
   ·have:c≠p:=by rintro rfl;rw [h] at q;cases q
    rw [upd_ne this];exact q
   ·have:c≠p:=by rintro rfl;rw [h] at q;cases q
    rw [upd_ne this];exact q
   ·have:c≠p:=by rintro rfl;rw [h] at q;cases q;exact pr
    rw [upd_ne this];exact q
theorem same_frz {H H1:Hp} {p:Addr} {o:Obj} {xs:List V} (s:Same H H1) (hn:H p=none):Same H (upd H1 p (.frz o (.lst xs))):=fun b u e=>by
 rw [upd_ne (ne_of_none e hn)];exact s b u e
theorem de_l {l:Z.LF} (h:DL X e l):DE X e (Z.eL l):=by
 intro pins s σ H Q I w
 obtain ⟨ρ,d,r,e,k⟩:=w
 unfold Z.eL at e
 cases q:l ρ with
 | bad=>rw [q] at e;cases e
 | ok ds =>
  rw [q] at e;cases e
  refine thn (h pins s σ H (fun v H1=>∃ a vs,v=.ref a∧Same H H1∧H a=none∧H1 a=some (.lst vs)∧Dens X.K H1 ds vs) I ⟨ρ,ds,r,q,fun a vs H1 s1 hn h1 h2=>⟨a,vs,rfl,s1,hn,h1,h2⟩⟩) ?_
  rintro u s' ⟨v,H1,I1,rv,a,vs,rfl,s1,hn,h1,h2⟩
  obtain ⟨o,I2⟩:=inv_freeze I1 h1
  exact ⟨_,_,I2,rv,k _ _ (same_frz s1 hn) (den_lst (.inl ⟨o,upd_same⟩) (h2.ups (stb_lst h1)))⟩
def OpZ (K:PySem.W.Frag) (r:R2) (o:Z.D→Z.D→Z.Res Z.D):Prop:=∀ (x y:V) (dx dy d:Z.D) (H:Hp) (Q:VK),DenW K H dx x→DenW K H dy y→o dx dy=.ok d→(∀ v H',Same H H'→Den K H' d v→Q v H')→r x y H Q
theorem two {r:R2} {o:Z.D→Z.D→Z.Res Z.D} (hz:OpZ X.K r o):∀ σ H Q,tZ X.K (Z.eB o fa fb) σ H Q→tOp r (tZw X.K fa) (tZw X.K fb) σ H Q:=by
 rintro σ H Q ⟨ρ,d,re,e,k⟩
 obtain ⟨x,ea,e⟩:=Z.Res.bind_ok e
 obtain ⟨y,eb,e⟩:=Z.Res.bind_ok e
 exact ⟨ρ,x,re,ea,fun v H1 s1 d1=>⟨ρ,y,re.up s1,eb,fun u H2 s2 d2=>hz _ _ _ _ _ H2 Q (d1.up s2) d2 e fun w H' s3 dw=>k w H' ((s1.trans s2).trans s3) dw⟩⟩
theorem de_op {op:Operator} {r:R2} {o:Z.D→Z.D→Z.Res Z.D} (hr:OpR X (binaryOp op) r) (hz:OpZ X.K r o) (ha:DW X a fa) (hb:DW X b fb):DE X (.BinOp a op b pos) (Z.eB o fa fb) :=
 PE.imp (pe_op hr ha hb) (two hz)
theorem OpZ.or {K:PySem.W.Frag} {r r':R2} {o:Z.D→Z.D→Z.Res Z.D} (h:∀ (x y:V) (dx dy d:Z.D) (H:Hp) (Q:VK),DenW K H dx x→DenW K H dy y→o dx dy=.ok d→(∀ v H',Same H H'→Den K H' d v→Q v H')→r x y H Q∨r' x y H Q):OpZ K (fun x y H Q=>r x y H Q∨r' x y H Q) o:=h
theorem opz_int {K:PySem.W.Frag} {C:Int→Int→Prop} {g:Int→Int→Int} {o:Z.D→Z.D→Z.Res Z.D} (h:∀ dx dy d,o dx dy=.ok d→∃ i j,dx=.int i∧dy=.int j∧C i j∧d=.int (g i j)):OpZ K (rI C fun i j=>.int (g i j)) o:=by
 intro x y dx dy d H Q h1 h2 e k
 obtain ⟨i,j,rfl,rfl,hc,rfl⟩:=h _ _ _ e
 exact ⟨i,j,h1.int,h2.int,hc,k _ H (Same.refl H) den_int⟩
theorem opz_int0 {K:PySem.W.Frag} {g:Int→Int→V} {gd:Int→Int→Z.D} {o:Z.D→Z.D→Z.Res Z.D} (h:∀ dx dy d,o dx dy=.ok d→∃ i j,dx=.int i∧dy=.int j∧d=gd i j) (hg:∀ i j H,Den K H (gd i j) (g i j)):OpZ K (rI0 g) o:=by
 intro x y dx dy d H Q h1 h2 e k
 obtain ⟨i,j,rfl,rfl,rfl⟩:=h _ _ _ e
 exact ⟨i,j,h1.int,h2.int,k _ H (Same.refl H) (hg i j H)⟩
def CMulZ (i j:Int):Prop:=IntMulOk i j
theorem op_mulZ:OpR X (binaryOp .Mult) (rI CMulZ fun i j=>.int (i*j)):=opI fun _ _ _ _ _ _ _ hc q=>mul_int q hc
theorem bits_eq (i:Int):Z.bits i=Builtin.Int.intBits i:=by
 unfold Z.bits Builtin.Int.intBits
 by_cases h:i=0
 ·subst h;simp
 ·first
   | (simp [h];done)
   | (rw [if_neg h];simp [h];done)
theorem mulFits_ok {i j:Int} (h:Z.mulFits i j):IntMulOk i j:=by
 unfold Z.mulFits at h
 rcases h with h | h | ⟨h1,h2⟩
 ·exact IntMulOk.of_left (intBits_le_64 (by lia) (by lia))
 ·exact IntMulOk.of_right (intBits_le_64 (by lia) (by lia))
 ·rw [bits_eq] at h1 h2
  exact mulOk_of_bits h1 h2 (by decide)
theorem de_mul (ha:DW X a fa) (hb:DW X b fb):DE X (.BinOp a .Mult b pos) (Z.eB Z.oMul fa fb):=de_op op_mulZ (opz_int fun dx dy d e=>by
 unfold Z.oMul at e
 split at e
 ·unfold Z.guard at e
  split at e
  ·rename_i h;cases e;exact ⟨_,_,rfl,rfl,mulFits_ok h,rfl⟩
  ·cases e
 ·cases e) ha hb
def CDivZ (_ j:Int):Prop:=Z.divFits j
theorem divFits_ok {j:Int} (h:Z.divFits j):0 < j∧j.natAbs.log2 < 9000:=by
 have h0:=h.1
 have h1:=h.2
 have hn:j.natAbs≠0:=by lia
 have h2:j.natAbs < 2 ^ 250:=by
  have:(2:Nat) ^ 250=1809251394333065553493296640760748560207343510400633813116524750123642650624:=by decide
  lia
 have:=(Nat.log2_lt hn).mpr h2
 exact ⟨h0,by lia⟩
theorem op_divZ:OpR X (binaryOp .FloorDiv) (rI CDivZ fun i j=>.int (i / j)):=opI fun i j _ _ _ _ _ hc q=>by
 obtain ⟨h0,h1⟩:=divFits_ok hc
 have e:i.fdiv j=i / j:=Int.fdiv_eq_ediv_of_nonneg i (Int.le_of_lt h0)
 exact floordiv_int (Int.ne_of_gt h0) (by rw [e];exact q) (.inl (PyProof.noPylong_of_log2 h1))
theorem de_div (ha:DW X a fa) (hb:DW X b fb):DE X (.BinOp a .FloorDiv b pos) (Z.eB Z.oDiv fa fb):=de_op op_divZ (opz_int fun dx dy d e=>by
 unfold Z.oDiv at e
 split at e
 ·unfold Z.guard at e
  split at e
  ·rename_i h;cases e;exact ⟨_,_,rfl,rfl,h,rfl⟩
  ·cases e
 ·cases e) ha hb
theorem de_mod (ha:DW X a fa) (hb:DW X b fb):DE X (.BinOp a .Mod b pos) (Z.eB Z.oMod fa fb):=de_op op_mod (opz_int fun dx dy d e=>by
 unfold Z.oMod at e
 split at e
 ·unfold Z.guard at e
  split at e
  ·rename_i h;cases e;exact ⟨_,_,rfl,rfl,h,rfl⟩
  ·cases e
 ·cases e) ha hb
def rCatZ (K:PySem.W.Frag):R2:=fun x y H Q=>∃ a b xs ys,x=.ref a∧y=.ref b∧SqT K H a xs∧SqT K H b ys∧xs.length+ys.length≤sizeLine ∧
 (xs=[]→Q (.ref b) H)∧(ys=[]→Q (.ref a) H)∧(∀ p,H p=none→Q (.ref p) (upd H p (.tup (xs++ys))))
theorem op_catZ:OpR X (binaryOp .Add) (rCatZ X.K):=by
 intro pins s σ H x y v u Q I rx ry h
 obtain ⟨p,q,xs,ys,rfl,rfl,hp,hq,hz,q0,q1,q2⟩:=h
 by_cases hx:xs=[]
 ·cases rx
  cases ry
  obtain ⟨its,r1,ht,_⟩:=I.tuple hp
  obtain ⟨its2,r2,hb,_⟩:=I.tuple hq
  obtain ⟨⟨cls,dd,data,sl⟩,ho,hc,n,hd⟩:=id ht
  obtain ⟨⟨cls2,dd2,data2,sl2⟩,ho2,hc2,n2,hd2⟩:=id hb
  simp only at hc hd hc2 hd2
  subst hc hd hc2 hd2
  have e0:its=[]:=r1.nil_iff.mpr hx
  exact concat_meets ⟨_,ho,rfl⟩ ⟨_,ho2,rfl⟩ noFill_tuple_add seq_tuple_add PySem.F.slot_tuple_add PySem.F.entry_tuple_add (PySem.F.args_tuple_add_2 _ _)
   (tuple_addW0 p q its.toArray its2.toArray n n2 dd dd2 sl sl2 (by simp [e0])) ⟨ho,ho2,⟨.ref q,H,I,rfl,q0 hx⟩⟩
 ·exact op_catT pins s σ H _ _ v u Q I rx ry ⟨p,q,xs,ys,rfl,rfl,hp,hq,hx,hz,q1,fun _=>q2⟩
theorem str_app (a b:List Nat):(⟨a.toArray⟩:Str)++(⟨b.toArray⟩:Str)=⟨(a++b).toArray⟩:=by
 show (⟨a.toArray++b.toArray⟩:Str)=_
 simp
theorem de_add (ha : DW X a fa) (hb : DW X b fb) : DE X (.BinOp a .Add b pos) (Z.eB Z.oAdd fa fb) := de_op (op_add.or (op_add_str.or op_catZ)) (fun x y dx dy d H Q h1 h2 e k => by
 unfold Z.oAdd at e
 split at e
 ·cases e
  exact .inl ⟨_,_,h1.int,h2.int,k _ H (Same.refl H) den_int⟩
 ·unfold Z.guard at e
  split at e
  ·rename_i as bs h;cases e
   refine .inr (.inl ⟨_,_,h1.str,h2.str,?_,?_⟩)
   ·show as.toArray.size+bs.toArray.size≤sizeLine
    rw [sizeLine_eq];simpa using h
   ·rw [str_app];exact k _ H (Same.refl H) den_str
  ·cases e
 ·unfold Z.guard at e
  split at e
  ·rename_i as bs h;cases e
   obtain ⟨p,xs,rfl,hp,t1⟩:=h1.tup
   obtain ⟨q,ys,rfl,hq,t2⟩:=h2.tup
   refine .inr (.inr ⟨p,q,xs,ys,rfl,rfl,hp,hq,?_,?_,?_,?_⟩)
   ·rw [t1.length,t2.length,sizeLine_eq];exact h
   ·rintro rfl
    have:as=[]:=List.eq_nil_of_length_eq_zero (by rw [←t1.length];rfl)
    subst this
    exact k _ H (Same.refl H) (den_tup hq t2)
   ·rintro rfl
    have:bs=[]:=List.eq_nil_of_length_eq_zero (by rw [←t2.length];rfl)
    subst this
    rw [List.append_nil] at k
    exact k _ H (Same.refl H) (den_tup hp t1)
   ·intro z hn
    have s1:Same H (upd H z (.tup (xs++ys))):=upd_Same hn
    exact k _ _ s1 (den_tup (.inl (.inl upd_same)) ((t1.append t2).up s1))
  ·cases e
 ·cases e) ha hb
end
end ZS
namespace ZS
section
open PySem Builtin Builtin.Str
theorem len_toArray (t:List Nat):(⟨t.toArray⟩:Str).length=t.length:=by simp [Str.length]
theorem clipS (n d:Nat) (i:Int):max 0 (min (if i < 0 then i+(n:Int) else i) (n:Int))=((Z.sIx n d (some i):Nat):Int):=by
 show max 0 (min (if i < 0 then i+(n:Int) else i) (n:Int))=(((if i < 0 then (i+(n:Int)).toNat else min i.toNat n):Nat):Int)
 by_cases h:i < 0
 ·simp only [if_pos h];lia
 ·simp only [if_neg h];lia
theorem slR (a b:Nat):sliceRange (a:Int) (b:Int) 1=(List.range (b-a)).map (fun k=>a+k):=by
 unfold sliceRange
 simp only [show (1:Int) > 0 by decide,if_true]
 have e:(if (a:Int) < (b:Int) then ((b:Int)-(a:Int)+1-1) / 1 else 0).toNat=b-a:=by
  split
  ·rw [Int.ediv_one];lia
  ·lia
 rw [e]
 apply List.map_congr_left
 intro k _
 lia
theorem idxs (lo hi:Option Int) (n:Nat):strSliceIndices lo hi 1 n=(List.range (Z.sIx n n hi-Z.sIx n 0 lo)).map (fun k=>Z.sIx n 0 lo+k):=by
 unfold strSliceIndices
 simp only [show (1:Int) > 0 by decide,if_true]
 rw [←slR]
 cases lo with
 | none =>
  cases hi with
  | none=>rfl
  | some j=>simp only [clipS n n j];rfl
 | some i =>
  cases hi with
  | none=>simp only [clipS n 0 i];rfl
  | some j=>simp only [clipS n 0 i,clipS n n j]
theorem sIx_le (n d:Nat) (hd:d≤n) (o:Option Int):Z.sIx n d o≤n:=by
 cases o with
 | none=>exact hd
 | some v =>
  show (if v < 0 then (v+(n:Int)).toNat else min v.toNat n)≤n
  split<;>lia
theorem pick (cs:List Nat):∀ (k a:Nat),a+k≤cs.length→((List.range k).map (fun j=>a+j)).filterMap (fun i=>cs.toArray[i]?)=(cs.drop a).take k:=by
 intro k
 induction k with
 | zero=>intro a _;simp
 | succ k ih =>
  intro a h
  rw [List.range_succ,List.map_append,List.filterMap_append,ih a (by lia)]
  have hlt:a+k < cs.length:=by lia
  rw [List.take_succ]
  simp [hlt]
theorem strSl (cs:List Nat) (lo hi:Option Int):Txt.slice ⟨cs.toArray⟩ lo hi=⟨(Z.cut cs lo hi).toArray⟩:=by
 unfold Txt.slice
 rw [len_toArray,idxs]
 have h1:=sIx_le cs.length cs.length (Nat.le_refl _) hi
 have h0:=sIx_le cs.length 0 (Nat.zero_le _) lo
 have hp:((List.range (Z.sIx cs.length cs.length hi-Z.sIx cs.length 0 lo)).map (fun k=>Z.sIx cs.length 0 lo+k)).filterMap (fun i=>cs.toArray[i]?)=Z.cut cs lo hi:=by
  unfold Z.cut
  exact pick cs _ _ (by lia)
 split
 ·rename_i hh
  have hlen:(List.range (Z.sIx cs.length cs.length hi-Z.sIx cs.length 0 lo)).length=cs.length:=by
   simp only [beq_self_eq_true,Bool.true_and,beq_iff_eq,List.length_map] at hh
   exact hh
  rw [List.length_range] at hlen
  unfold Z.cut
  have e0:Z.sIx cs.length 0 lo=0:=by lia
  have e1:Z.sIx cs.length cs.length hi-Z.sIx cs.length 0 lo=cs.length:=by lia
  rw [e1,e0]
  simp
 ·rw [hp]
end
open PySem PySem.Spec PyProof.Rows L2
section
variable {X:Cx} {e a b c:Expr} {es:List Expr} {pos p:Pos} {f fa fb fc:Z.EF}
theorem de_cmp {op:CmpOp} {r:R2} {o:Z.D→Z.D→Z.Res Z.D} (hr:OpR X (compareOp op) r) (hz:OpZ X.K r o) (ha:DW X a fa) (hb:DW X b fb) (hm:behindInMarks op b=false):DE X (.Compare a [op] [b] pos) (Z.eB o fa fb) :=
 PE.imp (pe_cmpR hr ha hb hm) (two hz)
theorem dt_of {t:TE} (h:PT X e (tTest t)) (k:∀ σ H Q,tZ X.K f σ H Q→t σ H Q):DT X e (Z.tE f):=PT.imp h fun σ H Q ⟨ρ,b,r,e,q⟩=>by
 obtain ⟨x,ea,e⟩:=Z.Res.bind_ok e
 refine k σ H _ ⟨ρ,x,r,ea,fun v H' s d=>?_⟩
 split at e
 ·cases e
  simp only [Den] at d
  exact ⟨_,d,q H' s⟩
 ·cases e
theorem dt_cmp {op:CmpOp} {r:R2} {o:Z.D→Z.D→Z.Res Z.D} (hr:OpR X (compareOp op) r) (hz:OpZ X.K r o) (ha:DW X a fa) (hb:DW X b fb) (hm:behindInMarks op b=false):DT X (.Compare a [op] [b] pos) (Z.tE (Z.eB o fa fb)) :=
 dt_of (pt_cmpR hr ha hb hm) (two hz)
structure Cmp (X:Cx) (op:CmpOp) (o:Z.D→Z.D→Z.Res Z.D):Prop where
 ex:∃ r,OpR X (compareOp op) r∧OpZ X.K r o
theorem de_cmpC {op:CmpOp} {o:Z.D→Z.D→Z.Res Z.D} (h:Cmp X op o) (ha:DW X a fa) (hb:DW X b fb) (hm:behindInMarks op b=false):DE X (.Compare a [op] [b] pos) (Z.eB o fa fb) :=
 let ⟨_,hr,hz⟩:=h.ex;de_cmp hr hz ha hb hm
theorem dt_cmpC {op:CmpOp} {o:Z.D→Z.D→Z.Res Z.D} (h:Cmp X op o) (ha:DW X a fa) (hb:DW X b fb) (hm:behindInMarks op b=false):DT X (.Compare a [op] [b] pos) (Z.tE (Z.eB o fa fb)) :=
 let ⟨_,hr,hz⟩:=h.ex;dt_cmp hr hz ha hb hm
theorem chain_imp {r r':R2} {o o':Z.D→Z.D→Z.Res Z.D} (hz:OpZ X.K r o) (hz':OpZ X.K r' o'):∀ σ H Q,tZ X.K (Z.eChain o o' fa fb fc) σ H Q→tChain r r' (tZw X.K fa) (tZw X.K fb) (tZw X.K fc) σ H Q:=by
 rintro σ H Q ⟨ρ,d,re,e,k⟩
 obtain ⟨x,ea,e⟩:=Z.Res.bind_ok e
 obtain ⟨y,eb,e⟩:=Z.Res.bind_ok e
 obtain ⟨z,eo,e⟩:=Z.Res.bind_ok e
 refine ⟨ρ,x,re,ea,fun v H1 s1 d1=>⟨ρ,y,re.up s1,eb,fun u H2 s2 d2=>hz _ _ _ _ _ H2 _ (d1.up s2) d2 eo fun w H3 s3 dw=>?_⟩⟩
 have s13:Same H H3:=(s1.trans s2).trans s3
 split at e
 ·rename_i q
  simp only [Den] at dw
  refine ⟨_,dw,?_⟩
  cases q with
  | true =>
   simp only [if_true] at e ⊢
   obtain ⟨t,ec,e⟩:=Z.Res.bind_ok e
   exact ⟨ρ,t,re.up s13,ec,fun v' H4 s4 d4=>hz' _ _ _ _ _ H4 Q ((d2.up s3).up s4) d4 e fun w' H5 s5 dw'=>k w' H5 ((s13.trans s4).trans s5) dw'⟩
  | false =>
   simp only [Bool.false_eq_true,if_false] at e ⊢
   cases e
   exact k _ H3 s13 den_bl
 ·cases e
theorem de_chain {op op':CmpOp} {o o':Z.D→Z.D→Z.Res Z.D} (h:Cmp X op o) (h':Cmp X op' o') (ha:DW X a fa) (hb:DW X b fb) (hc:DW X c fc)
  (hm:lastMarks [op,op'] [b,c]=false:=by with_unfolding_all rfl):DE X (.Compare a [op,op'] [b,c] pos) (Z.eChain o o' fa fb fc) :=
 let ⟨_,hr,hz⟩:=h.ex;let ⟨_,hr',hz'⟩:=h'.ex;PE.imp (pe_chain hr hr' ha hb hc hm) (chain_imp hz hz')
theorem dt_chain {op op':CmpOp} {o o':Z.D→Z.D→Z.Res Z.D} (h:Cmp X op o) (h':Cmp X op' o') (ha:DW X a fa) (hb:DW X b fb) (hc:DW X c fc)
  (hm:lastMarks [op,op'] [b,c]=false:=by with_unfolding_all rfl):DT X (.Compare a [op,op'] [b,c] pos) (Z.tE (Z.eChain o o' fa fb fc)) :=
 let ⟨_,hr,hz⟩:=h.ex;let ⟨_,hr',hz'⟩:=h'.ex;dt_of (pt_chain hr hr' ha hb hc hm) (chain_imp hz hz')
theorem c_lt:Cmp X .Lt Z.oLt:=⟨_,op_lt,opz_int0 (gd:=fun i j=>.bl (decide (i < j))) (fun dx dy d e=>by
 unfold Z.oLt at e;split at e
 ·cases e;exact ⟨_,_,rfl,rfl,rfl⟩
 ·cases e) fun _ _ _=>den_bl⟩
theorem op_le_str:OpR X (compareOp .LtE) (fun x y H Q=>∃ i j,x=.str i∧y=.str j∧Q (.bl (!decide (j.cps.toList < i.cps.toList))) H):=by
 intro pins s σ H x y v u Q I rx ry h
 obtain ⟨i,j,rfl,rfl,q⟩:=h
 obtain ⟨t,rfl⟩:=rx
 obtain ⟨t',rfl⟩:=ry
 exact PySem.P.le_str (fin_bl I q rfl)
theorem ltC_eq:∀ (a b:List Nat),Z.ltC a b=decide (a < b)
 | [],[]=>by simp [Z.ltC]
 | [],_ :: _=>by simp [Z.ltC]
 | _ :: _,[]=>by simp [Z.ltC]
 | a :: as,b :: bs=>by
  unfold Z.ltC
  rw [ltC_eq as bs]
  by_cases h:a < b
  ·simp [h,List.cons_lt_cons_iff]
  ·by_cases h2:a=b
   ·subst h2;simp [List.cons_lt_cons_iff]
   ·simp [h,h2,List.cons_lt_cons_iff]
theorem c_le:Cmp X .LtE Z.oLe:=⟨_,op_le.or op_le_str,fun x y dx dy d H Q h1 h2 e k=>by
 unfold Z.oLe at e
 split at e
 ·cases e;exact .inl ⟨_,_,h1.int,h2.int,k _ H (Same.refl H) den_bl⟩
 ·cases e
  refine .inr ⟨_,_,h1.str,h2.str,?_⟩
  rename_i as bs
  have q:=k (.bl (!Z.ltC bs as)) H (Same.refl H) den_bl
  rw [ltC_eq] at q
  exact q
 ·cases e⟩
def isNon:Z.D→Bool
 | .non=>true
 | _=>false
theorem non_of {K:PySem.W.Frag} {H:Hp} {d:Z.D} {v:V} (h:DenW K H d v):decide (v=.non)=isNon d:=by
 cases d with
 | non=>rw [h.non];rfl
 | bl b=>rw [h.bl];rfl
 | int i=>rw [h.int];rfl
 | str cs=>rw [h.str];rfl
 | tup ds=>obtain ⟨a,vs,rfl,_⟩:=h.tup;rfl
 | lst ds=>obtain ⟨a,vs,rfl,_⟩:=h.lst;rfl
 | dct ks ds=>obtain ⟨a,o,kvs,rfl,_⟩:=h.dct;rfl
theorem notN_imp:∀ σ H Q,tZ X.K (Z.eU Z.oNotN fa) σ H Q→tOp (fun x y H Q=>y=.non∧Q (.bl (!decide (x=.non))) H) (tZw X.K fa) (tC .non) σ H Q:=by
 rintro σ H Q ⟨ρ,d,r,e,k⟩
 obtain ⟨x,ea,e⟩:=Z.Res.bind_ok e
 refine ⟨ρ,x,r,ea,fun v H1 s1 d1=>⟨rfl,?_⟩⟩
 rw [non_of d1]
 cases x<;>(cases e;exact k _ H1 s1 den_bl)
theorem dt_notN {j pos'} (ha:DW X a fa):DT X (.Compare a [.IsNot] [.Constant .none j pos'] pos) (Z.tE (Z.eU Z.oNotN fa)):=dt_of (pt_cmpR op_notN ha pe_non (nomark _)) notN_imp
theorem de_one {op} (h:DE X a fa):DE X (.BoolOp op [a] pos) fa:=pe_one h
theorem de_and {rest:List Expr} (ha:DE X a fa) (hb:DE X (.BoolOp .And (b :: rest) pos) fb):DE X (.BoolOp .And (a :: b :: rest) pos) (Z.eAnd fa fb):=PE.imp (pe_and ha hb) fun σ H Q ⟨ρ,d,r,e,k⟩=>by
 obtain ⟨x,ea,e⟩:=Z.Res.bind_ok e
 refine ⟨ρ,x,r,ea,fun v H1 s1 d1=>?_⟩
 split at e
 ·rename_i q
  simp only [Den] at d1
  refine ⟨q,d1,?_⟩
  cases q with
  | true =>
   simp only [if_true] at e ⊢
   exact ⟨ρ,d,r.up s1,e,fun w H' s2 dw=>k w H' (s1.trans s2) dw⟩
  | false =>
   simp only [Bool.false_eq_true,if_false] at e ⊢
   cases e
   exact k _ H1 s1 den_bl
 ·cases e
theorem de_or {rest:List Expr} (ha:DE X a fa) (hb:DE X (.BoolOp .Or (b :: rest) pos) fb):DE X (.BoolOp .Or (a :: b :: rest) pos) (Z.eOr fa fb):=PE.imp (pe_or ha hb) fun σ H Q ⟨ρ,d,r,e,k⟩=>by
 obtain ⟨x,ea,e⟩:=Z.Res.bind_ok e
 refine ⟨ρ,x,r,ea,fun v H1 s1 d1=>?_⟩
 split at e
 ·rename_i q
  simp only [Den] at d1
  refine ⟨q,d1,?_⟩
  cases q with
  | false =>
   simp only [Bool.false_eq_true,if_false] at e ⊢
   exact ⟨ρ,d,r.up s1,e,fun w H' s2 dw=>k w H' (s1.trans s2) dw⟩
  | true =>
   simp only [if_true] at e ⊢
   cases e
   exact k _ H1 s1 den_bl
 ·cases e
theorem de_not (ha:DE X a fa):DE X (.UnaryOp .Not a pos) (Z.eNot fa):=PE.imp (pe_not ha) fun σ H Q ⟨ρ,d,r,e,k⟩=>by
 obtain ⟨x,ea,e⟩:=Z.Res.bind_ok e
 refine ⟨ρ,x,r,ea,fun v H1 s1 d1=>?_⟩
 split at e
 ·simp only [Den] at d1
  cases e
  exact ⟨_,d1,k _ H1 s1 den_bl⟩
 ·cases e
theorem tb_imp:∀ σ H (Q:Bool→Hp→Prop),tZt X.K (Z.tE f) σ H Q→tB (tZ X.K f) σ H Q:=by
 rintro σ H Q ⟨ρ,b,r,e,q⟩
 obtain ⟨x,ea,e⟩:=Z.Res.bind_ok e
 refine ⟨ρ,x,r,ea,fun v H' s d=>?_⟩
 split at e
 ·cases e
  simp only [Den] at d
  exact ⟨_,d,q H' s⟩
 ·cases e
theorem dt_e (h:DE X e f) (he:∀ whole,isTrue e X.env whole=(do let v ←whole;standAt e.pos;holding [v] (truthy v)):=by intro _;rfl):DT X e (Z.tE f):=PT.imp (pt_val h he) tb_imp
theorem dt_not {t:Z.TF} (h:DT X a t):DT X (.UnaryOp .Not a pos) (Z.tNot t):=PT.imp (pt_not h) fun σ H Q ⟨ρ,b,r,e,q⟩=>by
 obtain ⟨x,ea,e⟩:=Z.Res.bind_ok e
 cases e
 exact ⟨ρ,x,r,ea,fun H' s=>q H' s⟩
theorem dt_and1 {t:Z.TF} (h:DT X a t):DTW X (.BoolOp .And [a] pos) t:=pw_and1 h
theorem dt_or1 {t:Z.TF} (h:DT X a t):DTW X (.BoolOp .Or [a] pos) t:=pw_or1 h
theorem dt_and {t u:Z.TF} {rest:List Expr} (ha:DT X a t) (hb:DTW X (.BoolOp .And (b :: rest) pos) u):DTW X (.BoolOp .And (a :: b :: rest) pos) (Z.tAnd t u):=PW.imp (pw_and ha hb) fun σ H Q ⟨ρ,d,r,e,k⟩=>by
 obtain ⟨x,ea,e⟩:=Z.Res.bind_ok e
 refine ⟨ρ,x,r,ea,fun H1 s1=>?_⟩
 cases x with
 | true =>
  simp only [if_true] at e ⊢
  exact ⟨ρ,d,r.up s1,e,fun H' s2=>k H' (s1.trans s2)⟩
 | false =>
  simp only [Bool.false_eq_true,if_false] at e ⊢
  cases e
  exact k H1 s1
theorem dt_or {t u:Z.TF} {rest:List Expr} (ha:DT X a t) (hb:DTW X (.BoolOp .Or (b :: rest) pos) u):DTW X (.BoolOp .Or (a :: b :: rest) pos) (Z.tOr t u):=PW.imp (pw_or ha hb) fun σ H Q ⟨ρ,d,r,e,k⟩=>by
 obtain ⟨x,ea,e⟩:=Z.Res.bind_ok e
 refine ⟨ρ,x,r,ea,fun H1 s1=>?_⟩
 cases x with
 | false =>
  simp only [Bool.false_eq_true,if_false] at e ⊢
  exact ⟨ρ,d,r.up s1,e,fun H' s2=>k H' (s1.trans s2)⟩
 | true =>
  simp only [if_true] at e ⊢
  cases e
  exact k H1 s1
theorem dtw {t:Z.TF} (h:DTW X e t):DT X e t:=h.pt
theorem da_nil:DA X [] Z.aNil:=PA.imp pa_nil fun σ H Q ⟨ρ,ds,r,e,k⟩=>by
 cases e
 exact k [] H (Same.refl H) Dens.nil
theorem da_cons {g:Z.AF} (ha:DE X e f) (hr:DA X es g) (hs:starEach (e :: es) X.env=(false,eval e X.env) :: starEach es X.env:=by rfl):DA X (e :: es) (Z.aCons f g):=PA.imp (pa_cons ha hr hs) fun σ H Q ⟨ρ,ds,r,e,k⟩=>by
 obtain ⟨x,ea,e⟩:=Z.Res.bind_ok e
 obtain ⟨xs,eb,e⟩:=Z.Res.bind_ok e
 cases e
 exact ⟨ρ,x,r,ea,fun v H1 s1 d1=>⟨ρ,xs,r.up s1,eb,fun vs H2 s2 d2=>k _ H2 (s1.trans s2) (Dens.cons (d1.up s2) d2)⟩⟩
theorem de_tup {x1} {g:Z.AF} (h:DA X es g):DE X (.Tuple es x1 pos) (Z.eTup g):=PE.imp (pe_tup h) fun σ H Q ⟨ρ,d,r,e,k⟩=>by
 obtain ⟨xs,ea,e⟩:=Z.Res.bind_ok e
 unfold Z.guard at e
 split at e
 ·rename_i hl
  cases e
  refine ⟨ρ,xs,r,ea,fun vs H1 s1 d1=>⟨by rw [d1.length,sizeLine_eq];exact hl,fun q hq=>?_⟩⟩
  have s2:Same H1 (upd H1 q (.tup vs)):=upd_Same hq
  exact k _ _ (s1.trans s2) (den_tup (.inl (.inl upd_same)) (d1.up s2))
 ·cases e
theorem dl_disp {g:Z.AF} (h:DA X es g):DL X (.List es pos) (Z.lDisp g):=PE.imp (pe_lst h) fun σ H Q ⟨ρ,d,r,e,k⟩=>by
 obtain ⟨xs,ea,e⟩:=Z.Res.bind_ok e
 unfold Z.guard at e
 split at e
 ·rename_i hl
  cases e
  refine ⟨ρ,_,r,ea,fun vs H1 s1 d1=>⟨by rw [d1.length,sizeLine_eq];exact hl,fun q hq=>?_⟩⟩
  have s2:Same H1 (upd H1 q (.lst vs)):=upd_Same hq
  exact k q vs _ (s1.trans s2) (s1.free hq) upd_same (d1.up s2)
 ·cases e
end
end ZS
namespace ZS
open PySem PySem.Spec PyProof.Rows L2
def tyC:Z.Ty→String
 | .bool => "bool" | .int => "int" | .str => "str" | .tuple => "tuple" | .list => "list" | .dict => "dict"
def tyD:Z.D→String
 | .non => "NoneType" | .bl _ => "bool" | .int _ => "int" | .str _ => "str" | .tup _ => "tuple" | .lst _ => "list" | .dct _ _ => "dict"
theorem kit_tab (K:PySem.W.Frag) (t:Z.Ty) (d:Z.D):PySem.W.kitOne K (.type (tyD d)) (.type (tyC t))=some (Z.isTy t d):=by
 cases t<;>cases d<;>kernel_rfl
section
variable {X:Cx} {e a b c:Expr} {es:List Expr} {pos p:Pos} {f fa fb fc:Z.EF}
theorem isinst_Z {pins:List (Addr×Obj)} {σ:St} {H:Hp} {s:Shared} {A:Around} {E:Value→Shared→Prop} {Q:Value→Shared→Prop} {d:Z.D} {v:V} {u:Value} (t:Z.Ty) (I:Inv X pins σ H s) (hd:DenW X.K H d v) (r:RelV v u)
  (h:∀ tk,Q (.bool (Z.isTy t d)) { s with toks:=tk }):wpAny (model X.prog X.w) A (call (.builtin "isinstance") [u,.type (tyC t)]) Q E s:=by
 have e:=kit_tab X.K t d
 cases d with
 | non=>rw [hd.non] at r;cases (show u=Value.none from r);exact PySem.W.kia_one PySem.W.kitx_none I.kIn True.intro e (fun z=>nomatch z) h
 | bl y=>rw [hd.bl] at r;cases (show u=Value.bool y from r);exact PySem.W.kia_one PySem.W.kitx_bool I.kIn True.intro e (fun z=>nomatch z) h
 | int i=>rw [hd.int] at r;obtain ⟨t',q⟩:=(show ∃ t,u=Value.int i t from r);cases q;exact PySem.W.kia_one PySem.W.kitx_int I.kIn True.intro e (fun z=>nomatch z) h
 | str cs=>rw [hd.str] at r;obtain ⟨t',q⟩:=(show ∃ t,u=Value.str ⟨cs.toArray⟩ t from r);cases q;exact PySem.W.kia_one PySem.W.kitx_str I.kIn True.intro e (fun z=>nomatch z) h
 | tup ds =>
  obtain ⟨a,vs,rfl,hq,_⟩:=hd.tup
  cases (show u=Value.ref a from r)
  obtain ⟨its,_,⟨o,h1,h2,_⟩,_⟩:=I.tuple hq
  exact PySem.W.kia_one PySem.W.kitx_tuple I.kIn ⟨o,h1,h2⟩ e (fun z=>nomatch z) h
 | lst ds =>
  obtain ⟨a,vs,rfl,hq,_⟩:=hd.lst
  cases (show u=Value.ref a from r)
  obtain ⟨its,_,⟨o,n,h1,h2,_⟩,_⟩:=I.list hq
  exact PySem.W.kia_one PySem.W.kitx_list I.kIn ⟨o,h1,h2⟩ e (fun z=>nomatch z) h
 | dct ks ds =>
  obtain ⟨a,o,kvs,rfl,hq,_⟩:=hd.dct
  cases (show u=Value.ref a from r)
  obtain ⟨_,_,_,_,_,o',es,ep,h1,h2,_⟩:=(show ObjOk X.prog X.w H s.heap a (.frz o (.dK kvs)) from I.hok a _ hq)
  exact PySem.W.kia_one PySem.W.kitx_dict I.kIn ⟨o',h1,h2.1⟩ e (fun z=>nomatch z) h
theorem de_isinst (t:Z.Ty) {x y:Str} {p1 p2:Pos} (hg:Gl X x) (hm:X.mg x=none) (hv:bootBuiltins x=some (.builtin "isinstance")) (hg2:Gl X y) (hm2:X.mg y=none) (hv2:bootBuiltins y=some (.type (tyC t))) (ha:DW X a fa)
  (hn:x ≠ "__name__" := by decide +kernel) (hdb:(x==("__debug__" : Str))=false:=by decide +kernel) (hn2:y ≠ "__name__" := by decide +kernel) (hdb2:(y==("__debug__" : Str))=false:=by decide +kernel)
  (he:starEach (a :: [.Name y p2]) X.env=(false,eval a X.env) :: starEach [.Name y p2] X.env:=by rfl) (hpl:(backTo pos (starEach [.Name y p2] X.env)).any (·.1)=false:=by rfl) (he2:starEach ((.Name y p2) :: []) X.env=(false,eval (.Name y p2) X.env) :: starEach [] X.env:=by rfl) :
  DE X (.Call (.Name x p1) [a,.Name y p2] [] pos) (Z.eU (Z.oIsTy t) fa):=by
 have hc:CallR X (.builtin "isinstance") (fun xs H Q=>∃ v d,xs=[v,.ty (tyC t)]∧DenW X.K H d v∧Q (.bl (Z.isTy t d)) H):=by
  intro pins s σ H xs us Q I r h
  obtain ⟨v,d,rfl,hd,q⟩:=h
  obtain ⟨u,w',rfl,r1,r2⟩:=vals2 r
  cases (show w'=Value.type (tyC t) from r2)
  exact isinst_Z t I hd r1 fun tk=>⟨.bl _,H,I.tok _,rfl,q⟩
 refine PE.imp (pe_callB hc hg hm hv (pa_cons ha (pa_cons (pe_bltn (v:=.ty (tyC t)) hg2 hm2 hv2 rfl hn2 hdb2) pa_nil he2) he) hn hdb he hpl) fun σ H Q ⟨ρ,d,r,e,k⟩=>?_
 obtain ⟨x,ea,e⟩:=Z.Res.bind_ok e
 cases e
 exact ⟨ρ,x,r,ea,fun v H1 s1 d1=>⟨v,x,rfl,d1,k _ H1 s1 den_bl⟩⟩
theorem de_len {x : Str} {p1 : Pos} (hg : Gl X x) (hm : X.mg x = none) (hv : bootBuiltins x = some (.builtin "len")) (ha : DW X a fa) (hn : x ≠ "__name__" := by decide +kernel) (hdb : (x == ("__debug__" : Str)) = false := by decide +kernel)
  (he:starEach (a :: []) X.env=(false,eval a X.env) :: starEach [] X.env:=by rfl) (hpl:(backTo pos (starEach [] X.env)).any (·.1)=false:=by rfl):DE X (.Call (.Name x p1) [a] [] pos) (Z.eU Z.oLen fa) :=
 PE.imp (pe_callB call_len hg hm hv (pa_cons ha pa_nil he) hn hdb he hpl) fun σ H Q ⟨ρ,d,r,e,k⟩=>by
  obtain ⟨x,ea,e⟩:=Z.Res.bind_ok e
  refine ⟨ρ,x,r,ea,fun v H1 s1 d1=>?_⟩
  unfold Z.oLen at e
  split at e
  ·unfold Z.guard at e
   split at e
   ·rename_i cs hl
    cases e
    rw [d1.str]
    refine ⟨_,cs.length,rfl,⟨?_,?_⟩,k _ H1 s1 den_int⟩
    ·show cs.toArray.size≤sizeLine
     rw [sizeLine_eq];simpa using hl
    ·show cs.length=cs.toArray.size
     simp
   ·cases e
  ·cases e
   obtain ⟨q,vs,rfl,hq,t⟩:=d1.tup
   refine ⟨_,_,rfl,.inr ⟨vs,hq,rfl⟩,?_⟩
   rw [t.length]
   exact k _ H1 s1 den_int
  ·cases e
   obtain ⟨q,vs,rfl,hq,t⟩:=d1.lst
   refine ⟨_,_,rfl,.inl ⟨vs,hq,rfl⟩,?_⟩
   rw [t.length]
   exact k _ H1 s1 den_int
  ·cases e
theorem ixZ_eq (n:Nat) (i:Int):Z.ixZ n i=ixN n i:=rfl
theorem atZ {K:PySem.W.Frag} {H:Hp} {ds:List Z.D} {vs:List V} {i:Int} {d:Z.D} (t:Dens K H ds vs) (h:((Z.ixZ ds.length i).bind fun j=>ds[j]?)=some d):∃ v,atI vs i=some v∧Den K H d v:=by
 unfold atI
 rw [t.length,←ixZ_eq]
 cases q:Z.ixZ ds.length i with
 | none=>rw [q] at h;cases h
 | some j =>
  rw [q] at h
  exact t.get h
theorem de_ix (ha : DW X a fa) (hb : DW X b fb) (hs : PlainIx b := by intro _ _; rfl) : DE X (.Subscript a b pos) (Z.eB Z.oIx fa fb) := PE.imp (pe_ix ix_seq ha hb hs) (two fun x y dx dy d H Q h1 h2 e k => by
 unfold Z.oIx at e
 split at e
 ·obtain ⟨q,vs,rfl,hq,t⟩:=h1.tup
  split at e
  ·rename_i v hv
   cases e
   obtain ⟨w,e1,dw⟩:=atZ t hv
   exact .inr (.inl ⟨q,vs,_,w,rfl,h2.int,hq,e1,k w H (Same.refl H) dw⟩)
  ·cases e
 ·obtain ⟨q,vs,rfl,hq,t⟩:=h1.lst
  split at e
  ·rename_i v hv
   cases e
   obtain ⟨w,e1,dw⟩:=atZ t hv
   exact .inl ⟨q,vs,_,w,rfl,h2.int,hq,e1,k w H (Same.refl H) dw⟩
  ·cases e
 ·unfold Z.guard at e
  split at e
  ·rename_i cs i hl
   split at e
   ·rename_i c hc
    cases e
    refine .inr (.inr ⟨_,_,c,h1.str,h2.int,?_,?_,?_⟩)
    ·show cs.toArray.size≤sizeLine
     rw [sizeLine_eq];simpa using hl
    ·exact hc
    ·exact k _ H (Same.refl H) (den_str (cs:=[c]))
   ·cases e
  ·cases e
 ·cases e)
theorem dp_no:DP X none Z.pNo:=PO.imp po_none fun σ H Q ⟨ρ,o,r,e,k⟩=>by
 cases e
 exact k H (Same.refl H)
theorem dp_at (h:DW X e f):DP X (some e) (Z.pAt f):=PO.imp (po_some h) fun σ H Q ⟨ρ,o,r,e,k⟩=>by
 obtain ⟨x,ea,e⟩:=Z.Res.bind_ok e
 refine ⟨ρ,x,r,ea,fun v H1 s1 d1=>?_⟩
 split at e
 ·cases e
  exact ⟨_,d1.int,k H1 s1⟩
 ·cases e
theorem sIx_eq (n d:Nat) (o:Option Int):Z.sIx n d o=HT.sIx n d o:=by cases o<;>rfl
theorem cut_eq {ds:List Z.D} {vs:List V} {K:PySem.W.Frag} {H:Hp} (t:Dens K H ds vs) (lo hi:Option Int):Dens K H (Z.cut ds lo hi) (cutV vs lo hi):=by
 unfold Z.cut cutV
 rw [sIx_eq,sIx_eq,t.length]
 exact (t.drop _).take _
theorem cut_whole {α:Type} {xs:List α} {lo hi:Option Int} (h1:HT.sIx xs.length 0 lo=0) (h2:HT.sIx xs.length xs.length hi=xs.length):Z.cut xs lo hi=xs:=by
 unfold Z.cut
 rw [sIx_eq,sIx_eq,h1,h2]
 simp
def rSlZ (K:PySem.W.Frag):V→Option Int→Option Int→Hp→VK→Prop:=fun x lo hi H Q=>∃ a xs,x=.ref a∧SqT K H a xs∧(cutV xs lo hi=xs→Q (.ref a) H)∧∀ p,H p=none→Q (.ref p) (upd H p (.tup (cutV xs lo hi)))
theorem getItem_tuple_whole {prog:Program} {w:World} {A:Around} {E:Value→Shared→Prop} {s:Shared} {t sl:Addr} {items:Array Value} {vl vu:Value} {lo hi:Option Int} {Q:Value→Shared→Prop} (ht:IsTup s.heap t items) (hs:s.heap.IsSliceOf sl vl vu .none) (pl:IsPart vl lo) (pu:IsPart vu hi)
  (hw:HT.sIx items.size 0 lo=0∧HT.sIx items.size items.size hi=items.size)
  (h:Q (.ref t) s):wpAny (model prog w) A (getItem (.ref t) (.ref sl)) Q E s:=by
 obtain ⟨os,hos,hcs,hds⟩:=id hs
 have hTs:s.TypeIs (.ref sl) "slice" := ⟨os,hos,hcs⟩
 unfold getItem
 try with_reducible refine wpAny_holding ?_
 first | refine wpAny_bind (wpAny_pure ?_) | skip
 refine wpAny_bind (wpAny_sequenceKey ht.typeIs (by decide) ?_)
 refine wpAny_bind (wpAny_callSpecial?_slot (name:=Str.ofString "__getitem__") ht.typeIs PyProof.Rows.slot_tuple_getitem
  (wpAny_call_entry PyProof.Rows.slot_tuple_getitem ht.typeIs entry_tuple_getitem ?_ (args_tuple_getitem _ _)))
 show wpAny _ _ (Builtin.Tuple.tupleItemsOf (.ref t) >>= _) _ _ s
 refine wpAny_bind (tupleItemsOf_ ht ?_)
 refine wpAny_bind (wpAny_typeOf hTs ?_)
 rw [if_pos (by decide)]
 refine wpAny_bind (HT.sliceApplied_gen hs pl pu ?_)
 have hyes:(((HT.sIx items.size 0 lo:Nat):Int)==0&&(1:Int)==1&&(HT.sIx items.size items.size hi-HT.sIx items.size 0 lo)==items.size)=true:=by
  rw [hw.1,hw.2];simp
 show wpAny _ _ (if (((HT.sIx items.size 0 lo:Nat):Int)==0&&(1:Int)==1&&(HT.sIx items.size items.size hi-HT.sIx items.size 0 lo)==items.size)=true then _ else _) _ _ s
 rw [if_pos hyes]
 refine wpAny_bind ?_
 unfold Builtin.Tuple.tupleIsExact
 refine wpAny_bind (wpAny_typeOf ht.typeIs ?_)
 refine wpAny_pure ?_
 rw [if_pos (beq_self_eq_true _)]
 refine wpAny_bind (wpAny_rule ?_)
 exact wpAny_pure ⟨.ref t,rfl,wpAny_pure h⟩
theorem sl_tupZ:SlR X (rSlZ X.K):=by
 intro pins s σ H x v vl vu lo hi sl Q I rx hs pl pu h
 obtain ⟨a,xs,rfl,hx,q1,q2⟩:=h
 by_cases hw:HT.sIx xs.length 0 lo=0∧HT.sIx xs.length xs.length hi=xs.length
 ·cases rx
  obtain ⟨its,r,ht,hz⟩:=I.tuple hx
  have hlen:its.toArray.size=xs.length:=by rw [List.size_toArray];exact r.length.symm
  refine ⟨"tuple",_,PyProof.Rows.slot_tuple_getitem.lookup,ht.typeIs,?_⟩
  refine getItem_tuple_whole ht hs pl pu (by rw [hlen];exact hw) ⟨.ref a,H,I,rfl,q1 ?_⟩
  have:=cut_whole (xs:=xs) hw.1 hw.2
  unfold Z.cut at this
  rw [sIx_eq,sIx_eq] at this
  exact this
 ·exact sl_tup pins s σ H _ v vl vu lo hi sl Q I rx hs pl pu ⟨a,xs,rfl,hx,hw,q2⟩
def rSlS:V→Option Int→Option Int→Hp→VK→Prop:=fun x lo hi H Q=>∃ z,x=.str z∧z.length≤sizeLine∧Q (.str (Txt.slice z lo hi)) H
theorem partOf {v:Value} {o:Option Int} (h:IsPart v o):∃ q:Option (Int×Tok),v=partValue q∧q.map (·.1)=o:=by
 cases h with
 | none=>exact ⟨none,rfl,rfl⟩
 | int i t=>exact ⟨some (i,t),rfl,rfl⟩
theorem sl_strZ:SlR X rSlS:=by
 intro pins s σ H x v vl vu lo hi sl Q I rx hs pl pu h
 obtain ⟨z,rfl,hz,q⟩:=h
 obtain ⟨t,rfl⟩:=rx
 obtain ⟨ql,rfl,rfl⟩:=partOf pl
 obtain ⟨qu,rfl,rfl⟩:=partOf pu
 refine ⟨"str",_,F.slot_str_getitem.lookup,typeIs_str _ _ _,?_⟩
 refine wpAny_getItem_str_slice (l:=ql) (u:=qu) (st:=none) hs rfl ?_
 refine post_val_or_str ⟨Nat.le_trans (Txt.slice_le z _ _) hz,fun t' k=>⟨.str _,H,I.tok _,⟨t',rfl⟩,q⟩⟩
theorem de_slice {lo hi : Option Expr} {gl gh : Z.PF} {p2 : Pos} (ha : DW X a fa) (hl : DP X lo gl) (hh : DP X hi gh) : DE X (.Subscript a (.Slice lo hi none p2) pos) (Z.eSl fa gl gh) :=
 PE.imp (pe_slice (sl_strZ.or sl_tupZ) ha hl hh) fun σ H Q ⟨ρ,d,r,e,k⟩=>by
  obtain ⟨x,ea,e⟩:=Z.Res.bind_ok e
  obtain ⟨l,el,e⟩:=Z.Res.bind_ok e
  obtain ⟨h,eh,e⟩:=Z.Res.bind_ok e
  refine ⟨ρ,x,r,ea,fun v H1 s1 d1=>⟨ρ,l,r.up s1,el,fun H2 s2=>⟨ρ,h,(r.up s1).up s2,eh,fun H3 s3=>?_⟩⟩⟩
  have s13:Same H H3:=(s1.trans s2).trans s3
  have d3:=(d1.up s2).up s3
  unfold Z.oSl at e
  split at e
  ·unfold Z.guard at e
   split at e
   ·rename_i cs _ _ hl
    cases e
    refine .inl ⟨_,d3.str,?_,?_⟩
    ·show cs.toArray.size≤sizeLine
     rw [sizeLine_eq];simpa using hl
    ·rw [strSl];exact k _ H3 s13 den_str
   ·cases e
  ·cases e
   obtain ⟨q,vs,rfl,hq,t⟩:=d3.tup
   refine .inr ⟨q,vs,rfl,hq,fun hw=>?_,fun z hz=>?_⟩
   ·have:=cut_eq t l h
    rw [hw] at this
    exact k _ H3 s13 (den_tup hq this)
   ·have s4:Same H3 (upd H3 z (.tup (cutV vs l h))):=upd_Same hz
    exact k _ _ (s13.trans s4) (den_tup (.inl (.inl upd_same)) ((cut_eq t l h).up s4))
  ·cases e
def rCatL (K:PySem.W.Frag):R2:=fun x y H Q=>∃ l b xs zs,x=.ref l∧y=.ref b∧SqL K H l xs∧SqL K H b zs∧xs.length+zs.length≤sizeLine∧∀ p,H p=none→Q (.ref p) (upd H p (.lst (xs++zs)))
theorem op_catL:OpR X (binaryOp .Add) (rCatL X.K):=by
 intro pins s σ H x y v u Q I rx ry h
 obtain ⟨l,b,xs,zs,rfl,rfl,hH,hB,hz,q⟩:=h
 cases rx
 cases ry
 obtain ⟨its,r,pl,_⟩:=I.list hH
 obtain ⟨its2,r2,pl2,_⟩:=I.list hB
 have hl:=r.length
 have hl2:=r2.length
 obtain ⟨⟨cls,dd,data,sl⟩,ho,hc,n,hd⟩:=id pl.isList
 obtain ⟨⟨cls2,dd2,data2,sl2⟩,ho2,hc2,n2,hd2⟩:=id pl2.isList
 simp only at hc hd hc2 hd2
 subst hc hd hc2 hd2
 have ea:its.toArray++its2.toArray=(its++its2).toArray:=by simp
 refine concat_meets ⟨_,ho,rfl⟩ ⟨_,ho2,rfl⟩ noFill_list_add seq_list_add PySem.F.slot_list_add PySem.F.entry_list_add (PySem.F.args_list_add_2 _ _) (list_addW l b its.toArray its2.toArray n n2 dd dd2 sl sl2 (by simp only [List.size_toArray];lia)) ⟨ho,ho2,?_⟩
 rw [ea]
 exact ⟨.ref _,_,I.lnew (t':=s.toks) (r.append r2) (by rw [List.length_append];lia),rfl,q _ I.fresh⟩
theorem dl_cat (ha:DW X a fa) (hb:DW X b fb):DL X (.BinOp a .Add b pos) (Z.lCat fa fb):=PE.imp (pe_op op_catL ha hb) fun σ H Q ⟨ρ,d,r,e,k⟩=>by
 obtain ⟨x,ea,e⟩:=Z.Res.bind_ok e
 obtain ⟨y,eb,e⟩:=Z.Res.bind_ok e
 refine ⟨ρ,x,r,ea,fun v H1 s1 d1=>⟨ρ,y,r.up s1,eb,fun u H2 s2 d2=>?_⟩⟩
 have s12:=s1.trans s2
 split at e
 ·unfold Z.guard at e
  split at e
  ·rename_i xs ys hl
   cases e
   obtain ⟨q,vs,rfl,hq,t⟩:=(d1.up s2).lst
   obtain ⟨q',vs',rfl,hq',t'⟩:=d2.lst
   refine ⟨q,q',vs,vs',rfl,rfl,hq,hq',by rw [t.length,t'.length,sizeLine_eq];exact hl,fun z hz=>?_⟩
   have s3:Same H2 (upd H2 z (.lst (vs++vs'))):=upd_Same hz
   exact k z _ _ (s12.trans s3) (s12.free hz) upd_same ((t.append t').up s3)
  ·cases e
 ·cases e
def spZ (K:PySem.W.Frag) (m:List Z.D→Z.Res Z.D):Sp:=fun vs H Q _=>∃ ds d,Dens K H ds vs∧m ds=.ok d∧∀ v H',Same H H'→Den K H' d v→Q v H'
theorem de_call {k:Nat} {g:Addr} {fd:FuncData} {ps:List Str} {x:Str} {m:List Z.D→Z.Res Z.D} {ar:Z.AF} {p1:Pos} (F:FnOk X.prog X.w X.K X.mg X.base CX0 k g fd ps (spZ X.K m)) (hr:Room k X.A) (hg:Gl X x) (hm:X.mg x=some (.ref g)) (hk:PySem.W.keepIn X.K (.ref g)=true) (hb:Binds X.K fd ps [])
  (ha:DA X (e :: es) ar) (hdb:(x==("__debug__" : Str))=false:=by decide +kernel) (he:starEach (e :: es) X.env=(false,eval e X.env) :: starEach es X.env:=by rfl) (hpl:(backTo pos (starEach es X.env)).any (·.1)=false:=by rfl) :
  DE X (.Call (.Name x p1) (e :: es) [] pos) (Z.eCall m ar) :=
 PE.imp (pe_call F hr hg hm hk hb .nil pass0 ha hdb he hpl) fun σ H Q ⟨ρ,d,r,e,k⟩=>by
  obtain ⟨ds,ea,e⟩:=Z.Res.bind_ok e
  refine ⟨ρ,ds,r,ea,fun vs H1 s1 d1=>?_⟩
  show spZ X.K m (vs++[]) H1 Q E0
  rw [List.append_nil]
  exact ⟨ds,d,d1,e,fun v H' s2 dv=>k v H' (s1.trans s2) dv⟩
end
end ZS
namespace ZS
open PySem PySem.Spec PyProof.Rows L2
structure ItZ (K:PySem.W.Frag) (J:It) (S:Hp→Prop) (ds:List Z.D):Prop where
 go:∀ (i:Nat) (d:Z.D) (H1:Hp),S H1→ds[i]?=some d→J.go i H1
 yld:∀ (i:Nat) (d:Z.D) (H1 H2:Hp) (x:V),S H1→ds[i]?=some d→J.yld i H1 x H2→Same H1 H2∧Den K H2 d x
 stop:∀ (H1:Hp),S H1→J.stop ds.length H1
def tZi (K:PySem.W.Frag) (f:Z.LF):TI:=fun σ H R=>∃ ρ ds,RE K H σ ρ∧f ρ=.ok ds∧∀ J H',Same H H'→ItZ K J (Same H') ds→R J H'
def tZj (K:PySem.W.Frag) (f:Z.LF):TI:=fun σ H R=>∃ ρ ds,RE K H σ ρ∧f ρ=.ok ds∧∀ J H',Same H H'→ItZ K J (Stb H') ds→R J H'
abbrev DI (X:Cx) (tg e:Expr) (f:Z.LF):Prop:=PI X tg e (tZi X.K f)
abbrev DJ (X:Cx) (tg e:Expr) (f:Z.LF):Prop:=PI X tg e (tZj X.K f)
section
variable {X:Cx} {tg e a b:Expr} {es:List Expr} {pos p:Pos} {f fa fb:Z.EF}
theorem PI.imp {t t':TI} (h:PI X tg e t) (k:∀ σ H R,t' σ H R→t σ H R):PI X tg e t':=fun pins s σ H R I w=>h pins s σ H R I (k σ H R w)
theorem ItZ.imp {K:PySem.W.Frag} {J:It} {S S':Hp→Prop} {ds:List Z.D} (h:ItZ K J S ds) (k:∀ H,S' H→S H):ItZ K J S' ds :=
 ⟨fun i d H1 s=>h.go i d H1 (k _ s),fun i d H1 H2 x s=>h.yld i d H1 H2 x (k _ s),fun H1 s=>h.stop H1 (k _ s)⟩
theorem di_j {g:Z.LF} (h:DJ X tg e g):DI X tg e g:=PI.imp h fun σ H R ⟨ρ,ds,r,e,k⟩=>⟨ρ,ds,r,e,fun J H' s z=>k J H' s (z.imp fun _ q=>stb q)⟩
theorem itz_tup {K:PySem.W.Frag} {H:Hp} {q:Addr} {vs:List V} {ds:List Z.D} (h:SqT K H q vs) (t:Dens K H ds vs):ItZ K (Itt K q) (Stb H) ds where
 go:=fun i d H1 s hi=>by
  obtain ⟨v,h1,_⟩:=t.get hi
  exact ⟨vs,v,sqT_mono s h,h1⟩
 yld:=fun i d H1 H2 x s hi y=>by
  obtain ⟨e,y⟩:=y
  obtain ⟨v,h1,h2⟩:=t.get hi
  have:=y vs (sqT_mono s h)
  rw [h1] at this;cases this
  subst e
  exact ⟨Same.refl _,h2.ups s⟩
 stop:=fun H1 s=>⟨vs,sqT_mono s h,by rw [t.length];exact Nat.le_refl _⟩
theorem itz_lst {K:PySem.W.Frag} {H:Hp} {q:Addr} {vs:List V} {ds:List Z.D} {S:Hp→Prop} (h:∀ H1,S H1→SqL K H1 q vs) (t:∀ H1,S H1→Dens K H1 ds vs) (t0:Dens K H ds vs):ItZ K (Itl K q) S ds where
 go:=fun i d H1 s hi=>by
  obtain ⟨v,h1,_⟩:=t0.get hi
  exact ⟨vs,v,h H1 s,h1⟩
 yld:=fun i d H1 H2 x s hi y=>by
  obtain ⟨e,y⟩:=y
  obtain ⟨v,h1,h2⟩:=(t H1 s).get hi
  have:=y vs (h H1 s)
  rw [h1] at this;cases this
  subst e
  exact ⟨Same.refl _,h2⟩
 stop:=fun H1 s=>⟨vs,h H1 s,by rw [t0.length];exact Nat.le_refl _⟩
theorem ints_get (lo:Int) (n i:Nat) (d:Z.D) (h:(Z.zints lo n)[i]?=some d):i < n∧d=.int (lo+i):=by
 unfold Z.zints at h
 rw [List.getElem?_map] at h
 cases q:(List.range n)[i]? with
 | none=>rw [q] at h;cases h
 | some j =>
  rw [q] at h;cases h
  obtain ⟨h1,h2⟩:=List.getElem?_eq_some_iff.mp q
  rw [List.length_range] at h1
  rw [List.getElem_range] at h2
  subst h2
  exact ⟨h1,rfl⟩
theorem itz_rng {K:PySem.W.Frag} {S:Hp→Prop} (lo:Int) (n:Nat):ItZ K (Itr lo n) S (Z.zints lo n) where
 go:=fun i d H1 s hi=>(ints_get lo n i d hi).1
 yld:=fun i d H1 H2 x s hi y=>by
  obtain ⟨e,y⟩:=y
  obtain ⟨_,rfl⟩:=ints_get lo n i d hi
  subst e
  rw [y]
  exact ⟨Same.refl _,den_int⟩
 stop:=fun H1 s=>by
  show n≤(Z.zints lo n).length
  unfold Z.zints
  rw [List.length_map,List.length_range]
  exact Nat.le_refl _
theorem turn_long {P:Program} {w:World} {K:PySem.W.Frag} {tg:Expr} (it:Addr) (lo:Int) (n:Nat):Turn P w K tg (Itr lo n) [it] it (fun i h=>IsLongIter h it (lo+(i:Nat)*1) ((n:Int)-(i:Nat)) 1) where
 mem:=by simp
 obj:=fun i h st b hb=>by
  have e:b=it:=by simpa using hb
  subst e
  exact ⟨_,st,fun v z=>by
   have z':Data.fields _=Data.cell v:=z
   cases z'⟩
 keep:=fun i h h' st k=>k it (by simp) _ st
 item:=by
  intro X hP hw hK hc i pins s σ H E I hf st hg
  subst hP hw hK
  obtain ⟨f0,f1,f2,f3,f4,f5⟩:=hf it (by simp)
  have W:=Walks.longrange (prog:=X.prog) (w:=X.w) (I.ok.hd hc) it lo 1 n
  refine W.item i s _ _ hg st fun v h' tk hv st' kk=>?_
  obtain ⟨t,rfl⟩:=hv
  have I1:Inv X pins σ H { s with heap:=h',toks:=tk }:=I.turned (fun b o hb e=>kk b o (by simpa using hb) e) f0 f1 f3 f4 f5
  refine ⟨_,rfl,go_of (s:={ s with heap:=h',toks:=tk }) (n := "longrange_iterator") st' rfl rfl (by decide) ⟨.int (lo+i),H,I1,⟨t,?_⟩,⟨rfl,rfl⟩,st',fun b hb=>(hf b hb).1⟩⟩
  rw [Int.mul_one]
 done:=by
  intro X hP hw hK hc i pins s σ H E I hf st hg
  subst hP hw hK
  obtain ⟨f0,f1,f2,f3,f4,f5⟩:=hf it (by simp)
  exact wpAny_pyNext_long_end (I.ok.hd hc) st (by have:n≤i:=hg;lia) fun h' eb=>⟨rfl,I.turned (t':=s.toks) (fun b o hb e=>eb b o hb e) f0 f1 f3 f4 f5⟩
 self:=fun _ _ _ _ _ st h=>wpAny_pyIter_longiter st h
theorem range_any {pins:List (Addr×Obj)} {σ:St} {H:Hp} {s:Shared} {R:It→Hp→Prop} {E:Value→Shared→Prop} {lo hi:Int} {t u v:Tok} {tk:Nat} (I:Inv X pins σ H s)
  (q:R (Itr lo (hi-lo).toNat) H):wpAny (model X.prog X.w) X.A (pyIter (.ref s.heap.objs.size)) (PIE X pins σ tg R) E { s with heap:=s.heap.push { cls:=.type "range",data:=.fields #[.int lo t,.int hi u,.int 1 v] },toks:=tk }:=by
 have I1:Inv X pins σ H { s with heap:=s.heap.push { cls:=.type "range",data:=.fields #[.int lo t,.int hi u,.int 1 v] },toks:=tk }:=I.kept fun b o e=>Heap.get?_push_of_some _ e
 have e1:lo+((0:Nat):Int)*1=lo:=by simp
 have e2:(((hi-lo).toNat:Nat):Int)-((0:Nat):Int)=Builtin.Range.rangeSize lo hi 1:=by rw [rangeSize_one];split<;>lia
 cases hs:Builtin.Range.small lo hi 1 with
 | true =>
  refine wpAny_pyIter_range (IsRange.new ..) hs ?_
  refine ⟨(s.heap.push { cls:=.type "range",data:=.fields #[.int lo t,.int hi u,.int 1 v] }).objs.size,[(s.heap.push { cls:=.type "range",data:=.fields #[.int lo t,.int hi u,.int 1 v] }).objs.size],_,_,H,rfl,
   I1.kept (t':=tk) fun b o e=>Heap.get?_push_of_some _ e,turn_range _ lo (hi-lo).toNat,?_,fun b hb=>?_,q⟩
  ·show IsRangeIter _ _ (lo+((0:Nat):Int)*1) ((((hi-lo).toNat:Nat):Int)-((0:Nat):Int)) 1
   rw [e1,e2]
   exact Heap.get?_push_size _ rfl
  ·have e:b=(s.heap.push { cls:=.type "range",data:=.fields #[.int lo t,.int hi u,.int 1 v] }).objs.size:=by simpa using hb
   subst e
   exact I1.fpOk (Nat.le_refl _) (I1.hok.fresh (Nat.le_refl _))
 | false =>
  refine wpAny_pyIter_longrange (IsRange.new ..) hs ?_
  refine ⟨(s.heap.push { cls:=.type "range",data:=.fields #[.int lo t,.int hi u,.int 1 v] }).objs.size,[(s.heap.push { cls:=.type "range",data:=.fields #[.int lo t,.int hi u,.int 1 v] }).objs.size],_,_,H,rfl,
   I1.kept (t':=tk) fun b o e=>Heap.get?_push_of_some _ e,turn_long _ lo (hi-lo).toNat,?_,fun b hb=>?_,q⟩
  ·show IsLongIter _ _ (lo+((0:Nat):Int)*1) ((((hi-lo).toNat:Nat):Int)-((0:Nat):Int)) 1
   rw [e1,e2]
   exact Heap.get?_push_size _ rfl
  ·have e:b=(s.heap.push { cls:=.type "range",data:=.fields #[.int lo t,.int hi u,.int 1 v] }).objs.size:=by simpa using hb
   subst e
   exact I1.fpOk (Nat.le_refl _) (I1.hok.fresh (Nat.le_refl _))
def aRng1 (ta:TA):TI:=fun σ H R=>ta σ H fun vs H1=>∃ j:Int,vs=[.int j]∧R (Itr 0 j.toNat) H1
theorem pi_any1 {a:Expr} {ta:TA} {p pos:Pos} (hg:Gl X "range") (hm:X.mg "range" = none) (ha:PA X [a] ta) (hs:starEach [a] X.env=[(false,eval a X.env)]:=by rfl):PI X tg (.Call (.Name "range" p) [a] [] pos) (aRng1 ta):=by
 intro pins s σ H R I h
 refine Call_ (ld_blt I hg hm boot_range (PyProof.Rows.callWith_type1 (thn (ha pos pins s σ H _ I h) fun us s1 ⟨vs,H1,I1,r1,q1⟩=>?_) hs rfl))
 obtain ⟨j,e,q⟩:=q1
 subst e
 cases r1 with
 | cons r rr =>
  cases rr
  obtain ⟨t,rfl⟩:=r
  exact call_range_1 (range_any I1 (by simpa using q))
theorem dj_rng1 (hg:Gl X "range") (hm:X.mg "range" = none) (ha:DE X a fa) (hs:starEach [a] X.env=[(false,eval a X.env)]:=by rfl) (hs1:starEach (a :: []) X.env=(false,eval a X.env) :: starEach [] X.env:=by rfl):DJ X tg (.Call (.Name "range" p) [a] [] pos) (Z.iRng1 fa) :=
 PI.imp (pi_any1 hg hm (pa_cons ha pa_nil hs1) hs) fun σ H R ⟨ρ,ds,r,e,k⟩=>by
  obtain ⟨x,ea,e⟩:=Z.Res.bind_ok e
  refine ⟨ρ,x,r,ea,fun v H1 s1 d1=>?_⟩
  split at e
  ·rename_i j
   cases e
   simp only [Den] at d1
   exact ⟨j,by rw [d1],k _ H1 s1 (itz_rng 0 j.toNat)⟩
  ·cases e
def Its (z:Str):It:=⟨fun i _=>i < z.cps.size,fun i H x H'=>H'=H∧∃ c,z.cps[i]?=some c∧x=.str ⟨#[c]⟩,fun i _=>i=z.cps.size⟩
theorem turn_str {P:Program} {w:World} {K:PySem.W.Frag} (z:Str) (it:Addr) (n:String) (hn:["enumerate", "zip", "dict_itemiterator", "dict_reverseitemiterator", "odict_iterator", "itertools.zip_longest", "itertools.pairwise"].contains n=false) (t:Tok)
  (W:∀ A:Around,A.handled=none→Walks P w A it [it] [it] z.cps.size (SignAt z) (fun i h=>h.IsStrIter it n z t i)) (self:∀ (A:Around) (i:Nat) (s:Shared) (Q:Value→Shared→Prop) (E:Value→Shared→Prop),s.heap.IsStrIter it n z t i→Q (.ref it) s→wpAny (model P w) A (pyIter (.ref it)) Q E s) :
  Turn P w K tg (Its z) [it] it (fun i h=>h.IsStrIter it n z t i) where
 mem:=by simp
 obj:=fun i h st b hb=>by
  have e:b=it:=by simpa using hb
  subst e
  obtain ⟨o,e,c,d⟩:=st
  exact ⟨o,e,fun v z=>by rw [d] at z;cases z⟩
 keep:=fun i h h' st k=>by
  obtain ⟨o,e,c,d⟩:=st
  exact ⟨o,k it (by simp) o e,c,d⟩
 item:=by
  intro X hP hw hK hc i pins s σ H E I hf st hg
  subst hP hw hK
  obtain ⟨f0,f1,f2,f3,f4,f5⟩:=hf it (by simp)
  refine (W X.A (I.ok.hd hc)).item i s _ _ hg st fun v h' tk hv st' kk=>?_
  obtain ⟨c,u,hcc,rfl⟩:=hv
  have I1:Inv X pins σ H { s with heap:=h',toks:=tk }:=I.turned (fun b o hb e=>kk b o (by simpa using hb) e) f0 f1 f3 f4 f5
  obtain ⟨o,e,c',d⟩:=id st'
  exact ⟨_,rfl,go_of (s:={ s with heap:=h',toks:=tk }) e c' d hn ⟨.str ⟨#[c]⟩,H,I1,⟨u,rfl⟩,⟨rfl,c,hcc,rfl⟩,st',fun b hb=>(hf b hb).1⟩⟩
 done:=by
  intro X hP hw hK hc i pins s σ H E I hf st hg
  subst hP hw hK
  obtain ⟨f0,f1,f2,f3,f4,f5⟩:=hf it (by simp)
  have hg':i=z.cps.size:=hg
  subst hg'
  exact (W X.A (I.ok.hd hc)).done s _ _ st fun h' tk kk=>⟨rfl,I.turned (fun b o hb e=>kk b o (by simpa using hb) e) f0 f1 f3 f4 f5⟩
 self:=self
theorem itz_str {K:PySem.W.Frag} {S:Hp→Prop} (cs:List Nat):ItZ K (Its ⟨cs.toArray⟩) S (cs.map fun c=>.str [c]) where
 go:=fun i d H1 s hi=>by
  show i < cs.toArray.size
  obtain ⟨h1,_⟩:=List.getElem?_eq_some_iff.mp hi
  simpa using h1
 yld:=fun i d H1 H2 x s hi y=>by
  obtain ⟨e,c,hc,rfl⟩:=y
  have hc':cs[i]?=some c:=by simpa using hc
  rw [List.getElem?_map,hc'] at hi
  cases hi
  subst e
  exact ⟨Same.refl _,den_str (cs:=[c])⟩
 stop:=fun H1 s=>by
  show (cs.map fun c=>Z.D.str [c]).length=cs.toArray.size
  simp
theorem seq_it {pins : List (Addr × Obj)} {σ : St} {H : Hp} {s : Shared} {R : It → Hp → Prop} {E : Value → Shared → Prop} {d : Z.D} {v : V} {u : Value} {ds : List Z.D} {S : Hp → Prop} (I : Inv X pins σ H s) (rv : RelV v u) (hd : DenW X.K H d v) (hi : Z.iterD d = .ok ds)
  (hS:∀ H1,S H1→Stb H H1) (hL:∀ es q vs,d=.lst es→v=.ref q→SqL X.K H q vs→∀ H1,S H1→SqL X.K H1 q vs)
  (k:∀ J,ItZ X.K J S ds→R J H):wpAny (model X.prog X.w) X.A (pyIter u) (PIE X pins σ tg R) E s:=by
 unfold Z.iterD at hi
 split at hi
 ·cases hi
  obtain ⟨q,vs,rfl,hq,t⟩:=hd.tup
  cases rv
  obtain ⟨its,r',pl,hz⟩:=I.tuple hq
  refine wpAny_pyIter_tuple (show s.heap.IsTuple q its.toArray from pl) ?_
  refine ⟨s.heap.objs.size,[s.heap.objs.size],_,_,H,rfl,I.kept (t':=s.toks) fun b o e=>Heap.get?_push_of_some _ e,turn_tuple q _,⟨_,Heap.get?_push_size _ rfl,rfl,rfl⟩,fun b hb=>?_,k _ ((itz_tup hq t).imp hS)⟩
  have e:b=s.heap.objs.size:=by simpa using hb
  subst e
  exact I.fpOk (Nat.le_refl _) (I.hok.fresh (Nat.le_refl _))
 ·cases hi
  obtain ⟨q,vs,rfl,hq,t⟩:=hd.lst
  cases rv
  obtain ⟨its,r',pl,hz⟩:=I.list hq
  refine wpAny_pyIter_list pl.isList ?_
  refine ⟨s.heap.objs.size,[s.heap.objs.size],_,_,H,rfl,I.kept (t':=s.toks) fun b o e=>Heap.get?_push_of_some _ e,turn_list q _,⟨_,Heap.get?_push_size _ rfl,rfl,rfl⟩,fun b hb=>?_,
   k _ (itz_lst (fun H1 s1=>hL _ q vs rfl rfl hq H1 s1) (fun H1 s1=>t.ups (hS H1 s1)) t)⟩
  have e:b=s.heap.objs.size:=by simpa using hb
  subst e
  exact I.fpOk (Nat.le_refl _) (I.hok.fresh (Nat.le_refl _))
 ·cases hi
  rename_i cs
  rw [hd.str] at rv
  obtain ⟨t,rfl⟩:=rv
  have fin:∀ (n:String) (hn:["enumerate", "zip", "dict_itemiterator", "dict_reverseitemiterator", "odict_iterator", "itertools.zip_longest", "itertools.pairwise"].contains n=false)
    (W:∀ A:Around,A.handled=none→Walks X.prog X.w A s.heap.objs.size [s.heap.objs.size] [s.heap.objs.size] (⟨cs.toArray⟩:Str).cps.size (SignAt ⟨cs.toArray⟩) (fun i h=>h.IsStrIter s.heap.objs.size n ⟨cs.toArray⟩ t i))
    (self:∀ (A:Around) (i:Nat) (s':Shared) (Q:Value→Shared→Prop) (E:Value→Shared→Prop),s'.heap.IsStrIter s.heap.objs.size n ⟨cs.toArray⟩ t i→Q (.ref s.heap.objs.size) s'→wpAny (model X.prog X.w) A (pyIter (.ref s.heap.objs.size)) Q E s'),
    PIE X pins σ tg R (.ref s.heap.objs.size) { s with heap:=s.heap.push { cls:=.type n,data:=.fields #[.str ⟨cs.toArray⟩ t,.int 0 0] } }:=by
   intro n hn W self
   refine ⟨s.heap.objs.size,[s.heap.objs.size],_,_,H,rfl,I.kept (t':=s.toks) fun b o e=>Heap.get?_push_of_some _ e,turn_str ⟨cs.toArray⟩ _ n hn t W self,⟨_,Heap.get?_push_size _ rfl,rfl,rfl⟩,fun b hb=>?_,k _ (itz_str cs)⟩
   have e:b=s.heap.objs.size:=by simpa using hb
   subst e
   exact I.fpOk (Nat.le_refl _) (I.hok.fresh (Nat.le_refl _))
  cases ha:(⟨cs.toArray⟩:Str).cps.all (· < 128)
  ·exact wpAny_pyIter_wide ha (fin "str_iterator" (by decide) (fun A' hA=>Walks.strWide hA _ _ t) fun _ _ _ _ _ st hQ=>wpAny_pyIter_striter_wide st hQ)
  ·exact wpAny_pyIter_ascii ha (fin "str_ascii_iterator" (by decide) (fun A' hA=>Walks.strAscii hA _ _ t) fun _ _ _ _ _ st hQ=>wpAny_pyIter_striter_ascii st hQ)
 ·cases hi
theorem di_seq (ha:DW X a fa):DI X tg a (Z.iSeq fa):=by
 intro pins s σ H R I w
 obtain ⟨ρ,ds,r,e,k⟩:=w
 obtain ⟨d,ea,e⟩:=Z.Res.bind_ok e
 refine thn (ha pins s σ H (fun v H1=>Same H H1∧DenW X.K H1 d v) I ⟨ρ,d,r,ea,fun v H1 s1 d1=>⟨s1,d1⟩⟩) ?_
 rintro u s1 ⟨v,H1,I1,rv,sm,hd⟩
 exact seq_it (S:=Same H1) I1 rv hd e (fun _ q=>stb q) (fun _ _ _ _ _ hq H2 s2=>s2.seq hq) fun J z=>k J H1 sm z
theorem dj_seq (ha:DE X a fa):DJ X tg a (Z.iSeq fa):=by
 intro pins s σ H R I w
 obtain ⟨ρ,ds,r,e,k⟩:=w
 obtain ⟨d,ea,e⟩:=Z.Res.bind_ok e
 refine thn (ha pins s σ H (fun v H1=>Same H H1∧Den X.K H1 d v) I ⟨ρ,d,r,ea,fun v H1 s1 d1=>⟨s1,d1⟩⟩) ?_
 rintro u s1 ⟨v,H1,I1,rv,sm,hd⟩
 refine seq_it (S:=Stb H1) I1 rv (.inl hd) e (fun _ q=>q) (fun es q vs e1 e2 hq H2 s2=>?_) fun J z=>k J H1 sm z
 subst e1
 simp only [Den] at hd
 obtain ⟨q',vs',e3,hz,_⟩:=hd
 rw [e2] at e3;cases e3
 rw [I1.list_inj hq hz.sq]
 exact (hz.mono s2).sq
def DicOk (H0:Hp) (σ:St) (ρ:Z.Env):Prop:=(∀ (i j:Nat) (ks ls:Z.DK) (a:Addr),ρ[i]?=some (some (.dc ks))→ρ[j]?=some (some (.dc ls))→σ[i]?=some (some (.ref a))→σ[j]?=some (some (.ref a))→i=j) ∧
 ∀ (i:Nat) (ks:Z.DK) (q:Addr),ρ[i]?=some (some (.dc ks))→σ[i]?=some (some (.ref q))→H0 q=none
theorem DicOk.non {H0:Hp} {σ:St} {ρ:Z.Env} (h:∀ (i:Nat) (ks:Z.DK),ρ[i]?≠some (some (.dc ks))):DicOk H0 σ ρ:=⟨fun i _ ks _ _ e=>absurd e (h i ks),fun i ks _ e=>absurd e (h i ks)⟩
structure RS (K:PySem.W.Frag) (H0 H:Hp) (σ:St) (ρ:Z.Env):Prop where
 same:Same H0 H
 re:RE K H σ ρ
 fresh:∀ (i:Nat) (xs:List Z.D) (q:Addr),ρ[i]?=some (some (.own xs))→σ[i]?=some (some (.ref q))→H0 q=none
 bors:∀ (i:Nat) (d:Z.D),ρ[i]?=some (some (.bor d))→∃ v,σ[i]?=some (some v)∧DenB0 K H0 d v
 dic:DicOk H0 σ ρ
def flZ (K:PySem.W.Frag) (H0 H:Hp) (D:Ends):Z.Fl→Prop
 | .nx ρ'=>∀ σ' H',Stb H H'→RS K H0 H' σ' ρ'→D.nx σ' H'
 | .rt d=>∀ v H',Same H0 H'→Den K H' d v→D.rt v H'
 | .bk ρ'=>∀ σ' H',Stb H H'→RS K H0 H' σ' ρ'→D.bk σ' H'
 | .ct ρ'=>∀ σ' H',Stb H H'→RS K H0 H' σ' ρ'→D.ct σ' H'
def tS (K:PySem.W.Frag) (H0:Hp) (g:Z.SF):TS:=fun D σ H=>∃ ρ fl,RS K H0 H σ ρ∧g ρ=.ok fl∧flZ K H0 H D fl
abbrev DS (X:Cx) (H0:Hp) (st:Stmt) (g:Z.SF):Prop:=PS X st (tS X.K H0 g)
abbrev DSs (X:Cx) (H0:Hp) (st:List Stmt) (g:Z.SF):Prop:=PSs X st (tS X.K H0 g)
theorem PS.imp {st:Stmt} {t t':TS} (h:PS X st t) (k:∀ D σ H,t' D σ H→t D σ H):PS X st t':=fun pins s σ H D I w=>h pins s σ H D I (k D σ H w)
theorem PSs.imp {st:List Stmt} {t t':TS} (h:PSs X st t) (k:∀ D σ H,t' D σ H→t D σ H):PSs X st t':=fun pins s σ H D I w=>h pins s σ H D I (k D σ H w)
theorem RS.up {K:PySem.W.Frag} {H0 H H':Hp} {σ:St} {ρ:Z.Env} (h:RS K H0 H σ ρ) (e:Same H H'):RS K H0 H' σ ρ:=⟨h.same.trans e,h.re.up e,h.fresh,h.bors,h.dic⟩
theorem flZ.up {K:PySem.W.Frag} {H0 H H1:Hp} {D:Ends} {fl:Z.Fl} (h:flZ K H0 H D fl) (e:Stb H H1):flZ K H0 H1 D fl:=by
 cases fl with
 | nx ρ'=>exact fun σ' H' s r=>h σ' H' (e.trans s) r
 | rt d=>exact h
 | bk ρ'=>exact fun σ' H' s r=>h σ' H' (e.trans s) r
 | ct ρ'=>exact fun σ' H' s r=>h σ' H' (e.trans s) r
theorem set_cases {α:Type} {l:List (Option α)} {i j:Nat} {x:Option α} {y:α} (h:(l.set i x)[j]?=some (some y)):(i=j∧i < l.length∧x=some y)∨(i≠j∧l[j]?=some (some y)):=by
 by_cases hij:i=j
 ·subst hij
  by_cases hl:i < l.length
  ·rw [List.getElem?_set_self hl] at h
   exact .inl ⟨rfl,hl,Option.some.inj h⟩
  ·rw [List.getElem?_eq_none (by simpa using hl)] at h;cases h
 ·rw [List.getElem?_set_ne hij] at h
  exact .inr ⟨hij,h⟩
theorem DicOk.set {H0:Hp} {σ:St} {ρ:Z.Env} {i:Nat} {v:V} {l:Z.L} (h:DicOk H0 σ ρ) (n:∀ ks,l≠.dc ks):DicOk H0 (σ.set i (some v)) (ρ.set i (some l)):=by
 have get:∀ (j:Nat) (ks:Z.DK),(ρ.set i (some l))[j]?=some (some (.dc ks))→ρ[j]?=some (some (.dc ks))∧(σ.set i (some v))[j]?=σ[j]?:=fun j ks e=>by
  rcases set_cases e with ⟨_,_,e⟩ | ⟨hj,e⟩
  ·exact absurd (Option.some.inj e) (n ks)
  ·exact ⟨e,List.getElem?_set_ne hj⟩
 exact ⟨fun j k ks ls a e1 e2 e3 e4=>h.1 j k ks ls a (get j ks e1).1 (get k ls e2).1 (by rw [←(get j ks e1).2];exact e3) (by rw [←(get k ls e2).2];exact e4),fun j ks q e1 e2=>h.2 j ks q (get j ks e1).1 (by rw [←(get j ks e1).2];exact e2)⟩
theorem DicOk.setρ {H0:Hp} {σ:St} {ρ:Z.Env} {i:Nat} {l:Z.L} (h:DicOk H0 σ ρ) (n:∀ ks,l≠.dc ks):DicOk H0 σ (ρ.set i (some l)):=by
 have get:∀ (j:Nat) (ks:Z.DK),(ρ.set i (some l))[j]?=some (some (.dc ks))→ρ[j]?=some (some (.dc ks)):=fun j ks e=>by
  rcases set_cases e with ⟨_,_,e⟩ | ⟨hj,e⟩
  ·exact absurd (Option.some.inj e) (n ks)
  ·exact e
 exact ⟨fun j k ks ls a e1 e2 e3 e4=>h.1 j k ks ls a (get j ks e1) (get k ls e2) e3 e4,fun j ks q e1 e2=>h.2 j ks q (get j ks e1) e2⟩
theorem RS.setV {K : PySem.W.Frag} {H0 H : Hp} {σ : St} {ρ : Z.Env} {i : Nat} {d : Z.D} {v : V} (h : RS K H0 H σ ρ) (hd : Den K H d v) : RS K H0 H (σ.set i (some v)) (ρ.set i (some (.val d))) := by
 have getσ:∀ (j:Nat),i≠j→(σ.set i (some v))[j]?=σ[j]?:=fun j hj=>List.getElem?_set_ne hj
 refine ⟨h.same,⟨by simp [h.re.len],fun j l e=>?_,fun j k xs ys q e1 e2 e3 e4=>?_⟩,fun j xs q e1 e2=>?_,fun j xs e1=>?_,h.dic.set fun _ z=>nomatch z⟩
 ·rcases set_cases e with ⟨rfl,hl,e⟩ | ⟨hj,e⟩
  ·cases e
   exact ⟨v,List.getElem?_set_self (by rw [←h.re.len];exact hl),hd⟩
  ·rw [getσ j hj];exact h.re.get j l e
 ·rcases set_cases e1 with ⟨_,_,e⟩ | ⟨hj,e1⟩
  ·cases e
  ·rcases set_cases e2 with ⟨_,_,e⟩ | ⟨hk,e2⟩
   ·cases e
   ·rw [getσ j hj] at e3
    rw [getσ k hk] at e4
    exact h.re.sep j k xs ys q e1 e2 e3 e4
 ·rcases set_cases e1 with ⟨_,_,e⟩ | ⟨hj,e1⟩
  ·cases e
  ·rw [getσ j hj] at e2
   exact h.fresh j xs q e1 e2
 ·rcases set_cases e1 with ⟨_,_,e⟩ | ⟨hj,e1⟩
  ·cases e
  ·rw [getσ j hj]
   exact h.bors j xs e1
theorem RS.setO {K : PySem.W.Frag} {H0 H : Hp} {σ : St} {ρ : Z.Env} {i : Nat} {ds : List Z.D} {q : Addr} {vs : List V} (h : RS K H0 H σ ρ) (hq : H q = some (.lst vs)) (t : Dens K H ds vs) (h0 : H0 q = none)
  (nq:∀ (j:Nat) (xs:List Z.D),j≠i→ρ[j]?=some (some (.own xs))→σ[j]?≠some (some (.ref q))):RS K H0 H (σ.set i (some (.ref q))) (ρ.set i (some (.own ds))):=by
 have getσ:∀ (j:Nat),i≠j→(σ.set i (some (V.ref q)))[j]?=σ[j]?:=fun j hj=>List.getElem?_set_ne hj
 refine ⟨h.same,⟨by simp [h.re.len],fun j l e=>?_,fun j k xs ys p e1 e2 e3 e4=>?_⟩,fun j xs p e1 e2=>?_,fun j xs e1=>?_,h.dic.set fun _ z=>nomatch z⟩
 ·rcases set_cases e with ⟨rfl,hl,e⟩ | ⟨hj,e⟩
  ·cases e
   exact ⟨.ref q,List.getElem?_set_self (by rw [←h.re.len];exact hl),q,vs,rfl,hq,t⟩
  ·rw [getσ j hj];exact h.re.get j l e
 ·rcases set_cases e1 with ⟨rfl,hl,_⟩ | ⟨hj,e1⟩
  ·rcases set_cases e2 with ⟨rfl,_,_⟩ | ⟨hk,e2⟩
   ·rfl
   ·rw [List.getElem?_set_self (by rw [←h.re.len];exact hl)] at e3
    cases e3
    rw [getσ k hk] at e4
    exact absurd e4 (nq k ys (Ne.symm hk) e2)
  ·rcases set_cases e2 with ⟨rfl,hl,_⟩ | ⟨hk,e2⟩
   ·rw [List.getElem?_set_self (by rw [←h.re.len];exact hl)] at e4
    cases e4
    rw [getσ j hj] at e3
    exact absurd e3 (nq j xs (Ne.symm hj) e1)
   ·rw [getσ j hj] at e3
    rw [getσ k hk] at e4
    exact h.re.sep j k xs ys p e1 e2 e3 e4
 ·rcases set_cases e1 with ⟨rfl,hl,_⟩ | ⟨hj,e1⟩
  ·rw [List.getElem?_set_self (by rw [←h.re.len];exact hl)] at e2
   cases e2
   exact h0
  ·rw [getσ j hj] at e2
   exact h.fresh j xs p e1 e2
 ·rcases set_cases e1 with ⟨_,_,e⟩ | ⟨hj,e1⟩
  ·cases e
  ·rw [getσ j hj]
   exact h.bors j xs e1
theorem RS.chg {K : PySem.W.Frag} {H0 H : Hp} {σ : St} {ρ : Z.Env} {i : Nat} {xs ds : List Z.D} {q : Addr} {us vs : List V} (h : RS K H0 H σ ρ) (ei : ρ[i]? = some (some (.own xs))) (si : σ[i]? = some (some (.ref q))) (hq : H q = some (.lst us)) (t : Dens K H ds vs) :
  RS K H0 (upd H q (.lst vs)) σ (ρ.set i (some (.own ds))):=by
 have st:Stb H (upd H q (.lst vs)):=stb_lst hq
 have h0:H0 q=none:=h.fresh i xs q ei si
 have hs:Same H0 (upd H q (.lst vs)):=fun b u e=>by rw [upd_ne (ne_of_none e h0)];exact h.same b u e
 refine ⟨hs,⟨by simp [h.re.len],fun j l e=>?_,fun j k xs' ys p e1 e2 e3 e4=>?_⟩,fun j xs' p e1 e2=>?_,fun j xs' e1=>?_,h.dic.setρ fun _ z=>nomatch z⟩
 ·rcases set_cases e with ⟨rfl,hl,e⟩ | ⟨hj,e⟩
  ·cases e
   exact ⟨.ref q,si,q,vs,rfl,upd_same,t.ups st⟩
  ·obtain ⟨v,e1,r⟩:=h.re.get j l e
   refine ⟨v,e1,?_⟩
   cases l with
   | val d=>exact Den.ups (show Den K H d v from r) st
   | own zs =>
    obtain ⟨q',ws,rfl,hq',t'⟩:=r
    have:q'≠q:=by
     rintro rfl
     exact hj (h.re.sep i j xs zs q' ei e si e1)
    exact ⟨q',ws,rfl,by rw [upd_ne this];exact hq',t'.ups st⟩
   | bor zs =>
    obtain ⟨v',e2,r2⟩:=h.bors j zs e
    rw [e1] at e2
    cases e2
    exact r2.re r h.same hs st
   | dc ks =>
    obtain ⟨q',as,rfl,hq',t'⟩:=r
    have:q'≠q:=by
     rintro rfl
     rw [hq] at hq';exact dcO_lst (Option.some.inj hq').symm
    exact ⟨q',as,rfl,by rw [upd_ne this];exact hq',t'.ups st⟩
   | fdc ks =>
    obtain ⟨q',o',as,rfl,hq',t'⟩:=r
    exact ⟨q',o',as,rfl,st.frz _ _ _ hq',t'.ups st⟩
   | idc ps =>
    obtain ⟨q',o',rfl,hq'⟩:=r
    exact ⟨q',o',rfl,st.frz _ _ _ hq'⟩
   | exc c =>
    obtain ⟨q',o',u',C',rfl,hq',r1,r2,r3⟩:=r
    exact ⟨q',o',u',C',rfl,st.frz _ _ _ hq',r1,r2,r3.ups st⟩
 ·have old:∀ {j:Nat} {zs:List Z.D},(ρ.set i (some (Z.L.own ds)))[j]?=some (some (.own zs))→∃ zs',ρ[j]?=some (some (.own zs')):=fun {j zs} e=>by
   rcases set_cases e with ⟨rfl,_,_⟩ | ⟨_,e⟩
   ·exact ⟨xs,ei⟩
   ·exact ⟨zs,e⟩
  obtain ⟨_,o1⟩:=old e1
  obtain ⟨_,o2⟩:=old e2
  exact h.re.sep j k _ _ p o1 o2 e3 e4
 ·rcases set_cases e1 with ⟨rfl,_,_⟩ | ⟨_,e1⟩
  ·exact h.fresh i xs p ei e2
  ·exact h.fresh j xs' p e1 e2
 ·rcases set_cases e1 with ⟨_,_,e⟩ | ⟨_,e1⟩
  ·cases e
  ·exact h.bors j xs' e1
theorem RS.frz {K : PySem.W.Frag} {H0 H : Hp} {σ : St} {ρ : Z.Env} {i : Nat} {xs : List Z.D} {q : Addr} {us : List V} {o : Obj} (h : RS K H0 H σ ρ) (ei : ρ[i]? = some (some (.own xs))) (si : σ[i]? = some (some (.ref q))) (hq : H q = some (.lst us)) (t : Dens K H xs us) :
  RS K H0 (upd H q (.frz o (.lst us))) σ (ρ.set i (some (.val (.lst xs)))):=by
 have st:Stb H (upd H q (.frz o (.lst us))):=stb_lst hq
 have h0:H0 q=none:=h.fresh i xs q ei si
 have hs:Same H0 (upd H q (.frz o (.lst us))):=fun b u e=>by rw [upd_ne (ne_of_none e h0)];exact h.same b u e
 refine ⟨hs,⟨by simp [h.re.len],fun j l e=>?_,fun j k xs' ys p e1 e2 e3 e4=>?_⟩,fun j xs' p e1 e2=>?_,fun j xs' e1=>?_,h.dic.setρ fun _ z=>nomatch z⟩
 ·rcases set_cases e with ⟨rfl,hl,e⟩ | ⟨hj,e⟩
  ·cases e
   exact ⟨.ref q,si,den_lst (.inl ⟨o,upd_same⟩) (t.ups st)⟩
  ·obtain ⟨v,e1,r⟩:=h.re.get j l e
   refine ⟨v,e1,?_⟩
   cases l with
   | val d=>exact Den.ups (show Den K H d v from r) st
   | own zs =>
    obtain ⟨q',ws,rfl,hq',t'⟩:=r
    have:q'≠q:=by
     rintro rfl
     exact hj (h.re.sep i j xs zs q' ei e si e1)
    exact ⟨q',ws,rfl,by rw [upd_ne this];exact hq',t'.ups st⟩
   | bor zs =>
    obtain ⟨v',e2,r2⟩:=h.bors j zs e
    rw [e1] at e2
    cases e2
    exact r2.re r h.same hs st
   | dc ks =>
    obtain ⟨q',as,rfl,hq',t'⟩:=r
    have:q'≠q:=by
     rintro rfl
     rw [hq] at hq';exact dcO_lst (Option.some.inj hq').symm
    exact ⟨q',as,rfl,by rw [upd_ne this];exact hq',t'.ups st⟩
   | fdc ks =>
    obtain ⟨q',o',as,rfl,hq',t'⟩:=r
    exact ⟨q',o',as,rfl,st.frz _ _ _ hq',t'.ups st⟩
   | idc ps =>
    obtain ⟨q',o',rfl,hq'⟩:=r
    exact ⟨q',o',rfl,st.frz _ _ _ hq'⟩
   | exc c =>
    obtain ⟨q',o',u',C',rfl,hq',r1,r2,r3⟩:=r
    exact ⟨q',o',u',C',rfl,st.frz _ _ _ hq',r1,r2,r3.ups st⟩
 ·rcases set_cases e1 with ⟨_,_,e⟩ | ⟨_,e1⟩
  ·cases e
  ·rcases set_cases e2 with ⟨_,_,e⟩ | ⟨_,e2⟩
   ·cases e
   ·exact h.re.sep j k _ _ p e1 e2 e3 e4
 ·rcases set_cases e1 with ⟨_,_,e⟩ | ⟨_,e1⟩
  ·cases e
  ·exact h.fresh j xs' p e1 e2
 ·rcases set_cases e1 with ⟨_,_,e⟩ | ⟨_,e1⟩
  ·cases e
  ·exact h.bors j xs' e1
variable {H0:Hp} {st:Stmt} {sts:List Stmt} {g u:Z.SF}
theorem dss_nil:DSs X H0 [] Z.sNext:=PSs.imp pss_nil fun D σ H ⟨ρ,fl,rs,e,k⟩=>by
 cases e
 exact k σ H (Stb.refl H) rs
theorem dss_one (h:DS X H0 st g):DSs X H0 [st] g:=pss_one h
theorem dss_cons (h1:DS X H0 st g) (h2:DSs X H0 sts u):DSs X H0 (st :: sts) (Z.sSeq g u):=PSs.imp (pss_cons h1 h2) fun D σ H ⟨ρ,fl,rs,e,k⟩=>by
 obtain ⟨f1,e1,e⟩:=Z.Res.bind_ok e
 refine ⟨ρ,f1,rs,e1,?_⟩
 cases f1 with
 | nx ρ'=>exact fun σ' H' s r=>⟨ρ',fl,r,e,k.up s⟩
 | rt d=>cases e;exact k
 | bk ρ'=>cases e;exact k
 | ct ρ'=>cases e;exact k
theorem ds_ret (h:DE X a fa):DS X H0 (.Return (some a) pos) (Z.sRet fa):=PS.imp (ps_ret h) fun D σ H ⟨ρ,fl,rs,e,k⟩=>by
 obtain ⟨d,ea,e⟩:=Z.Res.bind_ok e
 cases e
 exact ⟨ρ,d,rs.re,ea,fun v H' s dv=>k v H' (rs.same.trans s) dv⟩
theorem ds_drop (h:DE X a fa) (hs:swapsWith a none pos.line X.env=pure false:=by rfl):DS X H0 (.Expr a pos) (Z.sDrop fa):=PS.imp (ps_expr h hs) fun D σ H ⟨ρ,fl,rs,e,k⟩=>by
 obtain ⟨d,ea,e⟩:=Z.Res.bind_ok e
 cases e
 exact ⟨ρ,d,rs.re,ea,fun v H' s dv=>k σ H' (stb s) (rs.up s)⟩
theorem ds_if {c:Expr} {b1 b2:List Stmt} {t:Z.TF} (hc:DT X c t) (h1:DSs X H0 b1 g) (h2:DSs X H0 b2 u):DS X H0 (.If c b1 b2 pos) (Z.sIf t g u):=PS.imp (ps_if hc h1 h2) fun D σ H ⟨ρ,fl,rs,e,k⟩=>by
 obtain ⟨x,ea,e⟩:=Z.Res.bind_ok e
 refine ⟨ρ,x,rs.re,ea,fun H1 s1=>?_⟩
 cases x with
 | true =>
  simp only [if_true] at e ⊢
  exact ⟨ρ,fl,rs.up s1,e,k.up (stb s1)⟩
 | false =>
  simp only [Bool.false_eq_true,if_false] at e ⊢
  exact ⟨ρ,fl,rs.up s1,e,k.up (stb s1)⟩
theorem ds_set {i:Nat} {x:Str} {pos':Pos} (hN:X.N.Nodup) (hi:X.N[i]?=some x) (hx:Loc X.env.scope x) (he:DE X a fa) (hs:swapsWith a (some (.Name x pos')) pos.line X.env=pure false:=by rfl) (hf:X.fn x=true∨X.env.scope.names.lookup x=some .local:=by first | exact .inl rfl | exact .inr rfl | assumption) :
  DS X H0 (.Assign [.Name x pos'] a pos) (Z.sSet i fa):=PS.imp (ps_set hN hi hx he hs hf) fun D σ H ⟨ρ,fl,rs,e,k⟩=>by
 obtain ⟨d,ea,e⟩:=Z.Res.bind_ok e
 cases e
 exact ⟨ρ,d,rs.re,ea,fun v H' s dv=>k _ H' (stb s) ((rs.up s).setV dv)⟩
theorem RS.noq {K:PySem.W.Frag} {H1 H:Hp} {σ:St} {ρ:Z.Env} {q:Addr} (h:RS K H1 H σ ρ) (hq:H q=none) (j:Nat) (xs:List Z.D) (e:ρ[j]?=some (some (.own xs))):σ[j]?≠some (some (.ref q)):=fun z=>by
 obtain ⟨v,e1,q',vs,rfl,h2,_⟩:=h.re.get j _ e
 rw [z] at e1;cases e1
 rw [hq] at h2;cases h2
theorem ds_own {i:Nat} {x:Str} {pos':Pos} {l:Z.LF} (hN:X.N.Nodup) (hi:X.N[i]?=some x) (hx:Loc X.env.scope x) (he:DL X a l) (hs:swapsWith a (some (.Name x pos')) pos.line X.env=pure false:=by rfl) (hf:X.fn x=true∨X.env.scope.names.lookup x=some .local:=by first | exact .inl rfl | exact .inr rfl | assumption) :
  DS X H0 (.Assign [.Name x pos'] a pos) (Z.sOwn i l):=PS.imp (ps_set hN hi hx he hs hf) fun D σ H ⟨ρ,fl,rs,e,k⟩=>by
 obtain ⟨d,ea,e⟩:=Z.Res.bind_ok e
 cases e
 refine ⟨ρ,d,rs.re,ea,fun q vs H' s hn h1 t=>k _ H' (stb s) ((rs.up s).setO h1 t (rs.same.free hn) fun j xs _ e=>?_)⟩
 exact rs.noq hn j xs e
def tG (K:PySem.W.Frag) (H0:Hp) (g:Z.GF):TG:=fun v σ H Q=>∃ ρ d ρ',RS K H0 H σ ρ∧Den K H d v∧g d ρ=.ok ρ'∧∀ σ' H',Same H H'→RS K H0 H' σ' ρ'→Q σ' H'
def tGs (K:PySem.W.Frag) (H0:Hp) (is:List Nat):TGs:=fun vs σ H Q=>∃ ρ ds ρ',RS K H0 H σ ρ∧Dens K H ds vs∧Z.gNames is ds ρ=.ok ρ'∧∀ σ' H',Same H H'→RS K H0 H' σ' ρ'→Q σ' H'
abbrev DG (X:Cx) (H0:Hp) (tg:Expr) (g:Z.GF):Prop:=PG X tg (tG X.K H0 g)
abbrev DGs (X:Cx) (H0:Hp) (tgs:List Expr) (is:List Nat):Prop:=PGs X tgs (tGs X.K H0 is)
theorem PG.imp {t t':TG} (h:PG X tg t) (k:∀ v σ H Q,t' v σ H Q→t v σ H Q):PG X tg t':=fun pins s σ H v u Q I r w=>h pins s σ H v u Q I r (k v σ H Q w)
theorem PGs.imp {t t':TGs} (h:PGs X es t) (k:∀ v σ H Q,t' v σ H Q→t v σ H Q):PGs X es t':=fun pins s σ H v u Q I r w=>h pins s σ H v u Q I r (k v σ H Q w)
theorem dg_name {i:Nat} {x:Str} (hN:X.N.Nodup) (hi:X.N[i]?=some x) (hx:Loc X.env.scope x) (hf:X.fn x=true∨X.env.scope.names.lookup x=some .local:=by first | exact .inl rfl | exact .inr rfl | assumption):DG X H0 (.Name x pos) (Z.gName i) :=
 PG.imp (pg_name hN hi hx hf) fun v σ H Q ⟨ρ,d,ρ',rs,hd,e,k⟩=>by
  cases e
  exact k _ H (Same.refl H) (rs.setV hd)
theorem dgs_nil:DGs X H0 [] []:=PGs.imp pgs_nil fun vs σ H Q ⟨ρ,ds,ρ',rs,hd,e,k⟩=>by
 cases ds with
 | nil =>
  simp only [Dens] at hd
  cases e
  exact ⟨hd,k σ H (Same.refl H) rs⟩
 | cons d ds=>cases e
theorem dgs_cons {i:Nat} {is:List Nat} {x:Str} (hN:X.N.Nodup) (hi:X.N[i]?=some x) (hx:Loc X.env.scope x) (h2:DGs X H0 es is) (hs:(assignEach ((.Name x pos) :: es) X.env).map (·.2)=assign (.Name x pos) X.env :: (assignEach es X.env).map (·.2):=by rfl)
  (hf:X.fn x=true∨X.env.scope.names.lookup x=some .local:=by first | exact .inl rfl | exact .inr rfl | assumption):DGs X H0 (.Name x pos :: es) (i :: is) :=
 PGs.imp (pgs_cons (pg_name hN hi hx hf) h2 hs) fun vs σ H Q ⟨ρ,ds,ρ',rs,hd,e,k⟩=>by
  cases ds with
  | nil=>cases e
  | cons d ds =>
   simp only [Dens] at hd
   obtain ⟨v,r,rfl,h1,h2⟩:=hd
   exact ⟨v,r,rfl,ρ.set i (some (.val d)),ds,ρ',rs.setV h1,h2,e,k⟩
theorem dg_tup {x1 n : Nat} {is : List Nat} (hc : X.calm = true) (h : DGs X H0 es is) (hl : is.length = n) (hn : (assignEach es X.env).length = n := by rfl) (hst : (assignEach es X.env).findIdx? (·.1) = none := by rfl) : DG X H0 (.Tuple es x1 pos) (Z.gTup is) :=
 PG.imp (pg_tup hc h hn hst) fun v σ H Q ⟨ρ,d,ρ',rs,hd,e,k⟩=>by
  unfold Z.gTup at e
  split at e
  ·rename_i ds
   obtain ⟨q,vs,rfl,hq,t⟩:=DenW.tup (.inl hd)
   have hlen:∀ (is:List Nat) (ds:List Z.D) (ρ ρ':Z.Env),Z.gNames is ds ρ=.ok ρ'→ds.length=is.length:=by
    intro is
    induction is with
    | nil=>intro ds ρ ρ' e;cases ds with
     | nil=>rfl
     | cons d ds=>cases e
    | cons i is ih=>intro ds ρ ρ' e;cases ds with
     | nil=>cases e
     | cons d ds=>simp [ih ds _ _ e]
   exact ⟨q,vs,rfl,hq,by rw [t.length,hlen is ds ρ ρ' e];exact hl,ρ,ds,ρ',rs,t,e,k⟩
  ·cases e
theorem ds_for {it : Z.LF} {G : Z.GF} {iter : Expr} {body : List Stmt} (hp : PassesOwn (model X.prog X.w) X.A X.env X.xe) (hc : X.calm = true) (hi : DJ X tg iter it) (hg : DG X H0 tg G) (hb : DSs X H0 body g)
  (hs:∀ x,foldedSetIterable iter X.env x=pure x:=by intro _;rfl):DS X H0 (.For tg iter body [] pos) (Z.sFor it G g):=PS.imp (ps_for hp hc hi hg hb hs) fun D σ H ⟨ρ,fl,rs,e,k⟩=>by
 obtain ⟨ds,ei,e⟩:=Z.Res.bind_ok e
 refine ⟨ρ,ds,rs.re,ei,fun J H1 s1 z=>?_⟩
 refine ⟨fun i m σ' H'=>m=ds.length-i∧i≤ds.length∧∃ ρ',RS X.K H0 H' σ' ρ'∧Stb H1 H'∧Z.forGo G g (ds.drop i) ρ'=.ok fl,⟨ds.length,by simp,Nat.zero_le _,ρ,rs.up s1,Stb.refl H1,by simpa using e⟩,?_⟩
 rintro i m σ2 H2 ⟨rfl,hil,ρ2,r2,s2,e2⟩
 by_cases hlt:i < ds.length
 ·obtain ⟨d,hd⟩:∃ d,ds[i]?=some d:=⟨ds[i],by simp [hlt]⟩
  have hdrop:ds.drop i=d :: ds.drop (i+1):=by
   rw [List.drop_eq_getElem_cons hlt]
   have:ds[i]=d:=by
    have:=List.getElem?_eq_getElem hlt
    rw [this] at hd;exact Option.some.inj hd
   rw [this]
  rw [hdrop] at e2
  unfold Z.forGo at e2
  obtain ⟨ρ3,eg,e2⟩:=Z.Res.bind_ok e2
  obtain ⟨f3,eb,e2⟩:=Z.Res.bind_ok e2
  refine .inr ⟨z.go i d H2 s2 hd,fun σ' H'=>∃ ρ',RS X.K H0 H' σ' ρ'∧Stb H1 H'∧Z.forGo G g (ds.drop (i+1)) ρ'=.ok fl,fun σ' H' w=>⟨_,by lia,rfl,hlt,w⟩,fun x H3 y=>?_⟩
  obtain ⟨sy,dx⟩:=z.yld i d H2 H3 x s2 hd y
  replace s2:=s2.trans (stb sy)
  refine ⟨ρ2,d,ρ3,r2.up sy,dx,eg,fun σ4 H4 s4' r4=>⟨ρ3,f3,r4,eb,?_⟩⟩
  have s4:=stb s4'
  cases f3 with
  | nx ρ5=>exact fun σ5 H5 s5 r5=>⟨ρ5,r5,(s2.trans s4).trans s5,e2⟩
  | ct ρ5=>exact fun σ5 H5 s5 r5=>⟨ρ5,r5,(s2.trans s4).trans s5,e2⟩
  | bk ρ5 =>
   cases e2
   exact fun σ5 H5 s5 r5=>k σ5 H5 ((stb s1).trans ((s2.trans s4).trans s5)) r5
  | rt d5 =>
   cases e2
   exact k
 ·have:i=ds.length:=by lia
  subst this
  rw [List.drop_length] at e2
  cases e2
  exact .inl ⟨z.stop H2 s2,k σ2 H2 ((stb s1).trans s2) r2⟩
theorem dss_frz {i:Nat} (h:DSs X H0 sts g):DSs X H0 sts (Z.sFrz i g):=by
 intro pins s σ H D I w
 obtain ⟨ρ,fl,rs,e,k⟩:=w
 unfold Z.sFrz Z.frz at e
 split at e
 ·rename_i xs ei
  obtain ⟨v,si,q,us,rfl,hq,t⟩:=rs.re.get i _ ei
  obtain ⟨o,I2⟩:=inv_freeze I hq
  exact h pins s σ _ D I2 ⟨_,fl,rs.frz ei si hq t,e,k.up (stb_lst hq)⟩
 ·exact h pins s σ H D I ⟨ρ,fl,rs,e,k⟩
theorem ds_append {i:Nat} {o:Expr} {p1 p2:Pos} (ho:PE X o (tVar i)) (ha:DE X a fa) (hs:swapsWith (.Call (.Attribute o "append" p1) [a] [] p2) none pos.line X.env=pure false:=by rfl) (hs1:starEach (a :: []) X.env=(false,eval a X.env) :: starEach [] X.env:=by rfl)
  (hbm:PE X (.Call (.Attribute o "append" p1) [a] [] p2) (tBM X.K "list" rAppend (tVar i) (tCons (tZ X.K fa) tNil))) :
  DS X H0 (.Expr (.Call (.Attribute o "append" p1) [a] [] p2) pos) (Z.sAppend i fa):=PS.imp (ps_expr hbm hs) fun D σ H ⟨ρ,fl,rs,e,k⟩=>by
 obtain ⟨d,ea,e⟩:=Z.Res.bind_ok e
 split at e
 ·rename_i xs ei
  unfold Z.guard at e
  split at e
  ·rename_i hl
   cases e
   obtain ⟨v,si,q,us,rfl,hq,t⟩:=rs.re.get i _ ei
   refine ⟨.ref q,si,.inl ⟨rfl,us,SqL.of hq⟩,ρ,d,rs.re,ea,fun v' H1 s1 dv=>?_⟩
   have hq1:H1 q=some (.lst us):=s1 _ _ hq
   refine ⟨q,us,v',rfl,rfl,hq1,by rw [t.length,sizeLine_eq];exact hl,?_⟩
   exact k σ _ ((stb s1).trans (stb_lst hq1)) ((rs.up s1).chg ei si hq1 ((t.up s1).append (Dens.cons dv Dens.nil)))
  ·cases e
 ·cases e
theorem ds_put {i:Nat} {o kx:Expr} {p1:Pos} {fk:Z.EF} (hk:DE X kx fk) (ha:DE X a fa) (hsub:PG X (.Subscript o kx p1) (gSub (tVar i) (tZ X.K fk) rSetL)) (hs:swapsWithSole [.Subscript o kx p1] a pos.line X.env=pure false:=by rfl) (hw:swappedStores [.Subscript o kx p1] a X.env=pure none:=by rfl)
  (h1:(assignEach [.Subscript o kx p1] X.env).map (·.2)=[assign (.Subscript o kx p1) X.env]:=by rfl):DS X H0 (.Assign [.Subscript o kx p1] a pos) (Z.sPut i fk fa):=PS.imp (ps_asg ha hsub hs hw h1) fun D σ H ⟨ρ,fl,rs,e,k⟩=>by
 obtain ⟨d,ea,e⟩:=Z.Res.bind_ok e
 obtain ⟨z,ek,e⟩:=Z.Res.bind_ok e
 split at e
 ·rename_i z xs ei
  split at e
  ·rename_i j hj
   cases e
   obtain ⟨v,si,q,us,rfl,hq,t⟩:=rs.re.get i _ ei
   refine ⟨ρ,d,rs.re,ea,fun v' H1 s1 dv=>⟨.ref q,si,ρ,_,rs.re.up s1,ek,fun w H2 s2 dw=>?_⟩⟩
   have hq2:H2 q=some (.lst us):=s2 _ _ (s1 _ _ hq)
   simp only [Den] at dw
   refine ⟨q,us,z,j,rfl,dw,hq2,by rw [t.length];exact hj,?_⟩
   have s12:=s1.trans s2
   exact k σ _ ((stb s12).trans (stb_lst hq2)) ((rs.up s12).chg ei si hq2 ((t.up s12).set j (dv.up s2)))
  ·cases e
 ·cases e
end
end ZS
namespace ZS
open PySem PySem.Spec PyProof.Rows L2
theorem closure_of {env : Env} : ∀ (names : List (Str × NameKind)) (acc : List (Str × Addr)), (∀ y ∈ names, y.2 = .free → ∃ c, env.cells.lookup y.1 = some c) → (∀ x c, acc.lookup x = some c → env.cells.lookup x = some c) →
  ∃ cl,(forIn names acc fun (x:Str×NameKind) (cs:List (Str×Addr))=>(if (x.2==NameKind.free)=true then do let c ←cellOf env x.1;pure (ForInStep.yield ((x.1,c) :: cs)) else pure (ForInStep.yield cs):Sem (ForInStep (List (Str×Addr)))))=pure cl ∧
   (∀ x c,cl.lookup x=some c→env.cells.lookup x=some c)∧(∀ x,(acc.lookup x).isSome=true→(cl.lookup x).isSome=true)∧(∀ y∈names,y.2=.free→(cl.lookup y.1).isSome=true)
 | [],acc,_,ha=>⟨acc,rfl,ha,fun _ h=>h,fun y hy=>by cases hy⟩
 | (n, k) :: r, acc, hn, ha => by
  by_cases hk:k=.free
  ·subst hk
   obtain ⟨c,hc⟩:=hn (n,.free) List.mem_cons_self rfl
   have ha':∀ x d,((n,c) :: acc).lookup x=some d→env.cells.lookup x=some d:=fun x d e=>by
    rw [List.lookup_cons] at e
    split at e
    ·rename_i q;cases e;rw [beq_iff_eq.mp q];exact hc
    ·exact ha x d e
   obtain ⟨cl,e,h1,h2,h3⟩:=closure_of r ((n,c) :: acc) (fun y hy=>hn y (List.mem_cons_of_mem _ hy)) ha'
   have self:(cl.lookup n).isSome=true:=h2 n (by rw [List.lookup_cons_self];rfl)
   refine ⟨cl,?_,h1,fun x hx=>h2 x ?_,fun y hy hf=>?_⟩
   ·rw [List.forIn_cons]
    simp only [beq_self_eq_true,if_true]
    have:cellOf env n=pure c:=by unfold cellOf;rw [hc]
    rw [this]
    exact e
   ·rw [List.lookup_cons]
    split
    ·rfl
    ·exact hx
   ·rcases List.mem_cons.mp hy with rfl | hy
    ·exact self
    ·exact h3 y hy hf
  ·obtain ⟨cl,e,h1,h2,h3⟩:=closure_of r acc (fun y hy=>hn y (List.mem_cons_of_mem _ hy)) ha
   have hb:(k==NameKind.free)=false:=by simpa using hk
   refine ⟨cl,?_,h1,h2,fun y hy hf=>?_⟩
   ·rw [List.forIn_cons]
    simp only [hb,Bool.false_eq_true,if_false]
    exact e
   ·rcases List.mem_cons.mp hy with rfl | hy
    ·exact absurd hf hk
    ·exact h3 y hy hf
theorem closureFor_of {env:Env} {scope:Scope} (hn:∀ y∈scope.names,y.2=.free→∃ c,env.cells.lookup y.1=some c) :
  ∃ cl,closureFor scope env=pure cl∧(∀ x c,cl.lookup x=some c→env.cells.lookup x=some c)∧(∀ y∈scope.names,y.2=.free→(cl.lookup y.1).isSome=true):=by
 obtain ⟨cl,e,h1,_,h3⟩:=closure_of (env:=env) scope.names [] hn (fun x c e=>by cases e)
 refine ⟨cl,?_,h1,h3⟩
 unfold closureFor
 first
  | exact e
  | (simp only [bind_pure];exact e)
  | (rw [show _=_ from e];rfl)
theorem lookup_relabel {env : Env} {x : Str} : ∀ (names : List (Str × NameKind)), (names.map fun (n, k) => if (k == NameKind.free && env.scope.kind == .function && env.kindOf n == some .cell) = true then (n, NameKind.cell) else (n, k)).lookup x = (names.lookup x).map fun k => if (k == NameKind.free && env.scope.kind == .function && env.kindOf x == some .cell) = true then NameKind.cell else k
 | []=>rfl
 | (n, k) :: r => by
  have ih:=@lookup_relabel env x r
  show List.lookup x ((if (k==NameKind.free&&env.scope.kind==.function&&env.kindOf n==some .cell)=true then (n,NameKind.cell) else (n,k)) :: _)=_
  by_cases hx:x=n
  ·subst hx
   by_cases hc:(k==NameKind.free&&env.scope.kind==.function&&env.kindOf x==some .cell)=true
   ·rw [if_pos hc,List.lookup_cons_self,List.lookup_cons_self,Option.map_some,if_pos hc]
   ·rw [if_neg hc,List.lookup_cons_self,List.lookup_cons_self,Option.map_some,if_neg hc]
  ·have hb:(x==n)=false:=by simpa using hx
   by_cases hc:(k==NameKind.free&&env.scope.kind==.function&&env.kindOf n==some .cell)=true
   ·rw [if_pos hc,List.lookup_cons,List.lookup_cons,hb]
    exact ih
   ·rw [if_neg hc,List.lookup_cons,List.lookup_cons,hb]
    exact ih
abbrev blk (X:Cx) (N':List Str) (scope:Scope) (cl:List (Str×Addr)) (C:Addr) (fp:List Addr) (s₂:Shared) (H₂:Hp):Cx :=
 { prog:=X.prog,w:=X.w,K:=X.K,mg:=X.mg,base:=X.base,A:=X.A,N:=N',s₀:=s₂,H₀:=H₂,env:=compEnvC scope cl C X.env,outer:=X.stack,stack:=X.stack,ex:=fp,fn:=fun _=>false,calm:=X.calm,pn:=[],xe:=fun _ _=>False }
structure Blk (N N':List Str) (n:Nat) (is:List Nat) (sc osc:Scope):Prop where
 kind:sc.kind=.function
 cell:∀ y∈sc.names,y.2≠.cell
 loc:∀ y∈sc.names,y.2=.local→sc.names.lookup y.1=some .local
 free:∀ y∈sc.names,y.2=.free→osc.names.lookup y.1=some .cell∨osc.names.lookup y.1=some .free
 len:N'.length=n+is.length
 cap:∀ (j i:Nat),is[j]?=some i→∃ x,N'[n+j]?=some x∧N[i]?=some x∧sc.names.lookup x=some .free
 own:∀ (j:Nat),j < n→∃ x,N'[j]?=some x∧sc.names.lookup x=some .local
section
variable {X:Cx} {tg e a b elt iter:Expr} {ifs:List Expr} {pos:Pos} {N':List Str} {n:Nat} {is:List Nat} {scope:Scope}
def sCap (σ:St) (n:Nat) (is:List Nat):St:=List.replicate n none++is.map fun i=>(σ[i]?).join
theorem cap_noown (n:Nat) (is:List Nat) (ρ:Z.Env) (i:Nat) (xs:List Z.D):(List.replicate n none++Z.capt ρ is:Z.Env)[i]?≠some (some (.own xs)):=by
 intro e
 by_cases hi:i < n
 ·rw [List.getElem?_append_left (by simpa using hi),List.getElem?_replicate] at e
  split at e<;>cases e
 ·rw [List.getElem?_append_right (by simpa using hi)] at e
  unfold Z.capt at e
  rw [List.getElem?_map] at e
  cases q:is[i-(List.replicate n (none:Option Z.L)).length]? with
  | none=>rw [q] at e;cases e
  | some j =>
   rw [q] at e
   have e':Z.capt1 ρ j=some (.own xs):=Option.some.inj e
   unfold Z.capt1 at e'
   split at e'<;>cases e'
theorem cap_nodic (n:Nat) (is:List Nat) (ρ:Z.Env) (i:Nat) (ks:Z.DK):(List.replicate n none++Z.capt ρ is:Z.Env)[i]?≠some (some (.dc ks)):=by
 intro e
 by_cases hi:i < n
 ·rw [List.getElem?_append_left (by simpa using hi),List.getElem?_replicate] at e
  split at e<;>cases e
 ·rw [List.getElem?_append_right (by simpa using hi)] at e
  unfold Z.capt at e
  rw [List.getElem?_map] at e
  cases q:is[i-(List.replicate n (none:Option Z.L)).length]? with
  | none=>rw [q] at e;cases e
  | some j =>
   rw [q] at e
   have e':Z.capt1 ρ j=some (.dc ks):=Option.some.inj e
   unfold Z.capt1 at e'
   split at e'<;>cases e'
theorem re_cap {K : PySem.W.Frag} {H H' : Hp} {σ : St} {ρ : Z.Env} (h : RE K H σ ρ) (s : Same H H') : RS K H H' (sCap σ n is) (List.replicate n none ++ Z.capt ρ is) := by
 have key:∀ (i:Nat) (l:Z.L),(List.replicate n none++Z.capt ρ is:Z.Env)[i]?=some (some l)→∃ v,(sCap σ n is)[i]?=some (some v)∧RL K H l v:=?_
 refine ⟨s,⟨by simp [sCap,Z.capt],fun i l e=>let ⟨v,h1,h2⟩:=key i l e;⟨v,h1,h2.up s⟩,fun i j xs ys q e1=>absurd e1 (cap_noown n is ρ i xs)⟩,fun i xs q e1=>absurd e1 (cap_noown n is ρ i xs),fun i xs e1=>let ⟨v,h1,h2⟩:=key i _ e1;⟨v,h1,DenB.z h2⟩,DicOk.non (cap_nodic n is ρ)⟩
 intro i l e
 by_cases hi:i < n
 ·rw [List.getElem?_append_left (by simpa using hi),List.getElem?_replicate] at e
  split at e<;>cases e
 ·rw [List.getElem?_append_right (by simpa using hi)] at e
  unfold sCap
  rw [List.getElem?_append_right (by simpa using hi)]
  simp only [List.length_replicate] at e ⊢
  unfold Z.capt at e
  rw [List.getElem?_map] at e ⊢
  cases q:is[i-n]? with
  | none=>rw [q] at e;cases e
  | some j =>
   rw [q] at e
   have e':Z.capt1 ρ j=some l:=Option.some.inj e
   unfold Z.capt1 at e'
   split at e'
   ·rename_i d hd
    cases e'
    obtain ⟨v,h1,h2⟩:=h.get j _ hd
    refine ⟨v,?_,h2⟩
    simp [h1]
   ·rename_i d hd
    cases e'
    obtain ⟨v,h1,h2⟩:=h.get j _ hd
    refine ⟨v,?_,h2⟩
    simp [h1]
   ·rename_i d hd
    cases e'
    obtain ⟨v,h1,h2⟩:=h.get j _ hd
    refine ⟨v,?_,h2⟩
    simp [h1]
   ·cases e'
theorem codeAny_compLoop_go {prog:Program} {w:World} {A:Around} {R:Result→Shared→Prop} {s:Shared} {elt target iter:Expr} {ifs:List Expr} {scope:Scope} {pos:Pos} {it acc:Value} {env:Env} (I:Nat→Shared→Prop)
  (turn : ∀ n s, I n s → wpAny (model prog w) A (pyNext it) (fun r s₁ => match r with
   | none=>R (.ok .next) s₁
   | some v=>wpAny (model prog w) A (letOwnedTupleGo target it v) (fun _ s₁=>wpAny (model prog w) A (assign target env v) (fun _ s₂ =>
     wpAny (model prog w) A (forIn ifs true fun c r=>if r=true then do let ok ←isTrue c env (eval c env);pure (ForInStep.yield ok) else pure (ForInStep.yield r)) (fun ok s₃ =>
      if ok=true then wpAny (model prog w) A (eval elt env) (fun x s₄ =>
       wpAny (model prog w) A (call (.builtin "list.append") [acc,x]) (fun _ s₅=>∃ m,m < n∧I m s₅) (fun _ _=>False) s₄) (fun _ _=>False) s₃
      else ∃ m,m < n∧I m s₃) (fun _ _=>False) s₂) (fun _ _=>False) s₁) (fun _ _=>False) s₁) (fun _ _=>False) s)
  (n:Nat) (h:I n s) :
  codeAny (model prog w) A (.compLoop (.ListComp elt [⟨target,iter,ifs,0⟩] scope pos) 0 it acc env) R s:=by
 refine codeAny_loop rfl I (fun n s hI=>?_) n h
 show wpAny _ A ((compTurn (.ListComp elt [⟨target,iter,ifs,0⟩] scope pos) 0 it acc env).onRaise (fun x=>do noteFrame x env;theTreesLotGoes x)) _ _ s
 refine wpAny_noted ?_
 rw [compTurn_list]
 refine wpAny_bind (wpAny_standAt (wpAny_bind (wpAny_mono (turn n s hI) (fun r s₁ h₁=>?_) fun _ _ h'=>h'.elim)))
 cases r with
 | none=>exact wpAny_pure h₁
 | some v =>
  refine wpAny_bind (wpAny_mono h₁ (fun _ s₁ h₁=>?_) fun _ _ h'=>h'.elim)
  refine wpAny_bind (wpAny_mono h₁ (fun _ s₂ h₂=>wpAny_bind (wpAny_mono h₂ (fun ok s₃ h₃=>?_) fun _ _ h'=>h'.elim)) fun _ _ h'=>h'.elim)
  cases ok with
  | false=>exact wpAny_pure ⟨rfl,h₃⟩
  | true =>
   exact wpAny_bind (wpAny_bind (wpAny_mono h₃ (fun x s₄ h₄=>wpAny_bind (wpAny_mono h₄ (fun _ s₅ h₅=>wpAny_pure (wpAny_pure ⟨rfl,h₅⟩)) fun _ _ h'=>h'.elim)) fun _ _ h'=>h'.elim))
structure Off (X:Cx) (pins:List (Addr×Obj)) (H:Hp) (C:Addr):Prop where
 free:H C=none
 loc:C≠X.env.locals
 new:X.s₀.heap.objs.size≤C
 cell:∀ x c,X.env.cells.lookup x=some c→c≠C
 pin:∀ p∈X.pn++pins,p.1≠C
theorem Off.inv {pins:List (Addr×Obj)} {σ:St} {H:Hp} {s:Shared} {C:Addr} {h':Heap} (o:Off X pins H C) (I:Inv X pins σ H s) (hs:Heap.SameBut C s.heap h'):Inv X pins σ H { s with heap:=h' } :=
 I.turned (t':=s.toks) (fun b ob hb e=>(hs.2 b hb).trans e) o.free o.loc (.inr o.new) o.cell o.pin
def Ran (X:Cx) (pins:List (Addr×Obj)) (σ:St) (H₂:Hp) (ys:List Z.D) (acc:Value) (C:Addr) (s':Shared):Prop :=
 ∃ D H' vs m,acc=.ref D∧s'.heap.Ns C m∧Inv X pins σ H' s'∧Off X pins H' C∧H₂ D=none∧Same H₂ H'∧H' D=some (.lst vs)∧Dens X.K H' ys vs
theorem comp_ran {it : Addr} {fp : List Addr} {tn : Nat → Heap → Prop} {J : It} {pins : List (Addr × Obj)} {σ : St} {ρ : Z.Env} {H₂ : Hp} {s₂ : Shared} {E : Value → Shared → Prop} {cl : List (Str × Addr)} {G : Z.GF} {t : Z.TF} {fe : Z.EF} {ds ys : List Z.D}
  (hcalm:X.calm=true) (B:Blk X.N N' n is scope X.env.scope) (I2:Inv X pins σ H₂ s₂) (T:Turn X.prog X.w X.K tg J fp it tn) (st0:tn 0 s₂.heap) (fo:∀ b∈fp,FpOk X pins H₂ b) (z:ItZ X.K J (Same H₂) ds) (re:RE X.K H₂ σ ρ)
  (hcl1:∀ x c,cl.lookup x=some c→X.env.cells.lookup x=some c) (hcl2:∀ y∈scope.names,y.2=.free→(cl.lookup y.1).isSome=true)
  (hG:∀ d ρ ρ1,G d ρ=.ok ρ1→ρ1.length=ρ.length∧∀ i,n≤i→ρ1[i]?=ρ[i]?)
  (hg:∀ C s H H0,DG (blk X N' scope cl C fp s H) H0 tg G)
  (ht:∀ (C:Addr) (s s':Shared) (H:Hp) (pins':List (Addr×Obj)) (σ':St) (H':Hp) (Q:Bool→Hp→Prop),Inv (blk X N' scope cl C fp s H) pins' σ' H' s'→tZt X.K t σ' H' Q →
   wpAny (model X.prog X.w) X.A (forIn ifs true fun c r=>if r=true then do let ok ←isTrue c (compEnvC scope cl C X.env) (eval c (compEnvC scope cl C X.env));pure (ForInStep.yield ok) else pure (ForInStep.yield r)) (TP (blk X N' scope cl C fp s H) pins' σ' Q) (fun _ _=>False) s')
  (he:∀ C s H,DE (blk X N' scope cl C fp s H) elt fe) (hlen:ds.length≤Z.line) (ego:Z.compGo G t fe (List.replicate n none++Z.capt ρ is) ds=.ok ys) :
  wpAny (model X.prog X.w) X.A (newList []) (fun acc s₃=>wpAny (model X.prog X.w) X.A (newFunctionEnv scope X.env.globals cl [] X.env.qual none .none (some X.env)) (fun cenv s₄ =>
   codeAny (model X.prog X.w) X.A (.compStart (.ListComp elt [⟨tg,iter,ifs,0⟩] scope pos) 0 (.ref it) acc { cenv with scope:=relabel scope X.env }) (fun r s'=>r=.ok .next∧Ran X pins σ H₂ ys acc cenv.locals s') s₄) E s₃) E s₂:=by
 refine wpAny_newObj_type (wpAny_newFunctionEnv B.cell (by intro y hy;simp at hy) (fun h₁ hns₁ hsb₁=>?_) B.kind)
 dsimp only at hns₁ hsb₁ ⊢
 generalize hH2:s₂.heap.push { cls:=.type "list",dict:=none,data:=.seq ([]:List Value).toArray }=HH at hns₁ hsb₁ ⊢
 have hC:HH.objs.size=s₂.heap.objs.size+1:=by rw [←hH2,Heap.size_push]
 have hDC:s₂.heap.objs.size≠HH.objs.size:=by rw [hC];exact Nat.ne_of_lt (Nat.lt_succ_self _)
 have below:∀ b,b < s₂.heap.objs.size→b≠HH.objs.size∧b≠s₂.heap.objs.size:=fun b hb=>⟨by rw [hC];exact Nat.ne_of_lt (Nat.lt_succ_of_lt hb),Nat.ne_of_lt hb⟩
 have old:∀ b o,s₂.heap.get? b=some o→h₁.get? b=some o:=fun b o e=>hsb₁.extBut b o (below b (Heap.lt_size e)).1 (Heap.get?_push_of_some _ (hH2▸Heap.get?_push_of_some _ e))
 have hacc:h₁.get? s₂.heap.objs.size=some { cls:=.type "list",data:=.seq ([]:List Value).toArray }:=hsb₁.extBut _ _ hDC (Heap.get?_push_of_some _ (hH2▸Heap.get?_push_size _ rfl))
 have fpo:∀ b∈fp,∃ o,s₂.heap.get? b=some o∧∀ v,o.data≠.cell v:=T.obj 0 _ st0
 have fplt:∀ b∈fp,b < s₂.heap.objs.size:=fun b hb=>let ⟨_,e,_⟩:=fpo b hb;Heap.lt_size e
 generalize hD:s₂.heap.objs.size=D at hDC below old hacc hC ⊢
 generalize hCC:HH.objs.size=C at hns₁ hsb₁ hDC below hC ⊢
 have hDn:H₂ D=none:=I2.hok.fresh (by rw [hD];exact Nat.le_refl _)
 have hCn:H₂ C=none:=I2.hok.fresh (by rw [hD,hC];exact Nat.le_succ _)
 -- the block's context is in order
 have ok : (blk X N' scope cl C fp s₂ H₂).Ok := by
  refine ⟨I2.ok.mod,B.kind,I2.ok.glob,I2.ok.blt,by show s₂.heap.objs.size≤C;rw [hD,hC];exact Nat.le_succ _,fun x y c e1 e2=>I2.ok.inj x y c (hcl1 x c e1) (hcl1 y c e2),fun x hx=>?_,fun x c hf=>(by cases hf),I2.ok.hd,I2.ok.frames,.inl rfl,
   fun b hb=>⟨(below b (by rw [←hD];exact fplt b hb)).1,fun x c e=>(fo b hb).2.2.2.2.1 x c (hcl1 x c e)⟩,I2.bs,Nat.le_trans I2.ok.bsz I2.sz,fun b o e hb=>?_,fun b hb z=>?_,I2.stack,I2.stkFree⟩
  ·have hx':(relabel scope X.env).names.lookup x=some .cell∨(relabel scope X.env).names.lookup x=some .free:=hx
   have e:=lookup_relabel (env:=X.env) (x:=x) scope.names
   have e':(relabel scope X.env).names.lookup x=_:=e
   rw [e'] at hx'
   cases q:scope.names.lookup x with
   | none=>rw [q] at hx';rcases hx' with h | h<;>cases h
   | some k =>
    have hm:=PySem.mem_of_lookup q
    have hk:k=.free:=by
     rw [q] at hx'
     simp only [Option.map_some] at hx'
     by_cases hc:(k==NameKind.free&&X.env.scope.kind==.function&&X.env.kindOf x==some .cell)=true
     ·rw [Bool.and_eq_true,Bool.and_eq_true] at hc
      exact beq_iff_eq.mp hc.1.1
     ·rw [if_neg hc] at hx'
      rcases hx' with h | h
      ·exact absurd (Option.some.inj h) (B.cell _ hm)
      ·exact Option.some.inj h
    subst hk
    exact Option.isSome_iff_exists.mp (hcl2 _ hm rfl)
  ·rcases (fo b hb).2.2.2.1 with q | q
   ·exact I2.ok.noex b o e q
   ·exact absurd (Nat.lt_of_lt_of_le (Heap.lt_size (I2.ok.bs b o e).1) q) (Nat.lt_irrefl _)
  ·rcases List.mem_cons.mp (I2.stkSub b z) with q | q
   ·exact (fo b hb).2.1 q
   ·exact (fo b hb).2.2.1 q
 have Hd:HOk X.prog X.w (upd H₂ D (.lst [])) h₁:=I2.hok.laid old (by rw [hD];exact Nat.le_refl _) ⟨Nat.zero_le _,[],_,.nil,hacc⟩
 have ne2:∀ b,b < s₂.heap.objs.size→b≠D:=fun b hb=>by rw [←hD];exact Nat.ne_of_lt hb
 have cellS:∀ x c,X.env.cells.lookup x=some c→c < s₂.heap.objs.size∧∀ v,s₂.heap.IsCell c v→h₁.IsCell c v:=fun x c e=>by
  obtain ⟨v,o,ho,hd⟩:=I2.cell x c e
  exact ⟨Heap.lt_size ho,fun v' ⟨o',ho',hd'⟩=>⟨o',old c o' ho',hd'⟩⟩
 have I4 : Inv (blk X N' scope cl C fp s₂ H₂) [] (sCap σ n is) (upd H₂ D (.lst [])) { s₂ with heap := h₁, toks := s₂.toks + ([] : List (Str × Value)).length } := by
  refine ⟨ok,rfl,I2.bare,Un.laid old (by rw [hD];exact Nat.le_refl _) hDn,⟨_,hns₁,fun i x v e1 e2 e3=>?_⟩,fun x c e=>?_,by show upd H₂ D (.lst []) C=none;rw [upd_ne (Ne.symm hDC)];exact hCn,fun x c e=>?_,fun p hp=>absurd (show p∈([]:List (Addr×Obj)) from hp) (by simp),Hd,by simp [sCap,B.len],I2.tab.up fun b u _ e=>by rw [upd_ne (ne_of_none e hDn)];exact e⟩
  ·unfold sCap at e2
   by_cases hi:i < n
   ·rw [List.getElem?_append_left (by simpa using hi),List.getElem?_replicate] at e2
    split at e2<;>cases e2
   ·rw [List.getElem?_append_right (by simpa using hi),List.getElem?_map] at e2
    simp only [List.length_replicate] at e2
    cases q:is[i-n]? with
    | none=>rw [q] at e2;cases e2
    | some j =>
     rw [q] at e2
     simp only [Option.map_some] at e2
     obtain ⟨x',c1,c2,c3⟩:=B.cap (i-n) j q
     have hin:n+(i-n)=i:=by lia
     rw [hin] at c1
     have e1':N'[i]?=some x:=e1
     rw [c1] at e1';cases e1'
     have hσ:σ[j]?=some (some v):=by
      cases r:σ[j]? with
      | none=>rw [r] at e2;cases e2
      | some y =>
       rw [r] at e2
       have:y=some v:=by simpa using e2
       rw [this]
     obtain ⟨m,hn,hl⟩:=I2.loc
     have hm:=PySem.mem_of_lookup c3
     have hk:=B.free _ hm rfl
     have hvis:Vis X.env.scope x:=by
      rcases hk with k | k
      ·exact .inr (.inl k)
      ·exact .inr (.inr k)
     obtain ⟨u,ru,lk⟩:=hl j x v c2 hσ hvis
     refine ⟨u,ru,?_⟩
     rcases lk with ⟨k1,_⟩ | ⟨k1,c,hc,hcell⟩
     ·have k1':X.env.scope.names.lookup x=some .local:=k1
      rcases hk with k | k
      ·rw [k] at k1';cases k1'
      ·rw [k] at k1';cases k1'
     ·obtain ⟨c',hc'⟩:=Option.isSome_iff_exists.mp (hcl2 _ hm rfl)
      have:c'=c:=by
       have:=hcl1 x c' hc'
       rw [hc] at this;exact (Option.some.inj this).symm
      subst this
      refine .inr ⟨?_,c',hc',(cellS x c' hc).2 _ hcell⟩
      show (relabel scope X.env).names.lookup x=some .cell∨(relabel scope X.env).names.lookup x=some .free
      have e:=lookup_relabel (env:=X.env) (x:=x) scope.names
      have e':(relabel scope X.env).names.lookup x=_:=e
      rw [e',c3]
      simp only [Option.map_some]
      split
      ·exact .inl rfl
      ·exact .inr rfl
  ·obtain ⟨v,hv⟩:=I2.cell x c (hcl1 x c e)
   exact ⟨v,(cellS x c (hcl1 x c e)).2 v hv⟩
  ·have hlt:=(cellS x c (hcl1 x c e)).1
   rw [upd_ne (ne2 c hlt)]
   exact I2.freeC x c (hcl1 x c e)
 have rs4:RS X.K H₂ (upd H₂ D (.lst [])) (sCap σ n is) (List.replicate n none++Z.capt ρ is):=re_cap re (upd_Same hDn)
 have st4:tn 0 h₁:=T.keep 0 _ _ st0 fun b hb o e=>old b o e
 have fr4:∀ b∈fp,(upd H₂ D (.lst [])) b=none:=fun b hb=>by rw [upd_ne (ne2 b (fplt b hb))];exact (fo b hb).1
 -- what stays true of the iterator's objects
 have stat:∀ {H':Hp},(∀ b∈fp,H' b=none)→∀ b∈fp,FpOk (blk X N' scope cl C fp s₂ H₂) [] H' b:=fun hn b hb=>by
  refine ⟨hn b hb,(below b (by rw [←hD];exact fplt b hb)).1,?_,.inl hb,fun x c e=>(fo b hb).2.2.2.2.1 x c (hcl1 x c e),fun p hp=>absurd (show p∈([]:List (Addr×Obj)) from hp) (by simp)⟩
  intro q
  rcases List.mem_cons.mp (I2.stkSub b q) with q | q
  ·exact (fo b hb).2.1 q
  ·exact (fo b hb).2.2.1 q
 have loop : codeAny (model X.prog X.w) X.A (.compLoop (.ListComp elt [⟨tg, iter, ifs, 0⟩] scope pos) 0 (.ref it) (.ref D) (compEnvC scope cl C X.env)) (fun r s' => r = .ok .next ∧ Ran X pins σ H₂ ys (.ref D) C s')
   { s₂ with heap:=h₁,toks:=s₂.toks+([]:List (Str×Value)).length }:=by
  refine codeAny_compLoop_go (fun m s'=>∃ i σ' H' vs zs,m=ds.length+1-i∧i≤ds.length∧vs.length≤i∧Inv (blk X N' scope cl C fp s₂ H₂) [] σ' H' s'∧tn i s'.heap∧(∀ b∈fp,H' b=none)∧H' D=some (.lst vs)∧Same H₂ H' ∧
   RS X.K H₂ H' σ' (List.replicate n none++Z.capt ρ is)∧(∃ rest,Z.compGo G t fe (List.replicate n none++Z.capt ρ is) (ds.drop i)=.ok rest∧zs++rest=ys)∧Dens X.K H' zs vs) ?_ (ds.length+1)
   ⟨0,sCap σ n is,_,[],[],rfl,Nat.zero_le _,Nat.le_refl _,I4,st4,fr4,upd_same,upd_Same hDn,rs4,⟨ys,by simpa using ego,rfl⟩,Dens.nil⟩
  ·rintro m s' ⟨i,σ3,H3,vs,zs,rfl,hil,hvl,I3,st3,fr3,hD3,sm3,re3,⟨rest,er,ez⟩,dz⟩
   by_cases hlt:i < ds.length
   ·obtain ⟨d,hd⟩:∃ d,ds[i]?=some d:=⟨ds[i],by simp [hlt]⟩
    have hdrop:ds.drop i=d :: ds.drop (i+1):=by
     rw [List.drop_eq_getElem_cons hlt]
     have:ds[i]=d:=by
      have:=List.getElem?_eq_getElem hlt
      rw [this] at hd;exact Option.some.inj hd
     rw [this]
    rw [hdrop] at er
    unfold Z.compGo at er
    obtain ⟨ρ1,eg,er⟩:=Z.Res.bind_ok er
    obtain ⟨c1,ec,er⟩:=Z.Res.bind_ok er
    refine thn (T.item (blk X N' scope cl C fp s₂ H₂) rfl rfl rfl hcalm i [] s' σ3 H3 (fun _ _=>False) I3 (stat fr3) st3 (z.go i d H3 sm3 hd)) fun r s4 ⟨u,hr,h4⟩=>?_
    subst hr
    refine thn h4 fun _ s5 ⟨x,H5,I5,r5,y5,st5,fr5⟩=>?_
    obtain ⟨sy,dx⟩:=z.yld i d H3 H5 x sm3 hd y5
    replace re3:=re3.up sy
    replace sm3:=sm3.trans sy
    replace hD3:=sy _ _ hD3
    replace dz:=dz.up sy
    have I5':=I5.pinned (stat fr5) (T.obj _ _ st5)
    have rs5:RS X.K H₂ H5 σ3 (List.replicate n none++Z.capt ρ is):=re3
    refine thn (hg C s₂ H₂ H₂ _ s5 σ3 H5 x u (fun σ6 H6=>Same H5 H6∧RS X.K H₂ H6 σ6 ρ1) I5' r5 ⟨_,d,ρ1,rs5,dx,eg,fun σ' H' s' r'=>⟨s',r'⟩⟩) fun _ s6 ⟨σ6,H6,I6,sm6,rs6⟩=>?_
    refine thn (ht C s₂ s6 H₂ _ σ6 H6 (fun b H7=>b=c1∧Same H6 H7) I6 ⟨ρ1,c1,rs6.re,ec,fun H7 s7=>⟨rfl,s7⟩⟩) fun ok s7 ⟨H7,I7,e7,sm7⟩=>?_
    subst e7
    have sm57:Same H5 H7:=sm6.trans sm7
    have re7:RE X.K H7 σ6 ρ1:=rs6.re.up sm7
    have re0:∀ {H9:Hp},Same H7 H9→RS X.K H₂ H9 σ6 (List.replicate n none++Z.capt ρ is):=fun {H9} s9=>by
     obtain ⟨gl,gk⟩:=hG d _ ρ1 eg
     refine ⟨(rs6.same.trans sm7).trans s9,⟨by rw [←gl];exact re7.len,fun j l e=>?_,fun j k xs ys q e1=>absurd e1 (cap_noown n is ρ j xs)⟩,fun j xs q e1=>absurd e1 (cap_noown n is ρ j xs),fun j xs e=>?_,DicOk.non (cap_nodic n is ρ)⟩
     rotate_left
     ·by_cases hj:n≤j
      ·rw [←gk j hj] at e
       exact rs6.bors j xs e
      ·rw [List.getElem?_append_left (by simp;lia),List.getElem?_replicate] at e
       split at e<;>cases e
     by_cases hj:n≤j
     ·rw [←gk j hj] at e
      exact (re7.up s9).get j l e
     ·rw [List.getElem?_append_left (by simp;lia),List.getElem?_replicate] at e
      split at e<;>cases e
    have fin:∀ {H9:Hp} {s9:Shared} (vs9:List V) (zs9:List Z.D),Inv (blk X N' scope cl C fp s₂ H₂) ([]++pinsAt fp s5.heap) σ6 H9 s9→H9 D=some (.lst vs9)→vs9.length≤i+1→Same H₂ H9→RS X.K H₂ H9 σ6 (List.replicate n none++Z.capt ρ is) →
      (∃ rest,Z.compGo G t fe (List.replicate n none++Z.capt ρ is) (ds.drop (i+1))=.ok rest∧zs9++rest=ys)→Dens X.K H9 zs9 vs9→∃ m,m < ds.length+1-i∧∃ i σ' H' vs zs,m=ds.length+1-i∧i≤ds.length∧vs.length≤i∧Inv (blk X N' scope cl C fp s₂ H₂) [] σ' H' s9∧tn i s9.heap∧(∀ b∈fp,H' b=none)∧H' D=some (.lst vs)∧Same H₂ H' ∧
       RS X.K H₂ H' σ' (List.replicate n none++Z.capt ρ is)∧(∃ rest,Z.compGo G t fe (List.replicate n none++Z.capt ρ is) (ds.drop i)=.ok rest∧zs++rest=ys)∧Dens X.K H' zs vs:=by
     intro H9 s9 vs9 zs9 I9 hD9 hv9 sm9 re9 er9 dz9
     refine ⟨ds.length+1-(i+1),by lia,i+1,σ6,H9,vs9,zs9,rfl,hlt,hv9,I9.unpinned,T.keep _ _ _ st5 fun b hb o e=>(I9.pin (b,o) (List.mem_append_right _ (List.mem_append_right _ (mem_pinsAt hb e)))).1,fun b hb=>?_,hD9,sm9,re9,er9,dz9⟩
     obtain ⟨o,e,_⟩:=T.obj _ _ st5 b hb
     exact (I9.pin (b,o) (List.mem_append_right _ (List.mem_append_right _ (mem_pinsAt hb e)))).2.1
    have hD7:H7 D=some (.lst vs):=sm57 _ _ hD3
    cases ok with
    | false =>
     simp only [Bool.false_eq_true,if_false] at er ⊢
     exact fin vs zs I7 hD7 (Nat.le_succ_of_le hvl) (sm3.trans sm57) (re0 (Same.refl _)) ⟨rest,er,ez⟩ (dz.up sm57)
    | true =>
     simp only [if_true] at er ⊢
     obtain ⟨y,ey,er⟩:=Z.Res.bind_ok er
     obtain ⟨rest2,er2,er⟩:=Z.Res.bind_ok er
     cases er
     refine thn (he C s₂ H₂ _ s7 σ6 H7 (fun v H8=>Same H7 H8∧Den X.K H8 y v) I7 ⟨ρ1,y,re7,ey,fun v H8 s8 d8=>⟨s8,d8⟩⟩) fun u8 s8 ⟨v8,H8,I8,rv8,sm8,dy⟩=>?_
     have hD8:H8 D=some (.lst vs):=sm8 _ _ hD7
     have sm28:Same H₂ H8:=(sm3.trans sm57).trans sm8
     refine thn (mt_append (X:=blk X N' scope cl C fp s₂ H₂) _ s8 σ6 H8 (.ref D) [v8] (.ref D) [u8] (fun v H9=>v=.non∧H9=upd H8 D (.lst (vs++[v8]))) I8 rfl (.cons rv8 .nil) ⟨D,vs,v8,rfl,rfl,hD8,?_,rfl,rfl⟩) fun _ s9 ⟨v9,H9,I9,_,_,e9⟩=>?_
     ·rw [sizeLine_eq]
      have:Z.line=16777216:=rfl
      lia
     subst e9
     have st8:Stb H8 (upd H8 D (.lst (vs++[v8]))):=stb_lst hD8
     have sm9:Same H₂ (upd H8 D (.lst (vs++[v8]))):=fun b o e=>by rw [upd_ne (ne_of_none e hDn)];exact sm28 b o e
     have re8:=re0 sm8
     refine fin (vs++[v8]) (zs++[y]) I9 upd_same (by simp;lia) sm9 ⟨sm9,⟨re8.re.len,fun j l e=>?_,fun j k xs ys q e1=>absurd e1 (cap_noown n is ρ j xs)⟩,fun j xs q e1=>absurd e1 (cap_noown n is ρ j xs),re8.bors,re8.dic⟩ ⟨rest2,er2,by rw [List.append_assoc];exact ez⟩ ((((dz.up sm57).up sm8).append (Dens.cons dy Dens.nil)).ups st8)
     obtain ⟨v,h1,h2⟩:=re8.re.get j l e
     refine ⟨v,h1,?_⟩
     cases l with
     | val dd=>exact Den.ups (show Den X.K H8 dd v from h2) st8
     | own xs=>exact absurd e (cap_noown n is ρ j xs)
     | bor xs =>
      obtain ⟨v',h3,h4⟩:=re8.bors j xs e
      rw [h1] at h3
      cases h3
      exact h4.re h2 re8.same sm9 st8
     | dc ks=>exact absurd e (cap_nodic n is ρ j ks)
     | fdc ks =>
      obtain ⟨q',o',as,rfl,hq',t'⟩:=h2
      exact ⟨q',o',as,rfl,st8.frz _ _ _ hq',t'.ups st8⟩
     | idc ps =>
      obtain ⟨q',o',rfl,hq'⟩:=h2
      exact ⟨q',o',rfl,st8.frz _ _ _ hq'⟩
     | exc c =>
      obtain ⟨q',o',u',C',rfl,hq',r1,r2,r3⟩:=h2
      exact ⟨q',o',u',C',rfl,st8.frz _ _ _ hq',r1,r2,r3.ups st8⟩
   ·have:i=ds.length:=by lia
    subst this
    rw [List.drop_length] at er
    cases er
    rw [List.append_nil] at ez
    subst ez
    refine thn (T.done (blk X N' scope cl C fp s₂ H₂) rfl rfl rfl hcalm _ [] s' σ3 H3 (fun _ _=>False) I3 (stat fr3) st3 (z.stop H3 sm3)) fun r s4 ⟨hr,J4⟩=>?_
    subst hr
    obtain ⟨m',hn',_⟩:=J4.loc
    have neC:∀ b o,s₂.heap.get? b=some o→b≠C:=fun b o e=>(below b (by rw [←hD];exact Heap.lt_size e)).1
    have I9:Inv X pins σ H3 s4:=I2.call' (s':=s4) J4.os J4.base J4.hok J4.bare fun b hb=>⟨(fo b hb).2.2.2.1,(fo b hb).2.1,(fo b hb).2.2.2.2.1,(fo b hb).2.2.2.2.2⟩
    have szC:s₂.heap.objs.size≤C:=by rw [hD,hC];exact Nat.le_succ _
    refine ⟨rfl,D,H3,vs,m',rfl,hn',I9,⟨J4.free,?_,Nat.le_trans I2.sz szC,fun x c e=>?_,fun p hp=>?_⟩,hDn,sm3,hD3,dz⟩
    ·exact Nat.ne_of_gt (Nat.lt_of_lt_of_le I2.lt szC)
    ·exact Nat.ne_of_lt (Nat.lt_of_lt_of_le (cellS x c e).1 szC)
    ·exact neC p.1 p.2 (I2.pin p hp).1
 have hst:codeAny (model X.prog X.w) X.A (.compStart (.ListComp elt [⟨tg,iter,ifs,0⟩] scope pos) 0 (.ref it) (.ref D) (compEnvC scope cl C X.env)) (fun r s'=>r=.ok .next∧Ran X pins σ H₂ ys (.ref D) C s')
   { s₂ with heap:=h₁,toks:=s₂.toks+([]:List (Str×Value)).length }:=codeAny_compStart_list loop (T.self _ 0 _ _ _ st4 loop)
 exact hst
theorem gName_keep {k:Nat} (h:k < n) (d:Z.D) (ρ ρ1:Z.Env) (e:Z.gName k d ρ=.ok ρ1):ρ1.length=ρ.length∧∀ i,n≤i→ρ1[i]?=ρ[i]?:=by
 cases e
 exact ⟨by simp,fun i hi=>List.getElem?_set_ne (by lia)⟩
theorem gNames_keep:∀ (ks:List Nat),(∀ k∈ks,k < n)→∀ (ds:List Z.D) (ρ ρ1:Z.Env),Z.gNames ks ds ρ=.ok ρ1→ρ1.length=ρ.length∧∀ i,n≤i→ρ1[i]?=ρ[i]?
 | [],_,[],ρ,ρ1,e=>by cases e;exact ⟨rfl,fun _ _=>rfl⟩
 | [],_,_ :: _,_,_,e=>by cases e
 | _ :: _,_,[],_,_,e=>by cases e
 | k :: ks,h,d :: ds,ρ,ρ1,e=>by
  obtain ⟨h1,h2⟩:=gNames_keep ks (fun k hk=>h k (List.mem_cons_of_mem _ hk)) ds _ ρ1 e
  refine ⟨by rw [h1];simp,fun i hi=>?_⟩
  rw [h2 i hi]
  have:=h k List.mem_cons_self
  exact List.getElem?_set_ne (by lia)
theorem gTup_keep {ks:List Nat} (h:∀ k∈ks,k < n) (d:Z.D) (ρ ρ1:Z.Env) (e:Z.gTup ks d ρ=.ok ρ1):ρ1.length=ρ.length∧∀ i,n≤i→ρ1[i]?=ρ[i]?:=by
 unfold Z.gTup at e
 split at e
 ·exact gNames_keep ks h _ ρ ρ1 e
 ·cases e
def Tst (X:Cx) (ifs:List Expr) (t:Z.TF):Prop:=∀ (pins:List (Addr×Obj)) (s:Shared) (σ:St) (H:Hp) (Q:Bool→Hp→Prop),Inv X pins σ H s→tZt X.K t σ H Q →
 wpAny (model X.prog X.w) X.A (forIn ifs true fun c r=>if r=true then do let ok ←isTrue c X.env (eval c X.env);pure (ForInStep.yield ok) else pure (ForInStep.yield r)) (TP X pins σ Q) X.xe s
theorem tst_no:Tst X [] Z.tTrue:=fun pins s σ H Q I ⟨ρ,b,r,e,k⟩=>by
 cases e
 exact wpAny_tests_nil ⟨H,I,k H (Same.refl H)⟩
theorem tst_one {c:Expr} {t:Z.TF} (h:DT X c t):Tst X [c] t:=fun pins s σ H Q I w=>wpAny_tests_one (h pins s σ H Q I w)
theorem comp_all {it:Z.LF} {G:Z.GF} {t:Z.TF} {fe:Z.EF} {pins:List (Addr×Obj)} {σ:St} {H:Hp} {s:Shared} {ρ:Z.Env} {ys:List Z.D} {use:Option (Value→Sem Unit)} {Q:Value→Shared→Prop} {ps:Pos} (hcalm:X.calm=true) (hi:DI X tg iter it) (B:Blk X.N N' n is scope X.env.scope)
  (hG:∀ d ρ ρ1,G d ρ=.ok ρ1→ρ1.length=ρ.length∧∀ i,n≤i→ρ1[i]?=ρ[i]?)
  (hg:∀ cl C fp s H H0,DG (blk X N' scope cl C fp s H) H0 tg G) (ht:∀ cl C fp s H,Tst (blk X N' scope cl C fp s H) ifs t) (he:∀ cl C fp s H,DE (blk X N' scope cl C fp s H) elt fe)
  (hs:∀ x,foldedSetIterable iter X.env x=pure x)
  (I:Inv X pins σ H s) (re:RE X.K H σ ρ) (ec:Z.lComp it n is G t fe ρ=.ok ys)
  (fin:∀ acc C s' H₂,Same H H₂→Ran X pins σ H₂ ys acc C s'→compPost (model X.prog X.w) X.A X.xe use Q acc C (.ok .next) s') :
  wpAny (model X.prog X.w) X.A (comprehension (.ListComp elt [⟨tg,iter,ifs,0⟩] scope pos) scope X.env ps (newList []) false (eval iter X.env) use) Q X.xe s:=by
 obtain ⟨ds,ei,ec⟩:=Z.Res.bind_ok ec
 unfold Z.guard at ec
 split at ec
 ·rename_i hlen
  have hfree:∀ y∈scope.names,y.2=.free→∃ c,X.env.cells.lookup y.1=some c:=fun y hy hf=>I.ok.has y.1 (B.free y hy hf)
  obtain ⟨cl,hcl,hcl1,hcl2⟩:=closureFor_of hfree
  refine wpAny_comprehension_free (use:=use) rfl hs hcl B.kind B.loc ?_
  refine thn (hi pins s σ H (fun J H₂=>Same H H₂∧ItZ X.K J (Same H₂) ds) I ⟨ρ,ds,re,ei,fun J H' s' z=>⟨s',z⟩⟩) fun x s₁ h₁=>?_
  refine thn h₁ fun itv s₂ ⟨it',fp,tn,J,H₂,e2,I2,T,st0,fo,sm,z⟩=>?_
  subst e2
  refine thn (comp_ran (iter:=iter) (pos:=pos) (cl:=cl) hcalm B I2 T st0 fo z (re.up sm) hcl1 hcl2 hG (fun C s H H0=>hg cl C fp s H H0) (fun C s s' H' pins' σ' H'' Q' I' w=>ht cl C fp s H' pins' s' σ' H'' Q' I' w) (fun C s H=>he cl C fp s H) hlen ec) fun acc s₃ h₃=>?_
  refine thn h₃ fun cenv s₄ h₄=>codeAny_mono h₄ fun r s' ⟨er,ran⟩=>?_
  subst er
  exact fin acc cenv.locals s' H₂ sm ran
 ·cases ec
theorem dl_comp {it:Z.LF} {G:Z.GF} {t:Z.TF} {fe:Z.EF} (hcalm:X.calm=true) (hi:DI X tg iter it) (B:Blk X.N N' n is scope X.env.scope) (hG:∀ d ρ ρ1,G d ρ=.ok ρ1→ρ1.length=ρ.length∧∀ i,n≤i→ρ1[i]?=ρ[i]?)
  (hg:∀ cl C fp s H H0,DG (blk X N' scope cl C fp s H) H0 tg G) (ht:∀ cl C fp s H,Tst (blk X N' scope cl C fp s H) ifs t) (he:∀ cl C fp s H,DE (blk X N' scope cl C fp s H) elt fe)
  (hs:∀ x,foldedSetIterable iter X.env x=pure x:=by intro _;rfl):DL X (.ListComp elt [⟨tg,iter,ifs,0⟩] scope pos) (Z.lComp it n is G t fe):=by
 intro pins s σ H Q I w
 obtain ⟨ρ,ys,re,e,k⟩:=w
 rw [eval_ListComp]
 refine comp_all (use:=none) hcalm hi B hG hg ht he hs I re e fun acc C s' H₂ sm ran=>?_
 obtain ⟨D,H',vs,m,rfl,hns,I',off,hDn,sm',hD,dz⟩:=ran
 exact ⟨m,hns,fun h' hs'=>⟨.ref D,H',off.inv I' hs',rfl,k D vs H' (sm.trans sm') (sm.free hDn) hD dz⟩⟩
end
section
variable {P:Program} {w:World} {K:PySem.W.Frag} {mg:Str→Option Value} {base:Heap}
theorem start_get {N:List Str} {vs:List V} {ds:List Z.D} {H:Hp} (t:Dens K H ds vs) (hl:vs.length≤N.length):RS K H H (L2.start N vs) (Z.start N.length ds):=by
 have noown:∀ (i:Nat) (xs:List Z.D),(Z.start N.length ds)[i]?≠some (some (.own xs)):=by
  intro i xs e
  unfold Z.start at e
  by_cases hi:i < ds.length
  ·rw [List.getElem?_append_left (by simpa using hi),List.getElem?_map] at e
   cases q:ds[i]? with
   | none=>rw [q] at e;cases e
   | some d=>rw [q] at e;cases e
  ·rw [List.getElem?_append_right (by simpa using hi),List.getElem?_replicate] at e
   split at e<;>cases e
 have nobor:∀ (i:Nat) (xs:Z.D),(Z.start N.length ds)[i]?≠some (some (.bor xs)):=by
  intro i xs e
  unfold Z.start at e
  by_cases hi:i < ds.length
  ·rw [List.getElem?_append_left (by simpa using hi),List.getElem?_map] at e
   cases q:ds[i]? with
   | none=>rw [q] at e;cases e
   | some d=>rw [q] at e;cases e
  ·rw [List.getElem?_append_right (by simpa using hi),List.getElem?_replicate] at e
   split at e<;>cases e
 have nodic:∀ (i:Nat) (ks:Z.DK),(Z.start N.length ds)[i]?≠some (some (.dc ks)):=by
  intro i ks e
  unfold Z.start at e
  by_cases hi:i < ds.length
  ·rw [List.getElem?_append_left (by simpa using hi),List.getElem?_map] at e
   cases q:ds[i]? with
   | none=>rw [q] at e;cases e
   | some d=>rw [q] at e;cases e
  ·rw [List.getElem?_append_right (by simpa using hi),List.getElem?_replicate] at e
   split at e<;>cases e
 have hlen:=t.length
 refine ⟨Same.refl H,⟨?_,fun i l e=>?_,fun i j xs ys q e1=>absurd e1 (noown i xs)⟩,fun i xs q e1=>absurd e1 (noown i xs),fun i xs e1=>absurd e1 (nobor i xs),DicOk.non nodic⟩
 ·unfold Z.start L2.start
  simp
  lia
 ·unfold Z.start at e
  by_cases hi:i < ds.length
  ·rw [List.getElem?_append_left (by simpa using hi),List.getElem?_map] at e
   cases q:ds[i]? with
   | none=>rw [q] at e;cases e
   | some d =>
    rw [q] at e
    cases e
    obtain ⟨v,h1,h2⟩:=t.get q
    refine ⟨v,?_,h2⟩
    unfold L2.start
    rw [List.getElem?_append_left (by simp;lia),List.getElem?_map,h1]
    rfl
  ·rw [List.getElem?_append_right (by simpa using hi),List.getElem?_replicate] at e
   split at e<;>cases e
theorem fnZ {x qual:Str} {st:Stmt} {f:Addr} {fd:FuncData} {N ps:List Str} {k:Nat} {b:Z.SF} (F:Fun K x qual st f fd) (S:FnScope N ps (defScope st))
  (hb:∀ (cdv:Value) (A:Around) (outer:List Env) (s:Shared) (H:Hp) (E:XK),Room k (A.deeper (envOfC qual (defScope st) s.heap.objs.size f cdv)) →
   DSs (cxOf CX0 P w K mg base N qual (defScope st) f cdv A outer s H E).nox H (defBody st) b):FnOk P w K mg base CX0 (k+1) f fd ps (spZ K (Z.fn ps.length N.length b)):=by
 have hlen:∀ (vs:List V) (H:Hp) (Q:VK) (E:XK),spZ K (Z.fn ps.length N.length b) vs H Q E→vs.length=ps.length:=fun vs H Q E ⟨ds,d,t,e,_⟩=>by
  unfold Z.fn at e
  split at e
  ·rename_i h;rw [t.length];exact h
  ·cases e
 refine F.ok S hlen (fun cdv A outer s H vs Q E hr h=>⟨_,hb cdv A outer s H E hr,?_⟩)
 have hl:=hlen vs H Q E h
 obtain ⟨ds,d,t,e,k⟩:=h
 have hpl:ps.length≤N.length:=by have:=congrArg List.length S.pre;rw [List.length_take] at this;lia
 have rs:RS K H H (L2.start N vs) (Z.start N.length ds):=start_get t (by lia)
 unfold Z.fn at e
 split at e
 ·cases eb:b (Z.start N.length ds) with
  | bad=>rw [eb] at e;cases e
  | ok fl =>
   rw [eb] at e
   refine ⟨_,fl,rs,eb,?_⟩
   cases fl with
   | rt d'=>cases e;exact fun v H' s' dv=>k v H' s' dv
   | nx ρ'=>cases e;exact fun σ' H' _ rs'=>k .non H' rs'.same den_non
   | bk ρ'=>cases e
   | ct ρ'=>cases e
 ·cases e
end
end ZS
namespace ZS
open PySem PySem.Spec PyProof.Rows L2
def blkOk (N N':List Str) (n:Nat) (is:List Nat) (sc osc:Scope):Bool :=
 (sc.kind==.function)&&sc.names.all (fun y=>y.2 != .cell)&&sc.names.all (fun y=>y.2 != .local || sc.names.lookup y.1==some .local) &&
 sc.names.all (fun y=>y.2 != .free || osc.names.lookup y.1==some .cell || osc.names.lookup y.1==some .free)&&(N'.length==n+is.length) &&
 (List.range is.length).all (fun j=>match is[j]?,N'[n+j]? with
  | some i,some x=>N[i]?==some x&&sc.names.lookup x==some .free
  | _,_=>false) &&
 (List.range n).all (fun j=>match N'[j]? with
  | some x=>sc.names.lookup x==some .local
  | none=>false)
theorem Blk.of {N N':List Str} {n:Nat} {is:List Nat} {sc osc:Scope} (h:blkOk N N' n is sc osc=true):Blk N N' n is sc osc:=by
 unfold blkOk at h
 simp only [Bool.and_eq_true,List.all_eq_true,beq_iff_eq,Bool.or_eq_true,bne_iff_ne,ne_eq,List.mem_range] at h
 obtain ⟨⟨⟨⟨⟨⟨h1,h2⟩,h3⟩,h4⟩,h5⟩,h6⟩,h7⟩:=h
 refine ⟨h1,h2,fun y hy e=>?_,fun y hy e=>?_,h5,fun j i e=>?_,fun j hj=>?_⟩
 ·rcases h3 y hy with q | q
  ·exact absurd e q
  ·exact q
 ·rcases h4 y hy with (q | q) | q
  ·exact absurd e q
  ·exact .inl q
  ·exact .inr q
 ·have hj:j < is.length:=(List.getElem?_eq_some_iff.mp e).1
  have q:=h6 j hj
  rw [e] at q
  cases r:N'[n+j]? with
  | none=>rw [r] at q;cases q
  | some x =>
   rw [r] at q
   simp only [Bool.and_eq_true,beq_iff_eq] at q
   exact ⟨x,rfl,q.1,q.2⟩
 ·have q:=h7 j hj
  cases r:N'[j]? with
  | none=>rw [r] at q;cases q
  | some x =>
   rw [r] at q
   exact ⟨x,rfl,beq_iff_eq.mp q⟩
structure Def (K:PySem.W.Frag) (mg:Str→Option Value) (x:Str) (st:Stmt) (ps:List Str):Prop where
 ex:∃ f fd,Fun K x x st f fd∧mg x=some (.ref f)∧Binds K fd ps []
structure Cal (P:Program) (w:World) (K:PySem.W.Frag) (mg:Str→Option Value) (base:Heap) (x:Str) (k:Nat) (ps:List Str) (m:List Z.D→Z.Res Z.D):Prop where
 ex:∃ g fd,FnOk P w K mg base CX0 k g fd ps (spZ K m)∧mg x=some (.ref g)∧PySem.W.keepIn K (.ref g)=true∧Binds K fd ps []
theorem Cal.mk' {P:Program} {w:World} {K:PySem.W.Frag} {mg:Str→Option Value} {base:Heap} {x:Str} {k:Nat} {st:Stmt} {N ps:List Str} {b:Z.SF} (d:Def K mg x st ps) (S:FnScope N ps (defScope st))
  (hb:∀ (f:Addr) (cdv:Value) (A:Around) (outer:List Env) (s:Shared) (H:Hp) (E:XK),Room k (A.deeper (envOfC x (defScope st) s.heap.objs.size f cdv)) →
   DSs (cxOf CX0 P w K mg base N x (defScope st) f cdv A outer s H E).nox H (defBody st) b):Cal P w K mg base x (k+1) ps (Z.fn ps.length N.length b):=by
 obtain ⟨f,fd,F,hm,hb'⟩:=d.ex
 exact ⟨f,fd,fnZ F S (hb f),hm,F.kp,hb'⟩
section
variable {X:Cx} {e:Expr} {es:List Expr} {pos:Pos}
theorem de_callC {k:Nat} {ps:List Str} {x:Str} {m:List Z.D→Z.Res Z.D} {ar:Z.AF} {p1:Pos} (C:Cal X.prog X.w X.K X.mg X.base x k ps m) (hr:Room k X.A) (hg:Gl X x)
  (ha:DA X (e :: es) ar) (hdb:(x==("__debug__" : Str))=false:=by decide +kernel) (he:starEach (e :: es) X.env=(false,eval e X.env) :: starEach es X.env:=by rfl) (hpl:(backTo pos (starEach es X.env)).any (·.1)=false:=by rfl) :
  DE X (.Call (.Name x p1) (e :: es) [] pos) (Z.eCall m ar) :=
 let ⟨_,_,F,hm,hk,hb⟩:=C.ex;de_call F hr hg hm hk hb ha hdb he hpl
end
theorem de_globI {X:Cx} {pos:Pos} {x:Str} {i:Int} {t:Tok} (hg:Gl X x) (hm:X.mg x=some (.int i t)) (hb:(x==("__debug__" : Str))=false:=by decide +kernel):DE X (.Name x pos) (Z.eC (.int i)) :=
 de_glob (v:=.int i) hg hm ⟨t,rfl⟩ (fun _=>den_int) hb
theorem script_den {K:PySem.W.Frag} {H:Hp} {a:Addr} {ns:List Int} (hO:Only H) (h:SqL K H a (ns.map V.int)):Den K H (.lst (ns.map Z.D.int)) (.ref a):=by
 refine den_lst ?_ (Dens.zints ns)
 rcases h with (h | ⟨o,h⟩) | h
 ·rcases hO a with z | ⟨o,xs,z⟩ | ⟨q,z⟩
  ·rw [h] at z;cases z
  ·rw [h] at z;cases z
  ·rw [h] at z;cases z
 ·exact .inl ⟨o,h⟩
 ·exact .inr h
theorem law_sp {K:PySem.W.Frag} {H:Hp} {a:Addr} {ns:List Int} {m:List Z.D→Z.Res Z.D} (hO:Only H) (h:SqL K H a (ns.map V.int)) (e:m [.lst (ns.map .int)]=.ok (.bl true)):spZ K m [.ref a] H (fun v _=>v=.bl true) fun _ _ _=>False :=
 ⟨_,_,Dens.cons (script_den hO h) Dens.nil,e,fun v H' _ d=>by simpa only [Den] using d⟩
end ZS
namespace ZS
open PySem PySem.Spec PyProof.Rows L2
section
variable {X:Cx} {e a b:Expr} {pos:Pos} {f fa fb:Z.EF}
theorem str_beqZ (x y:List Nat):((⟨x.toArray⟩:Str)==(⟨y.toArray⟩:Str))=(x==y):=by
 rw [Bool.eq_iff_iff,beq_iff_eq,beq_iff_eq]
 constructor
 ·intro h;injection h with h;simpa using h
 ·rintro rfl;rfl
theorem rcS {A:Around} {s:Shared} {K:PySem.W.Frag} {H:Hp} {d1 d2:Z.D} {v1 v2:V} {u1 u2:Value} {k:Bool} (h:Z.eqS d1 d2=some k) (h1:DenW K H d1 v1) (h2:DenW K H d2 v2) (r1:RelV v1 u1) (r2:RelV v2 u2):SeqAt.RcAt A s u1 u2 k∧SeqAt.EqAt A s u1 u2 k∧SeqAt.RcNeAt A s u1 u2 (!k):=by
 unfold Z.eqS at h
 split at h
 ·cases h;rw [h1.non] at r1;rw [h2.non] at r2;cases r1;cases r2;exact ⟨SeqAt.RcAt.none_none,SeqAt.EqAt.same _,SeqAt.RcNeAt.none_none⟩
 ·cases h;rw [h1.bl] at r1;rw [h2.bl] at r2;cases r1;cases r2;exact ⟨SeqAt.RcAt.bool_bool _ _,SeqAt.EqAt.bool_bool _ _,SeqAt.RcNeAt.bool_bool _ _⟩
 ·cases h;rw [h1.bl] at r1;rw [h2.int] at r2;cases r1;obtain ⟨t,rfl⟩:=r2;exact ⟨SeqAt.RcAt.bool_int _ _ _,SeqAt.EqAt.bool_int _ _ _,SeqAt.RcNeAt.bool_int _ _ _⟩
 ·cases h;rw [h1.int] at r1;rw [h2.bl] at r2;cases r2;obtain ⟨t,rfl⟩:=r1;exact ⟨SeqAt.RcAt.int_bool _ _ _,SeqAt.EqAt.int_bool _ _ _,SeqAt.RcNeAt.int_bool _ _ _⟩
 ·cases h;rw [h1.int] at r1;rw [h2.int] at r2;obtain ⟨t,rfl⟩:=r1;obtain ⟨t',rfl⟩:=r2;exact ⟨SeqAt.RcAt.int_int _ _ _ _,SeqAt.EqAt.int_int _ _ _ _,SeqAt.RcNeAt.int_int _ _ _ _⟩
 ·cases h;rw [h1.str] at r1;rw [h2.str] at r2;obtain ⟨t,rfl⟩:=r1;obtain ⟨t',rfl⟩:=r2;rw [←str_beqZ];exact ⟨SeqAt.RcAt.str_str _ _ _ _,SeqAt.EqAt.str_str _ _ _ _,SeqAt.RcNeAt.str_str _ _ _ _⟩
 ·cases h;rw [h1.non] at r1;rw [h2.bl] at r2;cases r1;cases r2;exact ⟨SeqAt.RcAt.none_bool _,SeqAt.EqAt.none_bool _,SeqAt.RcNeAt.none_bool _⟩
 ·cases h;rw [h1.non] at r1;rw [h2.int] at r2;cases r1;obtain ⟨t,rfl⟩:=r2;exact ⟨SeqAt.RcAt.none_int _ _,SeqAt.EqAt.none_int _ _,SeqAt.RcNeAt.none_int _ _⟩
 ·cases h;rw [h1.non] at r1;rw [h2.str] at r2;cases r1;obtain ⟨t,rfl⟩:=r2;exact ⟨SeqAt.RcAt.none_str _ _,SeqAt.EqAt.none_str _ _,SeqAt.RcNeAt.none_str _ _⟩
 ·cases h;rw [h1.bl] at r1;rw [h2.non] at r2;cases r1;cases r2;exact ⟨SeqAt.RcAt.bool_none _,SeqAt.EqAt.bool_none _,SeqAt.RcNeAt.bool_none _⟩
 ·cases h;rw [h1.bl] at r1;rw [h2.str] at r2;cases r1;obtain ⟨t,rfl⟩:=r2;exact ⟨SeqAt.RcAt.bool_str _ _ _,SeqAt.EqAt.bool_str _ _ _,SeqAt.RcNeAt.bool_str _ _ _⟩
 ·cases h;rw [h1.int] at r1;rw [h2.non] at r2;cases r2;obtain ⟨t,rfl⟩:=r1;exact ⟨SeqAt.RcAt.int_none _ _,SeqAt.EqAt.int_none _ _,SeqAt.RcNeAt.int_none _ _⟩
 ·cases h;rw [h1.int] at r1;rw [h2.str] at r2;obtain ⟨t,rfl⟩:=r1;obtain ⟨t',rfl⟩:=r2;exact ⟨SeqAt.RcAt.int_str _ _ _ _,SeqAt.EqAt.int_str _ _ _ _,SeqAt.RcNeAt.int_str _ _ _ _⟩
 ·cases h;rw [h1.str] at r1;rw [h2.non] at r2;cases r2;obtain ⟨t,rfl⟩:=r1;exact ⟨SeqAt.RcAt.str_none _ _,SeqAt.EqAt.str_none _ _,SeqAt.RcNeAt.str_none _ _⟩
 ·cases h;rw [h1.str] at r1;rw [h2.bl] at r2;cases r2;obtain ⟨t,rfl⟩:=r1;exact ⟨SeqAt.RcAt.str_bool _ _ _,SeqAt.EqAt.str_bool _ _ _,SeqAt.RcNeAt.str_bool _ _ _⟩
 ·cases h;rw [h1.str] at r1;rw [h2.int] at r2;obtain ⟨t,rfl⟩:=r1;obtain ⟨t',rfl⟩:=r2;exact ⟨SeqAt.RcAt.str_int _ _ _ _,SeqAt.EqAt.str_int _ _ _ _,SeqAt.RcNeAt.str_int _ _ _ _⟩
 ·cases h
def eAt (g:Z.D→Z.D→Option Bool) (as bs:List Z.D) (j:Nat):Bool:=match as[j]?,bs[j]? with
 | some x,some y=>(g x y).getD false
 | _,_=>true
theorem allEq_at {g : Z.D → Z.D → Option Bool} : ∀ {as bs : List Z.D} {k : Bool}, Z.allEq g as bs = some k → k = ((List.range (min as.length bs.length)).all (eAt g as bs) && as.length == bs.length) ∧ ∀ (j : Nat) x y, as[j]? = some x → bs[j]? = some y → g x y = some (eAt g as bs j)
 | [],[],k,h=>by cases h;exact ⟨rfl,fun j x y e=>by simp at e⟩
 | [],_ :: _,k,h=>by cases h;exact ⟨by simp,fun j x y e=>by simp at e⟩
 | _ :: _,[],k,h=>by cases h;exact ⟨by simp,fun j x y _ e=>by simp at e⟩
 | a :: as,b :: bs,k,h=>by
  unfold Z.allEq at h
  split at h
  ·rename_i p q e1 e2
   cases h
   obtain ⟨h1,h2⟩:=allEq_at e2
   refine ⟨?_,fun j x y ex ey=>?_⟩
   ·have:min (a :: as).length (b :: bs).length=min as.length bs.length+1:=by simp only [List.length_cons];lia
    rw [this,List.range_succ_eq_map,List.all_cons,List.all_map,h1]
    have e0:eAt g (a :: as) (b :: bs) 0=p:=by simp [eAt,e1]
    have es:(eAt g (a :: as) (b :: bs)∘Nat.succ)=eAt g as bs:=by
     funext j;simp [eAt]
    have el:((a :: as).length==(b :: bs).length)=(as.length==bs.length):=by
     rw [Bool.eq_iff_iff];simp
    rw [e0,es,el,Bool.and_assoc]
   ·cases j with
    | zero=>simp at ex ey;subst ex ey;simp [eAt,e1]
    | succ j =>
     have:=h2 j x y (by simpa using ex) (by simpa using ey)
     simpa [eAt] using this
  ·cases h
theorem items_at {pins:List (Addr×Obj)} {σ:St} {H:Hp} {s:Shared} (I:Inv X pins σ H s) (n:Nat) {A:Around} (hu:A.units+n < cLine)
  (ih:∀ {A:Around} {d1 d2:Z.D} {v1 v2:V} {u1 u2:Value} {k:Bool},A.units+n < cLine→Z.eqDn n d1 d2=some k→DenW X.K H d1 v1→DenW X.K H d2 v2→RelV v1 u1→RelV v2 u2→SeqAt.RcAt A s u1 u2 k∧SeqAt.EqAt A s u1 u2 k∧SeqAt.RcNeAt A s u1 u2 (!k))
  {as bs:List Z.D} {vs ws:List V} {its its2:List Value} {k:Bool} (hk:Z.allEq (Z.eqDn n) as bs=some k) (ta:Dens X.K H as vs) (tb:Dens X.K H bs ws) (ra:Vals vs its) (rb:Vals ws its2) :
   ∀ j (h1:j < its.toArray.size) (h2:j < its2.toArray.size),SeqAt.EqAt A s its.toArray[j] its2.toArray[j] (eAt (Z.eqDn n) as bs j):=by
  intro j hj1 hj2
  have la:=ta.length;have lb:=tb.length;have ra':=ra.length;have rb':=rb.length
  simp only [List.size_toArray] at hj1 hj2
  obtain ⟨x,ex⟩:∃ x,as[j]?=some x:=⟨as[j]'(by lia),List.getElem?_eq_getElem (by lia)⟩
  obtain ⟨y,ey⟩:∃ y,bs[j]?=some y:=⟨bs[j]'(by lia),List.getElem?_eq_getElem (by lia)⟩
  obtain ⟨vx,evx,dx⟩:=ta.get ex
  obtain ⟨vy,evy,dy⟩:=tb.get ey
  obtain ⟨ux,eux,rx⟩:=ra.get evx
  obtain ⟨uy,euy,ry⟩:=rb.get evy
  have e1:its.toArray[j]=ux:=by
   have:=List.getElem?_eq_getElem hj1
   rw [eux] at this;simpa using (Option.some.inj this).symm
  have e2:its2.toArray[j]=uy:=by
   have:=List.getElem?_eq_getElem hj2
   rw [euy] at this;simpa using (Option.some.inj this).symm
  rw [e1,e2]
  exact (ih hu ((allEq_at hk).2 j x y ex ey) (.inl dx) (.inl dy) rx ry).2.1
theorem eqS_same {K:PySem.W.Frag} {H:Hp} {d1 d2:Z.D} {v:V} {k:Bool} (h:Z.eqS d1 d2=some k) (h1:DenW K H d1 v) (h2:DenW K H d2 v):k=true:=by
 unfold Z.eqS at h
 split at h<;>first
  | (cases h;rfl)
  | (cases h;done)
  | (have e:=h1.bl.symm.trans h2.bl;cases h;injection e with e;subst e;simp)
  | (have e:=h1.int.symm.trans h2.int;cases h;injection e with e;subst e;simp)
  | (have e:=h1.str.symm.trans h2.str;cases h;injection e with e;rw [←str_beqZ,e];simp)
  | (have e:=h1.bl.symm.trans h2.int;cases e)
  | (have e:=h1.int.symm.trans h2.bl;cases e)
  | (have e:=h1.non.symm.trans h2.bl;cases e)
  | (have e:=h1.non.symm.trans h2.int;cases e)
  | (have e:=h1.non.symm.trans h2.str;cases e)
  | (have e:=h1.bl.symm.trans h2.non;cases e)
  | (have e:=h1.bl.symm.trans h2.str;cases e)
  | (have e:=h1.int.symm.trans h2.non;cases e)
  | (have e:=h1.int.symm.trans h2.str;cases e)
  | (have e:=h1.str.symm.trans h2.non;cases e)
  | (have e:=h1.str.symm.trans h2.bl;cases e)
  | (have e:=h1.str.symm.trans h2.int;cases e)
theorem items_same {K:PySem.W.Frag} {H:Hp} {n:Nat} (ih:∀ {d1 d2:Z.D} {v:V} {k:Bool},Z.eqDn n d1 d2=some k→DenW K H d1 v→DenW K H d2 v→k=true) {as bs:List Z.D} {vs:List V} {k:Bool} (h:Z.allEq (Z.eqDn n) as bs=some k) (ta:Dens K H as vs) (tb:Dens K H bs vs):k=true:=by
 obtain ⟨h1,h2⟩:=allEq_at h
 have la:=ta.length;have lb:=tb.length
 rw [h1,show (as.length==bs.length)=true by simp;lia,Bool.and_true,List.all_eq_true]
 intro j hj
 rw [List.mem_range] at hj
 obtain ⟨x,ex⟩:∃ x,as[j]?=some x:=⟨as[j]'(by lia),List.getElem?_eq_getElem (by lia)⟩
 obtain ⟨y,ey⟩:∃ y,bs[j]?=some y:=⟨bs[j]'(by lia),List.getElem?_eq_getElem (by lia)⟩
 obtain ⟨vx,evx,dx⟩:=ta.get ex
 obtain ⟨vy,evy,dy⟩:=tb.get ey
 rw [evx] at evy;cases evy
 exact ih (h2 j x y ex ey) (.inl dx) (.inl dy)
theorem ref_tl {pins:List (Addr×Obj)} {σ:St} {H:Hp} {s:Shared} {a:Addr} {xs ys:List V} (I:Inv X pins σ H s) (h:SqT X.K H a xs) (h':SqL X.K H a ys):False:=by
 obtain ⟨its,r,⟨o,e,c,n,d⟩,_⟩:=I.tuple h
 obtain ⟨its',r',⟨o',n',e',c',_⟩,_⟩:=I.list h'
 rw [e] at e';cases e'
 rw [c] at c';injection c' with z;exact absurd z (by decide)
def sq:Z.D→Bool
 | .tup _=>true
 | .lst _=>true
 | _=>false
def dc:Z.D→Bool
 | .dct _ _=>true
 | _=>false
theorem eqDn_s (n:Nat) {d1 d2:Z.D} (h:(sq d1=false∧sq d2=false)∨dc d1=true∨dc d2=true):Z.eqDn n d1 d2=Z.eqS d1 d2:=by
 cases d1<;>cases d2<;>cases n<;>first | rfl | (simp [sq,dc] at h)
theorem eqN_same0 {pins : List (Addr × Obj)} {σ : St} {H : Hp} {s : Shared} (I : Inv X pins σ H s) (n : Nat) (ih : ∀ m, m < n → ∀ {d1 d2 : Z.D} {v : V} {k : Bool}, Z.eqDn m d1 d2 = some k → DenW X.K H d1 v → DenW X.K H d2 v → k = true) {d1 d2 : Z.D} {v : V} {k : Bool} (h : Z.eqDn n d1 d2 = some k) (h1 : DenW X.K H d1 v) (h2 : DenW X.K H d2 v) : k = true := by
  cases d1<;>cases d2
  case non.non=>exact eqS_same ((eqDn_s n (.inl ⟨rfl,rfl⟩)).symm.trans h) h1 h2
  case non.bl=>exact eqS_same ((eqDn_s n (.inl ⟨rfl,rfl⟩)).symm.trans h) h1 h2
  case non.int=>exact eqS_same ((eqDn_s n (.inl ⟨rfl,rfl⟩)).symm.trans h) h1 h2
  case non.str=>exact eqS_same ((eqDn_s n (.inl ⟨rfl,rfl⟩)).symm.trans h) h1 h2
  case non.tup=>obtain ⟨_,_,e,_⟩:=h2.tup;rw [e] at h1;cases h1.non
  case non.lst=>obtain ⟨_,_,e,_⟩:=h2.lst;rw [e] at h1;cases h1.non
  case non.dct=>exact eqS_same ((eqDn_s n (.inl ⟨rfl,rfl⟩)).symm.trans h) h1 h2
  case bl.non=>exact eqS_same ((eqDn_s n (.inl ⟨rfl,rfl⟩)).symm.trans h) h1 h2
  case bl.bl=>exact eqS_same ((eqDn_s n (.inl ⟨rfl,rfl⟩)).symm.trans h) h1 h2
  case bl.int=>exact eqS_same ((eqDn_s n (.inl ⟨rfl,rfl⟩)).symm.trans h) h1 h2
  case bl.str=>exact eqS_same ((eqDn_s n (.inl ⟨rfl,rfl⟩)).symm.trans h) h1 h2
  case bl.tup=>obtain ⟨_,_,e,_⟩:=h2.tup;rw [e] at h1;cases h1.bl
  case bl.lst=>obtain ⟨_,_,e,_⟩:=h2.lst;rw [e] at h1;cases h1.bl
  case bl.dct=>exact eqS_same ((eqDn_s n (.inl ⟨rfl,rfl⟩)).symm.trans h) h1 h2
  case int.non=>exact eqS_same ((eqDn_s n (.inl ⟨rfl,rfl⟩)).symm.trans h) h1 h2
  case int.bl=>exact eqS_same ((eqDn_s n (.inl ⟨rfl,rfl⟩)).symm.trans h) h1 h2
  case int.int=>exact eqS_same ((eqDn_s n (.inl ⟨rfl,rfl⟩)).symm.trans h) h1 h2
  case int.str=>exact eqS_same ((eqDn_s n (.inl ⟨rfl,rfl⟩)).symm.trans h) h1 h2
  case int.tup=>obtain ⟨_,_,e,_⟩:=h2.tup;rw [e] at h1;cases h1.int
  case int.lst=>obtain ⟨_,_,e,_⟩:=h2.lst;rw [e] at h1;cases h1.int
  case int.dct=>exact eqS_same ((eqDn_s n (.inl ⟨rfl,rfl⟩)).symm.trans h) h1 h2
  case str.non=>exact eqS_same ((eqDn_s n (.inl ⟨rfl,rfl⟩)).symm.trans h) h1 h2
  case str.bl=>exact eqS_same ((eqDn_s n (.inl ⟨rfl,rfl⟩)).symm.trans h) h1 h2
  case str.int=>exact eqS_same ((eqDn_s n (.inl ⟨rfl,rfl⟩)).symm.trans h) h1 h2
  case str.str=>exact eqS_same ((eqDn_s n (.inl ⟨rfl,rfl⟩)).symm.trans h) h1 h2
  case str.tup=>obtain ⟨_,_,e,_⟩:=h2.tup;rw [e] at h1;cases h1.str
  case str.lst=>obtain ⟨_,_,e,_⟩:=h2.lst;rw [e] at h1;cases h1.str
  case str.dct=>exact eqS_same ((eqDn_s n (.inl ⟨rfl,rfl⟩)).symm.trans h) h1 h2
  case tup.non=>obtain ⟨_,_,e,_⟩:=h1.tup;rw [e] at h2;cases h2.non
  case tup.bl=>obtain ⟨_,_,e,_⟩:=h1.tup;rw [e] at h2;cases h2.bl
  case tup.int=>obtain ⟨_,_,e,_⟩:=h1.tup;rw [e] at h2;cases h2.int
  case tup.str=>obtain ⟨_,_,e,_⟩:=h1.tup;rw [e] at h2;cases h2.str
  case tup.tup =>
   cases n with
   | zero=>cases h
   | succ n =>
    obtain ⟨_,_,e,q,ta⟩:=h1.tup;obtain ⟨_,_,e',q',tb⟩:=h2.tup;rw [e] at e';cases e'
    have:=I.tuple_inj q q';subst this
    exact items_same (ih n (Nat.lt_succ_self n)) h ta tb
  case tup.lst=>obtain ⟨_,_,e,q,_⟩:=h1.tup;obtain ⟨_,_,e',q',_⟩:=h2.lst;rw [e] at e';cases e';exact (ref_tl I q q').elim
  case tup.dct=>exact eqS_same ((eqDn_s n (.inr (.inr rfl))).symm.trans h) h1 h2
  case lst.non=>obtain ⟨_,_,e,_⟩:=h1.lst;rw [e] at h2;cases h2.non
  case lst.bl=>obtain ⟨_,_,e,_⟩:=h1.lst;rw [e] at h2;cases h2.bl
  case lst.int=>obtain ⟨_,_,e,_⟩:=h1.lst;rw [e] at h2;cases h2.int
  case lst.str=>obtain ⟨_,_,e,_⟩:=h1.lst;rw [e] at h2;cases h2.str
  case lst.tup=>obtain ⟨_,_,e,q,_⟩:=h1.lst;obtain ⟨_,_,e',q',_⟩:=h2.tup;rw [e] at e';cases e';exact (ref_tl I q' q).elim
  case lst.lst =>
   cases n with
   | zero=>cases h
   | succ n =>
    obtain ⟨_,_,e,q,ta⟩:=h1.lst;obtain ⟨_,_,e',q',tb⟩:=h2.lst;rw [e] at e';cases e'
    have:=I.list_inj q q';subst this
    exact items_same (ih n (Nat.lt_succ_self n)) h ta tb
  case lst.dct=>exact eqS_same ((eqDn_s n (.inr (.inr rfl))).symm.trans h) h1 h2
  case dct.non=>exact eqS_same ((eqDn_s n (.inl ⟨rfl,rfl⟩)).symm.trans h) h1 h2
  case dct.bl=>exact eqS_same ((eqDn_s n (.inl ⟨rfl,rfl⟩)).symm.trans h) h1 h2
  case dct.int=>exact eqS_same ((eqDn_s n (.inl ⟨rfl,rfl⟩)).symm.trans h) h1 h2
  case dct.str=>exact eqS_same ((eqDn_s n (.inl ⟨rfl,rfl⟩)).symm.trans h) h1 h2
  case dct.tup=>exact eqS_same ((eqDn_s n (.inr (.inl rfl))).symm.trans h) h1 h2
  case dct.lst=>exact eqS_same ((eqDn_s n (.inr (.inl rfl))).symm.trans h) h1 h2
  case dct.dct=>exact eqS_same ((eqDn_s n (.inl ⟨rfl,rfl⟩)).symm.trans h) h1 h2
theorem eqN_same {pins:List (Addr×Obj)} {σ:St} {H:Hp} {s:Shared} (I:Inv X pins σ H s) (n:Nat):∀ {d1 d2:Z.D} {v:V} {k:Bool},Z.eqDn n d1 d2=some k→DenW X.K H d1 v→DenW X.K H d2 v→k=true:=by
 induction n using Nat.strongRecOn with
 | _ n ih=>exact eqN_same0 I n ih
theorem rcN0 {pins:List (Addr×Obj)} {σ:St} {H:Hp} {s:Shared} (I:Inv X pins σ H s) (n:Nat) (ih:∀ m,m < n→∀ {A:Around} {d1 d2:Z.D} {v1 v2:V} {u1 u2:Value} {k:Bool},A.units+m < cLine→Z.eqDn m d1 d2=some k→DenW X.K H d1 v1→DenW X.K H d2 v2→RelV v1 u1→RelV v2 u2→SeqAt.RcAt A s u1 u2 k∧SeqAt.EqAt A s u1 u2 k∧SeqAt.RcNeAt A s u1 u2 (!k)) {A:Around} {d1 d2:Z.D} {v1 v2:V} {u1 u2:Value} {k:Bool} (hu:A.units+n < cLine) (h:Z.eqDn n d1 d2=some k) (h1:DenW X.K H d1 v1) (h2:DenW X.K H d2 v2) (r1:RelV v1 u1) (r2:RelV v2 u2) :
  SeqAt.RcAt A s u1 u2 k∧SeqAt.EqAt A s u1 u2 k∧SeqAt.RcNeAt A s u1 u2 (!k):=by
  have hu0:A.units < cLine:=by lia
  have tupL:∀ {ds:List Z.D} {v:V} {u:Value},DenW X.K H (.tup ds) v→RelV v u→∃ q its,u=.ref q∧s.heap.IsTuple q its:=fun hd rv=>by
   obtain ⟨q,vs,rfl,hq,_⟩:=hd.tup
   cases rv
   obtain ⟨its,_,p,_⟩:=I.tuple hq
   exact ⟨q,its.toArray,rfl,p⟩
  have lstL:∀ {ds:List Z.D} {v:V} {u:Value},DenW X.K H (.lst ds) v→RelV v u→∃ q its,u=.ref q∧s.heap.IsList q its:=fun hd rv=>by
   obtain ⟨q,vs,rfl,hq,_⟩:=hd.lst
   cases rv
   obtain ⟨its,_,p,_⟩:=I.list hq
   exact ⟨q,its.toArray,rfl,p.isList⟩
  cases d1<;>cases d2
  case non.non=>exact rcS ((eqDn_s n (.inl ⟨rfl,rfl⟩)).symm.trans h) h1 h2 r1 r2
  case non.bl=>exact rcS ((eqDn_s n (.inl ⟨rfl,rfl⟩)).symm.trans h) h1 h2 r1 r2
  case non.int=>exact rcS ((eqDn_s n (.inl ⟨rfl,rfl⟩)).symm.trans h) h1 h2 r1 r2
  case non.str=>exact rcS ((eqDn_s n (.inl ⟨rfl,rfl⟩)).symm.trans h) h1 h2 r1 r2
  case non.tup =>
   obtain rfl:k=false:=by cases n<;>cases h<;>rfl
   rw [h1.non] at r1;cases r1
   obtain ⟨q2,its2,rfl,p2⟩:=tupL h2 r2
   exact ⟨SeqAt.RcAt.none_tuple p2 hu0,SeqAt.EqAt.none_tuple p2 hu0,SeqAt.RcNeAt.none_tuple p2 hu0⟩
  case non.lst =>
   obtain rfl:k=false:=by cases n<;>cases h<;>rfl
   rw [h1.non] at r1;cases r1
   obtain ⟨q2,its2,rfl,p2⟩:=lstL h2 r2
   exact ⟨SeqAt.RcAt.none_list p2 hu0,SeqAt.EqAt.none_list p2 hu0,SeqAt.RcNeAt.none_list p2 hu0⟩
  case non.dct=>exact rcS ((eqDn_s n (.inl ⟨rfl,rfl⟩)).symm.trans h) h1 h2 r1 r2
  case bl.non=>exact rcS ((eqDn_s n (.inl ⟨rfl,rfl⟩)).symm.trans h) h1 h2 r1 r2
  case bl.bl=>exact rcS ((eqDn_s n (.inl ⟨rfl,rfl⟩)).symm.trans h) h1 h2 r1 r2
  case bl.int=>exact rcS ((eqDn_s n (.inl ⟨rfl,rfl⟩)).symm.trans h) h1 h2 r1 r2
  case bl.str=>exact rcS ((eqDn_s n (.inl ⟨rfl,rfl⟩)).symm.trans h) h1 h2 r1 r2
  case bl.tup =>
   obtain rfl:k=false:=by cases n<;>cases h<;>rfl
   rw [h1.bl] at r1;cases r1
   obtain ⟨q2,its2,rfl,p2⟩:=tupL h2 r2
   exact ⟨SeqAt.RcAt.bool_tuple _ p2 hu0,SeqAt.EqAt.bool_tuple _ p2 hu0,SeqAt.RcNeAt.bool_tuple _ p2 hu0⟩
  case bl.lst =>
   obtain rfl:k=false:=by cases n<;>cases h<;>rfl
   rw [h1.bl] at r1;cases r1
   obtain ⟨q2,its2,rfl,p2⟩:=lstL h2 r2
   exact ⟨SeqAt.RcAt.bool_list _ p2 hu0,SeqAt.EqAt.bool_list _ p2 hu0,SeqAt.RcNeAt.bool_list _ p2 hu0⟩
  case bl.dct=>exact rcS ((eqDn_s n (.inl ⟨rfl,rfl⟩)).symm.trans h) h1 h2 r1 r2
  case int.non=>exact rcS ((eqDn_s n (.inl ⟨rfl,rfl⟩)).symm.trans h) h1 h2 r1 r2
  case int.bl=>exact rcS ((eqDn_s n (.inl ⟨rfl,rfl⟩)).symm.trans h) h1 h2 r1 r2
  case int.int=>exact rcS ((eqDn_s n (.inl ⟨rfl,rfl⟩)).symm.trans h) h1 h2 r1 r2
  case int.str=>exact rcS ((eqDn_s n (.inl ⟨rfl,rfl⟩)).symm.trans h) h1 h2 r1 r2
  case int.tup =>
   obtain rfl:k=false:=by cases n<;>cases h<;>rfl
   rw [h1.int] at r1;obtain ⟨t1,rfl⟩:=r1
   obtain ⟨q2,its2,rfl,p2⟩:=tupL h2 r2
   exact ⟨SeqAt.RcAt.int_tuple _ _ p2 hu0,SeqAt.EqAt.int_tuple _ _ p2 hu0,SeqAt.RcNeAt.int_tuple _ _ p2 hu0⟩
  case int.lst =>
   obtain rfl:k=false:=by cases n<;>cases h<;>rfl
   rw [h1.int] at r1;obtain ⟨t1,rfl⟩:=r1
   obtain ⟨q2,its2,rfl,p2⟩:=lstL h2 r2
   exact ⟨SeqAt.RcAt.int_list _ _ p2 hu0,SeqAt.EqAt.int_list _ _ p2 hu0,SeqAt.RcNeAt.int_list _ _ p2 hu0⟩
  case int.dct=>exact rcS ((eqDn_s n (.inl ⟨rfl,rfl⟩)).symm.trans h) h1 h2 r1 r2
  case str.non=>exact rcS ((eqDn_s n (.inl ⟨rfl,rfl⟩)).symm.trans h) h1 h2 r1 r2
  case str.bl=>exact rcS ((eqDn_s n (.inl ⟨rfl,rfl⟩)).symm.trans h) h1 h2 r1 r2
  case str.int=>exact rcS ((eqDn_s n (.inl ⟨rfl,rfl⟩)).symm.trans h) h1 h2 r1 r2
  case str.str=>exact rcS ((eqDn_s n (.inl ⟨rfl,rfl⟩)).symm.trans h) h1 h2 r1 r2
  case str.tup =>
   obtain rfl:k=false:=by cases n<;>cases h<;>rfl
   rw [h1.str] at r1;obtain ⟨t1,rfl⟩:=r1
   obtain ⟨q2,its2,rfl,p2⟩:=tupL h2 r2
   exact ⟨SeqAt.RcAt.str_tuple _ _ p2 hu0,SeqAt.EqAt.str_tuple _ _ p2 hu0,SeqAt.RcNeAt.str_tuple _ _ p2 hu0⟩
  case str.lst =>
   obtain rfl:k=false:=by cases n<;>cases h<;>rfl
   rw [h1.str] at r1;obtain ⟨t1,rfl⟩:=r1
   obtain ⟨q2,its2,rfl,p2⟩:=lstL h2 r2
   exact ⟨SeqAt.RcAt.str_list _ _ p2 hu0,SeqAt.EqAt.str_list _ _ p2 hu0,SeqAt.RcNeAt.str_list _ _ p2 hu0⟩
  case str.dct=>exact rcS ((eqDn_s n (.inl ⟨rfl,rfl⟩)).symm.trans h) h1 h2 r1 r2
  case tup.non =>
   obtain rfl:k=false:=by cases n<;>cases h<;>rfl
   obtain ⟨q1,its1,rfl,p1⟩:=tupL h1 r1
   rw [h2.non] at r2;cases r2
   exact ⟨SeqAt.RcAt.tuple_none p1 hu0,SeqAt.EqAt.tuple_none p1 hu0,SeqAt.RcNeAt.tuple_none p1 hu0⟩
  case tup.bl =>
   obtain rfl:k=false:=by cases n<;>cases h<;>rfl
   obtain ⟨q1,its1,rfl,p1⟩:=tupL h1 r1
   rw [h2.bl] at r2;cases r2
   exact ⟨SeqAt.RcAt.tuple_bool _ p1 hu0,SeqAt.EqAt.tuple_bool _ p1 hu0,SeqAt.RcNeAt.tuple_bool _ p1 hu0⟩
  case tup.int =>
   obtain rfl:k=false:=by cases n<;>cases h<;>rfl
   obtain ⟨q1,its1,rfl,p1⟩:=tupL h1 r1
   rw [h2.int] at r2;obtain ⟨t2,rfl⟩:=r2
   exact ⟨SeqAt.RcAt.tuple_int _ _ p1 hu0,SeqAt.EqAt.tuple_int _ _ p1 hu0,SeqAt.RcNeAt.tuple_int _ _ p1 hu0⟩
  case tup.str =>
   obtain rfl:k=false:=by cases n<;>cases h<;>rfl
   obtain ⟨q1,its1,rfl,p1⟩:=tupL h1 r1
   rw [h2.str] at r2;obtain ⟨t2,rfl⟩:=r2
   exact ⟨SeqAt.RcAt.tuple_str _ _ p1 hu0,SeqAt.EqAt.tuple_str _ _ p1 hu0,SeqAt.RcNeAt.tuple_str _ _ p1 hu0⟩
  case tup.lst =>
   obtain rfl:k=false:=by cases n<;>cases h<;>rfl
   obtain ⟨q1,its1,rfl,p1⟩:=tupL h1 r1
   obtain ⟨q2,its2,rfl,p2⟩:=lstL h2 r2
   exact ⟨SeqAt.RcAt.tuple_list p1 p2 hu0,SeqAt.EqAt.tuple_list p1 p2 hu0,SeqAt.RcNeAt.tuple_list p1 p2 hu0⟩
  case tup.dct=>exact rcS ((eqDn_s n (.inr (.inr rfl))).symm.trans h) h1 h2 r1 r2
  case lst.non =>
   obtain rfl:k=false:=by cases n<;>cases h<;>rfl
   obtain ⟨q1,its1,rfl,p1⟩:=lstL h1 r1
   rw [h2.non] at r2;cases r2
   exact ⟨SeqAt.RcAt.list_none p1 hu0,SeqAt.EqAt.list_none p1 hu0,SeqAt.RcNeAt.list_none p1 hu0⟩
  case lst.bl =>
   obtain rfl:k=false:=by cases n<;>cases h<;>rfl
   obtain ⟨q1,its1,rfl,p1⟩:=lstL h1 r1
   rw [h2.bl] at r2;cases r2
   exact ⟨SeqAt.RcAt.list_bool _ p1 hu0,SeqAt.EqAt.list_bool _ p1 hu0,SeqAt.RcNeAt.list_bool _ p1 hu0⟩
  case lst.int =>
   obtain rfl:k=false:=by cases n<;>cases h<;>rfl
   obtain ⟨q1,its1,rfl,p1⟩:=lstL h1 r1
   rw [h2.int] at r2;obtain ⟨t2,rfl⟩:=r2
   exact ⟨SeqAt.RcAt.list_int _ _ p1 hu0,SeqAt.EqAt.list_int _ _ p1 hu0,SeqAt.RcNeAt.list_int _ _ p1 hu0⟩
  case lst.str =>
   obtain rfl:k=false:=by cases n<;>cases h<;>rfl
   obtain ⟨q1,its1,rfl,p1⟩:=lstL h1 r1
   rw [h2.str] at r2;obtain ⟨t2,rfl⟩:=r2
   exact ⟨SeqAt.RcAt.list_str _ _ p1 hu0,SeqAt.EqAt.list_str _ _ p1 hu0,SeqAt.RcNeAt.list_str _ _ p1 hu0⟩
  case lst.tup =>
   obtain rfl:k=false:=by cases n<;>cases h<;>rfl
   obtain ⟨q1,its1,rfl,p1⟩:=lstL h1 r1
   obtain ⟨q2,its2,rfl,p2⟩:=tupL h2 r2
   exact ⟨SeqAt.RcAt.list_tuple p1 p2 hu0,SeqAt.EqAt.list_tuple p1 p2 hu0,SeqAt.RcNeAt.list_tuple p1 p2 hu0⟩
  case lst.dct=>exact rcS ((eqDn_s n (.inr (.inr rfl))).symm.trans h) h1 h2 r1 r2
  case dct.non=>exact rcS ((eqDn_s n (.inl ⟨rfl,rfl⟩)).symm.trans h) h1 h2 r1 r2
  case dct.bl=>exact rcS ((eqDn_s n (.inl ⟨rfl,rfl⟩)).symm.trans h) h1 h2 r1 r2
  case dct.int=>exact rcS ((eqDn_s n (.inl ⟨rfl,rfl⟩)).symm.trans h) h1 h2 r1 r2
  case dct.str=>exact rcS ((eqDn_s n (.inl ⟨rfl,rfl⟩)).symm.trans h) h1 h2 r1 r2
  case dct.tup=>exact rcS ((eqDn_s n (.inr (.inl rfl))).symm.trans h) h1 h2 r1 r2
  case dct.lst=>exact rcS ((eqDn_s n (.inr (.inl rfl))).symm.trans h) h1 h2 r1 r2
  case dct.dct=>exact rcS ((eqDn_s n (.inl ⟨rfl,rfl⟩)).symm.trans h) h1 h2 r1 r2
  case tup.tup as bs =>
   cases n with
   | zero=>cases h
   | succ n =>
    have hk:Z.allEq (Z.eqDn n) as bs=some k:=h
    have hs:=fun (z:v1=v2)=>eqN_same I (n+1) (d1:=.tup as) (d2:=.tup bs) (v:=v1) h h1 (z▸h2)
    obtain ⟨q,vs,rfl,hq,ta⟩:=h1.tup
    obtain ⟨q',ws,rfl,hq',tb⟩:=h2.tup
    cases r1;cases r2
    obtain ⟨its,ra,pa,_⟩:=I.tuple hq
    obtain ⟨its2,rb,pb,_⟩:=I.tuple hq'
    have hi:=items_at I n (A:=A.in1) (show A.units+1+n < cLine by lia) (ih n (Nat.lt_succ_self n)) hk ta tb ra rb
    have e:=(allEq_at hk).1
    have la:=ta.length;have lb:=tb.length;have ra':=ra.length;have rb':=rb.length
    have t1:=SeqAt.RcAt.tuples (s:=s) (A:=A) (show s.heap.IsTuple q its.toArray from pa) (show s.heap.IsTuple q' its2.toArray from pb) hu0 hi
    have t2:=SeqAt.RcNeAt.tuples (s:=s) (A:=A) (show s.heap.IsTuple q its.toArray from pa) (show s.heap.IsTuple q' its2.toArray from pb) hu0 hi
    simp only [List.size_toArray] at t1 t2
    rw [←ra',←rb',la,lb,←e] at t1 t2
    refine ⟨t1,?_,t2⟩
    by_cases hqq:q=q'
    ·subst hqq;rw [hs rfl];exact SeqAt.EqAt.same _
    ·exact SeqAt.EqAt.of_refs hqq t1
  case lst.lst as bs =>
   cases n with
   | zero=>cases h
   | succ n =>
    have hk:Z.allEq (Z.eqDn n) as bs=some k:=h
    have hs:=fun (z:v1=v2)=>eqN_same I (n+1) (d1:=.lst as) (d2:=.lst bs) (v:=v1) h h1 (z▸h2)
    obtain ⟨q,vs,rfl,hq,ta⟩:=h1.lst
    obtain ⟨q',ws,rfl,hq',tb⟩:=h2.lst
    cases r1;cases r2
    obtain ⟨its,ra,pa,_⟩:=I.list hq
    obtain ⟨its2,rb,pb,_⟩:=I.list hq'
    have e:=(allEq_at hk).1
    have la:=ta.length;have lb:=tb.length;have ra':=ra.length;have rb':=rb.length
    have t:SeqAt.RcAt A s (.ref q) (.ref q') k∧SeqAt.RcNeAt A s (.ref q) (.ref q') (!k):=by
     by_cases hlen:as.length=bs.length
     ·have hi:=items_at I n (A:=A.in1) (show A.units+1+n < cLine by lia) (ih n (Nat.lt_succ_self n)) hk ta tb ra rb
      have t1:=SeqAt.RcAt.lists (s:=s) (A:=A) pa.isList pb.isList (by simp only [List.size_toArray];lia) hu0 hi
      have t2:=SeqAt.RcNeAt.lists (s:=s) (A:=A) pa.isList pb.isList (by simp only [List.size_toArray];lia) hu0 hi
      simp only [List.size_toArray] at t1 t2
      rw [←ra',la] at t1 t2
      rw [hlen,Nat.min_self,beq_self_eq_true,Bool.and_true,←hlen] at e
      rw [←e] at t1 t2
      exact ⟨t1,t2⟩
     ·have:(as.length==bs.length)=false:=by simpa using hlen
      rw [this,Bool.and_false] at e
      subst e
      exact ⟨SeqAt.RcAt.lists_lengths pa.isList pb.isList (by simp only [List.size_toArray,bne_iff_ne,ne_eq];lia) hu0,SeqAt.RcNeAt.lists_lengths pa.isList pb.isList (by simp only [List.size_toArray,bne_iff_ne,ne_eq];lia) hu0⟩
    refine ⟨t.1,?_,t.2⟩
    by_cases hqq:q=q'
    ·subst hqq;rw [hs rfl];exact SeqAt.EqAt.same _
    ·exact SeqAt.EqAt.of_refs hqq t.1
theorem rcN {pins:List (Addr×Obj)} {σ:St} {H:Hp} {s:Shared} (I:Inv X pins σ H s) (n:Nat):∀ {A:Around} {d1 d2:Z.D} {v1 v2:V} {u1 u2:Value} {k:Bool},A.units+n < cLine→Z.eqDn n d1 d2=some k→DenW X.K H d1 v1→DenW X.K H d2 v2→RelV v1 u1→RelV v2 u2→SeqAt.RcAt A s u1 u2 k∧SeqAt.EqAt A s u1 u2 k∧SeqAt.RcNeAt A s u1 u2 (!k):=by
 induction n using Nat.strongRecOn with
 | _ n ih=>exact rcN0 I n ih
theorem c_eq (hu:X.A.units+64 < cLine):Cmp X .Eq Z.oEq:=by
 have ho:OpR X (compareOp .Eq) (fun x y H Q=>∃ d1 d2 k,DenW X.K H d1 x∧DenW X.K H d2 y∧Z.eqD d1 d2=some k∧Q (.bl k) H):=by
  intro pins s σ H x y v u Q I rx ry h
  obtain ⟨d1,d2,k,h1,h2,e,q⟩:=h
  exact (rcN I 6 (A:=X.A) (by lia) e h1 h2 rx ry).1 X.prog X.w X.xe _ ⟨.bl k,H,I,rfl,q⟩
 exact ⟨_,ho,fun x y dx dy d H Q h1 h2 e k=>by
  unfold Z.oEq at e
  split at e
  ·rename_i z hz
   cases e
   exact ⟨dx,dy,z,h1,h2,hz,k _ H (Same.refl H) den_bl⟩
  ·cases e⟩
theorem c_ne (hu:X.A.units+64 < cLine):Cmp X .NotEq Z.oNe:=by
 have ho:OpR X (compareOp .NotEq) (fun x y H Q=>∃ d1 d2 k,DenW X.K H d1 x∧DenW X.K H d2 y∧Z.eqD d1 d2=some k∧Q (.bl (!k)) H):=by
  intro pins s σ H x y v u Q I rx ry h
  obtain ⟨d1,d2,k,h1,h2,e,q⟩:=h
  exact (rcN I 6 (A:=X.A) (by lia) e h1 h2 rx ry).2.2 X.prog X.w X.xe _ ⟨.bl (!k),H,I,rfl,q⟩
 exact ⟨_,ho,fun x y dx dy d H Q h1 h2 e k=>by
  unfold Z.oNe at e
  split at e
  ·rename_i z hz
   cases e
   exact ⟨dx,dy,z,h1,h2,hz,k _ H (Same.refl H) den_bl⟩
  ·cases e⟩
theorem keyZ_inj:∀ {a b:Sum Int (List Nat)},keyZ a=keyZ b→a=b
 | .inl a,.inl b,h=>by injection h with h;rw [h]
 | .inl _,.inr _,h=>by cases h
 | .inr _,.inl _,h=>by cases h
 | .inr a,.inr b,h=>by
  injection h with h
  injection h with h
  have:a=b:=by simpa using congrArg Array.toList h
  rw [this]
theorem keysZ_inj:∀ {a b:List (Sum Int (List Nat))},a.map keyZ=b.map keyZ→a=b
 | [],[],_=>rfl
 | [],_ :: _,h=>by cases h
 | _ :: _,[],h=>by cases h
 | a :: as,b :: bs,h=>by
  simp only [List.map_cons,List.cons.injEq] at h
  rw [keyZ_inj h.1,keysZ_inj h.2]
theorem cls_dct {pins:List (Addr×Obj)} {σ:St} {H:Hp} {s:Shared} {a:Addr} {o:Obj} {kvs:List (Key×V)} (I:Inv X pins σ H s) (hq:H a=some (.frz o (.dK kvs))):∃ o',s.heap.get? a=some o'∧o'.cls=.type "dict" := by
 obtain ⟨_,_,_,_,_,o',es,ep,h1,h2,_⟩:=(show ObjOk X.prog X.w H s.heap a (.frz o (.dK kvs)) from I.hok a _ hq)
 exact ⟨o',h1,h2.1⟩
theorem ref_td {pins:List (Addr×Obj)} {σ:St} {H:Hp} {s:Shared} {a:Addr} {xs:List V} {o:Obj} {kvs:List (Key×V)} (I:Inv X pins σ H s) (h:SqT X.K H a xs) (h':H a=some (.frz o (.dK kvs))):False:=by
 obtain ⟨its,r,⟨o1,e,c,n,d⟩,_⟩:=I.tuple h
 obtain ⟨o2,e',c'⟩:=cls_dct I h'
 rw [e] at e';cases e'
 rw [c] at c';injection c' with z;exact absurd z (by decide)
theorem ref_ld {pins:List (Addr×Obj)} {σ:St} {H:Hp} {s:Shared} {a:Addr} {xs:List V} {o:Obj} {kvs:List (Key×V)} (I:Inv X pins σ H s) (h:SqL X.K H a xs) (h':H a=some (.frz o (.dK kvs))):False:=by
 obtain ⟨its,r,⟨o1,n,e,c,_⟩,_⟩:=I.list h
 obtain ⟨o2,e',c'⟩:=cls_dct I h'
 rw [e] at e';cases e'
 rw [c] at c';injection c' with z;exact absurd z (by decide)
mutual
theorem Den.inj {pins:List (Addr×Obj)} {σ:St} {H:Hp} {s:Shared} (I:Inv X pins σ H s):∀ (d1 d2:Z.D) (v:V),Den X.K H d1 v→Den X.K H d2 v→d1=d2
 | .non,d2,v,h1,h2=>by
  simp only [Den] at h1;subst h1
  cases d2<;>simp only [Den] at h2<;>first | rfl | (cases h2;done) | skip
  case tup=>obtain ⟨_,_,e,_⟩:=h2;cases e
  case lst=>obtain ⟨_,_,e,_⟩:=h2;cases e
  case dct=>obtain ⟨_,_,_,e,_⟩:=h2;cases e
 | .bl b,d2,v,h1,h2=>by
  simp only [Den] at h1;subst h1
  cases d2<;>simp only [Den] at h2<;>first | (injection h2 with h2;rw [h2]) | (cases h2;done) | skip
  case tup=>obtain ⟨_,_,e,_⟩:=h2;cases e
  case lst=>obtain ⟨_,_,e,_⟩:=h2;cases e
  case dct=>obtain ⟨_,_,_,e,_⟩:=h2;cases e
 | .int i,d2,v,h1,h2=>by
  simp only [Den] at h1;subst h1
  cases d2<;>simp only [Den] at h2<;>first | (injection h2 with h2;rw [h2]) | (cases h2;done) | skip
  case tup=>obtain ⟨_,_,e,_⟩:=h2;cases e
  case lst=>obtain ⟨_,_,e,_⟩:=h2;cases e
  case dct=>obtain ⟨_,_,_,e,_⟩:=h2;cases e
 | .str cs,d2,v,h1,h2=>by
  simp only [Den] at h1;subst h1
  cases d2<;>simp only [Den] at h2<;>first | (injection h2 with h2;injection h2 with h2;have:=congrArg Array.toList h2;simp at this;rw [this]) | (cases h2;done) | skip
  case tup=>obtain ⟨_,_,e,_⟩:=h2;cases e
  case lst=>obtain ⟨_,_,e,_⟩:=h2;cases e
  case dct=>obtain ⟨_,_,_,e,_⟩:=h2;cases e
 | .tup ds,d2,v,h1,h2=>by
  simp only [Den] at h1
  obtain ⟨a,vs,rfl,q,t⟩:=h1
  cases d2<;>simp only [Den] at h2
  case tup es =>
   obtain ⟨a',vs',e,q',t'⟩:=h2;cases e
   rw [I.tuple_inj q' q] at t'
   rw [Dens.inj I ds es vs t t']
  case lst es=>obtain ⟨a',vs',e,q',t'⟩:=h2;cases e;exact (ref_tl I q q'.sq).elim
  case dct ks es=>obtain ⟨a',o,kvs,e,q',_⟩:=h2;cases e;exact (ref_td I q q').elim
  all_goals cases h2
 | .lst ds,d2,v,h1,h2=>by
  simp only [Den] at h1
  obtain ⟨a,vs,rfl,q,t⟩:=h1
  cases d2<;>simp only [Den] at h2
  case lst es =>
   obtain ⟨a',vs',e,q',t'⟩:=h2;cases e
   rw [I.list_inj q'.sq q.sq] at t'
   rw [Dens.inj I ds es vs t t']
  case tup es=>obtain ⟨a',vs',e,q',t'⟩:=h2;cases e;exact (ref_tl I q' q.sq).elim
  case dct ks es=>obtain ⟨a',o,kvs,e,q',_⟩:=h2;cases e;exact (ref_ld I q.sq q').elim
  all_goals cases h2
 | .dct ks ds,d2,v,h1,h2=>by
  simp only [Den] at h1
  obtain ⟨a,o,kvs,rfl,q,hk,t,_⟩:=h1
  cases d2<;>simp only [Den] at h2
  case lst es=>obtain ⟨a',vs',e,q',t'⟩:=h2;cases e;exact (ref_ld I q'.sq q).elim
  case tup es=>obtain ⟨a',vs',e,q',t'⟩:=h2;cases e;exact (ref_td I q' q).elim
  case dct ks' es =>
   obtain ⟨a',o',kvs',e,q',hk',t',_⟩:=h2;cases e
   rw [q] at q';cases q'
   rw [Dens.inj I ds es _ t t',keysZ_inj (hk.symm.trans hk')]
  all_goals cases h2
theorem Dens.inj {pins:List (Addr×Obj)} {σ:St} {H:Hp} {s:Shared} (I:Inv X pins σ H s):∀ (d1 d2:List Z.D) (v:List V),Dens X.K H d1 v→Dens X.K H d2 v→d1=d2
 | [],d2,v,h1,h2=>by
  simp only [Dens] at h1;subst h1
  cases d2 with
  | nil=>rfl
  | cons d ds=>simp only [Dens] at h2;obtain ⟨_,_,e,_⟩:=h2;cases e
 | d :: ds,d2,v,h1,h2=>by
  simp only [Dens] at h1
  obtain ⟨u,r,rfl,q,t⟩:=h1
  cases d2 with
  | nil=>simp only [Dens] at h2;cases h2
  | cons d' ds' =>
   simp only [Dens] at h2;obtain ⟨u',r',e,q',t'⟩:=h2
   cases e
   rw [Den.inj I d d' u q q',Dens.inj I ds ds' r t t']
end
theorem anyEq_at {x:Z.D}:∀ {ys:List Z.D} {k:Bool},Z.anyEq x ys=some k→k=ys.any (fun y=>(Z.eqD y x).getD false)∧∀ y∈ys,Z.eqD y x=some ((Z.eqD y x).getD false)
 | [],k,h=>by cases h;exact ⟨rfl,fun y hy=>by cases hy⟩
 | y :: ys,k,h=>by
  unfold Z.anyEq at h
  split at h
  ·rename_i a b ea eb
   cases h
   obtain ⟨h1,h2⟩:=anyEq_at eb
   refine ⟨by rw [List.any_cons,ea,h1];rfl,fun z hz=>?_⟩
   rcases List.mem_cons.mp hz with rfl | hz
   ·rw [ea];rfl
   ·exact h2 z hz
  ·cases h
theorem in_fun {pins : List (Addr × Obj)} {σ : St} {H : Hp} {s : Shared} (I : Inv X pins σ H s) {A : Around} (hu : A.units + 60 < cLine) {x : Z.D} {v : V} {u : Value} (hx : DenW X.K H x v) (rx : RelV v u) : ∀ {ys : List Z.D} {vs : List V} {us : List Value}, Dens X.K H ys vs → Vals vs us → (∀ y ∈ ys, Z.eqD y x = some ((Z.eqD y x).getD false)) →
  ∃ e:Value→Bool,(∀ w∈us,SeqAt.EqAt A s w u (e w))∧us.any e=ys.any (fun y=>(Z.eqD y x).getD false):=by
 intro ys vs us
 have key:∀ {ys:List Z.D} {vs:List V} {us:List Value},Dens X.K H ys vs→Vals vs us→(∀ y∈ys,Z.eqD y x=some ((Z.eqD y x).getD false))→(∀ w∈us,∃ b,SeqAt.EqAt A s w u b)∧∀ e:Value→Bool,(∀ w∈us,∀ y vy,Den X.K H y vy→RelV vy w→y∈ys→e w=(Z.eqD y x).getD false)→us.any e=ys.any (fun y=>(Z.eqD y x).getD false):=by
  intro ys
  induction ys with
  | nil=>intro vs us t r _;simp only [Dens] at t;subst t;cases r;exact ⟨fun w hw=>(by cases hw),fun _ _=>rfl⟩
  | cons y ys ih =>
   intro vs us t r hh
   simp only [Dens] at t
   obtain ⟨vy,vr,rfl,dy,tr⟩:=t
   cases r with
   | cons ry rr =>
    obtain ⟨h1,h2⟩:=ih tr rr (fun z hz=>hh z (List.mem_cons_of_mem _ hz))
    refine ⟨fun w hw=>?_,fun e he=>?_⟩
    ·rcases List.mem_cons.mp hw with rfl | hw
     ·exact ⟨_,(rcN I 6 (A:=A) (by lia) (hh y List.mem_cons_self) (.inl dy) hx ry rx).2.1⟩
     ·exact h1 w hw
    ·rw [List.any_cons,List.any_cons,he _ List.mem_cons_self y vy dy ry List.mem_cons_self,h2 e fun w hw z vz dz rz hz=>he w (List.mem_cons_of_mem _ hw) z vz dz rz (List.mem_cons_of_mem _ hz)]
 intro t r hh
 classical
 let e:Value→Bool:=fun w=>if h:∃ y vy,Den X.K H y vy∧RelV vy w∧y∈ys then (Z.eqD h.choose x).getD false else false
 have he:∀ w y vy,Den X.K H y vy→RelV vy w→y∈ys→e w=(Z.eqD y x).getD false:=by
  intro w y vy dy ry hy
  have hex:∃ y vy,Den X.K H y vy∧RelV vy w∧y∈ys:=⟨y,vy,dy,ry,hy⟩
  show (if h:_ then _ else _)=_
  rw [dif_pos hex]
  obtain ⟨vy',dy',ry',hy'⟩:=hex.choose_spec
  have ev:vy'=vy:=ry'.inj ry
  subst ev
  rw [Den.inj I _ _ _ dy' dy]
 refine ⟨e,fun w hw=>?_,(key t r hh).2 e fun w hw y vy dy ry hy=>he w y vy dy ry hy⟩
 obtain ⟨j,hj,ej⟩:=List.getElem_of_mem hw
 have hl:=r.length
 have ht:=t.length
 obtain ⟨y,ey⟩:∃ y,ys[j]?=some y:=⟨ys[j]'(by lia),List.getElem?_eq_getElem (by lia)⟩
 obtain ⟨vy,evy,dy⟩:=t.get ey
 obtain ⟨u',eu',ru'⟩:=r.get evy
 have:u'=w:=by
  have:=List.getElem?_eq_getElem hj
  rw [eu',ej] at this;exact Option.some.inj this
 subst this
 have hy:y∈ys:=List.mem_of_getElem? ey
 rw [he _ y vy dy ru' hy]
 exact (rcN I 6 (A:=A) (by lia) (hh y hy) (.inl dy) hx ru' rx).2.1
theorem op_inD (hu:X.A.units+64 < cLine):OpR X (compareOp .In) (fun x y H Q=>∃ d ys q vs k,DenW X.K H d x∧y=.ref q∧(SqL X.K H q vs∨SqT X.K H q vs)∧Dens X.K H ys vs∧Z.anyEq d ys=some k∧Q (.bl k) H):=by
 intro pins s σ H x y v u Q I rx ry h
 obtain ⟨d,ys,q,vs,k,hd,rfl,hq,t,e,k'⟩:=h
 cases ry
 obtain ⟨e1,e2⟩:=anyEq_at e
 subst e1
 rcases hq with hq | hq
 ·obtain ⟨its,r,pl,hz⟩:=I.list hq
  obtain ⟨f,hf,hfa⟩:=in_fun I (A:=X.A.in1) (show X.A.units+1+60 < cLine by lia) hd rx t r e2
  refine SeqAt.in_listAt f pl.isList (fun w hw=>hf w (by simpa using hw)) ⟨.bl _,H,I,rfl,?_⟩
  rw [show its.toArray.any f=its.any f by simp,hfa]
  exact k'
 ·obtain ⟨its,r,pl,hz⟩:=I.tuple hq
  obtain ⟨f,hf,hfa⟩:=in_fun I (A:=X.A.in1) (show X.A.units+1+60 < cLine by lia) hd rx t r e2
  refine SeqAt.in_tupleAt f pl (fun w hw=>hf w (by simpa using hw)) ⟨.bl _,H,I,rfl,?_⟩
  rw [show its.toArray.any f=its.any f by simp,hfa]
  exact k'
theorem op_notInD (hu:X.A.units+64 < cLine):OpR X (compareOp .NotIn) (fun x y H Q=>∃ d ys q vs k,DenW X.K H d x∧y=.ref q∧(SqL X.K H q vs∨SqT X.K H q vs)∧Dens X.K H ys vs∧Z.anyEq d ys=some k∧Q (.bl (!k)) H):=by
 intro pins s σ H x y v u Q I rx ry h
 obtain ⟨d,ys,q,vs,k,hd,rfl,hq,t,e,k'⟩:=h
 cases ry
 obtain ⟨e1,e2⟩:=anyEq_at e
 subst e1
 rcases hq with hq | hq
 ·obtain ⟨its,r,pl,hz⟩:=I.list hq
  obtain ⟨f,hf,hfa⟩:=in_fun I (A:=X.A.in1) (show X.A.units+1+60 < cLine by lia) hd rx t r e2
  refine SeqAt.notIn_listAt f pl.isList (fun w hw=>hf w (by simpa using hw)) ⟨.bl _,H,I,rfl,?_⟩
  rw [show its.toArray.any f=its.any f by simp,hfa]
  exact k'
 ·obtain ⟨its,r,pl,hz⟩:=I.tuple hq
  obtain ⟨f,hf,hfa⟩:=in_fun I (A:=X.A.in1) (show X.A.units+1+60 < cLine by lia) hd rx t r e2
  refine SeqAt.notIn_tupleAt f pl (fun w hw=>hf w (by simpa using hw)) ⟨.bl _,H,I,rfl,?_⟩
  rw [show its.toArray.any f=its.any f by simp,hfa]
  exact k'
theorem c_in (hu:X.A.units+64 < cLine):Cmp X .In Z.oIn:=⟨_,op_inD hu,fun x y dx dy d H Q h1 h2 e k=>by
 unfold Z.oIn at e
 split at e
 ·split at e
  ·rename_i b hb
   cases e
   obtain ⟨q,vs,rfl,hq,t⟩:=h2.tup
   exact ⟨dx,_,q,vs,b,h1,rfl,.inr hq,t,hb,k _ H (Same.refl H) den_bl⟩
  ·cases e
 ·split at e
  ·rename_i b hb
   cases e
   obtain ⟨q,vs,rfl,hq,t⟩:=h2.lst
   exact ⟨dx,_,q,vs,b,h1,rfl,.inl hq,t,hb,k _ H (Same.refl H) den_bl⟩
  ·cases e
 ·cases e⟩
theorem c_notIn (hu:X.A.units+64 < cLine):Cmp X .NotIn Z.oNotIn:=⟨_,op_notInD hu,fun x y dx dy d H Q h1 h2 e k=>by
 unfold Z.oNotIn at e
 split at e
 ·split at e
  ·rename_i b hb
   cases e
   obtain ⟨q,vs,rfl,hq,t⟩:=h2.tup
   exact ⟨dx,_,q,vs,b,h1,rfl,.inr hq,t,hb,k _ H (Same.refl H) den_bl⟩
  ·cases e
 ·split at e
  ·rename_i b hb
   cases e
   obtain ⟨q,vs,rfl,hq,t⟩:=h2.lst
   exact ⟨dx,_,q,vs,b,h1,rfl,.inl hq,t,hb,k _ H (Same.refl H) den_bl⟩
  ·cases e
 ·cases e⟩
theorem allB_ok : ∀ {xs : List Z.D} {k : Bool}, Z.allB xs = some k → ∃ bs : List Bool, xs = bs.map Z.D.bl ∧ k = bs.all id
 | [],k,h=>by cases h;exact ⟨[],rfl,rfl⟩
 | x :: xs,k,h=>by
  cases x with
  | bl b =>
   have h':(Z.allB xs).map (b&&·)=some k:=h
   cases q:Z.allB xs with
   | none=>rw [q] at h';cases h'
   | some k' =>
    rw [q] at h'
    cases h'
    obtain ⟨bs,rfl,rfl⟩:=allB_ok q
    exact ⟨b :: bs,rfl,rfl⟩
  | non=>cases h
  | int _=>cases h
  | str _=>cases h
  | tup _=>cases h
  | lst _=>cases h
  | dct _ _=>cases h
theorem dens_bls {K:PySem.W.Frag} {H:Hp}:∀ {bs:List Bool} {vs:List V},Dens K H (bs.map Z.D.bl) vs→vs=bs.map V.bl
 | [],vs,h=>by simp only [List.map_nil,Dens] at h;subst h;rfl
 | b :: bs,vs,h=>by
  simp only [List.map_cons,Dens] at h
  obtain ⟨v,r,rfl,hv,ht⟩:=h
  simp only [Den] at hv
  rw [hv,dens_bls ht];rfl
theorem all_range (bs:List Bool):((List.range bs.length).all fun i=>bs[i]?.getD true)=bs.all id:=by
 induction bs with
 | nil=>rfl
 | cons b bs ih =>
  rw [List.length_cons,List.range_succ_eq_map,List.all_cons,List.all_map,List.all_cons]
  have:((fun i=>((b :: bs)[i]?).getD true)∘Nat.succ)=fun i=>bs[i]?.getD true:=by funext i;simp
  rw [this,ih]
  simp
theorem call_allZ (hc:X.calm=true):CallR X (.builtin "all") (fun xs H Q=>∃ (q:Addr) (bs:List Bool),xs=[.ref q]∧SqL X.K H q (bs.map V.bl)∧Q (.bl (bs.all id)) H):=by
 intro pins s σ H xs us Q I r h
 obtain ⟨q,bs,rfl,hq,k⟩:=h
 obtain ⟨u,rfl,ru⟩:=vals1 r
 cases ru
 obtain ⟨its,rv,pl,hz⟩:=I.list hq
 have hl:=rv.length
 rw [List.length_map] at hl
 have hlt:q < s.heap.objs.size:=by obtain ⟨_,e,_⟩:=pl.isList;exact Heap.lt_size e
 have hh:X.A.in1.handled=none:=I.ok.hd hc
 refine call_all_walk (wpAny_pyIter_list pl.isList ?_)
 refine ⟨s.heap.objs.size,[s.heap.objs.size,q],[s.heap.objs.size],its.toArray.size,_,_,fun i=>bs[i]?.getD true,rfl,Walks.list hh s.heap.objs.size q (Nat.ne_of_lt hlt) its.toArray,⟨⟨_,Heap.get?_push_size _ rfl,rfl,rfl⟩,pl.isList.push _⟩,?_,fun h' tk hk=>?_⟩
 ·intro i v s' Q' E' hv hQ
  have hi:its[i]?=some v:=by simpa using hv
  obtain ⟨hi1,_⟩:=List.getElem?_eq_some_iff.mp hi
  have hb:(bs.map V.bl)[i]?=some (V.bl (bs[i]'(by lia))):=by
   rw [List.getElem?_map,List.getElem?_eq_getElem (by lia)];rfl
  obtain ⟨u,hu,ru⟩:=rv.get hb
  rw [hi] at hu;cases hu
  cases ru
  refine wpAny_truthy_bool ?_
  have:bs[i]?.getD true=bs[i]'(by lia):=by rw [List.getElem?_eq_getElem (by lia)];rfl
  rw [←this]
  exact hQ
 ·have I1:Inv X pins σ H { s with heap:=s.heap.push { cls:=.type "list_iterator",data:=.fields #[.ref q,.int 0 0] } }:=I.kept (t':=s.toks) fun b o e=>Heap.get?_push_of_some _ e
  obtain ⟨f0,f1,f2,f3,f4,f5⟩:=I.fpOk (H':=H) (Nat.le_refl s.heap.objs.size) I.fresh
  have I2:=I1.turned (h':=h') (t':=tk) (it:=s.heap.objs.size) (fun b o hb e=>hk b o (by simpa using hb) e) f0 f1 f3 f4 f5
  refine ⟨.bl _,H,I2,rfl,?_⟩
  have e:(List.range its.toArray.size).all (fun i=>bs[i]?.getD true)=bs.all id:=by
   rw [List.size_toArray,←hl,all_range]
  rw [e]
  exact k
theorem de_all {x : Str} {p1 : Pos} (hg : Gl X x) (hm : X.mg x = none) (hv : bootBuiltins x = some (.builtin "all")) (ha : DW X a fa) (hc : X.calm = true := by rfl) (hn : x ≠ "__name__" := by decide +kernel) (hdb : (x == ("__debug__" : Str)) = false := by decide +kernel)
  (he:starEach (a :: []) X.env=(false,eval a X.env) :: starEach [] X.env:=by rfl) (hpl:(backTo pos (starEach [] X.env)).any (·.1)=false:=by rfl):DE X (.Call (.Name x p1) [a] [] pos) (Z.eU Z.oAll fa) :=
 PE.imp (pe_callB (call_allZ hc) hg hm hv (pa_cons ha pa_nil he) hn hdb he hpl) fun σ H Q ⟨ρ,d,r,e,k⟩=>by
  obtain ⟨x,ea,e⟩:=Z.Res.bind_ok e
  refine ⟨ρ,x,r,ea,fun v H1 s1 d1=>?_⟩
  unfold Z.oAll at e
  split at e
  ·split at e
   ·rename_i xs k' hk
    cases e
    obtain ⟨bs,rfl,rfl⟩:=allB_ok hk
    obtain ⟨q,vs,rfl,hq,t⟩:=d1.lst
    rw [dens_bls t] at hq
    exact ⟨q,bs,rfl,hq,k _ H1 s1 den_bl⟩
   ·cases e
  ·cases e
end
section
variable {X:Cx} {es:List Expr} {f:Z.EF} {g:Z.AF}
theorem da_cConst {v j p} (ha:DE X (.Constant v j p) f) (hr:DA X es g):DA X ((.Constant v j p) :: es) (Z.aCons f g):=da_cons ha hr rfl
theorem da_cName {x p} (ha:DE X (.Name x p) f) (hr:DA X es g):DA X ((.Name x p) :: es) (Z.aCons f g):=da_cons ha hr rfl
theorem da_cTuple {xs j p} (ha:DE X (.Tuple xs j p) f) (hr:DA X es g):DA X ((.Tuple xs j p) :: es) (Z.aCons f g):=da_cons ha hr rfl
theorem da_cList {xs p} (ha:DE X (.List xs p) f) (hr:DA X es g):DA X ((.List xs p) :: es) (Z.aCons f g):=da_cons ha hr rfl
theorem da_cBin {x o y p} (ha:DE X (.BinOp x o y p) f) (hr:DA X es g):DA X ((.BinOp x o y p) :: es) (Z.aCons f g):=da_cons ha hr rfl
theorem da_cCall {x xs ks p} (ha:DE X (.Call x xs ks p) f) (hr:DA X es g):DA X ((.Call x xs ks p) :: es) (Z.aCons f g):=da_cons ha hr rfl
theorem da_cSub {x y p} (ha:DE X (.Subscript x y p) f) (hr:DA X es g):DA X ((.Subscript x y p) :: es) (Z.aCons f g):=da_cons ha hr rfl
theorem da_cDict {ks vs p} (ha:DE X (.Dict ks vs p) f) (hr:DA X es g):DA X ((.Dict ks vs p) :: es) (Z.aCons f g):=da_cons ha hr rfl
theorem da_cAttr {x n p} (ha:DE X (.Attribute x n p) f) (hr:DA X es g):DA X ((.Attribute x n p) :: es) (Z.aCons f g):=da_cons ha hr rfl
end
end ZS
namespace ZQ
open PySem PySem.Spec PyProof.Rows L2 ZS
abbrev St:=L2.St
structure QE (X:Cx) (e:Expr) (f:Z.EF):Prop where p:DE X e f
structure QW (X:Cx) (e:Expr) (f:Z.EF):Prop where p:DW X e f
structure QL (X:Cx) (e:Expr) (f:Z.LF):Prop where p:DL X e f
structure QT (X:Cx) (e:Expr) (f:Z.TF):Prop where p:DT X e f
structure QTW (X:Cx) (e:Expr) (f:Z.TF):Prop where p:DTW X e f
structure QA (X:Cx) (es:List Expr) (f:Z.AF):Prop where p:DA X es f
structure QP (X:Cx) (e:Option Expr) (f:Z.PF):Prop where p:DP X e f
structure QI (X:Cx) (tg e:Expr) (f:Z.LF):Prop where p:DI X tg e f
structure QJ (X:Cx) (tg e:Expr) (f:Z.LF):Prop where p:DJ X tg e f
structure QS (X:Cx) (H0:Hp) (st:Stmt) (g:Z.SF):Prop where p:DS X H0 st g
structure QSs (X:Cx) (H0:Hp) (st:List Stmt) (g:Z.SF):Prop where p:DSs X H0 st g
structure QG (X:Cx) (H0:Hp) (tg:Expr) (g:Z.GF):Prop where p:DG X H0 tg g
structure QGs (X:Cx) (H0:Hp) (tgs:List Expr) (is:List Nat):Prop where p:DGs X H0 tgs is
structure QTst (X:Cx) (ifs:List Expr) (t:Z.TF):Prop where p:Tst X ifs t
section
variable {X:Cx} {tg e a b c elt iter:Expr} {es ifs:List Expr} {pos p:Pos} {f fa fb fc:Z.EF} {g u:Z.SF} {H0:Hp} {st:Stmt} {sts:List Stmt} {N':List Str} {n:Nat} {is:List Nat} {scope:Scope}
theorem de_int {i:Int} {j}:QE X (.Constant (.int i) j pos) (Z.eC (.int i)):=⟨ZS.de_int ⟩
theorem de_bl {x:Bool} {j}:QE X (.Constant (.bool x) j pos) (Z.eC (.bl x)):=⟨ZS.de_bl ⟩
theorem de_non {j}:QE X (.Constant .none j pos) (Z.eC .non):=⟨ZS.de_non ⟩
theorem de_str {x:Str} {cs:List Nat} {j} (h:x=⟨cs.toArray⟩):QE X (.Constant (.str x) j pos) (Z.eC (.str cs)):=⟨ZS.de_str (h:=h)⟩
theorem de_v (i:Nat) {x:Str} (hN:X.N[i]?=some x:=by rfl) (hv:Vis X.env.scope x:=by first | exact Or.inl rfl | exact Or.inr (Or.inl rfl) | exact Or.inr (Or.inr rfl)) (hd:(x==("__debug__" : Str))=false:=by decide +kernel) (hcd:(x==("__classdict__" : Str))=false:=by decide +kernel):QE X (.Name x pos) (Z.eV i):=⟨ZS.de_v (i:=i) (hN:=hN) (hv:=hv) (hd:=hd) (hcd:=hcd)⟩
theorem dw_v (i:Nat) {x:Str} (hN:X.N[i]?=some x:=by rfl) (hv:Vis X.env.scope x:=by first | exact Or.inl rfl | exact Or.inr (Or.inl rfl) | exact Or.inr (Or.inr rfl)) (hd:(x==("__debug__" : Str))=false:=by decide +kernel) (hcd:(x==("__classdict__" : Str))=false:=by decide +kernel):QW X (.Name x pos) (Z.eW i):=⟨ZS.dw_v (i:=i) (hN:=hN) (hv:=hv) (hd:=hd) (hcd:=hcd)⟩
theorem de_globI {X:Cx} {pos:Pos} {x:Str} {i:Int} {t:Tok} (hg:Gl X x) (hm:X.mg x=some (.int i t)) (hb:(x==("__debug__" : Str))=false:=by decide +kernel):QE X (.Name x pos) (Z.eC (.int i)):=⟨ZS.de_globI (hg:=hg) (hm:=hm) (hb:=hb)⟩
theorem dw_e (h:QE X e f):QW X e f:=⟨ZS.dw_e (h:=h.p)⟩
theorem dw_l {l:Z.LF} (h:QL X e l):QW X e (Z.eL l):=⟨ZS.dw_l (h:=h.p)⟩
theorem de_l {l:Z.LF} (h:QL X e l):QE X e (Z.eL l):=⟨ZS.de_l (h:=h.p)⟩
theorem de_mul (ha:QW X a fa) (hb:QW X b fb):QE X (.BinOp a .Mult b pos) (Z.eB Z.oMul fa fb):=⟨ZS.de_mul (ha:=ha.p) (hb:=hb.p)⟩
theorem de_div (ha:QW X a fa) (hb:QW X b fb):QE X (.BinOp a .FloorDiv b pos) (Z.eB Z.oDiv fa fb):=⟨ZS.de_div (ha:=ha.p) (hb:=hb.p)⟩
theorem de_mod (ha:QW X a fa) (hb:QW X b fb):QE X (.BinOp a .Mod b pos) (Z.eB Z.oMod fa fb):=⟨ZS.de_mod (ha:=ha.p) (hb:=hb.p)⟩
theorem de_add (ha:QW X a fa) (hb:QW X b fb):QE X (.BinOp a .Add b pos) (Z.eB Z.oAdd fa fb):=⟨ZS.de_add (ha:=ha.p) (hb:=hb.p)⟩
theorem de_cmpC {op:CmpOp} {o:Z.D→Z.D→Z.Res Z.D} (h:Cmp X op o) (ha:QW X a fa) (hb:QW X b fb) (hm:behindInMarks op b=false):QE X (.Compare a [op] [b] pos) (Z.eB o fa fb):=⟨ZS.de_cmpC (h:=h) (ha:=ha.p) (hb:=hb.p) (hm:=hm)⟩
theorem dt_cmpC {op:CmpOp} {o:Z.D→Z.D→Z.Res Z.D} (h:Cmp X op o) (ha:QW X a fa) (hb:QW X b fb) (hm:behindInMarks op b=false):QT X (.Compare a [op] [b] pos) (Z.tE (Z.eB o fa fb)):=⟨ZS.dt_cmpC (h:=h) (ha:=ha.p) (hb:=hb.p) (hm:=hm)⟩
theorem de_chain {op op':CmpOp} {o o':Z.D→Z.D→Z.Res Z.D} (h:Cmp X op o) (h':Cmp X op' o') (ha:QW X a fa) (hb:QW X b fb) (hc:QW X c fc) (hm:lastMarks [op,op'] [b,c]=false:=by with_unfolding_all rfl):QE X (.Compare a [op,op'] [b,c] pos) (Z.eChain o o' fa fb fc):=⟨ZS.de_chain (h:=h) (h':=h') (ha:=ha.p) (hb:=hb.p) (hc:=hc.p) (hm:=hm)⟩
theorem dt_chain {op op':CmpOp} {o o':Z.D→Z.D→Z.Res Z.D} (h:Cmp X op o) (h':Cmp X op' o') (ha:QW X a fa) (hb:QW X b fb) (hc:QW X c fc) (hm:lastMarks [op,op'] [b,c]=false:=by with_unfolding_all rfl):QT X (.Compare a [op,op'] [b,c] pos) (Z.tE (Z.eChain o o' fa fb fc)):=⟨ZS.dt_chain (h:=h) (h':=h') (ha:=ha.p) (hb:=hb.p) (hc:=hc.p) (hm:=hm)⟩
theorem dt_notN {j pos'} (ha:QW X a fa):QT X (.Compare a [.IsNot] [.Constant .none j pos'] pos) (Z.tE (Z.eU Z.oNotN fa)):=⟨ZS.dt_notN (ha:=ha.p)⟩
theorem de_one {op} (h:QE X a fa):QE X (.BoolOp op [a] pos) fa:=⟨ZS.de_one (h:=h.p)⟩
theorem de_and {rest:List Expr} (ha:QE X a fa) (hb:QE X (.BoolOp .And (b :: rest) pos) fb):QE X (.BoolOp .And (a :: b :: rest) pos) (Z.eAnd fa fb):=⟨ZS.de_and (ha:=ha.p) (hb:=hb.p)⟩
theorem de_or {rest:List Expr} (ha:QE X a fa) (hb:QE X (.BoolOp .Or (b :: rest) pos) fb):QE X (.BoolOp .Or (a :: b :: rest) pos) (Z.eOr fa fb):=⟨ZS.de_or (ha:=ha.p) (hb:=hb.p)⟩
theorem de_not (ha:QE X a fa):QE X (.UnaryOp .Not a pos) (Z.eNot fa):=⟨ZS.de_not (ha:=ha.p)⟩
theorem dt_e (h:QE X e f) (he:∀ whole,isTrue e X.env whole=(do let v ←whole;standAt e.pos;holding [v] (truthy v)):=by intro _;rfl):QT X e (Z.tE f):=⟨ZS.dt_e (h:=h.p) (he:=he)⟩
theorem dt_not {t:Z.TF} (h:QT X a t):QT X (.UnaryOp .Not a pos) (Z.tNot t):=⟨ZS.dt_not (h:=h.p)⟩
theorem dt_and1 {t:Z.TF} (h:QT X a t):QTW X (.BoolOp .And [a] pos) t:=⟨ZS.dt_and1 (h:=h.p)⟩
theorem dt_or1 {t:Z.TF} (h:QT X a t):QTW X (.BoolOp .Or [a] pos) t:=⟨ZS.dt_or1 (h:=h.p)⟩
theorem dt_and {t u:Z.TF} {rest:List Expr} (ha:QT X a t) (hb:QTW X (.BoolOp .And (b :: rest) pos) u):QTW X (.BoolOp .And (a :: b :: rest) pos) (Z.tAnd t u):=⟨ZS.dt_and (ha:=ha.p) (hb:=hb.p)⟩
theorem dt_or {t u:Z.TF} {rest:List Expr} (ha:QT X a t) (hb:QTW X (.BoolOp .Or (b :: rest) pos) u):QTW X (.BoolOp .Or (a :: b :: rest) pos) (Z.tOr t u):=⟨ZS.dt_or (ha:=ha.p) (hb:=hb.p)⟩
theorem dtw {t:Z.TF} (h:QTW X e t):QT X e t:=⟨ZS.dtw (h:=h.p)⟩
theorem da_nil  : QA X [] Z.aNil:=⟨ZS.da_nil ⟩
theorem da_cConst {g:Z.AF} {v j p} (ha:QE X (.Constant v j p) f) (hr:QA X es g):QA X ((.Constant v j p) :: es) (Z.aCons f g):=⟨ZS.da_cConst (ha:=ha.p) (hr:=hr.p)⟩
theorem da_cName {g:Z.AF} {x p} (ha:QE X (.Name x p) f) (hr:QA X es g):QA X ((.Name x p) :: es) (Z.aCons f g):=⟨ZS.da_cName (ha:=ha.p) (hr:=hr.p)⟩
theorem da_cTuple {g:Z.AF} {xs j p} (ha:QE X (.Tuple xs j p) f) (hr:QA X es g):QA X ((.Tuple xs j p) :: es) (Z.aCons f g):=⟨ZS.da_cTuple (ha:=ha.p) (hr:=hr.p)⟩
theorem da_cList {g:Z.AF} {xs p} (ha:QE X (.List xs p) f) (hr:QA X es g):QA X ((.List xs p) :: es) (Z.aCons f g):=⟨ZS.da_cList (ha:=ha.p) (hr:=hr.p)⟩
theorem da_cBin {g:Z.AF} {x o y p} (ha:QE X (.BinOp x o y p) f) (hr:QA X es g):QA X ((.BinOp x o y p) :: es) (Z.aCons f g):=⟨ZS.da_cBin (ha:=ha.p) (hr:=hr.p)⟩
theorem da_cCall {g:Z.AF} {x xs ks p} (ha:QE X (.Call x xs ks p) f) (hr:QA X es g):QA X ((.Call x xs ks p) :: es) (Z.aCons f g):=⟨ZS.da_cCall (ha:=ha.p) (hr:=hr.p)⟩
theorem da_cSub {g:Z.AF} {x y p} (ha:QE X (.Subscript x y p) f) (hr:QA X es g):QA X ((.Subscript x y p) :: es) (Z.aCons f g):=⟨ZS.da_cSub (ha:=ha.p) (hr:=hr.p)⟩
theorem da_cDict {g:Z.AF} {ks vs p} (ha:QE X (.Dict ks vs p) f) (hr:QA X es g):QA X ((.Dict ks vs p) :: es) (Z.aCons f g):=⟨ZS.da_cDict (ha:=ha.p) (hr:=hr.p)⟩
theorem da_cAttr {g:Z.AF} {x n p} (ha:QE X (.Attribute x n p) f) (hr:QA X es g):QA X ((.Attribute x n p) :: es) (Z.aCons f g):=⟨ZS.da_cAttr (ha:=ha.p) (hr:=hr.p)⟩
theorem de_tup {x1} {g:Z.AF} (h:QA X es g):QE X (.Tuple es x1 pos) (Z.eTup g):=⟨ZS.de_tup (h:=h.p)⟩
theorem dl_disp {g:Z.AF} (h:QA X es g):QL X (.List es pos) (Z.lDisp g):=⟨ZS.dl_disp (h:=h.p)⟩
theorem de_isinst (t:Z.Ty) {x y:Str} {p1 p2:Pos} (hg:Gl X x) (hm:X.mg x=none) (hv:bootBuiltins x=some (.builtin "isinstance")) (hg2:Gl X y) (hm2:X.mg y=none) (hv2:bootBuiltins y=some (.type (tyC t))) (ha:QW X a fa) (hn:x ≠ "__name__" := by decide +kernel) (hdb:(x==("__debug__" : Str))=false:=by decide +kernel) (hn2:y ≠ "__name__" := by decide +kernel) (hdb2:(y==("__debug__" : Str))=false:=by decide +kernel) (he:starEach (a :: [.Name y p2]) X.env=(false,eval a X.env) :: starEach [.Name y p2] X.env:=by rfl) (hpl:(backTo pos (starEach [.Name y p2] X.env)).any (·.1)=false:=by rfl) (he2:starEach ((.Name y p2) :: []) X.env=(false,eval (.Name y p2) X.env) :: starEach [] X.env:=by rfl):QE X (.Call (.Name x p1) [a,.Name y p2] [] pos) (Z.eU (Z.oIsTy t) fa):=⟨ZS.de_isinst (t:=t) (hg:=hg) (hm:=hm) (hv:=hv) (hg2:=hg2) (hm2:=hm2) (hv2:=hv2) (ha:=ha.p) (hn:=hn) (hdb:=hdb) (hn2:=hn2) (hdb2:=hdb2) (he:=he) (hpl:=hpl) (he2:=he2)⟩
theorem de_len {x:Str} {p1:Pos} (hg:Gl X x) (hm:X.mg x=none) (hv:bootBuiltins x=some (.builtin "len")) (ha:QW X a fa) (hn:x ≠ "__name__" := by decide +kernel) (hdb:(x==("__debug__" : Str))=false:=by decide +kernel) (he:starEach (a :: []) X.env=(false,eval a X.env) :: starEach [] X.env:=by rfl) (hpl:(backTo pos (starEach [] X.env)).any (·.1)=false:=by rfl):QE X (.Call (.Name x p1) [a] [] pos) (Z.eU Z.oLen fa):=⟨ZS.de_len (hg:=hg) (hm:=hm) (hv:=hv) (ha:=ha.p) (hn:=hn) (hdb:=hdb) (he:=he) (hpl:=hpl)⟩
theorem de_ix (ha:QW X a fa) (hb:QW X b fb) (hs:PlainIx b:=by intro _ _;rfl):QE X (.Subscript a b pos) (Z.eB Z.oIx fa fb):=⟨ZS.de_ix (ha:=ha.p) (hb:=hb.p) (hs:=hs)⟩
theorem dp_no  : QP X none Z.pNo:=⟨ZS.dp_no ⟩
theorem dp_at (h:QW X e f):QP X (some e) (Z.pAt f):=⟨ZS.dp_at (h:=h.p)⟩
theorem de_slice {lo hi:Option Expr} {gl gh:Z.PF} {p2:Pos} (ha:QW X a fa) (hl:QP X lo gl) (hh:QP X hi gh):QE X (.Subscript a (.Slice lo hi none p2) pos) (Z.eSl fa gl gh):=⟨ZS.de_slice (ha:=ha.p) (hl:=hl.p) (hh:=hh.p)⟩
theorem dl_cat (ha:QW X a fa) (hb:QW X b fb):QL X (.BinOp a .Add b pos) (Z.lCat fa fb):=⟨ZS.dl_cat (ha:=ha.p) (hb:=hb.p)⟩
theorem de_callC {k:Nat} {ps:List Str} {x:Str} {m:List Z.D→Z.Res Z.D} {ar:Z.AF} {p1:Pos} (C:Cal X.prog X.w X.K X.mg X.base x k ps m) (hr:Room k X.A) (hg:Gl X x) (ha:QA X (e :: es) ar) (hdb:(x==("__debug__" : Str))=false:=by decide +kernel) (he:starEach (e :: es) X.env=(false,eval e X.env) :: starEach es X.env:=by rfl) (hpl:(backTo pos (starEach es X.env)).any (·.1)=false:=by rfl):QE X (.Call (.Name x p1) (e :: es) [] pos) (Z.eCall m ar):=⟨ZS.de_callC (C:=C) (hr:=hr) (hg:=hg) (ha:=ha.p) (hdb:=hdb) (he:=he) (hpl:=hpl)⟩
theorem di_j {g:Z.LF} (h:QJ X tg e g):QI X tg e g:=⟨ZS.di_j (h:=h.p)⟩
theorem dj_rng1 (hg:Gl X "range") (hm:X.mg "range" = none) (ha:QE X a fa) (hs:starEach [a] X.env=[(false,eval a X.env)]:=by rfl) (hs1:starEach (a :: []) X.env=(false,eval a X.env) :: starEach [] X.env:=by rfl):QJ X tg (.Call (.Name "range" p) [a] [] pos) (Z.iRng1 fa):=⟨ZS.dj_rng1 (hg:=hg) (hm:=hm) (ha:=ha.p) (hs:=hs) (hs1:=hs1)⟩
theorem di_seq (ha:QW X a fa):QI X tg a (Z.iSeq fa):=⟨ZS.di_seq (ha:=ha.p)⟩
theorem dj_seq (ha:QE X a fa):QJ X tg a (Z.iSeq fa):=⟨ZS.dj_seq (ha:=ha.p)⟩
theorem dss_nil  : QSs X H0 [] Z.sNext:=⟨ZS.dss_nil ⟩
theorem dss_one (h:QS X H0 st g):QSs X H0 [st] g:=⟨ZS.dss_one (h:=h.p)⟩
theorem dss_cons (h1:QS X H0 st g) (h2:QSs X H0 sts u):QSs X H0 (st :: sts) (Z.sSeq g u):=⟨ZS.dss_cons (h1:=h1.p) (h2:=h2.p)⟩
theorem ds_ret (h:QE X a fa):QS X H0 (.Return (some a) pos) (Z.sRet fa):=⟨ZS.ds_ret (h:=h.p)⟩
theorem ds_drop (h:QE X a fa) (hs:swapsWith a none pos.line X.env=pure false:=by rfl):QS X H0 (.Expr a pos) (Z.sDrop fa):=⟨ZS.ds_drop (h:=h.p) (hs:=hs)⟩
theorem ds_if {c:Expr} {b1 b2:List Stmt} {t:Z.TF} (hc:QT X c t) (h1:QSs X H0 b1 g) (h2:QSs X H0 b2 u):QS X H0 (.If c b1 b2 pos) (Z.sIf t g u):=⟨ZS.ds_if (hc:=hc.p) (h1:=h1.p) (h2:=h2.p)⟩
theorem ds_set {i:Nat} {x:Str} {pos':Pos} (hN:X.N.Nodup) (hi:X.N[i]?=some x) (hx:Loc X.env.scope x) (he:QE X a fa) (hs:swapsWith a (some (.Name x pos')) pos.line X.env=pure false:=by rfl) (hf:X.fn x=true∨X.env.scope.names.lookup x=some .local:=by first | exact .inl rfl | exact .inr rfl | assumption):QS X H0 (.Assign [.Name x pos'] a pos) (Z.sSet i fa):=⟨ZS.ds_set (hN:=hN) (hi:=hi) (hx:=hx) (he:=he.p) (hs:=hs) (hf:=hf)⟩
theorem ds_own {i:Nat} {x:Str} {pos':Pos} {l:Z.LF} (hN:X.N.Nodup) (hi:X.N[i]?=some x) (hx:Loc X.env.scope x) (he:QL X a l) (hs:swapsWith a (some (.Name x pos')) pos.line X.env=pure false:=by rfl) (hf:X.fn x=true∨X.env.scope.names.lookup x=some .local:=by first | exact .inl rfl | exact .inr rfl | assumption):QS X H0 (.Assign [.Name x pos'] a pos) (Z.sOwn i l):=⟨ZS.ds_own (hN:=hN) (hi:=hi) (hx:=hx) (he:=he.p) (hs:=hs) (hf:=hf)⟩
theorem dg_name {i:Nat} {x:Str} (hN:X.N.Nodup) (hi:X.N[i]?=some x) (hx:Loc X.env.scope x) (hf:X.fn x=true∨X.env.scope.names.lookup x=some .local:=by first | exact .inl rfl | exact .inr rfl | assumption):QG X H0 (.Name x pos) (Z.gName i):=⟨ZS.dg_name (hN:=hN) (hi:=hi) (hx:=hx) (hf:=hf)⟩
theorem dgs_nil  : QGs X H0 [] []:=⟨ZS.dgs_nil ⟩
theorem dgs_cons {i:Nat} {is:List Nat} {x:Str} (hN:X.N.Nodup) (hi:X.N[i]?=some x) (hx:Loc X.env.scope x) (h2:QGs X H0 es is) (hs:(assignEach ((.Name x pos) :: es) X.env).map (·.2)=assign (.Name x pos) X.env :: (assignEach es X.env).map (·.2):=by rfl) (hf:X.fn x=true∨X.env.scope.names.lookup x=some .local:=by first | exact .inl rfl | exact .inr rfl | assumption):QGs X H0 (.Name x pos :: es) (i :: is):=⟨ZS.dgs_cons (hN:=hN) (hi:=hi) (hx:=hx) (h2:=h2.p) (hs:=hs) (hf:=hf)⟩
theorem dg_tup {x1 n:Nat} {is:List Nat} (hc:X.calm=true) (h:QGs X H0 es is) (hl:is.length=n) (hn:(assignEach es X.env).length=n:=by rfl) (hst:(assignEach es X.env).findIdx? (·.1)=none:=by rfl):QG X H0 (.Tuple es x1 pos) (Z.gTup is):=⟨ZS.dg_tup (hc:=hc) (h:=h.p) (hl:=hl) (hn:=hn) (hst:=hst)⟩
theorem ds_for {it:Z.LF} {G:Z.GF} {iter:Expr} {body:List Stmt} (hp:PassesOwn (model X.prog X.w) X.A X.env X.xe) (hc:X.calm=true) (hi:QJ X tg iter it) (hg:QG X H0 tg G) (hb:QSs X H0 body g) (hs:∀ x,foldedSetIterable iter X.env x=pure x:=by intro _;rfl):QS X H0 (.For tg iter body [] pos) (Z.sFor it G g):=⟨ZS.ds_for (hp:=hp) (hc:=hc) (hi:=hi.p) (hg:=hg.p) (hb:=hb.p) (hs:=hs)⟩
theorem dss_frz {i:Nat} (h:QSs X H0 sts g):QSs X H0 sts (Z.sFrz i g):=⟨ZS.dss_frz (h:=h.p)⟩
theorem dl_comp {it:Z.LF} {G:Z.GF} {t:Z.TF} {fe:Z.EF} (hcalm:X.calm=true) (hi:QI X tg iter it) (B:Blk X.N N' n is scope X.env.scope) (hG:∀ d ρ ρ1,G d ρ=.ok ρ1→ρ1.length=ρ.length∧∀ i,n≤i→ρ1[i]?=ρ[i]?) (hg:∀ cl C fp s H H0,QG (blk X N' scope cl C fp s H) H0 tg G) (ht:∀ cl C fp s H,QTst (blk X N' scope cl C fp s H) ifs t) (he:∀ cl C fp s H,QE (blk X N' scope cl C fp s H) elt fe) (hs:∀ x,foldedSetIterable iter X.env x=pure x:=by intro _;rfl):QL X (.ListComp elt [⟨tg,iter,ifs,0⟩] scope pos) (Z.lComp it n is G t fe):=⟨ZS.dl_comp (hcalm:=hcalm) (hi:=hi.p) (B:=B) (hG:=hG) (hg:=fun y0 y1 y2 y3 y4 y5=>(hg y0 y1 y2 y3 y4 y5).p) (ht:=fun y0 y1 y2 y3 y4=>(ht y0 y1 y2 y3 y4).p) (he:=fun y0 y1 y2 y3 y4=>(he y0 y1 y2 y3 y4).p) (hs:=hs)⟩
theorem tst_no  : QTst X [] Z.tTrue:=⟨ZS.tst_no ⟩
theorem tst_one {c:Expr} {t:Z.TF} (h:QT X c t):QTst X [c] t:=⟨ZS.tst_one (h:=h.p)⟩
theorem de_all {x:Str} {p1:Pos} (hg:Gl X x) (hm:X.mg x=none) (hv:bootBuiltins x=some (.builtin "all")) (ha:QW X a fa) (hc:X.calm=true:=by rfl) (hn:x ≠ "__name__" := by decide +kernel) (hdb:(x==("__debug__" : Str))=false:=by decide +kernel) (he:starEach (a :: []) X.env=(false,eval a X.env) :: starEach [] X.env:=by rfl) (hpl:(backTo pos (starEach [] X.env)).any (·.1)=false:=by rfl):QE X (.Call (.Name x p1) [a] [] pos) (Z.eU Z.oAll fa):=⟨ZS.de_all (hg:=hg) (hm:=hm) (hv:=hv) (ha:=ha.p) (hc:=hc) (hn:=hn) (hdb:=hdb) (he:=he) (hpl:=hpl)⟩
theorem calQ {P:Program} {w:World} {K:PySem.W.Frag} {mg:Str→Option Value} {base:Heap} {x:Str} {k:Nat} {st:Stmt} {N ps:List Str} {b:Z.SF} (d:ZS.Def K mg x st ps) (S:FnScope N ps (defScope st))
  (hb:∀ (f:Addr) (cdv:Value) (A:Around) (outer:List PySem.Env) (s:Shared) (H:Hp) (E:XK),Room k (A.deeper (envOfC x (defScope st) s.heap.objs.size f cdv)) →
   QSs (cxOf CX0 P w K mg base N x (defScope st) f cdv A outer s H E).nox H (defBody st) b):ZS.Cal P w K mg base x (k+1) ps (Z.fn ps.length N.length b) :=
 ZS.Cal.mk' d S fun f cdv A outer s H E hr=>(hb f cdv A outer s H E hr).p
theorem fnQ {P:Program} {w:World} {K:PySem.W.Frag} {mg:Str→Option Value} {base:Heap} {x qual:Str} {st:Stmt} {f:Addr} {fd:FuncData} {N ps:List Str} {k:Nat} {b:Z.SF} (F:Fun K x qual st f fd) (S:FnScope N ps (defScope st))
  (hb:∀ (cdv:Value) (A:Around) (outer:List PySem.Env) (s:Shared) (H:Hp) (E:XK),Room k (A.deeper (envOfC qual (defScope st) s.heap.objs.size f cdv)) →
   QSs (cxOf CX0 P w K mg base N qual (defScope st) f cdv A outer s H E).nox H (defBody st) b):FnOk P w K mg base CX0 (k+1) f fd ps (ZS.spZ K (Z.fn ps.length N.length b)) :=
 ZS.fnZ F S fun cdv A outer s H E hr=>(hb cdv A outer s H E hr).p
end
end ZQ
noncomputable section
namespace Z
def oTuple:D→Res D
 | .lst xs=>.ok (.tup xs)
 | .tup xs=>.ok (.tup xs)
 | _=>.bad
@[simp] theorem oTuple_lst (xs:List D):oTuple (.lst xs)=.ok (.tup xs):=rfl
@[simp] theorem oTuple_tup (xs:List D):oTuple (.tup xs)=.ok (.tup xs):=rfl
def oInRng:D→D→Res D
 | .int i,.int j=>.ok (.bl (decide (0≤i∧i < j)))
 | _,_=>.bad
@[simp] theorem oInRng_int (i j:Int):oInRng (.int i) (.int j)=.ok (.bl (decide (0≤i∧i < j))):=rfl
def oNotInRng:D→D→Res D
 | .int i,.int j=>.ok (.bl (!decide (0≤i∧i < j)))
 | _,_=>.bad
@[simp] theorem oNotInRng_int (i j:Int):oNotInRng (.int i) (.int j)=.ok (.bl (!decide (0≤i∧i < j))):=rfl
def letters:List Nat:=[97,98,99,100,101,102,103,104,105,106,107,108,109,110,111,112,113,114,115,116,117,118,119,120,121,122]
def signs:List Nat:=[46,61,35,97,98,99,100,101,102,103,104,105,106,107,108,109,110,111,112,113,114,115,116,117,118,119,120,121,122]
def oMax:D→D→Res D
 | .int i,.int j=>.ok (.int (max i j))
 | _,_=>.bad
@[simp] theorem oMax_int (i j:Int):oMax (.int i) (.int j)=.ok (.int (max i j)):=rfl
def oMin:D→D→Res D
 | .int i,.int j=>.ok (.int (min i j))
 | _,_=>.bad
@[simp] theorem oMin_int (i j:Int):oMin (.int i) (.int j)=.ok (.int (min i j)):=rfl
def oInt:D→Res D
 | .int i=>.ok (.int i)
 | .bl b=>.ok (.int (if b then 1 else 0))
 | _=>.bad
@[simp] theorem oInt_int (i:Int):oInt (.int i)=.ok (.int i):=rfl
@[simp] theorem oInt_bl (b:Bool):oInt (.bl b)=.ok (.int (if b then 1 else 0)):=rfl
def lOf (a:EF) (ρ:Env):Res (List D):=(a ρ).bind fun x=>match x with
 | .lst xs=>.ok xs
 | .tup xs=>.ok xs
 | _=>.bad
def listK:D→Res (List D)
 | .lst xs=>.ok xs
 | .tup xs=>.ok xs
 | _=>.bad
@[simp] theorem lOf_a (a:EF) (ρ:Env):lOf a ρ=(a ρ).bind listK:=rfl
@[simp] theorem listK_lst (xs:List D):listK (.lst xs)=.ok xs:=rfl
@[simp] theorem listK_tup (xs:List D):listK (.tup xs)=.ok xs:=rfl
def sumD:List D→Option Int
 | []=>some 0
 | .int i :: r=>(sumD r).map (i+·)
 | _ :: _=>none
def oSum:D→Res D
 | .lst xs=>match sumD xs with
  | some i=>.ok (.int i)
  | none=>.bad
 | _=>.bad
def sExt (i:Nat) (l:LF) (ρ:Env):Res Fl:=(l ρ).bind fun ys=>match ρ[i]? with
 | some (some (.own xs))=>guard (xs.length+ys.length≤line) (.ok (.nx (ρ.set i (some (.own (xs++ys))))))
 | _=>.bad
def pair (a b:D):D:=.tup [a,b]
def enumD (k:Nat):List D→List D
 | []=>[]
 | d :: ds=>pair (.int k) d :: enumD (k+1) ds
def zipD:List D→List D→List D
 | a :: as,b :: bs=>pair a b :: zipD as bs
 | _,_=>[]
def iEnum (a:EF) (ρ:Env):Res (List D):=(a ρ).bind fun x=>(iterD x).bind fun ds=>.ok (enumD 0 ds)
@[simp] theorem iEnum_a (a:EF) (ρ:Env):iEnum a ρ=(a ρ).bind fun x=>(iterD x).bind fun ds=>.ok (enumD 0 ds):=rfl
def seqD:D→Res (List D)
 | .tup xs=>.ok xs
 | .lst xs=>.ok xs
 | _=>.bad
@[simp] theorem seqD_tup (xs:List D):seqD (.tup xs)=.ok xs:=rfl
@[simp] theorem seqD_lst (xs:List D):seqD (.lst xs)=.ok xs:=rfl
def tupD:D→Res (List D)
 | .tup xs=>.ok xs
 | _=>.bad
@[simp] theorem tupD_tup (xs:List D):tupD (.tup xs)=.ok xs:=rfl
def iZip (a b:EF) (ρ:Env):Res (List D):=(a ρ).bind fun x=>(b ρ).bind fun y=>(seqD x).bind fun xs=>(tupD y).bind fun ys=>.ok (zipD xs ys)
@[simp] theorem iZip_a (a b:EF) (ρ:Env):iZip a b ρ=(a ρ).bind fun x=>(b ρ).bind fun y=>(seqD x).bind fun xs=>(tupD y).bind fun ys=>.ok (zipD xs ys):=rfl
end Z
end
namespace ZS
open PySem PySem.Spec PyProof.Rows L2
section
variable {X:Cx} {e a b:Expr} {es:List Expr} {pos p:Pos} {f fa fb:Z.EF}
theorem de_tuple {x:Str} {p1:Pos} (hg:Gl X x) (hm:X.mg x=none) (hv:bootBuiltins x=some (.type "tuple")) (ha:DW X a fa) (hn:x ≠ "__name__" := by decide +kernel) (hdb:(x==("__debug__" : Str))=false:=by decide +kernel)
  (he:starEach (a :: []) X.env=(false,eval a X.env) :: starEach [] X.env:=by rfl) (hpl:(backTo pos (starEach [] X.env)).any (·.1)=false:=by rfl):DE X (.Call (.Name x p1) [a] [] pos) (Z.eU Z.oTuple fa) :=
 PE.imp (pe_callTy call_tuple_of hg hm hv (pa_cons ha pa_nil he) hn hdb he hpl) fun σ H Q ⟨ρ,d,r,e,k⟩=>by
  obtain ⟨x,ea,e⟩:=Z.Res.bind_ok e
  refine ⟨ρ,x,r,ea,fun v H1 s1 d1=>?_⟩
  unfold Z.oTuple at e
  split at e
  ·cases e
   obtain ⟨q,vs,rfl,hq,t⟩:=d1.lst
   refine ⟨q,vs,rfl,.inl ⟨hq,fun l hl=>?_⟩⟩
   have s2:Same H1 (upd H1 l (.tup vs)):=upd_Same hl
   exact k _ _ (s1.trans s2) (den_tup (.inl (.inl upd_same)) (t.up s2))
  ·cases e
   obtain ⟨q,vs,rfl,hq,t⟩:=d1.tup
   exact ⟨q,vs,rfl,.inr ⟨hq,k _ H1 s1 (den_tup hq t)⟩⟩
  ·cases e
end
end ZS
namespace ZQ
open PySem PySem.Spec PyProof.Rows L2 ZS
section
variable {X:Cx} {tg e a b c:Expr} {es:List Expr} {pos p:Pos} {f fa fb fc:Z.EF} {H0:Hp}
theorem de_tuple {x:Str} {p1:Pos} (hg:Gl X x) (hm:X.mg x=none) (hv:bootBuiltins x=some (.type "tuple")) (ha:QW X a fa) (hn:x ≠ "__name__" := by decide +kernel) (hdb:(x==("__debug__" : Str))=false:=by decide +kernel) (he:starEach (a :: []) X.env=(false,eval a X.env) :: starEach [] X.env:=by rfl) (hpl:(backTo pos (starEach [] X.env)).any (·.1)=false:=by rfl):QE X (.Call (.Name x p1) [a] [] pos) (Z.eU Z.oTuple fa):=⟨ZS.de_tuple (hg:=hg) (hm:=hm) (hv:=hv) (ha:=ha.p) (hn:=hn) (hdb:=hdb) (he:=he) (hpl:=hpl)⟩
theorem ds_app {i:Nat} {o:Expr} {p1 p2:Pos} (ho:PE X o (tVar i)) (ha:QE X a fa) (hs:swapsWith (.Call (.Attribute o "append" p1) [a] [] p2) none pos.line X.env=pure false:=by rfl) (hs1:starEach (a :: []) X.env=(false,eval a X.env) :: starEach [] X.env:=by rfl)
  (hbase:attributeBase o "append" X.env (eval o X.env)=eval o X.env:=by rfl)
  (hfew:((backTo p2 (starEach (a :: []) X.env)).all (fun x=>!x.1)&&(backToKw p2 (keywordEach [] X.env)).all (fun x=>x.1.isSome)
   && decide ((a :: []).length+([]:List Keyword).length+(if ([]:List Keyword).isEmpty then 0 else 1) < 30))=true:=by rfl)
  (hline:(p1.endLine==p2.line)=true:=by rfl) (hplain:(backTo p2 (starEach [] X.env)).any (·.1)=false:=by rfl) :
  QS X H0 (.Expr (.Call (.Attribute o "append" p1) [a] [] p2) pos) (Z.sAppend i fa) :=
 ⟨ZS.ds_append ho ha.p hs hs1 (pe_bm PySem.F.plainAttrs_list PySem.F.slot_list_append PySem.F.type_list_append mt_append ho (pa_cons ha.p pa_nil hs1) hbase hfew hline hs1 hplain)⟩
theorem ds_putQ {i:Nat} {o kx:Expr} {p1:Pos} {fk:Z.EF} (ho:PE X o (tVar i)) (hk:QE X kx fk) (ha:QE X a fa)
  (hasg:∀ v,assign (.Subscript o kx p1) X.env v=(do
   let ov ←holding [v] (eval o X.env)
   let iv ←holding [v,ov] (eval kx X.env)
   standAt p1
   holding [v,ov,iv] (setItem ov iv v)
   release [v,ov,iv] []):=by intro _;rfl) (hs:swapsWithSole [.Subscript o kx p1] a pos.line X.env=pure false:=by rfl) (hw:swappedStores [.Subscript o kx p1] a X.env=pure none:=by rfl)
  (h1:(assignEach [.Subscript o kx p1] X.env).map (·.2)=[assign (.Subscript o kx p1) X.env]:=by rfl):QS X H0 (.Assign [.Subscript o kx p1] a pos) (Z.sPut i fk fa):=⟨ZS.ds_put hk.p ha.p (pg_sub ho hk.p set_list hasg) hs hw h1⟩
end
end ZQ
namespace ZS
open PySem PySem.Spec PyProof.Rows L2
section
variable {X:Cx} {e a b:Expr} {es:List Expr} {pos p:Pos} {f fa fb:Z.EF}
theorem de_int1 {x:Str} {p1:Pos} (hg:Gl X x) (hm:X.mg x=none) (hv:bootBuiltins x=some (.type "int")) (ha:DW X a fa) (hn:x ≠ "__name__" := by decide +kernel) (hdb:(x==("__debug__" : Str))=false:=by decide +kernel)
  (he:starEach (a :: []) X.env=(false,eval a X.env) :: starEach [] X.env:=by rfl) (hpl:(backTo pos (starEach [] X.env)).any (·.1)=false:=by rfl):DE X (.Call (.Name x p1) [a] [] pos) (Z.eU Z.oInt fa) :=
 PE.imp (pe_callTy call_int1 hg hm hv (pa_cons ha pa_nil he) hn hdb he hpl) fun σ H Q ⟨ρ,d,r,e,k⟩=>by
  obtain ⟨x,ea,e⟩:=Z.Res.bind_ok e
  refine ⟨ρ,x,r,ea,fun v H1 s1 d1=>?_⟩
  unfold Z.oInt at e
  split at e
  ·cases e;exact .inl ⟨_,by rw [d1.int],k _ H1 s1 den_int⟩
  ·cases e;exact .inr ⟨_,by rw [d1.bl],k _ H1 s1 den_int⟩
  ·cases e
theorem dl_list {x:Str} {p1:Pos} (hg:Gl X x) (hm:X.mg x=none) (hv:bootBuiltins x=some (.type "list")) (ha:DW X a fa) (hn:x ≠ "__name__" := by decide +kernel) (hdb:(x==("__debug__" : Str))=false:=by decide +kernel)
  (he:starEach (a :: []) X.env=(false,eval a X.env) :: starEach [] X.env:=by rfl) (hpl:(backTo pos (starEach [] X.env)).any (·.1)=false:=by rfl):DL X (.Call (.Name x p1) [a] [] pos) (Z.lOf fa) :=
 PE.imp (pe_callTy call_list_of hg hm hv (pa_cons ha pa_nil he) hn hdb he hpl) fun σ H Q ⟨ρ,d,r,e,k⟩=>by
  obtain ⟨x,ea,e⟩:=Z.Res.bind_ok e
  refine ⟨ρ,x,r,ea,fun v H1 s1 d1=>?_⟩
  split at e
  ·cases e
   obtain ⟨q,vs,rfl,hq,t⟩:=d1.lst
   refine ⟨q,vs,rfl,.inl hq,fun l hl=>?_⟩
   have s2:Same H1 (upd H1 l (.lst vs)):=upd_Same hl
   exact k l _ _ (s1.trans s2) (s1.free hl) upd_same (t.up s2)
  ·cases e
   obtain ⟨q,vs,rfl,hq,t⟩:=d1.tup
   refine ⟨q,vs,rfl,.inr hq,fun l hl=>?_⟩
   have s2:Same H1 (upd H1 l (.lst vs)):=upd_Same hl
   exact k l _ _ (s1.trans s2) (s1.free hl) upd_same (t.up s2)
  ·cases e
theorem sumD_ok : ∀ {xs : List Z.D} {k : Int}, Z.sumD xs = some k → ∃ ns : List Int, xs = ns.map Z.D.int ∧ k = ns.sum
 | [],k,h=>by cases h;exact ⟨[],rfl,rfl⟩
 | x :: xs,k,h=>by
  cases x with
  | int b =>
   have h':(Z.sumD xs).map (b+·)=some k:=h
   cases q:Z.sumD xs with
   | none=>rw [q] at h';cases h'
   | some k' =>
    rw [q] at h'
    cases h'
    obtain ⟨bs,rfl,rfl⟩:=sumD_ok q
    exact ⟨b :: bs,rfl,rfl⟩
  | non=>cases h
  | bl _=>cases h
  | str _=>cases h
  | tup _=>cases h
  | lst _=>cases h
  | dct _ _=>cases h
theorem dens_ints {K:PySem.W.Frag} {H:Hp}:∀ {ns:List Int} {vs:List V},Dens K H (ns.map Z.D.int) vs→vs=ns.map V.int
 | [],vs,h=>by simp only [List.map_nil,Dens] at h;subst h;rfl
 | b :: bs,vs,h=>by
  simp only [List.map_cons,Dens] at h
  obtain ⟨v,r,rfl,hv,ht⟩:=h
  simp only [Den] at hv
  rw [hv,dens_ints ht];rfl
theorem pre_sum (ns : List Int) : preSum (fun i => ns[i]?.getD 0) ns.length = ns.sum := by
 have key:∀ k,k≤ns.length→preSum (fun i=>ns[i]?.getD 0) k=(ns.take k).sum:=by
  intro k
  induction k with
  | zero=>intro _;simp [preSum]
  | succ k ih =>
   intro hk
   have e:preSum (fun i=>ns[i]?.getD 0) (k+1)=preSum (fun i=>ns[i]?.getD 0) k+ns[k]?.getD 0:=rfl
   have hsum:∀ (xs ys:List Int),(xs++ys).sum=xs.sum+ys.sum:=fun xs ys=>by
    induction xs with
    | nil=>simp
    | cons x xs ih=>simp only [List.cons_append,List.sum_cons,ih];lia
   rw [e,ih (by lia),List.take_add_one,hsum,List.getElem?_eq_getElem (show k < ns.length by lia)]
   simp
 have:=key ns.length (Nat.le_refl _)
 rwa [List.take_length] at this
theorem call_sumZ (hc:X.calm=true):CallR X (.builtin "sum") (fun xs H Q=>∃ (q:Addr) (ns:List Int),xs=[.ref q]∧SqL X.K H q (ns.map V.int)∧Q (.int ns.sum) H):=by
 intro pins s σ H xs us Q I r h
 obtain ⟨q,ns,rfl,hq,k⟩:=h
 obtain ⟨u,rfl,ru⟩:=vals1 r
 cases ru
 obtain ⟨its,rv,pl,hz⟩:=I.list hq
 have hl:=rv.length
 rw [List.length_map] at hl
 have hlt:q < s.heap.objs.size:=by obtain ⟨_,e,_⟩:=pl.isList;exact Heap.lt_size e
 have hh:X.A.in1.handled=none:=I.ok.hd hc
 refine call_sum_walkG (wpAny_pyIter_list pl.isList ?_)
 refine ⟨s.heap.objs.size,[s.heap.objs.size,q],[s.heap.objs.size],its.toArray.size,_,_,fun i=>ns[i]?.getD 0,rfl,Walks.list hh s.heap.objs.size q (Nat.ne_of_lt hlt) its.toArray,⟨⟨_,Heap.get?_push_size _ rfl,rfl,rfl⟩,pl.isList.push _⟩,?_,?_,fun h' tk t' hk=>?_⟩
 ·intro b hb
  show b < (s.heap.push _).objs.size
  rw [Heap.size_push]
  rcases List.mem_cons.mp hb with rfl | hb
  ·exact Nat.lt_succ_self _
  ·rw [List.mem_singleton.mp hb];exact Nat.lt_succ_of_lt hlt
 ·intro i v hv
  have hi:its[i]?=some v:=by simpa using hv
  obtain ⟨hi1,_⟩:=List.getElem?_eq_some_iff.mp hi
  have hb:(ns.map V.int)[i]?=some (V.int (ns[i]'(by lia))):=by
   rw [List.getElem?_map,List.getElem?_eq_getElem (by lia)];rfl
  obtain ⟨u,hu,ru⟩:=rv.get hb
  rw [hi] at hu;cases hu
  obtain ⟨t,rfl⟩:=ru
  exact ⟨t,by show Value.int _ t=Value.int (ns[i]?.getD 0) t;rw [List.getElem?_eq_getElem (by lia)];rfl⟩
 ·have I1:Inv X pins σ H { s with heap:=s.heap.push { cls:=.type "list_iterator",data:=.fields #[.ref q,.int 0 0] } }:=I.kept (t':=s.toks) fun b o e=>Heap.get?_push_of_some _ e
  obtain ⟨f0,f1,f2,f3,f4,f5⟩:=I.fpOk (H':=H) (Nat.le_refl s.heap.objs.size) I.fresh
  have I2:=I1.turned (h':=h') (t':=tk) (it:=s.heap.objs.size) (fun b o hb e=>hk b o (by simpa using hb) e) f0 f1 f3 f4 f5
  refine ⟨.int _,H,I2,⟨t',rfl⟩,?_⟩
  rw [List.size_toArray,←hl,pre_sum]
  exact k
theorem de_sum {x : Str} {p1 : Pos} (hg : Gl X x) (hm : X.mg x = none) (hv : bootBuiltins x = some (.builtin "sum")) (ha : DW X a fa) (hc : X.calm = true := by rfl) (hn : x ≠ "__name__" := by decide +kernel) (hdb : (x == ("__debug__" : Str)) = false := by decide +kernel)
  (he:starEach (a :: []) X.env=(false,eval a X.env) :: starEach [] X.env:=by rfl) (hpl:(backTo pos (starEach [] X.env)).any (·.1)=false:=by rfl):DE X (.Call (.Name x p1) [a] [] pos) (Z.eU Z.oSum fa) :=
 PE.imp (pe_callB (call_sumZ hc) hg hm hv (pa_cons ha pa_nil he) hn hdb he hpl) fun σ H Q ⟨ρ,d,r,e,k⟩=>by
  obtain ⟨x,ea,e⟩:=Z.Res.bind_ok e
  refine ⟨ρ,x,r,ea,fun v H1 s1 d1=>?_⟩
  unfold Z.oSum at e
  split at e
  ·split at e
   ·rename_i xs k' hk
    cases e
    obtain ⟨bs,rfl,rfl⟩:=sumD_ok hk
    obtain ⟨q,vs,rfl,hq,t⟩:=d1.lst
    rw [dens_ints t] at hq
    exact ⟨q,bs,rfl,hq,k _ H1 s1 den_int⟩
   ·cases e
  ·cases e
end
end ZS
namespace ZQ
open PySem PySem.Spec PyProof.Rows L2 ZS
section
variable {X:Cx} {tg e a b c:Expr} {es:List Expr} {pos p:Pos} {f fa fb fc:Z.EF} {H0:Hp}
theorem de_int1 {x:Str} {p1:Pos} (hg:Gl X x) (hm:X.mg x=none) (hv:bootBuiltins x=some (.type "int")) (ha:QW X a fa) (hn:x ≠ "__name__" := by decide +kernel) (hdb:(x==("__debug__" : Str))=false:=by decide +kernel) (he:starEach (a :: []) X.env=(false,eval a X.env) :: starEach [] X.env:=by rfl) (hpl:(backTo pos (starEach [] X.env)).any (·.1)=false:=by rfl):QE X (.Call (.Name x p1) [a] [] pos) (Z.eU Z.oInt fa):=⟨ZS.de_int1 (hg:=hg) (hm:=hm) (hv:=hv) (ha:=ha.p) (hn:=hn) (hdb:=hdb) (he:=he) (hpl:=hpl)⟩
theorem dl_list {x:Str} {p1:Pos} (hg:Gl X x) (hm:X.mg x=none) (hv:bootBuiltins x=some (.type "list")) (ha:QW X a fa) (hn:x ≠ "__name__" := by decide +kernel) (hdb:(x==("__debug__" : Str))=false:=by decide +kernel) (he:starEach (a :: []) X.env=(false,eval a X.env) :: starEach [] X.env:=by rfl) (hpl:(backTo pos (starEach [] X.env)).any (·.1)=false:=by rfl):QL X (.Call (.Name x p1) [a] [] pos) (Z.lOf fa):=⟨ZS.dl_list (hg:=hg) (hm:=hm) (hv:=hv) (ha:=ha.p) (hn:=hn) (hdb:=hdb) (he:=he) (hpl:=hpl)⟩
theorem de_sum {x:Str} {p1:Pos} (hg:Gl X x) (hm:X.mg x=none) (hv:bootBuiltins x=some (.builtin "sum")) (ha:QW X a fa) (hc:X.calm=true:=by rfl) (hn:x ≠ "__name__" := by decide +kernel) (hdb:(x==("__debug__" : Str))=false:=by decide +kernel) (he:starEach (a :: []) X.env=(false,eval a X.env) :: starEach [] X.env:=by rfl) (hpl:(backTo pos (starEach [] X.env)).any (·.1)=false:=by rfl):QE X (.Call (.Name x p1) [a] [] pos) (Z.eU Z.oSum fa):=⟨ZS.de_sum (hg:=hg) (hm:=hm) (hv:=hv) (ha:=ha.p) (hc:=hc) (hn:=hn) (hdb:=hdb) (he:=he) (hpl:=hpl)⟩
end
end ZQ
namespace ZS
open PySem PySem.Spec PyProof.Rows L2 PySem.W
theorem weight_ints {i:Int}:∀ {ns:List Int},i∈ns→WData.weight (.int i)≤WData.weightAll (ns.map WData.int)
 | [],h=>by cases h
 | n :: ns,h=>by
  rcases List.mem_cons.mp h with rfl | h
  ·simp only [List.map_cons,WData.weightAll];lia
  ·have:=weight_ints h
   simp only [List.map_cons,WData.weightAll];lia
theorem bits_script {ns:List Int} (h:WData.layableAll [WData.list (ns.map WData.int)]=true):∀ i∈ns,Z.bits i≤2 ^ 20:=by
 intro i hi
 have h1:WData.layable (.list (ns.map WData.int))=true:=List.all_eq_true.mp h _ List.mem_cons_self
 unfold WData.layable at h1
 rw [Bool.and_eq_true] at h1
 have h2:WData.weight (.list (ns.map WData.int))≤2 ^ 20:=of_decide_eq_true h1.2
 have h3:WData.weight (.list (ns.map WData.int))=WData.weightAll (ns.map WData.int):=by simp only [WData.weight]
 have h4:=weight_ints hi
 have h5:WData.weight (.int i)=Z.bits i:=by
  simp only [WData.weight]
  unfold Z.bits
  by_cases hz:i=0
  ·subst hz;rfl
  ·rw [if_neg hz,if_neg (by simpa using hz)]
 lia
def LamOk (q:Program) (K:Frag):Prop:=noTabs K=true∧(∀ x∈lamNames,∀ c P,tabIn K x=some (c,P)→∃ d,(recsOf q).find? (fun e=>e.name==x)=some d) ∧
 ∀ x y c P c',x∈lamNames→y∈lamNames→tabIn K x=some (c,P)→tabIn K y=some (c',P)→x=y
theorem tab_some {K:Frag} {x:Str} {f c p:Addr} {o1 o2:Value} {d1 d2:Option Addr} {s1 s2:Array (Option Value)} {fd:FuncData} {vs:Array Value} (h:nsIn K mainGlobals x=some (some (.ref f))) (h2:K.lookup f=some ⟨o1,d1,.func fd,s1⟩) (h3:fd.code=.ref c)
  (h4:K.lookup c=some ⟨o2,d2,.fields vs,s2⟩) (h5:vs[11]?=some (.ref p)):tabIn K x=some (c,p):=by
 unfold tabIn
 rw [h];dsimp only
 rw [h2];dsimp only
 rw [h3];dsimp only
 rw [h4];dsimp only
 rw [h5]
theorem lamNames_cases {p:Str→Prop} (h1:p "best_among") (h2:p "paper_beside"):∀ x∈lamNames,p x:=by
 intro x hx
 unfold lamNames at hx
 rcases List.mem_cons.mp hx with rfl | hx
 ·exact h1
 ·rw [List.mem_singleton.mp hx];exact h2
theorem lam_ok {q:Program} {K:Frag} {r1 r2:Option (Addr×Addr)} (n:noTabs K=true) (h1:tabIn K "best_among" = r1) (h2:tabIn K "paper_beside" = r2) (g1:r1=none∨((recsOf q).find? (fun e=>e.name==Str.ofString "best_among")).isSome=true) (g2:r2=none∨((recsOf q).find? (fun e=>e.name==Str.ofString "paper_beside")).isSome=true)
  (ne:∀ c P c' P',r1=some (c,P)→r2=some (c',P')→P≠P'):LamOk q K:=by
 refine ⟨n,lamNames_cases (fun c P e=>?_) (fun c P e=>?_),fun x y c P c' hx hy=>?_⟩
 ·rcases g1 with z | z
  ·rw [h1,z] at e;cases e
  ·exact Option.isSome_iff_exists.mp z
 ·rcases g2 with z | z
  ·rw [h2,z] at e;cases e
  ·exact Option.isSome_iff_exists.mp z
 ·refine lamNames_cases (p:=fun x=>tabIn K x=some (c,P)→tabIn K y=some (c',P)→x=y) (fun e1=>?_) (fun e1=>?_) x hx
  ·refine lamNames_cases (p:=fun y=>tabIn K y=some (c',P) → "best_among" = y) (fun _=>rfl) (fun e2=>?_) y hy
   exact absurd rfl (ne c P c' P (h1.symm.trans e1) (h2.symm.trans e2))
  ·refine lamNames_cases (p:=fun y=>tabIn K y=some (c',P) → "paper_beside" = y) (fun e2=>?_) (fun _=>rfl) y hy
   exact absurd rfl (ne c' P c P (h1.symm.trans e2) (h2.symm.trans e1))
theorem walk_B {l : OpenLaw} {n k : Nat} {q : Program} {loose : List Str} {XP : (Str → Option Value) → Heap → Prop} {YP : World → Heap → Prop} {d : DefRec} {K : Params → Frag} {m : List Z.D → Z.Res Z.D} {x : Str}
  (hn:l.most=some n) (hn2:n≤sizeLine) (hdf:d.params.defaults=[]) (hr:Room k callerA)
  (hY:∀ (w:World) (h:Heap),YP w h→(K w.params).In h)
  (F:∀ (w:World) (mg:Str→Option Value) (fa:Addr) (h:Heap),(K w.params).In h→h.Ns mainGlobals mg→mg d.name=some (.ref fa) →
   ∃ fd:FuncData,(∀ (s:Shared) (u:Value),BindsTo s fd ⟨[u],[]⟩ [(x,u)]) ∧
    ∀ base:Heap,(K w.params).In base→base.Ns mainGlobals mg→FnOk l.prog w (K w.params) mg base CX0 k fa fd [x] (spZ (K w.params) m)) (hL:∀ w:World,LamOk q (K w.params))
  (hold:∀ ns:List Int,ns.length≤n→(∀ i∈ns,Z.bits i≤2 ^ 20)→m [.lst (ns.map .int)]=.ok (.bl true)) :
  WalkO q loose XP YP l.row.toRowW d [] (fun f vs=>PySem.call f vs):=by
 intro w s₀ s₁ mg mb G Y fa o pm cd doc dV kV ho hd hcd hD hmg hg args vals as hpre hlay hrd hwl hlo
 cases Dflts.none hD hdf
 cases Dflts.noKw hD
 obtain ⟨a,vs,ns,rfl,rfl,hobj,hints,hlen⟩:=Att.script_of hn hpre hwl
 have KX:=hY w _ Y
 obtain ⟨fd,hb,hF⟩:=F w mg fa _ KX G.T.g hmg
 have C:=law_call KX G.T.g G.T.b G.T.builtins G.T.nolimit hg hobj hints (Nat.le_trans hlen hn2) hr hF hb (fun H hO hS=>law_sp hO hS (hold ns hlen (bits_script hlay))) (fun H e s' z=>z)
  (hL w).2.2 (fun y hy c p e=>let ⟨d,hd⟩:=(hL w).2.1 y hy c p e;let T:=tab_of G.T KX hd e;⟨T,T.1.tab T.2⟩) G.T.bmain (hL w).1
 refine enter_call (codeAny_mono C fun r s' hq=>?_)
 obtain ⟨rfl,h2,h3,h4⟩:=hq
 exact ⟨.inl ⟨.bool true,.bool true,[],rfl,fun _=>rfl,.bool true,Att.post_true l _,fun _=>⟨List.Pairwise.nil,fun _ hm=>(nomatch hm)⟩⟩,h2,h3,h4⟩
end ZS
namespace ZS
open PySem PySem.Spec PyProof.Rows L2
section
variable {prog:Program} {w:World} {A:Around} {E:Value→Shared→Prop} {s:Shared}
theorem nextT_item {it t:Addr} {i:Nat} {items:Array Value} {x:Value} {Q:Value→Shared→Prop} (hit:s.heap.IsTupleIter it t i) (ht:s.heap.IsTuple t items) (hx:items[i]?=some x)
  (hQ:∀ h',h'.IsTupleIter it t (i+1)→Heap.SameBut it s.heap h'→Q x { s with heap:=h' }):wpAny (model prog w) A (Builtin.SmallTypes.nextOf (.ref it)) Q E s:=by
 obtain ⟨ob,hob,hcl,hda⟩:=id hit
 obtain ⟨ot,hot,_,nt,hdt⟩:=ht
 unfold Builtin.SmallTypes.nextOf
 refine wpAny_bind (wpAny_callSpecial?_slot (name:=Str.ofString "__next__") hit.typeIs F.slot_tuple_iterator_next (wpAny_call_entry F.slot_tuple_iterator_next hit.typeIs F.entry_tuple_iterator_next ?_ (F.args_tuple_iterator_next_1 _)))
 show wpAny _ _ (field (.ref it) 0 >>= _) _ _ _
 refine wpAny_bind (wpAny_field hob hda (x:=.ref t) rfl ?_)
 show wpAny _ _ (if (Value.ref t==Value.none)=true then _ else _) _ _ _
 have hno:¬ (Value.ref t==Value.none)=true:=Bool.false_ne_true
 rw [if_neg hno]
 show wpAny _ _ (field (.ref it) 1 >>= _) _ _ _
 refine wpAny_bind (wpAny_field hob hda (x:=.int i 0) rfl ?_)
 show wpAny _ _ (seqItems? (.ref t) >>= _) _ _ _
 refine wpAny_bind (wpAny_seqItems hot hdt ?_)
 simp only [Int.toNat_natCast,hx]
 refine wpAny_bind (wpAny_setField hob hda (by simp) (wpAny_pure ⟨x,rfl,wpAny_pure (hQ _ ⟨_,Heap.get?_update_self _ hob (Obj.isFreed_of_fields (Obj.data_mapFields hda _)),(Obj.cls_mapFields ..).trans hcl,?_⟩ (Heap.SameBut.update ..))⟩))
 rw [Obj.data_mapFields hda];simp [rawInt]
theorem nextT_end {it t:Addr} {i:Nat} {items:Array Value} {Q:Value→Shared→Prop} (hh:A.handled=none) (hit:s.heap.IsTupleIter it t i) (ht:s.heap.IsTuple t items) (hx:items[i]?=none)
  (hE:∀ h' e,Heap.ExtBut it s.heap h'→(∃ o,h'.get? e=some o∧o.cls=.type "StopIteration")→E (.ref e) { s with heap:=h' }):wpAny (model prog w) A (Builtin.SmallTypes.nextOf (.ref it)) Q E s:=by
 obtain ⟨ob,hob,hcl,hda⟩:=id hit
 obtain ⟨ot,hot,_,nt,hdt⟩:=ht
 unfold Builtin.SmallTypes.nextOf
 refine wpAny_bind (wpAny_callSpecial?_slot (name:=Str.ofString "__next__") hit.typeIs F.slot_tuple_iterator_next (wpAny_call_entry F.slot_tuple_iterator_next hit.typeIs F.entry_tuple_iterator_next ?_ (F.args_tuple_iterator_next_1 _)))
 show wpAny _ _ (field (.ref it) 0 >>= _) _ _ _
 refine wpAny_bind (wpAny_field hob hda (x:=.ref t) rfl ?_)
 show wpAny _ _ (if (Value.ref t==Value.none)=true then _ else _) _ _ _
 have hno:¬ (Value.ref t==Value.none)=true:=Bool.false_ne_true
 rw [if_neg hno]
 show wpAny _ _ (field (.ref it) 1 >>= _) _ _ _
 refine wpAny_bind (wpAny_field hob hda (x:=.int i 0) rfl ?_)
 show wpAny _ _ (seqItems? (.ref t) >>= _) _ _ _
 refine wpAny_bind (wpAny_seqItems hot hdt ?_)
 simp only [Int.toNat_natCast,hx]
 refine wpAny_bind (wpAny_rule (wpAny_bind (wpAny_setField hob hda (by simp) ?_)))
 show wpAny _ _ (newExc (.type "StopIteration") [] >>= _) _ _ _
 refine wpAny_bind ?_
 simp only [newExc,newTuple]
 refine wpAny_bind (wpAny_newObj_type ?_ (by size_fits))
 refine wpAny_bind (m:=firstArgMember _ _) (wpAny_of_eq (a:=Value.none) (by first | rfl | (simp only [firstArgMember];rfl)) ?_)
 refine wpAny_newObj_type ?_ (by size_fits)
 simp only [raiseNew]
 refine wpAny_bind (wpAny_handled ?_)
 first | rw [show A.in1.handled=none from hh] | rw [hh]
 exact wpAny_bind (wpAny_pure (wpAny_throw (hE _ _ (((Heap.SameBut.update ..).extBut.push _).push _) ⟨_,Heap.get?_push_size _ rfl,rfl⟩)))
end
theorem drawsT {prog:Program} {w:World} {A:Around} (hh:A.handled=none) (it t:Addr) (hne:t≠it) (items:Array Value) :
  Draws prog w A it [it,t] items.size (fun i v=>items[i]?=some v) (fun i h=>h.IsTupleIter it t i∧h.IsTuple t items) where
 live:=fun _ _ st=>let ⟨o,ho,_⟩:=st.1;⟨o,ho⟩
 frame:=fun _ _ _ st hk=>by
  obtain ⟨⟨o,e,r⟩,⟨o2,e2,r2⟩⟩:=st
  exact ⟨⟨o,hk it (by simp) o e,r⟩,⟨o2,hk t (by simp) o2 e2,r2⟩⟩
 item:=fun i s Q E hi st hQ=>by
  refine nextT_item st.1 st.2 (x:=items[i]) (by simp [hi]) fun h' hit' hs'=>?_
  exact hQ _ h' s.toks (by simp [hi]) ⟨hit',st.2.extBut hs'.extBut hne⟩ hs'
 done:=fun s Q E st hE=>nextT_end hh st.1 st.2 (by simp) hE
theorem turnedL {X:Cx} {pins:List (Addr×Obj)} {σ:St} {H:Hp} {s:Shared} {h':Heap} {t':Nat} {ch:List Addr} (I:Inv X pins σ H s) (k:∀ b o,b∉ch→s.heap.get? b=some o→h'.get? b=some o) (hf:∀ b∈ch,FpOk X pins H b):Inv X pins σ H { s with heap:=h',toks:=t' }:=by
 have nch:∀ b u,H b=some u→b∉ch:=fun b u e hb=>by rw [(hf b hb).1] at e;cases e
 refine I.step (g':=s.gens) (d':=s.drawn) (ch:=ch) (fun b hb=>?_) (fun b o _ _ hc e _=>k b o hc e) (fun b o _ _ hc e _=>⟨o.slots,k b o hc e⟩) (fun _ _ _ _ n=>n)
  (fun b o hc e=>⟨o,k b o hc e⟩) (fun _ _ e=>e) (fun _ _ _ e=>e) (fun _ _ _ e=>e) (fun m hm=>?_) (fun b u e=>?_) I.bare
 ·obtain ⟨f0,f1,f2,f3,f4,f5⟩:=hf b hb
  exact ⟨f3,f1,f4,f5⟩
 ·obtain ⟨o,es,ep,ho,r⟩:=hm
  exact ⟨o,es,ep,k _ o (fun hb=>(hf _ hb).2.1 rfl) ho,r⟩
 ·refine (I.hok b u e).stay (fun c v hc q=>k c v ?_ q) (fun _ q=>q) (fun _ _ q=>q) fun _ _ _ q=>q
  rcases hc with z | z
  ·rw [z];exact nch b u e
  ·exact nch c _ z
theorem turnedT {X : Cx} {pins : List (Addr × Obj)} {σ : St} {H : Hp} {s : Shared} {h' : Heap} {t' : Nat} {ch : List Addr} {T : Addr} {xs : List V} {us : List Value} (I : Inv X pins σ H s) (k : ∀ b o, b ∉ ch → s.heap.get? b = some o → h'.get? b = some o) (hf : ∀ b ∈ ch, FpOk X pins H b)
  (hT:s.heap.objs.size≤T) (hTT:h'.IsTuple T us.toArray) (r:Vals xs us) (hz:xs.length≤sizeLine):Inv X pins σ (upd H T (.tup xs)) { s with heap:=h',toks:=t' }:=by
 have hn:H T=none:=I.hok.fresh hT
 have nch:∀ b u,H b=some u→b∉ch:=fun b u e hb=>by rw [(hf b hb).1] at e;cases e
 have up:∀ b u,H b=some u→upd H T (.tup xs) b=some u:=fun b u e=>by rw [upd_ne (ne_of_none e hn)];exact e
 have lt:∀ b o,s.heap.get? b=some o→b≠T:=fun b o e z=>by rw [z] at e;exact absurd (Heap.lt_size e) (Nat.not_lt.mpr hT)
 refine I.step (g':=s.gens) (d':=s.drawn) (ch:=ch) (fun b hb=>?_) (fun b o _ _ hc e _=>k b o hc e) (fun b o _ _ hc e _=>⟨o.slots,k b o hc e⟩) (fun b o _ e n=>by rw [upd_ne (lt b o e)];exact n)
  (fun b o hc e=>⟨o,k b o hc e⟩) (fun b ys e=>up b _ e) (fun b o u e=>up b _ e) (fun b u _ e=>up b _ e) (fun m hm=>?_) (fun b u e=>?_) I.bare
 ·obtain ⟨f0,f1,f2,f3,f4,f5⟩:=hf b hb
  exact ⟨f3,f1,f4,f5⟩
 ·obtain ⟨o,es,ep,ho,q⟩:=hm
  exact ⟨o,es,ep,k _ o (fun hb=>(hf _ hb).2.1 rfl) ho,q⟩
 ·by_cases hb:b=T
  ·subst hb
   rw [upd_same] at e;cases e
   exact ⟨hz,us,r,hTT⟩
  ·rw [upd_ne hb] at e
   refine (I.hok b u e).stay (fun c v hc q=>k c v ?_ q) (fun c q=>?_) (fun c ys q=>up c _ q) fun c v _ q=>up c _ q
   ·rcases hc with z | z
    ·rw [z];exact nch b u e
    ·exact nch c _ z
   ·exact up c _ q
end ZS
namespace ZS
open PySem PySem.Spec PyProof.Rows L2
structure Inn where
 at_:Nat→Hp→V→Prop
 end_:Nat→Hp→Prop
def ItE (J:Inn):It:=⟨fun i H=>∃ y,J.at_ i H y,fun i H x H'=>∃ T y,H T=none∧x=.ref T∧H'=upd H T (.tup [.int (i:Nat),y])∧J.at_ i H y,J.end_⟩
structure Src (P:Program) (w:World) (K:PySem.W.Frag) (J:Inn) (it:Addr) (inn:Nat→Heap→Prop):Prop where
 obj:∀ i h,inn i h→∃ o,h.get? it=some o∧(∀ v,o.data≠.cell v)∧o.cls≠.type "enumerate" ∧ o.cls≠.type "zip" ∧ o.cls≠.type "tuple"
 keep:∀ i h h',inn i h→(∀ o,h.get? it=some o→h'.get? it=some o)→inn i h'
 draw:∀ (X:Cx),X.prog=P→X.w=w→X.K=K→X.calm=true→∀ (i:Nat) (pins:List (Addr×Obj)) (s:Shared) (σ:St) (H:Hp),Inv X pins σ H s→inn i s.heap→((∃ y,J.at_ i H y)∨J.end_ i H) →
  ∃ (fp:List Addr) (n:Nat) (Pv:Nat→Value→Prop) (S:Nat→Heap→Prop),Draws P w X.A.in1 it fp n Pv S∧S i s.heap∧it∈fp∧(∀ b∈fp,b=it∨∃ o,s.heap.get? b=some o∧o.cls≠.type "enumerate" ∧ o.cls≠.type "zip" ∧ (H b=none→∃ o',K.lookup b=some o')) ∧
   ((∃ y,J.at_ i H y)→i < n∧∀ u,Pv i u→∃ y,RelV y u∧J.at_ i H y)∧(J.end_ i H→i=n)∧∀ j h,S j h→inn j h
theorem turn_enum {P : Program} {w : World} {K : PySem.W.Frag} {J : Inn} {e it : Addr} {inn : Nat → Heap → Prop} {elts : List Expr} {x1 : Nat} {pos : Pos} (S : Src P w K J it inn) (hei : e ≠ it) :
  Turn P w K (.Tuple elts x1 pos) (ItE J) [e,it] e (fun i h=>(∃ old,IsEnum h e it i old)∧inn i h) where
 mem:=by simp
 obj:=fun i h st b hb=>by
  rcases List.mem_cons.mp hb with rfl | hb
  ·obtain ⟨⟨old,he⟩,_⟩:=st
   exact ⟨_,he,fun v z=>by
    have z':Data.fields _=Data.cell v:=z
    cases z'⟩
  ·rw [List.mem_singleton] at hb;subst hb
   obtain ⟨o,h1,h2,_⟩:=S.obj i h st.2
   exact ⟨o,h1,h2⟩
 keep:=fun i h h' st k=>⟨let ⟨old,he⟩:=st.1;⟨old,k e (by simp) _ he⟩,S.keep i h h' st.2 fun o q=>k it (by simp) o q⟩
 item:=by
  intro X hP hw hK hc i pins s σ H E I hf st hg
  obtain ⟨fp,n,Pv,St',D,hs0,hif,hfp,hat,_,hin⟩:=S.draw X hP hw hK hc i pins s σ H I st.2 (.inl hg)
  obtain ⟨hi,hv⟩:=hat hg
  subst hP hw hK
  obtain ⟨old,he⟩:=st.1
  have hef:e∉fp:=fun hb=>by
   rcases hfp e hb with z | ⟨o,q,hne,_⟩
   ·exact hei z
   ·rw [he] at q;cases q;exact hne rfl
  have W:=WalksT.enumerateD (A:=X.A) D e hei hef hif
  have helt:e < s.heap.objs.size:=Heap.lt_size he
  have hilt:it < s.heap.objs.size:=by obtain ⟨o,q,_⟩:=S.obj _ _ st.2;exact Heap.lt_size q
  refine W.item i s _ _ hi ⟨⟨old,he⟩,hs0⟩ fun T vals h' tk hPv hT hTT hM kk=>⟨.ref T,rfl,?_⟩
  obtain ⟨t',u,hu,rfl⟩:=hPv
  obtain ⟨y,ry,hy⟩:=hv u hu
  have hTw:T∉[e,it]:=W.apart i T h' hM
  refine W.go elts x1 pos i T _ _ _ hM fun h2 hst2 kk2=>?_
  have hTn:H T=none:=I.hok.fresh hT
  have hTT2:h2.IsTuple T [Value.int i t',u].toArray:=by
   obtain ⟨o,q,r⟩:=hTT
   exact ⟨o,kk2 T o hTw q,r⟩
  have I2:Inv X pins σ (upd H T (.tup [.int (i:Nat),y])) { s with heap:=h2,toks:=tk } :=
   turnedT (ch:=[e,it]) I (fun b o hb q=>kk2 b o hb (kk b o hb q)) hf hT hTT2 (.cons ⟨t',rfl⟩ (.cons ry .nil)) (by show 2≤sizeLine;decide)
  refine ⟨.ref T,_,I2,rfl,⟨T,y,hTn,rfl,rfl,hy⟩,⟨hst2.1,hin _ _ hst2.2⟩,fun b hb=>?_⟩
  have hbT:b≠T:=fun z=>hTw (z▸hb)
  rw [upd_ne hbT]
  exact (hf b hb).1
 done:=by
  intro X hP hw hK hc i pins s σ H E I hf st hg
  obtain ⟨fp,n,Pv,St',D,hs0,hif,hfp,_,hend,hin⟩:=S.draw X hP hw hK hc i pins s σ H I st.2 (.inr hg)
  have hin':=hend hg
  subst hP hw hK hin'
  obtain ⟨old,he⟩:=st.1
  have hef:e∉fp:=fun hb=>by
   rcases hfp e hb with z | ⟨o,q,hne,_⟩
   ·exact hei z
   ·rw [he] at q;cases q;exact hne rfl
  have W:=WalksT.enumerateD (A:=X.A) D e hei hef hif
  exact W.done s _ _ ⟨⟨old,he⟩,hs0⟩ fun h' tk kk=>⟨rfl,turnedL (ch:=[e,it]) I kk hf⟩
 self:=fun A i s Q E st hQ=>by
  obtain ⟨old,he⟩:=st.1
  exact wpAny_pyIter_enum he hQ
def innT (K:PySem.W.Frag) (t:Addr) (vs:List V):Inn:=⟨fun i H y=>SqT K H t vs∧vs[i]?=some y,fun i H=>SqT K H t vs∧vs.length=i⟩
def innL (K:PySem.W.Frag) (t:Addr) (vs:List V):Inn:=⟨fun i H y=>SqL K H t vs∧vs[i]?=some y,fun i H=>SqL K H t vs∧vs.length=i⟩
def innS (z:Str):Inn:=⟨fun i _ y=>∃ c,z.cps[i]?=some c∧y=.str ⟨#[c]⟩,fun i _=>i=z.cps.size⟩
theorem src_tup {P : Program} {w : World} {K : PySem.W.Frag} {t it : Addr} {xs : List V} : Src P w K (innT K t xs) it (fun i h => h.IsTupleIter it t i) where
 obj:=fun i h st=>by
  obtain ⟨o,e,c,d⟩:=st
  exact ⟨o,e,fun v z=>(by rw [d] at z;cases z),by rw [c];decide,by rw [c];decide,by rw [c];decide⟩
 keep:=fun i h h' st k=>let ⟨o,e,r⟩:=st;⟨o,k o e,r⟩
 draw:=by
  intro X hP hw hK hc i pins s σ H I st hg
  subst hP hw hK
  have hq:SqT X.K H t xs:=by
   rcases hg with ⟨y,h,_⟩ | ⟨h,_⟩<;>exact h
  obtain ⟨its,r,p,hz⟩:=I.tuple hq
  obtain ⟨ot,hot,hct,nt,hdt⟩:=id p
  obtain ⟨oi,hoi,hci,hdi⟩:=id st
  have hne:t≠it:=by
   rintro rfl
   rw [hot] at hoi;cases hoi
   rw [hct] at hci;injection hci with z;exact absurd z (by decide)
  refine ⟨[it,t],its.toArray.size,_,_,drawsT (A:=X.A.in1) (I.ok.hd hc) it t hne its.toArray,⟨st,p⟩,by simp,fun b hb=>?_,fun ⟨y,_,hyi⟩=>?_,fun ⟨_,hl⟩=>?_,fun j h q=>q.1⟩
  ·rcases List.mem_cons.mp hb with rfl | hb
   ·exact .inl rfl
   ·rw [List.mem_singleton] at hb;subst hb
    refine .inr ⟨ot,hot,by rw [hct];decide,by rw [hct];decide,fun hn=>?_⟩
    rcases hq with (z | ⟨o,z⟩) | ⟨o,_,_,z,_⟩
    ·rw [hn] at z;cases z
    ·rw [hn] at z;cases z
    ·exact ⟨o,z⟩
  ·obtain ⟨u,hu,ru⟩:=r.get hyi
   refine ⟨by rw [List.size_toArray];exact (List.getElem?_eq_some_iff.mp hu).1,fun u' hu'=>⟨y,?_,hq,hyi⟩⟩
   have:its[i]?=some u':=by simpa using hu'
   rw [hu] at this;cases this
   exact ru
  ·rw [List.size_toArray,←r.length,hl]
theorem src_lst {P : Program} {w : World} {K : PySem.W.Frag} {t it : Addr} {xs : List V} : Src P w K (innL K t xs) it (fun i h => h.IsListIter it t i) where
 obj:=fun i h st=>by
  obtain ⟨o,e,c,d⟩:=st
  exact ⟨o,e,fun v z=>(by rw [d] at z;cases z),by rw [c];decide,by rw [c];decide,by rw [c];decide⟩
 keep:=fun i h h' st k=>let ⟨o,e,r⟩:=st;⟨o,k o e,r⟩
 draw:=by
  intro X hP hw hK hc i pins s σ H I st hg
  subst hP hw hK
  have hq:SqL X.K H t xs:=by
   rcases hg with ⟨y,h,_⟩ | ⟨h,_⟩<;>exact h
  obtain ⟨its,r,p,hz⟩:=I.list hq
  obtain ⟨ot,hot,hct,nt,hdt⟩:=id p.isList
  obtain ⟨oi,hoi,hci,hdi⟩:=id st
  have hne:t≠it:=by
   rintro rfl
   rw [hot] at hoi;cases hoi
   rw [hct] at hci;injection hci with z;exact absurd z (by decide)
  refine ⟨[it,t],its.toArray.size,_,_,Draws.list (A:=X.A.in1) (I.ok.hd hc) it t hne its.toArray,⟨st,p.isList⟩,by simp,fun b hb=>?_,fun ⟨y,_,hyi⟩=>?_,fun ⟨_,hl⟩=>?_,fun j h q=>q.1⟩
  ·rcases List.mem_cons.mp hb with rfl | hb
   ·exact .inl rfl
   ·rw [List.mem_singleton] at hb;subst hb
    refine .inr ⟨ot,hot,by rw [hct];decide,by rw [hct];decide,fun hn=>?_⟩
    rcases hq with (z | ⟨o,z⟩) | ⟨o,_,_,z,_⟩
    ·rw [hn] at z;cases z
    ·rw [hn] at z;cases z
    ·exact ⟨o,z⟩
  ·obtain ⟨u,hu,ru⟩:=r.get hyi
   refine ⟨by rw [List.size_toArray];exact (List.getElem?_eq_some_iff.mp hu).1,fun u' hu'=>⟨y,?_,hq,hyi⟩⟩
   have:its[i]?=some u':=by simpa using hu'
   rw [hu] at this;cases this
   exact ru
  ·rw [List.size_toArray,←r.length,hl]
theorem src_str {P : Program} {w : World} {K : PySem.W.Frag} {it : Addr} {z : Str} {tk : Tok} : Src P w K (innS z) it (fun i h => h.IsStrIter it (strIterType z) z tk i) where
 obj:=fun i h st=>by
  obtain ⟨o,e,c,d⟩:=st
  refine ⟨o,e,fun v q=>(by rw [d] at q;cases q),?_,?_,?_⟩<;>(rw [c];unfold strIterType;split<;>decide)
 keep:=fun i h h' st k=>let ⟨o,e,r⟩:=st;⟨o,k o e,r⟩
 draw := by
  intro X hP hw hK hc i pins s σ H I st hg
  subst hP hw hK
  have hh:X.A.in1.handled=none:=I.ok.hd hc
  have fin:∀ (Pv:Nat→Value→Prop),(∀ i u,Pv i u→∃ c t,z.cps[i]?=some c∧u=.str ⟨#[c]⟩ t)→∀ (S:Nat→Heap→Prop),Draws X.prog X.w X.A.in1 it [it] z.cps.size Pv S→S i s.heap→(∀ j h,S j h→h.IsStrIter it (strIterType z) z tk j) →
    ∃ (fp:List Addr) (n:Nat) (Pv:Nat→Value→Prop) (S:Nat→Heap→Prop),Draws X.prog X.w X.A.in1 it fp n Pv S∧S i s.heap∧it∈fp∧(∀ b∈fp,b=it∨∃ o,s.heap.get? b=some o∧o.cls≠.type "enumerate" ∧ o.cls≠.type "zip" ∧ (H b=none→∃ o',X.K.lookup b=some o')) ∧
     ((∃ y,(innS z).at_ i H y)→i < n∧∀ u,Pv i u→∃ y,RelV y u∧(innS z).at_ i H y)∧((innS z).end_ i H→i=n)∧∀ j h,S j h→h.IsStrIter it (strIterType z) z tk j:=by
   intro Pv hPv S D hs hS
   refine ⟨[it],z.cps.size,Pv,S,D,hs,by simp,fun b hb=>.inl (by simpa using hb),fun ⟨y,c,hy,_⟩=>⟨?_,fun u hu=>?_⟩,fun q=>q,hS⟩
   ·rcases Nat.lt_or_ge i z.cps.size with q | q
    ·exact q
    ·rw [Array.getElem?_eq_none q] at hy;cases hy
   ·obtain ⟨c',t',hc',rfl⟩:=hPv i u hu
    exact ⟨.str ⟨#[c']⟩,⟨t',rfl⟩,c',hc',rfl⟩
  cases ha:z.cps.all (· < 128)
  ·have e:strIterType z = "str_iterator" := by unfold strIterType;rw [ha];rfl
   exact fin _ (fun _ _ q=>q) _ (Draws.strWide hh it z tk) (by rw [←e];exact st) (fun j h q=>by rw [e];exact q)
  ·have e:strIterType z = "str_ascii_iterator" := by unfold strIterType;rw [ha];rfl
   exact fin _ (fun _ _ q=>q) _ (Draws.strAscii hh it z tk) (by rw [←e];exact st) (fun j h q=>by rw [e];exact q)
theorem meets_enumT (l : Addr) (items : Array Value) (n : Nat) (dct : Option Addr) (sl : Array (Option Value)) :
  Meets (Builtin.«enumerate.__new__» ⟨[.type "enumerate",.ref l],[]⟩) (fun _ R s=>s.heap.get? l=some { cls:=.type "tuple",dict:=dct,data:=.seq items n,slots:=sl } ∧
   R (.ok (.ret (.ref (s.heap.push { cls:=.type "tuple_iterator",data:=.fields #[.ref l,.int 0 0] }).objs.size)))
    { s with heap:=(s.heap.push { cls:=.type "tuple_iterator",data:=.fields #[.ref l,.int 0 0] }).push { cls:=.type "enumerate",data:=.fields #[.none,.bool false,.ref s.heap.objs.size,rawInt 0,.none,.none] } }) :=
 .of_wp fun prog w A R s h=>by
  obtain ⟨hp,gs,dr,tk,os⟩:=s
  obtain ⟨hl,h⟩:=h
  have hsb:=sub_enumerate
  have hL:Heap.IsTuple (Shared.heap ⟨hp,gs,dr,tk,os⟩) l items:=⟨_,hl,rfl,n,rfl⟩
  wp_walk using AutoSeq1.wpAny_loadPart' hl
  refine wpAny_stack_any fun st=>wpAny_pure ?_
  split
  ·rename_i c _ _ _ _ _
   cases (c==Value.type "enumerate")<;>(wp_walk using AutoSeq1.wpAny_loadPart' hl,wpAny_pyIter_tuple hL;exact ⟨_,rfl,h⟩)
  ·wp_walk using AutoSeq1.wpAny_loadPart' hl,wpAny_pyIter_tuple hL
   exact ⟨_,rfl,h⟩
theorem call_enumT {prog:Program} {w:World} {A:Around} {E:Value→Shared→Prop} {s:Shared} {l:Addr} {items:Array Value} {Q:Value→Shared→Prop} (hL:s.heap.IsTuple l items)
  (h:∀ h',IsEnum h' (s.heap.objs.size+1) s.heap.objs.size 0 .none→h'.IsTupleIter s.heap.objs.size l 0→(∀ b o,s.heap.get? b=some o→h'.get? b=some o)→Q (.ref (s.heap.objs.size+1)) { s with heap:=h' }) :
  wpAny (model prog w) A (call (.type "enumerate") [.ref l]) Q E s:=by
 obtain ⟨⟨c,dct,dt,sl⟩,hl,hc,n,hd⟩:=hL
 have hc':c=.type "tuple" := hc
 have hd':dt=.seq items n:=hd
 subst hc' hd'
 refine callType_new F.called_enumerate (by decide) (F.typeCall_enumerate_1 _) (F.newCall_enumerate_1 _) (fun obj=>F.args_object_init_2 obj _) F.entry_enumerate_new (meets_enumT l items n dct sl) ⟨hl,?_⟩
 have hz:(s.heap.push { cls:=.type "tuple_iterator",data:=.fields #[.ref l,.int 0 0] }).objs.size=s.heap.objs.size+1:=Heap.size_push ..
 have he:=Heap.get?_push_size (s.heap.push { cls:=.type "tuple_iterator",data:=.fields #[.ref l,.int 0 0] }) (o:={ cls:=.type "enumerate",data:=.fields #[.none,.bool false,.ref s.heap.objs.size,rawInt 0,.none,.none] }) rfl
 show _∧_
 rw [hz] at he ⊢
 exact ⟨⟨_,he,rfl⟩,h _ he ⟨_,Heap.get?_push_of_some _ (Heap.get?_push_size _ rfl),rfl,rfl⟩ fun b o x=>Heap.get?_push_of_some _ (Heap.get?_push_of_some _ x)⟩
theorem enumD_get:∀ (ds:List Z.D) (k i:Nat),(Z.enumD k ds)[i]?=(ds[i]?).map fun d=>Z.pair (.int ((k+i:Nat):Int)) d
 | [],_,_=>by simp [Z.enumD]
 | d :: ds,k,0=>by simp [Z.enumD]
 | d :: ds,k,i+1=>by
  simp only [Z.enumD,List.getElem?_cons_succ,enumD_get ds (k+1) i]
  rw [show k+1+i=k+(i+1) by lia]
theorem enumD_len:∀ (ds:List Z.D) (k:Nat),(Z.enumD k ds).length=ds.length
 | [],_=>rfl
 | d :: ds,k=>by simp [Z.enumD,enumD_len ds]
theorem itz_enum {K:PySem.W.Frag} {J:Inn} {S:Hp→Prop} {ds:List Z.D} (h1:∀ (i:Nat) d H1,S H1→ds[i]?=some d→(∃ y,J.at_ i H1 y)∧∀ y,J.at_ i H1 y→Den K H1 d y) (h2:∀ H1,S H1→J.end_ ds.length H1):ItZ K (ItE J) S (Z.enumD 0 ds) where
 go:=fun i d H1 s hi=>by
  rw [enumD_get] at hi
  cases q:ds[i]? with
  | none=>rw [q] at hi;cases hi
  | some d0=>exact (h1 i d0 H1 s q).1
 yld:=fun i d H1 H2 x s hi y=>by
  obtain ⟨T,y,hT,rfl,rfl,hy⟩:=y
  rw [enumD_get] at hi
  cases q:ds[i]? with
  | none=>rw [q] at hi;cases hi
  | some d0 =>
   rw [q] at hi;cases hi
   have sm:Same H1 (upd H1 T (.tup [.int (i:Nat),y])):=upd_Same hT
   refine ⟨sm,den_tup (.inl (.inl upd_same)) (Dens.cons ?_ (Dens.cons (((h1 i d0 H1 s q).2 y hy).up sm) Dens.nil))⟩
   rw [Nat.zero_add];exact den_int
 stop:=fun H1 s=>by
  rw [enumD_len];exact h2 H1 s
section
variable {X:Cx} {a b:Expr} {pos p p2:Pos} {fa fb:Z.EF} {elts:List Expr} {x1:Nat}
theorem fp_two {pins:List (Addr×Obj)} {σ:St} {H:Hp} {s:Shared} (I:Inv X pins σ H s):∀ b∈[s.heap.objs.size+1,s.heap.objs.size],FpOk X pins H b:=fun b hb=>by
 rcases List.mem_cons.mp hb with rfl | hb
 ·exact I.fpOk (Nat.le_succ _) (I.hok.fresh (Nat.le_succ _))
 ·rw [List.mem_singleton] at hb;subst hb
  exact I.fpOk (Nat.le_refl _) (I.hok.fresh (Nat.le_refl _))
theorem dj_enum (hg:Gl X "enumerate") (hm:X.mg "enumerate" = none) (ha:DE X a fa) (hs:starEach [a] X.env=[(false,eval a X.env)]:=by rfl) (hs1:starEach (a :: []) X.env=(false,eval a X.env) :: starEach [] X.env:=by rfl):DJ X (.Tuple elts x1 p2) (.Call (.Name "enumerate" p) [a] [] pos) (Z.iEnum fa):=by
 intro pins s σ H R I w
 obtain ⟨ρ,ds,r,e,k⟩:=w
 obtain ⟨d,ea,e⟩:=Z.Res.bind_ok e
 obtain ⟨ds0,ei,e⟩:=Z.Res.bind_ok e
 cases e
 refine Call_ (ld_blt I hg hm PyProof.Rows.boot_enumerate (PyProof.Rows.callWith_type1 (thn ((pa_cons ha pa_nil hs1) pos pins s σ H (fun vs H1=>∃ v,vs=[v]∧Same H H1∧Den X.K H1 d v) I ⟨ρ,d,r,ea,fun v H1 s1 d1=>⟨v,rfl,s1,d1⟩⟩) fun us s1 ⟨vs,H1,I1,r1,q1⟩=>?_) hs rfl))
 obtain ⟨v,rfl,sm,hd⟩:=q1
 obtain ⟨u,rfl,ru⟩:=vals1 r1
 cases d with
 | tup xs0 =>
  cases ei
  obtain ⟨q,vs,rfl,hq,t⟩:=DenW.tup (.inl hd)
  cases ru
  obtain ⟨its,rv,pt,hz⟩:=I1.tuple hq
  refine call_enumT pt fun h' he hit hk=>wpAny_pyIter_enum he ?_
  refine ⟨_,[s1.heap.objs.size+1,s1.heap.objs.size],_,ItE (innT X.K q vs),H1,rfl,I1.kept (t':=s1.toks) hk,turn_enum src_tup (Nat.succ_ne_self _),⟨⟨_,he⟩,hit⟩,fp_two I1,k _ H1 sm (itz_enum (fun i d0 H2 s2 hi=>?_) fun H2 s2=>?_)⟩
  ·obtain ⟨y,hy,dy⟩:=t.get hi
   refine ⟨⟨y,sqT_mono s2 hq,hy⟩,fun y' hy'=>?_⟩
   have:=hy'.2
   rw [hy] at this;cases this
   exact dy.ups s2
  ·exact ⟨sqT_mono s2 hq,t.length⟩
 | lst xs0 =>
  cases ei
  simp only [Den] at hd
  obtain ⟨q,vs,rfl,hq,t⟩:=hd
  cases ru
  obtain ⟨its,rv,pt,hz⟩:=I1.list hq.sq
  refine call_enumerate_list pt.isList fun h' he hit hsz hk=>wpAny_pyIter_enum he ?_
  refine ⟨_,[s1.heap.objs.size+1,s1.heap.objs.size],_,ItE (innL X.K q vs),H1,rfl,I1.kept (t':=s1.toks) hk,turn_enum src_lst (Nat.succ_ne_self _),⟨⟨_,he⟩,hit⟩,fp_two I1,k _ H1 sm (itz_enum (fun i d0 H2 s2 hi=>?_) fun H2 s2=>?_)⟩
  ·obtain ⟨y,hy,dy⟩:=t.get hi
   refine ⟨⟨y,(hq.mono s2).sq,hy⟩,fun y' hy'=>?_⟩
   have:=hy'.2
   rw [hy] at this;cases this
   exact dy.ups s2
  ·exact ⟨(hq.mono s2).sq,t.length⟩
 | str cs =>
  cases ei
  simp only [Den] at hd
  rw [hd] at ru
  obtain ⟨tk,rfl⟩:=ru
  refine call_enumerate_str fun h' he hit hsz hk=>wpAny_pyIter_enum he ?_
  refine ⟨_,[s1.heap.objs.size+1,s1.heap.objs.size],_,ItE (innS ⟨cs.toArray⟩),H1,rfl,I1.kept (t':=s1.toks) hk,turn_enum src_str (Nat.succ_ne_self _),⟨⟨_,he⟩,hit⟩,fp_two I1,k _ H1 sm (itz_enum (fun i d0 H2 s2 hi=>?_) fun H2 s2=>?_)⟩
  ·rw [List.getElem?_map] at hi
   cases hc:cs[i]? with
   | none=>rw [hc] at hi;cases hi
   | some c =>
    rw [hc] at hi;cases hi
    refine ⟨⟨_,c,by simpa using hc,rfl⟩,fun y ⟨c',hc',hy⟩=>?_⟩
    have:cs[i]?=some c':=by simpa using hc'
    rw [hc] at this;cases this
    rw [hy];exact den_str (cs:=[c])
  ·show (cs.map fun c=>Z.D.str [c]).length=cs.toArray.size
   simp
 | non=>cases ei
 | bl _=>cases ei
 | int _=>cases ei
 | dct _ _=>cases ei
end
end ZS
namespace ZS
open PySem PySem.Spec PyProof.Rows L2
structure Far (z TI TO i1 i2:Addr) (f1 f2:List Addr):Prop where
 ne:[z,TI,TO,i1,i2].Nodup
 a1:z∉f1∧TO∉f1∧i2∉f1
 a2:z∉f2∧TO∉f2∧i1∉f2
section
variable {prog:Program} {w:World} {A:Around} {E:Value→Shared→Prop} {s:Shared}
theorem zipD_item {z TI TO i1 i2:Addr} {f1 f2:List Addr} {n1 n2 k:Nat} {P1 P2:Nat→Value→Prop} {S1 S2:Nat→Heap→Prop} {a b:Value} {Q:Value→Shared→Prop} (F:Far z TI TO i1 i2 f1 f2) (D1:Draws prog w A i1 f1 n1 P1 S1) (D2:Draws prog w A i2 f2 n2 P2 S2)
  (hz:IsZip s.heap z TI TO .none) (hTI:IsPair s.heap TI (.ref i1) (.ref i2)) (hTO:IsPair s.heap TO a b) (h1:S1 k s.heap) (h2:S2 k s.heap) (hk1:k < n1) (hk2:k < n2)
  (hQ:∀ x y h' tk,P1 k x→P2 k y→IsZip h' z TI TO (rawInt s.heap.objs.size)→IsPair h' TO x y→S1 (k+1) h'→S2 (k+1) h'→IsPair h' s.heap.objs.size x y→(∀ c o,c∉[z,TO,i1,i2]→s.heap.get? c=some o→h'.get? c=some o)→Q (.ref s.heap.objs.size) { s with heap:=h',toks:=tk }) :
  wpAny (model prog w) A (Builtin.«zip.__next__» ⟨[.ref z],[]⟩) (fun fin s'=>∃ v,fin=.done (.ret v)∧Q v s') E s:=by
 have ne:=F.ne
 simp only [List.nodup_cons,List.mem_cons,List.not_mem_nil,or_false,not_or,List.nodup_nil,and_true,not_false_eq_true] at ne
 obtain ⟨⟨zTI,zTO,zi1,zi2⟩,⟨TITO,TIi1,TIi2⟩,⟨TOi1,TOi2⟩,i12⟩:=ne
 obtain ⟨zf1,TOf1,i2f1⟩:=F.a1
 obtain ⟨zf2,TOf2,i1f2⟩:=F.a2
 obtain ⟨hp,gs,dr,tk0,os⟩:=s
 show wpAny _ _ (field (.ref z) 2 >>= _) _ _ _
 refine wpAny_bind (wpAny_field hz rfl (x:=.bool false) rfl ?_)
 show wpAny _ _ (field (.ref z) 3 >>= _) _ _ _
 refine wpAny_bind (wpAny_field hz rfl (x:=.ref TI) rfl (wpAny_bind (wpAny_seqItems hTI rfl ?_)))
 show wpAny _ _ (Builtin.SmallTypes.ownedTupleIsFree (.ref z) >>= _) _ _ _
 refine wpAny_bind ?_
 unfold Builtin.SmallTypes.ownedTupleIsFree
 refine wpAny_bind (wpAny_field hz rfl (x:=.none) rfl (wpAny_pure ?_))
 simp only [if_true]
 refine wpAny_bind (wpAny_rule (wpAny_bind (wpAny_field hz rfl (x:=.ref TO) rfl (wpAny_bind (wpAny_setField_rec hz (by simp) fun g1 hz1 e1=>?_)))))
 have hz1:IsZip g1 z TI TO .ellipsis:=hz1
 have e1:Heap.SameBut z hp g1:=e1
 refine wpAny_bind ?_
 simp only [List.zipIdx_cons,List.zipIdx_nil,List.forIn_cons,List.forIn_nil]
 refine wpAny_bind (wpAny_bind (wpAny_onRaise ?_))
 show wpAny _ _ (Builtin.SmallTypes.nextOf (.ref i1) >>= _) _ _ _
 refine wpAny_bind (D1.item k _ _ _ hk1 (D1.frame k hp g1 h1 fun c hc o q=>e1.extBut c o (fun y=>zf1 (y▸hc)) q) fun x g2 t2 hx h12 e2=>wpAny_pure ?_)
 have e2:Heap.SameBut i1 g1 g2:=e2
 have hTO2:IsPair g2 TO a b:=e2.extBut _ _ TOi1 (e1.extBut _ _ (Ne.symm zTO) hTO)
 refine wpAny_bind (wpAny_seqItems hTO2 rfl (wpAny_bind (wpAny_updateSeq_pair hTO2 fun g3 hTO3 e3=>?_)))
 have hTO3:IsPair g3 TO x b:=hTO3
 have e3:Heap.SameBut TO g2 g3:=e3
 refine wpAny_bind (wpAny_letGo (wpAny_pure ?_))
 refine wpAny_bind (wpAny_bind (wpAny_onRaise ?_))
 show wpAny _ _ (Builtin.SmallTypes.nextOf (.ref i2) >>= _) _ _ _
 have h23:S2 k g3:=D2.frame k hp g3 h2 fun c hc o q=>e3.extBut c o (fun y=>TOf2 (y▸hc)) (e2.extBut c o (fun y=>i1f2 (y▸hc)) (e1.extBut c o (fun y=>zf2 (y▸hc)) q))
 refine wpAny_bind (D2.item k _ _ _ hk2 h23 fun y g4 t4 hy h24 e4=>wpAny_pure ?_)
 have e4:Heap.SameBut i2 g3 g4:=e4
 have hTO4:IsPair g4 TO x b:=e4.extBut _ _ TOi2 hTO3
 refine wpAny_bind (wpAny_seqItems hTO4 rfl (wpAny_bind (wpAny_updateSeq_pair hTO4 fun g5 hTO5 e5=>?_)))
 have hTO5:IsPair g5 TO x y:=hTO5
 have e5:Heap.SameBut TO g4 g5:=e5
 refine wpAny_bind (wpAny_letGo (wpAny_pure (wpAny_pure ?_)))
 refine wpAny_bind (wpAny_seqItems hTO5 rfl (wpAny_bind (wpAny_newTuple ?_)))
 have hsz:g5.objs.size=hp.objs.size:=by rw [e5.1,e4.1,e3.1,e2.1,e1.1]
 have hz5:IsZip g5 z TI TO .ellipsis:=e5.extBut _ _ zTO (e4.extBut _ _ zi2 (e3.extBut _ _ zTO (e2.extBut _ _ zi1 hz1)))
 have hzl:z < g5.objs.size:=Heap.lt_size hz5
 show wpAny _ _ (Builtin.SmallTypes.ownedTupleHandOut (.ref z) (.ref g5.objs.size) >>= _) _ _ _
 refine wpAny_bind ?_
 unfold Builtin.SmallTypes.ownedTupleHandOut
 have hz6:IsZip (g5.push { cls:=.type "tuple",data:=.seq #[x,y] }) z TI TO .ellipsis:=Heap.get?_push_of_some _ hz5
 refine wpAny_bind (wpAny_setField_rec hz6 (by simp) fun g7 hz7 e7=>?_)
 have hz7:IsZip g7 z TI TO (rawInt g5.objs.size):=hz7
 refine wpAny_setField_rec hz7 (by simp) fun g8 hz8 e8=>?_
 have hz8:IsZip g8 z TI TO (rawInt g5.objs.size):=hz8
 have up:∀ c o,c≠z→g5.get? c=some o→g8.get? c=some o:=fun c o h q=>e8.extBut _ _ h (e7.extBut _ _ h (Heap.get?_push_of_some _ q))
 have hT8:IsPair g8 g5.objs.size x y:=e8.extBut _ _ (Nat.ne_of_gt hzl) (e7.extBut _ _ (Nat.ne_of_gt hzl) (Heap.get?_push_size _ rfl))
 have s1:S1 (k+1) g8:=D1.frame _ g2 g8 h12 fun c hc o q=>up c o (fun y=>zf1 (y▸hc)) (e5.extBut c o (fun y=>TOf1 (y▸hc)) (e4.extBut c o (fun y=>i2f1 (y▸hc)) (e3.extBut c o (fun y=>TOf1 (y▸hc)) q)))
 have s2:S2 (k+1) g8:=D2.frame _ g4 g8 h24 fun c hc o q=>up c o (fun y=>zf2 (y▸hc)) (e5.extBut c o (fun y=>TOf2 (y▸hc)) q)
 have kp:∀ c o,c∉[z,TO,i1,i2]→hp.get? c=some o→g8.get? c=some o:=fun c o hc q=>by
  simp only [List.mem_cons,List.not_mem_nil,or_false,not_or] at hc
  exact up c o hc.1 (e5.extBut _ _ hc.2.1 (e4.extBut _ _ hc.2.2.2 (e3.extBut _ _ hc.2.1 (e2.extBut _ _ hc.2.2.1 (e1.extBut _ _ hc.1 q)))))
 rw [hsz] at hz8 hT8
 refine wpAny_pure ⟨_,rfl,?_⟩
 show Q (.ref g5.objs.size) _
 rw [hsz]
 exact hQ x y g8 t4 hx hy hz8 (up _ _ (Ne.symm zTO) hTO5) s1 s2 hT8 kp
theorem zipD_end {z TI TO i1 i2:Addr} {f1 f2:List Addr} {n1 n2 k:Nat} {P1 P2:Nat→Value→Prop} {S1 S2:Nat→Heap→Prop} {a b:Value} {Q:Fin→Shared→Prop} (F:Far z TI TO i1 i2 f1 f2) (D1:Draws prog w A i1 f1 n1 P1 S1) (D2:Draws prog w A i2 f2 n2 P2 S2)
  (hz:IsZip s.heap z TI TO .none) (hTI:IsPair s.heap TI (.ref i1) (.ref i2)) (hTO:IsPair s.heap TO a b) (h1:S1 k s.heap) (h2:S2 k s.heap) (hend:k=n1∨(k < n1∧k=n2))
  (hE:∀ h' e tk,(∀ c o,c∉[z,TO,i1,i2]→s.heap.get? c=some o→h'.get? c=some o)→(∃ o,h'.get? e=some o∧o.cls=.type "StopIteration")→E (.ref e) { s with heap:=h',toks:=tk }) :
  wpAny (model prog w) A (Builtin.«zip.__next__» ⟨[.ref z],[]⟩) Q E s:=by
 have ne:=F.ne
 simp only [List.nodup_cons,List.mem_cons,List.not_mem_nil,or_false,not_or,List.nodup_nil,and_true,not_false_eq_true] at ne
 obtain ⟨⟨zTI,zTO,zi1,zi2⟩,⟨TITO,TIi1,TIi2⟩,⟨TOi1,TOi2⟩,i12⟩:=ne
 obtain ⟨zf1,TOf1,i2f1⟩:=F.a1
 obtain ⟨zf2,TOf2,i1f2⟩:=F.a2
 obtain ⟨hp,gs,dr,tk0,os⟩:=s
 show wpAny _ _ (field (.ref z) 2 >>= _) _ _ _
 refine wpAny_bind (wpAny_field hz rfl (x:=.bool false) rfl ?_)
 show wpAny _ _ (field (.ref z) 3 >>= _) _ _ _
 refine wpAny_bind (wpAny_field hz rfl (x:=.ref TI) rfl (wpAny_bind (wpAny_seqItems hTI rfl ?_)))
 show wpAny _ _ (Builtin.SmallTypes.ownedTupleIsFree (.ref z) >>= _) _ _ _
 refine wpAny_bind ?_
 unfold Builtin.SmallTypes.ownedTupleIsFree
 refine wpAny_bind (wpAny_field hz rfl (x:=.none) rfl (wpAny_pure ?_))
 simp only [if_true]
 refine wpAny_bind (wpAny_rule (wpAny_bind (wpAny_field hz rfl (x:=.ref TO) rfl (wpAny_bind (wpAny_setField_rec hz (by simp) fun g1 hz1 e1=>?_)))))
 have hz1:IsZip g1 z TI TO .ellipsis:=hz1
 have e1:Heap.SameBut z hp g1:=e1
 refine wpAny_bind ?_
 simp only [List.zipIdx_cons,List.zipIdx_nil,List.forIn_cons,List.forIn_nil]
 refine wpAny_bind (wpAny_bind (wpAny_onRaise ?_))
 show wpAny _ _ (Builtin.SmallTypes.nextOf (.ref i1) >>= _) _ _ _
 have h11:S1 k g1:=D1.frame k hp g1 h1 fun c hc o q=>e1.extBut c o (fun y=>zf1 (y▸hc)) q
 rcases hend with rfl | ⟨hk1,rfl⟩
 ·refine wpAny_bind (D1.done _ _ _ h11 fun g2 e e2 he=>?_)
  obtain ⟨oe,hoe,hce⟩:=he
  have e2:Heap.ExtBut i1 g1 g2:=e2
  have hz2:IsZip g2 z TI TO .ellipsis:=e2 _ _ zi1 hz1
  have hez:e≠z:=fun q=>by subst q;rw [hz2] at hoe;cases hoe;simp at hce
  refine wpAny_setField_rec hz2 (by simp) fun g3 _ e3=>hE g3 e tk0 (fun c o hc q=>?_) ⟨oe,e3.extBut _ _ hez hoe,hce⟩
  simp only [List.mem_cons,List.not_mem_nil,or_false,not_or] at hc
  exact e3.extBut _ _ hc.1 (e2 _ _ hc.2.2.1 (e1.extBut _ _ hc.1 q))
 ·refine wpAny_bind (D1.item k _ _ _ hk1 h11 fun x g2 t2 hx h12 e2=>wpAny_pure ?_)
  have e2:Heap.SameBut i1 g1 g2:=e2
  have hTO2:IsPair g2 TO a b:=e2.extBut _ _ TOi1 (e1.extBut _ _ (Ne.symm zTO) hTO)
  refine wpAny_bind (wpAny_seqItems hTO2 rfl (wpAny_bind (wpAny_updateSeq_pair hTO2 fun g3 hTO3 e3=>?_)))
  have e3:Heap.SameBut TO g2 g3:=e3
  refine wpAny_bind (wpAny_letGo (wpAny_pure ?_))
  refine wpAny_bind (wpAny_bind (wpAny_onRaise ?_))
  show wpAny _ _ (Builtin.SmallTypes.nextOf (.ref i2) >>= _) _ _ _
  have h23:S2 k g3:=D2.frame k hp g3 h2 fun c hc o q=>e3.extBut c o (fun y=>TOf2 (y▸hc)) (e2.extBut c o (fun y=>i1f2 (y▸hc)) (e1.extBut c o (fun y=>zf2 (y▸hc)) q))
  refine wpAny_bind (D2.done _ _ _ h23 fun g4 e e4 he=>?_)
  obtain ⟨oe,hoe,hce⟩:=he
  have e4:Heap.ExtBut i2 g3 g4:=e4
  have hz4:IsZip g4 z TI TO .ellipsis:=e4 _ _ zi2 (e3.extBut _ _ zTO (e2.extBut _ _ zi1 hz1))
  have hez:e≠z:=fun q=>by subst q;rw [hz4] at hoe;cases hoe;simp at hce
  refine wpAny_setField_rec hz4 (by simp) fun g5 _ e5=>hE g5 e t2 (fun c o hc q=>?_) ⟨oe,e5.extBut _ _ hez hoe,hce⟩
  simp only [List.mem_cons,List.not_mem_nil,or_false,not_or] at hc
  exact e5.extBut _ _ hc.1 (e4 _ _ hc.2.2.2 (e3.extBut _ _ hc.2.1 (e2.extBut _ _ hc.2.2.1 (e1.extBut _ _ hc.1 q))))
end
end ZS
namespace ZS
open PySem PySem.Spec PyProof.Rows L2
def ItP (J1 J2:Inn):It:=⟨fun i H=>(∃ y,J1.at_ i H y)∧∃ y,J2.at_ i H y,
 fun i H x H'=>∃ T y1 y2,H T=none∧x=.ref T∧H'=upd H T (.tup [y1,y2])∧J1.at_ i H y1∧J2.at_ i H y2,
 fun i H=>(J1.end_ i H∧((∃ y,J2.at_ i H y)∨J2.end_ i H))∨((∃ y,J1.at_ i H y)∧J2.end_ i H)⟩
theorem notK {X:Cx} {pins:List (Addr×Obj)} {σ:St} {H:Hp} {s:Shared} {b:Addr} {o:Obj} (I:Inv X pins σ H s) (f:FpOk X pins H b) (h:X.K.lookup b=some o):False:=by
 have hb:=I.ok.mod.kin b o h
 rcases f.2.2.2.1 with z | z
 ·exact I.ok.noex b o hb z
 ·exact absurd (Heap.lt_size (I.ok.bs b o hb).1) (Nat.not_lt.mpr z)
def tnZ (z TI TO i1 i2:Addr) (n1 n2:Nat→Heap→Prop) (i:Nat) (h:Heap):Prop:=IsZip h z TI TO .none∧IsPair h TI (.ref i1) (.ref i2)∧(∃ a b,IsPair h TO a b)∧n1 i h∧n2 i h
theorem pair_obj {h:Heap} {T:Addr} {a b:Value} (p:IsPair h T a b):∃ o,h.get? T=some o∧∀ v,o.data≠.cell v :=
 ⟨_,p,fun v z=>by
  have z':Data.seq _ _=Data.cell v:=z
  cases z'⟩
theorem turn_zip {P : Program} {w : World} {K : PySem.W.Frag} {J1 J2 : Inn} {z TI TO i1 i2 : Addr} {n1 n2 : Nat → Heap → Prop} {elts : List Expr} {x1 : Nat} {pos : Pos} (S1 : Src P w K J1 i1 n1) (S2 : Src P w K J2 i2 n2) (nd : [z, TI, TO, i1, i2].Nodup) :
  Turn P w K (.Tuple elts x1 pos) (ItP J1 J2) [z,TI,TO,i1,i2] z (tnZ z TI TO i1 i2 n1 n2):=by
 have far:∀ {X:Cx} {pins:List (Addr×Obj)} {σ:St} {H:Hp} {s:Shared} {f1 f2:List Addr},X.K=K→Inv X pins σ H s→(∀ b∈[z,TI,TO,i1,i2],FpOk X pins H b) →
   (∀ b∈f1,b=i1∨∃ o,s.heap.get? b=some o∧o.cls≠.type "enumerate" ∧ o.cls≠.type "zip" ∧ (H b=none→∃ o',K.lookup b=some o')) →
   (∀ b∈f2,b=i2∨∃ o,s.heap.get? b=some o∧o.cls≠.type "enumerate" ∧ o.cls≠.type "zip" ∧ (H b=none→∃ o',K.lookup b=some o'))→Far z TI TO i1 i2 f1 f2:=by
  intro X pins σ H s f1 f2 hK I hf g1 g2
  subst hK
  have nd':=nd
  simp only [List.nodup_cons,List.mem_cons,List.not_mem_nil,or_false,not_or,List.nodup_nil,and_true,not_false_eq_true] at nd'
  obtain ⟨⟨zTI,zTO,zi1,zi2⟩,⟨TITO,TIi1,TIi2⟩,⟨TOi1,TOi2⟩,i12⟩:=nd'
  have no1:∀ b,b∈[z,TI,TO,i1,i2]→b≠i1→b∉f1:=fun b hb hne hm=>by
   rcases g1 b hm with q | ⟨o,_,_,_,q⟩
   ·exact hne q
   ·obtain ⟨o',h'⟩:=q (hf b hb).1
    exact notK I (hf b hb) h'
  have no2:∀ b,b∈[z,TI,TO,i1,i2]→b≠i2→b∉f2:=fun b hb hne hm=>by
   rcases g2 b hm with q | ⟨o,_,_,_,q⟩
   ·exact hne q
   ·obtain ⟨o',h'⟩:=q (hf b hb).1
    exact notK I (hf b hb) h'
  exact ⟨nd,⟨no1 z (by simp) zi1,no1 TO (by simp) TOi1,no1 i2 (by simp) (Ne.symm i12)⟩,⟨no2 z (by simp) zi2,no2 TO (by simp) TOi2,no2 i1 (by simp) i12⟩⟩
 refine ⟨by simp,fun i h st b hb=>?_,fun i h h' st k=>?_,?_,?_,fun A i s Q E st hQ=>wpAny_pyIter_zip st.1 hQ⟩
 ·obtain ⟨hz,hTI,⟨a,b',hTO⟩,h1,h2⟩:=st
  simp only [List.mem_cons,List.not_mem_nil,or_false] at hb
  rcases hb with rfl | rfl | rfl | rfl | rfl
  ·exact ⟨_,hz,fun v z=>by
    have z':Data.fields _=Data.cell v:=z
    cases z'⟩
  ·exact pair_obj hTI
  ·exact pair_obj hTO
  ·obtain ⟨o,q,r,_⟩:=S1.obj i h h1;exact ⟨o,q,r⟩
  ·obtain ⟨o,q,r,_⟩:=S2.obj i h h2;exact ⟨o,q,r⟩
 ·obtain ⟨hz,hTI,⟨a,b',hTO⟩,h1,h2⟩:=st
  exact ⟨k z (by simp) _ hz,k TI (by simp) _ hTI,⟨a,b',k TO (by simp) _ hTO⟩,S1.keep i h h' h1 fun o q=>k i1 (by simp) o q,S2.keep i h h' h2 fun o q=>k i2 (by simp) o q⟩
 ·intro X hP hw hK hc i pins s σ H E I hf st hg
  obtain ⟨hz,hTI,⟨a,b',hTO⟩,h1,h2⟩:=st
  obtain ⟨f1,m1,P1,T1,D1,hs1,_,hfp1,hat1,_,hin1⟩:=S1.draw X hP hw hK hc i pins s σ H I h1 (.inl hg.1)
  obtain ⟨f2,m2,P2,T2,D2,hs2,_,hfp2,hat2,_,hin2⟩:=S2.draw X hP hw hK hc i pins s σ H I h2 (.inl hg.2)
  obtain ⟨hi1,hv1⟩:=hat1 hg.1
  obtain ⟨hi2,hv2⟩:=hat2 hg.2
  have FR:=far hK I hf hfp1 hfp2
  subst hP hw hK
  have hT:s.TypeIs (.ref z) "zip" := ⟨_,hz,rfl⟩
  unfold pyNext
  refine wpAny_bind (wpAny_attempt (wpAny_callSpecial?_slot (name:=Str.ofString "__next__") hT F.slot_zip_next (wpAny_call_entry F.slot_zip_next hT F.entry_zip_next (zipD_item FR D1 D2 hz hTI hTO hs1 hs2 hi1 hi2 fun x y h' tk px py z' to' s1' s2' tt kp=>wpAny_pure ?_) (F.args_zip_next_1 _))))
  refine ⟨_,rfl,?_⟩
  obtain ⟨y1,r1,a1⟩:=hv1 x px
  obtain ⟨y2,r2,a2⟩:=hv2 y py
  have lt:∀ {c o},s.heap.get? c=some o→c≠s.heap.objs.size:=fun q=>Nat.ne_of_lt (Heap.lt_size q)
  have hTn:H s.heap.objs.size=none:=I.fresh
  have hTz:s.heap.objs.size≠z:=(lt hz).symm
  refine wpAny_letOwnedTupleGo_zip z' fun h2' hz2 hs2'=>?_
  have nd':=nd
  simp only [List.nodup_cons,List.mem_cons,List.not_mem_nil,or_false,not_or,List.nodup_nil,and_true,not_false_eq_true] at nd'
  obtain ⟨⟨zTI,zTO,zi1,zi2⟩,⟨TITO,TIi1,TIi2⟩,⟨TOi1,TOi2⟩,i12⟩:=nd'
  have tt2:h2'.IsTuple s.heap.objs.size [x,y].toArray:=⟨_,hs2'.extBut _ _ hTz tt,rfl,_,rfl⟩
  have I2:Inv X pins σ (upd H s.heap.objs.size (.tup [y1,y2])) { s with heap:=h2',toks:=tk } :=
   turnedT (ch:=[z,TO,i1,i2]) I (fun b o hb q=>hs2'.extBut b o (fun e=>hb (by simp [e])) (kp b o hb q)) (fun b hb=>hf b (by simp only [List.mem_cons,List.not_mem_nil,or_false] at hb ⊢;rcases hb with e | e | e | e<;>simp [e])) (Nat.le_refl _) tt2 (.cons r1 (.cons r2 .nil)) (by show 2≤sizeLine;decide)
  have k1:n1 (i+1) h2':=S1.keep _ _ _ (hin1 _ _ s1') fun o q=>hs2'.extBut i1 o (Ne.symm zi1) q
  have k2:n2 (i+1) h2':=S2.keep _ _ _ (hin2 _ _ s2') fun o q=>hs2'.extBut i2 o (Ne.symm zi2) q
  have kTI:IsPair h2' TI (.ref i1) (.ref i2):=hs2'.extBut _ _ (Ne.symm zTI) (kp TI _ (by simp only [List.mem_cons,List.not_mem_nil,or_false,not_or];exact ⟨Ne.symm zTI,TITO,TIi1,TIi2⟩) hTI)
  refine ⟨.ref _,_,I2,rfl,⟨_,y1,y2,hTn,rfl,rfl,a1,a2⟩,⟨hz2,kTI,⟨x,y,hs2'.extBut _ _ (Ne.symm zTO) to'⟩,k1,k2⟩,fun b hb=>?_⟩
  have hbT:b≠s.heap.objs.size:=by
   simp only [List.mem_cons,List.not_mem_nil,or_false] at hb
   rcases hb with rfl | rfl | rfl | rfl | rfl
   ·exact lt hz
   ·exact lt hTI
   ·exact lt hTO
   ·obtain ⟨o,q,_⟩:=S1.obj i _ h1;exact lt q
   ·obtain ⟨o,q,_⟩:=S2.obj i _ h2;exact lt q
  rw [upd_ne hbT]
  exact (hf b hb).1
 ·intro X hP hw hK hc i pins s σ H E I hf st hg
  obtain ⟨hz,hTI,⟨a,b',hTO⟩,h1,h2⟩:=st
  have g1:(∃ y,J1.at_ i H y)∨J1.end_ i H:=by
   rcases hg with ⟨q,_⟩ | ⟨q,_⟩
   ·exact .inr q
   ·exact .inl q
  have g2:(∃ y,J2.at_ i H y)∨J2.end_ i H:=by
   rcases hg with ⟨_,q⟩ | ⟨_,q⟩
   ·exact q
   ·exact .inr q
  obtain ⟨f1,m1,P1,T1,D1,hs1,_,hfp1,hat1,hend1,hin1⟩:=S1.draw X hP hw hK hc i pins s σ H I h1 g1
  obtain ⟨f2,m2,P2,T2,D2,hs2,_,hfp2,hat2,hend2,hin2⟩:=S2.draw X hP hw hK hc i pins s σ H I h2 g2
  have FR:=far hK I hf hfp1 hfp2
  have he:i=m1∨(i < m1∧i=m2):=by
   rcases hg with ⟨q,_⟩ | ⟨q,q2⟩
   ·exact .inl (hend1 q)
   ·exact .inr ⟨(hat1 q).1,hend2 q2⟩
  subst hP hw hK
  have hT:s.TypeIs (.ref z) "zip" := ⟨_,hz,rfl⟩
  unfold pyNext
  refine wpAny_bind (wpAny_attempt (wpAny_callSpecial?_slot (name:=Str.ofString "__next__") hT F.slot_zip_next (wpAny_call_entry F.slot_zip_next hT F.entry_zip_next (zipD_end FR D1 D2 hz hTI hTO hs1 hs2 he fun h' e tk kp hx=>?_) (F.args_zip_next_1 _))))
  obtain ⟨o,ho,hco⟩:=hx
  refine wpAny_bind (wpAny_isInstance (T := "StopIteration") (b:=true) ⟨o,ho,hco⟩ isSubtype_stop (wpAny_pure ⟨rfl,?_⟩))
  exact turnedL (ch:=[z,TO,i1,i2]) I kp fun b hb=>hf b (by simp only [List.mem_cons,List.not_mem_nil,or_false] at hb ⊢;rcases hb with e | e | e | e<;>simp [e])
abbrev zh (T1 T2:String) (h:Heap) (l1 l2:Addr):Heap:=((((h.push { cls:=.type T1,data:=.fields #[.ref l1,.int 0 0] }).push { cls:=.type T2,data:=.fields #[.ref l2,.int 0 0] }).push { cls:=.type "tuple",data:=.seq #[.ref h.objs.size,.ref (h.objs.size+1)] }).push { cls:=.type "tuple",data:=.seq #[.none,.none] }).push
 { cls:=.type "zip",data:=.fields #[.none,.bool false,.bool false,.ref (h.objs.size+2),.ref (h.objs.size+3)] }
theorem meets_zipTT (l1 l2:Addr) (xs ys:Array Value):Meets (Builtin.«zip.__new__» ⟨[.type "zip",.ref l1,.ref l2],[]⟩) (fun _ R s=>s.heap.IsTuple l1 xs∧s.heap.IsTuple l2 ys∧R (.ok (.ret (.ref (s.heap.objs.size+4)))) { s with heap:=zh "tuple_iterator" "tuple_iterator" s.heap l1 l2 }) :=
 .of_wp fun prog w A R s h=>by
  obtain ⟨hp,gs,dr,tk,os⟩:=s
  obtain ⟨hl1,hl2,h⟩:=h
  have hsub:=sub_zip
  have q1:Heap.IsTuple (Shared.heap ⟨hp,gs,dr,tk,os⟩) l1 xs:=hl1
  have q2:Heap.IsTuple (Shared.heap ⟨hp.push { cls:=.type "tuple_iterator",data:=.fields #[.ref l1,.int 0 0] },gs,dr,tk,os⟩) l2 ys:=Heap.IsTuple.push hl2 _
  wp_walk using wpAny_pyIter_tuple q1,wpAny_pyIter_tuple q2
  simp only [zh,Heap.size_push] at h ⊢
  exact ⟨_,rfl,h⟩
theorem meets_zipLT (l1 l2:Addr) (xs ys:Array Value):Meets (Builtin.«zip.__new__» ⟨[.type "zip",.ref l1,.ref l2],[]⟩) (fun _ R s=>s.heap.IsList l1 xs∧s.heap.IsTuple l2 ys∧R (.ok (.ret (.ref (s.heap.objs.size+4)))) { s with heap:=zh "list_iterator" "tuple_iterator" s.heap l1 l2 }) :=
 .of_wp fun prog w A R s h=>by
  obtain ⟨hp,gs,dr,tk,os⟩:=s
  obtain ⟨hl1,hl2,h⟩:=h
  have hsub:=sub_zip
  have q1:Heap.IsList (Shared.heap ⟨hp,gs,dr,tk,os⟩) l1 xs:=hl1
  have q2:Heap.IsTuple (Shared.heap ⟨hp.push { cls:=.type "list_iterator",data:=.fields #[.ref l1,.int 0 0] },gs,dr,tk,os⟩) l2 ys:=Heap.IsTuple.push hl2 _
  wp_walk using wpAny_pyIter_list q1,wpAny_pyIter_tuple q2
  simp only [zh,Heap.size_push] at h ⊢
  exact ⟨_,rfl,h⟩
theorem zh_facts (T1 T2:String) (h:Heap) (l1 l2:Addr):IsZip (zh T1 T2 h l1 l2) (h.objs.size+4) (h.objs.size+2) (h.objs.size+3) .none∧IsPair (zh T1 T2 h l1 l2) (h.objs.size+2) (.ref h.objs.size) (.ref (h.objs.size+1))∧IsPair (zh T1 T2 h l1 l2) (h.objs.size+3) .none .none ∧
  (zh T1 T2 h l1 l2).get? h.objs.size=some { cls:=.type T1,data:=.fields #[.ref l1,.int 0 0] }∧(zh T1 T2 h l1 l2).get? (h.objs.size+1)=some { cls:=.type T2,data:=.fields #[.ref l2,.int 0 0] }∧∀ c o,h.get? c=some o→(zh T1 T2 h l1 l2).get? c=some o:=by
 have z1:(h.push { cls:=.type T1,data:=.fields #[.ref l1,.int 0 0] }).objs.size=h.objs.size+1:=Heap.size_push ..
 have z2:((h.push { cls:=.type T1,data:=.fields #[.ref l1,.int 0 0] }).push { cls:=.type T2,data:=.fields #[.ref l2,.int 0 0] }).objs.size=h.objs.size+2:=by rw [Heap.size_push,z1]
 have z3:(((h.push { cls:=.type T1,data:=.fields #[.ref l1,.int 0 0] }).push { cls:=.type T2,data:=.fields #[.ref l2,.int 0 0] }).push { cls:=.type "tuple",data:=.seq #[.ref h.objs.size,.ref (h.objs.size+1)] }).objs.size=h.objs.size+3:=by rw [Heap.size_push,z2]
 have z4:((((h.push { cls:=.type T1,data:=.fields #[.ref l1,.int 0 0] }).push { cls:=.type T2,data:=.fields #[.ref l2,.int 0 0] }).push { cls:=.type "tuple",data:=.seq #[.ref h.objs.size,.ref (h.objs.size+1)] }).push { cls:=.type "tuple",data:=.seq #[.none,.none] }).objs.size=h.objs.size+4:=by rw [Heap.size_push,z3]
 refine ⟨?_,?_,?_,?_,?_,fun c o q=>?_⟩
 ·show Heap.get? _ _=_
  rw [←z4];exact Heap.get?_push_size _ rfl
 ·show Heap.get? _ _=_
  rw [←z2];exact Heap.get?_push_of_some _ (Heap.get?_push_of_some _ (Heap.get?_push_size _ rfl))
 ·show Heap.get? _ _=_
  rw [←z3];exact Heap.get?_push_of_some _ (Heap.get?_push_size _ rfl)
 ·exact Heap.get?_push_of_some _ (Heap.get?_push_of_some _ (Heap.get?_push_of_some _ (Heap.get?_push_of_some _ (Heap.get?_push_size _ rfl))))
 ·show Heap.get? _ _=_
  rw [←z1];exact Heap.get?_push_of_some _ (Heap.get?_push_of_some _ (Heap.get?_push_of_some _ (Heap.get?_push_size _ rfl)))
 ·exact Heap.get?_push_of_some _ (Heap.get?_push_of_some _ (Heap.get?_push_of_some _ (Heap.get?_push_of_some _ (Heap.get?_push_of_some _ q))))
theorem zipD_get:∀ (xs ys:List Z.D) (i:Nat),(Z.zipD xs ys)[i]?=(xs[i]?).bind fun x=>(ys[i]?).map fun y=>Z.pair x y
 | [],ys,i=>by cases ys<;>simp [Z.zipD]
 | x :: xs,[],i=>by simp [Z.zipD]
 | x :: xs,y :: ys,0=>by simp [Z.zipD]
 | x :: xs,y :: ys,i+1=>by simp [Z.zipD,zipD_get xs ys i]
theorem zipD_len:∀ (xs ys:List Z.D),(Z.zipD xs ys).length=min xs.length ys.length
 | [],ys=>by cases ys<;>simp [Z.zipD]
 | x :: xs,[]=>by simp [Z.zipD]
 | x :: xs,y :: ys=>by simp [Z.zipD,zipD_len xs ys]
structure Gives (K:PySem.W.Frag) (J:Inn) (S:Hp→Prop) (ds:List Z.D):Prop where
 at_:∀ (i:Nat) d H1,S H1→ds[i]?=some d→(∃ y,J.at_ i H1 y)∧∀ y,J.at_ i H1 y→Den K H1 d y
 end_:∀ H1,S H1→J.end_ ds.length H1
theorem itz_zip {K : PySem.W.Frag} {J1 J2 : Inn} {S : Hp → Prop} {xs ys : List Z.D} (g1 : Gives K J1 S xs) (g2 : Gives K J2 S ys) : ItZ K (ItP J1 J2) S (Z.zipD xs ys) where
 go:=fun i d H1 s hi=>by
  rw [zipD_get] at hi
  cases q:xs[i]? with
  | none=>rw [q] at hi;cases hi
  | some x =>
   rw [q] at hi
   cases q2:ys[i]? with
   | none=>simp [q2] at hi
   | some y=>exact ⟨(g1.at_ i x H1 s q).1,(g2.at_ i y H1 s q2).1⟩
 yld:=fun i d H1 H2 x s hi y=>by
  obtain ⟨T,y1,y2,hT,rfl,rfl,a1,a2⟩:=y
  rw [zipD_get] at hi
  cases q:xs[i]? with
  | none=>rw [q] at hi;cases hi
  | some x =>
   rw [q] at hi
   cases q2:ys[i]? with
   | none=>simp [q2] at hi
   | some y =>
    simp only [q2,Option.bind_some,Option.map_some,Option.some.injEq] at hi
    subst hi
    have sm:Same H1 (upd H1 T (.tup [y1,y2])):=upd_Same hT
    exact ⟨sm,den_tup (.inl (.inl upd_same)) (Dens.cons (((g1.at_ i x H1 s q).2 y1 a1).up sm) (Dens.cons (((g2.at_ i y H1 s q2).2 y2 a2).up sm) Dens.nil))⟩
 stop:=fun H1 s=>by
  rw [zipD_len]
  have e1:=g1.end_ H1 s
  have e2:=g2.end_ H1 s
  rcases Nat.lt_trichotomy xs.length ys.length with h | h | h
  ·rw [Nat.min_eq_left (Nat.le_of_lt h)]
   exact .inl ⟨e1,.inl (g2.at_ xs.length _ H1 s (List.getElem?_eq_getElem h)).1⟩
  ·rw [Nat.min_eq_left (Nat.le_of_eq h)]
   rw [←h] at e2
   exact .inl ⟨e1,.inr e2⟩
  ·rw [Nat.min_eq_right (Nat.le_of_lt h)]
   exact .inr ⟨(g1.at_ ys.length _ H1 s (List.getElem?_eq_getElem h)).1,e2⟩
theorem gives_tup {K:PySem.W.Frag} {H:Hp} {q:Addr} {vs:List V} {ds:List Z.D} (h:SqT K H q vs) (t:Dens K H ds vs):Gives K (innT K q vs) (Stb H) ds :=
 ⟨fun i d H1 s hi=>by
  obtain ⟨y,hy,dy⟩:=t.get hi
  refine ⟨⟨y,sqT_mono s h,hy⟩,fun y' hy'=>?_⟩
  have:=hy'.2
  rw [hy] at this;cases this
  exact dy.ups s,fun H1 s=>⟨sqT_mono s h,t.length⟩⟩
theorem gives_lst {K:PySem.W.Frag} {H:Hp} {q:Addr} {vs:List V} {ds:List Z.D} (h:FzL K H q vs) (t:Dens K H ds vs):Gives K (innL K q vs) (Stb H) ds :=
 ⟨fun i d H1 s hi=>by
  obtain ⟨y,hy,dy⟩:=t.get hi
  refine ⟨⟨y,(h.mono s).sq,hy⟩,fun y' hy'=>?_⟩
  have:=hy'.2
  rw [hy] at this;cases this
  exact dy.ups s,fun H1 s=>⟨(h.mono s).sq,t.length⟩⟩
section
variable {X:Cx} {a b:Expr} {pos p p2:Pos} {fa fb:Z.EF} {elts:List Expr} {x1:Nat}
theorem fp_five {pins:List (Addr×Obj)} {σ:St} {H:Hp} {s:Shared} (I:Inv X pins σ H s):∀ b∈[s.heap.objs.size+4,s.heap.objs.size+2,s.heap.objs.size+3,s.heap.objs.size,s.heap.objs.size+1],FpOk X pins H b:=fun b hb=>by
 have h:s.heap.objs.size≤b:=by
  simp only [List.mem_cons,List.not_mem_nil,or_false] at hb
  lia
 exact I.fpOk h (I.hok.fresh h)
theorem nd_five (n:Nat):[n+4,n+2,n+3,n,n+1].Nodup:=by
 simp only [List.nodup_cons,List.mem_cons,List.not_mem_nil,or_false,not_or,List.nodup_nil,and_true,not_false_eq_true]
 lia
theorem dj_zip (hg:Gl X "zip") (hm:X.mg "zip" = none) (ha:DE X a fa) (hb:DE X b fb) (hs:starEach [a,b] X.env=[(false,eval a X.env),(false,eval b X.env)]:=by rfl) (hs2:starEach [b] X.env=[(false,eval b X.env)]:=by rfl)
  (h1:starEach (a :: [b]) X.env=(false,eval a X.env) :: starEach [b] X.env:=by rfl) (h2:starEach (b :: []) X.env=(false,eval b X.env) :: starEach [] X.env:=by rfl):DJ X (.Tuple elts x1 p2) (.Call (.Name "zip" p) [a,b] [] pos) (Z.iZip fa fb):=by
 intro pins s σ H R I w
 obtain ⟨ρ,ds,r,e,k⟩:=w
 obtain ⟨d1,ea,e⟩:=Z.Res.bind_ok e
 obtain ⟨d2,eb,e⟩:=Z.Res.bind_ok e
 obtain ⟨xs,ex,e⟩:=Z.Res.bind_ok e
 obtain ⟨ys,ey,e⟩:=Z.Res.bind_ok e
 cases e
 refine Call_ (ld_blt I hg hm (by kernel_rfl:bootBuiltins "zip" = some (.type "zip")) (PyProof.Rows.callWith_type1 (thn ((pa_cons ha (pa_cons hb pa_nil h2) h1) pos pins s σ H (fun vs H1=>∃ v u,vs=[v,u]∧Same H H1∧Den X.K H1 d1 v∧Den X.K H1 d2 u) I ⟨ρ,d1,r,ea,fun v H1 s1 q1=>⟨ρ,d2,r.up s1,eb,fun u H2 s2 q2=>⟨v,u,rfl,s1.trans s2,q1.up s2,q2⟩⟩⟩) fun us s1 ⟨vs,H1,I1,r1,q1⟩=>?_) (by rw [hs,hs2]) (by rw [hs2];rfl)))
 obtain ⟨v,u,rfl,sm,hd1,hd2⟩:=q1
 obtain ⟨u1,u2,rfl,ru1,ru2⟩:=vals2 r1
 have hd2':∃ ys0,d2=.tup ys0∧ys0=ys:=by
  cases d2 with
  | tup ys0=>cases ey;exact ⟨_,rfl,rfl⟩
  | non=>cases ey
  | bl _=>cases ey
  | int _=>cases ey
  | str _=>cases ey
  | lst _=>cases ey
  | dct _ _=>cases ey
 obtain ⟨_,rfl,rfl⟩:=hd2'
 obtain ⟨q2,vs2,rfl,hq2,t2⟩:=DenW.tup (.inl hd2)
 cases ru2
 obtain ⟨its2,rv2,pt2,_⟩:=I1.tuple hq2
 cases d1 with
 | tup xs0 =>
  cases ex
  obtain ⟨q,vs,rfl,hq,t⟩:=DenW.tup (.inl hd1)
  cases ru1
  obtain ⟨its,rv,pt,hz⟩:=I1.tuple hq
  obtain ⟨f1,f2,f3,f4,f5,f6⟩:=zh_facts "tuple_iterator" "tuple_iterator" s1.heap q q2
  refine callType_new F.called_zip (by decide) (F.typeCall_zip_2 _ _) (F.newCall_zip_2 _ _) (fun obj=>F.args_object_init_3 obj _ _) F.entry_zip_new (meets_zipTT q q2 its.toArray its2.toArray) ⟨pt,pt2,⟨_,f1,rfl⟩,wpAny_pyIter_zip f1 ?_⟩
  exact ⟨_,[s1.heap.objs.size+4,s1.heap.objs.size+2,s1.heap.objs.size+3,s1.heap.objs.size,s1.heap.objs.size+1],_,ItP (innT X.K q vs) (innT X.K q2 vs2),H1,rfl,I1.kept (t':=s1.toks) f6,turn_zip src_tup src_tup (nd_five _),⟨f1,f2,⟨_,_,f3⟩,⟨_,f4,rfl,rfl⟩,⟨_,f5,rfl,rfl⟩⟩,fp_five I1,k _ H1 sm (itz_zip (gives_tup hq t) (gives_tup hq2 t2))⟩
 | lst xs0 =>
  cases ex
  simp only [Den] at hd1
  obtain ⟨q,vs,rfl,hq,t⟩:=hd1
  cases ru1
  obtain ⟨its,rv,pt,hz⟩:=I1.list hq.sq
  obtain ⟨f1,f2,f3,f4,f5,f6⟩:=zh_facts "list_iterator" "tuple_iterator" s1.heap q q2
  refine callType_new F.called_zip (by decide) (F.typeCall_zip_2 _ _) (F.newCall_zip_2 _ _) (fun obj=>F.args_object_init_3 obj _ _) F.entry_zip_new (meets_zipLT q q2 its.toArray its2.toArray) ⟨pt.isList,pt2,⟨_,f1,rfl⟩,wpAny_pyIter_zip f1 ?_⟩
  exact ⟨_,[s1.heap.objs.size+4,s1.heap.objs.size+2,s1.heap.objs.size+3,s1.heap.objs.size,s1.heap.objs.size+1],_,ItP (innL X.K q vs) (innT X.K q2 vs2),H1,rfl,I1.kept (t':=s1.toks) f6,turn_zip src_lst src_tup (nd_five _),⟨f1,f2,⟨_,_,f3⟩,⟨_,f4,rfl,rfl⟩,⟨_,f5,rfl,rfl⟩⟩,fp_five I1,k _ H1 sm (itz_zip (gives_lst hq t) (gives_tup hq2 t2))⟩
 | non=>cases ex
 | bl _=>cases ex
 | int _=>cases ex
 | str _=>cases ex
 | dct _ _=>cases ex
end
end ZS
namespace ZQ
open PySem PySem.Spec PyProof.Rows L2 ZS
section
variable {X:Cx} {a b:Expr} {pos p p2:Pos} {fa fb:Z.EF} {elts:List Expr} {x1:Nat}
theorem dj_enum (hg:Gl X "enumerate") (hm:X.mg "enumerate" = none) (ha:QE X a fa) (hs:starEach [a] X.env=[(false,eval a X.env)]:=by rfl) (hs1:starEach (a :: []) X.env=(false,eval a X.env) :: starEach [] X.env:=by rfl):QJ X (.Tuple elts x1 p2) (.Call (.Name "enumerate" p) [a] [] pos) (Z.iEnum fa) :=
 ⟨ZS.dj_enum hg hm ha.p hs hs1⟩
theorem dj_zip (hg:Gl X "zip") (hm:X.mg "zip" = none) (ha:QE X a fa) (hb:QE X b fb) (hs:starEach [a,b] X.env=[(false,eval a X.env),(false,eval b X.env)]:=by rfl) (hs2:starEach [b] X.env=[(false,eval b X.env)]:=by rfl)
  (h1:starEach (a :: [b]) X.env=(false,eval a X.env) :: starEach [b] X.env:=by rfl) (h2:starEach (b :: []) X.env=(false,eval b X.env) :: starEach [] X.env:=by rfl):QJ X (.Tuple elts x1 p2) (.Call (.Name "zip" p) [a,b] [] pos) (Z.iZip fa fb) :=
 ⟨ZS.dj_zip hg hm ha.p hb.p hs hs2 h1 h2⟩
end
end ZQ
noncomputable section
namespace Z
def oRep:D→D→Res D
 | .str [c],.int n=>guard (0≤n∧n≤16777216) (.ok (.str (List.replicate n.toNat c)))
 | _,_=>.bad
theorem oRep_a (c:Nat) (n:Int):oRep (.str [c]) (.int n)=guard (0≤n∧n≤16777216) (.ok (.str (List.replicate n.toNat c))):=rfl
theorem oRep_ok {x y d:D} (h:oRep x y=.ok d):∃ c n,x=.str [c]∧y=.int n∧0≤n∧n≤16777216∧d=.str (List.replicate n.toNat c):=by
 unfold oRep at h
 split at h
 ·obtain ⟨⟨h0,h1⟩,e⟩:=guard_ok h
  cases e
  exact ⟨_,_,rfl,rfl,h0,h1,rfl⟩
 ·cases h
end Z
end
namespace ZS
open PySem PySem.Spec PyProof.Rows L2
theorem op_rep {X:Cx}:OpR X (binaryOp .Mult) (fun x y H Q=>∃ i n,x=.str i∧y=.int n∧MulOk i n∧Q (.str (Txt.mul i n)) H):=by
 intro pins s σ H x y v u Q I rx ry h
 obtain ⟨i,n,rfl,rfl,hz,q⟩:=h
 obtain ⟨t,rfl⟩:=rx
 obtain ⟨t',rfl⟩:=ry
 exact SB.mul hz fun t' k=>⟨.str (Txt.mul i n),H,I.tok _,⟨_,rfl⟩,q⟩
theorem fold_rep (c:Nat):∀ (n:Nat) (xs:List Nat),(List.replicate n (#[c]:Array Nat)).foldl (·++·) xs.toArray=(xs++List.replicate n c).toArray
 | 0,xs=>by simp
 | n+1,xs=>by
  rw [List.replicate_succ,List.foldl_cons,show xs.toArray++(#[c]:Array Nat)=(xs++[c]).toArray by simp,fold_rep c n (xs++[c])]
  simp [List.replicate_succ]
theorem mul_one (c : Nat) {n : Int} (h0 : 0 ≤ n) : Txt.mul ⟨[c].toArray⟩ n = ⟨(List.replicate n.toNat c).toArray⟩ := by
 unfold Txt.mul
 by_cases h1:n < 1
 ·have:n=0:=by lia
  subst this;rfl
 ·rw [if_neg h1]
  by_cases h2:n=1
  ·subst h2;rfl
  ·have:¬ (n==1 || (⟨[c].toArray⟩:Str).length==0)=true:=by
    simp [h2,Str.length]
   rw [if_neg this]
   have:=fold_rep c n.toNat []
   rw [List.nil_append] at this
   exact congrArg Str.mk this
theorem mulOk_one (c:Nat) {n:Int} (h0:0≤n) (h1:n≤16777216):MulOk ⟨[c].toArray⟩ n:=by
 refine ⟨?_,fun h _=>?_,fun h _=>?_⟩
 ·have a:¬ n < -(2 ^ 63:Int):=by lia
  have b:¬ n≥(2 ^ 63:Int):=by lia
  simp only [a,b,decide_false,Bool.or_self]
 ·have e:(⟨[c].toArray⟩:Str).length=1:=rfl
  rw [e]
  have:1≤((2 ^ 63-1:Int)) / n:=(Int.le_ediv_iff_mul_le (by lia)).mpr (by lia)
  lia
 ·have e:(⟨[c].toArray⟩:Str).length=1:=rfl
  rw [e,Nat.one_mul]
  have:¬ n.toNat > sizeLine:=by rw [sizeLine_eq];lia
  exact decide_eq_false this
theorem de_rep {X:Cx} {a b:Expr} {pos:Pos} {fa fb:Z.EF} (ha:DW X a fa) (hb:DW X b fb):DE X (.BinOp a .Mult b pos) (Z.eB Z.oRep fa fb):=de_op op_rep (fun x y dx dy d H Q h1 h2 e k=>by
 obtain ⟨c,n,rfl,rfl,h0,h3,rfl⟩:=Z.oRep_ok e
 refine ⟨_,_,h1.str,h2.int,mulOk_one c h0 h3,?_⟩
 rw [mul_one c h0]
 exact k _ H (Same.refl H) den_str) ha hb
end ZS
namespace ZQ
open PySem PySem.Spec PyProof.Rows L2 ZS
theorem de_rep {X:Cx} {a b:Expr} {pos:Pos} {fa fb:Z.EF} (ha:QW X a fa) (hb:QW X b fb):QE X (.BinOp a .Mult b pos) (Z.eB Z.oRep fa fb):=⟨ZS.de_rep (ha:=ha.p) (hb:=hb.p)⟩
end ZQ
noncomputable section
namespace Z
def intsD (hi:Int) (n:Nat):List D:=(List.range n).map fun i=>D.int (hi-(i:Nat))
def downD:D→D→D→Res (List D)
 | .int i,.int j,.int k=>guard (k=-1∧-1000000000≤i∧i≤1000000000∧-1000000000≤j∧j≤1000000000) (.ok (intsD i (i-j).toNat))
 | _,_,_=>.bad
def iRngD (a b c:EF) (ρ:Env):Res (List D):=(a ρ).bind fun x=>(b ρ).bind fun y=>(c ρ).bind fun z=>downD x y z
@[simp] theorem iRngD_a (a b c:EF) (ρ:Env):iRngD a b c ρ=(a ρ).bind fun x=>(b ρ).bind fun y=>(c ρ).bind fun z=>downD x y z:=rfl
def repK:D→D→Res (List D)
 | .lst [d],.int n=>guard (0≤n∧n≤16777216) (.ok (List.replicate n.toNat d))
 | _,_=>.bad
theorem repK_a (d:D) (n:Int):repK (.lst [d]) (.int n)=guard (0≤n∧n≤16777216) (.ok (List.replicate n.toNat d)):=rfl
theorem repK_ok {x y:D} {ds:List D} (h:repK x y=.ok ds):∃ d n,x=.lst [d]∧y=.int n∧0≤n∧n≤16777216∧ds=List.replicate n.toNat d:=by
 unfold repK at h
 split at h
 ·obtain ⟨⟨h1,h2⟩,e⟩:=guard_ok h
  cases e
  exact ⟨_,_,rfl,rfl,h1,h2,rfl⟩
 ·cases h
def lRep (a:LF) (b:EF) (ρ:Env):Res (List D):=(a ρ).bind fun xs=>(b ρ).bind fun y=>repK (.lst xs) y
@[simp] theorem lRep_a (a:LF) (b:EF) (ρ:Env):lRep a b ρ=(a ρ).bind fun xs=>(b ρ).bind fun y=>repK (.lst xs) y:=rfl
def oNotT:D→Res D
 | .bl b=>.ok (.bl (!b))
 | _=>.bad
@[simp] theorem oNotT_bl (b:Bool):oNotT (.bl b)=.ok (.bl (!b)):=rfl
end Z
end
namespace ZS
open PySem PySem.Spec PyProof.Rows L2
section
variable {X:Cx} {tg:Expr}
variable {a b c:Expr} {p pos:Pos} {fa fb fc:Z.EF}
theorem dens_rep {K:PySem.W.Frag} {H:Hp} {d:Z.D} {w:V} (h:Den K H d w):∀ n,Dens K H (List.replicate n d) (List.replicate n w)
 | 0=>Dens.nil
 | n+1=>Dens.cons h (dens_rep h n)
theorem flat_one {w:V}:∀ n:Nat,(List.replicate n [w]).flatten=List.replicate n w
 | 0=>rfl
 | n+1=>by rw [List.replicate_succ,List.flatten_cons,flat_one n];rfl
theorem dl_rep {la:Z.LF} (ha:DL X a la) (hb:DW X b fb):DL X (.BinOp a .Mult b pos) (Z.lRep la fb):=PE.imp (pe_op L2.op_rep ha hb) fun σ H Q ⟨ρ,ds,r,e,k⟩=>by
 obtain ⟨xs,ea,e⟩:=Z.Res.bind_ok e
 obtain ⟨y,eb,e⟩:=Z.Res.bind_ok e
 obtain ⟨d,n,hx,rfl,h0,h1,rfl⟩:=Z.repK_ok e
 cases hx
 refine ⟨ρ,[d],r,ea,fun l vs H1 s1 hn hv t=>⟨ρ,_,r.up s1,eb,fun u H2 s2 d2=>?_⟩⟩
 simp only [Dens] at t
 obtain ⟨w,r',rfl,dw,rfl⟩:=t
 refine ⟨l,n,[w],rfl,d2.int,s2 _ _ hv,by lia,by lia,?_,fun z hz=>?_⟩
 ·rw [sizeLine_eq];simp;lia
 ·rw [flat_one]
  have s12:=s1.trans s2
  have s3:Same H2 (upd H2 z (.lst (List.replicate n.toNat w))):=upd_Same hz
  exact k z _ _ (s12.trans s3) (s12.free hz) upd_same (dens_rep ((dw.up s2).up s3) _)
end
end ZS
namespace ZQ
open PySem PySem.Spec PyProof.Rows L2 ZS
section
variable {X:Cx} {tg a b c:Expr} {p pos:Pos} {fa fb fc:Z.EF} {la:Z.LF}
theorem dl_rep (ha:QL X a la) (hb:QW X b fb):QL X (.BinOp a .Mult b pos) (Z.lRep la fb):=⟨ZS.dl_rep ha.p hb.p⟩
end
end ZQ
noncomputable section
namespace Z
theorem fnB_a (bs:List Bool) (n:Nat) (b:SF) (ds:List D) (h:ds.length=bs.length):fnB bs n b ds=retK (b (startB n bs ds)):=by
 unfold fnB;rw [if_pos h];cases b (startB n bs ds) with
 | bad=>rfl
 | ok f=>cases f<;>rfl
def textsD:List D→Option (List (List Nat))
 | []=>some []
 | .str c :: r=>(textsD r).map (c :: ·)
 | _ :: _=>none
def gluedC (sep:List Nat):List (List Nat)→List Nat
 | []=>[]
 | [x]=>x
 | x :: y :: r=>x++sep++gluedC sep (y :: r)
def oJoin:D→D→Res D
 | .str sep,.lst xs=>match textsD xs with
  | some ts=>guard ((ts.map List.length).sum+ts.length*sep.length≤line) (.ok (.str (gluedC sep ts)))
  | none=>.bad
 | _,_=>.bad
theorem oJoin_ok {x y d:D} (h:oJoin x y=.ok d):∃ sep xs ts,x=.str sep∧y=.lst xs∧textsD xs=some ts∧(ts.map List.length).sum+ts.length*sep.length≤16777216∧d=.str (gluedC sep ts):=by
 unfold oJoin at h
 split at h
 ·split at h
  ·rename_i hs
   obtain ⟨h1,e⟩:=guard_ok h
   cases e
   exact ⟨_,_,_,rfl,rfl,hs,h1,rfl⟩
  ·cases h
 ·cases h
theorem textsD_map:∀ ts:List (List Nat),textsD (ts.map D.str)=some ts
 | []=>rfl
 | t :: ts=>by simp [textsD,textsD_map ts]
theorem glued_nil:∀ ts:List (List Nat),gluedC [] ts=ts.flatten
 | []=>rfl
 | [x]=>by simp [gluedC]
 | x :: y :: r=>by rw [gluedC,glued_nil (y :: r)];simp
theorem oJoin_nil {ts:List (List Nat)} (h:ts.flatten.length≤16777216):oJoin (.str []) (.lst (ts.map D.str))=.ok (.str ts.flatten):=by
 show (match textsD (ts.map D.str) with | some ts=>guard ((ts.map List.length).sum+ts.length*0≤line) (Res.ok (D.str (gluedC [] ts))) | none=>Res.bad)=_
 rw [textsD_map]
 simp only [glued_nil]
 rw [guard_pos]
 rw [List.length_flatten] at h
 simpa using h
def oCntS:D→D→Res D
 | .str t,.str [c]=>.ok (.int (t.count c))
 | _,_=>.bad
@[simp] theorem oCntS_a (t:List Nat) (c:Nat):oCntS (.str t) (.str [c])=.ok (.int (t.count c)):=rfl
def oRev:D→Res D
 | .tup xs=>.ok (.tup xs.reverse)
 | .str cs=>guard (cs.length≤line) (.ok (.str cs.reverse))
 | _=>.bad
@[simp] theorem oRev_tup (xs:List D):oRev (.tup xs)=.ok (.tup xs.reverse):=rfl
@[simp] theorem oRev_str (cs:List Nat):oRev (.str cs)=guard (cs.length≤line) (.ok (.str cs.reverse)):=rfl
end Z
end
namespace ZS
open PySem PySem.Spec PyProof.Rows L2
def DenF (K:PySem.W.Frag) (H:Hp) (b:Bool) (d:Z.D) (v:V):Prop:=if b=true then DenB K H d v else Den K H d v
def DensF (K:PySem.W.Frag) (H:Hp):List Bool→List Z.D→List V→Prop
 | [],[],vs=>vs=[]
 | b :: bs,d :: ds,vs=>∃ v r,vs=v :: r∧DenF K H b d v∧DensF K H bs ds r
 | _,_,_=>False
theorem DenF.up {K:PySem.W.Frag} {H H':Hp} {b:Bool} {d:Z.D} {v:V} (h:DenF K H b d v) (e:Same H H'):DenF K H' b d v:=by
 unfold DenF at h ⊢
 cases b with
 | true=>exact DenB.up (show DenB K H d v from h) e
 | false=>exact Den.up (show Den K H d v from h) e
theorem DensF.up {K:PySem.W.Frag} {H H':Hp} (e:Same H H'):∀ {bs:List Bool} {ds:List Z.D} {vs:List V},DensF K H bs ds vs→DensF K H' bs ds vs
 | [],[],_,h=>h
 | [],_ :: _,_,h=>h.elim
 | _ :: _,[],_,h=>h.elim
 | b :: bs,d :: ds,_,⟨v,r,e1,h1,h2⟩=>⟨v,r,e1,h1.up e,DensF.up e h2⟩
theorem DensF.length {K:PySem.W.Frag} {H:Hp}:∀ {bs:List Bool} {ds:List Z.D} {vs:List V},DensF K H bs ds vs→vs.length=ds.length∧ds.length=bs.length
 | [],[],vs,h=>by have:vs=[]:=h;subst this;exact ⟨rfl,rfl⟩
 | [],_ :: _,_,h=>h.elim
 | _ :: _,[],_,h=>h.elim
 | b :: bs,d :: ds,_,⟨v,r,e1,h1,h2⟩=>by
  have:=DensF.length h2
  subst e1
  simp [this.1,this.2]
theorem DensF.get {K:PySem.W.Frag} {H:Hp}:∀ {bs:List Bool} {ds:List Z.D} {vs:List V} {i:Nat} {b:Bool} {d:Z.D},DensF K H bs ds vs→bs[i]?=some b→ds[i]?=some d→∃ v,vs[i]?=some v∧DenF K H b d v
 | [],[],_,_,_,_,_,e,_=>by simp at e
 | [],_ :: _,_,_,_,_,h,_,_=>h.elim
 | _ :: _,[],_,_,_,_,h,_,_=>h.elim
 | b :: bs,d :: ds,_,0,b',d',⟨v,r,e1,h1,h2⟩,eb,ed=>by
  simp at eb ed
  subst e1;subst eb;subst ed
  exact ⟨v,rfl,h1⟩
 | b :: bs,d :: ds,_,i+1,b',d',⟨v,r,e1,h1,h2⟩,eb,ed=>by
  subst e1
  obtain ⟨u,q1,q2⟩:=DensF.get (i:=i) h2 (by simpa using eb) (by simpa using ed)
  exact ⟨u,by simpa using q1,q2⟩
def tZaF (K:PySem.W.Frag) (bs:List Bool) (f:Z.AF):TA:=fun σ H Q=>∃ ρ ds,RE K H σ ρ∧f ρ=.ok ds∧∀ vs H',Same H H'→DensF K H' bs ds vs→Q vs H'
abbrev DAF (X:Cx) (es:List Expr) (bs:List Bool) (f:Z.AF):Prop:=PA X es (tZaF X.K bs f)
section
variable {X:Cx} {e:Expr} {es:List Expr} {pos:Pos} {f:Z.EF}
theorem daf_nil:DAF X [] [] Z.aNil:=PA.imp pa_nil fun σ H Q ⟨ρ,ds,r,e,k⟩=>by
 cases e
 exact k [] H (Same.refl H) rfl
theorem daf_cons {bs:List Bool} {g:Z.AF} (ha:DE X e f) (hr:DAF X es bs g) (hs:starEach (e :: es) X.env=(false,eval e X.env) :: starEach es X.env:=by rfl):DAF X (e :: es) (false :: bs) (Z.aCons f g):=PA.imp (pa_cons ha hr hs) fun σ H Q ⟨ρ,ds,r,e,k⟩=>by
 obtain ⟨x,ea,e⟩:=Z.Res.bind_ok e
 obtain ⟨xs,eb,e⟩:=Z.Res.bind_ok e
 cases e
 exact ⟨ρ,x,r,ea,fun v H1 s1 d1=>⟨ρ,xs,r.up s1,eb,fun vs H2 s2 t=>k _ H2 (s1.trans s2) ⟨v,vs,rfl,Den.up d1 s2,t⟩⟩⟩
def spZF (K:PySem.W.Frag) (bs:List Bool) (m:List Z.D→Z.Res Z.D):Sp:=fun vs H Q _=>∃ ds d,DensF K H bs ds vs∧m ds=.ok d∧∀ v H',Same H H'→Den K H' d v→Q v H'
theorem de_callF {k:Nat} {g:Addr} {fd:FuncData} {ps:List Str} {x:Str} {bs:List Bool} {m:List Z.D→Z.Res Z.D} {ar:Z.AF} {p1:Pos} (F:FnOk X.prog X.w X.K X.mg X.base CX0 k g fd ps (spZF X.K bs m)) (hr:Room k X.A) (hg:Gl X x) (hm:X.mg x=some (.ref g)) (hk:PySem.W.keepIn X.K (.ref g)=true) (hb:Binds X.K fd ps [])
  (ha:DAF X (e :: es) bs ar) (hdb:(x==("__debug__" : Str))=false:=by decide +kernel) (he:starEach (e :: es) X.env=(false,eval e X.env) :: starEach es X.env:=by rfl) (hpl:(backTo pos (starEach es X.env)).any (·.1)=false:=by rfl) :
  DE X (.Call (.Name x p1) (e :: es) [] pos) (Z.eCall m ar) :=
 PE.imp (pe_call F hr hg hm hk hb .nil pass0 ha hdb he hpl) fun σ H Q ⟨ρ,d,r,e,k⟩=>by
  obtain ⟨ds,ea,e⟩:=Z.Res.bind_ok e
  refine ⟨ρ,ds,r,ea,fun vs H1 s1 d1=>?_⟩
  show spZF X.K bs m (vs++[]) H1 Q E0
  rw [List.append_nil]
  exact ⟨ds,d,d1,e,fun v H' s2 dv=>k v H' (s1.trans s2) dv⟩
end
section
variable {P:Program} {w:World} {K:PySem.W.Frag} {mg:Str→Option Value} {base:Heap}
theorem lent_noown (b:Bool) (d:Z.D) (xs:List Z.D):Z.lent b d≠.own xs:=by
 unfold Z.lent
 split<;>intro h<;>cases h
theorem lent_nodic (b:Bool) (d:Z.D) (ks:Z.DK):Z.lent b d≠.dc ks:=by
 unfold Z.lent
 split<;>intro h<;>cases h
theorem lent_ok {H:Hp} {b:Bool} {d:Z.D} {v:V} (h:DenF K H b d v):RL K H (Z.lent b d) v:=by
 unfold DenF at h
 cases b with
 | false=>exact (show Den K H d v from h)
 | true =>
  have h':DenB K H d v:=h
  have st:(∀ ds,d≠.lst ds)→(∀ ks vs,d≠.dct ks vs)→Den K H d v:=fun n1 n2=>by
   rcases h' with h | ⟨a,kd,ks,ds,u,e1,_⟩
   ·exact h.strong n1
   ·exact absurd e1 (n2 _ _)
  cases d with
  | lst xs=>exact h'
  | non=>exact st (fun _ z=>nomatch z) fun _ _ z=>nomatch z
  | bl _=>exact st (fun _ z=>nomatch z) fun _ _ z=>nomatch z
  | int _=>exact st (fun _ z=>nomatch z) fun _ _ z=>nomatch z
  | str _=>exact st (fun _ z=>nomatch z) fun _ _ z=>nomatch z
  | tup _=>exact st (fun _ z=>nomatch z) fun _ _ z=>nomatch z
  | dct _ _=>exact h'
theorem startB_get {N:List Str} {bs:List Bool} {vs:List V} {ds:List Z.D} {H:Hp} (t:DensF K H bs ds vs) (hl:vs.length≤N.length):RS K H H (L2.start N vs) (Z.startB N.length bs ds):=by
 obtain ⟨hlen,hbl⟩:=t.length
 have hz:(List.zipWith (fun b d=>some (Z.lent b d)) bs ds).length=ds.length:=by simp [hbl]
 have key:∀ (i:Nat) (l:Z.L),(Z.startB N.length bs ds)[i]?=some (some l)→∃ b d,l=Z.lent b d∧∃ v,(L2.start N vs)[i]?=some (some v)∧DenF K H b d v:=by
  intro i l e
  unfold Z.startB at e
  by_cases hi:i < ds.length
  ·rw [List.getElem?_append_left (by rw [hz];exact hi)] at e
   have hb':i < bs.length:=by lia
   rw [List.getElem?_zipWith,List.getElem?_eq_getElem hb',List.getElem?_eq_getElem hi] at e
   simp only at e
   cases e
   obtain ⟨v,h1,h2⟩:=t.get (List.getElem?_eq_getElem hb') (List.getElem?_eq_getElem hi)
   refine ⟨_,_,rfl,v,?_,h2⟩
   unfold L2.start
   rw [List.getElem?_append_left (by simp;lia),List.getElem?_map,h1]
   rfl
  ·rw [List.getElem?_append_right (by rw [hz];lia),List.getElem?_replicate] at e
   split at e<;>cases e
 have noown:∀ (i:Nat) (xs:List Z.D),(Z.startB N.length bs ds)[i]?≠some (some (.own xs)):=fun i xs e=>by
  obtain ⟨b,d,h,_⟩:=key i _ e
  exact lent_noown b d xs h.symm
 refine ⟨Same.refl H,⟨?_,fun i l e=>?_,fun i j xs ys q e1=>absurd e1 (noown i xs)⟩,fun i xs q e1=>absurd e1 (noown i xs),fun i xs e1=>?_,DicOk.non fun i ks e=>by
  obtain ⟨b,d,h,_⟩:=key i _ e
  exact lent_nodic b d ks h.symm⟩
 ·unfold Z.startB L2.start
  rw [List.length_append,List.length_append,hz,List.length_replicate,List.length_map,List.length_replicate,hlen]
 ·obtain ⟨b,d,rfl,v,h1,h2⟩:=key i l e
  exact ⟨v,h1,lent_ok h2⟩
 ·obtain ⟨b,d,h,v,h1,h2⟩:=key i _ e1
  have:=lent_ok h2
  rw [←h] at this
  exact ⟨v,h1,DenB.z this⟩
theorem fnZB {x qual:Str} {st:Stmt} {f:Addr} {fd:FuncData} {N ps:List Str} {bs:List Bool} {k:Nat} {b:Z.SF} (hbs:bs.length=ps.length) (F:Fun K x qual st f fd) (S:FnScope N ps (defScope st))
  (hb:∀ (cdv:Value) (A:Around) (outer:List Env) (s:Shared) (H:Hp) (E:XK),Room k (A.deeper (envOfC qual (defScope st) s.heap.objs.size f cdv)) →
   DSs (cxOf CX0 P w K mg base N qual (defScope st) f cdv A outer s H E).nox H (defBody st) b):FnOk P w K mg base CX0 (k+1) f fd ps (spZF K bs (Z.fnB bs N.length b)):=by
 have hlen:∀ (vs:List V) (H:Hp) (Q:VK) (E:XK),spZF K bs (Z.fnB bs N.length b) vs H Q E→vs.length=ps.length:=fun vs H Q E ⟨ds,d,t,e,_⟩=>by
  have:=t.length
  lia
 refine F.ok S hlen (fun cdv A outer s H vs Q E hr h=>⟨_,hb cdv A outer s H E hr,?_⟩)
 have hl:=hlen vs H Q E h
 obtain ⟨ds,d,t,e,k⟩:=h
 have hpl:ps.length≤N.length:=by have:=congrArg List.length S.pre;rw [List.length_take] at this;lia
 have rs:RS K H H (L2.start N vs) (Z.startB N.length bs ds):=startB_get t (by lia)
 unfold Z.fnB at e
 split at e
 ·cases eb:b (Z.startB N.length bs ds) with
  | bad=>rw [eb] at e;cases e
  | ok fl =>
   rw [eb] at e
   refine ⟨_,fl,rs,eb,?_⟩
   cases fl with
   | rt d'=>cases e;exact fun v H' s' dv=>k v H' s' dv
   | nx ρ'=>cases e;exact fun σ' H' _ rs'=>k .non H' rs'.same den_non
   | bk ρ'=>cases e
   | ct ρ'=>cases e
 ·cases e
structure CalB (P:Program) (w:World) (K:PySem.W.Frag) (mg:Str→Option Value) (base:Heap) (x:Str) (k:Nat) (ps:List Str) (bs:List Bool) (m:List Z.D→Z.Res Z.D):Prop where
 ex:∃ g fd,FnOk P w K mg base CX0 k g fd ps (spZF K bs m)∧mg x=some (.ref g)∧PySem.W.keepIn K (.ref g)=true∧Binds K fd ps []
theorem CalB.mk' {P:Program} {w:World} {K:PySem.W.Frag} {mg:Str→Option Value} {base:Heap} {x:Str} {k:Nat} {st:Stmt} {N ps:List Str} {bs:List Bool} {b:Z.SF} (hbs:bs.length=ps.length) (d:Def K mg x st ps) (S:FnScope N ps (defScope st))
  (hb:∀ (f:Addr) (cdv:Value) (A:Around) (outer:List Env) (s:Shared) (H:Hp) (E:XK),Room k (A.deeper (envOfC x (defScope st) s.heap.objs.size f cdv)) →
   DSs (cxOf CX0 P w K mg base N x (defScope st) f cdv A outer s H E).nox H (defBody st) b):CalB P w K mg base x (k+1) ps bs (Z.fnB bs N.length b):=by
 obtain ⟨f,fd,F,hm,hb'⟩:=d.ex
 exact ⟨f,fd,fnZB hbs F S (hb f),hm,F.kp,hb'⟩
end
section
variable {X:Cx} {e:Expr} {es:List Expr} {pos:Pos}
theorem de_callB {k:Nat} {ps:List Str} {bs:List Bool} {x:Str} {m:List Z.D→Z.Res Z.D} {ar:Z.AF} {p1:Pos} (C:CalB X.prog X.w X.K X.mg X.base x k ps bs m) (hr:Room k X.A) (hg:Gl X x)
  (ha:DAF X (e :: es) bs ar) (hdb:(x==("__debug__" : Str))=false:=by decide +kernel) (he:starEach (e :: es) X.env=(false,eval e X.env) :: starEach es X.env:=by rfl) (hpl:(backTo pos (starEach es X.env)).any (·.1)=false:=by rfl) :
  DE X (.Call (.Name x p1) (e :: es) [] pos) (Z.eCall m ar) :=
 let ⟨_,_,F,hm,hk,hb⟩:=C.ex;de_callF F hr hg hm hk hb ha hdb he hpl
end
end ZS
namespace ZQ
open PySem PySem.Spec PyProof.Rows L2 ZS
structure QAF (X:Cx) (es:List Expr) (bs:List Bool) (f:Z.AF):Prop where p:DAF X es bs f
section
variable {X:Cx} {e:Expr} {es:List Expr} {pos:Pos} {f:Z.EF}
theorem daf_nil:QAF X [] [] Z.aNil:=⟨ZS.daf_nil⟩
theorem daf_cons {bs:List Bool} {g:Z.AF} (ha:QE X e f) (hr:QAF X es bs g) (hs:starEach (e :: es) X.env=(false,eval e X.env) :: starEach es X.env:=by rfl):QAF X (e :: es) (false :: bs) (Z.aCons f g):=⟨ZS.daf_cons ha.p hr.p hs⟩
theorem de_callB {k:Nat} {ps:List Str} {bs:List Bool} {x:Str} {m:List Z.D→Z.Res Z.D} {ar:Z.AF} {p1:Pos} (C:CalB X.prog X.w X.K X.mg X.base x k ps bs m) (hr:Room k X.A) (hg:Gl X x)
  (ha:QAF X (e :: es) bs ar) (hdb:(x==("__debug__" : Str))=false:=by decide +kernel) (he:starEach (e :: es) X.env=(false,eval e X.env) :: starEach es X.env:=by rfl) (hpl:(backTo pos (starEach es X.env)).any (·.1)=false:=by rfl) :
  QE X (.Call (.Name x p1) (e :: es) [] pos) (Z.eCall m ar):=⟨ZS.de_callB C hr hg ha.p hdb he hpl⟩
theorem calQB {P:Program} {w:World} {K:PySem.W.Frag} {mg:Str→Option Value} {base:Heap} {x:Str} {k:Nat} {st:Stmt} {N ps:List Str} {bs:List Bool} {b:Z.SF} (hbs:bs.length=ps.length) (d:ZS.Def K mg x st ps) (S:FnScope N ps (defScope st))
  (hb:∀ (f:Addr) (cdv:Value) (A:Around) (outer:List PySem.Env) (s:Shared) (H:Hp) (E:XK),Room k (A.deeper (envOfC x (defScope st) s.heap.objs.size f cdv)) →
   QSs (cxOf CX0 P w K mg base N x (defScope st) f cdv A outer s H E).nox H (defBody st) b):ZS.CalB P w K mg base x (k+1) ps bs (Z.fnB bs N.length b) :=
 ZS.CalB.mk' hbs d S fun f cdv A outer s H E hr=>(hb f cdv A outer s H E hr).p
end
end ZQ
namespace ZS
open PySem PySem.Spec PyProof.Rows L2
section
variable {prog:Program} {w:World} {A:Around} {E:Value→Shared→Prop} {s:Shared}
end
section
variable {X:Cx} {tg o e a b:Expr} {es:List Expr} {pos:Pos} {fa fb:Z.EF} {H0:Hp}
theorem vals_str:∀ {ts:List Str} {its:List Value},Vals (ts.map V.str) its→∃ l:List (Str×Tok),strValues l=its∧l.map (·.1)=ts
 | [],its,h=>by cases h;exact ⟨[],rfl,rfl⟩
 | t :: ts,its,h=>by
  cases h with
  | cons r rr =>
   obtain ⟨tk,rfl⟩:=r
   obtain ⟨l,rfl,h2⟩:=vals_str rr
   exact ⟨(t,tk) :: l,rfl,by rw [←h2];rfl⟩
def rJoin (K:PySem.W.Frag):V→List V→Hp→VK→Prop:=fun x vs H Q=>∃ sep q ts,x=.str sep∧vs=[.ref q]∧SqL K H q (ts.map V.str)∧JoinOk sep ts=true∧Q (.str (Txt.join sep ts)) H
theorem mt_join:MtR X "str.join" (rJoin X.K):=by
 intro pins s σ H x vs v us Q I rx rv h
 obtain ⟨sep,q,ts,rfl,rfl,hq,hok,k⟩:=h
 obtain ⟨t,rfl⟩:=rx
 obtain ⟨u,rfl,ru⟩:=rv.one
 cases ru
 obtain ⟨its,r,pl,hz⟩:=I.list hq
 obtain ⟨l,rfl,hl⟩:=vals_str r
 exact SC.join pl.isList hl hok fun t' c=>⟨.str (Txt.join sep ts),H,I.tok c,⟨t',rfl⟩,k⟩
def mkS (cs:List Nat):Str:=⟨cs.toArray⟩
theorem dens_texts {K : PySem.W.Frag} {H : Hp} : ∀ {xs : List Z.D} {ts : List (List Nat)} {vs : List V}, Z.textsD xs = some ts → Dens K H xs vs → vs = (ts.map mkS).map V.str
 | [],ts,vs,e,h=>by cases e;simp only [Dens] at h;subst h;rfl
 | x :: xs,ts,vs,e,h=>by
  cases x with
  | str c =>
   have e':(Z.textsD xs).map (c :: ·)=some ts:=e
   cases q:Z.textsD xs with
   | none=>rw [q] at e';cases e'
   | some ts' =>
    rw [q] at e'
    cases e'
    simp only [Dens] at h
    obtain ⟨v,r,rfl,hv,ht⟩:=h
    simp only [Den] at hv
    rw [hv,dens_texts q ht];rfl
  | non=>cases e
  | bl _=>cases e
  | int _=>cases e
  | tup _=>cases e
  | lst _=>cases e
  | dct _ _=>cases e
theorem mkS_len (cs:List Nat):(mkS cs).length=cs.length:=by simp [mkS,Str.length]
theorem mkS_app (a b:List Nat):mkS a++mkS b=mkS (a++b):=by
 show (⟨a.toArray++b.toArray⟩:Str)=_
 simp [mkS]
theorem join_mk (sep:List Nat):∀ ts:List (List Nat),Txt.join (mkS sep) (ts.map mkS)=mkS (Z.gluedC sep ts):=by
 intro ts
 show Builtin.Str.glued _ _=_
 rw [StrLaws.glued_eq_join]
 induction ts with
 | nil=>rfl
 | cons x ts ih =>
  cases ts with
  | nil=>rfl
  | cons y r =>
   show mkS x++mkS sep++Str.join (mkS sep) ((y :: r).map mkS)=_
   rw [ih,mkS_app,mkS_app]
   rfl
theorem join_ok {sep:List Nat} {ts:List (List Nat)} (h:(ts.map List.length).sum+ts.length*sep.length≤16777216):JoinOk (mkS sep) (ts.map mkS)=true:=by
 unfold JoinOk
 rw [StrLaws.joinTotal]
 have e:(ts.map mkS).map (·.length)=ts.map List.length:=by rw [List.map_map];exact List.map_congr_left fun x _=>mkS_len x
 rw [e,List.length_map,mkS_len]
 simp only [Builtin.Str.tooLong,Bool.not_eq_true',decide_eq_false_iff_not,gt_iff_lt,Nat.not_lt]
 rw [sizeLine_eq];exact h
theorem de_join {p1 p2:Pos} (ho:DE X o fa) (hb:DW X b fb)
  (hbase:attributeBase o "join" X.env (eval o X.env)=eval o X.env:=by rfl)
  (hfew:((backTo p2 (starEach (b :: []) X.env)).all (fun x=>!x.1)&&(backToKw p2 (keywordEach [] X.env)).all (fun x=>x.1.isSome)
   && decide ((b :: []).length+([]:List Keyword).length+(if ([]:List Keyword).isEmpty then 0 else 1) < 30))=true:=by rfl)
  (hline:(p1.endLine==p2.line)=true:=by rfl) (hs1:starEach (b :: []) X.env=(false,eval b X.env) :: starEach [] X.env:=by rfl) (hplain:(backTo p2 (starEach [] X.env)).any (·.1)=false:=by rfl) :
  DE X (.Call (.Attribute o "join" p1) [b] [] p2) (Z.eB Z.oJoin fa fb) :=
 PE.imp (pe_bm PySem.F.plainAttrs_str PySem.F.slot_str_join PySem.F.type_str_join mt_join ho (pa_cons hb pa_nil hs1) hbase hfew hline hs1 hplain) fun σ H Q ⟨ρ,d,r,e,k⟩=>by
  obtain ⟨x,ea,e⟩:=Z.Res.bind_ok e
  obtain ⟨y,eb,e⟩:=Z.Res.bind_ok e
  obtain ⟨sep,xs,ts,rfl,rfl,et,hl,rfl⟩:=Z.oJoin_ok e
  refine ⟨ρ,_,r,ea,fun v H1 s1 d1=>?_⟩
  simp only [Den] at d1
  subst d1
  refine ⟨rfl,ρ,_,r.up s1,eb,fun u H2 s2 d2=>?_⟩
  obtain ⟨q,vs,rfl,hq,t⟩:=d2.lst
  rw [dens_texts et t] at hq
  refine ⟨mkS sep,q,ts.map mkS,rfl,rfl,hq,join_ok hl,?_⟩
  rw [join_mk]
  exact k _ H2 (s1.trans s2) den_str
end
end ZS
namespace ZQ
open PySem PySem.Spec PyProof.Rows L2 ZS
section
variable {X:Cx} {tg o e a b:Expr} {es:List Expr} {pos:Pos} {fa fb:Z.EF} {H0:Hp}
theorem de_join {p1 p2:Pos} (ho:QE X o fa) (hb:QW X b fb)
  (hbase:attributeBase o "join" X.env (eval o X.env)=eval o X.env:=by rfl)
  (hfew:((backTo p2 (starEach (b :: []) X.env)).all (fun x=>!x.1)&&(backToKw p2 (keywordEach [] X.env)).all (fun x=>x.1.isSome)
   && decide ((b :: []).length+([]:List Keyword).length+(if ([]:List Keyword).isEmpty then 0 else 1) < 30))=true:=by rfl)
  (hline:(p1.endLine==p2.line)=true:=by rfl) (hs1:starEach (b :: []) X.env=(false,eval b X.env) :: starEach [] X.env:=by rfl) (hplain:(backTo p2 (starEach [] X.env)).any (·.1)=false:=by rfl) :
  QE X (.Call (.Attribute o "join" p1) [b] [] p2) (Z.eB Z.oJoin fa fb):=⟨ZS.de_join ho.p hb.p hbase hfew hline hs1 hplain⟩
end
end ZQ
namespace ZS
open PySem PySem.Spec PyProof.Rows L2
section
variable {prog:Program} {w:World} {A:Around} {E:Value→Shared→Prop} {s:Shared}
end
section
variable {X:Cx} {e st:Expr} {te:TE} {pos p2:Pos} {fa:Z.EF}
end
end ZS
namespace ZQ
open PySem PySem.Spec PyProof.Rows L2 ZS
section
variable {X:Cx} {e:Expr} {pos p2:Pos} {fa:Z.EF}
end
end ZQ
noncomputable section
namespace Z
def sBad (_:Env):Res Fl:=.bad
@[simp] theorem sBad_a (ρ:Env):sBad ρ=.bad:=rfl
def eBad (_:Env):Res D:=.bad
@[simp] theorem eBad_a (ρ:Env):eBad ρ=.bad:=rfl
def oRepT:D→D→Res D
 | .tup [d],.int n=>guard (0≤n∧n≤1000000) (.ok (.tup (List.replicate n.toNat d)))
 | _,_=>.bad
theorem oRepT_a (d:D) (n:Int):oRepT (.tup [d]) (.int n)=guard (0≤n∧n≤1000000) (.ok (.tup (List.replicate n.toNat d))):=rfl
theorem oRepT_ok {x y d:D} (h:oRepT x y=.ok d):∃ e n,x=.tup [e]∧y=.int n∧0≤n∧n≤1000000∧d=.tup (List.replicate n.toNat e):=by
 unfold oRepT at h
 split at h
 ·obtain ⟨⟨h0,h1⟩,e⟩:=guard_ok h
  cases e
  exact ⟨_,_,rfl,rfl,h0,h1,rfl⟩
 ·cases h
def withN (f:List D→Res D) (ds:List D):Res D:=f (ds++[.non])
@[simp] theorem withN_a (f:List D→Res D) (ds:List D):withN f ds=f (ds++[.non]):=rfl
end Z
end
namespace ZS
open PySem PySem.Spec PyProof.Rows L2
theorem ds_bad {X:Cx} {H0:Hp} {st:Stmt}:DS X H0 st Z.sBad:=fun _ _ _ _ _ _ ⟨_,_,_,e,_⟩=>nomatch e
theorem de_bad {X:Cx} {e:Expr}:DE X e Z.eBad:=fun _ _ _ _ _ _ ⟨_,_,_,e,_⟩=>nomatch e
structure FunD (K:PySem.W.Frag) (x qual:Str) (st:Stmt) (f:Addr) (fd:FuncData):Prop where
 ex:∃ (oc:Value) (od:Option Addr) (dV kV doc pm:Value) (an:Option Addr) (cdv ct:Value) (osl:Array (Option Value)),
  fd=PySem.W.fnOf x qual (defArgs st) (defBody st) (defScope st) dV kV doc pm an cdv ct∧K.lookup f=some ⟨oc,od,.func fd,osl⟩∧PySem.W.codeIn K cdv qual=true
 kp:PySem.W.keepIn K (.ref f)=true
section
variable {P:Program} {w:World} {K:PySem.W.Frag} {mg:Str→Option Value} {base:Heap}
structure DefD (K:PySem.W.Frag) (mg:Str→Option Value) (x:Str) (st:Stmt) (ps:List Str):Prop where
 ex:∃ f fd,FunD K x x st f fd∧mg x=some (.ref f)∧Binds K fd ps []∧Binds K fd ps [.none]
structure CalD (P:Program) (w:World) (K:PySem.W.Frag) (mg:Str→Option Value) (base:Heap) (x:Str) (k:Nat) (ps:List Str) (m:List Z.D→Z.Res Z.D):Prop where
 ex:∃ g fd,FnOk P w K mg base CX0 k g fd ps (spZ K m)∧mg x=some (.ref g)∧PySem.W.keepIn K (.ref g)=true∧Binds K fd ps []∧Binds K fd ps [.none]
theorem CalD.full {x:Str} {k:Nat} {ps:List Str} {m:List Z.D→Z.Res Z.D} (C:CalD P w K mg base x k ps m):Cal P w K mg base x k ps m :=
 let ⟨g,fd,h1,h2,h3,h4,_⟩:=C.ex;⟨g,fd,h1,h2,h3,h4⟩
theorem defD_mk {x:Str} {st:Stmt} {ps:List Str} {f t:Addr} {oc:Value} {od an:Option Addr} {osl:Array (Option Value)} {kV doc pm cdv ct tc:Value} {td:Option Addr} {tn:Nat} {tsl:Array (Option Value)}
  (l:K.lookup f=some ⟨oc,od,.func (PySem.W.fnOf x x (defArgs st) (defBody st) (defScope st) (.ref t) kV doc pm an cdv ct),osl⟩)
  (c:PySem.W.codeIn K cdv x=true) (k:PySem.W.keepIn K (.ref f)=true) (lt:K.lookup t=some ⟨tc,td,.seq #[.none] tn,tsl⟩) (hm:mg x=some (.ref f))
  (h1:∀ us:List Value,us.length=ps.length→∃ kk:Option (Array Value)→Sem (List (Str×Value)),bindArgs (PySem.W.fnOf x x (defArgs st) (defBody st) (defScope st) (.ref t) kV doc pm an cdv ct) ⟨us,[]⟩=seqItems? (.ref t) >>= kk∧kk (some #[.none])=pure (ps.zip us))
  (h2:∀ us:List Value,us.length+1=ps.length→∃ kk:Option (Array Value)→Sem (List (Str×Value)),bindArgs (PySem.W.fnOf x x (defArgs st) (defBody st) (defScope st) (.ref t) kV doc pm an cdv ct) ⟨us,[]⟩=seqItems? (.ref t) >>= kk∧kk (some #[.none])=pure (ps.zip (us++[.none]))):DefD K mg x st ps:=by
 refine ⟨f,_,⟨⟨oc,od,.ref t,kV,doc,pm,an,cdv,ct,osl,rfl,l,c⟩,k⟩,hm,fun s us hK hl=>?_,fun s us hK hl=>?_⟩
 ·rw [List.append_nil] at hl ⊢
  obtain ⟨kk,e1,e2⟩:=h1 us hl
  exact BindsTo.of_defaults (T:=t) (items:=#[.none]) rfl (hK t _ lt) rfl e1 e2
 ·obtain ⟨kk,e1,e2⟩:=h2 us (by simpa using hl)
  exact BindsTo.of_defaults (T:=t) (items:=#[.none]) rfl (hK t _ lt) rfl e1 e2
end
section
variable {X:Cx} {e:Expr} {es:List Expr} {pos:Pos}
end
end ZS
namespace ZQ
open PySem PySem.Spec PyProof.Rows L2 ZS
section
variable {X:Cx} {e:Expr} {es:List Expr} {pos:Pos} {H0:Hp} {st:Stmt} {sts:List Stmt}
theorem ds_bad:QS X H0 st Z.sBad:=⟨ZS.ds_bad⟩
theorem de_bad:QE X e Z.eBad:=⟨ZS.de_bad⟩
end
end ZQ
namespace PySem
open Sem (wp)
open Builtin
theorem noFill_tuple_mul:fillsNumberSlot (.type "tuple") "mul" = pure false :=
 fillsNumberSlot_seq (id := "tuple.__mul__") (r:=some (.builtin "tuple.__rmul__")) F.slot_tuple_mul.lookup (by decide +kernel) F.slot_tuple_rmul.lookup (by decide +kernel)
theorem repeat_tuple:seqRepeat? (.type "tuple")=pure (some (.builtin "tuple.__mul__")):=by
 unfold seqRepeat?
 rw [seqSlot_of (T := "tuple") (name := "__mul__") (id := "tuple.__mul__") F.slot_tuple_mul.lookup (by decide +kernel),seqSlot_of (T := "tuple") (name := "__rmul__") (id := "tuple.__rmul__") F.slot_tuple_rmul.lookup (by decide +kernel)]
 rfl
theorem int___rmul___int_tuple (a:Int) (t:Tok) (l:Addr) (items:Array Value) (n:Nat) (dd:Option Addr) (sl:Array (Option Value)) :
  Meets (Builtin.«int.__rmul__» ⟨[.int a t,.ref l],[]⟩) (fun _ R s=>s.heap.get? l=some { cls:=.type "tuple",dict:=dd,data:=.seq items n,slots:=sl }∧R (.ok (.ret Value.notImplemented)) s) :=
 .of_wp fun prog w A R s h=>by obtain ⟨hp,g,d,tk,os⟩:=s;obtain ⟨hl,h⟩:=h;wp_walk;exact ⟨_,rfl,h⟩
theorem tuple___mul___0 (a:Int) (t:Tok) (l:Addr) (x:Value) (n:Nat) (dd:Option Addr) (sl:Array (Option Value)) (h0:a=0) :
  Meets (Builtin.«tuple.__mul__» ⟨[.ref l,.int a t],[]⟩) (fun _ R s=>s.heap.get? l=some { cls:=.type "tuple",dict:=dd,data:=.seq #[x] n,slots:=sl }∧R (.ok (.ret (.ref s.heap.objs.size))) { s with heap:=s.heap.push { cls:=.type "tuple",data:=.seq #[] } }) :=
 .of_wp fun prog w A R s h=>by
  obtain ⟨hp,g,d,tk,os⟩:=s;obtain ⟨hl,h⟩:=h;subst h0
  wp_walk
  exact ⟨_,rfl,h⟩
theorem tuple___mul___1 (a:Int) (t:Tok) (l:Addr) (x:Value) (n:Nat) (dd:Option Addr) (sl:Array (Option Value)) (h0:a=1) :
  Meets (Builtin.«tuple.__mul__» ⟨[.ref l,.int a t],[]⟩) (fun _ R s=>s.heap.get? l=some { cls:=.type "tuple",dict:=dd,data:=.seq #[x] n,slots:=sl }∧R (.ok (.ret (.ref l))) s) :=
 .of_wp fun prog w A R s h=>by
  obtain ⟨hp,g,d,tk,os⟩:=s;obtain ⟨hl,h⟩:=h;subst h0
  wp_walk
  exact ⟨_,rfl,h⟩
theorem tuple___mul___2 (a:Int) (t:Tok) (l:Addr) (x:Value) (n:Nat) (dd:Option Addr) (sl:Array (Option Value)) (h1:¬ (decide (a < -(2 ^ 63)) || decide (a≥2 ^ 63))=true) (h2:¬ ((#[x]:Array Value).isEmpty || a==1)=true) (h3:¬ (decide (a≤0) || (#[x]:Array Value).isEmpty)=true) (h4:¬ ((#[x]:Array Value).size:Int)*a > (2 ^ 63-1) / 8) (h5:¬ Tuple.tupleTooMany (((#[x]:Array Value).size:Int)*a)=true) (h6:((List.replicate a.toNat #[x]).foldl (·++·) #[]).size≤sizeLine) :
  Meets (Builtin.«tuple.__mul__» ⟨[.ref l,.int a t],[]⟩) (fun _ R s=>s.heap.get? l=some { cls:=.type "tuple",dict:=dd,data:=.seq #[x] n,slots:=sl }∧R (.ok (.ret (.ref s.heap.objs.size))) { s with heap:=s.heap.push { cls:=.type "tuple",data:=.seq ((List.replicate a.toNat #[x]).foldl (·++·) #[]) } }) :=
 .of_wp fun prog w A R s h=>by
  obtain ⟨hp,g,d,tk,os⟩:=s;obtain ⟨hl,h⟩:=h
  wp_walk
  refine wpAny_ite_false (by simpa using h1) ?_
  wp_walk
  refine wpAny_ite_false (by simpa using h2) ?_
  wp_walk
  refine wpAny_ite_false (by simpa using h3) ?_
  wp_walk
  refine wpAny_ite_false (decide_eq_false h4) ?_
  wp_walk
  refine wpAny_ite_false (by simpa using h5) ?_
  wp_walk
  exact ⟨_,rfl,h⟩
end PySem
namespace ZS
open PySem PySem.Spec PyProof.Rows L2
section
variable {X:Cx} {a b:Expr} {pos:Pos} {fa fb:Z.EF}
def rRepT (K:PySem.W.Frag):R2:=fun x y H Q=>∃ l k w,x=.ref l∧y=.int k∧SqT K H l [w]∧0≤k∧k≤1000000∧(k=1→Q (.ref l) H)∧(k≠1→∀ p,H p=none→Q (.ref p) (upd H p (.tup (List.replicate k.toNat w))))
theorem foldl_one (v:Value):∀ (k:Nat) (acc:Array Value),List.foldl (fun x1 x2=>x1++x2) acc (List.replicate k #[v])=acc++(List.replicate k v).toArray
 | 0,acc=>by simp
 | k+1,acc=>by
  rw [List.replicate_succ,List.foldl_cons,foldl_one v k,List.replicate_succ]
  apply Array.toList_inj.mp
  simp
theorem vals_repl {w:V} {u:Value} (r:RelV w u):∀ k:Nat,Vals (List.replicate k w) (List.replicate k u)
 | 0=>.nil
 | k+1=>.cons r (vals_repl r k)
theorem op_repT : OpR X (binaryOp .Mult) (rRepT X.K) := by
 intro pins s σ H x y v u Q I rx ry h
 obtain ⟨l,k,w,rfl,rfl,hq,h0,h1,q1,q2⟩:=h
 cases rx
 obtain ⟨t,rfl⟩:=ry
 obtain ⟨its,r,ht,hz⟩:=I.tuple hq
 obtain ⟨x,rfl,rx⟩:=vals1 r
 obtain ⟨⟨cls,dd,data,sl⟩,ho,hc,n,hd⟩:=id ht
 simp only at hc hd
 subst hc hd
 have e:s.heap.get? l=some { cls:=.type "tuple",dict:=dd,data:=.seq #[x] n,slots:=sl }:=ho
 refine wpAny_binaryOp_repeat_ref (T := "tuple") (U := "int") (by decide) ⟨_,e,rfl⟩ (fun s'=>typeIs_int s' k t) noFill_tuple_mul F.fills_int_mul F.slot_int_rmul repeat_tuple F.slot_int_index.lookup
  (call_meets F.slot_int_rmul (typeIs_int s k t) F.entry_int_rmul (F.args_int_rmul_2 _ _) (int___rmul___int_tuple k t l #[x] n dd sl) ⟨e,rfl,⟨_,e,rfl⟩,?_⟩)
 by_cases hk1:k=1
 ·exact call_meets F.slot_tuple_mul ⟨_,e,rfl⟩ F.entry_tuple_mul (F.args_tuple_mul_2 _ _) (tuple___mul___1 k t l x n dd sl hk1) ⟨e,⟨.ref l,H,I,rfl,q1 hk1⟩⟩
 ·by_cases hk0:k=0
  ·refine call_meets F.slot_tuple_mul ⟨_,e,rfl⟩ F.entry_tuple_mul (F.args_tuple_mul_2 _ _) (tuple___mul___0 k t l x n dd sl hk0) ⟨e,?_⟩
   have q:=q2 hk1 _ (I.hok.fresh (Nat.le_refl s.heap.objs.size))
   rw [hk0] at q
   refine ⟨.ref _,_,I.laid (t':=s.toks) (o:=.tup []) (fun b ob z=>Heap.get?_push_of_some _ z) (Nat.le_refl _) ?_,rfl,q⟩
   exact ⟨Nat.zero_le _,[],.nil,IsTup.new _ _⟩
  ·have hk2:2≤k:=by lia
   have hf:=foldl_one x k.toNat #[]
   rw [Array.empty_append] at hf
   have hs:(1000000:Nat)≤sizeLine:=by decide
   refine call_meets F.slot_tuple_mul ⟨_,e,rfl⟩ F.entry_tuple_mul (F.args_tuple_mul_2 _ _) (tuple___mul___2 k t l x n dd sl ?_ ?_ ?_ ?_ ?_ ?_) ⟨e,?_⟩
   ·simp;lia
   ·simp;lia
   ·simp;lia
   ·show ¬ ((1:Nat):Int)*k > (2 ^ 63-1) / 8
    lia
   ·show ¬ (decide (((1:Nat):Int)*k > (sizeLine:Int)))=true
    rw [decide_eq_true_eq]
    have:((1000000:Nat):Int)≤(sizeLine:Int):=Int.ofNat_le.mpr hs
    generalize (sizeLine:Int)=z at this ⊢
    lia
   ·rw [hf,List.size_toArray,List.length_replicate];lia
   ·rw [hf]
    refine ⟨.ref _,_,I.laid (t':=s.toks) (o:=.tup (List.replicate k.toNat w)) (fun b ob z=>Heap.get?_push_of_some _ z) (Nat.le_refl _) ?_,rfl,q2 hk1 _ (I.hok.fresh (Nat.le_refl _))⟩
    exact ⟨by rw [List.length_replicate];lia,_,vals_repl rx k.toNat,IsTup.new _ _⟩
theorem de_repT (ha:DW X a fa) (hb:DW X b fb):DE X (.BinOp a .Mult b pos) (Z.eB Z.oRepT fa fb):=PE.imp (pe_op op_repT ha hb) fun σ H Q ⟨ρ,d,r,e,k⟩=>by
 obtain ⟨x,ea,e⟩:=Z.Res.bind_ok e
 obtain ⟨y,eb,e⟩:=Z.Res.bind_ok e
 obtain ⟨d0,n,rfl,rfl,h0,h1,rfl⟩:=Z.oRepT_ok e
 refine ⟨ρ,_,r,ea,fun v H1 s1 d1=>⟨ρ,_,r.up s1,eb,fun u H2 s2 d2=>?_⟩⟩
 obtain ⟨q,vs,rfl,hq,t⟩:=d1.tup
 simp only [Dens] at t
 obtain ⟨w,r',rfl,dw,rfl⟩:=t
 refine ⟨q,n,w,rfl,d2.int,?_,h0,h1,fun hn=>?_,fun hn p hp=>?_⟩
 ·exact sqT_mono (stb s2) hq
 ·subst hn
  exact k _ H2 (s1.trans s2) (den_tup (sqT_mono (stb s2) hq) (Dens.cons (dw.up s2) Dens.nil))
 ·have s3:Same H2 (upd H2 p (.tup (List.replicate n.toNat w))):=upd_Same hp
  exact k _ _ ((s1.trans s2).trans s3) (den_tup (SqT.of upd_same) (dens_rep ((dw.up s2).up s3) _))
end
end ZS
namespace ZQ
open PySem PySem.Spec PyProof.Rows L2 ZS
section
variable {X:Cx} {a b:Expr} {pos:Pos} {fa fb:Z.EF}
theorem de_repT (ha:QW X a fa) (hb:QW X b fb):QE X (.BinOp a .Mult b pos) (Z.eB Z.oRepT fa fb):=⟨ZS.de_repT ha.p hb.p⟩
end
end ZQ
noncomputable section
namespace Z
def cutC (c:Nat):List Nat→List (List Nat)
 | []=>[[]]
 | x :: r=>if x=c then [] :: cutC c r else match cutC c r with
  | []=>[[x]]
  | p :: ps=>(x :: p) :: ps
def splK:D→D→Res (List D)
 | .str cs,.str [c]=>guard (cs.length+2≤line) (.ok ((cutC c cs).map .str))
 | _,_=>.bad
def lSplit (a b:EF) (ρ:Env):Res (List D):=(a ρ).bind fun x=>(b ρ).bind fun y=>splK x y
def oJoinT:D→D→Res D
 | .str sep,.tup xs=>oJoin (.str sep) (.lst xs)
 | _,_=>.bad
theorem oJoinT_ok {x y d:D} (h:oJoinT x y=.ok d):∃ sep xs ts,x=.str sep∧y=.tup xs∧textsD xs=some ts∧(ts.map List.length).sum+ts.length*sep.length≤16777216∧d=.str (gluedC sep ts):=by
 unfold oJoinT at h
 split at h
 ·obtain ⟨sep,xs,ts,e1,e2,h1,h2,h3⟩:=oJoin_ok h
  cases e1;cases e2
  exact ⟨_,_,ts,rfl,rfl,h1,h2,h3⟩
 ·cases h
def tlD:D→D→Res (List D)
 | .tup xs,.lst ys=>.ok (zipD xs ys)
 | _,_=>.bad
def iZipL (a b:EF) (ρ:Env):Res (List D):=(a ρ).bind fun x=>(b ρ).bind fun y=>tlD x y
@[simp] theorem iZipL_a (a b:EF) (ρ:Env):iZipL a b ρ=(a ρ).bind fun x=>(b ρ).bind fun y=>tlD x y:=rfl
@[simp] theorem tlD_a (xs ys:List D):tlD (.tup xs) (.lst ys)=.ok (zipD xs ys):=rfl
@[simp] theorem lSplit_a (a b:EF) (ρ:Env):lSplit a b ρ=(a ρ).bind fun x=>(b ρ).bind fun y=>splK x y:=rfl
end Z
end
namespace ZS
open PySem PySem.Spec PyProof.Rows L2
section
variable {prog:Program} {w:World} {A:Around} {E:Value→Shared→Prop} {s:Shared} {x y:Str} {t u:Tok} {Q:Value→Shared→Prop}
end
section
variable {X:Cx} {o a b:Expr} {pos p p2:Pos} {fa fb:Z.EF} {elts:List Expr} {x1:Nat}
def rJoinT (K:PySem.W.Frag):V→List V→Hp→VK→Prop:=fun x vs H Q=>∃ sep q ts,x=.str sep∧vs=[.ref q]∧SqT K H q (ts.map V.str)∧JoinOk sep ts=true∧Q (.str (Txt.join sep ts)) H
theorem mt_joinT:MtR X "str.join" (rJoinT X.K):=by
 intro pins s σ H x vs v us Q I rx rv h
 obtain ⟨sep,q,ts,rfl,rfl,hq,hok,k⟩:=h
 obtain ⟨t,rfl⟩:=rx
 obtain ⟨u,rfl,ru⟩:=rv.one
 cases ru
 obtain ⟨its,r,pl,hz⟩:=I.tuple hq
 obtain ⟨l,rfl,hl⟩:=vals_str r
 subst hl
 unfold JoinOk at hok
 rw [Bool.not_eq_true'] at hok
 obtain ⟨o,ho,hc,n,hd⟩:=pl
 exact call_meets F.slot_str_join (typeIs_str _ _ _) F.entry_str_join (F.args_str_join_2 _ _) (meets_str_join_tuple sep t q l hok) ⟨⟨o,n,ho,hc,hd⟩,post_join l ⟨joinFit_length hok,fun t' c=>⟨.str (Txt.join sep (l.map (·.1))),H,I.tok c,⟨t',rfl⟩,k⟩⟩⟩
theorem de_joinT {p1:Pos} (ho:DE X o fa) (hb:DW X b fb)
  (hbase:attributeBase o "join" X.env (eval o X.env)=eval o X.env:=by rfl)
  (hfew:((backTo p2 (starEach (b :: []) X.env)).all (fun x=>!x.1)&&(backToKw p2 (keywordEach [] X.env)).all (fun x=>x.1.isSome)
   && decide ((b :: []).length+([]:List Keyword).length+(if ([]:List Keyword).isEmpty then 0 else 1) < 30))=true:=by rfl)
  (hline:(p1.endLine==p2.line)=true:=by rfl) (hs1:starEach (b :: []) X.env=(false,eval b X.env) :: starEach [] X.env:=by rfl) (hplain:(backTo p2 (starEach [] X.env)).any (·.1)=false:=by rfl) :
  DE X (.Call (.Attribute o "join" p1) [b] [] p2) (Z.eB Z.oJoinT fa fb) :=
 PE.imp (pe_bm PySem.F.plainAttrs_str PySem.F.slot_str_join PySem.F.type_str_join mt_joinT ho (pa_cons hb pa_nil hs1) hbase hfew hline hs1 hplain) fun σ H Q ⟨ρ,d,r,e,k⟩=>by
  obtain ⟨x,ea,e⟩:=Z.Res.bind_ok e
  obtain ⟨y,eb,e⟩:=Z.Res.bind_ok e
  obtain ⟨sep,xs,ts,rfl,rfl,et,hl,rfl⟩:=Z.oJoinT_ok e
  refine ⟨ρ,_,r,ea,fun v H1 s1 d1=>?_⟩
  simp only [Den] at d1
  subst d1
  refine ⟨rfl,ρ,_,r.up s1,eb,fun u H2 s2 d2=>?_⟩
  obtain ⟨q,vs,rfl,hq,t⟩:=d2.tup
  rw [dens_texts et t] at hq
  refine ⟨mkS sep,q,ts.map mkS,rfl,rfl,hq,join_ok hl,?_⟩
  rw [join_mk]
  exact k _ H2 (s1.trans s2) den_str
end
end ZS
namespace ZQ
open PySem PySem.Spec PyProof.Rows L2 ZS
section
variable {X:Cx} {o a b:Expr} {pos p p2:Pos} {fa fb:Z.EF} {elts:List Expr} {x1:Nat}
theorem de_joinT {p1:Pos} (ho:QE X o fa) (hb:QW X b fb)
  (hbase:attributeBase o "join" X.env (eval o X.env)=eval o X.env:=by rfl)
  (hfew:((backTo p2 (starEach (b :: []) X.env)).all (fun x=>!x.1)&&(backToKw p2 (keywordEach [] X.env)).all (fun x=>x.1.isSome)
   && decide ((b :: []).length+([]:List Keyword).length+(if ([]:List Keyword).isEmpty then 0 else 1) < 30))=true:=by rfl)
  (hline:(p1.endLine==p2.line)=true:=by rfl) (hs1:starEach (b :: []) X.env=(false,eval b X.env) :: starEach [] X.env:=by rfl) (hplain:(backTo p2 (starEach [] X.env)).any (·.1)=false:=by rfl) :
  QE X (.Call (.Attribute o "join" p1) [b] [] p2) (Z.eB Z.oJoinT fa fb):=⟨ZS.de_joinT ho.p hb.p hbase hfew hline hs1 hplain⟩
end
end ZQ
noncomputable section
namespace Z
def signsD (cs:List Nat):List D:=cs.map fun c=>.str [c]
def lsK:D→Res (List D)
 | .str cs=>guard (cs.length≤line) (.ok (signsD cs))
 | _=>.bad
def lOfS (a:EF) (ρ:Env):Res (List D):=(a ρ).bind lsK
@[simp] theorem lOfS_a (a:EF) (ρ:Env):lOfS a ρ=(a ρ).bind lsK:=rfl
@[simp] theorem lsK_a (cs:List Nat):lsK (.str cs)=guard (cs.length≤line) (.ok (signsD cs)):=rfl
def oTupS (x:D):Res D:=(lsK x).map D.tup
@[simp] theorem oTupS_a (cs:List Nat):oTupS (.str cs)=guard (cs.length≤line) (.ok (.tup (signsD cs))):=by
 unfold oTupS
 rw [lsK_a]
 unfold guard
 split<;>rfl
end Z
end
namespace ZS
open PySem PySem.Spec PyProof.Rows L2
section
variable {prog:Program} {w:World} {A:Around} {E:Value→Shared→Prop} {s:Shared} {R:Result→Shared→Prop} {x:Str} {t:Tok}
end
section
variable {X:Cx} {a b e:Expr} {pos p2:Pos} {fa fb:Z.EF}
theorem dk_emptyZ {P:Program} {w:World} {H:Hp} (h:Heap) (hb:sysModules < h.objs.size):ObjOk P w H (h.push { cls:=.type "dict",data:=.dict #[] }) h.objs.size (.dK []) :=
 ⟨Nat.zero_le _,beq_eq_false_iff_ne.mpr (Ne.symm (Nat.ne_of_lt hb)),[],.nil,Heap.DictOf.new h⟩
theorem inv_frzD {pins : List (Addr × Obj)} {σ : St} {H : Hp} {s : Shared} {p : Addr} {xs : List (Key × V)} (I : Inv X pins σ H s) (h : H p = some (.dK xs)) : ∃ o, Inv X pins σ (upd H p (.frz o (.dK xs))) s := by
 have hk:=I.hok p _ h
 obtain ⟨z,y,vs,r,hd⟩:=id hk
 obtain ⟨o,ho⟩:∃ o,s.heap.get? p=some o:=by
  obtain ⟨o,es,ep,ho,_⟩:=hd
  exact ⟨o,ho⟩
 refine ⟨o,I.un (H':=upd H p (.frz o (.dK xs))) (h':=s.heap) (t':=s.toks) ?_ ?_⟩
 ·have ne:∀ b,H b=none→b≠p:=fun b e q=>by rw [q,h] at e;cases e
  refine ⟨fun b o q _ _ _=>q,fun b o q _ _ _=>⟨o.slots,q⟩,fun b o q e _=>by rw [upd_ne (ne b e)];exact e,fun b o q _=>⟨o,q⟩,fun b ys e=>?_,fun b o u e=>?_,fun b u pr e=>?_⟩
  ·have:b≠p:=by rintro rfl;rw [h] at e;cases e
   rw [upd_ne this];exact e
  ·have:b≠p:=by rintro rfl;rw [h] at e;cases e
   rw [upd_ne this];exact e
  ·have:b≠p:=by rintro rfl;rw [h] at e;cases e;exact pr
   rw [upd_ne this];exact e
 ·intro b u e
  by_cases hb:b=p
  ·subst hb
   rw [upd_same] at e;cases e
   exact ⟨ho,z,y,vs,r,hd⟩
  ·rw [upd_ne hb] at e
   refine (I.hok b u e).stay (fun c w _ q=>q) (fun c q=>?_) (fun c ys q=>?_) fun c v pr q=>?_
   ·have:c≠p:=by rintro rfl;rw [h] at q;cases q
    rw [upd_ne this];exact q
   ·have:c≠p:=by rintro rfl;rw [h] at q;cases q
    rw [upd_ne this];exact q
   ·have:c≠p:=by rintro rfl;rw [h] at q;cases q;exact pr
    rw [upd_ne this];exact q
theorem inv_big {pins:List (Addr×Obj)} {σ:St} {H:Hp} {s:Shared} (I:Inv X pins σ H s):sysModules < s.heap.objs.size:=by
 have h:mainGlobals < s.heap.objs.size:=(I.mod.glob.keeps I.bk).lt
 exact Nat.lt_trans (by decide) h
theorem de_dct0:DE X (.Dict [] [] pos) (Z.eC (.dct [] [])):=by
 intro pins s σ H Q I w
 obtain ⟨ρ,d,r,e,k⟩:=w
 cases e
 refine wpAny_Dict_empty ?_
 have I1:Inv X pins σ (upd H s.heap.objs.size (.dK [])) { s with heap:=s.heap.push { cls:=.type "dict",data:=.dict #[] },toks:=s.toks } :=
  I.laid (a:=s.heap.objs.size) (o:=.dK []) (t':=s.toks) (fun _ _ q=>Heap.get?_push_of_some _ q) (Nat.le_refl _) (dk_emptyZ s.heap (inv_big I))
 obtain ⟨o,I2⟩:=inv_frzD I1 upd_same
 have hn:H s.heap.objs.size=none:=I.hok.fresh (Nat.le_refl _)
 refine ⟨.ref s.heap.objs.size,_,I2,rfl,k _ _ (fun b u e=>?_) ?_⟩
 ·have:b≠s.heap.objs.size:=by rintro rfl;rw [hn] at e;cases e
  rw [upd_ne this,upd_ne this];exact e
 ·simp only [Den]
  exact ⟨_,o,[],rfl,upd_same,rfl,Dens.nil,fun _ _ z=>nomatch z⟩
end
end ZS
namespace ZQ
open PySem PySem.Spec PyProof.Rows L2 ZS
section
variable {X:Cx} {a b e:Expr} {pos p2:Pos} {fa fb:Z.EF}
theorem de_dct0:QE X (.Dict [] [] pos) (Z.eC (.dct [] [])):=⟨ZS.de_dct0⟩
end
end ZQ
namespace PySem
namespace F
end F
namespace F
end F
def Heap.IsRvd (h:Heap) (a t:Addr) (i:Int):Prop:=∃ o,h.get? a=some o∧o.cls=.type "reversed" ∧ o.data=.fields #[.ref t,rawInt i]
theorem Heap.IsRvd.typeIs {s:Shared} {a l:Addr} {i:Int} (x:s.heap.IsRvd a l i):s.TypeIs (.ref a) "reversed" := let ⟨o,ho,hc,_⟩:=x;⟨o,ho,hc⟩
theorem Heap.IsRvd.at {h h':Heap} {a l:Addr} {i:Int} (x:h.IsRvd a l i) (e:∀ o,h.get? a=some o→h'.get? a=some o):h'.IsRvd a l i:=let ⟨o,ho,r⟩:=x;⟨o,e _ ho,r⟩
section
variable {prog:Program} {w:World} {A:Around} {E:Value→Shared→Prop} {s:Shared}
end
end PySem
noncomputable section
namespace Z
def rvK:D→Res (List D)
 | .tup xs=>.ok xs.reverse
 | .lst xs=>.ok xs.reverse
 | _=>.bad
def lRevd (a:EF) (ρ:Env):Res (List D):=(a ρ).bind rvK
@[simp] theorem lRevd_a (a:EF) (ρ:Env):lRevd a ρ=(a ρ).bind rvK:=rfl
@[simp] theorem rvK_tup (xs:List D):rvK (.tup xs)=.ok xs.reverse:=rfl
@[simp] theorem rvK_lst (xs:List D):rvK (.lst xs)=.ok xs.reverse:=rfl
end Z
end
namespace PySem
section
variable {prog:Program} {w:World} {A:Around} {s:Shared} {R:Result→Shared→Prop}
variable {I:Addr} {fp wr:List Addr} {G:Array GenState→Array GenState→Prop} {n:Nat} {P:Nat→Value→Prop} {St:Nat→Shared→Prop}
end
section
variable {prog:Program} {w:World} {A:Around} {E:Value→Shared→Prop} {s:Shared} {I t:Addr} {items:Array Value} {Q:Value→Shared→Prop}
end
end PySem
namespace ZS
open PySem PySem.Spec PyProof.Rows L2
section
variable {X:Cx} {a:Expr} {pos p p1 p2:Pos} {fa:Z.EF}
end
end ZS
namespace ZQ
open PySem PySem.Spec PyProof.Rows L2 ZS
section
variable {X:Cx} {a:Expr} {pos p p1 p2:Pos} {fa:Z.EF}
end
end ZQ
noncomputable section
namespace Z
def zbK (x:D):Option (Option L)→Res (List D)
 | some (some (.bor (.lst ys)))=>match x with
  | .tup xs=>.ok (zipD xs ys)
  | _=>.bad
 | some (some (.val (.tup ys)))=>match x with
  | .tup xs=>.ok (zipD xs ys)
  | _=>.bad
 | _=>.bad
def iZipB (a:EF) (i:Nat) (ρ:Env):Res (List D):=(a ρ).bind fun x=>zbK x ρ[i]?
@[simp] theorem iZipB_a (a:EF) (i:Nat) (ρ:Env):iZipB a i ρ=(a ρ).bind fun x=>zbK x ρ[i]?:=rfl
@[simp] theorem zbK_bor (xs ys:List D):zbK (.tup xs) (some (some (.bor (.lst ys))))=.ok (zipD xs ys):=rfl
@[simp] theorem zbK_tup (xs ys:List D):zbK (.tup xs) (some (some (.val (.tup ys))))=.ok (zipD xs ys):=rfl
end Z
end
namespace ZS
open PySem PySem.Spec PyProof.Rows L2
theorem bd1 {fd:FuncData} {ps:List Str} (h:∀ a0:Value,bindArgs fd ⟨[a0],[]⟩=pure (ps.zip [a0])):∀ us:List Value,us.length=1→bindArgs fd ⟨us,[]⟩=pure (ps.zip us)
 | [a0],_=>h a0
theorem bd2 {fd:FuncData} {ps:List Str} (h:∀ a0 a1:Value,bindArgs fd ⟨[a0,a1],[]⟩=pure (ps.zip [a0,a1])):∀ us:List Value,us.length=2→bindArgs fd ⟨us,[]⟩=pure (ps.zip us)
 | [a0,a1],_=>h a0 a1
theorem bd3 {fd:FuncData} {ps:List Str} (h:∀ a0 a1 a2:Value,bindArgs fd ⟨[a0,a1,a2],[]⟩=pure (ps.zip [a0,a1,a2])):∀ us:List Value,us.length=3→bindArgs fd ⟨us,[]⟩=pure (ps.zip us)
 | [a0,a1,a2],_=>h a0 a1 a2
def StbK (H0 H1:Hp):Hp→Prop:=fun H2=>Stb H1 H2∧Same H0 H2
def tZk (K:PySem.W.Frag) (H0:Hp) (f:Z.LF):TI:=fun σ H R=>∃ ρ ds,RS K H0 H σ ρ∧f ρ=.ok ds∧∀ J H',Same H H'→ItZ K J (StbK H0 H') ds→R J H'
abbrev DK (X:Cx) (H0:Hp) (tg e:Expr) (f:Z.LF):Prop:=PI X tg e (tZk X.K H0 f)
theorem Gives.imp {K:PySem.W.Frag} {J:Inn} {S S':Hp→Prop} {ds:List Z.D} (h:Gives K J S ds) (k:∀ H,S' H→S H):Gives K J S' ds :=
 ⟨fun i d H1 s=>h.at_ i d H1 (k _ s),fun H1 s=>h.end_ H1 (k _ s)⟩
section
variable {X:Cx} {H0:Hp} {tg a b:Expr} {pos p p2:Pos} {fa:Z.EF} {elts:List Expr} {x1:Nat} {g:Z.SF}
end
end ZS
namespace ZQ
open PySem PySem.Spec PyProof.Rows L2 ZS
structure QK (X:Cx) (H0:Hp) (tg e:Expr) (f:Z.LF):Prop where p:DK X H0 tg e f
section
variable {X:Cx} {H0:Hp} {tg a b:Expr} {pos p p2:Pos} {fa:Z.EF} {elts:List Expr} {x1:Nat} {g:Z.SF}
end
end ZQ
noncomputable section
namespace Z
def intsOf:List D→Option (List Int)
 | []=>some []
 | d :: r=>match d,intsOf r with
  | .int i,some is=>some (i :: is)
  | _,_=>none
def keyOf:D→Option (List Int)
 | .tup ds=>intsOf ds
 | _=>none
def putD (ks:List (List Int)) (k:List Int):List (List Int):=if k∈ks then ks else ks++[k]
def sDic (i:Nat) (ρ:Env):Res Fl:=.ok (.nx (ρ.set i (some (.dic []))))
def dputK (i:Nat) (ρ:Env) (k:Option (List Int)) (o:Option (Option L)):Res Fl:=match k,o with
 | some k,some (some (.dc (.inl ks)))=>guard (ks.length < line) (.ok (.nx (ρ.set i (some (.dic (putD ks k))))))
 | _,_=>.bad
def sDPut (i:Nat) (e:EF) (ρ:Env):Res Fl:=(e ρ).bind fun d=>dputK i ρ (keyOf d) ρ[i]?
def dfrzK (i:Nat) (ρ:Env) (o:Option (Option L)):Env:=match o with
 | some (some (.dc (.inl ks)))=>ρ.set i (some (.fdc ks))
 | _=>ρ
def sDFrz (i:Nat) (a:SF) (ρ:Env):Res Fl:=a (dfrzK i ρ ρ[i]?)
def dinK (k:Option (List Int)) (o:Option (Option L)):Res Bool:=match k,o with
 | some k,some (some (.fdc ks))=>.ok (decide (k∈ks))
 | _,_=>.bad
def tInD (e:EF) (i:Nat) (ρ:Env):Res Bool:=(e ρ).bind fun d=>dinK (keyOf d) ρ[i]?
def tNinD (e:EF) (i:Nat) (ρ:Env):Res Bool:=(e ρ).bind fun d=>(dinK (keyOf d) ρ[i]?).bind fun b=>.ok (!b)
@[simp] theorem sDic_a (i:Nat) (ρ:Env):sDic i ρ=.ok (.nx (ρ.set i (some (.dic [])))):=rfl
@[simp] theorem sDPut_a (i:Nat) (e:EF) (ρ:Env):sDPut i e ρ=(e ρ).bind fun d=>dputK i ρ (keyOf d) ρ[i]?:=rfl
@[simp] theorem dputK_a (i:Nat) (ρ:Env) (k:List Int) (ks:List (List Int)):dputK i ρ (some k) (some (some (.dic ks)))=guard (ks.length < line) (.ok (.nx (ρ.set i (some (.dic (putD ks k)))))):=rfl
@[simp] theorem sDFrz_a (i:Nat) (a:SF) (ρ:Env):sDFrz i a ρ=a (dfrzK i ρ ρ[i]?):=rfl
@[simp] theorem dfrzK_a (i:Nat) (ρ:Env) (ks:List (List Int)):dfrzK i ρ (some (some (.dic ks)))=ρ.set i (some (.fdc ks)):=rfl
@[simp] theorem tInD_a (e:EF) (i:Nat) (ρ:Env):tInD e i ρ=(e ρ).bind fun d=>dinK (keyOf d) ρ[i]?:=rfl
@[simp] theorem tNinD_a (e:EF) (i:Nat) (ρ:Env):tNinD e i ρ=(e ρ).bind fun d=>(dinK (keyOf d) ρ[i]?).bind fun b=>.ok (!b):=rfl
@[simp] theorem dinK_a (k:List Int) (ks:List (List Int)):dinK (some k) (some (some (.fdc ks)))=.ok (decide (k∈ks)):=rfl
def lstK:D→Res (List D)
 | .lst xs=>.ok xs
 | _=>.bad
def lVal (a:EF) (ρ:Env):Res (List D):=(a ρ).bind lstK
@[simp] theorem lVal_a (a:EF) (ρ:Env):lVal a ρ=(a ρ).bind lstK:=rfl
@[simp] theorem lstK_a (xs:List D):lstK (.lst xs)=.ok xs:=rfl
end Z
namespace ZS
open PySem PySem.Spec PyProof.Rows L2
section
variable {X:Cx} {pins:List (Addr×Obj)} {σ:St} {H:Hp} {s:Shared}
theorem items_int {P:Program} {w:World}:∀ {k:List Int} {its:List Value},Vals (k.map V.int) its→PySem.ItemsAre (intKind P w) k its
 | [],_,.nil=>.nil
 | i :: k,_,.cons r t=>.cons (by obtain ⟨t,rfl⟩:=r;simp [intKind,Value.isInt]) (items_int t)
theorem DicAt.mono {a:Addr} {ks:List (List Int)} {as:List Addr} {h1 h2:Heap} (h:DicAt a ks as h1) (k:∀ o,h1.get? a=some o→h2.get? a=some o):DicAt a ks as h2:=by
 obtain ⟨z,hd,xs,o,es,ep,e1,e2,e3,e4⟩:=h
 exact ⟨z,hd,xs,o,es,ep,e1,e2,k _ e3,e4⟩
end
section
variable {X:Cx} {a:Expr} {pos:Pos} {H0:Hp} {sts:List Stmt} {g:Z.SF} {fa:Z.EF}
end
end ZS
namespace ZQ
open PySem PySem.Spec PyProof.Rows L2 ZS
section
variable {X:Cx} {a:Expr} {pos:Pos} {H0:Hp} {sts:List Stmt} {g:Z.SF} {fa:Z.EF}
end
end ZQ
namespace ZS
open PySem PySem.Spec PyProof.Rows L2
section
variable {X:Cx} {a:Expr} {pos:Pos} {fa:Z.EF}
end
end ZS
namespace ZQ
open PySem PySem.Spec PyProof.Rows L2 ZS
section
variable {X:Cx} {a:Expr} {pos:Pos} {fa:Z.EF} {H0:Hp}
end
end ZQ
noncomputable section
namespace Z
def popK (i j:Nat) (ρ:Env) (d:D) (o:Option (Option L)):Res Fl:=match d,o with
 | .int k,some (some (.own xs))=>guard (0≤k∧xs.length≤line) (match xs[k.toNat]? with
  | some y=>.ok (.nx ((ρ.set j (some (.own (xs.eraseIdx k.toNat)))).set i (some (.val y))))
  | none=>.bad)
 | _,_=>.bad
def sPop (i j:Nat) (e:EF) (ρ:Env):Res Fl:=(e ρ).bind fun d=>popK i j ρ d ρ[j]?
@[simp] theorem sPop_a (i j:Nat) (e:EF) (ρ:Env):sPop i j e ρ=(e ρ).bind fun d=>popK i j ρ d ρ[j]?:=rfl
end Z
namespace ZS
open PySem PySem.Spec PyProof.Rows L2
section
variable {X:Cx} {H0:Hp} {pos:Pos}
end
end ZS
namespace ZQ
open PySem PySem.Spec PyProof.Rows L2 ZS
section
variable {X:Cx} {H0:Hp} {pos:Pos}
end
end ZQ
noncomputable section
namespace Z
def oAddI:D→D→Res D
 | .int a,.int b=>.ok (.int (a+b))
 | _,_=>.bad
@[simp] theorem oAddI_int (a b:Int):oAddI (.int a) (.int b)=.ok (.int (a+b)):=rfl
def oIsB (c:Bool):D→Res D
 | .bl b=>.ok (.bl (b==c))
 | _=>.bad
@[simp] theorem oIsB_bl (c b:Bool):oIsB c (.bl b)=.ok (.bl (b==c)):=rfl
def oNotB (c:Bool):D→Res D
 | .bl b=>.ok (.bl (b != c))
 | _=>.bad
@[simp] theorem oNotB_bl (c b:Bool):oNotB c (.bl b)=.ok (.bl (b != c)):=rfl
def intsL:List D→Option (List Int)
 | []=>some []
 | .int i :: r=>(intsL r).map (i :: ·)
 | _ :: _=>none
@[simp] theorem intsL_map:∀ ns:List Int,intsL (ns.map .int)=some ns
 | []=>rfl
 | n :: ns=>by
  show (intsL (ns.map .int)).map (n :: ·)=_
  rw [intsL_map ns];rfl
end Z
end
noncomputable section
namespace Z
end Z
end
namespace ZS
open PySem PySem.Spec PyProof.Rows L2
section
variable {X:Cx} {H0:Hp} {pos:Pos}
end
end ZS
namespace ZQ
open PySem PySem.Spec PyProof.Rows L2 ZS
section
variable {X:Cx} {H0:Hp} {pos:Pos}
end
end ZQ
namespace ZMx
open PySem PySem.Spec PyProof.Rows
section
variable {prog:Program} {w:World} {A:Around} {R:Result→Shared→Prop} {I S:Addr} {fp wr:List Addr} {n:Nat} {P:Nat→Value→Prop} {St:Nat→Heap→Prop}
abbrev two (b:Value) (c:Nat):Obj:={ cls:=.type "list",data:=.seq #[b,b] c }
abbrev lp (I S:Addr) (kw:List (Str×Value)):Code:=.builtin "max.loop" ⟨[.ref I,.none,.ref S],kw⟩
theorem nm:(toString "max" ++ toString ".loop" : String) = "max.loop" := by decide
theorem go (W:Walks prog w A.in1 I fp wr n P St) {bt:Nat→Nat→Bool} (hc:CmpOf prog w A.in1 .Gt P bt) (out:S∉fp) (kw:List (Str×Value)) :
  ∀ (k j:Nat) (s:Shared) (b:Value) (c:Nat),n=j+1+k→St (j+1) s.heap→P (argBest bt j) b→s.heap.get? S=some (two b c) →
   (∀ v h' tk,P (argBest bt (n-1)) v→(∀ a o,a≠S→a∉wr→s.heap.get? a=some o→h'.get? a=some o)→R (.ok (.ret v)) { s with heap:=h',toks:=tk }) →
   codeAny (model prog w) A (lp I S kw) R s:=by
 have ow:S∉wr:=fun z=>out (W.sub S z)
 have oth:∀ {h:Heap} {a:Addr} {o:Obj} (f:Obj→Obj),a≠S→h.get? a=some o→(h.update S f).get? a=some o:=fun f ne e=>(Heap.get?_update_other _ _ (Ne.symm ne)).trans e
 intro k
 induction k with
 | zero =>
  intro j s b c hn st pb gS fin
  refine codeAny_builtin PySem.F.entry_max_loop ?_
  rw [Around.under_plainId PySem.F.plain_max_loop (⟨[.ref I,.none,.ref S],kw⟩)]
  show wpAny (model prog w) A.in1 (seqItems? (.ref S) >>= _) _ _ s
  refine wpAny_bind (wpAny_seqItems gS rfl (wpAny_bind (wpAny_tryCatch (W.done s _ _ (by rw [hn];exact st) fun h1 t1 k1=>?_))))
  have g1:=k1 S _ ow gS
  show wpAny (model prog w) A.in1 (updateSeq S (fun _=>#[]) >>= _) _ _ _
  refine wpAny_bind (wpAny_updateSeq g1 rfl (wpAny_bind (wpAny_letGo (wpAny_pure ?_))))
  refine fin b _ t1 (by rw [hn];exact pb) fun a o ne nw e=>oth _ ne (k1 a o nw e)
 | succ k ih =>
  intro j s b c hn st pb gS fin
  refine codeAny_builtin PySem.F.entry_max_loop ?_
  rw [Around.under_plainId PySem.F.plain_max_loop (⟨[.ref I,.none,.ref S],kw⟩)]
  show wpAny (model prog w) A.in1 (seqItems? (.ref S) >>= _) _ _ s
  refine wpAny_bind (wpAny_seqItems gS rfl (wpAny_bind (wpAny_tryCatch (W.item (j+1) s _ _ (by lia) st fun v h1 t1 pv st1 k1=>?_))))
  have g1:=k1 S _ ow gS
  refine wpAny_bind (wpAny_pure ?_)
  show wpAny (model prog w) A.in1 (tryCatch (holding [v,v] (richCompare .Gt v b >>= _)) _ >>= _) _ _ _
  refine wpAny_bind (wpAny_tryCatch (wpAny_holding (wpAny_bind (hc (j+1) (argBest bt j) v b _ _ _ pv pb (wpAny_bind (wpAny_holding (wpAny_truthy_bool (wpAny_bind (wpAny_letGo (wpAny_pure ?_))))))))))
  have stay:∀ (f:Obj→Obj),St (j+1+1) (h1.update S f):=fun f=>W.frame _ _ _ st1 fun a ha o e=>oth f (fun z=>out (z▸ha)) e
  cases q:bt (j+1) (argBest bt j) with
  | true =>
   simp only [if_true]
   refine wpAny_bind (wpAny_updateSeq g1 rfl (wpAny_bind (wpAny_letGo ?_)))
   rw [nm]
   refine wpAny_pure ⟨plainId_quiet PySem.F.plain_max_loop _,ih (j+1) _ v _ (by lia) (stay _) (by simp only [argBest,q,if_true];exact pv) (Heap.get?_update_self _ g1 rfl) fun v' h2 t2 pv' k2=>?_⟩
   exact fin v' h2 t2 pv' fun a o ne nw e=>k2 a o ne nw (oth _ ne (k1 a o nw e))
  | false =>
   simp only [Bool.false_eq_true,if_false]
   refine wpAny_bind (wpAny_letGo ?_)
   rw [nm]
   refine wpAny_pure ⟨plainId_quiet PySem.F.plain_max_loop _,ih (j+1) _ b c (by lia) st1 (by simp only [argBest,q,Bool.false_eq_true,if_false];exact pb) g1 fun v' h2 t2 pv' k2=>?_⟩
   exact fin v' h2 t2 pv' fun a o ne nw e=>k2 a o ne nw (k1 a o nw e)
theorem first (W:Walks prog w A.in1 I fp wr n P St) {bt:Nat→Nat→Bool} (hc:CmpOf prog w A.in1 .Gt P bt) (out:S∉fp) {x:Str} {d:Value} {s:Shared} {c:Nat} (st:St 0 s.heap) (gS:s.heap.get? S=some { cls:=.type "list",data:=.seq #[] c })
  (none_:n=0→∀ h' tk,(∀ a o,a≠S→a∉wr→s.heap.get? a=some o→h'.get? a=some o)→R (.ok (.ret d)) { s with heap:=h',toks:=tk })
  (fin:0 < n→∀ v h' tk,P (argBest bt (n-1)) v→(∀ a o,a≠S→a∉wr→s.heap.get? a=some o→h'.get? a=some o)→R (.ok (.ret v)) { s with heap:=h',toks:=tk }) :
  codeAny (model prog w) A (lp I S [(x,d)]) R s:=by
 have ow:S∉wr:=fun z=>out (W.sub S z)
 have oth:∀ {h:Heap} {a:Addr} {o:Obj} (f:Obj→Obj),a≠S→h.get? a=some o→(h.update S f).get? a=some o:=fun f ne e=>(Heap.get?_update_other _ _ (Ne.symm ne)).trans e
 refine codeAny_builtin PySem.F.entry_max_loop ?_
 rw [Around.under_plainId PySem.F.plain_max_loop (⟨[.ref I,.none,.ref S],[(x,d)]⟩)]
 show wpAny (model prog w) A.in1 (seqItems? (.ref S) >>= _) _ _ s
 by_cases h0:n=0
 ·subst h0
  refine wpAny_bind (wpAny_seqItems gS rfl (wpAny_bind (wpAny_tryCatch (W.done s _ _ st fun h1 t1 k1=>?_))))
  refine wpAny_bind (wpAny_rule (wpAny_pure ?_))
  exact none_ rfl h1 t1 fun a o _ nw e=>k1 a o nw e
 ·have hp:0 < n:=Nat.pos_of_ne_zero h0
  refine wpAny_bind (wpAny_seqItems gS rfl (wpAny_bind (wpAny_tryCatch (W.item 0 s _ _ hp st fun v h1 t1 pv st1 k1=>?_))))
  have g1:=k1 S _ ow gS
  refine wpAny_bind (wpAny_pure ?_)
  refine wpAny_bind (wpAny_updateSeq g1 rfl ?_)
  rw [nm]
  refine wpAny_pure ⟨plainId_quiet PySem.F.plain_max_loop _,go W hc out [(x,d)] (n-1) 0 _ v _ (by lia) (W.frame _ _ _ st1 fun a ha o e=>oth _ (fun z=>out (z▸ha)) e) pv (Heap.get?_update_self _ g1 rfl) fun v' h2 t2 pv' k2=>?_⟩
  exact fin hp v' h2 t2 pv' fun a o ne nw e=>k2 a o ne nw (oth _ ne (k1 a o nw e))
theorem args (a d:Value):argsOk "max" ⟨[a],[(Str.ofString "default",d)]⟩:=by unfold argsOk;kernel_rfl
theorem binds (d:Value):Builtin.Builtins.bindParams "max" ["key", "default"] 0 ⟨[],[(Str.ofString "default",d)]⟩=pure [none,some d]:=by kernel_rfl
theorem call {x d:Value} {Q:Value→Shared→Prop} {E:Value→Shared→Prop} {s:Shared}
  (h:wpAny (model prog w) A.in1 (pyIter x) (fun it s2=>∃ I fp wr n P St bt,it=.ref I∧Walks prog w A.in1 I fp wr n P St∧St 0 s2.heap∧(∀ b∈fp,b < s2.heap.objs.size)∧CmpOf prog w A.in1 .Gt P bt ∧
   (n=0→∀ h' tk,(∀ a o,a∉wr→s2.heap.get? a=some o→h'.get? a=some o)→Q d { s2 with heap:=h',toks:=tk }) ∧
   (0 < n→∀ v h' tk,P (argBest bt (n-1)) v→(∀ a o,a∉wr→s2.heap.get? a=some o→h'.get? a=some o)→Q v { s2 with heap:=h',toks:=tk })) E s) :
  wpAny (model prog w) A (PySem.call (.builtin "max") [x] [(Str.ofString "default",d)]) Q E s:=by
 refine kmk_tree PySem.F.kind_max PySem.F.plain_max PySem.F.entry_max (args x d) ?_
 show wpAny (model prog w) A.in1 (Builtin.Builtins.bindParams "max" ["key", "default"] 0 ⟨[],[(Str.ofString "default",d)]⟩ >>= _) _ _ s
 rw [binds]
 refine wpAny_bind (wpAny_pure (wpAny_bind (wpAny_pure (wpAny_bind (wpAny_mono h (fun it s2 q=>?_) fun _ _ e=>e)))))
 obtain ⟨I,fp,wr,n,P,St,bt,rfl,W,st,lt,hc,q0,q1⟩:=q
 refine wpAny_bind (wpAny_newObj_type ?_)
 have out:s2.heap.objs.size∉fp:=fun z=>Nat.lt_irrefl _ (lt _ z)
 have keep:∀ {h':Heap},(∀ a o,a≠s2.heap.objs.size→a∉wr→(s2.heap.push { cls:=.type "list",data:=.seq #[] }).get? a=some o→h'.get? a=some o)→∀ a o,a∉wr→s2.heap.get? a=some o→h'.get? a=some o :=
  fun k a o nw e=>k a o (Nat.ne_of_lt (Heap.lt_size e)) nw (Heap.get?_push_of_some _ e)
 rw [nm]
 refine wpAny_pure ⟨plainId_quiet PySem.F.plain_max_loop _,first W hc out (W.frame _ _ _ st fun a _ o e=>Heap.get?_push_of_some _ e) (Heap.get?_push_size _ rfl) (fun z h' tk k=>q0 z h' tk (keep k)) fun z v h' tk pv k=>q1 z v h' tk pv (keep k)⟩
end
end ZMx
namespace ZMx
open PySem PySem.Spec PyProof.Rows
section
variable {prog:Program} {w:World} {A:Around} {R:Result→Shared→Prop} {I S:Addr} {fp wr:List Addr} {n:Nat} {P:Nat→Value→Prop} {St:Nat→Heap→Prop}
end
end ZMx
namespace ZS
open PySem PySem.Spec PyProof.Rows L2
section
variable {X:Cx} {a c:Expr} {fa fc:Z.EF} {pos:Pos}
end
end ZS
namespace ZQ
open PySem PySem.Spec PyProof.Rows L2 ZS
section
variable {X:Cx} {a c:Expr} {fa fc:Z.EF} {pos:Pos}
end
end ZQ
namespace ZS
open PySem PySem.Spec PyProof.Rows L2
section
variable {X:Cx} {a c:Expr} {fa fc:Z.EF} {pos:Pos}
end
end ZS
namespace ZQ
open PySem PySem.Spec PyProof.Rows L2 ZS
section
variable {X:Cx} {a c:Expr} {fa fc:Z.EF} {pos:Pos}
end
end ZQ
noncomputable section
namespace Z
end Z
end
noncomputable section
namespace Z
end Z
end
namespace ZS
open PySem PySem.Spec PyProof.Rows L2 PySem.W
section
variable {X:Cx} {pins:List (Addr×Obj)} {σ:St} {H:Hp} {s:Shared}
theorem Off.nofs {C:Addr} (o:Off X pins H C) (ok:X.Ok):C∉X.fs:=fun hb=>by
 obtain ⟨_,ob,ho,_⟩:=ok.funs.mem hb
 exact absurd (Nat.lt_of_lt_of_le (Heap.lt_size ho) o.new) (Nat.lt_irrefl _)
theorem Off.up {H':Hp} {C:Addr} (o:Off X pins H C) (h:H' C=none):Off X pins H' C:=⟨h,o.loc,o.new,o.cell,o.pin⟩
theorem Off.fresh {C:Addr} (I:Inv X pins σ H s) (hC:s.heap.objs.size≤C) {H':Hp} (h:H' C=none):Off X pins H' C where
 free:=h
 loc:=Nat.ne_of_gt (Nat.lt_of_lt_of_le I.lt hC)
 new:=Nat.le_trans I.sz hC
 cell:=fun x c e=>by
  obtain ⟨v,o,ho,_⟩:=I.cell x c e
  exact Nat.ne_of_lt (Nat.lt_of_lt_of_le (Heap.lt_size ho) hC)
 pin:=fun p hp=>Nat.ne_of_lt (Nat.lt_of_lt_of_le (Heap.lt_size (I.pin p hp).1) hC)
structure LamAt (X:Cx) (pins:List (Addr×Obj)) (q:Str) (params:Arguments) (body:Expr) (scope:Scope) (cl:List (Str×Addr)) (H:Hp) (s:Shared) (f c':Addr) (pm ctv:Value):Prop where
 off:Off X pins H f
 obj:s.heap.get? f=some (kla_obj "<lambda>" q params body scope cl pm c' ctv)
 code:H c'=some (.cod q)
end
section
variable {X:Cx} {pins:List (Addr×Obj)} {σ:St} {H:Hp} {s:Shared} {N':List Str} {is:List Nat} {scope:Scope} {body:Expr} {params:Arguments} {q:Str} {cl:List (Str×Addr)} {f c':Addr} {pm ctv:Value} {ρ:Z.Env} {fe:Z.EF} {x:Str}
end
end ZS
namespace ZS
open PySem PySem.Spec PyProof.Rows L2 PySem.W
abbrev held (b:Value) (k:Value) (c:Nat):Obj:={ cls:=.type "list",data:=.seq #[b,k] c }
structure KLp (X:Cx) (pins:List (Addr×Obj)) (σ:St) (H₀:Hp) (l I S:Addr) (vs:List V) (H:Hp) (s:Shared) (j i:Nat) (kb:Int):Prop where
 inv:Inv X pins σ H s
 sm:Same H₀ H
 it:s.heap.IsListIter I l j
 offI:Off X pins H I
 offS:Off X pins H S
 best:∃ b v tb c,vs[i]?=some v∧RelV v b∧s.heap.get? S=some (held b (.int kb tb) c)
section
variable {X:Cx} {pins:List (Addr×Obj)} {σ:St} {H₀ H:Hp} {s:Shared} {l I S f:Addr} {vs:List V} {j i:Nat} {kb:Int} {kw:List (Str×Value)}
structure Stay (X:Cx) (pins:List (Addr×Obj)) (σ:St) (f:Addr) (St:Hp→Shared→Prop):Prop where
 off:∀ H s,St H s→Off X pins H f
 un:∀ H H' s s',Inv X pins σ H s→St H s→Same H H'→H' f=none→(∀ o,s.heap.get? f=some o→s'.heap.get? f=some o)→St H' s'
end
section
variable {X:Cx} {pins:List (Addr×Obj)} {σ:St} {H₀:Hp} {l I S f:Addr} {vs:List V} {kw:List (Str×Value)} {St:Hp→Shared→Prop} {e:Z.D→Z.Res Int} {ds:List Z.D} {r:Z.D} {R:Result→Shared→Prop}
end
section
variable {X:Cx} {pins:List (Addr×Obj)} {σ:St} {H₀:Hp} {l I S f:Addr} {vs:List V} {kw:List (Str×Value)} {St:Hp→Shared→Prop} {e:Z.D→Z.Res Int} {ds:List Z.D} {r:Z.D} {R:Result→Shared→Prop}
end
section
variable {X:Cx} {pins:List (Addr×Obj)} {σ:St} {H₀:Hp} {l I S f:Addr} {vs:List V} {kw:List (Str×Value)} {St:Hp→Shared→Prop} {e:Z.D→Z.Res Int} {ds:List Z.D} {r:Z.D} {R:Result→Shared→Prop}
end
end ZS
namespace ZS
open PySem PySem.Spec PyProof.Rows L2 PySem.W
section
variable {X:Cx} {pins:List (Addr×Obj)} {σ:St} {H:Hp} {s:Shared} {l f:Addr} {vs:List V} {St:Hp→Shared→Prop} {e:Z.D→Z.Res Int} {ds:List Z.D} {r:Z.D} {Q:VK}
end
section
variable {X:Cx} {a body:Expr} {fa fe:Z.EF} {pos:Pos} {N':List Str} {is:List Nat} {scope:Scope} {params:Arguments}
end
section
variable {X:Cx} {pins:List (Addr×Obj)} {σ:St} {H:Hp} {s:Shared} {l f:Addr} {vs:List V} {St:Hp→Shared→Prop} {e:Z.D→Z.Res Int} {ds:List Z.D} {r:Z.D} {Q:VK}
end
section
variable {X:Cx} {a body:Expr} {fa fe:Z.EF} {pos:Pos} {N':List Str} {is:List Nat} {scope:Scope} {params:Arguments}
end
end ZS
namespace ZS
open PySem PySem.Spec PyProof.Rows L2 PySem.W
section
variable {P:Program} {w:World} {K:PySem.W.Frag} {mg:Str→Option Value} {base:Heap}
end
end ZS
namespace ZQ
open PySem PySem.Spec PyProof.Rows L2 PySem.W ZS
section
variable {X:Cx} {a body:Expr} {fa fe:Z.EF} {pos:Pos} {N':List Str} {is:List Nat} {scope:Scope} {params:Arguments}
end
end ZQ
namespace ZS
open PySem PySem.Spec PyProof.Rows L2 PySem.W
def DefK (K:Frag) (n:Str) (st:Stmt):Prop:=∃ (f:Addr) (od an:Option Addr) (sl:Array (Option Value)) (oc kV dc pm cd ct:Value),nsIn K mainGlobals n=some (some (.ref f))∧K.lookup f=some ⟨oc,od,.func (fnOf n n (defArgs st) (defBody st) (defScope st) .none kV dc pm an cd ct),sl⟩∧codeIn K cd n=true∧keepIn K (.ref f)=true
def DefKD (K:Frag) (n:Str) (st:Stmt):Prop:=∃ (f t:Addr) (od an td:Option Addr) (sl ts:Array (Option Value)) (tn:Nat) (oc kV dc pm cd ct tc:Value),nsIn K mainGlobals n=some (some (.ref f))∧K.lookup f=some ⟨oc,od,.func (fnOf n n (defArgs st) (defBody st) (defScope st) (.ref t) kV dc pm an cd ct),sl⟩∧codeIn K cd n=true∧keepIn K (.ref f)=true∧K.lookup t=some ⟨tc,td,.seq #[.none] tn,ts⟩
def DefKL (K:Frag) (n:Str) (st:Stmt):Prop:=DefK K n st∧∃ c p,tabIn K n=some (c,p)
section
variable {K:Frag} {n:Str} {st:Stmt} {h:Heap} {mg:Str→Option Value} {ps:List Str}
theorem DefK.mk' {f:Addr} {od an:Option Addr} {sl:Array (Option Value)} {oc kV dc pm cd ct:Value} (a:nsIn K mainGlobals n=some (some (.ref f))) (l:K.lookup f=some ⟨oc,od,.func (fnOf n n (defArgs st) (defBody st) (defScope st) .none kV dc pm an cd ct),sl⟩) (c:codeIn K cd n=true) (k:keepIn K (.ref f)=true):DefK K n st:=⟨f,od,an,sl,oc,kV,dc,pm,cd,ct,a,l,c,k⟩
theorem DefKD.mk' {f t:Addr} {od an td:Option Addr} {sl ts:Array (Option Value)} {tn:Nat} {oc kV dc pm cd ct tc:Value} (a:nsIn K mainGlobals n=some (some (.ref f))) (l:K.lookup f=some ⟨oc,od,.func (fnOf n n (defArgs st) (defBody st) (defScope st) (.ref t) kV dc pm an cd ct),sl⟩) (c:codeIn K cd n=true) (k:keepIn K (.ref f)=true) (q:K.lookup t=some ⟨tc,td,.seq #[.none] tn,ts⟩):DefKD K n st:=⟨f,t,od,an,td,sl,ts,tn,oc,kV,dc,pm,cd,ct,tc,a,l,c,k,q⟩
theorem DefKL.mk' {f cc pp:Addr} {od an td:Option Addr} {sl ts:Array (Option Value)} {tv:Array Value} {oc kV dc pm ct to:Value} (a:nsIn K mainGlobals n=some (some (.ref f))) (l:K.lookup f=some ⟨oc,od,.func (fnOf n n (defArgs st) (defBody st) (defScope st) .none kV dc pm an (.ref cc) ct),sl⟩) (c:codeIn K (.ref cc) n=true) (k:keepIn K (.ref f)=true) (tl:K.lookup cc=some ⟨to,td,.fields tv,ts⟩) (tp:tv[11]?=some (.ref pp)):DefKL K n st:=⟨⟨f,od,an,sl,oc,kV,dc,pm,.ref cc,ct,a,l,c,k⟩,cc,pp,tab_some a l rfl tl tp⟩
theorem DefK.df (d:DefK K n st) (X:K.In h) (G:h.Ns mainGlobals mg) (hb:∀ (kV doc pm:Value) (an:Option Addr) (cdv ct:Value) (us:List Value),us.length=ps.length→bindArgs (fnOf n n (defArgs st) (defBody st) (defScope st) .none kV doc pm an cdv ct) ⟨us,[]⟩=pure (ps.zip us)):Def K mg n st ps:=by
 obtain ⟨f,od,an,sl,oc,kV,dc,pm,cd,ct,a,l,c,k⟩:=d
 have F:=fun_mk (st:=st) l c k
 exact ⟨f,_,F,mg_of X G a,F.binds hb⟩
theorem DefKD.df (d:DefKD K n st) (X:K.In h) (G:h.Ns mainGlobals mg)
  (h1:∀ (t:Addr) (kV doc pm:Value) (an:Option Addr) (cdv ct:Value) (us:List Value),us.length=ps.length→∃ kk:Option (Array Value)→Sem (List (Str×Value)),bindArgs (fnOf n n (defArgs st) (defBody st) (defScope st) (.ref t) kV doc pm an cdv ct) ⟨us,[]⟩=seqItems? (.ref t) >>= kk∧kk (some #[.none])=pure (ps.zip us))
  (h2:∀ (t:Addr) (kV doc pm:Value) (an:Option Addr) (cdv ct:Value) (us:List Value),us.length+1=ps.length→∃ kk:Option (Array Value)→Sem (List (Str×Value)),bindArgs (fnOf n n (defArgs st) (defBody st) (defScope st) (.ref t) kV doc pm an cdv ct) ⟨us,[]⟩=seqItems? (.ref t) >>= kk∧kk (some #[.none])=pure (ps.zip (us++[.none]))):DefD K mg n st ps:=by
 obtain ⟨f,t,od,an,td,sl,ts,tn,oc,kV,dc,pm,cd,ct,tc,a,l,c,k,q⟩:=d
 exact defD_mk l c k q (mg_of X G a) (h1 t kV dc pm an cd ct) (h2 t kV dc pm an cd ct)
theorem DefK.law (d:DefK K n st) (X:K.In h) (G:h.Ns mainGlobals mg) {fa:Addr} (hfa:mg n=some (.ref fa)) {x:Str} (hb:∀ (kV doc pm:Value) (an:Option Addr) (cdv ct:Value) (s:Shared) (v:Value),BindsTo s (fnOf n n (defArgs st) (defBody st) (defScope st) .none kV doc pm an cdv ct) ⟨[v],[]⟩ [(x,v)]):∃ fd:FuncData,(∀ (s:Shared) (v:Value),BindsTo s fd ⟨[v],[]⟩ [(x,v)])∧Fun K n n st fa fd:=by
 obtain ⟨f,od,an,sl,oc,kV,dc,pm,cd,ct,a,l,c,k⟩:=d
 have e:=hfa.symm.trans (mg_of X G a)
 cases e
 exact ⟨_,hb kV dc pm an cd ct,fun_mk (st:=st) l c k⟩
end
end ZS
namespace ZQ
open PySem PySem.Spec L2
def locB (sc:Scope) (x:Str):Bool:=match sc.names.lookup x with
 | some .local=>true
 | some .cell=>true
 | _=>false
theorem lo {sc:Scope} {x:Str} (h:locB sc x=true):Loc sc x:=by
 unfold locB at h
 split at h
 ·rename_i e;exact .inl e
 ·rename_i e;exact .inr e
 ·cases h
end ZQ
namespace ZS
open PySem PySem.Spec PyProof.Rows L2
section
open PySem.SeqAt
open PySem.AutoSeq1 (wpAny_loadPart')
open PySem.MeetsSeq PySem.MeetsSeq2 PySem.MeetsSeq3
end
section
open PySem.SeqAt
open PySem.AutoSeq1 (wpAny_loadPart')
open PySem.MeetsSeq PySem.MeetsSeq2 PySem.MeetsSeq3
end
section
variable {X:Cx}
end
end ZS
namespace ZS
open PySem PySem.Spec PyProof.Rows L2 PySem.W
structure KL0 (X:Cx) (pins:List (Addr×Obj)) (σ:St) (H:Hp) (l I S:Addr) (s:Shared) (j:Nat) (db:Z.D):Prop where
 inv:Inv X pins σ H s
 it:s.heap.IsListIter I l j
 offI:Off X pins H I
 offS:Off X pins H S
 best:∃ b v c,Den X.K H db v∧RelV v b∧s.heap.get? S=some (held b b c)
section
variable {X:Cx} {pins:List (Addr×Obj)} {σ:St} {H:Hp} {l I S:Addr} {vs:List V} {kw:List (Str×Value)} {ds:List Z.D} {r:Z.D} {R:Result→Shared→Prop}
end
section
variable {X:Cx} {a c:Expr} {fa fc:Z.EF} {pos:Pos}
end
end ZS
namespace ZQ
open PySem PySem.Spec PyProof.Rows L2 ZS
section
variable {X:Cx} {a c:Expr} {fa fc:Z.EF} {pos:Pos}
end
end ZQ
noncomputable section
namespace Z
abbrev XN:=List Nat×List (List Nat×D)
abbrev XF:=Env→Option XN
def xNo (_:Env):Option XN:=none
def xCall (m:List D→Option XN) (as:AF) (ρ:Env):Option XN:=match as ρ with
 | .ok ds=>m ds
 | .bad=>none
def xTl (a:EF) (r:XF) (ρ:Env):Option XN:=match a ρ with
 | .ok _=>r ρ
 | .bad=>none
def xSeq (a:SF) (xa xb:XF) (ρ:Env):Option XN:=match xa ρ with
 | some c=>some c
 | none=>match a ρ with
  | .ok (.nx ρ')=>xb ρ'
  | _=>none
def xIf (t:TF) (a b:XF) (ρ:Env):Option XN:=match t ρ with
 | .ok c=>if c then a ρ else b ρ
 | .bad=>none
def xRaise (c:List Nat) (a:EF) (ρ:Env):Option XN:=match a ρ with
 | .ok _=>some (c,[])
 | .bad=>none
def fx (ps n:Nat) (b:XF) (ds:List D):Option XN:=if ds.length=ps then b (start n ds) else none
def sTry (b:SF) (xb:XF) (c:List Nat) (i:Nat) (h:SF) (ρ:Env):Res Fl:=match xb ρ with
 | some c'=>if c'.1=c then (match h (ρ.set i (some (.exc c'))) with
  | .ok (.nx ρ')=>.ok (.nx (ρ'.set i none))
  | .ok (.rt d)=>.ok (.rt d)
  | _=>.bad) else .bad
 | none=>b ρ
def eIsX (i:Nat) (f:List Nat→Option Bool) (ρ:Env):Res D:=match ρ[i]? with
 | some (some (.exc c))=>(match f c.1 with
  | some b=>.ok (.bl b)
  | none=>.bad)
 | _=>.bad
def isx (c0:List Nat) (b:Bool) (c:List Nat):Option Bool:=if c=c0 then some b else none
end Z
end
namespace ZS
open PySem PySem.Spec PyProof.Rows L2 PySem.W
theorem objThere {P:Program} {w:World} {H:Hp} {h:Heap} {a:Addr} {o:HO} (x:ObjOk P w H h a o):∃ ob,h.get? a=some ob:=by
 cases o with
 | lst xs=>obtain ⟨_,_,_,_,e⟩:=x;exact ⟨_,e⟩
 | tup xs=>obtain ⟨_,_,_,ob,e,_⟩:=x;exact ⟨_,e⟩
 | dK kvs=>obtain ⟨_,_,_,_,o,_,_,e,_⟩:=x;exact ⟨_,e⟩
 | dT kvs=>obtain ⟨_,_,_,_,o,_,_,e,_⟩:=x;exact ⟨_,e⟩
 | set S n=>obtain ⟨o,_,_,_,e,_⟩:=x;exact ⟨_,e⟩
 | ins C dx fs=>obtain ⟨_,_,_,e,_⟩:=x;exact ⟨_,e⟩
 | own y=>obtain ⟨_,e⟩:=x;exact ⟨_,e⟩
 | xd fs=>obtain ⟨_,⟨_,_,_,e,_⟩,_⟩:=x;exact ⟨_,e⟩
 | rng lo hi=>obtain ⟨_,_,_,e⟩:=x;exact ⟨_,e⟩
 | frz ob u=>obtain ⟨e,_⟩:=x;exact ⟨_,e⟩
 | tbl q=>obtain ⟨_,e,_⟩:=x;exact ⟨_,e⟩
 | cod q=>obtain ⟨_,_,_,_,e1,e2,_⟩:=x;cases e1;exact ⟨_,e2⟩
 | met f y=>exact ⟨_,(show h.get? a=some _ from x)⟩
 | ext φ=>obtain ⟨_,⟨_,e⟩,_⟩:=x;exact ⟨_,e⟩
section
variable {X:Cx} {pins:List (Addr×Obj)} {σ:St} {H H':Hp} {s:Shared} {h':Heap}
theorem stepX {g':Array GenState} {t':Nat} {d':Drawn} {ch:List Addr} (I:Inv X pins σ H s)
  (hch:∀ b∈ch,X.s₀.heap.get? b=none∧b≠X.env.locals∧(∀ x c,X.env.cells.lookup x=some c→c≠b)∧∀ p∈X.pn++pins,p.1≠b)
  (keep:∀ b o,b≠X.env.locals→b∉X.fs→b∉ch→s.heap.get? b=some o→H b=none→h'.get? b=some o)
  (slot:∀ b o,b≠X.env.locals→b∈X.fs→b∉ch→s.heap.get? b=some o→H b=none→∃ sl,h'.get? b=some { o with slots:=sl }) (free:∀ b o,b∉ch→s.heap.get? b=some o→H b=none→H' b=none)
  (there:∀ b o,b∉ch→s.heap.get? b=some o→∃ o',h'.get? b=some o')
  (tups:∀ b xs,H b=some (.tup xs)→H' b=some (.tup xs)) (frzs:∀ b o u,H b=some (.frz o u)→H' b=some (.frz o u)) (tbls:∀ b u,Prm u→H b=some u→H' b=some u)
  (ns:∀ m,s.heap.Ns X.env.locals m→h'.Ns X.env.locals m) (hok:HOk X.prog X.w H' h') (hg:AllBare g') :
  Inv X pins σ H' { s with heap:=h',gens:=g',drawn:=d',toks:=t' }:=by
 have neL:∀ b o,X.s₀.heap.get? b=some o→b≠X.env.locals:=fun b o e=>Nat.ne_of_lt (Nat.lt_of_lt_of_le (Heap.lt_size e) I.ok.above)
 have neC:∀ b o,X.s₀.heap.get? b=some o→b∉ch:=fun b o e hb=>by
  rw [(hch b hb).1] at e;cases e
 have cellK:∀ x c,X.env.cells.lookup x=some c→∀ v,s.heap.IsCell c v→h'.IsCell c v:=fun x c e v ⟨o,ho,hd⟩=>by
  have nch:c∉ch:=fun z=>(hch c z).2.2.1 x c e rfl
  by_cases hc:c∈X.fs
  ·obtain ⟨sl,q⟩:=slot c o (I.cne x c e) hc nch ho (I.freeC x c e)
   exact ⟨_,q,hd⟩
  ·exact ⟨o,keep c o (I.cne x c e) hc nch ho (I.freeC x c e),hd⟩
 refine ⟨I.ok,I.os,hg,⟨fun b o e n hb hx=>?_,fun b o e n hb hx=>?_,fun b o e n hx=>?_,fun b o e hx=>?_,fun b xs e=>tups b xs (I.base.tups b xs e),fun b o xs e=>frzs b o xs (I.base.frzs b o xs e),fun b u p e=>tbls b u p (I.base.tbls b u p e)⟩,?_,fun x c e=>?_,?_,fun x c e=>?_,fun p hp=>?_,hok,I.len,I.tab.up tbls⟩
 ·exact keep b o (neL b o e) hb (neC b o e) (I.base.keep b o e n hb hx) (I.base.free b o e n hx)
 ·obtain ⟨sl,e1⟩:=I.base.slot b o e n hb hx
  obtain ⟨sl',e2⟩:=slot b _ (neL b o e) hb (neC b o e) e1 (I.base.free b o e n hx)
  exact ⟨sl',e2⟩
 ·obtain ⟨o',e1⟩:=I.base.there b o e hx
  exact free b o' (neC b o e) e1 (I.base.free b o e n hx)
 ·obtain ⟨o',e1⟩:=I.base.there b o e hx
  exact there b o' (neC b o e) e1
 ·obtain ⟨m,hn,hl⟩:=I.loc
  refine ⟨m,ns m hn,fun i x v e1 e2 e3=>?_⟩
  obtain ⟨u,r,l⟩:=hl i x v e1 e2 e3
  refine ⟨u,r,?_⟩
  rcases l with l | ⟨k,c,e,z⟩
  ·exact .inl l
  ·exact .inr ⟨k,c,e,cellK x c e _ z⟩
 ·obtain ⟨v,z⟩:=I.cell x c e
  exact ⟨v,cellK x c e v z⟩
 ·obtain ⟨m,⟨o,_,_,ho,_⟩,_⟩:=I.loc
  exact free _ o (fun z=>(hch _ z).2.1 rfl) ho I.free
 ·obtain ⟨v,o,ho,hd⟩:=I.cell x c e
  exact free c o (fun z=>(hch c z).2.2.1 x c e rfl) ho (I.freeC x c e)
 ·obtain ⟨e,n,ne,nf,d⟩:=I.pin p hp
  have nch:p.1∉ch:=fun z=>(hch p.1 z).2.2.2 p hp rfl
  exact ⟨keep p.1 p.2 ne nf nch e n,free p.1 p.2 nch e n,ne,nf,d⟩
structure OffX (X:Cx) (pins:List (Addr×Obj)) (H:Hp) (s:Shared) (a:Addr):Prop where
 free:H a=none
 new:X.s₀.heap.get? a=none
 pin:∀ p∈X.pn++pins,p.1≠a
 isr:∃ o vs,s.heap.get? a=some o∧o.data=.fields vs
theorem OffX.loc {a:Addr} (o:OffX X pins H s a) (I:Inv X pins σ H s):a≠X.env.locals:=fun z=>by
 obtain ⟨ob,vs,e,d⟩:=o.isr
 obtain ⟨m,⟨o',es,ep,ho',hd',_⟩,_⟩:=I.loc
 rw [z,ho'] at e;cases e;rw [hd'] at d;cases d
theorem OffX.cell {a:Addr} (o:OffX X pins H s a) (I:Inv X pins σ H s) (x:Str) (c:Addr) (hc:X.env.cells.lookup x=some c):c≠a:=fun z=>by
 obtain ⟨ob,vs,e,d⟩:=o.isr
 obtain ⟨v,o',ho',hd'⟩:=I.cell x c hc
 rw [z,e] at ho';cases ho';rw [d] at hd';cases hd'
theorem OffX.stk {a:Addr} (o:OffX X pins H s a) (I:Inv X pins σ H s):a∉frs X.stack:=fun z=>by
 obtain ⟨ob,vs,e,d⟩:=o.isr
 obtain ⟨_,o',ho',hd'⟩:=I.stack.mem z
 rw [e] at ho';cases ho';exact hd' vs d
theorem absent {a:Addr} (I:Inv X pins σ H s) (h:s.heap.get? a=none):H a=none∧X.s₀.heap.get? a=none∨a∈X.ex:=by
 by_cases hx:a∈X.ex
 ·exact .inr hx
 ·refine .inl ⟨?_,?_⟩
  ·cases e:H a with
   | none=>rfl
   | some u=>obtain ⟨ob,q⟩:=objThere (I.hok a u e);rw [h] at q;cases q
  ·cases e:X.s₀.heap.get? a with
   | none=>rfl
   | some o=>obtain ⟨o',q⟩:=I.base.there a o e hx;rw [h] at q;cases q
theorem Inv.snap {l:List Addr} {t':Nat} (I:Inv X pins σ H s) (off:∀ a∈l,OffX X pins H s a) (k1:(hideAll s.heap (frs X.stack++l)).StaysIn h')
  (k4:∀ b o,s.heap.get? b=some o→(∀ vs,o.data≠.fields vs)→∃ sl,h'.get? b=some { o with slots:=sl }):Inv X pins σ H { s with heap:=h',toks:=t' }:=by
 have inB:∀ b o,b∉frs X.stack→b∉l→s.heap.get? b=some o→h'.get? b=some o:=fun b o n1 n2 e=>k1 b o (hideAll_get _ e (fun z=>(List.mem_append.mp z).elim n1 n2))
 have trk:∀ b u,H b=some u→b∉frs X.stack∧b∉l:=fun b u e=>⟨fun z=>(by rw [I.stkFree b z] at e;cases e),fun z=>(by rw [(off b z).free] at e;cases e)⟩
 refine stepX (g':=s.gens) (d':=s.drawn) (ch:=l) I (fun b hb=>⟨(off b hb).new,(off b hb).loc I,(off b hb).cell I,(off b hb).pin⟩) (fun b o hL hf hc e n=>inB b o (fun z=>(List.mem_cons.mp (I.stkSub b z)).elim hL hf) hc e) (fun b o hL hf hc e n=>?_) (fun _ _ _ _ n=>n) (fun b o hc e=>?_) (fun _ _ e=>e) (fun _ _ _ e=>e) (fun _ _ _ e=>e) (fun m hm=>?_) (fun b u e=>?_) I.bare
 ·obtain ⟨_,o',ho',hd'⟩:=I.funs.mem hf
  rw [e] at ho';cases ho'
  exact k4 b o e hd'
 ·by_cases hz:b∈frs X.stack
  ·obtain ⟨_,o',ho',hd'⟩:=I.stack.mem hz
   rw [e] at ho';cases ho'
   obtain ⟨sl,q⟩:=k4 b o e hd'
   exact ⟨_,q⟩
  ·exact ⟨o,inB b o hz hc e⟩
 ·obtain ⟨o,es,ep,ho,hd,r⟩:=hm
  obtain ⟨sl,q⟩:=k4 _ o ho (fun vs z=>by rw [hd] at z;cases z)
  exact ⟨_,es,ep,q,hd,r⟩
 ·refine (I.hok b u e).stay (fun c v hc q=>?_) (fun _ q=>q) (fun _ _ q=>q) fun _ _ _ q=>q
  rcases hc with rfl | hc
  ·exact inB c v (trk c u e).1 (trk c u e).2 q
  ·exact inB c v (trk c _ hc).1 (trk c _ hc).2 q
theorem snap_new {l:List Addr} {T:Addr} {oT:Obj} {ts:Array Value} (hex:X.ex=[]) (I:Inv X pins σ H s) (off:∀ a∈l,OffX X pins H s a) (k2:h'.FunFrames (hideAll s.heap (frs X.stack++l)) X.stack)
  (hT:(hideAll s.heap (frs X.stack++l)).get? T=none) (hT':h'.get? T=some oT) (hd:oT.data=.fields ts):H T=none∧X.s₀.heap.get? T=none∧∀ p∈X.pn++pins,p.1≠T:=by
 have nst:T∉frs X.stack:=fun z=>by
  obtain ⟨_,o',ho',hd'⟩:=k2.mem z
  rw [hT'] at ho';cases ho';exact hd' ts hd
 by_cases hl:T∈l
 ·exact ⟨(off T hl).free,(off T hl).new,(off T hl).pin⟩
 ·have hn:s.heap.get? T=none:=by
   cases e:s.heap.get? T with
   | none=>rfl
   | some o=>rw [hideAll_get _ e (fun z=>(List.mem_append.mp z).elim nst hl)] at hT;cases hT
  rcases absent I hn with z | z
  ·exact ⟨z.1,z.2,fun p hp q=>by rw [←q,(I.pin p hp).1] at hn;cases hn⟩
  ·rw [hex] at z;cases z
end
theorem entryX {M:Model} {A:Around} {E:Value→Shared→Prop} {s:Shared} {ground:Heap} {env:PySem.Env} {rest:List PySem.Env} {L e:Addr} {oe:Obj} {fl:Array Value} {hd0:Value} {nx:Bool} {Q:Unit→Shared→Prop}
  (fr:A.frames=some (env :: rest)) (ff:s.heap.FunFrames ground (env :: rest)) (el:env.frame=some L) (ge:s.heap.get? e=some oe) (st:ground.StaysIn s.heap) (ne:ground.get? e=none) (de:oe.data=.fields fl) (sz:1 < fl.size)
  (k:∀ h' T oT ts,ground.StaysIn h'→h'.FunFrames ground (env :: rest)→h'.get? e=some (oe.mapFields (·.setIfInBounds 1 (.ref T)))→ground.get? T=none→T≠e→h'.get? T=some oT→oT.data=.fields ts→3 < ts.size →
   (∀ b o,s.heap.get? b=some o→(∀ vs,o.data≠.fields vs)→∃ sl,h'.get? b=some { o with slots:=sl })→Q () { s with heap:=h' }) :
  wpAny M A (do let a ←frameOf env;let pl ←entryPlaceOf L nx;let b ←EntryCells.newEntry hd0 a .none (rawInt L) .none pl;setField (.ref e) 1 b) Q E s:=by
 have out:e∉(env :: rest).filterMap (·.frame):=fun z=>by
  obtain ⟨_,o,go,no⟩:=ff.mem z
  rw [ge] at go
  cases go
  exact no fl de
 refine wpAny_bind (wpAny_frameOf_fun fr ff el fun h1 so=>wpAny_bind (wpAny_entryPlaceOf fun pl ip=>?_))
 unfold EntryCells.newEntry newFields
 refine wpAny_bind (wpAny_newObj_type ?_ (ip.sizeOk5 _ _ _ _ _))
 generalize hnew:({ cls:=.type "traceback",dict:=none,data:=.fields ([hd0,.ref L,.none,rawInt L,.none]++(if pl.isEmpty then List.replicate 6 Value.none else pl)).toArray }:Obj)=new
 have dnew:new.data=.fields ([hd0,.ref L,.none,rawInt L,.none]++(if pl.isEmpty then List.replicate 6 Value.none else pl)).toArray:=by rw [←hnew]
 have ge1:h1.get? e=some oe:=(so.2.1 e out).trans ge
 have st1:ground.StaysIn h1:=fun b o q=>(so.2.1 b fun z=>by rw [(ff.mem z).1] at q;cases q).trans (st b o q)
 have ge2:=Heap.get?_push_of_some (h:=h1) new ge1
 refine wpAny_setField ge2 de sz ?_
 have Te:h1.objs.size≠e:=Nat.ne_of_gt (Heap.lt_size ge1)
 have d3:=Obj.data_mapFields de (·.setIfInBounds 1 (Value.ref h1.objs.size))
 have ge3:=Heap.get?_update_self (Obj.mapFields (·.setIfInBounds 1 (Value.ref h1.objs.size))) ge2 (Obj.isFreed_of_fields d3)
 have gT:=(Heap.get?_update_other (h1.push new) (Obj.mapFields (·.setIfInBounds 1 (Value.ref h1.objs.size))) (Ne.symm Te)).trans (Heap.get?_push_size h1 (Obj.isFreed_of_fields dnew))
 have hold:∀ b o,b≠e→h1.get? b=some o→((h1.push new).update e (Obj.mapFields (·.setIfInBounds 1 (Value.ref h1.objs.size)))).get? b=some o:=fun b o n q=>by
  rw [Heap.get?_update_other _ _ (Ne.symm n)]
  exact Heap.get?_push_of_some _ q
 have apart:∀ b o,s.heap.get? b=some o→(∀ vs,o.data≠.fields vs)→b≠e:=fun b o q n z=>by
  rw [z,ge] at q
  cases q
  exact n fl de
 refine k _ h1.objs.size new _ (fun b o q=>hold b o (fun z=>by rw [z,ne] at q;cases q) (st1 b o q)) (ff.of_keeps fun b o q n=>?_) ge3 st1.fresh Te gT dnew (by simp only [List.size_toArray,List.length_append,List.length_cons,List.length_nil];lia) fun b o q n=>?_
 ·obtain ⟨sl,z⟩:=so.2.2 b o q
  exact ⟨_,hold b _ (apart b o q n) z,rfl⟩
 ·obtain ⟨sl,z⟩:=so.2.2 b o q
  exact ⟨sl,hold b _ (apart b o q n) z⟩
theorem mapFields_dict (o:Obj) (f:Array Value→Array Value):(o.mapFields f).dict=o.dict:=by
 obtain ⟨_,_,d,_⟩:=o
 cases d<;>rfl
structure Thr (X:Cx) (pins:List (Addr×Obj)) (H:Hp) (s:Shared) (e C:Addr) (dd:Option Addr):Prop where
 off:OffX X pins H s e
 ex:∃ oe vs,s.heap.get? e=some oe∧oe.cls=.ref C∧oe.dict=dd∧oe.data=.fields vs∧(vs[1]?=some .none∨∃ T oT ts,vs[1]?=some (.ref T)∧T≠e∧OffX X pins H s T∧s.heap.get? T=some oT∧oT.data=.fields ts∧ts[3]?=some .none)
def NewX (h0:Heap) (H':Hp) (h':Heap) (e C:Addr) (dd:Option Addr):Prop:=h0.get? e=none∧H' e=none∧∃ oe vs T oT ts,h'.get? e=some oe∧oe.cls=.ref C∧oe.dict=dd∧oe.data=.fields vs∧vs[1]?=some (.ref T)∧T≠e∧H' T=none∧h0.get? T=none∧h'.get? T=some oT∧oT.data=.fields ts∧ts[3]?=some .none
def CXZ (P:Program) (w:World):CXT:=fun outer H s E ev s'=>∃ e C dd H',ev=.ref e∧s'.os=s.os∧AllBare s'.gens∧Un (frs outer) [] H H' s.heap s'.heap∧HOk P w H' s'.heap∧NewX s.heap H' s'.heap e C dd∧E (.ref C) dd H'
theorem stk_in {l:List PySem.Env} {as:List Addr}:∀ env∈l,∀ a,env.frame=some a→a∈frs l++as:=fun env he a ha=>List.mem_append_left _ (List.mem_filterMap.mpr ⟨env,he,ha⟩)
section
variable {X:Cx} {pins:List (Addr×Obj)} {σ:St} {H:Hp} {s:Shared}
structure Cgt (X:Cx) (pins:List (Addr×Obj)) (σ:St) (H:Hp) (s:Shared) (e C:Addr) (dd:Option Addr) (lands:Bool):Prop where
 inv:Inv X pins σ H s
 off:OffX X pins H s e
 ex:∃ oe vs T oT ts,s.heap.get? e=some oe∧oe.cls=.ref C∧oe.dict=dd∧oe.data=.fields vs∧vs[1]?=some (.ref T)∧T≠e∧OffX X pins H s T∧s.heap.get? T=some oT∧oT.data=.fields ts∧3 < ts.size∧(lands=true→ts[3]?=some .none)
theorem note_thr {M:Model} {E:Value→Shared→Prop} {Q:Unit→Shared→Prop} {e C:Addr} {dd:Option Addr} (hex:X.ex=[]) (hst:X.stack=X.env :: X.outer) (hfl:X.env.frame=some X.env.locals) (I:Inv X pins σ H s) (t:Thr X pins H s e C dd)
  (k:∀ s',Cgt X pins σ H s' e C dd false→Q () s'):wpAny M X.A (noteFrame (.ref e) X.env) Q E s:=by
 obtain ⟨oe,vs,he,hcl,hdd,hd,h1⟩:=t.ex
 have hfr:X.A.frames=some (X.env :: X.outer):=by rw [←hst];exact I.ok.frames
 have stk:=I.stack
 rw [hst] at stk
 unfold noteFrame
 simp only [hfl]
 rcases h1 with h1 | ⟨T,oT,ts,h1,hTe,oT',gT,dT,h3⟩
 ·have off:∀ a∈[e],OffX X pins H s a:=fun a ha=>by rw [List.mem_singleton.mp ha];exact t.off
  refine wpAny_bind (wpAny_field he hd h1 ?_)
  rw [if_neg (by decide)]
  refine entryX (ground:=hideAll s.heap (frs (X.env :: X.outer)++[e])) hfr (funFrames_hide stk stk_in) hfl he (fun b o=>of_hideAll _) (hideAll_none _ (List.mem_append_right _ (List.mem_singleton.mpr rfl))) hd (Array.getElem?_eq_some_iff.mp h1).1 fun h' T' oT' ts' k1 k2 g1 g2 g3 g4 g5 g6 k4=>k _ ?_
  rw [←hst] at k1 k2 g2
  have J:=Inv.snap (t':=s.toks) I off k1 k4
  obtain ⟨n1,n2,n3⟩:=snap_new hex I off k2 g2 g4 g5
  have sz:=(Array.getElem?_eq_some_iff.mp h1).1
  exact ⟨J,⟨t.off.free,t.off.new,t.off.pin,_,_,g1,Obj.data_mapFields hd _⟩,_,_,T',oT',ts',g1,(Obj.cls_mapFields _ _).trans hcl,(mapFields_dict _ _).trans hdd,Obj.data_mapFields hd _,by simp [sz],g3,⟨n1,n2,n3,oT',ts',g4,g5⟩,g4,g5,g6,fun z=>nomatch z⟩
 ·have off:∀ a∈[e,T],OffX X pins H s a:=fun a ha=>by
   rcases List.mem_cons.mp ha with rfl | ha
   ·exact t.off
   ·rw [List.mem_singleton.mp ha];exact oT'
  refine wpAny_bind (wpAny_field he hd h1 ?_)
  rw [if_pos (show (Value.ref T != Value.none)=true from by simp)]
  refine wpAny_bind (wpAny_field gT dT h3 ?_)
  rw [if_neg (show ¬ ((Value.none==rawInt X.env.locals)=true) from by simp [rawInt])]
  refine wpAny_bind (wpAny_setField gT dT (Array.getElem?_eq_some_iff.mp h3).1 ?_)
  have other:∀ b,b≠T→(s.heap.update T (Obj.mapFields (·.setIfInBounds 3 Value.none))).get? b=s.heap.get? b:=fun b hb=>Heap.get?_update_other _ _ (Ne.symm hb)
  have apart:∀ b o,s.heap.get? b=some o→(∀ vs,o.data≠.fields vs)→b≠T:=fun b o q n z=>by
   rw [z,gT] at q
   cases q
   exact n ts dT
  have inT:T∈frs (X.env :: X.outer)++[e,T]:=List.mem_append_right _ (by simp)
  refine entryX (s:={ s with heap:=s.heap.update T (Obj.mapFields (·.setIfInBounds 3 Value.none)) }) (ground:=hideAll s.heap (frs (X.env :: X.outer)++[e,T])) hfr ((funFrames_hide stk stk_in).of_keeps fun b o q n=>⟨o,(other b (apart b o q n)).trans q,rfl⟩) hfl ((other e (Ne.symm hTe)).trans he)
   (fun b o q=>(other b (fun z=>by rw [z,hideAll_none _ inT] at q;cases q)).trans (of_hideAll _ q)) (hideAll_none _ (List.mem_append_right _ (by simp))) hd (Array.getElem?_eq_some_iff.mp h1).1 fun h' T' oT2 ts' k1 k2 g1 g2 g3 g4 g5 g6 k4=>k _ ?_
  rw [←hst] at k1 k2 g2
  have J:=Inv.snap (t':=s.toks) I off k1 fun b o q n=>k4 b o ((other b (apart b o q n)).trans q) n
  obtain ⟨n1,n2,n3⟩:=snap_new hex I off k2 g2 g4 g5
  have sz:=(Array.getElem?_eq_some_iff.mp h1).1
  exact ⟨J,⟨t.off.free,t.off.new,t.off.pin,_,_,g1,Obj.data_mapFields hd _⟩,_,_,T',oT2,ts',g1,(Obj.cls_mapFields _ _).trans hcl,(mapFields_dict _ _).trans hdd,Obj.data_mapFields hd _,by simp [sz],g3,⟨n1,n2,n3,oT2,ts',g4,g5⟩,g4,g5,g6,fun z=>nomatch z⟩
theorem land {M:Model} {A:Around} {E:Value→Shared→Prop} {Q:Unit→Shared→Prop} {e C:Addr} {dd:Option Addr} {l:Bool} (c:Cgt X pins σ H s e C dd l) (k:∀ s',Cgt X pins σ H s' e C dd true→Q () s'):wpAny M A (setFlight (.ref e) none) Q E s:=by
 obtain ⟨oe,vs,T,oT,ts,he,hcl,hdd,hd,h1,hTe,oT',gT,dT,h3,_⟩:=c.ex
 refine wpAny_setFlight_none he hd h1 gT dT h3 (k _ ?_)
 have other:∀ b o,b≠T→s.heap.get? b=some o→(s.heap.update T (Obj.mapFields (·.setIfInBounds 3 .none))).get? b=some o:=fun b o hb q=>(Heap.get?_update_other _ _ (Ne.symm hb)).trans q
 have gT2:=Heap.get?_update_self (Obj.mapFields (·.setIfInBounds 3 Value.none)) gT (Obj.isFreed_of_fields (Obj.data_mapFields dT _))
 have off:∀ a∈[T],OffX X pins H s a:=fun a ha=>by rw [List.mem_singleton.mp ha];exact oT'
 have J:Inv X pins σ H { s with heap:=s.heap.update T (Obj.mapFields (·.setIfInBounds 3 .none)) }:=Inv.snap (t':=s.toks) c.inv off (fun b o q=>by
   by_cases hb:b=T
   ·rw [hb,hideAll_none _ (List.mem_append_right _ (List.mem_singleton.mpr rfl))] at q;cases q
   ·exact other b o hb (of_hideAll _ q)) (fun b o q n=>⟨o.slots,other b o (fun z=>by rw [z,gT] at q;cases q;exact n ts dT) q⟩)
 have he2:=other e oe (Ne.symm hTe) he
 exact ⟨J,⟨c.off.free,c.off.new,c.off.pin,oe,vs,he2,hd⟩,oe,vs,T,_,_,he2,hcl,hdd,hd,h1,hTe,⟨oT'.free,oT'.new,oT'.pin,_,_,gT2,Obj.data_mapFields dT _⟩,gT2,Obj.data_mapFields dT _,by simpa using h3,fun _=>by simp [h3]⟩
end
theorem leave_thr {P:Program} {w:World} {K:PySem.W.Frag} {mg:Str→Option Value} {base:Heap} {N:List Str} {qual:Str} {scope:Scope} {f:Addr} {cd:Value} {A:Around} {outer:List PySem.Env} {s0:Shared} {H0:Hp} {E:XK} {pins:List (Addr×Obj)} {σ:St} {H:Hp} {s:Shared} {e C:Addr} {dd:Option Addr}
  (I:Inv (cxOf (CXZ P w) P w K mg base N qual scope f cd A outer s0 H0 E) pins σ H s) (t:Thr (cxOf (CXZ P w) P w K mg base N qual scope f cd A outer s0 H0 E) pins H s e C dd) (hE:E (.ref C) dd H) :
  (cxOf (CXZ P w) P w K mg base N qual scope f cd A outer s0 H0 E).xe (.ref e) s:=by
 show wpAny (model P w) (cxOf (CXZ P w) P w K mg base N qual scope f cd A outer s0 H0 E).A (leaving (cxOf (CXZ P w) P w K mg base N qual scope f cd A outer s0 H0 E).env (.ref e)) (fun _ s''=>CXZ P w outer H0 s0 E (.ref e) s'') _ s
 unfold leaving
 refine wpAny_bind (note_thr rfl rfl rfl I t fun s1 c1=>land c1 fun s2 c2=>?_)
 obtain ⟨oe,vs,T,oT,ts,q1,q2,qd,q3,q4,q5,q6,q7,q8,q9,q10⟩:=c2.ex
 exact ⟨e,C,dd,H,rfl,c2.inv.os,c2.inv.bare,c2.inv.base,c2.inv.hok,⟨c2.off.new,c2.off.free,oe,vs,T,oT,ts,q1,q2,qd,q3,q4,q5,q6.free,q6.new,q7,q8,q10 rfl⟩,hE⟩
theorem thr_of {X:Cx} {pins:List (Addr×Obj)} {σ:St} {H:Hp} {s s':Shared} {E:XK} {ev:Value} (hex:X.ex=[]) (I:Inv X pins σ H s) (c:CXZ X.prog X.w X.stack H s E ev s') :
  ∃ e C dd H',ev=.ref e∧Inv X pins σ H' s'∧Thr X pins H' s' e C dd∧E (.ref C) dd H':=by
 obtain ⟨e,C,dd,H',rfl,os,bare,un,hok,⟨ne,fe,oe,vs,T,oT,ts,q1,q2,qd,q3,q4,q5,q6,q7,q8,q9,q10⟩,hE⟩:=c
 have J:Inv X pins σ H' s':=I.call' (s':=s') os un hok bare fun b hb=>absurd hb (by simp)
 have ab:∀ a,s.heap.get? a=none→X.s₀.heap.get? a=none∧∀ p∈X.pn++pins,p.1≠a:=fun a h=>by
  rcases absent I h with z | z
  ·exact ⟨z.2,fun p hp q=>by rw [←q,(I.pin p hp).1] at h;cases h⟩
  ·rw [hex] at z;cases z
 exact ⟨e,C,dd,H',rfl,J,⟨⟨fe,(ab e ne).1,(ab e ne).2,oe,vs,q1,q3⟩,oe,vs,q1,q2,qd,q3,.inr ⟨T,oT,ts,q4,q5,⟨q6,(ab T q7).1,(ab T q7).2,oT,ts,q8,q9⟩,q8,q9,q10⟩⟩,hE⟩
theorem thr_new {X:Cx} {pins:List (Addr×Obj)} {σ:St} {H:Hp} {s:Shared} {h':Heap} {e C:Addr} {vs:List Value} (hex:X.ex=[]) (I:Inv X pins σ H s) (hm:Heap.MadeExcOf s.heap h' e (.ref C) vs) :
  Inv X pins σ H { s with heap:=h' }∧Thr X pins H { s with heap:=h' } e C none:=by
 have J:Inv X pins σ H { s with heap:=h' }:=I.kept (t':=s.toks) hm.keeps
 obtain ⟨t,ht,_,_⟩:=hm.there
 refine ⟨J,?_⟩
 rcases absent I hm.new with z | z
 ·exact ⟨⟨z.1,z.2,fun p hp q=>(by have:=(I.pin p hp).1;rw [q,hm.new] at this;cases this),_,_,ht,rfl⟩,_,_,ht,rfl,rfl,rfl,.inl rfl⟩
 ·rw [hex] at z;cases z
end ZS
namespace ZS
open PySem PySem.Spec PyProof.Rows L2 PySem.W
section
variable {X:Cx} {pins:List (Addr×Obj)} {σ:St} {H:Hp} {s:Shared}
theorem PW.nox {e:Expr} {t:TT} (h:PW X.nox e t):PW X e t:=fun whole pins s σ H Q I hw =>
 wpAny_mono (h whole pins s σ H Q (I.wish _) hw) (fun _ _ ⟨H',I',q⟩=>⟨H',I'.unwish,q⟩) fun _ _ z=>False.elim z
theorem PA.nox {es:List Expr} {t:TA} (h:PA X.nox es t):PA X es t:=fun pos pins s σ H Q I hw =>
 wpAny_mono (h pos pins s σ H Q (I.wish _) hw) (fun _ _ ⟨vs,H',I',r,q⟩=>⟨vs,H',I'.unwish,r,q⟩) fun _ _ z=>False.elim z
theorem PS.nox {st:Stmt} {t:TS} (h:PS X.nox st t):PS X st t:=fun pins s σ H D I hw =>
 wpAny_mono (h pins s σ H D (I.wish _) hw) (fun _ _ q=>q.unwish) fun _ _ z=>False.elim z
def XwE (X:Cx) (σ:St) (H:Hp) (c:Z.XN):Prop:=∀ pins H' s e C dd,Same H H'→XRel X.K H' c C dd→Inv X pins σ H' s→Thr X pins H' s e C dd→X.xe (.ref e) s
def Xw (X:Cx) (H0:Hp) (c:Z.XN):Prop:=∀ pins σ H' s e C dd,Same H0 H'→XRel X.K H' c C dd→Inv X pins σ H' s→Thr X pins H' s e C dd→X.xe (.ref e) s
theorem XwE.up {c:Z.XN} {H':Hp} (h:XwE X σ H c) (e:Same H H'):XwE X σ H' c:=fun pins H2 s a C dd sm=>h pins H2 s a C dd (e.trans sm)
def xR (X:Cx) (f:Z.XF) (σ:St) (H:Hp):Prop:=∃ ρ c,RE X.K H σ ρ∧f ρ=some c∧XwE X σ H c
abbrev XE (X:Cx) (e:Expr) (f:Z.XF):Prop:=PE X e (fun σ H _=>xR X f σ H)
abbrev XA (X:Cx) (es:List Expr) (f:Z.XF):Prop:=PA X es (fun σ H _=>xR X f σ H)
abbrev XT (X:Cx) (e:Expr) (f:Z.XF):Prop:=PT X e (fun σ H _=>xR X f σ H)
abbrev XR (X:Cx) (st:Stmt) (f:Z.XF):Prop:=PS X st (fun _ σ H=>xR X f σ H)
abbrev XRs (X:Cx) (sts:List Stmt) (f:Z.XF):Prop:=PSs X sts (fun _ σ H=>xR X f σ H)
def xS (X:Cx) (H0:Hp) (f:Z.XF) (σ:St) (H:Hp):Prop:=∃ ρ c,RS X.K H0 H σ ρ∧f ρ=some c∧Xw X H0 c
abbrev XS (X:Cx) (H0:Hp) (st:Stmt) (f:Z.XF):Prop:=PS X st (fun _ σ H=>xS X H0 f σ H)
abbrev XSs (X:Cx) (H0:Hp) (sts:List Stmt) (f:Z.XF):Prop:=PSs X sts (fun _ σ H=>xS X H0 f σ H)
theorem xS.r {H0:Hp} {f:Z.XF} (h:xS X H0 f σ H):xR X f σ H:=by
 obtain ⟨ρ,c,rs,e,k⟩:=h
 exact ⟨ρ,c,rs.re,e,fun pins H' s a C dd sm=>k pins σ H' s a C dd (rs.same.trans sm)⟩
end
def ClsO (C:Addr) (h:Heap):Prop:=∃ (tl:List Value) (ns:Addr) (nm qn:Str) (bs:List Value) (hd:Bool) (sn:List Str) (sub:List Value) (ab:Bool) (col:Option Bool) (dd:Option Addr) (s0 s1 s2 s3 s5:Option Value),
 h.get? C=some (excClassObj nm qn C ns bs tl hd sn sub ab col dd s0 s1 s2 s3 s5 "ValueError.__new__")∧tl.contains (.type "BaseException")=true
theorem clsO {K : PySem.W.Frag} {c : List Nat} {C : Addr} {h : Heap} (X : K.In h) (xc : XC K c C) : ClsO C h := by
 have q:=xc.2
 unfold xcIn at q
 split at q
 ·rename_i dd cd sl ho
  split at q
  ·rename_i C' tl s0 s1 s2 s3 id s5 e1 e2
   simp only [Bool.and_eq_true,beq_iff_eq,Bool.not_eq_true'] at q
   obtain ⟨⟨⟨rfl,rfl⟩,r1⟩,r2⟩:=q
   cases cd
   dsimp only at e1 r1
   subst e1 r1
   obtain rfl:sl=#[s0,s1,s2,s3,some (.builtin "ValueError.__new__"),s5]:=by
    cases sl
    simp only at e2
    rw [e2]
   exact ⟨tl,_,_,_,_,_,_,_,_,_,dd,s0,s1,s2,s3,s5,X _ _ ho,r2⟩
  ·cases q
 ·cases q
def ClsI (C:Addr) (h:Heap):Prop:=∃ (tl:List Value) (ns:Addr) (nm qn:Str) (bs:List Value) (hd:Bool) (sn:List Str) (sub:List Value) (ab:Bool) (col:Option Bool) (dd:Option Addr) (s0 s1 s2 s3 s5:Option Value) (mN:Str→Option Value),
 h.get? C=some (excClassObj nm qn C ns bs tl hd sn sub ab col dd s0 s1 s2 s3 s5 "ValueError.__new__")∧h.Ns ns mN∧mN "__init__" = none∧OwnTail h [.type "ValueError",.type "Exception",.type "BaseException",.type "object"] tl
theorem clsI {K : PySem.W.Frag} {C : Addr} {h : Heap} (X : K.In h) (q : excIn K C [.type "ValueError", .type "Exception", .type "BaseException", .type "object"] "ValueError.__new__" = true) : ClsI C h := by
 unfold excIn at q
 split at q
 ·rename_i dd cd sl ho
  split at q
  ·rename_i C' tl s0 s1 s2 s3 id s5 e1 e2
   simp only [Bool.and_eq_true,beq_iff_eq,Bool.not_eq_true'] at q
   obtain ⟨⟨⟨⟨⟨rfl,rfl⟩,r1⟩,r2⟩,r3⟩,r4⟩:=q
   cases cd
   dsimp only at e1 r1 r3 r4
   subst e1 r1
   obtain rfl:sl=#[s0,s1,s2,s3,some (.builtin "ValueError.__new__"),s5]:=by
    cases sl
    simp only at e2
    rw [e2]
   exact ⟨tl,_,_,_,_,_,_,_,_,_,dd,s0,s1,s2,s3,s5,_,X _ _ ho,.of_isNs (isNs_of_in X r3),nsMap_none_of_in X r3 r4,tail_of_in X r2⟩
  ·cases q
 ·cases q
def spR (K:PySem.W.Frag) (m:List Z.D→Option Z.XN):Sp:=fun vs H _ E=>∃ ds c,Dens K H ds vs∧m ds=some c∧∀ C dd H',Same H H'→XRel K H' c C dd→E (.ref C) dd H'
structure CalX (P:Program) (w:World) (K:PySem.W.Frag) (mg:Str→Option Value) (base:Heap) (x:Str) (k:Nat) (ps:List Str) (m:List Z.D→Option Z.XN):Prop where
 ex:∃ g fd,FnOk P w K mg base (CXZ P w) k g fd ps (spR K m)∧mg x=some (.ref g)∧PySem.W.keepIn K (.ref g)=true∧Binds K fd ps []
section
variable {X:Cx} {e a:Expr} {es:List Expr} {pos:Pos} {f:Z.XF}
section
variable {H0:Hp} {st:Stmt} {sts:List Stmt} {g u:Z.SF} {xa xb:Z.XF}
theorem xs_set {i:Nat} {x:Str} {pos':Pos} (hN:X.N.Nodup) (hi:X.N[i]?=some x) (hx:Loc X.env.scope x) (h:XE X a f) (hs:swapsWith a (some (.Name x pos')) pos.line X.env=pure false:=by rfl) (hf:X.fn x=true∨X.env.scope.names.lookup x=some .local:=by first | exact .inl rfl | exact .inr rfl | assumption):XS X H0 (.Assign [.Name x pos'] a pos) f :=
 PS.imp (ps_set hN hi hx h hs hf) fun D σ H q=>q.r
theorem xs_ret (h:XE X a f):XS X H0 (.Return (some a) pos) f:=PS.imp (ps_ret h) fun D σ H q=>q.r
theorem xr_drop (h:XE X a f) (hs:swapsWith a none pos.line X.env=pure false:=by rfl):XR X (.Expr a pos) f:=ps_expr h hs
theorem xs_if {c:Expr} {b1 b2:List Stmt} {t:Z.TF} (hc:DT X.nox c t) (h1:XSs X H0 b1 xa) (h2:XSs X H0 b2 xb):XS X H0 (.If c b1 b2 pos) (Z.xIf t xa xb):=PS.imp (ps_if (PT.nox hc) h1 h2) fun D σ H ⟨ρ,c,rs,ec,kw⟩=>by
 unfold Z.xIf at ec
 split at ec
 ·rename_i b eb
  refine ⟨ρ,b,rs.re,eb,fun H1 s1=>?_⟩
  cases b with
  | true=>exact ⟨ρ,c,rs.up s1,by simpa using ec,kw⟩
  | false=>exact ⟨ρ,c,rs.up s1,by simpa using ec,kw⟩
 ·cases ec
theorem xr_if {c:Expr} {b1 b2:List Stmt} {t:Z.TF} (hc:DT X.nox c t) (h1:XRs X b1 xa) (h2:XRs X b2 xb):XR X (.If c b1 b2 pos) (Z.xIf t xa xb):=PS.imp (ps_if (PT.nox hc) h1 h2) fun D σ H ⟨ρ,c,re,ec,kw⟩=>by
 unfold Z.xIf at ec
 split at ec
 ·rename_i b eb
  refine ⟨ρ,b,re,eb,fun H1 s1=>?_⟩
  cases b with
  | true=>exact ⟨ρ,c,re.up s1,by simpa using ec,kw.up s1⟩
  | false=>exact ⟨ρ,c,re.up s1,by simpa using ec,kw.up s1⟩
 ·cases ec
theorem xs_no:XS X H0 st Z.xNo:=fun _ _ _ _ _ _ ⟨_,_,_,e,_⟩=>nomatch e
theorem xss_no:XSs X H0 sts Z.xNo:=fun _ _ _ _ _ _ ⟨_,_,_,e,_⟩=>nomatch e
theorem xss_one (h:XS X H0 st f):XSs X H0 [st] f:=pss_one h
theorem xrs_one (h:XR X st f):XRs X [st] f:=pss_one h
theorem xss_cons (h1:DS X.nox H0 st g) (x1:XS X H0 st xa) (x2:XSs X H0 sts xb):XSs X H0 (st :: sts) (Z.xSeq g xa xb):=by
 intro pins s σ H D I h
 obtain ⟨ρ,c,rs,ec,kw⟩:=h
 unfold Z.xSeq at ec
 split at ec
 ·rename_i c' e1
  cases ec
  exact pss_cons x1 x2 pins s σ H D I ⟨ρ,c,rs,e1,kw⟩
 ·split at ec
  ·rename_i ρ' e2
   refine pss_cons (PS.nox h1) x2 pins s σ H D I ⟨ρ,_,rs,e2,fun σ' H' _ rs'=>⟨ρ',c,rs',ec,kw⟩⟩
  ·cases ec
theorem xs_raise {x:Str} {c:List Nat} {C:Addr} {fa:Z.EF} {np cpos:Pos} (hc:X.calm=true) (hex:X.ex=[]) (hg:Gl X x) (hcx:(⟨c.toArray⟩:Str)=x) (xc:XC X.K c C) (xi:excIn X.K C [.type "ValueError",.type "Exception",.type "BaseException",.type "object"] "ValueError.__new__" = true) (ha:DE X.nox a fa)
  (hdb:(x==("__debug__" : Str))=false:=by decide +kernel) (he:starEach (a :: []) X.env=(false,eval a X.env) :: starEach [] X.env:=by rfl) (hpl:(backTo cpos (starEach (a :: []) X.env)).any (·.1)=false:=by rfl) :
  XS X H0 (.Raise (some (.Call (.Name x np) [a] [] cpos)) none pos) (Z.xRaise c fa):=by
 intro pins s σ H D I h
 obtain ⟨ρ,c',rs,ec,kw⟩:=h
 unfold Z.xRaise at ec
 split at ec
 ·rename_i d ed
  cases ec
  have hm:X.mg x=some (.ref C):=by
   have:=PySem.W.mg_of (mg:=X.mg) (h:=s.heap) I.kIn (I.mod.glob.keeps I.bk) xc.1
   rw [hcx] at this;exact this
  obtain ⟨tl,ns,nm,qn,bs,hd,sn,sub,ab,col,dd,s0,s1,s2,s3,s5,mN,hC,hN,hni,T⟩:=clsI I.mod.kin xi
  refine wpAny_Raise_call_subT (C:=C) (nm:=nm) (q:=qn) (N:=ns) (bs:=bs) (bm:=tl) (hdct:=hd) (sn:=sn) (sub:=sub) (ab:=ab) (col:=col) (dd:=dd) (k0:=s0) (k1:=s1) (k2:=s2) (k3:=s3) (k5:=s5)
   F.excBase_ValueError (mN:=mN) (T.hasType F.excBase_ValueError.hasBase) (I.ok.hd hc) hpl hni (ld_glob I hg hm ⟨rfl,?_⟩ hdb)
  have P:=pa_cons (PE.nox ha) pa_nil he cpos pins s σ H (fun vs H1=>Same H H1∧vs.length=1) I ⟨ρ,d,rs.re,ed,fun v H1 s1 d1=>⟨s1,rfl⟩⟩
  rw [he] at P ⊢
  refine Calls.evalArgs_plain (wpAny_mono P (fun us s1 ⟨vs,H1,I1,r,sm,hl⟩=>⟨rfl,?_,I1.bk _ _ hC,hN.keeps I1.bk,T.keeps I1.bk,fun h' ex hmk=>?_⟩) fun _ _ z=>z)
  ·show us.length≤sizeLine
   rw [←r.length,hl,sizeLine_eq];decide
  ·obtain ⟨J,th⟩:=thr_new hex I1 hmk
   exact kw pins σ H1 _ ex C none (rs.same.trans sm) ⟨xc,rfl⟩ J th
 ·cases ec
end
end
end ZS
namespace ZS
open PySem PySem.Spec PyProof.Rows L2 PySem.W
section
variable {P:Program} {w:World} {K:PySem.W.Frag} {mg:Str→Option Value} {base:Heap}
theorem fnX {f:Addr} {name qual:Str} {st:Stmt} {dV kV doc pm cdv ct oc:Value} {an od:Option Addr} {osl:Array (Option Value)} {N ps:List Str} {k:Nat} {xb:Z.XF}
  (lk:K.lookup f=some ⟨oc,od,.func (PySem.W.fnOf name qual (defArgs st) (defBody st) (defScope st) dV kV doc pm an cdv ct),osl⟩) (hcd:PySem.W.codeIn K cdv qual=true) (S:FnScope N ps (defScope st))
  (hb:∀ (A:Around) (outer:List PySem.Env) (s:Shared) (H:Hp) (E:XK),Room k (A.deeper (envOfC qual (defScope st) s.heap.objs.size f cdv)) →
   XSs (cxOf (CXZ P w) P w K mg base N qual (defScope st) f cdv A outer s H E) H (defBody st) xb):FnOk P w K mg base (CXZ P w) (k+1) f (PySem.W.fnOf name qual (defArgs st) (defBody st) (defScope st) dV kV doc pm an cdv ct) ps (spR K (Z.fx ps.length N.length xb)):=by
 have hlen:∀ (vs:List V) (H:Hp) (Q:VK) (E:XK),spR K (Z.fx ps.length N.length xb) vs H Q E→vs.length=ps.length:=fun vs H Q E ⟨ds,d,t,e,_⟩=>by
  unfold Z.fx at e
  split at e
  ·rename_i h;rw [t.length];exact h
  ·cases e
 refine fn_of lk hcd S hlen fun A outer s H vs Q E hr h=>?_
 refine ⟨_,hb A outer s H E hr,?_⟩
 have hl:=hlen vs H Q E h
 obtain ⟨ds,c,t,e,k⟩:=h
 have hpl:ps.length≤N.length:=by have:=congrArg List.length S.pre;rw [List.length_take] at this;lia
 have rs:RS K H H (L2.start N vs) (Z.start N.length ds):=start_get t (by lia)
 unfold Z.fx at e
 split at e
 ·exact ⟨_,c,rs,e,fun pins σ H' s' a C dd sm xc I th=>leave_thr I th (k C dd H' sm xc)⟩
 ·cases e
theorem CalX.mk' {x:Str} {k:Nat} {st:Stmt} {N ps:List Str} {xb:Z.XF} (d:Def K mg x st ps) (S:FnScope N ps (defScope st))
  (hb:∀ (f:Addr) (cdv:Value) (A:Around) (outer:List PySem.Env) (s:Shared) (H:Hp) (E:XK),Room k (A.deeper (envOfC x (defScope st) s.heap.objs.size f cdv)) →
   XSs (cxOf (CXZ P w) P w K mg base N x (defScope st) f cdv A outer s H E) H (defBody st) xb):CalX P w K mg base x (k+1) ps (Z.fx ps.length N.length xb):=by
 obtain ⟨f,fd,F,hm,hb'⟩:=d.ex
 have kp:=F.kp
 obtain ⟨oc,od,kV,doc,pm,an,cdv,ct,osl,rfl,lk,hcd⟩:=F.ex
 exact ⟨f,_,fnX lk hcd S (hb f cdv),hm,kp,hb'⟩
end
section
variable {X:Cx} {pins:List (Addr×Obj)} {σ:St} {H:Hp} {s:Shared}
theorem RS.setX {K : PySem.W.Frag} {H0 H : Hp} {σ : St} {ρ : Z.Env} {i : Nat} {c : Z.XN} {v : V} (h : RS K H0 H σ ρ) (hd : RL K H (.exc c) v) : RS K H0 H (σ.set i (some v)) (ρ.set i (some (.exc c))) := by
 have getσ:∀ (j:Nat),i≠j→(σ.set i (some v))[j]?=σ[j]?:=fun j hj=>List.getElem?_set_ne hj
 refine ⟨h.same,⟨by simp [h.re.len],fun j l e=>?_,fun j k xs ys q e1 e2 e3 e4=>?_⟩,fun j xs q e1 e2=>?_,fun j xs e1=>?_,h.dic.set fun _ z=>nomatch z⟩
 ·rcases set_cases e with ⟨rfl,hl,e⟩ | ⟨hj,e⟩
  ·cases e
   exact ⟨v,List.getElem?_set_self (by rw [←h.re.len];exact hl),hd⟩
  ·rw [getσ j hj];exact h.re.get j l e
 ·rcases set_cases e1 with ⟨_,_,e⟩ | ⟨hj,e1⟩
  ·cases e
  ·rcases set_cases e2 with ⟨_,_,e⟩ | ⟨hk,e2⟩
   ·cases e
   ·rw [getσ j hj] at e3
    rw [getσ k hk] at e4
    exact h.re.sep j k xs ys q e1 e2 e3 e4
 ·rcases set_cases e1 with ⟨_,_,e⟩ | ⟨hj,e1⟩
  ·cases e
  ·rw [getσ j hj] at e2
   exact h.fresh j xs q e1 e2
 ·rcases set_cases e1 with ⟨_,_,e⟩ | ⟨hj,e1⟩
  ·cases e
  ·rw [getσ j hj]
   exact h.bors j xs e1
theorem DicOk.setN {H0:Hp} {σ:St} {ρ:Z.Env} {i:Nat} (h:DicOk H0 σ ρ):DicOk H0 (σ.set i none) (ρ.set i none):=by
 have g1:∀ {j:Nat} {l:Z.L},(ρ.set i none)[j]?=some (some l)→i≠j∧ρ[j]?=some (some l):=fun {j l} e=>by
  rcases set_cases e with ⟨_,_,e⟩ | z
  ·cases e
  ·exact z
 have g2:∀ {j:Nat},i≠j→(σ.set i none)[j]?=σ[j]?:=fun {j} hj=>List.getElem?_set_ne hj
 refine ⟨fun j k ks ls q e1 e2 e3 e4=>?_,fun j ks q e1 e2=>?_⟩
 ·obtain ⟨n1,e1⟩:=g1 e1
  obtain ⟨n2,e2⟩:=g1 e2
  rw [g2 n1] at e3
  rw [g2 n2] at e4
  exact h.1 j k ks ls q e1 e2 e3 e4
 ·obtain ⟨n1,e1⟩:=g1 e1
  rw [g2 n1] at e2
  exact h.2 j ks q e1 e2
theorem RS.setN {K:PySem.W.Frag} {H0 H:Hp} {σ:St} {ρ:Z.Env} {i:Nat} (h:RS K H0 H σ ρ):RS K H0 H (σ.set i none) (ρ.set i none):=by
 have g1:∀ {j:Nat} {l:Z.L},(ρ.set i none)[j]?=some (some l)→i≠j∧ρ[j]?=some (some l):=fun {j l} e=>by
  rcases set_cases e with ⟨_,_,e⟩ | z
  ·cases e
  ·exact z
 have g2:∀ {j:Nat},i≠j→(σ.set i none)[j]?=σ[j]?:=fun {j} hj=>List.getElem?_set_ne hj
 refine ⟨h.same,⟨by simp [h.re.len],fun j l e=>?_,fun j k xs ys q e1 e2 e3 e4=>?_⟩,fun j xs q e1 e2=>?_,fun j xs e1=>?_,h.dic.setN⟩
 ·obtain ⟨n,e⟩:=g1 e
  rw [g2 n];exact h.re.get j l e
 ·obtain ⟨n1,e1⟩:=g1 e1
  obtain ⟨n2,e2⟩:=g1 e2
  rw [g2 n1] at e3
  rw [g2 n2] at e4
  exact h.re.sep j k xs ys q e1 e2 e3 e4
 ·obtain ⟨n,e1⟩:=g1 e1
  rw [g2 n] at e2
  exact h.fresh j xs q e1 e2
 ·obtain ⟨n,e1⟩:=g1 e1
  rw [g2 n]
  exact h.bors j xs e1
theorem Cgt.track {e C:Addr} {dd:Option Addr} {l:Bool} (c:Cgt X pins σ H s e C dd l):∃ oe u,oe.cls=.ref C∧oe.dict=dd∧(∃ vs,oe.data=.fields vs)∧H e=none∧Inv X pins σ (upd H e (.frz oe u)) s:=by
 obtain ⟨oe,vs,T,oT,ts,he,hcl,hdd,hd,h1,hTe,oT',gT,dT,h3,_⟩:=c.ex
 have I:=c.inv
 have ne:∀ b u,H b=some u→b≠e:=fun b u q=>ne_of_none q c.off.free
 refine ⟨oe,.ext (fun _=>True),hcl,hdd,⟨vs,hd⟩,c.off.free,?_⟩
 have J:=stepX (g':=s.gens) (t':=s.toks) (d':=s.drawn) (h':=s.heap) (H':=upd H e (.frz oe (.ext fun _=>True))) (ch:=[e]) I (fun b hb=>by rw [List.mem_singleton.mp hb];exact ⟨c.off.new,c.off.loc I,c.off.cell I,c.off.pin⟩) (fun b o _ _ _ q _=>q) (fun b o _ _ _ q _=>⟨o.slots,q⟩)
  (fun b o hb q n=>by rw [upd_ne (fun z=>hb (List.mem_singleton.mpr z))];exact n) (fun b o _ q=>⟨o,q⟩) (fun b xs q=>by rw [upd_ne (ne b _ q)];exact q) (fun b o u q=>by rw [upd_ne (ne b _ q)];exact q) (fun b u _ q=>by rw [upd_ne (ne b _ q)];exact q) (fun m hm=>hm) (fun b u q=>?_) I.bare
 ·exact J
 ·by_cases hb:b=e
  ·subst hb
   rw [upd_same] at q;cases q
   exact ⟨he,trivial,⟨oe,he⟩,fun _ _ _ _=>trivial⟩
  ·rw [upd_ne hb] at q
   exact (I.hok b u q).stay (fun c v _ z=>z) (fun c z=>by rw [upd_ne (ne c _ z)];exact z) (fun c xs z=>by rw [upd_ne (ne c _ z)];exact z) fun c v _ z=>by rw [upd_ne (ne c _ z)];exact z
theorem name_goes {M:Model} {A:Around} {E:Value→Shared→Prop} {Q:Unit→Shared→Prop} {n:Str} {i:Nat} {pos:Pos} (hN:X.N.Nodup) (hi:X.N[i]?=some n) (hl:X.env.scope.names.lookup n=some .local) (I:Inv X pins σ H s)
  (k:∀ s',Inv X pins (σ.set i none) H s'→Q () s'):wpAny M A (do bindName X.env n .none;unbindBehindTheSuite X.env n pos) Q E s:=by
 obtain ⟨m,hn,hlk⟩:=id I.loc
 obtain ⟨oL,_,_,hoL,_⟩:=id hn
 refine wpAny_nameGoes_keeps hl hn (by rw [I.ok.kind];rfl) fun h' v hn' hs=>k _ ?_
 have lt:∀ b o,X.s₀.heap.get? b=some o→b≠X.env.locals:=fun b o e=>Nat.ne_of_lt (Nat.lt_of_lt_of_le (Heap.lt_size e) I.ok.above)
 refine ⟨I.ok,I.os,I.bare,⟨fun b o e n hb hx=>(hs.2 b (lt b o e)).trans (I.base.keep b o e n hb hx),fun b o e n hb hx=>?_,I.base.free,fun b o e hx=>?_,I.base.tups,I.base.frzs,I.base.tbls⟩,⟨_,hn',fun j y v' e1 e2 e3=>?_⟩,fun y c e=>?_,I.free,I.freeC,fun p hp=>?_,fun b u e=>?_,by simpa using I.len,I.tab⟩
 ·obtain ⟨sl,e1⟩:=I.base.slot b o e n hb hx
  exact ⟨sl,(hs.2 b (lt b o e)).trans e1⟩
 ·obtain ⟨o',e1⟩:=I.base.there b o e hx
  exact ⟨o',(hs.2 b (lt b o e)).trans e1⟩
 ·have hj:j≠i:=fun z=>by
   subst z
   rcases set_cases e2 with ⟨_,_,e⟩ | ⟨n,_⟩
   ·cases e
   ·exact n rfl
  rw [List.getElem?_set_ne (Ne.symm hj)] at e2
  obtain ⟨u',r',q⟩:=hlk j y v' e1 e2 e3
  refine ⟨u',r',?_⟩
  rcases q with ⟨k,e⟩ | ⟨k,c,e,z⟩
  ·refine .inl ⟨k,?_⟩
   have:y≠n:=fun e=>hj (nodup_ix hN e1 (e▸hi))
   simp [this,e]
  ·exact .inr ⟨k,c,e,z.sameBut hs (I.cne y c e)⟩
 ·obtain ⟨w',z⟩:=I.cell y c e
  exact ⟨w',z.sameBut hs (I.cne y c e)⟩
 ·obtain ⟨e,n,ne,nf,d⟩:=I.pin p hp
  exact ⟨(hs.2 p.1 ne).trans e,n,ne,nf,d⟩
 ·refine (I.hok b u e).stay (fun c v hc q=>(hs.2 c ?_).trans q) (fun _ q=>q) (fun _ _ q=>q) fun _ _ _ q=>q
  rintro rfl
  rcases hc with rfl | hc
  ·rw [I.free] at e;cases e
  ·rw [I.free] at hc;cases hc
end
end ZS
namespace ZS
open PySem PySem.Spec PyProof.Rows L2 PySem.W
abbrev tryX (X:Cx) (pn:List (Addr×Obj)) (E:Value→Shared→Prop):Cx:={ X with pn:=pn,xe:=E }
abbrev hanX (X:Cx) (ev:Value):Cx:={ X with A:=X.A.mark (some ev),calm:=false }
theorem ok_try {X:Cx} (ok:X.Ok) (pn:List (Addr×Obj)) (E:Value→Shared→Prop):(tryX X pn E).Ok :=
 ⟨ok.mod,ok.kind,ok.glob,ok.blt,ok.above,ok.inj,ok.has,ok.cab,ok.hd,ok.frames,ok.stk,ok.exf,ok.bs,ok.bsz,ok.noex,ok.exfs,ok.funs,ok.frf⟩
theorem ok_han {X:Cx} (ok:X.Ok) (ev:Value):(hanX X ev).Ok :=
 ⟨ok.mod,ok.kind,ok.glob,ok.blt,ok.above,ok.inj,ok.has,ok.cab,fun z=>(nomatch z),ok.frames,ok.stk,ok.exf,ok.bs,ok.bsz,ok.noex,ok.exfs,ok.funs,ok.frf⟩
section
variable {X:Cx} {pins:List (Addr×Obj)} {σ:St} {H:Hp} {s:Shared}
theorem inv_try (I:Inv X pins σ H s) (E:Value→Shared→Prop):Inv (tryX X (X.pn++pins) E) [] σ H s:=⟨ok_try I.ok _ E,I.os,I.bare,I.base,I.loc,I.cell,I.free,I.freeC,fun p hp=>I.pin p (by simpa using hp),I.hok,I.len,I.tab⟩
theorem inv_of_try {E:Value→Shared→Prop} {pins':List (Addr×Obj)} (ok:X.Ok) (I:Inv (tryX X (X.pn++pins) E) pins' σ H s):Inv X pins σ H s:=⟨ok,I.os,I.bare,I.base,I.loc,I.cell,I.free,I.freeC,fun p hp=>I.pin p (List.mem_append_left _ hp),I.hok,I.len,I.tab⟩
theorem off_of_try {E:Value→Shared→Prop} {pins':List (Addr×Obj)} {a:Addr} (o:OffX (tryX X (X.pn++pins) E) pins' H s a):OffX X pins H s a:=⟨o.free,o.new,fun p hp=>o.pin p (List.mem_append_left _ hp),o.isr⟩
theorem thr_of_try {E:Value→Shared→Prop} {pins':List (Addr×Obj)} {e C:Addr} {dd:Option Addr} (t:Thr (tryX X (X.pn++pins) E) pins' H s e C dd):Thr X pins H s e C dd:=by
 obtain ⟨oe,vs,he,hcl,hdd,hd,h1⟩:=t.ex
 refine ⟨off_of_try t.off,oe,vs,he,hcl,hdd,hd,?_⟩
 rcases h1 with h1 | ⟨T,oT,ts,h1,h2,h3,h4⟩
 ·exact .inl h1
 ·exact .inr ⟨T,oT,ts,h1,h2,off_of_try h3,h4⟩
theorem inv_han (I:Inv X pins σ H s) (ev:Value):Inv (hanX X ev).nox pins σ H s:=⟨(ok_han I.ok ev).wish _,I.os,I.bare,I.base,I.loc,I.cell,I.free,I.freeC,I.pin,I.hok,I.len,I.tab⟩
theorem inv_of_han {ev:Value} (ok:X.Ok) (I:Inv (hanX X ev).nox pins σ H s):Inv X pins σ H s:=⟨ok,I.os,I.bare,I.base,I.loc,I.cell,I.free,I.freeC,I.pin,I.hok,I.len,I.tab⟩
theorem ld_globA {M:Model} {A:Around} {E:Value→Shared→Prop} {x:Str} {u:Value} {pos:Pos} {Q:Value→Shared→Prop} (I:Inv X pins σ H s) (hg:Gl X x) (hm:X.mg x=some u) (h:Q u s)
  (hd:(x==("__debug__" : Str))=false):wpAny M A (eval (.Name x pos) X.env) Q E s :=
 Calls.Name_function_global I.ok.kind hg (Calls.loadGlobal_global (by rw [I.ok.glob];exact I.mod.glob.keeps I.bk) hm h) hd
end
section
variable {X:Cx} {H0:Hp}
theorem ds_try {body suite : List Stmt} {b0 : Stmt} {x n : Str} {np hpos pos : Pos} {c : List Nat} {i : Nat} {g h : Z.SF} {xb : Z.XF} (hex : X.ex = []) (hst : X.stack = X.env :: X.outer) (hfl : X.env.frame = some X.env.locals)
  (hN:X.N.Nodup) (hi:X.N[i]?=some n) (hl:X.env.scope.names.lookup n=some .local) (hg:Gl X x) (hcx:(⟨c.toArray⟩:Str)=x)
  (hb:DSs X.nox H0 body g) (hxb:∀ pn E,XRs (tryX X pn E) body xb) (hh:∀ ev,DSs (hanX X ev).nox H0 (b0 :: suite) h) (hdb:(x==("__debug__" : Str))=false:=by decide +kernel) :
  DS X H0 (.Try body [.ExceptHandler (some (.Name x np)) (some n) (b0 :: suite) hpos] [] [] pos) (Z.sTry g xb c i h):=by
 intro pins s σ H D I hyp
 obtain ⟨ρ,fl,rs,e,k⟩:=hyp
 refine wpAny_Try_except ?_
 unfold Z.sTry at e
 split at e
 ·rename_i c' ec
  split at e
  ·rename_i hc'
   subst hc'
   refine wpAny_mono (hxb (X.pn++pins) _ [] s σ H { nx:=fun _ _=>False,rt:=fun _ _=>False } (inv_try I _) ⟨ρ,c',rs.re,ec,fun pins' H' s' ex C dd sm xr J1 th1=>?_⟩) (fun f s1 q=>?_) fun _ _ z=>z
   rotate_left
   ·cases f with
    | next=>obtain ⟨_,_,_,z⟩:=q;exact z.elim
    | brk=>obtain ⟨_,_,_,z⟩:=q;exact z.elim
    | cont=>obtain ⟨_,_,_,z⟩:=q;exact z.elim
    | ret u=>obtain ⟨_,_,_,_,_,z⟩:=q;exact z.elim
   have J:=inv_of_try I.ok J1
   have xr:XRel X.K H' c' C dd:=xr
   have xc:XC X.K c'.1 C:=xr.1
   have hm:X.mg x=some (.ref C):=by
    have:=PySem.W.mg_of (mg:=X.mg) (h:=s'.heap) J.kIn (J.mod.glob.keeps J.bk) xc.1
    rw [hcx] at this;exact this
   refine note_thr hex hst hfl J (thr_of_try th1) fun s2 c2=>land c2 fun s3 c3=>?_
   obtain ⟨tl,ns,nm,qn,bs,hd,sn,sub,ab,col,dd',s0',s1',s2',s3',s5',hC,hbs⟩:=clsO c3.inv.kIn xc
   obtain ⟨oe,vs,_,_,_,he,hcl,_⟩:=c3.ex
   refine wpAny_handleBy_cons (codeAny_handlers_test (ld_globA c3.inv hg hm ?_ hdb)) (by intro q;cases q)
   refine wpAny_excMatches_sub_self hC he hcl hbs ?_
   refine codeAny_handlers_suite_as (land c3 fun s4 c4=>?_)
   obtain ⟨oe4,u4,hcl4,hdd4,hda4,fe,I4⟩:=c4.track
   refine store_ok I4 hN hi (.inl hl) (show RelV (.ref ex) (.ref ex) from rfl) (fun s5 I5=>?_) (.inr hl)
   have sm5:Same H (upd H' ex (.frz oe4 u4)):=sm.trans (upd_Same fe)
   have rs5:RS X.K H0 (upd H' ex (.frz oe4 u4)) (σ.set i (some (.ref ex))) (ρ.set i (some (.exc c'))):=(rs.up sm5).setX ⟨ex,oe4,u4,C,rfl,upd_same,hcl4,hda4,by rw [hdd4];exact xr.ups (stb (upd_Same fe))⟩
   split at e
   ·rename_i ρ' eh
    cases e
    refine wpAny_mono (hh (.ref ex) pins s5 _ _ { nx:=fun σ' H2=>D.nx (σ'.set i none) H2,rt:=fun _ _=>False } (inv_han I5 _) ⟨_,.nx ρ',rs5,eh,fun σ' H2 st rs'=>k (σ'.set i none) H2 ((stb sm5).trans st) rs'.setN⟩) (fun f s6 q=>?_) fun _ _ z=>z.elim
    cases f with
    | next =>
     obtain ⟨σ',H2,I6,q⟩:=q
     exact name_goes hN hi hl (inv_of_han I.ok I6) fun s7 I7=>⟨_,H2,I7,q⟩
    | brk=>obtain ⟨_,_,_,z⟩:=q;exact z.elim
    | cont=>obtain ⟨_,_,_,z⟩:=q;exact z.elim
    | ret u=>obtain ⟨_,_,_,_,_,z⟩:=q;exact z.elim
   ·rename_i d eh
    cases e
    refine wpAny_mono (hh (.ref ex) pins s5 _ _ { nx:=fun _ _=>False,rt:=D.rt } (inv_han I5 _) ⟨_,.rt d,rs5,eh,k⟩) (fun f s6 q=>?_) fun _ _ z=>z.elim
    cases f with
    | next=>obtain ⟨_,_,_,z⟩:=q;exact z.elim
    | brk=>obtain ⟨_,_,_,z⟩:=q;exact z.elim
    | cont=>obtain ⟨_,_,_,z⟩:=q;exact z.elim
    | ret u =>
     obtain ⟨v,σ',H2,I6,rv,q⟩:=q
     exact name_goes hN hi hl (inv_of_han I.ok I6) fun s7 I7=>⟨v,_,H2,I7,rv,q⟩
   ·cases e
  ·cases e
 ·refine wpAny_mono (hb pins s σ H D (I.wish _) ⟨ρ,fl,rs,e,k⟩) (fun f s1 q=>?_) fun _ _ z=>z.elim
  have q:=q.unwish
  cases f with
  | next=>exact wpAny_execs_nil q
  | brk=>exact q
  | cont=>exact q
  | ret u=>exact q
end
end ZS
namespace ZS
open PySem PySem.Spec PyProof.Rows L2 PySem.W
structure ExcK (K:PySem.W.Frag) (C:Addr):Prop where
 ga:findIn K (.ref C) "__getattribute__" = some (some (.builtin "BaseException.__getattribute__"))
 gn:findIn K (.ref C) "__getattr__" = some none
 cl:findIn K (.ref C) "__class__" = some (some (.builtin "object.__class__"))
 hn:specialIn K (.builtin "object.__class__") "__get__" = some (some (.builtin "getset_descriptor.__get__"))
 tk:takesIn K (.builtin "object.__class__")=some true
 mo:mroIn K C (.type "object")=some true
 mb:mroIn K C (.type "BaseException")=some true
section
variable {prog:Program} {w:World} {A:Around} {E:Value→Shared→Prop} {s:Shared} {K:PySem.W.Frag} {x C:Addr} {ox:Obj} {od:Option Obj}
theorem exc_cls {Q:Option Value→Shared→Prop} (k:ExcK K C) (X:K.In s.heap) (I:InstAt s.heap x ox C od) (h:Q (some (.ref C)) { s with toks:=s.toks+1 }):wpAny (model prog w) A (getAttr? (.ref x) "__class__") Q E s:=by
 have hf:findObj K C od "__class__" = some (.bind (.builtin "getset_descriptor.__get__") (.builtin "object.__class__")):=by
  have:=k.mo
  unfold mroIn at this
  cases e:clsIn K C with
  | none=>rw [e] at this;cases this
  | some cd =>
   unfold findObj
   rw [e]
   simp only [Option.bind_some,k.cl,k.hn,k.tk]
 obtain ⟨hh,g,d,t,os⟩:=s
 have L0:=I.type (M:=model prog w)
 have L1:=looks_findIn (M:=model prog w) X k.ga
 have L2:=looks_findIn (M:=model prog w) X k.gn
 have L3:=looks_find (M:=model prog w) X I hf
 have L4:=looks_mroIn (M:=model prog w) X k.mb
 have LB:Looks (model prog w) hh (isInstance (.ref x) (.type "BaseException")) true:=L0.andThen L4
 unfold getAttr? getAttrBy? getAttrBy
 refine wpAny_bind (wpAny_mkText (wpAny_bind (wpAny_attempt (wpAny_holding (wpAny_bind (L0.at (wpAny_bind (L1.at ?_))))))))
 dsimp only
 rw [show (Value.builtin "BaseException.__getattribute__" == Value.builtin "object.__getattribute__")=false from by decide +kernel,Bool.and_false,if_neg (by decide)]
 unfold getAttrByItsOwn hookBefore
 refine wpAny_bind ?_
 rw [if_pos (show onTheHeap (.ref C)=true from rfl)]
 refine L2.at ?_
 refine wpAny_bind (wpAny_attempt (wpAny_holding ?_))
 unfold callGetattribute
 rw [if_neg (by decide)]
 unfold boundAndCalled
 rw [F.excAttr_ValueError.ga.bind (.ref x)]
 refine wpAny_bind (wpAny_pure ?_)
 refine wpAny_call (codeAny_call_builtin F.excAttr_ValueError.ga.plain F.entry_bexc_ga ?_)
 have hk:builtinKind "BaseException.__getattribute__" = some .slot:=by decide +kernel
 have hsplit:splitId "BaseException.__getattribute__" = some ("BaseException", "__getattribute__"):=by decide +kernel
 have hargs:=F.args_bexc_ga (.ref x) (.str "__class__" t)
 simp only [checkBuiltinCall,hk,hsplit]
 refine wpAny_bind (LB.at ?_)
 repeat (any_goals (first | assumption | with_reducible refine LB.at ?_ | wp_step))
 refine wpAny_loadPart I.at_ (wpAny_pure ?_)
 rw [I.cls]
 refine wpAny_bind (L3.at ?_)
 dsimp only
 unfold Builtin.ObjectAttr.bindTo
 dsimp only
 refine wpAny_bind (wpAny_holding (wpAny_call (class_get (s:=⟨hh,g,d,t+1,os⟩) (ox:=ox) (od:=od) X I k.mo ?_)))
 refine wpAny_pure ?_
 exact wpAny_pure (wpAny_pure h)
theorem kitx_exc (k:ExcK K C):KitX K (.ref x) (.ref C) (fun h=>InstAt h x ox C od) where
 ty:=fun _ _ _ I=>I.type
 it:=fun _ _ X _=>by
  have:=k.mo
  unfold mroIn clsIn at this
  split at this
  ·rename_i ho
   intro A' Q' E' s' kp q
   unfold isType loadHead
   exact wpAny_bind (wpAny_loadPart (kp _ _ (X _ _ ho)) (wpAny_pure q))
  ·cases this
 ne:=fun h tp dd its n sl X htp=>by
  have:=k.mo
  unfold mroIn clsIn at this
  split at this
  ·rename_i ho
   refine Bool.eq_false_iff.mpr fun q=>?_
   have e:C=tp:=Value.ref.inj (beq_iff_eq.mp q)
   subst e
   have z:=(X _ _ ho).symm.trans htp
   cases z
  ·cases this
 ca:=fun X I h=>exc_cls k X I h
end
def IsK (K:PySem.W.Frag) (c0:List Nat) (cv:Value) (b:Bool):Prop:=∃ C,nsIn K mainGlobals ⟨c0.toArray⟩=some (some (.ref C))∧ExcK K C∧kitOne K (.ref C) cv=some b
theorem isK_at {K:PySem.W.Frag} {c0:List Nat} {cv:Value} {b:Bool} (h:IsK K c0 cv b) {c:List Nat} {b':Bool} {C:Addr} (e:Z.isx c0 b c=some b') (xc:XC K c C):ExcK K C∧kitOne K (.ref C) cv=some b':=by
 unfold Z.isx at e
 split at e
 ·rename_i hc
  subst hc
  cases e
  obtain ⟨C',e1,k,e2⟩:=h
  have:=xc.1.symm.trans e1
  cases this
  exact ⟨k,e2⟩
 ·cases e
section
variable {X:Cx} {a:Expr} {pos:Pos}
theorem xinst {pins:List (Addr×Obj)} {σ:St} {H:Hp} {s:Shared} {Q:Value→Shared→Prop} {E:Value→Shared→Prop} {A:Around} {p C:Addr} {o:Obj} {u:HO} {c:Z.XN} {cv:Value} {b:Bool} (I:Inv X pins σ H s) (hp:H p=some (.frz o u)) (hc:o.cls=.ref C) (hd:∃ vs,o.data=.fields vs) (xr:XRel X.K H c C o.dict)
  (k:ExcK X.K C) (e:kitOne X.K (.ref C) cv=some b) (h:∀ tk,Q (.bool b) { s with toks:=tk }):wpAny (model X.prog X.w) A (call (.builtin "isinstance") [.ref p,cv]) Q E s:=by
 obtain ⟨g1,_⟩:=(show ObjOk X.prog X.w H s.heap p (.frz o u) from I.hok p _ hp)
 obtain ⟨vs,hd⟩:=hd
 have nc:notCls o=true:=by unfold notCls;rw [hd]
 have xd:=xr.2
 cases hdd:o.dict with
 | none=>exact kia_one (kitx_exc (ox:=o) (od:=none) k) I.kIn ⟨g1,hc,nc,by rw [hdd];trivial⟩ e (fun z=>nomatch z) h
 | some dx =>
  rw [hdd] at xd
  obtain ⟨_,od,kvs,q,_⟩:=xd
  obtain ⟨g2,_⟩:=(show ObjOk X.prog X.w H s.heap dx (.frz od (.xd kvs)) from I.hok dx _ q)
  exact kia_one (kitx_exc (ox:=o) (od:=some od) k) I.kIn ⟨g1,hc,nc,by rw [hdd];exact g2⟩ e (fun z=>nomatch z) h
theorem call_isX {cv:Value} {cV:V} (rc:∀ u,RelV cV u→u=cv):CallR X (.builtin "isinstance") (fun xs H Q=>∃ p o u C c b,xs=[.ref p,cV]∧H p=some (.frz o u)∧o.cls=.ref C∧(∃ vs,o.data=.fields vs)∧XRel X.K H c C o.dict∧ExcK X.K C∧kitOne X.K (.ref C) cv=some b∧Q (.bl b) H):=by
 intro pins s σ H xs us Q I r h
 obtain ⟨p,o,u,C,c,b,rfl,h1,h2,h3,h4,h5,h6,q⟩:=h
 obtain ⟨v1,v2,rfl,r1,r2⟩:=vals2 r
 cases (show v1=Value.ref p from r1)
 cases rc v2 r2
 exact xinst I h1 h2 h3 h4 h5 h6 fun tk=>⟨.bl b,H,I.tok _,rfl,q⟩
theorem isX_imp {i:Nat} {c0:List Nat} {b:Bool} {cv:Value} {cV:V} (hK:IsK X.K c0 cv b):∀ σ H Q,tZ X.K (Z.eIsX i (Z.isx c0 b)) σ H Q →
  tCB (fun xs H Q=>∃ p o u C c b,xs=[.ref p,cV]∧H p=some (.frz o u)∧o.cls=.ref C∧(∃ vs,o.data=.fields vs)∧XRel X.K H c C o.dict∧ExcK X.K C∧kitOne X.K (.ref C) cv=some b∧Q (.bl b) H) (tCons (tVar i) (tCons (tC cV) tNil)) σ H Q:=fun σ H Q ⟨ρ,d,r,e,k⟩=>by
 unfold Z.eIsX at e
 split at e
 ·rename_i c hi
  split at e
  ·rename_i b' eb
   cases e
   obtain ⟨v,hv,p,o,u,C,rfl,h1,h2,h3,h4⟩:=r.get i _ hi
   obtain ⟨k1,k2⟩:=isK_at hK eb h4.1
   exact ⟨_,hv,p,o,u,C,c,b',rfl,h1,h2,h3,h4,k1,k2,k _ H (Same.refl H) den_bl⟩
  ·cases e
 ·cases e
theorem de_isXO {x y:Str} {p1 p2:Pos} {i:Nat} {c0:List Nat} {b:Bool} {D:Addr} (hg:Gl X x) (hm:X.mg x=none) (hv:bootBuiltins x=some (.builtin "isinstance")) (ha:PE X a (tVar i)) (hgy:Gl X y) (hmy:X.mg y=some (.ref D)) (hK:IsK X.K c0 (.ref D) b)
  (hn:x ≠ "__name__" := by decide +kernel) (hdb:(x==("__debug__" : Str))=false:=by decide +kernel) (hdy:(y==("__debug__" : Str))=false:=by decide +kernel)
  (he:starEach (a :: [.Name y p2]) X.env=(false,eval a X.env) :: starEach [.Name y p2] X.env:=by rfl) (hpl:(backTo pos (starEach [.Name y p2] X.env)).any (·.1)=false:=by rfl) (he2:starEach ((.Name y p2) :: []) X.env=(false,eval (.Name y p2) X.env) :: starEach [] X.env:=by rfl) :
  DE X (.Call (.Name x p1) [a,.Name y p2] [] pos) (Z.eIsX i (Z.isx c0 b)) :=
 PE.imp (pe_callB (call_isX (cv:=.ref D) (cV:=.ref D) fun u r=>r) hg hm hv (pa_cons ha (pa_cons (pe_glob (v:=.ref D) hgy hmy rfl hdy) pa_nil he2) he) hn hdb he hpl) (isX_imp hK)
theorem de_isXB {x y:Str} {T:String} {p1 p2:Pos} {i:Nat} {c0:List Nat} {b:Bool} (hg:Gl X x) (hm:X.mg x=none) (hv:bootBuiltins x=some (.builtin "isinstance")) (ha:PE X a (tVar i)) (hgy:Gl X y) (hmy:X.mg y=none) (hvy:bootBuiltins y=some (.type T)) (hK:IsK X.K c0 (.type T) b)
  (hn:x ≠ "__name__" := by decide +kernel) (hdb:(x==("__debug__" : Str))=false:=by decide +kernel) (hny:y ≠ "__name__" := by decide +kernel) (hdy:(y==("__debug__" : Str))=false:=by decide +kernel)
  (he:starEach (a :: [.Name y p2]) X.env=(false,eval a X.env) :: starEach [.Name y p2] X.env:=by rfl) (hpl:(backTo pos (starEach [.Name y p2] X.env)).any (·.1)=false:=by rfl) (he2:starEach ((.Name y p2) :: []) X.env=(false,eval (.Name y p2) X.env) :: starEach [] X.env:=by rfl) :
  DE X (.Call (.Name x p1) [a,.Name y p2] [] pos) (Z.eIsX i (Z.isx c0 b)) :=
 PE.imp (pe_callB (call_isX (cv:=.type T) (cV:=.ty T) fun u r=>r) hg hm hv (pa_cons ha (pa_cons (pe_bltn (v:=.ty T) hgy hmy hvy rfl hny hdy) pa_nil he2) he) hn hdb he hpl) (isX_imp hK)
end
end ZS
namespace ZS
open PySem PySem.Spec PyProof.Rows L2 PySem.W
structure RoomH (k:Nat) (A:Around):Prop where
 dp:A.depth+3*k+5 < recursionLimit
 un:A.units+16*k+200 < cLine
section
variable {P:Program} {w:World} {K:PySem.W.Frag} {mg:Str→Option Value} {base:Heap}
def RunE (P:Program) (w:World) (K:PySem.W.Frag) (mg:Str→Option Value) (base:Heap) (k:Nat) (g:Addr) (fd:FuncData) (ps:List Str) (m:Z.XN→Z.Res Z.D):Prop :=
 ∀ (A:Around) (outer:List PySem.Env) (s:Shared) (H:Hp) (args:Args) (u:Value) (v:V) (Q:VK) (c:Z.XN) (d:Z.D),RoomH k A→Env0 P w K mg base A outer s H→BindsTo s fd args (ps.zip [u])→RelV v u→RL K H (.exc c) v→m c=.ok d→(∀ v' H',Same H H'→Den K H' d v'→Q v' H') →
  codeAny (model P w) A (.call (.ref g) args) (CR CX0 outer P w H s Q E0) s
structure CalE (P:Program) (w:World) (K:PySem.W.Frag) (mg:Str→Option Value) (base:Heap) (x:Str) (k:Nat) (ps:List Str) (m:Z.XN→Z.Res Z.D):Prop where
 ex:∃ g fd,RunE P w K mg base k g fd ps m∧mg x=some (.ref g)∧PySem.W.keepIn K (.ref g)=true∧Binds K fd ps []∧ps.length=1
end
section
variable {X:Cx} {a:Expr} {pos:Pos}
end
end ZS
namespace ZQ
open PySem PySem.Spec PyProof.Rows L2 ZS PySem.W
structure QXE (X:Cx) (e:Expr) (f:Z.XF):Prop where p:XE X e f
structure QXA (X:Cx) (es:List Expr) (f:Z.XF):Prop where p:XA X es f
structure QXT (X:Cx) (e:Expr) (f:Z.XF):Prop where p:XT X e f
structure QXS (X:Cx) (H0:Hp) (st:Stmt) (f:Z.XF):Prop where p:XS X H0 st f
structure QXSs (X:Cx) (H0:Hp) (sts:List Stmt) (f:Z.XF):Prop where p:XSs X H0 sts f
structure QXR (X:Cx) (st:Stmt) (f:Z.XF):Prop where p:XR X st f
structure QXRs (X:Cx) (sts:List Stmt) (f:Z.XF):Prop where p:XRs X sts f
section
variable {X:Cx} {e a:Expr} {es:List Expr} {pos:Pos} {f:Z.XF} {H0:Hp} {st:Stmt} {sts:List Stmt} {g u:Z.SF} {xa xb:Z.XF}
theorem xs_set {i:Nat} {x:Str} {pos':Pos} (hN:X.N.Nodup) (hi:X.N[i]?=some x) (hx:Loc X.env.scope x) (h:QXE X a f) (hs:swapsWith a (some (.Name x pos')) pos.line X.env=pure false:=by rfl) (hf:X.fn x=true∨X.env.scope.names.lookup x=some .local:=by first | exact .inl rfl | exact .inr rfl | assumption):QXS X H0 (.Assign [.Name x pos'] a pos) f:=⟨ZS.xs_set hN hi hx h.p hs hf⟩
theorem xs_ret (h:QXE X a f):QXS X H0 (.Return (some a) pos) f:=⟨ZS.xs_ret h.p⟩
theorem xr_drop (h:QXE X a f) (hs:swapsWith a none pos.line X.env=pure false:=by rfl):QXR X (.Expr a pos) f:=⟨ZS.xr_drop h.p hs⟩
theorem xs_if {c:Expr} {b1 b2:List Stmt} {t:Z.TF} (hc:QT X.nox c t) (h1:QXSs X H0 b1 xa) (h2:QXSs X H0 b2 xb):QXS X H0 (.If c b1 b2 pos) (Z.xIf t xa xb):=⟨ZS.xs_if hc.p h1.p h2.p⟩
theorem xr_if {c:Expr} {b1 b2:List Stmt} {t:Z.TF} (hc:QT X.nox c t) (h1:QXRs X b1 xa) (h2:QXRs X b2 xb):QXR X (.If c b1 b2 pos) (Z.xIf t xa xb):=⟨ZS.xr_if hc.p h1.p h2.p⟩
theorem xs_no:QXS X H0 st Z.xNo:=⟨ZS.xs_no⟩
theorem xss_no:QXSs X H0 sts Z.xNo:=⟨ZS.xss_no⟩
theorem xss_one (h:QXS X H0 st f):QXSs X H0 [st] f:=⟨ZS.xss_one h.p⟩
theorem xrs_one (h:QXR X st f):QXRs X [st] f:=⟨ZS.xrs_one h.p⟩
theorem xss_cons (h1:QS X.nox H0 st g) (x1:QXS X H0 st xa) (x2:QXSs X H0 sts xb):QXSs X H0 (st :: sts) (Z.xSeq g xa xb):=⟨ZS.xss_cons h1.p x1.p x2.p⟩
theorem xs_raise {x:Str} {c:List Nat} {C:Addr} {fa:Z.EF} {np cpos:Pos} (hc:X.calm=true) (hex:X.ex=[]) (hg:Gl X x) (hcx:(⟨c.toArray⟩:Str)=x) (xc:XC X.K c C) (xi:excIn X.K C [.type "ValueError",.type "Exception",.type "BaseException",.type "object"] "ValueError.__new__" = true) (ha:QE X.nox a fa)
  (hdb:(x==("__debug__" : Str))=false:=by decide +kernel) (he:starEach (a :: []) X.env=(false,eval a X.env) :: starEach [] X.env:=by rfl) (hpl:(backTo cpos (starEach (a :: []) X.env)).any (·.1)=false:=by rfl) :
  QXS X H0 (.Raise (some (.Call (.Name x np) [a] [] cpos)) none pos) (Z.xRaise c fa):=⟨ZS.xs_raise hc hex hg hcx xc xi ha.p hdb he hpl⟩
theorem ds_try {body suite:List Stmt} {b0:Stmt} {x n:Str} {np hpos pos:Pos} {c:List Nat} {i:Nat} {g h:Z.SF} {xb:Z.XF} (hex:X.ex=[]) (hst:X.stack=X.env :: X.outer) (hfl:X.env.frame=some X.env.locals)
  (hN:X.N.Nodup) (hi:X.N[i]?=some n) (hl:X.env.scope.names.lookup n=some .local) (hg:Gl X x) (hcx:(⟨c.toArray⟩:Str)=x)
  (hb:QSs X.nox H0 body g) (hxb:∀ pn E,QXRs (tryX X pn E) body xb) (hh:∀ ev,QSs (hanX X ev).nox H0 (b0 :: suite) h) (hdb:(x==("__debug__" : Str))=false:=by decide +kernel) :
  QS X H0 (.Try body [.ExceptHandler (some (.Name x np)) (some n) (b0 :: suite) hpos] [] [] pos) (Z.sTry g xb c i h):=⟨ZS.ds_try hex hst hfl hN hi hl hg hcx hb.p (fun pn E=>(hxb pn E).p) (fun ev=>(hh ev).p) hdb⟩
theorem de_isXO {x y:Str} {p1 p2:Pos} {i:Nat} {c0:List Nat} {b:Bool} {D:Addr} (hg:Gl X x) (hm:X.mg x=none) (hv:bootBuiltins x=some (.builtin "isinstance")) (ha:PE X a (tVar i)) (hgy:Gl X y) (hmy:X.mg y=some (.ref D)) (hK:IsK X.K c0 (.ref D) b)
  (hn:x ≠ "__name__" := by decide +kernel) (hdb:(x==("__debug__" : Str))=false:=by decide +kernel) (hdy:(y==("__debug__" : Str))=false:=by decide +kernel)
  (he:starEach (a :: [.Name y p2]) X.env=(false,eval a X.env) :: starEach [.Name y p2] X.env:=by rfl) (hpl:(backTo pos (starEach [.Name y p2] X.env)).any (·.1)=false:=by rfl) (he2:starEach ((.Name y p2) :: []) X.env=(false,eval (.Name y p2) X.env) :: starEach [] X.env:=by rfl) :
  QE X (.Call (.Name x p1) [a,.Name y p2] [] pos) (Z.eIsX i (Z.isx c0 b)):=⟨ZS.de_isXO hg hm hv ha hgy hmy hK hn hdb hdy he hpl he2⟩
theorem de_isXB {x y:Str} {T:String} {p1 p2:Pos} {i:Nat} {c0:List Nat} {b:Bool} (hg:Gl X x) (hm:X.mg x=none) (hv:bootBuiltins x=some (.builtin "isinstance")) (ha:PE X a (tVar i)) (hgy:Gl X y) (hmy:X.mg y=none) (hvy:bootBuiltins y=some (.type T)) (hK:IsK X.K c0 (.type T) b)
  (hn:x ≠ "__name__" := by decide +kernel) (hdb:(x==("__debug__" : Str))=false:=by decide +kernel) (hny:y ≠ "__name__" := by decide +kernel) (hdy:(y==("__debug__" : Str))=false:=by decide +kernel)
  (he:starEach (a :: [.Name y p2]) X.env=(false,eval a X.env) :: starEach [.Name y p2] X.env:=by rfl) (hpl:(backTo pos (starEach [.Name y p2] X.env)).any (·.1)=false:=by rfl) (he2:starEach ((.Name y p2) :: []) X.env=(false,eval (.Name y p2) X.env) :: starEach [] X.env:=by rfl) :
  QE X (.Call (.Name x p1) [a,.Name y p2] [] pos) (Z.eIsX i (Z.isx c0 b)):=⟨ZS.de_isXB hg hm hv ha hgy hmy hvy hK hn hdb hny hdy he hpl he2⟩
end
section
variable {P:Program} {w:World} {K:PySem.W.Frag} {mg:Str→Option Value} {base:Heap}
end
end ZQ
noncomputable section
namespace Z
def partC (c:Nat) (cs:List Nat):List Nat×List Nat×List Nat:=match PySem.Builtin.Str.occurrences ⟨cs.toArray⟩ ⟨#[c]⟩ 0 cs.length 1 with
 | i :: _=>(cs.take i,[c],cs.drop (i+1))
 | []=>(cs,[],[])
def oPart:D→D→Res D
 | .str cs,.str [c]=>guard (cs.length≤line) (.ok (.tup [.str (partC c cs).1,.str (partC c cs).2.1,.str (partC c cs).2.2]))
 | _,_=>.bad
end Z
end
namespace ZS
open PySem PySem.Spec PyProof.Rows L2 PySem.W
section
variable {X:Cx} {o a b:Expr} {pos p p2:Pos} {fa fb:Z.EF}
theorem sub_take (cs:List Nat) (i:Nat):Builtin.Str.strSub ⟨cs.toArray⟩ 0 i=mkS (cs.take i):=by
 unfold Builtin.Str.strSub mkS
 simp
theorem sub_drop (cs:List Nat) (i:Nat):Builtin.Str.strSub ⟨cs.toArray⟩ i cs.length=mkS (cs.drop i):=by
 unfold Builtin.Str.strSub mkS
 simp
 exact List.take_of_length_le (by simp)
def rPart:V→List V→Hp→VK→Prop:=fun x vs H Q=>∃ cs c,x=.str (mkS cs)∧vs=[.str ⟨#[c]⟩]∧cs.length≤sizeLine∧∀ q,H q=none→Q (.ref q) (upd H q (.tup [.str (mkS (Z.partC c cs).1),.str (mkS (Z.partC c cs).2.1),.str (mkS (Z.partC c cs).2.2)]))
theorem mt_part:MtR X "str.partition" rPart:=by
 intro pins s σ H x vs v us Q I rx rv h
 obtain ⟨cs,c,rfl,rfl,hl,k⟩:=h
 obtain ⟨tk,rfl⟩:=rx
 obtain ⟨u,rfl,ru⟩:=rv.one
 obtain ⟨tk2,rfl⟩:=ru
 refine call_meets F.slot_str_partition (typeIs_str _ _ _) F.entry_str_partition (F.args_str_partition_2 _ _) (meets_str_partition (mkS cs) ⟨#[c]⟩ tk tk2 rfl (by rw [mkS_len];exact hl)) ?_
 unfold Z.partC at k
 have lm:(mkS cs).length=cs.length:=mkS_len cs
 rw [lm]
 have fin:∀ (a b d:List Nat) (t1 t2 t3:Tok) (kk:Nat),(∀ q,H q=none→Q (.ref q) (upd H q (.tup [.str (mkS a),.str (mkS b),.str (mkS d)]))) →
   EP X pins σ Q (.ref s.heap.objs.size) { s with toks:=kk,heap:=s.heap.push { cls:=.type "tuple",data:=.seq [.str (mkS a) t1,.str (mkS b) t2,.str (mkS d) t3].toArray } }:=fun a b d t1 t2 t3 kk q =>
  ⟨.ref _,_,I.laid (t':=kk) (o:=.tup [.str (mkS a),.str (mkS b),.str (mkS d)]) (fun b ob q=>Heap.get?_push_of_some _ q) (Nat.le_refl _) ⟨by show 3≤sizeLine;decide,_,.cons ⟨t1,rfl⟩ (.cons ⟨t2,rfl⟩ (.cons ⟨t3,rfl⟩ .nil)),_,Heap.get?_push_size _ rfl,rfl,_,rfl⟩,rfl,q _ (I.hok.fresh (Nat.le_refl _))⟩
 show wants _ _ _ (match Builtin.Str.occurrences (mkS cs) ⟨#[c]⟩ 0 cs.length 1 with | i :: _=>_ | []=>_)
 cases e:Builtin.Str.occurrences (mkS cs) ⟨#[c]⟩ 0 cs.length 1 with
 | nil =>
  have e':Builtin.Str.occurrences ⟨cs.toArray⟩ ⟨#[c]⟩ 0 cs.length 1=[]:=e
  rw [e'] at k
  exact fin cs [] [] tk _ _ _ k
 | cons i r =>
  have e':Builtin.Str.occurrences ⟨cs.toArray⟩ ⟨#[c]⟩ 0 cs.length 1=i :: r:=e
  rw [e'] at k
  dsimp only
  have a1:Builtin.Str.strSub (mkS cs) 0 i=mkS (cs.take i):=sub_take cs i
  have a2:Builtin.Str.strSub (mkS cs) (i+Str.length ⟨#[c]⟩) cs.length=mkS (cs.drop (i+1)):=sub_drop cs (i+1)
  rw [a1,a2]
  exact fin (cs.take i) [c] (cs.drop (i+1)) _ _ _ _ k
theorem oPart_ok {x y d:Z.D} (h:Z.oPart x y=.ok d):∃ cs c,x=.str cs∧y=.str [c]∧cs.length≤Z.line∧d=.tup [.str (Z.partC c cs).1,.str (Z.partC c cs).2.1,.str (Z.partC c cs).2.2]:=by
 unfold Z.oPart at h
 split at h
 ·rename_i cs c
  obtain ⟨h1,h2⟩:=Z.guard_ok h
  cases h2
  exact ⟨cs,c,rfl,rfl,h1,rfl⟩
 ·cases h
theorem de_part {p1:Pos} (ho:DW X o fa) (hb:DW X b fb)
  (hbase:attributeBase o "partition" X.env (eval o X.env)=eval o X.env:=by rfl)
  (hfew:((backTo p2 (starEach (b :: []) X.env)).all (fun x=>!x.1)&&(backToKw p2 (keywordEach [] X.env)).all (fun x=>x.1.isSome)
   && decide ((b :: []).length+([]:List Keyword).length+(if ([]:List Keyword).isEmpty then 0 else 1) < 30))=true:=by rfl)
  (hline:(p1.endLine==p2.line)=true:=by rfl) (hs1:starEach (b :: []) X.env=(false,eval b X.env) :: starEach [] X.env:=by rfl) (hplain:(backTo p2 (starEach [] X.env)).any (·.1)=false:=by rfl) :
  DE X (.Call (.Attribute o "partition" p1) [b] [] p2) (Z.eB Z.oPart fa fb) :=
 PE.imp (pe_bm PySem.F.plainAttrs_str PySem.F.slot_str_partition PySem.F.type_str_partition mt_part ho (pa_cons hb pa_nil hs1) hbase hfew hline hs1 hplain) fun σ H Q ⟨ρ,d,r,e,k⟩=>by
  obtain ⟨x,ea,e⟩:=Z.Res.bind_ok e
  obtain ⟨y,eb,e⟩:=Z.Res.bind_ok e
  obtain ⟨cs,c,rfl,rfl,hl,rfl⟩:=oPart_ok e
  refine ⟨ρ,_,r,ea,fun v H1 s1 d1=>?_⟩
  have d1':=d1.str
  subst d1'
  refine ⟨rfl,ρ,_,r.up s1,eb,fun u H2 s2 d2=>?_⟩
  have d2':=d2.str
  subst d2'
  refine ⟨cs,c,rfl,rfl,by rw [sizeLine_eq];exact hl,fun q hq=>?_⟩
  have s3:Same H2 (upd H2 q (.tup [.str (mkS (Z.partC c cs).1),.str (mkS (Z.partC c cs).2.1),.str (mkS (Z.partC c cs).2.2)])):=upd_Same hq
  exact k _ _ ((s1.trans s2).trans s3) (den_tup (.inl (.inl upd_same)) (Dens.cons den_str (Dens.cons den_str (Dens.cons den_str Dens.nil))))
end
section
variable {X:Cx} {a:Expr} {pos:Pos}
def tCs (vs:List V):TA:=fun _ H Q=>Q vs H
def NoK (K:PySem.W.Frag) (c0:List Nat) (as:List Addr):Prop:=∃ C,nsIn K mainGlobals ⟨c0.toArray⟩=some (some (.ref C))∧ExcK K C∧kitAny K (.ref C) (as.map Value.ref)=some false
structure PCs (X:Cx) (c0:List Nat) (es:List Expr) (as:List Addr):Prop where
 pa:PA X es (tCs (as.map V.ref))
 k:NoK X.K c0 as
end
end ZS
namespace ZQ
open PySem PySem.Spec PyProof.Rows L2 ZS PySem.W
section
variable {X:Cx} {o a b:Expr} {pos p p2:Pos} {fa fb:Z.EF}
theorem de_part {p1:Pos} (ho:QW X o fa) (hb:QW X b fb)
  (hbase:attributeBase o "partition" X.env (eval o X.env)=eval o X.env:=by rfl)
  (hfew:((backTo p2 (starEach (b :: []) X.env)).all (fun x=>!x.1)&&(backToKw p2 (keywordEach [] X.env)).all (fun x=>x.1.isSome)
   && decide ((b :: []).length+([]:List Keyword).length+(if ([]:List Keyword).isEmpty then 0 else 1) < 30))=true:=by rfl)
  (hline:(p1.endLine==p2.line)=true:=by rfl) (hs1:starEach (b :: []) X.env=(false,eval b X.env) :: starEach [] X.env:=by rfl) (hplain:(backTo p2 (starEach [] X.env)).any (·.1)=false:=by rfl) :
  QE X (.Call (.Attribute o "partition" p1) [b] [] p2) (Z.eB Z.oPart fa fb):=⟨ZS.de_part ho.p hb.p hbase hfew hline hs1 hplain⟩
end
end ZQ
noncomputable section
namespace Z
def sTD (i:Nat) (kvs:List (List Nat×List Nat)) (ρ:Env):Res Fl:=.ok (.nx (ρ.set i (some (.tdc kvs))))
def putT (kvs:List (List Nat×List Nat)) (k v:List Nat):List (List Nat×List Nat):=if (kvs.any fun kv=>decide (kv.1=k))=true then kvs.map (fun kv=>if kv.1=k then (kv.1,v) else kv) else kvs++[(k,v)]
def valT (kvs:List (List Nat×List Nat)) (k:List Nat):Option (List Nat):=(kvs.find? fun kv=>decide (kv.1=k)).map (·.2)
def tputK (i:Nat) (ρ:Env) (k v:D) (o:Option (Option L)):Res Fl:=match k,v,o with
 | .str k,.str v,some (some (.dc (.inr kvs)))=>guard (kvs.length < line) (.ok (.nx (ρ.set i (some (.tdc (putT kvs k v))))))
 | _,_,_=>.bad
def sTPut (i:Nat) (e e':EF) (ρ:Env):Res Fl:=(e' ρ).bind fun v=>(e ρ).bind fun k=>tputK i ρ k v ρ[i]?
def optT:Option (List Nat)→Res D
 | some v=>.ok (.str v)
 | none=>.bad
def tgetK (k:D) (o:Option (Option L)):Res D:=match k,o with
 | .str k,some (some (.dc (.inr kvs)))=>optT (valT kvs k)
 | _,_=>.bad
def eTGet (i:Nat) (e:EF) (ρ:Env):Res D:=(e ρ).bind fun k=>tgetK k ρ[i]?
@[simp] theorem sTD_a (i:Nat) (kvs:List (List Nat×List Nat)) (ρ:Env):sTD i kvs ρ=.ok (.nx (ρ.set i (some (.tdc kvs)))):=rfl
@[simp] theorem sTPut_a (i:Nat) (e e':EF) (ρ:Env):sTPut i e e' ρ=(e' ρ).bind fun v=>(e ρ).bind fun k=>tputK i ρ k v ρ[i]?:=rfl
@[simp] theorem eTGet_a (i:Nat) (e:EF) (ρ:Env):eTGet i e ρ=(e ρ).bind fun k=>tgetK k ρ[i]?:=rfl
@[simp] theorem tputK_a (i:Nat) (ρ:Env) (k v:List Nat) (kvs:List (List Nat×List Nat)):tputK i ρ (.str k) (.str v) (some (some (.tdc kvs)))=guard (kvs.length < line) (.ok (.nx (ρ.set i (some (.tdc (putT kvs k v)))))):=rfl
@[simp] theorem tgetK_a (k:List Nat) (kvs:List (List Nat×List Nat)):tgetK (.str k) (some (some (.tdc kvs)))=optT (valT kvs k):=rfl
@[simp] theorem optT_a (v:List Nat):optT (some v)=.ok (.str v):=rfl
def decC (m:Nat):List Nat:=(Nat.toDigits 10 m).map Char.toNat
def oStr:D→Res D
 | .int n=>guard (0≤n∧n < 10 ^ 70) (.ok (.str (decC n.toNat)))
 | _=>.bad
theorem oStr_ok {x d:D} (h:oStr x=.ok d):∃ n:Nat,x=.int n∧(n:Int) < 10 ^ 70∧d=.str (decC n):=by
 unfold oStr at h
 split at h
 ·rename_i n
  obtain ⟨h1,h2⟩:=guard_ok h
  cases h2
  exact ⟨n.toNat,by rw [Int.toNat_of_nonneg h1.1],by rw [Int.toNat_of_nonneg h1.1];exact h1.2,rfl⟩
 ·cases h
theorem oStr_a (n:Nat) (h:(n:Int) < 10 ^ 70):oStr (.int n)=.ok (.str (decC n)):=by
 show guard (0≤(n:Int)∧(n:Int) < 10 ^ 70) (Res.ok (D.str (decC (n:Int).toNat)))=_
 rw [guard_pos ⟨Int.natCast_nonneg n,h⟩,Int.toNat_natCast]
def ints3 (lo:Int) (n:Nat):List D:=(List.range n).map fun i=>D.int (lo+(i:Nat)*3)
def byD:D→D→D→Res (List D)
 | .int i,.int j,.int k=>guard (k=3∧-1000000000≤i∧i≤1000000000∧-1000000000≤j∧j≤1000000000) (.ok (ints3 i ((j-i+2) / 3).toNat))
 | _,_,_=>.bad
def iRng3 (a b c:EF) (ρ:Env):Res (List D):=(a ρ).bind fun x=>(b ρ).bind fun y=>(c ρ).bind fun z=>byD x y z
@[simp] theorem iRng3_a (a b c:EF) (ρ:Env):iRng3 a b c ρ=(a ρ).bind fun x=>(b ρ).bind fun y=>(c ρ).bind fun z=>byD x y z:=rfl
end Z
end
namespace ZS
open PySem PySem.Spec PyProof.Rows L2 PySem.W
section
variable {X:Cx} {a b:Expr} {pos p p2:Pos} {fa fb:Z.EF} {H0:Hp}
theorem dec_str (n:Nat):Str.ofString (toString ((n:Nat):Int))=mkS (Z.decC n):=by
 have h:=KIN.signs_num n
 have:(Str.ofString (toString ((n:Nat):Int)))=⟨(Str.ofString (toString ((n:Nat):Int))).cps⟩:=rfl
 rw [this]
 show (⟨_⟩:Str)=⟨(Z.decC n).toArray⟩
 unfold Z.decC
 rw [←h]
theorem log_lt {n:Nat} (h:(n:Int) < 10 ^ 70):((n:Nat):Int).natAbs.log2 < 1920:=by
 rw [Int.natAbs_natCast]
 have h1:n < 2 ^ 1920:=by
  have:n < 10 ^ 70:=by exact_mod_cast h
  exact Nat.lt_trans this (Nat.lt_of_lt_of_le (show 10 ^ 70 < 2 ^ 256 by decide) (Nat.pow_le_pow_right (by decide) (by decide)))
 by_cases h0:n=0
 ·subst h0;decide
 ·exact (Nat.log2_lt h0).mpr h1
theorem call_str1:CallR X (.type "str") (fun xs H Q=>∃ n:Nat,xs=[.int n]∧(n:Int) < 10 ^ 70∧Q (.str (mkS (Z.decC n))) H):=by
 intro pins s σ H xs us Q I r h
 obtain ⟨n,rfl,hn,q⟩:=h
 obtain ⟨u,rfl,ru⟩:=r.one
 obtain ⟨t,rfl⟩:=ru
 refine PySem.P.str_of_int (log_lt hn) ?_
 refine ⟨.str (mkS (Z.decC n)),H,I.tok _,⟨s.toks,?_⟩,q⟩
 rw [←dec_str]
theorem de_str1 {x:Str} {p1:Pos} (hg:Gl X x) (hm:X.mg x=none) (hv:bootBuiltins x=some (.type "str")) (ha:DW X a fa) (hn:x ≠ "__name__" := by decide +kernel) (hdb:(x==("__debug__" : Str))=false:=by decide +kernel)
  (he:starEach (a :: []) X.env=(false,eval a X.env) :: starEach [] X.env:=by rfl) (hpl:(backTo pos (starEach [] X.env)).any (·.1)=false:=by rfl):DE X (.Call (.Name x p1) [a] [] pos) (Z.eU Z.oStr fa) :=
 PE.imp (pe_callTy call_str1 hg hm hv (pa_cons ha pa_nil he) hn hdb he hpl) fun σ H Q ⟨ρ,d,r,e,k⟩=>by
  obtain ⟨x,ea,e⟩:=Z.Res.bind_ok e
  obtain ⟨n,rfl,hl,rfl⟩:=Z.oStr_ok e
  refine ⟨ρ,_,r,ea,fun v H1 s1 d1=>?_⟩
  exact ⟨n,by rw [d1.int],hl,k _ H1 s1 den_str⟩
end
section
variable {X:Cx} {tg:Expr}
variable {a b c:Expr} {p pos:Pos} {fa fb fc:Z.EF}
end
end ZS
namespace ZQ
open PySem PySem.Spec PyProof.Rows L2 ZS PySem.W
section
variable {X:Cx} {tg a b c:Expr} {pos p p2:Pos} {fa fb fc:Z.EF} {H0:Hp}
theorem de_str1 {x:Str} {p1:Pos} (hg:Gl X x) (hm:X.mg x=none) (hv:bootBuiltins x=some (.type "str")) (ha:QW X a fa) (hn:x ≠ "__name__" := by decide +kernel) (hdb:(x==("__debug__" : Str))=false:=by decide +kernel)
  (he:starEach (a :: []) X.env=(false,eval a X.env) :: starEach [] X.env:=by rfl) (hpl:(backTo pos (starEach [] X.env)).any (·.1)=false:=by rfl):QE X (.Call (.Name x p1) [a] [] pos) (Z.eU Z.oStr fa):=⟨ZS.de_str1 hg hm hv ha.p hn hdb he hpl⟩
end
end ZQ
noncomputable section
namespace Z
def eM (kd i:Nat) (ρ:Env):Res D:=match ρ[i]? with
 | some (some (.bor (.dct (.inl a :: .inl k :: ks) vs)))=>if k=(kd:Int) then .ok (.dct (.inl a :: .inl k :: ks) vs) else .bad
 | _=>.bad
def getF:List (Sum Int (List Nat))→List D→List Nat→Res D
 | .inr k :: ks,v :: vs,f=>if k=f then .ok v else getF ks vs f
 | _,_,_=>.bad
def oFld (f:List Nat):D→Res D
 | .dct (.inl _ :: .inl _ :: ks) vs=>getF ks vs f
 | _=>.bad
def fxB (bs:List Bool) (n:Nat) (b:XF) (ds:List D):Option XN:=if ds.length=bs.length then b (startB n bs ds) else none
theorem fxB_a (bs:List Bool) (n:Nat) (b:XF) (ds:List D) (h:ds.length=bs.length):fxB bs n b ds=b (startB n bs ds):=if_pos h
def sTryS (b:SF) (xb:XF) (cs:List (List Nat)) (i:Nat) (h:SF) (ρ:Env):Res Fl:=match xb ρ with
 | some c'=>if c'.1∈cs then (match h (ρ.set i (some (.exc c'))) with
  | .ok (.nx ρ')=>.ok (.nx (ρ'.set i none))
  | .ok (.rt d)=>.ok (.rt d)
  | _=>.bad) else .bad
 | none=>b ρ
end Z
end
noncomputable section
namespace Z
inductive FlM where
 | nx (ρ:Env)
 | rt (d:D) (ts:List D)
abbrev SM:=Env→Res FlM
def thA:Option (Option L)→D
 | some (some (.bor d))=>d
 | _=>.non
def thsAt (ms:List Nat) (ρ:Env):List D:=ms.map fun i=>thA ρ[i]?
def isT:Option L→Prop
 | some (.bor _)=>True
 | _=>False
def noT (ms:List Nat):Nat→Env→Prop
 | _,[]=>True
 | k,x :: r=>(isT x→k∈ms)∧noT ms (k+1) r
def keepsT (ms:List Nat) (ρ ρ':Env):Prop:=(∀ i∈ms,ρ'[i]?=ρ[i]?)∧noT ms 0 ρ'
def mLift (ms:List Nat) (g:SF) (ρ:Env):Res FlM:=(g ρ).bind fun fl=>match fl with
 | .nx ρ'=>guard (keepsT ms ρ ρ') (.ok (.nx ρ'))
 | .rt d=>.ok (.rt d (thsAt ms ρ))
 | _=>.bad
def mSeq (a b:SM) (ρ:Env):Res FlM:=(a ρ).bind fun fl=>match fl with
 | .nx ρ'=>b ρ'
 | o=>.ok o
def setK (f:List Nat) (d:D):List (Sum Int (List Nat))→List D→List (Sum Int (List Nat))×List D
 | .inr k :: ks,v :: vs=>if k=f then (.inr k :: ks,d :: vs) else (.inr k :: (setK f d ks vs).1,v :: (setK f d ks vs).2)
 | _,_=>([.inr f],[d])
def setT (f:List Nat) (x:D) (t:Option (Option L)):Res L:=match t with
 | some (some (.bor (.dct (.inl a :: .inl k :: ks) vs)))=>guard (k=0∧(setK f x ks vs).1=(deskK.take (setK f x ks vs).1.length).map .inr) (.ok (.bor (.dct (.inl a :: .inl k :: (setK f x ks vs).1) (setK f x ks vs).2)))
 | _=>.bad
def mFld (i:Nat) (f:List Nat) (e:EF) (ρ:Env):Res FlM:=(e ρ).bind fun d=>(setT f d ρ[i]?).bind fun l=>.ok (.nx (ρ.set i (some l)))
def fnM (ms:List Nat) (bs:List Bool) (n:Nat) (b:SM) (ds:List D):Res (D×List D):=if ds.length=bs.length then (match b (startB n bs ds) with
 | .ok (.rt d ts)=>.ok (d,ts)
 | .ok (.nx ρ)=>.ok (.non,thsAt ms ρ)
 | _=>.bad) else .bad
theorem fnM_a (ms:List Nat) (bs:List Bool) (n:Nat) (b:SM) (ds:List D) (h:ds.length=bs.length):fnM ms bs n b ds=(match b (startB n bs ds) with
 | .ok (.rt d ts)=>.ok (d,ts)
 | .ok (.nx ρ)=>.ok (.non,thsAt ms ρ)
 | _=>.bad):=if_pos h
open Classical in
def makeR (m:List D→Res (D×List D)) (ds:List D):Res (List D):=if h:∃ fs,∀ x:Nat,m (thg x 0 [] [] :: ds)=.ok (.non,[thg x 0 deskK fs]) then .ok h.choose else .bad
theorem makeR_ok {m:List D→Res (D×List D)} {ds fs:List D} (h:makeR m ds=.ok fs):∀ x:Nat,m (thg x 0 [] [] :: ds)=.ok (.non,[thg x 0 deskK fs]):=by
 unfold makeR at h
 split at h
 ·rename_i q;cases h;exact q.choose_spec
 ·cases h
theorem makeR_mk {m:List D→Res (D×List D)} {ds fs:List D} (h:∀ x:Nat,m (thg x 0 [] [] :: ds)=.ok (.non,[thg x 0 deskK fs])):makeR m ds=.ok fs:=by
 have q:∃ fs,∀ x:Nat,m (thg x 0 [] [] :: ds)=.ok (.non,[thg x 0 deskK fs]):=⟨fs,h⟩
 unfold makeR
 rw [dif_pos q]
 have:=(q.choose_spec 0).symm.trans (h 0)
 simp only [Res.ok.injEq,Prod.mk.injEq,true_and,List.cons.injEq,and_true,thg,D.dct.injEq] at this
 exact congrArg Res.ok this
open Classical in
def allT (f:Nat→Res Fl):Res Fl:=if h:∃ d,∀ x,f x=.ok (.rt d) then .ok (.rt h.choose) else .bad
theorem allT_ok {f:Nat→Res Fl} {fl:Fl} (h:allT f=.ok fl):∃ d,fl=.rt d∧∀ x,f x=.ok (.rt d):=by
 unfold allT at h
 split at h
 ·rename_i q;cases h;exact ⟨_,rfl,q.choose_spec⟩
 ·cases h
theorem allT_mk {f:Nat→Res Fl} {d:D} (h:∀ x,f x=.ok (.rt d)):allT f=.ok (.rt d):=by
 have q:∃ d,∀ x,f x=.ok (.rt d):=⟨d,h⟩
 unfold allT
 rw [dif_pos q]
 have:=(q.choose_spec 0).symm.trans (h 0)
 simp only [Res.ok.injEq,Fl.rt.injEq] at this
 exact congrArg (fun d=>Res.ok (Fl.rt d)) this
def sMake (i:Nat) (m:List D→Res (D×List D)) (a:EF) (r:SF) (ρ:Env):Res Fl:=(a ρ).bind fun d=>(makeR m [d]).bind fun fs=>allT fun x=>r (ρ.set i (some (.bor (thg x 0 deskK fs))))
open Classical in
def mkX (m:List D→Option XN) (d:D):Option XN:=if h:∃ c,∀ x:Nat,m [thg x 0 [] [],d]=some c then some h.choose else none
theorem mkX_mk {m:List D→Option XN} {d:D} {c:XN} (h:∀ x:Nat,m [thg x 0 [] [],d]=some c):mkX m d=some c:=by
 have q:∃ c,∀ x:Nat,m [thg x 0 [] [],d]=some c:=⟨c,h⟩
 unfold mkX
 rw [dif_pos q]
 exact (q.choose_spec 0).symm.trans (h 0)
theorem mkX_ok {m:List D→Option XN} {d:D} {c:XN} (h:mkX m d=some c):∀ x:Nat,m [thg x 0 [] [],d]=some c:=by
 unfold mkX at h
 split at h
 ·rename_i q;cases h;exact q.choose_spec
 ·cases h
def xMake (m:List D→Option XN) (a:EF) (ρ:Env):Option XN:=match a ρ with
 | .ok d=>mkX m d
 | .bad=>none
end Z
end
namespace ZS
open PySem PySem.Spec PyProof.Rows L2 PySem.W
def ThK (K:PySem.W.Frag) (H:Hp) (kd:Nat) (d:Z.D) (v:V):Prop:=∃ a ks ds u,d=Z.thg a kd ks ds∧v=.ref a∧H a=some u∧ThO K H kd ks ds u
theorem ThK.b {K:PySem.W.Frag} {H:Hp} {kd:Nat} {d:Z.D} {v:V} (h:ThK K H kd d v):DenB K H d v:=let ⟨a,ks,ds,u,h⟩:=h;.inr ⟨a,kd,ks,ds,u,h⟩
theorem ThK.up {K:PySem.W.Frag} {H H':Hp} {kd:Nat} {d:Z.D} {v:V} (h:ThK K H kd d v) (e:Same H H'):ThK K H' kd d v:=by
 obtain ⟨a,ks,ds,u,e1,e2,q,t⟩:=h
 exact ⟨a,ks,ds,u,e1,e2,e _ _ q,t.ups (stb e)⟩
def tZm (K:PySem.W.Frag) (kd:Nat) (f:Z.EF):TE:=fun σ H Q=>∃ ρ d,RE K H σ ρ∧f ρ=.ok d∧∀ v H',Same H H'→ThK K H' kd d v→Q v H'
abbrev DM (X:Cx) (kd:Nat) (e:Expr) (f:Z.EF):Prop:=PE X e (tZm X.K kd f)
theorem eM_ok {kd i:Nat} {ρ:Z.Env} {d:Z.D} (h:Z.eM kd i ρ=.ok d):∃ a ks vs,ρ[i]?=some (some (.bor d))∧d=.dct (.inl a :: .inl (kd:Int) :: ks) vs:=by
 unfold Z.eM at h
 split at h
 ·rename_i a k ks vs q
  split at h
  ·rename_i hk;subst hk;cases h;exact ⟨a,ks,vs,q,rfl⟩
  ·cases h
 ·cases h
theorem denB_k {K:PySem.W.Frag} {H:Hp} {kd:Nat} {a:Int} {ks:List (Sum Int (List Nat))} {vs:List Z.D} {v:V} (h:DenB K H (.dct (.inl a :: .inl (kd:Int) :: ks) vs) v):ThK K H kd (.dct (.inl a :: .inl (kd:Int) :: ks) vs) v:=by
 obtain ⟨a',kd',ks',ds,u,e1,e2,q,t⟩:=h.thg
 have:kd'=kd:=by
  unfold Z.thg at e1
  injection e1 with e1 _
  injection e1 with _ e1
  injection e1 with e1 _
  injection e1 with e1
  exact (Int.ofNat.inj e1).symm
 subst this
 exact ⟨a',ks',ds,u,e1,e2,q,t⟩
section
variable {X:Cx} {e o a:Expr} {es:List Expr} {pos:Pos} {f fo:Z.EF} {kd:Nat}
theorem dm_var {i:Nat} (h:PE X e (tVar i)):DM X kd e (Z.eM kd i):=PE.imp h fun σ H Q ⟨ρ,d,r,e,k⟩=>by
 obtain ⟨a,ks,vs,hi,rfl⟩:=eM_ok e
 obtain ⟨v,h1,h2⟩:=r.get i _ hi
 exact ⟨v,h1,k v H (Same.refl H) (denB_k h2)⟩
theorem daf_thing {bs:List Bool} {g:Z.AF} (ha:DM X kd e f) (hr:DAF X es bs g) (hs:starEach (e :: es) X.env=(false,eval e X.env) :: starEach es X.env:=by rfl):DAF X (e :: es) (true :: bs) (Z.aCons f g):=PA.imp (pa_cons ha hr hs) fun σ H Q ⟨ρ,ds,r,e,k⟩=>by
 obtain ⟨x,ea,e⟩:=Z.Res.bind_ok e
 obtain ⟨xs,eb,e⟩:=Z.Res.bind_ok e
 cases e
 exact ⟨ρ,x,r,ea,fun v H1 s1 d1=>⟨ρ,xs,r.up s1,eb,fun vs H2 s2 t=>k _ H2 (s1.trans s2) ⟨v,vs,rfl,(d1.up s2).b,t⟩⟩⟩
theorem mkS_eq {a b:List Nat}:((⟨a.toArray⟩:Str)=⟨b.toArray⟩)↔a=b:=⟨fun h=>by simpa using congrArg (fun s:Str=>s.cps.toList) h,fun h=>by rw [h]⟩
theorem getF_ok {K:PySem.W.Frag} {H:Hp} {f:List Nat} {d:Z.D}:∀ {ks:List (List Nat)} {ds:List Z.D} {fs:List (Str×V)},Z.getF (ks.map .inr) ds f=.ok d→fs.map (·.1)=ks.map (fun c=>(⟨c.toArray⟩:Str))→Dens K H ds (fs.map (·.2))→∃ v,fs.lookup ⟨f.toArray⟩=some v∧Den K H d v
 | [],ds,fs,h,_,_=>by cases h
 | k :: ks,[],fs,h,_,_=>by cases h
 | k :: ks,x :: ds,[],_,h2,_=>by cases h2
 | k :: ks,x :: ds,(n,v) :: fs,h,h2,h3=>by
  simp only [List.map_cons,List.cons.injEq] at h2
  simp only [List.map_cons,Dens] at h3
  obtain ⟨v',r,e1,h4,h5⟩:=h3
  cases e1
  obtain ⟨e2,h2⟩:=h2
  subst e2
  simp only [List.map_cons,Z.getF] at h
  by_cases hk:k=f
  ·subst hk
   rw [if_pos rfl] at h
   cases h
   exact ⟨v,by simp [List.lookup],h4⟩
  ·rw [if_neg hk] at h
   obtain ⟨w,q1,q2⟩:=getF_ok h h2 h5
   refine ⟨w,?_,q2⟩
   have:((⟨f.toArray⟩:Str)==⟨k.toArray⟩)=false:=beq_eq_false_iff_ne.mpr fun z=>hk (mkS_eq.mp z).symm
   simp only [List.lookup,this]
   exact q1
def NoF (K:PySem.W.Frag) (f:Str):Prop:=∃ C,nsIn K mainGlobals "Desk" = some (some (.ref C))∧findIn K (.ref C) f=some none
theorem de_fld {f:Str} {fc:List Nat} (hn:NoF X.K f) (ho:DM X 0 o fo) (hf:(⟨fc.toArray⟩:Str)=f) (hb:attributeBase o f X.env (eval o X.env)=eval o X.env:=by rfl):DE X (.Attribute o f pos) (Z.eU (Z.oFld fc) fo):=PE.imp (pe_fld ho hb) fun σ H Q ⟨ρ,d,r,e,k⟩=>by
 obtain ⟨x,ea,e⟩:=Z.Res.bind_ok e
 refine ⟨ρ,x,r,ea,fun v H1 s1 d1=>?_⟩
 obtain ⟨a,ks,ds,u,rfl,rfl,q,t⟩:=d1
 rcases t with ⟨_,_,C,dx,fs,rfl,hC,h3,h4⟩ | ⟨z,_⟩
 ·obtain ⟨v,q1,q2⟩:=getF_ok e h3 h4
  obtain ⟨C',e1,e2⟩:=hn
  have:=e1.symm.trans hC.1
  cases this
  rw [hf] at q1
  exact ⟨a,C,dx,fs,v,rfl,q,hC.2,e2,q1,k v H1 s1 q2⟩
 ·cases z
theorem lookup_no {m:Str} {n:Nat} {fs:List (Str×V)} (h:fs.map (·.1)=(Z.deskK.take n).map (fun c=>(⟨c.toArray⟩:Str))) (hm:(Z.deskK.map (fun c=>(⟨c.toArray⟩:Str))).contains m=false):fs.lookup m=none:=by
 have hk:∀ y∈fs.map (·.1),(m==y)=false:=fun y hy=>by
  rw [h] at hy
  obtain ⟨c,hc,rfl⟩:=List.mem_map.mp hy
  have:(⟨c.toArray⟩:Str)∈Z.deskK.map (fun c=>(⟨c.toArray⟩:Str)):=List.mem_map.mpr ⟨c,List.mem_of_mem_take hc,rfl⟩
  refine beq_eq_false_iff_ne.mpr fun z=>?_
  rw [←z,←List.contains_iff_mem,hm] at this
  cases this
 clear h
 induction fs with
 | nil=>rfl
 | cons x r ih =>
  obtain ⟨n,v⟩:=x
  simp only [List.lookup,hk n (by simp)]
  exact ih fun y hy=>hk y (by simp [List.map_cons];right;simpa using hy)
structure CalM (P:Program) (w:World) (K:PySem.W.Frag) (mg:Str→Option Value) (base:Heap) (m:Str) (k:Nat) (ps:List Str) (bs:List Bool) (fn:List Z.D→Z.Res Z.D):Prop where
 ex:∃ C g fd,ClsN K "Desk" C∧Meth K C m g∧FnOk P w K mg base CX0 k g fd ps (spZF K bs fn)∧Binds K fd ps []
theorem de_meth0 {m:Str} {k:Nat} {ps:List Str} {fn:List Z.D→Z.Res Z.D} {apos:Pos} {pl:Sem Bool} (C:CalM X.prog X.w X.K X.mg X.base m k ps [true] fn) (hr:Room k X.A) (ho:DM X 0 o fo) (hf:(Z.deskK.map (fun c=>(⟨c.toArray⟩:Str))).contains m=false)
  (ht:eval (.Call (.Attribute o m apos) [] [] pos) X.env=(do
   let ov ←eval o X.env
   standAt apos.atName
   let (f,first) ←holding [ov] (getMethod ov m pl)
   callWith pos f first (backTo pos (starEach [] X.env)) (backToKw pos (keywordEach [] X.env))):=by rfl) :
  DE X (.Call (.Attribute o m apos) [] [] pos) (Z.eCall fn (Z.aCons fo Z.aNil)):=by
 obtain ⟨C,g,fd,hC,hm,F,hb⟩:=C.ex
 refine PE.imp (pe_meth0 (pl:=pl) ho hC.2 hm F hr hb .nil pass0 ht) fun σ H Q ⟨ρ,d,r,e,k⟩=>?_
 obtain ⟨ds,ea,e⟩:=Z.Res.bind_ok e
 obtain ⟨x,ex,ea⟩:=Z.Res.bind_ok ea
 obtain ⟨xs,en,ea⟩:=Z.Res.bind_ok ea
 cases en;cases ea
 refine ⟨ρ,x,r,ex,fun v H1 s1 d1=>?_⟩
 obtain ⟨a,ks,ds,u,rfl,rfl,q,t⟩:=id d1
 rcases t with ⟨_,hk,C',dx,fs,rfl,hC',h3,h4⟩ | ⟨z,_⟩
 ·have:=hC'.1.symm.trans hC.1
  cases this
  rw [hk] at h3
  exact ⟨a,dx,fs,rfl,q,lookup_no h3 hf,[Z.thg a 0 ks ds],d,⟨_,_,rfl,d1.b,rfl⟩,e,fun v H' s2 dv=>k v H' (s1.trans s2) dv⟩
 ·cases z
theorem de_meth {m:Str} {k:Nat} {ps:List Str} {bs:List Bool} {fn:List Z.D→Z.Res Z.D} {ar:Z.AF} {apos:Pos} {pl:Sem Bool} (C:CalM X.prog X.w X.K X.mg X.base m k ps (true :: bs) fn) (hr:Room k X.A) (ho:DM X 0 o fo) (hf:(Z.deskK.map (fun c=>(⟨c.toArray⟩:Str))).contains m=false) (ha:DAF X (e :: es) bs ar)
  (hst:starEach (e :: es) X.env=(false,eval e X.env) :: starEach es X.env:=by rfl) (hpl:(backTo pos (starEach es X.env)).any (·.1)=false:=by rfl)
  (ht:eval (.Call (.Attribute o m apos) (e :: es) [] pos) X.env=(do
   let ov ←eval o X.env
   standAt apos.atName
   let (f,first) ←holding [ov] (getMethod ov m pl)
   callWith pos f first (backTo pos (starEach (e :: es) X.env)) (backToKw pos (keywordEach [] X.env))):=by rfl) :
  DE X (.Call (.Attribute o m apos) (e :: es) [] pos) (Z.eCall fn (Z.aCons fo ar)):=by
 obtain ⟨C,g,fd,hC,hm,F,hb⟩:=C.ex
 refine PE.imp (pe_meth (pl:=pl) ho hC.2 hm F hr hb .nil pass0 ha hst hpl ht) fun σ H Q ⟨ρ,d,r,e,k⟩=>?_
 obtain ⟨ds,ea,e⟩:=Z.Res.bind_ok e
 obtain ⟨x,ex,ea⟩:=Z.Res.bind_ok ea
 obtain ⟨xs,en,ea⟩:=Z.Res.bind_ok ea
 cases ea
 refine ⟨ρ,x,r,ex,fun v H1 s1 d1=>?_⟩
 obtain ⟨a,ks,ds,u,rfl,rfl,q,t⟩:=id d1
 rcases t with ⟨_,hk,C',dx,fs,rfl,hC',h3,h4⟩ | ⟨z,_⟩
 ·have:=hC'.1.symm.trans hC.1
  cases this
  rw [hk] at h3
  refine ⟨a,dx,fs,rfl,q,lookup_no h3 hf,ρ,xs,r.up s1,en,fun vs H2 s2 d2=>?_⟩
  show spZF X.K (true :: bs) fn (.ref a :: (vs++[])) H2 Q E0
  rw [List.append_nil]
  exact ⟨Z.thg a 0 ks ds :: xs,d,⟨_,_,rfl,(d1.up s2).b,d2⟩,e,fun v H' s3 dv=>k v H' ((s1.trans s2).trans s3) dv⟩
 ·cases z
end
structure MDef (K:PySem.W.Frag) (m qual:Str) (st:Stmt) (ps:List Str):Prop where
 ex:∃ C f fd,ClsN K "Desk" C∧Meth K C m f∧Fun K m qual st f fd∧Binds K fd ps []
section
variable {P:Program} {w:World} {K:PySem.W.Frag} {mg:Str→Option Value} {base:Heap}
theorem CalM.mk' {m qual:Str} {k:Nat} {st:Stmt} {N ps:List Str} {bs:List Bool} {b:Z.SF} (hbs:bs.length=ps.length) (d:MDef K m qual st ps) (S:FnScope N ps (defScope st))
  (hb:∀ (f:Addr) (cdv:Value) (A:Around) (outer:List PySem.Env) (s:Shared) (H:Hp) (E:XK),Room k (A.deeper (envOfC qual (defScope st) s.heap.objs.size f cdv)) →
   DSs (cxOf CX0 P w K mg base N qual (defScope st) f cdv A outer s H E).nox H (defBody st) b):CalM P w K mg base m (k+1) ps bs (Z.fnB bs N.length b):=by
 obtain ⟨C,f,fd,hC,hm,F,hb'⟩:=d.ex
 exact ⟨C,f,fd,hC,hm,fnZB hbs F S (hb f),hb'⟩
end
end ZS
namespace ZS
open PySem PySem.Spec PyProof.Rows L2 PySem.W
def spRF (K:PySem.W.Frag) (bs:List Bool) (m:List Z.D→Option Z.XN):Sp:=fun vs H _ E=>∃ ds c,DensF K H bs ds vs∧m ds=some c∧∀ C dd H',Same H H'→XRel K H' c C dd→E (.ref C) dd H'
section
variable {P:Program} {w:World} {K:PySem.W.Frag} {mg:Str→Option Value} {base:Heap}
theorem fnXB {f:Addr} {name qual:Str} {st:Stmt} {dV kV doc pm cdv ct oc:Value} {an od:Option Addr} {osl:Array (Option Value)} {N ps:List Str} {bs:List Bool} {k:Nat} {xb:Z.XF} (hbs:bs.length=ps.length)
  (lk:K.lookup f=some ⟨oc,od,.func (PySem.W.fnOf name qual (defArgs st) (defBody st) (defScope st) dV kV doc pm an cdv ct),osl⟩) (hcd:PySem.W.codeIn K cdv qual=true) (S:FnScope N ps (defScope st))
  (hb:∀ (A:Around) (outer:List PySem.Env) (s:Shared) (H:Hp) (E:XK),Room k (A.deeper (envOfC qual (defScope st) s.heap.objs.size f cdv)) →
   XSs (cxOf (CXZ P w) P w K mg base N qual (defScope st) f cdv A outer s H E) H (defBody st) xb):FnOk P w K mg base (CXZ P w) (k+1) f (PySem.W.fnOf name qual (defArgs st) (defBody st) (defScope st) dV kV doc pm an cdv ct) ps (spRF K bs (Z.fxB bs N.length xb)):=by
 have hlen:∀ (vs:List V) (H:Hp) (Q:VK) (E:XK),spRF K bs (Z.fxB bs N.length xb) vs H Q E→vs.length=ps.length:=fun vs H Q E ⟨ds,d,t,e,_⟩=>by
  have:=t.length
  lia
 refine fn_of lk hcd S hlen fun A outer s H vs Q E hr h=>?_
 refine ⟨_,hb A outer s H E hr,?_⟩
 have hl:=hlen vs H Q E h
 obtain ⟨ds,c,t,e,k⟩:=h
 have hpl:ps.length≤N.length:=by have:=congrArg List.length S.pre;rw [List.length_take] at this;lia
 have rs:RS K H H (L2.start N vs) (Z.startB N.length bs ds):=startB_get t (by lia)
 unfold Z.fxB at e
 split at e
 ·exact ⟨_,c,rs,e,fun pins σ H' s' a C dd sm xc I th=>leave_thr I th (k C dd H' sm xc)⟩
 ·cases e
structure CalXB (P:Program) (w:World) (K:PySem.W.Frag) (mg:Str→Option Value) (base:Heap) (x:Str) (k:Nat) (ps:List Str) (bs:List Bool) (m:List Z.D→Option Z.XN):Prop where
 ex:∃ g fd,FnOk P w K mg base (CXZ P w) k g fd ps (spRF K bs m)∧mg x=some (.ref g)∧PySem.W.keepIn K (.ref g)=true∧Binds K fd ps []
structure CalXM (P:Program) (w:World) (K:PySem.W.Frag) (mg:Str→Option Value) (base:Heap) (m:Str) (k:Nat) (ps:List Str) (bs:List Bool) (fx:List Z.D→Option Z.XN):Prop where
 ex:∃ C g fd,ClsN K "Desk" C∧Meth K C m g∧FnOk P w K mg base (CXZ P w) k g fd ps (spRF K bs fx)∧Binds K fd ps []
theorem CalXB.mk' {x:Str} {k:Nat} {st:Stmt} {N ps:List Str} {bs:List Bool} {xb:Z.XF} (hbs:bs.length=ps.length) (d:Def K mg x st ps) (S:FnScope N ps (defScope st))
  (hb:∀ (f:Addr) (cdv:Value) (A:Around) (outer:List PySem.Env) (s:Shared) (H:Hp) (E:XK),Room k (A.deeper (envOfC x (defScope st) s.heap.objs.size f cdv)) →
   XSs (cxOf (CXZ P w) P w K mg base N x (defScope st) f cdv A outer s H E) H (defBody st) xb):CalXB P w K mg base x (k+1) ps bs (Z.fxB bs N.length xb):=by
 obtain ⟨f,fd,F,hm,hb'⟩:=d.ex
 have kp:=F.kp
 obtain ⟨oc,od,kV,doc,pm,an,cdv,ct,osl,rfl,lk,hcd⟩:=F.ex
 exact ⟨f,_,fnXB hbs lk hcd S (hb f cdv),hm,kp,hb'⟩
theorem CalXM.mk' {m qual:Str} {k:Nat} {st:Stmt} {N ps:List Str} {bs:List Bool} {xb:Z.XF} (hbs:bs.length=ps.length) (d:MDef K m qual st ps) (S:FnScope N ps (defScope st))
  (hb:∀ (f:Addr) (cdv:Value) (A:Around) (outer:List PySem.Env) (s:Shared) (H:Hp) (E:XK),Room k (A.deeper (envOfC qual (defScope st) s.heap.objs.size f cdv)) →
   XSs (cxOf (CXZ P w) P w K mg base N qual (defScope st) f cdv A outer s H E) H (defBody st) xb):CalXM P w K mg base m (k+1) ps bs (Z.fxB bs N.length xb):=by
 obtain ⟨C,f,fd,hC,hm,F,hb'⟩:=d.ex
 obtain ⟨oc,od,kV,doc,pm,an,cdv,ct,osl,rfl,lk,hcd⟩:=F.ex
 exact ⟨C,f,_,hC,hm,fnXB hbs lk hcd S (hb f cdv),hb'⟩
end
section
variable {X:Cx} {e o a b:Expr} {es:List Expr} {pos:Pos} {f:Z.XF} {fo fa:Z.EF}
theorem PE.noxM {e:Expr} {t:TE} (h:PE X.nox e t):PE X e t:=fun pins s σ H Q I hw =>
 wpAny_mono (h pins s σ H Q (I.wish _) hw) (fun _ _ ⟨v,H',I',r,q⟩=>⟨v,H',I'.unwish,r,q⟩) fun _ _ z=>False.elim z
theorem run_x {pins:List (Addr×Obj)} {σ:St} {H:Hp} {s:Shared} {k:Nat} {ps:List Str} {bs:List Bool} {m:List Z.D→Option Z.XN} {g:Addr} {fd:FuncData} {us:List Value} {vs:List V} {ds:List Z.D} {c:Z.XN} {Q:Value→Shared→Prop}
  (hex:X.ex=[]) (F:FnOk X.prog X.w X.K X.mg X.base (CXZ X.prog X.w) k g fd ps (spRF X.K bs m)) (hr:Room k X.A) (hb:Binds X.K fd ps []) (I:Inv X pins σ H s) (r:Vals vs us) (d1:DensF X.K H bs ds vs) (ec:m ds=some c) (kw:XwE X σ H c) :
  wpAny (model X.prog X.w) X.A (call (.ref g) us) Q X.xe s:=by
 have hsp:spRF X.K bs m vs H (fun _ _=>False) (fun cv dd H'=>∃ C,cv=.ref C∧XRel X.K H' c C dd∧Same H H'):=⟨ds,c,d1,ec,fun C' dd H' s2 x2=>⟨C',rfl,x2,s2⟩⟩
 have hl:=F.len _ _ _ _ hsp
 refine wpAny_call (codeAny_mono (F.run X.A X.stack s H ⟨us,[]⟩ us vs _ _ hr I.env0 (by have:=hb s us I.kIn (by rw [List.append_nil,←r.length];exact hl);simpa using this) r hsp) fun rr s' hq=>?_)
 cases rr with
 | ok fl =>
  cases fl with
  | ret u =>
   obtain ⟨v,H2,_,_,_,_,_,q⟩:=hq
   exact q.elim
  | _=>exact hq.elim
 | error ev =>
  have hq:CXZ X.prog X.w X.stack H s (fun cv dd H'=>∃ C,cv=.ref C∧XRel X.K H' c C dd∧Same H H') ev s':=hq
  obtain ⟨a,C',dd,H',rfl,J,th,C2,hc,x2,s2⟩:=thr_of hex I hq
  cases hc
  exact kw pins H' s' a C' dd s2 x2 J th
theorem PAF.nox {bs:List Bool} {ar:Z.AF} (h:DAF X.nox es bs ar):DAF X es bs ar:=PA.nox h
theorem xe_meth {m:Str} {k:Nat} {ps:List Str} {bs:List Bool} {fx:List Z.D→Option Z.XN} {ar:Z.AF} {apos:Pos} {pl:Sem Bool} (C:CalXM X.prog X.w X.K X.mg X.base m k ps (true :: bs) fx) (hr:Room k X.A) (ho:DM X 0 o fo) (hf:(Z.deskK.map (fun c=>(⟨c.toArray⟩:Str))).contains m=false) (ha:DAF X.nox (e :: es) bs ar)
  (hex:X.ex=[]:=by rfl) (hst:starEach (e :: es) X.env=(false,eval e X.env) :: starEach es X.env:=by rfl) (hpl:(backTo pos (starEach es X.env)).any (·.1)=false:=by rfl)
  (ht:eval (.Call (.Attribute o m apos) (e :: es) [] pos) X.env=(do
   let ov ←eval o X.env
   standAt apos.atName
   let (f,first) ←holding [ov] (getMethod ov m pl)
   callWith pos f first (backTo pos (starEach (e :: es) X.env)) (backToKw pos (keywordEach [] X.env))):=by rfl) :
  XE X (.Call (.Attribute o m apos) (e :: es) [] pos) (Z.xCall fx (Z.aCons fo ar)):=by
 obtain ⟨C,g,fd,hC,hm,F,hb⟩:=C.ex
 intro pins s σ H Q I h
 obtain ⟨ρ,c,re,ec,kw⟩:=h
 unfold Z.xCall at ec
 split at ec
 ·rename_i ds ed
  obtain ⟨x,ex,ea⟩:=Z.Res.bind_ok ed
  obtain ⟨xs,en,ea⟩:=Z.Res.bind_ok ea
  cases ea
  refine PySem.W.methodCall_KW (pl:=pl) (thn (ho pins s σ H (fun v H1=>Same H H1∧ThK X.K H1 0 x v) I ⟨ρ,x,re,ex,fun v H1 s1 d1=>⟨s1,d1⟩⟩) fun u s1 ⟨v,H1,I1,rx,sm,d1⟩=>?_) ht
  obtain ⟨a,ks,ds,u',rfl,rfl,q,t⟩:=id d1
  obtain rfl:u=Value.ref a:=rx
  rcases t with ⟨_,hk,C',dx,fs,rfl,hC',h3,h4⟩ | ⟨z,_⟩
  ·have:=hC'.1.symm.trans hC.1
   cases this
   rw [hk] at h3
   refine getmeth_ok I1 q hC.2 hm (lookup_no h3 hf) ?_
   refine PySem.W.callWith_K (first:=[.ref a]) (h₀:=X.base) I.ok.mod.kin hm.kp (thn (PAF.nox ha pos pins s1 σ H1 (fun vs H2=>Same H1 H2∧DensF X.K H2 bs xs vs) I1 ⟨ρ,xs,re.up sm,en,fun vs H2 s2 d2=>⟨s2,d2⟩⟩) fun us s2 ⟨vs,H2,I2,r,sm2,d2⟩=>⟨I2.kIn,?_⟩) hst hpl
   exact run_x (us:=.ref a :: us) (vs:=.ref a :: vs) (ds:=Z.thg a 0 ks ds :: xs) hex F hr hb I2 (.cons rfl r) ⟨_,_,rfl,(d1.up sm2).b,d2⟩ ec ((kw.up sm).up sm2)
  ·cases z
 ·cases ec
theorem xe_ix (ha:DW X.nox a fa) (hb:XE X b f) (hs:PlainIx b:=by intro _ _;rfl):XE X (.Subscript a b pos) (Z.xTl fa f):=PE.imp (pe_ix ix_seq (PE.noxM ha) hb hs) fun σ H Q ⟨ρ,c,re,ec,kw⟩=>by
 unfold Z.xTl at ec
 split at ec
 ·rename_i d ed
  exact ⟨ρ,d,re,ed,fun v H1 s1 d1=>⟨ρ,c,re.up s1,ec,kw.up s1⟩⟩
 ·cases ec
end
end ZS
namespace ZS
open PySem PySem.Spec PyProof.Rows L2 PySem.W
def over (H0 H:Hp) (as:List Addr):Hp:=fun b=>if b∈as then H b else H0 b
section
variable {H0 H H':Hp} {as:List Addr} {a b:Addr} {u:HO} {K:PySem.W.Frag} {σ:St} {ρ:Z.Env} {ms:List Nat}
theorem over_in (h:a∈as):over H0 H as a=H a:=if_pos h
theorem over_out (h:a∉as):over H0 H as a=H0 a:=if_neg h
theorem over_upd (h:a∈as):over H0 (upd H a u) as=upd (over H0 H as) a u:=by
 funext b
 by_cases hb:b=a
 ·subst hb;rw [over_in h,upd_same,upd_same]
 ·rw [upd_ne hb]
  by_cases hm:b∈as
  ·rw [over_in hm,over_in hm,upd_ne hb]
  ·rw [over_out hm,over_out hm]
theorem thg_inj {a a' kd kd':Nat} {ks ks':List (List Nat)} {vs vs':List Z.D} (h:Z.thg a kd ks vs=Z.thg a' kd' ks' vs'):a=a'∧kd=kd'∧ks=ks'∧vs=vs':=by
 unfold Z.thg at h
 injection h with h1 h2
 injection h1 with h1 h3
 injection h3 with h3 h4
 injection h1 with h1
 injection h3 with h3
 exact ⟨Int.ofNat.inj h1,Int.ofNat.inj h3,(List.map_inj_right (fun x y h=>by injection h)).mp h4,h2⟩
theorem noT_get {ms:List Nat}:∀ {ρ:Z.Env} {k i:Nat} {x:Option Z.L},Z.noT ms k ρ→ρ[i]?=some x→Z.isT x→k+i∈ms
 | [],_,_,_,_,e,_=>by simp at e
 | y :: r,k,0,x,h,e,t=>by
  simp at e;subst e;exact h.1 t
 | y :: r,k,i+1,x,h,e,t=>by
  have:=noT_get (i:=i) h.2 (by simpa using e) t
  rw [show k+(i+1)=k+1+i from by lia];exact this
theorem noT_mk {ms:List Nat}:∀ {ρ:Z.Env} {k:Nat},(∀ i x,ρ[i]?=some x→Z.isT x→k+i∈ms)→Z.noT ms k ρ
 | [],_,_=>trivial
 | y :: r,k,h=>⟨fun t=>h 0 y rfl t,noT_mk fun i x e t=>by have:=h (i+1) x (by simpa using e) t;rw [show k+1+i=k+(i+1) from by lia];exact this⟩
structure RM (K:PySem.W.Frag) (H0:Hp) (ms:List Nat) (as:List Addr) (H:Hp) (σ:St) (ρ:Z.Env):Prop where
 rs:RS K (over H0 H as) H σ ρ
 at_:Paired (fun (i:Nat) (a:Addr)=>∃ kd ks vs,ρ[i]?=some (some (.bor (Z.thg a kd ks vs)))) ms as
 no:Z.noT ms 0 ρ
 nd:as.Nodup
 h0:∀ a∈as,H0 a=none
theorem paired_mem {α β:Type} {R:α→β→Prop}:∀ {l:List α} {m:List β} {x:α},Paired R l m→x∈l→∃ y∈m,R x y
 | _,_,_,.nil,h=>by simp at h
 | _,_,x,.cons r t,h=>by
  rcases List.mem_cons.mp h with rfl | h
  ·exact ⟨_,by simp,r⟩
  ·obtain ⟨y,h1,h2⟩:=paired_mem t h
   exact ⟨y,by simp [h1],h2⟩
theorem paired_uniq {α β : Type} {R : α → β → Prop} (hf : ∀ i a b, R i a → R i b → a = b) : ∀ {l : List α} {m : List β} {i j : α} {a : β}, Paired R l m → m.Nodup → i ∈ l → j ∈ l → R i a → R j a → i = j
 | _,_,_,_,_,.nil,_,h,_,_,_=>by simp at h
 | _,_,i,j,a,.cons r t,nd,hi,hj,ri,rj=>by
  have nd':=List.nodup_cons.mp nd
  rcases List.mem_cons.mp hi with ei | hi'
  ·rcases List.mem_cons.mp hj with ej | hj'
   ·exact ei.trans ej.symm
   ·obtain ⟨z,hz,rz⟩:=paired_mem t hj'
    subst ei
    have e1:=hf _ _ _ r ri
    have e2:=hf _ _ _ rz rj
    subst e1;subst e2
    exact absurd hz nd'.1
  ·rcases List.mem_cons.mp hj with ej | hj'
   ·obtain ⟨z,hz,rz⟩:=paired_mem t hi'
    subst ej
    have e1:=hf _ _ _ r rj
    have e2:=hf _ _ _ rz ri
    subst e1;subst e2
    exact absurd hz nd'.1
   ·exact paired_uniq hf t nd'.2 hi' hj' ri rj
theorem at_fun {ρ:Z.Env} (i:Nat) (a b:Addr) (h1:∃ kd ks vs,ρ[i]?=some (some (.bor (Z.thg a kd ks vs)))) (h2:∃ kd ks vs,ρ[i]?=some (some (.bor (Z.thg b kd ks vs)))):a=b:=by
 obtain ⟨_,_,_,h1⟩:=h1
 obtain ⟨_,_,_,h2⟩:=h2
 rw [h1] at h2
 injection h2 with h2;injection h2 with h2;injection h2 with h2
 exact (thg_inj h2).1
theorem RM.inm (h:RM K H0 ms as H σ ρ) {i:Nat} {kd:Nat} {ks:List (List Nat)} {vs:List Z.D} (hi:ρ[i]?=some (some (.bor (Z.thg a kd ks vs)))):i∈ms:=by
 have:=noT_get h.no hi trivial
 simpa using this
theorem RM.mem (h:RM K H0 ms as H σ ρ) {i:Nat} {kd:Nat} {ks:List (List Nat)} {vs:List Z.D} (hi:ρ[i]?=some (some (.bor (Z.thg a kd ks vs)))):a∈as:=by
 obtain ⟨y,hy,r⟩:=paired_mem h.at_ (h.inm hi)
 have:=at_fun i _ _ ⟨_,_,_,hi⟩ r
 subst this;exact hy
theorem RM.uniq (h:RM K H0 ms as H σ ρ) {i j kd kd':Nat} {ks ks':List (List Nat)} {vs vs':List Z.D} (hi:ρ[i]?=some (some (.bor (Z.thg a kd ks vs)))) (hj:ρ[j]?=some (some (.bor (Z.thg a kd' ks' vs')))):i=j :=
 paired_uniq (fun i a b=>at_fun i a b) h.at_ h.nd (h.inm hi) (h.inm hj) ⟨_,_,_,hi⟩ ⟨_,_,_,hj⟩
theorem RM.thing (h:RM K H0 ms as H σ ρ) {i:Nat} {kd:Nat} {ks:List (List Nat)} {vs:List Z.D} (hi:ρ[i]?=some (some (.bor (Z.thg a kd ks vs)))):σ[i]?=some (some (.ref a))∧∃ u,H a=some u∧ThO K H kd ks vs u:=by
 obtain ⟨v,h1,h2⟩:=h.rs.re.get i _ hi
 obtain ⟨a',ks',ds,u,e1,rfl,q,t⟩:=denB_k h2
 obtain ⟨rfl,_,rfl,rfl⟩:=thg_inj e1
 exact ⟨h1,u,q,t⟩
theorem ThO.mb {kd:Nat} {ks:List (List Nat)} {vs:List Z.D} (t:ThO K H kd ks vs u):(∀ xs,u≠.tup xs)∧(∀ o x,u≠.frz o x)∧∀ xs,u≠.lst xs:=by
 rcases t with ⟨_,_,C,dx,fs,rfl,_⟩ | ⟨_,kvs,rfl,_⟩
 ·exact ⟨fun _ z=>(nomatch z),fun _ _ z=>(nomatch z),fun _ z=>(nomatch z)⟩
 ·exact ⟨fun _ z=>(nomatch z),fun _ _ z=>(nomatch z),fun _ z=>(nomatch z)⟩
theorem RM.write (h : RM K H0 ms as H σ ρ) {i kd kd' : Nat} {ks ks' : List (List Nat)} {vs vs' : List Z.D} {u' : HO} (hi : ρ[i]? = some (some (.bor (Z.thg a kd ks vs)))) (t : ThO K (upd H a u') kd' ks' vs' u') :
  Stb H (upd H a u')∧RM K H0 ms as (upd H a u') σ (ρ.set i (some (.bor (Z.thg a kd' ks' vs')))):=by
 have ha:=h.mem hi
 obtain ⟨hs,u,hu,t0⟩:=h.thing hi
 have st:Stb H (upd H a u'):=stb_upd hu t0.mb.1 t0.mb.2.1
 have ou:over H0 H as a=some u:=by rw [over_in ha];exact hu
 have st2:Stb (over H0 H as) (upd (over H0 H as) a u'):=stb_upd ou t0.mb.1 t0.mb.2.1
 have hil:i < ρ.length:=(List.getElem?_eq_some_iff.mp hi).1
 have bor:∀ {j:Nat} {d:Z.D} {v:V} {G:Hp},i≠j→ρ[j]?=some (some (.bor d))→Stb G (upd G a u')→G a=some u→DenB K G d v→DenB K (upd G a u') d v:=fun {j d v G} hj e sg ga hb=>by
  rcases hb with (hb | ⟨ds,q,ws,e1,e2,q1,t1⟩) | ⟨a2,kd2,ks2,ds2,u2,e1,e2,q2,t2⟩
  ·exact .inl (.inl (hb.ups sg))
  ·have:q≠a:=by rintro rfl;rw [ga] at q1;exact t0.mb.2.2 _ (Option.some.inj q1)
   exact .inl (.inr ⟨ds,q,ws,e1,e2,by rw [upd_ne this];exact q1,t1.ups sg⟩)
  ·have:a2≠a:=by rintro rfl;rw [e1] at e;exact hj (h.uniq hi e)
   exact .inr ⟨a2,kd2,ks2,ds2,u2,e1,e2,by rw [upd_ne this];exact q2,t2.ups sg⟩
 have own:∀ {q:Addr},over H0 H as q=none→q≠a:=fun e z=>by rw [z,ou] at e;cases e
 refine ⟨st,⟨?_,?_,?_,h.nd,h.h0⟩⟩
 ·rw [over_upd ha]
  refine ⟨fun b o e=>?_,⟨by simp [h.rs.re.len],fun j l e=>?_,fun j k xs ys q e1 e2 e3 e4=>?_⟩,fun j xs q e1 e2=>?_,fun j d e1=>?_,?_⟩
  ·by_cases hb:b=a
   ·subst hb;rw [upd_same] at e ⊢;exact e
   ·rw [upd_ne hb] at e ⊢;exact h.rs.same b o e
  ·rcases set_cases e with ⟨rfl,hl,e⟩ | ⟨hj,e⟩
   ·cases e
    exact ⟨.ref a,hs,.inr ⟨a,kd',ks',vs',u',rfl,rfl,upd_same,t⟩⟩
   ·obtain ⟨v,e1,r⟩:=h.rs.re.get j l e
    refine ⟨v,e1,?_⟩
    cases l with
    | val d=>exact Den.ups (show Den K H d v from r) st
    | own zs =>
     obtain ⟨q',ws,rfl,hq',t'⟩:=r
     exact ⟨q',ws,rfl,by rw [upd_ne (own (h.rs.fresh j zs q' e e1))];exact hq',t'.ups st⟩
    | bor d=>exact bor hj e st hu r
    | dc ks =>
     obtain ⟨q',as',rfl,hq',t'⟩:=r
     exact ⟨q',as',rfl,by rw [upd_ne (own (h.rs.dic.2 j ks q' e e1))];exact hq',t'.ups st⟩
    | fdc ks =>
     obtain ⟨q',o',as',rfl,hq',t'⟩:=r
     exact ⟨q',o',as',rfl,st.frz _ _ _ hq',t'.ups st⟩
    | idc ps =>
     obtain ⟨q',o',rfl,hq'⟩:=r
     exact ⟨q',o',rfl,st.frz _ _ _ hq'⟩
    | exc c =>
     obtain ⟨q',o',u',C',rfl,hq',r1,r2,r3⟩:=r
     exact ⟨q',o',u',C',rfl,st.frz _ _ _ hq',r1,r2,r3.ups st⟩
  ·rcases set_cases e1 with ⟨_,_,e⟩ | ⟨_,e1⟩
   ·cases e
   ·rcases set_cases e2 with ⟨_,_,e⟩ | ⟨_,e2⟩
    ·cases e
    ·exact h.rs.re.sep j k xs ys q e1 e2 e3 e4
  ·rcases set_cases e1 with ⟨_,_,e⟩ | ⟨_,e1⟩
   ·cases e
   ·have:=h.rs.fresh j xs q e1 e2
    rw [upd_ne (own this)];exact this
  ·rcases set_cases e1 with ⟨rfl,_,e⟩ | ⟨hj,e9⟩
   ·cases e
    exact ⟨.ref a,hs,.inr ⟨a,kd',ks',vs',u',rfl,rfl,upd_same⟩⟩
   ·obtain ⟨v,q1,q2⟩:=h.rs.bors j d e9
    refine ⟨v,q1,?_⟩
    rcases q2 with (hb | ⟨ds,q,ws,g1,g2,q1,t1⟩) | ⟨a2,kd2,ks2,ds2,u2,g1,g2,q2⟩
    ·exact .inl (.inl (hb.ups st2))
    ·have:q≠a:=by rintro rfl;rw [ou] at q1;exact t0.mb.2.2 _ (Option.some.inj q1)
     exact .inl (.inr ⟨ds,q,ws,g1,g2,by rw [upd_ne this];exact q1,t1.ups st2⟩)
    ·have:a2≠a:=by rintro rfl;rw [g1] at e9;exact hj (h.uniq hi e9)
     exact .inr ⟨a2,kd2,ks2,ds2,u2,g1,g2,by rw [upd_ne this];exact q2⟩
  ·refine ⟨fun j k ks ls q e1 e2 e3 e4=>?_,fun j ks q e1 e2=>?_⟩
   ·rcases set_cases e1 with ⟨_,_,e⟩ | ⟨_,e1⟩
    ·cases e
    ·rcases set_cases e2 with ⟨_,_,e⟩ | ⟨_,e2⟩
     ·cases e
     ·exact h.rs.dic.1 j k ks ls q e1 e2 e3 e4
   ·rcases set_cases e1 with ⟨_,_,e⟩ | ⟨_,e1⟩
    ·cases e
    ·have:=h.rs.dic.2 j ks q e1 e2
     rw [upd_ne (own this)];exact this
 ·refine Paired.mapP h.at_ fun j b hj=>?_
  obtain ⟨kd2,ks2,vs2,hj⟩:=hj
  by_cases hij:i=j
  ·subst hij
   rw [hi] at hj
   injection hj with hj;injection hj with hj;injection hj with hj
   obtain ⟨rfl,_⟩:=thg_inj hj
   exact ⟨kd',ks',vs',List.getElem?_set_self hil⟩
  ·exact ⟨kd2,ks2,vs2,by rw [List.getElem?_set_ne hij];exact hj⟩
 ·refine noT_mk fun j x e tx=>?_
  by_cases hij:i=j
  ·subst hij;rw [Nat.zero_add];exact h.inm hi
  ·rw [List.getElem?_set_ne hij] at e
   exact noT_get h.no e tx
theorem RM.tracked (h : RM K H0 ms as H σ ρ) (ha : a ∈ as) : ∃ u, H a = some u := by
 have key:∀ {l:List Nat} {m:List Addr},Paired (fun (i:Nat) (a:Addr)=>∃ kd ks vs,ρ[i]?=some (some (.bor (Z.thg a kd ks vs)))) l m→a∈m→∃ u,H a=some u:=by
  intro l m p
  induction p with
  | nil=>intro h;simp at h
  | cons r t ih =>
   intro hm
   rcases List.mem_cons.mp hm with rfl | hm
   ·obtain ⟨_,_,_,hi⟩:=r
    obtain ⟨_,u,q,_⟩:=h.thing hi
    exact ⟨u,q⟩
   ·exact ih hm
 exact key h.at_ ha
theorem RM.same (h:RM K H0 ms as H σ ρ):Same H0 H:=fun b o e=>h.rs.same b o (by
 rw [over_out (fun z=>by rw [h.h0 b z] at e;cases e)];exact e)
theorem RM.over_same (h:RM K H0 ms as H σ ρ) (s:∀ a∈as,H' a=H a):over H0 H' as=over H0 H as:=by
 funext b
 by_cases hb:b∈as
 ·rw [over_in hb,over_in hb,s b hb]
 ·rw [over_out hb,over_out hb]
theorem RM.up (h:RM K H0 ms as H σ ρ) (s:Same H H'):RM K H0 ms as H' σ ρ:=by
 have e:=h.over_same (H':=H') fun a ha=>by obtain ⟨u,q⟩:=h.tracked ha;rw [q];exact s _ _ q
 refine ⟨?_,h.at_,h.no,h.nd,h.h0⟩
 rw [e];exact h.rs.up s
def stbO:Option HO→Prop
 | some (.tup _)=>True
 | some (.frz _ _)=>True
 | _=>False
open Classical in
noncomputable def ov (H0 H:Hp) (as:List Addr):Hp:=fun b=>if b∈as∨stbO (H b) then H b else H0 b
theorem ov_a (h:a∈as):ov H0 H as a=H a:=if_pos (.inl h)
theorem ov_s (h:stbO (H b)):ov H0 H as b=H b:=if_pos (.inr h)
theorem ov_n (h:b∉as) (n:¬ stbO (H b)):ov H0 H as b=H0 b:=if_neg fun z=>z.elim h n
theorem RM.ovR (h:RM K H0 ms as H σ ρ):RS K (ov H0 H as) H σ ρ:=by
 have sm:Same (over H0 H as) (ov H0 H as):=fun b o e=>by
  by_cases hb:b∈as
  ·rw [over_in hb] at e;rw [ov_a hb];exact e
  ·rw [over_out hb] at e
   by_cases hs:stbO (H b)
   ·rw [ov_s hs];exact h.same b o e
   ·rw [ov_n hb hs];exact e
 have non:∀ {q:Addr} {u:HO},over H0 H as q=none→H q=some u→¬ stbO (some u)→ov H0 H as q=none:=fun {q u} e hq n=>by
  have hb:q∉as:=fun z=>by rw [over_in z,hq] at e;cases e
  rw [ov_n hb (by rw [hq];exact n)]
  rw [over_out hb] at e;exact e
 refine ⟨fun b o e=>?_,h.rs.re,fun i xs q e1 e2=>?_,fun i d e1=>?_,⟨h.rs.dic.1,fun i ks q e1 e2=>?_⟩⟩
 ·by_cases hb:b∈as∨stbO (H b)
  ·rcases hb with hb | hb
   ·rw [ov_a hb] at e;exact e
   ·rw [ov_s hb] at e;exact e
  ·rw [ov_n (fun z=>hb (.inl z)) fun z=>hb (.inr z)] at e;exact h.same b o e
 ·obtain ⟨v,h1,a,vs,e,h2,_⟩:=h.rs.re.get i _ e1
  rw [e2] at h1;cases h1;cases e
  exact non (h.rs.fresh i xs _ e1 e2) h2 fun z=>z
 ·obtain ⟨v,h1,h2⟩:=h.rs.bors i d e1
  refine ⟨v,h1,?_⟩
  rcases h2 with h2 | ⟨a,kd,ks,ds,u,g1,g2,g3⟩
  ·exact .inl (h2.up sm)
  ·exact .inr ⟨a,kd,ks,ds,u,g1,g2,sm _ _ g3⟩
 ·obtain ⟨v,h1,a,as',e,h2,_⟩:=h.rs.re.get i _ e1
  rw [e2] at h1;cases h1;cases e
  refine non (h.rs.dic.2 i ks _ e1 e2) h2 fun z=>?_
  cases ks<;>exact z
theorem ov_stb (s:Same (ov H0 H as) H'):Stb H H':=⟨fun b xs e=>s _ _ (by rw [ov_s (by rw [e];trivial)];exact e),fun b o x e=>s _ _ (by rw [ov_s (by rw [e];trivial)];exact e)⟩
theorem paired_mono {α β:Type} {R S:α→β→Prop}:∀ {l:List α} {m:List β},Paired R l m→(∀ x∈l,∀ y,R x y→S x y)→Paired S l m
 | _,_,.nil,_=>.nil
 | _,_,.cons r t,f=>.cons (f _ (by simp) _ r) (paired_mono t fun x hx=>f x (by simp [hx]))
theorem RM.back {σ':St} {ρ':Z.Env} (h:RM K H0 ms as H σ ρ) (kt:Z.keepsT ms ρ ρ') (r:RS K (ov H0 H as) H' σ' ρ'):RM K H0 ms as H' σ' ρ':=by
 have ha:∀ a∈as,H' a=H a:=fun a z=>by obtain ⟨u,q⟩:=h.tracked z;rw [q];exact r.same _ _ (by rw [ov_a z];exact q)
 have e:=h.over_same ha
 have at':Paired (fun (i:Nat) (a:Addr)=>∃ kd ks vs,ρ'[i]?=some (some (.bor (Z.thg a kd ks vs)))) ms as:=paired_mono h.at_ fun i hi a ⟨kd,ks,vs,q⟩=>⟨kd,ks,vs,by rw [kt.1 i hi];exact q⟩
 have down:∀ {q:Addr},ov H0 H as q=none→over H0 H as q=none:=fun {q} z=>by
  by_cases hb:q∈as
  ·rw [ov_a hb] at z;rw [over_in hb];exact z
  ·rw [over_out hb]
   by_cases hs:stbO (H q)
   ·rw [ov_s hs] at z;rw [z] at hs;exact hs.elim
   ·rw [ov_n hb hs] at z;exact z
 refine ⟨?_,at',kt.2,h.nd,h.h0⟩
 rw [e]
 refine ⟨fun b o q=>?_,r.re,fun i xs q e1 e2=>down (r.fresh i xs q e1 e2),fun i d e1=>?_,⟨r.dic.1,fun i ks q e1 e2=>down (r.dic.2 i ks q e1 e2)⟩⟩
 ·by_cases hb:b∈as
  ·rw [over_in hb] at q;rw [ha b hb];exact q
  ·rw [over_out hb] at q
   refine r.same b o ?_
   by_cases hs:stbO (H b)
   ·rw [ov_s hs];exact h.same b o q
   ·rw [ov_n hb hs];exact q
 ·obtain ⟨v,h1,h2⟩:=r.bors i d e1
  have hi:i∈ms:=by have:=noT_get kt.2 e1 trivial;simpa using this
  obtain ⟨a,hm,kd,ks,vs,q⟩:=paired_mem at' hi
  rw [e1] at q
  injection q with q;injection q with q;injection q with q
  subst q
  refine ⟨v,h1,?_⟩
  rcases h2 with h2 | ⟨a',kd',ks',ds,u,g1,g2,g3⟩
  ·obtain ⟨_,_,_,_,_,_,_,n⟩:=h2.dct
   exact absurd rfl (n _ _)
  ·obtain ⟨rfl,rfl,rfl,rfl⟩:=thg_inj g1
   obtain ⟨u',q'⟩:=h.tracked hm
   exact .inr ⟨a,kd,ks,vs,u',rfl,g2,by rw [over_in hm];exact q'⟩
def TH (K:PySem.W.Frag) (H:Hp) (as:List Addr) (ts:List Z.D):Prop:=Paired (fun (a:Addr) (t:Z.D)=>∃ kd ks vs u,t=Z.thg a kd ks vs∧H a=some u∧ThO K H kd ks vs u) as ts
theorem RM.ths (h:RM K H0 ms as H σ ρ):TH K H as (Z.thsAt ms ρ):=by
 have key:∀ {l:List Nat} {m:List Addr},Paired (fun (i:Nat) (a:Addr)=>∃ kd ks vs,ρ[i]?=some (some (.bor (Z.thg a kd ks vs)))) l m→TH K H m (Z.thsAt l ρ):=by
  intro l m p
  induction p with
  | nil=>exact .nil
  | cons r t ih =>
   obtain ⟨kd,ks,vs,hi⟩:=r
   obtain ⟨_,u,q,th⟩:=h.thing hi
   exact .cons ⟨kd,ks,vs,u,by show Z.thA _=_;rw [hi];rfl,q,th⟩ ih
 exact key h.at_
theorem TH.ups {ts:List Z.D} (h:TH K H as ts) (s:∀ a∈as,H' a=H a) (st:Stb H H'):TH K H' as ts:=paired_mono h fun a ha t ⟨kd,ks,vs,u,e,q,th⟩=>⟨kd,ks,vs,u,e,by rw [s a ha];exact q,th.ups st⟩
end
end ZS
namespace ZS
open PySem PySem.Spec PyProof.Rows L2 PySem.W
def flM (K:PySem.W.Frag) (H0:Hp) (ms:List Nat) (as:List Addr) (H:Hp) (D:Ends):Z.FlM→Prop
 | .nx ρ'=>∀ σ' H',Stb H H'→RM K H0 ms as H' σ' ρ'→D.nx σ' H'
 | .rt d ts=>∀ v H',Same H0 H'→TH K H' as ts→Den K H' d v→D.rt v H'
def tM (K:PySem.W.Frag) (H0:Hp) (ms:List Nat) (as:List Addr) (g:Z.SM):TS:=fun D σ H=>∃ ρ fl,RM K H0 ms as H σ ρ∧g ρ=.ok fl∧flM K H0 ms as H D fl
abbrev MS (X:Cx) (H0:Hp) (ms:List Nat) (as:List Addr) (st:Stmt) (g:Z.SM):Prop:=PS X st (tM X.K H0 ms as g)
abbrev MSs (X:Cx) (H0:Hp) (ms:List Nat) (as:List Addr) (st:List Stmt) (g:Z.SM):Prop:=PSs X st (tM X.K H0 ms as g)
theorem flM.up {K:PySem.W.Frag} {H0 H H1:Hp} {ms:List Nat} {as:List Addr} {D:Ends} {fl:Z.FlM} (h:flM K H0 ms as H D fl) (e:Stb H H1):flM K H0 ms as H1 D fl:=by
 cases fl with
 | nx ρ'=>exact fun σ' H' s r=>h σ' H' (e.trans s) r
 | rt d ts=>exact h
section
variable {X:Cx} {H0:Hp} {ms:List Nat} {as:List Addr} {st:Stmt} {sts:List Stmt} {g u:Z.SM} {o value:Expr} {pos pos':Pos}
theorem ms_lift {g:Z.SF} (h:∀ H1,DS X H1 st g):MS X H0 ms as st (Z.mLift ms g):=by
 intro pins s σ H D I w
 obtain ⟨ρ,fl,rm,e,k⟩:=w
 obtain ⟨f1,e1,e⟩:=Z.Res.bind_ok e
 refine h (ov H0 H as) pins s σ H D I ⟨ρ,f1,rm.ovR,e1,?_⟩
 cases f1 with
 | nx ρ' =>
  obtain ⟨kt,e⟩:=Z.guard_ok e
  cases e
  exact fun σ' H' st r=>k σ' H' st (rm.back kt r)
 | rt d =>
  cases e
  intro v H' sm dv
  have ha:∀ a∈as,H' a=H a:=fun a z=>by obtain ⟨u,q⟩:=rm.tracked z;rw [q];exact sm _ _ (by rw [ov_a z];exact q)
  refine k v H' (fun b o q=>?_) (rm.ths.ups ha (ov_stb sm)) dv
  refine sm b o ?_
  have nb:b∉as:=fun z=>by rw [rm.h0 b z] at q;cases q
  by_cases hs:stbO (H b)
  ·rw [ov_s hs];exact rm.same b o q
  ·rw [ov_n nb hs];exact q
 | bk _=>cases e
 | ct _=>cases e
theorem mss_one (h:MS X H0 ms as st g):MSs X H0 ms as [st] g:=pss_one h
theorem mss_cons (h1:MS X H0 ms as st g) (h2:MSs X H0 ms as sts u):MSs X H0 ms as (st :: sts) (Z.mSeq g u):=PSs.imp (pss_cons h1 h2) fun D σ H ⟨ρ,fl,rs,e,k⟩=>by
 obtain ⟨f1,e1,e⟩:=Z.Res.bind_ok e
 refine ⟨ρ,f1,rs,e1,?_⟩
 cases f1 with
 | nx ρ'=>exact fun σ' H' s r=>⟨ρ',fl,r,e,k.up s⟩
 | rt d ts=>cases e;exact k
theorem setK_ok {K:PySem.W.Frag} {H:Hp} {f:List Nat} {d:Z.D} {y:V} (hd:Den K H d y):∀ {ks:List (List Nat)} {ds:List Z.D} {fs:List (Str×V)},fs.map (·.1)=ks.map (fun c=>(⟨c.toArray⟩:Str))→Dens K H ds (fs.map (·.2)) →
  ∃ ks':List (List Nat),(Z.setK f d (ks.map .inr) ds).1=ks'.map .inr∧(putF ⟨f.toArray⟩ y fs).map (·.1)=ks'.map (fun c=>(⟨c.toArray⟩:Str))∧Dens K H (Z.setK f d (ks.map .inr) ds).2 ((putF ⟨f.toArray⟩ y fs).map (·.2))
 | [],ds,fs,h2,h3=>by
  have:fs=[]:=by simpa using h2
  subst this
  refine ⟨[f],?_,rfl,?_⟩
  ·cases ds<;>rfl
  ·have:(Z.setK f d ([].map .inr) ds).2=[d]:=by cases ds<;>rfl
   rw [this]
   exact Dens.cons hd Dens.nil
 | k :: ks,ds,[],h2,_=>by cases h2
 | k :: ks,[],(n,v) :: fs,_,h3=>by
  simp only [List.map_cons,Dens] at h3
  cases h3
 | k :: ks,x :: ds,(n,v) :: fs,h2,h3=>by
  simp only [List.map_cons,List.cons.injEq] at h2
  simp only [List.map_cons,Dens] at h3
  obtain ⟨v',r,e1,h4,h5⟩:=h3
  cases e1
  obtain ⟨e2,h2⟩:=h2
  subst e2
  simp only [List.map_cons,Z.setK,putF]
  by_cases hk:k=f
  ·subst hk
   rw [if_pos rfl,if_pos rfl]
   exact ⟨k :: ks,rfl,by simp [h2],Dens.cons hd h5⟩
  ·rw [if_neg hk,if_neg (fun z=>hk (mkS_eq.mp z))]
   obtain ⟨ks',q1,q2,q3⟩:=setK_ok hd h2 h5
   exact ⟨k :: ks',by simp [q1],by simp [q2],Dens.cons h4 q3⟩
theorem setT_ok {f:List Nat} {x:Z.D} {t:Option (Option Z.L)} {l:Z.L} (h:Z.setT f x t=.ok l):∃ a ks vs,t=some (some (.bor (.dct (.inl a :: .inl 0 :: ks) vs)))∧(Z.setK f x ks vs).1=(Z.deskK.take (Z.setK f x ks vs).1.length).map .inr∧l=.bor (.dct (.inl a :: .inl 0 :: (Z.setK f x ks vs).1) (Z.setK f x ks vs).2):=by
 unfold Z.setT at h
 split at h
 ·rename_i a k ks vs
  obtain ⟨⟨rfl,q⟩,h⟩:=Z.guard_ok h
  cases h
  exact ⟨a,ks,vs,rfl,q,rfl⟩
 ·cases h
theorem RM.tagged {K:PySem.W.Frag} {H:Hp} {σ:St} {ρ:Z.Env} (h:RM K H0 ms as H σ ρ) {i:Nat} {d:Z.D} (hi:ρ[i]?=some (some (.bor d))):∃ a kd ks vs,d=Z.thg a kd ks vs:=by
 have hm:i∈ms:=by have:=noT_get h.no hi trivial;simpa using this
 obtain ⟨a,_,kd,ks,vs,q⟩:=paired_mem h.at_ hm
 rw [hi] at q
 injection q with q;injection q with q;injection q with q
 exact ⟨a,kd,ks,vs,q⟩
theorem ms_fld {i : Nat} {f : Str} {fc : List Nat} {fe : Z.EF} (hn : NoF X.K f) (ho : PE X o (tVar i)) (he : DE X value fe) (hf : (⟨fc.toArray⟩ : Str) = f) (hs : swapsWith value (some (.Attribute o f pos')) pos.line X.env = pure false := by rfl) :
  MS X H0 ms as (.Assign [.Attribute o f pos'] value pos) (Z.mFld i fc fe):=PS.imp (ps_fld ho he hs) fun D σ H ⟨ρ,fl,rm,e,k⟩=>by
 obtain ⟨d,ed,e⟩:=Z.Res.bind_ok e
 obtain ⟨l,el,e⟩:=Z.Res.bind_ok e
 cases e
 refine ⟨ρ,d,rm.rs.re,ed,fun y H1 s1 dy=>?_⟩
 have rm1:=rm.up s1
 obtain ⟨a0,ks0,vs,hi,hk,rfl⟩:=setT_ok el
 obtain ⟨a,kd,ks,vs',e1⟩:=rm1.tagged hi
 unfold Z.thg at e1
 injection e1 with e1 e2
 injection e1 with e1 e3
 injection e3 with e3 e4
 injection e1 with e1
 injection e3 with e3
 subst e1 e2 e4
 have:kd=0:=(Int.ofNat.inj e3.symm)
 subst this
 have hi':ρ[i]?=some (some (.bor (Z.thg a 0 ks vs))):=hi
 obtain ⟨hsl,u,hu,th⟩:=rm1.thing hi'
 rcases th with ⟨_,hks,C,dx,fs,rfl,hC,h3,h4⟩ | ⟨z,_⟩
 ·obtain ⟨C',g1,g2⟩:=hn
  have:=g1.symm.trans hC.1
  cases this
  have hl:fs.length < 1000:=by
   have q1:fs.length=ks.length:=by simpa using congrArg List.length h3
   have q2:ks.length≤4:=by
    have:=congrArg List.length hks
    rw [List.length_take] at this
    have:ks.length≤Z.deskK.length:=by lia
    exact this
   lia
  obtain ⟨ks',q1,q2,q3⟩:=setK_ok (f:=fc) dy h3 h4
  have st0:Stb H1 (upd H1 a (.ins C dx (putF f y fs))):=stb_upd hu (fun _ z=>nomatch z) (fun _ _ z=>nomatch z)
  rw [q1] at hk
  rw [hf] at q2 q3
  have hk':ks'=Z.deskK.take ks'.length:=by
   rw [List.length_map] at hk
   exact (List.map_inj_right (fun x y h=>by injection h)).mp hk
  obtain ⟨st,rm2⟩:=rm1.write (u':=.ins C dx (putF f y fs)) (kd':=0) (ks':=ks') (vs':=(Z.setK fc d (ks.map .inr) vs).2) hi' (.inl ⟨rfl,hk',C,dx,_,rfl,hC,q2,q3.ups st0⟩)
  refine ⟨.ref a,hsl,a,C,dx,fs,rfl,hu,hC.2,g2,hl,k σ _ ((stb s1).trans st) ?_⟩
  rw [q1]
  exact rm2
 ·cases z
end
def wipe (H:Hp) (as:List Addr):Hp:=fun b=>if b∈as then none else H b
theorem over_wipe {H:Hp} {as:List Addr}:over (wipe H as) H as=H:=by
 funext b
 by_cases hb:b∈as
 ·rw [over_in hb]
 ·rw [over_out hb];exact if_neg hb
def spM (K:PySem.W.Frag) (ms:List Nat) (bs:List Bool) (n:Nat) (fn:List Z.D→Z.Res (Z.D×List Z.D)):Sp:=fun vs H Q _=>∃ ds as d ts,DensF K H bs ds vs∧as.Nodup∧Paired (fun (i:Nat) (a:Addr)=>∃ kd ks vs,(Z.startB n bs ds)[i]?=some (some (.bor (Z.thg a kd ks vs)))) ms as∧Z.noT ms 0 (Z.startB n bs ds) ∧
 fn ds=.ok (d,ts)∧∀ v H',Same (wipe H as) H'→TH K H' as ts→Den K H' d v→Q v H'
section
variable {P:Program} {w:World} {K:PySem.W.Frag} {mg:Str→Option Value} {base:Heap}
theorem fnZM {x qual:Str} {st:Stmt} {f:Addr} {fd:FuncData} {N ps:List Str} {ms:List Nat} {bs:List Bool} {k:Nat} {b:Z.SM} (hbs:bs.length=ps.length) (F:Fun K x qual st f fd) (S:FnScope N ps (defScope st))
  (hb:∀ (cdv:Value) (A:Around) (outer:List PySem.Env) (s:Shared) (H H0:Hp) (as:List Addr) (E:XK),Room k (A.deeper (envOfC qual (defScope st) s.heap.objs.size f cdv)) →
   MSs (cxOf CX0 P w K mg base N qual (defScope st) f cdv A outer s H E).nox H0 ms as (defBody st) b):FnOk P w K mg base CX0 (k+1) f fd ps (spM K ms bs N.length (Z.fnM ms bs N.length b)):=by
 have hlen:∀ (vs:List V) (H:Hp) (Q:VK) (E:XK),spM K ms bs N.length (Z.fnM ms bs N.length b) vs H Q E→vs.length=ps.length:=fun vs H Q E ⟨ds,as,d,ts,t,_⟩=>by
  have:=t.length
  lia
 refine F.ok S hlen (fun cdv A outer s H vs Q E hr h=>?_)
 have hl:=hlen vs H Q E h
 obtain ⟨ds,as,d,ts,t,nd,hat,hno,e,k⟩:=h
 refine ⟨_,hb cdv A outer s H (wipe H as) as E hr,?_⟩
 have hpl:ps.length≤N.length:=by have:=congrArg List.length S.pre;rw [List.length_take] at this;lia
 have rs:RS K H H (L2.start N vs) (Z.startB N.length bs ds):=startB_get t (by lia)
 have rm:RM K (wipe H as) ms as H (L2.start N vs) (Z.startB N.length bs ds):=⟨by rw [over_wipe];exact rs,hat,hno,nd,fun a ha=>if_pos ha⟩
 unfold Z.fnM at e
 split at e
 ·cases eb:b (Z.startB N.length bs ds) with
  | bad=>rw [eb] at e;cases e
  | ok fl =>
   rw [eb] at e
   refine ⟨_,fl,rm,eb,?_⟩
   cases fl with
   | rt d' ts'=>cases e;exact fun v H' s' th dv=>k v H' s' th dv
   | nx ρ'=>cases e;exact fun σ' H' _ rm'=>k .non H' rm'.same rm'.ths den_non
 ·cases e
end
end ZS
namespace ZS
open PySem PySem.Spec PyProof.Rows L2 PySem.W
structure IDef (K:PySem.W.Frag) (st:Stmt) (ps:List Str):Prop where
 ex:∃ C f fd,ClsN K "Desk" C∧Mk K C f∧Fun K "__init__" "Desk.__init__" st f fd∧Binds K fd ps []
structure CalI (P:Program) (w:World) (K:PySem.W.Frag) (mg:Str→Option Value) (base:Heap) (k:Nat) (ps:List Str) (n:Nat) (fn:List Z.D→Z.Res (Z.D×List Z.D)):Prop where
 ex:∃ C f fd,ClsN K "Desk" C∧Mk K C f∧FnOk P w K mg base CX0 k f fd ps (spM K [0] [true,false] n fn)∧Binds K fd ps []
structure CalXI (P:Program) (w:World) (K:PySem.W.Frag) (mg:Str→Option Value) (base:Heap) (k:Nat) (ps:List Str) (fx:List Z.D→Option Z.XN):Prop where
 ex:∃ C f fd,ClsN K "Desk" C∧Mk K C f∧FnOk P w K mg base (CXZ P w) k f fd ps (spRF K [true,false] fx)∧Binds K fd ps []
section
variable {P:Program} {w:World} {K:PySem.W.Frag} {mg:Str→Option Value} {base:Heap}
theorem CalI.mk' {k:Nat} {st:Stmt} {N ps:List Str} {b:Z.SM} (hbs:ps.length=2) (d:IDef K st ps) (S:FnScope N ps (defScope st))
  (hb:∀ (f:Addr) (cdv:Value) (A:Around) (outer:List PySem.Env) (s:Shared) (H H0:Hp) (as:List Addr) (E:XK),Room k (A.deeper (envOfC "Desk.__init__" (defScope st) s.heap.objs.size f cdv)) →
   MSs (cxOf CX0 P w K mg base N "Desk.__init__" (defScope st) f cdv A outer s H E).nox H0 [0] as (defBody st) b):CalI P w K mg base (k+1) ps N.length (Z.fnM [0] [true,false] N.length b):=by
 obtain ⟨C,f,fd,hC,M,F,hb'⟩:=d.ex
 exact ⟨C,f,fd,hC,M,fnZM hbs.symm F S (hb f),hb'⟩
theorem CalXI.mk' {k:Nat} {st:Stmt} {N ps:List Str} {xb:Z.XF} (hbs:ps.length=2) (d:IDef K st ps) (S:FnScope N ps (defScope st))
  (hb:∀ (f:Addr) (cdv:Value) (A:Around) (outer:List PySem.Env) (s:Shared) (H:Hp) (E:XK),Room k (A.deeper (envOfC "Desk.__init__" (defScope st) s.heap.objs.size f cdv)) →
   XSs (cxOf (CXZ P w) P w K mg base N "Desk.__init__" (defScope st) f cdv A outer s H E) H (defBody st) xb):CalXI P w K mg base (k+1) ps (Z.fxB [true,false] N.length xb):=by
 obtain ⟨C,f,fd,hC,M,F,hb'⟩:=d.ex
 obtain ⟨oc,od,kV,doc,pm,an,cdv,ct,osl,rfl,lk,hcd⟩:=F.ex
 exact ⟨C,f,_,hC,M,fnXB hbs.symm lk hcd S (hb f cdv),hb'⟩
end
theorem noT_rep {ms:List Nat}:∀ (m k:Nat),Z.noT ms k (List.replicate m none)
 | 0,_=>trivial
 | m+1,k=>⟨fun z=>z.elim,noT_rep m (k+1)⟩
theorem made_same {H:Hp} {x dx:Addr} {C:Addr} (hx:H x=none) (hdx:H dx=none):Same H (upd (upd H dx (.own x)) x (.ins C dx [])):=fun b o e=>by
 rw [upd_ne (ne_of_none e hx),upd_ne (ne_of_none e hdx)];exact e
theorem RS.setT {K : PySem.W.Frag} {H0 H H' : Hp} {σ : St} {ρ : Z.Env} {i kd : Nat} {x : Addr} {u : HO} {ks : List (List Nat)} {vs : List Z.D} (h : RS K H0 H σ ρ) (hx : H x = none) (s : Same H H') (hu : H' x = some u) (t : ThO K H' kd ks vs u) (hil : i < ρ.length) :
  RS K (upd H0 x u) H' (σ.set i (some (.ref x))) (ρ.set i (some (.bor (Z.thg x kd ks vs)))):=by
 have h1:=h.up s
 have n0:H0 x=none:=by
  cases e:H0 x with
  | none=>rfl
  | some o=>rw [h.same _ _ e] at hx;cases hx
 have ne:∀ {q:Addr} {o:HO},H q=some o→q≠x:=fun e=>ne_of_none e hx
 have getσ:∀ (j:Nat),i≠j→(σ.set i (some (V.ref x)))[j]?=σ[j]?:=fun j hj=>List.getElem?_set_ne hj
 have si:(σ.set i (some (V.ref x)))[i]?=some (some (.ref x)):=List.getElem?_set_self (by rw [←h.re.len];exact hil)
 refine ⟨fun b o e=>?_,⟨by simp [h.re.len],fun j l e=>?_,fun j k xs ys q e1 e2 e3 e4=>?_⟩,fun j xs q e1 e2=>?_,fun j d e1=>?_,⟨fun j k ks ls q e1 e2 e3 e4=>?_,fun j ks q e1 e2=>?_⟩⟩
 ·by_cases hb:b=x
  ·subst hb;rw [upd_same] at e;rw [hu];exact e
  ·rw [upd_ne hb] at e;exact h1.same b o e
 ·rcases set_cases e with ⟨rfl,hl,e⟩ | ⟨hj,e⟩
  ·cases e
   exact ⟨.ref x,si,.inr ⟨x,kd,ks,vs,u,rfl,rfl,hu,t⟩⟩
  ·rw [getσ j hj];exact h1.re.get j l e
 ·rcases set_cases e1 with ⟨_,_,e⟩ | ⟨hj,e1⟩
  ·cases e
  ·rcases set_cases e2 with ⟨_,_,e⟩ | ⟨hk,e2⟩
   ·cases e
   ·rw [getσ j hj] at e3
    rw [getσ k hk] at e4
    exact h.re.sep j k xs ys q e1 e2 e3 e4
 ·rcases set_cases e1 with ⟨_,_,e⟩ | ⟨hj,e1⟩
  ·cases e
  ·rw [getσ j hj] at e2
   obtain ⟨v,g1,a,ws,e,g2,_⟩:=h.re.get j _ e1
   rw [e2] at g1;cases g1;cases e
   rw [upd_ne (ne g2)]
   exact h.fresh j xs q e1 e2
 ·rcases set_cases e1 with ⟨rfl,_,e⟩ | ⟨hj,e1⟩
  ·cases e
   exact ⟨.ref x,si,.inr ⟨x,kd,ks,vs,u,rfl,rfl,upd_same⟩⟩
  ·rw [getσ j hj]
   obtain ⟨v,g1,g2⟩:=h.bors j d e1
   refine ⟨v,g1,?_⟩
   rcases g2 with g2 | ⟨a,kd',ks',ds,u',q1,q2,q3⟩
   ·exact .inl (g2.up (upd_Same n0))
   ·exact .inr ⟨a,kd',ks',ds,u',q1,q2,upd_Same n0 _ _ q3⟩
 ·rcases set_cases e1 with ⟨_,_,e⟩ | ⟨hj,e1⟩
  ·cases e
  ·rcases set_cases e2 with ⟨_,_,e⟩ | ⟨hk,e2⟩
   ·cases e
   ·rw [getσ j hj] at e3
    rw [getσ k hk] at e4
    exact h.dic.1 j k ks ls q e1 e2 e3 e4
 ·rcases set_cases e1 with ⟨_,_,e⟩ | ⟨hj,e1⟩
  ·cases e
  ·rw [getσ j hj] at e2
   obtain ⟨v,g1,a,ws,e,g2,_⟩:=h.re.get j _ e1
   rw [e2] at g1;cases g1;cases e
   rw [upd_ne (ne g2)]
   exact h.dic.2 j ks q e1 e2
section
variable {X:Cx} {H0:Hp} {e a:Expr} {pos pos' cpos p1:Pos} {rest:List Stmt}
theorem mk_made {K:PySem.W.Frag} {H:Hp} {x dx C:Addr} (hC:ClsN K "Desk" C):DenB K (upd (upd H dx (.own x)) x (.ins C dx [])) (Z.thg x 0 [] []) (.ref x):=.inr ⟨x,0,[],[],_,rfl,rfl,upd_same,.inl ⟨rfl,rfl,C,dx,[],rfl,hC,rfl,Dens.nil⟩⟩
theorem dss_make {k n i:Nat} {ps:List Str} {y:Str} {fn:List Z.D→Z.Res (Z.D×List Z.D)} {fe:Z.EF} {r:Z.SF} (C:CalI X.prog X.w X.K X.mg X.base k ps n fn) (hr:Room (k+1) X.A) (hg:Gl X "Desk") (hN:X.N.Nodup) (hi:X.N[i]?=some y) (hy:Loc X.env.scope y)
  (he:DE X e fe) (hrest:∀ H1,DSs X H1 rest r) (hs:swapsWith (.Call (.Name "Desk" p1) [e] [] cpos) (some (.Name y pos')) pos.line X.env=pure false:=by rfl) (hf:X.fn y=true∨X.env.scope.names.lookup y=some .local:=by first | exact .inl rfl | exact .inr rfl | assumption)
  (h1:starEach (e :: []) X.env=(false,eval e X.env) :: starEach [] X.env:=by rfl) (hpl:(backTo cpos (starEach [] X.env)).any (·.1)=false:=by rfl) :
  DSs X H0 (.Assign [.Name y pos'] (.Call (.Name "Desk" p1) [e] [] cpos) pos :: rest) (Z.sMake i fn fe r):=by
 obtain ⟨C,f,fd,hC,M,F,hb⟩:=C.ex
 intro pins s σ H D I w
 have hm:X.mg "Desk" = some (.ref C):=PySem.W.mg_of (mg:=X.mg) (h:=s.heap) I.kIn (I.mod.glob.keeps I.bk) hC.1
 have hR:PSs X rest (fun D σ H=>∃ H1,tS X.K H1 r D σ H):=fun pins s σ H D I ⟨H1,w⟩=>hrest H1 pins s σ H D I w
 obtain ⟨ρ,fl,rs,e,k⟩:=w
 obtain ⟨d,ed,e⟩:=Z.Res.bind_ok e
 obtain ⟨fs,ef,e⟩:=Z.Res.bind_ok e
 have ef:=Z.makeR_ok ef
 obtain ⟨dr,rfl,er⟩:=Z.allT_ok e
 have hil:i < ρ.length:=by rw [rs.re.len,I.len];exact (List.getElem?_eq_some_iff.mp hi).1
 refine pss_cons (ps_set hN hi hy (pe_make M F hr hg hm hb .nil pass0 (pa_cons he pa_nil h1) (by decide +kernel) h1 hpl) hs hf) hR pins s σ H D I ?_
 refine ⟨ρ,d,rs.re,ed,fun v H1 s1 dv x dx hx hdx ne=>?_⟩
 have sm:=made_same (C:=C) hx hdx
 refine ⟨[Z.thg x 0 [] [],d],[x],.non,[Z.thg x 0 Z.deskK fs],⟨_,_,rfl,mk_made hC,_,_,rfl,Den.up dv sm,rfl⟩,by simp,.cons ⟨0,[],[],rfl⟩ .nil,⟨fun _=>by simp,fun z=>z.elim,noT_rep _ _⟩,ef x,fun v' H' s2 th dn=>?_⟩
 refine ⟨by simpa only [Den] using dn,?_⟩
 have nx:H x=none:=by
  cases q:H x with
  | none=>rfl
  | some o=>rw [s1 _ _ q] at hx;cases hx
 have s3:Same H H':=fun b o q=>s2 b o (by
  have hb:b≠x:=ne_of_none q nx
  show (if b∈[x] then none else _)=_
  rw [if_neg (by simpa using hb)]
  exact sm _ _ (s1 _ _ q))
 cases th with
 | cons r0 _ =>
  obtain ⟨kd,ks,vs,u,e1,hu,t⟩:=r0
  obtain ⟨_,rfl,rfl,rfl⟩:=thg_inj e1
  refine ⟨upd H0 x u,_,.rt dr,rs.setT (i:=i) nx s3 hu t hil,er x,fun v H'' s4 d4=>?_⟩
  refine k v H'' (fun b o q=>s4 b o ?_) d4
  have:b≠x:=by rintro rfl;rw [rs.same _ _ q] at nx;cases nx
  rw [upd_ne this];exact q
theorem xe_make {k : Nat} {ps : List Str} {fx : List Z.D → Option Z.XN} {fe : Z.EF} (C : CalXI X.prog X.w X.K X.mg X.base k ps fx) (hr : Room (k + 1) X.A) (hg : Gl X "Desk") (he : DE X.nox e fe) (hex : X.ex = [] := by rfl)
  (h1:starEach (e :: []) X.env=(false,eval e X.env) :: starEach [] X.env:=by rfl) (hpl:(backTo cpos (starEach [] X.env)).any (·.1)=false:=by rfl):XE X (.Call (.Name "Desk" p1) [e] [] cpos) (Z.xMake fx fe):=by
 obtain ⟨C,f,fd,hC,M,F,hb⟩:=C.ex
 intro pins s σ H Q I w
 have hm:X.mg "Desk" = some (.ref C):=PySem.W.mg_of (mg:=X.mg) (h:=s.heap) I.kIn (I.mod.glob.keeps I.bk) hC.1
 obtain ⟨ρ,c,re,ec,kw⟩:=w
 unfold Z.xMake at ec
 split at ec
 ·rename_i d ed
  have em:=Z.mkX_ok ec
  refine wpAny_Call_Name_kw (ld_glob I hg hm ?_ (by decide +kernel))
  refine PySem.W.callWith_K (h₀:=X.base) I.ok.mod.kin M.kp (thn (pa_cons (PE.noxM he) pa_nil h1 cpos pins s σ H (fun vs H1=>Same H H1∧Dens X.K H1 [d] vs) I ⟨ρ,d,re,ed,fun v H1 s1 d1=>⟨s1,Dens.cons d1 Dens.nil⟩⟩) fun us s1 ⟨vs,H1,I1,r,sm,d1⟩=>⟨I1.kIn,?_⟩) h1 hpl
  have hx:=I1.hok.fresh (Nat.le_succ s1.heap.objs.size)
  have hdx:=I1.hok.fresh (Nat.le_refl s1.heap.objs.size)
  have ne:=Nat.ne_of_lt (Nat.lt_succ_self s1.heap.objs.size)
  have sm2:=made_same (C:=C) hx hdx
  have I2:=Inv.made (C:=C) I1
  have hsp:spRF X.K [true,false] fx (.ref (s1.heap.objs.size+1) :: vs) (upd (upd H1 s1.heap.objs.size (.own (s1.heap.objs.size+1))) (s1.heap.objs.size+1) (.ins C s1.heap.objs.size [])) (fun _ _=>False) (fun cv dd H'=>∃ C',cv=.ref C'∧XRel X.K H' c C' dd∧Same (upd (upd H1 s1.heap.objs.size (.own (s1.heap.objs.size+1))) (s1.heap.objs.size+1) (.ins C s1.heap.objs.size [])) H'):=by
   simp only [Dens] at d1
   obtain ⟨v,r',rfl,d1,rfl⟩:=d1
   exact ⟨[Z.thg (s1.heap.objs.size+1) 0 [] [],d],c,⟨_,_,rfl,mk_made hC,_,_,rfl,Den.up d1 sm2,rfl⟩,em _,fun C' dd H' s2 x2=>⟨C',rfl,x2,s2⟩⟩
  have r2:Vals (V.ref (s1.heap.objs.size+1) :: vs) (Value.ref (s1.heap.objs.size+1) :: us):=.cons rfl r
  have hl:(Value.ref (s1.heap.objs.size+1) :: us++[]).length=ps.length:=by
   have e:=r2.length
   rw [F.len _ _ _ _ hsp] at e
   simpa using e.symm
  refine wpAny_call (make_map (f:=f) I1.kIn M.makes M.init (beq_iff_eq.mp M.fn) (codeAny_mono (F.run _ X.stack _ _ ⟨Value.ref (s1.heap.objs.size+1) :: us,[]⟩ (Value.ref (s1.heap.objs.size+1) :: us) _ _ _ (hr.make C us [])
   (I2.env0.make C us []) (by have:=hb _ (Value.ref (s1.heap.objs.size+1) :: us) I2.kIn hl;simpa using this) r2 hsp) fun rr s' hq=>?_))
  cases rr with
  | ok fl =>
   cases fl with
   | ret u =>
    obtain ⟨v,H2,_,_,_,_,_,q⟩:=hq
    exact q.elim
   | _=>exact hq.elim
  | error ev =>
   unfold CR at hq
   dsimp only at hq
   obtain ⟨a,C',dd,H',rfl,J,th,C2,hc,x2,s2⟩:=thr_of hex I2 hq
   cases hc
   exact kw pins H' s' a C' dd ((sm.trans sm2).trans s2) x2 J th
 ·cases ec
end
theorem excM {M:Model} {A:Around} {E:Value→Shared→Prop} {s:Shared} {K:PySem.W.Frag} {e C D:Addr} {oe:Obj} {Q:Bool→Shared→Prop} {c:List Nat} (X:K.In s.heap) (xd:XC K c D) (he:s.heap.get? e=some oe) (hc:oe.cls=.ref C) (hm:mroIn K C (.ref D)=some true) (hq:Q true s) :
  wpAny M A (excMatches (.ref e) (.ref D)) Q E s:=by
 obtain ⟨tl,ns,nm,qn,bs,hd,sn,sub,ab,col,dd',s0',s1',s2',s3',s5',hC,hbs⟩:=clsO X xd
 obtain ⟨h,g,d,t,os⟩:=s
 have hcB:(Value.ref D :: tl).contains (.type "BaseException")=true:=by rw [List.contains_cons,hbs,Bool.or_true]
 have L:=looks_mroIn (M:=M) X hm
 have f:=tc_notTuple
 unfold excMatches
 repeat (first | (with_reducible refine wpAny_loadPart_at he ?_;rw [hc]) | with_reducible refine wpAny_loadPart_at hC ?_ | (with_reducible refine wpAny_isSubtype_exc hC ?_;rw [hcB]) | with_reducible refine L.at ?_ | wp_step)
 exact hq
end ZS
namespace ZS
open PySem PySem.Spec PyProof.Rows L2 PySem.W
def SubK (K:PySem.W.Frag) (c:List Nat) (D:Addr):Prop:=∃ C,nsIn K mainGlobals ⟨c.toArray⟩=some (some (.ref C))∧mroIn K C (.ref D)=some true
def SubKs (K:PySem.W.Frag) (cs:List (List Nat)) (D:Addr):Prop:=∀ c∈cs,SubK K c D
theorem subs_nil {K:PySem.W.Frag} {D:Addr}:SubKs K [] D:=fun _ h=>by simp at h
theorem subs_cons {K:PySem.W.Frag} {D:Addr} {c:List Nat} {cs:List (List Nat)} (h:SubK K c D) (t:SubKs K cs D):SubKs K (c :: cs) D:=fun x hx=>by
 rcases List.mem_cons.mp hx with rfl | hx
 ·exact h
 ·exact t x hx
section
variable {X:Cx} {H0:Hp}
theorem ds_tryS {body suite : List Stmt} {b0 : Stmt} {x n : Str} {np hpos pos : Pos} {cs : List (List Nat)} {c0 : List Nat} {D0 : Addr} {i : Nat} {g h : Z.SF} {xb : Z.XF} (hex : X.ex = []) (hst : X.stack = X.env :: X.outer) (hfl : X.env.frame = some X.env.locals)
  (hN:X.N.Nodup) (hi:X.N[i]?=some n) (hl:X.env.scope.names.lookup n=some .local) (hg:Gl X x) (hm:X.mg x=some (.ref D0)) (xd:XC X.K c0 D0) (hcs:SubKs X.K cs D0)
  (hb:DSs X.nox H0 body g) (hxb:∀ pn E,XRs (tryX X pn E) body xb) (hh:∀ ev,DSs (hanX X ev).nox H0 (b0 :: suite) h) (hdb:(x==("__debug__" : Str))=false:=by decide +kernel) :
  DS X H0 (.Try body [.ExceptHandler (some (.Name x np)) (some n) (b0 :: suite) hpos] [] [] pos) (Z.sTryS g xb cs i h):=by
 intro pins s σ H D I hyp
 obtain ⟨ρ,fl,rs,e,k⟩:=hyp
 refine wpAny_Try_except ?_
 unfold Z.sTryS at e
 split at e
 ·rename_i c' ec
  split at e
  ·rename_i hc'
   refine wpAny_mono (hxb (X.pn++pins) _ [] s σ H { nx:=fun _ _=>False,rt:=fun _ _=>False } (inv_try I _) ⟨ρ,c',rs.re,ec,fun pins' H' s' ex C dd sm xr J1 th1=>?_⟩) (fun f s1 q=>?_) fun _ _ z=>z
   rotate_left
   ·cases f with
    | next=>obtain ⟨_,_,_,z⟩:=q;exact z.elim
    | brk=>obtain ⟨_,_,_,z⟩:=q;exact z.elim
    | cont=>obtain ⟨_,_,_,z⟩:=q;exact z.elim
    | ret u=>obtain ⟨_,_,_,_,_,z⟩:=q;exact z.elim
   have J:=inv_of_try I.ok J1
   have xr:XRel X.K H' c' C dd:=xr
   have xc:XC X.K c'.1 C:=xr.1
   have hmr:mroIn X.K C (.ref D0)=some true:=by
    obtain ⟨C2,q1,q2⟩:=hcs _ hc'
    have:=q1.symm.trans xc.1
    cases this
    exact q2
   refine note_thr hex hst hfl J (thr_of_try th1) fun s2 c2=>land c2 fun s3 c3=>?_
   obtain ⟨oe,vs,_,_,_,he,hcl,_⟩:=c3.ex
   refine wpAny_handleBy_cons (codeAny_handlers_test (ld_globA c3.inv hg hm ?_ hdb)) (by intro q;cases q)
   refine excM c3.inv.kIn xd he hcl hmr ?_
   refine codeAny_handlers_suite_as (land c3 fun s4 c4=>?_)
   obtain ⟨oe4,u4,hcl4,hdd4,hda4,fe,I4⟩:=c4.track
   refine store_ok I4 hN hi (.inl hl) (show RelV (.ref ex) (.ref ex) from rfl) (fun s5 I5=>?_) (.inr hl)
   have sm5:Same H (upd H' ex (.frz oe4 u4)):=sm.trans (upd_Same fe)
   have rs5:RS X.K H0 (upd H' ex (.frz oe4 u4)) (σ.set i (some (.ref ex))) (ρ.set i (some (.exc c'))):=(rs.up sm5).setX ⟨ex,oe4,u4,C,rfl,upd_same,hcl4,hda4,by rw [hdd4];exact xr.ups (stb (upd_Same fe))⟩
   split at e
   ·rename_i ρ' eh
    cases e
    refine wpAny_mono (hh (.ref ex) pins s5 _ _ { nx:=fun σ' H2=>D.nx (σ'.set i none) H2,rt:=fun _ _=>False } (inv_han I5 _) ⟨_,.nx ρ',rs5,eh,fun σ' H2 st rs'=>k (σ'.set i none) H2 ((stb sm5).trans st) rs'.setN⟩) (fun f s6 q=>?_) fun _ _ z=>z.elim
    cases f with
    | next =>
     obtain ⟨σ',H2,I6,q⟩:=q
     exact name_goes hN hi hl (inv_of_han I.ok I6) fun s7 I7=>⟨_,H2,I7,q⟩
    | brk=>obtain ⟨_,_,_,z⟩:=q;exact z.elim
    | cont=>obtain ⟨_,_,_,z⟩:=q;exact z.elim
    | ret u=>obtain ⟨_,_,_,_,_,z⟩:=q;exact z.elim
   ·rename_i d eh
    cases e
    refine wpAny_mono (hh (.ref ex) pins s5 _ _ { nx:=fun _ _=>False,rt:=D.rt } (inv_han I5 _) ⟨_,.rt d,rs5,eh,k⟩) (fun f s6 q=>?_) fun _ _ z=>z.elim
    cases f with
    | next=>obtain ⟨_,_,_,z⟩:=q;exact z.elim
    | brk=>obtain ⟨_,_,_,z⟩:=q;exact z.elim
    | cont=>obtain ⟨_,_,_,z⟩:=q;exact z.elim
    | ret u =>
     obtain ⟨v,σ',H2,I6,rv,q⟩:=q
     exact name_goes hN hi hl (inv_of_han I.ok I6) fun s7 I7=>⟨v,_,H2,I7,rv,q⟩
   ·cases e
  ·cases e
 ·refine wpAny_mono (hb pins s σ H D (I.wish _) ⟨ρ,fl,rs,e,k⟩) (fun f s1 q=>?_) fun _ _ z=>z.elim
  have q:=q.unwish
  cases f with
  | next=>exact wpAny_execs_nil q
  | brk=>exact q
  | cont=>exact q
  | ret u=>exact q
end
end ZS
namespace ZS
open PySem PySem.Spec PyProof.Rows L2 PySem.W
def clsAt (s:Stmt) (j:Nat):Stmt:=match s with
 | .ClassDef _ _ _ b _ _ _ _ _ _ _=>b.getD j (.Pass ⟨0,0,0,0⟩)
 | s=>s
def MDefK (K:Frag) (C:Addr) (m q:Str) (st:Stmt):Prop:=∃ (f:Addr) (od an:Option Addr) (sl:Array (Option Value)) (oc kV dc pm cd ct:Value),findIn K (.ref C) m=some (some (.ref f))∧K.lookup f=some ⟨oc,od,.func (fnOf m q (defArgs st) (defBody st) (defScope st) .none kV dc pm an cd ct),sl⟩∧codeIn K cd q=true∧keepIn K (.ref f)=true∧isFn K (.ref f)=true
section
variable {K:Frag} {m q:Str} {st:Stmt} {C:Addr} {ps:List Str}
theorem MDefK.mk' {f:Addr} {od an:Option Addr} {sl:Array (Option Value)} {oc kV dc pm cd ct:Value} (a:findIn K (.ref C) m=some (some (.ref f))) (l:K.lookup f=some ⟨oc,od,.func (fnOf m q (defArgs st) (defBody st) (defScope st) .none kV dc pm an cd ct),sl⟩) (c:codeIn K cd q=true) (k:keepIn K (.ref f)=true) (i:isFn K (.ref f)=true):MDefK K C m q st:=⟨f,od,an,sl,oc,kV,dc,pm,cd,ct,a,l,c,k,i⟩
theorem MDefK.df (d:MDefK K C m q st) (hC:ClsN K "Desk" C) (hb:∀ (kV doc pm:Value) (an:Option Addr) (cdv ct:Value) (us:List Value),us.length=ps.length→bindArgs (fnOf m q (defArgs st) (defBody st) (defScope st) .none kV doc pm an cdv ct) ⟨us,[]⟩=pure (ps.zip us)):MDef K m q st ps:=by
 obtain ⟨f,od,an,sl,oc,kV,dc,pm,cd,ct,a,l,c,k,i⟩:=d
 have F:=fun_mk (st:=st) l c k
 exact ⟨C,f,_,hC,⟨a,i,k⟩,F,F.binds hb⟩
theorem MDefK.di (d:MDefK K C "__init__" "Desk.__init__" st) (hC:ClsN K "Desk" C) (mk:makesIn K C=true) (kp:keepIn K (.ref C)=true) (hb:∀ (kV doc pm:Value) (an:Option Addr) (cdv ct:Value) (us:List Value),us.length=ps.length→bindArgs (fnOf "__init__" "Desk.__init__" (defArgs st) (defBody st) (defScope st) .none kV doc pm an cdv ct) ⟨us,[]⟩=pure (ps.zip us)):IDef K st ps:=by
 obtain ⟨f,od,an,sl,oc,kV,dc,pm,cd,ct,a,l,c,k,i⟩:=d
 have F:=fun_mk (st:=st) l c k
 exact ⟨C,f,_,hC,⟨mk,a,i,kp⟩,F,F.binds hb⟩
theorem subK_mk {c:List Nat} {C D:Addr} {x:Str} (hx:(⟨c.toArray⟩:Str)=x) (w:nsIn K mainGlobals x=some (some (.ref C))) (m:mroIn K C (.ref D)=some true):SubK K c D:=⟨C,by rw [hx];exact w,m⟩
end
end ZS
namespace ZQ
open PySem PySem.Spec PyProof.Rows L2 ZS PySem.W
structure QM (X:Cx) (kd:Nat) (e:Expr) (f:Z.EF):Prop where p:DM X kd e f
structure QMS (X:Cx) (H0:Hp) (ms:List Nat) (as:List Addr) (st:Stmt) (g:Z.SM):Prop where p:MS X H0 ms as st g
structure QMSs (X:Cx) (H0:Hp) (ms:List Nat) (as:List Addr) (st:List Stmt) (g:Z.SM):Prop where p:MSs X H0 ms as st g
section
variable {X:Cx} {H0:Hp} {e o a b:Expr} {es:List Expr} {pos pos' cpos p1:Pos} {f fo fa:Z.EF} {kd:Nat} {ms:List Nat} {as:List Addr} {st:Stmt} {sts:List Stmt} {xf:Z.XF}
theorem dm_v (i:Nat) {x:Str} (hN:X.N[i]?=some x:=by rfl) (hv:Vis X.env.scope x:=by first | exact Or.inl rfl | exact Or.inr (Or.inl rfl) | exact Or.inr (Or.inr rfl)) (hd:(x==("__debug__" : Str))=false:=by decide +kernel)
  (hcd:(x==("__classdict__" : Str))=false:=by decide +kernel):QM X kd (.Name x pos) (Z.eM kd i):=⟨dm_var (pe_var hN hv hd hcd)⟩
theorem daf_thing {bs:List Bool} {g:Z.AF} (ha:QM X kd e f) (hr:QAF X es bs g) (hs:starEach (e :: es) X.env=(false,eval e X.env) :: starEach es X.env:=by rfl):QAF X (e :: es) (true :: bs) (Z.aCons f g):=⟨ZS.daf_thing ha.p hr.p hs⟩
theorem de_fld {f:Str} {fc:List Nat} (hn:NoF X.K f) (ho:QM X 0 o fo) (hf:(⟨fc.toArray⟩:Str)=f) (hb:attributeBase o f X.env (eval o X.env)=eval o X.env:=by rfl):QE X (.Attribute o f pos) (Z.eU (Z.oFld fc) fo):=⟨ZS.de_fld hn ho.p hf hb⟩
theorem de_meth0 {m:Str} {k:Nat} {ps:List Str} {fn:List Z.D→Z.Res Z.D} {apos:Pos} {pl:Sem Bool} (C:CalM X.prog X.w X.K X.mg X.base m k ps [true] fn) (hr:Room k X.A) (ho:QM X 0 o fo) (hf:(Z.deskK.map (fun c=>(⟨c.toArray⟩:Str))).contains m=false)
  (ht:eval (.Call (.Attribute o m apos) [] [] pos) X.env=(do
   let ov ←eval o X.env
   standAt apos.atName
   let (f,first) ←holding [ov] (getMethod ov m pl)
   callWith pos f first (backTo pos (starEach [] X.env)) (backToKw pos (keywordEach [] X.env))):=by rfl) :
  QE X (.Call (.Attribute o m apos) [] [] pos) (Z.eCall fn (Z.aCons fo Z.aNil)):=⟨ZS.de_meth0 (pl:=pl) C hr ho.p hf ht⟩
theorem de_meth {m:Str} {k:Nat} {ps:List Str} {bs:List Bool} {fn:List Z.D→Z.Res Z.D} {ar:Z.AF} {apos:Pos} {pl:Sem Bool} (C:CalM X.prog X.w X.K X.mg X.base m k ps (true :: bs) fn) (hr:Room k X.A) (ho:QM X 0 o fo) (hf:(Z.deskK.map (fun c=>(⟨c.toArray⟩:Str))).contains m=false) (ha:QAF X (e :: es) bs ar)
  (hst:starEach (e :: es) X.env=(false,eval e X.env) :: starEach es X.env:=by rfl) (hpl:(backTo pos (starEach es X.env)).any (·.1)=false:=by rfl)
  (ht:eval (.Call (.Attribute o m apos) (e :: es) [] pos) X.env=(do
   let ov ←eval o X.env
   standAt apos.atName
   let (f,first) ←holding [ov] (getMethod ov m pl)
   callWith pos f first (backTo pos (starEach (e :: es) X.env)) (backToKw pos (keywordEach [] X.env))):=by rfl) :
  QE X (.Call (.Attribute o m apos) (e :: es) [] pos) (Z.eCall fn (Z.aCons fo ar)):=⟨ZS.de_meth (pl:=pl) C hr ho.p hf ha.p hst hpl ht⟩
theorem xe_meth {m:Str} {k:Nat} {ps:List Str} {bs:List Bool} {fx:List Z.D→Option Z.XN} {ar:Z.AF} {apos:Pos} {pl:Sem Bool} (C:CalXM X.prog X.w X.K X.mg X.base m k ps (true :: bs) fx) (hr:Room k X.A) (ho:QM X 0 o fo) (hf:(Z.deskK.map (fun c=>(⟨c.toArray⟩:Str))).contains m=false) (ha:QAF X.nox (e :: es) bs ar)
  (hex:X.ex=[]:=by rfl) (hst:starEach (e :: es) X.env=(false,eval e X.env) :: starEach es X.env:=by rfl) (hpl:(backTo pos (starEach es X.env)).any (·.1)=false:=by rfl)
  (ht:eval (.Call (.Attribute o m apos) (e :: es) [] pos) X.env=(do
   let ov ←eval o X.env
   standAt apos.atName
   let (f,first) ←holding [ov] (getMethod ov m pl)
   callWith pos f first (backTo pos (starEach (e :: es) X.env)) (backToKw pos (keywordEach [] X.env))):=by rfl) :
  QXE X (.Call (.Attribute o m apos) (e :: es) [] pos) (Z.xCall fx (Z.aCons fo ar)):=⟨ZS.xe_meth (pl:=pl) C hr ho.p hf ha.p hex hst hpl ht⟩
theorem xe_ix (ha:QW X.nox a fa) (hb:QXE X b xf) (hs:PlainIx b:=by intro _ _;rfl):QXE X (.Subscript a b pos) (Z.xTl fa xf):=⟨ZS.xe_ix ha.p hb.p hs⟩
theorem xe_make {k:Nat} {ps:List Str} {fx:List Z.D→Option Z.XN} {fe:Z.EF} (C:CalXI X.prog X.w X.K X.mg X.base k ps fx) (hr:Room (k+1) X.A) (hg:Gl X "Desk") (he:QE X.nox e fe) (hex:X.ex=[]:=by rfl)
  (h1:starEach (e :: []) X.env=(false,eval e X.env) :: starEach [] X.env:=by rfl) (hpl:(backTo cpos (starEach [] X.env)).any (·.1)=false:=by rfl):QXE X (.Call (.Name "Desk" p1) [e] [] cpos) (Z.xMake fx fe):=⟨ZS.xe_make C hr hg he.p hex h1 hpl⟩
theorem dss_make {k n i:Nat} {ps:List Str} {y:Str} {fn:List Z.D→Z.Res (Z.D×List Z.D)} {fe:Z.EF} {r:Z.SF} (C:CalI X.prog X.w X.K X.mg X.base k ps n fn) (hr:Room (k+1) X.A) (hg:Gl X "Desk") (hN:X.N.Nodup) (hi:X.N[i]?=some y) (hy:Loc X.env.scope y)
  (he:QE X e fe) (hrest:∀ H1,QSs X H1 sts r) (hs:swapsWith (.Call (.Name "Desk" p1) [e] [] cpos) (some (.Name y pos')) pos.line X.env=pure false:=by rfl) (hf:X.fn y=true∨X.env.scope.names.lookup y=some .local:=by first | exact .inl rfl | exact .inr rfl | assumption)
  (h1:starEach (e :: []) X.env=(false,eval e X.env) :: starEach [] X.env:=by rfl) (hpl:(backTo cpos (starEach [] X.env)).any (·.1)=false:=by rfl) :
  QSs X H0 (.Assign [.Name y pos'] (.Call (.Name "Desk" p1) [e] [] cpos) pos :: sts) (Z.sMake i fn fe r):=⟨ZS.dss_make C hr hg hN hi hy he.p (fun H1=>(hrest H1).p) hs hf h1 hpl⟩
theorem ms_lift {g:Z.SF} (h:∀ H1,QS X H1 st g):QMS X H0 ms as st (Z.mLift ms g):=⟨ZS.ms_lift fun H1=>(h H1).p⟩
theorem mss_one {g:Z.SM} (h:QMS X H0 ms as st g):QMSs X H0 ms as [st] g:=⟨ZS.mss_one h.p⟩
theorem mss_cons {g u:Z.SM} (h1:QMS X H0 ms as st g) (h2:QMSs X H0 ms as sts u):QMSs X H0 ms as (st :: sts) (Z.mSeq g u):=⟨ZS.mss_cons h1.p h2.p⟩
theorem ms_fld {i:Nat} {f:Str} {fc:List Nat} {fe:Z.EF} (hn:NoF X.K f) (ho:PE X o (tVar i)) (he:QE X a fe) (hf:(⟨fc.toArray⟩:Str)=f) (hs:swapsWith a (some (.Attribute o f pos')) pos.line X.env=pure false:=by rfl) :
  QMS X H0 ms as (.Assign [.Attribute o f pos'] a pos) (Z.mFld i fc fe):=⟨ZS.ms_fld hn ho he.p hf hs⟩
theorem ds_tryS {body suite:List Stmt} {b0:Stmt} {x n:Str} {np hpos:Pos} {cs:List (List Nat)} {c0:List Nat} {D0:Addr} {i:Nat} {g h:Z.SF} {xb:Z.XF} (hex:X.ex=[]) (hst:X.stack=X.env :: X.outer) (hfl:X.env.frame=some X.env.locals)
  (hN:X.N.Nodup) (hi:X.N[i]?=some n) (hl:X.env.scope.names.lookup n=some .local) (hg:Gl X x) (hm:X.mg x=some (.ref D0)) (xd:XC X.K c0 D0) (hcs:SubKs X.K cs D0)
  (hb:QSs X.nox H0 body g) (hxb:∀ pn E,QXRs (tryX X pn E) body xb) (hh:∀ ev,QSs (hanX X ev).nox H0 (b0 :: suite) h) (hdb:(x==("__debug__" : Str))=false:=by decide +kernel) :
  QS X H0 (.Try body [.ExceptHandler (some (.Name x np)) (some n) (b0 :: suite) hpos] [] [] pos) (Z.sTryS g xb cs i h):=⟨ZS.ds_tryS hex hst hfl hN hi hl hg hm xd hcs hb.p (fun pn E=>(hxb pn E).p) (fun ev=>(hh ev).p) hdb⟩
end
section
variable {P:Program} {w:World} {K:PySem.W.Frag} {mg:Str→Option Value} {base:Heap}
theorem calQM {m qual:Str} {k:Nat} {st:Stmt} {N ps:List Str} {bs:List Bool} {b:Z.SF} (hbs:bs.length=ps.length) (d:MDef K m qual st ps) (S:FnScope N ps (defScope st))
  (hb:∀ (f:Addr) (cdv:Value) (A:Around) (outer:List PySem.Env) (s:Shared) (H:Hp) (E:XK),Room k (A.deeper (envOfC qual (defScope st) s.heap.objs.size f cdv)) →
   QSs (cxOf CX0 P w K mg base N qual (defScope st) f cdv A outer s H E).nox H (defBody st) b):CalM P w K mg base m (k+1) ps bs (Z.fnB bs N.length b):=CalM.mk' hbs d S fun f cdv A outer s H E hr=>(hb f cdv A outer s H E hr).p
theorem calXM {m qual:Str} {k:Nat} {st:Stmt} {N ps:List Str} {bs:List Bool} {xb:Z.XF} (hbs:bs.length=ps.length) (d:MDef K m qual st ps) (S:FnScope N ps (defScope st))
  (hb:∀ (f:Addr) (cdv:Value) (A:Around) (outer:List PySem.Env) (s:Shared) (H:Hp) (E:XK),Room k (A.deeper (envOfC qual (defScope st) s.heap.objs.size f cdv)) →
   QXSs (cxOf (CXZ P w) P w K mg base N qual (defScope st) f cdv A outer s H E) H (defBody st) xb):CalXM P w K mg base m (k+1) ps bs (Z.fxB bs N.length xb):=CalXM.mk' hbs d S fun f cdv A outer s H E hr=>(hb f cdv A outer s H E hr).p
theorem calQI {k:Nat} {st:Stmt} {N ps:List Str} {b:Z.SM} (hbs:ps.length=2) (d:IDef K st ps) (S:FnScope N ps (defScope st))
  (hb:∀ (f:Addr) (cdv:Value) (A:Around) (outer:List PySem.Env) (s:Shared) (H H0:Hp) (as:List Addr) (E:XK),Room k (A.deeper (envOfC "Desk.__init__" (defScope st) s.heap.objs.size f cdv)) →
   QMSs (cxOf CX0 P w K mg base N "Desk.__init__" (defScope st) f cdv A outer s H E).nox H0 [0] as (defBody st) b):CalI P w K mg base (k+1) ps N.length (Z.fnM [0] [true,false] N.length b):=CalI.mk' hbs d S fun f cdv A outer s H H0 as E hr=>(hb f cdv A outer s H H0 as E hr).p
theorem calXI {k:Nat} {st:Stmt} {N ps:List Str} {xb:Z.XF} (hbs:ps.length=2) (d:IDef K st ps) (S:FnScope N ps (defScope st))
  (hb:∀ (f:Addr) (cdv:Value) (A:Around) (outer:List PySem.Env) (s:Shared) (H:Hp) (E:XK),Room k (A.deeper (envOfC "Desk.__init__" (defScope st) s.heap.objs.size f cdv)) →
   QXSs (cxOf (CXZ P w) P w K mg base N "Desk.__init__" (defScope st) f cdv A outer s H E) H (defBody st) xb):CalXI P w K mg base (k+1) ps (Z.fxB [true,false] N.length xb):=CalXI.mk' hbs d S fun f cdv A outer s H E hr=>(hb f cdv A outer s H E hr).p
end
end ZQ
noncomputable section
namespace Z
def Ok {α:Type} (r:Res α) (Q:α→Prop):Prop:=∃ a,r=.ok a∧Q a
theorem Ok.intro {α:Type} {r:Res α} {Q:α→Prop} {a:α} (h:r=.ok a) (q:Q a):Ok r Q:=⟨a,h,q⟩
theorem Ok.imp {α:Type} {r:Res α} {P Q:α→Prop} (h:Ok r P) (k:∀ a,P a→Q a):Ok r Q:=let ⟨a,e,p⟩:=h;⟨a,e,k a p⟩
theorem Ok.eq {α:Type} {r:Res α} {a:α} (h:Ok r fun x=>x=a):r=.ok a:=by obtain ⟨x,e,rfl⟩:=h;exact e
@[simp] theorem Ok_ok {α:Type} (a:α) (Q:α→Prop):Ok (.ok a) Q↔Q a:=⟨fun ⟨_,e,q⟩=>by cases e;exact q,fun q=>⟨a,rfl,q⟩⟩
@[simp] theorem Ok_bad {α:Type} (Q:α→Prop):Ok (.bad:Res α) Q↔False:=⟨fun ⟨_,e,_⟩=>(by cases e),False.elim⟩
@[simp] theorem Ok_bind {α β:Type} (r:Res α) (f:α→Res β) (Q:β→Prop):Ok (r.bind f) Q↔Ok r fun a=>Ok (f a) Q:=by
 cases r with
 | ok a=>simp
 | bad=>simp
@[simp] theorem Ok_map {α β:Type} (r:Res α) (f:α→β) (Q:β→Prop):Ok (r.map f) Q↔Ok r fun a=>Q (f a):=by
 cases r with
 | ok a=>simp
 | bad=>simp
@[simp] theorem Ok_guard {α:Type} (p:Prop) (r:Res α) (Q:α→Prop):Ok (guard p r) Q↔p∧Ok r Q:=by
 constructor
 ·rintro ⟨a,e,q⟩
  obtain ⟨h,e⟩:=guard_ok e
  exact ⟨h,a,e,q⟩
 ·rintro ⟨h,k⟩
  rw [guard_pos h];exact k
@[simp] theorem Ok_ite {α:Type} {c:Prop} [Decidable c] (r r':Res α) (Q:α→Prop):Ok (if c then r else r') Q↔if c then Ok r Q else Ok r' Q:=by split<;>rfl
abbrev v (d:D):Option L:=some (.val d)
abbrev vi (i:Int):Option L:=some (.val (.int i))
abbrev vs (cs:List Nat):Option L:=some (.val (.str cs))
abbrev ow (xs:List D):Option L:=some (.own xs)
def asW:Option (Option L)→Res D
 | some (some (.val d))=>.ok d
 | some (some (.own xs))=>.ok (.lst xs)
 | some (some (.bor (.lst xs)))=>.ok (.lst xs)
 | _=>.bad
def asV:Option (Option L)→Res D
 | some (some (.val d))=>.ok d
 | _=>.bad
@[simp] theorem eW_a (i:Nat) (ρ:Env):eW i ρ=asW ρ[i]?:=by
 unfold eW asW
 cases ρ[i]? with
 | none=>rfl
 | some o=>cases o with
  | none=>rfl
  | some l=>cases l<;>rfl
@[simp] theorem eV_a (i:Nat) (ρ:Env):eV i ρ=asV ρ[i]?:=by
 unfold eV asV
 cases ρ[i]? with
 | none=>rfl
 | some o=>cases o with
  | none=>rfl
  | some l=>cases l<;>rfl
@[simp] theorem asW_val (d:D):asW (some (some (.val d)))=.ok d:=rfl
@[simp] theorem asW_own (xs:List D):asW (some (some (.own xs)))=.ok (.lst xs):=rfl
@[simp] theorem asW_bor (xs:List D):asW (some (some (.bor (.lst xs))))=.ok (.lst xs):=rfl
@[simp] theorem asV_val (d:D):asV (some (some (.val d)))=.ok d:=rfl
theorem ret_ok {b:SF} {ρ:Env} {d:D} (h:Ok (b ρ) fun fl=>retK (.ok fl)=.ok d):retK (b ρ)=.ok d:=by
 obtain ⟨fl,e,q⟩:=h;rw [e,q]
theorem ret_Ok {b:SF} {ρ:Env} {P:D→Prop} (h:Ok (b ρ) fun fl=>Ok (retK (.ok fl)) P):Ok (retK (b ρ)) P:=by
 obtain ⟨fl,e,q⟩:=h;rw [e];exact q
@[simp] theorem sCont_a (ρ:Env):sCont ρ=.ok (.ct ρ):=rfl
@[simp] theorem sBreak_a (ρ:Env):sBreak ρ=.ok (.bk ρ):=rfl
@[simp] theorem sGet_a (e:EF) (g:GF) (ρ:Env):sGet e g ρ=(e ρ).bind fun d=>(g d ρ).bind fun ρ'=>.ok (.nx ρ'):=rfl
@[simp] theorem gTup2 (i j:Nat) (a b:D) (ρ:Env):gTup [i,j] (.tup [a,b]) ρ=.ok ((ρ.set i (v a)).set j (v b)):=rfl
def appK (i:Nat) (ρ:Env) (d:D):Option (Option L)→Res Fl
 | some (some (.own xs))=>guard (xs.length < line) (.ok (.nx (ρ.set i (ow (xs++[d])))))
 | _=>.bad
@[simp] theorem sAppend_a (i:Nat) (e:EF) (ρ:Env):sAppend i e ρ=(e ρ).bind fun d=>appK i ρ d ρ[i]?:=rfl
@[simp] theorem appK_own (i:Nat) (ρ:Env) (d:D) (xs:List D):appK i ρ d (some (some (.own xs)))=guard (xs.length < line) (.ok (.nx (ρ.set i (ow (xs++[d]))))):=rfl
def extK (i:Nat) (ρ:Env) (ys:List D):Option (Option L)→Res Fl
 | some (some (.own xs))=>guard (xs.length+ys.length≤line) (.ok (.nx (ρ.set i (ow (xs++ys)))))
 | _=>.bad
@[simp] theorem sExt_a (i:Nat) (l:LF) (ρ:Env):sExt i l ρ=(l ρ).bind fun ys=>extK i ρ ys ρ[i]?:=rfl
@[simp] theorem extK_own (i:Nat) (ρ:Env) (ys xs:List D):extK i ρ ys (some (some (.own xs)))=guard (xs.length+ys.length≤line) (.ok (.nx (ρ.set i (ow (xs++ys))))):=rfl
def frzK (i:Nat) (ρ:Env):Option (Option L)→Env
 | some (some (.own xs))=>ρ.set i (v (.lst xs))
 | _=>ρ
@[simp] theorem sFrz_a (i:Nat) (a:SF) (ρ:Env):sFrz i a ρ=a (frzK i ρ ρ[i]?):=by
 unfold sFrz frz frzK
 cases ρ[i]? with
 | none=>rfl
 | some o=>cases o with
  | none=>rfl
  | some l=>cases l<;>rfl
@[simp] theorem frzK_own (i:Nat) (ρ:Env) (xs:List D):frzK i ρ (some (some (.own xs)))=ρ.set i (v (.lst xs)):=rfl
@[simp] theorem frzK_val (i:Nat) (ρ:Env) (d:D):frzK i ρ (some (some (.val d)))=ρ:=rfl
@[simp] theorem frzK_none (i:Nat) (ρ:Env):frzK i ρ (some none)=ρ:=rfl
def catK:D→D→Res (List D)
 | .lst xs,.lst ys=>guard (xs.length+ys.length≤line) (.ok (xs++ys))
 | _,_=>.bad
theorem lCat_k (a b:EF) (ρ:Env):lCat a b ρ=(a ρ).bind fun x=>(b ρ).bind fun y=>catK x y:=rfl
@[simp] theorem catK_lst (xs ys:List D):catK (.lst xs) (.lst ys)=guard (xs.length+ys.length≤line) (.ok (xs++ys)):=rfl
def slK (l h:Option Int):D→Res (List D)
 | .lst xs=>.ok (cut xs l h)
 | _=>.bad
@[simp] theorem slK_lst (l h:Option Int) (xs:List D):slK l h (.lst xs)=.ok (cut xs l h):=rfl
@[simp] theorem oSl_tup (xs:List D) (l h:Option Int):oSl (.tup xs) l h=.ok (.tup (cut xs l h)):=rfl
@[simp] theorem oSl_str' (cs:List Nat) (l h:Option Int):oSl (.str cs) l h=guard (cs.length≤line) (.ok (.str (cut cs l h))):=rfl
@[simp] theorem oAdd_str' (a b:List Nat):oAdd (.str a) (.str b)=guard (a.length+b.length≤line) (.ok (.str (a++b))):=rfl
@[simp] theorem oAdd_tup' (a b:List D):oAdd (.tup a) (.tup b)=guard (a.length+b.length≤line) (.ok (.tup (a++b))):=rfl
@[simp] theorem oNeg_int (a:Int):oNeg (.int a)=.ok (.int (-a)):=rfl
@[simp] theorem oIsN_non:oIsN .non=.ok (.bl true):=rfl
@[simp] theorem oIsN_tup (xs:List D):oIsN (.tup xs)=.ok (.bl false):=rfl
@[simp] theorem oNotN_non:oNotN .non=.ok (.bl false):=rfl
@[simp] theorem oNotN_tup (xs:List D):oNotN (.tup xs)=.ok (.bl true):=rfl
theorem oPow_nat (a b:Nat) (hb:b≤1000000) (ha:a < 18446744073709551616):oPow (.int (a:Int)) (.int (b:Int))=.ok (.int ((a ^ b:Nat):Int)):=by
 have h:(0:Int)≤b∧(b:Int)≤1000000∧(a:Int).natAbs < 2 ^ 64:=⟨by lia,by lia,by rw [Int.natAbs_natCast];exact ha⟩
 show guard _ _=_
 rw [guard_pos h,Int.toNat_natCast,Int.natCast_pow]
@[simp] theorem p10_60:oPow (.int 10) (.int 60)=.ok (.int 1000000000000000000000000000000000000000000000000000000000000):=oPow_nat 10 60 (by decide) (by decide)
@[simp] theorem p10_59:oPow (.int 10) (.int 59)=.ok (.int 100000000000000000000000000000000000000000000000000000000000):=oPow_nat 10 59 (by decide) (by decide)
@[simp] theorem p10_55:oPow (.int 10) (.int 55)=.ok (.int 10000000000000000000000000000000000000000000000000000000):=oPow_nat 10 55 (by decide) (by decide)
@[simp] theorem p10_50:oPow (.int 10) (.int 50)=.ok (.int 100000000000000000000000000000000000000000000000000):=oPow_nat 10 50 (by decide) (by decide)
@[simp] theorem p7919_9:oPow (.int 7919) (.int 9)=.ok (.int 122470950010456506152021579891552879):=oPow_nat 7919 9 (by decide) (by decide)
def atK:Option D→Res D
 | some d=>.ok d
 | none=>.bad
@[simp] theorem atK_some (d:D):atK (some d)=.ok d:=rfl
theorem oIx_tup (xs:List D) (i:Int):oIx (.tup xs) (.int i)=atK ((ixZ xs.length i).bind fun j=>xs[j]?):=by
 show (match (ixZ xs.length i).bind fun j=>xs[j]? with | some v=>Res.ok v | none=>.bad)=_
 cases (ixZ xs.length i).bind fun j=>xs[j]?<;>rfl
theorem oIx_lst (xs:List D) (i:Int):oIx (.lst xs) (.int i)=atK ((ixZ xs.length i).bind fun j=>xs[j]?):=by
 show (match (ixZ xs.length i).bind fun j=>xs[j]? with | some v=>Res.ok v | none=>.bad)=_
 cases (ixZ xs.length i).bind fun j=>xs[j]?<;>rfl
theorem ix_at {xs:List D} {i:Int} {j:Nat} {d:D} (h:i=j) (e:xs[j]?=some d):oIx (.tup xs) (.int i)=.ok d∧oIx (.lst xs) (.int i)=.ok d:=by
 subst h
 have hj:j < xs.length:=(List.getElem?_eq_some_iff.mp e).1
 have:ixZ xs.length (j:Int)=some j:=by simp [ixZ,hj]
 rw [oIx_tup,oIx_lst,this]
 simp [e]
theorem ix_strAt {cs:List Nat} {i:Int} {j c:Nat} (h:i=j) (e:cs[j]?=some c) (hl:cs.length≤line):oIx (.str cs) (.int i)=.ok (.str [c]):=by
 subst h
 have hj:j < cs.length:=(List.getElem?_eq_some_iff.mp e).1
 have:ixZ cs.length (j:Int)=some j:=by simp [ixZ,hj]
 show guard (cs.length≤line) (match (ixZ cs.length (j:Int)).bind fun j=>cs[j]? with | some c=>Res.ok (D.str [c]) | none=>.bad)=_
 rw [guard_pos hl,this]
 simp [e]
theorem ix_some {xs:List D} {i:Int} (h0:0≤i) (h1:i < xs.length):∃ d∈xs,oIx (.lst xs) (.int i)=.ok d∧oIx (.tup xs) (.int i)=.ok d:=by
 have hj:i.toNat < xs.length:=by lia
 refine ⟨xs[i.toNat],List.getElem_mem hj,?_⟩
 have:=ix_at (xs:=xs) (i:=i) (j:=i.toNat) (d:=xs[i.toNat]) (by lia) (List.getElem?_eq_getElem hj)
 exact ⟨this.2,this.1⟩
def turn (I:Env→Prop) (Q:Fl→Prop):Fl→Prop
 | .nx ρ=>I ρ
 | .ct ρ=>I ρ
 | .bk ρ=>Q (.nx ρ)
 | .rt d=>Q (.rt d)
@[simp] theorem turn_nx (I:Env→Prop) (Q:Fl→Prop) (ρ:Env):turn I Q (.nx ρ)↔I ρ:=Iff.rfl
@[simp] theorem turn_ct (I:Env→Prop) (Q:Fl→Prop) (ρ:Env):turn I Q (.ct ρ)↔I ρ:=Iff.rfl
@[simp] theorem turn_bk (I:Env→Prop) (Q:Fl→Prop) (ρ:Env):turn I Q (.bk ρ)↔Q (.nx ρ):=Iff.rfl
@[simp] theorem turn_rt (I:Env→Prop) (Q:Fl→Prop) (d:D):turn I Q (.rt d)↔Q (.rt d):=Iff.rfl
theorem for_ix {g:GF} {b:SF} {Q:Fl→Prop} (I:Nat→Env→Prop):∀ (ds:List D) (ρ:Env) (i:Nat),I i ρ→(∀ j d ρ,ds[j]?=some d→I (i+j) ρ→Ok (g d ρ) fun ρ1=>Ok (b ρ1) (turn (I (i+j+1)) Q))→(∀ ρ,I (i+ds.length) ρ→Q (.nx ρ))→Ok (forGo g b ds ρ) Q
 | [],ρ,i,h,_,e=>by simpa [forGo] using e ρ h
 | d :: ds,ρ,i,h,k,e=>by
  obtain ⟨ρ1,e1,fl,e2,t⟩:=k 0 d ρ rfl h
  have ih:=fun ρ' (h':I (i+1) ρ')=>for_ix I (g:=g) (b:=b) (Q:=Q) ds ρ' (i+1) h' (fun j x ρ hj hP=>by
   have:=k (j+1) x ρ (by simpa using hj) (by simpa [Nat.add_assoc,Nat.add_comm 1 j] using hP)
   simpa [Nat.add_assoc,Nat.add_comm 1 j] using this) (fun ρ hP=>e ρ (by simpa [Nat.add_assoc,Nat.add_comm 1] using hP))
  unfold forGo
  rw [e1,Res.ok_bind,e2,Res.ok_bind]
  cases fl with
  | nx ρ'=>exact ih ρ' (by simpa using t)
  | ct ρ'=>exact ih ρ' (by simpa using t)
  | bk ρ'=>simpa using t
  | rt d=>simpa using t
theorem for_at {g:GF} {b:SF} {Q:Fl→Prop} (I:Nat→Env→Prop) {ds:List D} {ρ:Env} (h0:I 0 ρ) (hs:∀ j d ρ,ds[j]?=some d→I j ρ→Ok (g d ρ) fun ρ1=>Ok (b ρ1) (turn (I (j+1)) Q)) (he:∀ ρ,I ds.length ρ→Q (.nx ρ)):Ok (forGo g b ds ρ) Q :=
 for_ix I ds ρ 0 h0 (fun j d ρ hd hI=>by rw [Nat.zero_add] at hI ⊢;exact hs j d ρ hd hI) (fun ρ h=>he ρ (by rwa [Nat.zero_add] at h))
theorem for_all {g:GF} {b:SF} {Q:Fl→Prop} (I:Env→Prop) {ds:List D} {ρ:Env} (h0:I ρ) (hs:∀ d∈ds,∀ ρ,I ρ→Ok (g d ρ) fun ρ1=>Ok (b ρ1) (turn I Q)) (he:∀ ρ,I ρ→Q (.nx ρ)):Ok (forGo g b ds ρ) Q :=
 for_at (fun _=>I) h0 (fun j d ρ hd hI=>hs d (List.mem_of_getElem? hd) ρ hI) he
theorem comp_map {g:GF} {e:EF} {ρ:Env} {ds:List D} {Q:List D→Prop} (h:D→D) (hs:∀ d∈ds,Ok (g d ρ) fun ρ1=>Ok (e ρ1) fun y=>y=h d) (hq:Q (ds.map h)):Ok (compGo g tTrue e ρ ds) Q:=by
 refine ⟨_,compGo_map (h:=h) ds fun d hd=>?_,hq⟩
 obtain ⟨ρ1,e1,k⟩:=hs d hd
 rw [e1];exact k.eq
theorem comp_enc {α:Type} (enc:α→D) {g:GF} {t:TF} {e:EF} {ρ:Env} (f:α→Bool) (h:α→D):∀ {xs:List α} {Q:List D→Prop},(∀ x∈xs,Ok (g (enc x) ρ) fun ρ1=>Ok (t ρ1) fun c=>c=f x∧(f x=true→Ok (e ρ1) fun y=>y=h x))→Q ((xs.filter f).map h)→Ok (compGo g t e ρ (xs.map enc)) Q:=by
 intro xs Q hs hq
 refine ⟨_,?_,hq⟩
 clear hq
 induction xs with
 | nil=>rfl
 | cons x xs ih =>
  obtain ⟨ρ1,e1,c,e2,hc,k⟩:=hs x List.mem_cons_self
  have ih':=ih fun y hy=>hs y (List.mem_cons_of_mem _ hy)
  cases hf:f x with
  | true =>
   rw [hf] at hc
   have:=(k hf).eq
   simp [compGo,e1,e2,hc,this,ih',hf]
  | false =>
   rw [hf] at hc
   simp [compGo,e1,e2,hc,ih',hf]
end Z
end
set_option maxRecDepth 4000
noncomputable section
namespace KA
open Z
def b_is_letter:SF:=(sRet (eAnd (eB oEq (eU oLen (eW 0)) (eC (.int 1))) (eChain oLe oLe (eC (.str [97])) (eW 0) (eC (.str [122])))))
def fn_is_letter:List D→Res D:=fn 1 1 b_is_letter
theorem fe_is_letter (x0:D):fn_is_letter [x0]=retK (b_is_letter [some (.val x0)]):=fn_a _ _ _ _ rfl
def b_is_sign:SF:=(sRet (eOr (eB oIn (eW 0) (eTup (aCons (eC (.str [46])) (aCons (eC (.str [61])) (aCons (eC (.str [35])) aNil))))) (eCall fn_is_letter (aCons (eV 0) aNil))))
def fn_is_sign:List D→Res D:=fn 1 1 b_is_sign
theorem fe_is_sign (x0:D):fn_is_sign [x0]=retK (b_is_sign [some (.val x0)]):=fn_a _ _ _ _ rfl
def b_is_row:SF:=(sSeq (sIf (tOr (tNot (tE (eU (oIsTy .str) (eW 0)))) (tNot (tE (eChain oLe oLe (eC (.int 1)) (eU oLen (eW 0)) (eC (.int 12)))))) (sRet (eC (.bl false))) sNext) (sRet (eU oAll (eL (lComp (iSeq (eW 0)) 1 [] (gName 0) tTrue (eCall fn_is_sign (aCons (eV 0) aNil)))))))
def fn_is_row:List D→Res D:=fn 1 1 b_is_row
theorem fe_is_row (x0:D):fn_is_row [x0]=retK (b_is_row [some (.val x0)]):=fn_a _ _ _ _ rfl
def b_is_hall:SF:=(sSeq (sIf (tOr (tNot (tE (eU (oIsTy .tuple) (eW 0)))) (tNot (tE (eChain oLe oLe (eC (.int 1)) (eU oLen (eW 0)) (eC (.int 6)))))) (sRet (eC (.bl false))) sNext) (sSeq (sIf (tNot (tE (eU oAll (eL (lComp (iSeq (eW 0)) 1 [] (gName 0) tTrue (eCall fn_is_row (aCons (eV 0) aNil))))))) (sRet (eC (.bl false))) sNext) (sRet (eU oAll (eL (lComp (iSeq (eW 0)) 1 [0] (gName 0) tTrue (eB oEq (eU oLen (eW 0)) (eU oLen (eB oIx (eW 1) (eC (.int 0)))))))))))
def fn_is_hall:List D→Res D:=fn 1 1 b_is_hall
theorem fe_is_hall (x0:D):fn_is_hall [x0]=retK (b_is_hall [some (.val x0)]):=fn_a _ _ _ _ rfl
def b_law_cell_at:SF:=(sSeq (sIf (tE (eB oLt (eW 1) (eU oLen (eW 0)))) (sRet (eB oIx (eW 0) (eW 1))) sNext) (sRet (eC (.int 0))))
def fn_law_cell_at:List D→Res D:=fn 2 2 b_law_cell_at
theorem fe_law_cell_at (x0 x1:D):fn_law_cell_at [x0,x1]=retK (b_law_cell_at [some (.val x0),some (.val x1)]):=fn_a _ _ _ _ rfl
def b_law_mixed:SF:=(sSeq (sIf (tE (eB oEq (eB oMod (eB oDiv (eW 0) (eC (.int 1000003))) (eC (.int 2))) (eC (.int 1)))) (sRet (eB oMod (eB oShr (eB oDiv (eW 0) (eC (.int 2000006))) (eB oMul (eC (.int 12)) (eW 1))) (eC (.int 4096)))) sNext) (sSeq (sSet 2 (eB oMod (eB oMul (eB oAdd (eB oAdd (eB oMod (eW 0) (eC (.int 2147483647))) (eB oMul (eB oMul (eC (.int 7919)) (eW 1)) (eW 1))) (eW 1)) (eC (.int 48271))) (eC (.int 2147483647)))) (sSeq (sSet 2 (eB oMod (eB oMul (eW 2) (eW 2)) (eC (.int 1000003)))) (sRet (eB oMod (eB oAdd (eB oAdd (eB oMul (eW 2) (eW 2)) (eB oMul (eC (.int 69621)) (eW 2))) (eW 1)) (eC (.int 998244353)))))))
def fn_law_mixed:List D→Res D:=fn 2 3 b_law_mixed
theorem fe_law_mixed (x0 x1:D):fn_law_mixed [x0,x1]=retK (b_law_mixed [some (.val x0),some (.val x1),none]):=fn_a _ _ _ _ rfl
def b_law_letters:SF:=(sSeq (sSet 1 (eC (.str letters))) (sRet (eL (lDisp (aCons (eB oIx (eW 1) (eB oMod (eB oDiv (eW 0) (eC (.int 100))) (eC (.int 26)))) (aCons (eB oIx (eW 1) (eB oMod (eB oDiv (eW 0) (eC (.int 2600))) (eC (.int 26)))) aNil))))))
def fn_law_letters:List D→Res D:=fn 1 2 b_law_letters
theorem fe_law_letters (x0:D):fn_law_letters [x0]=retK (b_law_letters [some (.val x0),none]):=fn_a _ _ _ _ rfl
def b_law_hall:SF:=(sSeq (sSet 4 (eB oAdd (eC (.int 1)) (eB oMod (eW 1) (eW 2)))) (sSeq (sSet 5 (eB oAdd (eC (.int 1)) (eB oMod (eB oDiv (eW 1) (eC (.int 8))) (eW 3)))) (sSeq (sSet 6 (eL (lCat (eL (lCat (eL (lDisp (aCons (eC (.str [46])) (aCons (eC (.str [46])) (aCons (eC (.str [61])) (aCons (eC (.str [46])) aNil)))))) (eCall fn_law_letters (aCons (eV 1) aNil)))) (eL (lDisp (aCons (eC (.str [35])) (aCons (eC (.str [46])) aNil))))))) (sSeq (sSet 7 (eCall fn_law_cell_at (aCons (eV 0) (aCons (eC (.int 0)) aNil)))) (sSeq (sOwn 8 (lDisp aNil)) (sSeq (sFor (iRng1 (eB oMul (eW 4) (eW 5))) (gName 9) (sSeq (sIf (tE (eB oEq (eB oMod (eW 9) (eW 5)) (eC (.int 0)))) (sAppend 8 (eC (.str []))) sNext) (sSeq (sSet 10 (eB oIx (eW 6) (eB oMod (eCall fn_law_mixed (aCons (eCall fn_law_cell_at (aCons (eV 0) (aCons (eV 9) aNil))) (aCons (eV 9) aNil))) (eC (.int 8))))) (sSeq (sIf (tE (eB oEq (eB oMod (eB oDiv (eW 1) (eC (.int 67600))) (eC (.int 2))) (eC (.int 1)))) (sSeq (sSet 10 (eB oIx (eC (.str signs)) (eB oMod (eW 7) (eC (.int 29))))) (sSet 7 (eB oDiv (eW 7) (eC (.int 29))))) sNext) (sPut 8 (eU oNeg (eC (.int 1))) (eB oAdd (eB oIx (eW 8) (eU oNeg (eC (.int 1)))) (eW 10))))))) (sRet (eU oTuple (eW 8)))))))))
def fn_law_hall:List D→Res D:=fn 4 11 b_law_hall
theorem fe_law_hall (x0 x1 x2 x3:D):fn_law_hall [x0,x1,x2,x3]=retK (b_law_hall [some (.val x0),some (.val x1),some (.val x2),some (.val x3),none,none,none,none,none,none,none]):=fn_a _ _ _ _ rfl
end KA
end
set_option maxRecDepth 8000
namespace KA
open Z
def Ints (xs:List D):Prop:=∀ d∈xs,∃ c,d=.int c
theorem cell_at {xs:List D} (hx:Ints xs) {k:Int} (h:0≤k):∃ c,fn_law_cell_at [.lst xs,.int k]=.ok (.int c):=by
 by_cases hk:k < xs.length
 ·obtain ⟨d,hd,e,_⟩:=ix_some h hk
  obtain ⟨c,rfl⟩:=hx d hd
  refine ⟨c,?_⟩
  rw [fe_law_cell_at]
  refine ret_ok ?_
  simp [b_law_cell_at,hk,e]
 ·refine ⟨0,?_⟩
  rw [fe_law_cell_at]
  refine ret_ok ?_
  simp [b_law_cell_at,hk]
theorem mixed (c:Int) {k:Int} (h0:0≤k) (h1:k≤1000):∃ m,fn_law_mixed [.int c,.int k]=.ok (.int m)∧0≤m:=by
 have f1:mulFits 12 k:=mulFits_l (by decide) (by decide)
 have f2:mulFits 7919 k:=mulFits_l (by decide) (by decide)
 have f3:mulFits (7919*k) k:=mulFits_r (by lia) (by lia)
 have f4:∀ x,mulFits x 48271:=fun x=>mulFits_r (by decide) (by decide)
 have f5:∀ x:Int,mulFits (x % 2147483647) (x % 2147483647):=fun x=>mulFits_l (by lia) (by lia)
 have f6:∀ x:Int,mulFits (x % 1000003) (x % 1000003):=fun x=>mulFits_l (by lia) (by lia)
 have f7:∀ x:Int,mulFits 69621 x:=fun x=>mulFits_l (by decide) (by decide)
 have hk:(0:Int)≤12*k:=by lia
 rw [fe_law_mixed]
 have:Ok (retK (b_law_mixed [v (.int c),v (.int k),none])) fun d=>∃ m,d=.int m∧0≤m:=by
  refine ret_Ok ?_
  by_cases h:c / 1000003 % 2=1
  ·simp [b_law_mixed,divFits_of,f1,hk,h]
   lia
  ·simp [b_law_mixed,divFits_of,f1,f2,f3,f4,f5,f6,f7,hk,h]
   lia
 obtain ⟨d,e,m,rfl,hm⟩:=this
 exact ⟨m,e,hm⟩
theorem letter_at (z:Int):∃ q∈letters,oIx (.str letters) (.int (z % 26))=.ok (.str [q]) :=
 ix_str (by lia) (by simp [letters];lia) (by decide)
theorem sign_of (z:Int):∃ q∈signs,oIx (.str signs) (.int (z % 29))=.ok (.str [q]) :=
 ix_str (by lia) (by simp [signs];lia) (by decide)
theorem letters_sign {q:Nat} (h:q∈letters):q∈signs:=(by decide:∀ q∈letters,q∈signs) q h
theorem letters_ok (h:Int):∃ a b,a∈letters∧b∈letters∧fn_law_letters [.int h]=.ok (.lst [.str [a],.str [b]]):=by
 obtain ⟨a,ha,ea⟩:=letter_at (h / 100)
 obtain ⟨b,hb,eb⟩:=letter_at (h / 2600)
 refine ⟨a,b,ha,hb,?_⟩
 rw [fe_law_letters]
 refine ret_ok ?_
 simp [b_law_letters,divFits_of,ea,eb,line]
abbrev Rows:=List (List Nat)
def Shape (L:Nat) (k:Nat) (rows:Rows):Prop:=(k=0∧rows=[])∨∃ full last,rows=full++[last]∧(∀ x∈full,x.length=L)∧1≤last.length∧last.length≤L∧k=full.length*L+last.length
theorem Shape.end {L R:Nat} {rows:Rows} (hL:1≤L) (hR:1≤R) (h:Shape L (R*L) rows):rows.length=R∧∀ x∈rows,x.length=L:=by
 rcases h with ⟨h,_⟩ | ⟨full,last,rfl,hf,h1,h2,h3⟩
 ·have:=Nat.mul_le_mul hR hL;lia
 ·have hlt:full.length < R:=by
   apply Nat.lt_of_mul_lt_mul_right (a:=L)
   lia
  obtain ⟨m,hm⟩:∃ m,R=full.length+1+m:=⟨R-(full.length+1),by lia⟩
  have e:R*L=full.length*L+L+m*L:=by rw [hm,Nat.add_mul,Nat.add_mul,Nat.one_mul]
  have hm0:m=0:=by
   rcases Nat.eq_zero_or_pos m with h | h
   ·exact h
   ·have:=Nat.mul_le_mul h hL;lia
  subst hm0
  refine ⟨by simp;lia,fun x hx=>?_⟩
  rcases List.mem_append.mp hx with hx | hx
  ·exact hf x hx
  ·rw [List.mem_singleton] at hx;subst hx;lia
theorem Shape.len {L k:Nat} {rows:Rows} (hL:1≤L) (h:Shape L k rows):rows.length≤k:=by
 rcases h with ⟨h,rfl⟩ | ⟨full,last,rfl,hf,h1,h2,h3⟩
 ·simp
 ·have:full.length*1≤full.length*L:=Nat.mul_le_mul_left _ hL
  simp;lia
def fresh (L j:Nat) (rows:Rows):Rows:=if j % L=0 then rows++[[]] else rows
theorem Shape.step {L j : Nat} {rows : Rows} (hL : 1 ≤ L) (h : Shape L j rows) : ∃ full last, fresh L j rows = full ++ [last] ∧ last.length < L ∧ (∀ s, Shape L (j + 1) (full ++ [last ++ [s]])) ∧ ((∀ x ∈ rows, ∀ c ∈ x, c ∈ signs) → (∀ x ∈ full, ∀ c ∈ x, c ∈ signs) ∧ ∀ c ∈ last, c ∈ signs) := by
 rcases h with ⟨rfl,rfl⟩ | ⟨full,last,rfl,hf,h1,h2,h3⟩
 ·refine ⟨[],[],by simp [fresh],by simp;lia,fun s=>Or.inr ⟨[],[s],rfl,by simp,by simp,by simpa using hL,by simp⟩,by simp⟩
 ·by_cases e:last.length=L
  ·have e0:j % L=0:=by rw [h3,e,←Nat.succ_mul];exact Nat.mul_mod_left _ _
   refine ⟨full++[last],[],by simp [fresh,e0],by simp;lia,fun s=>Or.inr ⟨full++[last],[s],rfl,?_,by simp,by simpa using hL,?_⟩,fun h=>⟨h,by simp⟩⟩
   ·intro x hx
    rcases List.mem_append.mp hx with hx | hx
    ·exact hf x hx
    ·rw [List.mem_singleton] at hx;subst hx;exact e
   ·simp [Nat.succ_mul];lia
  ·have e0:j % L≠0:=by
    rw [h3,Nat.add_comm,Nat.add_mul_mod_self_right,Nat.mod_eq_of_lt (by lia)];lia
   refine ⟨full,last,by simp [fresh,e0],by lia,fun s=>Or.inr ⟨full,last++[s],rfl,hf,by simp,by simp;lia,by simp;lia⟩,fun h=>⟨fun x hx=>h x (List.mem_append_left _ hx),h last (by simp)⟩⟩
structure Hall (R L:Nat) (rows:Rows):Prop where
 r1:1≤R
 r2:R≤6
 l1:1≤L
 l2:L≤12
 len:rows.length=R
 each:∀ x∈rows,x.length=L
 sg:∀ x∈rows,∀ c∈x,c∈signs
noncomputable def bApp:SF:=(sIf (tE (eB oEq (eB oMod (eW 9) (eW 5)) (eC (.int 0)))) (sAppend 8 (eC (.str []))) sNext)
theorem app_ok (x0 x1 x2 x3 x4 x6 x7 x10:Option Z.L) (L j:Nat) (hL:1≤L) (rows:Rows) (hr:rows.length < 16777216):bApp [x0,x1,x2,x3,x4,vi L,x6,x7,ow (rows.map .str),vi j,x10]=.ok (.nx [x0,x1,x2,x3,x4,vi L,x6,x7,ow ((fresh L j rows).map .str),vi j,x10]):=by
 have h0:0 < L:=by lia
 by_cases e:j % L=0
 ·have e':(j:Int) % (L:Int)=0:=by exact_mod_cast e
  simp [bApp,h0,e',fresh,e,hr,line,guard_pos]
 ·have e':¬ (j:Int) % (L:Int)=0:=by exact_mod_cast e
  simp [bApp,h0,e',fresh,e,hr,line]
noncomputable def bCell:SF:=(sSet 10 (eB oIx (eW 6) (eB oMod (eCall fn_law_mixed (aCons (eCall fn_law_cell_at (aCons (eV 0) (aCons (eV 9) aNil))) (aCons (eV 9) aNil))) (eC (.int 8)))))
def Sg (sg:List D):Prop:=sg.length=8∧∀ d∈sg,∃ c∈signs,d=.str [c]
theorem cell_ok {xs sg:List D} (hx:Ints xs) (hs:Sg sg) (j:Nat) (hj:j≤1000) (x1 x2 x3 x4 x5 x7 x8 x10:Option Z.L):∃ s∈signs,bCell [v (.lst xs),x1,x2,x3,x4,x5,v (.lst sg),x7,x8,vi j,x10]=.ok (.nx [v (.lst xs),x1,x2,x3,x4,x5,v (.lst sg),x7,x8,vi j,vs [s]]):=by
 obtain ⟨c,ec⟩:=cell_at hx (k:=(j:Int)) (by lia)
 obtain ⟨m,em,hm⟩:=mixed c (k:=(j:Int)) (by lia) (by lia)
 obtain ⟨d,hd,ed,_⟩:=ix_some (xs:=sg) (i:=m % 8) (Int.emod_nonneg _ (by decide)) (by rw [hs.1];lia)
 obtain ⟨s,hs,rfl⟩:=hs.2 d hd
 exact ⟨s,hs,by simp [bCell,ec,em,ed]⟩
noncomputable def bMode:SF:=(sIf (tE (eB oEq (eB oMod (eB oDiv (eW 1) (eC (.int 67600))) (eC (.int 2))) (eC (.int 1)))) (sSeq (sSet 10 (eB oIx (eC (.str signs)) (eB oMod (eW 7) (eC (.int 29))))) (sSet 7 (eB oDiv (eW 7) (eC (.int 29))))) sNext)
theorem mode_ok (h c:Int) (s:Nat) (hs:s∈signs) (x0 x2 x3 x4 x5 x6 x8 x9:Option Z.L):∃ c',∃ s'∈signs,bMode [x0,vi h,x2,x3,x4,x5,x6,vi c,x8,x9,vs [s]]=.ok (.nx [x0,vi h,x2,x3,x4,x5,x6,vi c',x8,x9,vs [s']]):=by
 obtain ⟨a,ha,ea⟩:=sign_of c
 by_cases e:h / 67600 % 2=1
 ·exact ⟨c / 29,a,ha,by simp [bMode,divFits_of,guard_pos,e,ea]⟩
 ·exact ⟨c,s,hs,by simp [bMode,divFits_of,guard_pos,e]⟩
theorem ix_last (full:Rows) (last:List Nat):oIx (.lst ((full++[last]).map D.str)) (.int (-1))=.ok (.str last):=by
 have e:ixZ ((full++[last]).map D.str).length (-1)=some full.length:=by
  simp [ixZ];lia
 simp only [oIx,e]
 simp
theorem put_last (full:Rows) (last s:List Nat):ixZ ((full++[last]).map D.str).length (-1)=some full.length∧((full++[last]).map D.str).set full.length (.str s)=(full++[s]).map D.str:=by
 refine ⟨by simp [ixZ];lia,?_⟩
 simp
noncomputable def bPut:SF:=(sPut 8 (eU oNeg (eC (.int 1))) (eB oAdd (eB oIx (eW 8) (eU oNeg (eC (.int 1)))) (eW 10)))
theorem put_ok (full:Rows) (last:List Nat) (s:Nat) (hl:last.length < 100) (x0 x1 x2 x3 x4 x5 x6 x7 x9:Option Z.L):bPut [x0,x1,x2,x3,x4,x5,x6,x7,ow ((full++[last]).map .str),x9,vs [s]]=.ok (.nx [x0,x1,x2,x3,x4,x5,x6,x7,ow ((full++[last++[s]]).map .str),x9,vs [s]]):=by
 have e1:=ix_last full last
 obtain ⟨e2,e3⟩:=put_last full last (last++[s])
 have e4:oAdd (.str last) (.str [s])=.ok (.str (last++[s])):=by rw [oAdd_str',guard_pos];simp [line];lia
 simp only [bPut,sPut,eB_a,eU_a,eC_a,eW_a,asW_val,asW_own,oNeg_int,Res.bind,List.getElem?_cons_succ,List.getElem?_cons_zero,e1,e4,e2,e3,List.set_cons_succ,List.set_cons_zero]
theorem eb:b_law_hall=(sSeq (sSet 4 (eB oAdd (eC (.int 1)) (eB oMod (eW 1) (eW 2)))) (sSeq (sSet 5 (eB oAdd (eC (.int 1)) (eB oMod (eB oDiv (eW 1) (eC (.int 8))) (eW 3)))) (sSeq (sSet 6 (eL (lCat (eL (lCat (eL (lDisp (aCons (eC (.str [46])) (aCons (eC (.str [46])) (aCons (eC (.str [61])) (aCons (eC (.str [46])) aNil)))))) (eCall fn_law_letters (aCons (eV 1) aNil)))) (eL (lDisp (aCons (eC (.str [35])) (aCons (eC (.str [46])) aNil))))))) (sSeq (sSet 7 (eCall fn_law_cell_at (aCons (eV 0) (aCons (eC (.int 0)) aNil)))) (sSeq (sOwn 8 (lDisp aNil)) (sSeq (sFor (iRng1 (eB oMul (eW 4) (eW 5))) (gName 9) (sSeq bApp (sSeq bCell (sSeq bMode bPut)))) (sRet (eU oTuple (eW 8))))))))):=rfl
theorem hall {xs:List D} (hx:Ints xs) (h:Int):∃ (R L:Nat) (rows:Rows),Hall R L rows∧fn_law_hall [.lst xs,.int h,.int 6,.int 12]=.ok (.tup (rows.map .str)):=by
 obtain ⟨R,hR⟩:∃ R:Nat,1+h % 6=R:=⟨(1+h % 6).toNat,by lia⟩
 obtain ⟨L,hL⟩:∃ L:Nat,1+h / 8 % 12=L:=⟨(1+h / 8 % 12).toNat,by lia⟩
 have r1:1≤R:=by lia
 have r2:R≤6:=by lia
 have l1:1≤L:=by lia
 have l2:L≤12:=by lia
 have rl:R*L≤72:=Nat.mul_le_mul r2 l2
 have f1:mulFits (R:Int) (L:Int):=mulFits_l (by lia) (by lia)
 have eR:((R:Int)*(L:Int)).toNat=R*L:=by rw [←Int.natCast_mul,Int.toNat_natCast]
 obtain ⟨c0,e0⟩:=cell_at hx (k:=0) (by decide)
 obtain ⟨a,b,ha,hb,el⟩:=letters_ok h
 have hsg:Sg [.str [46],.str [46],.str [61],.str [46],.str [a],.str [b],.str [35],.str [46]]:=by
  refine ⟨rfl,fun d hd=>?_⟩
  have k46:46∈signs:=by decide
  have k61:61∈signs:=by decide
  have k35:35∈signs:=by decide
  simp only [List.mem_cons,List.not_mem_nil,or_false] at hd
  rcases hd with rfl | rfl | rfl | rfl | rfl | rfl | rfl | rfl
  ·exact ⟨_,k46,rfl⟩
  ·exact ⟨_,k46,rfl⟩
  ·exact ⟨_,k61,rfl⟩
  ·exact ⟨_,k46,rfl⟩
  ·exact ⟨_,letters_sign ha,rfl⟩
  ·exact ⟨_,letters_sign hb,rfl⟩
  ·exact ⟨_,k35,rfl⟩
  ·exact ⟨_,k46,rfl⟩
 have:Ok (retK (b_law_hall [v (.lst xs),v (.int h),v (.int 6),v (.int 12),none,none,none,none,none,none,none])) fun d=>∃ rows,Hall R L rows∧d=.tup (rows.map .str):=by
  refine ret_Ok ?_
  rw [eb]
  simp [divFits_of,hR,hL,lCat_k,el,line,e0,f1,eR]
  refine for_at (fun i ρ=>∃ rows c o9 o10,Shape L i rows∧(∀ x∈rows,∀ c∈x,c∈signs)∧ρ=[v (.lst xs),vi h,vi 6,vi 12,vi R,vi L,v (.lst [.str [46],.str [46],.str [61],.str [46],.str [a],.str [b],.str [35],.str [46]]),vi c,ow (rows.map .str),o9,o10]) ⟨[],c0,none,none,.inl ⟨rfl,rfl⟩,by simp,rfl⟩ ?_ ?_
  ·rintro j d ρ hd ⟨rows,c,o9,o10,hsh,hsn,rfl⟩
   obtain ⟨hj,rfl⟩:=ints_at hd
   obtain ⟨full,last,ef,hl,hn,hsn2⟩:=hsh.step l1
   have hr:rows.length < 16777216:=by have:=hsh.len l1;lia
   obtain ⟨s,hs,es⟩:=cell_ok hx hsg j (by lia) (vi h) (vi 6) (vi 12) (vi R) (vi L) (vi c) (ow ((fresh L j rows).map .str)) o10
   obtain ⟨c',s',hs',em⟩:=mode_ok h c s hs (v (.lst xs)) (vi 6) (vi 12) (vi R) (vi L) (v (.lst [.str [46],.str [46],.str [61],.str [46],.str [a],.str [b],.str [35],.str [46]])) (ow ((fresh L j rows).map .str)) (vi j)
   have q1:=app_ok (v (.lst xs)) (vi h) (vi 6) (vi 12) (vi R) (v (.lst [.str [46],.str [46],.str [61],.str [46],.str [a],.str [b],.str [35],.str [46]])) (vi c) o10 L j l1 rows hr
   have q2:=put_ok full last s' (by lia) (v (.lst xs)) (vi h) (vi 6) (vi 12) (vi R) (vi L) (v (.lst [.str [46],.str [46],.str [61],.str [46],.str [a],.str [b],.str [35],.str [46]])) (vi c') (vi j)
   rw [←ef] at q2
   refine ⟨_,rfl,?_⟩
   simp only [List.set_cons_succ,List.set_cons_zero]
   rw [sSeq_a,q1,Res.bind,seqK_nx,sSeq_a,es,Res.bind,seqK_nx,sSeq_a,em,Res.bind,seqK_nx,q2]
   refine ⟨_,rfl,full++[last++[s']],c',_,_,hn s',?_,rfl⟩
   obtain ⟨g1,g2⟩:=hsn2 hsn
   intro x hx c hc
   rcases List.mem_append.mp hx with hx | hx
   ·exact g1 x hx c hc
   ·rw [List.mem_singleton] at hx
    subst hx
    rcases List.mem_append.mp hc with hc | hc
    ·exact g2 c hc
    ·rw [List.mem_singleton] at hc;subst hc;exact hs'
  ·rintro ρ ⟨rows,c,o9,o10,hsh,hsn,rfl⟩
   rw [ints_len] at hsh
   obtain ⟨q1,q2⟩:=hsh.end l1 r1
   simp
   exact ⟨rows,⟨r1,r2,l1,l2,q1,q2,hsn⟩,rfl⟩
 rw [←fe_law_hall] at this
 obtain ⟨d,e,rows,H,rfl⟩:=this
 exact ⟨R,L,rows,H,e⟩
theorem is_letter_one (c:Nat):fn_is_letter [.str [c]]=.ok (.bl (decide (97≤c)&&decide (c≤122))):=by
 rw [fe_is_letter]
 refine ret_ok ?_
 by_cases h1:c < 97
 ·simp [b_is_letter,ltC,line,h1,Nat.not_le.mpr h1]
 ·by_cases h2:122 < c
  ·simp [b_is_letter,ltC,line,h1,h2,Nat.not_le.mpr h2,Nat.not_lt.mp h1]
  ·simp [b_is_letter,ltC,line,h1,h2,Nat.not_lt.mp h1,Nat.not_lt.mp h2]
theorem mem_signs (c:Nat):decide (c∈signs)=(c==46 || c==61 || c==35 || (decide (97≤c)&&decide (c≤122))):=by
 by_cases h:c < 128
 ·exact (by decide:∀ c < 128,decide (c∈signs)=(c==46 || c==61 || c==35 || (decide (97≤c)&&decide (c≤122)))) c h
 ·have h1:c∉signs:=fun m=>h ((by decide:∀ c∈signs,c < 128) c m)
  have h2:¬ c≤122:=by lia
  have h3:c≠46:=by lia
  have h4:c≠61:=by lia
  have h5:c≠35:=by lia
  simp [h1,h2,h3,h4,h5]
theorem is_sign_one (c : Nat) : fn_is_sign [.str [c]] = .ok (.bl (decide (c ∈ signs))) := by
 rw [fe_is_sign,mem_signs]
 refine ret_ok ?_
 have e:=is_letter_one c
 by_cases h1:c=46
 ·subst h1;simp [b_is_sign,line,oIn,anyEq,eqD,eqDn,eqS]
 ·by_cases h2:c=61
  ·subst h2;simp [b_is_sign,line,oIn,anyEq,eqD,eqDn,eqS]
  ·by_cases h3:c=35
   ·subst h3;simp [b_is_sign,line,oIn,anyEq,eqD,eqDn,eqS]
   ·simp [b_is_sign,line,oIn,anyEq,eqD,eqDn,eqS,e,h1,h2,h3]
    lia
theorem all_map {α:Type} (f:α→Bool) (xs:List α):allB (xs.map fun x=>D.bl (f x))=some (xs.all f):=by
 have:=allB_bl (xs.map f)
 rw [List.map_map] at this
 rw [show (xs.map fun x=>D.bl (f x))=xs.map (D.bl∘f) from rfl,this]
 congr 1
 induction xs with
 | nil=>rfl
 | cons x xs ih=>simp
def rowC (cs:List Nat):Bool:=decide (1≤cs.length∧cs.length≤12)&&cs.all fun c=>decide (c∈signs)
theorem row_comp (cs:List Nat):Ok (compGo (gName 0) tTrue (eCall fn_is_sign (aCons (eV 0) aNil)) [none] (cs.map fun c=>.str [c])) fun ds=>ds=cs.map fun c=>D.bl (decide (c∈signs)) :=
 comp_enc (fun c=>D.str [c]) (fun _=>true) (fun c=>.bl (decide (c∈signs))) (xs:=cs) (Q:=fun ds=>ds=cs.map fun c=>D.bl (decide (c∈signs))) (fun c _=>by simp [is_sign_one]) (by rw [List.filter_eq_self.mpr (fun _ _=>rfl)])
theorem is_row_str (cs:List Nat) (h:cs.length≤1000):fn_is_row [.str cs]=.ok (.bl (rowC cs)):=by
 have hl:cs.length≤16777216:=by lia
 rw [fe_is_row]
 refine ret_ok ?_
 unfold rowC
 by_cases h1:1≤cs.length
 ·by_cases h2:cs.length≤12
  ·have e1:(1:Int)≤(cs.length:Int):=by lia
   have e2:(cs.length:Int)≤12:=by lia
   simp [b_is_row,isTy,hl,h1,h2,e1,e2,line,lComp_a,capt]
   refine (row_comp cs).imp ?_
   rintro ds rfl
   simp [oAll,all_map]
  ·have e2:¬ (cs.length:Int)≤12:=by lia
   simp [b_is_row,isTy,hl,h1,h2,e2,line]
 ·have e1:¬ (1:Int)≤(cs.length:Int):=by lia
  simp [b_is_row,isTy,hl,h1,e1,line]
def rowB:D→Bool
 | .str cs=>rowC cs
 | _=>false
def Fit (d:D):Prop:=∀ cs,d=.str cs→cs.length≤1000
theorem is_row_ok (d:D) (h:Fit d):fn_is_row [d]=.ok (.bl (rowB d)):=by
 cases d with
 | str cs=>exact is_row_str cs (h cs rfl)
 | non=>rw [fe_is_row];exact ret_ok (by simp [b_is_row,isTy,rowB])
 | bl _=>rw [fe_is_row];exact ret_ok (by simp [b_is_row,isTy,rowB])
 | int _=>rw [fe_is_row];exact ret_ok (by simp [b_is_row,isTy,rowB])
 | tup _=>rw [fe_is_row];exact ret_ok (by simp [b_is_row,isTy,rowB])
 | lst _=>rw [fe_is_row];exact ret_ok (by simp [b_is_row,isTy,rowB])
 | dct _ _=>rw [fe_is_row];exact ret_ok (by simp [b_is_row,isTy,rowB])
def lenD:D→Nat
 | .str cs=>cs.length
 | _=>0
def hallT (xs:List D):Bool:=decide (1≤xs.length∧xs.length≤6)&&xs.all rowB&&xs.all fun d=>lenD d==lenD (xs.headD .non)
def hallB:D→Bool
 | .tup xs=>hallT xs
 | _=>false
theorem hall_comp1 (xs:List D) (h:∀ d∈xs,Fit d):Ok (compGo (gName 0) tTrue (eCall fn_is_row (aCons (eV 0) aNil)) [none] xs) fun ds=>ds=xs.map fun d=>D.bl (rowB d) :=
 comp_map (fun d=>.bl (rowB d)) (fun d hd=>by simp [is_row_ok d (h d hd)]) rfl
theorem len_row {d:D} (h:rowB d=true):oLen d=.ok (.int (lenD d)):=by
 cases d with
 | str cs =>
  have:cs.length≤16777216:=by
   simp only [rowB,rowC,Bool.and_eq_true,decide_eq_true_eq] at h
   lia
  simp [lenD,line,this,guard_pos]
 | _=>cases h
theorem hall_comp2 {xs:List D} (h:∀ d∈xs,rowB d=true):Ok (compGo (gName 0) tTrue (eB oEq (eU oLen (eW 0)) (eU oLen (eB oIx (eW 1) (eC (.int 0))))) [none,v (.tup xs)] xs) fun ds=>ds=xs.map fun d=>D.bl (lenD d==lenD (xs.headD .non)) :=
 comp_map (fun d=>.bl (lenD d==lenD (xs.headD .non))) (fun d hd=>by
  cases xs with
  | nil=>cases hd
  | cons x xs =>
   have e0:oIx (.tup (x :: xs)) (.int 0)=.ok x:=(ix_at (j:=0) rfl rfl).1
   have e1:=len_row (h d hd)
   have e2:=len_row (h x List.mem_cons_self)
   simp [e0,e1,e2]
   exact Bool.eq_iff_iff.mpr (by simp;lia)) rfl
theorem is_hall_ok (d : D) (h : ∀ xs, d = .tup xs → xs.length ≤ 1000 ∧ ∀ x ∈ xs, Fit x) : fn_is_hall [d] = .ok (.bl (hallB d)) := by
 cases d with
 | tup xs =>
  obtain ⟨h1,h2⟩:=h xs rfl
  have hl:xs.length≤16777216:=by lia
  rw [fe_is_hall]
  refine ret_ok ?_
  show Ok _ _
  simp only [hallB,hallT]
  by_cases q1:1≤xs.length
  ·by_cases q2:xs.length≤6
   ·have e1:(1:Int)≤(xs.length:Int):=by lia
    have e2:(xs.length:Int)≤6:=by lia
    have c1:=hall_comp1 xs h2
    cases q3:xs.all rowB with
    | false =>
     simp [b_is_hall,isTy,hl,q1,q2,e1,e2,line,lComp_a,capt]
     refine c1.imp ?_
     rintro ds rfl
     simp [oAll,all_map,q3]
    | true =>
     have q4:=List.all_eq_true.mp q3
     have c2:=hall_comp2 q4
     simp [b_is_hall,isTy,hl,q1,q2,e1,e2,line,lComp_a,capt]
     refine c1.imp ?_
     rintro ds rfl
     simp [oAll,all_map,q3]
     refine c2.imp ?_
     rintro ds rfl
     simp [oAll,all_map]
   ·have e2:¬ (xs.length:Int)≤6:=by lia
    simp [b_is_hall,isTy,hl,q1,q2,e2,line]
  ·have e1:¬ (1:Int)≤(xs.length:Int):=by lia
   simp [b_is_hall,isTy,hl,q1,e1,line]
 | str _=>rw [fe_is_hall];exact ret_ok (by simp [b_is_hall,isTy,hallB])
 | non=>rw [fe_is_hall];exact ret_ok (by simp [b_is_hall,isTy,hallB])
 | bl _=>rw [fe_is_hall];exact ret_ok (by simp [b_is_hall,isTy,hallB])
 | int _=>rw [fe_is_hall];exact ret_ok (by simp [b_is_hall,isTy,hallB])
 | lst _=>rw [fe_is_hall];exact ret_ok (by simp [b_is_hall,isTy,hallB])
 | dct _ _=>rw [fe_is_hall];exact ret_ok (by simp [b_is_hall,isTy,hallB])
theorem Hall.b {R L:Nat} {rows:Rows} (H:Hall R L rows):hallT (rows.map .str)=true:=by
 unfold hallT
 have h1:=H.r1
 have h2:=H.r2
 have h3:=H.l1
 have h4:=H.l2
 simp only [Bool.and_eq_true,decide_eq_true_eq,List.length_map,H.len,List.all_eq_true]
 refine ⟨⟨⟨h1,h2⟩,fun d hd=>?_⟩,fun d hd=>?_⟩
 ·obtain ⟨r,hr,rfl⟩:=List.mem_map.mp hd
  simp only [rowB,rowC,Bool.and_eq_true,decide_eq_true_eq,List.all_eq_true,H.each r hr]
  exact ⟨⟨h3,h4⟩,H.sg r hr⟩
 ·obtain ⟨r,hr,rfl⟩:=List.mem_map.mp hd
  cases rows with
  | nil=>cases hr
  | cons x xs=>simp [lenD,H.each r hr,H.each x List.mem_cons_self]
end KA
set_option maxRecDepth 4000
noncomputable section
namespace KS
open Z KA
def b_is_name:SF:=(sSeq (sIf (tOr (tNot (tE (eU (oIsTy .str) (eW 0)))) (tNot (tE (eChain oLe oLe (eC (.int 1)) (eU oLen (eW 0)) (eC (.int 8)))))) (sRet (eC (.bl false))) sNext) (sRet (eU oAll (eL (lComp (iSeq (eW 0)) 1 [] (gName 0) tTrue (eCall KA.fn_is_letter (aCons (eV 0) aNil)))))))
def fn_is_name:List D→Res D:=fn 1 1 b_is_name
theorem fe_is_name (x0:D):fn_is_name [x0]=retK (b_is_name [some (.val x0)]):=fn_a _ _ _ _ rfl
def b_show_group:SF:=(sSeq (sOwn 1 (lDisp (aCons (eB oIx (eW 0) (eC (.int 0))) (aCons (eB oAdd (eB oAdd (eU oStr (eB oIx (eW 0) (eC (.int 1)))) (eC (.str [120]))) (eU oStr (eB oIx (eW 0) (eC (.int 2))))) aNil)))) (sSeq (sIf (tE (eB oNe (eB oIx (eW 0) (eC (.int 3))) (eC (.str [])))) (sExt 1 (lDisp (aCons (eC (.str [107,105,110,100])) (aCons (eB oIx (eW 0) (eC (.int 3))) aNil)))) sNext) (sSeq (sFor (iSeq (eTup (aCons (eTup (aCons (eC (.str [119,105,100,101])) (aCons (eC (.int 4)) aNil))) (aCons (eTup (aCons (eC (.str [103,97,112])) (aCons (eC (.int 5)) aNil))) (aCons (eTup (aCons (eC (.str [119,111,114,116,104])) (aCons (eC (.int 6)) aNil))) aNil))))) (gTup [2,3]) (sIf (tE (eB oGt (eB oIx (eW 0) (eW 3)) (eC (.int 0)))) (sExt 1 (lDisp (aCons (eV 2) (aCons (eU oStr (eB oIx (eW 0) (eW 3))) aNil)))) sNext)) (sSeq (sFor (iSeq (eB oIx (eW 0) (eC (.int 7)))) (gName 4) (sExt 1 (lDisp (aCons (eC (.str [114,111,119])) (aCons (eU oStr (eB oIx (eW 4) (eC (.int 0)))) (aCons (eU oStr (eB oIx (eW 4) (eC (.int 1)))) aNil)))))) (sRet (eB oJoin (eC (.str [32])) (eW 1)))))))
end KS
end
set_option maxRecDepth 8000
namespace KS
open Z KA
structure Gp where
 nm:List Nat
 w:Nat
 d:Nat
 kd:List Nat
 wi:Nat
 ga:Nat
 wo:Nat
 ws:List (Nat×Nat)
def encW (p:Nat×Nat):D:=.tup [.int p.1,.int p.2]
def encS (g:Gp):D:=.tup [.str g.nm,.int g.w,.int g.d,.str g.kd,.int g.wi,.int g.ga,.int g.wo,.tup (g.ws.map encW)]
structure GpOk (g:Gp):Prop where
 n1:1≤g.nm.length
 n2:g.nm.length≤8
 nl:∀ c∈g.nm,c∈letters
 w1:1≤g.w
 w2:g.w≤12
 d1:1≤g.d
 d2:g.d≤3
 kd:g.kd=[]∨∃ c∈letters,g.kd=[c]
 wi:g.wi≤g.w*g.d
 ga:g.ga≤6
 wo:g.wo < 10 ^ 60
 wl:g.ws.length≤6
 wr:∀ p∈g.ws,p.1≤5∧1≤p.2∧p.2 < 10 ^ 60
 up:(g.ws.map (·.1)).Pairwise (· < ·)
section
variable {g:Gp}
noncomputable def bShow:SF:=(sIf (tE (eB oGt (eB oIx (eW 0) (eW 3)) (eC (.int 0)))) (sExt 1 (lDisp (aCons (eV 2) (aCons (eU oStr (eB oIx (eW 0) (eW 3))) aNil)))) sNext)
theorem seq_ok {a b:SF} {ρ ρ1:Env} {Q:Fl→Prop} (h:Ok (a ρ) fun fl=>fl=.nx ρ1) (k:Ok (b ρ1) Q):Ok (sSeq a b ρ) Q:=by
 obtain ⟨fl,e,rfl⟩:=h
 rw [sSeq_a,e,Res.ok_bind]
 exact k
noncomputable def bs1:SF:=sOwn 1 (lDisp (aCons (eB oIx (eW 0) (eC (.int 0))) (aCons (eB oAdd (eB oAdd (eU oStr (eB oIx (eW 0) (eC (.int 1)))) (eC (.str [120]))) (eU oStr (eB oIx (eW 0) (eC (.int 2))))) aNil)))
noncomputable def bs2:SF:=sIf (tE (eB oNe (eB oIx (eW 0) (eC (.int 3))) (eC (.str [])))) (sExt 1 (lDisp (aCons (eC (.str [107,105,110,100])) (aCons (eB oIx (eW 0) (eC (.int 3))) aNil)))) sNext
noncomputable def bs3:SF:=sFor (iSeq (eTup (aCons (eTup (aCons (eC (.str [119,105,100,101])) (aCons (eC (.int 4)) aNil))) (aCons (eTup (aCons (eC (.str [103,97,112])) (aCons (eC (.int 5)) aNil))) (aCons (eTup (aCons (eC (.str [119,111,114,116,104])) (aCons (eC (.int 6)) aNil))) aNil))))) (gTup [2,3]) bShow
noncomputable def bs4:SF:=sFor (iSeq (eB oIx (eW 0) (eC (.int 7)))) (gName 4) (sExt 1 (lDisp (aCons (eC (.str [114,111,119])) (aCons (eU oStr (eB oIx (eW 4) (eC (.int 0)))) (aCons (eU oStr (eB oIx (eW 4) (eC (.int 1)))) aNil)))))
theorem hbs:b_show_group=sSeq bs1 (sSeq bs2 (sSeq bs3 (sSeq bs4 (sRet (eB oJoin (eC (.str [32])) (eW 1)))))):=rfl
abbrev eg (g:Gp) (x9 x10 x11:Option L):Env:=[v (encS g),vs g.nm,vi g.w,vi g.d,vs g.kd,vi g.wi,vi g.ga,vi g.wo,v (.tup (g.ws.map encW)),x9,x10,x11]
end
end KS
namespace KS
open Z KA
theorem let_mem (c:Nat):decide (c∈letters)=(decide (97≤c)&&decide (c≤122)):=by
 by_cases h:c < 128
 ·exact (by decide:∀ c < 128,decide (c∈letters)=(decide (97≤c)&&decide (c≤122))) c h
 ·have h1:c∉letters:=fun m=>h ((by decide:∀ c∈letters,c < 128) c m)
  have h2:¬ c≤122:=by lia
  simp [h1,h2]
theorem letter_one (c:Nat):fn_is_letter [.str [c]]=.ok (.bl (decide (c∈letters))):=by rw [is_letter_one,let_mem]
theorem name_comp (cs:List Nat):Ok (compGo (gName 0) tTrue (eCall KA.fn_is_letter (aCons (eV 0) aNil)) [none] (cs.map fun c=>.str [c])) fun ds=>ds=cs.map fun c=>D.bl (decide (c∈letters)) :=
 comp_enc (fun c=>D.str [c]) (fun _=>true) (fun c=>.bl (decide (c∈letters))) (xs:=cs) (Q:=fun ds=>ds=cs.map fun c=>D.bl (decide (c∈letters))) (fun c _=>by simp [letter_one]) (by rw [List.filter_eq_self.mpr (fun _ _=>rfl)])
def nameB (cs:List Nat):Bool:=decide (1≤cs.length∧cs.length≤8)&&cs.all fun c=>decide (c∈letters)
theorem name_ok (cs:List Nat) (h:cs.length≤16777216):fn_is_name [.str cs]=.ok (.bl (nameB cs)):=by
 rw [fe_is_name]
 refine ret_ok ?_
 unfold nameB
 by_cases h1:1≤cs.length
 ·by_cases h2:cs.length≤8
  ·have e1:(1:Int)≤(cs.length:Int):=by lia
   have e2:(cs.length:Int)≤8:=by lia
   simp [b_is_name,isTy,h,h1,h2,e1,e2,line,lComp_a,capt]
   refine (name_comp cs).imp ?_
   rintro ds rfl
   simp [oAll,all_map]
  ·have e2:¬ (cs.length:Int)≤8:=by lia
   simp [b_is_name,isTy,h,h1,h2,e2,line]
 ·have e1:¬ (1:Int)≤(cs.length:Int):=by lia
  simp [b_is_name,isTy,h,h1,e1,line]
section
variable {g:Gp}
end
end KS
set_option maxRecDepth 4000
noncomputable section
namespace K80
open Z KA KS
def t_1:List Nat:=[97,32,100,101,115,107,32,105,115,32,109,97,100,101,32,102,111,114,32,97,32,104,97,108,108,32,97,108,111,110,101]
def t_2:List Nat:=[110,111,98,111,100,121,32,111,102,32,116,104,105,115,32,110,97,109,101,32,105,115,32,97,116,32,104,97,110,100]
def t_3:List Nat:=[110,105,110,101,115,105,103,110,115]
def b_worth_in:SF:=(sRet (eB oAdd (eB oIx (eW 0) (eC (.int 6))) (eU oSum (eL (lComp (iSeq (eB oIx (eW 0) (eC (.int 7)))) 1 [1] (gName 0) (tE (eB oEq (eB oIx (eW 0) (eC (.int 0))) (eW 1))) (eB oIx (eW 0) (eC (.int 1))))))))
def fn_worth_in:List D→Res D:=fn 2 2 b_worth_in
def b_those_that_sit:SF:=(sRet (eL (lComp (iZip (eV 0) (eV 1)) 2 [] (gTup [0,1]) (tE (eU oNotN (eW 1))) (eTup (aCons (eV 0) (aCons (eV 1) aNil))))))
def fn_those_that_sit:List D→Res D:=fn 2 2 b_those_that_sit
theorem fe_those_that_sit (x0 x1:D):fn_those_that_sit [x0,x1]=retK (b_those_that_sit [some (.val x0),some (.val x1)]):=fn_a _ _ _ _ rfl
def b_worth_of:SF:=(sRet (eU oSum (eL (lComp (iSeq (eCall fn_those_that_sit (aCons (eV 0) (aCons (eV 1) aNil)))) 2 [] (gTup [0,1]) tTrue (eCall fn_worth_in (aCons (eV 0) (aCons (eB oIx (eW 1) (eC (.int 0))) aNil)))))))
def fn_worth_of:List D→Res D:=fn 2 2 b_worth_of
theorem fe_worth_of (x0 x1:D):fn_worth_of [x0,x1]=retK (b_worth_of [some (.val x0),some (.val x1)]):=fn_a _ _ _ _ rfl
def b_show_place:SF:=(sRet (eB oAdd (eB oAdd (eU oStr (eB oIx (eW 0) (eC (.int 0)))) (eC (.str [32]))) (eU oStr (eB oIx (eW 0) (eC (.int 1))))))
def fn_show_place:List D→Res D:=fn 1 1 b_show_place
def b_Desk_init:SM:=(mSeq (mLift [0] (sIf (tNot (tE (eCall KA.fn_is_hall (aCons (eV 1) aNil)))) sBad sNext)) (mSeq (mFld 0 [104,97,108,108] (eV 1)) (mSeq (mFld 0 [103,117,101,115,116,115] (eTup aNil)) (mSeq (mFld 0 [104,101,108,100] (eTup aNil)) (mFld 0 [112,108,97,99,101,115] (eTup aNil))))))
def fn_Desk_init:List D→Res (D×List D):=fnM [0] [true,false] 2 b_Desk_init
def b_Desk_number_of:SF:=(sSeq (sIf (tE (eCall KS.fn_is_name (aCons (eV 1) aNil))) (sFor (iEnum (eU (oFld [103,117,101,115,116,115]) (eM 0 0))) (gTup [2,3]) (sIf (tE (eB oEq (eB oIx (eW 3) (eC (.int 0))) (eW 1))) (sRet (eV 2)) sNext)) sNext) sBad)
def fn_Desk_number_of:List D→Res D:=fnB [true,false] 4 b_Desk_number_of
def b_Desk_fast:SF:=(sSeq (sSet 2 (eCall fn_Desk_number_of (aCons (eM 0 0) (aCons (eV 1) aNil)))) sBad)
def fn_Desk_fast:List D→Res D:=fnB [true,false] 3 b_Desk_fast
def b_Desk_away:SF:=(sSeq (sSet 2 (eCall fn_Desk_number_of (aCons (eM 0 0) (aCons (eV 1) aNil)))) (sSeq sBad (sSeq sBad sBad)))
def fn_Desk_away:List D→Res D:=fnB [true,false] 3 b_Desk_away
def b_Desk_where:SF:=(sRet (eB oIx (eU (oFld [112,108,97,99,101,115]) (eM 0 0)) (eCall fn_Desk_number_of (aCons (eM 0 0) (aCons (eV 1) aNil)))))
def fn_Desk_where:List D→Res D:=fnB [true,false] 2 b_Desk_where
def b_Desk_at_hand:SF:=(sRet (eU (oFld [103,117,101,115,116,115]) (eM 0 0)))
def fn_Desk_at_hand:List D→Res D:=fnB [true] 1 b_Desk_at_hand
theorem fe_Desk_at_hand (k0:List (Sum Int (List Nat))) (v0:List D):fn_Desk_at_hand [.dct k0 v0]=retK (b_Desk_at_hand [some (.bor (.dct k0 v0))]):=fnB_a _ _ _ _ rfl
def b_Desk_seating:SF:=(sRet (eU (oFld [112,108,97,99,101,115]) (eM 0 0)))
def fn_Desk_seating:List D→Res D:=fnB [true] 1 b_Desk_seating
theorem fe_Desk_seating (k0:List (Sum Int (List Nat))) (v0:List D):fn_Desk_seating [.dct k0 v0]=retK (b_Desk_seating [some (.bor (.dct k0 v0))]):=fnB_a _ _ _ _ rfl
def b_Desk_worth:SF:=(sRet (eCall fn_worth_of (aCons (eU (oFld [103,117,101,115,116,115]) (eM 0 0)) (aCons (eU (oFld [112,108,97,99,101,115]) (eM 0 0)) aNil))))
def fn_Desk_worth:List D→Res D:=fnB [true] 1 b_Desk_worth
theorem fe_Desk_worth (k0:List (Sum Int (List Nat))) (v0:List D):fn_Desk_worth [.dct k0 v0]=retK (b_Desk_worth [some (.bor (.dct k0 v0))]):=fnB_a _ _ _ _ rfl
def b_Desk_show_all:SF:=(sSeq (sIf (tE (eB oEq (eU (oFld [103,117,101,115,116,115]) (eM 0 0)) (eTup aNil))) (sRet (eC (.str [110,111,98,111,100,121]))) sNext) (sRet (eB oJoin (eC (.str [59,32])) (eL (lComp (iZip (eU (oFld [103,117,101,115,116,115]) (eM 0 0)) (eU (oFld [112,108,97,99,101,115]) (eM 0 0))) 2 [] (gTup [0,1]) tTrue (eB oAdd (eB oAdd (eB oIx (eW 0) (eC (.int 0))) (eC (.str [32]))) (eCall fn_show_place (aCons (eV 1) aNil))))))))
def fn_Desk_show_all:List D→Res D:=fnB [true] 1 b_Desk_show_all
theorem fe_Desk_show_all (k0:List (Sum Int (List Nat))) (v0:List D):fn_Desk_show_all [.dct k0 v0]=retK (b_Desk_show_all [some (.bor (.dct k0 v0))]):=fnB_a _ _ _ _ rfl
def b_Desk_say:SF:=(sSeq (sIf (tNot (tE (eU (oIsTy .str) (eW 1)))) sBad sNext) (sSeq (sIf (tE (eB oEq (eW 1) (eC (.str [97,108,108])))) (sRet (eCall fn_Desk_show_all (aCons (eM 0 0) aNil))) sNext) (sSeq (sIf (tE (eB oEq (eW 1) (eC (.str [119,111,114,116,104])))) (sRet (eU oStr (eCall fn_Desk_worth (aCons (eM 0 0) aNil)))) sNext) (sSeq (sSet 2 (eB oPart (eW 1) (eC (.str [32])))) (sSeq (sIf (tOr (tE (eB oNotIn (eB oIx (eW 2) (eC (.int 0))) eBad)) (tE (eB oEq (eB oIx (eW 2) (eC (.int 1))) (eC (.str []))))) sBad sNext) (sRet eBad))))))
def fn_Desk_say:List D→Res D:=fnB [true,false] 3 b_Desk_say
theorem fe_Desk_say (k0:List (Sum Int (List Nat))) (v0:List D) (x1:D):fn_Desk_say [.dct k0 v0,x1]=retK (b_Desk_say [some (.bor (.dct k0 v0)),some (.val x1),none]):=fnB_a _ _ _ _ rfl
def b_law_mixed:SF:=(sSeq (sSet 2 (eB oAdd (eC (.int 1)) (eB oMod (eW 0) (eC (.int 2147483646))))) (sSeq (sOwn 3 (lDisp aNil)) (sSeq (sFor (iRng1 (eV 1)) (gName 4) (sSeq (sSet 2 (eB oMod (eB oMul (eW 2) (eC (.int 16807))) (eC (.int 2147483647)))) (sAppend 3 (eV 2)))) (sFrz 3 (sRet (eV 3))))))
def fn_law_mixed:List D→Res D:=fn 2 5 b_law_mixed
theorem fe_law_mixed (x0 x1:D):fn_law_mixed [x0,x1]=retK (b_law_mixed [some (.val x0),some (.val x1),none,none,none]):=fn_a _ _ _ _ rfl
def b_law_names:SF:=(sSeq (sSet 2 (eC (.str letters))) (sSeq (sSet 3 (eB oAdd (eC (.int 1)) (eB oMod (eW 0) (eC (.int 8))))) (sSeq (sSet 4 (eB oMod (eB oDiv (eW 0) (eC (.int 8))) (eW 3))) (sSeq (sSet 5 (eB oIx (eL (lDisp (aCons (eC (.int 1)) (aCons (eC (.int 3)) (aCons (eC (.int 5)) (aCons (eC (.int 7)) (aCons (eC (.int 9)) (aCons (eC (.int 11)) aNil)))))))) (eB oMod (eB oDiv (eW 0) (eC (.int 64))) (eC (.int 6))))) (sSeq (sOwn 6 (lDisp aNil)) (sSeq (sFor (iRng1 (eV 1)) (gName 7) (sSeq (sSet 8 (eC (.str []))) (sSeq (sFor (iRng1 (eV 3)) (gName 9) (sSeq (sSet 10 (eB oMul (eB oMul (eW 5) (eW 7)) (eU oInt (eB oEq (eW 9) (eW 4))))) (sSet 8 (eB oAdd (eW 8) (eB oIx (eW 2) (eB oMod (eB oAdd (eB oDiv (eW 0) (eB oAdd (eC (.int 400)) (eB oMul (eB oMul (eC (.int 30)) (eW 9)) (eW 9)))) (eW 10)) (eC (.int 26)))))))) (sAppend 6 (eV 8))))) (sFrz 6 (sRet (eV 6)))))))))
def fn_law_names:List D→Res D:=fn 2 11 b_law_names
theorem fe_law_names (x0 x1:D):fn_law_names [x0,x1]=retK (b_law_names [some (.val x0),some (.val x1),none,none,none,none,none,none,none,none,none]):=fn_a _ _ _ _ rfl
def b_law_letters:SF:=(sSeq (sSet 1 (eC (.str letters))) (sRet (eB oAdd (eB oIx (eW 1) (eB oMod (eW 0) (eC (.int 26)))) (eB oIx (eW 1) (eB oMod (eB oAdd (eB oAdd (eW 0) (eC (.int 1))) (eB oMod (eB oDiv (eW 0) (eC (.int 26))) (eC (.int 25)))) (eC (.int 26)))))))
def fn_law_letters:List D→Res D:=fn 1 2 b_law_letters
theorem fe_law_letters (x0:D):fn_law_letters [x0]=retK (b_law_letters [some (.val x0),none]):=fn_a _ _ _ _ rfl
def b_law_hall:SF:=(sSeq (sSet 1 (eCall KA.fn_law_cell_at (aCons (eV 0) (aCons (eC (.int 0)) aNil)))) (sSeq (sSet 2 (eB oIx (eL (lDisp (aCons (eC (.int 1)) (aCons (eC (.int 2)) (aCons (eC (.int 1)) (aCons (eC (.int 2)) (aCons (eC (.int 3)) (aCons (eC (.int 2)) (aCons (eC (.int 1)) (aCons (eC (.int 2)) aNil)))))))))) (eB oMod (eW 1) (eC (.int 8))))) (sSeq (sSet 3 (eB oIx (eL (lDisp (aCons (eC (.int 3)) (aCons (eC (.int 4)) (aCons (eC (.int 5)) (aCons (eC (.int 2)) (aCons (eC (.int 1)) (aCons (eC (.int 4)) (aCons (eC (.int 6)) (aCons (eC (.int 3)) aNil)))))))))) (eB oMod (eB oDiv (eW 1) (eC (.int 8))) (eC (.int 8))))) (sSeq (sSet 4 (eB oAdd (eC (.str [46,46,46,46,46,61,35])) (eCall fn_law_letters (aCons (eB oDiv (eW 1) (eC (.int 64))) aNil)))) (sSeq (sOwn 5 (lDisp aNil)) (sSeq (sFor (iRng1 (eV 2)) (gName 6) (sSeq (sSet 7 (eCall fn_law_mixed (aCons (eB oAdd (eCall KA.fn_law_cell_at (aCons (eV 0) (aCons (eC (.int 1)) aNil))) (eB oMul (eC (.int 31)) (eW 6))) (aCons (eV 3) aNil)))) (sAppend 5 (eB oJoin (eC (.str [])) (eL (lComp (iSeq (eW 7)) 1 [4] (gName 0) tTrue (eB oIx (eW 1) (eB oMod (eB oDiv (eW 0) (eC (.int 3))) (eC (.int 9)))))))))) (sRet (eU oTuple (eW 5)))))))))
def fn_law_hall:List D→Res D:=fn 1 8 b_law_hall
theorem fe_law_hall (x0:D):fn_law_hall [x0]=retK (b_law_hall [some (.val x0),none,none,none,none,none,none,none]):=fn_a _ _ _ _ rfl
def b_law_no_hall:SF:=(sSeq (sSet 2 (eB oIx (eL (lDisp (aCons (eC (.str [65])) (aCons (eC (.str [32])) (aCons (eC (.str [])) (aCons (eC (.str [48])) (aCons (eC (.str [45])) (aCons (eC (.str [46,46])) (aCons (eC (.str [126])) (aCons (eC (.str [10])) aNil)))))))))) (eB oMod (eB oDiv (eW 1) (eC (.int 30))) (eC (.int 8))))) (sSeq (sSet 3 (eB oMod (eB oDiv (eW 1) (eC (.int 240))) (eU oLen (eW 0)))) (sSeq (sSet 4 (eB oIx (eW 0) (eW 3))) (sSeq (sOwn 5 (lDisp (aCons (eB oAdd (eB oAdd (eSl (eW 0) pNo (pAt (eW 3))) (eTup (aCons (eB oAdd (eW 4) (eW 2)) aNil))) (eSl (eW 0) (pAt (eB oAdd (eW 3) (eC (.int 1)))) pNo)) (aCons (eB oAdd (eB oAdd (eSl (eW 0) pNo (pAt (eW 3))) (eTup (aCons (eB oAdd (eW 2) (eW 4)) aNil))) (eSl (eW 0) (pAt (eB oAdd (eW 3) (eC (.int 1)))) pNo)) aNil)))) (sSeq (sOwn 5 (lCat (eW 5) (eL (lDisp (aCons (eL (lOf (eW 0))) (aCons (eB oJoinT (eC (.str [10])) (eW 0)) (aCons (eB oAdd (eW 0) (eTup (aCons (eB oAdd (eW 4) (eC (.str [46]))) aNil))) (aCons (eB oAdd (eW 0) (eTup (aCons (eC .non) aNil))) (aCons (eB oAdd (eW 0) (eTup (aCons (eTup aNil) aNil))) (aCons (eB oAdd (eW 0) (eTup (aCons (eL (lDisp (aCons (eC (.str [46])) aNil))) aNil))) aNil)))))))))) (sSeq (sOwn 5 (lCat (eW 5) (eL (lDisp (aCons (eTup aNil) (aCons (eB oRepT (eTup (aCons (eB oIx (eW 0) (eC (.int 0))) aNil)) (eC (.int 7))) (aCons (eTup (aCons (eB oRep (eC (.str [46])) (eC (.int 13))) aNil)) (aCons (eTup (aCons (eC (.str [])) aNil)) (aCons (eTup (aCons (eC (.str [])) (aCons (eC (.str [])) aNil))) (aCons (eC .non) (aCons (eC (.int 0)) (aCons (eC (.bl true)) (aCons (eC (.str [])) (aCons (eL (lDisp aNil)) (aCons (eC (.dct [] [])) (aCons (eTup (aCons (eV 0) aNil)) aNil)))))))))))))))) (sSeq (sIf (tOr (tE (eB oEq (eB oAdd (eW 4) (eW 2)) (eW 4))) (tAnd (tE (eB oEq (eU oLen (eW 0)) (eC (.int 1)))) (tE (eB oEq (eW 2) (eC (.str [46,46])))))) (sSeq (sPut 5 (eC (.int 0)) (eB oAdd (eW 0) (eTup (aCons (eC (.int 7)) aNil)))) (sPut 5 (eC (.int 1)) (eB oAdd (eW 0) (eTup (aCons (eC (.str [])) aNil))))) sNext) (sRet (eB oIx (eW 5) (eB oMod (eW 1) (eU oLen (eW 5))))))))))))
def fn_law_no_hall:List D→Res D:=fn 2 6 b_law_no_hall
theorem fe_law_no_hall (x0 x1:D):fn_law_no_hall [x0,x1]=retK (b_law_no_hall [some (.val x0),some (.val x1),none,none,none,none]):=fn_a _ _ _ _ rfl
def xb_Desk_init:XF:=(xSeq (sIf (tNot (tE (eCall KA.fn_is_hall (aCons (eV 1) aNil)))) sBad sNext) (xIf (tNot (tE (eCall KA.fn_is_hall (aCons (eV 1) aNil)))) (xRaise [78,111,72,97,108,108] (eC (.str t_1))) xNo) xNo)
def fx_Desk_init:List D→Option XN:=fxB [true,false] 2 xb_Desk_init
theorem fxe_Desk_init (k0:List (Sum Int (List Nat))) (v0:List D) (x1:D):fx_Desk_init [.dct k0 v0,x1]=xb_Desk_init [some (.bor (.dct k0 v0)),some (.val x1)]:=fxB_a _ _ _ _ rfl
def b_law_refused:SF:=(sSeq (sSet 1 (eC .non)) (sSeq (sTryS (sDrop eBad) (xMake fx_Desk_init (eV 0)) [[78,111,72,97,108,108]] 2 (sSeq (sSet 1 (eL (lDisp (aCons (eIsX 2 (isx [78,111,72,97,108,108] true)) (aCons (eIsX 2 (isx [78,111,72,97,108,108] true)) (aCons (eIsX 2 (isx [78,111,72,97,108,108] false)) (aCons (eIsX 2 (isx [78,111,72,97,108,108] false)) aNil))))))) (sSeq (sSet 1 (eL (lCat (eW 1) (eL (lDisp (aCons (eIsX 2 (isx [78,111,72,97,108,108] false)) (aCons (eIsX 2 (isx [78,111,72,97,108,108] false)) (aCons (eIsX 2 (isx [78,111,72,97,108,108] false)) aNil)))))))) (sSet 1 (eL (lCat (eW 1) (eL (lDisp (aCons (eIsX 2 (isx [78,111,72,97,108,108] false)) (aCons (eIsX 2 (isx [78,111,72,97,108,108] false)) (aCons (eIsX 2 (isx [78,111,72,97,108,108] false)) aNil))))))))))) (sRet (eB oEq (eW 1) (eL (lCat (eL (lDisp (aCons (eC (.bl true)) (aCons (eC (.bl true)) aNil)))) (eL (lRep (lDisp (aCons (eC (.bl false)) aNil)) (eC (.int 8))))))))))
def fn_law_refused:List D→Res D:=fn 1 3 b_law_refused
theorem fe_law_refused (x0:D):fn_law_refused [x0]=retK (b_law_refused [some (.val x0),none,none]):=fn_a _ _ _ _ rfl
def xb_Desk_number_of:XF:=(xSeq (sIf (tE (eCall KS.fn_is_name (aCons (eV 1) aNil))) (sFor (iEnum (eU (oFld [103,117,101,115,116,115]) (eM 0 0))) (gTup [2,3]) (sIf (tE (eB oEq (eB oIx (eW 3) (eC (.int 0))) (eW 1))) (sRet (eV 2)) sNext)) sNext) xNo (xRaise [78,111,78,97,109,101] (eC (.str t_2))))
def fx_Desk_number_of:List D→Option XN:=fxB [true,false] 4 xb_Desk_number_of
theorem fxe_Desk_number_of (k0:List (Sum Int (List Nat))) (v0:List D) (x1:D):fx_Desk_number_of [.dct k0 v0,x1]=xb_Desk_number_of [some (.bor (.dct k0 v0)),some (.val x1),none,none]:=fxB_a _ _ _ _ rfl
def xb_Desk_away:XF:=(xSeq (sSet 2 (eCall fn_Desk_number_of (aCons (eM 0 0) (aCons (eV 1) aNil)))) (xCall fx_Desk_number_of (aCons (eM 0 0) (aCons (eV 1) aNil))) xNo)
def fx_Desk_away:List D→Option XN:=fxB [true,false] 3 xb_Desk_away
theorem fxe_Desk_away (k0:List (Sum Int (List Nat))) (v0:List D) (x1:D):fx_Desk_away [.dct k0 v0,x1]=xb_Desk_away [some (.bor (.dct k0 v0)),some (.val x1),none]:=fxB_a _ _ _ _ rfl
def xb_Desk_fast:XF:=(xSeq (sSet 2 (eCall fn_Desk_number_of (aCons (eM 0 0) (aCons (eV 1) aNil)))) (xCall fx_Desk_number_of (aCons (eM 0 0) (aCons (eV 1) aNil))) xNo)
def fx_Desk_fast:List D→Option XN:=fxB [true,false] 3 xb_Desk_fast
theorem fxe_Desk_fast (k0:List (Sum Int (List Nat))) (v0:List D) (x1:D):fx_Desk_fast [.dct k0 v0,x1]=xb_Desk_fast [some (.bor (.dct k0 v0)),some (.val x1),none]:=fxB_a _ _ _ _ rfl
def xb_Desk_where:XF:=(xTl (eU (oFld [112,108,97,99,101,115]) (eM 0 0)) (xCall fx_Desk_number_of (aCons (eM 0 0) (aCons (eV 1) aNil))))
def fx_Desk_where:List D→Option XN:=fxB [true,false] 2 xb_Desk_where
theorem fxe_Desk_where (k0:List (Sum Int (List Nat))) (v0:List D) (x1:D):fx_Desk_where [.dct k0 v0,x1]=xb_Desk_where [some (.bor (.dct k0 v0)),some (.val x1)]:=fxB_a _ _ _ _ rfl
def b_law_no_name:SF:=(sSeq (sSet 3 (eC (.bl false))) (sSeq (sTry (sIf (tE (eB oEq (eW 1) (eC (.int 0)))) (sDrop (eCall fn_Desk_fast (aCons (eM 0 0) (aCons (eV 2) aNil)))) (sIf (tE (eB oEq (eW 1) (eC (.int 1)))) (sDrop (eCall fn_Desk_away (aCons (eM 0 0) (aCons (eV 2) aNil)))) (sDrop (eCall fn_Desk_where (aCons (eM 0 0) (aCons (eV 2) aNil)))))) (xIf (tE (eB oEq (eW 1) (eC (.int 0)))) (xCall fx_Desk_fast (aCons (eM 0 0) (aCons (eV 2) aNil))) (xIf (tE (eB oEq (eW 1) (eC (.int 1)))) (xCall fx_Desk_away (aCons (eM 0 0) (aCons (eV 2) aNil))) (xCall fx_Desk_where (aCons (eM 0 0) (aCons (eV 2) aNil))))) [78,111,78,97,109,101] 4 (sSet 3 (eAnd (eIsX 4 (isx [78,111,78,97,109,101] true)) (eAnd (eNot (eIsX 4 (isx [78,111,78,97,109,101] false))) (eNot (eIsX 4 (isx [78,111,78,97,109,101] false))))))) (sRet (eV 3))))
def fn_law_no_name:List D→Res D:=fnB [true,false,false] 5 b_law_no_name
theorem fe_law_no_name (k0:List (Sum Int (List Nat))) (v0:List D) (x1:D) (x2:D):fn_law_no_name [.dct k0 v0,x1,x2]=retK (b_law_no_name [some (.bor (.dct k0 v0)),some (.val x1),some (.val x2),none,none]):=fnB_a _ _ _ _ rfl
def b_law:SF:=(sSeq (sSet 1 (eCall fn_law_hall (aCons (eV 0) aNil))) (sSeq (sFor (iRng1 (eC (.int 4))) (gName 2) (sIf (tNot (tE (eCall fn_law_refused (aCons (eCall fn_law_no_hall (aCons (eV 1) (aCons (eB oAdd (eB oDiv (eCall KA.fn_law_cell_at (aCons (eV 0) (aCons (eC (.int 2)) aNil))) (eB oAdd (eW 2) (eC (.int 1)))) (eB oMul (eC (.int 7)) (eW 2))) aNil))) aNil)))) (sRet (eC (.bl false))) sNext)) (sMake 3 fn_Desk_init (eV 1) (sSeq (sIf (tOr (tE (eB oNe (eCall fn_Desk_at_hand (aCons (eM 0 3) aNil)) (eTup aNil))) (tOr (tE (eB oNe (eCall fn_Desk_seating (aCons (eM 0 3) aNil)) (eTup aNil))) (tOr (tE (eB oNe (eCall fn_Desk_worth (aCons (eM 0 3) aNil)) (eC (.int 0)))) (tE (eU (oIsTy .bool) (eCall fn_Desk_worth (aCons (eM 0 3) aNil))))))) (sRet (eC (.bl false))) sNext) (sSeq (sIf (tOr (tE (eB oNe (eCall fn_Desk_say (aCons (eM 0 3) (aCons (eC (.str [97,108,108])) aNil))) (eC (.str [110,111,98,111,100,121])))) (tE (eB oNe (eCall fn_Desk_say (aCons (eM 0 3) (aCons (eC (.str [119,111,114,116,104])) aNil))) (eC (.str [48]))))) (sRet (eC (.bl false))) sNext) (sSeq (sSet 4 (eB oIx (eCall fn_law_names (aCons (eCall KA.fn_law_cell_at (aCons (eV 0) (aCons (eC (.int 3)) aNil))) (aCons (eC (.int 1)) aNil))) (eC (.int 0)))) (sSeq (sOwn 5 (lDisp (aCons (eC (.str [])) (aCons (eC (.str [65])) (aCons (eC (.str [97,32,98])) (aCons (eC (.str t_3)) (aCons (eC .non) (aCons (eC (.int 5)) (aCons (eC (.bl true)) (aCons (eTup aNil) (aCons (eTup (aCons (eV 4) aNil)) (aCons (eL (lDisp aNil)) (aCons (eL (lDisp (aCons (eV 4) aNil))) (aCons (eC (.dct [] [])) aNil)))))))))))))) (sSeq (sAppend 5 (eTup (aCons (eV 4) (aCons (eC (.int 1)) (aCons (eC (.int 1)) (aCons (eC (.str [])) (aCons (eC (.int 0)) (aCons (eC (.int 0)) (aCons (eC (.int 0)) (aCons (eTup aNil) aNil)))))))))) (sSeq (sFor (iRng1 (eC (.int 3))) (gName 6) (sFor (iSeq (eL (lCat (eL (lDisp (aCons (eV 4) aNil))) (eW 5)))) (gName 7) (sIf (tNot (tE (eCall fn_law_no_name (aCons (eM 0 3) (aCons (eV 6) (aCons (eV 7) aNil)))))) (sRet (eC (.bl false))) sNext))) (sRet (eAnd (eB oEq (eCall fn_Desk_at_hand (aCons (eM 0 3) aNil)) (eTup aNil)) (eB oEq (eCall fn_Desk_say (aCons (eM 0 3) (aCons (eC (.str [97,108,108])) aNil))) (eC (.str [110,111,98,111,100,121]))))))))))))))
def fn_law:List D→Res D:=fn 1 8 b_law
theorem fe_law (x0:D):fn_law [x0]=retK (b_law [some (.val x0),none,none,none,none,none,none,none]):=fn_a _ _ _ _ rfl
end K80
end
set_option maxRecDepth 8000
namespace K80
open Z
abbrev NN (d:D):Prop:=∃ m:Int,0≤m∧d=.int m
theorem mixed_ok (c : Int) (n : Nat) (hn : n ≤ 100) : ∃ ds : List D, ds.length = n ∧ (∀ d ∈ ds, NN d) ∧ fn_law_mixed [.int c, .int n] = .ok (.lst ds) := by
 have f4:∀ x,mulFits x 16807:=fun x=>mulFits_r (by decide) (by decide)
 have:Ok (retK (b_law_mixed [v (.int c),v (.int n),none,none,none])) fun d=>∃ ds:List D,ds.length=n∧(∀ d∈ds,NN d)∧d=.lst ds:=by
  refine ret_Ok ?_
  simp [b_law_mixed,line]
  refine for_at (fun i ρ=>∃ m ds x,ds.length=i∧(∀ d∈ds,NN d)∧ρ=[vi c,vi n,vi m,ow ds,x]) ⟨_,[],none,rfl,by simp,rfl⟩ ?_ ?_
  ·rintro j d ρ hd ⟨m,ds,x,hl,hm,rfl⟩
   obtain ⟨hj,rfl⟩:=ints_at hd
   simp [f4,line]
   refine ⟨by lia,_,_,by simp [hl],fun d hd=>?_,rfl,rfl⟩
   rcases List.mem_append.mp hd with hd | hd
   ·exact hm d hd
   ·rw [List.mem_singleton] at hd;subst hd
    exact ⟨_,by lia,rfl⟩
  ·rintro ρ ⟨m,ds,x,hl,hm,rfl⟩
   rw [ints_len] at hl
   simp
   exact ⟨hl,hm⟩
 rw [←fe_law_mixed] at this
 obtain ⟨d,e,ds,h1,h2,rfl⟩:=this
 exact ⟨ds,h1,h2,e⟩
theorem letters_ok_K80 (c:Int):∃ a b,a∈letters∧b∈letters∧fn_law_letters [.int c]=.ok (.str [a,b]):=by
 obtain ⟨a,ha,ea⟩:=KA.letter_at c
 obtain ⟨b,hb,eb⟩:=KA.letter_at (c+1+c / 26 % 25)
 refine ⟨a,b,ha,hb,?_⟩
 rw [fe_law_letters]
 refine ret_ok ?_
 simp [b_law_letters,divFits_of,ea,eb,line]
def pick_K80 (sg:List Nat):D→Nat
 | .int m=>sg.getD (m / 3 % 9).toNat 0
 | _=>0
theorem pick_ok {sg:List Nat} (h9:sg.length=9) {d:D} (hd:NN d):∃ m:Int,d=.int m∧pick_K80 sg d∈sg∧oIx (.str sg) (.int (m / 3 % 9))=.ok (.str [pick_K80 sg d]):=by
 obtain ⟨m,h0,rfl⟩:=hd
 have hj:(m / 3 % 9).toNat < sg.length:=by lia
 refine ⟨m,rfl,?_,?_⟩
 ·show sg.getD _ 0∈sg
  rw [List.getD_eq_getElem?_getD,List.getElem?_eq_getElem hj]
  exact List.getElem_mem hj
 ·exact ix_strAt (j:=(m / 3 % 9).toNat) (by lia) (by show _=some (sg.getD _ 0);rw [List.getD_eq_getElem?_getD,List.getElem?_eq_getElem hj];rfl) (by rw [h9];decide)
theorem flat1 (qs:List Nat):(qs.map fun q=>[q]).flatten=qs:=by
 induction qs with
 | nil=>rfl
 | cons q qs ih=>simp [ih]
theorem hall_ok_K80 {xs:List D} (hx:KA.Ints xs):∃ (R L:Nat) (rows:KA.Rows),KA.Hall R L rows∧R≤3∧L≤6∧fn_law_hall [.lst xs]=.ok (.tup (rows.map .str)):=by
 obtain ⟨c0,e0⟩:=KA.cell_at hx (k:=0) (by decide)
 obtain ⟨c1,e1⟩:=KA.cell_at hx (k:=1) (by decide)
 obtain ⟨a,b,ha,hb,el⟩:=letters_ok_K80 (c0 / 64)
 obtain ⟨R,r1,r2,eR⟩:∃ R:Nat,1≤R∧R≤3∧oIx (.lst [.int 1,.int 2,.int 1,.int 2,.int 3,.int 2,.int 1,.int 2]) (.int (c0 % 8))=.ok (.int R):=by
  obtain ⟨d,hd,e,_⟩:=ix_some (xs:=[D.int 1,.int 2,.int 1,.int 2,.int 3,.int 2,.int 1,.int 2]) (i:=c0 % 8) (by lia) (by simp;lia)
  simp only [List.mem_cons,List.not_mem_nil,or_false] at hd
  rcases hd with rfl | rfl | rfl | rfl | rfl | rfl | rfl | rfl
  ·exact ⟨1,by decide,by decide,e⟩
  ·exact ⟨2,by decide,by decide,e⟩
  ·exact ⟨1,by decide,by decide,e⟩
  ·exact ⟨2,by decide,by decide,e⟩
  ·exact ⟨3,by decide,by decide,e⟩
  ·exact ⟨2,by decide,by decide,e⟩
  ·exact ⟨1,by decide,by decide,e⟩
  ·exact ⟨2,by decide,by decide,e⟩
 obtain ⟨L,l1,l2,eL⟩:∃ L:Nat,1≤L∧L≤6∧oIx (.lst [.int 3,.int 4,.int 5,.int 2,.int 1,.int 4,.int 6,.int 3]) (.int (c0 / 8 % 8))=.ok (.int L):=by
  obtain ⟨d,hd,e,_⟩:=ix_some (xs:=[D.int 3,.int 4,.int 5,.int 2,.int 1,.int 4,.int 6,.int 3]) (i:=c0 / 8 % 8) (by lia) (by simp;lia)
  simp only [List.mem_cons,List.not_mem_nil,or_false] at hd
  rcases hd with rfl | rfl | rfl | rfl | rfl | rfl | rfl | rfl
  ·exact ⟨3,by decide,by decide,e⟩
  ·exact ⟨4,by decide,by decide,e⟩
  ·exact ⟨5,by decide,by decide,e⟩
  ·exact ⟨2,by decide,by decide,e⟩
  ·exact ⟨1,by decide,by decide,e⟩
  ·exact ⟨4,by decide,by decide,e⟩
  ·exact ⟨6,by decide,by decide,e⟩
  ·exact ⟨3,by decide,by decide,e⟩
 have hsg:∀ q∈[46,46,46,46,46,61,35,a,b],q∈signs:=fun q hq=>by
  simp only [List.mem_cons,List.not_mem_nil,or_false] at hq
  rcases hq with rfl | rfl | rfl | rfl | rfl | rfl | rfl | rfl | rfl
  any_goals decide
  ·exact KA.letters_sign ha
  ·exact KA.letters_sign hb
 have f31:∀ x,mulFits 31 x:=fun x=>mulFits_l (by decide) (by decide)
 have : Ok (retK (b_law_hall [v (.lst xs), none, none, none, none, none, none, none])) fun d => ∃ rows, KA.Hall R L rows ∧ d = .tup (rows.map .str) := by
  refine ret_Ok ?_
  simp [b_law_hall,divFits_of,e0,eR,eL,el,line]
  refine for_at (fun i ρ=>∃ rows:KA.Rows,∃ x6 x7,rows.length=i∧(∀ x∈rows,x.length=L)∧(∀ x∈rows,∀ c∈x,c∈signs)∧ρ=[v (.lst xs),vi c0,vi R,vi L,vs [46,46,46,46,46,61,35,a,b],ow (rows.map .str),x6,x7]) ⟨[],none,none,rfl,by simp,by simp,rfl⟩ ?_ ?_
  ·rintro j d ρ hd ⟨rows,x6,x7,hl,hL,hs,rfl⟩
   obtain ⟨hj,rfl⟩:=ints_at hd
   obtain ⟨ms,m1,m2,em⟩:=mixed_ok (c1+31*(j:Int)) L (by lia)
   simp [e1,f31,em,lComp_a,line,capt,capt1,m1]
   refine ⟨by lia,?_⟩
   generalize hsgn:[46,46,46,46,46,61,35,a,b]=sg at *
   have h9:sg.length=9:=by rw [←hsgn];rfl
   refine comp_map (fun d=>.str [pick_K80 sg d]) (fun d hd=>?_) ?_
   ·obtain ⟨m,rfl,_,e⟩:=pick_ok h9 (m2 d hd)
    simp [divFits_of,e]
   ·have ej:oJoin (.str []) (.lst (ms.map fun d=>D.str [pick_K80 sg d]))=.ok (.str (ms.map (pick_K80 sg))):=by
     have:=oJoin_nil (ts:=(ms.map (pick_K80 sg)).map fun q=>[q]) (by rw [flat1];simp;lia)
     rw [flat1] at this
     simpa [List.map_map,Function.comp_def] using this
    rw [ej,Ok_ok]
    refine ⟨by lia,rows++[ms.map (pick_K80 sg)],by simp [hl],fun x hx=>?_,fun x hx c hc=>?_,by simp⟩
    ·rcases List.mem_append.mp hx with hx | hx
     ·exact hL x hx
     ·rw [List.mem_singleton] at hx;subst hx;simpa using m1
    ·rcases List.mem_append.mp hx with hx | hx
     ·exact hs x hx c hc
     ·rw [List.mem_singleton] at hx;subst hx
      obtain ⟨d,hd,rfl⟩:=List.mem_map.mp hc
      obtain ⟨m,_,h1,_⟩:=pick_ok h9 (m2 d hd)
      exact hsg _ h1
  ·rintro ρ ⟨rows,x6,x7,hl,hL,hs,rfl⟩
   rw [ints_len] at hl
   simp
   exact ⟨rows,⟨r1,by lia,l1,by lia,by simpa using hl,hL,hs⟩,rfl⟩
 rw [←fe_law_hall] at this
 obtain ⟨d,e,rows,H,rfl⟩:=this
 exact ⟨R,L,rows,H,r2,l2,e⟩
def Bd_K80 (d:D):Prop:=KA.hallB d=false∧∀ xs,d=.tup xs→xs.length≤1000∧∀ x∈xs,KA.Fit x
theorem bd_not {d:D} (h:∀ xs,d≠.tup xs):Bd_K80 d:=by
 refine ⟨?_,fun xs e=>absurd e (h xs)⟩
 cases d with
 | tup xs=>exact absurd rfl (h xs)
 | _=>rfl
theorem bd_row {xs:List D} {d:D} (hd:d∈xs) (h:KA.rowB d=false) (h1:xs.length≤1000) (h2:∀ x∈xs,KA.Fit x):Bd_K80 (.tup xs):=by
 refine ⟨?_,fun ys e=>by cases e;exact ⟨h1,h2⟩⟩
 show KA.hallT xs=false
 have:xs.all KA.rowB=false:=by
  rw [List.all_eq_false];exact ⟨d,hd,by simp [h]⟩
 unfold KA.hallT
 rw [this];simp
theorem bd_len {xs:List D} (h:¬ (1≤xs.length∧xs.length≤6)) (h1:xs.length≤1000) (h2:∀ x∈xs,KA.Fit x):Bd_K80 (.tup xs):=by
 refine ⟨?_,fun ys e=>by cases e;exact ⟨h1,h2⟩⟩
 show KA.hallT xs=false
 unfold KA.hallT
 rw [decide_eq_false h];simp
theorem bd_diff {xs:List D} {a b:D} (ha:a∈xs) (hb:b∈xs) (h:KA.lenD a≠KA.lenD b) (h1:xs.length≤1000) (h2:∀ x∈xs,KA.Fit x):Bd_K80 (.tup xs):=by
 refine ⟨?_,fun ys e=>by cases e;exact ⟨h1,h2⟩⟩
 show KA.hallT xs=false
 have:(xs.all fun d=>KA.lenD d==KA.lenD (xs.headD .non))=false:=by
  rw [Bool.eq_false_iff]
  intro z
  rw [List.all_eq_true] at z
  have z1:=z a ha
  have z2:=z b hb
  simp at z1 z2
  exact h (z1.trans z2.symm)
 unfold KA.hallT
 rw [this];simp
theorem cut_lo (xs:List D) (k:Nat) (h:k≤xs.length):cut xs none (some (k:Int))=xs.take k:=by
 have:min (k:Int).toNat xs.length=k:=by lia
 have h0:¬ (k:Int) < 0:=by lia
 simp [cut,sIx,this,h0,h]
theorem cut_hi (xs:List D) (k:Nat) (h:k < xs.length):cut xs (some ((k:Int)+1)) none=xs.drop (k+1):=by
 have:min ((k:Int)+1).toNat xs.length=k+1:=by lia
 have h0:¬ (k:Int)+1 < 0:=by lia
 simp only [cut,sIx,if_neg h0,this]
 rw [List.take_of_length_le (by simp)]
structure Hs (R L:Nat) (rows:KA.Rows):Prop where
 h:KA.Hall R L rows
 r:R≤3
 l:L≤6
theorem row_fit {R L:Nat} {rows:KA.Rows} (H:Hs R L rows) {x:D} (hx:x∈rows.map D.str):KA.Fit x∧∃ r∈rows,x=.str r∧r.length=L:=by
 obtain ⟨r,hr,rfl⟩:=List.mem_map.mp hx
 have hl:=H.h.each r hr
 have:=H.l
 exact ⟨fun cs e=>by cases e;lia,r,hr,rfl,hl⟩
theorem bad_signs:∀ q∈[65,32,48,45,126,10],q∉signs:=by decide
def sgs:List (List Nat):=[[65],[32],[],[48],[45],[46,46],[126],[10]]
theorem bd_mid {R L : Nat} {rows : KA.Rows} (H : Hs R L rows) {k : Nat} (hk : k < R) {row sg new : List Nat} (hrow : rows[k]? = some row) (hs : sg ∈ sgs) (hn : new = row ++ sg ∨ new = sg ++ row) (h0 : sg ≠ []) (h1 : ¬ (R = 1 ∧ sg = [46, 46])) :
  Bd_K80 (.tup ((rows.map D.str).take k++[D.str new]++(rows.map D.str).drop (k+1))):=by
 have hlen:=H.h.len
 have hr3:=H.r
 have hl6:=H.l
 have hl1:=H.h.l1
 have hsl:sg.length≤2:=(by decide:∀ q∈sgs,q.length≤2) sg hs
 have hrl:row.length=L:=H.h.each row (List.mem_of_getElem? hrow)
 have hnl:new.length=L+sg.length:=by rcases hn with rfl | rfl<;>simp [hrl]<;>lia
 have ln:((rows.map D.str).take k++[D.str new]++(rows.map D.str).drop (k+1)).length≤1000:=by simp [hlen];lia
 have ft:∀ x∈(rows.map D.str).take k++[D.str new]++(rows.map D.str).drop (k+1),KA.Fit x:=fun x hx=>by
  rcases List.mem_append.mp hx with hx | hx
  ·rcases List.mem_append.mp hx with hx | hx
   ·exact (row_fit H (List.mem_of_mem_take hx)).1
   ·rw [List.mem_singleton] at hx;subst hx
    intro cs e;cases e;lia
  ·exact (row_fit H (List.mem_of_mem_drop hx)).1
 have mem:D.str new∈(rows.map D.str).take k++[D.str new]++(rows.map D.str).drop (k+1):=by simp
 by_cases hd:sg=[46,46]
 ·subst hd
  have hR2 : 2 ≤ R := by have := H.h.r1; rcases Nat.lt_or_ge 1 R with h | h; exact h; exact absurd ⟨by lia, rfl⟩ h1
  obtain ⟨d,hd1,hd2⟩:∃ d,d∈(rows.map D.str).take k++[D.str new]++(rows.map D.str).drop (k+1)∧KA.lenD d=L:=by
   by_cases hk0:0 < k
   ·have h0l:0 < rows.length:=by lia
    refine ⟨.str rows[0],?_,H.h.each _ (List.getElem_mem h0l)⟩
    refine List.mem_append_left _ (List.mem_append_left _ ?_)
    rw [List.mem_take_iff_getElem]
    exact ⟨0,by simp;lia,by simp⟩
   ·have h1l:1 < rows.length:=by lia
    refine ⟨.str rows[1],?_,H.h.each _ (List.getElem_mem h1l)⟩
    refine List.mem_append_right _ ?_
    have:k=0:=by lia
    subst this
    rw [List.mem_drop_iff_getElem]
    exact ⟨0,by simp;lia,by simp⟩
  refine bd_diff hd1 mem ?_ ln ft
  rw [hd2]
  show L≠new.length
  rw [hnl];simp
 ·have hq:∃ q,sg=[q]∧q∉signs:=by
   have:=(by decide:∀ s∈sgs,s=[]∨s=[46,46]∨∃ q∈[65,32,48,45,126,10],s=[q]) sg hs
   rcases this with h | h | ⟨q,h2,h3⟩
   ·exact absurd h h0
   ·exact absurd h hd
   ·exact ⟨q,h3,bad_signs q h2⟩
  obtain ⟨q,rfl,hq⟩:=hq
  refine bd_row mem ?_ ln ft
  show KA.rowC new=false
  have:(new.all fun c=>decide (c∈signs))=false:=by
   rw [List.all_eq_false]
   refine ⟨q,?_,by simp [hq]⟩
   rcases hn with rfl | rfl<;>simp
  unfold KA.rowC
  rw [this];simp
theorem fit_rows {R L:Nat} {rows:KA.Rows} (H:Hs R L rows) {d:D} (hd:KA.Fit d) {n:Nat} (hn:n≤6):∀ x∈rows.map D.str++[d],KA.Fit x:=fun x hx=>by
 rcases List.mem_append.mp hx with hx | hx
 ·exact (row_fit H hx).1
 ·rw [List.mem_singleton] at hx;subst hx;exact hd
theorem bd_more {R L:Nat} {rows:KA.Rows} (H:Hs R L rows) {d:D} (h:KA.rowB d=false) (hd:KA.Fit d):Bd_K80 (.tup (rows.map D.str++[d])) :=
 bd_row (d:=d) (by simp) h (by have:=H.h.len;have:=H.r;simp;lia) (fit_rows H hd (n:=0) (by lia))
def restD (rows:KA.Rows) (row r0:List Nat):List D:=[.lst (rows.map .str),.str (gluedC [10] rows),.tup (rows.map .str++[.str (row++[46])]),.tup (rows.map .str++[.non]),.tup (rows.map .str++[.tup []]),.tup (rows.map .str++[.lst [.str [46]]]),
 .tup [],.tup (List.replicate 7 (.str r0)),.tup [.str (List.replicate 13 46)],.tup [.str []],.tup [.str [],.str []],.non,.int 0,.bl true,.str [],.lst [],.dct [] [],.tup [.tup (rows.map .str)]]
theorem rest_bd {R L:Nat} {rows:KA.Rows} (H:Hs R L rows) {row r0:List Nat} (hrow:row∈rows) (hr0:r0∈rows):∀ d∈restD rows row r0,Bd_K80 d:=by
 have hl:=H.h.each row hrow
 have hl0:=H.h.each r0 hr0
 have h1:=H.h.len
 have h2:=H.r
 have h3:=H.l
 have h4:=H.h.r1
 intro d hd
 simp only [restD,List.mem_cons,List.not_mem_nil,or_false] at hd
 rcases hd with rfl | rfl | rfl | rfl | rfl | rfl | rfl | rfl | rfl | rfl | rfl | rfl | rfl | rfl | rfl | rfl | rfl | rfl
 ·exact bd_not fun _ z=>nomatch z
 ·exact bd_not fun _ z=>nomatch z
 ·refine bd_diff (a:=.str row) (b:=.str (row++[46])) (List.mem_append_left _ (List.mem_map.mpr ⟨row,hrow,rfl⟩)) (by simp) ?_ (by simp;lia) (fit_rows H (fun cs e=>by cases e;simp;lia) (n:=0) (by lia))
  show row.length≠(row++[46]).length
  simp
 ·exact bd_more H rfl fun cs e=>nomatch e
 ·exact bd_more H rfl fun cs e=>nomatch e
 ·exact bd_more H rfl fun cs e=>nomatch e
 ·exact bd_len (by simp) (by simp) (by simp)
 ·refine bd_len (by simp) (by simp) fun x hx=>?_
  have:=List.eq_of_mem_replicate hx
  subst this
  intro cs e;cases e;lia
 ·refine bd_row (d:=.str (List.replicate 13 46)) (by simp) (by decide) (by simp) fun x hx=>?_
  rw [List.mem_singleton] at hx;subst hx
  intro cs e;cases e;simp
 ·refine bd_row (d:=.str []) (by simp) (by decide) (by simp) fun x hx=>?_
  rw [List.mem_singleton] at hx;subst hx
  intro cs e;cases e;simp
 ·refine bd_row (d:=.str []) (by simp) (by decide) (by simp) fun x hx=>?_
  simp only [List.mem_cons,List.not_mem_nil,or_false,or_self] at hx;subst hx
  intro cs e;cases e;simp
 ·exact bd_not fun _ z=>nomatch z
 ·exact bd_not fun _ z=>nomatch z
 ·exact bd_not fun _ z=>nomatch z
 ·exact bd_not fun _ z=>nomatch z
 ·exact bd_not fun _ z=>nomatch z
 ·exact bd_not fun _ z=>nomatch z
 ·refine bd_row (d:=.tup (rows.map .str)) (by simp) rfl (by simp) fun x hx=>?_
  rw [List.mem_singleton] at hx;subst hx
  intro cs e;cases e
theorem no_hall_ok {R L : Nat} {rows : KA.Rows} (H : Hs R L rows) (c : Int) : ∃ d, Bd_K80 d ∧ fn_law_no_hall [.tup (rows.map .str), .int c] = .ok d := by
 have h1:=H.h.len
 have h2:=H.r
 have h3:=H.l
 have h4:=H.h.r1
 obtain ⟨sg,hsg,es⟩:∃ sg∈sgs,oIx (.lst [.str [65],.str [32],.str [],.str [48],.str [45],.str [46,46],.str [126],.str [10]]) (.int (c / 30 % 8))=.ok (.str sg):=by
  obtain ⟨d,hd,e,_⟩:=ix_some (xs:=sgs.map D.str) (i:=c / 30 % 8) (by lia) (by simp [sgs];lia)
  obtain ⟨sg,hs,rfl⟩:=List.mem_map.mp hd
  exact ⟨sg,hs,e⟩
 obtain ⟨k,hk⟩:∃ k:Nat,c / 240 % (R:Int)=k:=⟨(c / 240 % (R:Int)).toNat,by have:=Int.emod_nonneg (c / 240) (b:=(R:Int)) (by lia);lia⟩
 have hkR:k < R:=by have:=Int.emod_lt_of_pos (c / 240) (b:=(R:Int)) (by lia);lia
 have hkl:k < rows.length:=by lia
 obtain ⟨row,hrow⟩:∃ row,rows[k]?=some row:=⟨rows[k],List.getElem?_eq_getElem hkl⟩
 obtain ⟨r0,hr0⟩:∃ row,rows[0]?=some row:=⟨rows[0],List.getElem?_eq_getElem (by lia)⟩
 have erow:oIx (.tup (rows.map D.str)) (.int k)=.ok (.str row):=(ix_at (j:=k) rfl (by rw [List.getElem?_map,hrow];rfl)).1
 have er0:oIx (.tup (rows.map D.str)) (.int 0)=.ok (.str r0):=(ix_at (j:=0) rfl (by rw [List.getElem?_map,hr0];rfl)).1
 have c1:=cut_lo (rows.map D.str) k (by simp;lia)
 have c2:=cut_hi (rows.map D.str) k (by simp;lia)
 have hrl:row.length=L:=H.h.each row (List.mem_of_getElem? hrow)
 have hsl:sg.length≤2:=(by decide:∀ q∈sgs,q.length≤2) sg hsg
 have hR0:(0:Int) < R:=by lia
 have ej:oJoinT (.str [10]) (.tup (rows.map .str))=.ok (.str (gluedC [10] rows)):=by
  have hsum:∀ l:KA.Rows,(∀ x∈l,x.length≤6)→(l.map List.length).sum≤l.length*6:=by
   intro l
   induction l with
   | nil=>intro _;simp
   | cons x r ih =>
    intro h
    have q1:=h x (by simp)
    have q2:=ih fun y hy=>h y (by simp [hy])
    simp only [List.map_cons,List.sum_cons,List.length_cons]
    lia
  have hs:=hsum rows fun x hx=>by rw [H.h.each x hx];exact h3
  show (match textsD (rows.map D.str) with | some ts=>guard ((ts.map List.length).sum+ts.length*1≤line) (Res.ok (D.str (gluedC [10] ts))) | none=>Res.bad)=_
  rw [textsD_map]
  simp only
  rw [guard_pos]
  simp only [line]
  lia
 have e7:oRepT (.tup [.str r0]) (.int 7)=.ok (.tup (List.replicate 7 (.str r0))):=by rw [oRepT_a,guard_pos (by decide)];rfl
 have e13:oRep (.str [46]) (.int 13)=.ok (.str (List.replicate 13 46)):=by rw [oRep_a,guard_pos (by decide)];rfl
 have hb:=rest_bd H (List.mem_of_getElem? hrow) (List.mem_of_getElem? hr0)
 have hl1:2+(restD rows row r0).length=20:=rfl
 have:Ok (retK (b_law_no_hall [v (.tup (rows.map .str)),v (.int c),none,none,none,none])) Bd_K80:=by
  refine ret_Ok ?_
  have fin:∀ zs:List D,zs.length=20→(∀ d∈zs,Bd_K80 d)→Ok (oIx (.lst zs) (.int (c % 20))) Bd_K80:=fun zs hz hd=>by
   obtain ⟨d,h1,h2,_⟩:=ix_some (xs:=zs) (i:=c % 20) (by lia) (by rw [hz];lia)
   rw [h2,Ok_ok];exact hd d h1
  have g1:row.length+sg.length≤16777216:=by lia
  have g2:sg.length+row.length≤16777216:=by lia
  have g3:min k R≤16777215:=by lia
  have g4:min k R+1+(R-(k+1))≤16777216:=by lia
  have g5:row.length≤16777215:=by lia
  have g6:R≤16777215:=by lia
  have g7:0 < R:=by lia
  by_cases hz:sg=[]∨(R=1∧sg=[46,46])
  ·have hz':(if sg=[] then True else if (R:Int)=1 then sg=[46,46] else False):=by
    rcases hz with h | ⟨h,h'⟩
    ·rw [if_pos h];trivial
    ·by_cases q:sg=[]
     ·rw [if_pos q];trivial
     ·rw [if_neg q,if_pos (by lia)];exact h'
   have done:Ok (oIx (.lst (.tup (rows.map .str++[.int 7]) :: .tup (rows.map .str++[.str []]) :: restD rows row r0)) (.int (c % 20))) Bd_K80:=fin _ rfl fun d hd=>by
    rcases List.mem_cons.mp hd with rfl | hd
    ·exact bd_more H rfl fun cs e=>nomatch e
    ·rcases List.mem_cons.mp hd with rfl | hd
     ·exact bd_more H rfl fun cs e=>by cases e;simp
     ·exact hb d hd
   rcases hz with h | ⟨h,h'⟩
   ·subst h
    simp [b_law_no_hall,divFits_of,es,h1,hR0,hk,erow,er0,c1,c2,line,lCat_k,ej,e7,e13,g1,g2,g3,g4,g5,g6,g7,sPut,ixZ]
    exact ⟨by lia,done⟩
   ·subst h'
    have t1:((R:Int)=1)=True:=eq_true (by lia)
    have t2:(R=1)=True:=eq_true h
    have g8:row.length≤16777214:=by lia
    have g9:2+row.length≤16777216:=by lia
    simp [t1,t2,g8,g9,b_law_no_hall,divFits_of,es,h1,hR0,hk,erow,er0,c1,c2,line,lCat_k,ej,e7,e13,g1,g2,g3,g4,g5,g6,g7,sPut,ixZ]
    exact done
  ·have q0:sg≠[]:=fun z=>hz (.inl z)
   have q1:¬ (R=1∧sg=[46,46]):=fun z=>hz (.inr z)
   have b1:=bd_mid H hkR hrow hsg (.inl rfl) q0 q1
   have b2:=bd_mid H hkR hrow hsg (.inr rfl) q0 q1
   simp only [List.append_assoc,List.singleton_append] at b1 b2
   have done:Ok (oIx (.lst (.tup ((rows.map D.str).take k++D.str (row++sg) :: (rows.map D.str).drop (k+1)) :: .tup ((rows.map D.str).take k++D.str (sg++row) :: (rows.map D.str).drop (k+1)) :: restD rows row r0)) (.int (c % 20))) Bd_K80:=fin _ rfl fun d hd=>by
    rcases List.mem_cons.mp hd with rfl | hd
    ·exact b1
    ·rcases List.mem_cons.mp hd with rfl | hd
     ·exact b2
     ·exact hb d hd
   by_cases q2:R=1
   ·have q3:sg≠[46,46]:=fun z=>q1 ⟨q2,z⟩
    have t1:((R:Int)=1)=True:=eq_true (by lia)
    have t2:(R=1)=True:=eq_true q2
    simp [t1,t2,b_law_no_hall,divFits_of,es,h1,hR0,hk,erow,er0,c1,c2,line,lCat_k,ej,e7,e13,g1,g2,g3,g4,g5,g6,g7,q0,q3]
    exact done
   ·have q4:¬ (R:Int)=1:=by lia
    simp [b_law_no_hall,divFits_of,es,h1,hR0,hk,erow,er0,c1,c2,line,lCat_k,ej,e7,e13,g1,g2,g3,g4,g5,g6,g7,q0,q2,q4]
    exact done
 rw [←fe_law_no_hall] at this
 obtain ⟨d,e,hd⟩:=this
 exact ⟨d,hd,e⟩
abbrev cH:List Nat:=[78,111,72,97,108,108]
abbrev cN:List Nat:=[78,111,78,97,109,101]
theorem hall_of {d:D} (h:Bd_K80 d):KA.fn_is_hall [d]=.ok (.bl false):=by
 have:=KA.is_hall_ok d h.2
 rw [h.1] at this;exact this
theorem initX {d:D} (h:Bd_K80 d) (x:Nat):fx_Desk_init [thg x 0 [] [],d]=some (cH,[]):=by
 have e:=hall_of h
 show fx_Desk_init [.dct _ _,d]=_
 rw [fxe_Desk_init]
 simp [xb_Desk_init,xSeq,xIf,xRaise,e]
theorem refused_ok {d:D} (h:Bd_K80 d):fn_law_refused [d]=.ok (.bl true):=by
 have hx:xMake fx_Desk_init (eV 0) [v d,v .non,none]=some (cH,[]):=by
  unfold xMake
  simp [mkX_mk (initX h)]
 rw [fe_law_refused]
 refine ret_ok ?_
 simp [b_law_refused,sTryS,hx,eIsX,isx,line,lCat_k]
 have e8:repK (.lst [.bl false]) (.int 8)=.ok (List.replicate 8 (.bl false)):=by rw [repK_a,guard_pos (by decide)];rfl
 rw [e8]
 simp [oEq,eqD,eqDn,allEq,eqS]
theorem init_ok {R L:Nat} {rows:KA.Rows} (H:Hs R L rows):makeR fn_Desk_init [.tup (rows.map .str)]=.ok [.tup (rows.map .str),.tup [],.tup [],.tup []]:=by
 have e:KA.fn_is_hall [.tup (rows.map .str)]=.ok (.bl true):=by
  have:=KA.is_hall_ok (.tup (rows.map .str)) fun xs e=>by
   cases e
   exact ⟨by have:=H.h.len;have:=H.r;simp;lia,fun x hx=>(row_fit H hx).1⟩
  rw [this]
  show Res.ok (D.bl (KA.hallT _))=_
  rw [H.h.b]
 refine makeR_mk fun x=>?_
 unfold fn_Desk_init
 rw [fnM_a _ _ _ _ _ rfl]
 have:b_Desk_init (startB 2 [true,false] [thg x 0 [] [],.tup (rows.map .str)])=.ok (.nx [some (.bor (thg x 0 deskK [.tup (rows.map .str),.tup [],.tup [],.tup []])),v (.tup (rows.map .str))]):=by
  have s0:startB 2 [true,false] [thg x 0 [] [],.tup (rows.map .str)]=[some (.bor (thg x 0 [] [])),v (.tup (rows.map .str))]:=rfl
  rw [s0]
  simp [b_Desk_init,mSeq,mLift,mFld,e,setT,thg,setK,deskK,keepsT,noT,isT,line,guard_pos]
 rw [this]
 rfl
def nameD:D→Prop
 | .str cs=>cs.length≤1000
 | _=>True
theorem is_name_any {d:D} (h:nameD d):∃ b,KS.fn_is_name [d]=.ok (.bl b):=by
 cases d with
 | str cs=>exact ⟨_,KS.name_ok cs (by have:cs.length≤1000:=h;lia)⟩
 | _=>exact ⟨false,by rw [KS.fe_is_name];exact ret_ok (by simp [KS.b_is_name,isTy])⟩
abbrev dk (x:Nat) (hall:D):D:=.dct [.inl (x:Int),.inl 0,.inr [104,97,108,108],.inr [103,117,101,115,116,115],.inr [104,101,108,100],.inr [112,108,97,99,101,115]] [hall,.tup [],.tup [],.tup []]
theorem dk_eq (x:Nat) (hall:D):thg x 0 deskK [hall,.tup [],.tup [],.tup []]=dk x hall:=rfl
theorem numX {x:Nat} {hall d:D} (h:nameD d):fx_Desk_number_of [dk x hall,d]=some (cN,[]):=by
 obtain ⟨b,e⟩:=is_name_any h
 show fx_Desk_number_of [.dct _ _,d]=_
 rw [fxe_Desk_number_of]
 cases b<;>simp [xb_Desk_number_of,xSeq,xRaise,xNo,e,eM,oFld,getF,deskK,iEnum,forGo,enumD]
theorem fastX {x:Nat} {hall d:D} (h:nameD d):fx_Desk_fast [dk x hall,d]=some (cN,[]):=by
 have e:=numX (x:=x) (hall:=hall) h
 show fx_Desk_fast [.dct _ _,d]=_
 rw [fxe_Desk_fast]
 simp [xb_Desk_fast,xSeq,xCall,eM,e]
theorem awayX {x:Nat} {hall d:D} (h:nameD d):fx_Desk_away [dk x hall,d]=some (cN,[]):=by
 have e:=numX (x:=x) (hall:=hall) h
 show fx_Desk_away [.dct _ _,d]=_
 rw [fxe_Desk_away]
 simp [xb_Desk_away,xSeq,xCall,eM,e]
theorem whereX {x:Nat} {hall d:D} (h:nameD d):fx_Desk_where [dk x hall,d]=some (cN,[]):=by
 have e:=numX (x:=x) (hall:=hall) h
 show fx_Desk_where [.dct _ _,d]=_
 rw [fxe_Desk_where]
 simp [xb_Desk_where,xTl,xCall,eM,oFld,getF,deskK,e]
theorem no_name_ok {x:Nat} {hall d:D} (h:nameD d) {w:Nat} (hw:w < 3):fn_law_no_name [dk x hall,.int w,d]=.ok (.bl true):=by
 have e1:=fastX (x:=x) (hall:=hall) h
 have e2:=awayX (x:=x) (hall:=hall) h
 have e3:=whereX (x:=x) (hall:=hall) h
 show fn_law_no_name [.dct _ _,.int w,d]=_
 rw [fe_law_no_name]
 refine ret_ok ?_
 have hw':w=0∨w=1∨w=2:=by lia
 rcases hw' with rfl | rfl | rfl
 ·simp [b_law_no_name,sTry,xIf,xCall,eM,e1,eIsX,isx]
 ·simp [b_law_no_name,sTry,xIf,xCall,eM,e2,eIsX,isx]
 ·simp [b_law_no_name,sTry,xIf,xCall,eM,e3,eIsX,isx]
theorem names_ok (c : Int) : ∃ cs : List Nat, cs.length ≤ 8 ∧ fn_law_names [.int c, .int 1] = .ok (.lst [.str cs]) := by
 obtain ⟨st,est⟩:∃ s:Nat,s≤11∧oIx (.lst [.int 1,.int 3,.int 5,.int 7,.int 9,.int 11]) (.int (c / 64 % 6))=.ok (.int s):=by
  obtain ⟨d,hd,e,_⟩:=ix_some (xs:=[D.int 1,.int 3,.int 5,.int 7,.int 9,.int 11]) (i:=c / 64 % 6) (by lia) (by simp;lia)
  simp only [List.mem_cons,List.not_mem_nil,or_false] at hd
  rcases hd with rfl | rfl | rfl | rfl | rfl | rfl
  ·exact ⟨1,by decide,e⟩
  ·exact ⟨3,by decide,e⟩
  ·exact ⟨5,by decide,e⟩
  ·exact ⟨7,by decide,e⟩
  ·exact ⟨9,by decide,e⟩
  ·exact ⟨11,by decide,e⟩
 obtain ⟨hst,est⟩:=est
 obtain ⟨n,hn⟩:∃ n:Nat,1+c % 8=n:=⟨(1+c % 8).toNat,by lia⟩
 have h1:1≤n:=by lia
 have h8:n≤8:=by lia
 have hn0:(0:Int) < n:=by lia
 have fd:∀ j:Nat,j < 8→divFits (400+30*(j:Int)*(j:Int)):=by
  unfold divFits
  decide
 have f30:∀ x,mulFits 30 x:=fun x=>mulFits_l (by decide) (by decide)
 have fj:∀ x (j:Nat),j < 8→mulFits x (j:Int):=fun x j hj=>mulFits_r (by lia) (by lia)
 have f0:∀ x,mulFits x 0:=fun x=>mulFits_r (by decide) (by decide)
 have f1:∀ x,mulFits 0 x:=fun x=>mulFits_l (by decide) (by decide)
 have:Ok (retK (b_law_names [v (.int c),v (.int 1),none,none,none,none,none,none,none,none,none])) fun d=>∃ cs:List Nat,cs.length≤8∧d=.lst [.str cs]:=by
  refine ret_Ok ?_
  simp [b_law_names,divFits_of,hn,hn0,est,line,h1]
  refine ⟨by lia,?_⟩
  refine for_at (fun i ρ=>if i=0 then ρ=[vi c,vi 1,vs letters,vi n,vi (c / 8 % n),vi st,ow [],none,none,none,none] else ∃ cs x7 x8 x9 x10,cs.length≤8∧ρ=[vi c,vi 1,vs letters,vi n,vi (c / 8 % n),vi st,ow [.str cs],x7,x8,x9,x10]) (by simp) ?_ ?_
  ·rintro i d ρ hd hI
   obtain ⟨hi,rfl⟩:=ints_at hd
   have hi0:i=0:=by lia
   subst hi0
   rw [if_pos rfl] at hI
   subst hI
   simp
   refine for_at (fun i ρ=>∃ cs x9 x10,cs.length=i∧ρ=[vi c,vi 1,vs letters,vi n,vi (c / 8 % n),vi st,ow [],vi 0,vs cs,x9,x10]) ⟨[],none,none,rfl,rfl⟩ ?_ ?_
   ·rintro j d ρ hj ⟨cs,x9,x10,hl,rfl⟩
    obtain ⟨hj,rfl⟩:=ints_at hj
    have hj8:j < 8:=by lia
    obtain ⟨q,hq,eq⟩:=KA.letter_at (c / (400+30*(j:Int)*(j:Int)))
    by_cases he:(j:Int)=c / 8 % n
    ·have ht:((j:Int)=c / 8 % n)=True:=eq_true he
     simp [f0,f1,f30,fj _ j hj8,fd j hj8,ht,oInt,line,eq]
     lia
    ·simp [f0,f1,f30,fj _ j hj8,fd j hj8,he,oInt,line,eq]
     lia
   ·rintro ρ ⟨cs,x9,x10,hl,rfl⟩
    rw [ints_len] at hl
    simp [line]
    lia
  ·rintro ρ hI
   rw [ints_len,if_neg (by decide)] at hI
   obtain ⟨cs,x7,x8,x9,x10,hl,rfl⟩:=hI
   simp
   exact hl
 rw [←fe_law_names] at this
 obtain ⟨d,e,cs,h,rfl⟩:=this
 exact ⟨cs,h,e⟩
theorem at_hand_ok (x:Nat) (hall:D):fn_Desk_at_hand [dk x hall]=.ok (.tup []):=by
 rw [fe_Desk_at_hand];exact ret_ok (by simp [b_Desk_at_hand,eM,oFld,getF])
theorem seating_ok (x:Nat) (hall:D):fn_Desk_seating [dk x hall]=.ok (.tup []):=by
 rw [fe_Desk_seating];exact ret_ok (by simp [b_Desk_seating,eM,oFld,getF])
theorem worth_of_ok:fn_worth_of [.tup [],.tup []]=.ok (.int 0):=by
 have e:fn_those_that_sit [.tup [],.tup []]=.ok (.lst []):=by
  rw [fe_those_that_sit];exact ret_ok (by simp [b_those_that_sit,iZip,zipD,lComp_a,capt,compGo,line])
 rw [fe_worth_of];exact ret_ok (by simp [b_worth_of,e,lComp_a,capt,compGo,line,oSum,sumD])
theorem worth_ok (x:Nat) (hall:D):fn_Desk_worth [dk x hall]=.ok (.int 0):=by
 rw [fe_Desk_worth];exact ret_ok (by simp [b_Desk_worth,eM,oFld,getF,worth_of_ok])
theorem all_ok (x:Nat) (hall:D):fn_Desk_show_all [dk x hall]=.ok (.str [110,111,98,111,100,121]):=by
 rw [fe_Desk_show_all];exact ret_ok (by simp [b_Desk_show_all,eM,oFld,getF,oEq,eqD,eqDn,allEq])
theorem say_all (x:Nat) (hall:D):fn_Desk_say [dk x hall,.str [97,108,108]]=.ok (.str [110,111,98,111,100,121]):=by
 rw [fe_Desk_say];exact ret_ok (by simp [b_Desk_say,eM,isTy,oEq,eqD,eqDn,eqS,all_ok])
theorem say_worth (x:Nat) (hall:D):fn_Desk_say [dk x hall,.str [119,111,114,116,104]]=.ok (.str [48]):=by
 have e:oStr (.int 0)=.ok (.str [48]):=by
  have:=oStr_a 0 (by decide)
  rw [show decC 0=[48] from by decide +kernel] at this
  exact this
 rw [fe_Desk_say];exact ret_ok (by simp [b_Desk_say,eM,isTy,oEq,eqD,eqDn,eqS,worth_ok,e])
theorem make_ok {i:Nat} {m:List D→Res (D×List D)} {a:EF} {r:SF} {ρ:Env} {d dd:D} {fs:List D} (ha:a ρ=.ok d) (hm:makeR m [d]=.ok fs) (hr:∀ x,r (ρ.set i (some (.bor (thg x 0 deskK fs))))=.ok (.rt dd)):sMake i m a r ρ=.ok (.rt dd):=by
 unfold sMake
 rw [ha,Res.ok_bind,hm,Res.ok_bind]
 exact allT_mk hr
theorem holds (ns:List Int) (hn:ns.length≤63) (hb:∀ i∈ns,bits i≤2 ^ 20):fn_law [.lst (ns.map .int)]=.ok (.bl true):=by
 generalize hxs:ns.map D.int=xs
 have hx:KA.Ints xs:=fun d hd=>by rw [←hxs] at hd;obtain ⟨c,_,rfl⟩:=List.mem_map.mp hd;exact ⟨c,rfl⟩
 obtain ⟨R,L,rows,H0,hr3,hl6,eh⟩:=hall_ok_K80 hx
 have H:Hs R L rows:=⟨H0,hr3,hl6⟩
 obtain ⟨c2,e2⟩:=KA.cell_at hx (k:=2) (by decide)
 obtain ⟨c3,e3⟩:=KA.cell_at hx (k:=3) (by decide)
 obtain ⟨cs,hcs,en⟩:=names_ok c3
 have hi:=init_ok H
 rw [fe_law]
 refine ret_ok ?_
 unfold b_law
 refine KS.seq_ok (ρ1:=[v (.lst xs),v (.tup (rows.map .str)),none,none,none,none,none,none]) (by simp [eh]) ?_
 refine KS.seq_ok (ρ1:=[v (.lst xs),v (.tup (rows.map .str)),vi 3,none,none,none,none,none]) ?_ ?_
 ·simp
  refine for_at (fun i ρ=>ρ=[v (.lst xs),v (.tup (rows.map .str)),if i=0 then none else vi ((i:Int)-1),none,none,none,none,none]) rfl ?_ ?_
  ·rintro j d ρ hd rfl
   obtain ⟨hj,rfl⟩:=ints_at hd
   have hj4:j < 4:=by simpa using hj
   have fd:divFits ((j:Int)+1):=divFits_of (by lia) (by lia)
   obtain ⟨d,hd,ed⟩:=no_hall_ok H (c2 / ((j:Int)+1)+7*(j:Int))
   have f7:mulFits 7 (j:Int):=mulFits_l (by decide) (by decide)
   simp [e2,fd,f7,ed,refused_ok hd]
  ·rintro ρ rfl
   rw [ints_len]
   simp
 ·refine ⟨.rt (.bl true),make_ok (by simp) hi fun x=>?_,rfl⟩
  rw [dk_eq]
  simp only [List.set_cons_succ,List.set_cons_zero]
  refine Ok.eq ?_
  generalize D.tup (rows.map D.str)=hall
  have a1:=at_hand_ok x hall
  have a2:=seating_ok x hall
  have a3:=worth_ok x hall
  have a4:=say_all x hall
  have a5:=say_worth x hall
  have ei:oIx (.lst [.str cs]) (.int 0)=.ok (.str cs):=(ix_at (j:=0) rfl rfl).2
  have n1:oNe (.tup []) (.tup [])=.ok (.bl false):=rfl
  have n2:oNe (.int 0) (.int 0)=.ok (.bl false):=rfl
  have n3:∀ t:List Nat,oNe (.str t) (.str t)=.ok (.bl false):=fun t=>by simp [oNe,eqD,eqDn,eqS]
  have n4:oEq (.tup []) (.tup [])=.ok (.bl true):=rfl
  have n5:∀ t:List Nat,oEq (.str t) (.str t)=.ok (.bl true):=fun t=>by simp [oEq,eqD,eqDn,eqS]
  have nt:∀ d∈[D.str cs,.str [],.str [65],.str [97,32,98],.str t_3,.non,.int 5,.bl true,.tup [],.tup [.str cs],.lst [],.lst [.str cs],.dct [] [],.tup [.str cs,.int 1,.int 1,.str [],.int 0,.int 0,.int 0,.tup []]],nameD d:=by
   intro d hd
   simp only [List.mem_cons,List.not_mem_nil,or_false] at hd
   rcases hd with rfl | rfl | rfl | rfl | rfl | rfl | rfl | rfl | rfl | rfl | rfl | rfl | rfl | rfl
   all_goals first | exact trivial | (show _≤1000;first | lia | decide)
  simp [eM,a1,a2,a3,a4,a5,n1,n2,n3,isTy,e3,en,ei,line,lCat_k]
  generalize hth:[D.str [],.str [65],.str [97,32,98],.str t_3,.non,.int 5,.bl true,.tup [],.tup [.str cs],.lst [],.lst [.str cs],.dct [] [],.tup [.str cs,.int 1,.int 1,.str [],.int 0,.int 0,.int 0,.tup []]]=th at *
  have htl:th.length=13:=by rw [←hth];rfl
  refine for_at (fun i ρ=>∃ x6 x7,ρ=[v (.lst xs),v hall,vi 3,some (.bor (dk x hall)),vs cs,ow th,x6,x7]) ⟨none,none,rfl⟩ ?_ ?_
  ·rintro j d ρ hd ⟨x6,x7,rfl⟩
   obtain ⟨hj,rfl⟩:=ints_at hd
   have hj3:j < 3:=by simpa using hj
   simp [lCat_k,line,htl]
   refine for_all (fun ρ=>∃ x7,ρ=[v (.lst xs),v hall,vi 3,some (.bor (dk x hall)),vs cs,ow th,vi j,x7]) ⟨x7,rfl⟩ ?_ ?_
   ·rintro d hd ρ ⟨x7,rfl⟩
    have:=no_name_ok (x:=x) (hall:=hall) (nt d hd) hj3
    simp [eM,this]
   ·rintro ρ ⟨x7,rfl⟩
    simp
  ·rintro ρ ⟨x6,x7,rfl⟩
   simp [eM,a1,a4,n4,n5]
end K80
set_option maxRecDepth 100000
namespace K80
open PySem PySem.Spec PyProof.Rows L2 ZQ KA KS
def top (i:Nat):Stmt:=PySem.Challenge.pw_besideseats_k80_halls_of_desks.main.body.getD i (.Pass ⟨0,0,0,0⟩)
abbrev mth (i j:Nat):Stmt:=ZS.clsAt (top i) j
theorem bb_ValueError:bootBuiltins "ValueError" = some (.type "ValueError"):=by kernel_rfl
theorem bb_all:bootBuiltins "all" = some (.builtin "all"):=by kernel_rfl
theorem bb_bool:bootBuiltins "bool" = some (.type "bool"):=by kernel_rfl
theorem bb_int:bootBuiltins "int" = some (.type "int"):=by kernel_rfl
theorem bb_isinstance:bootBuiltins "isinstance" = some (.builtin "isinstance"):=by kernel_rfl
theorem bb_len:bootBuiltins "len" = some (.builtin "len"):=by kernel_rfl
theorem bb_list:bootBuiltins "list" = some (.type "list"):=by kernel_rfl
theorem bb_str:bootBuiltins "str" = some (.type "str"):=by kernel_rfl
theorem bb_sum:bootBuiltins "sum" = some (.builtin "sum"):=by kernel_rfl
theorem bb_tuple:bootBuiltins "tuple" = some (.type "tuple"):=by kernel_rfl
section
variable {P:Program} {w:World} {K:PySem.W.Frag} {mg:Str→Option Value} {base:Heap}
abbrev s_is_letter:Stmt:=top 14
abbrev n_is_letter:List Str:=["text"]
theorem sc_is_letter:FnScope n_is_letter n_is_letter (defScope s_is_letter):=⟨rfl,rfl,rfl,by decide +kernel,rfl,by decide +kernel,by decide +kernel⟩
abbrev T_is_letter (P:Program) (w:World) (K:PySem.W.Frag) (mg:Str→Option Value) (base:Heap):Prop:=ZS.Cal P w K mg base "is_letter" 1 n_is_letter (KA.fn_is_letter)
theorem ok_is_letter (d:ZS.Def K mg "is_letter" s_is_letter n_is_letter) (g_len:mg "len" = none):T_is_letter P w K mg base :=
 calQ (N:=n_is_letter) (b:=KA.b_is_letter) d sc_is_letter fun f cdv A outer s H E hr=>have nd:=sc_is_letter.nd;have hu:=hr.units;(dss_one (ds_ret (de_and (de_cmpC (ZS.c_eq hu) (dw_e (de_len rfl g_len bb_len (dw_v 0))) (dw_e de_int) (nomark _)) (de_one (de_chain ZS.c_le ZS.c_le (dw_e (de_str (by decide +kernel))) (dw_v 0) (dw_e (de_str (by decide +kernel))))))))
abbrev s_is_name:Stmt:=top 30
abbrev n_is_name:List Str:=["thing"]
theorem sc_is_name:FnScope n_is_name n_is_name (defScope s_is_name):=⟨rfl,rfl,rfl,by decide +kernel,rfl,by decide +kernel,by decide +kernel⟩
abbrev T_is_name (P:Program) (w:World) (K:PySem.W.Frag) (mg:Str→Option Value) (base:Heap):Prop:=ZS.Cal P w K mg base "is_name" 2 n_is_name (KS.fn_is_name)
theorem ok_is_name (d:ZS.Def K mg "is_name" s_is_name n_is_name) (C_is_letter:T_is_letter P w K mg base) (g_all:mg "all" = none) (g_isinstance:mg "isinstance" = none) (g_len:mg "len" = none) (g_str:mg "str" = none) {t_MOST_LETTERS:Tok} (c_MOST_LETTERS:mg "MOST_LETTERS" = some (.int 8 t_MOST_LETTERS)):T_is_name P w K mg base :=
 calQ (N:=n_is_name) (b:=KS.b_is_name) d sc_is_name fun f cdv A outer s H E hr=>have nd:=sc_is_name.nd;have hu:=hr.units;(dss_cons (ds_if (dtw (dt_or (dt_not (dt_e (de_isinst .str rfl g_isinstance bb_isinstance rfl g_str bb_str (dw_v 0)))) (dt_or1 (dt_not (dt_chain ZS.c_le ZS.c_le (dw_e de_int) (dw_e (de_len rfl g_len bb_len (dw_v 0))) (dw_e (de_globI rfl c_MOST_LETTERS))))))) (dss_one (ds_ret de_bl)) dss_nil) (dss_one (ds_ret (de_all rfl g_all bb_all (dw_l (dl_comp rfl (di_seq (dw_v 0)) (N':=["sign"]) (n:=1) (is:=[]) (ZS.Blk.of (by kernel_rfl)) (ZS.gName_keep (by decide)) (fun _ _ _ _ _ _=>(dg_name (i:=0) (show List.Nodup (["sign"]:List Str) by decide +kernel) rfl (lo rfl))) (fun _ _ _ _ _=>tst_no) (fun _ _ _ _ _=>(de_callC C_is_letter (hr.mono (by decide)) rfl (da_cName (de_v 0) da_nil)))))))))
abbrev s_worth_in:Stmt:=top 37
abbrev n_worth_in:List Str:=["group", "row"]
theorem sc_worth_in:FnScope n_worth_in n_worth_in (defScope s_worth_in):=⟨rfl,rfl,rfl,by decide +kernel,rfl,by decide +kernel,by decide +kernel⟩
abbrev T_worth_in (P:Program) (w:World) (K:PySem.W.Frag) (mg:Str→Option Value) (base:Heap):Prop:=ZS.Cal P w K mg base "worth_in" 1 n_worth_in (fn_worth_in)
theorem ok_worth_in (d:ZS.Def K mg "worth_in" s_worth_in n_worth_in) (g_sum:mg "sum" = none) {t_WISHES:Tok} (c_WISHES:mg "WISHES" = some (.int 7 t_WISHES)) {t_WORTH:Tok} (c_WORTH:mg "WORTH" = some (.int 6 t_WORTH)):T_worth_in P w K mg base :=
 calQ (N:=n_worth_in) (b:=b_worth_in) d sc_worth_in fun f cdv A outer s H E hr=>have nd:=sc_worth_in.nd;have hu:=hr.units;(dss_one (ds_ret (de_add (dw_e (de_ix (dw_v 0) (dw_e (de_globI rfl c_WORTH)))) (dw_e (de_sum rfl g_sum bb_sum (dw_l (dl_comp rfl (di_seq (dw_e (de_ix (dw_v 0) (dw_e (de_globI rfl c_WISHES))))) (N':=["wish", "row"]) (n:=1) (is:=[1]) (ZS.Blk.of (by kernel_rfl)) (ZS.gName_keep (by decide)) (fun _ _ _ _ _ _=>(dg_name (i:=0) (show List.Nodup (["wish", "row"]:List Str) by decide +kernel) rfl (lo rfl))) (fun _ _ _ _ _=>(tst_one (dt_cmpC (ZS.c_eq hu) (dw_e (de_ix (dw_v 0) (dw_e de_int))) (dw_v 1) (nomark _)))) (fun _ _ _ _ _=>(de_ix (dw_v 0) (dw_e de_int))))))))))
abbrev s_is_sign:Stmt:=top 41
abbrev n_is_sign:List Str:=["text"]
theorem sc_is_sign:FnScope n_is_sign n_is_sign (defScope s_is_sign):=⟨rfl,rfl,rfl,by decide +kernel,rfl,by decide +kernel,by decide +kernel⟩
abbrev T_is_sign (P:Program) (w:World) (K:PySem.W.Frag) (mg:Str→Option Value) (base:Heap):Prop:=ZS.Cal P w K mg base "is_sign" 2 n_is_sign (KA.fn_is_sign)
theorem ok_is_sign (d:ZS.Def K mg "is_sign" s_is_sign n_is_sign) (C_is_letter:T_is_letter P w K mg base):T_is_sign P w K mg base :=
 calQ (N:=n_is_sign) (b:=KA.b_is_sign) d sc_is_sign fun f cdv A outer s H E hr=>have nd:=sc_is_sign.nd;have hu:=hr.units;(dss_one (ds_ret (de_or (de_cmpC (ZS.c_in hu) (dw_v 0) (dw_e (de_tup (da_cConst (de_str (by decide +kernel)) (da_cConst (de_str (by decide +kernel)) (da_cConst (de_str (by decide +kernel)) da_nil))))) (by with_unfolding_all rfl)) (de_one (de_callC C_is_letter (hr.mono (by decide)) rfl (da_cName (de_v 0) da_nil))))))
abbrev s_is_row:Stmt:=top 42
abbrev n_is_row:List Str:=["thing"]
theorem sc_is_row:FnScope n_is_row n_is_row (defScope s_is_row):=⟨rfl,rfl,rfl,by decide +kernel,rfl,by decide +kernel,by decide +kernel⟩
abbrev T_is_row (P:Program) (w:World) (K:PySem.W.Frag) (mg:Str→Option Value) (base:Heap):Prop:=ZS.Cal P w K mg base "is_row" 3 n_is_row (KA.fn_is_row)
theorem ok_is_row (d:ZS.Def K mg "is_row" s_is_row n_is_row) (C_is_sign:T_is_sign P w K mg base) (g_all:mg "all" = none) (g_isinstance:mg "isinstance" = none) (g_len:mg "len" = none) (g_str:mg "str" = none) {t_MOST_COLUMNS:Tok} (c_MOST_COLUMNS:mg "MOST_COLUMNS" = some (.int 12 t_MOST_COLUMNS)):T_is_row P w K mg base :=
 calQ (N:=n_is_row) (b:=KA.b_is_row) d sc_is_row fun f cdv A outer s H E hr=>have nd:=sc_is_row.nd;have hu:=hr.units;(dss_cons (ds_if (dtw (dt_or (dt_not (dt_e (de_isinst .str rfl g_isinstance bb_isinstance rfl g_str bb_str (dw_v 0)))) (dt_or1 (dt_not (dt_chain ZS.c_le ZS.c_le (dw_e de_int) (dw_e (de_len rfl g_len bb_len (dw_v 0))) (dw_e (de_globI rfl c_MOST_COLUMNS))))))) (dss_one (ds_ret de_bl)) dss_nil) (dss_one (ds_ret (de_all rfl g_all bb_all (dw_l (dl_comp rfl (di_seq (dw_v 0)) (N':=["sign"]) (n:=1) (is:=[]) (ZS.Blk.of (by kernel_rfl)) (ZS.gName_keep (by decide)) (fun _ _ _ _ _ _=>(dg_name (i:=0) (show List.Nodup (["sign"]:List Str) by decide +kernel) rfl (lo rfl))) (fun _ _ _ _ _=>tst_no) (fun _ _ _ _ _=>(de_callC C_is_sign (hr.mono (by decide)) rfl (da_cName (de_v 0) da_nil)))))))))
abbrev s_is_hall:Stmt:=top 43
abbrev n_is_hall:List Str:=["thing"]
theorem sc_is_hall:FnScope n_is_hall n_is_hall (defScope s_is_hall):=⟨rfl,rfl,rfl,by decide +kernel,rfl,by decide +kernel,by decide +kernel⟩
abbrev T_is_hall (P:Program) (w:World) (K:PySem.W.Frag) (mg:Str→Option Value) (base:Heap):Prop:=ZS.Cal P w K mg base "is_hall" 4 n_is_hall (KA.fn_is_hall)
theorem ok_is_hall (d:ZS.Def K mg "is_hall" s_is_hall n_is_hall) (C_is_row:T_is_row P w K mg base) (g_all:mg "all" = none) (g_isinstance:mg "isinstance" = none) (g_len:mg "len" = none) (g_tuple:mg "tuple" = none) {t_MOST_ROWS:Tok} (c_MOST_ROWS:mg "MOST_ROWS" = some (.int 6 t_MOST_ROWS)):T_is_hall P w K mg base :=
 calQ (N:=n_is_hall) (b:=KA.b_is_hall) d sc_is_hall fun f cdv A outer s H E hr=>have nd:=sc_is_hall.nd;have hu:=hr.units;(dss_cons (ds_if (dtw (dt_or (dt_not (dt_e (de_isinst .tuple rfl g_isinstance bb_isinstance rfl g_tuple bb_tuple (dw_v 0)))) (dt_or1 (dt_not (dt_chain ZS.c_le ZS.c_le (dw_e de_int) (dw_e (de_len rfl g_len bb_len (dw_v 0))) (dw_e (de_globI rfl c_MOST_ROWS))))))) (dss_one (ds_ret de_bl)) dss_nil) (dss_cons (ds_if (dt_not (dt_e (de_all rfl g_all bb_all (dw_l (dl_comp rfl (di_seq (dw_v 0)) (N':=["row"]) (n:=1) (is:=[]) (ZS.Blk.of (by kernel_rfl)) (ZS.gName_keep (by decide)) (fun _ _ _ _ _ _=>(dg_name (i:=0) (show List.Nodup (["row"]:List Str) by decide +kernel) rfl (lo rfl))) (fun _ _ _ _ _=>tst_no) (fun _ _ _ _ _=>(de_callC C_is_row (hr.mono (by decide)) rfl (da_cName (de_v 0) da_nil)))))))) (dss_one (ds_ret de_bl)) dss_nil) (dss_one (ds_ret (de_all rfl g_all bb_all (dw_l (dl_comp rfl (di_seq (dw_v 0)) (N':=["row", "thing"]) (n:=1) (is:=[0]) (ZS.Blk.of (by kernel_rfl)) (ZS.gName_keep (by decide)) (fun _ _ _ _ _ _=>(dg_name (i:=0) (show List.Nodup (["row", "thing"]:List Str) by decide +kernel) rfl (lo rfl))) (fun _ _ _ _ _=>tst_no) (fun _ _ _ _ _=>(de_cmpC (ZS.c_eq hu) (dw_e (de_len rfl g_len bb_len (dw_v 0))) (dw_e (de_len rfl g_len bb_len (dw_e (de_ix (dw_v 1) (dw_e de_int))))) (nomark _))))))))))
abbrev s_those_that_sit:Stmt:=top 52
abbrev n_those_that_sit:List Str:=["groups", "seating"]
theorem sc_those_that_sit:FnScope n_those_that_sit n_those_that_sit (defScope s_those_that_sit):=⟨rfl,rfl,rfl,by decide +kernel,rfl,by decide +kernel,by decide +kernel⟩
abbrev T_those_that_sit (P:Program) (w:World) (K:PySem.W.Frag) (mg:Str→Option Value) (base:Heap):Prop:=ZS.Cal P w K mg base "those_that_sit" 1 n_those_that_sit (fn_those_that_sit)
theorem ok_those_that_sit (d:ZS.Def K mg "those_that_sit" s_those_that_sit n_those_that_sit) (g_zip:mg "zip" = none):T_those_that_sit P w K mg base :=
 calQ (N:=n_those_that_sit) (b:=b_those_that_sit) d sc_those_that_sit fun f cdv A outer s H E hr=>have nd:=sc_those_that_sit.nd;have hu:=hr.units;(dss_one (ds_ret (de_l (dl_comp rfl (di_j (dj_zip rfl g_zip (de_v 0) (de_v 1))) (N':=["group", "place"]) (n:=2) (is:=[]) (ZS.Blk.of (by kernel_rfl)) (ZS.gTup_keep (by decide)) (fun _ _ _ _ _ _=>(dg_tup rfl (dgs_cons (i:=0) (show List.Nodup (["group", "place"]:List Str) by decide +kernel) rfl (lo rfl) (dgs_cons (i:=1) (show List.Nodup (["group", "place"]:List Str) by decide +kernel) rfl (lo rfl) dgs_nil)) rfl)) (fun _ _ _ _ _=>(tst_one (dt_notN (dw_v 1)))) (fun _ _ _ _ _=>(de_tup (da_cName (de_v 0) (da_cName (de_v 1) da_nil))))))))
abbrev s_worth_of:Stmt:=top 55
abbrev n_worth_of:List Str:=["groups", "seating"]
theorem sc_worth_of:FnScope n_worth_of n_worth_of (defScope s_worth_of):=⟨rfl,rfl,rfl,by decide +kernel,rfl,by decide +kernel,by decide +kernel⟩
abbrev T_worth_of (P:Program) (w:World) (K:PySem.W.Frag) (mg:Str→Option Value) (base:Heap):Prop:=ZS.Cal P w K mg base "worth_of" 2 n_worth_of (fn_worth_of)
theorem ok_worth_of (d:ZS.Def K mg "worth_of" s_worth_of n_worth_of) (C_those_that_sit:T_those_that_sit P w K mg base) (C_worth_in:T_worth_in P w K mg base) (g_sum:mg "sum" = none):T_worth_of P w K mg base :=
 calQ (N:=n_worth_of) (b:=b_worth_of) d sc_worth_of fun f cdv A outer s H E hr=>have nd:=sc_worth_of.nd;have hu:=hr.units;(dss_one (ds_ret (de_sum rfl g_sum bb_sum (dw_l (dl_comp rfl (di_seq (dw_e (de_callC C_those_that_sit (hr.mono (by decide)) rfl (da_cName (de_v 0) (da_cName (de_v 1) da_nil))))) (N':=["group", "place"]) (n:=2) (is:=[]) (ZS.Blk.of (by kernel_rfl)) (ZS.gTup_keep (by decide)) (fun _ _ _ _ _ _=>(dg_tup rfl (dgs_cons (i:=0) (show List.Nodup (["group", "place"]:List Str) by decide +kernel) rfl (lo rfl) (dgs_cons (i:=1) (show List.Nodup (["group", "place"]:List Str) by decide +kernel) rfl (lo rfl) dgs_nil)) rfl)) (fun _ _ _ _ _=>tst_no) (fun _ _ _ _ _=>(de_callC C_worth_in (hr.mono (by decide)) rfl (da_cName (de_v 0) (da_cSub (de_ix (dw_v 1) (dw_e de_int)) da_nil)))))))))
abbrev s_show_place:Stmt:=top 86
abbrev n_show_place:List Str:=["place"]
theorem sc_show_place:FnScope n_show_place n_show_place (defScope s_show_place):=⟨rfl,rfl,rfl,by decide +kernel,rfl,by decide +kernel,by decide +kernel⟩
abbrev T_show_place (P:Program) (w:World) (K:PySem.W.Frag) (mg:Str→Option Value) (base:Heap):Prop:=ZS.Cal P w K mg base "show_place" 1 n_show_place (fn_show_place)
theorem ok_show_place (d:ZS.Def K mg "show_place" s_show_place n_show_place) (g_str:mg "str" = none):T_show_place P w K mg base :=
 calQ (N:=n_show_place) (b:=b_show_place) d sc_show_place fun f cdv A outer s H E hr=>have nd:=sc_show_place.nd;have hu:=hr.units;(dss_one (ds_ret (de_add (dw_e (de_add (dw_e (de_str1 rfl g_str bb_str (dw_e (de_ix (dw_v 0) (dw_e de_int))))) (dw_e (de_str (by decide +kernel))))) (dw_e (de_str1 rfl g_str bb_str (dw_e (de_ix (dw_v 0) (dw_e de_int))))))))
abbrev s_Desk_init:Stmt:=mth 87 0
abbrev n_Desk_init:List Str:=["self", "hall"]
theorem sc_Desk_init:FnScope n_Desk_init n_Desk_init (defScope s_Desk_init):=⟨rfl,rfl,rfl,by decide +kernel,rfl,by decide +kernel,by decide +kernel⟩
abbrev T_Desk_init (P:Program) (w:World) (K:PySem.W.Frag) (mg:Str→Option Value) (base:Heap):Prop:=ZS.CalI P w K mg base 5 n_Desk_init 2 fn_Desk_init
theorem ok_Desk_init (d:ZS.IDef K s_Desk_init n_Desk_init) (C_is_hall:T_is_hall P w K mg base) (nf_guests:ZS.NoF K "guests") (nf_hall:ZS.NoF K "hall") (nf_held:ZS.NoF K "held") (nf_places:ZS.NoF K "places"):T_Desk_init P w K mg base :=
 calQI (N:=n_Desk_init) (b:=b_Desk_init) rfl d sc_Desk_init fun f cdv A outer s H H0 as E hr=>have nd:=sc_Desk_init.nd;have hu:=hr.units;(mss_cons (ms_lift fun _=>(ds_if (dt_not (dt_e (de_callC C_is_hall (hr.mono (by decide)) rfl (da_cName (de_v 1) da_nil)))) (dss_one ds_bad) dss_nil)) (mss_cons (ms_fld nf_hall (pv 0) (de_v 1) (by decide +kernel)) (mss_cons (ms_fld nf_guests (pv 0) (de_tup da_nil) (by decide +kernel)) (mss_cons (ms_fld nf_held (pv 0) (de_tup da_nil) (by decide +kernel)) (mss_one (ms_fld nf_places (pv 0) (de_tup da_nil) (by decide +kernel)))))))
abbrev TX_Desk_init (P:Program) (w:World) (K:PySem.W.Frag) (mg:Str→Option Value) (base:Heap):Prop:=ZS.CalXI P w K mg base 5 n_Desk_init fx_Desk_init
theorem okx_Desk_init (d:ZS.IDef K s_Desk_init n_Desk_init) (C_is_hall:T_is_hall P w K mg base) {A_NoHall:Addr} (m_NoHall:mg "NoHall" = some (.ref A_NoHall)) (x_NoHall:ZS.XC K [78,111,72,97,108,108] A_NoHall) (xi_NoHall:PySem.W.excIn K A_NoHall [.type "ValueError",.type "Exception",.type "BaseException",.type "object"] "ValueError.__new__" = true):TX_Desk_init P w K mg base :=
 calXI rfl (N:=n_Desk_init) (xb:=xb_Desk_init) d sc_Desk_init fun f cdv A outer s H E hr=>have nd:=sc_Desk_init.nd;have hu:=hr.units;(xss_cons (ds_if (dt_not (dt_e (de_callC C_is_hall (hr.mono (by decide)) rfl (da_cName (de_v 1) da_nil)))) (dss_one ds_bad) dss_nil) (xs_if (dt_not (dt_e (de_callC C_is_hall (hr.mono (by decide)) rfl (da_cName (de_v 1) da_nil)))) (xss_one (xs_raise rfl rfl rfl (by decide +kernel) x_NoHall xi_NoHall (de_str (by decide +kernel)))) xss_no) xss_no)
abbrev s_Desk_number_of:Stmt:=mth 87 1
abbrev n_Desk_number_of:List Str:=["self", "name", "k", "guest"]
abbrev p_Desk_number_of:List Str:=["self", "name"]
theorem sc_Desk_number_of:FnScope n_Desk_number_of p_Desk_number_of (defScope s_Desk_number_of):=⟨rfl,rfl,rfl,by decide +kernel,rfl,by decide +kernel,by decide +kernel⟩
abbrev T_Desk_number_of (P:Program) (w:World) (K:PySem.W.Frag) (mg:Str→Option Value) (base:Heap):Prop:=ZS.CalM P w K mg base "number_of" 3 p_Desk_number_of [true,false] (fn_Desk_number_of)
theorem ok_Desk_number_of (d:ZS.MDef K "number_of" "Desk.number_of" s_Desk_number_of p_Desk_number_of) (C_is_name:T_is_name P w K mg base) (g_enumerate:mg "enumerate" = none) {t_NAME:Tok} (c_NAME:mg "NAME" = some (.int 0 t_NAME)) (nf_guests:ZS.NoF K "guests"):T_Desk_number_of P w K mg base :=
 calQM rfl (N:=n_Desk_number_of) (b:=b_Desk_number_of) d sc_Desk_number_of fun f cdv A outer s H E hr=>have nd:=sc_Desk_number_of.nd;have hu:=hr.units;(dss_cons (ds_if (dt_e (de_callC C_is_name (hr.mono (by decide)) rfl (da_cName (de_v 1) da_nil))) (dss_one (ds_for PassesOwn.never rfl (dj_enum rfl g_enumerate (de_fld nf_guests (dm_v 0) (by decide +kernel))) (dg_tup rfl (dgs_cons (i:=2) nd rfl (lo rfl) (dgs_cons (i:=3) nd rfl (lo rfl) dgs_nil)) rfl) (dss_one (ds_if (dt_cmpC (ZS.c_eq hu) (dw_e (de_ix (dw_v 3) (dw_e (de_globI rfl c_NAME)))) (dw_v 1) (nomark _)) (dss_one (ds_ret (de_v 2))) dss_nil)))) dss_nil) (dss_one ds_bad))
abbrev TX_Desk_number_of (P:Program) (w:World) (K:PySem.W.Frag) (mg:Str→Option Value) (base:Heap):Prop:=ZS.CalXM P w K mg base "number_of" 3 p_Desk_number_of [true,false] fx_Desk_number_of
theorem okx_Desk_number_of (d:ZS.MDef K "number_of" "Desk.number_of" s_Desk_number_of p_Desk_number_of) (C_is_name:T_is_name P w K mg base) (g_enumerate:mg "enumerate" = none) {t_NAME:Tok} (c_NAME:mg "NAME" = some (.int 0 t_NAME)) {A_NoName:Addr} (m_NoName:mg "NoName" = some (.ref A_NoName)) (nf_guests:ZS.NoF K "guests") (x_NoName:ZS.XC K [78,111,78,97,109,101] A_NoName) (xi_NoName:PySem.W.excIn K A_NoName [.type "ValueError",.type "Exception",.type "BaseException",.type "object"] "ValueError.__new__" = true):TX_Desk_number_of P w K mg base :=
 calXM rfl (N:=n_Desk_number_of) (xb:=xb_Desk_number_of) d sc_Desk_number_of fun f cdv A outer s H E hr=>have nd:=sc_Desk_number_of.nd;have hu:=hr.units;(xss_cons (ds_if (dt_e (de_callC C_is_name (hr.mono (by decide)) rfl (da_cName (de_v 1) da_nil))) (dss_one (ds_for PassesOwn.never rfl (dj_enum rfl g_enumerate (de_fld nf_guests (dm_v 0) (by decide +kernel))) (dg_tup rfl (dgs_cons (i:=2) nd rfl (lo rfl) (dgs_cons (i:=3) nd rfl (lo rfl) dgs_nil)) rfl) (dss_one (ds_if (dt_cmpC (ZS.c_eq hu) (dw_e (de_ix (dw_v 3) (dw_e (de_globI rfl c_NAME)))) (dw_v 1) (nomark _)) (dss_one (ds_ret (de_v 2))) dss_nil)))) dss_nil) xs_no (xss_one (xs_raise rfl rfl rfl (by decide +kernel) x_NoName xi_NoName (de_str (by decide +kernel)))))
abbrev s_Desk_fast:Stmt:=mth 87 3
abbrev n_Desk_fast:List Str:=["self", "name", "k"]
abbrev p_Desk_fast:List Str:=["self", "name"]
theorem sc_Desk_fast:FnScope n_Desk_fast p_Desk_fast (defScope s_Desk_fast):=⟨rfl,rfl,rfl,by decide +kernel,rfl,by decide +kernel,by decide +kernel⟩
abbrev T_Desk_fast (P:Program) (w:World) (K:PySem.W.Frag) (mg:Str→Option Value) (base:Heap):Prop:=ZS.CalM P w K mg base "fast" 4 p_Desk_fast [true,false] (fn_Desk_fast)
theorem ok_Desk_fast (d:ZS.MDef K "fast" "Desk.fast" s_Desk_fast p_Desk_fast) (C_Desk_number_of:T_Desk_number_of P w K mg base):T_Desk_fast P w K mg base :=
 calQM rfl (N:=n_Desk_fast) (b:=b_Desk_fast) d sc_Desk_fast fun f cdv A outer s H E hr=>have nd:=sc_Desk_fast.nd;have hu:=hr.units;(dss_cons (ds_set (i:=2) nd rfl (lo rfl) (de_meth C_Desk_number_of (hr.mono (by decide)) (dm_v 0) (by decide +kernel) (daf_cons (de_v 1) daf_nil))) (dss_one ds_bad))
abbrev TX_Desk_fast (P:Program) (w:World) (K:PySem.W.Frag) (mg:Str→Option Value) (base:Heap):Prop:=ZS.CalXM P w K mg base "fast" 4 p_Desk_fast [true,false] fx_Desk_fast
theorem okx_Desk_fast (d:ZS.MDef K "fast" "Desk.fast" s_Desk_fast p_Desk_fast) (C_Desk_number_of:T_Desk_number_of P w K mg base) (X_Desk_number_of:TX_Desk_number_of P w K mg base):TX_Desk_fast P w K mg base :=
 calXM rfl (N:=n_Desk_fast) (xb:=xb_Desk_fast) d sc_Desk_fast fun f cdv A outer s H E hr=>have nd:=sc_Desk_fast.nd;have hu:=hr.units;(xss_cons (ds_set (i:=2) nd rfl (lo rfl) (de_meth C_Desk_number_of (hr.mono (by decide)) (dm_v 0) (by decide +kernel) (daf_cons (de_v 1) daf_nil))) (xs_set (i:=2) nd rfl (lo rfl) (xe_meth X_Desk_number_of (hr.mono (by decide)) (dm_v 0) (by decide +kernel) (daf_cons (de_v 1) daf_nil))) xss_no)
abbrev s_Desk_away:Stmt:=mth 87 4
abbrev n_Desk_away:List Str:=["self", "name", "k"]
abbrev p_Desk_away:List Str:=["self", "name"]
theorem sc_Desk_away:FnScope n_Desk_away p_Desk_away (defScope s_Desk_away):=⟨rfl,rfl,rfl,by decide +kernel,rfl,by decide +kernel,by decide +kernel⟩
abbrev T_Desk_away (P:Program) (w:World) (K:PySem.W.Frag) (mg:Str→Option Value) (base:Heap):Prop:=ZS.CalM P w K mg base "away" 4 p_Desk_away [true,false] (fn_Desk_away)
theorem ok_Desk_away (d:ZS.MDef K "away" "Desk.away" s_Desk_away p_Desk_away) (C_Desk_number_of:T_Desk_number_of P w K mg base):T_Desk_away P w K mg base :=
 calQM rfl (N:=n_Desk_away) (b:=b_Desk_away) d sc_Desk_away fun f cdv A outer s H E hr=>have nd:=sc_Desk_away.nd;have hu:=hr.units;(dss_cons (ds_set (i:=2) nd rfl (lo rfl) (de_meth C_Desk_number_of (hr.mono (by decide)) (dm_v 0) (by decide +kernel) (daf_cons (de_v 1) daf_nil))) (dss_cons ds_bad (dss_cons ds_bad (dss_one ds_bad))))
abbrev TX_Desk_away (P:Program) (w:World) (K:PySem.W.Frag) (mg:Str→Option Value) (base:Heap):Prop:=ZS.CalXM P w K mg base "away" 4 p_Desk_away [true,false] fx_Desk_away
theorem okx_Desk_away (d:ZS.MDef K "away" "Desk.away" s_Desk_away p_Desk_away) (C_Desk_number_of:T_Desk_number_of P w K mg base) (X_Desk_number_of:TX_Desk_number_of P w K mg base):TX_Desk_away P w K mg base :=
 calXM rfl (N:=n_Desk_away) (xb:=xb_Desk_away) d sc_Desk_away fun f cdv A outer s H E hr=>have nd:=sc_Desk_away.nd;have hu:=hr.units;(xss_cons (ds_set (i:=2) nd rfl (lo rfl) (de_meth C_Desk_number_of (hr.mono (by decide)) (dm_v 0) (by decide +kernel) (daf_cons (de_v 1) daf_nil))) (xs_set (i:=2) nd rfl (lo rfl) (xe_meth X_Desk_number_of (hr.mono (by decide)) (dm_v 0) (by decide +kernel) (daf_cons (de_v 1) daf_nil))) xss_no)
abbrev s_Desk_where:Stmt:=mth 87 5
abbrev n_Desk_where:List Str:=["self", "name"]
theorem sc_Desk_where:FnScope n_Desk_where n_Desk_where (defScope s_Desk_where):=⟨rfl,rfl,rfl,by decide +kernel,rfl,by decide +kernel,by decide +kernel⟩
abbrev T_Desk_where (P:Program) (w:World) (K:PySem.W.Frag) (mg:Str→Option Value) (base:Heap):Prop:=ZS.CalM P w K mg base "where" 4 n_Desk_where [true,false] (fn_Desk_where)
theorem ok_Desk_where (d:ZS.MDef K "where" "Desk.where" s_Desk_where n_Desk_where) (C_Desk_number_of:T_Desk_number_of P w K mg base) (nf_places:ZS.NoF K "places"):T_Desk_where P w K mg base :=
 calQM rfl (N:=n_Desk_where) (b:=b_Desk_where) d sc_Desk_where fun f cdv A outer s H E hr=>have nd:=sc_Desk_where.nd;have hu:=hr.units;(dss_one (ds_ret (de_ix (dw_e (de_fld nf_places (dm_v 0) (by decide +kernel))) (dw_e (de_meth C_Desk_number_of (hr.mono (by decide)) (dm_v 0) (by decide +kernel) (daf_cons (de_v 1) daf_nil))))))
abbrev TX_Desk_where (P:Program) (w:World) (K:PySem.W.Frag) (mg:Str→Option Value) (base:Heap):Prop:=ZS.CalXM P w K mg base "where" 4 n_Desk_where [true,false] fx_Desk_where
theorem okx_Desk_where (d:ZS.MDef K "where" "Desk.where" s_Desk_where n_Desk_where) (X_Desk_number_of:TX_Desk_number_of P w K mg base) (nf_places:ZS.NoF K "places"):TX_Desk_where P w K mg base :=
 calXM rfl (N:=n_Desk_where) (xb:=xb_Desk_where) d sc_Desk_where fun f cdv A outer s H E hr=>have nd:=sc_Desk_where.nd;have hu:=hr.units;(xss_one (xs_ret (xe_ix (dw_e (de_fld nf_places (dm_v 0) (by decide +kernel))) (xe_meth X_Desk_number_of (hr.mono (by decide)) (dm_v 0) (by decide +kernel) (daf_cons (de_v 1) daf_nil)))))
abbrev s_Desk_at_hand:Stmt:=mth 87 6
abbrev n_Desk_at_hand:List Str:=["self"]
theorem sc_Desk_at_hand:FnScope n_Desk_at_hand n_Desk_at_hand (defScope s_Desk_at_hand):=⟨rfl,rfl,rfl,by decide +kernel,rfl,by decide +kernel,by decide +kernel⟩
abbrev T_Desk_at_hand (P:Program) (w:World) (K:PySem.W.Frag) (mg:Str→Option Value) (base:Heap):Prop:=ZS.CalM P w K mg base "at_hand" 1 n_Desk_at_hand [true] (fn_Desk_at_hand)
theorem ok_Desk_at_hand (d:ZS.MDef K "at_hand" "Desk.at_hand" s_Desk_at_hand n_Desk_at_hand) (nf_guests:ZS.NoF K "guests"):T_Desk_at_hand P w K mg base :=
 calQM rfl (N:=n_Desk_at_hand) (b:=b_Desk_at_hand) d sc_Desk_at_hand fun f cdv A outer s H E hr=>have nd:=sc_Desk_at_hand.nd;have hu:=hr.units;(dss_one (ds_ret (de_fld nf_guests (dm_v 0) (by decide +kernel))))
abbrev s_Desk_seating:Stmt:=mth 87 7
abbrev n_Desk_seating:List Str:=["self"]
theorem sc_Desk_seating:FnScope n_Desk_seating n_Desk_seating (defScope s_Desk_seating):=⟨rfl,rfl,rfl,by decide +kernel,rfl,by decide +kernel,by decide +kernel⟩
abbrev T_Desk_seating (P:Program) (w:World) (K:PySem.W.Frag) (mg:Str→Option Value) (base:Heap):Prop:=ZS.CalM P w K mg base "seating" 1 n_Desk_seating [true] (fn_Desk_seating)
theorem ok_Desk_seating (d:ZS.MDef K "seating" "Desk.seating" s_Desk_seating n_Desk_seating) (nf_places:ZS.NoF K "places"):T_Desk_seating P w K mg base :=
 calQM rfl (N:=n_Desk_seating) (b:=b_Desk_seating) d sc_Desk_seating fun f cdv A outer s H E hr=>have nd:=sc_Desk_seating.nd;have hu:=hr.units;(dss_one (ds_ret (de_fld nf_places (dm_v 0) (by decide +kernel))))
abbrev s_Desk_worth:Stmt:=mth 87 8
abbrev n_Desk_worth:List Str:=["self"]
theorem sc_Desk_worth:FnScope n_Desk_worth n_Desk_worth (defScope s_Desk_worth):=⟨rfl,rfl,rfl,by decide +kernel,rfl,by decide +kernel,by decide +kernel⟩
abbrev T_Desk_worth (P:Program) (w:World) (K:PySem.W.Frag) (mg:Str→Option Value) (base:Heap):Prop:=ZS.CalM P w K mg base "worth" 3 n_Desk_worth [true] (fn_Desk_worth)
theorem ok_Desk_worth (d:ZS.MDef K "worth" "Desk.worth" s_Desk_worth n_Desk_worth) (C_worth_of:T_worth_of P w K mg base) (nf_guests:ZS.NoF K "guests") (nf_places:ZS.NoF K "places"):T_Desk_worth P w K mg base :=
 calQM rfl (N:=n_Desk_worth) (b:=b_Desk_worth) d sc_Desk_worth fun f cdv A outer s H E hr=>have nd:=sc_Desk_worth.nd;have hu:=hr.units;(dss_one (ds_ret (de_callC C_worth_of (hr.mono (by decide)) rfl (da_cAttr (de_fld nf_guests (dm_v 0) (by decide +kernel)) (da_cAttr (de_fld nf_places (dm_v 0) (by decide +kernel)) da_nil)))))
abbrev s_Desk_show_all:Stmt:=mth 87 9
abbrev n_Desk_show_all:List Str:=["self"]
theorem sc_Desk_show_all:FnScope n_Desk_show_all n_Desk_show_all (defScope s_Desk_show_all):=⟨rfl,rfl,rfl,by decide +kernel,rfl,by decide +kernel,by decide +kernel⟩
abbrev T_Desk_show_all (P:Program) (w:World) (K:PySem.W.Frag) (mg:Str→Option Value) (base:Heap):Prop:=ZS.CalM P w K mg base "show_all" 2 n_Desk_show_all [true] (fn_Desk_show_all)
theorem ok_Desk_show_all (d:ZS.MDef K "show_all" "Desk.show_all" s_Desk_show_all n_Desk_show_all) (C_show_place:T_show_place P w K mg base) (g_zip:mg "zip" = none) {t_NAME:Tok} (c_NAME:mg "NAME" = some (.int 0 t_NAME)) (nf_guests:ZS.NoF K "guests") (nf_places:ZS.NoF K "places"):T_Desk_show_all P w K mg base :=
 calQM rfl (N:=n_Desk_show_all) (b:=b_Desk_show_all) d sc_Desk_show_all fun f cdv A outer s H E hr=>have nd:=sc_Desk_show_all.nd;have hu:=hr.units;(dss_cons (ds_if (dt_cmpC (ZS.c_eq hu) (dw_e (de_fld nf_guests (dm_v 0) (by decide +kernel))) (dw_e (de_tup da_nil)) (nomark _)) (dss_one (ds_ret (de_str (by decide +kernel)))) dss_nil) (dss_one (ds_ret (de_join (de_str (by decide +kernel)) (dw_l (dl_comp rfl (di_j (dj_zip rfl g_zip (de_fld nf_guests (dm_v 0) (by decide +kernel)) (de_fld nf_places (dm_v 0) (by decide +kernel)))) (N':=["guest", "place"]) (n:=2) (is:=[]) (ZS.Blk.of (by kernel_rfl)) (ZS.gTup_keep (by decide)) (fun _ _ _ _ _ _=>(dg_tup rfl (dgs_cons (i:=0) (show List.Nodup (["guest", "place"]:List Str) by decide +kernel) rfl (lo rfl) (dgs_cons (i:=1) (show List.Nodup (["guest", "place"]:List Str) by decide +kernel) rfl (lo rfl) dgs_nil)) rfl)) (fun _ _ _ _ _=>tst_no) (fun _ _ _ _ _=>(de_add (dw_e (de_add (dw_e (de_ix (dw_v 0) (dw_e (de_globI rfl c_NAME)))) (dw_e (de_str (by decide +kernel))))) (dw_e (de_callC C_show_place (hr.mono (by decide)) rfl (da_cName (de_v 1) da_nil)))))))))))
abbrev s_Desk_say:Stmt:=mth 87 10
abbrev n_Desk_say:List Str:=["self", "row", "parts"]
abbrev p_Desk_say:List Str:=["self", "row"]
theorem sc_Desk_say:FnScope n_Desk_say p_Desk_say (defScope s_Desk_say):=⟨rfl,rfl,rfl,by decide +kernel,rfl,by decide +kernel,by decide +kernel⟩
abbrev T_Desk_say (P:Program) (w:World) (K:PySem.W.Frag) (mg:Str→Option Value) (base:Heap):Prop:=ZS.CalM P w K mg base "say" 4 p_Desk_say [true,false] (fn_Desk_say)
theorem ok_Desk_say (d:ZS.MDef K "say" "Desk.say" s_Desk_say p_Desk_say) (C_Desk_show_all:T_Desk_show_all P w K mg base) (C_Desk_worth:T_Desk_worth P w K mg base) (g_isinstance:mg "isinstance" = none) (g_str:mg "str" = none):T_Desk_say P w K mg base :=
 calQM rfl (N:=n_Desk_say) (b:=b_Desk_say) d sc_Desk_say fun f cdv A outer s H E hr=>have nd:=sc_Desk_say.nd;have hu:=hr.units;(dss_cons (ds_if (dt_not (dt_e (de_isinst .str rfl g_isinstance bb_isinstance rfl g_str bb_str (dw_v 1)))) (dss_one ds_bad) dss_nil) (dss_cons (ds_if (dt_cmpC (ZS.c_eq hu) (dw_v 1) (dw_e (de_str (by decide +kernel))) (nomark _)) (dss_one (ds_ret (de_meth0 C_Desk_show_all (hr.mono (by decide)) (dm_v 0) (by decide +kernel)))) dss_nil) (dss_cons (ds_if (dt_cmpC (ZS.c_eq hu) (dw_v 1) (dw_e (de_str (by decide +kernel))) (nomark _)) (dss_one (ds_ret (de_str1 rfl g_str bb_str (dw_e (de_meth0 C_Desk_worth (hr.mono (by decide)) (dm_v 0) (by decide +kernel)))))) dss_nil) (dss_cons (ds_set (i:=2) nd rfl (lo rfl) (de_part (dw_v 1) (dw_e (de_str (by decide +kernel))))) (dss_cons (ds_if (dtw (dt_or (dt_cmpC (ZS.c_notIn hu) (dw_e (de_ix (dw_v 2) (dw_e de_int))) (dw_e de_bad) (by with_unfolding_all rfl)) (dt_or1 (dt_cmpC (ZS.c_eq hu) (dw_e (de_ix (dw_v 2) (dw_e de_int))) (dw_e (de_str (by decide +kernel))) (nomark _))))) (dss_one ds_bad) dss_nil) (dss_one (ds_ret de_bad)))))))
abbrev s_law_cell_at:Stmt:=top 89
abbrev n_law_cell_at:List Str:=["_law_script", "_law_k"]
theorem sc_law_cell_at:FnScope n_law_cell_at n_law_cell_at (defScope s_law_cell_at):=⟨rfl,rfl,rfl,by decide +kernel,rfl,by decide +kernel,by decide +kernel⟩
abbrev T_law_cell_at (P:Program) (w:World) (K:PySem.W.Frag) (mg:Str→Option Value) (base:Heap):Prop:=ZS.Cal P w K mg base "_law_cell_at" 1 n_law_cell_at (KA.fn_law_cell_at)
theorem ok_law_cell_at (d:ZS.Def K mg "_law_cell_at" s_law_cell_at n_law_cell_at) (g_len:mg "len" = none):T_law_cell_at P w K mg base :=
 calQ (N:=n_law_cell_at) (b:=KA.b_law_cell_at) d sc_law_cell_at fun f cdv A outer s H E hr=>have nd:=sc_law_cell_at.nd;have hu:=hr.units;(dss_cons (ds_if (dt_cmpC ZS.c_lt (dw_v 1) (dw_e (de_len rfl g_len bb_len (dw_v 0))) (nomark _)) (dss_one (ds_ret (de_ix (dw_v 0) (dw_v 1)))) dss_nil) (dss_one (ds_ret de_int)))
abbrev s_law_mixed:Stmt:=top 90
abbrev n_law_mixed:List Str:=["_law_cell", "_law_many", "_law_number", "_law_found", "_law_k"]
abbrev p_law_mixed:List Str:=["_law_cell", "_law_many"]
theorem sc_law_mixed:FnScope n_law_mixed p_law_mixed (defScope s_law_mixed):=⟨rfl,rfl,rfl,by decide +kernel,rfl,by decide +kernel,by decide +kernel⟩
abbrev T_law_mixed (P:Program) (w:World) (K:PySem.W.Frag) (mg:Str→Option Value) (base:Heap):Prop:=ZS.Cal P w K mg base "_law_mixed" 1 p_law_mixed (fn_law_mixed)
theorem ok_law_mixed (d:ZS.Def K mg "_law_mixed" s_law_mixed p_law_mixed) (g_range:mg "range" = none):T_law_mixed P w K mg base :=
 calQ (N:=n_law_mixed) (b:=b_law_mixed) d sc_law_mixed fun f cdv A outer s H E hr=>have nd:=sc_law_mixed.nd;have hu:=hr.units;(dss_cons (ds_set (i:=2) nd rfl (lo rfl) (de_add (dw_e de_int) (dw_e (de_mod (dw_v 0) (dw_e de_int))))) (dss_cons (ds_own (i:=3) nd rfl (lo rfl) (dl_disp da_nil)) (dss_cons (ds_for PassesOwn.never rfl (dj_rng1 rfl g_range (de_v 1)) (dg_name (i:=4) nd rfl (lo rfl)) (dss_cons (ds_set (i:=2) nd rfl (lo rfl) (de_mod (dw_e (de_mul (dw_v 2) (dw_e de_int))) (dw_e de_int))) (dss_one (ds_app (i:=3) (pv 3) (de_v 2))))) (dss_frz (i:=3) (dss_one (ds_ret (de_v 3)))))))
abbrev s_law_names:Stmt:=top 91
abbrev n_law_names:List Str:=["_law_cell", "_law_many", "_law_letters_here", "_law_size", "_law_at", "_law_step", "_law_names_here", "_law_k", "_law_name", "_law_j", "_law_turn"]
abbrev p_law_names:List Str:=["_law_cell", "_law_many"]
theorem sc_law_names:FnScope n_law_names p_law_names (defScope s_law_names):=⟨rfl,rfl,rfl,by decide +kernel,rfl,by decide +kernel,by decide +kernel⟩
abbrev T_law_names (P:Program) (w:World) (K:PySem.W.Frag) (mg:Str→Option Value) (base:Heap):Prop:=ZS.Cal P w K mg base "_law_names" 1 p_law_names (fn_law_names)
theorem ok_law_names (d:ZS.Def K mg "_law_names" s_law_names p_law_names) (g_int:mg "int" = none) (g_range:mg "range" = none):T_law_names P w K mg base :=
 calQ (N:=n_law_names) (b:=b_law_names) d sc_law_names fun f cdv A outer s H E hr=>have nd:=sc_law_names.nd;have hu:=hr.units;(dss_cons (ds_set (i:=2) nd rfl (lo rfl) (de_str (by decide +kernel))) (dss_cons (ds_set (i:=3) nd rfl (lo rfl) (de_add (dw_e de_int) (dw_e (de_mod (dw_v 0) (dw_e de_int))))) (dss_cons (ds_set (i:=4) nd rfl (lo rfl) (de_mod (dw_e (de_div (dw_v 0) (dw_e de_int))) (dw_v 3))) (dss_cons (ds_set (i:=5) nd rfl (lo rfl) (de_ix (dw_l (dl_disp (da_cConst de_int (da_cConst de_int (da_cConst de_int (da_cConst de_int (da_cConst de_int (da_cConst de_int da_nil)))))))) (dw_e (de_mod (dw_e (de_div (dw_v 0) (dw_e de_int))) (dw_e de_int))))) (dss_cons (ds_own (i:=6) nd rfl (lo rfl) (dl_disp da_nil)) (dss_cons (ds_for PassesOwn.never rfl (dj_rng1 rfl g_range (de_v 1)) (dg_name (i:=7) nd rfl (lo rfl)) (dss_cons (ds_set (i:=8) nd rfl (lo rfl) (de_str (by decide +kernel))) (dss_cons (ds_for PassesOwn.never rfl (dj_rng1 rfl g_range (de_v 3)) (dg_name (i:=9) nd rfl (lo rfl)) (dss_cons (ds_set (i:=10) nd rfl (lo rfl) (de_mul (dw_e (de_mul (dw_v 5) (dw_v 7))) (dw_e (de_int1 rfl g_int bb_int (dw_e (de_cmpC (ZS.c_eq hu) (dw_v 9) (dw_v 4) (nomark _))))))) (dss_one (ds_set (i:=8) nd rfl (lo rfl) (de_add (dw_v 8) (dw_e (de_ix (dw_v 2) (dw_e (de_mod (dw_e (de_add (dw_e (de_div (dw_v 0) (dw_e (de_add (dw_e de_int) (dw_e (de_mul (dw_e (de_mul (dw_e de_int) (dw_v 9))) (dw_v 9))))))) (dw_v 10))) (dw_e de_int)))))))))) (dss_one (ds_app (i:=6) (pv 6) (de_v 8)))))) (dss_frz (i:=6) (dss_one (ds_ret (de_v 6))))))))))
abbrev s_law_letters:Stmt:=top 92
abbrev n_law_letters:List Str:=["_law_cell", "_law_letters_here"]
abbrev p_law_letters:List Str:=["_law_cell"]
theorem sc_law_letters:FnScope n_law_letters p_law_letters (defScope s_law_letters):=⟨rfl,rfl,rfl,by decide +kernel,rfl,by decide +kernel,by decide +kernel⟩
abbrev T_law_letters (P:Program) (w:World) (K:PySem.W.Frag) (mg:Str→Option Value) (base:Heap):Prop:=ZS.Cal P w K mg base "_law_letters" 1 p_law_letters (fn_law_letters)
theorem ok_law_letters (d:ZS.Def K mg "_law_letters" s_law_letters p_law_letters)  : T_law_letters P w K mg base :=
 calQ (N:=n_law_letters) (b:=b_law_letters) d sc_law_letters fun f cdv A outer s H E hr=>have nd:=sc_law_letters.nd;have hu:=hr.units;(dss_cons (ds_set (i:=1) nd rfl (lo rfl) (de_str (by decide +kernel))) (dss_one (ds_ret (de_add (dw_e (de_ix (dw_v 1) (dw_e (de_mod (dw_v 0) (dw_e de_int))))) (dw_e (de_ix (dw_v 1) (dw_e (de_mod (dw_e (de_add (dw_e (de_add (dw_v 0) (dw_e de_int))) (dw_e (de_mod (dw_e (de_div (dw_v 0) (dw_e de_int))) (dw_e de_int))))) (dw_e de_int)))))))))
abbrev s_law_hall:Stmt:=top 93
abbrev n_law_hall:List Str:=["_law_script", "_law_first", "_law_many", "_law_columns", "_law_signs", "_law_rows", "_law_r", "_law_numbers"]
abbrev p_law_hall:List Str:=["_law_script"]
theorem sc_law_hall:FnScope n_law_hall p_law_hall (defScope s_law_hall):=⟨rfl,rfl,rfl,by decide +kernel,rfl,by decide +kernel,by decide +kernel⟩
abbrev T_law_hall (P:Program) (w:World) (K:PySem.W.Frag) (mg:Str→Option Value) (base:Heap):Prop:=ZS.Cal P w K mg base "_law_hall" 2 p_law_hall (fn_law_hall)
theorem ok_law_hall (d:ZS.Def K mg "_law_hall" s_law_hall p_law_hall) (C_law_cell_at:T_law_cell_at P w K mg base) (C_law_letters:T_law_letters P w K mg base) (C_law_mixed:T_law_mixed P w K mg base) (g_range:mg "range" = none) (g_tuple:mg "tuple" = none):T_law_hall P w K mg base :=
 calQ (N:=n_law_hall) (b:=b_law_hall) d sc_law_hall fun f cdv A outer s H E hr=>have nd:=sc_law_hall.nd;have hu:=hr.units;(dss_cons (ds_set (i:=1) nd rfl (lo rfl) (de_callC C_law_cell_at (hr.mono (by decide)) rfl (da_cName (de_v 0) (da_cConst de_int da_nil)))) (dss_cons (ds_set (i:=2) nd rfl (lo rfl) (de_ix (dw_l (dl_disp (da_cConst de_int (da_cConst de_int (da_cConst de_int (da_cConst de_int (da_cConst de_int (da_cConst de_int (da_cConst de_int (da_cConst de_int da_nil)))))))))) (dw_e (de_mod (dw_v 1) (dw_e de_int))))) (dss_cons (ds_set (i:=3) nd rfl (lo rfl) (de_ix (dw_l (dl_disp (da_cConst de_int (da_cConst de_int (da_cConst de_int (da_cConst de_int (da_cConst de_int (da_cConst de_int (da_cConst de_int (da_cConst de_int da_nil)))))))))) (dw_e (de_mod (dw_e (de_div (dw_v 1) (dw_e de_int))) (dw_e de_int))))) (dss_cons (ds_set (i:=4) nd rfl (lo rfl) (de_add (dw_e (de_str (by decide +kernel))) (dw_e (de_callC C_law_letters (hr.mono (by decide)) rfl (da_cBin (de_div (dw_v 1) (dw_e de_int)) da_nil))))) (dss_cons (ds_own (i:=5) nd rfl (lo rfl) (dl_disp da_nil)) (dss_cons (ds_for PassesOwn.never rfl (dj_rng1 rfl g_range (de_v 2)) (dg_name (i:=6) nd rfl (lo rfl)) (dss_cons (ds_set (i:=7) nd rfl (lo rfl) (de_callC C_law_mixed (hr.mono (by decide)) rfl (da_cBin (de_add (dw_e (de_callC C_law_cell_at (hr.mono (by decide)) rfl (da_cName (de_v 0) (da_cConst de_int da_nil)))) (dw_e (de_mul (dw_e de_int) (dw_v 6)))) (da_cName (de_v 3) da_nil)))) (dss_one (ds_app (i:=5) (pv 5) (de_join (de_str (by decide +kernel)) (dw_l (dl_comp rfl (di_seq (dw_v 7)) (N':=["_law_number", "_law_signs"]) (n:=1) (is:=[4]) (ZS.Blk.of (by kernel_rfl)) (ZS.gName_keep (by decide)) (fun _ _ _ _ _ _=>(dg_name (i:=0) (show List.Nodup (["_law_number", "_law_signs"]:List Str) by decide +kernel) rfl (lo rfl))) (fun _ _ _ _ _=>tst_no) (fun _ _ _ _ _=>(de_ix (dw_v 1) (dw_e (de_mod (dw_e (de_div (dw_v 0) (dw_e de_int))) (dw_e de_int)))))))))))) (dss_one (ds_ret (de_tuple rfl g_tuple bb_tuple (dw_v 5))))))))))
abbrev s_law_no_hall:Stmt:=top 94
abbrev n_law_no_hall:List Str:=["_law_hall_here", "_law_cell", "_law_sign", "_law_at", "_law_row", "_law_some"]
abbrev p_law_no_hall:List Str:=["_law_hall_here", "_law_cell"]
theorem sc_law_no_hall:FnScope n_law_no_hall p_law_no_hall (defScope s_law_no_hall):=⟨rfl,rfl,rfl,by decide +kernel,rfl,by decide +kernel,by decide +kernel⟩
abbrev T_law_no_hall (P:Program) (w:World) (K:PySem.W.Frag) (mg:Str→Option Value) (base:Heap):Prop:=ZS.Cal P w K mg base "_law_no_hall" 1 p_law_no_hall (fn_law_no_hall)
theorem ok_law_no_hall (d:ZS.Def K mg "_law_no_hall" s_law_no_hall p_law_no_hall) (g_len:mg "len" = none) (g_list:mg "list" = none):T_law_no_hall P w K mg base :=
 calQ (N:=n_law_no_hall) (b:=b_law_no_hall) d sc_law_no_hall fun f cdv A outer s H E hr=>have nd:=sc_law_no_hall.nd;have hu:=hr.units;(dss_cons (ds_set (i:=2) nd rfl (lo rfl) (de_ix (dw_l (dl_disp (da_cConst (de_str (by decide +kernel)) (da_cConst (de_str (by decide +kernel)) (da_cConst (de_str (by decide +kernel)) (da_cConst (de_str (by decide +kernel)) (da_cConst (de_str (by decide +kernel)) (da_cConst (de_str (by decide +kernel)) (da_cConst (de_str (by decide +kernel)) (da_cConst (de_str (by decide +kernel)) da_nil)))))))))) (dw_e (de_mod (dw_e (de_div (dw_v 1) (dw_e de_int))) (dw_e de_int))))) (dss_cons (ds_set (i:=3) nd rfl (lo rfl) (de_mod (dw_e (de_div (dw_v 1) (dw_e de_int))) (dw_e (de_len rfl g_len bb_len (dw_v 0))))) (dss_cons (ds_set (i:=4) nd rfl (lo rfl) (de_ix (dw_v 0) (dw_v 3))) (dss_cons (ds_own (i:=5) nd rfl (lo rfl) (dl_disp (da_cBin (de_add (dw_e (de_add (dw_e (de_slice (dw_v 0) dp_no (dp_at (dw_v 3)))) (dw_e (de_tup (da_cBin (de_add (dw_v 4) (dw_v 2)) da_nil))))) (dw_e (de_slice (dw_v 0) (dp_at (dw_e (de_add (dw_v 3) (dw_e de_int)))) dp_no))) (da_cBin (de_add (dw_e (de_add (dw_e (de_slice (dw_v 0) dp_no (dp_at (dw_v 3)))) (dw_e (de_tup (da_cBin (de_add (dw_v 2) (dw_v 4)) da_nil))))) (dw_e (de_slice (dw_v 0) (dp_at (dw_e (de_add (dw_v 3) (dw_e de_int)))) dp_no))) da_nil)))) (dss_cons (ds_own (i:=5) nd rfl (lo rfl) (dl_cat (dw_v 5) (dw_l (dl_disp (da_cCall (de_l (dl_list rfl g_list bb_list (dw_v 0))) (da_cCall (de_joinT (de_str (by decide +kernel)) (dw_v 0)) (da_cBin (de_add (dw_v 0) (dw_e (de_tup (da_cBin (de_add (dw_v 4) (dw_e (de_str (by decide +kernel)))) da_nil)))) (da_cBin (de_add (dw_v 0) (dw_e (de_tup (da_cConst de_non da_nil)))) (da_cBin (de_add (dw_v 0) (dw_e (de_tup (da_cTuple (de_tup da_nil) da_nil)))) (da_cBin (de_add (dw_v 0) (dw_e (de_tup (da_cList (de_l (dl_disp (da_cConst (de_str (by decide +kernel)) da_nil))) da_nil)))) da_nil)))))))))) (dss_cons (ds_own (i:=5) nd rfl (lo rfl) (dl_cat (dw_v 5) (dw_l (dl_disp (da_cTuple (de_tup da_nil) (da_cBin (de_repT (dw_e (de_tup (da_cSub (de_ix (dw_v 0) (dw_e de_int)) da_nil))) (dw_e de_int)) (da_cTuple (de_tup (da_cBin (de_rep (dw_e (de_str (by decide +kernel))) (dw_e de_int)) da_nil)) (da_cTuple (de_tup (da_cConst (de_str (by decide +kernel)) da_nil)) (da_cTuple (de_tup (da_cConst (de_str (by decide +kernel)) (da_cConst (de_str (by decide +kernel)) da_nil))) (da_cConst de_non (da_cConst de_int (da_cConst de_bl (da_cConst (de_str (by decide +kernel)) (da_cList (de_l (dl_disp da_nil)) (da_cDict de_dct0 (da_cTuple (de_tup (da_cName (de_v 0) da_nil)) da_nil)))))))))))))))) (dss_cons (ds_if (dtw (dt_or (dt_cmpC (ZS.c_eq hu) (dw_e (de_add (dw_v 4) (dw_v 2))) (dw_v 4) (nomark _)) (dt_or1 (dtw (dt_and (dt_cmpC (ZS.c_eq hu) (dw_e (de_len rfl g_len bb_len (dw_v 0))) (dw_e de_int) (nomark _)) (dt_and1 (dt_cmpC (ZS.c_eq hu) (dw_v 2) (dw_e (de_str (by decide +kernel))) (nomark _)))))))) (dss_cons (ds_putQ (i:=5) (pv 5) de_int (de_add (dw_v 0) (dw_e (de_tup (da_cConst de_int da_nil))))) (dss_one (ds_putQ (i:=5) (pv 5) de_int (de_add (dw_v 0) (dw_e (de_tup (da_cConst (de_str (by decide +kernel)) da_nil))))))) dss_nil) (dss_one (ds_ret (de_ix (dw_v 5) (dw_e (de_mod (dw_v 1) (dw_e (de_len rfl g_len bb_len (dw_v 5)))))))))))))))
abbrev s_law_refused:Stmt:=top 95
abbrev n_law_refused:List Str:=["_law_thing", "_law_kinds", "e"]
abbrev p_law_refused:List Str:=["_law_thing"]
theorem sc_law_refused:FnScope n_law_refused p_law_refused (defScope s_law_refused):=⟨rfl,rfl,rfl,by decide +kernel,rfl,by decide +kernel,by decide +kernel⟩
abbrev T_law_refused (P:Program) (w:World) (K:PySem.W.Frag) (mg:Str→Option Value) (base:Heap):Prop:=ZS.Cal P w K mg base "_law_refused" 7 p_law_refused (fn_law_refused)
theorem ok_law_refused (d:ZS.Def K mg "_law_refused" s_law_refused p_law_refused) (g_ValueError:mg "ValueError" = none) (g_isinstance:mg "isinstance" = none) (X_Desk_init:TX_Desk_init P w K mg base) {A_Full:Addr} (m_Full:mg "Full" = some (.ref A_Full)) {A_NoGroup:Addr} (m_NoGroup:mg "NoGroup" = some (.ref A_NoGroup)) {A_NoHall:Addr} (m_NoHall:mg "NoHall" = some (.ref A_NoHall)) {A_NoName:Addr} (m_NoName:mg "NoName" = some (.ref A_NoName)) {A_NoRow:Addr} (m_NoRow:mg "NoRow" = some (.ref A_NoRow)) {A_NoSeating:Addr} (m_NoSeating:mg "NoSeating" = some (.ref A_NoSeating)) {A_NoText:Addr} (m_NoText:mg "NoText" = some (.ref A_NoText)) {A_SeatError:Addr} (m_SeatError:mg "SeatError" = some (.ref A_SeatError)) {A_TooGreat:Addr} (m_TooGreat:mg "TooGreat" = some (.ref A_TooGreat)) {A_Twice:Addr} (m_Twice:mg "Twice" = some (.ref A_Twice)) (x_SeatError:ZS.XC K [83,101,97,116,69,114,114,111,114] A_SeatError) (su_NoHall_SeatError:ZS.SubK K [78,111,72,97,108,108] A_SeatError) (i_NoHall_Full:ZS.IsK K [78,111,72,97,108,108] (.ref A_Full) false) (i_NoHall_NoGroup:ZS.IsK K [78,111,72,97,108,108] (.ref A_NoGroup) false) (i_NoHall_NoHall:ZS.IsK K [78,111,72,97,108,108] (.ref A_NoHall) true) (i_NoHall_NoName:ZS.IsK K [78,111,72,97,108,108] (.ref A_NoName) false) (i_NoHall_NoRow:ZS.IsK K [78,111,72,97,108,108] (.ref A_NoRow) false) (i_NoHall_NoSeating:ZS.IsK K [78,111,72,97,108,108] (.ref A_NoSeating) false) (i_NoHall_NoText:ZS.IsK K [78,111,72,97,108,108] (.ref A_NoText) false) (i_NoHall_TooGreat:ZS.IsK K [78,111,72,97,108,108] (.ref A_TooGreat) false) (i_NoHall_Twice:ZS.IsK K [78,111,72,97,108,108] (.ref A_Twice) false) (i_NoHall_ValueError:ZS.IsK K [78,111,72,97,108,108] (.type "ValueError") true):T_law_refused P w K mg base :=
 calQ (N:=n_law_refused) (b:=b_law_refused) d sc_law_refused fun f cdv A outer s H E hr=>have nd:=sc_law_refused.nd;have hu:=hr.units;(dss_cons (ds_set (i:=1) nd rfl (lo rfl) de_non) (dss_cons (ds_tryS (i:=2) rfl rfl rfl nd rfl (by kernel_rfl) rfl m_SeatError x_SeatError (ZS.subs_cons su_NoHall_SeatError ZS.subs_nil) (dss_one (ds_drop de_bad)) (fun _ _=>(xrs_one (xr_drop (xe_make X_Desk_init (hr.mono (by decide)) rfl (de_v 0))))) (fun _=>(dss_cons (ds_set (i:=1) nd rfl (lo rfl) (de_l (dl_disp (da_cCall (de_isXO rfl g_isinstance bb_isinstance (pv 2) rfl m_NoHall i_NoHall_NoHall) (da_cCall (de_isXB rfl g_isinstance bb_isinstance (pv 2) rfl g_ValueError bb_ValueError i_NoHall_ValueError) (da_cCall (de_isXO rfl g_isinstance bb_isinstance (pv 2) rfl m_NoGroup i_NoHall_NoGroup) (da_cCall (de_isXO rfl g_isinstance bb_isinstance (pv 2) rfl m_NoText i_NoHall_NoText) da_nil))))))) (dss_cons (ds_set (i:=1) nd rfl (lo rfl) (de_l (dl_cat (dw_v 1) (dw_l (dl_disp (da_cCall (de_isXO rfl g_isinstance bb_isinstance (pv 2) rfl m_NoSeating i_NoHall_NoSeating) (da_cCall (de_isXO rfl g_isinstance bb_isinstance (pv 2) rfl m_NoRow i_NoHall_NoRow) (da_cCall (de_isXO rfl g_isinstance bb_isinstance (pv 2) rfl m_NoName i_NoHall_NoName) da_nil)))))))) (dss_one (ds_set (i:=1) nd rfl (lo rfl) (de_l (dl_cat (dw_v 1) (dw_l (dl_disp (da_cCall (de_isXO rfl g_isinstance bb_isinstance (pv 2) rfl m_Twice i_NoHall_Twice) (da_cCall (de_isXO rfl g_isinstance bb_isinstance (pv 2) rfl m_Full i_NoHall_Full) (da_cCall (de_isXO rfl g_isinstance bb_isinstance (pv 2) rfl m_TooGreat i_NoHall_TooGreat) da_nil))))))))))))) (dss_one (ds_ret (de_cmpC (ZS.c_eq hu) (dw_v 1) (dw_l (dl_cat (dw_l (dl_disp (da_cConst de_bl (da_cConst de_bl da_nil)))) (dw_l (dl_rep (dl_disp (da_cConst de_bl da_nil)) (dw_e de_int))))) (nomark _))))))
abbrev s_law_no_name:Stmt:=top 96
abbrev n_law_no_name:List Str:=["_law_desk", "_law_way", "_law_name", "_law_found", "e"]
abbrev p_law_no_name:List Str:=["_law_desk", "_law_way", "_law_name"]
theorem sc_law_no_name:FnScope n_law_no_name p_law_no_name (defScope s_law_no_name):=⟨rfl,rfl,rfl,by decide +kernel,rfl,by decide +kernel,by decide +kernel⟩
abbrev T_law_no_name (P:Program) (w:World) (K:PySem.W.Frag) (mg:Str→Option Value) (base:Heap):Prop:=ZS.CalB P w K mg base "_law_no_name" 5 p_law_no_name [true,false,false] (fn_law_no_name)
theorem ok_law_no_name (d:ZS.Def K mg "_law_no_name" s_law_no_name p_law_no_name) (C_Desk_away:T_Desk_away P w K mg base) (C_Desk_fast:T_Desk_fast P w K mg base) (C_Desk_where:T_Desk_where P w K mg base) (g_isinstance:mg "isinstance" = none) (X_Desk_away:TX_Desk_away P w K mg base) (X_Desk_fast:TX_Desk_fast P w K mg base) (X_Desk_where:TX_Desk_where P w K mg base) {A_NoGroup:Addr} (m_NoGroup:mg "NoGroup" = some (.ref A_NoGroup)) {A_NoName:Addr} (m_NoName:mg "NoName" = some (.ref A_NoName)) {A_NoRow:Addr} (m_NoRow:mg "NoRow" = some (.ref A_NoRow)) {A_SeatError:Addr} (m_SeatError:mg "SeatError" = some (.ref A_SeatError)) (i_NoName_NoGroup:ZS.IsK K [78,111,78,97,109,101] (.ref A_NoGroup) false) (i_NoName_NoRow:ZS.IsK K [78,111,78,97,109,101] (.ref A_NoRow) false) (i_NoName_SeatError:ZS.IsK K [78,111,78,97,109,101] (.ref A_SeatError) true):T_law_no_name P w K mg base :=
 calQB rfl (N:=n_law_no_name) (b:=b_law_no_name) d sc_law_no_name fun f cdv A outer s H E hr=>have nd:=sc_law_no_name.nd;have hu:=hr.units;(dss_cons (ds_set (i:=3) nd rfl (lo rfl) de_bl) (dss_cons (ds_try (i:=4) rfl rfl rfl nd rfl (by kernel_rfl) rfl (by decide +kernel) (dss_one (ds_if (dt_cmpC (ZS.c_eq hu) (dw_v 1) (dw_e de_int) (nomark _)) (dss_one (ds_drop (de_meth C_Desk_fast (hr.mono (by decide)) (dm_v 0) (by decide +kernel) (daf_cons (de_v 2) daf_nil)))) (dss_one (ds_if (dt_cmpC (ZS.c_eq hu) (dw_v 1) (dw_e de_int) (nomark _)) (dss_one (ds_drop (de_meth C_Desk_away (hr.mono (by decide)) (dm_v 0) (by decide +kernel) (daf_cons (de_v 2) daf_nil)))) (dss_one (ds_drop (de_meth C_Desk_where (hr.mono (by decide)) (dm_v 0) (by decide +kernel) (daf_cons (de_v 2) daf_nil)))))))) (fun _ _=>(xrs_one (xr_if (dt_cmpC (ZS.c_eq hu) (dw_v 1) (dw_e de_int) (nomark _)) (xrs_one (xr_drop (xe_meth X_Desk_fast (hr.mono (by decide)) (dm_v 0) (by decide +kernel) (daf_cons (de_v 2) daf_nil)))) (xrs_one (xr_if (dt_cmpC (ZS.c_eq hu) (dw_v 1) (dw_e de_int) (nomark _)) (xrs_one (xr_drop (xe_meth X_Desk_away (hr.mono (by decide)) (dm_v 0) (by decide +kernel) (daf_cons (de_v 2) daf_nil)))) (xrs_one (xr_drop (xe_meth X_Desk_where (hr.mono (by decide)) (dm_v 0) (by decide +kernel) (daf_cons (de_v 2) daf_nil))))))))) (fun _=>(dss_one (ds_set (i:=3) nd rfl (lo rfl) (de_and (de_isXO rfl g_isinstance bb_isinstance (pv 4) rfl m_SeatError i_NoName_SeatError) (de_and (de_not (de_isXO rfl g_isinstance bb_isinstance (pv 4) rfl m_NoGroup i_NoName_NoGroup)) (de_one (de_not (de_isXO rfl g_isinstance bb_isinstance (pv 4) rfl m_NoRow i_NoName_NoRow))))))))) (dss_one (ds_ret (de_v 3)))))
abbrev s_law:Stmt:=top 97
abbrev n_law:List Str:=["_law_script", "_law_hall_here", "_law_k", "_law_desk", "_law_name", "_law_things", "_law_way", "_law_thing"]
abbrev p_law:List Str:=["_law_script"]
theorem sc_law:FnScope n_law p_law (defScope s_law):=⟨rfl,rfl,rfl,by decide +kernel,rfl,by decide +kernel,by decide +kernel⟩
theorem ok_law {f:Addr} {fd:FuncData} (F:Fun K "law" "law" s_law f fd) (C_Desk_init:T_Desk_init P w K mg base) (C_Desk_at_hand:T_Desk_at_hand P w K mg base) (C_Desk_say:T_Desk_say P w K mg base) (C_Desk_seating:T_Desk_seating P w K mg base) (C_Desk_worth:T_Desk_worth P w K mg base) (C_law_cell_at:T_law_cell_at P w K mg base) (C_law_hall:T_law_hall P w K mg base) (C_law_names:T_law_names P w K mg base) (C_law_no_hall:T_law_no_hall P w K mg base) (C_law_no_name:T_law_no_name P w K mg base) (C_law_refused:T_law_refused P w K mg base) (g_bool:mg "bool" = none) (g_isinstance:mg "isinstance" = none) (g_range:mg "range" = none):FnOk P w K mg base CX0 8 f fd p_law (ZS.spZ K fn_law) :=
 fnQ (N:=n_law) (b:=b_law) F sc_law fun cdv A outer s H E hr=>have nd:=sc_law.nd;have hu:=hr.units;(dss_cons (ds_set (i:=1) nd rfl (lo rfl) (de_callC C_law_hall (hr.mono (by decide)) rfl (da_cName (de_v 0) da_nil))) (dss_cons (ds_for PassesOwn.never rfl (dj_rng1 rfl g_range de_int) (dg_name (i:=2) nd rfl (lo rfl)) (dss_one (ds_if (dt_not (dt_e (de_callC C_law_refused (hr.mono (by decide)) rfl (da_cCall (de_callC C_law_no_hall (hr.mono (by decide)) rfl (da_cName (de_v 1) (da_cBin (de_add (dw_e (de_div (dw_e (de_callC C_law_cell_at (hr.mono (by decide)) rfl (da_cName (de_v 0) (da_cConst de_int da_nil)))) (dw_e (de_add (dw_v 2) (dw_e de_int))))) (dw_e (de_mul (dw_e de_int) (dw_v 2)))) da_nil))) da_nil)))) (dss_one (ds_ret de_bl)) dss_nil))) (dss_make (i:=3) C_Desk_init (hr.mono (by decide)) rfl nd rfl (lo rfl) (de_v 1) (fun _=>(dss_cons (ds_if (dtw (dt_or (dt_cmpC (ZS.c_ne hu) (dw_e (de_meth0 C_Desk_at_hand (hr.mono (by decide)) (dm_v 3) (by decide +kernel))) (dw_e (de_tup da_nil)) (nomark _)) (dt_or (dt_cmpC (ZS.c_ne hu) (dw_e (de_meth0 C_Desk_seating (hr.mono (by decide)) (dm_v 3) (by decide +kernel))) (dw_e (de_tup da_nil)) (nomark _)) (dt_or (dt_cmpC (ZS.c_ne hu) (dw_e (de_meth0 C_Desk_worth (hr.mono (by decide)) (dm_v 3) (by decide +kernel))) (dw_e de_int) (nomark _)) (dt_or1 (dt_e (de_isinst .bool rfl g_isinstance bb_isinstance rfl g_bool bb_bool (dw_e (de_meth0 C_Desk_worth (hr.mono (by decide)) (dm_v 3) (by decide +kernel)))))))))) (dss_one (ds_ret de_bl)) dss_nil) (dss_cons (ds_if (dtw (dt_or (dt_cmpC (ZS.c_ne hu) (dw_e (de_meth C_Desk_say (hr.mono (by decide)) (dm_v 3) (by decide +kernel) (daf_cons (de_str (by decide +kernel)) daf_nil))) (dw_e (de_str (by decide +kernel))) (nomark _)) (dt_or1 (dt_cmpC (ZS.c_ne hu) (dw_e (de_meth C_Desk_say (hr.mono (by decide)) (dm_v 3) (by decide +kernel) (daf_cons (de_str (by decide +kernel)) daf_nil))) (dw_e (de_str (by decide +kernel))) (nomark _))))) (dss_one (ds_ret de_bl)) dss_nil) (dss_cons (ds_set (i:=4) nd rfl (lo rfl) (de_ix (dw_e (de_callC C_law_names (hr.mono (by decide)) rfl (da_cCall (de_callC C_law_cell_at (hr.mono (by decide)) rfl (da_cName (de_v 0) (da_cConst de_int da_nil))) (da_cConst de_int da_nil)))) (dw_e de_int))) (dss_cons (ds_own (i:=5) nd rfl (lo rfl) (dl_disp (da_cConst (de_str (by decide +kernel)) (da_cConst (de_str (by decide +kernel)) (da_cConst (de_str (by decide +kernel)) (da_cConst (de_str (by decide +kernel)) (da_cConst de_non (da_cConst de_int (da_cConst de_bl (da_cTuple (de_tup da_nil) (da_cTuple (de_tup (da_cName (de_v 4) da_nil)) (da_cList (de_l (dl_disp da_nil)) (da_cList (de_l (dl_disp (da_cName (de_v 4) da_nil))) (da_cDict de_dct0 da_nil)))))))))))))) (dss_cons (ds_app (i:=5) (pv 5) (de_tup (da_cName (de_v 4) (da_cConst de_int (da_cConst de_int (da_cConst (de_str (by decide +kernel)) (da_cConst de_int (da_cConst de_int (da_cConst de_int (da_cTuple (de_tup da_nil) da_nil)))))))))) (dss_cons (ds_for PassesOwn.never rfl (dj_rng1 rfl g_range de_int) (dg_name (i:=6) nd rfl (lo rfl)) (dss_one (ds_for PassesOwn.never rfl (dj_seq (de_l (dl_cat (dw_l (dl_disp (da_cName (de_v 4) da_nil))) (dw_v 5)))) (dg_name (i:=7) nd rfl (lo rfl)) (dss_one (ds_if (dt_not (dt_e (de_callB C_law_no_name (hr.mono (by decide)) rfl (daf_thing (dm_v 3) (daf_cons (de_v 6) (daf_cons (de_v 7) daf_nil)))))) (dss_one (ds_ret de_bl)) dss_nil))))) (dss_one (ds_ret (de_and (de_cmpC (ZS.c_eq hu) (dw_e (de_meth0 C_Desk_at_hand (hr.mono (by decide)) (dm_v 3) (by decide +kernel))) (dw_e (de_tup da_nil)) (nomark _)) (de_one (de_cmpC (ZS.c_eq hu) (dw_e (de_meth C_Desk_say (hr.mono (by decide)) (dm_v 3) (by decide +kernel) (daf_cons (de_str (by decide +kernel)) daf_nil))) (dw_e (de_str (by decide +kernel))) (nomark _))))))))))))))))
end
end K80
namespace K80
open PySem PySem.Spec PyProof.Rows L2 ZQ KA KS
theorem all_mk {l:PySem.W.OpenLaw} {w:World} {K:PySem.W.Frag} {h:Heap} {mg:Str→Option Value} {fa:Addr} (X:K.In h) (G:h.Ns mainGlobals mg) (hfa:mg "law" = some (.ref fa)) {A_Desk:Addr} (a0:ZS.DefK K "is_letter" s_is_letter) (a1:ZS.DefK K "is_name" s_is_name) (a2:ZS.DefK K "worth_in" s_worth_in) (a3:ZS.DefK K "is_sign" s_is_sign) (a4:ZS.DefK K "is_row" s_is_row) (a5:ZS.DefK K "is_hall" s_is_hall) (a6:ZS.DefK K "those_that_sit" s_those_that_sit) (a7:ZS.DefK K "worth_of" s_worth_of) (a8:ZS.DefK K "show_place" s_show_place) (a9:ZS.MDefK K A_Desk "__init__" "Desk.__init__" s_Desk_init) (a10:ZS.MDefK K A_Desk "number_of" "Desk.number_of" s_Desk_number_of) (a11:ZS.MDefK K A_Desk "fast" "Desk.fast" s_Desk_fast) (a12:ZS.MDefK K A_Desk "away" "Desk.away" s_Desk_away) (a13:ZS.MDefK K A_Desk "where" "Desk.where" s_Desk_where) (a14:ZS.MDefK K A_Desk "at_hand" "Desk.at_hand" s_Desk_at_hand) (a15:ZS.MDefK K A_Desk "seating" "Desk.seating" s_Desk_seating) (a16:ZS.MDefK K A_Desk "worth" "Desk.worth" s_Desk_worth) (a17:ZS.MDefK K A_Desk "show_all" "Desk.show_all" s_Desk_show_all) (a18:ZS.MDefK K A_Desk "say" "Desk.say" s_Desk_say) (a19:ZS.DefK K "_law_cell_at" s_law_cell_at) (a20:ZS.DefK K "_law_mixed" s_law_mixed) (a21:ZS.DefK K "_law_names" s_law_names) (a22:ZS.DefK K "_law_letters" s_law_letters) (a23:ZS.DefK K "_law_hall" s_law_hall) (a24:ZS.DefK K "_law_no_hall" s_law_no_hall) (a25:ZS.DefK K "_law_refused" s_law_refused) (a26:ZS.DefK K "_law_no_name" s_law_no_name) (a27:ZS.DefK K "law" s_law) {t_MOST_COLUMNS:Tok} (v_MOST_COLUMNS:PySem.W.nsIn K mainGlobals "MOST_COLUMNS" = some (some (.int 12 t_MOST_COLUMNS))) {t_MOST_LETTERS:Tok} (v_MOST_LETTERS:PySem.W.nsIn K mainGlobals "MOST_LETTERS" = some (some (.int 8 t_MOST_LETTERS))) {t_MOST_ROWS:Tok} (v_MOST_ROWS:PySem.W.nsIn K mainGlobals "MOST_ROWS" = some (some (.int 6 t_MOST_ROWS))) {t_NAME:Tok} (v_NAME:PySem.W.nsIn K mainGlobals "NAME" = some (some (.int 0 t_NAME))) {t_WISHES:Tok} (v_WISHES:PySem.W.nsIn K mainGlobals "WISHES" = some (some (.int 7 t_WISHES))) {t_WORTH:Tok} (v_WORTH:PySem.W.nsIn K mainGlobals "WORTH" = some (some (.int 6 t_WORTH))) (n_ValueError:PySem.W.nsIn K mainGlobals "ValueError" = some none) (n_all:PySem.W.nsIn K mainGlobals "all" = some none) (n_bool:PySem.W.nsIn K mainGlobals "bool" = some none) (n_enumerate:PySem.W.nsIn K mainGlobals "enumerate" = some none) (n_int:PySem.W.nsIn K mainGlobals "int" = some none) (n_isinstance:PySem.W.nsIn K mainGlobals "isinstance" = some none) (n_len:PySem.W.nsIn K mainGlobals "len" = some none) (n_list:PySem.W.nsIn K mainGlobals "list" = some none) (n_range:PySem.W.nsIn K mainGlobals "range" = some none) (n_str:PySem.W.nsIn K mainGlobals "str" = some none) (n_sum:PySem.W.nsIn K mainGlobals "sum" = some none) (n_tuple:PySem.W.nsIn K mainGlobals "tuple" = some none) (n_zip:PySem.W.nsIn K mainGlobals "zip" = some none) (w_Desk:PySem.W.nsIn K mainGlobals "Desk" = some (some (.ref A_Desk))) {A_Full:Addr} (w_Full:PySem.W.nsIn K mainGlobals "Full" = some (some (.ref A_Full))) {A_NoGroup:Addr} (w_NoGroup:PySem.W.nsIn K mainGlobals "NoGroup" = some (some (.ref A_NoGroup))) {A_NoHall:Addr} (w_NoHall:PySem.W.nsIn K mainGlobals "NoHall" = some (some (.ref A_NoHall))) {A_NoName:Addr} (w_NoName:PySem.W.nsIn K mainGlobals "NoName" = some (some (.ref A_NoName))) {A_NoRow:Addr} (w_NoRow:PySem.W.nsIn K mainGlobals "NoRow" = some (some (.ref A_NoRow))) {A_NoSeating:Addr} (w_NoSeating:PySem.W.nsIn K mainGlobals "NoSeating" = some (some (.ref A_NoSeating))) {A_NoText:Addr} (w_NoText:PySem.W.nsIn K mainGlobals "NoText" = some (some (.ref A_NoText))) {A_SeatError:Addr} (w_SeatError:PySem.W.nsIn K mainGlobals "SeatError" = some (some (.ref A_SeatError))) {A_TooGreat:Addr} (w_TooGreat:PySem.W.nsIn K mainGlobals "TooGreat" = some (some (.ref A_TooGreat))) {A_Twice:Addr} (w_Twice:PySem.W.nsIn K mainGlobals "Twice" = some (some (.ref A_Twice))) (xc_NoHall:ZS.xcIn K A_NoHall=true) (xc_NoName:ZS.xcIn K A_NoName=true) (xc_SeatError:ZS.xcIn K A_SeatError=true) (xi_NoHall:PySem.W.excIn K A_NoHall [.type "ValueError",.type "Exception",.type "BaseException",.type "object"] "ValueError.__new__" = true) (xi_NoName:PySem.W.excIn K A_NoName [.type "ValueError",.type "Exception",.type "BaseException",.type "object"] "ValueError.__new__" = true) (ek_NoHall:ZS.ExcK K A_NoHall) (ek_NoName:ZS.ExcK K A_NoName) (kk_NoHall_Full:PySem.W.kitOne K (.ref A_NoHall) (.ref A_Full)=some false) (kk_NoHall_NoGroup:PySem.W.kitOne K (.ref A_NoHall) (.ref A_NoGroup)=some false) (kk_NoHall_NoHall:PySem.W.kitOne K (.ref A_NoHall) (.ref A_NoHall)=some true) (kk_NoHall_NoName:PySem.W.kitOne K (.ref A_NoHall) (.ref A_NoName)=some false) (kk_NoHall_NoRow:PySem.W.kitOne K (.ref A_NoHall) (.ref A_NoRow)=some false) (kk_NoHall_NoSeating:PySem.W.kitOne K (.ref A_NoHall) (.ref A_NoSeating)=some false) (kk_NoHall_NoText:PySem.W.kitOne K (.ref A_NoHall) (.ref A_NoText)=some false) (kk_NoHall_TooGreat:PySem.W.kitOne K (.ref A_NoHall) (.ref A_TooGreat)=some false) (kk_NoHall_Twice:PySem.W.kitOne K (.ref A_NoHall) (.ref A_Twice)=some false) (kk_NoHall_ValueError:PySem.W.kitOne K (.ref A_NoHall) (.type "ValueError")=some true) (kk_NoName_NoGroup:PySem.W.kitOne K (.ref A_NoName) (.ref A_NoGroup)=some false) (kk_NoName_NoRow:PySem.W.kitOne K (.ref A_NoName) (.ref A_NoRow)=some false) (kk_NoName_SeatError:PySem.W.kitOne K (.ref A_NoName) (.ref A_SeatError)=some true) (cl_Desk:Cls K A_Desk) (mk_Desk:PySem.W.makesIn K A_Desk=true) (kp_Desk:PySem.W.keepIn K (.ref A_Desk)=true) (nf_guests:PySem.W.findIn K (.ref A_Desk) "guests" = some none) (nf_hall:PySem.W.findIn K (.ref A_Desk) "hall" = some none) (nf_held:PySem.W.findIn K (.ref A_Desk) "held" = some none) (nf_places:PySem.W.findIn K (.ref A_Desk) "places" = some none) (su_NoHall_SeatError:PySem.W.mroIn K A_NoHall (.ref A_SeatError)=some true) :
  ∃ fd:FuncData,(∀ (s:Shared) (v:Value),BindsTo s fd ⟨[v],[]⟩ [("_law_script",v)])∧∀ base:Heap,K.In base→base.Ns mainGlobals mg→FnOk l.prog w K mg base CX0 8 fa fd ["_law_script"] (ZS.spZ K fn_law):=by
 have c_MOST_COLUMNS:=PySem.W.mg_of X G v_MOST_COLUMNS
 have c_MOST_LETTERS:=PySem.W.mg_of X G v_MOST_LETTERS
 have c_MOST_ROWS:=PySem.W.mg_of X G v_MOST_ROWS
 have c_NAME:=PySem.W.mg_of X G v_NAME
 have c_WISHES:=PySem.W.mg_of X G v_WISHES
 have c_WORTH:=PySem.W.mg_of X G v_WORTH
 have g_ValueError:=PySem.W.mg_none_of X G n_ValueError
 have g_all:=PySem.W.mg_none_of X G n_all
 have g_bool:=PySem.W.mg_none_of X G n_bool
 have g_enumerate:=PySem.W.mg_none_of X G n_enumerate
 have g_int:=PySem.W.mg_none_of X G n_int
 have g_isinstance:=PySem.W.mg_none_of X G n_isinstance
 have g_len:=PySem.W.mg_none_of X G n_len
 have g_list:=PySem.W.mg_none_of X G n_list
 have g_range:=PySem.W.mg_none_of X G n_range
 have g_str:=PySem.W.mg_none_of X G n_str
 have g_sum:=PySem.W.mg_none_of X G n_sum
 have g_tuple:=PySem.W.mg_none_of X G n_tuple
 have g_zip:=PySem.W.mg_none_of X G n_zip
 have m_Desk:=PySem.W.mg_of X G w_Desk
 have m_Full:=PySem.W.mg_of X G w_Full
 have m_NoGroup:=PySem.W.mg_of X G w_NoGroup
 have m_NoHall:=PySem.W.mg_of X G w_NoHall
 have m_NoName:=PySem.W.mg_of X G w_NoName
 have m_NoRow:=PySem.W.mg_of X G w_NoRow
 have m_NoSeating:=PySem.W.mg_of X G w_NoSeating
 have m_NoText:=PySem.W.mg_of X G w_NoText
 have m_SeatError:=PySem.W.mg_of X G w_SeatError
 have m_TooGreat:=PySem.W.mg_of X G w_TooGreat
 have m_Twice:=PySem.W.mg_of X G w_Twice
 have x_NoHall:ZS.XC K [78,111,72,97,108,108] A_NoHall:=⟨by rw [show (⟨[78,111,72,97,108,108].toArray⟩:Str) = "NoHall" from by decide +kernel];exact w_NoHall,xc_NoHall⟩
 have x_NoName:ZS.XC K [78,111,78,97,109,101] A_NoName:=⟨by rw [show (⟨[78,111,78,97,109,101].toArray⟩:Str) = "NoName" from by decide +kernel];exact w_NoName,xc_NoName⟩
 have x_SeatError:ZS.XC K [83,101,97,116,69,114,114,111,114] A_SeatError:=⟨by rw [show (⟨[83,101,97,116,69,114,114,111,114].toArray⟩:Str) = "SeatError" from by decide +kernel];exact w_SeatError,xc_SeatError⟩
 have i_NoHall_Full:ZS.IsK K [78,111,72,97,108,108] (.ref A_Full) false:=⟨A_NoHall,by rw [show (⟨[78,111,72,97,108,108].toArray⟩:Str) = "NoHall" from by decide +kernel];exact w_NoHall,ek_NoHall,kk_NoHall_Full⟩
 have i_NoHall_NoGroup:ZS.IsK K [78,111,72,97,108,108] (.ref A_NoGroup) false:=⟨A_NoHall,by rw [show (⟨[78,111,72,97,108,108].toArray⟩:Str) = "NoHall" from by decide +kernel];exact w_NoHall,ek_NoHall,kk_NoHall_NoGroup⟩
 have i_NoHall_NoHall:ZS.IsK K [78,111,72,97,108,108] (.ref A_NoHall) true:=⟨A_NoHall,by rw [show (⟨[78,111,72,97,108,108].toArray⟩:Str) = "NoHall" from by decide +kernel];exact w_NoHall,ek_NoHall,kk_NoHall_NoHall⟩
 have i_NoHall_NoName:ZS.IsK K [78,111,72,97,108,108] (.ref A_NoName) false:=⟨A_NoHall,by rw [show (⟨[78,111,72,97,108,108].toArray⟩:Str) = "NoHall" from by decide +kernel];exact w_NoHall,ek_NoHall,kk_NoHall_NoName⟩
 have i_NoHall_NoRow:ZS.IsK K [78,111,72,97,108,108] (.ref A_NoRow) false:=⟨A_NoHall,by rw [show (⟨[78,111,72,97,108,108].toArray⟩:Str) = "NoHall" from by decide +kernel];exact w_NoHall,ek_NoHall,kk_NoHall_NoRow⟩
 have i_NoHall_NoSeating:ZS.IsK K [78,111,72,97,108,108] (.ref A_NoSeating) false:=⟨A_NoHall,by rw [show (⟨[78,111,72,97,108,108].toArray⟩:Str) = "NoHall" from by decide +kernel];exact w_NoHall,ek_NoHall,kk_NoHall_NoSeating⟩
 have i_NoHall_NoText:ZS.IsK K [78,111,72,97,108,108] (.ref A_NoText) false:=⟨A_NoHall,by rw [show (⟨[78,111,72,97,108,108].toArray⟩:Str) = "NoHall" from by decide +kernel];exact w_NoHall,ek_NoHall,kk_NoHall_NoText⟩
 have i_NoHall_TooGreat:ZS.IsK K [78,111,72,97,108,108] (.ref A_TooGreat) false:=⟨A_NoHall,by rw [show (⟨[78,111,72,97,108,108].toArray⟩:Str) = "NoHall" from by decide +kernel];exact w_NoHall,ek_NoHall,kk_NoHall_TooGreat⟩
 have i_NoHall_Twice:ZS.IsK K [78,111,72,97,108,108] (.ref A_Twice) false:=⟨A_NoHall,by rw [show (⟨[78,111,72,97,108,108].toArray⟩:Str) = "NoHall" from by decide +kernel];exact w_NoHall,ek_NoHall,kk_NoHall_Twice⟩
 have i_NoHall_ValueError:ZS.IsK K [78,111,72,97,108,108] (.type "ValueError") true:=⟨A_NoHall,by rw [show (⟨[78,111,72,97,108,108].toArray⟩:Str) = "NoHall" from by decide +kernel];exact w_NoHall,ek_NoHall,kk_NoHall_ValueError⟩
 have i_NoName_NoGroup:ZS.IsK K [78,111,78,97,109,101] (.ref A_NoGroup) false:=⟨A_NoName,by rw [show (⟨[78,111,78,97,109,101].toArray⟩:Str) = "NoName" from by decide +kernel];exact w_NoName,ek_NoName,kk_NoName_NoGroup⟩
 have i_NoName_NoRow:ZS.IsK K [78,111,78,97,109,101] (.ref A_NoRow) false:=⟨A_NoName,by rw [show (⟨[78,111,78,97,109,101].toArray⟩:Str) = "NoName" from by decide +kernel];exact w_NoName,ek_NoName,kk_NoName_NoRow⟩
 have i_NoName_SeatError:ZS.IsK K [78,111,78,97,109,101] (.ref A_SeatError) true:=⟨A_NoName,by rw [show (⟨[78,111,78,97,109,101].toArray⟩:Str) = "NoName" from by decide +kernel];exact w_NoName,ek_NoName,kk_NoName_SeatError⟩
 have hC:ZS.ClsN K "Desk" A_Desk:=⟨w_Desk,cl_Desk⟩
 have nf_guests:ZS.NoF K "guests" := ⟨A_Desk,w_Desk,nf_guests⟩
 have nf_hall:ZS.NoF K "hall" := ⟨A_Desk,w_Desk,nf_hall⟩
 have nf_held:ZS.NoF K "held" := ⟨A_Desk,w_Desk,nf_held⟩
 have nf_places:ZS.NoF K "places" := ⟨A_Desk,w_Desk,nf_places⟩
 have su_NoHall_SeatError:ZS.SubK K [78,111,72,97,108,108] A_SeatError:=ZS.subK_mk (by decide +kernel) w_NoHall su_NoHall_SeatError
 obtain ⟨fd,hb,F⟩:=a27.law X G hfa (x := "_law_script") fun _ _ _ _ _ _ _ _=>.of_eq rfl
 refine ⟨fd,hb,fun base _ _=>?_⟩
 have C_is_letter:T_is_letter l.prog w K mg base:=ok_is_letter (a0.df X G fun _ _ _ _ _ _=>ZS.bd1 fun _=>rfl) g_len
 have C_is_name:T_is_name l.prog w K mg base:=ok_is_name (a1.df X G fun _ _ _ _ _ _=>ZS.bd1 fun _=>rfl) C_is_letter g_all g_isinstance g_len g_str c_MOST_LETTERS
 have C_worth_in:T_worth_in l.prog w K mg base:=ok_worth_in (a2.df X G fun _ _ _ _ _ _=>ZS.bd2 fun _ _=>rfl) g_sum c_WISHES c_WORTH
 have C_is_sign:T_is_sign l.prog w K mg base:=ok_is_sign (a3.df X G fun _ _ _ _ _ _=>ZS.bd1 fun _=>rfl) C_is_letter
 have C_is_row:T_is_row l.prog w K mg base:=ok_is_row (a4.df X G fun _ _ _ _ _ _=>ZS.bd1 fun _=>rfl) C_is_sign g_all g_isinstance g_len g_str c_MOST_COLUMNS
 have C_is_hall:T_is_hall l.prog w K mg base:=ok_is_hall (a5.df X G fun _ _ _ _ _ _=>ZS.bd1 fun _=>rfl) C_is_row g_all g_isinstance g_len g_tuple c_MOST_ROWS
 have C_those_that_sit:T_those_that_sit l.prog w K mg base:=ok_those_that_sit (a6.df X G fun _ _ _ _ _ _=>ZS.bd2 fun _ _=>rfl) g_zip
 have C_worth_of:T_worth_of l.prog w K mg base:=ok_worth_of (a7.df X G fun _ _ _ _ _ _=>ZS.bd2 fun _ _=>rfl) C_those_that_sit C_worth_in g_sum
 have C_show_place:T_show_place l.prog w K mg base:=ok_show_place (a8.df X G fun _ _ _ _ _ _=>ZS.bd1 fun _=>rfl) g_str
 have C_Desk_init:T_Desk_init l.prog w K mg base:=ok_Desk_init (a9.di hC mk_Desk kp_Desk fun _ _ _ _ _ _=>ZS.bd2 fun _ _=>rfl) C_is_hall nf_guests nf_hall nf_held nf_places
 have X_Desk_init:TX_Desk_init l.prog w K mg base:=okx_Desk_init (a9.di hC mk_Desk kp_Desk fun _ _ _ _ _ _=>ZS.bd2 fun _ _=>rfl) C_is_hall m_NoHall x_NoHall xi_NoHall
 have C_Desk_number_of:T_Desk_number_of l.prog w K mg base:=ok_Desk_number_of (a10.df hC fun _ _ _ _ _ _=>ZS.bd2 fun _ _=>rfl) C_is_name g_enumerate c_NAME nf_guests
 have X_Desk_number_of:TX_Desk_number_of l.prog w K mg base:=okx_Desk_number_of (a10.df hC fun _ _ _ _ _ _=>ZS.bd2 fun _ _=>rfl) C_is_name g_enumerate c_NAME m_NoName nf_guests x_NoName xi_NoName
 have C_Desk_fast:T_Desk_fast l.prog w K mg base:=ok_Desk_fast (a11.df hC fun _ _ _ _ _ _=>ZS.bd2 fun _ _=>rfl) C_Desk_number_of
 have X_Desk_fast:TX_Desk_fast l.prog w K mg base:=okx_Desk_fast (a11.df hC fun _ _ _ _ _ _=>ZS.bd2 fun _ _=>rfl) C_Desk_number_of X_Desk_number_of
 have C_Desk_away:T_Desk_away l.prog w K mg base:=ok_Desk_away (a12.df hC fun _ _ _ _ _ _=>ZS.bd2 fun _ _=>rfl) C_Desk_number_of
 have X_Desk_away:TX_Desk_away l.prog w K mg base:=okx_Desk_away (a12.df hC fun _ _ _ _ _ _=>ZS.bd2 fun _ _=>rfl) C_Desk_number_of X_Desk_number_of
 have C_Desk_where:T_Desk_where l.prog w K mg base:=ok_Desk_where (a13.df hC fun _ _ _ _ _ _=>ZS.bd2 fun _ _=>rfl) C_Desk_number_of nf_places
 have X_Desk_where:TX_Desk_where l.prog w K mg base:=okx_Desk_where (a13.df hC fun _ _ _ _ _ _=>ZS.bd2 fun _ _=>rfl) X_Desk_number_of nf_places
 have C_Desk_at_hand:T_Desk_at_hand l.prog w K mg base:=ok_Desk_at_hand (a14.df hC fun _ _ _ _ _ _=>ZS.bd1 fun _=>rfl) nf_guests
 have C_Desk_seating:T_Desk_seating l.prog w K mg base:=ok_Desk_seating (a15.df hC fun _ _ _ _ _ _=>ZS.bd1 fun _=>rfl) nf_places
 have C_Desk_worth:T_Desk_worth l.prog w K mg base:=ok_Desk_worth (a16.df hC fun _ _ _ _ _ _=>ZS.bd1 fun _=>rfl) C_worth_of nf_guests nf_places
 have C_Desk_show_all:T_Desk_show_all l.prog w K mg base:=ok_Desk_show_all (a17.df hC fun _ _ _ _ _ _=>ZS.bd1 fun _=>rfl) C_show_place g_zip c_NAME nf_guests nf_places
 have C_Desk_say:T_Desk_say l.prog w K mg base:=ok_Desk_say (a18.df hC fun _ _ _ _ _ _=>ZS.bd2 fun _ _=>rfl) C_Desk_show_all C_Desk_worth g_isinstance g_str
 have C_law_cell_at:T_law_cell_at l.prog w K mg base:=ok_law_cell_at (a19.df X G fun _ _ _ _ _ _=>ZS.bd2 fun _ _=>rfl) g_len
 have C_law_mixed:T_law_mixed l.prog w K mg base:=ok_law_mixed (a20.df X G fun _ _ _ _ _ _=>ZS.bd2 fun _ _=>rfl) g_range
 have C_law_names:T_law_names l.prog w K mg base:=ok_law_names (a21.df X G fun _ _ _ _ _ _=>ZS.bd2 fun _ _=>rfl) g_int g_range
 have C_law_letters:T_law_letters l.prog w K mg base:=ok_law_letters (a22.df X G fun _ _ _ _ _ _=>ZS.bd1 fun _=>rfl) 
 have C_law_hall:T_law_hall l.prog w K mg base:=ok_law_hall (a23.df X G fun _ _ _ _ _ _=>ZS.bd1 fun _=>rfl) C_law_cell_at C_law_letters C_law_mixed g_range g_tuple
 have C_law_no_hall:T_law_no_hall l.prog w K mg base:=ok_law_no_hall (a24.df X G fun _ _ _ _ _ _=>ZS.bd2 fun _ _=>rfl) g_len g_list
 have C_law_refused:T_law_refused l.prog w K mg base:=ok_law_refused (a25.df X G fun _ _ _ _ _ _=>ZS.bd1 fun _=>rfl) g_ValueError g_isinstance X_Desk_init m_Full m_NoGroup m_NoHall m_NoName m_NoRow m_NoSeating m_NoText m_SeatError m_TooGreat m_Twice x_SeatError su_NoHall_SeatError i_NoHall_Full i_NoHall_NoGroup i_NoHall_NoHall i_NoHall_NoName i_NoHall_NoRow i_NoHall_NoSeating i_NoHall_NoText i_NoHall_TooGreat i_NoHall_Twice i_NoHall_ValueError
 have C_law_no_name:T_law_no_name l.prog w K mg base:=ok_law_no_name (a26.df X G fun _ _ _ _ _ _=>ZS.bd3 fun _ _ _=>rfl) C_Desk_away C_Desk_fast C_Desk_where g_isinstance X_Desk_away X_Desk_fast X_Desk_where m_NoGroup m_NoName m_NoRow m_SeatError i_NoName_NoGroup i_NoName_NoRow i_NoName_SeatError
 exact ok_law F C_Desk_init C_Desk_at_hand C_Desk_say C_Desk_seating C_Desk_worth C_law_cell_at C_law_hall C_law_names C_law_no_hall C_law_no_name C_law_refused g_bool g_isinstance g_range
theorem walk {l:PySem.W.OpenLaw} {q:Program} {loose:List Str} {XP:(Str→Option Value)→Heap→Prop} {YP:World→Heap→Prop} {d:DefRec} {K:Params→PySem.W.Frag} (hn:l.most=some 63) (hdf:d.params.defaults=[])
  (hY:∀ (w:World) (h:Heap),YP w h→(K w.params).In h)
  (F:∀ (w:World) (mg:Str→Option Value) (fa:Addr) (h:Heap),(K w.params).In h→h.Ns mainGlobals mg→mg d.name=some (.ref fa) →
   ∃ fd:FuncData,(∀ (s:Shared) (u:Value),BindsTo s fd ⟨[u],[]⟩ [("_law_script",u)])∧∀ base:Heap,(K w.params).In base→base.Ns mainGlobals mg→FnOk l.prog w (K w.params) mg base CX0 8 fa fd ["_law_script"] (ZS.spZ (K w.params) fn_law)) (hL:∀ w:World,ZS.LamOk q (K w.params)) :
  PySem.W.WalkO q loose XP YP l.row.toRowW d [] (fun f vs=>PySem.call f vs) :=
 ZS.walk_B (n:=63) (k:=8) (x := "_law_script") (m:=fn_law) hn (by decide) hdf ⟨rfl,by decide,by decide⟩ hY F hL holds
end K80
namespace K80
open PySem PySem.Spec PyProof.Rows L2
abbrev km0:String := "besideseats.plain"
abbrev km1:String := "besideseats.groups"
abbrev km2:String := "besideseats.halls"
abbrev km3:String := "besideseats.seatings"
abbrev km4:String := "besideseats.best"
abbrev km5:String := "besideseats.papers"
abbrev km6:String := "besideseats.desk"
abbrev km7:String := "law_besideseats_k80_halls_of_desks"
noncomputable def kd (P:Params) (n:String) (t:Nat) (v:Value):DictEntry:={ hash:=PyData.keyHash P (Str.ofString n),key:=.str (Str.ofString n) t,val:=v }
noncomputable def kc (n:String) (t l:Nat) (a b c d e f g h i j:Value) (u:Nat):Obj:={ cls:=.type "code",data:=.fields #[.str (Str.ofString n) t,.str (Str.ofString n) (t+1),.str (Str.ofString "/claim/cut.py") (t+2),.int l 0,a,.int 0 0,.int 0 0,b,c,.bool true,d,e,f,g,h,i,j,.int l 0,.str (Str.ofString "/claim/cut.py") u] }
noncomputable def kcq (n q:String) (t l:Nat) (a b c d e f g h i j:Value) (u:Nat):Obj:={ cls:=.type "code",data:=.fields #[.str (Str.ofString n) t,.str (Str.ofString q) (t+1),.str (Str.ofString "/claim/cut.py") (t+2),.int l 0,a,.int 0 0,.int 0 0,b,c,.bool true,d,e,f,g,h,i,j,.int l 0,.str (Str.ofString "/claim/cut.py") u] }
noncomputable def kfm (n q:String) (s:Stmt) (m:String) (t c:Nat) (v:Value:=.none):Obj:={ cls:=.type "function",data:=.func { name:=Str.ofString n,qualname:=Str.ofString q,params:=defArgs s,body:=.stmts (defBody s),scope:=defScope s,globals:=3,closure:=[],defaults:=v,kwdefaults:=.none,pyModule:=.str (Str.ofString m) t,code:=.ref c } }
noncomputable def kf (n:String) (i:Nat) (m:String) (t c:Nat) (v:Value:=.none):Obj:={ cls:=.type "function",data:=.func { name:=Str.ofString n,qualname:=Str.ofString n,params:=defArgs (top i),body:=.stmts (defBody (top i)),scope:=defScope (top i),globals:=3,closure:=[],defaults:=v,kwdefaults:=.none,pyModule:=.str (Str.ofString m) t,code:=.ref c } }
noncomputable def KK (P:Params):PySem.W.Frag:=(fun (_:Str.ofString "a" = Str.mk #[97])=>(nat_lit 3,{ cls:=.type "dict",data:=.dict #[kd P "__name__" 165 (.str (Str.ofString "law_besideseats_k80_halls_of_desks") 905),kd P "__doc__" 166 .none,kd P "__package__" 167 .none,kd P "__loader__" 168 (.builtin "__main__.__loader__#opaque"),kd P "__spec__" 169 .none,kd P "__annotations__" 170 (.ref 6),kd P "__builtins__" 171 (.ref 4),kd P "__file__" 173 (.str (Str.ofString "/claim/cut.py") 172),kd P "__cached__" 174 .none,kd P "SeatError" 206 (.ref 24),kd P "NoHall" 222 (.ref 37),kd P "NoGroup" 238 (.ref 49),kd P "NoText" 254 (.ref 61),kd P "NoSeating" 270 (.ref 73),kd P "NoRow" 286 (.ref 85),kd P "NoName" 302 (.ref 97),kd P "Twice" 318 (.ref 109),kd P "Full" 343 (.ref 128),kd P "TooGreat" 370 (.ref 147),kd P "is_whole" 379 (.ref 156),kd P "is_whole_within" 388 (.ref 163),kd P "is_letter" 395 (.ref 170),kd P "NAME" 399 (.int 0 398),kd P "WIDTH" 401 (.int 1 400),kd P "DEPTH" 403 (.int 2 402),kd P "KIND" 405 (.int 3 404),kd P "WIDE" 407 (.int 4 406),kd P "GAP" 409 (.int 5 408),kd P "WORTH" 411 (.int 6 410),kd P "WISHES" 413 (.int 7 412),kd P "PARTS" 415 (.int 8 414),kd P "MOST_LETTERS" 417 (.int 8 416),kd P "MOST_WIDTH" 419 (.int 12 418),kd P "MOST_DEPTH" 421 (.int 3 420),kd P "MOST_GAP" 423 (.int 6 422),kd P "LAST_ROW" 425 (.int 5 424),kd P "is_name" 431 (.ref 175),kd P "is_kind" 438 (.ref 182),kd P "is_amount" 446 (.ref 189),kd P "is_wish" 453 (.ref 196),kd P "are_wishes" 459 (.ref 201),kd P "asks_for_seats" 466 (.ref 208),kd P "is_group" 473 (.ref 215),kd P "worth_in" 479 (.ref 220),kd P "MOST_ROWS" 483 (.int 6 482),kd P "MOST_COLUMNS" 485 (.int 12 484),kd P "is_sign" 492 (.ref 227),kd P "is_row" 498 (.ref 232),kd P "is_hall" 504 (.ref 237),kd P "sign_at" 514 (.ref 244),kd P "takes" 524 (.ref 251),kd P "seats_of" 530 (.ref 256),kd P "fits" 536 (.ref 261),kd P "places_of" 542 (.ref 266),kd P "apart" 555 (.ref 273),kd P "those_that_sit" 561 (.ref 278),kd P "apart_from_all" 567 (.ref 283),kd P "keeps" 573 (.ref 288),kd P "worth_of" 579 (.ref 293),kd P "MOST_WAYS" 583 (.int 2000 582),kd P "fast_seating" 593 (.ref 300),kd P "ways" 605 (.ref 308),kd P "small_start" 615 (.ref 315),kd P "with_place" 624 (.ref 322),kd P "open_among" 630 (.ref 327),kd P "with_one_more" 636 (.ref 332),kd P "seatings_from" 648 (.ref 339),kd P "first_of_all" 658 (.ref 347),kd P "best_among" 669 (.ref 354),kd P "best_of_all" 679 (.ref 362),kd P "all_places" 687 (.ref 367),kd P "spots_of" 697 (.ref 374),kd P "paper_beside" 703 (.ref 379),kd P "paper_of" 712 (.ref 387),kd P "FIGURES" 716 (.str (Str.ofString "0123456789") 715),kd P "MOST_FIGURES" 718 (.int 60 717),kd P "show_group" 729 (.ref 394),kd P "number_in" 735 (.ref 399),kd P "wishes_in" 741 (.ref 404),kd P "group_in" 752 (.ref 411),kd P "read_group" 761 (.ref 418),kd P "MOST_GUESTS" 765 (.int 6 764),kd P "WORDS" 770 (.ref 419),kd P "without" 778 (.ref 426),kd P "show_place" 785 (.ref 433),kd P "Desk" 904 (.ref 523),kd P "_law_cell_at" 914 (.ref 534),kd P "_law_mixed" 925 (.ref 541),kd P "_law_names" 942 (.ref 548),kd P "_law_letters" 950 (.ref 555),kd P "_law_hall" 956 (.ref 560),kd P "_law_no_hall" 968 (.ref 567),kd P "_law_refused" 977 (.ref 574),kd P "_law_no_name" 988 (.ref 581),kd P "law" 1002 (.ref 588)] 95 }) ::
 (nat_lit 23,{ cls:=Value.type "dict",data:=Data.dict #[{ hash:=PyData.keyHash P (Str.ofString "__module__"),key:=Value.str (Str.ofString "__module__") 196,val:=Value.str (Str.ofString "besideseats.errors") 187 },{ hash:=PyData.keyHash P (Str.ofString "__firstlineno__"),key:=Value.str (Str.ofString "__firstlineno__") 200,val:=Value.int 2 199 },{ hash:=PyData.keyHash P (Str.ofString "__static_attributes__"),key:=Value.str (Str.ofString "__static_attributes__") 201,val:=Value.ref 22 },{ hash:=PyData.keyHash P (Str.ofString "__weakref__"),key:=Value.str (Str.ofString "__weakref__") 203,val:=Value.ref 25 },{ hash:=PyData.keyHash P (Str.ofString "__doc__"),key:=Value.str (Str.ofString "__doc__") 204,val:=Value.none }] 3 }) ::
 (nat_lit 24,{ cls:=Value.type "type",data:=Data.cls { name:=Str.ofString "SeatError",bases:=[Value.type "ValueError"],mro:=[Value.ref 24,Value.type "ValueError",Value.type "Exception",Value.type "BaseException",Value.type "object"],ns:=23,qualname:=Str.ofString "SeatError",subclasses:=[Value.ref 37,Value.ref 49,Value.ref 61,Value.ref 73,Value.ref 85,Value.ref 97,Value.ref 109,Value.ref 128,Value.ref 147] },slots:=#[some (Value.ref 15),none,some (Value.str (Str.ofString "SeatError") 189),some (Value.str (Str.ofString "SeatError") 197),some (Value.builtin "ValueError.__new__"),some (Value.bool true)] }) ::
 (nat_lit 36,{ cls:=Value.type "dict",data:=Data.dict #[{ hash:=PyData.keyHash P (Str.ofString "__module__"),key:=Value.str (Str.ofString "__module__") 214,val:=Value.str (Str.ofString "besideseats.errors") 187 },{ hash:=PyData.keyHash P (Str.ofString "__firstlineno__"),key:=Value.str (Str.ofString "__firstlineno__") 218,val:=Value.int 4 217 },{ hash:=PyData.keyHash P (Str.ofString "__static_attributes__"),key:=Value.str (Str.ofString "__static_attributes__") 219,val:=Value.ref 35 },{ hash:=PyData.keyHash P (Str.ofString "__doc__"),key:=Value.str (Str.ofString "__doc__") 220,val:=Value.none }] 2 }) ::
 (nat_lit 37,{ cls:=Value.type "type",data:=Data.cls { name:=Str.ofString "NoHall",bases:=[Value.ref 24],mro:=[Value.ref 37,Value.ref 24,Value.type "ValueError",Value.type "Exception",Value.type "BaseException",Value.type "object"],ns:=36,qualname:=Str.ofString "NoHall" },slots:=#[some (Value.ref 28),none,some (Value.str (Str.ofString "NoHall") 207),some (Value.str (Str.ofString "NoHall") 215),some (Value.builtin "ValueError.__new__"),some (Value.bool true)] }) ::
 (nat_lit 48,{ cls:=Value.type "dict",data:=Data.dict #[{ hash:=PyData.keyHash P (Str.ofString "__module__"),key:=Value.str (Str.ofString "__module__") 230,val:=Value.str (Str.ofString "besideseats.errors") 187 },{ hash:=PyData.keyHash P (Str.ofString "__firstlineno__"),key:=Value.str (Str.ofString "__firstlineno__") 234,val:=Value.int 6 233 },{ hash:=PyData.keyHash P (Str.ofString "__static_attributes__"),key:=Value.str (Str.ofString "__static_attributes__") 235,val:=Value.ref 47 },{ hash:=PyData.keyHash P (Str.ofString "__doc__"),key:=Value.str (Str.ofString "__doc__") 236,val:=Value.none }] 2 }) ::
 (nat_lit 49,{ cls:=Value.type "type",data:=Data.cls { name:=Str.ofString "NoGroup",bases:=[Value.ref 24],mro:=[Value.ref 49,Value.ref 24,Value.type "ValueError",Value.type "Exception",Value.type "BaseException",Value.type "object"],ns:=48,qualname:=Str.ofString "NoGroup" },slots:=#[some (Value.ref 40),none,some (Value.str (Str.ofString "NoGroup") 223),some (Value.str (Str.ofString "NoGroup") 231),some (Value.builtin "ValueError.__new__"),some (Value.bool true)] }) ::
 (nat_lit 60,{ cls:=Value.type "dict",data:=Data.dict #[{ hash:=PyData.keyHash P (Str.ofString "__module__"),key:=Value.str (Str.ofString "__module__") 246,val:=Value.str (Str.ofString "besideseats.errors") 187 },{ hash:=PyData.keyHash P (Str.ofString "__firstlineno__"),key:=Value.str (Str.ofString "__firstlineno__") 250,val:=Value.int 8 249 },{ hash:=PyData.keyHash P (Str.ofString "__static_attributes__"),key:=Value.str (Str.ofString "__static_attributes__") 251,val:=Value.ref 59 },{ hash:=PyData.keyHash P (Str.ofString "__doc__"),key:=Value.str (Str.ofString "__doc__") 252,val:=Value.none }] 2 }) ::
 (nat_lit 61,{ cls:=Value.type "type",data:=Data.cls { name:=Str.ofString "NoText",bases:=[Value.ref 24],mro:=[Value.ref 61,Value.ref 24,Value.type "ValueError",Value.type "Exception",Value.type "BaseException",Value.type "object"],ns:=60,qualname:=Str.ofString "NoText" },slots:=#[some (Value.ref 52),none,some (Value.str (Str.ofString "NoText") 239),some (Value.str (Str.ofString "NoText") 247),some (Value.builtin "ValueError.__new__"),some (Value.bool true)] }) ::
 (nat_lit 72,{ cls:=Value.type "dict",data:=Data.dict #[{ hash:=PyData.keyHash P (Str.ofString "__module__"),key:=Value.str (Str.ofString "__module__") 262,val:=Value.str (Str.ofString "besideseats.errors") 187 },{ hash:=PyData.keyHash P (Str.ofString "__firstlineno__"),key:=Value.str (Str.ofString "__firstlineno__") 266,val:=Value.int 10 265 },{ hash:=PyData.keyHash P (Str.ofString "__static_attributes__"),key:=Value.str (Str.ofString "__static_attributes__") 267,val:=Value.ref 71 },{ hash:=PyData.keyHash P (Str.ofString "__doc__"),key:=Value.str (Str.ofString "__doc__") 268,val:=Value.none }] 2 }) ::
 (nat_lit 73,{ cls:=Value.type "type",data:=Data.cls { name:=Str.ofString "NoSeating",bases:=[Value.ref 24],mro:=[Value.ref 73,Value.ref 24,Value.type "ValueError",Value.type "Exception",Value.type "BaseException",Value.type "object"],ns:=72,qualname:=Str.ofString "NoSeating" },slots:=#[some (Value.ref 64),none,some (Value.str (Str.ofString "NoSeating") 255),some (Value.str (Str.ofString "NoSeating") 263),some (Value.builtin "ValueError.__new__"),some (Value.bool true)] }) ::
 (nat_lit 84,{ cls:=Value.type "dict",data:=Data.dict #[{ hash:=PyData.keyHash P (Str.ofString "__module__"),key:=Value.str (Str.ofString "__module__") 278,val:=Value.str (Str.ofString "besideseats.errors") 187 },{ hash:=PyData.keyHash P (Str.ofString "__firstlineno__"),key:=Value.str (Str.ofString "__firstlineno__") 282,val:=Value.int 12 281 },{ hash:=PyData.keyHash P (Str.ofString "__static_attributes__"),key:=Value.str (Str.ofString "__static_attributes__") 283,val:=Value.ref 83 },{ hash:=PyData.keyHash P (Str.ofString "__doc__"),key:=Value.str (Str.ofString "__doc__") 284,val:=Value.none }] 2 }) ::
 (nat_lit 85,{ cls:=Value.type "type",data:=Data.cls { name:=Str.ofString "NoRow",bases:=[Value.ref 24],mro:=[Value.ref 85,Value.ref 24,Value.type "ValueError",Value.type "Exception",Value.type "BaseException",Value.type "object"],ns:=84,qualname:=Str.ofString "NoRow" },slots:=#[some (Value.ref 76),none,some (Value.str (Str.ofString "NoRow") 271),some (Value.str (Str.ofString "NoRow") 279),some (Value.builtin "ValueError.__new__"),some (Value.bool true)] }) ::
 (nat_lit 96,{ cls:=Value.type "dict",data:=Data.dict #[{ hash:=PyData.keyHash P (Str.ofString "__module__"),key:=Value.str (Str.ofString "__module__") 294,val:=Value.str (Str.ofString "besideseats.errors") 187 },{ hash:=PyData.keyHash P (Str.ofString "__firstlineno__"),key:=Value.str (Str.ofString "__firstlineno__") 298,val:=Value.int 14 297 },{ hash:=PyData.keyHash P (Str.ofString "__static_attributes__"),key:=Value.str (Str.ofString "__static_attributes__") 299,val:=Value.ref 95 },{ hash:=PyData.keyHash P (Str.ofString "__doc__"),key:=Value.str (Str.ofString "__doc__") 300,val:=Value.none }] 2 }) ::
 (nat_lit 97,{ cls:=Value.type "type",data:=Data.cls { name:=Str.ofString "NoName",bases:=[Value.ref 24],mro:=[Value.ref 97,Value.ref 24,Value.type "ValueError",Value.type "Exception",Value.type "BaseException",Value.type "object"],ns:=96,qualname:=Str.ofString "NoName" },slots:=#[some (Value.ref 88),none,some (Value.str (Str.ofString "NoName") 287),some (Value.str (Str.ofString "NoName") 295),some (Value.builtin "ValueError.__new__"),some (Value.bool true)] }) ::
 (nat_lit 108,{ cls:=Value.type "dict",data:=Data.dict #[{ hash:=PyData.keyHash P (Str.ofString "__module__"),key:=Value.str (Str.ofString "__module__") 310,val:=Value.str (Str.ofString "besideseats.errors") 187 },{ hash:=PyData.keyHash P (Str.ofString "__firstlineno__"),key:=Value.str (Str.ofString "__firstlineno__") 314,val:=Value.int 16 313 },{ hash:=PyData.keyHash P (Str.ofString "__static_attributes__"),key:=Value.str (Str.ofString "__static_attributes__") 315,val:=Value.ref 107 },{ hash:=PyData.keyHash P (Str.ofString "__doc__"),key:=Value.str (Str.ofString "__doc__") 316,val:=Value.none }] 2 }) ::
 (nat_lit 109,{ cls:=Value.type "type",data:=Data.cls { name:=Str.ofString "Twice",bases:=[Value.ref 24],mro:=[Value.ref 109,Value.ref 24,Value.type "ValueError",Value.type "Exception",Value.type "BaseException",Value.type "object"],ns:=108,qualname:=Str.ofString "Twice" },slots:=#[some (Value.ref 100),none,some (Value.str (Str.ofString "Twice") 303),some (Value.str (Str.ofString "Twice") 311),some (Value.builtin "ValueError.__new__"),some (Value.bool true)] }) ::
 (nat_lit 127,{ cls:=Value.type "dict",data:=Data.dict #[{ hash:=PyData.keyHash P (Str.ofString "__module__"),key:=Value.str (Str.ofString "__module__") 326,val:=Value.str (Str.ofString "besideseats.errors") 187 },{ hash:=PyData.keyHash P (Str.ofString "__firstlineno__"),key:=Value.str (Str.ofString "__firstlineno__") 330,val:=Value.int 18 329 },{ hash:=PyData.keyHash P (Str.ofString "__init__"),key:=Value.str (Str.ofString "__init__") 338,val:=Value.ref 125 },{ hash:=PyData.keyHash P (Str.ofString "__static_attributes__"),key:=Value.str (Str.ofString "__static_attributes__") 340,val:=Value.ref 126 },{ hash:=PyData.keyHash P (Str.ofString "__doc__"),key:=Value.str (Str.ofString "__doc__") 341,val:=Value.none }] 2 }) ::
 (nat_lit 128,{ cls:=Value.type "type",data:=Data.cls { name:=Str.ofString "Full",bases:=[Value.ref 24],mro:=[Value.ref 128,Value.ref 24,Value.type "ValueError",Value.type "Exception",Value.type "BaseException",Value.type "object"],ns:=127,qualname:=Str.ofString "Full" },slots:=#[some (Value.ref 112),none,some (Value.str (Str.ofString "Full") 319),some (Value.str (Str.ofString "Full") 327),some (Value.builtin "ValueError.__new__"),some (Value.bool true)] }) ::
 (nat_lit 146,{ cls:=Value.type "dict",data:=Data.dict #[{ hash:=PyData.keyHash P (Str.ofString "__module__"),key:=Value.str (Str.ofString "__module__") 351,val:=Value.str (Str.ofString "besideseats.errors") 187 },{ hash:=PyData.keyHash P (Str.ofString "__firstlineno__"),key:=Value.str (Str.ofString "__firstlineno__") 355,val:=Value.int 22 354 },{ hash:=PyData.keyHash P (Str.ofString "__init__"),key:=Value.str (Str.ofString "__init__") 364,val:=Value.ref 144 },{ hash:=PyData.keyHash P (Str.ofString "__static_attributes__"),key:=Value.str (Str.ofString "__static_attributes__") 367,val:=Value.ref 145 },{ hash:=PyData.keyHash P (Str.ofString "__doc__"),key:=Value.str (Str.ofString "__doc__") 368,val:=Value.none }] 2 }) ::
 (nat_lit 147,{ cls:=Value.type "type",data:=Data.cls { name:=Str.ofString "TooGreat",bases:=[Value.ref 24],mro:=[Value.ref 147,Value.ref 24,Value.type "ValueError",Value.type "Exception",Value.type "BaseException",Value.type "object"],ns:=146,qualname:=Str.ofString "TooGreat" },slots:=#[some (Value.ref 131),none,some (Value.str (Str.ofString "TooGreat") 344),some (Value.str (Str.ofString "TooGreat") 352),some (Value.builtin "ValueError.__new__"),some (Value.bool true)] }) ::
 (nat_lit 155,kc "is_whole" 373 28 (.int 1 0) (.int 3 0) (.ref 150) (.int 181 0) (.ref 151) .none (.ref 152) (.ref 153) (.ref 154) (.int 377 0) 378) ::
 (nat_lit 162,kc "is_whole_within" 380 30 (.int 3 0) (.int 3 0) (.ref 157) (.int 181 0) (.ref 158) .none (.ref 159) (.ref 160) (.ref 161) (.int 386 0) 387) ::
 (nat_lit 169,kc "is_letter" 389 32 (.int 1 0) (.int 3 0) (.ref 164) (.int 181 0) (.ref 165) .none (.ref 166) (.ref 167) (.ref 168) (.int 393 0) 394) ::
 (nat_lit 170,kf "is_letter" 14 km0 371 169) ::
 (nat_lit 174,kc "is_name" 426 49 (.int 1 0) (.int 3 0) (.ref 171) (.int 181 0) (.ref 172) .none .none .none (.ref 173) (.int 429 0) 430) ::
 (nat_lit 175,kf "is_name" 30 km1 396 174) ::
 (nat_lit 181,kc "is_kind" 432 53 (.int 1 0) (.int 3 0) (.ref 176) (.int 181 0) (.ref 177) .none (.ref 178) (.ref 179) (.ref 180) (.int 436 0) 437) ::
 (nat_lit 188,kc "is_amount" 439 55 (.int 2 0) (.int 3 0) (.ref 183) (.int 181 0) (.ref 184) .none (.ref 185) (.ref 186) (.ref 187) (.int 444 0) 445) ::
 (nat_lit 195,kc "is_wish" 447 57 (.int 1 0) (.int 3 0) (.ref 190) (.int 181 0) (.ref 191) .none (.ref 192) (.ref 193) (.ref 194) (.int 451 0) 452) ::
 (nat_lit 200,kc "are_wishes" 454 61 (.int 1 0) (.int 3 0) (.ref 197) (.int 181 0) (.ref 198) .none .none .none (.ref 199) (.int 457 0) 458) ::
 (nat_lit 207,kc "asks_for_seats" 460 65 (.int 1 0) (.int 3 0) (.ref 202) (.int 181 0) (.ref 203) .none (.ref 204) (.ref 205) (.ref 206) (.int 464 0) 465) ::
 (nat_lit 214,kc "is_group" 467 73 (.int 1 0) (.int 3 0) (.ref 209) (.int 181 0) (.ref 210) .none (.ref 211) (.ref 212) (.ref 213) (.int 471 0) 472) ::
 (nat_lit 219,kc "worth_in" 474 79 (.int 2 0) (.int 3 0) (.ref 216) (.int 181 0) (.ref 217) .none .none .none (.ref 218) (.int 477 0) 478) ::
 (nat_lit 220,kf "worth_in" 37 km1 396 219) ::
 (nat_lit 226,kc "is_sign" 486 84 (.int 1 0) (.int 3 0) (.ref 221) (.int 181 0) (.ref 222) .none (.ref 223) (.ref 224) (.ref 225) (.int 490 0) 491) ::
 (nat_lit 227,kf "is_sign" 41 km2 480 226) ::
 (nat_lit 231,kc "is_row" 493 86 (.int 1 0) (.int 3 0) (.ref 228) (.int 181 0) (.ref 229) .none .none .none (.ref 230) (.int 496 0) 497) ::
 (nat_lit 232,kf "is_row" 42 km2 480 231) ::
 (nat_lit 236,kc "is_hall" 499 90 (.int 1 0) (.int 3 0) (.ref 233) (.int 181 0) (.ref 234) .none .none .none (.ref 235) (.int 502 0) 503) ::
 (nat_lit 237,kf "is_hall" 43 km2 480 236) ::
 (nat_lit 243,kc "sign_at" 505 96 (.int 2 0) (.int 3 0) (.ref 238) (.int 181 0) (.ref 239) .none (.ref 240) (.ref 241) (.ref 242) (.int 512 0) 513) ::
 (nat_lit 250,kc "takes" 517 103 (.int 2 0) (.int 3 0) (.ref 245) (.int 181 0) (.ref 246) .none (.ref 247) (.ref 248) (.ref 249) (.int 522 0) 523) ::
 (nat_lit 255,kc "seats_of" 525 105 (.int 2 0) (.int 3 0) (.ref 252) (.int 181 0) (.ref 253) .none .none .none (.ref 254) (.int 528 0) 529) ::
 (nat_lit 260,kc "fits" 531 110 (.int 3 0) (.int 3 0) (.ref 257) (.int 181 0) (.ref 258) .none .none .none (.ref 259) (.int 534 0) 535) ::
 (nat_lit 265,kc "places_of" 537 115 (.int 2 0) (.int 3 0) (.ref 262) (.int 181 0) (.ref 263) .none .none .none (.ref 264) (.int 540 0) 541) ::
 (nat_lit 272,kc "apart" 545 121 (.int 4 0) (.int 3 0) (.ref 267) (.int 181 0) (.ref 268) .none (.ref 269) (.ref 270) (.ref 271) (.int 553 0) 554) ::
 (nat_lit 277,kc "those_that_sit" 556 126 (.int 2 0) (.int 3 0) (.ref 274) (.int 181 0) (.ref 275) .none .none .none (.ref 276) (.int 559 0) 560) ::
 (nat_lit 278,kf "those_that_sit" 52 km3 543 277) ::
 (nat_lit 282,kc "apart_from_all" 562 128 (.int 3 0) (.int 3 0) (.ref 279) (.int 181 0) (.ref 280) .none .none .none (.ref 281) (.int 565 0) 566) ::
 (nat_lit 287,kc "keeps" 568 130 (.int 3 0) (.int 3 0) (.ref 284) (.int 181 0) (.ref 285) .none .none .none (.ref 286) (.int 571 0) 572) ::
 (nat_lit 292,kc "worth_of" 574 135 (.int 2 0) (.int 3 0) (.ref 289) (.int 181 0) (.ref 290) .none .none .none (.ref 291) (.int 577 0) 578) ::
 (nat_lit 293,kf "worth_of" 55 km3 543 292) ::
 (nat_lit 299,kc "fast_seating" 584 139 (.int 3 0) (.int 3 0) (.ref 294) (.int 181 0) (.ref 295) .none (.ref 296) (.ref 297) (.ref 298) (.int 591 0) 592) ::
 (nat_lit 307,kc "ways" 594 144 (.int 3 0) (.int 3 0) (.ref 302) (.int 181 0) (.ref 303) .none (.ref 304) (.ref 305) (.ref 306) (.int 603 0) 604) ::
 (nat_lit 314,kc "small_start" 606 150 (.int 3 0) (.int 3 0) (.ref 309) (.int 181 0) (.ref 310) .none (.ref 311) (.ref 312) (.ref 313) (.int 613 0) 614) ::
 (nat_lit 321,kc "with_place" 616 155 (.int 3 0) (.int 3 0) (.ref 316) (.int 181 0) (.ref 317) .none (.ref 318) (.ref 319) (.ref 320) (.int 622 0) 623) ::
 (nat_lit 326,kc "open_among" 625 157 (.int 3 0) (.int 3 0) (.ref 323) (.int 181 0) (.ref 324) .none .none .none (.ref 325) (.int 628 0) 629) ::
 (nat_lit 331,kc "with_one_more" 631 159 (.int 5 0) (.int 3 0) (.ref 328) (.int 181 0) (.ref 329) .none .none .none (.ref 330) (.int 634 0) 635) ::
 (nat_lit 338,kc "seatings_from" 637 168 (.int 4 0) (.int 3 0) (.ref 333) (.int 181 0) (.ref 334) .none (.ref 335) (.ref 336) (.ref 337) (.int 646 0) 647) ::
 (nat_lit 346,kc "first_of_all" 649 174 (.int 3 0) (.int 3 0) (.ref 341) (.int 181 0) (.ref 342) .none (.ref 343) (.ref 344) (.ref 345) (.int 656 0) 657) ::
 (nat_lit 353,kc "best_among" 661 178 (.int 2 0) (.int 3 0) (.ref 348) (.int 181 0) (.ref 349) .none (.ref 350) (.ref 351) (.ref 352) (.int 667 0) 668) ::
 (nat_lit 354,kf "best_among" 67 km4 659 353) ::
 (nat_lit 361,kc "best_of_all" 670 180 (.int 3 0) (.int 3 0) (.ref 356) (.int 181 0) (.ref 357) .none (.ref 358) (.ref 359) (.ref 360) (.int 677 0) 678) ::
 (nat_lit 366,kc "all_places" 682 184 (.int 2 0) (.int 3 0) (.ref 363) (.int 181 0) (.ref 364) .none .none .none (.ref 365) (.int 685 0) 686) ::
 (nat_lit 373,kc "spots_of" 688 186 (.int 4 0) (.int 3 0) (.ref 368) (.int 181 0) (.ref 369) .none (.ref 370) (.ref 371) (.ref 372) (.int 695 0) 696) ::
 (nat_lit 378,kc "paper_beside" 698 188 (.int 3 0) (.int 3 0) (.ref 375) (.int 181 0) (.ref 376) .none .none .none (.ref 377) (.int 701 0) 702) ::
 (nat_lit 379,kf "paper_beside" 72 km5 680 378) ::
 (nat_lit 386,kc "paper_of" 704 196 (.int 3 0) (.int 3 0) (.ref 381) (.int 181 0) (.ref 382) .none (.ref 383) (.ref 384) (.ref 385) (.int 710 0) 711) ::
 (nat_lit 393,kc "show_group" 719 203 (.int 1 0) (.int 3 0) (.ref 388) (.int 181 0) (.ref 389) .none (.ref 390) (.ref 391) (.ref 392) (.int 727 0) 728) ::
 (nat_lit 398,kc "number_in" 730 213 (.int 1 0) (.int 3 0) (.ref 395) (.int 181 0) (.ref 396) .none .none .none (.ref 397) (.int 733 0) 734) ::
 (nat_lit 403,kc "wishes_in" 736 217 (.int 1 0) (.int 3 0) (.ref 400) (.int 181 0) (.ref 401) .none .none .none (.ref 402) (.int 739 0) 740) ::
 (nat_lit 410,kc "group_in" 742 219 (.int 1 0) (.int 3 0) (.ref 405) (.int 181 0) (.ref 406) .none (.ref 407) (.ref 408) (.ref 409) (.int 750 0) 751) ::
 (nat_lit 417,kc "read_group" 753 228 (.int 1 0) (.int 3 0) (.ref 412) (.int 181 0) (.ref 413) .none (.ref 414) (.ref 415) (.ref 416) (.int 759 0) 760) ::
 (nat_lit 425,kc "without" 771 241 (.int 2 0) (.int 3 0) (.ref 420) (.int 181 0) (.ref 421) .none (.ref 422) (.ref 423) (.ref 424) (.int 776 0) 777) ::
 (nat_lit 432,kc "show_place" 779 243 (.int 1 0) (.int 3 0) (.ref 427) (.int 181 0) (.ref 428) .none (.ref 429) (.ref 430) (.ref 431) (.int 783 0) 784) ::
 (nat_lit 433,kf "show_place" 86 km6 762 432) ::
 (nat_lit 446,kcq "__init__" "Desk.__init__" 798 247 (.int 2 0) (.int 3 0) (.ref 441) (.int 181 0) (.ref 442) .none (.ref 443) (.ref 444) (.ref 445) (.int 803 0) 804) ::
 (nat_lit 447,kfm "__init__" "Desk.__init__" (mth 87 0) km6 762 446) ::
 (nat_lit 453,kcq "number_of" "Desk.number_of" 806 255 (.int 2 0) (.int 3 0) (.ref 448) (.int 181 0) (.ref 449) .none (.ref 450) (.ref 451) (.ref 452) (.int 813 0) 814) ::
 (nat_lit 454,kfm "number_of" "Desk.number_of" (mth 87 1) km6 762 453) ::
 (nat_lit 465,kcq "fast" "Desk.fast" 822 279 (.int 2 0) (.int 3 0) (.ref 460) (.int 181 0) (.ref 461) .none (.ref 462) (.ref 463) (.ref 464) (.int 828 0) 829) ::
 (nat_lit 466,kfm "fast" "Desk.fast" (mth 87 3) km6 762 465) ::
 (nat_lit 472,kcq "away" "Desk.away" 831 283 (.int 2 0) (.int 3 0) (.ref 467) (.int 181 0) (.ref 468) .none (.ref 469) (.ref 470) (.ref 471) (.int 837 0) 838) ::
 (nat_lit 473,kfm "away" "Desk.away" (mth 87 4) km6 762 472) ::
 (nat_lit 479,kcq "where" "Desk.where" 840 289 (.int 2 0) (.int 3 0) (.ref 474) (.int 181 0) (.ref 475) .none (.ref 476) (.ref 477) (.ref 478) (.int 845 0) 846) ::
 (nat_lit 480,kfm "where" "Desk.where" (mth 87 5) km6 762 479) ::
 (nat_lit 486,kcq "at_hand" "Desk.at_hand" 848 292 (.int 1 0) (.int 3 0) (.ref 481) (.int 181 0) (.ref 482) .none (.ref 483) (.ref 484) (.ref 485) (.int 852 0) 853) ::
 (nat_lit 487,kfm "at_hand" "Desk.at_hand" (mth 87 6) km6 762 486) ::
 (nat_lit 493,kcq "seating" "Desk.seating" 855 295 (.int 1 0) (.int 3 0) (.ref 488) (.int 181 0) (.ref 489) .none (.ref 490) (.ref 491) (.ref 492) (.int 859 0) 860) ::
 (nat_lit 494,kfm "seating" "Desk.seating" (mth 87 7) km6 762 493) ::
 (nat_lit 500,kcq "worth" "Desk.worth" 862 298 (.int 1 0) (.int 3 0) (.ref 495) (.int 181 0) (.ref 496) .none (.ref 497) (.ref 498) (.ref 499) (.int 866 0) 867) ::
 (nat_lit 501,kfm "worth" "Desk.worth" (mth 87 8) km6 762 500) ::
 (nat_lit 505,kcq "show_all" "Desk.show_all" 869 301 (.int 1 0) (.int 3 0) (.ref 502) (.int 181 0) (.ref 503) .none .none .none (.ref 504) (.int 872 0) 873) ::
 (nat_lit 506,kfm "show_all" "Desk.show_all" (mth 87 9) km6 762 505) ::
 (nat_lit 512,kcq "say" "Desk.say" 875 306 (.int 2 0) (.int 3 0) (.ref 507) (.int 181 0) (.ref 508) .none (.ref 509) (.ref 510) (.ref 511) (.int 881 0) 882) ::
 (nat_lit 513,kfm "say" "Desk.say" (mth 87 10) km6 762 512) ::
 (nat_lit 522,{ cls:=Value.type "dict",data:=Data.dict #[{ hash:=PyData.keyHash P (Str.ofString "__module__"),key:=Value.str (Str.ofString "__module__") 793,val:=Value.str (Str.ofString "besideseats.desk") 762 },{ hash:=PyData.keyHash P (Str.ofString "__firstlineno__"),key:=Value.str (Str.ofString "__firstlineno__") 797,val:=Value.int 245 796 },{ hash:=PyData.keyHash P (Str.ofString "__init__"),key:=Value.str (Str.ofString "__init__") 805,val:=Value.ref 447 },{ hash:=PyData.keyHash P (Str.ofString "number_of"),key:=Value.str (Str.ofString "number_of") 815,val:=Value.ref 454 },{ hash:=PyData.keyHash P (Str.ofString "ask"),key:=Value.str (Str.ofString "ask") 821,val:=Value.ref 459 },{ hash:=PyData.keyHash P (Str.ofString "fast"),key:=Value.str (Str.ofString "fast") 830,val:=Value.ref 466 },{ hash:=PyData.keyHash P (Str.ofString "away"),key:=Value.str (Str.ofString "away") 839,val:=Value.ref 473 },{ hash:=PyData.keyHash P (Str.ofString "where"),key:=Value.str (Str.ofString "where") 847,val:=Value.ref 480 },{ hash:=PyData.keyHash P (Str.ofString "at_hand"),key:=Value.str (Str.ofString "at_hand") 854,val:=Value.ref 487 },{ hash:=PyData.keyHash P (Str.ofString "seating"),key:=Value.str (Str.ofString "seating") 861,val:=Value.ref 494 },{ hash:=PyData.keyHash P (Str.ofString "worth"),key:=Value.str (Str.ofString "worth") 868,val:=Value.ref 501 },{ hash:=PyData.keyHash P (Str.ofString "show_all"),key:=Value.str (Str.ofString "show_all") 874,val:=Value.ref 506 },{ hash:=PyData.keyHash P (Str.ofString "say"),key:=Value.str (Str.ofString "say") 883,val:=Value.ref 513 },{ hash:=PyData.keyHash P (Str.ofString "do"),key:=Value.str (Str.ofString "do") 892,val:=Value.ref 520 },{ hash:=PyData.keyHash P (Str.ofString "__static_attributes__"),key:=Value.str (Str.ofString "__static_attributes__") 897,val:=Value.ref 521 },{ hash:=PyData.keyHash P (Str.ofString "__dict__"),key:=Value.str (Str.ofString "__dict__") 899,val:=Value.ref 524 },{ hash:=PyData.keyHash P (Str.ofString "__weakref__"),key:=Value.str (Str.ofString "__weakref__") 901,val:=Value.ref 525 },{ hash:=PyData.keyHash P (Str.ofString "__doc__"),key:=Value.str (Str.ofString "__doc__") 902,val:=Value.none }] 4 }) ::
 (nat_lit 523,{ cls:=Value.type "type",data:=Data.cls { name:=Str.ofString "Desk",bases:=[Value.type "object"],mro:=[Value.ref 523,Value.type "object"],ns:=522,qualname:=Str.ofString "Desk" },slots:=#[none,none,some (Value.str (Str.ofString "Desk") 786),some (Value.str (Str.ofString "Desk") 794),some (Value.builtin "object.__new__"),some (Value.bool true)] }) ::
 (nat_lit 533,kc "_law_cell_at" 907 329 (.int 2 0) (.int 3 0) (.ref 528) (.int 181 0) (.ref 529) .none (.ref 530) (.ref 531) (.ref 532) (.int 912 0) 913) ::
 (nat_lit 534,kf "_law_cell_at" 89 km7 905 533) ::
 (nat_lit 540,kc "_law_mixed" 915 333 (.int 2 0) (.int 3 0) (.ref 535) (.int 181 0) (.ref 536) .none (.ref 537) (.ref 538) (.ref 539) (.int 923 0) 924) ::
 (nat_lit 541,kf "_law_mixed" 90 km7 905 540) ::
 (nat_lit 547,kc "_law_names" 926 340 (.int 2 0) (.int 3 0) (.ref 542) (.int 181 0) (.ref 543) .none (.ref 544) (.ref 545) (.ref 546) (.int 940 0) 941) ::
 (nat_lit 548,kf "_law_names" 91 km7 905 547) ::
 (nat_lit 554,kc "_law_letters" 943 353 (.int 1 0) (.int 3 0) (.ref 549) (.int 181 0) (.ref 550) .none (.ref 551) (.ref 552) (.ref 553) (.int 948 0) 949) ::
 (nat_lit 555,kf "_law_letters" 92 km7 905 554) ::
 (nat_lit 559,kc "_law_hall" 951 356 (.int 1 0) (.int 3 0) (.ref 556) (.int 181 0) (.ref 557) .none .none .none (.ref 558) (.int 954 0) 955) ::
 (nat_lit 560,kf "_law_hall" 93 km7 905 559) ::
 (nat_lit 566,kc "_law_no_hall" 957 366 (.int 2 0) (.int 3 0) (.ref 561) (.int 181 0) (.ref 562) .none (.ref 563) (.ref 564) (.ref 565) (.int 966 0) 967) ::
 (nat_lit 567,kf "_law_no_hall" 94 km7 905 566) ::
 (nat_lit 573,kc "_law_refused" 969 377 (.int 1 0) (.int 3 0) (.ref 568) (.int 181 0) (.ref 569) .none (.ref 570) (.ref 571) (.ref 572) (.int 975 0) 976) ::
 (nat_lit 574,kf "_law_refused" 95 km7 905 573) ::
 (nat_lit 580,kc "_law_no_name" 978 386 (.int 3 0) (.int 3 0) (.ref 575) (.int 181 0) (.ref 576) .none (.ref 577) (.ref 578) (.ref 579) (.int 986 0) 987) ::
 (nat_lit 581,kf "_law_no_name" 96 km7 905 580) ::
 (nat_lit 587,kc "law" 989 398 (.int 1 0) (.int 3 0) (.ref 582) (.int 181 0) (.ref 583) .none (.ref 584) (.ref 585) (.ref 586) (.int 1000 0) 1001) ::
 (nat_lit 588,kf "law" 97 km7 905 587) :: []) (by kernel_rfl)
def KA:List Addr:=[nat_lit 3,nat_lit 23,nat_lit 24,nat_lit 36,nat_lit 37,nat_lit 48,nat_lit 49,nat_lit 60,nat_lit 61,nat_lit 72,nat_lit 73,nat_lit 84,nat_lit 85,nat_lit 96,nat_lit 97,nat_lit 108,nat_lit 109,nat_lit 127,nat_lit 128,nat_lit 146,nat_lit 147,nat_lit 155,nat_lit 162,nat_lit 169,nat_lit 170,nat_lit 174,nat_lit 175,nat_lit 181,nat_lit 188,nat_lit 195,nat_lit 200,nat_lit 207,nat_lit 214,nat_lit 219,nat_lit 220,nat_lit 226,nat_lit 227,nat_lit 231,nat_lit 232,nat_lit 236,nat_lit 237,nat_lit 243,nat_lit 250,nat_lit 255,nat_lit 260,nat_lit 265,nat_lit 272,nat_lit 277,nat_lit 278,nat_lit 282,nat_lit 287,nat_lit 292,nat_lit 293,nat_lit 299,nat_lit 307,nat_lit 314,nat_lit 321,nat_lit 326,nat_lit 331,nat_lit 338,nat_lit 346,nat_lit 353,nat_lit 354,nat_lit 361,nat_lit 366,nat_lit 373,nat_lit 378,nat_lit 379,nat_lit 386,nat_lit 393,nat_lit 398,nat_lit 403,nat_lit 410,nat_lit 417,nat_lit 425,nat_lit 432,nat_lit 433,nat_lit 446,nat_lit 447,nat_lit 453,nat_lit 454,nat_lit 465,nat_lit 466,nat_lit 472,nat_lit 473,nat_lit 479,nat_lit 480,nat_lit 486,nat_lit 487,nat_lit 493,nat_lit 494,nat_lit 500,nat_lit 501,nat_lit 505,nat_lit 506,nat_lit 512,nat_lit 513,nat_lit 522,nat_lit 523,nat_lit 533,nat_lit 534,nat_lit 540,nat_lit 541,nat_lit 547,nat_lit 548,nat_lit 554,nat_lit 555,nat_lit 559,nat_lit 560,nat_lit 566,nat_lit 567,nat_lit 573,nat_lit 574,nat_lit 580,nat_lit 581,nat_lit 587,nat_lit 588]
end K80
namespace PySem.W.Fast
def tw17503293777869316265:Unit:=()
def tw4173133343675863043:Unit:=()
def tw6393440476435368868:Unit:=()
def tw4649282275182920422:Unit:=()
def tw7279967827542638105:Unit:=()
def tw8715920254589916835:Unit:=()
def tw17596609907812015832:Unit:=()
def tw5223123401995445460:Unit:=()
def tw11935086161661856239:Unit:=()
def tw10197008168414157544:Unit:=()
def tw13995616738605998746:Unit:=()
def tw4181315795245888480:Unit:=()
def tw6501412084622576802:Unit:=()
def tw8296319433703999206:Unit:=()
def tw4741683423770084866:Unit:=()
def tw12369841255269701784:Unit:=()
def tw1265773013804573459:Unit:=()
def tw8850890033288611802:Unit:=()
def tw14455122296139969165:Unit:=()
def tw6107200787142143007:Unit:=()
def tw11042696813973099197:Unit:=()
def tw10459361772999996161:Unit:=()
def tw13939259627825534657:Unit:=()
def tw4708679326585465357:Unit:=()
def tw2686221464210709093:Unit:=()
def tw7361556392443047357:Unit:=()
end PySem.W.Fast
open PySem PySem.W PyProof.Rows
set_option maxRecDepth 100000 in
set_option maxHeartbeats 0 in
theorem PySem.Challenge.cw_besideseats_k80_halls_of_desks_holds : PySem.Challenge.rw_besideseats_k80_halls_of_desks.Holds := by
 w_on;o_law;o_head (PySem.W.kHook K80.KK K80.KA (fun _=>by kernel_rfl));(case hw=>w_witness2)
 k_fill
 refine K80.walk (l:=PySem.Challenge.rw_besideseats_k80_halls_of_desks) rfl rfl (fun w h Y=>PySem.W.kIn_of Y) ?F ?L
 case L =>
  intro w
  refine' ZS.lam_ok (r1:=_) (r2:=_) ?n ?h1 ?h2 ?g1 ?g2 ?ne
  (case n=>kernel_rfl)
  (case h1=>refine' ZS.tab_some ?a1 ?l1 ?e1 ?tl1 ?tp1;(case a1=>k_is);(case l1=>k_is);(case e1=>exact rfl);(case tl1=>k_is);(case tp1=>exact rfl))
  (case g1=>exact .inr rfl)
  (case h2=>refine' ZS.tab_some ?a2 ?l2 ?e2 ?tl2 ?tp2;(case a2=>k_is);(case l2=>k_is);(case e2=>exact rfl);(case tl2=>k_is);(case tp2=>exact rfl))
  (case g2=>exact .inr rfl)
  (case ne=>exact fun c P c' P' e1 e2=>by first | (cases e1;done) | (cases e2;done) | (cases e1;cases e2;decide))
 case F =>
  intro w mg fa h KX G hmg
  refine' K80.all_mk KX G hmg ?a0 ?a1 ?a2 ?a3 ?a4 ?a5 ?a6 ?a7 ?a8 ?a9 ?a10 ?a11 ?a12 ?a13 ?a14 ?a15 ?a16 ?a17 ?a18 ?a19 ?a20 ?a21 ?a22 ?a23 ?a24 ?a25 ?a26 ?a27 ?v_MOST_COLUMNS ?v_MOST_LETTERS ?v_MOST_ROWS ?v_NAME ?v_WISHES ?v_WORTH ?n_ValueError ?n_all ?n_bool ?n_enumerate ?n_int ?n_isinstance ?n_len ?n_list ?n_range ?n_str ?n_sum ?n_tuple ?n_zip ?w_Desk ?w_Full ?w_NoGroup ?w_NoHall ?w_NoName ?w_NoRow ?w_NoSeating ?w_NoText ?w_SeatError ?w_TooGreat ?w_Twice ?xc_NoHall ?xc_NoName ?xc_SeatError ?xi_NoHall ?xi_NoName ?ek_NoHall ?ek_NoName ?kk_NoHall_Full ?kk_NoHall_NoGroup ?kk_NoHall_NoHall ?kk_NoHall_NoName ?kk_NoHall_NoRow ?kk_NoHall_NoSeating ?kk_NoHall_NoText ?kk_NoHall_TooGreat ?kk_NoHall_Twice ?kk_NoHall_ValueError ?kk_NoName_NoGroup ?kk_NoName_NoRow ?kk_NoName_SeatError ?cl_Desk ?mk_Desk ?kp_Desk ?nf_guests ?nf_hall ?nf_held ?nf_places ?su_NoHall_SeatError
  (case v_MOST_COLUMNS=>k_is)
  (case v_MOST_LETTERS=>k_is)
  (case v_MOST_ROWS=>k_is)
  (case v_NAME=>k_is)
  (case v_WISHES=>k_is)
  (case v_WORTH=>k_is)
  (case w_Desk=>k_is)
  (case w_Full=>k_is)
  (case w_NoGroup=>k_is)
  (case w_NoHall=>k_is)
  (case w_NoName=>k_is)
  (case w_NoRow=>k_is)
  (case w_NoSeating=>k_is)
  (case w_NoText=>k_is)
  (case w_SeatError=>k_is)
  (case w_TooGreat=>k_is)
  (case w_Twice=>k_is)
  (case xc_NoHall=>kernel_rfl)
  (case xc_NoName=>kernel_rfl)
  (case xc_SeatError=>kernel_rfl)
  (case xi_NoHall=>kernel_rfl)
  (case xi_NoName=>kernel_rfl)
  (case ek_NoHall=>refine' ⟨?_,?_,?_,?_,?_,?_,?_⟩<;>kernel_rfl)
  (case ek_NoName=>refine' ⟨?_,?_,?_,?_,?_,?_,?_⟩<;>kernel_rfl)
  (case kk_NoHall_Full=>kernel_rfl)
  (case kk_NoHall_NoGroup=>kernel_rfl)
  (case kk_NoHall_NoHall=>kernel_rfl)
  (case kk_NoHall_NoName=>kernel_rfl)
  (case kk_NoHall_NoRow=>kernel_rfl)
  (case kk_NoHall_NoSeating=>kernel_rfl)
  (case kk_NoHall_NoText=>kernel_rfl)
  (case kk_NoHall_TooGreat=>kernel_rfl)
  (case kk_NoHall_Twice=>kernel_rfl)
  (case kk_NoHall_ValueError=>kernel_rfl)
  (case kk_NoName_NoGroup=>kernel_rfl)
  (case kk_NoName_NoRow=>kernel_rfl)
  (case kk_NoName_SeatError=>kernel_rfl)
  (case cl_Desk=>refine' ⟨?_,?_,?_,?_⟩<;>kernel_rfl)
  (case mk_Desk=>kernel_rfl)
  (case kp_Desk=>kernel_rfl)
  (case nf_guests=>kernel_rfl)
  (case nf_hall=>kernel_rfl)
  (case nf_held=>kernel_rfl)
  (case nf_places=>kernel_rfl)
  (case su_NoHall_SeatError=>kernel_rfl)
  (case a9=>refine' ZS.MDefK.mk' ?a9 ?l9 ?c9 ?k9 ?i9;(case a9=>k_is);(case l9=>k_is);(case c9=>k_is);(case k9=>k_is);(case i9=>k_is))
  (case a10=>refine' ZS.MDefK.mk' ?a10 ?l10 ?c10 ?k10 ?i10;(case a10=>k_is);(case l10=>k_is);(case c10=>k_is);(case k10=>k_is);(case i10=>k_is))
  (case a11=>refine' ZS.MDefK.mk' ?a11 ?l11 ?c11 ?k11 ?i11;(case a11=>k_is);(case l11=>k_is);(case c11=>k_is);(case k11=>k_is);(case i11=>k_is))
  (case a12=>refine' ZS.MDefK.mk' ?a12 ?l12 ?c12 ?k12 ?i12;(case a12=>k_is);(case l12=>k_is);(case c12=>k_is);(case k12=>k_is);(case i12=>k_is))
  (case a13=>refine' ZS.MDefK.mk' ?a13 ?l13 ?c13 ?k13 ?i13;(case a13=>k_is);(case l13=>k_is);(case c13=>k_is);(case k13=>k_is);(case i13=>k_is))
  (case a14=>refine' ZS.MDefK.mk' ?a14 ?l14 ?c14 ?k14 ?i14;(case a14=>k_is);(case l14=>k_is);(case c14=>k_is);(case k14=>k_is);(case i14=>k_is))
  (case a15=>refine' ZS.MDefK.mk' ?a15 ?l15 ?c15 ?k15 ?i15;(case a15=>k_is);(case l15=>k_is);(case c15=>k_is);(case k15=>k_is);(case i15=>k_is))
  (case a16=>refine' ZS.MDefK.mk' ?a16 ?l16 ?c16 ?k16 ?i16;(case a16=>k_is);(case l16=>k_is);(case c16=>k_is);(case k16=>k_is);(case i16=>k_is))
  (case a17=>refine' ZS.MDefK.mk' ?a17 ?l17 ?c17 ?k17 ?i17;(case a17=>k_is);(case l17=>k_is);(case c17=>k_is);(case k17=>k_is);(case i17=>k_is))
  (case a18=>refine' ZS.MDefK.mk' ?a18 ?l18 ?c18 ?k18 ?i18;(case a18=>k_is);(case l18=>k_is);(case c18=>k_is);(case k18=>k_is);(case i18=>k_is))
  all_goals first | k_is | (refine' ZS.DefK.mk' ?a ?l ?c ?k;(case a=>k_is);(case l=>k_is);(case c=>k_is);(case k=>k_is))
#print axioms PySem.Challenge.cw_besideseats_k80_halls_of_desks_holds
