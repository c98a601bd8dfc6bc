import PyProof.Rows.All
import Wide.All
import OpenK.AllK
import Wide.FinOn
import Lean
import KE.KMinKey
import PyProof.WalkInts
import PyProof.SeqI3
import PyProof.Rows.CallKwBuiltin
import KE.KIsAll
import PyProof.EqAt
import PyProof.EqKinds
import PyProof.TupleCall
import KE.KLam
import PySem.Challenge.RW_besideseats_k50_ways_counted
set_option Elab.async false
set_option linter.all false
set_option maxRecDepth 100000
set_option genSizeOf false
set_option compiler.extract_closed false
set_option bootstrap.genMatcherCode false
namespace L2
open PySem PySem.Spec PyProof.Rows
abbrev Key:=Sum Int Str
def keyIs:Key->Value->Bool
  | .inl k,v=>Value.isInt k v
  | .inr x,v=>Value.isStrOf x v
def keyH(w:World):Key->Int
  | .inl k=>hashInt k
  | .inr x=>hashStr w x
theorem keyIs_shape:∀{k:Key}{v:Value},keyIs k v=true->(∃i t,k=Sum.inl i∧v=Value.int i t)∨(∃x t,k=Sum.inr x∧v=Value.str x t)
  | .inl i,v,h=>by obtain⟨t,e⟩:=Value.isInt_shape (k:=i) (v:=v) h;exact .inl ⟨i,t,rfl,e⟩
  | .inr x,v,h=>by obtain⟨t,e⟩:=Value.isStrOf_shape (x:=x) (v:=v) h;exact .inr ⟨x,t,rfl,e⟩
theorem key_ll(a b:Int):decide ((Sum.inl a:Key)=Sum.inl b)=(a==b):=by
  by_cases e:a=b
  ·subst e;simp
  · have h:¬(Sum.inl a:Key)=Sum.inl b:=λ q=>e (Sum.inl.inj q);rw[decide_eq_false h];exact(beq_eq_false_iff_ne.mpr e).symm
theorem key_rr(a b:Str):decide ((Sum.inr a:Key)=Sum.inr b)=decide (a=b):=by
  by_cases e:a=b
  ·subst e;simp
  · have h:¬(Sum.inr a:Key)=Sum.inr b:=λ q=>e (Sum.inr.inj q);rw[decide_eq_false h,decide_eq_false e]
theorem key_lr(a:Int)(b:Str):decide ((Sum.inl a:Key)=Sum.inr b)=false:=decide_eq_false (λ q=>nomatch q)
theorem key_rl(a:Str)(b:Int):decide ((Sum.inr a:Key)=Sum.inl b)=false:=decide_eq_false (λ q=>nomatch q)
def mixKind (prog:Program) (w:World):PySem.KeyKind prog w Key where
  is:=keyIs
  hash:=keyH w
  inj:=λ v a b ha hb=>by
    rcases keyIs_shape ha with⟨i,t,rfl,rfl⟩ | ⟨x,t,rfl,rfl⟩
    · rcases keyIs_shape hb with⟨j,u,rfl,e⟩ | ⟨y,u,rfl,e⟩
      ·injection e with e1 _;rw[e1]
      ·exact nomatch e
    · rcases keyIs_shape hb with⟨j,u,rfl,e⟩ | ⟨y,u,rfl,e⟩
      ·exact nomatch e
      ·injection e with e1 _;rw[e1]
  byValue:=λ k v h=>by rcases keyIs_shape h with⟨i,t,rfl,rfl⟩ | ⟨x,t,rfl,rfl⟩<;>rfl
  pyHash:=λ hv h=>by
    rcases keyIs_shape hv with⟨i,t,rfl,rfl⟩ | ⟨x,t,rfl,rfl⟩
    ·exact wpAny_pyHash_int h
    ·exact wpAny_pyHash_str h
  eqBool:=λ hu hv h=>by
    rcases keyIs_shape hu with⟨i,t,rfl,rfl⟩ | ⟨x,t,rfl,rfl⟩
    · rcases keyIs_shape hv with⟨j,u,rfl,rfl⟩ | ⟨y,u,rfl,rfl⟩
      ·rw[key_ll]at h;exact wpAny_eqBool_int h
      ·rw[key_lr]at h;exact SeqAt.EqAt.int_str i t y u _ _ _ _ h
    · rcases keyIs_shape hv with⟨j,u,rfl,rfl⟩ | ⟨y,u,rfl,rfl⟩
      ·rw[key_rl]at h;exact SeqAt.EqAt.str_int x t j u _ _ _ _ h
      ·rw[key_rr]at h;exact wpAny_eqBool_str h
  «strs»:=λ k x t v h=>by
    rcases keyIs_shape h with⟨i,u,rfl,e⟩ | ⟨y,u,rfl,e⟩
    ·exact nomatch e
    · injection e with e1 _
      subst e1;cases v<;>rfl
end L2
namespace L2
open PySem PySem.Spec PyProof.Rows
inductive V where
  | non | bl (b:Bool) | int (i:Int) | str (x:Str) | byt (b:Array UInt8) | flt (b:UInt64) | ref (a:Addr) | ty (n:String)
  deriving DecidableEq
def RelV:V->Value->Prop
  | .non,u=>u=Value.none
  | .bl b,u=>u=Value.bool b
  | .int i,u=>∃t,u=Value.int i t
  | .str x,u=>∃t,u=Value.str x t
  | .byt b,u=>∃t,u=Value.bytes b t
  | .flt b,u=>∃t,u=Value.float b t
  | .ref a,u=>u=Value.ref a
  | .ty n,u=>u=Value.type n
abbrev Vals:List V->List Value->Prop:=Paired RelV
theorem Vals.length{xs:List V}{us:List Value}(r:Vals xs us):xs.length=us.length:=Paired.length r
theorem Vals.get:∀{xs:List V}{us:List Value}{i:Nat}{x:V},Vals xs us->xs[i]?=some x->∃u,us[i]?=some u∧RelV x u
  | _,_,_,_,.nil,e=>by simp at e
  | _,_,0,_,.cons r _,e=>by simp at e;subst e;exact⟨_,rfl,r⟩
  | _,_,i+1,x,.cons _ t,e=>by obtain⟨u,h1,h2⟩:=Vals.get (i:=i) (x:=x) t (by simpa using e);exact⟨u,by simpa using h1,h2⟩
theorem Vals.set{x:V}{u:Value}(r:RelV x u):∀{xs:List V}{us:List Value}(i:Nat),Vals xs us->Vals (xs.set i x) (us.set i u)
  | _,_,_,.nil=>.nil
  | _,_,0,.cons _ t=>.cons r t
  | _,_,i+1,.cons q t=>.cons q (Vals.set r i t)
theorem Vals.append:∀{xs ys:List V}{us ws:List Value},Vals xs us->Vals ys ws->Vals (xs++ys) (us++ws)
  | _,_,_,_,.nil,s=>s
  | _,_,_,_,.cons r t,s=>.cons r (Vals.append t s)
theorem Vals.take:∀{xs:List V}{us:List Value}(n:Nat),Vals xs us->Vals (xs.take n) (us.take n)
  | _,_,0,_=>.nil
  | _,_,_+1,.nil=>.nil
  | _,_,n+1,.cons r t=>.cons r (Vals.take n t)
theorem Vals.drop:∀{xs:List V}{us:List Value}(n:Nat),Vals xs us->Vals (xs.drop n) (us.drop n)
  | _,_,0,r=>r
  | _,_,_+1,.nil=>.nil
  | _,_,n+1,.cons _ t=>Vals.drop n t
def RelO:Option V->Option Value->Prop
  | some v,some u=>RelV v u
  | none,none=>True
  | _,_=>False
def KV{κ:Type}:List (κ×V)->List (κ×Value)->Prop:=Paired λ(p:κ×V) (q:κ×Value)=>p.1=q.1∧RelV p.2 q.2
def kV:Key->V
  | .inl i=>.int i
  | .inr x=>.str x
inductive HO where
    | lst (xs:List V)
    | tup (xs:List V)
    | dK (kvs:List (Key×V)) | dT (kvs:List (List Key×V))
    | set (S:Int->Bool) (n:Nat)
    | ins (C dx:Addr) (fs:List (Str×V))
    | own (x:Addr)
    | xd (fs:List (Str×V))
    | met (f x:Addr)
    | rng (lo hi:Int)
    | frz (o:Obj) (u:HO)
    | tbl (q:Str)
  | cod (q:Str)
    | ext (φ:Heap->Prop)
abbrev Hp:=Addr->Option HO
def Prm:HO->Prop
  | .tbl _=>True
  | .cod _=>True
  | _=>False
def upd(H:Hp)(a:Addr)(o:HO):Hp:=λ b=>if b=a then some o else H b
theorem upd_same{H:Hp}{a:Addr}{o:HO}:upd H a o a=some o:=by unfold upd;rw[if_pos rfl]
theorem aM{H:Hp}{a b:Addr}{o:HO}(h:b≠a):upd H a o b=H b:=by unfold upd;rw[if_neg h]
theorem ne_of{H:Hp}{a b:Addr}{o u:HO}(h:H a=some o)(h':H b=some u)(d:o≠u):a≠b:=by intro e;subst e;rw[h]at h';exact d (Option.some.inj h')
theorem ne_of_none{H:Hp}{a b:Addr}{o:HO}(h:H a=some o)(h':H b=none):a≠b:=by intro e;subst e;rw[h]at h';cases h'
section
variable (P:Program) (w:World)
def ObjOk(H:Hp)(h:Heap)(a:Addr):HO->Prop
  | .lst xs=>xs.length≤sizeLine∧∃(its:List Value) (n:Nat),Vals xs its∧h.get? a=some { cls:=.type "list",data:=.seq its.toArray n }
  | .tup xs=>xs.length≤sizeLine∧∃its:List Value,Vals xs its∧IsTup h a its.toArray
  | .dK kvs=>kvs.length≤sizeLine∧(a==sysModules)=false∧∃vs,KV kvs vs∧h.DictOf (mixKind P w) a vs
  | .dT kvs=>kvs.length≤sizeLine∧(a==sysModules)=false∧∃xs:List (List Key×Addr×Value),
      Paired (λ(p:List Key×V) (q:List Key×Addr×Value)=>p.1=q.1∧H q.2.1=some (.tup (p.1.map kV))∧RelV p.2 q.2.2) kvs xs ∧
      ∃o es ep,h.get? a=some o∧o.ExactDict∧o.data=.dict es ep∧es.toList=xs.map (entryOfKey (tupleKind (mixKind P w)))∧(xs.map (·.1)).Nodup
  | .set S n=>h.SetOf (intKind P w) a S n
  | .ins C dx fs=>H dx=some (.own a)∧fs.length≤1000∧dx≠a∧h.get? a=some (PySem.W.instObj C dx) ∧
      ∃mA,h.Ns1 dx mA∧(∀f,RelO (fs.lookup f) (mA f))∧PySem.Within mA (fs.map (·.1))
  | .own _=>∃o,h.get? a=some o
  | .xd fs=>∃mA,h.Ns1 a mA∧∀f,RelO (fs.lookup f) (mA f)
  | .rng lo hi=>∃t u v,h.get? a=some { cls:=.type "range",data:=.fields #[.int lo t,.int hi u,.int 1 v] }
  | .frz o u=>h.get? a=some o∧ObjOk H h a u
  | .tbl q=>∃ps:Array Value,h.get? a=some { cls:=.none,data:=.fields ps }∧TriplesOk ps.toList∧∀pos cv,codeAmong pos ps.toList=some cv->∃c,cv=.ref c∧H c=some (.cod q)
  | .cod q=>h.CodeRec (.ref a) q
  | .met f x=>h.get? a=some (PySem.W.methodObj (.ref f) (.ref x))
  | .ext φ=>φ h∧(∃o,h.get? a=some o)∧∀h1 h2:Heap,φ h1->(∀o,h1.get? a=some o->h2.get? a=some o)->φ h2
def HOk(H:Hp)(h:Heap):Prop:=∀a o,H a=some o->ObjOk P w H h a o
end
section
variable {P:Program}{w:World}{H H':Hp}{h h':Heap}{a:Addr}{o:HO}
theorem ObjOk.lt(x:ObjOk P w H h a o):a < h.objs.size:=by
  cases o with
  | lst xs=>obtain⟨_,_,_,_,e⟩:=x;exact Heap.lt_size e
  | tup xs=>obtain⟨_,_,_,p⟩:=x;exact p.lt
  | dK kvs=>obtain⟨_,_,_,_,o,_,_,e,_⟩:=x;exact Heap.lt_size e
  | dT kvs=>obtain⟨_,_,_,_,o,_,_,e,_⟩:=x;exact Heap.lt_size e
  | set S n=>obtain⟨o,_,_,_,e,_⟩:=x;exact Heap.lt_size e
  | ins C dx fs=>obtain⟨_,_,_,e,_⟩:=x;exact Heap.lt_size e
  | own y=>obtain⟨_,e⟩:=x;exact Heap.lt_size e
  | xd fs=>obtain⟨_,⟨_,_,_,e,_⟩,_⟩:=x;exact Heap.lt_size e
  | rng lo hi=>obtain⟨_,_,_,e⟩:=x;exact Heap.lt_size e
  | frz ob u=>obtain⟨e,_⟩:=x;exact Heap.lt_size e
  | tbl q=>obtain⟨_,e,_⟩:=x;exact Heap.lt_size e
  | cod q=>obtain⟨_,_,_,_,e1,e2,_⟩:=x;cases e1;exact Heap.lt_size e2
  | met f y=>exact Heap.lt_size (show h.get? a=some _ from x)
  | ext φ=>obtain⟨_,⟨_,e⟩,_⟩:=x;exact Heap.lt_size e
theorem Paired.mapP{α β:Type}{F G:α->β->Prop}:∀{l₁:List α}{l₂:List β},Paired F l₁ l₂->(∀a b,F a b->G a b)->Paired G l₁ l₂
  | _,_,.nil,_=>.nil
  | _,_,.cons r t,f=>.cons (f _ _ r) (Paired.mapP t f)
theorem ObjOk.stay(x:ObjOk P w H h a o)(k:∀b u,(b=a∨H b=some (.own a))->h.get? b=some u->h'.get? b=some u)
    (ho:∀b,H b=some (.own a)->H' b=some (.own a)) (ht:∀b xs,H b=some (.tup xs)->H' b=some (.tup xs)) (hp:∀b u,Prm u->H b=some u->H' b=some u):ObjOk P w H' h' a o:=by
  induction o with
  | lst xs=>obtain⟨z,its,n,r,e⟩:=x;exact⟨z,its,n,r,k _ _ (.inl rfl) e⟩
  | tup xs=>obtain⟨z,its,r,ob,e,c⟩:=x;exact⟨z,its,r,ob,k _ _ (.inl rfl) e,c⟩
  | dK kvs=>obtain⟨z,y,vs,r,ob,es,ep,e,c⟩:=x;exact⟨z,y,vs,r,ob,es,ep,k _ _ (.inl rfl) e,c⟩
  | dT kvs =>obtain⟨z,y,xs,r,ob,es,ep,e,c⟩:=x;exact⟨z,y,xs,Paired.mapP r λ p q z=>⟨z.1,ht _ _ z.2.1,z.2.2⟩,ob,es,ep,k _ _ (.inl rfl) e,c⟩
  | set S n=>obtain⟨ob,es,ep,t,e,c⟩:=x;exact⟨ob,es,ep,t,k _ _ (.inl rfl) e,c⟩
  | ins C dx fs =>obtain⟨d,z,ne,e,mA,⟨od,es,ep,e2,c⟩,r⟩:=x;exact⟨ho _ d,z,ne,k _ _ (.inl rfl) e,mA,⟨od,es,ep,k _ _ (.inr d) e2,c⟩,r⟩
  | own y=>obtain⟨ob,e⟩:=x;exact⟨ob,k _ _ (.inl rfl) e⟩
  | xd fs=>obtain⟨mA,⟨od,es,ep,e,c⟩,r⟩:=x;exact⟨mA,⟨od,es,ep,k _ _ (.inl rfl) e,c⟩,r⟩
  | rng lo hi=>obtain⟨t,u,v,e⟩:=x;exact⟨t,u,v,k _ _ (.inl rfl) e⟩
  | frz ob u ih=>obtain⟨e,q⟩:=x;exact⟨k _ _ (.inl rfl) e,ih q⟩
  | tbl q =>obtain⟨ps,e,t,g⟩:=x;exact⟨ps,k a _ (.inl rfl) e,t,λ pos cv r=>let ⟨c,e1,e2⟩:=g pos cv r;⟨c,e1,hp c _ trivial e2⟩⟩
  | cod q =>obtain⟨c,oc,vs,t,e1,e2,r⟩:=x;cases e1;exact⟨a,oc,vs,t,rfl,k a _ (.inl rfl) e2,r⟩
  | met f y =>have e:h.get? a=some (PySem.W.methodObj (.ref f) (.ref y)):=x;show h'.get? a=some (PySem.W.methodObj (.ref f) (.ref y));exact k a _ (.inl rfl) e
  | ext φ=>obtain⟨p,⟨o,e⟩,st⟩:=x;exact⟨st _ _ p λ o q=>k _ _ (.inl rfl) q,⟨o,k _ _ (.inl rfl) e⟩,st⟩
theorem HOk.lt(x:HOk P w H h)(e:H a=some o):a < h.objs.size:=(x a o e).lt
theorem HOk.fresh(x:HOk P w H h)(e:h.objs.size≤a):H a=none:=by
  cases q:H a with
  | none=>rfl
  | some u=>exact absurd (Nat.lt_of_lt_of_le (x.lt q) e) (Nat.lt_irrefl _)
theorem HOk.kept(x:HOk P w H h)(k:∀b u,h.get? b=some u->h'.get? b=some u):HOk P w H h':=λ a o e =>(x a o e).stay (λ b u _ q=>k b u q) (λ _ q=>q) (λ _ _ q=>q) λ _ _ _ q=>q
theorem HOk.laid(x:HOk P w H h)(k:∀b u,h.get? b=some u->h'.get? b=some u)(hp:h.objs.size≤a)(new:ObjOk P w (upd H a o) h' a o):HOk P w (upd H a o) h':=λ b u e=>by
  have hn:=x.fresh hp;by_cases hb:b=a
  ·subst hb;rw[upd_same]at e;cases e;exact new
  · rw[aM hb]at e;exact(x b u e).stay (λ c v _ q=>k c v q) (λ c q=>by rw[aM (ne_of_none q hn)];exact q) (λ c xs q=>by rw[aM (ne_of_none q hn)];exact q) λ c v _ q=>by rw[aM (ne_of_none q hn)];exact q
end
def Rd(H:Hp)(a:Addr)(u:HO):Prop:=H a=some u∨∃o,H a=some (.frz o u)
theorem Rd.of{H:Hp}{a:Addr}{u:HO}(h:H a=some u):Rd H a u:=.inl h
theorem Rd.ok{P:Program}{w:World}{H:Hp}{h:Heap}{a:Addr}{u:HO}(r:Rd H a u)(x:HOk P w H h):ObjOk P w H h a u:=by
  rcases r with r | ⟨o,r⟩
  ·exact x a u r
  · obtain⟨_,q⟩:=x a _ r;exact q
def Mut:Option HO->Prop
  | some (.lst _)=>True
  | some (.dK _)=>True
  | some (.dT _)=>True
  | some (.set _ _)=>True
  | some (.ins _ _ _)=>True
  | some (.ext _)=>True
  | _=>False
section
variable {P:Program}{w:World}{H:Hp}{h h':Heap}{x e:Addr}{o':HO}
theorem HOk.write (ok : HOk P w H h) (mu : Mut (H x)) (he : e = x ∨ H e = some (.own x)) (k : ∀ b u, b ≠ e -> h.get? b = some u -> h'.get? b = some u) (heo : ∃ u, h'.get? e = some u)
    (new:ObjOk P w (upd H x o') h' x o'):HOk P w (upd H x o') h':=λ b u q=>by
  have nown:∀c y,H c=some (.own y)->c≠x:=λ c y r z=>by subst z;rw[r]at mu;exact mu
  have ntup:∀c xs,H c=some (.tup xs)->c≠x:=λ c xs r z=>by subst z;rw[r]at mu;exact mu
  have nprm:∀c u,Prm u->H c=some u->c≠x:=λ c u p r z=>by subst z;rw[r]at mu;cases u<;>first | exact p | exact mu
  by_cases hb:b=x
  ·subst hb;rw[upd_same]at q;cases q;exact new
  · rw[aM hb]at q;by_cases hbe:b=e
    · have q':H b=some (.own x):=by
        rcases he with z | z
        ·exact absurd (hbe.trans z) hb
        ·rw[hbe];exact z
      rw[q]at q';cases q';obtain⟨v,hv⟩:=heo;exact⟨v,by rw[hbe];exact hv⟩
    · refine(ok b u q).stay (λ c v hc r=>k c v ?_ r) (λ c r=>by rw[aM (nown c b r)];exact r) (λ c xs r=>by rw[aM (ntup c xs r)];exact r) λ c v p r=>by rw[aM (nprm c v p r)];exact r
      rcases hc with rfl | hc
      ·exact hbe
      · rintro rfl;rcases he with z | z
        ·exact nown c b hc z
        ·rw[hc]at z;cases z;exact hb rfl
end
structure Un(fs ex:List Addr)(H H':Hp)(h h':Heap):Prop where
  keep:∀b o,h.get? b=some o->H b=none->b∉fs->b∉ex->h'.get? b=some o
  slot:∀b o,h.get? b=some o->H b=none->b∈fs->b∉ex->∃sl,h'.get? b=some { o with slots:=sl }
  free:∀b o,h.get? b=some o->H b=none->b∉ex->H' b=none
  there:∀b o,h.get? b=some o->b∉ex->∃o',h'.get? b=some o'
  tups:∀b xs,H b=some (.tup xs)->H' b=some (.tup xs)
  frzs:∀b o u,H b=some (.frz o u)->H' b=some (.frz o u)
  tbls:∀b u,Prm u->H b=some u->H' b=some u
section
variable {fs fs' ex ex':List Addr}{H H1 H2:Hp}{h h1 h2 h':Heap}{a x e:Addr}{o:HO}
theorem Un.any(u:Un fs ex H H1 h h1){b:Addr}{ob:Obj}(q:h.get? b=some ob)(n:H b=none)(hx:b∉ex):∃sl,h1.get? b=some { ob with slots:=sl }:=by
  by_cases hb:b∈fs
  ·exact u.slot b ob q n hb hx
  ·exact⟨ob.slots,u.keep b ob q n hb hx⟩
theorem Un.kept(k:∀b u,h.get? b=some u->h'.get? b=some u):Un fs ex H H h h' :=
  ⟨λ b ob q _ _ _=>k b ob q,λ b ob q _ _ _=>⟨ob.slots,k b ob q⟩,λ _ _ _ n _=>n,λ b ob q _=>⟨ob,k b ob q⟩,λ _ _ q=>q,λ _ _ _ q=>q,λ _ _ _ q=>q⟩
theorem Un.refl:Un fs ex H H h h:=Un.kept λ _ _ q=>q
theorem Un.laid(k:∀b u,h.get? b=some u->h'.get? b=some u)(hp:h.objs.size≤a)(hn:H a=none):Un fs ex H (upd H a o) h h' where
  keep:=λ b u q _ _ _=>k b u q
  slot:=λ b u q _ _ _=>⟨u.slots,k b u q⟩
  free:=λ b u q n _=>by rw[aM (Nat.ne_of_lt (Nat.lt_of_lt_of_le (Heap.lt_size q) hp))];exact n
  there:=λ b u q _=>⟨u,k b u q⟩
  tups:=λ b xs q=>by rw[aM (ne_of_none q hn)];exact q
  frzs:=λ b u xs q=>by rw[aM (ne_of_none q hn)];exact q
  tbls:=λ b u _ q=>by rw[aM (ne_of_none q hn)];exact q
theorem Un.write(mu:Mut (H x))(he:e=x∨H e=some (.own x))(k:∀b u,b≠e->h.get? b=some u->h'.get? b=some u)(heo:∃u,h'.get? e=some u):Un fs ex H (upd H x o) h h':=by
  have hx:∀b,H b=none->b≠x:=λ b n z=>by subst z;rw[n]at mu;exact mu
  have hb:∀b,H b=none->b≠e:=λ b n z=>by
    subst z;rcases he with r | r
    ·exact hx b n r
    ·rw[n]at r;cases r
  have hm:∀b u,H b=some u->¬Mut (some u)->b≠x:=λ b u q nm z=>by subst z;rw[q]at mu;exact nm mu
  refine⟨λ b u q n _ _=>k b u (hb b n) q,λ b u q n _ _=>⟨u.slots,k b u (hb b n) q⟩,λ b u q n _=>by rw[aM (hx b n)];exact n,λ b u q _=>?_,
    λ b xs q=>by rw[aM (hm b _ q λ z=>z)];exact q,λ b u xs q=>by rw[aM (hm b _ q λ z=>z)];exact q,λ b u p q=>by rw[aM (hm b _ q λ z=>by cases u<;>first | exact p | exact z)];exact q⟩
  by_cases hbe:b=e
  ·subst hbe;exact heo
  ·exact⟨u,k b u hbe q⟩
theorem Un.mono(u:Un fs ex H H1 h h1)(hs:∀b∈fs,b∈fs')(hx:∀b∈ex,b∈ex'):Un fs' ex' H H1 h h1 :=
  ⟨λ b ob q n hb he=>u.keep b ob q n (λ z=>hb (hs b z)) λ z=>he (hx b z),λ _ _ q n _ he=>u.any q n λ z=>he (hx _ z),λ b ob q n he=>u.free b ob q n λ z=>he (hx b z),λ b ob q he=>u.there b ob q λ z=>he (hx b z),u.tups,u.frzs,u.tbls⟩
end
def trk(h:Heap)(H:Hp):List Addr:=(List.range h.objs.size).filter λ a=>(H a).isSome
def hidT(h:Heap)(H:Hp):Heap:=PySem.W.hideAll h (trk h H)
theorem hidT_size(h:Heap)(H:Hp):(hidT h H).objs.size=h.objs.size:=PySem.W.hideAll_size _ _
theorem hidT_get{h:Heap}{H:Hp}{b:Addr}{o:Obj}(e:h.get? b=some o)(n:H b=none):(hidT h H).get? b=some o :=
  PySem.W.hideAll_get _ e λ hm=>by have q:(H b).isSome=true:=(List.mem_filter.mp hm).2;rw[n]at q;simp at q
theorem of_hidT{h:Heap}{H:Hp}{b:Addr}{o:Obj}(e:(hidT h H).get? b=some o):h.get? b=some o∧H b=none:=by
  have e':h.get? b=some o:=PySem.W.of_hideAll (trk h H) e;refine⟨e',?_⟩;cases q:H b with
  | none=>rfl
  | some x =>have hm:b∈trk h H:=List.mem_filter.mpr ⟨List.mem_range.mpr (Heap.lt_size e'),by simp[q]⟩;have z:(hidT h H).get? b=none:=PySem.W.hideAll_none (trk h H) hm;rw[z]at e;cases e
def allNews(g h:Heap)(L:Addr):List (Addr×Obj):=(List.range h.objs.size).filterMap λ a=>if a=L∨(g.get? a).isSome=true then none else(h.get? a).map λ o=>(a,o)
def rest(g h:Heap)(L d:Addr):List (Addr×Obj):=(allNews g h L).filter λ p=>decide (p.1≠d)
end L2
namespace L2
open PySem PySem.Spec PyProof.Rows
structure Mod(K:PySem.W.Frag)(mg:Str->Option Value)(base:Heap):Prop where
  kin:K.In base
  glob:base.Ns mainGlobals mg
  blt:∃mb,base.Ns builtinsNs mb∧∀x:Str,x ≠ "__name__" -> mb x=bootBuiltins x
  nolimit:base.NoLimit
def lamNames:List Str:=["best_among", "paper_beside"]
def lamQ(x:Str):Str:=x ++ ".<locals>." ++ "<lambda>"
def BMain(mg:Str->Option Value)(base:Heap):Prop:=∃bm ob,mg "__builtins__" = some (.ref bm)∧bm≠builtinsNs∧base.get? bm=some ob∧ob.cls=.type "module" ∧ ob.dict=some builtinsNs∧ob.data=.plain
def TabOk(K:PySem.W.Frag)(mg:Str->Option Value)(base:Heap)(H:Hp):Prop:=∀x∈lamNames,∀c P,PySem.W.tabIn K x=some (c,P)->H P=some (.tbl (lamQ x))∧PySem.W.CodeHd base c P∧BMain mg base
theorem TabOk.up{K:PySem.W.Frag}{mg:Str->Option Value}{base:Heap}{H H':Hp}(t:TabOk K mg base H)(u:∀b o,Prm o->H b=some o->H' b=some o):TabOk K mg base H':=λ x hx c P e=>⟨u _ _ trivial (t x hx c P e).1,(t x hx c P e).2⟩
structure Cx where
  prog:Program
  w:World
  K:PySem.W.Frag
  mg:Str->Option Value
  base:Heap
  A:Around
  N:List Str
  s₀:Shared
  H₀:Hp
  env:Env
  outer:List Env
  stack:List Env
  ex:List Addr
  fn:Str->Bool
  calm:Bool
  pn:List (Addr×Obj)
  xe:Value->Shared->Prop
def frs(l:List Env):List Addr:=l.filterMap (·.frame)
abbrev Cx.fs(X:Cx):List Addr:=frs X.outer
def Vis(sc:Scope)(x:Str):Prop:=sc.names.lookup x=some .local∨sc.names.lookup x=some .cell∨sc.names.lookup x=some .free
def Loc(sc:Scope)(x:Str):Prop:=sc.names.lookup x=some .local∨sc.names.lookup x=some .cell
def Look(env:Env)(h:Heap)(m:Str->Option Value)(x:Str)(u:Value):Prop :=
  (env.kindOf x=some .local∧m x=some u)∨((env.kindOf x=some .cell∨env.kindOf x=some .free)∧∃c,env.cells.lookup x=some c∧h.IsCell c (some u))
structure Cx.Ok(X:Cx):Prop where
  mod:Mod X.K X.mg X.base
  kind:X.env.scope.kind=.function
  glob:X.env.globals=mainGlobals
  blt:X.env.builtins=builtinsNs
  above:X.s₀.heap.objs.size≤X.env.locals
  inj:∀x y c,X.env.cells.lookup x=some c->X.env.cells.lookup y=some c->x=y
  has:∀x,(X.env.kindOf x=some .cell∨X.env.kindOf x=some .free)->∃c,X.env.cells.lookup x=some c
  cab:∀x c,X.fn x=true->X.env.cells.lookup x=some c->X.s₀.heap.objs.size≤c
  hd:X.calm=true->X.A.handled=none
  frames:X.A.frames=some X.stack
  stk:X.stack=X.outer∨(X.stack=X.env :: X.outer∧X.env.frame=some X.env.locals)
  exf:∀b∈X.ex,b≠X.env.locals∧∀x c,X.env.cells.lookup x=some c->c≠b
  bs:∀b o,X.base.get? b=some o->X.s₀.heap.get? b=some o∧X.H₀ b=none
  bsz:X.base.objs.size≤X.s₀.heap.objs.size
  noex:∀b o,X.base.get? b=some o->b∉X.ex
  exfs:∀b∈X.ex,b∉X.fs
  funs:X.s₀.heap.FunFrames X.base X.outer
  frf:∀b∈X.fs,X.H₀ b=none
structure Inv(X:Cx)(pins:List (Addr×Obj))(σ:List (Option V))(H:Hp)(s:Shared):Prop where
  ok:X.Ok
  os:s.os=X.s₀.os
  bare:AllBare s.gens
  base:Un X.fs X.ex X.H₀ H X.s₀.heap s.heap
  loc:∃m,s.heap.Ns X.env.locals m∧∀(i:Nat)(x:Str)(v:V),X.N[i]?=some x->σ[i]?=some (some v)->Vis X.env.scope x->∃u,RelV v u∧Look X.env s.heap m x u
  cell:∀x c,X.env.cells.lookup x=some c->∃v,s.heap.IsCell c v
  free:H X.env.locals=none
  freeC:∀x c,X.env.cells.lookup x=some c->H c=none
  pin:∀p∈X.pn++pins,s.heap.get? p.1=some p.2∧H p.1=none∧p.1≠X.env.locals∧p.1∉X.fs∧∀v,p.2.data≠.cell v
  hok:HOk X.prog X.w H s.heap
  len:σ.length=X.N.length
  tab:TabOk X.K X.mg X.base H
section
variable {X:Cx}{pins:List (Addr×Obj)}{σ:List (Option V)}{H H':Hp}{s:Shared}{h':Heap}
theorem Cx.Ok.nofr(ok:X.Ok){b:Addr}{o:Obj}(e:X.base.get? b=some o):b∉X.fs:=λ hb=>by have:=(ok.funs.mem hb).1;rw[e]at this;cases this
theorem Inv.bs(I:Inv X pins σ H s):∀b o,X.base.get? b=some o->s.heap.get? b=some o∧H b=none:=λ b o e =>⟨I.base.keep b o (I.ok.bs b o e).1 (I.ok.bs b o e).2 (I.ok.nofr e) (I.ok.noex b o e),I.base.free b o (I.ok.bs b o e).1 (I.ok.bs b o e).2 (I.ok.noex b o e)⟩
theorem Inv.bk(I:Inv X pins σ H s):∀b o,X.base.get? b=some o->s.heap.get? b=some o:=λ b o e=>(I.bs b o e).1
theorem Inv.mod(I:Inv X pins σ H s):Mod X.K X.mg X.base:=I.ok.mod
theorem Inv.kIn(I:Inv X pins σ H s):X.K.In s.heap:=I.ok.mod.kin.keeps I.bk
theorem Inv.nolimit(I:Inv X pins σ H s):s.heap.NoLimit:=I.ok.mod.nolimit.keeps I.bk
theorem Inv.fr(I:Inv X pins σ H s):∃m,Fr X.base X.env.locals s.heap m :=
  let ⟨m,hn,_⟩:=I.loc
  ⟨m,hn,I.bk,Nat.le_trans I.ok.bsz I.ok.above⟩
theorem Inv.lt(I:Inv X pins σ H s):X.env.locals < s.heap.objs.size:=let ⟨_,hn,_⟩:=I.loc;hn.lt
theorem Inv.sz(I:Inv X pins σ H s):X.s₀.heap.objs.size≤s.heap.objs.size:=Nat.le_trans I.ok.above (Nat.le_of_lt I.lt)
theorem Inv.nofs(I:Inv X pins σ H s){a:Addr}(h:s.heap.objs.size≤a):a∉X.fs:=λ hb=>by obtain⟨_,o,ho,_⟩:=I.ok.funs.mem hb;exact absurd (Nat.lt_of_lt_of_le (Heap.lt_size ho) (Nat.le_trans I.sz h)) (Nat.lt_irrefl _)
theorem Inv.cne(I:Inv X pins σ H s):∀x c,X.env.cells.lookup x=some c->c≠X.env.locals:=λ x c e z=>by obtain⟨v,o,ho,hd⟩:=I.cell x c e;obtain⟨m,⟨o',es,ep,ho',hd',_⟩,_⟩:=I.loc;rw[z,ho']at ho;cases ho;rw[hd']at hd;cases hd
theorem Inv.funs(I:Inv X pins σ H s):s.heap.FunFrames X.base X.outer:=by
  have all:∀(l:List Env),(∀b∈frs l,b∈X.fs)->X.s₀.heap.FunFrames X.base l->s.heap.FunFrames X.base l:=by
    intro l
    induction l with
    | nil=>intro _ _;trivial
    | cons env r ih =>intro hs hl;obtain⟨hk,⟨L,o,hf,hn,ho,hd⟩,hr⟩:=hl;have hL:L∈X.fs:=hs L (by unfold frs;rw[List.filterMap_cons,hf];exact List.mem_cons_self);obtain⟨sl,e⟩:=I.base.slot L o ho (I.ok.frf L hL) hL λ z=>I.ok.exfs L z hL;exact⟨hk,⟨L,_,hf,hn,e,hd⟩,ih (λ b hb=>hs b (by unfold frs;rw[List.filterMap_cons,hf];exact List.mem_cons_of_mem _ hb)) hr⟩
  exact all X.outer (λ _ hb=>hb) I.ok.funs
theorem Inv.stack(I:Inv X pins σ H s):s.heap.FunFrames X.base X.stack:=by
  rcases I.ok.stk with e | ⟨e,hf⟩
  ·rw[e];exact I.funs
  · rw[e];obtain⟨m,hn,_⟩:=I.loc;refine .cons (by rw[I.ok.kind];decide) hf hn ?_ I.funs;exact Heap.get?_none_of_le (Nat.le_trans I.ok.bsz I.ok.above)
theorem Inv.stkSub(I:Inv X pins σ H s):∀b∈frs X.stack,b∈X.env.locals :: X.fs:=λ b hb=>by
  rcases I.ok.stk with e | ⟨e,hf⟩
  ·rw[e]at hb;exact List.mem_cons_of_mem _ hb
  · rw[e]at hb;unfold frs at hb;rw[List.filterMap_cons,hf]at hb;exact hb
theorem Inv.stkFree(I:Inv X pins σ H s):∀b∈frs X.stack,H b=none:=λ b hb=>by
  rcases List.mem_cons.mp (I.stkSub b hb)with e | hb
  ·rw[e];exact I.free
  · obtain⟨_,o,ho,_⟩:=I.ok.funs.mem hb;exact I.base.free b o ho (I.ok.frf b hb) λ z=>I.ok.exfs b z hb
theorem Inv.step{g':Array GenState}{t':Nat}{d':Drawn}{ch:List Addr}(I:Inv X pins σ H s)
    (hch:∀b∈ch,(b∈X.ex∨X.s₀.heap.objs.size≤b)∧b≠X.env.locals∧(∀x c,X.env.cells.lookup x=some c->c≠b)∧∀p∈X.pn++pins,p.1≠b)
    (keep:∀b o,b≠X.env.locals->b∉X.fs->b∉ch->s.heap.get? b=some o->H b=none->h'.get? b=some o)
    (slot:∀b o,b≠X.env.locals->b∈X.fs->b∉ch->s.heap.get? b=some o->H b=none->∃sl,h'.get? b=some { o with slots:=sl }) (free:∀b o,b∉ch->s.heap.get? b=some o->H b=none->H' b=none)
    (there:∀b o,b∉ch->s.heap.get? b=some o->∃o',h'.get? b=some o')
    (tups:∀b xs,H b=some (.tup xs)->H' b=some (.tup xs)) (frzs:∀b o u,H b=some (.frz o u)->H' b=some (.frz o u)) (tbls:∀b u,Prm u->H b=some u->H' b=some u)
    (ns:∀m,s.heap.Ns X.env.locals m->h'.Ns X.env.locals m) (hok:HOk X.prog X.w H' h') (hg:AllBare g') :
    Inv X pins σ H' { s with heap:=h',gens:=g',drawn:=d',toks:=t' }:=by
  have neL:∀b o,X.s₀.heap.get? b=some o->b≠X.env.locals:=λ b o e=>Nat.ne_of_lt (Nat.lt_of_lt_of_le (Heap.lt_size e) I.ok.above);have neC:∀b o,X.s₀.heap.get? b=some o->b∉X.ex->b∉ch:=λ b o e hx hb=>by
    rcases(hch b hb).1 with z | z
    ·exact hx z
    ·exact absurd (Nat.lt_of_lt_of_le (Heap.lt_size e) z) (Nat.lt_irrefl _)
  have cellK:∀x c,X.env.cells.lookup x=some c->∀v,s.heap.IsCell c v->h'.IsCell c v:=λ x c e v ⟨o,ho,hd⟩=>by
    have nch:c∉ch:=λ z=>(hch c z).2.2.1 x c e rfl;by_cases hc:c∈X.fs
    · obtain⟨sl,q⟩:=slot c o (I.cne x c e) hc nch ho (I.freeC x c e);exact⟨_,q,hd⟩
    ·exact⟨o,keep c o (I.cne x c e) hc nch ho (I.freeC x c e),hd⟩
  refine⟨I.ok,I.os,hg,⟨λ b o e n hb hx=>?_,λ b o e n hb hx=>?_,λ b o e n hx=>?_,λ b o e hx=>?_,λ b xs e=>tups b xs (I.base.tups b xs e),λ b o xs e=>frzs b o xs (I.base.frzs b o xs e),λ b u p e=>tbls b u p (I.base.tbls b u p e)⟩,?_,λ x c e=>?_,?_,λ x c e=>?_,λ p hp=>?_,hok,I.len,I.tab.up tbls⟩
  ·exact keep b o (neL b o e) hb (neC b o e hx) (I.base.keep b o e n hb hx) (I.base.free b o e n hx)
  · obtain⟨sl,e1⟩:=I.base.slot b o e n hb hx;obtain⟨sl',e2⟩:=slot b _ (neL b o e) hb (neC b o e hx) e1 (I.base.free b o e n hx);exact⟨sl',e2⟩
  · obtain⟨o',e1⟩:=I.base.there b o e hx;exact free b o' (neC b o e hx) e1 (I.base.free b o e n hx)
  · obtain⟨o',e1⟩:=I.base.there b o e hx;exact there b o' (neC b o e hx) e1
  · obtain⟨m,hn,hl⟩:=I.loc;refine⟨m,ns m hn,λ i x v e1 e2 e3=>?_⟩;obtain⟨u,r,l⟩:=hl i x v e1 e2 e3;refine⟨u,r,?_⟩;rcases l with l | ⟨k,c,e,z⟩
    ·exact .inl l
    ·exact .inr ⟨k,c,e,cellK x c e _ z⟩
  · obtain⟨v,z⟩:=I.cell x c e;exact⟨v,cellK x c e v z⟩
  · obtain⟨m,⟨o,_,_,ho,_⟩,_⟩:=I.loc;exact free _ o (λ z=>(hch _ z).2.1 rfl) ho I.free
  · obtain⟨v,o,ho,hd⟩:=I.cell x c e;exact free c o (λ z=>(hch c z).2.2.1 x c e rfl) ho (I.freeC x c e)
  · obtain⟨e,n,ne,nf,d⟩:=I.pin p hp;have nch:p.1∉ch:=λ z=>(hch p.1 z).2.2.2 p hp rfl;exact⟨keep p.1 p.2 ne nf nch e n,free p.1 p.2 nch e n,ne,nf,d⟩
theorem Inv.un{t':Nat}(I:Inv X pins σ H s)(u:Un X.fs [] H H' s.heap h')(hok:HOk X.prog X.w H' h'):Inv X pins σ H' { s with heap:=h',toks:=t' }:=by
  obtain⟨m,⟨o,es,ep,ho,r⟩,_⟩:=id I.loc;obtain⟨sl,hL⟩:=u.any ho I.free (by simp);exact I.step (g':=s.gens) (d':=s.drawn) (ch:=[]) (λ _ z=>nomatch z) (λ b o _ hb _ e n=>u.keep b o e n hb (by simp)) (λ b o _ hb _ e n=>u.slot b o e n hb (by simp)) (λ b o _ e n=>u.free b o e n (by simp)) (λ b o _ e=>u.there b o e (by simp)) u.tups u.frzs u.tbls (λ m' hm=>by obtain⟨o',es',ep',ho',r'⟩:=hm;rw[ho]at ho';cases ho';exact⟨_,es',ep',hL,r'⟩) hok I.bare
theorem Inv.call{g':Array GenState}{t':Nat}{d':Drawn}{ch:List Addr}(I:Inv X pins σ H s)(u:Un (frs X.stack) ch H H' s.heap h')(hok:HOk X.prog X.w H' h')(hg:AllBare g')
    (hch:∀b∈ch,(b∈X.ex∨X.s₀.heap.objs.size≤b)∧b≠X.env.locals∧(∀x c,X.env.cells.lookup x=some c->c≠b)∧∀p∈X.pn++pins,p.1≠b) :
    Inv X pins σ H' { s with heap:=h',gens:=g',drawn:=d',toks:=t' }:=by
  obtain⟨m,⟨o,es,ep,ho,r⟩,_⟩:=id I.loc;obtain⟨sl,hL⟩:=u.any ho I.free λ z=>(hch _ z).2.1 rfl;exact I.step (ch:=ch) hch (λ b o hL hb hc e n=>u.keep b o e n (λ z=>(List.mem_cons.mp (I.stkSub b z)).elim hL hb) hc) (λ b o _ _ hc e n=>u.any e n hc) (λ b o hc e n=>u.free b o e n hc) (λ b o hc e=>u.there b o e hc) u.tups u.frzs u.tbls (λ m' hm=>by obtain⟨o',es',ep',ho',r'⟩:=hm;rw[ho]at ho';cases ho';exact⟨_,es',ep',hL,r'⟩) hok hg
theorem Inv.turned{t':Nat}{it:Addr}(I:Inv X pins σ H s)(k:∀b o,b≠it->s.heap.get? b=some o->h'.get? b=some o)(hn:H it=none)(hL:it≠X.env.locals)
    (h1:it∈X.ex∨X.s₀.heap.objs.size≤it) (h2:∀x c,X.env.cells.lookup x=some c->c≠it) (h3:∀p∈X.pn++pins,p.1≠it):Inv X pins σ H { s with heap:=h',toks:=t' }:=by
  have nit:∀b u,H b=some u->b≠it:=λ b u e z=>by rw[z,hn]at e;cases e
  refine I.step (g':=s.gens) (d':=s.drawn) (ch:=[it]) (λ b hb=>?_) (λ b o _ _ hc e _=>k b o (λ z=>hc (by simp[z])) e) (λ b o _ _ hc e _=>⟨o.slots,k b o (λ z=>hc (by simp[z])) e⟩) (λ _ _ _ _ n=>n)
    (λ b o hc e=>⟨o,k b o (λ z=>hc (by simp[z])) e⟩) (λ _ _ e=>e) (λ _ _ _ e=>e) (λ _ _ _ e=>e) (λ m hm=>?_) (λ b u e=>?_) I.bare
  · have e:b=it:=by simpa using hb
    subst e;exact⟨h1,hL,h2,h3⟩
  · obtain⟨o,es,ep,ho,r⟩:=hm;exact⟨o,es,ep,k _ o (Ne.symm hL) ho,r⟩
  · refine(I.hok b u e).stay (λ c v hc q=>k c v ?_ q) (λ _ q=>q) (λ _ _ q=>q) λ _ _ _ q=>q;rcases hc with z | z
    ·rw[z];exact nit b u e
    ·exact nit c _ z
theorem Inv.tok(I:Inv X pins σ H s)(t:Nat):Inv X pins σ H { s with toks:=t }:=I.un (h':=s.heap) (t':=t) Un.refl I.hok
theorem Inv.kept{t':Nat}(I:Inv X pins σ H s)(k:∀b u,s.heap.get? b=some u->h'.get? b=some u):Inv X pins σ H { s with heap:=h',toks:=t' }:=I.un (Un.kept k) (I.hok.kept k)
theorem Inv.laid{a:Addr}{o:HO}{t':Nat}(I:Inv X pins σ H s)(k:∀b u,s.heap.get? b=some u->h'.get? b=some u)(hp:s.heap.objs.size≤a)(new:ObjOk X.prog X.w (upd H a o) h' a o):
    Inv X pins σ (upd H a o) { s with heap:=h',toks:=t' }:=I.un (Un.laid k hp (I.hok.fresh hp)) (I.hok.laid k hp new)
theorem Inv.write{x e:Addr}{o:HO}{t':Nat}(I:Inv X pins σ H s)(mu:Mut (H x))(he:e=x∨H e=some (.own x))(k:∀b u,b≠e->s.heap.get? b=some u->h'.get? b=some u)(heo:∃u,h'.get? e=some u)
    (new:ObjOk X.prog X.w (upd H x o) h' x o):Inv X pins σ (upd H x o) { s with heap:=h',toks:=t' }:=I.un (Un.write mu he k heo) (I.hok.write mu he k heo new)
theorem Inv.pins_of{pins':List (Addr×Obj)}(I:Inv X pins σ H s)(h:∀p∈pins',s.heap.get? p.1=some p.2∧H p.1=none∧p.1≠X.env.locals∧p.1∉X.fs∧∀v,p.2.data≠.cell v):Inv X pins' σ H s :=
  ⟨I.ok,I.os,I.bare,I.base,I.loc,I.cell,I.free,I.freeC,λ p hp=>(List.mem_append.mp hp).elim (λ z=>I.pin p (List.mem_append_left _ z)) (h p),I.hok,I.len,I.tab⟩
theorem nodup_ix{N:List Str}(hN:N.Nodup){i j:Nat}{x:Str}(a:N[i]?=some x)(b:N[j]?=some x):i=j:=by obtain⟨h1,e1⟩:=List.getElem?_eq_some_iff.mp a;obtain⟨h2,e2⟩:=List.getElem?_eq_some_iff.mp b;exact(List.getElem_inj hN).mp (e1.trans e2.symm)
theorem store_ok2 {M : Model} {A : Around} {E : Value -> Shared -> Prop} {i : Nat} {x : Str} {v : V} {u : Value} {Q : Unit -> Shared -> Prop} (I : Inv X pins σ H s) (hN : X.N.Nodup) (hi : X.N[i]? = some x) (hx : Loc X.env.scope x) (r : RelV v u)
    (h:∀s',Inv X pins (σ.set i (some v)) H s'->(∃a,Heap.SameBut a s.heap s'.heap∧(a=X.env.locals∨X.env.cells.lookup x=some a))->Q () s') (hf:X.fn x=true∨X.env.scope.names.lookup x=some .local:=by first | exact .inl rfl | exact .inr rfl | assumption):wpAny M A (storeName X.env x u) Q E s:=by
  obtain⟨m,hn,hl⟩:=id I.loc;have hcls:(X.env.scope.kind==.class || (X.env.scope.kind==.module&&X.env.locals != X.env.globals))=false:=by rw[I.ok.kind];rfl
  have hiσ:i < σ.length:=by rw[I.len];exact(List.getElem?_eq_some_iff.mp hi).1
  have cne:=I.cne;have tracked:∀{a:Addr}{h':Heap},(∃o,s.heap.get? a=some o∧H a=none)->Heap.SameBut a s.heap h'->HOk X.prog X.w H h':=λ {a h'} ha hs b ob e=>by
    obtain⟨_,_,hfree⟩:=ha;refine(I.hok b ob e).stay (λ c w' hc q=>(hs.2 c ?_).trans q) (λ _ q=>q) (λ _ _ q=>q) λ _ _ _ q=>q;rintro rfl;rcases hc with rfl | hc
    ·rw[hfree]at e;cases e
    ·rw[hfree]at hc;cases hc
  rcases hx with hk | hk
  · refine wpAny_storeName_local hk hn (λ h' hn' hs=>?_) hcls;obtain⟨oL,_,_,hoL,_⟩:=id hn;refine h _ ⟨I.ok,I.os,I.bare,⟨λ b o e n hb hx=>?_,λ b o e n hb hx=>?_,I.base.free,λ b o e hx=>?_,I.base.tups,I.base.frzs,I.base.tbls⟩,⟨_,hn',λ j y v' e1 e2 e3=>?_⟩,λ y c e=>?_,I.free,I.freeC,λ p hp=>?_,tracked ⟨oL,hoL,I.free⟩ hs,by simpa using I.len,I.tab⟩ ⟨_,hs,.inl rfl⟩
    ·exact(hs.2 b (Nat.ne_of_lt (Nat.lt_of_lt_of_le (Heap.lt_size e) I.ok.above))).trans (I.base.keep b o e n hb hx)
    · obtain⟨sl,e1⟩:=I.base.slot b o e n hb hx;exact⟨sl,(hs.2 b (Nat.ne_of_lt (Nat.lt_of_lt_of_le (Heap.lt_size e) I.ok.above))).trans e1⟩
    · obtain⟨o',e1⟩:=I.base.there b o e hx;exact⟨o',(hs.2 b (Nat.ne_of_lt (Nat.lt_of_lt_of_le (Heap.lt_size e) I.ok.above))).trans e1⟩
    · by_cases hj:j=i
      · subst hj;rw[hi]at e1;cases e1;rw[List.getElem?_set_self hiσ]at e2;cases e2;exact⟨u,r,.inl ⟨hk,by simp⟩⟩
      · rw[List.getElem?_set_ne (Ne.symm hj)]at e2;obtain⟨u',r',q⟩:=hl j y v' e1 e2 e3;refine⟨u',r',?_⟩;rcases q with⟨k,e⟩ | ⟨k,c,e,z⟩
        · refine .inl ⟨k,?_⟩;have:y≠x:=λ e=>hj (nodup_ix hN e1 (e▸hi));simp[this,e]
        ·exact .inr ⟨k,c,e,z.sameBut hs (cne y c e)⟩
    · obtain⟨w',z⟩:=I.cell y c e;exact⟨w',z.sameBut hs (cne y c e)⟩
    · obtain⟨e,n,ne,nf,d⟩:=I.pin p hp;exact⟨(hs.2 p.1 ne).trans e,n,ne,nf,d⟩
  · have hfn:X.fn x=true:=by
      rcases hf with z | z
      ·exact z
      ·rw[z]at hk;cases hk
    obtain⟨c,hc⟩:=I.ok.has x (.inl hk);obtain⟨w',z⟩:=I.cell x c hc;refine wpAny_storeName_cell I.ok.kind hk hc z (λ h' hc' hs=>?_);obtain⟨oc,hoc,hocd⟩:=id z;refine h { s with heap:=h' } ⟨I.ok,I.os,I.bare,⟨λ b o e n hb hx=>?_,λ b o e n hb hx=>?_,I.base.free,λ b o e hx=>?_,I.base.tups,I.base.frzs,I.base.tbls⟩,⟨m,hn.sameBut hs (Ne.symm (cne x c hc)),λ j y v' e1 e2 e3=>?_⟩,λ y c' e=>?_,I.free,I.freeC,λ p hp=>?_,tracked ⟨oc,hoc,I.freeC x c hc⟩ hs,by simpa using I.len,I.tab⟩ ⟨c,hs,.inr hc⟩
    ·exact(hs.2 b (Nat.ne_of_lt (Nat.lt_of_lt_of_le (Heap.lt_size e) (I.ok.cab x c hfn hc)))).trans (I.base.keep b o e n hb hx)
    · obtain⟨sl,e1⟩:=I.base.slot b o e n hb hx;exact⟨sl,(hs.2 b (Nat.ne_of_lt (Nat.lt_of_lt_of_le (Heap.lt_size e) (I.ok.cab x c hfn hc)))).trans e1⟩
    · obtain⟨o',e1⟩:=I.base.there b o e hx;exact⟨o',(hs.2 b (Nat.ne_of_lt (Nat.lt_of_lt_of_le (Heap.lt_size e) (I.ok.cab x c hfn hc)))).trans e1⟩
    · by_cases hj:j=i
      · subst hj;rw[hi]at e1;cases e1;rw[List.getElem?_set_self hiσ]at e2;cases e2;exact⟨u,r,.inr ⟨.inl hk,c,hc,hc'⟩⟩
      · rw[List.getElem?_set_ne (Ne.symm hj)]at e2;obtain⟨u',r',q⟩:=hl j y v' e1 e2 e3;refine⟨u',r',?_⟩;rcases q with q | ⟨k,c',e,z'⟩
        ·exact .inl q
        · refine .inr ⟨k,c',e,z'.sameBut hs ?_⟩;rintro rfl;exact hj (nodup_ix hN e1 (I.ok.inj _ _ _ e hc▸hi))
    · by_cases hcc:c'=c
      ·subst hcc;exact⟨_,hc'⟩
      · obtain⟨w2,z2⟩:=I.cell y c' e;exact⟨w2,z2.sameBut hs hcc⟩
    · obtain⟨e,n,ne,nf,d⟩:=I.pin p hp;refine⟨(hs.2 p.1 ?_).trans e,n,ne,nf,d⟩;intro q;rw[q,hoc]at e;have q':oc=p.2:=Option.some.inj e;exact d w' (by rw[<-q'];exact hocd)
theorem store_ok{M:Model}{A:Around}{E:Value->Shared->Prop}{i:Nat}{x:Str}{v:V}{u:Value}{Q:Unit->Shared->Prop}(I:Inv X pins σ H s)(hN:X.N.Nodup)(hi:X.N[i]?=some x)(hx:Loc X.env.scope x)(r:RelV v u)
    (h:∀s',Inv X pins (σ.set i (some v)) H s'->Q () s') (hf:X.fn x=true∨X.env.scope.names.lookup x=some .local:=by first | exact .inl rfl | exact .inr rfl | assumption):wpAny M A (storeName X.env x u) Q E s :=
  store_ok2 I hN hi hx r (λ s' I' _=>h s' I') hf
theorem Inv.call'{s':Shared}{ch:List Addr}(I:Inv X pins σ H s)(ho:s'.os=s.os)(u:Un (frs X.stack) ch H H' s.heap s'.heap)(hok:HOk X.prog X.w H' s'.heap)(hg:AllBare s'.gens)
    (hch:∀b∈ch,(b∈X.ex∨X.s₀.heap.objs.size≤b)∧b≠X.env.locals∧(∀x c,X.env.cells.lookup x=some c->c≠b)∧∀p∈X.pn++pins,p.1≠b):Inv X pins σ H' s':=by
  obtain⟨h',g',d',t',o'⟩:=s';have e:o'=s.os:=ho;subst e;exact I.call (g':=g') (t':=t') (d':=d') u hok hg hch
end
abbrev XK:=Value->Option Addr->Hp->Prop
abbrev St:=List (Option V)
abbrev VK:=V->Hp->Prop
abbrev TE:=St->Hp->VK->Prop
abbrev TT:=St->Hp->(Bool->Hp->Prop)->Prop
abbrev TA:=St->Hp->(List V->Hp->Prop)->Prop
structure Ends where
  nx:St->Hp->Prop
  rt:VK
  bk:St->Hp->Prop:=λ _ _=>False
  ct:St->Hp->Prop:=λ _ _=>False
abbrev TS:=Ends->St->Hp->Prop
def EP(X:Cx)(pins:List (Addr×Obj))(σ:St)(Q:VK)(u:Value)(s':Shared):Prop:=∃v H',Inv X pins σ H' s'∧RelV v u∧Q v H'
def TP(X:Cx)(pins:List (Addr×Obj))(σ:St)(Q:Bool->Hp->Prop)(b:Bool)(s':Shared):Prop:=∃H',Inv X pins σ H' s'∧Q b H'
def AP(X:Cx)(pins:List (Addr×Obj))(σ:St)(Q:List V->Hp->Prop)(us:List Value)(s':Shared):Prop:=∃vs H',Inv X pins σ H' s'∧Vals vs us∧Q vs H'
def SP(X:Cx)(pins:List (Addr×Obj))(D:Ends)(f:Flow)(s':Shared):Prop :=
  match f with
  | .next=>∃σ' H',Inv X pins σ' H' s'∧D.nx σ' H'
  | .brk=>∃σ' H',Inv X pins σ' H' s'∧D.bk σ' H'
  | .cont=>∃σ' H',Inv X pins σ' H' s'∧D.ct σ' H'
  | .ret u=>∃v σ' H',Inv X pins σ' H' s'∧RelV v u∧D.rt v H'
def PE(X:Cx)(e:Expr)(t:TE):Prop :=
  ∀(pins:List (Addr×Obj))(s:Shared)(σ:St)(H:Hp)(Q:VK),Inv X pins σ H s->t σ H Q->wpAny (model X.prog X.w) X.A (eval e X.env) (EP X pins σ Q) X.xe s
def PT(X:Cx)(e:Expr)(t:TT):Prop :=
  ∀(pins:List (Addr×Obj))(s:Shared)(σ:St)(H:Hp)(Q:Bool->Hp->Prop),Inv X pins σ H s->t σ H Q->wpAny (model X.prog X.w) X.A (isTrue e X.env (eval e X.env)) (TP X pins σ Q) X.xe s
def PW(X:Cx)(e:Expr)(t:TT):Prop :=
  ∀(whole:Sem Value)(pins:List (Addr×Obj))(s:Shared)(σ:St)(H:Hp)(Q:Bool->Hp->Prop),Inv X pins σ H s->t σ H Q->wpAny (model X.prog X.w) X.A (isTrue e X.env whole) (TP X pins σ Q) X.xe s
theorem PW.pt{X:Cx}{e:Expr}{t:TT}(h:PW X e t):PT X e t:=h _
def PA(X:Cx)(es:List Expr)(t:TA):Prop :=
  ∀(pos:Pos)(pins:List (Addr×Obj))(s:Shared)(σ:St)(H:Hp)(Q:List V->Hp->Prop),Inv X pins σ H s->t σ H Q->wpAny (model X.prog X.w) X.A (spliced (backTo pos (starEach es X.env))) (AP X pins σ Q) X.xe s
def PS(X:Cx)(st:Stmt)(t:TS):Prop :=
  ∀(pins:List (Addr×Obj))(s:Shared)(σ:St)(H:Hp)(D:Ends),Inv X pins σ H s->t D σ H->wpAny (model X.prog X.w) X.A (exec st X.env) (SP X pins D) X.xe s
def PSs(X:Cx)(st:List Stmt)(t:TS):Prop :=
  ∀(pins:List (Addr×Obj))(s:Shared)(σ:St)(H:Hp)(D:Ends),Inv X pins σ H s->t D σ H->wpAny (model X.prog X.w) X.A (execs st X.env) (SP X pins D) X.xe s
theorem thn{α:Type}{t:Sem α}{Q Q':α->Shared->Prop}{M:Model}{A:Around}{E:Value->Shared->Prop}{s:Shared}(h:wpAny M A t Q E s)(hQ:∀a s,Q a s->Q' a s):wpAny M A t Q' E s:=wpAny_mono h hQ λ _ _ x=>x
end L2
namespace L2
open PySem PySem.Spec PyProof.Rows
section
variable {X:Cx}
def tVar(i:Nat):TE:=λ σ H Q=>∃v,σ[i]?=some (some v)∧Q v H
def tC(v:V):TE:=λ _ H Q=>Q v H
theorem pe_var{i:Nat}{x:Str}{pos:Pos}(hN:X.N[i]?=some x)(hv:Vis X.env.scope x)(hd:(x==("__debug__" : Str))=false:=by decide)(hcd:(x==("__classdict__" : Str))=false:=by decide):PE X (.Name x pos) (tVar i):=by
  intro pins s σ H Q I h;obtain⟨v,e,h⟩:=h;obtain⟨m,hn,hl⟩:=I.loc;obtain⟨u,r,l⟩:=hl i x v hN e hv;have fin:EP X pins σ Q u s:=⟨v,H,I,r,h⟩
  rcases l with⟨hk,hm⟩ | ⟨hk,c,hc,hcell⟩
  ·exact wpAny_Name (wpAny_loadName_local I.ok.kind hk hn hm fin) hd
  · rcases hk with hk | hk
    ·exact wpAny_Name (wpAny_loadName_cell I.ok.kind hk hc hcell fin) hd
    ·exact wpAny_Name (wpAny_loadName_free I.ok.kind hk hc hcell fin hcd) hd
theorem pe_int{i j pos}:PE X (.Constant (.int i) j pos) (tC (.int i)):=λ _ _ _ H _ I h=>wpAny_Constant_int ⟨.int i,H,I.tok _,⟨_,rfl⟩,h⟩
theorem pe_bl{b j pos}:PE X (.Constant (.bool b) j pos) (tC (.bl b)):=λ _ _ _ H _ I h=>Constant_bool ⟨.bl b,H,I,rfl,h⟩
theorem pe_non{j pos}:PE X (.Constant .none j pos) (tC .non):=λ _ _ _ H _ I h=>Constant_none ⟨.non,H,I,rfl,h⟩
theorem pe_str{x j pos}:PE X (.Constant (.str x) j pos) (tC (.str x)):=λ _ _ _ H _ I h=>Calls.Constant_str ⟨.str x,H,I.tok _,⟨_,rfl⟩,h⟩
def Gl(X:Cx)(x:Str):Prop:=X.env.kindOf x=some .globalImplicit
theorem ld_glob{E:Value->Shared->Prop}{pins:List (Addr×Obj)}{s:Shared}{σ:St}{H:Hp}{x:Str}{u:Value}{pos:Pos}{Q:Value->Shared->Prop}(I:Inv X pins σ H s)(hg:Gl X x)(hm:X.mg x=some u)(h:Q u s)
    (hd:(x==("__debug__" : Str))=false:=by decide):wpAny (model X.prog X.w) X.A (eval (.Name x pos) X.env) Q E s :=
  Calls.Name_function_global I.ok.kind hg (Calls.loadGlobal_global (by rw[I.ok.glob];exact I.mod.glob.keeps I.bk) hm h) hd
theorem ld_blt{E:Value->Shared->Prop}{pins:List (Addr×Obj)}{s:Shared}{σ:St}{H:Hp}{x:Str}{u:Value}{pos:Pos}{Q:Value->Shared->Prop}(I:Inv X pins σ H s)(hg:Gl X x)(hm:X.mg x=none)(hv:bootBuiltins x=some u)(h:Q u s)
    (hn:x ≠ "__name__" := by decide) (hd:(x==("__debug__" : Str))=false:=by decide):wpAny (model X.prog X.w) X.A (eval (.Name x pos) X.env) Q E s:=by
  obtain⟨mb,h1,h2⟩:=I.mod.blt;exact Calls.Name_function_global I.ok.kind hg (Calls.loadGlobal_builtin (by rw[I.ok.glob];exact I.mod.glob.keeps I.bk) hm (by rw[I.ok.blt];exact h1.keeps I.bk) ((h2 x hn).trans hv) h) hd
theorem pe_glob{x:Str}{v:V}{u:Value}{pos:Pos}(hg:Gl X x)(hm:X.mg x=some u)(r:RelV v u)(hd:(x==("__debug__" : Str))=false:=by decide):PE X (.Name x pos) (tC v) :=
  λ _ _ _ H _ I h=>ld_glob I hg hm ⟨v,H,I,r,h⟩ hd
theorem pe_bltn{x:Str}{v:V}{u:Value}{pos:Pos}(hg:Gl X x)(hm:X.mg x=none)(hv:bootBuiltins x=some u)(r:RelV v u)(hn:x ≠ "__name__" := by decide)(hd:(x==("__debug__" : Str))=false:=by decide):PE X (.Name x pos) (tC v) :=
  λ _ _ _ H _ I h=>ld_blt I hg hm hv ⟨v,H,I,r,h⟩ hn hd
variable {a b:Expr}{ta tb:TE}{pos:Pos}
def tB(t:TE):TT:=λ σ H Q=>t σ H λ x H1=>∃c,x=.bl c∧Q c H1
theorem pt_val{e:Expr}{t:TE}(h:PE X e t)(he:∀whole,isTrue e X.env whole=(do let v ←whole;standAt e.pos;holding [v] (truthy v)):=by intro _;rfl):PT X e (tB t):=by intro pins s σ H Q I hw;refine isTrue_plain (thn (h pins s σ H _ I hw) λ v s1 ⟨x,H1,I1,r1,q1⟩=>?_) (he _);obtain⟨d,rfl,q⟩:=q1;cases r1;exact wpAny_truthy_bool ⟨H1,I1,q⟩
variable {tA tB':TT}{rest:List Expr}
def tAnd(t u:TT):TT:=λ σ H Q=>t σ H λ c H1=>if c=true then u σ H1 Q else Q false H1
def tOr(t u:TT):TT:=λ σ H Q=>t σ H λ c H1=>if c=true then Q true H1 else u σ H1 Q
def tNot(t:TT):TT:=λ σ H Q=>t σ H λ c H1=>Q (!c) H1
theorem pw_and1(ha:PT X a tA):PW X (.BoolOp .And [a] pos) tA:=by
  intro wh pins s σ H Q I h;refine isTrue_and (thn (ha pins s σ H Q I h) λ c s1 e=>?_);cases c with
  | true=>exact isTrue_and_nil e
  | false=>exact e
theorem pw_or1(ha:PT X a tA):PW X (.BoolOp .Or [a] pos) tA:=by
  intro wh pins s σ H Q I h;refine isTrue_or (thn (ha pins s σ H Q I h) λ c s1 e=>?_);cases c with
  | false=>exact isTrue_or_nil e
  | true=>exact e
theorem pw_and(ha:PT X a tA)(hb:PW X (.BoolOp .And (b :: rest) pos) tB'):PW X (.BoolOp .And (a :: b :: rest) pos) (tAnd tA tB'):=by
  intro wh pins s σ H Q I h;refine isTrue_and (thn (ha pins s σ H _ I h) λ c s1 ⟨H1,I1,q1⟩=>?_);cases c with
  | true=>exact hb wh pins s1 σ H1 Q I1 q1
  | false=>exact⟨H1,I1,q1⟩
theorem pw_or(ha:PT X a tA)(hb:PW X (.BoolOp .Or (b :: rest) pos) tB'):PW X (.BoolOp .Or (a :: b :: rest) pos) (tOr tA tB'):=by
  intro wh pins s σ H Q I h;refine isTrue_or (thn (ha pins s σ H _ I h) λ c s1 ⟨H1,I1,q1⟩=>?_);cases c with
  | true=>exact⟨H1,I1,q1⟩
  | false=>exact hb wh pins s1 σ H1 Q I1 q1
theorem pt_not(ha:PT X a tA):PT X (.UnaryOp .Not a pos) (tNot tA):=by intro pins s σ H Q I h;exact isTrue_not (ha pins s σ H (λ c H1=>Q (!c) H1) I h)
def tAndV(ta tb:TE):TE:=λ σ H Q=>ta σ H λ x H1=>∃c,x=.bl c∧if c=true then tb σ H1 Q else Q (.bl false) H1
def tOrV(ta tb:TE):TE:=λ σ H Q=>ta σ H λ x H1=>∃c,x=.bl c∧if c=true then Q (.bl true) H1 else tb σ H1 Q
def tNotV(ta:TE):TE:=λ σ H Q=>ta σ H λ x H1=>∃c,x=.bl c∧Q (.bl (!c)) H1
theorem pe_one{op}{t:TE}(h:PE X a t):PE X (.BoolOp op [a] pos) t:=λ pins s σ H Q I hw=>BoolOp_one (h pins s σ H Q I hw)
theorem pe_and(ha:PE X a ta)(hb:PE X (.BoolOp .And (b :: rest) pos) tb):PE X (.BoolOp .And (a :: b :: rest) pos) (tAndV ta tb):=by
  intro pins s σ H Q I h;refine BoolOp_and (thn (ha pins s σ H _ I h) λ v s1 ⟨x,H1,I1,r1,q1⟩=>?_);obtain⟨c,rfl,q1⟩:=q1;cases r1;refine wpAny_truthy_bool ?_;cases c with
  | true=>exact hb pins s1 σ H1 Q I1 q1
  | false=>exact⟨.bl false,H1,I1,rfl,q1⟩
theorem pe_or(ha:PE X a ta)(hb:PE X (.BoolOp .Or (b :: rest) pos) tb):PE X (.BoolOp .Or (a :: b :: rest) pos) (tOrV ta tb):=by
  intro pins s σ H Q I h;refine BoolOp_or (thn (ha pins s σ H _ I h) λ v s1 ⟨x,H1,I1,r1,q1⟩=>?_);obtain⟨c,rfl,q1⟩:=q1;cases r1;refine wpAny_truthy_bool ?_;cases c with
  | false=>exact hb pins s1 σ H1 Q I1 q1
  | true=>exact⟨.bl true,H1,I1,rfl,q1⟩
theorem pe_not(ha:PE X a ta):PE X (.UnaryOp .Not a pos) (tNotV ta):=by intro pins s σ H Q I h;refine UnaryOp_ (thn (ha pins s σ H _ I h) λ v s1 ⟨x,H1,I1,r1,q1⟩=>?_);obtain⟨c,rfl,q1⟩:=q1;cases r1;exact not_of (wpAny_truthy_bool ⟨.bl (!c),H1,I1,rfl,q1⟩)
def tIf(t:TT)(ta tb:TE):TE:=λ σ H Q=>t σ H λ c H1=>if c=true then ta σ H1 Q else tb σ H1 Q
theorem pe_ifExp{c:Expr}(hc:PT X c tA)(ha:PE X a ta)(hb:PE X b tb):PE X (.IfExp c a b pos) (tIf tA ta tb):=by
  intro pins s σ H Q I h;refine wpAny_IfExp (thn (hc pins s σ H _ I h) λ d s1 ⟨H1,I1,q1⟩=>?_);cases d with
  | true=>exact ha pins s1 σ H1 Q I1 q1
  | false=>exact hb pins s1 σ H1 Q I1 q1
end
end L2
namespace L2
open PySem PySem.Spec PyProof.Rows
def SqL (K:PySem.W.Frag) (H:Hp) (a:Addr) (xs:List V):Prop :=
  Rd H a (.lst xs) ∨
    ∃(o:Obj) (its:Array Value) (n:Nat),K.lookup a=some o∧o.cls=.type "list" ∧ o.dict=none∧o.data=.seq its n∧its.size≤sizeLine∧Vals xs its.toList
def SqT (K:PySem.W.Frag) (H:Hp) (a:Addr) (xs:List V):Prop :=
  Rd H a (.tup xs) ∨
    ∃(o:Obj) (its:Array Value) (n:Nat),K.lookup a=some o∧o.cls=.type "tuple" ∧ o.data=.seq its n∧its.size≤sizeLine∧Vals xs its.toList
def absV:Value->Option V
  | .none=>some .non
  | .bool b=>some (.bl b)
  | .int i _=>some (.int i)
  | .str x _=>some (.str x)
  | .bytes b _=>some (.byt b)
  | .float b _=>some (.flt b)
  | .ref a=>some (.ref a)
  | .type n=>some (.ty n)
  | _=>none
theorem RelV.abs{x:V}{u:Value}(r:RelV x u):absV u=some x:=by
  cases x with
  | non=>cases r;rfl
  | bl _=>cases r;rfl
  | int _=>obtain⟨t,rfl⟩:=r;rfl
  | str _=>obtain⟨t,rfl⟩:=r;rfl
  | byt _=>obtain⟨t,rfl⟩:=r;rfl
  | flt _=>obtain⟨t,rfl⟩:=r;rfl
  | ref _=>cases r;rfl
  | ty _=>cases r;rfl
theorem RelV.inj{x y:V}{u:Value}(r:RelV x u)(q:RelV y u):x=y:=Option.some.inj (r.abs.symm.trans q.abs)
theorem Vals.inj:∀{xs ys:List V}{us:List Value},Vals xs us->Vals ys us->xs=ys
  | _,_,_,.nil,.nil=>rfl
  | _,_,_,.cons r t,.cons r' t'=>by rw[r.inj r',Vals.inj t t']
section
variable {X:Cx}{pins:List (Addr×Obj)}{σ:St}{H:Hp}{s:Shared}{a:Addr}{xs ys:List V}
theorem SqL.of{K:PySem.W.Frag}(h:H a=some (.lst xs)):SqL K H a xs:=.inl (.inl h)
theorem SqT.of{K:PySem.W.Frag}(h:H a=some (.tup xs)):SqT K H a xs:=.inl (.inl h)
theorem Inv.list(I:Inv X pins σ H s)(h:SqL X.K H a xs):∃its:List Value,Vals xs its∧PlainL s.heap a its.toArray∧xs.length≤sizeLine:=by
  rcases h with h | ⟨o,its,n,hk,hc,hd,hs,hz,r⟩
  · obtain⟨z,its,n,r,e⟩:=h.ok I.hok;exact⟨its,r,⟨_,n,e,rfl,rfl,rfl⟩,z⟩
  · refine⟨its.toList,r,⟨o,n,I.kIn a o hk,hc,hd,by simpa using hs⟩,?_⟩;have e:=r.length;simp only[Array.length_toList]at e;lia
theorem Inv.tuple(I:Inv X pins σ H s)(h:SqT X.K H a xs):∃its:List Value,Vals xs its∧IsTup s.heap a its.toArray∧xs.length≤sizeLine:=by
  rcases h with h | ⟨o,its,n,hk,hc,hs,hz,r⟩
  · obtain⟨z,its,r,p⟩:=h.ok I.hok;exact⟨its,r,p,z⟩
  · refine⟨its.toList,r,⟨o,I.kIn a o hk,hc,n,by simpa using hs⟩,?_⟩;have e:=r.length;simp only[Array.length_toList]at e;lia
theorem Inv.list_inj(I:Inv X pins σ H s)(h:SqL X.K H a xs)(h':SqL X.K H a ys):xs=ys:=by
  obtain⟨its,r,⟨o,n,e,_,_,d⟩,_⟩:=I.list h;obtain⟨its',r',⟨o',n',e',_,_,d'⟩,_⟩:=I.list h';rw[e]at e';cases e';rw[d]at d';injection d' with d1 _
  have:its=its':=by simpa using congrArg Array.toList d1
  subst this;exact r.inj r'
theorem Inv.tuple_inj(I:Inv X pins σ H s)(h:SqT X.K H a xs)(h':SqT X.K H a ys):xs=ys:=by
  obtain⟨its,r,⟨o,e,_,n,d⟩,_⟩:=I.tuple h;obtain⟨its',r',⟨o',e',_,n',d'⟩,_⟩:=I.tuple h';rw[e]at e';cases e';rw[d]at d';injection d' with d1 _
  have:its=its':=by simpa using congrArg Array.toList d1
  subst this;exact r.inj r'
end
abbrev Cx.wish(X:Cx)(E:Value->Shared->Prop):Cx:={ X with xe:=E }
abbrev Cx.nox(X:Cx):Cx:=X.wish λ _ _=>False
theorem Cx.Ok.wish{X:Cx}(ok:X.Ok)(E:Value->Shared->Prop):(X.wish E).Ok :=
  ⟨ok.mod,ok.kind,ok.glob,ok.blt,ok.above,ok.inj,ok.has,ok.cab,ok.hd,ok.frames,ok.stk,ok.exf,ok.bs,ok.bsz,ok.noex,ok.exfs,ok.funs,ok.frf⟩
theorem Cx.Ok.unwish{X:Cx}{E:Value->Shared->Prop}(ok:(X.wish E).Ok):X.Ok :=
  ⟨ok.mod,ok.kind,ok.glob,ok.blt,ok.above,ok.inj,ok.has,ok.cab,ok.hd,ok.frames,ok.stk,ok.exf,ok.bs,ok.bsz,ok.noex,ok.exfs,ok.funs,ok.frf⟩
section
variable {X:Cx}{pins:List (Addr×Obj)}{σ:St}{H:Hp}{s:Shared}{E:Value->Shared->Prop}
theorem Inv.wish(I:Inv X pins σ H s)(E:Value->Shared->Prop):Inv (X.wish E) pins σ H s:=⟨I.ok.wish E,I.os,I.bare,I.base,I.loc,I.cell,I.free,I.freeC,I.pin,I.hok,I.len,I.tab⟩
theorem Inv.unwish(I:Inv (X.wish E) pins σ H s):Inv X pins σ H s:=⟨I.ok.unwish,I.os,I.bare,I.base,I.loc,I.cell,I.free,I.freeC,I.pin,I.hok,I.len,I.tab⟩
theorem SP.unwish{D:Ends}{f:Flow}{s':Shared}(h:SP (X.wish E) pins D f s'):SP X pins D f s':=by
  cases f with
  | next=>obtain⟨σ',H',I,q⟩:=h;exact⟨σ',H',I.unwish,q⟩
  | brk=>obtain⟨σ',H',I,q⟩:=h;exact⟨σ',H',I.unwish,q⟩
  | cont=>obtain⟨σ',H',I,q⟩:=h;exact⟨σ',H',I.unwish,q⟩
  | ret u=>obtain⟨v,σ',H',I,r,q⟩:=h;exact⟨v,σ',H',I.unwish,r,q⟩
theorem PE.nox{e:Expr}{t:TE}(h:PE X.nox e t):PE X e t:=λ pins s σ H Q I hw =>wpAny_mono (h pins s σ H Q (I.wish _) hw) (λ _ _ ⟨v,H',I',r,q⟩=>⟨v,H',I'.unwish,r,q⟩) λ _ _ z=>False.elim z
theorem PT.nox{e:Expr}{t:TT}(h:PT X.nox e t):PT X e t:=λ pins s σ H Q I hw =>wpAny_mono (h pins s σ H Q (I.wish _) hw) (λ _ _ ⟨H',I',q⟩=>⟨H',I'.unwish,q⟩) λ _ _ z=>False.elim z
theorem PSs.nox{st:List Stmt}{t:TS}(h:PSs X.nox st t):PSs X st t:=λ pins s σ H D I hw =>wpAny_mono (h pins s σ H D (I.wish _) hw) (λ _ _ q=>q.unwish) λ _ _ z=>False.elim z
end
section
variable {X:Cx}{st:Stmt}{rest:List Stmt}{t u:TS}{e:Expr}{te:TE}{pos:Pos}
def tNext:TS:=λ D σ H=>D.nx σ H
def tSeq(t u:TS):TS:=λ D σ H=>t { D with nx:=u D } σ H
theorem pss_nil:PSs X [] tNext:=λ _ _ σ H _ I h=>wpAny_execs_nil ⟨σ,H,I,h⟩
theorem pss_cons(h1:PS X st t)(h2:PSs X rest u):PSs X (st :: rest) (tSeq t u):=by
  intro pins s σ H D I h;refine wpAny_execs_cons (thn (h1 pins s σ H { D with nx:=u D } I h) λ f s1 q=>?_);cases f with
  | next =>obtain⟨σ',H',I',q⟩:=q;exact h2 pins s1 σ' H' D I' q
  | ret v=>exact q
  | brk=>exact q
  | cont=>exact q
theorem pss_one(h1:PS X st t):PSs X [st] t:=by
  intro pins s σ H D I h;refine wpAny_execs_cons (thn (h1 pins s σ H D I h) λ f s1 q=>?_);cases f with
  | next=>exact wpAny_execs_nil q
  | ret v=>exact q
  | brk=>exact q
  | cont=>exact q
theorem Inv.quiet{pins:List (Addr×Obj)}{σ:St}{H:Hp}{s:Shared}(I:Inv X pins σ H s):interactive X.env=false:=by simp[interactive,I.ok.kind]
def tDrop(te:TE):TS:=λ D σ H=>te σ H λ _ H1=>D.nx σ H1
theorem ps_expr(he:PE X e te)(hs:swapsWith e none pos.line X.env=pure false:=by rfl):PS X (.Expr e pos) (tDrop te):=by intro pins s σ H D I h;exact wpAny_Expr_any (thn (he pins s σ H _ I h) λ v s1 ⟨x,H1,I1,r1,q1⟩=>⟨σ,H1,I1,q1⟩) I.quiet hs
def tRet(te:TE):TS:=λ D σ H=>te σ H D.rt
theorem ps_ret(he:PE X e te):PS X (.Return (some e) pos) (tRet te):=by intro pins s σ H D I h;exact wpAny_Return_some (thn (he pins s σ H _ I h) λ v s1 ⟨x,H1,I1,r1,q1⟩=>⟨x,σ,H1,I1,r1,q1⟩)
def tIfS(c:TT)(t u:TS):TS:=λ D σ H=>c σ H λ b H1=>if b=true then t D σ H1 else u D σ H1
theorem ps_if{c:Expr}{a b:List Stmt}{tc:TT}(hc:PT X c tc)(ha:PSs X a t)(hb:PSs X b u):PS X (.If c a b pos) (tIfS tc t u):=by
  intro pins s σ H D I h;refine wpAny_If (thn (hc pins s σ H _ I h) λ d s1 ⟨H1,I1,q1⟩=>?_);cases d with
  | true=>exact ha pins s1 σ H1 D I1 q1
  | false=>exact hb pins s1 σ H1 D I1 q1
end
abbrev TG:=V->St->Hp->(St->Hp->Prop)->Prop
abbrev TGs:=List V->St->Hp->(St->Hp->Prop)->Prop
def PG (X:Cx) (target:Expr) (t:TG):Prop :=
  ∀ (pins:List (Addr×Obj)) (s:Shared) (σ:St) (H:Hp) (v:V) (u:Value) (Q:St->Hp->Prop),Inv X pins σ H s->RelV v u->t v σ H Q ->
    wpAny (model X.prog X.w) X.A (assign target X.env u) (λ _ s'=>∃σ' H',Inv X pins σ' H' s'∧Q σ' H') X.xe s
def PGs (X:Cx) (ts:List Expr) (t:TGs):Prop :=
  ∀ (pins:List (Addr×Obj)) (s:Shared) (σ:St) (H:Hp) (vs:List V) (us:List Value) (Q:St->Hp->Prop),Inv X pins σ H s->Vals vs us->t vs σ H Q ->
    wpAny (model X.prog X.w) X.A (assignInOrder ((assignEach ts X.env).map (·.2)) us) (λ _ s'=>∃σ' H',Inv X pins σ' H' s'∧Q σ' H') X.xe s
abbrev TIp:=V->V->Hp->VK->Prop
def PIp (X:Cx) (op:Operator) (t:TIp):Prop :=
  ∀ (pins:List (Addr×Obj)) (s:Shared) (σ:St) (H:Hp) (x y:V) (v u:Value) (Q:VK),Inv X pins σ H s->RelV x v->RelV y u->t x y H Q ->
    wpAny (model X.prog X.w) X.A (inplaceOp op v u) (EP X pins σ Q) X.xe s
section
variable {X:Cx}{pos:Pos}
def gName(i:Nat):TG:=λ v σ H Q=>Q (σ.set i (some v)) H
theorem pg_name{i:Nat}{x:Str}(hN:X.N.Nodup)(hi:X.N[i]?=some x)(hx:Loc X.env.scope x)(hf:X.fn x=true∨X.env.scope.names.lookup x=some .local:=by first | exact .inl rfl | exact .inr rfl | assumption):PG X (.Name x pos) (gName i):=by intro pins s σ H v u Q I r h;exact wpAny_assign_Name (store_ok I hN hi hx r (λ s' I'=>⟨_,H,I',h⟩) hf)
def gNil:TGs:=λ vs σ H Q=>vs=[]∧Q σ H
def gCons(t:TG)(u:TGs):TGs:=λ vs σ H Q=>∃v r,vs=v :: r∧t v σ H λ σ' H'=>u r σ' H' Q
theorem pgs_nil:PGs X [] gNil:=by intro pins s σ H vs us Q I r h;obtain⟨e,h⟩:=h;subst e;cases r;exact assignInOrder_nil ⟨σ,H,I,h⟩
theorem pgs_cons{e:Expr}{es:List Expr}{t:TG}{u:TGs}(h1:PG X e t)(h2:PGs X es u)
    (hs:(assignEach (e :: es) X.env).map (·.2)=assign e X.env :: (assignEach es X.env).map (·.2):=by rfl):PGs X (e :: es) (gCons t u):=by
  intro pins s σ H vs us Q I r h;obtain⟨v,vr,e1,h⟩:=h;subst e1;cases r with
  | cons r rr =>rw[hs];refine assignInOrder_cons (thn (h1 pins s σ H _ _ _ I r h) λ _ s1 ⟨σ1,H1,I1,q1⟩=>?_);exact h2 pins s1 σ1 H1 _ _ Q I1 rr q1
def gTup(K:PySem.W.Frag)(n:Nat)(t:TGs):TG:=λ v σ H Q=>∃a xs,v=.ref a∧SqT K H a xs∧xs.length=n∧t xs σ H Q
theorem pg_tup{es:List Expr}{k:Nat}{t:TGs}{n:Nat}(hc:X.calm=true)(h:PGs X es t)
    (hn:(assignEach es X.env).length=n:=by rfl) (hst:(assignEach es X.env).findIdx? (·.1)=none:=by rfl):PG X (.Tuple es k pos) (gTup X.K n t):=by
  intro pins s σ H v u Q I r hw;obtain⟨a,xs,e1,hq,hl,hw⟩:=hw;subst e1;cases r;obtain⟨its,rv,ht,hz⟩:=I.tuple hq;refine assign_Tuple_tuple (I.ok.hd hc) ht (by simp[hn,<-hl,rv.length]) hst λ h' hx=>?_;have I1:Inv X pins σ H { s with heap:=h' }:=I.kept (t':=s.toks) λ b o e=>hx b o (Nat.ne_of_lt (Heap.lt_size e)) e;exact h pins _ σ H xs _ Q I1 (by simpa using rv) hw
def tAsg(te:TE)(g:TG):TS:=λ D σ H=>te σ H λ x H1=>g x σ H1 D.nx
theorem ps_asg{tg e:Expr}{te:TE}{g:TG}(he:PE X e te)(hg:PG X tg g)(hs:swapsWithSole [tg] e pos.line X.env=pure false:=by rfl)(hw:swappedStores [tg] e X.env=pure none:=by rfl)
    (h1:(assignEach [tg] X.env).map (·.2)=[assign tg X.env]:=by rfl):PS X (.Assign [tg] e pos) (tAsg te g):=by
  intro pins s σ H D I h;refine wpAny_Assign_stores (thn (he pins s σ H _ I h) λ v s1 ⟨x,H1,I1,r1,q1⟩=>?_) hs hw;rw[h1];exact thn (hg pins s1 σ H1 x v _ I1 r1 q1) λ _ s2 q=>q
theorem ps_set{i:Nat}{x:Str}{e:Expr}{te:TE}{pos':Pos}(hN:X.N.Nodup)(hi:X.N[i]?=some x)(hx:Loc X.env.scope x)(he:PE X e te)(hs:swapsWith e (some (.Name x pos')) pos.line X.env=pure false:=by rfl)(hf:X.fn x=true∨X.env.scope.names.lookup x=some .local:=by first | exact .inl rfl | exact .inr rfl | assumption):
    PS X (.Assign [.Name x pos'] e pos) (tAsg te (gName i)):=by
  intro pins s σ H D I h;refine wpAny_Assign_Name (thn (he pins s σ H _ I h) λ v s1 ⟨y,H1,I1,r1,q1⟩=>?_) hs;exact store_ok I1 hN hi hx r1 (λ s2 I2=>⟨_,H1,I2,q1⟩) hf
def tAug(i:Nat)(te:TE)(ti:TIp):TS:=λ D σ H=>∃x,σ[i]?=some (some x)∧te σ H λ y H1=>ti x y H1 λ z H2=>D.nx (σ.set i (some z)) H2
theorem ps_aug {i : Nat} {x : Str} {e : Expr} {te : TE} {op : Operator} {ti : TIp} {pos' : Pos} (hN : X.N.Nodup) (hi : X.N[i]? = some x) (hx : Loc X.env.scope x) (he : PE X e te) (ho : PIp X op ti) (hf : X.fn x = true ∨ X.env.scope.names.lookup x = some .local := by first | exact .inl rfl | exact .inr rfl | assumption) :
    PS X (.AugAssign (.Name x pos') op e pos) (tAug i te ti):=by
  intro pins s σ H D I h;obtain⟨v,e1,h⟩:=h;obtain⟨m,hn,hl⟩:=I.loc;have vis:Vis X.env.scope x:=by rcases hx with k | k;exact .inl k;exact .inr (.inl k)
  obtain⟨u,r,l⟩:=hl i x v hi e1 vis;refine wpAny_AugAssign_Name ?_;have go:wpAny (model X.prog X.w) X.A (eval e X.env) (λ w s₂=>wpAny (model X.prog X.w) X.A (inplaceOp op u w) (λ r s₃=>wpAny (model X.prog X.w) X.A (storeName X.env x r) (λ _=>SP X pins D .next) X.xe s₃) X.xe s₂) X.xe s:=by refine thn (he pins s σ H _ I h) λ w s1 ⟨y,H1,I1,r1,q1⟩=>?_;refine thn (ho pins s1 σ H1 v y u w _ I1 r r1 q1) λ z s2 ⟨zv,H2,I2,r2,q2⟩=>?_;exact store_ok I2 hN hi hx r2 (λ s3 I3=>⟨_,H2,I3,q2⟩) hf
  rcases l with⟨hk,hm⟩ | ⟨hk,c,hc,hcell⟩
  ·exact wpAny_loadName_local I.ok.kind hk hn hm go
  · rcases hk with hk | hk
    ·exact wpAny_loadName_cell I.ok.kind hk hc hcell go
    · rcases hx with k | k
      · have:X.env.scope.names.lookup x=some .free:=hk;rw[k]at this;cases this
      · have:X.env.scope.names.lookup x=some .free:=hk;rw[k]at this;cases this
end
section
variable {X:Cx}{pos:Pos}
end
structure It where
  go:Nat->Hp->Prop
  yld:Nat->Hp->V->Hp->Prop
  stop:Nat->Hp->Prop
def FpOk(X:Cx)(pins:List (Addr×Obj))(H:Hp)(b:Addr):Prop :=
  H b=none∧b≠X.env.locals∧b∉X.fs∧(b∈X.ex∨X.s₀.heap.objs.size≤b)∧(∀x c,X.env.cells.lookup x=some c->c≠b)∧∀p∈X.pn++pins,p.1≠b
theorem Inv.fpOk{X:Cx}{pins:List (Addr×Obj)}{σ:St}{H H':Hp}{s:Shared}{b:Addr}(I:Inv X pins σ H s)(hb:s.heap.objs.size≤b)(hn:H' b=none):FpOk X pins H' b:=by
  refine⟨hn,Nat.ne_of_gt (Nat.lt_of_lt_of_le I.lt hb),I.nofs hb,.inr (Nat.le_trans I.sz hb),λ x c e z=>?_,λ p hp z=>?_⟩
  · obtain⟨v,q⟩:=I.cell x c e;exact absurd (Nat.lt_of_lt_of_le q.lt (by rw[z];exact hb)) (Nat.lt_irrefl _)
  ·exact absurd (Nat.lt_of_lt_of_le (Heap.lt_size (I.pin p hp).1) (by rw[z];exact hb)) (Nat.lt_irrefl _)
structure Turn(P:Program)(w:World)(K:PySem.W.Frag)(tg:Expr)(J:It)(fp:List Addr)(it:Addr)(tn:Nat->Heap->Prop):Prop where
  mem:it∈fp
  obj:∀i h,tn i h->∀b∈fp,∃o,h.get? b=some o∧∀v,o.data≠.cell v
  keep:∀i h h',tn i h->(∀b∈fp,∀o,h.get? b=some o->h'.get? b=some o)->tn i h'
  item:∀(X:Cx),X.prog=P->X.w=w->X.K=K->X.calm=true->∀(i:Nat)(pins:List (Addr×Obj))(s:Shared)(σ:St)(H:Hp)(E:Value->Shared->Prop),Inv X pins σ H s->(∀b∈fp,FpOk X pins H b)->tn i s.heap->J.go i H ->
    wpAny (model P w) X.A (pyNext (.ref it)) (λ r s1=>∃u,r=some u ∧
      wpAny (model P w) X.A (letOwnedTupleGo tg (.ref it) u) (λ _ s2=>∃x H',Inv X pins σ H' s2∧RelV x u∧J.yld i H x H'∧tn (i+1) s2.heap∧∀b∈fp,H' b=none) E s1) E s
  done:∀(X:Cx),X.prog=P->X.w=w->X.K=K->X.calm=true->∀(i:Nat)(pins:List (Addr×Obj))(s:Shared)(σ:St)(H:Hp)(E:Value->Shared->Prop),Inv X pins σ H s->(∀b∈fp,FpOk X pins H b)->tn i s.heap->J.stop i H ->
    wpAny (model P w) X.A (pyNext (.ref it)) (λ r s1=>r=none∧Inv X pins σ H s1) E s
  self:∀(A:Around)(i:Nat)(s:Shared)(Q:Value->Shared->Prop)(E:Value->Shared->Prop),tn i s.heap->Q (.ref it) s->wpAny (model P w) A (pyIter (.ref it)) Q E s
abbrev TI:=St->Hp->(It->Hp->Prop)->Prop
def PIE(X:Cx)(pins:List (Addr×Obj))(σ:St)(tg:Expr)(R:It->Hp->Prop)(itv:Value)(s2:Shared):Prop :=
  ∃(it:Addr)(fp:List Addr)(tn:Nat->Heap->Prop)(J:It)(H':Hp),itv=.ref it∧Inv X pins σ H' s2∧Turn X.prog X.w X.K tg J fp it tn∧tn 0 s2.heap∧(∀b∈fp,FpOk X pins H' b)∧R J H'
def PI (X:Cx) (tg iter:Expr) (wi:TI):Prop :=
  ∀ (pins:List (Addr×Obj)) (s:Shared) (σ:St) (H:Hp) (R:It->Hp->Prop),Inv X pins σ H s->wi σ H R ->
    wpAny (model X.prog X.w) X.A (eval iter X.env) (λ v s1=>wpAny (model X.prog X.w) X.A (pyIter v) (PIE X pins σ tg R) X.xe s1) X.xe s
theorem go_of {M : Model} {A : Around} {E : Value -> Shared -> Prop} {s : Shared} {tg : Expr} {it : Addr} {u : Value} {o : Obj} {n : String} {vs : Array Value} {Q : Unit -> Shared -> Prop} (ho : s.heap.get? it = some o) (hc : o.cls = .type n) (hd : o.data = .fields vs)
    (hn:["enumerate", "zip", "dict_itemiterator", "dict_reverseitemiterator", "odict_iterator", "itertools.zip_longest", "itertools.pairwise"].contains n=false) (hQ:Q () s):wpAny M A (letOwnedTupleGo tg (.ref it) u) Q E s:=by
  unfold letOwnedTupleGo;cases tg <;> first
    | exact wpAny_pure hQ
    | (cases u<;>first
        | exact wpAny_pure hQ
        | (refine wpAny_bind (wpAny_load ho ?_)
           rw[hc,hd];show wpAny M A (if(["enumerate", "zip", "dict_itemiterator", "dict_reverseitemiterator", "odict_iterator", "itertools.zip_longest", "itertools.pairwise"].contains n&&vs[0]?==some (rawInt _))=true then _ else _) Q E s;rw[if_neg (by intro h;rw[hn,Bool.false_and]at h;cases h)];exact wpAny_pure hQ))
def Itl(K:PySem.W.Frag)(a:Addr):It :=
  ⟨λ i H=>∃xs x,SqL K H a xs∧xs[i]?=some x,λ i H x H'=>H'=H∧∀xs,SqL K H a xs->xs[i]?=some x,λ i H=>∃xs,SqL K H a xs∧xs.length≤i⟩
def Itt(K:PySem.W.Frag)(a:Addr):It :=
  ⟨λ i H=>∃xs x,SqT K H a xs∧xs[i]?=some x,λ i H x H'=>H'=H∧∀xs,SqT K H a xs->xs[i]?=some x,λ i H=>∃xs,SqT K H a xs∧xs.length≤i⟩
def Itr(lo:Int)(n:Nat):It:=⟨λ i _=>i < n,λ i H x H'=>H'=H∧x=.int (lo+i),λ i _=>n≤i⟩
theorem turn_list{P:Program}{w:World}{K:PySem.W.Frag}{tg:Expr}(a it:Addr):Turn P w K tg (Itl K a) [it] it (λ i h=>h.IsListIter it a i) where
  mem:=by simp
  obj:=λ i h st b hb=>by
    have e:b=it:=by simpa using hb
    subst e;obtain⟨o,e,c,d⟩:=st;exact⟨o,e,λ v z=>by rw[d]at z;cases z⟩
  keep:=λ i h h' st k=>st.at λ o e=>k it (by simp) o e
  item:=by intro X hP hw hK hc i pins s σ H E I hf st hg;subst hP hw hK;obtain⟨xs,x,hq,hx⟩:=hg;obtain⟨its,rv,p,hz⟩:=I.list hq;obtain⟨u,hu,ru⟩:=rv.get hx;obtain⟨f0,f1,f2,f3,f4,f5⟩:=hf it (by simp);refine wpAny_pyNext_list_item st p.isList (x:=u) (by simpa using hu) λ h' st' sb=>?_;have I1:Inv X pins σ H { s with heap:=h' }:=I.turned (t':=s.toks) (λ b o hb e=>(sb.2 b hb).trans e) f0 f1 f3 f4 f5;obtain⟨o,e,c,d⟩:=id st';exact⟨u,rfl,go_of (s:={ s with heap:=h' }) e c d (by decide) ⟨x,H,I1,ru,⟨rfl,λ ys hy=>by rw[I.list_inj hy hq];exact hx⟩,st',λ b hb=>(hf b hb).1⟩⟩
  done:=by intro X hP hw hK hc i pins s σ H E I hf st hg;subst hP hw hK;obtain⟨xs,hq,hx⟩:=hg;obtain⟨its,rv,p,hz⟩:=I.list hq;obtain⟨f0,f1,f2,f3,f4,f5⟩:=hf it (by simp);have hl:=rv.length;exact wpAny_pyNext_list_end (I.ok.hd hc) st p.isList (by simp;lia) λ h' eb=>⟨rfl,I.turned (t':=s.toks) (λ b o hb e=>eb b o hb e) f0 f1 f3 f4 f5⟩
  self:=λ _ _ _ _ _ st h=>wpAny_pyIter_listiter st h
theorem turn_tuple{P:Program}{w:World}{K:PySem.W.Frag}{tg:Expr}(a it:Addr):Turn P w K tg (Itt K a) [it] it (λ i h=>h.IsTupleIter it a i) where
  mem:=by simp
  obj:=λ i h st b hb=>by
    have e:b=it:=by simpa using hb
    subst e;obtain⟨o,e,c,d⟩:=st;exact⟨o,e,λ v z=>by rw[d]at z;cases z⟩
  keep:=λ i h h' st k=>st.at λ o e=>k it (by simp) o e
  item:=by intro X hP hw hK hc i pins s σ H E I hf st hg;subst hP hw hK;obtain⟨xs,x,hq,hx⟩:=hg;obtain⟨its,rv,p,hz⟩:=I.tuple hq;obtain⟨u,hu,ru⟩:=rv.get hx;obtain⟨f0,f1,f2,f3,f4,f5⟩:=hf it (by simp);refine wpAny_pyNext_tuple_item st (show s.heap.IsTuple a its.toArray from p) (x:=u) (by simpa using hu) λ h' st' sb=>?_;have I1:Inv X pins σ H { s with heap:=h' }:=I.turned (t':=s.toks) (λ b o hb e=>(sb.2 b hb).trans e) f0 f1 f3 f4 f5;obtain⟨o,e,c,d⟩:=id st';exact⟨u,rfl,go_of (s:={ s with heap:=h' }) e c d (by decide) ⟨x,H,I1,ru,⟨rfl,λ ys hy=>by rw[I.tuple_inj hy hq];exact hx⟩,st',λ b hb=>(hf b hb).1⟩⟩
  done:=by intro X hP hw hK hc i pins s σ H E I hf st hg;subst hP hw hK;obtain⟨xs,hq,hx⟩:=hg;obtain⟨its,rv,p,hz⟩:=I.tuple hq;obtain⟨f0,f1,f2,f3,f4,f5⟩:=hf it (by simp);have hl:=rv.length;exact wpAny_pyNext_tuple_end (I.ok.hd hc) st (show s.heap.IsTuple a its.toArray from p) (by simp;lia) λ h' eb=>⟨rfl,I.turned (t':=s.toks) (λ b o hb e=>eb b o hb e) f0 f1 f3 f4 f5⟩
  self:=λ _ _ _ _ _ st h=>wpAny_pyIter_tupleiter st h
theorem turn_range{P:Program}{w:World}{K:PySem.W.Frag}{tg:Expr}(it:Addr)(lo:Int)(n:Nat):Turn P w K tg (Itr lo n) [it] it (λ i h=>IsRangeIter h it (lo+(i:Nat)*1) ((n:Int)-(i:Nat)) 1) where
  mem:=by simp
  obj:=λ i h st b hb=>by
    have e:b=it:=by simpa using hb
    subst e;exact⟨_,st,λ v z=>by have z':Data.fields _=Data.cell v:=z;cases z'⟩
  keep:=λ i h h' st k=>k it (by simp) _ st
  item:=by intro X hP hw hK hc i pins s σ H E I hf st hg;subst hP hw hK;obtain⟨f0,f1,f2,f3,f4,f5⟩:=hf it (by simp);have W:=Walks.range (prog:=X.prog) (w:=X.w) (I.ok.hd hc) it lo 1 n;refine W.item i s _ _ hg st λ v h' tk hv st' kk=>?_;obtain⟨t,rfl⟩:=hv;have I1:Inv X pins σ H { s with heap:=h',toks:=tk }:=I.turned (λ b o hb e=>kk b o (by simpa using hb) e) f0 f1 f3 f4 f5;refine⟨_,rfl,go_of (s:={ s with heap:=h',toks:=tk }) (n := "range_iterator") st' rfl rfl (by decide) ⟨.int (lo+i),H,I1,⟨t,?_⟩,⟨rfl,rfl⟩,st',λ b hb=>(hf b hb).1⟩⟩;rw[Int.mul_one]
  done:=by intro X hP hw hK hc i pins s σ H E I hf st hg;subst hP hw hK;obtain⟨f0,f1,f2,f3,f4,f5⟩:=hf it (by simp);exact wpAny_pyNext_range_end (I.ok.hd hc) st (by have:n≤i:=hg;lia) λ h' eb=>⟨rfl,I.turned (t':=s.toks) (λ b o hb e=>eb b o hb e) f0 f1 f3 f4 f5⟩
  self:=λ _ _ _ _ _ st h=>wpAny_pyIter_rangeiter st h
end L2
namespace L2
open PySem PySem.Spec PyProof.Rows
section
variable {X:Cx}{tg:Expr}
def iRng1(ta:TA):TI:=λ σ H R=>ta σ H λ vs H1=>∃j:Int,vs=[.int j]∧-(2 ^ 62)≤j∧j < 2 ^ 62∧R (Itr 0 j.toNat) H1
def iRng2(ta:TA):TI:=λ σ H R=>ta σ H λ vs H1=>∃i j:Int,vs=[.int i,.int j]∧(-(2 ^ 62)≤i∧i < 2 ^ 62∧-(2 ^ 62)≤j∧j < 2 ^ 62)∧R (Itr i (j-i).toNat) H1
def tFor(wi:TI)(g:TG)(tb:TS):TS:=λ D σ H=>wi σ H λ J H1=>∃W:Nat->Nat->St->Hp->Prop,(∃m,W 0 m σ H1)∧∀i m σ H,W i m σ H ->
  (J.stop i H∧D.nx σ H)∨(J.go i H∧∃N:St->Hp->Prop,(∀σ' H',N σ' H'->∃m',m' < m∧W (i+1) m' σ' H')∧∀x H',J.yld i H x H'->g x σ H' λ σ2 H2=>tb { D with nx:=N,ct:=N,bk:=D.nx } σ2 H2)
def pinsAt(fp:List Addr)(h:Heap):List (Addr×Obj):=fp.filterMap λ b=>(h.get? b).map λ o=>(b,o)
theorem mem_pinsAt{fp:List Addr}{h:Heap}{b:Addr}{o:Obj}(hb:b∈fp)(e:h.get? b=some o):(b,o)∈pinsAt fp h:=List.mem_filterMap.mpr ⟨b,hb,by rw[e];rfl⟩
theorem of_pinsAt{fp:List Addr}{h:Heap}{p:Addr×Obj}(hp:p∈pinsAt fp h):p.1∈fp∧h.get? p.1=some p.2:=by
  obtain⟨b,hb,e⟩:=List.mem_filterMap.mp hp;cases q:h.get? b with
  | none=>rw[q]at e;cases e
  | some o =>rw[q]at e;have e':(b,o)=p:=Option.some.inj e;subst e';exact⟨hb,q⟩
theorem Inv.pinned{pins:List (Addr×Obj)}{σ:St}{H:Hp}{s:Shared}{fp:List Addr}(I:Inv X pins σ H s)(hf:∀b∈fp,FpOk X pins H b)(ho:∀b∈fp,∃o,s.heap.get? b=some o∧∀v,o.data≠.cell v):Inv X (pins++pinsAt fp s.heap) σ H s :=
  I.pins_of λ p hp=>(List.mem_append.mp hp).elim (λ z=>I.pin p (List.mem_append_right _ z)) λ z=>by obtain⟨hb,e⟩:=of_pinsAt z;obtain⟨f0,f1,f2,_⟩:=hf p.1 hb;obtain⟨o,e',d⟩:=ho p.1 hb;rw[e]at e';cases e';exact⟨e,f0,f1,f2,d⟩
theorem Inv.unpinned{pins pl:List (Addr×Obj)}{σ:St}{H:Hp}{s:Shared}(I:Inv X (pins++pl) σ H s):Inv X pins σ H s:=I.pins_of λ p hp=>I.pin p (List.mem_append_right _ (List.mem_append_left _ hp))
theorem ps_for{iter:Expr}{body:List Stmt}{wi:TI}{g:TG}{tb:TS}{pos:Pos}(hp:PassesOwn (model X.prog X.w) X.A X.env X.xe)(hc:X.calm=true)(hi:PI X tg iter wi)(hg:PG X tg g)(hb:PSs X body tb)
    (hs:∀x,foldedSetIterable iter X.env x=pure x:=by intro _;rfl):PS X (.For tg iter body [] pos) (tFor wi g tb):=by
  intro pins s σ H D I h;refine wpAny_For (thn (hi pins s σ H _ I h) λ v s1 h1=>thn h1 λ itv s2 h2=>?_) hs;obtain⟨it,fp,tn,J,H2,e,I2,T,st2,f2,W,⟨m0,w0⟩,turn⟩:=h2;subst e
  -- what stays true of the iterator's objects through the loop
  have stat:∀{H':Hp},(∀b∈fp,H' b=none)->∀b∈fp,FpOk X pins H' b:=λ hn b hb=>⟨hn b hb,(f2 b hb).2⟩
  refine codeAny_forLoop_any (λ n s'=>∃i σ' H',Inv X pins σ' H' s'∧tn i s'.heap∧(∀b∈fp,H' b=none)∧W i n σ' H') ?_ m0 ⟨0,σ,H2,I2,st2,λ b hb=>(f2 b hb).1,w0⟩;rintro n s3 ⟨i,σ3,H3,I3,st3,fr3,w3⟩;rcases turn i n σ3 H3 w3 with⟨stop,qn⟩ | ⟨go,N,hN,step⟩
  · refine wpAny_passesOwn hp (thn (T.done X rfl rfl rfl hc i pins s3 σ3 H3 X.xe I3 (stat fr3) st3 stop) λ r s4 ⟨hr,I4⟩=>?_);subst hr;exact wpAny_execs_nil ⟨σ3,H3,I4,qn⟩
  · refine wpAny_passesOwn hp (thn (T.item X rfl rfl rfl hc i pins s3 σ3 H3 X.xe I3 (stat fr3) st3 go) λ r s4 ⟨u,hr,h4⟩=>?_);subst hr;refine wpAny_passesOwn hp (thn h4 λ _ s5 ⟨x,H5,I5,r5,y5,st5,fr5⟩=>?_);have I5':=I5.pinned (stat fr5) (T.obj _ _ st5);refine wpAny_passesOwn hp (thn (hg _ s5 σ3 H5 x u _ I5' r5 (step x H5 y5)) λ _ s6 ⟨σ6,H6,I6,q6⟩=>?_);refine wpAny_passesOwn hp (thn (hb _ s6 σ6 H6 _ I6 q6) λ f s7 q7=>?_);have again:∀{σ7:St}{H7:Hp},Inv X (pins++pinsAt fp s5.heap) σ7 H7 s7->N σ7 H7->∃m,m < n∧∃i σ' H',Inv X pins σ' H' s7∧tn i s7.heap∧(∀b∈fp,H' b=none)∧W i m σ' H':=λ {σ7 H7} I7 n7=>by obtain⟨m',hm,w7⟩:=hN σ7 H7 n7;refine⟨m',hm,i+1,σ7,H7,I7.unpinned,T.keep _ _ _ st5 λ b hb o e=>(I7.pin (b,o) (List.mem_append_right _ (List.mem_append_right _ (mem_pinsAt hb e)))).1,λ b hb=>?_,w7⟩;obtain⟨o,e,d⟩:=T.obj _ _ st5 b hb;exact(I7.pin (b,o) (List.mem_append_right _ (List.mem_append_right _ (mem_pinsAt hb e)))).2.1
    cases f with
    | next=>obtain⟨σ7,H7,I7,n7⟩:=q7;exact again I7 n7
    | cont=>obtain⟨σ7,H7,I7,n7⟩:=q7;exact again I7 n7
    | brk=>obtain⟨σ7,H7,I7,q7⟩:=q7;exact⟨σ7,H7,I7.unpinned,q7⟩
    | ret v=>obtain⟨x7,σ7,H7,I7,r7,q7⟩:=q7;exact⟨x7,σ7,H7,I7.unpinned,r7,q7⟩
end
end L2
namespace L2
open PySem PySem.Spec PyProof.Rows
abbrev R2:=V->V->Hp->VK->Prop
def OpR (X:Cx) (f:Value->Value->Sem Value) (r:R2):Prop :=
  ∀ (pins:List (Addr×Obj)) (s:Shared) (σ:St) (H:Hp) (x y:V) (v u:Value) (Q:VK),Inv X pins σ H s->RelV x v->RelV y u->r x y H Q ->
    wpAny (model X.prog X.w) X.A (f v u) (EP X pins σ Q) X.xe s
def UnR (X:Cx) (f:Value->Sem Value) (r:V->Hp->VK->Prop):Prop :=
  ∀ (pins:List (Addr×Obj)) (s:Shared) (σ:St) (H:Hp) (x:V) (v:Value) (Q:VK),Inv X pins σ H s->RelV x v->r x H Q ->
    wpAny (model X.prog X.w) X.A (f v) (EP X pins σ Q) X.xe s
def CallR (X:Cx) (f:Value) (r:List V->Hp->VK->Prop):Prop :=
  ∀ (pins:List (Addr×Obj)) (s:Shared) (σ:St) (H:Hp) (xs:List V) (us:List Value) (Q:VK),Inv X pins σ H s->Vals xs us->r xs H Q ->
    wpAny (model X.prog X.w) X.A (call f us) (EP X pins σ Q) X.xe s
def tOp(r:R2)(ta tb:TE):TE:=λ σ H Q=>ta σ H λ x H1=>tb σ H1 λ y H2=>r x y H2 Q
def tUn(r:V->Hp->VK->Prop)(ta:TE):TE:=λ σ H Q=>ta σ H λ x H1=>r x H1 Q
def rI(C:Int->Int->Prop)(g:Int->Int->V):R2:=λ x y H Q=>∃i j,x=.int i∧y=.int j∧C i j∧Q (g i j) H
def rI0(g:Int->Int->V):R2:=λ x y H Q=>∃i j,x=.int i∧y=.int j∧Q (g i j) H
def rU(g:Int->V):V->Hp->VK->Prop:=λ x H Q=>∃i,x=.int i∧Q (g i) H
section
variable {X:Cx}{a b c:Expr}{ta tb tc:TE}{pos:Pos}
theorem binT(ha:PE X a ta)(hb:PE X b tb){pins:List (Addr×Obj)}{s:Shared}{σ:St}{H:Hp}{R:V->V->Hp->Prop}(I:Inv X pins σ H s)
    (h:ta σ H λ x H1=>tb σ H1 λ y H2=>R x y H2){Q:Value->Shared->Prop}{f:Value->Value->Sem Value}
    (hf:∀v u s2 x y H2,Inv X pins σ H2 s2->RelV x v->RelV y u->R x y H2->wpAny (model X.prog X.w) X.A (f v u) Q X.xe s2) :
    wpAny (model X.prog X.w) X.A (eval a X.env) (λ v s₁=>wpAny (model X.prog X.w) X.A (eval b X.env) (λ u s₂=>wpAny (model X.prog X.w) X.A (f v u) Q X.xe s₂) X.xe s₁) X.xe s:=by
  refine thn (ha pins s σ H _ I h) λ v s1 ⟨x,H1,I1,r1,q1⟩=>?_;refine thn (hb pins s1 σ H1 _ I1 q1) λ u s2 ⟨y,H2,I2,r2,q2⟩=>?_;exact hf v u s2 x y H2 I2 r1 r2 q2
theorem pe_op{op:Operator}{r:R2}(ho:OpR X (binaryOp op) r)(ha:PE X a ta)(hb:PE X b tb):PE X (.BinOp a op b pos) (tOp r ta tb):=by intro pins s σ H Q I h;exact wpAny_BinOp (binT ha hb I h λ v u s2 x y H2 I2 rx ry q=>ho pins s2 σ H2 x y v u Q I2 rx ry q)
theorem pe_un{op:UnaryOp}{r:V->Hp->VK->Prop}(ho:UnR X (unaryOp op) r)(ha:PE X a ta):PE X (.UnaryOp op a pos) (tUn r ta):=by intro pins s σ H Q I h;exact UnaryOp_ (thn (ha pins s σ H _ I h) λ v s1 ⟨x,H1,I1,r1,q1⟩=>ho pins s1 σ H1 x v Q I1 r1 q1)
theorem opI{f:Value->Value->Sem Value}{C:Int->Int->Prop}{g:Int->Int->Int}
    (rule:∀(i j:Int)(t u:Tok)(s:Shared)(Q:Value->Shared->Prop)(E:Value->Shared->Prop),C i j->Q (.int (g i j) s.toks) { s with toks:=s.toks+1 }->wpAny (model X.prog X.w) X.A (f (.int i t) (.int j u)) Q E s) :
    OpR X f (rI C λ i j=>.int (g i j)):=by
  intro pins s σ H x y v u Q I rx ry h;obtain⟨i,j,rfl,rfl,hc,q⟩:=h;obtain⟨t,rfl⟩:=rx;obtain⟨t',rfl⟩:=ry;exact rule i j t t' s _ _ hc ⟨.int (g i j),H,I.tok _,⟨_,rfl⟩,q⟩
theorem opI0{f:Value->Value->Sem Value}{g:Int->Int->Int}
    (rule:∀(i j:Int)(t u:Tok)(s:Shared)(Q:Value->Shared->Prop)(E:Value->Shared->Prop),Q (.int (g i j) s.toks) { s with toks:=s.toks+1 }->wpAny (model X.prog X.w) X.A (f (.int i t) (.int j u)) Q E s) :
    OpR X f (rI0 λ i j=>.int (g i j)):=by
  intro pins s σ H x y v u Q I rx ry h;obtain⟨i,j,rfl,rfl,q⟩:=h;obtain⟨t,rfl⟩:=rx;obtain⟨t',rfl⟩:=ry;exact rule i j t t' s _ _ ⟨.int (g i j),H,I.tok _,⟨_,rfl⟩,q⟩
theorem opB0{f:Value->Value->Sem Value}{g:Int->Int->Bool}
    (rule:∀(i j:Int)(t u:Tok)(s:Shared)(Q:Value->Shared->Prop)(E:Value->Shared->Prop),Q (.bool (g i j)) s->wpAny (model X.prog X.w) X.A (f (.int i t) (.int j u)) Q E s) :
    OpR X f (rI0 λ i j=>.bl (g i j)):=by
  intro pins s σ H x y v u Q I rx ry h;obtain⟨i,j,rfl,rfl,q⟩:=h;obtain⟨t,rfl⟩:=rx;obtain⟨t',rfl⟩:=ry;exact rule i j t t' s _ _ ⟨.bl (g i j),H,I,rfl,q⟩
def CPow(i j:Int):Prop:=0≤j∧j≤1000000∧i.natAbs < 2 ^ 64
def CMul(i j:Int):Prop:=(-(2 ^ 64) < i∧i < 2 ^ 64)∨(-(2 ^ 64) < j∧j < 2 ^ 64)
theorem CMul.ok{i j:Int}(h:CMul i j):IntMulOk i j:=by
  rcases h with⟨h1,h2⟩ | ⟨h1,h2⟩
  ·exact .of_left (intBits_le_64 h1 h2)
  ·exact .of_right (intBits_le_64 h1 h2)
theorem op_add:OpR X (binaryOp .Add) (rI0 λ i j=>.int (i+j)):=opI0 λ _ _ _ _ _ _ _ q=>add_int q
theorem op_sub:OpR X (binaryOp .Sub) (rI0 λ i j=>.int (i-j)):=opI0 λ _ _ _ _ _ _ _ q=>sub_int q
theorem op_mod:OpR X (binaryOp .Mod) (rI (λ _ j=>0 < j) λ i j=>.int (i % j)):=opI λ i j _ _ _ _ _ hc q=>by have h1:(0:Int) < j:=hc;exact mod_int' (by lia) (by rw[Int.fmod_eq_emod_of_nonneg i (by lia)];exact q)
theorem op_pow:OpR X (binaryOp .Pow) (rI CPow λ i j=>.int (i ^ j.toNat)):=opI λ _ _ _ _ _ _ _ hc q=>pow_int_small hc.1 hc.2.1 hc.2.2 q
theorem unI{f:Value->Sem Value}{g:Int->Int}
    (rule:∀(i:Int)(t:Tok)(s:Shared)(Q:Value->Shared->Prop)(E:Value->Shared->Prop),Q (.int (g i) s.toks) { s with toks:=s.toks+1 }->wpAny (model X.prog X.w) X.A (f (.int i t)) Q E s) :
    UnR X f (rU λ i=>.int (g i)):=by
  intro pins s σ H x v Q I rx h;obtain⟨i,rfl,q⟩:=h;obtain⟨t,rfl⟩:=rx;exact rule i t s _ _ ⟨.int (g i),H,I.tok _,⟨_,rfl⟩,q⟩
theorem un_neg:UnR X (unaryOp .USub) (rU λ i=>.int (-i)):=unI λ _ _ _ _ _ q=>neg_int q
end
section
variable {X:Cx}{a b c:Expr}{ta tb tc:TE}{pos:Pos}
theorem fin_bl{pins:List (Addr×Obj)}{σ:St}{H:Hp}{s:Shared}{Q:VK}{k k':Bool}(I:Inv X pins σ H s)(q:Q (.bl k) H)(e:k=k'):EP X pins σ Q (.bool k') s:=by subst e;exact⟨.bl k,H,I,rfl,q⟩
theorem op_lt:OpR X (compareOp .Lt) (rI0 λ i j=>.bl (decide (i < j))):=opB0 λ _ _ _ _ _ _ _ q=>lt_int q
theorem op_le:OpR X (compareOp .LtE) (rI0 λ i j=>.bl (decide (i≤j))):=opB0 λ _ _ _ _ _ _ _ q=>le_int q
theorem op_gt:OpR X (compareOp .Gt) (rI0 λ i j=>.bl (decide (j < i))):=opB0 λ _ _ _ _ _ _ _ q=>gt_int q
theorem op_ge:OpR X (compareOp .GtE) (rI0 λ i j=>.bl (decide (j≤i))):=opB0 λ _ _ _ _ _ _ _ q=>ge_int q
theorem op_isN:OpR X (compareOp .Is) (λ x y H Q=>y=.non∧Q (.bl (decide (x=.non))) H):=by
  intro pins s σ H x y v u Q I rx ry h;obtain⟨rfl,q⟩:=h;cases ry;refine is_none_gen (fin_bl I q ?_);cases x<;>first
    | (cases rx;rfl)
    | (obtain⟨t,rfl⟩:=rx;rfl)
theorem op_notN:OpR X (compareOp .IsNot) (λ x y H Q=>y=.non∧Q (.bl (!decide (x=.non))) H):=by
  intro pins s σ H x y v u Q I rx ry h;obtain⟨rfl,q⟩:=h;cases ry;refine isnot_none_gen (fin_bl I q ?_);cases x<;>first
    | (cases rx;rfl)
    | (obtain⟨t,rfl⟩:=rx;rfl)
theorem OpR.or{f:Value->Value->Sem Value}{r r':R2}(h:OpR X f r)(h':OpR X f r'):OpR X f (λ x y H Q=>r x y H Q∨r' x y H Q):=by
  intro pins s σ H x y v u Q I rx ry q;rcases q with q | q
  ·exact h pins s σ H x y v u Q I rx ry q
  ·exact h' pins s σ H x y v u Q I rx ry q
theorem nomark(b:Expr){op:CmpOp}(h:op≠.In:=by decide)(h2:op≠.NotIn:=by decide):behindInMarks op b=false:=by
  have e1:(op==CmpOp.In)=false:=by cases op<;>first | rfl | exact absurd rfl h
  have e2:(op==CmpOp.NotIn)=false:=by cases op<;>first | rfl | exact absurd rfl h2
  cases b<;>simp[behindInMarks,e1,e2]
theorem pe_cmpR{op:CmpOp}{r:R2}(ho:OpR X (compareOp op) r)(ha:PE X a ta)(hb:PE X b tb)(hm:behindInMarks op b=false):PE X (.Compare a [op] [b] pos) (tOp r ta tb):=by intro pins s σ H Q I h;exact wpAny_Compare1 (binT ha hb I h λ v u s2 x y H2 I2 rx ry q=>ho pins s2 σ H2 x y v u Q I2 rx ry q) hm
def tTest(t:TE):TT:=λ σ H Q=>t σ H λ x H'=>∃k,x=.bl k∧Q k H'
theorem pt_cmpR{op:CmpOp}{r:R2}(ho:OpR X (compareOp op) r)(ha:PE X a ta)(hb:PE X b tb)(hm:behindInMarks op b=false):PT X (.Compare a [op] [b] pos) (tTest (tOp r ta tb)):=by
  intro pins s σ H Q I h;refine wpAny_isTrue_Compare1 (thn (ha pins s σ H _ I h) λ v s1 ⟨x,H1,I1,r1,q1⟩=>thn (hb pins s1 σ H1 _ I1 q1) λ u s2 ⟨y,H2,I2,r2,q2⟩ =>thn (ho pins s2 σ H2 x y v u _ I2 r1 r2 q2) λ c s3 ⟨z,H3,I3,r3,k,e,q3⟩=>?_) hm
  subst e;cases r3;exact wpAny_truthy_bool ⟨H3,I3,q3⟩
def tChain(r r':R2)(ta tb tc:TE):TE:=λ σ H Q=>ta σ H λ x H1=>tb σ H1 λ y H2=>r x y H2 λ z H3=>∃k,z=.bl k ∧
  (if k=true then tc σ H3 λ w' H4=>r' y w' H4 Q else Q (.bl false) H3)
theorem pe_chain{op op':CmpOp}{r r':R2}(ho:OpR X (compareOp op) r)(ho':OpR X (compareOp op') r')(ha:PE X a ta)(hb:PE X b tb)(hc:PE X c tc)
    (hm:lastMarks [op,op'] [b,c]=false:=by with_unfolding_all rfl):PE X (.Compare a [op,op'] [b,c] pos) (tChain r r' ta tb tc):=by
  intro pins s σ H Q I h;refine Compare_chain (thn (ha pins s σ H _ I h) λ v s1 ⟨x,H1,I1,r1,q1⟩=>chain_link (thn (hb pins s1 σ H1 _ I1 q1) λ u s2 ⟨y,H2,I2,r2,q2⟩ =>thn (ho pins s2 σ H2 x y v u _ I2 r1 r2 q2) λ d s3 ⟨z,H3,I3,r3,k,e,q3⟩=>?_)) hm
  subst e;cases r3;refine wpAny_truthy_bool ?_;cases k with
  | false=>exact ite_ff ⟨.bl false,H3,I3,rfl,q3⟩
  | true=>exact ite_tt (chain_last (thn (hc pins s3 σ H3 _ I3 q3) λ w' s4 ⟨z',H4,I4,r4,q4⟩=>ho' pins s4 σ H4 y z' u w' Q I4 r2 r4 q4))
theorem pt_chain{op op':CmpOp}{r r':R2}(ho:OpR X (compareOp op) r)(ho':OpR X (compareOp op') r')(ha:PE X a ta)(hb:PE X b tb)(hc:PE X c tc)
    (hm:lastMarks [op,op'] [b,c]=false:=by with_unfolding_all rfl):PT X (.Compare a [op,op'] [b,c] pos) (tTest (tChain r r' ta tb tc)):=by
  intro pins s σ H Q I h;refine isTrue_chain (thn (ha pins s σ H _ I h) λ v s1 ⟨x,H1,I1,r1,q1⟩=>test_link (thn (hb pins s1 σ H1 _ I1 q1) λ u s2 ⟨y,H2,I2,r2,q2⟩ =>thn (ho pins s2 σ H2 x y v u _ I2 r1 r2 q2) λ d s3 ⟨z,H3,I3,r3,k,e,q3⟩=>?_)) hm
  subst e;cases r3;refine wpAny_truthy_bool ?_;cases k with
  | false =>obtain⟨k',e',q'⟩:=q3;cases e';exact ite_ff ⟨H3,I3,q'⟩
  | true =>refine ite_tt (test_last (thn (hc pins s3 σ H3 _ I3 q3) λ w' s4 ⟨z',H4,I4,r4,q4⟩=>thn (ho' pins s4 σ H4 y z' u w' _ I4 r2 r4 q4) λ d' s5 ⟨z2,H5,I5,r5,k2,e2,q5⟩=>?_));subst e2;cases r5;exact wpAny_truthy_bool ⟨H5,I5,q5⟩
theorem line63:(sizeLine:Nat) < 2 ^ 63:=by rw[sizeLine_eq];decide
theorem op_add_str:OpR X (binaryOp .Add) (λ x y H Q=>∃i j,x=.str i∧y=.str j∧i.length+j.length≤sizeLine∧Q (.str (i++j)) H):=by intro pins s σ H x y v u Q I rx ry h;obtain⟨i,j,rfl,rfl,hz,q⟩:=h;obtain⟨t,rfl⟩:=rx;obtain⟨t',rfl⟩:=ry;exact add_str (λ t' tk=>⟨.str (i++j),H,I.tok _,⟨_,rfl⟩,q⟩) hz
theorem vals1{x:V}{us:List Value}(r:Vals [x] us):∃u,us=[u]∧RelV x u:=by
  cases r with
  | cons r1 r2=>cases r2;exact⟨_,rfl,r1⟩
theorem vals2{x y:V}{us:List Value}(r:Vals [x,y] us):∃u w',us=[u,w']∧RelV x u∧RelV y w':=by
  cases r with
  | cons r1 r2 =>
    cases r2 with
    | cons r3 r4=>cases r4;exact⟨_,_,rfl,r1,r3⟩
theorem call_max2(hc:X.calm=true):CallR X (.builtin "max") (λ xs H Q=>∃i j,xs=[.int i,.int j]∧Q (.int (if j > i then j else i)) H):=by
  intro pins s σ H xs us Q I r h;obtain⟨i,j,rfl,q⟩:=h;obtain⟨u,w',rfl,⟨t,rfl⟩,⟨t',rfl⟩⟩:=vals2 r;refine max_two_ints (I.ok.hd hc) λ h' tk k=>⟨_,H,I.kept k,?_,q⟩
  by_cases hj:j > i
  ·rw[if_pos hj,if_pos hj];exact⟨_,rfl⟩
  ·rw[if_neg hj,if_neg hj];exact⟨_,rfl⟩
theorem call_int1:CallR X (.type "int") (λ xs H Q=>(∃i,xs=[.int i]∧Q (.int i) H)∨∃k,xs=[.bl k]∧Q (.int (if k then 1 else 0)) H):=by
  intro pins s σ H xs us Q I r h;rcases h with⟨i,rfl,q⟩ | ⟨k,rfl,q⟩
  · obtain⟨u,rfl,t,rfl⟩:=vals1 r;exact call_int_int ⟨.int i,H,I,⟨_,rfl⟩,q⟩
  · obtain⟨u,rfl,r1⟩:=vals1 r;cases r1;exact call_int_bool ⟨.int (if k then 1 else 0),H,I.tok _,⟨_,rfl⟩,q⟩
def LenV(K:PySem.W.Frag)(x:V)(H:Hp)(n:Nat):Prop :=
  match x with
  | .str y=>y.length≤sizeLine∧n=y.length
  | .byt y=>y.size≤sizeLine∧n=y.size
  | .ref p=>(∃xs,SqL K H p xs∧n=xs.length)∨∃xs,SqT K H p xs∧n=xs.length
  | _=>False
theorem call_len:CallR X (.builtin "len") (λ xs H Q=>∃x n,xs=[x]∧LenV X.K x H n∧Q (.int n) H):=by
  intro pins s σ H xs us Q I r h;obtain⟨x,n,rfl,e,q⟩:=h;obtain⟨u,rfl,rx⟩:=vals1 r;have hl:=line63;have hs:sizeLine=16777216:=sizeLine_eq;cases x with
  | str y =>obtain⟨t,rfl⟩:=rx;obtain⟨hy,e'⟩:y.length≤sizeLine∧n=y.length:=e;subst e';exact len_str (by lia) ⟨.int _,H,I.tok _,⟨_,rfl⟩,q⟩
  | byt y =>obtain⟨t,rfl⟩:=rx;obtain⟨hy,e'⟩:y.size≤sizeLine∧n=y.size:=e;subst e';exact PySem.W.len_bytes (by lia) ⟨.int _,H,I.tok _,⟨_,rfl⟩,q⟩
  | ref p =>
    cases rx;have e':(∃xs,SqL X.K H p xs∧n=xs.length)∨∃xs,SqT X.K H p xs∧n=xs.length:=e;rcases e' with⟨xs,hx,e'⟩ | ⟨xs,hx,e'⟩
    · subst e';obtain⟨its,r',pl,hz⟩:=I.list hx;have hlen:=r'.length;exact Calls.call_len_list pl.isList (by simp only[List.size_toArray];lia) ⟨.int xs.length,H,I.tok _,⟨_,by simp only[List.size_toArray];rw[hlen]⟩,q⟩
    · subst e';obtain⟨its,r',pl,hz⟩:=I.tuple hx;have hlen:=r'.length;exact len_tuple pl (by simp only[List.size_toArray];lia) ⟨.int xs.length,H,I.tok _,⟨_,by simp only[List.size_toArray];rw[hlen]⟩,q⟩
  | _=>exact(show False from e).elim
end
end L2
namespace L2
open PySem PySem.Spec PyProof.Rows
structure ObjM(h:Heap)(x dx C:Addr)(mA:Str->Option Value):Prop where
  obj:h.get? x=some (PySem.W.instObj C dx)
  ns:h.Ns1 dx mA
  ne:dx≠x
section
variable {prog:Program}{w:World}{A:Around}{E:Value->Shared->Prop}{s:Shared}{K:PySem.W.Frag}{x dx C f:Addr}{mA:Str->Option Value}{name:Str}{v:Value}
end
section
variable {P:Program}{w:World}{H H':Hp}{h h':Heap}{a C dx:Addr}{fs fs':List (Str×V)}
end
structure Cls(K:PySem.W.Frag)(C:Addr):Prop where
  pg:PySem.W.plainGet K C Str.empty=true
  hd:PySem.W.hasDictIn K C=true
  po:PySem.W.plainOver K C=true
  sa:PySem.W.findIn K (.ref C) "__setattr__" = some (some (.builtin "object.__setattr__"))
theorem Cls.get{K:PySem.W.Frag}{C:Addr}(c:Cls K C)(f:Str):PySem.W.plainGet K C f=true:=c.pg
structure Con(K:PySem.W.Frag)(C:Addr)(f:Str)(v:V)(u:Value):Prop where
  at_:PySem.W.findIn K (.ref C) f=some (some u)
  rel:RelV v u
  get:PySem.W.specialIn K u "__get__" = some none
  cp:PySem.W.copiedNames.contains f=false
structure Meth(K:PySem.W.Frag)(C:Addr)(m:Str)(f:Addr):Prop where
  at_:PySem.W.findIn K (.ref C) m=some (some (.ref f))
  fn:PySem.W.isFn K (.ref f)=true
  kp:PySem.W.keepIn K (.ref f)=true
section
variable {X:Cx}{pins:List (Addr×Obj)}{σ:St}{H:Hp}{s:Shared}{a C dx:Addr}{fs:List (Str×V)}{f:Str}{v:V}{A:Around}{E:Value->Shared->Prop}
end
section
variable {X:Cx}{o e value:Expr}{f:Str}{pos pos' tpos:Pos}{ta tv:TE}
end
section
variable {X:Cx}{pins:List (Addr×Obj)}{σ:St}{H:Hp}{s:Shared}{A:Around}{E:Value->Shared->Prop}{Q:Value->Shared->Prop}{c:Value}{b:Bool}
inductive TyOf (K:PySem.W.Frag) (H:Hp):V->Value->Prop where
  | non:TyOf K H .non (.type "NoneType")
  | bl (x:Bool):TyOf K H (.bl x) (.type "bool")
  | int (i:Int):TyOf K H (.int i) (.type "int")
  | str (x:Str):TyOf K H (.str x) (.type "str")
  | flt (x:UInt64):TyOf K H (.flt x) (.type "float")
  | lst {a:Addr}{xs:List V}(e:H a=some (.lst xs)):TyOf K H (.ref a) (.type "list")
  | frz {a:Addr}{o:Obj}{xs:List V}(e:H a=some (.frz o (.lst xs))):TyOf K H (.ref a) (.type "list")
  | tup {a:Addr}{xs:List V}(e:H a=some (.tup xs)):TyOf K H (.ref a) (.type "tuple")
  | dK {a:Addr}{kvs:List (Key×V)}(e:H a=some (.dK kvs)):TyOf K H (.ref a) (.type "dict")
  | dT {a:Addr}{kvs:List (List Key×V)}(e:H a=some (.dT kvs)):TyOf K H (.ref a) (.type "dict")
  | ins {a C dx:Addr}{fs:List (Str×V)}(e:H a=some (.ins C dx fs)) (cl:Cls K C) (ha:PySem.W.findIn K (.ref C) "__class__" = some (some (.builtin "object.__class__")))
      (hn:PySem.W.specialIn K (.builtin "object.__class__") "__get__" = some (some (.builtin "getset_descriptor.__get__"))) (htk:PySem.W.takesIn K (.builtin "object.__class__")=some true)
      (hm:PySem.W.mroIn K C (.type "object")=some true):TyOf K H (.ref a) (.ref C)
end
end L2
namespace L2
open PySem PySem.Spec PyProof.Rows
structure Room(k:Nat)(A:Around):Prop where
  hd:A.handled=none
  dp:A.depth+3*k+5 < recursionLimit
  un:A.units+16*k+200 < cLine
theorem Room.mono{j k:Nat}{A:Around}(r:Room k A)(h:j≤k):Room j A:=⟨r.hd,by have:=r.dp;lia,by have:=r.un;lia⟩
theorem Room.deeper{k:Nat}{A:Around}(r:Room (k+1) A)(env:Env):Room k (A.deeper env) :=
  ⟨r.hd,by have:=r.dp;show A.depth+1+3*k+5 < _;lia,by have:=r.un;show A.units+3+16*k+200 < _;lia⟩
theorem Room.in1{k:Nat}{A:Around}(r:Room (k+1) A):Room k A.in1 :=
  ⟨r.hd,by have:=r.dp;show A.depth+3*k+5 < _;lia,by have:=r.un;show A.units+1+16*k+200 < _;lia⟩
theorem Room.depth{k:Nat}{A:Around}(r:Room k A):A.depth < recursionLimit:=by have:=r.dp;lia
theorem Room.units{k:Nat}{A:Around}(r:Room k A):A.units+64 < cLine:=by have:=r.un;lia
def tNil:TA:=λ _ H Q=>Q [] H
def tCons(ta:TE)(tr:TA):TA:=λ σ H Q=>ta σ H λ x H1=>tr σ H1 λ xs H2=>Q (x :: xs) H2
section
variable {X:Cx}{e:Expr}{es:List Expr}{te:TE}{t:TA}{pos:Pos}
theorem pa_nil:PA X [] tNil:=λ _ _ _ _ H Q I h=>Calls.spliced_nil ⟨[],H,I,.nil,h⟩
theorem pa_cons(ha:PE X e te)(hr:PA X es t)(hs:starEach (e :: es) X.env=(false,eval e X.env) :: starEach es X.env:=by rfl):PA X (e :: es) (tCons te t):=by intro pos pins s σ H Q I h;rw[hs];show wpAny _ _ (spliced ((false,eval e X.env) :: backTo pos (starEach es X.env))) _ _ s;refine Calls.spliced_cons (thn (ha pins s σ H _ I h) λ u s1 ⟨x,H1,I1,r1,q1⟩=>?_);exact thn (hr pos pins s1 σ H1 _ I1 q1) λ us s2 ⟨xs,H2,I2,r2,q2⟩=>⟨x :: xs,H2,I2,.cons r1 r2,q2⟩
def tTup(t:TA):TE:=λ σ H Q=>t σ H λ xs H1=>xs.length≤sizeLine∧∀p,H1 p=none->Q (.ref p) (upd H1 p (.tup xs))
def tLst(t:TA):TE:=λ σ H Q=>t σ H λ xs H1=>xs.length≤sizeLine∧∀p,H1 p=none->Q (.ref p) (upd H1 p (.lst xs))
theorem pe_tup{x1}(h:PA X es t):PE X (.Tuple es x1 pos) (tTup t):=by intro pins s σ H Q I hq;refine wpAny_Tuple_spliced (thn (h pos pins s σ H _ I hq) λ us s1 ⟨xs,H1,I1,r,z,q⟩=>⟨by rw[<-r.length];exact z,?_⟩);have hf:H1 s1.heap.objs.size=none:=I1.hok.fresh (Nat.le_refl _);refine⟨.ref s1.heap.objs.size,upd H1 s1.heap.objs.size (.tup xs),I1.laid (t':=s1.toks) (λ b u e=>Heap.get?_push_of_some _ e) (Nat.le_refl _) ?_,rfl,q _ hf⟩;exact⟨z,us,r,⟨_,Heap.get?_push_size _ rfl,rfl,_,rfl⟩⟩
theorem pe_lst(h:PA X es t):PE X (.List es pos) (tLst t):=by intro pins s σ H Q I hq;refine wpAny_List_spliced (thn (h pos pins s σ H _ I hq) λ us s1 ⟨xs,H1,I1,r,z,q⟩=>⟨by rw[<-r.length];exact z,?_⟩);have hf:H1 s1.heap.objs.size=none:=I1.hok.fresh (Nat.le_refl _);refine⟨.ref s1.heap.objs.size,upd H1 s1.heap.objs.size (.lst xs),I1.laid (t':=s1.toks) (λ b u e=>Heap.get?_push_of_some _ e) (Nat.le_refl _) ?_,rfl,q _ hf⟩;exact⟨z,us,0,r,Heap.get?_push_size _ rfl⟩
end
abbrev Sp:=List V->Hp->VK->XK->Prop
abbrev CXT:=List Env->Hp->Shared->XK->Value->Shared->Prop
structure Env0(P:Program)(w:World)(K:PySem.W.Frag)(mg:Str->Option Value)(base:Heap)(A:Around)(outer:List Env)(s:Shared)(H:Hp):Prop where
  frames:A.frames=some outer
  mod:Mod K mg base
  bs:∀b o,base.get? b=some o->s.heap.get? b=some o∧H b=none
  bsz:base.objs.size≤s.heap.objs.size
  funs:s.heap.FunFrames base outer
  frf:∀b∈frs outer,H b=none
  hok:HOk P w H s.heap
  bare:AllBare s.gens
  tab:TabOk K mg base H
def CE(outer:List Env)(P:Program)(w:World)(H:Hp)(s:Shared)(Q:VK)(u:Value)(s':Shared):Prop :=
  ∃v H',s'.os=s.os∧AllBare s'.gens∧Un (frs outer) [] H H' s.heap s'.heap∧HOk P w H' s'.heap∧RelV v u∧Q v H'
def CR(CX:CXT)(outer:List Env)(P:Program)(w:World)(H:Hp)(s:Shared)(Q:VK)(E:XK)(r:Result)(s':Shared):Prop :=
  match r with
  | .ok (.ret u)=>CE outer P w H s Q u s'
  | .ok _=>False
  | .error e=>CX outer H s E e s'
structure FnOk(P:Program)(w:World)(K:PySem.W.Frag)(mg:Str->Option Value)(base:Heap)(CX:CXT)(k:Nat)(f:Addr)(fd:FuncData)(ps:List Str)(sp:Sp):Prop where
  len:∀vs H Q E,sp vs H Q E->vs.length=ps.length
  run:∀(A:Around)(outer:List Env)(s:Shared)(H:Hp)(args:Args)(us:List Value)(vs:List V)(Q:VK)(E:XK),Room k A->Env0 P w K mg base A outer s H->BindsTo s fd args (ps.zip us)->Vals vs us->sp vs H Q E ->
    codeAny (model P w) A (.call (.ref f) args) (CR CX outer P w H s Q E) s
theorem Env0.in1{P:Program}{w:World}{K:PySem.W.Frag}{mg:Str->Option Value}{base:Heap}{A:Around}{outer:List Env}{s:Shared}{H:Hp}(e:Env0 P w K mg base A outer s H):
    Env0 P w K mg base A.in1 outer s H:=⟨e.frames,e.mod,e.bs,e.bsz,e.funs,e.frf,e.hok,e.bare,e.tab⟩
section
variable {X:Cx}{pins:List (Addr×Obj)}{σ:St}{H:Hp}{s s':Shared}
theorem Inv.env0(I:Inv X pins σ H s):Env0 X.prog X.w X.K X.mg X.base X.A X.stack s H :=
  ⟨I.ok.frames,I.ok.mod,I.bs,Nat.le_trans I.ok.bsz I.sz,I.stack,I.stkFree,I.hok,I.bare,I.tab⟩
theorem Inv.after{Q:VK}{u:Value}(I:Inv X pins σ H s)(h:CE X.stack X.prog X.w H s Q u s'):EP X pins σ Q u s':=by obtain⟨v,H',os,bare,un,hok,r,q⟩:=h;obtain⟨hh,g,d,t,os'⟩:=s';obtain rfl:os'=s.os:=os;exact⟨v,H',I.call (h':=hh) (g':=g) (d':=d) (t':=t) (ch:=[]) un hok bare (λ b z=>absurd z (by simp)),r,q⟩
end
def tCall(sp:Sp)(dvs:List V)(E:XK)(t:TA):TE:=λ σ H Q=>t σ H λ vs H1=>sp (vs++dvs) H1 Q E
def Binds(K:PySem.W.Frag)(fd:FuncData)(ps:List Str)(ds:List Value):Prop :=
  ∀(s:Shared)(us:List Value),K.In s.heap->(us++ds).length=ps.length->BindsTo s fd ⟨us,[]⟩ (ps.zip (us++ds))
theorem Binds.all{K:PySem.W.Frag}{fd:FuncData}{ps:List Str}(h:∀us:List Value,us.length=ps.length->bindArgs fd ⟨us,[]⟩=pure (ps.zip us)):Binds K fd ps []:=λ s us _ hl=>by rw[List.append_nil]at hl ⊢;exact .of_eq (h us hl)
def Passes(CX:CXT)(X:Cx)(E:XK):Prop:=∀(pins:List (Addr×Obj))(σ:St)(H:Hp)(s:Shared)(e:Value)(s':Shared),Inv X pins σ H s->CX X.stack H s E e s'->X.xe e s'
section
variable {X:Cx}{CX:CXT}{k:Nat}{f C:Addr}{fd:FuncData}{ps:List Str}{sp:Sp}{dvs:List V}{ds:List Value}{E:XK}{x m:Str}{p pos apos:Pos}{e o:Expr}{es:List Expr}{ta:TE}{t:TA}
theorem run_fn{pins:List (Addr×Obj)}{σ:St}{H:Hp}{s:Shared}{Q:VK}{us:List Value}{vs:List V}(F:FnOk X.prog X.w X.K X.mg X.base CX k f fd ps sp)(hr:Room k X.A)(hb:Binds X.K fd ps ds)(hd:Vals dvs ds)(hx:Passes CX X E)
    (I:Inv X pins σ H s) (r:Vals vs us) (h:sp (vs++dvs) H Q E):wpAny (model X.prog X.w) X.A (call (.ref f) us) (EP X pins σ Q) X.xe s:=by
  have r2:Vals (vs++dvs) (us++ds):=r.append hd;have hl:(us++ds).length=ps.length:=by rw[<-r2.length];exact F.len _ _ _ _ h
  refine wpAny_call (codeAny_mono (F.run X.A X.stack s H ⟨us,[]⟩ (us++ds) (vs++dvs) Q E hr I.env0 (hb s us I.kIn hl) r2 h) λ r s' hq=>?_);cases r with
  | error e=>exact hx pins σ H s e s' I hq
  | ok fl =>
    cases fl with
    | ret u=>exact I.after hq
    | next=>exact False.elim hq
    | brk=>exact False.elim hq
    | cont=>exact False.elim hq
theorem pe_call(F:FnOk X.prog X.w X.K X.mg X.base CX k f fd ps sp)(hr:Room k X.A)(hg:Gl X x)(hm:X.mg x=some (.ref f))(hk:PySem.W.keepIn X.K (.ref f)=true)(hb:Binds X.K fd ps ds)(hd:Vals dvs ds)(hx:Passes CX X E)
    (ha:PA X (e :: es) t) (hdb:(x==("__debug__" : Str))=false:=by decide) (he:starEach (e :: es) X.env=(false,eval e X.env) :: starEach es X.env:=by rfl) (hpl:(backTo pos (starEach es X.env)).any (·.1)=false:=by rfl) :
    PE X (.Call (.Name x p) (e :: es) [] pos) (tCall sp dvs E t):=by
  intro pins s σ H Q I h;refine wpAny_Call_Name_kw (ld_glob I hg hm ?_ hdb);refine PySem.W.callWith_K (h₀:=X.base) I.ok.mod.kin hk (thn (ha pos pins s σ H _ I h) λ us s1 ⟨vs,H1,I1,r,q⟩=>⟨I1.kIn,?_⟩) he hpl;exact run_fn F hr hb hd hx I1 r q
structure Mk(K:PySem.W.Frag)(C f:Addr):Prop where
  makes:PySem.W.makesIn K C=true
  init:PySem.W.findIn K (.ref C) "__init__" = some (some (.ref f))
  fn:PySem.W.isFn K (.ref f)=true
  kp:PySem.W.keepIn K (.ref C)=true
end
section
variable {X:Cx}{CX:CXT}{k:Nat}{f C:Addr}{fd:FuncData}{ps ks:List Str}{sp:Sp}{E:XK}{x m:Str}{p pos apos kpos:Pos}{e o:Expr}{es:List Expr}{kws:List Keyword}{te ta:TE}{t tk:TA}{nm:Option Str}
structure KBinds(K:PySem.W.Frag)(fd:FuncData)(ps ks:List Str)(g:List Value->List Value->List Value)(gV:List V->List V->List V):Prop where
  to:∀(s:Shared)(us ws:List Value),K.In s.heap->(g us ws).length=ps.length->BindsTo s fd ⟨us,ks.zip ws⟩ (ps.zip (g us ws))
  rel:∀{vs:List V}{us:List Value}{zs:List V}{ws:List Value},Vals vs us->Vals zs ws->Vals (gV vs zs) (g us ws)
variable {g:List Value->List Value->List Value}{gV:List V->List V->List V}
end
structure aA(N P:List Str)(sc:Scope):Prop where
  kind:sc.kind=.function
  co:sc.isCoroutine=false
  gen:sc.isGenerator=false
  nd:N.Nodup
  pre:N.take P.length=P
  par:∀x∈P,sc.names.lookup x=some .local∨sc.names.lookup x=some .cell
  nofree:∀y∈sc.names,y.2≠.free
theorem bindL_out{kindOf:Str->Option NameKind}{x:Str}:∀{binds:List (Str×Value)}{m:Str->Option Value},(∀v,(x,v)∉binds)->bindL kindOf binds m x=m x
  | [],_,_=>rfl
  | (n,v) :: r,m,h=>by
    unfold bindL;rw[bindL_out λ w hw=>h w (List.mem_cons_of_mem _ hw)];split
    · have:x≠n:=by rintro rfl;exact h v List.mem_cons_self
      simp[this]
    ·rfl
theorem bindC_out{kindOf:Str->Option NameKind}{x:Str}:∀{binds:List (Str×Value)}{m:Str->Option Value},(∀v,(x,v)∉binds)->bindC kindOf binds m x=m x
  | [],_,_=>rfl
  | (n,v) :: r,m,h=>by
    unfold bindC;rw[bindC_out λ w hw=>h w (List.mem_cons_of_mem _ hw)];split
    ·rfl
    · have:x≠n:=by rintro rfl;exact h v List.mem_cons_self
      simp[this]
theorem bindL_get{kindOf:Str->Option NameKind}{x:Str}{v:Value}:∀{P:List Str}{vs:List Value}{i:Nat}{m:Str->Option Value},P.Nodup->P[i]?=some x->vs[i]?=some v->kindOf x=some .local ->
    bindL kindOf (P.zip vs) m x=some v
  | [],_,_,_,_,h,_,_=>by simp at h
  | _ :: _,[],_,_,_,_,h,_=>by simp at h
  | p :: P,w :: vs,0,m,nd,h1,h2,hk=>by simp at h1 h2;subst h1;subst h2;show bindL kindOf ((p,w) :: P.zip vs) m p=_;unfold bindL;rw[bindL_out λ v hv=>(List.nodup_cons.mp nd).1 (List.of_mem_zip hv).1,if_pos hk];simp
  | p :: P,w :: vs,i+1,m,nd,h1,h2,hk=>by show bindL kindOf ((p,w) :: P.zip vs) m x=_;unfold bindL;exact bindL_get (i:=i) (List.nodup_cons.mp nd).2 (by simpa using h1) (by simpa using h2) hk
theorem bindC_get{kindOf:Str->Option NameKind}{x:Str}{v:Value}:∀{P:List Str}{vs:List Value}{i:Nat}{m:Str->Option Value},P.Nodup->P[i]?=some x->vs[i]?=some v->kindOf x≠some .local ->
    bindC kindOf (P.zip vs) m x=some v
  | [],_,_,_,_,h,_,_=>by simp at h
  | _ :: _,[],_,_,_,_,h,_=>by simp at h
  | p :: P,w :: vs,0,m,nd,h1,h2,hk=>by simp at h1 h2;subst h1;subst h2;show bindC kindOf ((p,w) :: P.zip vs) m p=_;unfold bindC;rw[bindC_out λ v hv=>(List.nodup_cons.mp nd).1 (List.of_mem_zip hv).1,if_neg hk];simp
  | p :: P,w :: vs,i+1,m,nd,h1,h2,hk=>by show bindC kindOf ((p,w) :: P.zip vs) m x=_;unfold bindC;exact bindC_get (i:=i) (List.nodup_cons.mp nd).2 (by simpa using h1) (by simpa using h2) hk
def start(N:List Str)(vs:List V):St:=vs.map some++List.replicate (N.length-vs.length) none
def cxOf(CX:CXT)(P:Program)(w:World)(K:PySem.W.Frag)(mg:Str->Option Value)(base:Heap)(N:List Str)(qual:Str)(scope:Scope)(f:Addr)(cd:Value)(A:Around)(outer:List Env)(s:Shared)(H:Hp)(E:XK):Cx where
  prog:=P
  w:=w
  K:=K
  mg:=mg
  base:=base
  A:=A.deeper (envOfC qual scope s.heap.objs.size f cd)
  N:=N
  s₀:=s
  H₀:=H
  env:=envOfC qual scope s.heap.objs.size f cd
  outer:=outer
  stack:=envOfC qual scope s.heap.objs.size f cd :: outer
  ex:=[]
  calm:=true
  fn:=λ _=>true
  pn:=[]
  xe:=λ e s'=>wpAny (model P w) (A.deeper (envOfC qual scope s.heap.objs.size f cd)) (leaving (envOfC qual scope s.heap.objs.size f cd) e) (λ _ s''=>CX outer H s E e s'') (λ e' s''=>CX outer H s E e' s'') s'
theorem cell_has{sc:Scope}{n:Nat}{x:Str}(h:sc.names.lookup x=some .cell):∃c,(cellsFrom n sc.names []).lookup x=some c:=by have q:=PySem.W.cellsFrom_some sc.names n [] (.inl h);exact Option.isSome_iff_exists.mp q
theorem inv_start {CX : CXT} {P : Program} {w : World} {K : PySem.W.Frag} {mg : Str -> Option Value} {base : Heap} {N ps : List Str} {qual : Str} {scope : Scope} {f : Addr} {cd : Value} {A : Around} {outer : List Env} {s s1 : Shared} {H : Hp} {E : XK} {us : List Value} {vs : List V}
    (S:aA N ps scope) (hd:A.handled=none) (e0:Env0 P w K mg base A outer s H) (hl:vs.length=ps.length) (r:Vals vs us)
    (x:InCallC s s.heap.objs.size (bindL (envOfC qual scope s.heap.objs.size f cd).kindOf (ps.zip us) λ _=>none) (cellsFrom (s.heap.objs.size+1) scope.names []) (bindC (envOfC qual scope s.heap.objs.size f cd).kindOf (ps.zip us) λ _=>none) s1) :
    Inv (cxOf CX P w K mg base N qual scope f cd A outer s H E) [] (start N vs) H s1:=by
  have hpl:ps.length≤N.length:=by have:=congrArg List.length S.pre;rw[List.length_take]at this;lia
  obtain⟨h1,tk,rfl,hk⟩:=x.done;have noA:∀b:Addr,b∉(cxOf CX P w K mg base N qual scope f cd A outer s H E).ex:=λ b z=>absurd (show b∈([]:List Addr)from z) (by simp);refine⟨⟨e0.mod,S.kind,rfl,rfl,Nat.le_refl _,λ y z c h1 h2=>?_,λ y hy=>?_,λ y c _ h=>?_,λ _=>hd,Around.frames_deeper e0.frames,.inr ⟨rfl,rfl⟩,λ b z=>absurd z (noA b),e0.bs,e0.bsz,λ b _ _=>noA b,λ b z=>absurd z (noA b),e0.funs,e0.frf⟩,
    rfl,e0.bare,Un.kept hk,⟨_,x.toInCall.ns,λ i y v h1 h2 h3=>?_⟩,λ y c h=>⟨_,x.cell y c h⟩,e0.hok.fresh (Nat.le_refl _),λ y c h=>?_,λ p hp=>absurd (show p∈([]:List (Addr×Obj))from hp) (by simp),e0.hok.kept hk,?_,e0.tab⟩
  ·exact name_of_addr x.apart (PySem.mem_of_lookup h1) (PySem.mem_of_lookup h2)
  · have hy:scope.names.lookup y=some .cell∨scope.names.lookup y=some .free:=hy;rcases hy with hy | hy
    ·exact cell_has hy
    ·exact absurd rfl (S.nofree _ (PySem.mem_of_lookup hy))
  ·exact Nat.le_of_lt (x.above y c (PySem.mem_of_lookup h))
  · have hi:i < vs.length:=by
      unfold start at h2;by_cases hi:i < vs.length
      ·exact hi
      · rw[List.getElem?_append_right (by simpa using hi)]at h2;rw[List.getElem?_replicate]at h2;split at h2<;>cases h2
    have ha:vs[i]?=some v:=by
      unfold start at h2;rw[List.getElem?_append_left (by simpa using hi),List.getElem?_map]at h2;cases e:vs[i]? with
      | none=>rw[e]at h2;cases h2
      | some a=>rw[e]at h2;cases h2;rfl
    obtain⟨u,hu,rv⟩:=r.get ha;have hp:ps[i]?=some y:=by rw[<-S.pre,List.getElem?_take_of_lt (by lia)];exact h1
    have ndP:ps.Nodup:=by rw[<-S.pre];exact S.nd.sublist (List.take_sublist _ _)
    refine⟨u,rv,?_⟩;rcases S.par y (List.mem_of_getElem? hp)with k | k
    ·exact .inl ⟨k,bindL_get ndP hp hu k⟩
    · obtain⟨c,e⟩:=cell_has (n:=s.heap.objs.size+1) k;refine .inr ⟨.inl k,c,e,?_⟩;have q:=x.cell y c e;rw[bindC_get ndP hp hu (by show scope.names.lookup y≠_;rw[k];decide)]at q;exact q
  ·exact e0.hok.fresh (Nat.le_of_lt (x.above y c (PySem.mem_of_lookup h)))
  · unfold start;show _=N.length;rw[List.length_append,List.length_map,List.length_replicate];lia
theorem fn_of{CX:CXT}{P:Program}{w:World}{K:PySem.W.Frag}{mg:Str->Option Value}{base:Heap}{k:Nat}{f:Addr}{name qual:Str}{params:Arguments}{body:List Stmt}{scope:Scope}{dV kV doc pm cdv ct oc:Value}{an od:Option Addr}
    {osl:Array (Option Value)}{N ps:List Str}{sp:Sp}(lk:K.lookup f=some ⟨oc,od,.func (PySem.W.fnOf name qual params body scope dV kV doc pm an cdv ct),osl⟩) (hcd:PySem.W.codeIn K cdv qual=true) (S:aA N ps scope)
    (len:∀vs H Q E,sp vs H Q E->vs.length=ps.length)
    (hbody:∀(A:Around)(outer:List Env)(s:Shared)(H:Hp)(vs:List V)(Q:VK)(E:XK),Room k (A.deeper (envOfC qual scope s.heap.objs.size f cdv))->sp vs H Q E ->
      ∃t,PSs (cxOf CX P w K mg base N qual scope f cdv A outer s H E) body t∧t { nx:=λ _ H'=>Q .non H',rt:=Q } (start N vs) H) :
    FnOk P w K mg base CX (k+1) f (PySem.W.fnOf name qual params body scope dV kV doc pm an cdv ct) ps sp:=by
  refine⟨len,λ A outer s H args us vs Q E hr e0 hb r hsp=>?_⟩;have hl:=len _ _ _ _ hsp;have KX:K.In s.heap:=e0.mod.kin.keeps λ b o e=>(e0.bs b o e).1;have lim:s.heap.NoLimit:=e0.mod.nolimit.keeps λ b o e=>(e0.bs b o e).1;have hkind:∀y∈ps.zip us,scope.names.lookup y.1=some .local∨(scope.names.lookup y.1=some .cell∧((cellsFrom (s.heap.objs.size+1) scope.names []).lookup y.1).isSome=true):=λ⟨n,v⟩ hy=>by
    rcases S.par n (List.of_mem_zip hy).1 with q | q
    ·exact .inl q
    ·exact .inr ⟨q,PySem.W.cellsFrom_some _ _ _ (.inl q)⟩
  refine codeAny_call_function hr.depth (KX _ _ lk) rfl S.co S.gen rfl (PySem.W.codeRec_of KX hcd) (hb _ _ _ _ ?_);refine wpAny_newFunctionEnv_cells S.kind hkind λ env he s1 x=>?_;subst he;refine⟨lim.keeps x.toInCall.keep,codeAny_func ?_⟩;obtain⟨t,ht,hq⟩:=hbody A outer s H vs Q E (hr.deeper _) hsp;have I:Inv (cxOf CX P w K mg base N qual scope f cdv A outer s H E) [] (start N vs) H s1:=inv_start S hr.hd e0 hl r x;refine wpAny_mono (ht [] s1 (start N vs) H _ I hq) (λ fl s' hs=>?_) λ e s' hs=>hs;have fin:∀{σ':St}{H':Hp}{v:V}{u:Value},Inv (cxOf CX P w K mg base N qual scope f cdv A outer s H E) [] σ' H' s'->RelV v u->Q v H'->CE outer P w H s Q u s' :=
    λ {σ' H' v u} J rv q=>⟨v,H',J.os,J.bare,J.base,J.hok,rv,q⟩
  cases fl with
  | ret u =>obtain⟨v,σ',H',J,rv,q⟩:=hs;exact fin J rv q
  | next =>obtain⟨σ',H',J,q⟩:=hs;exact fin (v:=V.non) (u:=Value.none) J rfl q
  | brk =>obtain⟨_,_,_,q⟩:=hs;exact False.elim q
  | cont =>obtain⟨_,_,_,q⟩:=hs;exact False.elim q
end L2
namespace L2
open PySem PySem.Spec PyProof.Rows
section
variable {X:Cx}{x:Str}{p pos:Pos}{e:Expr}{es:List Expr}{t:TA}{id T:String}{r:List V->Hp->VK->Prop}
def tCB(r:List V->Hp->VK->Prop)(t:TA):TE:=λ σ H Q=>t σ H λ vs H1=>r vs H1 Q
theorem pe_callB(hc:CallR X (.builtin id) r)(hg:Gl X x)(hm:X.mg x=none)(hv:bootBuiltins x=some (.builtin id))(ha:PA X (e :: es) t)(hn:x ≠ "__name__" := by decide)(hdb:(x==("__debug__" : Str))=false:=by decide)
    (he:starEach (e :: es) X.env=(false,eval e X.env) :: starEach es X.env:=by rfl) (hpl:(backTo pos (starEach es X.env)).any (·.1)=false:=by rfl):PE X (.Call (.Name x p) (e :: es) [] pos) (tCB r t):=by
  intro pins s σ H Q I h;refine wpAny_Call_Name_kw (ld_blt I hg hm hv ?_ hn hdb);exact PyProof.Rows.callWith_builtin1 (thn (ha pos pins s σ H _ I h) λ us s1 ⟨vs,H1,I1,r1,q1⟩=>hc pins s1 σ H1 vs us Q I1 r1 q1) he hpl
theorem pe_callTy(hc:CallR X (.type T) r)(hg:Gl X x)(hm:X.mg x=none)(hv:bootBuiltins x=some (.type T))(ha:PA X (e :: es) t)(hn:x ≠ "__name__" := by decide)(hdb:(x==("__debug__" : Str))=false:=by decide)
    (he:starEach (e :: es) X.env=(false,eval e X.env) :: starEach es X.env:=by rfl) (hpl:(backTo pos (starEach es X.env)).any (·.1)=false:=by rfl):PE X (.Call (.Name x p) (e :: es) [] pos) (tCB r t):=by
  intro pins s σ H Q I h;refine wpAny_Call_Name_kw (ld_blt I hg hm hv ?_ hn hdb);exact PyProof.Rows.callWith_type1 (thn (ha pos pins s σ H _ I h) λ us s1 ⟨vs,H1,I1,r1,q1⟩=>hc pins s1 σ H1 vs us Q I1 r1 q1) he hpl
end
end L2
namespace HT
open PySem PyProof.Rows
section
open PySem.SeqAt
open PySem.AutoSeq1 (wpAny_loadPart')
open PySem.MeetsSeq PySem.MeetsSeq2 PySem.MeetsSeq3
end
section
variable {prog:Program}{w:World}{A:Around}{E:Value->Shared->Prop}{s:Shared}
theorem cat_tup{t b:Addr}{vs ws:List Value}{Q:Value->Shared->Prop}(ht:IsTup s.heap t vs.toArray)(hb:IsTup s.heap b ws.toArray)(hv:vs≠[])
    (h1:ws=[]->Q (.ref t) s) (h2:ws≠[]->Q (.ref s.heap.objs.size) { s with heap:=s.heap.push { cls:=.type "tuple",data:=.seq (vs++ws).toArray } })
    (hsz:vs.length+ws.length≤sizeLine):wpAny (model prog w) A (binaryOp .Add (.ref t) (.ref b)) Q E s:=by
  obtain⟨⟨cls,dd,data,sl⟩,ho,hc,n,hd⟩:=id ht;obtain⟨⟨cls2,dd2,data2,sl2⟩,ho2,hc2,n2,hd2⟩:=id hb;simp only at hc hd hc2 hd2;subst hc hd hc2 hd2;have e:vs.toArray++ws.toArray=(vs++ws).toArray:=by simp
  by_cases hw:ws=[]
  · exact concat_meets ⟨_,ho,rfl⟩ ⟨_,ho2,rfl⟩ noFill_tuple_add seq_tuple_add PySem.F.slot_tuple_add PySem.F.entry_tuple_add (PySem.F.args_tuple_add_2 _ _)
      (tuple_addW1 t b vs.toArray ws.toArray n n2 dd dd2 sl sl2 (by simpa using hv) (by simp[hw])) ⟨ho,ho2,h1 hw⟩
  · refine concat_meets ⟨_,ho,rfl⟩ ⟨_,ho2,rfl⟩ noFill_tuple_add seq_tuple_add PySem.F.slot_tuple_add PySem.F.entry_tuple_add (PySem.F.args_tuple_add_2 _ _)
      (tuple_addW2 t b vs.toArray ws.toArray n n2 dd dd2 sl sl2 (by simpa using hv) (by simpa using hw) (by rw[List.size_toArray,List.size_toArray];exact hsz)) ⟨ho,ho2,?_⟩
    rw[e];exact h2 hw
def sIx(n d:Nat):Option Int->Nat
  | none=>d
  | some v=>if v < 0 then(v+(n:Int)).toNat else min v.toNat n
theorem sIx_le(n d:Nat)(hd:d≤n)(o:Option Int):sIx n d o≤n:=by
  cases o with
  | none=>exact hd
  | some v =>
    show(if v < 0 then(v+(n:Int)).toNat else min v.toNat n)≤n;by_cases hv:v < 0
    ·rw[if_pos hv];lia
    ·rw[if_neg hv];exact Nat.min_le_right _ _
theorem clip_eq(v:Int)(n d:Nat):(if v < 0 then max (v+(n:Int)) 0 else min v (n:Int))=((sIx n d (some v):Nat):Int):=by
  show(if v < 0 then max (v+(n:Int)) 0 else min v (n:Int))=(((if v < 0 then(v+(n:Int)).toNat else min v.toNat n):Nat):Int)
  by_cases hv:v < 0
  ·simp only[if_pos hv];lia
  ·simp only[if_neg hv];lia
theorem adjust_gen(lo hi:Option Int)(n:Nat):Builtin.Slice.sliceAdjust lo hi 1 (n:Int)=(((sIx n 0 lo:Nat):Int),((sIx n n hi:Nat):Int)):=by
  have h1:¬((1:Int) < 0):=by lia
  unfold Builtin.Slice.sliceAdjust;simp only[h1,if_false];refine Prod.ext ?_ ?_
  · cases lo with
    | none=>rfl
    | some v=>exact clip_eq v n 0
  · cases hi with
    | none=>rfl
    | some v=>exact clip_eq v n n
theorem places_gen(i j:Nat):Builtin.Slice.slicePlaces (i:Int) (j:Int) 1=j-i:=by
  unfold Builtin.Slice.slicePlaces;have h1:(1:Int) > 0:=by lia
  simp only[h1,if_true,Int.ediv_one];split<;>lia
theorem slicePart_{v:Value}{o:Option Int}{Q:Option Int->Shared->Prop}(p:IsPart v o)(h:Q o s):wpAny (model prog w) A (Builtin.Slice.slicePartIndex v) Q E s:=by
  cases p with
  | none=>exact slicePart_none h
  | int i t=>exact slicePart_int h
theorem sliceApplied_gen{sl:Addr}{vl vu:Value}{lo hi:Option Int}{n:Nat}{Q:Int×Int×Nat->Shared->Prop}(hs:s.heap.IsSliceOf sl vl vu .none)(pl:IsPart vl lo)(pu:IsPart vu hi)
    (h:Q (((sIx n 0 lo:Nat):Int),1,sIx n n hi-sIx n 0 lo) s):wpAny (model prog w) A (Builtin.Slice.sliceApplied (.ref sl) (pure (n:Int))) Q E s:=by
  obtain⟨os,hos,hcs,hds⟩:=id hs;unfold Builtin.Slice.sliceApplied Builtin.Slice.sliceFields;refine wpAny_bind (wpAny_bind (wpAny_field hos hds (x:=vl) rfl (wpAny_bind (wpAny_field hos hds (x:=vu) rfl (wpAny_bind (wpAny_field hos hds (x:=.none) rfl (wpAny_pure ?_)))))));refine wpAny_bind (slicePart_none ?_);show wpAny _ _ (if((1:Int)==0)=true then _ else _) _ _ s;rw[if_neg (by decide)];refine wpAny_bind (slicePart_ pl (wpAny_bind (slicePart_ pu (wpAny_bind (wpAny_pure ?_)))));show wpAny _ _ (match Builtin.Slice.sliceAdjust lo hi 1 (n:Int)with | (lo,hi)=>pure (lo,(1:Int),Builtin.Slice.slicePlaces lo hi 1)) _ _ s;rw[adjust_gen lo hi n];show wpAny _ _ (pure (((sIx n 0 lo:Nat):Int),(1:Int),Builtin.Slice.slicePlaces ((sIx n 0 lo:Nat):Int) ((sIx n n hi:Nat):Int) 1)) _ _ s;rw[places_gen];exact wpAny_pure h
theorem pick_gen(xs:Array Value)(i k:Nat):((List.range k).filterMap λ(m:Nat)=>xs[((i:Int)+(m:Int)*1).toNat]?).toArray=((xs.toList.drop i).take k).toArray:=by
  have e:(λ(m:Nat)=>xs[((i:Int)+(m:Int)*1).toNat]?)=λ m=>xs[i+m]?:=by
    funext m
    have:((i:Int)+(m:Int)*1).toNat=i+m:=by lia
    rw[this]
  rw[e];have:=pick_run xs i k;rw[List.filterMap_map]at this;have e2:((λ x=>xs[x]?)∘λ x=>i+x)=λ m=>xs[i+m]?:=rfl;rw[e2]at this;rw[this]
theorem getItem_tuple_cut{t sl:Addr}{items:Array Value}{vl vu:Value}{lo hi:Option Int}{Q:Value->Shared->Prop}(ht:IsTup s.heap t items)(hs:s.heap.IsSliceOf sl vl vu .none)(pl:IsPart vl lo)(pu:IsPart vu hi)
    (hw:¬(sIx items.size 0 lo=0∧sIx items.size items.size hi=items.size))
    (h:Q (.ref s.heap.objs.size) { s with heap:=s.heap.push { cls:=.type "tuple",data:=.seq ((items.toList.drop (sIx items.size 0 lo)).take (sIx items.size items.size hi-sIx items.size 0 lo)).toArray } })
    (hsz:items.size≤sizeLine):wpAny (model prog w) A (getItem (.ref t) (.ref sl)) Q E s:=by
  have htake:sizeOk (.seq ((items.toList.drop (sIx items.size 0 lo)).take (sIx items.size items.size hi-sIx items.size 0 lo)).toArray):=by show((items.toList.drop (sIx items.size 0 lo)).take (sIx items.size items.size hi-sIx items.size 0 lo)).toArray.size≤sizeLine;rw[List.size_toArray,List.length_take,List.length_drop,Array.length_toList];lia
  have hj:sIx items.size items.size hi≤items.size:=sIx_le _ _ (Nat.le_refl _) hi;obtain⟨os,hos,hcs,hds⟩:=id hs;have hTs:s.TypeIs (.ref sl) "slice" := ⟨os,hos,hcs⟩
  unfold getItem
  try with_reducible refine wpAny_holding ?_
  first | refine wpAny_bind (wpAny_pure ?_) | skip
  refine wpAny_bind (wpAny_sequenceKey ht.typeIs (by decide) ?_);refine wpAny_bind (wpAny_callSpecial?_slot (name:=Str.ofString "__getitem__") ht.typeIs PyProof.Rows.slot_tuple_getitem
    (wpAny_call_entry PyProof.Rows.slot_tuple_getitem ht.typeIs entry_tuple_getitem ?_ (args_tuple_getitem _ _)))
  show wpAny _ _ (Builtin.Tuple.tupleItemsOf (.ref t) >>= _) _ _ s;refine wpAny_bind (tupleItemsOf_ ht ?_);refine wpAny_bind (wpAny_typeOf hTs ?_);rw[if_pos (by decide)];refine wpAny_bind (sliceApplied_gen hs pl pu ?_);have hno:¬((((sIx items.size 0 lo:Nat):Int)==0&&(1:Int)==1&&(sIx items.size items.size hi-sIx items.size 0 lo)==items.size)=true):=by intro q;rw[Bool.and_eq_true,Bool.and_eq_true]at q;have q1:((sIx items.size 0 lo:Nat):Int)=0:=eq_of_beq q.1.1;have q2:sIx items.size items.size hi-sIx items.size 0 lo=items.size:=eq_of_beq q.2;exact hw ⟨by lia,by lia⟩
  show wpAny _ _ (if(((sIx items.size 0 lo:Nat):Int)==0&&(1:Int)==1&&(sIx items.size items.size hi-sIx items.size 0 lo)==items.size)=true then _ else _) _ _ s;rw[if_neg hno,pick_gen]
  first
    | exact wpAny_bind (m:=Builtin.Tuple.tupleExact _) (wpAny_newObj_type (wpAny_pure ⟨_,rfl,wpAny_pure h⟩) htake)
    | exact wpAny_bind (m:=Builtin.Tuple.tupleExact _) (wpAny_newObj_type (wpAny_bind (wpAny_pure (wpAny_pure ⟨_,rfl,wpAny_pure h⟩))) htake)
    | exact wpAny_bind (wpAny_bind (m:=Builtin.Tuple.tupleExact _) (wpAny_newObj_type (wpAny_pure (wpAny_pure ⟨_,rfl,wpAny_pure h⟩)) htake))
    | exact wpAny_bind (wpAny_bind (m:=Builtin.Tuple.tupleExact _) (wpAny_newObj_type (wpAny_pure ⟨_,rfl,wpAny_pure h⟩) htake))
end
end HT
namespace L2
open PySem PySem.Spec PyProof.Rows
abbrev TO:=St->Hp->(Option Int->Hp->Prop)->Prop
def PO (X:Cx) (e:Option Expr) (t:TO):Prop :=
  ∀ (pins:List (Addr×Obj)) (s:Shared) (σ:St) (H:Hp) (Q:Option Int->Hp->Prop),Inv X pins σ H s->t σ H Q ->
    wpAny (model X.prog X.w) X.A (evalPart e X.env) (λ u s'=>∃o H',Inv X pins σ H' s'∧IsPart u o∧Q o H') X.xe s
def tNoPart:TO:=λ _ H Q=>Q none H
def tPart(t:TE):TO:=λ σ H Q=>t σ H λ x H1=>∃i,x=.int i∧Q (some i) H1
section
variable {X:Cx}{e:Expr}{te:TE}{lo hi:Option Expr}{tl th:TO}{pos p2:Pos}
theorem po_none:PO X none tNoPart:=by intro pins s σ H Q I h;rw[evalPart_none];exact wpAny_pure ⟨none,H,I,.none,h⟩
theorem po_some(h:PE X e te):PO X (some e) (tPart te):=by intro pins s σ H Q I hw;rw[evalPart_some];refine thn (h pins s σ H _ I hw) λ u s1 ⟨x,H1,I1,r1,q1⟩=>?_;obtain⟨i,rfl,q⟩:=q1;obtain⟨t,rfl⟩:=r1;exact⟨some i,H1,I1,.int i t,q⟩
def SlR (X:Cx) (r:V->Option Int->Option Int->Hp->VK->Prop):Prop :=
  ∀ (pins:List (Addr×Obj)) (s:Shared) (σ:St) (H:Hp) (x:V) (v vl vu:Value) (lo hi:Option Int) (sl:Addr) (Q:VK),Inv X pins σ H s->RelV x v->s.heap.IsSliceOf sl vl vu .none->IsPart vl lo->IsPart vu hi->r x lo hi H Q ->
    ∃T id,typeLookup (.type T) "__getitem__" = pure (some (.builtin id))∧s.TypeIs v T∧wpAny (model X.prog X.w) X.A (getItem v (.ref sl)) (EP X pins σ Q) X.xe s
theorem SlR.or{r r':V->Option Int->Option Int->Hp->VK->Prop}(h:SlR X r)(h':SlR X r'):SlR X (λ x lo hi H Q=>r x lo hi H Q∨r' x lo hi H Q):=by
  intro pins s σ H x v vl vu lo hi sl Q I rx hs pl pu q;rcases q with q | q
  ·exact h pins s σ H x v vl vu lo hi sl Q I rx hs pl pu q
  ·exact h' pins s σ H x v vl vu lo hi sl Q I rx hs pl pu q
def tSl(r:V->Option Int->Option Int->Hp->VK->Prop)(te:TE)(tl th:TO):TE:=λ σ H Q=>te σ H λ x H1=>tl σ H1 λ l H2=>th σ H2 λ u H3=>r x l u H3 Q
theorem pe_slice{r:V->Option Int->Option Int->Hp->VK->Prop}(hr:SlR X r)(he:PE X e te)(hl:PO X lo tl)(hu:PO X hi th):PE X (.Subscript e (.Slice lo hi none p2) pos) (tSl r te tl th):=by intro pins s σ H Q I h;refine Subscript_ (thn (he pins s σ H _ I h) λ v s1 ⟨x,H1,I1,r1,q1⟩=>?_);refine wpAny_Slice (thn (hl pins s1 σ H1 _ I1 q1) λ vl s2 ⟨l,H2,I2,pl,q2⟩=>thn (hu pins s2 σ H2 _ I2 q2) λ vu s3 ⟨u,H3,I3,pu,q3⟩=>?_);rw[evalPart_none];refine wpAny_pure ?_;have I4:Inv X pins σ H3 { s3 with heap:=s3.heap.push { cls:=.type "slice",data:=.fields #[vl,vu,.none] } }:=I3.kept (t':=s3.toks) λ b ob q=>Heap.get?_push_of_some _ q;obtain⟨T,id,hT,ht,hg⟩:=hr pins { s3 with heap:=s3.heap.push { cls:=.type "slice",data:=.fields #[vl,vu,.none] } } σ H3 x v vl vu l u s3.heap.objs.size Q I4 r1 (Heap.IsSliceOf.new ..) pl pu q3;show wpAny (model X.prog X.w) X.A (subscriptTail e (.Slice lo hi none p2) v (.ref s3.heap.objs.size)) (EP X pins σ Q) X.xe { s3 with heap:=s3.heap.push { cls:=.type "slice",data:=.fields #[vl,vu,.none] } };exact tail_any (ops:=[.ref s3.heap.objs.size,v]) ht hT hg (by with_unfolding_all rfl)
def cutV(xs:List V)(lo hi:Option Int):List V:=(xs.drop (HT.sIx xs.length 0 lo)).take (HT.sIx xs.length xs.length hi-HT.sIx xs.length 0 lo)
theorem cutV_length(xs:List V)(lo hi:Option Int):(cutV xs lo hi).length≤xs.length:=by unfold cutV;rw[List.length_take,List.length_drop];lia
def rSlT(K:PySem.W.Frag):V->Option Int->Option Int->Hp->VK->Prop:=λ x lo hi H Q=>∃a xs,x=.ref a∧SqT K H a xs ∧
  ¬(HT.sIx xs.length 0 lo=0∧HT.sIx xs.length xs.length hi=xs.length)∧∀p,H p=none->Q (.ref p) (upd H p (.tup (cutV xs lo hi)))
theorem sl_tup:SlR X (rSlT X.K):=by
  intro pins s σ H x v vl vu lo hi sl Q I rx hs pl pu h;obtain⟨a,xs,rfl,hx,hw,q⟩:=h;cases rx;obtain⟨its,r,ht,hz⟩:=I.tuple hx;have hlen:its.toArray.size=xs.length:=by rw[List.size_toArray];exact r.length.symm
  refine⟨"tuple",_,PyProof.Rows.slot_tuple_getitem.lookup,ht.typeIs,?_⟩;refine HT.getItem_tuple_cut ht hs pl pu (by rw[hlen];exact hw) ?_ (by rw[hlen];exact hz);rw[hlen];refine⟨.ref s.heap.objs.size,_,I.laid (t':=s.toks) (o:=.tup (cutV xs lo hi)) (λ b ob q=>Heap.get?_push_of_some _ q) (Nat.le_refl _) ?_,rfl,q _ (I.hok.fresh (Nat.le_refl _))⟩;exact⟨Nat.le_trans (cutV_length xs lo hi) hz,_,(r.drop (HT.sIx xs.length 0 lo)).take (HT.sIx xs.length xs.length hi-HT.sIx xs.length 0 lo),IsTup.new _ _⟩
def rCatT(K:PySem.W.Frag):R2:=λ x y H Q=>∃a b xs ys,x=.ref a∧y=.ref b∧SqT K H a xs∧SqT K H b ys∧xs≠[]∧xs.length+ys.length≤sizeLine ∧
  (ys=[]->Q (.ref a) H)∧(ys≠[]->∀p,H p=none->Q (.ref p) (upd H p (.tup (xs++ys))))
theorem Vals.nil_iff{xs:List V}{us:List Value}(r:Vals xs us):us=[]↔xs=[]:=by
  cases r with
  | nil=>simp
  | cons _ _=>simp
theorem op_catT:OpR X (binaryOp .Add) (rCatT X.K):=by intro pins s σ H x y v u Q I rx ry h;obtain⟨a,b,xs,ys,rfl,rfl,ha,hb,hx,hz,q1,q2⟩:=h;cases rx;cases ry;obtain⟨its,r1,p1,_⟩:=I.tuple ha;obtain⟨its2,r2,p2,_⟩:=I.tuple hb;refine HT.cat_tup p1 p2 (λ z=>hx (r1.nil_iff.mp z)) (λ z=>⟨.ref a,H,I,rfl,q1 (r2.nil_iff.mp z)⟩) (λ z=>?_) (by rw[<-r1.length,<-r2.length];exact hz);refine⟨.ref s.heap.objs.size,_,I.laid (t':=s.toks) (o:=.tup (xs++ys)) (λ b ob q=>Heap.get?_push_of_some _ q) (Nat.le_refl _) ?_,rfl,q2 (λ w=>z (r2.nil_iff.mpr w)) _ (I.hok.fresh (Nat.le_refl _))⟩;exact⟨by rw[List.length_append];exact hz,_,r1.append r2,IsTup.new _ _⟩
end
end L2
namespace L2
open PySem PySem.Spec PyProof.Rows
def ixN(n:Nat)(i:Int):Option Nat:=if 0≤i then(if i < n then some i.toNat else none)else if -(n:Int)≤i then some (i+n).toNat else none
def atI{α:Type}(xs:List α)(i:Int):Option α:=(ixN xs.length i).bind λ j=>xs[j]?
theorem ixN_seq{n:Nat}{i:Int}{j:Nat}(h:ixN n i=some j):seqIndex? i n=some j∧j < n∧-(n:Int)≤i∧i < n:=by
  unfold ixN at h;by_cases h0:0≤i
  · rw[if_pos h0]at h;by_cases h1:i < n
    · rw[if_pos h1]at h;have e:i.toNat=j:=Option.some.inj h;exact⟨by rw[seqIndex_of h0 h1,e],by lia,by lia,h1⟩
    ·rw[if_neg h1]at h;cases h
  · rw[if_neg h0]at h;by_cases h1:-(n:Int)≤i
    · rw[if_pos h1]at h;have e:(i+n).toNat=j:=Option.some.inj h;exact⟨by rw[seqIndex_neg (by lia) h1,e],by lia,h1,by lia⟩
    ·rw[if_neg h1]at h;cases h
theorem atI_get{α:Type}{xs:List α}{i:Int}{v:α}(h:atI xs i=some v):∃j,seqIndex? i xs.length=some j∧xs[j]?=some v∧j < xs.length∧-(xs.length:Int)≤i∧i < xs.length:=by
  unfold atI at h;cases e:ixN xs.length i with
  | none=>rw[e]at h;cases h
  | some j =>rw[e]at h;obtain⟨h1,h2,h3,h4⟩:=ixN_seq e;exact⟨j,h1,h,h2,h3,h4⟩
def PlainIx(b:Expr):Prop:=∀o i,subscripted b false o i=operate [o,i] (getItem o i)
def IxR (X:Cx) (r:R2):Prop :=
  ∀ (value slice:Expr) (pins:List (Addr×Obj)) (s:Shared) (σ:St) (H:Hp) (x y:V) (v u:Value) (Q:VK),Inv X pins σ H s->RelV x v->RelV y u->r x y H Q ->
    subscripted slice false v u=operate [v,u] (getItem v u)->wpAny (model X.prog X.w) X.A (subscriptTail value slice v u) (EP X pins σ Q) X.xe s
def MtR (X:Cx) (id:String) (r:V->List V->Hp->VK->Prop):Prop :=
  ∀ (pins:List (Addr×Obj)) (s:Shared) (σ:St) (H:Hp) (x:V) (xs:List V) (v:Value) (us:List Value) (Q:VK),Inv X pins σ H s->RelV x v->Vals xs us->r x xs H Q ->
    wpAny (model X.prog X.w) X.A (call (.builtin id) (v :: us)) (EP X pins σ Q) X.xe s
section
variable {X:Cx}{a b:Expr}{ta tb:TE}{pos:Pos}
theorem IxR.or{r r':R2}(h:IxR X r)(h':IxR X r'):IxR X (λ x y H Q=>r x y H Q∨r' x y H Q):=by
  intro value slice pins s σ H x y v u Q I rx ry q hs;rcases q with q | q
  ·exact h value slice pins s σ H x y v u Q I rx ry q hs
  ·exact h' value slice pins s σ H x y v u Q I rx ry q hs
theorem MtR.or{id:String}{r r':V->List V->Hp->VK->Prop}(h:MtR X id r)(h':MtR X id r'):MtR X id (λ x xs H Q=>r x xs H Q∨r' x xs H Q):=by
  intro pins s σ H x xs v us Q I rx rs q;rcases q with q | q
  ·exact h pins s σ H x xs v us Q I rx rs q
  ·exact h' pins s σ H x xs v us Q I rx rs q
theorem pe_ix{r:R2}(hr:IxR X r)(ha:PE X a ta)(hb:PE X b tb)(hs:PlainIx b):PE X (.Subscript a b pos) (tOp r ta tb):=by intro pins s σ H Q I h;exact Subscript_ (binT ha hb I h λ v u s2 x y H2 I2 rx ry q=>hr a b pins s2 σ H2 x y v u Q I2 rx ry q (hs _ _))
def rIxL(K:PySem.W.Frag):R2:=λ x y H Q=>∃p xs i v,x=.ref p∧y=.int i∧SqL K H p xs∧atI xs i=some v∧Q v H
def rIxT(K:PySem.W.Frag):R2:=λ x y H Q=>∃p xs i v,x=.ref p∧y=.int i∧SqT K H p xs∧atI xs i=some v∧Q v H
def rIxS:R2:=λ x y H Q=>∃z i c,x=.str z∧y=.int i∧z.length≤sizeLine∧atI z.cps.toList i=some c∧Q (.str ⟨#[c]⟩) H
theorem ix_list:IxR X (rIxL X.K):=by
  intro value slice pins s σ H x y v u Q I rx ry h hs;obtain⟨p,xs,i,z,rfl,rfl,hq,he,q⟩:=h;cases rx;obtain⟨t,rfl⟩:=ry;obtain⟨its,r,pl,hz⟩:=I.list hq;obtain⟨j,h1,h2,h3,h4,h5⟩:=atI_get he;obtain⟨w,ew,rw'⟩:=r.get h2;have hl:=r.length;have hn:=line63;have fin:EP X pins σ Q w s:=⟨z,H,I,rw',q⟩
  by_cases h0:0≤i
  · have hj:i.toNat=j:=by rw[seqIndex_of h0 h5]at h1;exact Option.some.inj h1
    exact item_listR pl.isList h0 (by lia) (by rw[hj];simpa using ew) fin hs
  · have hj:(i+(its.toArray.size:Int)).toNat=j:=by rw[seqIndex_neg (by lia) h4]at h1;rw[List.size_toArray,<-hl];exact Option.some.inj h1
    exact subscriptTail_builtinR (x:=w) pl.isList.typeIs slot_list_getitem.lookup
      (wpAny_getItem_list_neg (Q:=λ r s'=>r=w∧EP X pins σ Q r s') pl.isList (by lia) (by rw[List.size_toArray]<;>lia) (by lia) (by rw[hj];simpa using ew) ⟨rfl,fin⟩) hs
theorem ix_tup:IxR X (rIxT X.K):=by
  intro value slice pins s σ H x y v u Q I rx ry h hs;obtain⟨p,xs,i,z,rfl,rfl,hq,he,q⟩:=h;cases rx;obtain⟨t,rfl⟩:=ry;obtain⟨its,r,pl,hz⟩:=I.tuple hq;obtain⟨j,h1,h2,h3,h4,h5⟩:=atI_get he;obtain⟨w,ew,rw'⟩:=r.get h2;have hl:=r.length;have hn:=line63;have fin:EP X pins σ Q w s:=⟨z,H,I,rw',q⟩
  exact subscriptTail_builtinR (x:=w) pl.typeIs slot_tuple_getitem.lookup
    (getItem_tuple (j:=j) (Q:=λ r s'=>r=w∧EP X pins σ Q r s') pl (by lia) (by lia) (by rw[List.size_toArray,<-hl];exact h1) (by simpa using ew) ⟨rfl,fin⟩) hs
theorem ix_str:IxR X rIxS:=by
  intro value slice pins s σ H x y v u Q I rx ry h hs;obtain⟨z,i,c,rfl,rfl,hz,he,q⟩:=h;obtain⟨t,rfl⟩:=rx;obtain⟨t',rfl⟩:=ry;obtain⟨j,h1,h2,h3,h4,h5⟩:=atI_get he;have hl:z.cps.toList.length=z.length:=by simp[Str.length]
  rw[hl]at h1 h4 h5;have hn:=line63;exact tail_any (typeIs_str s z t) slot_str_getitem.lookup (getItem_str (c:=c) (by have e1:decide (i < -(2 ^ 63:Int))=false:=decide_eq_false (by lia);have e2:decide (i≥2 ^ 63)=false:=decide_eq_false (by lia);rw[e1,e2,Bool.or_false]) (by rw[h1];simpa using h2) ⟨.str ⟨#[c]⟩,H,I.tok _,⟨_,rfl⟩,q⟩) hs
def rIx(K:PySem.W.Frag):R2:=λ x y H Q=>rIxL K x y H Q∨rIxT K x y H Q∨rIxS x y H Q
theorem ix_seq:IxR X (rIx X.K):=ix_list.or (ix_tup.or ix_str)
theorem slice_bounds(lo hi:Option Int)(n:Nat):(sliceBounds lo hi none n).1=((HT.sIx n 0 lo:Nat):Int)∧(sliceBounds lo hi none n).2.1=((HT.sIx n n hi:Nat):Int)∧(sliceBounds lo hi none n).2.2=1:=by
  refine⟨?_,?_,rfl⟩
  · cases lo with
    | none=>simp[sliceBounds,HT.sIx]
    | some i =>
      simp only[sliceBounds,HT.sIx,Option.getD_none,show(1:Int) > 0 by decide,if_true];by_cases h:i < 0
      ·simp only[h,if_true]<;>lia
      ·simp only[h,if_false]<;>lia
  · cases hi with
    | none=>simp[sliceBounds,HT.sIx]
    | some i =>
      simp only[sliceBounds,HT.sIx,Option.getD_none,show(1:Int) > 0 by decide,if_true];by_cases h:i < 0
      ·simp only[h,if_true]<;>lia
      ·simp only[h,if_false]<;>lia
theorem slicePick_cut(its:List Value)(lo hi:Option Int):slicePick its.toArray lo hi none=((its.drop (HT.sIx its.length 0 lo)).take (HT.sIx its.length its.length hi-HT.sIx its.length 0 lo)).toArray:=by obtain⟨h1,h2,h3⟩:=slice_bounds lo hi its.toArray.size;unfold slicePick;rw[h1,h2,h3];simp only[sliceRange_one,pick_run,List.size_toArray]<;>rfl
def rSlL(K:PySem.W.Frag):V->Option Int->Option Int->Hp->VK->Prop:=λ x lo hi H Q=>∃a xs,x=.ref a∧SqL K H a xs∧∀p,H p=none->Q (.ref p) (upd H p (.lst (cutV xs lo hi)))
theorem sl_list:SlR X (rSlL X.K):=by intro pins s σ H x v vl vu lo hi sl Q I rx hs pl pu h;obtain⟨a,xs,rfl,hx,q⟩:=h;cases rx;obtain⟨its,r,ht,hz⟩:=I.list hx;have hlen:=r.length;refine⟨"list",_,slot_list_getitem.lookup,ht.isList.typeIs,?_⟩;refine wpAny_getItem_list_slice ht.isList hs pl pu .none (by simp) ?_ (by rw[List.size_toArray]<;>lia);rw[slicePick_cut,<-hlen];refine⟨.ref s.heap.objs.size,_,I.laid (t':=s.toks) (o:=.lst (cutV xs lo hi)) (λ b ob q=>Heap.get?_push_of_some _ q) (Nat.le_refl _) ?_,rfl,q _ (I.hok.fresh (Nat.le_refl _))⟩;exact⟨Nat.le_trans (cutV_length xs lo hi) hz,_,0,(r.drop (HT.sIx xs.length 0 lo)).take (HT.sIx xs.length xs.length hi-HT.sIx xs.length 0 lo),Heap.get?_push_size _ rfl⟩
theorem CallR.or{f:Value}{r r':List V->Hp->VK->Prop}(h:CallR X f r)(h':CallR X f r'):CallR X f (λ xs H Q=>r xs H Q∨r' xs H Q):=by
  intro pins s σ H xs us Q I rs q;rcases q with q | q
  ·exact h pins s σ H xs us Q I rs q
  ·exact h' pins s σ H xs us Q I rs q
theorem call_tuple_of:CallR X (.type "tuple") (λ xs H Q=>∃p ys,xs=[.ref p]∧((SqL X.K H p ys∧∀l,H l=none->Q (.ref l) (upd H l (.tup ys)))∨(SqT X.K H p ys∧Q (.ref p) H))):=by
  intro pins s σ H xs us Q I r h;obtain⟨p,ys,rfl,h⟩:=h;obtain⟨u,rfl,rx⟩:=vals1 r;cases rx;rcases h with⟨hq,q⟩ | ⟨hq,q⟩
  · obtain⟨its,r',pl,hz⟩:=I.list hq;have hlen:=r'.length;refine call_tuple_list pl.isList (λ h' kp=>?_) (by simp only[List.size_toArray]<;>lia);have I1:Inv X pins σ H { s with heap:=h' }:=I.kept (t':=s.toks) kp;have I2:Inv X pins σ (upd H h'.objs.size (.tup ys)) { s with heap:=h'.push { cls:=.type "tuple",data:=.seq its.toArray } } :=
      I1.laid (t':=s.toks) (λ b o e=>Heap.get?_push_of_some _ e) (Nat.le_refl _) (show ObjOk X.prog X.w _ _ _ (.tup ys)from⟨hz,its,r',IsTup.new _ _⟩)
    exact⟨.ref h'.objs.size,_,I2,rfl,q _ (I1.hok.fresh (Nat.le_refl _))⟩
  · obtain⟨its,r',pl,hz⟩:=I.tuple hq;exact call_tuple_same pl ⟨.ref p,H,I,rfl,q⟩
def tyV(K:PySem.W.Frag)(T:String)(x:V)(H:Hp):Prop:=match x with
  | .str _=>T = "str"
  | .int _=>T = "int"
  | .ref p=>(T = "list" ∧ ∃xs,SqL K H p xs)∨(T = "tuple" ∧ ∃o,K.lookup p=some o∧o.cls=.type "tuple" ∧ o.dict=none) ∨
      (T = "dict" ∧ ((∃kvs,H p=some (.dK kvs))∨∃kvs,H p=some (.dT kvs)))∨(T = "set" ∧ ∃S n,H p=some (.set S n))
  | _=>False
theorem tyV_is {pins : List (Addr × Obj)} {σ : St} {H : Hp} {s : Shared} {T : String} {x : V} {v : Value} (I : Inv X pins σ H s) (r : RelV x v) (ty : tyV X.K T x H) :
    s.TypeIs v T∧∀a,v=.ref a->∃ob,s.heap.get? a=some ob∧ob.dict=none:=by
  cases x with
  | str z =>obtain⟨t,rfl⟩:=r;cases (show T = "str" from ty);exact⟨typeIs_str s z t,λ _ e=>nomatch e⟩
  | int i =>obtain⟨t,rfl⟩:=r;cases (show T = "int" from ty);exact⟨typeIs_int s i t,λ _ e=>nomatch e⟩
  | ref p =>
    cases r;rcases ty with⟨rfl,xs,hq⟩ | ⟨rfl,o,hk,hc,hd⟩ | ⟨rfl,hk⟩ | ⟨rfl,S,n,hk⟩
    · obtain⟨its,_,pl,_⟩:=I.list hq;refine⟨pl.isList.typeIs,λ a e=>?_⟩;cases e;obtain⟨o,n,e,c,hd,_⟩:=pl;exact⟨o,e,hd⟩
    · refine⟨⟨o,I.kIn p o hk,hc⟩,λ a e=>?_⟩;cases e;exact⟨o,I.kIn _ o hk,hd⟩
    · have z:∃o,s.heap.get? p=some o∧o.ExactDict:=by
        rcases hk with⟨kvs,hk⟩ | ⟨kvs,hk⟩
        · obtain⟨_,_,_,_,o,_,_,e,ex,_⟩:=I.hok p _ hk;exact⟨o,e,ex⟩
        · obtain⟨_,_,_,_,o,_,_,e,ex,_⟩:=I.hok p _ hk;exact⟨o,e,ex⟩
      obtain⟨o,e,ex⟩:=z;refine⟨⟨o,e,ex.1⟩,λ a e2=>?_⟩;cases e2;exact⟨o,e,ex.2.1⟩
    · obtain⟨o,_,_,_,e,ex,_⟩:=I.hok p _ hk;refine⟨⟨o,e,ex.1⟩,λ a e2=>?_⟩;cases e2;exact⟨o,e,ex.2.1⟩
  | _=>exact False.elim ty
def tBM(K:PySem.W.Frag)(T:String)(r:V->List V->Hp->VK->Prop)(to:TE)(t:TA):TE:=λ σ H Q=>to σ H λ x H1=>tyV K T x H1∧t σ H1 λ xs H2=>r x xs H2 Q
variable {o e:Expr}{es:List Expr}{to:TE}{t:TA}{name:Str}{apos cpos:Pos}{T id:String}{r:V->List V->Hp->VK->Prop}
theorem pe_bm(pa:PlainAttrs T)(slot:Slot T name id)(hty:typeOf (.builtin id)=pure (.type "method_descriptor"))(hm:MtR X id r)(ho:PE X o to)(ha:PA X (e :: es) t)
    (hbase:attributeBase o name X.env (eval o X.env)=eval o X.env:=by rfl)
    (hfew:((backTo cpos (starEach (e :: es) X.env)).all (λ x=>!x.1)&&(backToKw cpos (keywordEach [] X.env)).all (λ x=>x.1.isSome)
      && decide ((e :: es).length+([]:List Keyword).length+(if([]:List Keyword).isEmpty then 0 else 1) < 30))=true:=by rfl)
    (hline:(apos.endLine==cpos.line)=true:=by rfl) (hs:starEach (e :: es) X.env=(false,eval e X.env) :: starEach es X.env:=by rfl) (hplain:(backTo cpos (starEach es X.env)).any (·.1)=false:=by rfl) :
    PE X (.Call (.Attribute o name apos) (e :: es) [] cpos) (tBM X.K T r to t):=by
  intro pins s σ H Q I h;refine wpAny_Call_method_late hbase hfew hline rfl (thn (ho pins s σ H _ I h) λ v s1 ⟨x,H1,I1,r1,ty,q1⟩=>?_);obtain⟨h1,h2⟩:=tyV_is I1 r1 ty;refine⟨T,id,pa,slot,hty,h1,h2,?_⟩;have hA:=ha cpos pins s1 σ H1 _ I1 q1;rw[hs]at hA ⊢;refine Calls.callWith_builtin (by show(false || (backTo cpos (starEach es X.env)).any (·.1))=false;rw[hplain]<;>rfl) (Calls.evalArgs_plain ?_);exact thn hA λ us s2 ⟨vs,H2,I2,r2,q2⟩=>hm pins s2 σ H2 x vs v us Q I2 r1 r2 q2
/- xs.append(e),list.index on a module's tuple .. are MtR facts of 06m -/
end
end L2
namespace L2
open PySem PySem.Spec PyProof.Rows
def MtM (X:Cx) (id:String) (r:V->List V->Hp->VK->Prop):Prop :=
  ∀ (pins:List (Addr×Obj)) (s:Shared) (σ:St) (H:Hp) (x:V) (xs:List V) (v:Value) (us:List Value) (Q:VK),Inv X pins σ H s->RelV x v->Vals xs us->r x xs H Q ->
    wpAny (model X.prog X.w) X.A (call (.builtin id) (v :: us)) (EP X pins σ Q) X.xe s
theorem Vals.one:∀{x:V}{us:List Value},Vals [x] us->∃u,us=[u]∧RelV x u
  | _,_,.cons r .nil=>⟨_,rfl,r⟩
theorem Vals.zero:∀{us:List Value},Vals [] us->us=[]
  | _,.nil=>rfl
theorem Vals.reverse{xs:List V}{us:List Value}(h:Vals xs us):Vals xs.reverse us.reverse:=by
  induction h with
  | nil=>exact .nil
  | cons r t ih=>rw[List.reverse_cons,List.reverse_cons];exact Vals.append ih (.cons r .nil)
theorem Vals.rep{xs:List V}{us:List Value}(h:Vals xs us):∀k:Nat,Vals (List.replicate k xs).flatten (List.replicate k us).flatten
  | 0=>.nil
  | k+1=>by rw[List.replicate_succ,List.replicate_succ,List.flatten_cons,List.flatten_cons];exact Vals.append h (Vals.rep h k)
theorem foldl_rep(its:List Value):∀(k:Nat)(acc:List Value),
    List.foldl (λ x1 x2=>x1++x2) acc.toArray (List.replicate k its.toArray)=(acc++(List.replicate k its).flatten).toArray
  | 0,acc=>by simp
  | k+1,acc=>by
    have e:acc.toArray++its.toArray=(acc++its).toArray:=by simp
    have e2:(acc++its)++(List.replicate k its).flatten=acc++(List.replicate (k+1) its).flatten:=by rw[List.replicate_succ,List.flatten_cons,List.append_assoc]
    rw[<-e2,<-foldl_rep its k (acc++its),<-e,List.replicate_succ,List.foldl_cons]
section
variable {X:Cx}{pins:List (Addr×Obj)}{σ:St}{H:Hp}{s:Shared}{l b:Addr}{xs ys zs:List V}
theorem Inv.lset{its its':List Value}{n:Nat}{f:Array Value->Array Value}{t':Nat}(I:Inv X pins σ H s)(hH:H l=some (.lst xs))
    (e:s.heap.get? l=some { cls:=.type "list",data:=.seq its.toArray n }) (hf:f its.toArray=its'.toArray) (hv:Vals ys its') (hz:ys.length≤sizeLine) :
    Inv X pins σ (upd H l (.lst ys)) { s with heap:=s.heap.update l (Obj.mapSeq f),toks:=t' }:=by
  have q:=PySem.IsL.update e f;rw[hf]at q;refine I.write (x:=l) (e:=l) (by rw[hH];exact trivial) (.inl rfl) (λ b' u hb hu=>(Heap.get?_update_other s.heap (Obj.mapSeq f) (Ne.symm hb)).trans hu) ⟨_,q⟩ ?_;exact⟨hz,its',_,hv,q⟩
theorem Inv.lnew{its:List Value}{t':Nat}(I:Inv X pins σ H s)(hv:Vals ys its)(hz:ys.length≤sizeLine):
    Inv X pins σ (upd H s.heap.objs.size (.lst ys)) { s with heap:=s.heap.push { cls:=.type "list",data:=.seq its.toArray },toks:=t' } :=
  I.laid (λ _ _ q=>Heap.get?_push_of_some _ q) (Nat.le_refl _) ⟨hz,its,0,hv,Heap.get?_push_size _ rfl⟩
theorem Inv.fresh(I:Inv X pins σ H s):H s.heap.objs.size=none:=I.hok.fresh (Nat.le_refl _)
theorem Inv.lstM(I:Inv X pins σ H s)(hH:H l=some (.lst xs)):xs.length≤sizeLine∧∃(its:List Value) (n:Nat),Vals xs its∧xs.length=its.length∧s.heap.get? l=some { cls:=.type "list",data:=.seq its.toArray n }:=by obtain⟨z,its,n,r,e⟩:=I.hok l _ hH;exact⟨z,its,n,r,r.length,e⟩
theorem notLongL{n:Nat}(h:n≤sizeLine):Builtin.List.listTooLong n=false:=by unfold Builtin.List.listTooLong;exact decide_eq_false (by lia)
end
section
variable {X:Cx}
def rAppend:V->List V->Hp->VK->Prop:=λ x vs H Q=>∃l xs y,x=.ref l∧vs=[y]∧H l=some (.lst xs)∧xs.length < sizeLine∧Q .non (upd H l (.lst (xs++[y])))
theorem mt_append:MtM X "list.append" rAppend:=by intro pins s σ H x vs v us Q I rx rv h;obtain⟨l,xs,y,rfl,rfl,hH,hz,q⟩:=h;cases rx;obtain⟨u,rfl,ru⟩:=rv.one;obtain⟨z,its,n,r,hl,e⟩:=I.lstM hH;refine call_meets F.slot_list_append ⟨_,e,rfl⟩ F.entry_list_append (F.args_list_append_2 _ _) (PySem.list_append l its.toArray n u (by rw[List.size_toArray];lia)) ⟨e,?_⟩;refine⟨.non,_,I.lset (its':=its++[u]) hH e (by simp) (r.append (.cons ru .nil)) ?_,rfl,q⟩;rw[List.length_append,List.length_singleton];lia
def rExtend:V->List V->Hp->VK->Prop:=λ x vs H Q=>∃l b xs zs,x=.ref l∧vs=[.ref b]∧H l=some (.lst xs)∧H b=some (.lst zs)∧xs.length+zs.length≤sizeLine∧Q .non (upd H l (.lst (xs++zs)))
theorem mt_extend:MtM X "list.extend" rExtend:=by
  intro pins s σ H x vs v us Q I rx rv h;obtain⟨l,b,xs,zs,rfl,rfl,hH,hB,hz,q⟩:=h;cases rx;obtain⟨u,rfl,ru⟩:=rv.one;cases ru;obtain⟨z,its,n,r,hl,e⟩:=I.lstM hH;obtain⟨z2,its2,n2,r2,hl2,e2⟩:=I.lstM hB;have hsz:its.toArray.size+its2.toArray.size≤sizeLine:=by rw[List.size_toArray,List.size_toArray];lia
  have hlong:¬(!its.toArray.isEmpty&&Builtin.List.listTooLong (its.toArray.size+its2.toArray.size))=true:=by rw[notLongL hsz,Bool.and_false];exact Bool.false_ne_true
  refine call_meets F.slot_list_extend ⟨_,e,rfl⟩ F.entry_list_extend (F.args_list_extend_2 _ _)
    (AutoSeq1.list_extend_list_list_0 l its.toArray n b its2.toArray n2 hlong (by rw[List.size_toArray];lia) (by lia)) ⟨e,e2,?_⟩
  refine⟨.non,_,I.lset (its':=its++its2) hH e (by simp) (r.append r2) ?_,rfl,q⟩;rw[List.length_append];lia
def rRep:R2:=λ x y H Q=>∃l k xs,x=.ref l∧y=.int k∧H l=some (.lst xs)∧-(2 ^ 63)≤k∧k < 2 ^ 63∧xs.length*k.toNat≤sizeLine ∧
  ∀p,H p=none->Q (.ref p) (upd H p (.lst (List.replicate k.toNat xs).flatten))
theorem len_rep{α:Type}(xs:List α)(k:Nat):(List.replicate k xs).flatten.length=k*xs.length:=by
  induction k with
  | zero=>simp
  | succ k ih=>rw[List.replicate_succ,List.flatten_cons,List.length_append,ih,Nat.succ_mul,Nat.add_comm]
theorem op_rep:OpR X (binaryOp .Mult) rRep:=by
  intro pins s σ H x y v u Q I rx ry h;obtain⟨l,k,xs,rfl,rfl,hH,h1,h2,hz,q⟩:=h;cases rx;obtain⟨t,rfl⟩:=ry;obtain⟨z,its,n,r,hl,e⟩:=I.lstM hH;have hlen:its.toArray.size*k.toNat≤sizeLine:=by rw[List.size_toArray,<-hl];exact hz
  have hcap:¬its.toArray.size*k.toNat > (2 ^ 63-1) / 8:=by
    have:(sizeLine:Nat)≤(2 ^ 63-1) / 8:=by decide
    lia
  have hfit:¬(!Builtin.List.listFitsIndex k)=true:=by rw[fitsIndex_both h1 h2];exact Bool.false_ne_true
  have hlong:¬Builtin.List.listTooLong (its.toArray.size*k.toNat)=true:=by rw[notLongL hlen];exact Bool.false_ne_true
  have hnew:List.foldl (λ x1 x2=>x1++x2) #[] (List.replicate (if its.toArray.isEmpty=true then 0 else k.toNat) its.toArray)=(List.replicate k.toNat its).flatten.toArray:=by
    have f0:∀m:Nat,List.foldl (λ x1 x2=>x1++x2) #[] (List.replicate m its.toArray)=(List.replicate m its).flatten.toArray:=λ m=>by have:=foldl_rep its m [];rw[List.nil_append]at this;exact this
    rw[f0];cases its with
    | nil=>simp
    | cons a r'=>rw[if_neg (by simp)]
  refine wpAny_binaryOp_repeat_ref (T := "list") (U := "int") (by decide) ⟨_,e,rfl⟩ (λ s'=>typeIs_int s' k t) noFill_list_mul F.fills_int_mul F.slot_int_rmul repeat_list F.slot_int_index.lookup
    (call_meets F.slot_int_rmul (typeIs_int s k t) F.entry_int_rmul (F.args_int_rmul_2 _ _) (int___rmul___int_list k t l its.toArray n)
      ⟨e,rfl,⟨_,e,rfl⟩,call_meets F.slot_list_mul ⟨_,e,rfl⟩ F.entry_list_mul (F.args_list_mul_2 _ _) (AutoListH.list___mul___list_int_3 l its.toArray n k t hfit hcap hlong) ⟨e,?_⟩⟩)
  rw[hnew];exact⟨.ref _,_,I.lnew (t':=s.toks) (r.rep k.toNat) (by rw[len_rep,Nat.mul_comm];exact hz),rfl,q _ I.fresh⟩
end
section
variable {prog:Program}{w:World}{A:Around}{E:Value->Shared->Prop}{s:Shared}
set_option maxRecDepth 100000 in
end
section
variable {X:Cx}
end
end L2
namespace Att
open PySem PySem.W PySem.Calls PyProof.Rows
theorem ints_of_wellAll{P:Params}{h:Heap}:∀(ns:List Int)(vs:List Value),WellAll P h vs (ns.map WData.int)->IntsAre vs ns:=by
  intro ns
  induction ns with
  | nil =>intro vs w;rw[List.map_nil]at w;cases w;exact .nil
  | cons n ns ih =>
    intro vs w;rw[List.map_cons]at w;cases w with
    | cons a b =>cases a;exact .cons _ _ (ih _ b)
theorem script_of{l:OpenLaw}{n:Nat}(hn:l.most=some n){P:Params}{h:Heap}{args:List WData}{vals:List Value}
    (hpre:l.row.toRowW.claim.pre args=true) (hwl:WellAll P h vals args) :
    ∃a vs ns,vals=[Value.ref a]∧args=[WData.list (ns.map WData.int)]∧h.get? a=some { cls:=.type "list",data:=.seq vs.toArray }∧IntsAre vs ns∧ns.length≤n:=by
  have hsh:WShape.hasAll [] args [.list .int]=true:=(pre_splitW hpre).1;have hc:l.pre.holds [] { args:=args }=true:=(pre_splitW hpre).2;obtain⟨d,r,rfl,h1,h2⟩:=hasAllW_cons hsh;obtain rfl:=hasAllW_nil h2;obtain⟨xs,rfl,h3⟩:=hasW_list h1;obtain⟨ns,rfl⟩:=items_int h3;have hlen:ns.length≤n:=by
    unfold OpenLaw.pre at hc;have h4:(WTm.not (.lt (.lit (.int (n:Int))) (.len (.arg 0)))).holds [] { args:=[.list (ns.map .int)] }=true:=by have h4:=(holds_andW hc).1;rw[hn]at h4;exact h4
    have h5:=condW_of h4 (w_not (w_lt w_lit (w_len_list (w_arg rfl))));rw[List.length_map]at h5;refine Nat.le_of_not_lt λ q=>?_;have q':(n:Int) < ((ns.length:Nat):Int):=by lia
    first
      | (rw[decide_eq_true q']at h5;exact absurd h5 (by decide))
      | (simp at h5;lia)
  cases hwl with
  | cons w1 w2 =>
    cases w2;cases w1 with
    | list ho hall=>exact⟨_,_,ns,rfl,rfl,ho,ints_of_wellAll ns _ hall,hlen⟩
theorem post_true(l:OpenLaw)(args:List WData):l.row.toRowW.claim.post args (.bool true) args=true :=
  postW_of (r:=l.row.toRowW) (X:=(true==true))
    (show WShape.has [] (.bool true) .bool=true by first | rfl | decide | simp[WShape.has,WShape.arms,WShape.armsAll])
    (show(WTm.eq .res (.lit (.bool true))).value [] { args:=args,res:=some (.bool true),after:=args }=some (.bool (true==true))from w_eq_bool (w_res rfl) w_lit) rfl
section
variable {prog:Program}{w:World}{A:Around}{E:Value->Shared->Prop}{s:Shared}{K:Frag}
end
end Att
namespace L2
open PySem PySem.Spec PyProof.Rows
theorem vals_ints:∀{vs:List Value}{ns:List Int},IntsAre vs ns->Vals (ns.map V.int) vs
  | _,_,.nil=>.nil
  | _,_,.cons n t h=>.cons ⟨t,rfl⟩ (vals_ints h)
def Only(H:Hp):Prop:=∀b,H b=none∨(∃o xs,H b=some (.frz o (.lst xs)))∨∃q,H b=some (.tbl q)
def TabAt(K:PySem.W.Frag)(x:Str)(b:Addr):Prop:=x∈lamNames∧∃c,PySem.W.tabIn K x=some (c,b)
theorem lam_one{K:PySem.W.Frag}(one:∀x y c P c' ,x∈lamNames->y∈lamNames->PySem.W.tabIn K x=some (c,P)->PySem.W.tabIn K y=some (c',P)->x=y){x y:Str}{b:Addr}(h:TabAt K x b)(g:TabAt K y b):x=y:=by obtain⟨h1,c,h2⟩:=h;obtain⟨g1,d,g2⟩:=g;exact one x y c b d h1 g1 h2 g2
open Classical in
noncomputable def tabH(K:PySem.W.Frag)(a:Addr)(u:HO)(s:Bool):Hp:=λ b=>if h:∃x,TabAt K x b then some (.tbl (lamQ h.choose))else if s=true∧b=a then some u else none
theorem law_call {P : Program} {w : World} {K : PySem.W.Frag} {mg mb : Str -> Option Value} {CX : CXT} {k : Nat} {fa a : Addr} {fd : FuncData} {x : Str} {sp : Sp} {s₁ : Shared} {vs : List Value} {ns : List Int}
    (KX:K.In s₁.heap) (hns:s₁.heap.Ns mainGlobals mg) (hb:s₁.heap.Ns builtinsNs mb) (hbb:∀x:Str,x ≠ "__name__" -> mb x=bootBuiltins x) (hlim:s₁.heap.NoLimit) (hg:s₁.gens=#[])
    (ha:s₁.heap.get? a=some { cls:=.type "list",data:=.seq vs.toArray }) (hi:IntsAre vs ns) (hl:ns.length≤sizeLine) (hr:Room k callerA)
    (F:∀base:Heap,K.In base->base.Ns mainGlobals mg->FnOk P w K mg base CX k fa fd [x] sp) (hbind:∀(s:Shared)(u:Value),BindsTo s fd ⟨[u],[]⟩ [(x,u)])
    (hsp:∀H:Hp,Only H->SqL K H a (ns.map V.int)->sp [.ref a] H (λ v _=>v=.bl true) λ _ _ _=>False)
    (hCX:∀H e s',CX [] H s₁ (λ _ _ _=>False) e s'->False)
    (one:∀x y c P c' ,x∈lamNames->y∈lamNames->PySem.W.tabIn K x=some (c,P)->PySem.W.tabIn K y=some (c',P)->x=y)
    (tab:∀x∈lamNames,∀c P,PySem.W.tabIn K x=some (c,P)->(PySem.W.CodeHd s₁.heap c P∧s₁.heap.get? P=some (PySem.W.tabObj #[]))∧s₁.heap.TableAt c P #[]) (bm:BMain mg s₁.heap) (noT:PySem.W.noTabs K=true) :
    codeAny (model P w) callerA (.call (.ref fa) ⟨[.ref a],[]⟩) (λ r s'=>r=.ok (.ret (.bool true))∧OldK s₁.heap s'.heap∧s'.os=s₁.os∧AllBare s'.gens) s₁:=by
  have rv:=vals_ints hi;have lenV:=hi.length;have tabG:∀{b:Addr}{y:Str},TabAt K y b->s₁.heap.get? b=some (PySem.W.tabObj #[]):=λ {b y} ⟨h1,c,h2⟩=>(tab y h1 c b h2).1.2;have notab:∀{b:Addr}{o:Obj},s₁.heap.get? b=some o->o≠PySem.W.tabObj #[]->¬∃y,TabAt K y b:=λ {b o} e n ⟨y,h⟩=>by have:=tabG h;rw[e]at this;exact n (Option.some.inj this)
  have at1:∀{b:Addr}{u:HO}{q:Bool}{y:Str},TabAt K y b->tabH K a u q b=some (.tbl (lamQ y)):=λ {b u q y} h=>by
    have hh:∃x,TabAt K x b:=⟨y,h⟩
    unfold tabH;rw[dif_pos hh];rw[lam_one one hh.choose_spec h]
  have at2:∀{b:Addr}{u:HO}{q:Bool},(¬∃y,TabAt K y b)->tabH K a u q b=if q=true∧b=a then some u else none:=λ {b u q} h=>by unfold tabH;rw[dif_neg h]
  -- from an abstract heap in which nothing but the script and the tables may be tracked
  have core:∀(u:HO)(q:Bool),(∃o xs,u=.frz o (.lst xs))->SqL K (tabH K a u q) a (ns.map V.int)->(q=true->ObjOk P w (tabH K a u q) s₁.heap a u)->(q=true->K.lookup a=none) ->
      codeAny (model P w) callerA (.call (.ref fa) ⟨[.ref a],[]⟩) (λ r s'=>r=.ok (.ret (.bool true))∧OldK s₁.heap s'.heap∧s'.os=s₁.os∧AllBare s'.gens) s₁:=by
    intro u q hu hS hua hK;generalize hHH:tabH K a u q=H at hS hua;have na:¬∃y,TabAt K y a:=notab ha λ z=>by cases z
    have of:∀{b:Addr}{v:HO},H b=some v->(∃y,TabAt K y b∧v=.tbl (lamQ y))∨(q=true∧b=a∧v=u):=λ {b v} e=>by
      by_cases hb:∃y,TabAt K y b
      · obtain⟨y,hy⟩:=hb;rw[<-hHH,at1 hy]at e;cases e;exact .inl ⟨y,hy,rfl⟩
      · rw[<-hHH,at2 hb]at e;split at e
        · rename_i hc;cases e;exact .inr ⟨hc.1,hc.2,rfl⟩
        ·cases e
    have hok:HOk P w H s₁.heap:=λ b v e=>by
      rcases of e with⟨y,hy,rfl⟩ | ⟨hq,rfl,rfl⟩
      ·exact⟨#[],tabG hy,trivial,λ pos cv z=>nomatch z⟩
      ·exact hua hq
    have hO:Only H:=λ b=>by
      cases e:H b with
      | none=>exact .inl rfl
      | some v =>
        rcases of e with⟨y,_,rfl⟩ | ⟨_,_,rfl⟩
        ·exact .inr (.inr ⟨_,rfl⟩)
        · obtain⟨o,xs,rfl⟩:=hu;exact .inr (.inl ⟨o,xs,rfl⟩)
    have base_of:∀{b:Addr}{o:Obj},s₁.heap.get? b=some o->H b=none->(hidT s₁.heap H).get? b=some o:=λ e n=>hidT_get e n;have noA:∀{b:Addr}{o:Obj},s₁.heap.get? b=some o->(∀xs n,o.data≠.seq xs n)->(∀xs,o.data≠.fields xs∨o.cls≠.none)->H b=none:=λ {b o} e d d2=>by
      cases r:H b with
      | none=>rfl
      | some v =>
        rcases of r with⟨y,hy,_⟩ | ⟨_,hba,_⟩
        · rw[tabG hy]at e;cases e;rcases d2 #[]with z | z
          ·exact absurd rfl z
          ·exact absurd rfl z
        · rw[hba,ha]at e;cases e;exact absurd rfl (d _ _)
    have nsK:∀{b:Addr}{m:Str->Option Value},s₁.heap.Ns b m->(hidT s₁.heap H).Ns b m:=λ {b m} ⟨o,es,ep,e,d,r⟩=>⟨o,es,ep,base_of e (noA e (λ xs n z=>by rw[d]at z;cases z) λ xs=>.inl λ z=>by rw[d]at z;cases z),d,r⟩
    have hKb:K.In (hidT s₁.heap H):=λ b o e=>base_of (KX b o e) (by
      cases r:H b with
      | none=>rfl
      | some v =>
        rcases of r with⟨y,hy,_⟩ | ⟨hq,hba,_⟩
        · have e2:=KX b o e;rw[tabG hy]at e2;cases e2;have h2:=List.all_eq_true.mp noT _ (PySem.W.mem_of_lookupK e);exact absurd (show false=true from h2) Bool.false_ne_true
        ·rw[hba,hK hq]at e;cases e)
    have hM:Mod K mg (hidT s₁.heap H):=⟨hKb,nsK hns,⟨mb,nsK hb,hbb⟩,let ⟨mc,h1,h2⟩:=hlim;⟨mc,nsK h1,h2⟩⟩
    have hT:TabOk K mg (hidT s₁.heap H) H:=λ y hy c p e=>by obtain⟨⟨⟨o,vs,file,tf,flags,tg,inF,text,tt,e1,e2,e3,r⟩,_⟩,_⟩:=tab y hy c p e;obtain⟨bmA,ob,b1,b2,b3,b4,b5,b6⟩:=bm;refine⟨by rw[<-hHH];exact at1 ⟨hy,c,e⟩,⟨o,vs,file,tf,flags,tg,inF,text,tt,base_of e1 (noA e1 (λ xs n z=>by rw[e3]at z;cases z) λ xs=>.inr λ z=>by rw[e2]at z;cases z),e2,e3,r⟩,bmA,ob,b1,b2,base_of b3 (noA b3 (λ xs n z=>by rw[b6]at z;cases z) λ xs=>.inr λ z=>by rw[b4]at z;cases z),b4,b5,b6⟩
    have e0:Env0 P w K mg (hidT s₁.heap H) callerA [] s₁ H:=⟨rfl,hM,λ b o e=>of_hidT e,Nat.le_of_eq (hidT_size _ _),trivial,λ b hb=>absurd (show b∈([]:List Addr)from hb) (by simp),hok,.of_eq hg,hT⟩
    refine codeAny_mono ((F _ hKb (nsK hns)).run callerA [] s₁ H ⟨[.ref a],[]⟩ [.ref a] [.ref a] _ _ hr e0 (hbind s₁ (.ref a)) (.cons rfl .nil) (hsp H hO hS)) λ r s' h=>?_;cases r with
    | error e=>exact(hCX H e s' h).elim
    | ok fl =>
      cases fl with
      | next=>exact False.elim h
      | brk=>exact False.elim h
      | cont=>exact False.elim h
      | ret u' =>
        obtain⟨v,H',os,bare,un,hok',r',q'⟩:=h;have q':v=.bl true:=q';subst q';obtain rfl:u'=Value.bool true:=r';refine⟨rfl,⟨λ b o e=>?_,λ b o e=>un.there b o e (by simp)⟩,os,bare⟩;cases r:H b with
        | none=>exact .inl (un.keep b o e r (by intro z;exact absurd (show b∈([]:List Addr)from z) (by simp)) (by simp))
        | some v =>
          rcases of r with⟨y,hy,rfl⟩ | ⟨_,_,rfl⟩
          · have r2:=un.tbls b (.tbl (lamQ y)) trivial r;obtain⟨ps,g1,_⟩:=hok' b _ r2;obtain⟨h1,c,h2⟩:=hy;have tb:=(tab y h1 c b h2).2;have e3:o={ cls:=.none,data:=.fields #[] }:=Option.some.inj (e.symm.trans tb.2);subst e3;exact .inr (.inl ⟨tb.isCodeTable,rfl,#[],ps,rfl,by rw[g1];simp⟩)
          · obtain⟨ob,xs,rfl⟩:=hu;have z2:=un.frzs b ob _ r;obtain⟨e1,_⟩:=hok b _ r;obtain⟨e2,_⟩:=hok' b _ z2;rw[e]at e1;cases e1;exact .inl e2
  have na:¬∃y,TabAt K y a:=notab ha λ z=>by cases z
  cases hk:K.lookup a with
  | some o =>
    -- the script is one of the module's own objects
    have e:=KX a o hk;rw[ha]at e;cases e;exact core (.frz { cls:=.type "list",data:=.seq vs.toArray } (.lst [])) false ⟨_,_,rfl⟩ (.inr ⟨_,vs.toArray,_,hk,rfl,rfl,rfl,by rw[List.size_toArray,lenV];exact hl,by simpa using rv⟩) (λ z=>nomatch z) λ z=>nomatch z
  | none =>refine core (.frz { cls:=.type "list",data:=.seq vs.toArray } (.lst (ns.map V.int))) true ⟨_,_,rfl⟩ (.inl (.inr ⟨{ cls:=.type "list",data:=.seq vs.toArray },by rw[at2 na];exact if_pos ⟨rfl,rfl⟩⟩)) (λ _=>⟨ha,by rw[List.length_map];exact hl,vs,_,rv,ha⟩) λ _=>hk
end L2
namespace L2
open PySem PySem.Spec PyProof.Rows
def defArgs(s:Stmt):Arguments:=match s with
  | .FunctionDef _ a _ _ _ _ _ _ _ _=>a
  | _=>{ posonlyargs:=[],args:=[],vararg:=none,kwonlyargs:=[],kw_defaults:=[],kwarg:=none,defaults:=[] }
def defBody(s:Stmt):List Stmt:=match s with
  | .FunctionDef _ _ b _ _ _ _ _ _ _=>b
  | _=>[]
def ak(s:Stmt):Scope:=match s with
  | .FunctionDef _ _ _ _ _ _ sc _ _ _=>sc
  | _=>{ kind:=.function,names:=[],isGenerator:=false,isCoroutine:=false }
abbrev CX0:CXT:=λ _ _ _ _ _ _=>False
abbrev E0:XK:=λ _ _ _=>False
theorem pass0{X:Cx}:Passes CX0 X E0:=λ _ _ _ _ _ _ _ h=>h.elim
structure Fun(K:PySem.W.Frag)(x qual:Str)(st:Stmt)(f:Addr)(fd:FuncData):Prop where
  ex:∃(oc:Value)(od:Option Addr)(kV doc pm:Value)(an:Option Addr)(cdv ct:Value)(osl:Array (Option Value)),
    fd=PySem.W.fnOf x qual (defArgs st) (defBody st) (ak st) .none kV doc pm an cdv ct∧K.lookup f=some ⟨oc,od,.func fd,osl⟩∧PySem.W.codeIn K cdv qual=true
  kp:PySem.W.keepIn K (.ref f)=true
section
variable {P:Program}{w:World}{K:PySem.W.Frag}{mg:Str->Option Value}{base:Heap}
theorem Fun.ok{x qual:Str}{st:Stmt}{f:Addr}{fd:FuncData}{N ps:List Str}{k:Nat}{sp:Sp}(F:Fun K x qual st f fd)(S:aA N ps (ak st))(len:∀vs H Q E,sp vs H Q E->vs.length=ps.length)
    (hbody:∀(cdv:Value)(A:Around)(outer:List Env)(s:Shared)(H:Hp)(vs:List V)(Q:VK)(E:XK),Room k (A.deeper (envOfC qual (ak st) s.heap.objs.size f cdv))->sp vs H Q E ->
      ∃t,PSs (cxOf CX0 P w K mg base N qual (ak st) f cdv A outer s H E).nox (defBody st) t∧t { nx:=λ _ H'=>Q .non H',rt:=Q } (start N vs) H):FnOk P w K mg base CX0 (k+1) f fd ps sp:=by
  obtain⟨oc,od,kV,doc,pm,an,cdv,ct,osl,rfl,lk,hcd⟩:=F.ex;refine fn_of lk hcd S len λ A outer s H vs Q E hr hsp=>?_;obtain⟨t,h,q⟩:=hbody cdv A outer s H vs Q E hr hsp;exact⟨t,h.nox,q⟩
theorem Fun.binds{x qual:Str}{st:Stmt}{f:Addr}{fd:FuncData}{ps:List Str}(F:Fun K x qual st f fd)
    (h:∀(kV doc pm:Value)(an:Option Addr)(cdv ct:Value)(us:List Value),us.length=ps.length->bindArgs (PySem.W.fnOf x qual (defArgs st) (defBody st) (ak st) .none kV doc pm an cdv ct) ⟨us,[]⟩=pure (ps.zip us)):Binds K fd ps []:=by
  obtain⟨oc,od,kV,doc,pm,an,cdv,ct,osl,rfl,lk,hcd⟩:=F.ex;exact .all (h kV doc pm an cdv ct)
theorem fun_mk{x qual:Str}{st:Stmt}{f:Addr}{oc:Value}{od an:Option Addr}{osl:Array (Option Value)}{kV doc pm cdv ct:Value}(l:K.lookup f=some ⟨oc,od,.func (PySem.W.fnOf x qual (defArgs st) (defBody st) (ak st) .none kV doc pm an cdv ct),osl⟩)
    (c:PySem.W.codeIn K cdv qual=true) (k:PySem.W.keepIn K (.ref f)=true):Fun K x qual st f (PySem.W.fnOf x qual (defArgs st) (defBody st) (ak st) .none kV doc pm an cdv ct):=⟨⟨oc,od,kV,doc,pm,an,cdv,ct,osl,rfl,l,c⟩,k⟩
end
section
variable {X:Cx}
theorem pv(i:Nat){x:Str}{pos:Pos}(hN:X.N[i]?=some x:=by rfl)(hv:Vis X.env.scope x:=by first | exact Or.inl rfl | exact Or.inr (Or.inl rfl) | exact Or.inr (Or.inr rfl))(hd:(x==("__debug__" : Str))=false:=by decide)
    (hcd:(x==("__classdict__" : Str))=false:=by decide):PE X (.Name x pos) (tVar i):=pe_var hN hv hd hcd
end
def aJ(H H':Hp):Prop:=∀b o,H b=some o->H' b=some o
theorem aJ.refl(H:Hp):aJ H H:=λ _ _ h=>h
theorem aJ.trans{H H1 H2:Hp}(a:aJ H H1)(b:aJ H1 H2):aJ H H2:=λ c o h=>b c o (a c o h)
theorem aJ.free{H H':Hp}(e:aJ H H'){l:Addr}(h:H' l=Option.none):H l=Option.none:=by
  cases q:H l with
  | none=>rfl
  | some o =>rw[e l o q]at h;cases h
theorem aJ.seq{K:PySem.W.Frag}{H H':Hp}{a:Addr}{xs:List V}(e:aJ H H')(h:SqL K H a xs):SqL K H' a xs:=by
  rcases h with(h | ⟨o,h⟩) | h
  ·exact .inl (.inl (e _ _ h))
  ·exact .inl (.inr ⟨o,e _ _ h⟩)
  ·exact .inr h
end L2
set_option genSizeOf true
noncomputable section
namespace Z
inductive D where
 | non
 | bl (b:Bool)
 | int (i:Int)
 | str (cs:List Nat)
 | tup (xs:List D)
 | lst (xs:List D)
 | dct (ks:List (Sum Int (List Nat))) (vs:List D)
inductive Res (α:Type) where
 | ok (a:α)
 | bad
namespace Res
def bind{α β:Type}(r:Res α)(f:α->Res β):Res β :=
 match r with
 | ok a=>f a
 | bad=>bad
@[simp] theorem ok_bind{α β:Type}(a:α)(f:α->Res β):(Res.ok a).bind f=f a:=rfl
@[simp] theorem bad_bind{α β:Type}(f:α->Res β):(Res.bad:Res α).bind f=bad:=rfl
def map{α β:Type}(f:α->β)(r:Res α):Res β :=
 match r with
 | ok a=>ok (f a)
 | bad=>bad
@[simp] theorem map_ok{α β:Type}(a:α)(f:α->β):(Res.ok a).map f=ok (f a):=rfl
@[simp] theorem map_bad{α β:Type}(f:α->β):(Res.bad:Res α).map f=bad:=rfl
theorem ax{α β:Type}{r:Res α}{f:α->Res β}{b:β}(h:r.bind f=ok b):∃a,r=ok a∧f a=ok b:=by
 cases r with
 | ok a=>exact⟨a,rfl,h⟩
 | bad=>cases h
end Res
open Classical in
def guard{α:Type}(p:Prop)(r:Res α):Res α:=if p then r else .bad
@[simp] theorem guard_true{α:Type}(r:Res α):guard True r=r:=by unfold guard;exact if_pos trivial
theorem guard_pos{α:Type}{p:Prop}{r:Res α}(h:p):guard p r=r:=by unfold guard;exact if_pos h
theorem guard_ok{α:Type}{p:Prop}{r:Res α}{a:α}(h:guard p r=.ok a):p∧r=.ok a:=by
 unfold guard at h;split at h
 ·rename_i q;exact⟨q,h⟩
 ·cases h
inductive L where
 | val (d:D)
 | own (xs:List D)
 | bor (xs:List D)
 | dic (ks:List (List Int))
 | fdc (ks:List (List Int))
 | idc (ps:List (Int×Int))
 | exc (c:List Nat×List (List Nat×D))
abbrev Env:=List (Option L)
abbrev EF:=Env->Res D
abbrev LF:=Env->Res (List D)
abbrev TF:=Env->Res Bool
abbrev AF:=Env->Res (List D)
inductive Fl where
 | nx (ρ:Env)
 | rt (d:D)
 | bk (ρ:Env)
 | ct (ρ:Env)
abbrev SF:=Env->Res Fl
abbrev GF:=D->Env->Res Env
abbrev line:Nat:=16777216
def eC(d:D)(_:Env):Res D:=.ok d
def eV(i:Nat)(ρ:Env):Res D:=match ρ[i]? with
 | some (some (.val d))=>.ok d
 | _=>.bad
def eW(i:Nat)(ρ:Env):Res D:=match ρ[i]? with
 | some (some (.val d))=>.ok d
 | some (some (.own xs))=>.ok (.lst xs)
 | some (some (.bor xs))=>.ok (.lst xs)
 | _=>.bad
def eB(op:D->D->Res D)(a b:EF)(ρ:Env):Res D:=(a ρ).bind λ x=>(b ρ).bind λ y=>op x y
def eU(op:D->Res D)(a:EF)(ρ:Env):Res D:=(a ρ).bind op
def eAnd(a b:EF)(ρ:Env):Res D:=(a ρ).bind λ x=>match x with
 | .bl c=>if c then b ρ else .ok (.bl false)
 | _=>.bad
def eOr(a b:EF)(ρ:Env):Res D:=(a ρ).bind λ x=>match x with
 | .bl c=>if c then .ok (.bl true)else b ρ
 | _=>.bad
def eNot(a:EF)(ρ:Env):Res D:=(a ρ).bind λ x=>match x with
 | .bl c=>.ok (.bl !c)
 | _=>.bad
def eChain(op op':D->D->Res D)(a b c:EF)(ρ:Env):Res D:=(a ρ).bind λ x=>(b ρ).bind λ y=>(op x y).bind λ z=>match z with
 | .bl k=>if k then(c ρ).bind λ w=>op' y w else .ok (.bl false)
 | _=>.bad
def eIf(t:TF)(a b:EF)(ρ:Env):Res D:=(t ρ).bind λ c=>if c then a ρ else b ρ
def eL(l:LF)(ρ:Env):Res D:=(l ρ).map D.lst
def ay(_:Env):Res (List D):=.ok []
def ae(a:EF)(r:AF)(ρ:Env):Res (List D):=(a ρ).bind λ x=>(r ρ).bind λ xs=>.ok (x :: xs)
def lDisp(as:AF)(ρ:Env):Res (List D):=(as ρ).bind λ xs=>guard (xs.length≤line) (.ok xs)
def eTup(as:AF)(ρ:Env):Res D:=(as ρ).bind λ xs=>guard (xs.length≤line) (.ok (.tup xs))
def az(f:List D->Res D)(as:AF)(ρ:Env):Res D:=(as ρ).bind f
def tE(a:EF)(ρ:Env):Res Bool:=(a ρ).bind λ x=>match x with
 | .bl c=>.ok c
 | _=>.bad
def tAnd(a b:TF)(ρ:Env):Res Bool:=(a ρ).bind λ c=>if c then b ρ else .ok false
def tOr(a b:TF)(ρ:Env):Res Bool:=(a ρ).bind λ c=>if c then .ok true else b ρ
def tNot(a:TF)(ρ:Env):Res Bool:=(a ρ).bind λ c=>.ok !c
def bits(a:Int):Nat:=if a=0 then 0 else a.natAbs.log2+1
def oAdd:D->D->Res D
 | .int a,.int b=>.ok (.int (a+b))
 | .str a,.str b=>guard (a.length+b.length≤line) (.ok (.str (a++b)))
 | .tup a,.tup b=>guard (a.length+b.length≤line) (.ok (.tup (a++b)))
 | _,_=>.bad
def oSub:D->D->Res D
 | .int a,.int b=>.ok (.int (a-b))
 | _,_=>.bad
def mulFits(a b:Int):Prop:=((-18446744073709551616 < a∧a < 18446744073709551616)∨(-18446744073709551616 < b∧b < 18446744073709551616)∨(bits a≤16777216∧bits b≤16777216))
def oMul:D->D->Res D
 | .int a,.int b=>guard (mulFits a b) (.ok (.int (a*b)))
 | _,_=>.bad
def divFits(b:Int):Prop:=0 < b∧b < 1809251394333065553493296640760748560207343510400633813116524750123642650624
def oDiv:D->D->Res D
 | .int a,.int b=>guard (divFits b) (.ok (.int (a / b)))
 | _,_=>.bad
def oMod:D->D->Res D
 | .int a,.int b=>guard (0 < b) (.ok (.int (a % b)))
 | _,_=>.bad
def oShr:D->D->Res D
 | .int a,.int b=>guard (0≤b) (.ok (.int (a / 2 ^ b.toNat)))
 | _,_=>.bad
def oPow:D->D->Res D
 | .int a,.int b=>guard (0≤b∧b≤1000000∧a.natAbs < 2 ^ 64) (.ok (.int (a ^ b.toNat)))
 | _,_=>.bad
def oNeg:D->Res D
 | .int a=>.ok (.int (-a))
 | _=>.bad
def ltC:List Nat->List Nat->Bool
 | [],[]=>false
 | [],_ :: _=>true
 | _ :: _,[]=>false
 | a :: as,b :: bs=>if a < b then true else if a=b then ltC as bs else false
def oLt:D->D->Res D
 | .int a,.int b=>.ok (.bl (decide (a < b)))
 | _,_=>.bad
def oLe:D->D->Res D
 | .int a,.int b=>.ok (.bl (decide (a≤b)))
 | .str a,.str b=>.ok (.bl (!(ltC b a)))
 | _,_=>.bad
def oGt:D->D->Res D
 | .int a,.int b=>.ok (.bl (decide (b < a)))
 | _,_=>.bad
def oGe:D->D->Res D
 | .int a,.int b=>.ok (.bl (decide (b≤a)))
 | _,_=>.bad
def eqS:D->D->Option Bool
 | .non,.non=>some true
 | .bl a,.bl b=>some (a==b)
 | .bl a,.int b=>some ((if a then 1 else 0)==b)
 | .int a,.bl b=>some (a==(if b then 1 else 0))
 | .int a,.int b=>some (a==b)
 | .str a,.str b=>some (a==b)
 | .non,.bl _=>some false
 | .non,.int _=>some false
 | .non,.str _=>some false
 | .bl _,.non=>some false
 | .bl _,.str _=>some false
 | .int _,.non=>some false
 | .int _,.str _=>some false
 | .str _,.non=>some false
 | .str _,.bl _=>some false
 | .str _,.int _=>some false
 | _,_=>none
def allEq(f:D->D->Option Bool):List D->List D->Option Bool
 | [],[]=>some true
 | [],_ :: _=>some false
 | _ :: _,[]=>some false
 | a :: as,b :: bs=>match f a b,allEq f as bs with
  | some x,some y=>some (x&&y)
  | _,_=>none
def eqDn:Nat->D->D->Option Bool
 | n+1,.tup a,.tup b=>allEq (eqDn n) a b
 | n+1,.lst a,.lst b=>allEq (eqDn n) a b
 | _,.tup _,.lst _=>some false
 | _,.lst _,.tup _=>some false
 | _,.tup _,.non=>some false
 | _,.tup _,.bl _=>some false
 | _,.tup _,.int _=>some false
 | _,.tup _,.str _=>some false
 | _,.non,.tup _=>some false
 | _,.bl _,.tup _=>some false
 | _,.int _,.tup _=>some false
 | _,.str _,.tup _=>some false
 | _,.lst _,.non=>some false
 | _,.lst _,.bl _=>some false
 | _,.lst _,.int _=>some false
 | _,.lst _,.str _=>some false
 | _,.non,.lst _=>some false
 | _,.bl _,.lst _=>some false
 | _,.int _,.lst _=>some false
 | _,.str _,.lst _=>some false
 | _,x,y=>eqS x y
def eqD:D->D->Option Bool:=eqDn 6
def oEq(a b:D):Res D:=match eqD a b with
 | some x=>.ok (.bl x)
 | none=>.bad
def oNe(a b:D):Res D:=match eqD a b with
 | some x=>.ok (.bl !x)
 | none=>.bad
def oIsN:D->Res D
 | .non=>.ok (.bl true)
 | _=>.ok (.bl false)
def oNotN:D->Res D
 | .non=>.ok (.bl false)
 | _=>.ok (.bl true)
def anyEq(x:D):List D->Option Bool
 | []=>some false
 | y :: r=>match eqD y x,anyEq x r with
  | some a,some b=>some (a || b)
  | _,_=>none
def oIn:D->D->Res D
 | x,.tup ys=>match anyEq x ys with
  | some b=>.ok (.bl b)
  | none=>.bad
 | x,.lst ys=>match anyEq x ys with
  | some b=>.ok (.bl b)
  | none=>.bad
 | _,_=>.bad
def oNotIn:D->D->Res D
 | x,.tup ys=>match anyEq x ys with
  | some b=>.ok (.bl !b)
  | none=>.bad
 | x,.lst ys=>match anyEq x ys with
  | some b=>.ok (.bl !b)
  | none=>.bad
 | _,_=>.bad
def oLen:D->Res D
 | .str t=>guard (t.length≤line) (.ok (.int t.length))
 | .tup xs=>.ok (.int xs.length)
 | .lst xs=>.ok (.int xs.length)
 | _=>.bad
inductive Ty where
 | bool | int | str | tuple | list | dict
def isTy:Ty->D->Bool
 | .bool,.bl _=>true
 | .int,.bl _=>true
 | .int,.int _=>true
 | .str,.str _=>true
 | .tuple,.tup _=>true
 | .list,.lst _=>true
 | .dict,.dct _ _=>true
 | _,_=>false
def oIsTy(t:Ty)(x:D):Res D:=.ok (.bl (isTy t x))
def ixZ(n:Nat)(i:Int):Option Nat:=if 0≤i then(if i < n then some i.toNat else none)else if -(n:Int)≤i then some (i+n).toNat else none
def oIx:D->D->Res D
 | .tup xs,.int i=>match (ixZ xs.length i).bind λ j=>xs[j]? with
  | some v=>.ok v
  | none=>.bad
 | .lst xs,.int i=>match (ixZ xs.length i).bind λ j=>xs[j]? with
  | some v=>.ok v
  | none=>.bad
 | .str cs,.int i=>guard (cs.length≤line) (match (ixZ cs.length i).bind λ j=>cs[j]? with
  | some c=>.ok (.str [c])
  | none=>.bad)
 | _,_=>.bad
def sIx(n d:Nat):Option Int->Nat
 | none=>d
 | some i=>if i < 0 then(i+n).toNat else min i.toNat n
def cut{α:Type}(xs:List α)(lo hi:Option Int):List α:=(xs.drop (sIx xs.length 0 lo)).take (sIx xs.length xs.length hi-sIx xs.length 0 lo)
abbrev PF:=Env->Res (Option Int)
def pNo(_:Env):Res (Option Int):=.ok none
def pAt(a:EF)(ρ:Env):Res (Option Int):=(a ρ).bind λ x=>match x with
 | .int i=>.ok (some i)
 | _=>.bad
def oSl:D->Option Int->Option Int->Res D
 | .str cs,lo,hi=>guard (cs.length≤line) (.ok (.str (cut cs lo hi)))
 | .tup xs,lo,hi=>.ok (.tup (cut xs lo hi))
 | _,_,_=>.bad
def eSl(a:EF)(lo hi:PF)(ρ:Env):Res D:=(a ρ).bind λ x=>(lo ρ).bind λ l=>(hi ρ).bind λ h=>oSl x l h
def lSl(a:EF)(lo hi:PF)(ρ:Env):Res (List D):=(a ρ).bind λ x=>(lo ρ).bind λ l=>(hi ρ).bind λ h=>match x with
 | .lst xs=>.ok (cut xs l h)
 | _=>.bad
def lCat(a b:EF)(ρ:Env):Res (List D):=(a ρ).bind λ x=>(b ρ).bind λ y=>match x,y with
 | .lst xs,.lst ys=>guard (xs.length+ys.length≤line) (.ok (xs++ys))
 | _,_=>.bad
def allB:List D->Option Bool
 | []=>some true
 | .bl b :: r=>(allB r).map (b&&·)
 | _ :: _=>none
def oAll:D->Res D
 | .lst xs=>match allB xs with
  | some b=>.ok (.bl b)
  | none=>.bad
 | _=>.bad
def iterD:D->Res (List D)
 | .tup xs=>.ok xs
 | .lst xs=>.ok xs
 | .str cs=>.ok (cs.map λ c=>.str [c])
 | _=>.bad
def iSeq(a:EF)(ρ:Env):Res (List D):=(a ρ).bind iterD
def zints(lo:Int)(n:Nat):List D:=(List.range n).map λ i=>D.int (lo+(i:Nat))
def iRng1(a:EF)(ρ:Env):Res (List D):=(a ρ).bind λ x=>match x with
 | .int j=>.ok (zints 0 j.toNat)
 | _=>.bad
def iRng2(a b:EF)(ρ:Env):Res (List D):=(a ρ).bind λ x=>(b ρ).bind λ y=>match x,y with
 | .int i,.int j=>.ok (zints i (j-i).toNat)
 | _,_=>.bad
def gName(i:Nat)(d:D)(ρ:Env):Res Env:=.ok (ρ.set i (some (.val d)))
def gNames:List Nat->List D->Env->Res Env
 | [],[],ρ=>.ok ρ
 | i :: is,d :: ds,ρ=>gNames is ds (ρ.set i (some (.val d)))
 | _,_,_=>.bad
def gTup(is:List Nat)(d:D)(ρ:Env):Res Env:=match d with
 | .tup ds=>gNames is ds ρ
 | _=>.bad
def capt1(ρ:Env)(i:Nat):Option L:=match ρ[i]? with
 | some (some (.val d))=>some (.val d)
 | some (some (.bor xs))=>some (.bor xs)
 | some (some (.fdc ks))=>some (.fdc ks)
 | _=>none
def capt(ρ:Env)(is:List Nat):Env:=is.map (capt1 ρ)
def compGo(g:GF)(t:TF)(e:EF)(ρ:Env):List D->Res (List D)
 | []=>.ok []
 | d :: r=>(g d ρ).bind λ ρ1=>(t ρ1).bind λ c=>if c then(e ρ1).bind λ y=>(compGo g t e ρ r).bind λ ys=>.ok (y :: ys)else compGo g t e ρ r
def lComp(it:LF)(n:Nat)(is:List Nat)(g:GF)(t:TF)(e:EF)(ρ:Env):Res (List D):=(it ρ).bind λ ds=>guard (ds.length≤line) (compGo g t e (List.replicate n none++capt ρ is) ds)
def tTrue(_:Env):Res Bool:=.ok true
def sNext(ρ:Env):Res Fl:=.ok (.nx ρ)
def aI(a b:SF)(ρ:Env):Res Fl:=(a ρ).bind λ fl=>match fl with
 | .nx ρ'=>b ρ'
 | o=>.ok o
def sSet(i:Nat)(e:EF)(ρ:Env):Res Fl:=(e ρ).bind λ d=>.ok (.nx (ρ.set i (some (.val d))))
def sOwn(i:Nat)(e:LF)(ρ:Env):Res Fl:=(e ρ).bind λ xs=>.ok (.nx (ρ.set i (some (.own xs))))
def sGet(e:EF)(g:GF)(ρ:Env):Res Fl:=(e ρ).bind λ d=>(g d ρ).bind λ ρ'=>.ok (.nx ρ')
def sIf(t:TF)(a b:SF)(ρ:Env):Res Fl:=(t ρ).bind λ c=>if c then a ρ else b ρ
def sRet(e:EF)(ρ:Env):Res Fl:=(e ρ).bind λ d=>.ok (.rt d)
def sRetN(_:Env):Res Fl:=.ok (.rt .non)
def sDrop(e:EF)(ρ:Env):Res Fl:=(e ρ).bind λ _=>.ok (.nx ρ)
def sBreak(ρ:Env):Res Fl:=.ok (.bk ρ)
def sCont(ρ:Env):Res Fl:=.ok (.ct ρ)
def frz(i:Nat)(ρ:Env):Env:=match ρ[i]? with
 | some (some (.own xs))=>ρ.set i (some (.val (.lst xs)))
 | _=>ρ
def sFrz(i:Nat)(a:SF)(ρ:Env):Res Fl:=a (frz i ρ)
def sAppend(i:Nat)(e:EF)(ρ:Env):Res Fl:=(e ρ).bind λ d=>match ρ[i]? with
 | some (some (.own xs))=>guard (xs.length < line) (.ok (.nx (ρ.set i (some (.own (xs++[d]))))))
 | _=>.bad
def forGo(g:GF)(b:SF):List D->Env->Res Fl
 | [],ρ=>.ok (.nx ρ)
 | d :: r,ρ=>(g d ρ).bind λ ρ1=>(b ρ1).bind λ fl=>match fl with
  | .nx ρ'=>forGo g b r ρ'
  | .ct ρ'=>forGo g b r ρ'
  | .bk ρ'=>.ok (.nx ρ')
  | .rt d=>.ok (.rt d)
def sFor(it:LF)(g:GF)(b:SF)(ρ:Env):Res Fl:=(it ρ).bind λ ds=>forGo g b ds ρ
def start(n:Nat)(ds:List D):Env:=ds.map (λ d=>some (.val d))++List.replicate (n-ds.length) none
def fn(ps n:Nat)(b:SF)(ds:List D):Res D:=if ds.length=ps then(match b (start n ds)with
 | .ok (.rt d)=>.ok d
 | .ok (.nx _)=>.ok .non
 | _=>.bad)else .bad
end Z
end
set_option genSizeOf false
noncomputable section
namespace Z
@[simp] theorem eC_a(d:D)(ρ:Env):eC d ρ=.ok d:=rfl
@[simp] theorem eB_a(o:D->D->Res D)(a b:EF)(ρ:Env):eB o a b ρ=(a ρ).bind λ x=>(b ρ).bind λ y=>o x y:=rfl
@[simp] theorem eU_a(o:D->Res D)(a:EF)(ρ:Env):eU o a ρ=(a ρ).bind o:=rfl
@[simp] theorem eL_a(l:LF)(ρ:Env):eL l ρ=(l ρ).map D.lst:=rfl
@[simp] theorem aNil_a(ρ:Env):ay ρ=.ok []:=rfl
@[simp] theorem aCons_a(a:EF)(r:AF)(ρ:Env):ae a r ρ=(a ρ).bind λ x=>(r ρ).bind λ xs=>.ok (x :: xs):=rfl
@[simp] theorem eCall_a(f:List D->Res D)(as:AF)(ρ:Env):az f as ρ=(as ρ).bind f:=rfl
@[simp] theorem sNext_a(ρ:Env):sNext ρ=.ok (.nx ρ):=rfl
@[simp] theorem sSet_a(i:Nat)(e:EF)(ρ:Env):sSet i e ρ=(e ρ).bind λ d=>.ok (.nx (ρ.set i (some (.val d)))):=rfl
@[simp] theorem sOwn_a(i:Nat)(e:LF)(ρ:Env):sOwn i e ρ=(e ρ).bind λ d=>.ok (.nx (ρ.set i (some (.own d)))):=rfl
@[simp] theorem sRet_a(e:EF)(ρ:Env):sRet e ρ=(e ρ).bind λ d=>.ok (.rt d):=rfl
@[simp] theorem sRetN_a(ρ:Env):sRetN ρ=.ok (.rt .non):=rfl
@[simp] theorem sIf_a(t:TF)(a b:SF)(ρ:Env):sIf t a b ρ=(t ρ).bind λ c=>if c then a ρ else b ρ:=rfl
@[simp] theorem eIf_a(t:TF)(a b:EF)(ρ:Env):eIf t a b ρ=(t ρ).bind λ c=>if c then a ρ else b ρ:=rfl
@[simp] theorem sFor_a(it:LF)(g:GF)(b:SF)(ρ:Env):sFor it g b ρ=(it ρ).bind λ ds=>forGo g b ds ρ:=rfl
def seqK(b:SF):Fl->Res Fl
 | .nx ρ'=>b ρ'
 | o=>.ok o
@[simp] theorem sSeq_a(a b:SF)(ρ:Env):aI a b ρ=(a ρ).bind (seqK b):=rfl
@[simp] theorem seqK_nx(b:SF)(ρ:Env):seqK b (.nx ρ)=b ρ:=rfl
@[simp] theorem seqK_rt(b:SF)(d:D):seqK b (.rt d)=.ok (.rt d):=rfl
@[simp] theorem seqK_bk(b:SF)(ρ:Env):seqK b (.bk ρ)=.ok (.bk ρ):=rfl
@[simp] theorem seqK_ct(b:SF)(ρ:Env):seqK b (.ct ρ)=.ok (.ct ρ):=rfl
def truK:D->Res Bool
 | .bl c=>.ok c
 | _=>.bad
@[simp] theorem tE_a(a:EF)(ρ:Env):tE a ρ=(a ρ).bind truK:=rfl
@[simp] theorem truK_bl(c:Bool):truK (.bl c)=.ok c:=rfl
@[simp] theorem tTrue_a(ρ:Env):tTrue ρ=.ok true:=rfl
@[simp] theorem tAnd_a(a b:TF)(ρ:Env):tAnd a b ρ=(a ρ).bind λ c=>if c then b ρ else .ok false:=rfl
@[simp] theorem tOr_a(a b:TF)(ρ:Env):tOr a b ρ=(a ρ).bind λ c=>if c then .ok true else b ρ:=rfl
@[simp] theorem tNot_a(a:TF)(ρ:Env):tNot a ρ=(a ρ).bind λ c=>.ok !c:=rfl
def boolK(f:Bool->Res D):D->Res D
 | .bl c=>f c
 | _=>.bad
@[simp] theorem boolK_bl(f:Bool->Res D)(c:Bool):boolK f (.bl c)=f c:=rfl
@[simp] theorem eAnd_a(a b:EF)(ρ:Env):eAnd a b ρ=(a ρ).bind (boolK λ c=>if c then b ρ else .ok (.bl false)):=rfl
@[simp] theorem eOr_a(a b:EF)(ρ:Env):eOr a b ρ=(a ρ).bind (boolK λ c=>if c then .ok (.bl true)else b ρ):=rfl
@[simp] theorem eNot_a(a:EF)(ρ:Env):eNot a ρ=(a ρ).bind (boolK λ c=>.ok (.bl !c)):=rfl
@[simp] theorem eChain_a(o o':D->D->Res D)(a b c:EF)(ρ:Env):eChain o o' a b c ρ=(a ρ).bind λ x=>(b ρ).bind λ y=>(o x y).bind (boolK λ k=>if k then(c ρ).bind λ w=>o' y w else .ok (.bl false)):=rfl
@[simp] theorem oAdd_int(a b:Int):oAdd (.int a) (.int b)=.ok (.int (a+b)):=rfl
@[simp] theorem oSub_int(a b:Int):oSub (.int a) (.int b)=.ok (.int (a-b)):=rfl
@[simp] theorem oMul_int(a b:Int):oMul (.int a) (.int b)=guard (mulFits a b) (.ok (.int (a*b))):=rfl
@[simp] theorem oDiv_int(a b:Int):oDiv (.int a) (.int b)=guard (divFits b) (.ok (.int (a / b))):=rfl
@[simp] theorem oMod_int(a b:Int):oMod (.int a) (.int b)=guard (0 < b) (.ok (.int (a % b))):=rfl
@[simp] theorem oShr_int(a b:Int):oShr (.int a) (.int b)=guard (0≤b) (.ok (.int (a / 2 ^ b.toNat))):=rfl
@[simp] theorem oLt_int(a b:Int):oLt (.int a) (.int b)=.ok (.bl (decide (a < b))):=rfl
@[simp] theorem oLe_int(a b:Int):oLe (.int a) (.int b)=.ok (.bl (decide (a≤b))):=rfl
@[simp] theorem oLe_str(a b:List Nat):oLe (.str a) (.str b)=.ok (.bl (!(ltC b a))):=rfl
@[simp] theorem oGt_int(a b:Int):oGt (.int a) (.int b)=.ok (.bl (decide (b < a))):=rfl
@[simp] theorem oGe_int(a b:Int):oGe (.int a) (.int b)=.ok (.bl (decide (b≤a))):=rfl
@[simp] theorem oEq_int(a b:Int):oEq (.int a) (.int b)=.ok (.bl (a==b)):=rfl
@[simp] theorem oEq_bl(a b:Bool):oEq (.bl a) (.bl b)=.ok (.bl (a==b)):=rfl
@[simp] theorem oEq_str(a b:List Nat):oEq (.str a) (.str b)=.ok (.bl (a==b)):=rfl
@[simp] theorem oNe_int(a b:Int):oNe (.int a) (.int b)=.ok (.bl (!(a==b))):=rfl
@[simp] theorem oNe_bl(a b:Bool):oNe (.bl a) (.bl b)=.ok (.bl (!(a==b))):=rfl
@[simp] theorem oNe_str(a b:List Nat):oNe (.str a) (.str b)=.ok (.bl (!(a==b))):=rfl
@[simp] theorem oLen_str(a:List Nat):oLen (.str a)=guard (a.length≤line) (.ok (.int a.length)):=rfl
@[simp] theorem oLen_tup(a:List D):oLen (.tup a)=.ok (.int a.length):=rfl
@[simp] theorem oLen_lst(a:List D):oLen (.lst a)=.ok (.int a.length):=rfl
@[simp] theorem oIsTy_a(t:Ty)(x:D):oIsTy t x=.ok (.bl (isTy t x)):=rfl
@[simp] theorem pNo_a(ρ:Env):pNo ρ=.ok none:=rfl
def intK:D->Res (Option Int)
 | .int i=>.ok (some i)
 | _=>.bad
@[simp] theorem intK_int(i:Int):intK (.int i)=.ok (some i):=rfl
@[simp] theorem pAt_a(a:EF)(ρ:Env):pAt a ρ=(a ρ).bind intK:=rfl
@[simp] theorem eSl_a(a:EF)(lo hi:PF)(ρ:Env):eSl a lo hi ρ=(a ρ).bind λ x=>(lo ρ).bind λ l=>(hi ρ).bind λ h=>oSl x l h:=rfl
@[simp] theorem iSeq_a(a:EF)(ρ:Env):iSeq a ρ=(a ρ).bind iterD:=rfl
def rng1K:D->Res (List D)
 | .int j=>.ok (zints 0 j.toNat)
 | _=>.bad
@[simp] theorem iRng1_a(a:EF)(ρ:Env):iRng1 a ρ=(a ρ).bind rng1K:=rfl
@[simp] theorem rng1K_int(j:Int):rng1K (.int j)=.ok (zints 0 j.toNat):=rfl
def rng2K:D->D->Res (List D)
 | .int i,.int j=>.ok (zints i (j-i).toNat)
 | _,_=>.bad
@[simp] theorem iRng2_a(a b:EF)(ρ:Env):iRng2 a b ρ=(a ρ).bind λ x=>(b ρ).bind λ y=>rng2K x y:=rfl
@[simp] theorem rng2K_int(i j:Int):rng2K (.int i) (.int j)=.ok (zints i (j-i).toNat):=rfl
@[simp] theorem iterD_tup(xs:List D):iterD (.tup xs)=.ok xs:=rfl
@[simp] theorem iterD_lst(xs:List D):iterD (.lst xs)=.ok xs:=rfl
@[simp] theorem iterD_str(cs:List Nat):iterD (.str cs)=.ok (cs.map λ c=>.str [c]):=rfl
@[simp] theorem gName_a(i:Nat)(d:D)(ρ:Env):gName i d ρ=.ok (ρ.set i (some (.val d))):=rfl
theorem lComp_a(it:LF)(n:Nat)(is:List Nat)(g:GF)(t:TF)(e:EF)(ρ:Env):lComp it n is g t e ρ=(it ρ).bind λ ds=>guard (ds.length≤line) (compGo g t e (List.replicate n none++capt ρ is) ds):=rfl
@[simp] theorem lDisp_a(as:AF)(ρ:Env):lDisp as ρ=(as ρ).bind λ xs=>guard (xs.length≤line) (.ok xs):=rfl
@[simp] theorem eTup_a(as:AF)(ρ:Env):eTup as ρ=(as ρ).bind λ xs=>guard (xs.length≤line) (.ok (.tup xs)):=rfl
def retK:Res Fl->Res D
 | .ok (.rt d)=>.ok d
 | .ok (.nx _)=>.ok .non
 | _=>.bad
@[simp] theorem retK_rt(d:D):retK (.ok (.rt d))=.ok d:=rfl
@[simp] theorem retK_nx(ρ:Env):retK (.ok (.nx ρ))=.ok .non:=rfl
theorem fn_a(ps n:Nat)(b:SF)(ds:List D)(h:ds.length=ps):fn ps n b ds=retK (b (start n ds)):=by
 unfold fn;rw[if_pos h];cases b (start n ds)with
 | bad=>rfl
 | ok f=>cases f<;>rfl
theorem mulFits_l{a b:Int}(h1:-18446744073709551616 < a)(h2:a < 18446744073709551616):mulFits a b:=by unfold mulFits;exact .inl ⟨h1,h2⟩
theorem mulFits_r{a b:Int}(h1:-18446744073709551616 < b)(h2:b < 18446744073709551616):mulFits a b:=by unfold mulFits;exact .inr (.inl ⟨h1,h2⟩)
theorem divFits_of{b:Int}(h0:0 < b)(h:b < 1809251394333065553493296640760748560207343510400633813116524750123642650624):divFits b:=by exact⟨h0,h⟩
theorem ix_str{cs:List Nat}{i:Int}(h0:0≤i)(h1:i < cs.length)(hl:cs.length≤line):∃c∈cs,oIx (.str cs) (.int i)=.ok (.str [c]):=by
 have hj:i.toNat < cs.length:=by lia
 refine⟨cs[i.toNat],List.getElem_mem hj,?_⟩;simp[oIx,hl,ixZ,h0,h1,hj]
@[simp] theorem ints_len(lo:Int)(n:Nat):(zints lo n).length=n:=by simp[zints]
theorem cut_len{α:Type}(xs:List α)(lo hi:Option Int):(cut xs lo hi).length≤xs.length:=by unfold cut;rw[List.length_take,List.length_drop];lia
@[simp] theorem lSl_a(xs:List D)(a:EF)(lo hi:PF)(ρ:Env)(h:a ρ=.ok (.lst xs)):lSl a lo hi ρ=(lo ρ).bind λ l=>(hi ρ).bind λ h=>.ok (cut xs l h):=by unfold lSl;rw[h];rfl
theorem compGo_map{g:GF}{e:EF}{ρ:Env}{h:D->D}:∀(ds:List D),(∀d∈ds,(g d ρ).bind e=.ok (h d))->compGo g tTrue e ρ ds=.ok (ds.map h)
 | [],_=>rfl
 | d :: ds,k=>by have h1:=k d List.mem_cons_self;have h2:=compGo_map ds (λ x hx=>k x (List.mem_cons_of_mem _ hx));obtain⟨ρ1,e1,e2⟩:=Res.ax h1;simp[compGo,e1,tTrue,e2,h2]
theorem compGo_filter{g:GF}{t:TF}{e:EF}{ρ:Env}{p:D->Bool}{h:D->D}:∀(ds:List D),(∀d∈ds,∃ρ1,g d ρ=.ok ρ1∧t ρ1=.ok (p d)∧(p d=true->e ρ1=.ok (h d)))->compGo g t e ρ ds=.ok ((ds.filter p).map h)
 | [],_=>rfl
 | d :: ds,k=>by
  obtain⟨ρ1,e1,e2,e3⟩:=k d List.mem_cons_self;have h2:=compGo_filter ds (λ x hx=>k x (List.mem_cons_of_mem _ hx));cases hp:p d with
  | true=>simp[compGo,e1,e2,hp,e3 hp,h2]
  | false=>simp[compGo,e1,e2,hp,h2]
theorem allB_bl:∀(bs:List Bool),allB (bs.map D.bl)=some (bs.all id)
 | []=>rfl
 | b :: bs=>by simp[allB,allB_bl bs]
@[simp high] theorem gt0{α:Type _}(a:α)(l:List α):(a :: l)[0]?=some a:=rfl
@[simp high] theorem gtS{α:Type _}(a:α)(l:List α)(n:Nat):(a :: l)[n+1]?=l[n]?:=rfl
@[simp high] theorem st0{α:Type _}(a x:α)(l:List α):(a :: l).set 0 x=x :: l:=rfl
@[simp high] theorem stS{α:Type _}(a x:α)(l:List α)(n:Nat):(a :: l).set (n+1) x=a :: l.set n x:=rfl
end Z
end
set_option maxHeartbeats 4000000
namespace ZS
open PySem PySem.Spec PyProof.Rows L2
abbrev St:=L2.St
def keyZ:Sum Int (List Nat)->Key
 | .inl i=>.inl i
 | .inr cs=>.inr ⟨cs.toArray⟩
def FzL(K:PySem.W.Frag)(H:Hp)(a:Addr)(xs:List V):Prop :=
 (∃ o,H a=some (.frz o (.lst xs))) ∨
  ∃(o:Obj) (its:Array Value) (n:Nat),K.lookup a=some o∧o.cls=.type "list" ∧ o.dict=none∧o.data=.seq its n∧its.size≤sizeLine∧Vals xs its.toList
theorem FzL.sq{K:PySem.W.Frag}{H:Hp}{a:Addr}{xs:List V}(h:FzL K H a xs):SqL K H a xs:=by
 rcases h with⟨o,h⟩ | h
 ·exact .inl (.inr ⟨o,h⟩)
 ·exact .inr h
structure Stb(H H':Hp):Prop where
 tup:∀a xs,H a=some (.tup xs)->H' a=some (.tup xs)
 frz:∀a o u,H a=some (.frz o u)->H' a=some (.frz o u)
theorem Stb.refl(H:Hp):Stb H H:=⟨λ _ _ h=>h,λ _ _ _ h=>h⟩
theorem Stb.trans{H H1 H2:Hp}(a:Stb H H1)(b:Stb H1 H2):Stb H H2:=⟨λ c xs h=>b.tup c xs (a.tup c xs h),λ c o u h=>b.frz c o u (a.frz c o u h)⟩
theorem stb{H H':Hp}(s:aJ H H'):Stb H H':=⟨λ _ _ h=>s _ _ h,λ _ _ _ h=>s _ _ h⟩
theorem stb_upd{H:Hp}{p:Addr}{o u:HO}(h:H p=some o)(n1:∀xs,o≠.tup xs)(n2:∀ob x,o≠.frz ob x):Stb H (upd H p u) :=
 ⟨λ a xs e=>by rw[aM (by rintro rfl;rw[h]at e;exact n1 xs (Option.some.inj e))];exact e,λ a ob x e=>by rw[aM (by rintro rfl;rw[h]at e;exact n2 ob x (Option.some.inj e))];exact e⟩
theorem stb_lst{H:Hp}{p:Addr}{xs:List V}{u:HO}(h:H p=some (.lst xs)):Stb H (upd H p u):=stb_upd h (λ _ z=>nomatch z) (λ _ _ z=>nomatch z)
theorem FzL.mono{K:PySem.W.Frag}{H H':Hp}{a:Addr}{xs:List V}(e:Stb H H')(h:FzL K H a xs):FzL K H' a xs:=by
 rcases h with⟨o,h⟩ | h
 ·exact .inl ⟨o,e.frz _ _ _ h⟩
 ·exact .inr h
theorem sqT_mono{K:PySem.W.Frag}{H H':Hp}{a:Addr}{xs:List V}(e:Stb H H')(h:SqT K H a xs):SqT K H' a xs:=by
 rcases h with(h | ⟨o,h⟩) | h
 ·exact .inl (.inl (e.tup _ _ h))
 ·exact .inl (.inr ⟨o,e.frz _ _ _ h⟩)
 ·exact .inr h
mutual
def Den(K:PySem.W.Frag)(H:Hp):Z.D->V->Prop
 | .non,v=>v=.non
 | .bl b,v=>v=.bl b
 | .int i,v=>v=.int i
 | .str cs,v=>v=.str ⟨cs.toArray⟩
 | .tup ds,v=>∃a vs,v=.ref a∧SqT K H a vs∧aE K H ds vs
 | .lst ds,v=>∃a vs,v=.ref a∧FzL K H a vs∧aE K H ds vs
 | .dct ks ds,v=>∃a o kvs,v=.ref a∧H a=some (.frz o (.dK kvs))∧kvs.map (·.1)=ks.map keyZ∧aE K H ds (kvs.map (·.2))
def aE(K:PySem.W.Frag)(H:Hp):List Z.D->List V->Prop
 | [],vs=>vs=[]
 | d :: ds,vs=>∃v r,vs=v :: r∧Den K H d v∧aE K H ds r
end
section
variable {K:PySem.W.Frag}{H H':Hp}
mutual
theorem Den.mono(e:Stb H H'):∀(d:Z.D)(v:V),Den K H d v->Den K H' d v
 | .non,v,h=>by simp only[Den]at h ⊢;exact h
 | .bl b,v,h=>by simp only[Den]at h ⊢;exact h
 | .int i,v,h=>by simp only[Den]at h ⊢;exact h
 | .str cs,v,h=>by simp only[Den]at h ⊢;exact h
 | .tup ds,v,h=>by simp only[Den]at h ⊢;obtain⟨a,vs,e1,q,r⟩:=h;exact⟨a,vs,e1,sqT_mono e q,aE.mono e ds vs r⟩
 | .lst ds,v,h=>by simp only[Den]at h ⊢;obtain⟨a,vs,e1,q,r⟩:=h;exact⟨a,vs,e1,q.mono e,aE.mono e ds vs r⟩
 | .dct ks ds,v,h=>by simp only[Den]at h ⊢;obtain⟨a,o,kvs,e1,q,k,r⟩:=h;exact⟨a,o,kvs,e1,e.frz _ _ _ q,k,aE.mono e ds _ r⟩
theorem aE.mono(e:Stb H H'):∀(ds:List Z.D)(vs:List V),aE K H ds vs->aE K H' ds vs
 | [],vs,h=>by simp only[aE]at h ⊢;exact h
 | d :: ds,vs,h=>by simp only[aE]at h ⊢;obtain⟨v,r,e1,q,t⟩:=h;exact⟨v,r,e1,Den.mono e d v q,aE.mono e ds r t⟩
end
theorem Den.up{d:Z.D}{v:V}(h:Den K H d v)(e:aJ H H'):Den K H' d v:=Den.mono (stb e) d v h
theorem Den.ups{d:Z.D}{v:V}(h:Den K H d v)(e:Stb H H'):Den K H' d v:=Den.mono e d v h
theorem aE.ups{ds:List Z.D}{vs:List V}(h:aE K H ds vs)(e:Stb H H'):aE K H' ds vs:=aE.mono e ds vs h
theorem aE.up{ds:List Z.D}{vs:List V}(h:aE K H ds vs)(e:aJ H H'):aE K H' ds vs:=aE.mono (stb e) ds vs h
theorem aE.nil:aE K H [] []:=by simp only[aE]
theorem aE.cons{d:Z.D}{ds:List Z.D}{v:V}{vs:List V}(h:Den K H d v)(t:aE K H ds vs):aE K H (d :: ds) (v :: vs):=by simp only[aE];exact⟨v,vs,rfl,h,t⟩
theorem aE.length:∀{ds:List Z.D}{vs:List V},aE K H ds vs->vs.length=ds.length
 | [],vs,h=>by simp only[aE]at h;subst h;rfl
 | d :: ds,vs,h=>by simp only[aE]at h;obtain⟨v,r,rfl,_,t⟩:=h;simp[aE.length t]
theorem aE.get:∀{ds:List Z.D}{vs:List V}{i:Nat}{d:Z.D},aE K H ds vs->ds[i]?=some d->∃v,vs[i]?=some v∧Den K H d v
 | [],_,_,_,_,e=>by simp at e
 | x :: ds,vs,0,d,h,e=>by simp only[aE]at h;obtain⟨v,r,rfl,q,_⟩:=h;simp at e;subst e;exact⟨v,rfl,q⟩
 | x :: ds,vs,i+1,d,h,e=>by simp only[aE]at h;obtain⟨v,r,rfl,_,t⟩:=h;obtain⟨u,h1,h2⟩:=aE.get (i:=i) t (by simpa using e);exact⟨u,by simpa using h1,h2⟩
theorem aE.append:∀{ds es:List Z.D}{vs us:List V},aE K H ds vs->aE K H es us->aE K H (ds++es) (vs++us)
 | [],_,_,_,h,g=>by simp only[aE]at h;subst h;exact g
 | d :: ds,es,vs,us,h,g=>by simp only[aE]at h;obtain⟨v,r,rfl,q,t⟩:=h;exact aE.cons q (aE.append t g)
theorem aE.drop:∀{ds:List Z.D}{vs:List V}(n:Nat),aE K H ds vs->aE K H (ds.drop n) (vs.drop n)
 | _,_,0,h=>by simpa using h
 | [],vs,_+1,h=>by simp only[aE]at h;subst h;simpa using aE.nil
 | d :: ds,vs,n+1,h=>by simp only[aE]at h;obtain⟨v,r,rfl,q,t⟩:=h;simpa using aE.drop n t
theorem aE.take:∀{ds:List Z.D}{vs:List V}(n:Nat),aE K H ds vs->aE K H (ds.take n) (vs.take n)
 | _,_,0,h=>by simpa using aE.nil
 | [],vs,_+1,h=>by simp only[aE]at h;subst h;simpa using aE.nil
 | d :: ds,vs,n+1,h=>by simp only[aE]at h;obtain⟨v,r,rfl,q,t⟩:=h;simpa using aE.cons q (aE.take n t)
theorem aE.zints:∀(ns:List Int),aE K H (ns.map Z.D.int) (ns.map V.int)
 | []=>aE.nil
 | n :: ns=>aE.cons (by simp only[Den]) (aE.zints ns)
def DenW(K:PySem.W.Frag)(H:Hp)(d:Z.D)(v:V):Prop:=Den K H d v∨∃ds a vs,d=.lst ds∧v=.ref a∧H a=some (.lst vs)∧aE K H ds vs
theorem DenW.up{d:Z.D}{v:V}(h:DenW K H d v)(e:aJ H H'):DenW K H' d v:=by
 rcases h with h | ⟨ds,a,vs,e1,e2,q,t⟩
 ·exact .inl (h.up e)
 ·exact .inr ⟨ds,a,vs,e1,e2,e _ _ q,t.up e⟩
theorem DenW.strong{d:Z.D}{v:V}(h:DenW K H d v)(n:∀ds,d≠.lst ds):Den K H d v:=by
 rcases h with h | ⟨ds,a,vs,e1,_⟩
 ·exact h
 ·exact absurd e1 (n ds)
theorem DenW.non{v:V}(h:DenW K H .non v):v=.non:=by have:=h.strong (λ _ z=>nomatch z);simpa only[Den]using this
theorem DenW.bl{b:Bool}{v:V}(h:DenW K H (.bl b) v):v=.bl b:=by have:=h.strong (λ _ z=>nomatch z);simpa only[Den]using this
theorem DenW.int{i:Int}{v:V}(h:DenW K H (.int i) v):v=.int i:=by have:=h.strong (λ _ z=>nomatch z);simpa only[Den]using this
theorem DenW.str{cs:List Nat}{v:V}(h:DenW K H (.str cs) v):v=.str ⟨cs.toArray⟩:=by have:=h.strong (λ _ z=>nomatch z);simpa only[Den]using this
theorem DenW.tup{ds:List Z.D}{v:V}(h:DenW K H (.tup ds) v):∃a vs,v=.ref a∧SqT K H a vs∧aE K H ds vs:=by have:=h.strong (λ _ z=>nomatch z);simpa only[Den]using this
theorem DenW.lst{ds:List Z.D}{v:V}(h:DenW K H (.lst ds) v):∃a vs,v=.ref a∧SqL K H a vs∧aE K H ds vs:=by
 rcases h with h | ⟨es,a,vs,e1,e2,q,t⟩
 ·simp only[Den]at h;obtain⟨a,vs,e,q,t⟩:=h;exact⟨a,vs,e,q.sq,t⟩
 ·cases e1;exact⟨a,vs,e2,.inl (.inl q),t⟩
theorem DenW.dct{ks:List (Sum Int (List Nat))}{ds:List Z.D}{v:V}(h:DenW K H (.dct ks ds) v):∃a o kvs,v=.ref a∧H a=some (.frz o (.dK kvs))∧kvs.map (·.1)=ks.map keyZ∧aE K H ds (kvs.map (·.2)):=by have:=h.strong (λ _ z=>nomatch z);simpa only[Den]using this
theorem den_non:Den K H .non .non:=by simp only[Den]
theorem den_bl{b:Bool}:Den K H (.bl b) (.bl b):=by simp only[Den]
theorem den_int{i:Int}:Den K H (.int i) (.int i):=by simp only[Den]
theorem den_str{cs:List Nat}:Den K H (.str cs) (.str ⟨cs.toArray⟩):=by simp only[Den]
theorem den_tup{ds:List Z.D}{a:Addr}{vs:List V}(h:SqT K H a vs)(t:aE K H ds vs):Den K H (.tup ds) (.ref a):=by simp only[Den];exact⟨a,vs,rfl,h,t⟩
theorem den_lst{ds:List Z.D}{a:Addr}{vs:List V}(h:FzL K H a vs)(t:aE K H ds vs):Den K H (.lst ds) (.ref a):=by simp only[Den];exact⟨a,vs,rfl,h,t⟩
end
def entI(x:List Int×Addr×Value):DictEntry:={ hash:=reduceHash (Builtin.Tuple.tupleHashOf (x.1.map hashInt)),key:=.ref x.2.1,val:=x.2.2 }
def DicAt(a:Addr)(ks:List (List Int))(as:List Addr)(h:Heap):Prop:=ks.length≤sizeLine∧(a==sysModules)=false∧∃(xs:List (List Int×Addr×Value))(o:Obj)(es:Array DictEntry)(ep:Nat),xs.map (·.1)=ks∧xs.map (·.2.1)=as∧h.get? a=some o∧o.ExactDict∧o.data=.dict es ep∧es.toList=xs.map entI∧ks.Nodup
abbrev DicO(a:Addr)(ks:List (List Int))(as:List Addr):HO:=.ext (DicAt a ks as)
def KeysAt(K:PySem.W.Frag)(H:Hp)(ks:List (List Int))(as:List Addr):Prop:=Paired (λ(k:List Int) (b:Addr)=>Den K H (.tup (k.map .int)) (.ref b)) ks as
def kvI(ps:List (Int×Int)):List (Key×V):=ps.map λ p=>(Sum.inl p.1,V.int p.2)
def xcIn(K:PySem.W.Frag)(C:Addr):Bool:=match K.lookup C with
 | some ⟨.type "type",_,.cls cd,sl⟩=>(match cd.mro,sl.toList with
  | .ref C' :: tl,[_,_,_,_,some (.builtin n),_]=>C'==C&&n == "ValueError.__new__" && !cd.hasDel&&tl.contains (.type "BaseException")
  | _,_=>false)
 | _=>false
def XC(K:PySem.W.Frag)(c:List Nat)(C:Addr):Prop:=PySem.W.nsIn K mainGlobals ⟨c.toArray⟩=some (some (.ref C))∧xcIn K C=true
def XD(K:PySem.W.Frag)(H:Hp):Option Addr->List (List Nat×Z.D)->Prop
 | none,fs=>fs=[]
 | some dx,fs=>fs≠[]∧∃od kvs,H dx=some (.frz od (.xd kvs))∧Paired (λ(p:Str×V) (q:List Nat×Z.D)=>p.1=⟨q.1.toArray⟩∧Den K H q.2 p.2) kvs fs
theorem XD.ups{K:PySem.W.Frag}{H H':Hp}{dd:Option Addr}{fs:List (List Nat×Z.D)}(h:XD K H dd fs)(e:Stb H H'):XD K H' dd fs:=by
 cases dd with
 | none=>exact h
 | some dx =>obtain⟨n,od,kvs,q,p⟩:=h;exact⟨n,od,kvs,e.frz _ _ _ q,Paired.mapP p λ _ _ z=>⟨z.1,z.2.ups e⟩⟩
def XRel(K:PySem.W.Frag)(H:Hp)(c:List Nat×List (List Nat×Z.D))(C:Addr)(dd:Option Addr):Prop:=XC K c.1 C∧XD K H dd c.2
theorem XRel.ups{K:PySem.W.Frag}{H H':Hp}{c:List Nat×List (List Nat×Z.D)}{C:Addr}{dd:Option Addr}(h:XRel K H c C dd)(e:Stb H H'):XRel K H' c C dd:=⟨h.1,h.2.ups e⟩
def RL(K:PySem.W.Frag)(H:Hp):Z.L->V->Prop
 | .val d,v=>Den K H d v
 | .own ds,v=>∃a vs,v=.ref a∧H a=some (.lst vs)∧aE K H ds vs
 | .bor ds,v=>DenW K H (.lst ds) v
 | .dic ks,v=>∃a as,v=.ref a∧H a=some (DicO a ks as)∧KeysAt K H ks as
 | .fdc ks,v=>∃a o as,v=.ref a∧H a=some (.frz o (DicO a ks as))∧KeysAt K H ks as
 | .idc ps,v=>∃a o,v=.ref a∧H a=some (.frz o (.dK (kvI ps)))
 | .exc c,v=>∃a o u C,v=.ref a∧H a=some (.frz o u)∧o.cls=.ref C∧(∃vs,o.data=.fields vs)∧XRel K H c C o.dict
theorem KeysAt.ups{K:PySem.W.Frag}{H H':Hp}{ks:List (List Int)}{as:List Addr}(h:KeysAt K H ks as)(e:Stb H H'):KeysAt K H' ks as:=Paired.mapP h λ _ _ d=>Den.ups d e
structure RE(K:PySem.W.Frag)(H:Hp)(σ:St)(ρ:Z.Env):Prop where
 len:ρ.length=σ.length
 get:∀(i:Nat)(l:Z.L),ρ[i]?=some (some l)->∃v,σ[i]?=some (some v)∧RL K H l v
 sep:∀(i j:Nat)(xs ys:List Z.D)(a:Addr),ρ[i]?=some (some (.own xs))->ρ[j]?=some (some (.own ys))->σ[i]?=some (some (.ref a))->σ[j]?=some (some (.ref a))->i=j
section
variable {K:PySem.W.Frag}{H H':Hp}{σ:St}{ρ:Z.Env}
theorem RL.up{l:Z.L}{v:V}(h:RL K H l v)(e:aJ H H'):RL K H' l v:=by
 cases l with
 | val d=>exact Den.up (show Den K H d v from h) e
 | own ds =>obtain⟨a,vs,e1,q,t⟩:=h;exact⟨a,vs,e1,e _ _ q,t.up e⟩
 | bor ds=>exact DenW.up (show DenW K H (.lst ds) v from h) e
 | dic ks =>obtain⟨a,as,e1,q,t⟩:=h;exact⟨a,as,e1,e _ _ q,t.ups (stb e)⟩
 | fdc ks =>obtain⟨a,o,as,e1,q,t⟩:=h;exact⟨a,o,as,e1,e _ _ q,t.ups (stb e)⟩
 | idc ps =>obtain⟨a,o,e1,q⟩:=h;exact⟨a,o,e1,e _ _ q⟩
 | exc c =>obtain⟨a,o,u,C,e1,q,r1,r2,r3⟩:=h;exact⟨a,o,u,C,e1,e _ _ q,r1,r2,r3.ups (stb e)⟩
theorem RE.up(h:RE K H σ ρ)(e:aJ H H'):RE K H' σ ρ :=
 ⟨h.len,λ i l q=>let ⟨v,h1,h2⟩:=h.get i l q;⟨v,h1,h2.up e⟩,h.sep⟩
theorem upd_Same{a:Addr}{o:HO}(h:H a=none):aJ H (upd H a o):=λ b u e=>by rw[aM (ne_of_none e h)];exact e
end
def tZ(K:PySem.W.Frag)(f:Z.EF):TE:=λ σ H Q=>∃ρ d,RE K H σ ρ∧f ρ=.ok d∧∀v H',aJ H H'->Den K H' d v->Q v H'
def tZw(K:PySem.W.Frag)(f:Z.EF):TE:=λ σ H Q=>∃ρ d,RE K H σ ρ∧f ρ=.ok d∧∀v H',aJ H H'->DenW K H' d v->Q v H'
def tZl(K:PySem.W.Frag)(f:Z.LF):TE:=λ σ H Q=>∃ρ ds,RE K H σ ρ∧f ρ=.ok ds∧∀a vs H',aJ H H'->H a=none->H' a=some (.lst vs)->aE K H' ds vs->Q (.ref a) H'
def tZt(K:PySem.W.Frag)(f:Z.TF):TT:=λ σ H Q=>∃ρ b,RE K H σ ρ∧f ρ=.ok b∧∀H',aJ H H'->Q b H'
def tZa(K:PySem.W.Frag)(f:Z.AF):TA:=λ σ H Q=>∃ρ ds,RE K H σ ρ∧f ρ=.ok ds∧∀vs H',aJ H H'->aE K H' ds vs->Q vs H'
def tZp(K:PySem.W.Frag)(f:Z.PF):TO:=λ σ H Q=>∃ρ o,RE K H σ ρ∧f ρ=.ok o∧∀H',aJ H H'->Q o H'
abbrev DE(X:Cx)(e:Expr)(f:Z.EF):Prop:=PE X e (tZ X.K f)
abbrev DW(X:Cx)(e:Expr)(f:Z.EF):Prop:=PE X e (tZw X.K f)
abbrev DL(X:Cx)(e:Expr)(f:Z.LF):Prop:=PE X e (tZl X.K f)
abbrev DT(X:Cx)(e:Expr)(f:Z.TF):Prop:=PT X e (tZt X.K f)
abbrev DTW(X:Cx)(e:Expr)(f:Z.TF):Prop:=PW X e (tZt X.K f)
abbrev DA(X:Cx)(es:List Expr)(f:Z.AF):Prop:=PA X es (tZa X.K f)
abbrev DP(X:Cx)(e:Option Expr)(f:Z.PF):Prop:=PO X e (tZp X.K f)
section
variable {X:Cx}{e a b c:Expr}{es:List Expr}{pos:Pos}{f fa fb fc:Z.EF}
theorem PE.imp{t t':TE}(h:PE X e t)(k:∀σ H Q,t' σ H Q->t σ H Q):PE X e t':=λ pins s σ H Q I w=>h pins s σ H Q I (k σ H Q w)
theorem PT.imp{t t':TT}(h:PT X e t)(k:∀σ H Q,t' σ H Q->t σ H Q):PT X e t':=λ pins s σ H Q I w=>h pins s σ H Q I (k σ H Q w)
theorem PW.imp{t t':TT}(h:PW X e t)(k:∀σ H Q,t' σ H Q->t σ H Q):PW X e t':=λ whole pins s σ H Q I w=>h whole pins s σ H Q I (k σ H Q w)
theorem PA.imp{t t':TA}(h:PA X es t)(k:∀σ H Q,t' σ H Q->t σ H Q):PA X es t':=λ p pins s σ H Q I w=>h p pins s σ H Q I (k σ H Q w)
theorem PO.imp{o:Option Expr}{t t':TO}(h:PO X o t)(k:∀σ H Q,t' σ H Q->t σ H Q):PO X o t':=λ pins s σ H Q I w=>h pins s σ H Q I (k σ H Q w)
theorem de_c{v:V}{d:Z.D}(h:PE X e (tC v))(hd:∀H,Den X.K H d v):DE X e (Z.eC d):=PE.imp h λ σ H Q ⟨ρ,d',_,e,k⟩=>by have e':Z.Res.ok d=Z.Res.ok d':=e;cases e';exact k v H (aJ.refl H) (hd H)
theorem ag{i:Int}{j}:DE X (.Constant (.int i) j pos) (Z.eC (.int i)):=de_c pe_int λ _=>den_int
theorem de_bl{x:Bool}{j}:DE X (.Constant (.bool x) j pos) (Z.eC (.bl x)):=de_c pe_bl λ _=>den_bl
theorem de_non{j}:DE X (.Constant .none j pos) (Z.eC .non):=de_c pe_non λ _=>den_non
theorem de_str{x:Str}{cs:List Nat}{j}(h:x=⟨cs.toArray⟩):DE X (.Constant (.str x) j pos) (Z.eC (.str cs)):=by subst h;exact de_c pe_str λ _=>den_str
theorem eV_ok{i:Nat}{ρ:Z.Env}{d:Z.D}(h:Z.eV i ρ=.ok d):ρ[i]?=some (some (.val d)):=by
 unfold Z.eV at h;split at h
 ·rename_i d' q;cases h;exact q
 ·cases h
theorem eW_ok{i:Nat}{ρ:Z.Env}{d:Z.D}(h:Z.eW i ρ=.ok d):ρ[i]?=some (some (.val d))∨(∃xs,ρ[i]?=some (some (.own xs))∧d=.lst xs)∨∃xs,ρ[i]?=some (some (.bor xs))∧d=.lst xs:=by
 unfold Z.eW at h;split at h
 ·rename_i d' q;cases h;exact .inl q
 ·rename_i xs q;cases h;exact .inr (.inl ⟨xs,q,rfl⟩)
 ·rename_i xs q;cases h;exact .inr (.inr ⟨xs,q,rfl⟩)
 ·cases h
theorem de_var{i:Nat}(h:PE X e (tVar i)):DE X e (Z.eV i):=PE.imp h λ σ H Q ⟨ρ,d,r,e,k⟩=>by obtain⟨v,h1,h2⟩:=r.get i _ (eV_ok e);exact⟨v,h1,k v H (aJ.refl H) h2⟩
theorem dw_var{i:Nat}(h:PE X e (tVar i)):DW X e (Z.eW i):=PE.imp h λ σ H Q ⟨ρ,d,r,e,k⟩=>by
 rcases eW_ok e with q | ⟨xs,q,rfl⟩ | ⟨xs,q,rfl⟩
 rotate_left;rotate_left
 ·obtain⟨v,h1,h2⟩:=r.get i _ q;exact⟨v,h1,k v H (aJ.refl H) h2⟩
 ·obtain⟨v,h1,h2⟩:=r.get i _ q;exact⟨v,h1,k v H (aJ.refl H) (.inl h2)⟩
 ·obtain⟨v,h1,a,vs,rfl,h2,h3⟩:=r.get i _ q;exact⟨_,h1,k _ H (aJ.refl H) (.inr ⟨xs,a,vs,rfl,rfl,h2,h3⟩)⟩
theorem av(i:Nat){x:Str}(hN:X.N[i]?=some x:=by rfl)(hv:Vis X.env.scope x:=by first | exact Or.inl rfl | exact Or.inr (Or.inl rfl) | exact Or.inr (Or.inr rfl))(hd:(x==("__debug__" : Str))=false:=by decide +kernel)
  (hcd:(x==("__classdict__" : Str))=false:=by decide +kernel):DE X (.Name x pos) (Z.eV i):=de_var (pe_var hN hv hd hcd)
theorem aw(i:Nat){x:Str}(hN:X.N[i]?=some x:=by rfl)(hv:Vis X.env.scope x:=by first | exact Or.inl rfl | exact Or.inr (Or.inl rfl) | exact Or.inr (Or.inr rfl))(hd:(x==("__debug__" : Str))=false:=by decide +kernel)
  (hcd:(x==("__classdict__" : Str))=false:=by decide +kernel):DW X (.Name x pos) (Z.eW i):=dw_var (pe_var hN hv hd hcd)
theorem de_glob{x:Str}{u:Value}{v:V}{d:Z.D}(hg:Gl X x)(hm:X.mg x=some u)(r:RelV v u)(hd:∀H,Den X.K H d v)(hb:(x==("__debug__" : Str))=false:=by decide +kernel):DE X (.Name x pos) (Z.eC d) :=
 de_c (pe_glob hg hm r hb) hd
theorem ai(h:DE X e f):DW X e f:=PE.imp h λ σ H Q ⟨ρ,d,r,e,k⟩=>⟨ρ,d,r,e,λ v H' s q=>k v H' s (.inl q)⟩
theorem dw_l{l:Z.LF}(h:DL X e l):DW X e (Z.eL l):=PE.imp h λ σ H Q ⟨ρ,d,r,e,k⟩=>by
 unfold Z.eL at e;cases q:l ρ with
 | bad=>rw[q]at e;cases e
 | ok ds =>rw[q]at e;cases e;exact⟨ρ,ds,r,q,λ a vs H' s hn h1 h2=>k _ H' s (.inr ⟨ds,a,vs,rfl,rfl,h1,h2⟩)⟩
theorem inv_freeze{pins : List (Addr × Obj)}{σ : St}{H : Hp}{s : Shared}{p : Addr}{xs : List V}(I : Inv X pins σ H s)(h : H p = some (.lst xs)): ∃o, Inv X pins σ (upd H p (.frz o (.lst xs))) s := by
 obtain⟨z,its,n,r,ho⟩:=I.hok p _ h;refine⟨_,I.un (H':=upd H p (.frz { cls:=.type "list",data:=.seq its.toArray n } (.lst xs))) (h':=s.heap) (t':=s.toks) ?_ ?_⟩
 ·have ne:∀b,H b=none->b≠p:=λ b e q=>by rw[q,h]at e;cases e
  refine⟨λ b o q _ _ _=>q,λ b o q _ _ _=>⟨o.slots,q⟩,λ b o q e _=>by rw[aM (ne b e)];exact e,λ b o q _=>⟨o,q⟩,λ b ys e=>?_,λ b o u e=>?_,λ b u pr e=>?_⟩
  ·have:b≠p:=by rintro rfl;rw[h]at e;cases e
   rw[aM this];exact e
  ·have:b≠p:=by rintro rfl;rw[h]at e;cases e
   rw[aM this];exact e
  ·have:b≠p:=by rintro rfl;rw[h]at e;cases e;exact pr
   rw[aM this];exact e
 ·intro b u e;by_cases hb:b=p
  ·subst hb;rw[upd_same]at e;cases e;exact⟨ho,z,its,n,r,ho⟩
  ·rw[aM hb]at e;refine(I.hok b u e).stay (λ c w _ q=>q) (λ c q=>?_) (λ c ys q=>?_) λ c v pr q=>?_
   ·have:c≠p:=by rintro rfl;rw[h]at q;cases q
    rw[aM this];exact q
   ·have:c≠p:=by rintro rfl;rw[h]at q;cases q
    rw[aM this];exact q
   ·have:c≠p:=by rintro rfl;rw[h]at q;cases q;exact pr
    rw[aM this];exact q
theorem same_frz{H H1:Hp}{p:Addr}{o:Obj}{xs:List V}(s:aJ H H1)(hn:H p=none):aJ H (upd H1 p (.frz o (.lst xs))):=λ b u e=>by rw[aM (ne_of_none e hn)];exact s b u e
theorem de_l{l:Z.LF}(h:DL X e l):DE X e (Z.eL l):=by
 intro pins s σ H Q I w;obtain⟨ρ,d,r,e,k⟩:=w;unfold Z.eL at e;cases q:l ρ with
 | bad=>rw[q]at e;cases e
 | ok ds =>rw[q]at e;cases e;refine thn (h pins s σ H (λ v H1=>∃a vs,v=.ref a∧aJ H H1∧H a=none∧H1 a=some (.lst vs)∧aE X.K H1 ds vs) I ⟨ρ,ds,r,q,λ a vs H1 s1 hn h1 h2=>⟨a,vs,rfl,s1,hn,h1,h2⟩⟩) ?_;rintro u s' ⟨v,H1,I1,rv,a,vs,rfl,s1,hn,h1,h2⟩;obtain⟨o,I2⟩:=inv_freeze I1 h1;exact⟨_,_,I2,rv,k _ _ (same_frz s1 hn) (den_lst (.inl ⟨o,upd_same⟩) (h2.ups (stb_lst h1)))⟩
def OpZ(K:PySem.W.Frag)(r:R2)(o:Z.D->Z.D->Z.Res Z.D):Prop:=∀(x y:V)(dx dy d:Z.D)(H:Hp)(Q:VK),DenW K H dx x->DenW K H dy y->o dx dy=.ok d->(∀v H',aJ H H'->Den K H' d v->Q v H')->r x y H Q
theorem two{r:R2}{o:Z.D->Z.D->Z.Res Z.D}(hz:OpZ X.K r o):∀σ H Q,tZ X.K (Z.eB o fa fb) σ H Q->tOp r (tZw X.K fa) (tZw X.K fb) σ H Q:=by rintro σ H Q ⟨ρ,d,re,e,k⟩;obtain⟨x,ea,e⟩:=Z.Res.ax e;obtain⟨y,eb,e⟩:=Z.Res.ax e;exact⟨ρ,x,re,ea,λ v H1 s1 d1=>⟨ρ,y,re.up s1,eb,λ u H2 s2 d2=>hz _ _ _ _ _ H2 Q (d1.up s2) d2 e λ w H' s3 dw=>k w H' ((s1.trans s2).trans s3) dw⟩⟩
theorem de_op{op:Operator}{r:R2}{o:Z.D->Z.D->Z.Res Z.D}(hr:OpR X (binaryOp op) r)(hz:OpZ X.K r o)(ha:DW X a fa)(hb:DW X b fb):DE X (.BinOp a op b pos) (Z.eB o fa fb) :=
 PE.imp (pe_op hr ha hb) (two hz)
theorem OpZ.or{K:PySem.W.Frag}{r r':R2}{o:Z.D->Z.D->Z.Res Z.D}(h:∀(x y:V)(dx dy d:Z.D)(H:Hp)(Q:VK),DenW K H dx x->DenW K H dy y->o dx dy=.ok d->(∀v H',aJ H H'->Den K H' d v->Q v H')->r x y H Q∨r' x y H Q):OpZ K (λ x y H Q=>r x y H Q∨r' x y H Q) o:=h
theorem opz_int{K:PySem.W.Frag}{C:Int->Int->Prop}{g:Int->Int->Int}{o:Z.D->Z.D->Z.Res Z.D}(h:∀dx dy d,o dx dy=.ok d->∃i j,dx=.int i∧dy=.int j∧C i j∧d=.int (g i j)):OpZ K (rI C λ i j=>.int (g i j)) o:=by intro x y dx dy d H Q h1 h2 e k;obtain⟨i,j,rfl,rfl,hc,rfl⟩:=h _ _ _ e;exact⟨i,j,h1.int,h2.int,hc,k _ H (aJ.refl H) den_int⟩
theorem opz_int0{K:PySem.W.Frag}{g:Int->Int->V}{gd:Int->Int->Z.D}{o:Z.D->Z.D->Z.Res Z.D}(h:∀dx dy d,o dx dy=.ok d->∃i j,dx=.int i∧dy=.int j∧d=gd i j)(hg:∀i j H,Den K H (gd i j) (g i j)):OpZ K (rI0 g) o:=by intro x y dx dy d H Q h1 h2 e k;obtain⟨i,j,rfl,rfl,rfl⟩:=h _ _ _ e;exact⟨i,j,h1.int,h2.int,k _ H (aJ.refl H) (hg i j H)⟩
theorem de_sub(ha:DW X a fa)(hb:DW X b fb):DE X (.BinOp a .Sub b pos) (Z.eB Z.oSub fa fb):=de_op op_sub (opz_int0 (gd:=λ i j=>.int (i-j)) (λ dx dy d e=>by
 unfold Z.oSub at e;split at e
 ·cases e;exact⟨_,_,rfl,rfl,rfl⟩
 ·cases e) λ _ _ _=>den_int) ha hb
def CMulZ(i j:Int):Prop:=IntMulOk i j
theorem op_mulZ:OpR X (binaryOp .Mult) (rI CMulZ λ i j=>.int (i*j)):=opI λ _ _ _ _ _ _ _ hc q=>mul_int q hc
theorem bits_eq(i:Int):Z.bits i=Builtin.Int.intBits i:=by
 unfold Z.bits Builtin.Int.intBits;by_cases h:i=0
 ·subst h;simp
 ·first
   | (simp[h];done)
   | (rw[if_neg h];simp[h];done)
theorem mulFits_ok{i j:Int}(h:Z.mulFits i j):IntMulOk i j:=by
 unfold Z.mulFits at h;rcases h with h | h | ⟨h1,h2⟩
 ·exact IntMulOk.of_left (intBits_le_64 (by lia) (by lia))
 ·exact IntMulOk.of_right (intBits_le_64 (by lia) (by lia))
 ·rw[bits_eq]at h1 h2;exact mulOk_of_bits h1 h2 (by decide)
theorem de_mul(ha:DW X a fa)(hb:DW X b fb):DE X (.BinOp a .Mult b pos) (Z.eB Z.oMul fa fb):=de_op op_mulZ (opz_int λ dx dy d e=>by
 unfold Z.oMul at e;split at e
 ·unfold Z.guard at e;split at e
  ·rename_i h;cases e;exact⟨_,_,rfl,rfl,mulFits_ok h,rfl⟩
  ·cases e
 ·cases e) ha hb
def CDivZ(_ j:Int):Prop:=Z.divFits j
theorem divFits_ok{j:Int}(h:Z.divFits j):0 < j∧j.natAbs.log2 < 9000:=by
 have h0:=h.1;have h1:=h.2;have hn:j.natAbs≠0:=by lia
 have h2:j.natAbs < 2 ^ 250:=by
  have:(2:Nat) ^ 250=1809251394333065553493296640760748560207343510400633813116524750123642650624:=by decide
  lia
 have:=(Nat.log2_lt hn).mpr h2;exact⟨h0,by lia⟩
theorem op_divZ:OpR X (binaryOp .FloorDiv) (rI CDivZ λ i j=>.int (i / j)):=opI λ i j _ _ _ _ _ hc q=>by obtain⟨h0,h1⟩:=divFits_ok hc;have e:i.fdiv j=i / j:=Int.fdiv_eq_ediv_of_nonneg i (Int.le_of_lt h0);exact floordiv_int (Int.ne_of_gt h0) (by rw[e];exact q) (.inl (PyProof.noPylong_of_log2 h1))
theorem de_div(ha:DW X a fa)(hb:DW X b fb):DE X (.BinOp a .FloorDiv b pos) (Z.eB Z.oDiv fa fb):=de_op op_divZ (opz_int λ dx dy d e=>by
 unfold Z.oDiv at e;split at e
 ·unfold Z.guard at e;split at e
  ·rename_i h;cases e;exact⟨_,_,rfl,rfl,h,rfl⟩
  ·cases e
 ·cases e) ha hb
theorem de_mod(ha:DW X a fa)(hb:DW X b fb):DE X (.BinOp a .Mod b pos) (Z.eB Z.oMod fa fb):=de_op op_mod (opz_int λ dx dy d e=>by
 unfold Z.oMod at e;split at e
 ·unfold Z.guard at e;split at e
  ·rename_i h;cases e;exact⟨_,_,rfl,rfl,h,rfl⟩
  ·cases e
 ·cases e) ha hb
theorem de_pow(ha:DW X a fa)(hb:DW X b fb):DE X (.BinOp a .Pow b pos) (Z.eB Z.oPow fa fb):=de_op op_pow (opz_int λ dx dy d e=>by
 unfold Z.oPow at e;split at e
 ·unfold Z.guard at e;split at e
  ·rename_i h;cases e;exact⟨_,_,rfl,rfl,h,rfl⟩
  ·cases e
 ·cases e) ha hb
def rCatZ(K:PySem.W.Frag):R2:=λ x y H Q=>∃a b xs ys,x=.ref a∧y=.ref b∧SqT K H a xs∧SqT K H b ys∧xs.length+ys.length≤sizeLine ∧
 (xs=[]->Q (.ref b) H)∧(ys=[]->Q (.ref a) H)∧(∀p,H p=none->Q (.ref p) (upd H p (.tup (xs++ys))))
theorem op_catZ:OpR X (binaryOp .Add) (rCatZ X.K):=by
 intro pins s σ H x y v u Q I rx ry h;obtain⟨p,q,xs,ys,rfl,rfl,hp,hq,hz,q0,q1,q2⟩:=h;by_cases hx:xs=[]
 ·cases rx;cases ry;obtain⟨its,r1,ht,_⟩:=I.tuple hp;obtain⟨its2,r2,hb,_⟩:=I.tuple hq;obtain⟨⟨cls,dd,data,sl⟩,ho,hc,n,hd⟩:=id ht;obtain⟨⟨cls2,dd2,data2,sl2⟩,ho2,hc2,n2,hd2⟩:=id hb;simp only at hc hd hc2 hd2;subst hc hd hc2 hd2;have e0:its=[]:=r1.nil_iff.mpr hx;exact concat_meets ⟨_,ho,rfl⟩ ⟨_,ho2,rfl⟩ noFill_tuple_add seq_tuple_add PySem.F.slot_tuple_add PySem.F.entry_tuple_add (PySem.F.args_tuple_add_2 _ _)
   (tuple_addW0 p q its.toArray its2.toArray n n2 dd dd2 sl sl2 (by simp[e0])) ⟨ho,ho2,⟨.ref q,H,I,rfl,q0 hx⟩⟩
 ·exact op_catT pins s σ H _ _ v u Q I rx ry ⟨p,q,xs,ys,rfl,rfl,hp,hq,hx,hz,q1,λ _=>q2⟩
theorem str_app(a b:List Nat):(⟨a.toArray⟩:Str)++(⟨b.toArray⟩:Str)=⟨(a++b).toArray⟩:=by show(⟨a.toArray++b.toArray⟩:Str)=_;simp
theorem aG(ha : DW X a fa)(hb : DW X b fb): DE X (.BinOp a .Add b pos) (Z.eB Z.oAdd fa fb) := de_op (op_add.or (op_add_str.or op_catZ)) (λ x y dx dy d H Q h1 h2 e k => by
 unfold Z.oAdd at e;split at e
 ·cases e;exact .inl ⟨_,_,h1.int,h2.int,k _ H (aJ.refl H) den_int⟩
 ·unfold Z.guard at e;split at e
  ·rename_i as bs h;cases e;refine .inr (.inl ⟨_,_,h1.str,h2.str,?_,?_⟩)
   ·show as.toArray.size+bs.toArray.size≤sizeLine;rw[sizeLine_eq];simpa using h
   ·rw[str_app];exact k _ H (aJ.refl H) den_str
  ·cases e
 ·unfold Z.guard at e;split at e
  ·rename_i as bs h;cases e;obtain⟨p,xs,rfl,hp,t1⟩:=h1.tup;obtain⟨q,ys,rfl,hq,t2⟩:=h2.tup;refine .inr (.inr ⟨p,q,xs,ys,rfl,rfl,hp,hq,?_,?_,?_,?_⟩)
   ·rw[t1.length,t2.length,sizeLine_eq];exact h
   ·rintro rfl;have:as=[]:=List.eq_nil_of_length_eq_zero (by rw[<-t1.length];rfl);subst this;exact k _ H (aJ.refl H) (den_tup hq t2)
   ·rintro rfl;have:bs=[]:=List.eq_nil_of_length_eq_zero (by rw[<-t2.length];rfl);subst this;rw[List.append_nil]at k;exact k _ H (aJ.refl H) (den_tup hp t1)
   ·intro z hn;have s1:aJ H (upd H z (.tup (xs++ys))):=upd_Same hn;exact k _ _ s1 (den_tup (.inl (.inl upd_same)) ((t1.append t2).up s1))
  ·cases e
 ·cases e) ha hb
theorem de_neg(ha:DW X a fa):DE X (.UnaryOp .USub a pos) (Z.eU Z.oNeg fa):=PE.imp (pe_un un_neg ha) λ σ H Q ⟨ρ,d,r,e,k⟩=>by
 obtain⟨x,ea,e⟩:=Z.Res.ax e;refine⟨ρ,x,r,ea,λ v H1 s1 d1=>?_⟩;unfold Z.oNeg at e;split at e
 ·cases e;exact⟨_,d1.int,k _ H1 s1 den_int⟩
 ·cases e
end
end ZS
namespace ZS
section
open PySem Builtin Builtin.Str
theorem len_toArray(t:List Nat):(⟨t.toArray⟩:Str).length=t.length:=by simp[Str.length]
theorem clipS(n d:Nat)(i:Int):max 0 (min (if i < 0 then i+(n:Int)else i) (n:Int))=((Z.sIx n d (some i):Nat):Int):=by
 show max 0 (min (if i < 0 then i+(n:Int)else i) (n:Int))=(((if i < 0 then(i+(n:Int)).toNat else min i.toNat n):Nat):Int)
 by_cases h:i < 0
 ·simp only[if_pos h];lia
 ·simp only[if_neg h];lia
theorem slR(a b:Nat):sliceRange (a:Int) (b:Int) 1=(List.range (b-a)).map (λ k=>a+k):=by
 unfold sliceRange;simp only[show(1:Int) > 0 by decide,if_true];have e:(if(a:Int) < (b:Int)then((b:Int)-(a:Int)+1-1) / 1 else 0).toNat=b-a:=by
  split
  ·rw[Int.ediv_one];lia
  ·lia
 rw[e];apply List.map_congr_left;intro k _;lia
theorem idxs(lo hi:Option Int)(n:Nat):strSliceIndices lo hi 1 n=(List.range (Z.sIx n n hi-Z.sIx n 0 lo)).map (λ k=>Z.sIx n 0 lo+k):=by
 unfold strSliceIndices;simp only[show(1:Int) > 0 by decide,if_true];rw[<-slR];cases lo with
 | none =>
  cases hi with
  | none=>rfl
  | some j=>simp only[clipS n n j];rfl
 | some i =>
  cases hi with
  | none=>simp only[clipS n 0 i];rfl
  | some j=>simp only[clipS n 0 i,clipS n n j]
theorem sIx_le(n d:Nat)(hd:d≤n)(o:Option Int):Z.sIx n d o≤n:=by
 cases o with
 | none=>exact hd
 | some v =>show(if v < 0 then(v+(n:Int)).toNat else min v.toNat n)≤n;split<;>lia
theorem pick(cs:List Nat):∀(k a:Nat),a+k≤cs.length->((List.range k).map (λ j=>a+j)).filterMap (λ i=>cs.toArray[i]?)=(cs.drop a).take k:=by
 intro k
 induction k with
 | zero=>intro a _;simp
 | succ k ih =>
  intro a h;rw[List.range_succ,List.map_append,List.filterMap_append,ih a (by lia)];have hlt:a+k < cs.length:=by lia
  rw[List.take_succ];simp[hlt]
theorem strSl(cs:List Nat)(lo hi:Option Int):Txt.slice ⟨cs.toArray⟩ lo hi=⟨(Z.cut cs lo hi).toArray⟩:=by
 unfold Txt.slice;rw[len_toArray,idxs];have h1:=sIx_le cs.length cs.length (Nat.le_refl _) hi;have h0:=sIx_le cs.length 0 (Nat.zero_le _) lo;have hp:((List.range (Z.sIx cs.length cs.length hi-Z.sIx cs.length 0 lo)).map (λ k=>Z.sIx cs.length 0 lo+k)).filterMap (λ i=>cs.toArray[i]?)=Z.cut cs lo hi:=by unfold Z.cut;exact pick cs _ _ (by lia)
 split
 ·rename_i hh;have hlen:(List.range (Z.sIx cs.length cs.length hi-Z.sIx cs.length 0 lo)).length=cs.length:=by simp only[beq_self_eq_true,Bool.true_and,beq_iff_eq,List.length_map]at hh;exact hh
  rw[List.length_range]at hlen;unfold Z.cut;have e0:Z.sIx cs.length 0 lo=0:=by lia
  have e1:Z.sIx cs.length cs.length hi-Z.sIx cs.length 0 lo=cs.length:=by lia
  rw[e1,e0];simp
 ·rw[hp]
end
open PySem PySem.Spec PyProof.Rows L2
section
variable {X:Cx}{e a b c:Expr}{es:List Expr}{pos p:Pos}{f fa fb fc:Z.EF}
theorem de_cmp{op:CmpOp}{r:R2}{o:Z.D->Z.D->Z.Res Z.D}(hr:OpR X (compareOp op) r)(hz:OpZ X.K r o)(ha:DW X a fa)(hb:DW X b fb)(hm:behindInMarks op b=false):DE X (.Compare a [op] [b] pos) (Z.eB o fa fb) :=
 PE.imp (pe_cmpR hr ha hb hm) (two hz)
theorem dt_of{t:TE}(h:PT X e (tTest t))(k:∀σ H Q,tZ X.K f σ H Q->t σ H Q):DT X e (Z.tE f):=PT.imp h λ σ H Q ⟨ρ,b,r,e,q⟩=>by
 obtain⟨x,ea,e⟩:=Z.Res.ax e;refine k σ H _ ⟨ρ,x,r,ea,λ v H' s d=>?_⟩;split at e
 ·cases e;simp only[Den]at d;exact⟨_,d,q H' s⟩
 ·cases e
theorem dt_cmp{op:CmpOp}{r:R2}{o:Z.D->Z.D->Z.Res Z.D}(hr:OpR X (compareOp op) r)(hz:OpZ X.K r o)(ha:DW X a fa)(hb:DW X b fb)(hm:behindInMarks op b=false):DT X (.Compare a [op] [b] pos) (Z.tE (Z.eB o fa fb)) :=
 dt_of (pt_cmpR hr ha hb hm) (two hz)
structure Cmp(X:Cx)(op:CmpOp)(o:Z.D->Z.D->Z.Res Z.D):Prop where
 ex:∃r,OpR X (compareOp op) r∧OpZ X.K r o
theorem de_cmpC{op:CmpOp}{o:Z.D->Z.D->Z.Res Z.D}(h:Cmp X op o)(ha:DW X a fa)(hb:DW X b fb)(hm:behindInMarks op b=false):DE X (.Compare a [op] [b] pos) (Z.eB o fa fb) :=
 let ⟨_,hr,hz⟩:=h.ex;de_cmp hr hz ha hb hm
theorem dt_cmpC{op:CmpOp}{o:Z.D->Z.D->Z.Res Z.D}(h:Cmp X op o)(ha:DW X a fa)(hb:DW X b fb)(hm:behindInMarks op b=false):DT X (.Compare a [op] [b] pos) (Z.tE (Z.eB o fa fb)) :=
 let ⟨_,hr,hz⟩:=h.ex;dt_cmp hr hz ha hb hm
theorem chain_imp{r r':R2}{o o':Z.D->Z.D->Z.Res Z.D}(hz:OpZ X.K r o)(hz':OpZ X.K r' o'):∀σ H Q,tZ X.K (Z.eChain o o' fa fb fc) σ H Q->tChain r r' (tZw X.K fa) (tZw X.K fb) (tZw X.K fc) σ H Q:=by
 rintro σ H Q ⟨ρ,d,re,e,k⟩;obtain⟨x,ea,e⟩:=Z.Res.ax e;obtain⟨y,eb,e⟩:=Z.Res.ax e;obtain⟨z,eo,e⟩:=Z.Res.ax e;refine⟨ρ,x,re,ea,λ v H1 s1 d1=>⟨ρ,y,re.up s1,eb,λ u H2 s2 d2=>hz _ _ _ _ _ H2 _ (d1.up s2) d2 eo λ w H3 s3 dw=>?_⟩⟩;have s13:aJ H H3:=(s1.trans s2).trans s3;split at e
 ·rename_i q;simp only[Den]at dw;refine⟨_,dw,?_⟩;cases q with
  | true =>simp only[if_true]at e ⊢;obtain⟨t,ec,e⟩:=Z.Res.ax e;exact⟨ρ,t,re.up s13,ec,λ v' H4 s4 d4=>hz' _ _ _ _ _ H4 Q ((d2.up s3).up s4) d4 e λ w' H5 s5 dw'=>k w' H5 ((s13.trans s4).trans s5) dw'⟩
  | false =>simp only[Bool.false_eq_true,if_false]at e ⊢;cases e;exact k _ H3 s13 den_bl
 ·cases e
theorem de_chain{op op':CmpOp}{o o':Z.D->Z.D->Z.Res Z.D}(h:Cmp X op o)(h':Cmp X op' o')(ha:DW X a fa)(hb:DW X b fb)(hc:DW X c fc)
  (hm:lastMarks [op,op'] [b,c]=false:=by with_unfolding_all rfl):DE X (.Compare a [op,op'] [b,c] pos) (Z.eChain o o' fa fb fc) :=
 let ⟨_,hr,hz⟩:=h.ex;let ⟨_,hr',hz'⟩:=h'.ex;PE.imp (pe_chain hr hr' ha hb hc hm) (chain_imp hz hz')
theorem dt_chain{op op':CmpOp}{o o':Z.D->Z.D->Z.Res Z.D}(h:Cmp X op o)(h':Cmp X op' o')(ha:DW X a fa)(hb:DW X b fb)(hc:DW X c fc)
  (hm:lastMarks [op,op'] [b,c]=false:=by with_unfolding_all rfl):DT X (.Compare a [op,op'] [b,c] pos) (Z.tE (Z.eChain o o' fa fb fc)) :=
 let ⟨_,hr,hz⟩:=h.ex;let ⟨_,hr',hz'⟩:=h'.ex;dt_of (pt_chain hr hr' ha hb hc hm) (chain_imp hz hz')
theorem c_lt:Cmp X .Lt Z.oLt:=⟨_,op_lt,opz_int0 (gd:=λ i j=>.bl (decide (i < j))) (λ dx dy d e=>by
 unfold Z.oLt at e;split at e
 ·cases e;exact⟨_,_,rfl,rfl,rfl⟩
 ·cases e) λ _ _ _=>den_bl⟩
theorem c_gt:Cmp X .Gt Z.oGt:=⟨_,op_gt,opz_int0 (gd:=λ i j=>.bl (decide (j < i))) (λ dx dy d e=>by
 unfold Z.oGt at e;split at e
 ·cases e;exact⟨_,_,rfl,rfl,rfl⟩
 ·cases e) λ _ _ _=>den_bl⟩
theorem c_ge:Cmp X .GtE Z.oGe:=⟨_,op_ge,opz_int0 (gd:=λ i j=>.bl (decide (j≤i))) (λ dx dy d e=>by
 unfold Z.oGe at e;split at e
 ·cases e;exact⟨_,_,rfl,rfl,rfl⟩
 ·cases e) λ _ _ _=>den_bl⟩
theorem op_le_str:OpR X (compareOp .LtE) (λ x y H Q=>∃i j,x=.str i∧y=.str j∧Q (.bl (!decide (j.cps.toList < i.cps.toList))) H):=by intro pins s σ H x y v u Q I rx ry h;obtain⟨i,j,rfl,rfl,q⟩:=h;obtain⟨t,rfl⟩:=rx;obtain⟨t',rfl⟩:=ry;exact PySem.P.le_str (fin_bl I q rfl)
theorem ltC_eq:∀(a b:List Nat),Z.ltC a b=decide (a < b)
 | [],[]=>by simp[Z.ltC]
 | [],_ :: _=>by simp[Z.ltC]
 | _ :: _,[]=>by simp[Z.ltC]
 | a :: as,b :: bs=>by
  unfold Z.ltC;rw[ltC_eq as bs];by_cases h:a < b
  ·simp[h,List.cons_lt_cons_iff]
  ·by_cases h2:a=b
   ·subst h2;simp[List.cons_lt_cons_iff]
   ·simp[h,h2,List.cons_lt_cons_iff]
theorem c_le:Cmp X .LtE Z.oLe:=⟨_,op_le.or op_le_str,λ x y dx dy d H Q h1 h2 e k=>by
 unfold Z.oLe at e;split at e
 ·cases e;exact .inl ⟨_,_,h1.int,h2.int,k _ H (aJ.refl H) den_bl⟩
 ·cases e;refine .inr ⟨_,_,h1.str,h2.str,?_⟩;rename_i as bs;have q:=k (.bl (!Z.ltC bs as)) H (aJ.refl H) den_bl;rw[ltC_eq]at q;exact q
 ·cases e⟩
def isNon:Z.D->Bool
 | .non=>true
 | _=>false
theorem non_of{K:PySem.W.Frag}{H:Hp}{d:Z.D}{v:V}(h:DenW K H d v):decide (v=.non)=isNon d:=by
 cases d with
 | non=>rw[h.non];rfl
 | bl b=>rw[h.bl];rfl
 | int i=>rw[h.int];rfl
 | str cs=>rw[h.str];rfl
 | tup ds=>obtain⟨a,vs,rfl,_⟩:=h.tup;rfl
 | lst ds=>obtain⟨a,vs,rfl,_⟩:=h.lst;rfl
 | dct ks ds=>obtain⟨a,o,kvs,rfl,_⟩:=h.dct;rfl
theorem isN_imp:∀σ H Q,tZ X.K (Z.eU Z.oIsN fa) σ H Q->tOp (λ x y H Q=>y=.non∧Q (.bl (decide (x=.non))) H) (tZw X.K fa) (tC .non) σ H Q:=by rintro σ H Q ⟨ρ,d,r,e,k⟩;obtain⟨x,ea,e⟩:=Z.Res.ax e;refine⟨ρ,x,r,ea,λ v H1 s1 d1=>⟨rfl,?_⟩⟩;rw[non_of d1];cases x<;>(cases e;exact k _ H1 s1 den_bl)
theorem notN_imp:∀σ H Q,tZ X.K (Z.eU Z.oNotN fa) σ H Q->tOp (λ x y H Q=>y=.non∧Q (.bl (!decide (x=.non))) H) (tZw X.K fa) (tC .non) σ H Q:=by rintro σ H Q ⟨ρ,d,r,e,k⟩;obtain⟨x,ea,e⟩:=Z.Res.ax e;refine⟨ρ,x,r,ea,λ v H1 s1 d1=>⟨rfl,?_⟩⟩;rw[non_of d1];cases x<;>(cases e;exact k _ H1 s1 den_bl)
theorem de_isN{j pos'}(ha:DW X a fa):DE X (.Compare a [.Is] [.Constant .none j pos'] pos) (Z.eU Z.oIsN fa):=PE.imp (pe_cmpR op_isN ha pe_non (nomark _)) isN_imp
theorem dt_isN{j pos'}(ha:DW X a fa):DT X (.Compare a [.Is] [.Constant .none j pos'] pos) (Z.tE (Z.eU Z.oIsN fa)):=dt_of (pt_cmpR op_isN ha pe_non (nomark _)) isN_imp
theorem dt_notN{j pos'}(ha:DW X a fa):DT X (.Compare a [.IsNot] [.Constant .none j pos'] pos) (Z.tE (Z.eU Z.oNotN fa)):=dt_of (pt_cmpR op_notN ha pe_non (nomark _)) notN_imp
theorem de_one{op}(h:DE X a fa):DE X (.BoolOp op [a] pos) fa:=pe_one h
theorem de_and{rest:List Expr}(ha:DE X a fa)(hb:DE X (.BoolOp .And (b :: rest) pos) fb):DE X (.BoolOp .And (a :: b :: rest) pos) (Z.eAnd fa fb):=PE.imp (pe_and ha hb) λ σ H Q ⟨ρ,d,r,e,k⟩=>by
 obtain⟨x,ea,e⟩:=Z.Res.ax e;refine⟨ρ,x,r,ea,λ v H1 s1 d1=>?_⟩;split at e
 ·rename_i q;simp only[Den]at d1;refine⟨q,d1,?_⟩;cases q with
  | true =>simp only[if_true]at e ⊢;exact⟨ρ,d,r.up s1,e,λ w H' s2 dw=>k w H' (s1.trans s2) dw⟩
  | false =>simp only[Bool.false_eq_true,if_false]at e ⊢;cases e;exact k _ H1 s1 den_bl
 ·cases e
theorem de_or{rest:List Expr}(ha:DE X a fa)(hb:DE X (.BoolOp .Or (b :: rest) pos) fb):DE X (.BoolOp .Or (a :: b :: rest) pos) (Z.eOr fa fb):=PE.imp (pe_or ha hb) λ σ H Q ⟨ρ,d,r,e,k⟩=>by
 obtain⟨x,ea,e⟩:=Z.Res.ax e;refine⟨ρ,x,r,ea,λ v H1 s1 d1=>?_⟩;split at e
 ·rename_i q;simp only[Den]at d1;refine⟨q,d1,?_⟩;cases q with
  | false =>simp only[Bool.false_eq_true,if_false]at e ⊢;exact⟨ρ,d,r.up s1,e,λ w H' s2 dw=>k w H' (s1.trans s2) dw⟩
  | true =>simp only[if_true]at e ⊢;cases e;exact k _ H1 s1 den_bl
 ·cases e
theorem de_not(ha:DE X a fa):DE X (.UnaryOp .Not a pos) (Z.eNot fa):=PE.imp (pe_not ha) λ σ H Q ⟨ρ,d,r,e,k⟩=>by
 obtain⟨x,ea,e⟩:=Z.Res.ax e;refine⟨ρ,x,r,ea,λ v H1 s1 d1=>?_⟩;split at e
 ·simp only[Den]at d1;cases e;exact⟨_,d1,k _ H1 s1 den_bl⟩
 ·cases e
theorem tb_imp:∀σ H (Q:Bool->Hp->Prop),tZt X.K (Z.tE f) σ H Q->tB (tZ X.K f) σ H Q:=by
 rintro σ H Q ⟨ρ,b,r,e,q⟩;obtain⟨x,ea,e⟩:=Z.Res.ax e;refine⟨ρ,x,r,ea,λ v H' s d=>?_⟩;split at e
 ·cases e;simp only[Den]at d;exact⟨_,d,q H' s⟩
 ·cases e
theorem dt_e(h:DE X e f)(he:∀whole,isTrue e X.env whole=(do let v ←whole;standAt e.pos;holding [v] (truthy v)):=by intro _;rfl):DT X e (Z.tE f):=PT.imp (pt_val h he) tb_imp
theorem dt_not{t:Z.TF}(h:DT X a t):DT X (.UnaryOp .Not a pos) (Z.tNot t):=PT.imp (pt_not h) λ σ H Q ⟨ρ,b,r,e,q⟩=>by obtain⟨x,ea,e⟩:=Z.Res.ax e;cases e;exact⟨ρ,x,r,ea,λ H' s=>q H' s⟩
theorem dt_and1{t:Z.TF}(h:DT X a t):DTW X (.BoolOp .And [a] pos) t:=pw_and1 h
theorem dt_or1{t:Z.TF}(h:DT X a t):DTW X (.BoolOp .Or [a] pos) t:=pw_or1 h
theorem dt_and{t u:Z.TF}{rest:List Expr}(ha:DT X a t)(hb:DTW X (.BoolOp .And (b :: rest) pos) u):DTW X (.BoolOp .And (a :: b :: rest) pos) (Z.tAnd t u):=PW.imp (pw_and ha hb) λ σ H Q ⟨ρ,d,r,e,k⟩=>by
 obtain⟨x,ea,e⟩:=Z.Res.ax e;refine⟨ρ,x,r,ea,λ H1 s1=>?_⟩;cases x with
 | true =>simp only[if_true]at e ⊢;exact⟨ρ,d,r.up s1,e,λ H' s2=>k H' (s1.trans s2)⟩
 | false =>simp only[Bool.false_eq_true,if_false]at e ⊢;cases e;exact k H1 s1
theorem dt_or{t u:Z.TF}{rest:List Expr}(ha:DT X a t)(hb:DTW X (.BoolOp .Or (b :: rest) pos) u):DTW X (.BoolOp .Or (a :: b :: rest) pos) (Z.tOr t u):=PW.imp (pw_or ha hb) λ σ H Q ⟨ρ,d,r,e,k⟩=>by
 obtain⟨x,ea,e⟩:=Z.Res.ax e;refine⟨ρ,x,r,ea,λ H1 s1=>?_⟩;cases x with
 | false =>simp only[Bool.false_eq_true,if_false]at e ⊢;exact⟨ρ,d,r.up s1,e,λ H' s2=>k H' (s1.trans s2)⟩
 | true =>simp only[if_true]at e ⊢;cases e;exact k H1 s1
theorem dtw{t:Z.TF}(h:DTW X e t):DT X e t:=h.pt
theorem de_ifExp{t:Z.TF}(hc:DT X c t)(ha:DE X a fa)(hb:DE X b fb):DE X (.IfExp c a b pos) (Z.eIf t fa fb):=PE.imp (pe_ifExp hc ha hb) λ σ H Q ⟨ρ,d,r,e,k⟩=>by
 obtain⟨x,ea,e⟩:=Z.Res.ax e;refine⟨ρ,x,r,ea,λ H1 s1=>?_⟩;cases x with
 | true =>simp only[if_true]at e ⊢;exact⟨ρ,d,r.up s1,e,λ w H' s2 dw=>k w H' (s1.trans s2) dw⟩
 | false =>simp only[Bool.false_eq_true,if_false]at e ⊢;exact⟨ρ,d,r.up s1,e,λ w H' s2 dw=>k w H' (s1.trans s2) dw⟩
theorem ao:DA X [] Z.ay:=PA.imp pa_nil λ σ H Q ⟨ρ,ds,r,e,k⟩=>by cases e;exact k [] H (aJ.refl H) aE.nil
theorem da_cons{g:Z.AF}(ha:DE X e f)(hr:DA X es g)(hs:starEach (e :: es) X.env=(false,eval e X.env) :: starEach es X.env:=by rfl):DA X (e :: es) (Z.ae f g):=PA.imp (pa_cons ha hr hs) λ σ H Q ⟨ρ,ds,r,e,k⟩=>by obtain⟨x,ea,e⟩:=Z.Res.ax e;obtain⟨xs,eb,e⟩:=Z.Res.ax e;cases e;exact⟨ρ,x,r,ea,λ v H1 s1 d1=>⟨ρ,xs,r.up s1,eb,λ vs H2 s2 d2=>k _ H2 (s1.trans s2) (aE.cons (d1.up s2) d2)⟩⟩
theorem de_tup{x1}{g:Z.AF}(h:DA X es g):DE X (.Tuple es x1 pos) (Z.eTup g):=PE.imp (pe_tup h) λ σ H Q ⟨ρ,d,r,e,k⟩=>by
 obtain⟨xs,ea,e⟩:=Z.Res.ax e;unfold Z.guard at e;split at e
 ·rename_i hl;cases e;refine⟨ρ,xs,r,ea,λ vs H1 s1 d1=>⟨by rw[d1.length,sizeLine_eq];exact hl,λ q hq=>?_⟩⟩;have s2:aJ H1 (upd H1 q (.tup vs)):=upd_Same hq;exact k _ _ (s1.trans s2) (den_tup (.inl (.inl upd_same)) (d1.up s2))
 ·cases e
theorem dl_disp{g:Z.AF}(h:DA X es g):DL X (.List es pos) (Z.lDisp g):=PE.imp (pe_lst h) λ σ H Q ⟨ρ,d,r,e,k⟩=>by
 obtain⟨xs,ea,e⟩:=Z.Res.ax e;unfold Z.guard at e;split at e
 ·rename_i hl;cases e;refine⟨ρ,_,r,ea,λ vs H1 s1 d1=>⟨by rw[d1.length,sizeLine_eq];exact hl,λ q hq=>?_⟩⟩;have s2:aJ H1 (upd H1 q (.lst vs)):=upd_Same hq;exact k q vs _ (s1.trans s2) (s1.free hq) upd_same (d1.up s2)
 ·cases e
end
end ZS
namespace ZS
open PySem PySem.Spec PyProof.Rows L2
def tyC:Z.Ty->String
 | .bool => "bool" | .int => "int" | .str => "str" | .tuple => "tuple" | .list => "list" | .dict => "dict"
def tyD:Z.D->String
 | .non => "NoneType" | .bl _ => "bool" | .int _ => "int" | .str _ => "str" | .tup _ => "tuple" | .lst _ => "list" | .dct _ _ => "dict"
theorem kit_tab(K:PySem.W.Frag)(t:Z.Ty)(d:Z.D):PySem.W.kitOne K (.type (tyD d)) (.type (tyC t))=some (Z.isTy t d):=by cases t<;>cases d<;>kernel_rfl
section
variable {X:Cx}{e a b c:Expr}{es:List Expr}{pos p:Pos}{f fa fb fc:Z.EF}
theorem isinst_Z{pins:List (Addr×Obj)}{σ:St}{H:Hp}{s:Shared}{A:Around}{E:Value->Shared->Prop}{Q:Value->Shared->Prop}{d:Z.D}{v:V}{u:Value}(t:Z.Ty)(I:Inv X pins σ H s)(hd:DenW X.K H d v)(r:RelV v u)
  (h:∀tk,Q (.bool (Z.isTy t d)) { s with toks:=tk }):wpAny (model X.prog X.w) A (call (.builtin "isinstance") [u,.type (tyC t)]) Q E s:=by
 have e:=kit_tab X.K t d;cases d with
 | non=>rw[hd.non]at r;cases (show u=Value.none from r);exact PySem.W.kia_one PySem.W.kitx_none I.kIn True.intro e (λ z=>nomatch z) h
 | bl y=>rw[hd.bl]at r;cases (show u=Value.bool y from r);exact PySem.W.kia_one PySem.W.kitx_bool I.kIn True.intro e (λ z=>nomatch z) h
 | int i=>rw[hd.int]at r;obtain⟨t',q⟩:=(show ∃t,u=Value.int i t from r);cases q;exact PySem.W.kia_one PySem.W.kitx_int I.kIn True.intro e (λ z=>nomatch z) h
 | str cs=>rw[hd.str]at r;obtain⟨t',q⟩:=(show ∃t,u=Value.str ⟨cs.toArray⟩ t from r);cases q;exact PySem.W.kia_one PySem.W.kitx_str I.kIn True.intro e (λ z=>nomatch z) h
 | tup ds =>obtain⟨a,vs,rfl,hq,_⟩:=hd.tup;cases (show u=Value.ref a from r);obtain⟨its,_,⟨o,h1,h2,_⟩,_⟩:=I.tuple hq;exact PySem.W.kia_one PySem.W.kitx_tuple I.kIn ⟨o,h1,h2⟩ e (λ z=>nomatch z) h
 | lst ds =>obtain⟨a,vs,rfl,hq,_⟩:=hd.lst;cases (show u=Value.ref a from r);obtain⟨its,_,⟨o,n,h1,h2,_⟩,_⟩:=I.list hq;exact PySem.W.kia_one PySem.W.kitx_list I.kIn ⟨o,h1,h2⟩ e (λ z=>nomatch z) h
 | dct ks ds =>
  obtain⟨a,o,kvs,rfl,hq,_⟩:=hd.dct;cases (show u=Value.ref a from r);obtain⟨_,_,_,_,_,o',es,ep,h1,h2,_⟩:=(show ObjOk X.prog X.w H s.heap a (.frz o (.dK kvs))from I.hok a _ hq)
  exact PySem.W.kia_one PySem.W.kitx_dict I.kIn ⟨o',h1,h2.1⟩ e (λ z=>nomatch z) h
theorem de_isinst(t:Z.Ty){x y:Str}{p1 p2:Pos}(hg:Gl X x)(hm:X.mg x=none)(hv:bootBuiltins x=some (.builtin "isinstance"))(hg2:Gl X y)(hm2:X.mg y=none)(hv2:bootBuiltins y=some (.type (tyC t)))(ha:DW X a fa)
  (hn:x ≠ "__name__" := by decide +kernel) (hdb:(x==("__debug__" : Str))=false:=by decide +kernel) (hn2:y ≠ "__name__" := by decide +kernel) (hdb2:(y==("__debug__" : Str))=false:=by decide +kernel)
  (he:starEach (a :: [.Name y p2]) X.env=(false,eval a X.env) :: starEach [.Name y p2] X.env:=by rfl) (hpl:(backTo pos (starEach [.Name y p2] X.env)).any (·.1)=false:=by rfl) (he2:starEach ((.Name y p2) :: []) X.env=(false,eval (.Name y p2) X.env) :: starEach [] X.env:=by rfl) :
  DE X (.Call (.Name x p1) [a,.Name y p2] [] pos) (Z.eU (Z.oIsTy t) fa):=by
 have hc:CallR X (.builtin "isinstance") (λ xs H Q=>∃v d,xs=[v,.ty (tyC t)]∧DenW X.K H d v∧Q (.bl (Z.isTy t d)) H):=by intro pins s σ H xs us Q I r h;obtain⟨v,d,rfl,hd,q⟩:=h;obtain⟨u,w',rfl,r1,r2⟩:=vals2 r;cases (show w'=Value.type (tyC t)from r2);exact isinst_Z t I hd r1 λ tk=>⟨.bl _,H,I.tok _,rfl,q⟩
 refine PE.imp (pe_callB hc hg hm hv (pa_cons ha (pa_cons (pe_bltn (v:=.ty (tyC t)) hg2 hm2 hv2 rfl hn2 hdb2) pa_nil he2) he) hn hdb he hpl) λ σ H Q ⟨ρ,d,r,e,k⟩=>?_;obtain⟨x,ea,e⟩:=Z.Res.ax e;cases e;exact⟨ρ,x,r,ea,λ v H1 s1 d1=>⟨v,x,rfl,d1,k _ H1 s1 den_bl⟩⟩
theorem de_len{x : Str}{p1 : Pos}(hg : Gl X x)(hm : X.mg x = none)(hv : bootBuiltins x = some (.builtin "len"))(ha : DW X a fa)(hn : x ≠ "__name__" := by decide +kernel)(hdb : (x == ("__debug__" : Str)) = false := by decide +kernel)
  (he:starEach (a :: []) X.env=(false,eval a X.env) :: starEach [] X.env:=by rfl) (hpl:(backTo pos (starEach [] X.env)).any (·.1)=false:=by rfl):DE X (.Call (.Name x p1) [a] [] pos) (Z.eU Z.oLen fa) :=
 PE.imp (pe_callB call_len hg hm hv (pa_cons ha pa_nil he) hn hdb he hpl) λ σ H Q ⟨ρ,d,r,e,k⟩=>by
  obtain⟨x,ea,e⟩:=Z.Res.ax e;refine⟨ρ,x,r,ea,λ v H1 s1 d1=>?_⟩;unfold Z.oLen at e;split at e
  ·unfold Z.guard at e;split at e
   ·rename_i cs hl;cases e;rw[d1.str];refine⟨_,cs.length,rfl,⟨?_,?_⟩,k _ H1 s1 den_int⟩
    ·show cs.toArray.size≤sizeLine;rw[sizeLine_eq];simpa using hl
    ·show cs.length=cs.toArray.size;simp
   ·cases e
  ·cases e;obtain⟨q,vs,rfl,hq,t⟩:=d1.tup;refine⟨_,_,rfl,.inr ⟨vs,hq,rfl⟩,?_⟩;rw[t.length];exact k _ H1 s1 den_int
  ·cases e;obtain⟨q,vs,rfl,hq,t⟩:=d1.lst;refine⟨_,_,rfl,.inl ⟨vs,hq,rfl⟩,?_⟩;rw[t.length];exact k _ H1 s1 den_int
  ·cases e
theorem ixZ_eq(n:Nat)(i:Int):Z.ixZ n i=ixN n i:=rfl
theorem atZ{K:PySem.W.Frag}{H:Hp}{ds:List Z.D}{vs:List V}{i:Int}{d:Z.D}(t:aE K H ds vs)(h:((Z.ixZ ds.length i).bind λ j=>ds[j]?)=some d):∃v,atI vs i=some v∧Den K H d v:=by
 unfold atI;rw[t.length,<-ixZ_eq];cases q:Z.ixZ ds.length i with
 | none=>rw[q]at h;cases h
 | some j =>rw[q]at h;exact t.get h
theorem aC(ha : DW X a fa)(hb : DW X b fb)(hs : PlainIx b := by intro _ _; rfl): DE X (.Subscript a b pos) (Z.eB Z.oIx fa fb) := PE.imp (pe_ix ix_seq ha hb hs) (two λ x y dx dy d H Q h1 h2 e k => by
 unfold Z.oIx at e;split at e
 ·obtain⟨q,vs,rfl,hq,t⟩:=h1.tup;split at e
  ·rename_i v hv;cases e;obtain⟨w,e1,dw⟩:=atZ t hv;exact .inr (.inl ⟨q,vs,_,w,rfl,h2.int,hq,e1,k w H (aJ.refl H) dw⟩)
  ·cases e
 ·obtain⟨q,vs,rfl,hq,t⟩:=h1.lst;split at e
  ·rename_i v hv;cases e;obtain⟨w,e1,dw⟩:=atZ t hv;exact .inl ⟨q,vs,_,w,rfl,h2.int,hq,e1,k w H (aJ.refl H) dw⟩
  ·cases e
 ·unfold Z.guard at e;split at e
  ·rename_i cs i hl;split at e
   ·rename_i c hc;cases e;refine .inr (.inr ⟨_,_,c,h1.str,h2.int,?_,?_,?_⟩)
    ·show cs.toArray.size≤sizeLine;rw[sizeLine_eq];simpa using hl
    ·exact hc
    ·exact k _ H (aJ.refl H) (den_str (cs:=[c]))
   ·cases e
  ·cases e
 ·cases e)
theorem dp_no:DP X none Z.pNo:=PO.imp po_none λ σ H Q ⟨ρ,o,r,e,k⟩=>by cases e;exact k H (aJ.refl H)
theorem dp_at(h:DW X e f):DP X (some e) (Z.pAt f):=PO.imp (po_some h) λ σ H Q ⟨ρ,o,r,e,k⟩=>by
 obtain⟨x,ea,e⟩:=Z.Res.ax e;refine⟨ρ,x,r,ea,λ v H1 s1 d1=>?_⟩;split at e
 ·cases e;exact⟨_,d1.int,k H1 s1⟩
 ·cases e
theorem sIx_eq(n d:Nat)(o:Option Int):Z.sIx n d o=HT.sIx n d o:=by cases o<;>rfl
theorem cut_eq{ds:List Z.D}{vs:List V}{K:PySem.W.Frag}{H:Hp}(t:aE K H ds vs)(lo hi:Option Int):aE K H (Z.cut ds lo hi) (cutV vs lo hi):=by unfold Z.cut cutV;rw[sIx_eq,sIx_eq,t.length];exact(t.drop _).take _
theorem cut_whole{α:Type}{xs:List α}{lo hi:Option Int}(h1:HT.sIx xs.length 0 lo=0)(h2:HT.sIx xs.length xs.length hi=xs.length):Z.cut xs lo hi=xs:=by unfold Z.cut;rw[sIx_eq,sIx_eq,h1,h2];simp
def rSlZ(K:PySem.W.Frag):V->Option Int->Option Int->Hp->VK->Prop:=λ x lo hi H Q=>∃a xs,x=.ref a∧SqT K H a xs∧(cutV xs lo hi=xs->Q (.ref a) H)∧∀p,H p=none->Q (.ref p) (upd H p (.tup (cutV xs lo hi)))
theorem getItem_tuple_whole{prog:Program}{w:World}{A:Around}{E:Value->Shared->Prop}{s:Shared}{t sl:Addr}{items:Array Value}{vl vu:Value}{lo hi:Option Int}{Q:Value->Shared->Prop}(ht:IsTup s.heap t items)(hs:s.heap.IsSliceOf sl vl vu .none)(pl:IsPart vl lo)(pu:IsPart vu hi)
  (hw:HT.sIx items.size 0 lo=0∧HT.sIx items.size items.size hi=items.size)
  (h:Q (.ref t) s):wpAny (model prog w) A (getItem (.ref t) (.ref sl)) Q E s:=by
 obtain⟨os,hos,hcs,hds⟩:=id hs;have hTs:s.TypeIs (.ref sl) "slice" := ⟨os,hos,hcs⟩
 unfold getItem
 try with_reducible refine wpAny_holding ?_
 first | refine wpAny_bind (wpAny_pure ?_) | skip
 refine wpAny_bind (wpAny_sequenceKey ht.typeIs (by decide) ?_);refine wpAny_bind (wpAny_callSpecial?_slot (name:=Str.ofString "__getitem__") ht.typeIs PyProof.Rows.slot_tuple_getitem
  (wpAny_call_entry PyProof.Rows.slot_tuple_getitem ht.typeIs entry_tuple_getitem ?_ (args_tuple_getitem _ _)))
 show wpAny _ _ (Builtin.Tuple.tupleItemsOf (.ref t) >>= _) _ _ s;refine wpAny_bind (tupleItemsOf_ ht ?_);refine wpAny_bind (wpAny_typeOf hTs ?_);rw[if_pos (by decide)];refine wpAny_bind (HT.sliceApplied_gen hs pl pu ?_);have hyes:(((HT.sIx items.size 0 lo:Nat):Int)==0&&(1:Int)==1&&(HT.sIx items.size items.size hi-HT.sIx items.size 0 lo)==items.size)=true:=by rw[hw.1,hw.2];simp
 show wpAny _ _ (if(((HT.sIx items.size 0 lo:Nat):Int)==0&&(1:Int)==1&&(HT.sIx items.size items.size hi-HT.sIx items.size 0 lo)==items.size)=true then _ else _) _ _ s;rw[if_pos hyes];refine wpAny_bind ?_;unfold Builtin.Tuple.tupleIsExact;refine wpAny_bind (wpAny_typeOf ht.typeIs ?_);refine wpAny_pure ?_;rw[if_pos (beq_self_eq_true _)];refine wpAny_bind (wpAny_rule ?_);exact wpAny_pure ⟨.ref t,rfl,wpAny_pure h⟩
theorem sl_tupZ:SlR X (rSlZ X.K):=by
 intro pins s σ H x v vl vu lo hi sl Q I rx hs pl pu h;obtain⟨a,xs,rfl,hx,q1,q2⟩:=h;by_cases hw:HT.sIx xs.length 0 lo=0∧HT.sIx xs.length xs.length hi=xs.length
 ·cases rx;obtain⟨its,r,ht,hz⟩:=I.tuple hx;have hlen:its.toArray.size=xs.length:=by rw[List.size_toArray];exact r.length.symm
  refine⟨"tuple",_,PyProof.Rows.slot_tuple_getitem.lookup,ht.typeIs,?_⟩;refine getItem_tuple_whole ht hs pl pu (by rw[hlen];exact hw) ⟨.ref a,H,I,rfl,q1 ?_⟩;have:=cut_whole (xs:=xs) hw.1 hw.2;unfold Z.cut at this;rw[sIx_eq,sIx_eq]at this;exact this
 ·exact sl_tup pins s σ H _ v vl vu lo hi sl Q I rx hs pl pu ⟨a,xs,rfl,hx,hw,q2⟩
def rSlS:V->Option Int->Option Int->Hp->VK->Prop:=λ x lo hi H Q=>∃z,x=.str z∧z.length≤sizeLine∧Q (.str (Txt.slice z lo hi)) H
theorem partOf{v:Value}{o:Option Int}(h:IsPart v o):∃q:Option (Int×Tok),v=partValue q∧q.map (·.1)=o:=by
 cases h with
 | none=>exact⟨none,rfl,rfl⟩
 | int i t=>exact⟨some (i,t),rfl,rfl⟩
theorem sl_strZ:SlR X rSlS:=by intro pins s σ H x v vl vu lo hi sl Q I rx hs pl pu h;obtain⟨z,rfl,hz,q⟩:=h;obtain⟨t,rfl⟩:=rx;obtain⟨ql,rfl,rfl⟩:=partOf pl;obtain⟨qu,rfl,rfl⟩:=partOf pu;refine⟨"str",_,F.slot_str_getitem.lookup,typeIs_str _ _ _,?_⟩;refine wpAny_getItem_str_slice (l:=ql) (u:=qu) (st:=none) hs rfl ?_;refine post_val_or_str ⟨Nat.le_trans (Txt.slice_le z _ _) hz,λ t' k=>⟨.str _,H,I.tok _,⟨t',rfl⟩,q⟩⟩
theorem de_slice{lo hi : Option Expr}{gl gh : Z.PF}{p2 : Pos}(ha : DW X a fa)(hl : DP X lo gl)(hh : DP X hi gh): DE X (.Subscript a (.Slice lo hi none p2) pos) (Z.eSl fa gl gh) :=
 PE.imp (pe_slice (sl_strZ.or sl_tupZ) ha hl hh) λ σ H Q ⟨ρ,d,r,e,k⟩=>by
  obtain⟨x,ea,e⟩:=Z.Res.ax e;obtain⟨l,el,e⟩:=Z.Res.ax e;obtain⟨h,eh,e⟩:=Z.Res.ax e;refine⟨ρ,x,r,ea,λ v H1 s1 d1=>⟨ρ,l,r.up s1,el,λ H2 s2=>⟨ρ,h,(r.up s1).up s2,eh,λ H3 s3=>?_⟩⟩⟩;have s13:aJ H H3:=(s1.trans s2).trans s3;have d3:=(d1.up s2).up s3;unfold Z.oSl at e;split at e
  ·unfold Z.guard at e;split at e
   ·rename_i cs _ _ hl;cases e;refine .inl ⟨_,d3.str,?_,?_⟩
    ·show cs.toArray.size≤sizeLine;rw[sizeLine_eq];simpa using hl
    ·rw[strSl];exact k _ H3 s13 den_str
   ·cases e
  ·cases e;obtain⟨q,vs,rfl,hq,t⟩:=d3.tup;refine .inr ⟨q,vs,rfl,hq,λ hw=>?_,λ z hz=>?_⟩
   ·have:=cut_eq t l h;rw[hw]at this;exact k _ H3 s13 (den_tup hq this)
   ·have s4:aJ H3 (upd H3 z (.tup (cutV vs l h))):=upd_Same hz;exact k _ _ (s13.trans s4) (den_tup (.inl (.inl upd_same)) ((cut_eq t l h).up s4))
  ·cases e
theorem dl_slice{lo hi:Option Expr}{gl gh:Z.PF}{p2:Pos}(ha:DW X a fa)(hl:DP X lo gl)(hh:DP X hi gh):DL X (.Subscript a (.Slice lo hi none p2) pos) (Z.lSl fa gl gh) :=
 PE.imp (pe_slice sl_list ha hl hh) λ σ H Q ⟨ρ,d,r,e,k⟩=>by
  obtain⟨x,ea,e⟩:=Z.Res.ax e;obtain⟨l,el,e⟩:=Z.Res.ax e;obtain⟨h,eh,e⟩:=Z.Res.ax e;refine⟨ρ,x,r,ea,λ v H1 s1 d1=>⟨ρ,l,r.up s1,el,λ H2 s2=>⟨ρ,h,(r.up s1).up s2,eh,λ H3 s3=>?_⟩⟩⟩;have s13:aJ H H3:=(s1.trans s2).trans s3;have d3:=(d1.up s2).up s3;split at e
  ·cases e;obtain⟨q,vs,rfl,hq,t⟩:=d3.lst;refine⟨q,vs,rfl,hq,λ z hz=>?_⟩;have s4:aJ H3 (upd H3 z (.lst (cutV vs l h))):=upd_Same hz;exact k z _ _ (s13.trans s4) (s13.free hz) upd_same ((cut_eq t l h).up s4)
  ·cases e
def rCatL(K:PySem.W.Frag):R2:=λ x y H Q=>∃l b xs zs,x=.ref l∧y=.ref b∧SqL K H l xs∧SqL K H b zs∧xs.length+zs.length≤sizeLine∧∀p,H p=none->Q (.ref p) (upd H p (.lst (xs++zs)))
theorem op_catL:OpR X (binaryOp .Add) (rCatL X.K):=by
 intro pins s σ H x y v u Q I rx ry h;obtain⟨l,b,xs,zs,rfl,rfl,hH,hB,hz,q⟩:=h;cases rx;cases ry;obtain⟨its,r,pl,_⟩:=I.list hH;obtain⟨its2,r2,pl2,_⟩:=I.list hB;have hl:=r.length;have hl2:=r2.length;obtain⟨⟨cls,dd,data,sl⟩,ho,hc,n,hd⟩:=id pl.isList;obtain⟨⟨cls2,dd2,data2,sl2⟩,ho2,hc2,n2,hd2⟩:=id pl2.isList;simp only at hc hd hc2 hd2;subst hc hd hc2 hd2;have ea:its.toArray++its2.toArray=(its++its2).toArray:=by simp
 refine concat_meets ⟨_,ho,rfl⟩ ⟨_,ho2,rfl⟩ noFill_list_add seq_list_add PySem.F.slot_list_add PySem.F.entry_list_add (PySem.F.args_list_add_2 _ _) (list_addW l b its.toArray its2.toArray n n2 dd dd2 sl sl2 (by simp only[List.size_toArray];lia)) ⟨ho,ho2,?_⟩;rw[ea];exact⟨.ref _,_,I.lnew (t':=s.toks) (r.append r2) (by rw[List.length_append];lia),rfl,q _ I.fresh⟩
theorem dl_cat(ha:DW X a fa)(hb:DW X b fb):DL X (.BinOp a .Add b pos) (Z.lCat fa fb):=PE.imp (pe_op op_catL ha hb) λ σ H Q ⟨ρ,d,r,e,k⟩=>by
 obtain⟨x,ea,e⟩:=Z.Res.ax e;obtain⟨y,eb,e⟩:=Z.Res.ax e;refine⟨ρ,x,r,ea,λ v H1 s1 d1=>⟨ρ,y,r.up s1,eb,λ u H2 s2 d2=>?_⟩⟩;have s12:=s1.trans s2;split at e
 ·unfold Z.guard at e;split at e
  ·rename_i xs ys hl;cases e;obtain⟨q,vs,rfl,hq,t⟩:=(d1.up s2).lst;obtain⟨q',vs',rfl,hq',t'⟩:=d2.lst;refine⟨q,q',vs,vs',rfl,rfl,hq,hq',by rw[t.length,t'.length,sizeLine_eq];exact hl,λ z hz=>?_⟩;have s3:aJ H2 (upd H2 z (.lst (vs++vs'))):=upd_Same hz;exact k z _ _ (s12.trans s3) (s12.free hz) upd_same ((t.append t').up s3)
  ·cases e
 ·cases e
def spZ(K:PySem.W.Frag)(m:List Z.D->Z.Res Z.D):Sp:=λ vs H Q _=>∃ds d,aE K H ds vs∧m ds=.ok d∧∀v H',aJ H H'->Den K H' d v->Q v H'
theorem de_call{k:Nat}{g:Addr}{fd:FuncData}{ps:List Str}{x:Str}{m:List Z.D->Z.Res Z.D}{ar:Z.AF}{p1:Pos}(F:FnOk X.prog X.w X.K X.mg X.base CX0 k g fd ps (spZ X.K m))(hr:Room k X.A)(hg:Gl X x)(hm:X.mg x=some (.ref g))(hk:PySem.W.keepIn X.K (.ref g)=true)(hb:Binds X.K fd ps [])
  (ha:DA X (e :: es) ar) (hdb:(x==("__debug__" : Str))=false:=by decide +kernel) (he:starEach (e :: es) X.env=(false,eval e X.env) :: starEach es X.env:=by rfl) (hpl:(backTo pos (starEach es X.env)).any (·.1)=false:=by rfl) :
  DE X (.Call (.Name x p1) (e :: es) [] pos) (Z.az m ar) :=
 PE.imp (pe_call F hr hg hm hk hb .nil pass0 ha hdb he hpl) λ σ H Q ⟨ρ,d,r,e,k⟩=>by obtain⟨ds,ea,e⟩:=Z.Res.ax e;refine⟨ρ,ds,r,ea,λ vs H1 s1 d1=>?_⟩;show spZ X.K m (vs++[]) H1 Q E0;rw[List.append_nil];exact⟨ds,d,d1,e,λ v H' s2 dv=>k v H' (s1.trans s2) dv⟩
end
end ZS
namespace ZS
open PySem PySem.Spec PyProof.Rows L2
structure ItZ(K:PySem.W.Frag)(J:It)(S:Hp->Prop)(ds:List Z.D):Prop where
 go:∀(i:Nat)(d:Z.D)(H1:Hp),S H1->ds[i]?=some d->J.go i H1
 yld:∀(i:Nat)(d:Z.D)(H1 H2:Hp)(x:V),S H1->ds[i]?=some d->J.yld i H1 x H2->aJ H1 H2∧Den K H2 d x
 stop:∀(H1:Hp),S H1->J.stop ds.length H1
def tZi(K:PySem.W.Frag)(f:Z.LF):TI:=λ σ H R=>∃ρ ds,RE K H σ ρ∧f ρ=.ok ds∧∀J H',aJ H H'->ItZ K J (aJ H') ds->R J H'
def tZj(K:PySem.W.Frag)(f:Z.LF):TI:=λ σ H R=>∃ρ ds,RE K H σ ρ∧f ρ=.ok ds∧∀J H',aJ H H'->ItZ K J (Stb H') ds->R J H'
abbrev DI(X:Cx)(tg e:Expr)(f:Z.LF):Prop:=PI X tg e (tZi X.K f)
abbrev DJ(X:Cx)(tg e:Expr)(f:Z.LF):Prop:=PI X tg e (tZj X.K f)
section
variable {X:Cx}{tg e a b:Expr}{es:List Expr}{pos p:Pos}{f fa fb:Z.EF}
theorem PI.imp{t t':TI}(h:PI X tg e t)(k:∀σ H R,t' σ H R->t σ H R):PI X tg e t':=λ pins s σ H R I w=>h pins s σ H R I (k σ H R w)
theorem ItZ.imp{K:PySem.W.Frag}{J:It}{S S':Hp->Prop}{ds:List Z.D}(h:ItZ K J S ds)(k:∀H,S' H->S H):ItZ K J S' ds :=
 ⟨λ i d H1 s=>h.go i d H1 (k _ s),λ i d H1 H2 x s=>h.yld i d H1 H2 x (k _ s),λ H1 s=>h.stop H1 (k _ s)⟩
theorem di_j{g:Z.LF}(h:DJ X tg e g):DI X tg e g:=PI.imp h λ σ H R ⟨ρ,ds,r,e,k⟩=>⟨ρ,ds,r,e,λ J H' s z=>k J H' s (z.imp λ _ q=>stb q)⟩
theorem itz_tup{K:PySem.W.Frag}{H:Hp}{q:Addr}{vs:List V}{ds:List Z.D}(h:SqT K H q vs)(t:aE K H ds vs):ItZ K (Itt K q) (Stb H) ds where
 go:=λ i d H1 s hi=>by obtain⟨v,h1,_⟩:=t.get hi;exact⟨vs,v,sqT_mono s h,h1⟩
 yld:=λ i d H1 H2 x s hi y=>by obtain⟨e,y⟩:=y;obtain⟨v,h1,h2⟩:=t.get hi;have:=y vs (sqT_mono s h);rw[h1]at this;cases this;subst e;exact⟨aJ.refl _,h2.ups s⟩
 stop:=λ H1 s=>⟨vs,sqT_mono s h,by rw[t.length];exact Nat.le_refl _⟩
theorem itz_lst{K:PySem.W.Frag}{H:Hp}{q:Addr}{vs:List V}{ds:List Z.D}{S:Hp->Prop}(h:∀H1,S H1->SqL K H1 q vs)(t:∀H1,S H1->aE K H1 ds vs)(t0:aE K H ds vs):ItZ K (Itl K q) S ds where
 go:=λ i d H1 s hi=>by obtain⟨v,h1,_⟩:=t0.get hi;exact⟨vs,v,h H1 s,h1⟩
 yld:=λ i d H1 H2 x s hi y=>by obtain⟨e,y⟩:=y;obtain⟨v,h1,h2⟩:=(t H1 s).get hi;have:=y vs (h H1 s);rw[h1]at this;cases this;subst e;exact⟨aJ.refl _,h2⟩
 stop:=λ H1 s=>⟨vs,h H1 s,by rw[t0.length];exact Nat.le_refl _⟩
theorem ints_get(lo:Int)(n i:Nat)(d:Z.D)(h:(Z.zints lo n)[i]?=some d):i < n∧d=.int (lo+i):=by
 unfold Z.zints at h;rw[List.getElem?_map]at h;cases q:(List.range n)[i]? with
 | none=>rw[q]at h;cases h
 | some j =>rw[q]at h;cases h;obtain⟨h1,h2⟩:=List.getElem?_eq_some_iff.mp q;rw[List.length_range]at h1;rw[List.getElem_range]at h2;subst h2;exact⟨h1,rfl⟩
theorem itz_rng{K:PySem.W.Frag}{S:Hp->Prop}(lo:Int)(n:Nat):ItZ K (Itr lo n) S (Z.zints lo n) where
 go:=λ i d H1 s hi=>(ints_get lo n i d hi).1
 yld:=λ i d H1 H2 x s hi y=>by obtain⟨e,y⟩:=y;obtain⟨_,rfl⟩:=ints_get lo n i d hi;subst e;rw[y];exact⟨aJ.refl _,den_int⟩
 stop:=λ H1 s=>by show n≤(Z.zints lo n).length;unfold Z.zints;rw[List.length_map,List.length_range];exact Nat.le_refl _
theorem turn_long{P:Program}{w:World}{K:PySem.W.Frag}{tg:Expr}(it:Addr)(lo:Int)(n:Nat):Turn P w K tg (Itr lo n) [it] it (λ i h=>IsLongIter h it (lo+(i:Nat)*1) ((n:Int)-(i:Nat)) 1) where
 mem:=by simp
 obj:=λ i h st b hb=>by
  have e:b=it:=by simpa using hb
  subst e;exact⟨_,st,λ v z=>by have z':Data.fields _=Data.cell v:=z;cases z'⟩
 keep:=λ i h h' st k=>k it (by simp) _ st
 item:=by intro X hP hw hK hc i pins s σ H E I hf st hg;subst hP hw hK;obtain⟨f0,f1,f2,f3,f4,f5⟩:=hf it (by simp);have W:=Walks.longrange (prog:=X.prog) (w:=X.w) (I.ok.hd hc) it lo 1 n;refine W.item i s _ _ hg st λ v h' tk hv st' kk=>?_;obtain⟨t,rfl⟩:=hv;have I1:Inv X pins σ H { s with heap:=h',toks:=tk }:=I.turned (λ b o hb e=>kk b o (by simpa using hb) e) f0 f1 f3 f4 f5;refine⟨_,rfl,go_of (s:={ s with heap:=h',toks:=tk }) (n := "longrange_iterator") st' rfl rfl (by decide) ⟨.int (lo+i),H,I1,⟨t,?_⟩,⟨rfl,rfl⟩,st',λ b hb=>(hf b hb).1⟩⟩;rw[Int.mul_one]
 done:=by intro X hP hw hK hc i pins s σ H E I hf st hg;subst hP hw hK;obtain⟨f0,f1,f2,f3,f4,f5⟩:=hf it (by simp);exact wpAny_pyNext_long_end (I.ok.hd hc) st (by have:n≤i:=hg;lia) λ h' eb=>⟨rfl,I.turned (t':=s.toks) (λ b o hb e=>eb b o hb e) f0 f1 f3 f4 f5⟩
 self:=λ _ _ _ _ _ st h=>wpAny_pyIter_longiter st h
theorem range_any{pins:List (Addr×Obj)}{σ:St}{H:Hp}{s:Shared}{R:It->Hp->Prop}{E:Value->Shared->Prop}{lo hi:Int}{t u v:Tok}{tk:Nat}(I:Inv X pins σ H s)
  (q:R (Itr lo (hi-lo).toNat) H):wpAny (model X.prog X.w) X.A (pyIter (.ref s.heap.objs.size)) (PIE X pins σ tg R) E { s with heap:=s.heap.push { cls:=.type "range",data:=.fields #[.int lo t,.int hi u,.int 1 v] },toks:=tk }:=by
 have I1:Inv X pins σ H { s with heap:=s.heap.push { cls:=.type "range",data:=.fields #[.int lo t,.int hi u,.int 1 v] },toks:=tk }:=I.kept λ b o e=>Heap.get?_push_of_some _ e;have e1:lo+((0:Nat):Int)*1=lo:=by simp
 have e2:(((hi-lo).toNat:Nat):Int)-((0:Nat):Int)=Builtin.Range.rangeSize lo hi 1:=by rw[rangeSize_one];split<;>lia
 cases hs:Builtin.Range.small lo hi 1 with
 | true =>
  refine wpAny_pyIter_range (IsRange.new ..) hs ?_;refine⟨(s.heap.push { cls:=.type "range",data:=.fields #[.int lo t,.int hi u,.int 1 v] }).objs.size,[(s.heap.push { cls:=.type "range",data:=.fields #[.int lo t,.int hi u,.int 1 v] }).objs.size],_,_,H,rfl,
   I1.kept (t':=tk) λ b o e=>Heap.get?_push_of_some _ e,turn_range _ lo (hi-lo).toNat,?_,λ b hb=>?_,q⟩
  ·show IsRangeIter _ _ (lo+((0:Nat):Int)*1) ((((hi-lo).toNat:Nat):Int)-((0:Nat):Int)) 1;rw[e1,e2];exact Heap.get?_push_size _ rfl
  ·have e:b=(s.heap.push { cls:=.type "range",data:=.fields #[.int lo t,.int hi u,.int 1 v] }).objs.size:=by simpa using hb
   subst e;exact I1.fpOk (Nat.le_refl _) (I1.hok.fresh (Nat.le_refl _))
 | false =>
  refine wpAny_pyIter_longrange (IsRange.new ..) hs ?_;refine⟨(s.heap.push { cls:=.type "range",data:=.fields #[.int lo t,.int hi u,.int 1 v] }).objs.size,[(s.heap.push { cls:=.type "range",data:=.fields #[.int lo t,.int hi u,.int 1 v] }).objs.size],_,_,H,rfl,
   I1.kept (t':=tk) λ b o e=>Heap.get?_push_of_some _ e,turn_long _ lo (hi-lo).toNat,?_,λ b hb=>?_,q⟩
  ·show IsLongIter _ _ (lo+((0:Nat):Int)*1) ((((hi-lo).toNat:Nat):Int)-((0:Nat):Int)) 1;rw[e1,e2];exact Heap.get?_push_size _ rfl
  ·have e:b=(s.heap.push { cls:=.type "range",data:=.fields #[.int lo t,.int hi u,.int 1 v] }).objs.size:=by simpa using hb
   subst e;exact I1.fpOk (Nat.le_refl _) (I1.hok.fresh (Nat.le_refl _))
def aRng1(ta:TA):TI:=λ σ H R=>ta σ H λ vs H1=>∃j:Int,vs=[.int j]∧R (Itr 0 j.toNat) H1
def aRng2(ta:TA):TI:=λ σ H R=>ta σ H λ vs H1=>∃i j:Int,vs=[.int i,.int j]∧R (Itr i (j-i).toNat) H1
theorem pi_any1{a:Expr}{ta:TA}{p pos:Pos}(hg:Gl X "range")(hm:X.mg "range" = none)(ha:PA X [a] ta)(hs:starEach [a] X.env=[(false,eval a X.env)]:=by rfl):PI X tg (.Call (.Name "range" p) [a] [] pos) (aRng1 ta):=by
 intro pins s σ H R I h;refine Call_ (ld_blt I hg hm boot_range (PyProof.Rows.callWith_type1 (thn (ha pos pins s σ H _ I h) λ us s1 ⟨vs,H1,I1,r1,q1⟩=>?_) hs rfl));obtain⟨j,e,q⟩:=q1;subst e;cases r1 with
 | cons r rr =>cases rr;obtain⟨t,rfl⟩:=r;exact call_range_1 (range_any I1 (by simpa using q))
theorem pi_any2{a b:Expr}{ta:TA}{p pos:Pos}(hg:Gl X "range")(hm:X.mg "range" = none)(ha:PA X [a,b] ta)(hs:starEach [a,b] X.env=[(false,eval a X.env),(false,eval b X.env)]:=by rfl)(hs2:starEach [b] X.env=[(false,eval b X.env)]:=by rfl):
  PI X tg (.Call (.Name "range" p) [a,b] [] pos) (aRng2 ta):=by
 intro pins s σ H R I h;refine Call_ (ld_blt I hg hm boot_range (PyProof.Rows.callWith_type1 (thn (ha pos pins s σ H _ I h) λ us s1 ⟨vs,H1,I1,r1,q1⟩=>?_) (by rw[hs,hs2]) (by rw[hs2];rfl)));obtain⟨i,j,e,q⟩:=q1;subst e;cases r1 with
 | cons r rr =>
  cases rr with
  | cons r' rr =>cases rr;obtain⟨t,rfl⟩:=r;obtain⟨t',rfl⟩:=r';exact call_range_2 (range_any I1 q)
theorem dj_rng1(hg:Gl X "range")(hm:X.mg "range" = none)(ha:DE X a fa)(hs:starEach [a] X.env=[(false,eval a X.env)]:=by rfl)(hs1:starEach (a :: []) X.env=(false,eval a X.env) :: starEach [] X.env:=by rfl):DJ X tg (.Call (.Name "range" p) [a] [] pos) (Z.iRng1 fa) :=
 PI.imp (pi_any1 hg hm (pa_cons ha pa_nil hs1) hs) λ σ H R ⟨ρ,ds,r,e,k⟩=>by
  obtain⟨x,ea,e⟩:=Z.Res.ax e;refine⟨ρ,x,r,ea,λ v H1 s1 d1=>?_⟩;split at e
  ·rename_i j;cases e;simp only[Den]at d1;exact⟨j,by rw[d1],k _ H1 s1 (itz_rng 0 j.toNat)⟩
  ·cases e
theorem dj_rng2(hg : Gl X "range")(hm : X.mg "range" = none)(ha : DE X a fa)(hb : DE X b fb)(hs : starEach [a, b] X.env = [(false, eval a X.env), (false, eval b X.env)] := by rfl)(hs2 : starEach [b] X.env = [(false, eval b X.env)] := by rfl)
  (h1:starEach (a :: [b]) X.env=(false,eval a X.env) :: starEach [b] X.env:=by rfl) (h2:starEach (b :: []) X.env=(false,eval b X.env) :: starEach [] X.env:=by rfl):DJ X tg (.Call (.Name "range" p) [a,b] [] pos) (Z.iRng2 fa fb) :=
 PI.imp (pi_any2 hg hm (pa_cons ha (pa_cons hb pa_nil h2) h1) hs hs2) λ σ H R ⟨ρ,ds,r,e,k⟩=>by
  obtain⟨x,ea,e⟩:=Z.Res.ax e;obtain⟨y,eb,e⟩:=Z.Res.ax e;obtain⟨i,j,rfl,rfl,rfl⟩:∃i j,x=.int i∧y=.int j∧ds=Z.zints i (j-i).toNat:=by
   split at e
   ·cases e;exact⟨_,_,rfl,rfl,rfl⟩
   ·cases e
  refine⟨ρ,_,r,ea,λ v H1 s1 d1=>⟨ρ,_,r.up s1,eb,λ u H2 s2 d2=>?_⟩⟩;simp only[Den]at d1 d2;exact⟨i,j,by rw[d1,d2],k _ H2 (s1.trans s2) (itz_rng i (j-i).toNat)⟩
def Its(z:Str):It:=⟨λ i _=>i < z.cps.size,λ i H x H'=>H'=H∧∃c,z.cps[i]?=some c∧x=.str ⟨#[c]⟩,λ i _=>i=z.cps.size⟩
theorem turn_str{P:Program}{w:World}{K:PySem.W.Frag}(z:Str)(it:Addr)(n:String)(hn:["enumerate", "zip", "dict_itemiterator", "dict_reverseitemiterator", "odict_iterator", "itertools.zip_longest", "itertools.pairwise"].contains n=false)(t:Tok)
  (W:∀A:Around,A.handled=none->Walks P w A it [it] [it] z.cps.size (SignAt z) (λ i h=>h.IsStrIter it n z t i)) (self:∀(A:Around)(i:Nat)(s:Shared)(Q:Value->Shared->Prop)(E:Value->Shared->Prop),s.heap.IsStrIter it n z t i->Q (.ref it) s->wpAny (model P w) A (pyIter (.ref it)) Q E s) :
  Turn P w K tg (Its z) [it] it (λ i h=>h.IsStrIter it n z t i) where
 mem:=by simp
 obj:=λ i h st b hb=>by
  have e:b=it:=by simpa using hb
  subst e;obtain⟨o,e,c,d⟩:=st;exact⟨o,e,λ v z=>by rw[d]at z;cases z⟩
 keep:=λ i h h' st k=>by obtain⟨o,e,c,d⟩:=st;exact⟨o,k it (by simp) o e,c,d⟩
 item:=by intro X hP hw hK hc i pins s σ H E I hf st hg;subst hP hw hK;obtain⟨f0,f1,f2,f3,f4,f5⟩:=hf it (by simp);refine(W X.A (I.ok.hd hc)).item i s _ _ hg st λ v h' tk hv st' kk=>?_;obtain⟨c,u,hcc,rfl⟩:=hv;have I1:Inv X pins σ H { s with heap:=h',toks:=tk }:=I.turned (λ b o hb e=>kk b o (by simpa using hb) e) f0 f1 f3 f4 f5;obtain⟨o,e,c',d⟩:=id st';exact⟨_,rfl,go_of (s:={ s with heap:=h',toks:=tk }) e c' d hn ⟨.str ⟨#[c]⟩,H,I1,⟨u,rfl⟩,⟨rfl,c,hcc,rfl⟩,st',λ b hb=>(hf b hb).1⟩⟩
 done:=by intro X hP hw hK hc i pins s σ H E I hf st hg;subst hP hw hK;obtain⟨f0,f1,f2,f3,f4,f5⟩:=hf it (by simp);have hg':i=z.cps.size:=hg;subst hg';exact(W X.A (I.ok.hd hc)).done s _ _ st λ h' tk kk=>⟨rfl,I.turned (λ b o hb e=>kk b o (by simpa using hb) e) f0 f1 f3 f4 f5⟩
 self:=self
theorem itz_str{K:PySem.W.Frag}{S:Hp->Prop}(cs:List Nat):ItZ K (Its ⟨cs.toArray⟩) S (cs.map λ c=>.str [c]) where
 go:=λ i d H1 s hi=>by show i < cs.toArray.size;obtain⟨h1,_⟩:=List.getElem?_eq_some_iff.mp hi;simpa using h1
 yld:=λ i d H1 H2 x s hi y=>by
  obtain⟨e,c,hc,rfl⟩:=y;have hc':cs[i]?=some c:=by simpa using hc
  rw[List.getElem?_map,hc']at hi;cases hi;subst e;exact⟨aJ.refl _,den_str (cs:=[c])⟩
 stop:=λ H1 s=>by show(cs.map λ c=>Z.D.str [c]).length=cs.toArray.size;simp
theorem seq_it{pins : List (Addr × Obj)}{σ : St}{H : Hp}{s : Shared}{R : It -> Hp -> Prop}{E : Value -> Shared -> Prop}{d : Z.D}{v : V}{u : Value}{ds : List Z.D}{S : Hp -> Prop}(I : Inv X pins σ H s)(rv : RelV v u)(hd : DenW X.K H d v)(hi : Z.iterD d = .ok ds)
  (hS:∀H1,S H1->Stb H H1) (hL:∀es q vs,d=.lst es->v=.ref q->SqL X.K H q vs->∀H1,S H1->SqL X.K H1 q vs)
  (k:∀J,ItZ X.K J S ds->R J H):wpAny (model X.prog X.w) X.A (pyIter u) (PIE X pins σ tg R) E s:=by
 unfold Z.iterD at hi;split at hi
 ·cases hi;obtain⟨q,vs,rfl,hq,t⟩:=hd.tup;cases rv;obtain⟨its,r',pl,hz⟩:=I.tuple hq;refine wpAny_pyIter_tuple (show s.heap.IsTuple q its.toArray from pl) ?_;refine⟨s.heap.objs.size,[s.heap.objs.size],_,_,H,rfl,I.kept (t':=s.toks) λ b o e=>Heap.get?_push_of_some _ e,turn_tuple q _,⟨_,Heap.get?_push_size _ rfl,rfl,rfl⟩,λ b hb=>?_,k _ ((itz_tup hq t).imp hS)⟩;have e:b=s.heap.objs.size:=by simpa using hb
  subst e;exact I.fpOk (Nat.le_refl _) (I.hok.fresh (Nat.le_refl _))
 ·cases hi;obtain⟨q,vs,rfl,hq,t⟩:=hd.lst;cases rv;obtain⟨its,r',pl,hz⟩:=I.list hq;refine wpAny_pyIter_list pl.isList ?_;refine⟨s.heap.objs.size,[s.heap.objs.size],_,_,H,rfl,I.kept (t':=s.toks) λ b o e=>Heap.get?_push_of_some _ e,turn_list q _,⟨_,Heap.get?_push_size _ rfl,rfl,rfl⟩,λ b hb=>?_,
   k _ (itz_lst (λ H1 s1=>hL _ q vs rfl rfl hq H1 s1) (λ H1 s1=>t.ups (hS H1 s1)) t)⟩
  have e:b=s.heap.objs.size:=by simpa using hb
  subst e;exact I.fpOk (Nat.le_refl _) (I.hok.fresh (Nat.le_refl _))
 ·cases hi;rename_i cs;rw[hd.str]at rv;obtain⟨t,rfl⟩:=rv;have fin:∀(n:String) (hn:["enumerate", "zip", "dict_itemiterator", "dict_reverseitemiterator", "odict_iterator", "itertools.zip_longest", "itertools.pairwise"].contains n=false)
    (W:∀A:Around,A.handled=none->Walks X.prog X.w A s.heap.objs.size [s.heap.objs.size] [s.heap.objs.size] (⟨cs.toArray⟩:Str).cps.size (SignAt ⟨cs.toArray⟩) (λ i h=>h.IsStrIter s.heap.objs.size n ⟨cs.toArray⟩ t i))
    (self:∀(A:Around)(i:Nat)(s':Shared)(Q:Value->Shared->Prop)(E:Value->Shared->Prop),s'.heap.IsStrIter s.heap.objs.size n ⟨cs.toArray⟩ t i->Q (.ref s.heap.objs.size) s'->wpAny (model X.prog X.w) A (pyIter (.ref s.heap.objs.size)) Q E s'),
    PIE X pins σ tg R (.ref s.heap.objs.size) { s with heap:=s.heap.push { cls:=.type n,data:=.fields #[.str ⟨cs.toArray⟩ t,.int 0 0] } }:=by
   intro n hn W self;refine⟨s.heap.objs.size,[s.heap.objs.size],_,_,H,rfl,I.kept (t':=s.toks) λ b o e=>Heap.get?_push_of_some _ e,turn_str ⟨cs.toArray⟩ _ n hn t W self,⟨_,Heap.get?_push_size _ rfl,rfl,rfl⟩,λ b hb=>?_,k _ (itz_str cs)⟩;have e:b=s.heap.objs.size:=by simpa using hb
   subst e;exact I.fpOk (Nat.le_refl _) (I.hok.fresh (Nat.le_refl _))
  cases ha:(⟨cs.toArray⟩:Str).cps.all (· < 128)
  ·exact wpAny_pyIter_wide ha (fin "str_iterator" (by decide) (λ A' hA=>Walks.strWide hA _ _ t) λ _ _ _ _ _ st hQ=>wpAny_pyIter_striter_wide st hQ)
  ·exact wpAny_pyIter_ascii ha (fin "str_ascii_iterator" (by decide) (λ A' hA=>Walks.strAscii hA _ _ t) λ _ _ _ _ _ st hQ=>wpAny_pyIter_striter_ascii st hQ)
 ·cases hi
theorem di_seq(ha:DW X a fa):DI X tg a (Z.iSeq fa):=by intro pins s σ H R I w;obtain⟨ρ,ds,r,e,k⟩:=w;obtain⟨d,ea,e⟩:=Z.Res.ax e;refine thn (ha pins s σ H (λ v H1=>aJ H H1∧DenW X.K H1 d v) I ⟨ρ,d,r,ea,λ v H1 s1 d1=>⟨s1,d1⟩⟩) ?_;rintro u s1 ⟨v,H1,I1,rv,sm,hd⟩;exact seq_it (S:=aJ H1) I1 rv hd e (λ _ q=>stb q) (λ _ _ _ _ _ hq H2 s2=>s2.seq hq) λ J z=>k J H1 sm z
theorem dj_seq(ha:DE X a fa):DJ X tg a (Z.iSeq fa):=by intro pins s σ H R I w;obtain⟨ρ,ds,r,e,k⟩:=w;obtain⟨d,ea,e⟩:=Z.Res.ax e;refine thn (ha pins s σ H (λ v H1=>aJ H H1∧Den X.K H1 d v) I ⟨ρ,d,r,ea,λ v H1 s1 d1=>⟨s1,d1⟩⟩) ?_;rintro u s1 ⟨v,H1,I1,rv,sm,hd⟩;refine seq_it (S:=Stb H1) I1 rv (.inl hd) e (λ _ q=>q) (λ es q vs e1 e2 hq H2 s2=>?_) λ J z=>k J H1 sm z;subst e1;simp only[Den]at hd;obtain⟨q',vs',e3,hz,_⟩:=hd;rw[e2]at e3;cases e3;rw[I1.list_inj hq hz.sq];exact(hz.mono s2).sq
def DicOk(H0:Hp)(σ:St)(ρ:Z.Env):Prop:=(∀(i j:Nat)(ks ls:List (List Int))(a:Addr),ρ[i]?=some (some (.dic ks))->ρ[j]?=some (some (.dic ls))->σ[i]?=some (some (.ref a))->σ[j]?=some (some (.ref a))->i=j) ∧
 ∀(i:Nat)(ks:List (List Int))(q:Addr),ρ[i]?=some (some (.dic ks))->σ[i]?=some (some (.ref q))->H0 q=none
theorem DicOk.non{H0:Hp}{σ:St}{ρ:Z.Env}(h:∀(i:Nat)(ks:List (List Int)),ρ[i]?≠some (some (.dic ks))):DicOk H0 σ ρ:=⟨λ i _ ks _ _ e=>absurd e (h i ks),λ i ks _ e=>absurd e (h i ks)⟩
structure RS(K:PySem.W.Frag)(H0 H:Hp)(σ:St)(ρ:Z.Env):Prop where
 same:aJ H0 H
 re:RE K H σ ρ
 fresh:∀(i:Nat)(xs:List Z.D)(q:Addr),ρ[i]?=some (some (.own xs))->σ[i]?=some (some (.ref q))->H0 q=none
 bors:∀(i:Nat)(xs:List Z.D),ρ[i]?=some (some (.bor xs))->∃v,σ[i]?=some (some v)∧DenW K H0 (.lst xs) v
 dic:DicOk H0 σ ρ
def flZ(K:PySem.W.Frag)(H0 H:Hp)(D:Ends):Z.Fl->Prop
 | .nx ρ'=>∀σ' H',Stb H H'->RS K H0 H' σ' ρ'->D.nx σ' H'
 | .rt d=>∀v H',aJ H0 H'->Den K H' d v->D.rt v H'
 | .bk ρ'=>∀σ' H',Stb H H'->RS K H0 H' σ' ρ'->D.bk σ' H'
 | .ct ρ'=>∀σ' H',Stb H H'->RS K H0 H' σ' ρ'->D.ct σ' H'
def tS(K:PySem.W.Frag)(H0:Hp)(g:Z.SF):TS:=λ D σ H=>∃ρ fl,RS K H0 H σ ρ∧g ρ=.ok fl∧flZ K H0 H D fl
abbrev DS(X:Cx)(H0:Hp)(st:Stmt)(g:Z.SF):Prop:=PS X st (tS X.K H0 g)
abbrev DSs(X:Cx)(H0:Hp)(st:List Stmt)(g:Z.SF):Prop:=PSs X st (tS X.K H0 g)
theorem PS.imp{st:Stmt}{t t':TS}(h:PS X st t)(k:∀D σ H,t' D σ H->t D σ H):PS X st t':=λ pins s σ H D I w=>h pins s σ H D I (k D σ H w)
theorem PSs.imp{st:List Stmt}{t t':TS}(h:PSs X st t)(k:∀D σ H,t' D σ H->t D σ H):PSs X st t':=λ pins s σ H D I w=>h pins s σ H D I (k D σ H w)
theorem RS.up{K:PySem.W.Frag}{H0 H H':Hp}{σ:St}{ρ:Z.Env}(h:RS K H0 H σ ρ)(e:aJ H H'):RS K H0 H' σ ρ:=⟨h.same.trans e,h.re.up e,h.fresh,h.bors,h.dic⟩
theorem flZ.up{K:PySem.W.Frag}{H0 H H1:Hp}{D:Ends}{fl:Z.Fl}(h:flZ K H0 H D fl)(e:Stb H H1):flZ K H0 H1 D fl:=by
 cases fl with
 | nx ρ'=>exact λ σ' H' s r=>h σ' H' (e.trans s) r
 | rt d=>exact h
 | bk ρ'=>exact λ σ' H' s r=>h σ' H' (e.trans s) r
 | ct ρ'=>exact λ σ' H' s r=>h σ' H' (e.trans s) r
theorem set_cases{α:Type}{l:List (Option α)}{i j:Nat}{x:Option α}{y:α}(h:(l.set i x)[j]?=some (some y)):(i=j∧i < l.length∧x=some y)∨(i≠j∧l[j]?=some (some y)):=by
 by_cases hij:i=j
 ·subst hij;by_cases hl:i < l.length
  ·rw[List.getElem?_set_self hl]at h;exact .inl ⟨rfl,hl,Option.some.inj h⟩
  ·rw[List.getElem?_eq_none (by simpa using hl)]at h;cases h
 ·rw[List.getElem?_set_ne hij]at h;exact .inr ⟨hij,h⟩
theorem DicOk.set{H0:Hp}{σ:St}{ρ:Z.Env}{i:Nat}{v:V}{l:Z.L}(h:DicOk H0 σ ρ)(n:∀ks,l≠.dic ks):DicOk H0 (σ.set i (some v)) (ρ.set i (some l)):=by
 have get:∀(j:Nat)(ks:List (List Int)),(ρ.set i (some l))[j]?=some (some (.dic ks))->ρ[j]?=some (some (.dic ks))∧(σ.set i (some v))[j]?=σ[j]?:=λ j ks e=>by
  rcases set_cases e with⟨_,_,e⟩ | ⟨hj,e⟩
  ·exact absurd (Option.some.inj e) (n ks)
  ·exact⟨e,List.getElem?_set_ne hj⟩
 exact⟨λ j k ks ls a e1 e2 e3 e4=>h.1 j k ks ls a (get j ks e1).1 (get k ls e2).1 (by rw[<-(get j ks e1).2];exact e3) (by rw[<-(get k ls e2).2];exact e4),λ j ks q e1 e2=>h.2 j ks q (get j ks e1).1 (by rw[<-(get j ks e1).2];exact e2)⟩
theorem DicOk.setρ{H0:Hp}{σ:St}{ρ:Z.Env}{i:Nat}{l:Z.L}(h:DicOk H0 σ ρ)(n:∀ks,l≠.dic ks):DicOk H0 σ (ρ.set i (some l)):=by
 have get:∀(j:Nat)(ks:List (List Int)),(ρ.set i (some l))[j]?=some (some (.dic ks))->ρ[j]?=some (some (.dic ks)):=λ j ks e=>by
  rcases set_cases e with⟨_,_,e⟩ | ⟨hj,e⟩
  ·exact absurd (Option.some.inj e) (n ks)
  ·exact e
 exact⟨λ j k ks ls a e1 e2 e3 e4=>h.1 j k ks ls a (get j ks e1) (get k ls e2) e3 e4,λ j ks q e1 e2=>h.2 j ks q (get j ks e1) e2⟩
theorem RS.setV{K : PySem.W.Frag}{H0 H : Hp}{σ : St}{ρ : Z.Env}{i : Nat}{d : Z.D}{v : V}(h : RS K H0 H σ ρ)(hd : Den K H d v): RS K H0 H (σ.set i (some v)) (ρ.set i (some (.val d))) := by
 have getσ:∀(j:Nat),i≠j->(σ.set i (some v))[j]?=σ[j]?:=λ j hj=>List.getElem?_set_ne hj;refine⟨h.same,⟨by simp[h.re.len],λ j l e=>?_,λ j k xs ys q e1 e2 e3 e4=>?_⟩,λ j xs q e1 e2=>?_,λ j xs e1=>?_,h.dic.set λ _ z=>nomatch z⟩
 ·rcases set_cases e with⟨rfl,hl,e⟩ | ⟨hj,e⟩
  ·cases e;exact⟨v,List.getElem?_set_self (by rw[<-h.re.len];exact hl),hd⟩
  ·rw[getσ j hj];exact h.re.get j l e
 ·rcases set_cases e1 with⟨_,_,e⟩ | ⟨hj,e1⟩
  ·cases e
  ·rcases set_cases e2 with⟨_,_,e⟩ | ⟨hk,e2⟩
   ·cases e
   ·rw[getσ j hj]at e3;rw[getσ k hk]at e4;exact h.re.sep j k xs ys q e1 e2 e3 e4
 ·rcases set_cases e1 with⟨_,_,e⟩ | ⟨hj,e1⟩
  ·cases e
  ·rw[getσ j hj]at e2;exact h.fresh j xs q e1 e2
 ·rcases set_cases e1 with⟨_,_,e⟩ | ⟨hj,e1⟩
  ·cases e
  ·rw[getσ j hj];exact h.bors j xs e1
theorem RS.setO{K : PySem.W.Frag}{H0 H : Hp}{σ : St}{ρ : Z.Env}{i : Nat}{ds : List Z.D}{q : Addr}{vs : List V}(h : RS K H0 H σ ρ)(hq : H q = some (.lst vs))(t : aE K H ds vs)(h0 : H0 q = none)
  (nq:∀(j:Nat)(xs:List Z.D),j≠i->ρ[j]?=some (some (.own xs))->σ[j]?≠some (some (.ref q))):RS K H0 H (σ.set i (some (.ref q))) (ρ.set i (some (.own ds))):=by
 have getσ:∀(j:Nat),i≠j->(σ.set i (some (V.ref q)))[j]?=σ[j]?:=λ j hj=>List.getElem?_set_ne hj;refine⟨h.same,⟨by simp[h.re.len],λ j l e=>?_,λ j k xs ys p e1 e2 e3 e4=>?_⟩,λ j xs p e1 e2=>?_,λ j xs e1=>?_,h.dic.set λ _ z=>nomatch z⟩
 ·rcases set_cases e with⟨rfl,hl,e⟩ | ⟨hj,e⟩
  ·cases e;exact⟨.ref q,List.getElem?_set_self (by rw[<-h.re.len];exact hl),q,vs,rfl,hq,t⟩
  ·rw[getσ j hj];exact h.re.get j l e
 ·rcases set_cases e1 with⟨rfl,hl,_⟩ | ⟨hj,e1⟩
  ·rcases set_cases e2 with⟨rfl,_,_⟩ | ⟨hk,e2⟩
   ·rfl
   ·rw[List.getElem?_set_self (by rw[<-h.re.len];exact hl)]at e3;cases e3;rw[getσ k hk]at e4;exact absurd e4 (nq k ys (Ne.symm hk) e2)
  ·rcases set_cases e2 with⟨rfl,hl,_⟩ | ⟨hk,e2⟩
   ·rw[List.getElem?_set_self (by rw[<-h.re.len];exact hl)]at e4;cases e4;rw[getσ j hj]at e3;exact absurd e3 (nq j xs (Ne.symm hj) e1)
   ·rw[getσ j hj]at e3;rw[getσ k hk]at e4;exact h.re.sep j k xs ys p e1 e2 e3 e4
 ·rcases set_cases e1 with⟨rfl,hl,_⟩ | ⟨hj,e1⟩
  ·rw[List.getElem?_set_self (by rw[<-h.re.len];exact hl)]at e2;cases e2;exact h0
  ·rw[getσ j hj]at e2;exact h.fresh j xs p e1 e2
 ·rcases set_cases e1 with⟨_,_,e⟩ | ⟨hj,e1⟩
  ·cases e
  ·rw[getσ j hj];exact h.bors j xs e1
theorem RS.chg{K : PySem.W.Frag}{H0 H : Hp}{σ : St}{ρ : Z.Env}{i : Nat}{xs ds : List Z.D}{q : Addr}{us vs : List V}(h : RS K H0 H σ ρ)(ei : ρ[i]? = some (some (.own xs)))(si : σ[i]? = some (some (.ref q)))(hq : H q = some (.lst us))(t : aE K H ds vs):
  RS K H0 (upd H q (.lst vs)) σ (ρ.set i (some (.own ds))):=by
 have st:Stb H (upd H q (.lst vs)):=stb_lst hq;have h0:H0 q=none:=h.fresh i xs q ei si;have hs:aJ H0 (upd H q (.lst vs)):=λ b u e=>by rw[aM (ne_of_none e h0)];exact h.same b u e
 refine⟨hs,⟨by simp[h.re.len],λ j l e=>?_,λ j k xs' ys p e1 e2 e3 e4=>?_⟩,λ j xs' p e1 e2=>?_,λ j xs' e1=>?_,h.dic.setρ λ _ z=>nomatch z⟩
 ·rcases set_cases e with⟨rfl,hl,e⟩ | ⟨hj,e⟩
  ·cases e;exact⟨.ref q,si,q,vs,rfl,upd_same,t.ups st⟩
  ·obtain⟨v,e1,r⟩:=h.re.get j l e;refine⟨v,e1,?_⟩;cases l with
   | val d=>exact Den.ups (show Den K H d v from r) st
   | own zs =>
    obtain⟨q',ws,rfl,hq',t'⟩:=r;have:q'≠q:=by rintro rfl;exact hj (h.re.sep i j xs zs q' ei e si e1)
    exact⟨q',ws,rfl,by rw[aM this];exact hq',t'.ups st⟩
   | bor zs =>obtain⟨v',e2,r2⟩:=h.bors j zs e;rw[e1]at e2;cases e2;exact r2.up hs
   | dic ks =>
    obtain⟨q',as,rfl,hq',t'⟩:=r;have:q'≠q:=by rintro rfl;rw[hq]at hq';cases hq'
    exact⟨q',as,rfl,by rw[aM this];exact hq',t'.ups st⟩
   | fdc ks =>obtain⟨q',o',as,rfl,hq',t'⟩:=r;exact⟨q',o',as,rfl,st.frz _ _ _ hq',t'.ups st⟩
   | idc ps =>obtain⟨q',o',rfl,hq'⟩:=r;exact⟨q',o',rfl,st.frz _ _ _ hq'⟩
   | exc c =>obtain⟨q',o',u',C',rfl,hq',r1,r2,r3⟩:=r;exact⟨q',o',u',C',rfl,st.frz _ _ _ hq',r1,r2,r3.ups st⟩
 ·have old:∀{j:Nat}{zs:List Z.D},(ρ.set i (some (Z.L.own ds)))[j]?=some (some (.own zs))->∃zs',ρ[j]?=some (some (.own zs')):=λ {j zs} e=>by
   rcases set_cases e with⟨rfl,_,_⟩ | ⟨_,e⟩
   ·exact⟨xs,ei⟩
   ·exact⟨zs,e⟩
  obtain⟨_,o1⟩:=old e1;obtain⟨_,o2⟩:=old e2;exact h.re.sep j k _ _ p o1 o2 e3 e4
 ·rcases set_cases e1 with⟨rfl,_,_⟩ | ⟨_,e1⟩
  ·exact h.fresh i xs p ei e2
  ·exact h.fresh j xs' p e1 e2
 ·rcases set_cases e1 with⟨_,_,e⟩ | ⟨_,e1⟩
  ·cases e
  ·exact h.bors j xs' e1
theorem RS.frz{K : PySem.W.Frag}{H0 H : Hp}{σ : St}{ρ : Z.Env}{i : Nat}{xs : List Z.D}{q : Addr}{us : List V}{o : Obj}(h : RS K H0 H σ ρ)(ei : ρ[i]? = some (some (.own xs)))(si : σ[i]? = some (some (.ref q)))(hq : H q = some (.lst us))(t : aE K H xs us):
  RS K H0 (upd H q (.frz o (.lst us))) σ (ρ.set i (some (.val (.lst xs)))):=by
 have st:Stb H (upd H q (.frz o (.lst us))):=stb_lst hq;have h0:H0 q=none:=h.fresh i xs q ei si;have hs:aJ H0 (upd H q (.frz o (.lst us))):=λ b u e=>by rw[aM (ne_of_none e h0)];exact h.same b u e
 refine⟨hs,⟨by simp[h.re.len],λ j l e=>?_,λ j k xs' ys p e1 e2 e3 e4=>?_⟩,λ j xs' p e1 e2=>?_,λ j xs' e1=>?_,h.dic.setρ λ _ z=>nomatch z⟩
 ·rcases set_cases e with⟨rfl,hl,e⟩ | ⟨hj,e⟩
  ·cases e;exact⟨.ref q,si,den_lst (.inl ⟨o,upd_same⟩) (t.ups st)⟩
  ·obtain⟨v,e1,r⟩:=h.re.get j l e;refine⟨v,e1,?_⟩;cases l with
   | val d=>exact Den.ups (show Den K H d v from r) st
   | own zs =>
    obtain⟨q',ws,rfl,hq',t'⟩:=r;have:q'≠q:=by rintro rfl;exact hj (h.re.sep i j xs zs q' ei e si e1)
    exact⟨q',ws,rfl,by rw[aM this];exact hq',t'.ups st⟩
   | bor zs =>obtain⟨v',e2,r2⟩:=h.bors j zs e;rw[e1]at e2;cases e2;exact r2.up hs
   | dic ks =>
    obtain⟨q',as,rfl,hq',t'⟩:=r;have:q'≠q:=by rintro rfl;rw[hq]at hq';cases hq'
    exact⟨q',as,rfl,by rw[aM this];exact hq',t'.ups st⟩
   | fdc ks =>obtain⟨q',o',as,rfl,hq',t'⟩:=r;exact⟨q',o',as,rfl,st.frz _ _ _ hq',t'.ups st⟩
   | idc ps =>obtain⟨q',o',rfl,hq'⟩:=r;exact⟨q',o',rfl,st.frz _ _ _ hq'⟩
   | exc c =>obtain⟨q',o',u',C',rfl,hq',r1,r2,r3⟩:=r;exact⟨q',o',u',C',rfl,st.frz _ _ _ hq',r1,r2,r3.ups st⟩
 ·rcases set_cases e1 with⟨_,_,e⟩ | ⟨_,e1⟩
  ·cases e
  ·rcases set_cases e2 with⟨_,_,e⟩ | ⟨_,e2⟩
   ·cases e
   ·exact h.re.sep j k _ _ p e1 e2 e3 e4
 ·rcases set_cases e1 with⟨_,_,e⟩ | ⟨_,e1⟩
  ·cases e
  ·exact h.fresh j xs' p e1 e2
 ·rcases set_cases e1 with⟨_,_,e⟩ | ⟨_,e1⟩
  ·cases e
  ·exact h.bors j xs' e1
variable {H0:Hp}{st:Stmt}{sts:List Stmt}{g u:Z.SF}
theorem aQ:DSs X H0 [] Z.sNext:=PSs.imp pss_nil λ D σ H ⟨ρ,fl,rs,e,k⟩=>by cases e;exact k σ H (Stb.refl H) rs
theorem au(h:DS X H0 st g):DSs X H0 [st] g:=pss_one h
theorem aj(h1:DS X H0 st g)(h2:DSs X H0 sts u):DSs X H0 (st :: sts) (Z.aI g u):=PSs.imp (pss_cons h1 h2) λ D σ H ⟨ρ,fl,rs,e,k⟩=>by
 obtain⟨f1,e1,e⟩:=Z.Res.ax e;refine⟨ρ,f1,rs,e1,?_⟩;cases f1 with
 | nx ρ'=>exact λ σ' H' s r=>⟨ρ',fl,r,e,k.up s⟩
 | rt d=>cases e;exact k
 | bk ρ'=>cases e;exact k
 | ct ρ'=>cases e;exact k
theorem aD(h:DE X a fa):DS X H0 (.Return (some a) pos) (Z.sRet fa):=PS.imp (ps_ret h) λ D σ H ⟨ρ,fl,rs,e,k⟩=>by obtain⟨d,ea,e⟩:=Z.Res.ax e;cases e;exact⟨ρ,d,rs.re,ea,λ v H' s dv=>k v H' (rs.same.trans s) dv⟩
theorem ds_drop(h:DE X a fa)(hs:swapsWith a none pos.line X.env=pure false:=by rfl):DS X H0 (.Expr a pos) (Z.sDrop fa):=PS.imp (ps_expr h hs) λ D σ H ⟨ρ,fl,rs,e,k⟩=>by obtain⟨d,ea,e⟩:=Z.Res.ax e;cases e;exact⟨ρ,d,rs.re,ea,λ v H' s dv=>k σ H' (stb s) (rs.up s)⟩
theorem ds_if{c:Expr}{b1 b2:List Stmt}{t:Z.TF}(hc:DT X c t)(h1:DSs X H0 b1 g)(h2:DSs X H0 b2 u):DS X H0 (.If c b1 b2 pos) (Z.sIf t g u):=PS.imp (ps_if hc h1 h2) λ D σ H ⟨ρ,fl,rs,e,k⟩=>by
 obtain⟨x,ea,e⟩:=Z.Res.ax e;refine⟨ρ,x,rs.re,ea,λ H1 s1=>?_⟩;cases x with
 | true =>simp only[if_true]at e ⊢;exact⟨ρ,fl,rs.up s1,e,k.up (stb s1)⟩
 | false =>simp only[Bool.false_eq_true,if_false]at e ⊢;exact⟨ρ,fl,rs.up s1,e,k.up (stb s1)⟩
theorem aB{i:Nat}{x:Str}{pos':Pos}(hN:X.N.Nodup)(hi:X.N[i]?=some x)(hx:Loc X.env.scope x)(he:DE X a fa)(hs:swapsWith a (some (.Name x pos')) pos.line X.env=pure false:=by rfl)(hf:X.fn x=true∨X.env.scope.names.lookup x=some .local:=by first | exact .inl rfl | exact .inr rfl | assumption):
  DS X H0 (.Assign [.Name x pos'] a pos) (Z.sSet i fa):=PS.imp (ps_set hN hi hx he hs hf) λ D σ H ⟨ρ,fl,rs,e,k⟩=>by
 obtain⟨d,ea,e⟩:=Z.Res.ax e;cases e;exact⟨ρ,d,rs.re,ea,λ v H' s dv=>k _ H' (stb s) ((rs.up s).setV dv)⟩
theorem RS.noq{K:PySem.W.Frag}{H1 H:Hp}{σ:St}{ρ:Z.Env}{q:Addr}(h:RS K H1 H σ ρ)(hq:H q=none)(j:Nat)(xs:List Z.D)(e:ρ[j]?=some (some (.own xs))):σ[j]?≠some (some (.ref q)):=λ z=>by obtain⟨v,e1,q',vs,rfl,h2,_⟩:=h.re.get j _ e;rw[z]at e1;cases e1;rw[hq]at h2;cases h2
theorem ds_own{i:Nat}{x:Str}{pos':Pos}{l:Z.LF}(hN:X.N.Nodup)(hi:X.N[i]?=some x)(hx:Loc X.env.scope x)(he:DL X a l)(hs:swapsWith a (some (.Name x pos')) pos.line X.env=pure false:=by rfl)(hf:X.fn x=true∨X.env.scope.names.lookup x=some .local:=by first | exact .inl rfl | exact .inr rfl | assumption):
  DS X H0 (.Assign [.Name x pos'] a pos) (Z.sOwn i l):=PS.imp (ps_set hN hi hx he hs hf) λ D σ H ⟨ρ,fl,rs,e,k⟩=>by
 obtain⟨d,ea,e⟩:=Z.Res.ax e;cases e;refine⟨ρ,d,rs.re,ea,λ q vs H' s hn h1 t=>k _ H' (stb s) ((rs.up s).setO h1 t (rs.same.free hn) λ j xs _ e=>?_)⟩;exact rs.noq hn j xs e
def tG(K:PySem.W.Frag)(H0:Hp)(g:Z.GF):TG:=λ v σ H Q=>∃ρ d ρ',RS K H0 H σ ρ∧Den K H d v∧g d ρ=.ok ρ'∧∀σ' H',aJ H H'->RS K H0 H' σ' ρ'->Q σ' H'
def tGs(K:PySem.W.Frag)(H0:Hp)(is:List Nat):TGs:=λ vs σ H Q=>∃ρ ds ρ',RS K H0 H σ ρ∧aE K H ds vs∧Z.gNames is ds ρ=.ok ρ'∧∀σ' H',aJ H H'->RS K H0 H' σ' ρ'->Q σ' H'
abbrev DG(X:Cx)(H0:Hp)(tg:Expr)(g:Z.GF):Prop:=PG X tg (tG X.K H0 g)
abbrev DGs(X:Cx)(H0:Hp)(tgs:List Expr)(is:List Nat):Prop:=PGs X tgs (tGs X.K H0 is)
theorem PG.imp{t t':TG}(h:PG X tg t)(k:∀v σ H Q,t' v σ H Q->t v σ H Q):PG X tg t':=λ pins s σ H v u Q I r w=>h pins s σ H v u Q I r (k v σ H Q w)
theorem PGs.imp{t t':TGs}(h:PGs X es t)(k:∀v σ H Q,t' v σ H Q->t v σ H Q):PGs X es t':=λ pins s σ H v u Q I r w=>h pins s σ H v u Q I r (k v σ H Q w)
theorem dg_name{i:Nat}{x:Str}(hN:X.N.Nodup)(hi:X.N[i]?=some x)(hx:Loc X.env.scope x)(hf:X.fn x=true∨X.env.scope.names.lookup x=some .local:=by first | exact .inl rfl | exact .inr rfl | assumption):DG X H0 (.Name x pos) (Z.gName i) :=
 PG.imp (pg_name hN hi hx hf) λ v σ H Q ⟨ρ,d,ρ',rs,hd,e,k⟩=>by cases e;exact k _ H (aJ.refl H) (rs.setV hd)
theorem dgs_nil:DGs X H0 [] []:=PGs.imp pgs_nil λ vs σ H Q ⟨ρ,ds,ρ',rs,hd,e,k⟩=>by
 cases ds with
 | nil =>simp only[aE]at hd;cases e;exact⟨hd,k σ H (aJ.refl H) rs⟩
 | cons d ds=>cases e
theorem dgs_cons{i:Nat}{is:List Nat}{x:Str}(hN:X.N.Nodup)(hi:X.N[i]?=some x)(hx:Loc X.env.scope x)(h2:DGs X H0 es is)(hs:(assignEach ((.Name x pos) :: es) X.env).map (·.2)=assign (.Name x pos) X.env :: (assignEach es X.env).map (·.2):=by rfl)
  (hf:X.fn x=true∨X.env.scope.names.lookup x=some .local:=by first | exact .inl rfl | exact .inr rfl | assumption):DGs X H0 (.Name x pos :: es) (i :: is) :=
 PGs.imp (pgs_cons (pg_name hN hi hx hf) h2 hs) λ vs σ H Q ⟨ρ,ds,ρ',rs,hd,e,k⟩=>by
  cases ds with
  | nil=>cases e
  | cons d ds =>simp only[aE]at hd;obtain⟨v,r,rfl,h1,h2⟩:=hd;exact⟨v,r,rfl,ρ.set i (some (.val d)),ds,ρ',rs.setV h1,h2,e,k⟩
theorem dg_tup{x1 n : Nat}{is : List Nat}(hc : X.calm = true)(h : DGs X H0 es is)(hl : is.length = n)(hn : (assignEach es X.env).length = n := by rfl)(hst : (assignEach es X.env).findIdx? (·.1) = none := by rfl): DG X H0 (.Tuple es x1 pos) (Z.gTup is) :=
 PG.imp (pg_tup hc h hn hst) λ v σ H Q ⟨ρ,d,ρ',rs,hd,e,k⟩=>by
  unfold Z.gTup at e;split at e
  ·rename_i ds;obtain⟨q,vs,rfl,hq,t⟩:=DenW.tup (.inl hd);have hlen:∀(is:List Nat)(ds:List Z.D)(ρ ρ':Z.Env),Z.gNames is ds ρ=.ok ρ'->ds.length=is.length:=by
    intro is
    induction is with
    | nil=>intro ds ρ ρ' e;cases ds with
     | nil=>rfl
     | cons d ds=>cases e
    | cons i is ih=>intro ds ρ ρ' e;cases ds with
     | nil=>cases e
     | cons d ds=>simp[ih ds _ _ e]
   exact⟨q,vs,rfl,hq,by rw[t.length,hlen is ds ρ ρ' e];exact hl,ρ,ds,ρ',rs,t,e,k⟩
  ·cases e
theorem ds_get{g:Z.GF}(he:DE X a fa)(hg:DG X H0 tg g)(hs:swapsWithSole [tg] a pos.line X.env=pure false:=by rfl)(hw:swappedStores [tg] a X.env=pure none:=by rfl)
  (h1:(assignEach [tg] X.env).map (·.2)=[assign tg X.env]:=by rfl):DS X H0 (.Assign [tg] a pos) (Z.sGet fa g):=PS.imp (ps_asg he hg hs hw h1) λ D σ H ⟨ρ,fl,rs,e,k⟩=>by
 obtain⟨d,ea,e⟩:=Z.Res.ax e;obtain⟨ρ',eb,e⟩:=Z.Res.ax e;cases e;exact⟨ρ,d,rs.re,ea,λ v H' s dv=>⟨ρ,d,ρ',rs.up s,dv,eb,λ σ2 H2 s2 r2=>k σ2 H2 ((stb s).trans (stb s2)) r2⟩⟩
theorem ds_for{it : Z.LF}{G : Z.GF}{iter : Expr}{body : List Stmt}(hp : PassesOwn (model X.prog X.w) X.A X.env X.xe)(hc : X.calm = true)(hi : DJ X tg iter it)(hg : DG X H0 tg G)(hb : DSs X H0 body g)
  (hs:∀x,foldedSetIterable iter X.env x=pure x:=by intro _;rfl):DS X H0 (.For tg iter body [] pos) (Z.sFor it G g):=PS.imp (ps_for hp hc hi hg hb hs) λ D σ H ⟨ρ,fl,rs,e,k⟩=>by
 obtain⟨ds,ei,e⟩:=Z.Res.ax e;refine⟨ρ,ds,rs.re,ei,λ J H1 s1 z=>?_⟩;refine⟨λ i m σ' H'=>m=ds.length-i∧i≤ds.length∧∃ρ',RS X.K H0 H' σ' ρ'∧Stb H1 H'∧Z.forGo G g (ds.drop i) ρ'=.ok fl,⟨ds.length,by simp,Nat.zero_le _,ρ,rs.up s1,Stb.refl H1,by simpa using e⟩,?_⟩;rintro i m σ2 H2 ⟨rfl,hil,ρ2,r2,s2,e2⟩;by_cases hlt:i < ds.length
 ·obtain⟨d,hd⟩:∃d,ds[i]?=some d:=⟨ds[i],by simp[hlt]⟩
  have hdrop:ds.drop i=d :: ds.drop (i+1):=by
   rw[List.drop_eq_getElem_cons hlt];have:ds[i]=d:=by have:=List.getElem?_eq_getElem hlt;rw[this]at hd;exact Option.some.inj hd
   rw[this]
  rw[hdrop]at e2;unfold Z.forGo at e2;obtain⟨ρ3,eg,e2⟩:=Z.Res.ax e2;obtain⟨f3,eb,e2⟩:=Z.Res.ax e2;refine .inr ⟨z.go i d H2 s2 hd,λ σ' H'=>∃ρ',RS X.K H0 H' σ' ρ'∧Stb H1 H'∧Z.forGo G g (ds.drop (i+1)) ρ'=.ok fl,λ σ' H' w=>⟨_,by lia,rfl,hlt,w⟩,λ x H3 y=>?_⟩;obtain⟨sy,dx⟩:=z.yld i d H2 H3 x s2 hd y;replace s2:=s2.trans (stb sy);refine⟨ρ2,d,ρ3,r2.up sy,dx,eg,λ σ4 H4 s4' r4=>⟨ρ3,f3,r4,eb,?_⟩⟩;have s4:=stb s4';cases f3 with
  | nx ρ5=>exact λ σ5 H5 s5 r5=>⟨ρ5,r5,(s2.trans s4).trans s5,e2⟩
  | ct ρ5=>exact λ σ5 H5 s5 r5=>⟨ρ5,r5,(s2.trans s4).trans s5,e2⟩
  | bk ρ5 =>cases e2;exact λ σ5 H5 s5 r5=>k σ5 H5 ((stb s1).trans ((s2.trans s4).trans s5)) r5
  | rt d5 =>cases e2;exact k
 ·have:i=ds.length:=by lia
  subst this;rw[List.drop_length]at e2;cases e2;exact .inl ⟨z.stop H2 s2,k σ2 H2 ((stb s1).trans s2) r2⟩
theorem dss_frz{i:Nat}(h:DSs X H0 sts g):DSs X H0 sts (Z.sFrz i g):=by
 intro pins s σ H D I w;obtain⟨ρ,fl,rs,e,k⟩:=w;unfold Z.sFrz Z.frz at e;split at e
 ·rename_i xs ei;obtain⟨v,si,q,us,rfl,hq,t⟩:=rs.re.get i _ ei;obtain⟨o,I2⟩:=inv_freeze I hq;exact h pins s σ _ D I2 ⟨_,fl,rs.frz ei si hq t,e,k.up (stb_lst hq)⟩
 ·exact h pins s σ H D I ⟨ρ,fl,rs,e,k⟩
theorem ds_append{i:Nat}{o:Expr}{p1 p2:Pos}(ho:PE X o (tVar i))(ha:DE X a fa)(hs:swapsWith (.Call (.Attribute o "append" p1) [a] [] p2) none pos.line X.env=pure false:=by rfl)(hs1:starEach (a :: []) X.env=(false,eval a X.env) :: starEach [] X.env:=by rfl)
  (hbm:PE X (.Call (.Attribute o "append" p1) [a] [] p2) (tBM X.K "list" rAppend (tVar i) (tCons (tZ X.K fa) tNil))) :
  DS X H0 (.Expr (.Call (.Attribute o "append" p1) [a] [] p2) pos) (Z.sAppend i fa):=PS.imp (ps_expr hbm hs) λ D σ H ⟨ρ,fl,rs,e,k⟩=>by
 obtain⟨d,ea,e⟩:=Z.Res.ax e;split at e
 ·rename_i xs ei;unfold Z.guard at e;split at e
  ·rename_i hl;cases e;obtain⟨v,si,q,us,rfl,hq,t⟩:=rs.re.get i _ ei;refine⟨.ref q,si,.inl ⟨rfl,us,SqL.of hq⟩,ρ,d,rs.re,ea,λ v' H1 s1 dv=>?_⟩;have hq1:H1 q=some (.lst us):=s1 _ _ hq;refine⟨q,us,v',rfl,rfl,hq1,by rw[t.length,sizeLine_eq];exact hl,?_⟩;exact k σ _ ((stb s1).trans (stb_lst hq1)) ((rs.up s1).chg ei si hq1 ((t.up s1).append (aE.cons dv aE.nil)))
  ·cases e
 ·cases e
end
end ZS
namespace ZS
open PySem PySem.Spec PyProof.Rows L2
theorem closure_of{env : Env}: ∀(names : List (Str × NameKind))(acc : List (Str × Addr)), (∀y ∈ names, y.2 = .free -> ∃c, env.cells.lookup y.1 = some c) -> (∀x c, acc.lookup x = some c -> env.cells.lookup x = some c) ->
  ∃cl,(forIn names acc λ(x:Str×NameKind) (cs:List (Str×Addr))=>(if(x.2==NameKind.free)=true then do let c ←cellOf env x.1;pure (ForInStep.yield ((x.1,c) :: cs))else pure (ForInStep.yield cs):Sem (ForInStep (List (Str×Addr)))))=pure cl ∧
   (∀x c,cl.lookup x=some c->env.cells.lookup x=some c)∧(∀x,(acc.lookup x).isSome=true->(cl.lookup x).isSome=true)∧(∀y∈names,y.2=.free->(cl.lookup y.1).isSome=true)
 | [],acc,_,ha=>⟨acc,rfl,ha,λ _ h=>h,λ y hy=>by cases hy⟩
 | (n, k) :: r, acc, hn, ha => by
  by_cases hk:k=.free
  ·subst hk;obtain⟨c,hc⟩:=hn (n,.free) List.mem_cons_self rfl;have ha':∀x d,((n,c) :: acc).lookup x=some d->env.cells.lookup x=some d:=λ x d e=>by
    rw[List.lookup_cons]at e;split at e
    ·rename_i q;cases e;rw[beq_iff_eq.mp q];exact hc
    ·exact ha x d e
   obtain⟨cl,e,h1,h2,h3⟩:=closure_of r ((n,c) :: acc) (λ y hy=>hn y (List.mem_cons_of_mem _ hy)) ha';have self:(cl.lookup n).isSome=true:=h2 n (by rw[List.lookup_cons_self];rfl);refine⟨cl,?_,h1,λ x hx=>h2 x ?_,λ y hy hf=>?_⟩
   ·rw[List.forIn_cons];simp only[beq_self_eq_true,if_true];have:cellOf env n=pure c:=by unfold cellOf;rw[hc]
    rw[this];exact e
   ·rw[List.lookup_cons];split
    ·rfl
    ·exact hx
   ·rcases List.mem_cons.mp hy with rfl | hy
    ·exact self
    ·exact h3 y hy hf
  ·obtain⟨cl,e,h1,h2,h3⟩:=closure_of r acc (λ y hy=>hn y (List.mem_cons_of_mem _ hy)) ha;have hb:(k==NameKind.free)=false:=by simpa using hk
   refine⟨cl,?_,h1,h2,λ y hy hf=>?_⟩
   ·rw[List.forIn_cons];simp only[hb,Bool.false_eq_true,if_false];exact e
   ·rcases List.mem_cons.mp hy with rfl | hy
    ·exact absurd hf hk
    ·exact h3 y hy hf
theorem closureFor_of{env:Env}{scope:Scope}(hn:∀y∈scope.names,y.2=.free->∃c,env.cells.lookup y.1=some c):
  ∃cl,closureFor scope env=pure cl∧(∀x c,cl.lookup x=some c->env.cells.lookup x=some c)∧(∀y∈scope.names,y.2=.free->(cl.lookup y.1).isSome=true):=by
 obtain⟨cl,e,h1,_,h3⟩:=closure_of (env:=env) scope.names [] hn (λ x c e=>by cases e);refine⟨cl,?_,h1,h3⟩;unfold closureFor
 first
  | exact e
  | (simp only[bind_pure];exact e)
  | (rw[show _=_ from e];rfl)
theorem lookup_relabel{env : Env}{x : Str}: ∀(names : List (Str × NameKind)), (names.map λ(n, k) => if(k == NameKind.free && env.scope.kind == .function && env.kindOf n == some .cell) = true then(n, NameKind.cell)else(n, k)).lookup x = (names.lookup x).map λ k => if(k == NameKind.free && env.scope.kind == .function && env.kindOf x == some .cell) = true then NameKind.cell else k
 | []=>rfl
 | (n, k) :: r => by
  have ih:=@lookup_relabel env x r;show List.lookup x ((if(k==NameKind.free&&env.scope.kind==.function&&env.kindOf n==some .cell)=true then(n,NameKind.cell)else(n,k)) :: _)=_;by_cases hx:x=n
  ·subst hx;by_cases hc:(k==NameKind.free&&env.scope.kind==.function&&env.kindOf x==some .cell)=true
   ·rw[if_pos hc,List.lookup_cons_self,List.lookup_cons_self,Option.map_some,if_pos hc]
   ·rw[if_neg hc,List.lookup_cons_self,List.lookup_cons_self,Option.map_some,if_neg hc]
  ·have hb:(x==n)=false:=by simpa using hx
   by_cases hc:(k==NameKind.free&&env.scope.kind==.function&&env.kindOf n==some .cell)=true
   ·rw[if_pos hc,List.lookup_cons,List.lookup_cons,hb];exact ih
   ·rw[if_neg hc,List.lookup_cons,List.lookup_cons,hb];exact ih
abbrev blk(X:Cx)(N':List Str)(scope:Scope)(cl:List (Str×Addr))(C:Addr)(fp:List Addr)(s₂:Shared)(H₂:Hp):Cx :=
 { prog:=X.prog,w:=X.w,K:=X.K,mg:=X.mg,base:=X.base,A:=X.A,N:=N',s₀:=s₂,H₀:=H₂,env:=compEnvC scope cl C X.env,outer:=X.stack,stack:=X.stack,ex:=fp,fn:=λ _=>false,calm:=X.calm,pn:=[],xe:=λ _ _=>False }
structure Blk(N N':List Str)(n:Nat)(is:List Nat)(sc osc:Scope):Prop where
 kind:sc.kind=.function
 cell:∀y∈sc.names,y.2≠.cell
 loc:∀y∈sc.names,y.2=.local->sc.names.lookup y.1=some .local
 free:∀y∈sc.names,y.2=.free->osc.names.lookup y.1=some .cell∨osc.names.lookup y.1=some .free
 len:N'.length=n+is.length
 cap:∀(j i:Nat),is[j]?=some i->∃x,N'[n+j]?=some x∧N[i]?=some x∧sc.names.lookup x=some .free
 own:∀(j:Nat),j < n->∃x,N'[j]?=some x∧sc.names.lookup x=some .local
section
variable {X:Cx}{tg e a b elt iter:Expr}{ifs:List Expr}{pos:Pos}{N':List Str}{n:Nat}{is:List Nat}{scope:Scope}
def sCap(σ:St)(n:Nat)(is:List Nat):St:=List.replicate n none++is.map λ i=>(σ[i]?).join
theorem cap_noown(n:Nat)(is:List Nat)(ρ:Z.Env)(i:Nat)(xs:List Z.D):(List.replicate n none++Z.capt ρ is:Z.Env)[i]?≠some (some (.own xs)):=by
 intro e;by_cases hi:i < n
 ·rw[List.getElem?_append_left (by simpa using hi),List.getElem?_replicate]at e;split at e<;>cases e
 ·rw[List.getElem?_append_right (by simpa using hi)]at e;unfold Z.capt at e;rw[List.getElem?_map]at e;cases q:is[i-(List.replicate n (none:Option Z.L)).length]? with
  | none=>rw[q]at e;cases e
  | some j =>rw[q]at e;have e':Z.capt1 ρ j=some (.own xs):=Option.some.inj e;unfold Z.capt1 at e';split at e'<;>cases e'
theorem cap_nodic(n:Nat)(is:List Nat)(ρ:Z.Env)(i:Nat)(ks:List (List Int)):(List.replicate n none++Z.capt ρ is:Z.Env)[i]?≠some (some (.dic ks)):=by
 intro e;by_cases hi:i < n
 ·rw[List.getElem?_append_left (by simpa using hi),List.getElem?_replicate]at e;split at e<;>cases e
 ·rw[List.getElem?_append_right (by simpa using hi)]at e;unfold Z.capt at e;rw[List.getElem?_map]at e;cases q:is[i-(List.replicate n (none:Option Z.L)).length]? with
  | none=>rw[q]at e;cases e
  | some j =>rw[q]at e;have e':Z.capt1 ρ j=some (.dic ks):=Option.some.inj e;unfold Z.capt1 at e';split at e'<;>cases e'
theorem re_cap{K : PySem.W.Frag}{H H' : Hp}{σ : St}{ρ : Z.Env}(h : RE K H σ ρ)(s : aJ H H'): RS K H H' (sCap σ n is) (List.replicate n none ++ Z.capt ρ is) := by
 have key:∀(i:Nat)(l:Z.L),(List.replicate n none++Z.capt ρ is:Z.Env)[i]?=some (some l)->∃v,(sCap σ n is)[i]?=some (some v)∧RL K H l v:=?_;refine⟨s,⟨by simp[sCap,Z.capt],λ i l e=>let ⟨v,h1,h2⟩:=key i l e;⟨v,h1,h2.up s⟩,λ i j xs ys q e1=>absurd e1 (cap_noown n is ρ i xs)⟩,λ i xs q e1=>absurd e1 (cap_noown n is ρ i xs),λ i xs e1=>key i _ e1,DicOk.non (cap_nodic n is ρ)⟩;intro i l e;by_cases hi:i < n
 ·rw[List.getElem?_append_left (by simpa using hi),List.getElem?_replicate]at e;split at e<;>cases e
 ·rw[List.getElem?_append_right (by simpa using hi)]at e;unfold sCap;rw[List.getElem?_append_right (by simpa using hi)];simp only[List.length_replicate]at e ⊢;unfold Z.capt at e;rw[List.getElem?_map]at e ⊢;cases q:is[i-n]? with
  | none=>rw[q]at e;cases e
  | some j =>
   rw[q]at e;have e':Z.capt1 ρ j=some l:=Option.some.inj e;unfold Z.capt1 at e';split at e'
   ·rename_i d hd;cases e';obtain⟨v,h1,h2⟩:=h.get j _ hd;refine⟨v,?_,h2⟩;simp[h1]
   ·rename_i d hd;cases e';obtain⟨v,h1,h2⟩:=h.get j _ hd;refine⟨v,?_,h2⟩;simp[h1]
   ·rename_i d hd;cases e';obtain⟨v,h1,h2⟩:=h.get j _ hd;refine⟨v,?_,h2⟩;simp[h1]
   ·cases e'
theorem codeAny_compLoop_go{prog:Program}{w:World}{A:Around}{R:Result->Shared->Prop}{s:Shared}{elt target iter:Expr}{ifs:List Expr}{scope:Scope}{pos:Pos}{it acc:Value}{env:Env}(I:Nat->Shared->Prop)
  (turn : ∀ n s, I n s -> wpAny (model prog w) A (pyNext it) (λ r s₁ => match r with
   | none=>R (.ok .next) s₁
   | some v=>wpAny (model prog w) A (letOwnedTupleGo target it v) (λ _ s₁=>wpAny (model prog w) A (assign target env v) (λ _ s₂ =>
     wpAny (model prog w) A (forIn ifs true λ c r=>if r=true then do let ok ←isTrue c env (eval c env);pure (ForInStep.yield ok)else pure (ForInStep.yield r)) (λ ok s₃ =>
      if ok=true then wpAny (model prog w) A (eval elt env) (λ x s₄ =>wpAny (model prog w) A (call (.builtin "list.append") [acc,x]) (λ _ s₅=>∃m,m < n∧I m s₅) (λ _ _=>False) s₄) (λ _ _=>False) s₃
      else ∃m,m < n∧I m s₃) (λ _ _=>False) s₂) (λ _ _=>False) s₁) (λ _ _=>False) s₁) (λ _ _=>False) s)
  (n:Nat) (h:I n s) :
  codeAny (model prog w) A (.compLoop (.ListComp elt [⟨target,iter,ifs,0⟩] scope pos) 0 it acc env) R s:=by
 refine codeAny_loop rfl I (λ n s hI=>?_) n h;show wpAny _ A ((compTurn (.ListComp elt [⟨target,iter,ifs,0⟩] scope pos) 0 it acc env).onRaise (λ x=>do noteFrame x env;theTreesLotGoes x)) _ _ s;refine wpAny_noted ?_;rw[compTurn_list];refine wpAny_bind (wpAny_standAt (wpAny_bind (wpAny_mono (turn n s hI) (λ r s₁ h₁=>?_) λ _ _ h'=>h'.elim)));cases r with
 | none=>exact wpAny_pure h₁
 | some v =>
  refine wpAny_bind (wpAny_mono h₁ (λ _ s₁ h₁=>?_) λ _ _ h'=>h'.elim);refine wpAny_bind (wpAny_mono h₁ (λ _ s₂ h₂=>wpAny_bind (wpAny_mono h₂ (λ ok s₃ h₃=>?_) λ _ _ h'=>h'.elim)) λ _ _ h'=>h'.elim);cases ok with
  | false=>exact wpAny_pure ⟨rfl,h₃⟩
  | true =>exact wpAny_bind (wpAny_bind (wpAny_mono h₃ (λ x s₄ h₄=>wpAny_bind (wpAny_mono h₄ (λ _ s₅ h₅=>wpAny_pure (wpAny_pure ⟨rfl,h₅⟩)) λ _ _ h'=>h'.elim)) λ _ _ h'=>h'.elim))
structure Off(X:Cx)(pins:List (Addr×Obj))(H:Hp)(C:Addr):Prop where
 free:H C=none
 loc:C≠X.env.locals
 new:X.s₀.heap.objs.size≤C
 cell:∀x c,X.env.cells.lookup x=some c->c≠C
 pin:∀p∈X.pn++pins,p.1≠C
theorem Off.inv{pins:List (Addr×Obj)}{σ:St}{H:Hp}{s:Shared}{C:Addr}{h':Heap}(o:Off X pins H C)(I:Inv X pins σ H s)(hs:Heap.SameBut C s.heap h'):Inv X pins σ H { s with heap:=h' } :=
 I.turned (t':=s.toks) (λ b ob hb e=>(hs.2 b hb).trans e) o.free o.loc (.inr o.new) o.cell o.pin
def Ran(X:Cx)(pins:List (Addr×Obj))(σ:St)(H₂:Hp)(ys:List Z.D)(acc:Value)(C:Addr)(s':Shared):Prop :=
 ∃D H' vs m,acc=.ref D∧s'.heap.Ns C m∧Inv X pins σ H' s'∧Off X pins H' C∧H₂ D=none∧aJ H₂ H'∧H' D=some (.lst vs)∧aE X.K H' ys vs
theorem comp_ran{it : Addr}{fp : List Addr}{tn : Nat -> Heap -> Prop}{J : It}{pins : List (Addr × Obj)}{σ : St}{ρ : Z.Env}{H₂ : Hp}{s₂ : Shared}{E : Value -> Shared -> Prop}{cl : List (Str × Addr)}{G : Z.GF}{t : Z.TF}{fe : Z.EF}{ds ys : List Z.D}
  (hcalm:X.calm=true) (B:Blk X.N N' n is scope X.env.scope) (I2:Inv X pins σ H₂ s₂) (T:Turn X.prog X.w X.K tg J fp it tn) (st0:tn 0 s₂.heap) (fo:∀b∈fp,FpOk X pins H₂ b) (z:ItZ X.K J (aJ H₂) ds) (re:RE X.K H₂ σ ρ)
  (hcl1:∀x c,cl.lookup x=some c->X.env.cells.lookup x=some c) (hcl2:∀y∈scope.names,y.2=.free->(cl.lookup y.1).isSome=true)
  (hG:∀d ρ ρ1,G d ρ=.ok ρ1->ρ1.length=ρ.length∧∀i,n≤i->ρ1[i]?=ρ[i]?)
  (hg:∀C s H H0,DG (blk X N' scope cl C fp s H) H0 tg G)
  (ht:∀ (C:Addr) (s s':Shared) (H:Hp) (pins':List (Addr×Obj)) (σ':St) (H':Hp) (Q:Bool->Hp->Prop),Inv (blk X N' scope cl C fp s H) pins' σ' H' s'->tZt X.K t σ' H' Q ->
   wpAny (model X.prog X.w) X.A (forIn ifs true λ c r=>if r=true then do let ok ←isTrue c (compEnvC scope cl C X.env) (eval c (compEnvC scope cl C X.env));pure (ForInStep.yield ok)else pure (ForInStep.yield r)) (TP (blk X N' scope cl C fp s H) pins' σ' Q) (λ _ _=>False) s')
  (he:∀C s H,DE (blk X N' scope cl C fp s H) elt fe) (hlen:ds.length≤Z.line) (ego:Z.compGo G t fe (List.replicate n none++Z.capt ρ is) ds=.ok ys) :
  wpAny (model X.prog X.w) X.A (newList []) (λ acc s₃=>wpAny (model X.prog X.w) X.A (newFunctionEnv scope X.env.globals cl [] X.env.qual none .none (some X.env)) (λ cenv s₄ =>codeAny (model X.prog X.w) X.A (.compStart (.ListComp elt [⟨tg,iter,ifs,0⟩] scope pos) 0 (.ref it) acc { cenv with scope:=relabel scope X.env }) (λ r s'=>r=.ok .next∧Ran X pins σ H₂ ys acc cenv.locals s') s₄) E s₃) E s₂:=by
 refine wpAny_newObj_type (wpAny_newFunctionEnv B.cell (by intro y hy;simp at hy) (λ h₁ hns₁ hsb₁=>?_) B.kind);dsimp only at hns₁ hsb₁ ⊢;generalize hH2:s₂.heap.push { cls:=.type "list",dict:=none,data:=.seq ([]:List Value).toArray }=HH at hns₁ hsb₁ ⊢;have hC:HH.objs.size=s₂.heap.objs.size+1:=by rw[<-hH2,Heap.size_push]
 have hDC:s₂.heap.objs.size≠HH.objs.size:=by rw[hC];exact Nat.ne_of_lt (Nat.lt_succ_self _)
 have below:∀b,b < s₂.heap.objs.size->b≠HH.objs.size∧b≠s₂.heap.objs.size:=λ b hb=>⟨by rw[hC];exact Nat.ne_of_lt (Nat.lt_succ_of_lt hb),Nat.ne_of_lt hb⟩
 have old:∀b o,s₂.heap.get? b=some o->h₁.get? b=some o:=λ b o e=>hsb₁.extBut b o (below b (Heap.lt_size e)).1 (Heap.get?_push_of_some _ (hH2▸Heap.get?_push_of_some _ e));have hacc:h₁.get? s₂.heap.objs.size=some { cls:=.type "list",data:=.seq ([]:List Value).toArray }:=hsb₁.extBut _ _ hDC (Heap.get?_push_of_some _ (hH2▸Heap.get?_push_size _ rfl));have fpo:∀b∈fp,∃o,s₂.heap.get? b=some o∧∀v,o.data≠.cell v:=T.obj 0 _ st0;have fplt:∀b∈fp,b < s₂.heap.objs.size:=λ b hb=>let ⟨_,e,_⟩:=fpo b hb;Heap.lt_size e;generalize hD:s₂.heap.objs.size=D at hDC below old hacc hC ⊢;generalize hCC:HH.objs.size=C at hns₁ hsb₁ hDC below hC ⊢;have hDn:H₂ D=none:=I2.hok.fresh (by rw[hD];exact Nat.le_refl _);have hCn:H₂ C=none:=I2.hok.fresh (by rw[hD,hC];exact Nat.le_succ _)
 -- the block's context is in order
 have ok : (blk X N' scope cl C fp s₂ H₂).Ok := by
  refine⟨I2.ok.mod,B.kind,I2.ok.glob,I2.ok.blt,by show s₂.heap.objs.size≤C;rw[hD,hC];exact Nat.le_succ _,λ x y c e1 e2=>I2.ok.inj x y c (hcl1 x c e1) (hcl1 y c e2),λ x hx=>?_,λ x c hf=>(by cases hf),I2.ok.hd,I2.ok.frames,.inl rfl,
   λ b hb=>⟨(below b (by rw[<-hD];exact fplt b hb)).1,λ x c e=>(fo b hb).2.2.2.2.1 x c (hcl1 x c e)⟩,I2.bs,Nat.le_trans I2.ok.bsz I2.sz,λ b o e hb=>?_,λ b hb z=>?_,I2.stack,I2.stkFree⟩
  ·have hx':(relabel scope X.env).names.lookup x=some .cell∨(relabel scope X.env).names.lookup x=some .free:=hx;have e:=lookup_relabel (env:=X.env) (x:=x) scope.names;have e':(relabel scope X.env).names.lookup x=_:=e;rw[e']at hx';cases q:scope.names.lookup x with
   | none=>rw[q]at hx';rcases hx' with h | h<;>cases h
   | some k =>
    have hm:=PySem.mem_of_lookup q;have hk:k=.free:=by
     rw[q]at hx';simp only[Option.map_some]at hx';by_cases hc:(k==NameKind.free&&X.env.scope.kind==.function&&X.env.kindOf x==some .cell)=true
     ·rw[Bool.and_eq_true,Bool.and_eq_true]at hc;exact beq_iff_eq.mp hc.1.1
     ·rw[if_neg hc]at hx';rcases hx' with h | h
      ·exact absurd (Option.some.inj h) (B.cell _ hm)
      ·exact Option.some.inj h
    subst hk;exact Option.isSome_iff_exists.mp (hcl2 _ hm rfl)
  ·rcases(fo b hb).2.2.2.1 with q | q
   ·exact I2.ok.noex b o e q
   ·exact absurd (Nat.lt_of_lt_of_le (Heap.lt_size (I2.ok.bs b o e).1) q) (Nat.lt_irrefl _)
  ·rcases List.mem_cons.mp (I2.stkSub b z)with q | q
   ·exact(fo b hb).2.1 q
   ·exact(fo b hb).2.2.1 q
 have Hd:HOk X.prog X.w (upd H₂ D (.lst [])) h₁:=I2.hok.laid old (by rw[hD];exact Nat.le_refl _) ⟨Nat.zero_le _,[],_,.nil,hacc⟩;have ne2:∀b,b < s₂.heap.objs.size->b≠D:=λ b hb=>by rw[<-hD];exact Nat.ne_of_lt hb
 have cellS:∀x c,X.env.cells.lookup x=some c->c < s₂.heap.objs.size∧∀v,s₂.heap.IsCell c v->h₁.IsCell c v:=λ x c e=>by obtain⟨v,o,ho,hd⟩:=I2.cell x c e;exact⟨Heap.lt_size ho,λ v' ⟨o',ho',hd'⟩=>⟨o',old c o' ho',hd'⟩⟩
 have I4 : Inv (blk X N' scope cl C fp s₂ H₂) [] (sCap σ n is) (upd H₂ D (.lst [])) { s₂ with heap := h₁, toks := s₂.toks + ([] : List (Str × Value)).length } := by
  refine⟨ok,rfl,I2.bare,Un.laid old (by rw[hD];exact Nat.le_refl _) hDn,⟨_,hns₁,λ i x v e1 e2 e3=>?_⟩,λ x c e=>?_,by show upd H₂ D (.lst []) C=none;rw[aM (Ne.symm hDC)];exact hCn,λ x c e=>?_,λ p hp=>absurd (show p∈([]:List (Addr×Obj))from hp) (by simp),Hd,by simp[sCap,B.len],I2.tab.up λ b u _ e=>by rw[aM (ne_of_none e hDn)];exact e⟩
  ·unfold sCap at e2;by_cases hi:i < n
   ·rw[List.getElem?_append_left (by simpa using hi),List.getElem?_replicate]at e2;split at e2<;>cases e2
   ·rw [List.getElem?_append_right (by simpa using hi),List.getElem?_map] at e2;simp only[List.length_replicate]at e2;cases q:is[i-n]? with
    | none=>rw[q]at e2;cases e2
    | some j =>
     rw[q]at e2;simp only[Option.map_some]at e2;obtain⟨x',c1,c2,c3⟩:=B.cap (i-n) j q;have hin:n+(i-n)=i:=by lia
     rw[hin]at c1;have e1':N'[i]?=some x:=e1;rw[c1]at e1';cases e1';have hσ:σ[j]?=some (some v):=by
      cases r:σ[j]? with
      | none=>rw[r]at e2;cases e2
      | some y =>
       rw[r]at e2;have:y=some v:=by simpa using e2
       rw[this]
     obtain⟨m,hn,hl⟩:=I2.loc;have hm:=PySem.mem_of_lookup c3;have hk:=B.free _ hm rfl;have hvis:Vis X.env.scope x:=by
      rcases hk with k | k
      ·exact .inr (.inl k)
      ·exact .inr (.inr k)
     obtain⟨u,ru,lk⟩:=hl j x v c2 hσ hvis;refine⟨u,ru,?_⟩;rcases lk with⟨k1,_⟩ | ⟨k1,c,hc,hcell⟩
     ·have k1':X.env.scope.names.lookup x=some .local:=k1;rcases hk with k | k
      ·rw[k]at k1';cases k1'
      ·rw[k]at k1';cases k1'
     ·obtain⟨c',hc'⟩:=Option.isSome_iff_exists.mp (hcl2 _ hm rfl);have:c'=c:=by have:=hcl1 x c' hc';rw[hc]at this;exact(Option.some.inj this).symm
      subst this;refine .inr ⟨?_,c',hc',(cellS x c' hc).2 _ hcell⟩;show(relabel scope X.env).names.lookup x=some .cell∨(relabel scope X.env).names.lookup x=some .free;have e:=lookup_relabel (env:=X.env) (x:=x) scope.names;have e':(relabel scope X.env).names.lookup x=_:=e;rw[e',c3];simp only[Option.map_some];split
      ·exact .inl rfl
      ·exact .inr rfl
  ·obtain⟨v,hv⟩:=I2.cell x c (hcl1 x c e);exact⟨v,(cellS x c (hcl1 x c e)).2 v hv⟩
  ·have hlt:=(cellS x c (hcl1 x c e)).1;rw[aM (ne2 c hlt)];exact I2.freeC x c (hcl1 x c e)
 have rs4:RS X.K H₂ (upd H₂ D (.lst [])) (sCap σ n is) (List.replicate n none++Z.capt ρ is):=re_cap re (upd_Same hDn);have st4:tn 0 h₁:=T.keep 0 _ _ st0 λ b hb o e=>old b o e;have fr4:∀b∈fp,(upd H₂ D (.lst [])) b=none:=λ b hb=>by rw[aM (ne2 b (fplt b hb))];exact(fo b hb).1
 -- what stays true of the iterator's objects
 have stat:∀{H':Hp},(∀b∈fp,H' b=none)->∀b∈fp,FpOk (blk X N' scope cl C fp s₂ H₂) [] H' b:=λ hn b hb=>by
  refine⟨hn b hb,(below b (by rw[<-hD];exact fplt b hb)).1,?_,.inl hb,λ x c e=>(fo b hb).2.2.2.2.1 x c (hcl1 x c e),λ p hp=>absurd (show p∈([]:List (Addr×Obj))from hp) (by simp)⟩;intro q;rcases List.mem_cons.mp (I2.stkSub b q)with q | q
  ·exact(fo b hb).2.1 q
  ·exact(fo b hb).2.2.1 q
 have loop : codeAny (model X.prog X.w) X.A (.compLoop (.ListComp elt [⟨tg, iter, ifs, 0⟩] scope pos) 0 (.ref it) (.ref D) (compEnvC scope cl C X.env)) (λ r s' => r = .ok .next ∧ Ran X pins σ H₂ ys (.ref D) C s')
   { s₂ with heap:=h₁,toks:=s₂.toks+([]:List (Str×Value)).length }:=by
  refine codeAny_compLoop_go (λ m s'=>∃i σ' H' vs zs,m=ds.length+1-i∧i≤ds.length∧vs.length≤i∧Inv (blk X N' scope cl C fp s₂ H₂) [] σ' H' s'∧tn i s'.heap∧(∀b∈fp,H' b=none)∧H' D=some (.lst vs)∧aJ H₂ H' ∧
   RS X.K H₂ H' σ' (List.replicate n none++Z.capt ρ is)∧(∃rest,Z.compGo G t fe (List.replicate n none++Z.capt ρ is) (ds.drop i)=.ok rest∧zs++rest=ys)∧aE X.K H' zs vs) ?_ (ds.length+1)
   ⟨0,sCap σ n is,_,[],[],rfl,Nat.zero_le _,Nat.le_refl _,I4,st4,fr4,upd_same,upd_Same hDn,rs4,⟨ys,by simpa using ego,rfl⟩,aE.nil⟩
  ·rintro m s' ⟨i,σ3,H3,vs,zs,rfl,hil,hvl,I3,st3,fr3,hD3,sm3,re3,⟨rest,er,ez⟩,dz⟩;by_cases hlt:i < ds.length
   ·obtain⟨d,hd⟩:∃d,ds[i]?=some d:=⟨ds[i],by simp[hlt]⟩
    have hdrop:ds.drop i=d :: ds.drop (i+1):=by
     rw[List.drop_eq_getElem_cons hlt];have:ds[i]=d:=by have:=List.getElem?_eq_getElem hlt;rw[this]at hd;exact Option.some.inj hd
     rw[this]
    rw[hdrop]at er;unfold Z.compGo at er;obtain⟨ρ1,eg,er⟩:=Z.Res.ax er;obtain⟨c1,ec,er⟩:=Z.Res.ax er;refine thn (T.item (blk X N' scope cl C fp s₂ H₂) rfl rfl rfl hcalm i [] s' σ3 H3 (λ _ _=>False) I3 (stat fr3) st3 (z.go i d H3 sm3 hd)) λ r s4 ⟨u,hr,h4⟩=>?_;subst hr;refine thn h4 λ _ s5 ⟨x,H5,I5,r5,y5,st5,fr5⟩=>?_;obtain⟨sy,dx⟩:=z.yld i d H3 H5 x sm3 hd y5;replace re3:=re3.up sy;replace sm3:=sm3.trans sy;replace hD3:=sy _ _ hD3;replace dz:=dz.up sy;have I5':=I5.pinned (stat fr5) (T.obj _ _ st5);have rs5:RS X.K H₂ H5 σ3 (List.replicate n none++Z.capt ρ is):=re3;refine thn (hg C s₂ H₂ H₂ _ s5 σ3 H5 x u (λ σ6 H6=>aJ H5 H6∧RS X.K H₂ H6 σ6 ρ1) I5' r5 ⟨_,d,ρ1,rs5,dx,eg,λ σ' H' s' r'=>⟨s',r'⟩⟩) λ _ s6 ⟨σ6,H6,I6,sm6,rs6⟩=>?_;refine thn (ht C s₂ s6 H₂ _ σ6 H6 (λ b H7=>b=c1∧aJ H6 H7) I6 ⟨ρ1,c1,rs6.re,ec,λ H7 s7=>⟨rfl,s7⟩⟩) λ ok s7 ⟨H7,I7,e7,sm7⟩=>?_;subst e7;have sm57:aJ H5 H7:=sm6.trans sm7;have re7:RE X.K H7 σ6 ρ1:=rs6.re.up sm7;have re0:∀{H9:Hp},aJ H7 H9->RS X.K H₂ H9 σ6 (List.replicate n none++Z.capt ρ is):=λ {H9} s9=>by
     obtain⟨gl,gk⟩:=hG d _ ρ1 eg;refine⟨(rs6.same.trans sm7).trans s9,⟨by rw[<-gl];exact re7.len,λ j l e=>?_,λ j k xs ys q e1=>absurd e1 (cap_noown n is ρ j xs)⟩,λ j xs q e1=>absurd e1 (cap_noown n is ρ j xs),λ j xs e=>?_,DicOk.non (cap_nodic n is ρ)⟩;rotate_left
     ·by_cases hj:n≤j
      ·rw[<-gk j hj]at e;exact rs6.bors j xs e
      ·rw[List.getElem?_append_left (by simp;lia),List.getElem?_replicate]at e;split at e<;>cases e
     by_cases hj:n≤j
     ·rw[<-gk j hj]at e;exact(re7.up s9).get j l e
     ·rw[List.getElem?_append_left (by simp;lia),List.getElem?_replicate]at e;split at e<;>cases e
    have fin:∀{H9:Hp}{s9:Shared}(vs9:List V) (zs9:List Z.D),Inv (blk X N' scope cl C fp s₂ H₂) ([]++pinsAt fp s5.heap) σ6 H9 s9->H9 D=some (.lst vs9)->vs9.length≤i+1->aJ H₂ H9->RS X.K H₂ H9 σ6 (List.replicate n none++Z.capt ρ is) ->
      (∃ rest,Z.compGo G t fe (List.replicate n none++Z.capt ρ is) (ds.drop (i+1))=.ok rest∧zs9++rest=ys)->aE X.K H9 zs9 vs9->∃ m,m < ds.length+1-i∧∃ i σ' H' vs zs,m=ds.length+1-i∧i≤ds.length∧vs.length≤i∧Inv (blk X N' scope cl C fp s₂ H₂) [] σ' H' s9∧tn i s9.heap∧(∀ b∈fp,H' b=none)∧H' D=some (.lst vs)∧aJ H₂ H' ∧
       RS X.K H₂ H' σ' (List.replicate n none++Z.capt ρ is)∧(∃rest,Z.compGo G t fe (List.replicate n none++Z.capt ρ is) (ds.drop i)=.ok rest∧zs++rest=ys)∧aE X.K H' zs vs:=by
     intro H9 s9 vs9 zs9 I9 hD9 hv9 sm9 re9 er9 dz9;refine⟨ds.length+1-(i+1),by lia,i+1,σ6,H9,vs9,zs9,rfl,hlt,hv9,I9.unpinned,T.keep _ _ _ st5 λ b hb o e=>(I9.pin (b,o) (List.mem_append_right _ (List.mem_append_right _ (mem_pinsAt hb e)))).1,λ b hb=>?_,hD9,sm9,re9,er9,dz9⟩;obtain⟨o,e,_⟩:=T.obj _ _ st5 b hb;exact(I9.pin (b,o) (List.mem_append_right _ (List.mem_append_right _ (mem_pinsAt hb e)))).2.1
    have hD7:H7 D=some (.lst vs):=sm57 _ _ hD3;cases ok with
    | false =>simp only[Bool.false_eq_true,if_false]at er ⊢;exact fin vs zs I7 hD7 (Nat.le_succ_of_le hvl) (sm3.trans sm57) (re0 (aJ.refl _)) ⟨rest,er,ez⟩ (dz.up sm57)
    | true =>
     simp only[if_true]at er ⊢;obtain⟨y,ey,er⟩:=Z.Res.ax er;obtain⟨rest2,er2,er⟩:=Z.Res.ax er;cases er;refine thn (he C s₂ H₂ _ s7 σ6 H7 (λ v H8=>aJ H7 H8∧Den X.K H8 y v) I7 ⟨ρ1,y,re7,ey,λ v H8 s8 d8=>⟨s8,d8⟩⟩) λ u8 s8 ⟨v8,H8,I8,rv8,sm8,dy⟩=>?_;have hD8:H8 D=some (.lst vs):=sm8 _ _ hD7;have sm28:aJ H₂ H8:=(sm3.trans sm57).trans sm8;refine thn (mt_append (X:=blk X N' scope cl C fp s₂ H₂) _ s8 σ6 H8 (.ref D) [v8] (.ref D) [u8] (λ v H9=>v=.non∧H9=upd H8 D (.lst (vs++[v8]))) I8 rfl (.cons rv8 .nil) ⟨D,vs,v8,rfl,rfl,hD8,?_,rfl,rfl⟩) λ _ s9 ⟨v9,H9,I9,_,_,e9⟩=>?_
     ·rw[sizeLine_eq];have:Z.line=16777216:=rfl;lia
     subst e9;have st8:Stb H8 (upd H8 D (.lst (vs++[v8]))):=stb_lst hD8;have sm9:aJ H₂ (upd H8 D (.lst (vs++[v8]))):=λ b o e=>by rw[aM (ne_of_none e hDn)];exact sm28 b o e
     have re8:=re0 sm8;refine fin (vs++[v8]) (zs++[y]) I9 upd_same (by simp;lia) sm9 ⟨sm9,⟨re8.re.len,λ j l e=>?_,λ j k xs ys q e1=>absurd e1 (cap_noown n is ρ j xs)⟩,λ j xs q e1=>absurd e1 (cap_noown n is ρ j xs),re8.bors,re8.dic⟩ ⟨rest2,er2,by rw[List.append_assoc];exact ez⟩ ((((dz.up sm57).up sm8).append (aE.cons dy aE.nil)).ups st8);obtain⟨v,h1,h2⟩:=re8.re.get j l e;refine⟨v,h1,?_⟩;cases l with
     | val dd=>exact Den.ups (show Den X.K H8 dd v from h2) st8
     | own xs=>exact absurd e (cap_noown n is ρ j xs)
     | bor xs =>obtain⟨v',h3,h4⟩:=re8.bors j xs e;rw[h1]at h3;cases h3;exact h4.up sm9
     | dic ks=>exact absurd e (cap_nodic n is ρ j ks)
     | fdc ks =>obtain⟨q',o',as,rfl,hq',t'⟩:=h2;exact⟨q',o',as,rfl,st8.frz _ _ _ hq',t'.ups st8⟩
     | idc ps =>obtain⟨q',o',rfl,hq'⟩:=h2;exact⟨q',o',rfl,st8.frz _ _ _ hq'⟩
     | exc c =>obtain⟨q',o',u',C',rfl,hq',r1,r2,r3⟩:=h2;exact⟨q',o',u',C',rfl,st8.frz _ _ _ hq',r1,r2,r3.ups st8⟩
   ·have:i=ds.length:=by lia
    subst this;rw[List.drop_length]at er;cases er;rw[List.append_nil]at ez;subst ez;refine thn (T.done (blk X N' scope cl C fp s₂ H₂) rfl rfl rfl hcalm _ [] s' σ3 H3 (λ _ _=>False) I3 (stat fr3) st3 (z.stop H3 sm3)) λ r s4 ⟨hr,J4⟩=>?_;subst hr;obtain⟨m',hn',_⟩:=J4.loc;have neC:∀b o,s₂.heap.get? b=some o->b≠C:=λ b o e=>(below b (by rw[<-hD];exact Heap.lt_size e)).1;have I9:Inv X pins σ H3 s4:=I2.call' (s':=s4) J4.os J4.base J4.hok J4.bare λ b hb=>⟨(fo b hb).2.2.2.1,(fo b hb).2.1,(fo b hb).2.2.2.2.1,(fo b hb).2.2.2.2.2⟩
    have szC:s₂.heap.objs.size≤C:=by rw[hD,hC];exact Nat.le_succ _
    refine⟨rfl,D,H3,vs,m',rfl,hn',I9,⟨J4.free,?_,Nat.le_trans I2.sz szC,λ x c e=>?_,λ p hp=>?_⟩,hDn,sm3,hD3,dz⟩
    ·exact Nat.ne_of_gt (Nat.lt_of_lt_of_le I2.lt szC)
    ·exact Nat.ne_of_lt (Nat.lt_of_lt_of_le (cellS x c e).1 szC)
    ·exact neC p.1 p.2 (I2.pin p hp).1
 have hst:codeAny (model X.prog X.w) X.A (.compStart (.ListComp elt [⟨tg,iter,ifs,0⟩] scope pos) 0 (.ref it) (.ref D) (compEnvC scope cl C X.env)) (λ r s'=>r=.ok .next∧Ran X pins σ H₂ ys (.ref D) C s')
   { s₂ with heap:=h₁,toks:=s₂.toks+([]:List (Str×Value)).length }:=codeAny_compStart_list loop (T.self _ 0 _ _ _ st4 loop)
 exact hst
theorem gName_keep{k:Nat}(h:k < n)(d:Z.D)(ρ ρ1:Z.Env)(e:Z.gName k d ρ=.ok ρ1):ρ1.length=ρ.length∧∀i,n≤i->ρ1[i]?=ρ[i]?:=by cases e;exact⟨by simp,λ i hi=>List.getElem?_set_ne (by lia)⟩
theorem gNames_keep:∀(ks:List Nat),(∀k∈ks,k < n)->∀(ds:List Z.D)(ρ ρ1:Z.Env),Z.gNames ks ds ρ=.ok ρ1->ρ1.length=ρ.length∧∀i,n≤i->ρ1[i]?=ρ[i]?
 | [],_,[],ρ,ρ1,e=>by cases e;exact⟨rfl,λ _ _=>rfl⟩
 | [],_,_ :: _,_,_,e=>by cases e
 | _ :: _,_,[],_,_,e=>by cases e
 | k :: ks,h,d :: ds,ρ,ρ1,e=>by obtain⟨h1,h2⟩:=gNames_keep ks (λ k hk=>h k (List.mem_cons_of_mem _ hk)) ds _ ρ1 e;refine⟨by rw[h1];simp,λ i hi=>?_⟩;rw[h2 i hi];have:=h k List.mem_cons_self;exact List.getElem?_set_ne (by lia)
theorem gTup_keep{ks:List Nat}(h:∀k∈ks,k < n)(d:Z.D)(ρ ρ1:Z.Env)(e:Z.gTup ks d ρ=.ok ρ1):ρ1.length=ρ.length∧∀i,n≤i->ρ1[i]?=ρ[i]?:=by
 unfold Z.gTup at e;split at e
 ·exact gNames_keep ks h _ ρ ρ1 e
 ·cases e
def Tst(X:Cx)(ifs:List Expr)(t:Z.TF):Prop:=∀(pins:List (Addr×Obj))(s:Shared)(σ:St)(H:Hp)(Q:Bool->Hp->Prop),Inv X pins σ H s->tZt X.K t σ H Q ->
 wpAny (model X.prog X.w) X.A (forIn ifs true λ c r=>if r=true then do let ok ←isTrue c X.env (eval c X.env);pure (ForInStep.yield ok)else pure (ForInStep.yield r)) (TP X pins σ Q) X.xe s
theorem tst_no:Tst X [] Z.tTrue:=λ pins s σ H Q I ⟨ρ,b,r,e,k⟩=>by cases e;exact wpAny_tests_nil ⟨H,I,k H (aJ.refl H)⟩
theorem tst_one{c:Expr}{t:Z.TF}(h:DT X c t):Tst X [c] t:=λ pins s σ H Q I w=>wpAny_tests_one (h pins s σ H Q I w)
theorem comp_all{it:Z.LF}{G:Z.GF}{t:Z.TF}{fe:Z.EF}{pins:List (Addr×Obj)}{σ:St}{H:Hp}{s:Shared}{ρ:Z.Env}{ys:List Z.D}{use:Option (Value->Sem Unit)}{Q:Value->Shared->Prop}{ps:Pos}(hcalm:X.calm=true)(hi:DI X tg iter it)(B:Blk X.N N' n is scope X.env.scope)
  (hG:∀d ρ ρ1,G d ρ=.ok ρ1->ρ1.length=ρ.length∧∀i,n≤i->ρ1[i]?=ρ[i]?)
  (hg:∀cl C fp s H H0,DG (blk X N' scope cl C fp s H) H0 tg G) (ht:∀cl C fp s H,Tst (blk X N' scope cl C fp s H) ifs t) (he:∀cl C fp s H,DE (blk X N' scope cl C fp s H) elt fe)
  (hs:∀x,foldedSetIterable iter X.env x=pure x)
  (I:Inv X pins σ H s) (re:RE X.K H σ ρ) (ec:Z.lComp it n is G t fe ρ=.ok ys)
  (fin:∀acc C s' H₂,aJ H H₂->Ran X pins σ H₂ ys acc C s'->compPost (model X.prog X.w) X.A X.xe use Q acc C (.ok .next) s') :
  wpAny (model X.prog X.w) X.A (comprehension (.ListComp elt [⟨tg,iter,ifs,0⟩] scope pos) scope X.env ps (newList []) false (eval iter X.env) use) Q X.xe s:=by
 obtain⟨ds,ei,ec⟩:=Z.Res.ax ec;unfold Z.guard at ec;split at ec
 ·rename_i hlen;have hfree:∀y∈scope.names,y.2=.free->∃c,X.env.cells.lookup y.1=some c:=λ y hy hf=>I.ok.has y.1 (B.free y hy hf);obtain⟨cl,hcl,hcl1,hcl2⟩:=closureFor_of hfree;refine wpAny_comprehension_free (use:=use) rfl hs hcl B.kind B.loc ?_;refine thn (hi pins s σ H (λ J H₂=>aJ H H₂∧ItZ X.K J (aJ H₂) ds) I ⟨ρ,ds,re,ei,λ J H' s' z=>⟨s',z⟩⟩) λ x s₁ h₁=>?_;refine thn h₁ λ itv s₂ ⟨it',fp,tn,J,H₂,e2,I2,T,st0,fo,sm,z⟩=>?_;subst e2;refine thn (comp_ran (iter:=iter) (pos:=pos) (cl:=cl) hcalm B I2 T st0 fo z (re.up sm) hcl1 hcl2 hG (λ C s H H0=>hg cl C fp s H H0) (λ C s s' H' pins' σ' H'' Q' I' w=>ht cl C fp s H' pins' s' σ' H'' Q' I' w) (λ C s H=>he cl C fp s H) hlen ec) λ acc s₃ h₃=>?_;refine thn h₃ λ cenv s₄ h₄=>codeAny_mono h₄ λ r s' ⟨er,ran⟩=>?_;subst er;exact fin acc cenv.locals s' H₂ sm ran
 ·cases ec
theorem dl_comp{it:Z.LF}{G:Z.GF}{t:Z.TF}{fe:Z.EF}(hcalm:X.calm=true)(hi:DI X tg iter it)(B:Blk X.N N' n is scope X.env.scope)(hG:∀d ρ ρ1,G d ρ=.ok ρ1->ρ1.length=ρ.length∧∀i,n≤i->ρ1[i]?=ρ[i]?)
  (hg:∀cl C fp s H H0,DG (blk X N' scope cl C fp s H) H0 tg G) (ht:∀cl C fp s H,Tst (blk X N' scope cl C fp s H) ifs t) (he:∀cl C fp s H,DE (blk X N' scope cl C fp s H) elt fe)
  (hs:∀x,foldedSetIterable iter X.env x=pure x:=by intro _;rfl):DL X (.ListComp elt [⟨tg,iter,ifs,0⟩] scope pos) (Z.lComp it n is G t fe):=by
 intro pins s σ H Q I w;obtain⟨ρ,ys,re,e,k⟩:=w;rw[eval_ListComp];refine comp_all (use:=none) hcalm hi B hG hg ht he hs I re e λ acc C s' H₂ sm ran=>?_;obtain⟨D,H',vs,m,rfl,hns,I',off,hDn,sm',hD,dz⟩:=ran;exact⟨m,hns,λ h' hs'=>⟨.ref D,H',off.inv I' hs',rfl,k D vs H' (sm.trans sm') (sm.free hDn) hD dz⟩⟩
theorem comp_set{it:Z.LF}{G:Z.GF}{t:Z.TF}{fe:Z.EF}{i:Nat}{x:Str}{px spos:Pos}{D:Ends}{pins:List (Addr×Obj)}{σ:St}{H:Hp}{s:Shared}{ρ:Z.Env}{ys:List Z.D}(hcalm:X.calm=true)(hN:X.N.Nodup)(hix:X.N[i]?=some x)(hx:Loc X.env.scope x)
  (hsw:swapsWith (.ListComp elt [⟨tg,iter,ifs,0⟩] scope pos) (some (.Name x px)) spos.line X.env=pure true) (hi:DI X tg iter it) (B:Blk X.N N' n is scope X.env.scope) (hG:∀d ρ ρ1,G d ρ=.ok ρ1->ρ1.length=ρ.length∧∀i,n≤i->ρ1[i]?=ρ[i]?)
  (hg:∀cl C fp s H H0,DG (blk X N' scope cl C fp s H) H0 tg G) (ht:∀cl C fp s H,Tst (blk X N' scope cl C fp s H) ifs t) (he:∀cl C fp s H,DE (blk X N' scope cl C fp s H) elt fe)
  (hs:∀x,foldedSetIterable iter X.env x=pure x) (hf:X.fn x=true∨X.env.scope.names.lookup x=some .local) (I:Inv X pins σ H s) (re:RE X.K H σ ρ) (e:Z.lComp it n is G t fe ρ=.ok ys)
  (k:∀q vs H',aJ H H'->H q=none->H' q=some (.lst vs)->aE X.K H' ys vs->∃H'',(∀s',Inv X pins (σ.set i (some (.ref q))) H' s'->Inv X pins (σ.set i (some (.ref q))) H'' s')∧D.nx (σ.set i (some (.ref q))) H'') :
  wpAny (model X.prog X.w) X.A (exec (.Assign [.Name x px] (.ListComp elt [⟨tg,iter,ifs,0⟩] scope pos) spos) X.env) (SP X pins D) X.xe s:=by
 rw[exec_Assign_Name_used _ _ _ _ hsw];refine wpAny_bind (wpAny_standAt (wpAny_bind ?_));show wpAny _ X.A (do let _ ←comprehension (.ListComp elt [⟨tg,iter,ifs,0⟩] scope pos) scope X.env _ (newList []) false (eval iter X.env) (some (assign (.Name x px) X.env))) _ _ s;refine wpAny_bind (wpAny_mono (comp_all (use:=some (assign (.Name x px) X.env)) (Q:=λ _ s'=>SP X pins D .next s') hcalm hi B hG hg ht he hs I re e λ acc C s' H₂ sm ran=>?_) (λ _ s' hq=>wpAny_pure (wpAny_pure hq)) λ _ _ e=>e);obtain⟨q,H',vs,m,rfl,hns,I',off,hDn,sm',hD,dz⟩:=ran;obtain⟨H'',hI,hnx⟩:=k q vs H' (sm.trans sm') (sm.free hDn) hD dz;refine wpAny_assign_Name (store_ok2 I' hN hix hx (v:=.ref q) rfl (λ s'' I'' ⟨a,sb,ha⟩=>?_) hf);have hCa:C≠a:=by
  rcases ha with rfl | ha
  ·exact off.loc
  ·exact λ z=>off.cell x a ha z.symm
 refine⟨m,hns.sameBut sb hCa,λ h' hs'=>⟨_,H'',?_,hnx⟩⟩;exact hI _ (off.inv I'' hs')
theorem ds_ownC{H0:Hp}{it:Z.LF}{G:Z.GF}{t:Z.TF}{fe:Z.EF}{i:Nat}{x:Str}{px spos:Pos}(hcalm:X.calm=true)(hN:X.N.Nodup)(hix:X.N[i]?=some x)(hx:Loc X.env.scope x)
  (hi:DI X tg iter it) (B:Blk X.N N' n is scope X.env.scope) (hG:∀d ρ ρ1,G d ρ=.ok ρ1->ρ1.length=ρ.length∧∀i,n≤i->ρ1[i]?=ρ[i]?)
  (hg:∀cl C fp s H H0,DG (blk X N' scope cl C fp s H) H0 tg G) (ht:∀cl C fp s H,Tst (blk X N' scope cl C fp s H) ifs t) (he:∀cl C fp s H,DE (blk X N' scope cl C fp s H) elt fe)
  (hsw:swapsWith (.ListComp elt [⟨tg,iter,ifs,0⟩] scope pos) (some (.Name x px)) spos.line X.env=pure true:=by rfl)
  (hs:∀x,foldedSetIterable iter X.env x=pure x:=by intro _;rfl) (hf:X.fn x=true∨X.env.scope.names.lookup x=some .local:=by first | exact .inl rfl | exact .inr rfl | assumption) :
  DS X H0 (.Assign [.Name x px] (.ListComp elt [⟨tg,iter,ifs,0⟩] scope pos) spos) (Z.sOwn i (Z.lComp it n is G t fe)):=by
 intro pins s σ H D I w;obtain⟨ρ,fl,rs,e,k⟩:=w;obtain⟨ys,ey,e⟩:=Z.Res.ax e;cases e;refine comp_set hcalm hN hix hx hsw hi B hG hg ht he hs hf I rs.re ey λ q vs H' s' hn h1 t'=>⟨H',λ _ j=>j,?_⟩
 exact k _ H' (stb s') ((rs.up s').setO h1 t' (rs.same.free hn) λ j xs _ e=>rs.noq hn j xs e)
theorem ds_setC{H0 : Hp}{it : Z.LF}{G : Z.GF}{t : Z.TF}{fe : Z.EF}{i : Nat}{x : Str}{px spos : Pos}(hcalm : X.calm = true)(hN : X.N.Nodup)(hix : X.N[i]? = some x)(hx : Loc X.env.scope x)
  (hi:DI X tg iter it) (B:Blk X.N N' n is scope X.env.scope) (hG:∀d ρ ρ1,G d ρ=.ok ρ1->ρ1.length=ρ.length∧∀i,n≤i->ρ1[i]?=ρ[i]?)
  (hg:∀cl C fp s H H0,DG (blk X N' scope cl C fp s H) H0 tg G) (ht:∀cl C fp s H,Tst (blk X N' scope cl C fp s H) ifs t) (he:∀cl C fp s H,DE (blk X N' scope cl C fp s H) elt fe)
  (hsw:swapsWith (.ListComp elt [⟨tg,iter,ifs,0⟩] scope pos) (some (.Name x px)) spos.line X.env=pure true:=by rfl)
  (hs:∀x,foldedSetIterable iter X.env x=pure x:=by intro _;rfl) (hf:X.fn x=true∨X.env.scope.names.lookup x=some .local:=by first | exact .inl rfl | exact .inr rfl | assumption) :
  DS X H0 (.Assign [.Name x px] (.ListComp elt [⟨tg,iter,ifs,0⟩] scope pos) spos) (Z.sSet i (Z.eL (Z.lComp it n is G t fe))):=by
 have h1:DS X H0 (.Assign [.Name x px] (.ListComp elt [⟨tg,iter,ifs,0⟩] scope pos) spos) (Z.sOwn i (Z.lComp it n is G t fe)):=ds_ownC hcalm hN hix hx hi B hG hg ht he hsw hs hf;intro pins s σ H D I w;obtain⟨ρ,fl,rs,e,k⟩:=w;obtain⟨d,ed,e⟩:=Z.Res.ax e;cases e;unfold Z.eL at ed;cases ey:Z.lComp it n is G t fe ρ with
 | bad=>rw[ey]at ed;cases ed
 | ok ys =>
  rw[ey]at ed;cases ed;refine thn (h1 pins s σ H { D with nx:=λ σ' H'=>Stb H H'∧RS X.K H0 H' σ' (ρ.set i (some (.own ys))) } I ⟨ρ,.nx (ρ.set i (some (.own ys))),rs,by show(Z.lComp it n is G t fe ρ).bind _=_;rw[ey];rfl,λ σ' H' s' r'=>⟨s',r'⟩⟩) λ fl' s' h=>?_;cases fl' with
  | next =>
   obtain⟨σ',H',I',st',rs'⟩:=h;by_cases hl:i < ρ.length
   ·have ei:(ρ.set i (some (Z.L.own ys)))[i]?=some (some (.own ys)):=List.getElem?_set_self hl;obtain⟨v,si,q,us,rfl,hq,t'⟩:=rs'.re.get i _ ei;obtain⟨o,I2⟩:=inv_freeze I' hq;have r2:=rs'.frz (o:=o) ei si hq t';rw[List.set_set]at r2;exact⟨σ',_,I2,k σ' _ (st'.trans (stb_lst hq)) r2⟩
   ·have e0:ρ.set i (some (Z.L.own ys))=ρ:=List.set_eq_of_length_le (by lia);have e1:ρ.set i (some (Z.L.val (.lst ys)))=ρ:=List.set_eq_of_length_le (by lia);rw[e0]at rs';have k':=k;rw[e1]at k';exact⟨σ',H',I',k' σ' H' st' rs'⟩
  | brk=>exact h
  | cont=>exact h
  | ret u=>exact h
end
section
variable {P:Program}{w:World}{K:PySem.W.Frag}{mg:Str->Option Value}{base:Heap}
theorem start_get{N:List Str}{vs:List V}{ds:List Z.D}{H:Hp}(t:aE K H ds vs)(hl:vs.length≤N.length):RS K H H (L2.start N vs) (Z.start N.length ds):=by
 have noown:∀(i:Nat)(xs:List Z.D),(Z.start N.length ds)[i]?≠some (some (.own xs)):=by
  intro i xs e;unfold Z.start at e;by_cases hi:i < ds.length
  ·rw[List.getElem?_append_left (by simpa using hi),List.getElem?_map]at e;cases q:ds[i]? with
   | none=>rw[q]at e;cases e
   | some d=>rw[q]at e;cases e
  ·rw[List.getElem?_append_right (by simpa using hi),List.getElem?_replicate]at e;split at e<;>cases e
 have nobor:∀(i:Nat)(xs:List Z.D),(Z.start N.length ds)[i]?≠some (some (.bor xs)):=by
  intro i xs e;unfold Z.start at e;by_cases hi:i < ds.length
  ·rw[List.getElem?_append_left (by simpa using hi),List.getElem?_map]at e;cases q:ds[i]? with
   | none=>rw[q]at e;cases e
   | some d=>rw[q]at e;cases e
  ·rw[List.getElem?_append_right (by simpa using hi),List.getElem?_replicate]at e;split at e<;>cases e
 have nodic:∀(i:Nat)(ks:List (List Int)),(Z.start N.length ds)[i]?≠some (some (.dic ks)):=by
  intro i ks e;unfold Z.start at e;by_cases hi:i < ds.length
  ·rw[List.getElem?_append_left (by simpa using hi),List.getElem?_map]at e;cases q:ds[i]? with
   | none=>rw[q]at e;cases e
   | some d=>rw[q]at e;cases e
  ·rw[List.getElem?_append_right (by simpa using hi),List.getElem?_replicate]at e;split at e<;>cases e
 have hlen:=t.length;refine⟨aJ.refl H,⟨?_,λ i l e=>?_,λ i j xs ys q e1=>absurd e1 (noown i xs)⟩,λ i xs q e1=>absurd e1 (noown i xs),λ i xs e1=>absurd e1 (nobor i xs),DicOk.non nodic⟩
 ·unfold Z.start L2.start;simp;lia
 ·unfold Z.start at e;by_cases hi:i < ds.length
  ·rw[List.getElem?_append_left (by simpa using hi),List.getElem?_map]at e;cases q:ds[i]? with
   | none=>rw[q]at e;cases e
   | some d =>rw[q]at e;cases e;obtain⟨v,h1,h2⟩:=t.get q;refine⟨v,?_,h2⟩;unfold L2.start;rw[List.getElem?_append_left (by simp;lia),List.getElem?_map,h1];rfl
  ·rw[List.getElem?_append_right (by simpa using hi),List.getElem?_replicate]at e;split at e<;>cases e
theorem fnZ{x qual:Str}{st:Stmt}{f:Addr}{fd:FuncData}{N ps:List Str}{k:Nat}{b:Z.SF}(F:Fun K x qual st f fd)(S:aA N ps (ak st))
  (hb:∀ (cdv:Value) (A:Around) (outer:List Env) (s:Shared) (H:Hp) (E:XK),Room k (A.deeper (envOfC qual (ak st) s.heap.objs.size f cdv)) ->
   DSs (cxOf CX0 P w K mg base N qual (ak st) f cdv A outer s H E).nox H (defBody st) b):FnOk P w K mg base CX0 (k+1) f fd ps (spZ K (Z.fn ps.length N.length b)):=by
 have hlen:∀(vs:List V)(H:Hp)(Q:VK)(E:XK),spZ K (Z.fn ps.length N.length b) vs H Q E->vs.length=ps.length:=λ vs H Q E ⟨ds,d,t,e,_⟩=>by
  unfold Z.fn at e;split at e
  ·rename_i h;rw[t.length];exact h
  ·cases e
 refine F.ok S hlen (λ cdv A outer s H vs Q E hr h=>⟨_,hb cdv A outer s H E hr,?_⟩);have hl:=hlen vs H Q E h;obtain⟨ds,d,t,e,k⟩:=h;have hpl:ps.length≤N.length:=by have:=congrArg List.length S.pre;rw[List.length_take]at this;lia
 have rs:RS K H H (L2.start N vs) (Z.start N.length ds):=start_get t (by lia);unfold Z.fn at e;split at e
 ·cases eb:b (Z.start N.length ds)with
  | bad=>rw[eb]at e;cases e
  | ok fl =>
   rw[eb]at e;refine⟨_,fl,rs,eb,?_⟩;cases fl with
   | rt d'=>cases e;exact λ v H' s' dv=>k v H' s' dv
   | nx ρ'=>cases e;exact λ σ' H' _ rs'=>k .non H' rs'.same den_non
   | bk ρ'=>cases e
   | ct ρ'=>cases e
 ·cases e
end
end ZS
namespace ZS
open PySem PySem.Spec PyProof.Rows L2
def blkOk(N N':List Str)(n:Nat)(is:List Nat)(sc osc:Scope):Bool :=
 (sc.kind==.function)&&sc.names.all (λ y=>y.2 != .cell)&&sc.names.all (λ y=>y.2 != .local || sc.names.lookup y.1==some .local) &&
 sc.names.all (λ y=>y.2 != .free || osc.names.lookup y.1==some .cell || osc.names.lookup y.1==some .free)&&(N'.length==n+is.length) &&
 (List.range is.length).all (λ j=>match is[j]?,N'[n+j]? with
  | some i,some x=>N[i]?==some x&&sc.names.lookup x==some .free
  | _,_=>false) &&
 (List.range n).all (λ j=>match N'[j]? with
  | some x=>sc.names.lookup x==some .local
  | none=>false)
theorem Blk.of{N N':List Str}{n:Nat}{is:List Nat}{sc osc:Scope}(h:blkOk N N' n is sc osc=true):Blk N N' n is sc osc:=by
 unfold blkOk at h;simp only[Bool.and_eq_true,List.all_eq_true,beq_iff_eq,Bool.or_eq_true,bne_iff_ne,ne_eq,List.mem_range]at h;obtain⟨⟨⟨⟨⟨⟨h1,h2⟩,h3⟩,h4⟩,h5⟩,h6⟩,h7⟩:=h;refine⟨h1,h2,λ y hy e=>?_,λ y hy e=>?_,h5,λ j i e=>?_,λ j hj=>?_⟩
 ·rcases h3 y hy with q | q
  ·exact absurd e q
  ·exact q
 ·rcases h4 y hy with(q | q) | q
  ·exact absurd e q
  ·exact .inl q
  ·exact .inr q
 ·have hj:j < is.length:=(List.getElem?_eq_some_iff.mp e).1;have q:=h6 j hj;rw[e]at q;cases r:N'[n+j]? with
  | none=>rw[r]at q;cases q
  | some x =>rw[r]at q;simp only[Bool.and_eq_true,beq_iff_eq]at q;exact⟨x,rfl,q.1,q.2⟩
 ·have q:=h7 j hj;cases r:N'[j]? with
  | none=>rw[r]at q;cases q
  | some x =>rw[r]at q;exact⟨x,rfl,beq_iff_eq.mp q⟩
structure Def(K:PySem.W.Frag)(mg:Str->Option Value)(x:Str)(st:Stmt)(ps:List Str):Prop where
 ex:∃f fd,Fun K x x st f fd∧mg x=some (.ref f)∧Binds K fd ps []
structure Cal(P:Program)(w:World)(K:PySem.W.Frag)(mg:Str->Option Value)(base:Heap)(x:Str)(k:Nat)(ps:List Str)(m:List Z.D->Z.Res Z.D):Prop where
 ex:∃g fd,FnOk P w K mg base CX0 k g fd ps (spZ K m)∧mg x=some (.ref g)∧PySem.W.keepIn K (.ref g)=true∧Binds K fd ps []
theorem Cal.mk'{P:Program}{w:World}{K:PySem.W.Frag}{mg:Str->Option Value}{base:Heap}{x:Str}{k:Nat}{st:Stmt}{N ps:List Str}{b:Z.SF}(d:Def K mg x st ps)(S:aA N ps (ak st))
  (hb:∀ (f:Addr) (cdv:Value) (A:Around) (outer:List Env) (s:Shared) (H:Hp) (E:XK),Room k (A.deeper (envOfC x (ak st) s.heap.objs.size f cdv)) ->
   DSs (cxOf CX0 P w K mg base N x (ak st) f cdv A outer s H E).nox H (defBody st) b):Cal P w K mg base x (k+1) ps (Z.fn ps.length N.length b):=by
 obtain⟨f,fd,F,hm,hb'⟩:=d.ex;exact⟨f,fd,fnZ F S (hb f),hm,F.kp,hb'⟩
section
variable {X:Cx}{e:Expr}{es:List Expr}{pos:Pos}
theorem aq{k:Nat}{ps:List Str}{x:Str}{m:List Z.D->Z.Res Z.D}{ar:Z.AF}{p1:Pos}(C:Cal X.prog X.w X.K X.mg X.base x k ps m)(hr:Room k X.A)(hg:Gl X x)
  (ha:DA X (e :: es) ar) (hdb:(x==("__debug__" : Str))=false:=by decide +kernel) (he:starEach (e :: es) X.env=(false,eval e X.env) :: starEach es X.env:=by rfl) (hpl:(backTo pos (starEach es X.env)).any (·.1)=false:=by rfl) :
  DE X (.Call (.Name x p1) (e :: es) [] pos) (Z.az m ar) :=
 let ⟨_,_,F,hm,hk,hb⟩:=C.ex;de_call F hr hg hm hk hb ha hdb he hpl
end
theorem de_globI{X:Cx}{pos:Pos}{x:Str}{i:Int}{t:Tok}(hg:Gl X x)(hm:X.mg x=some (.int i t))(hb:(x==("__debug__" : Str))=false:=by decide +kernel):DE X (.Name x pos) (Z.eC (.int i)) :=
 de_glob (v:=.int i) hg hm ⟨t,rfl⟩ (λ _=>den_int) hb
theorem script_den{K:PySem.W.Frag}{H:Hp}{a:Addr}{ns:List Int}(hO:Only H)(h:SqL K H a (ns.map V.int)):Den K H (.lst (ns.map Z.D.int)) (.ref a):=by
 refine den_lst ?_ (aE.zints ns);rcases h with(h | ⟨o,h⟩) | h
 ·rcases hO a with z | ⟨o,xs,z⟩ | ⟨q,z⟩
  ·rw[h]at z;cases z
  ·rw[h]at z;cases z
  ·rw[h]at z;cases z
 ·exact .inl ⟨o,h⟩
 ·exact .inr h
theorem law_sp{K:PySem.W.Frag}{H:Hp}{a:Addr}{ns:List Int}{m:List Z.D->Z.Res Z.D}(hO:Only H)(h:SqL K H a (ns.map V.int))(e:m [.lst (ns.map .int)]=.ok (.bl true)):spZ K m [.ref a] H (λ v _=>v=.bl true) λ _ _ _=>False :=
 ⟨_,_,aE.cons (script_den hO h) aE.nil,e,λ v H' _ d=>by simpa only[Den]using d⟩
end ZS
namespace ZS
open PySem PySem.Spec PyProof.Rows L2
section
variable {X:Cx}{e a b:Expr}{pos:Pos}{f fa fb:Z.EF}
theorem str_beqZ(x y:List Nat):((⟨x.toArray⟩:Str)==(⟨y.toArray⟩:Str))=(x==y):=by
 rw[Bool.eq_iff_iff,beq_iff_eq,beq_iff_eq];constructor
 ·intro h;injection h with h;simpa using h
 ·rintro rfl;rfl
theorem rcS{A:Around}{s:Shared}{K:PySem.W.Frag}{H:Hp}{d1 d2:Z.D}{v1 v2:V}{u1 u2:Value}{k:Bool}(h:Z.eqS d1 d2=some k)(h1:DenW K H d1 v1)(h2:DenW K H d2 v2)(r1:RelV v1 u1)(r2:RelV v2 u2):SeqAt.RcAt A s u1 u2 k∧SeqAt.EqAt A s u1 u2 k∧SeqAt.RcNeAt A s u1 u2 (!k):=by
 unfold Z.eqS at h;split at h
 ·cases h;rw[h1.non]at r1;rw[h2.non]at r2;cases r1;cases r2;exact⟨SeqAt.RcAt.none_none,SeqAt.EqAt.same _,SeqAt.RcNeAt.none_none⟩
 ·cases h;rw[h1.bl]at r1;rw[h2.bl]at r2;cases r1;cases r2;exact⟨SeqAt.RcAt.bool_bool _ _,SeqAt.EqAt.bool_bool _ _,SeqAt.RcNeAt.bool_bool _ _⟩
 ·cases h;rw[h1.bl]at r1;rw[h2.int]at r2;cases r1;obtain⟨t,rfl⟩:=r2;exact⟨SeqAt.RcAt.bool_int _ _ _,SeqAt.EqAt.bool_int _ _ _,SeqAt.RcNeAt.bool_int _ _ _⟩
 ·cases h;rw[h1.int]at r1;rw[h2.bl]at r2;cases r2;obtain⟨t,rfl⟩:=r1;exact⟨SeqAt.RcAt.int_bool _ _ _,SeqAt.EqAt.int_bool _ _ _,SeqAt.RcNeAt.int_bool _ _ _⟩
 ·cases h;rw[h1.int]at r1;rw[h2.int]at r2;obtain⟨t,rfl⟩:=r1;obtain⟨t',rfl⟩:=r2;exact⟨SeqAt.RcAt.int_int _ _ _ _,SeqAt.EqAt.int_int _ _ _ _,SeqAt.RcNeAt.int_int _ _ _ _⟩
 ·cases h;rw[h1.str]at r1;rw[h2.str]at r2;obtain⟨t,rfl⟩:=r1;obtain⟨t',rfl⟩:=r2;rw[<-str_beqZ];exact⟨SeqAt.RcAt.str_str _ _ _ _,SeqAt.EqAt.str_str _ _ _ _,SeqAt.RcNeAt.str_str _ _ _ _⟩
 ·cases h;rw[h1.non]at r1;rw[h2.bl]at r2;cases r1;cases r2;exact⟨SeqAt.RcAt.none_bool _,SeqAt.EqAt.none_bool _,SeqAt.RcNeAt.none_bool _⟩
 ·cases h;rw[h1.non]at r1;rw[h2.int]at r2;cases r1;obtain⟨t,rfl⟩:=r2;exact⟨SeqAt.RcAt.none_int _ _,SeqAt.EqAt.none_int _ _,SeqAt.RcNeAt.none_int _ _⟩
 ·cases h;rw[h1.non]at r1;rw[h2.str]at r2;cases r1;obtain⟨t,rfl⟩:=r2;exact⟨SeqAt.RcAt.none_str _ _,SeqAt.EqAt.none_str _ _,SeqAt.RcNeAt.none_str _ _⟩
 ·cases h;rw[h1.bl]at r1;rw[h2.non]at r2;cases r1;cases r2;exact⟨SeqAt.RcAt.bool_none _,SeqAt.EqAt.bool_none _,SeqAt.RcNeAt.bool_none _⟩
 ·cases h;rw[h1.bl]at r1;rw[h2.str]at r2;cases r1;obtain⟨t,rfl⟩:=r2;exact⟨SeqAt.RcAt.bool_str _ _ _,SeqAt.EqAt.bool_str _ _ _,SeqAt.RcNeAt.bool_str _ _ _⟩
 ·cases h;rw[h1.int]at r1;rw[h2.non]at r2;cases r2;obtain⟨t,rfl⟩:=r1;exact⟨SeqAt.RcAt.int_none _ _,SeqAt.EqAt.int_none _ _,SeqAt.RcNeAt.int_none _ _⟩
 ·cases h;rw[h1.int]at r1;rw[h2.str]at r2;obtain⟨t,rfl⟩:=r1;obtain⟨t',rfl⟩:=r2;exact⟨SeqAt.RcAt.int_str _ _ _ _,SeqAt.EqAt.int_str _ _ _ _,SeqAt.RcNeAt.int_str _ _ _ _⟩
 ·cases h;rw[h1.str]at r1;rw[h2.non]at r2;cases r2;obtain⟨t,rfl⟩:=r1;exact⟨SeqAt.RcAt.str_none _ _,SeqAt.EqAt.str_none _ _,SeqAt.RcNeAt.str_none _ _⟩
 ·cases h;rw[h1.str]at r1;rw[h2.bl]at r2;cases r2;obtain⟨t,rfl⟩:=r1;exact⟨SeqAt.RcAt.str_bool _ _ _,SeqAt.EqAt.str_bool _ _ _,SeqAt.RcNeAt.str_bool _ _ _⟩
 ·cases h;rw[h1.str]at r1;rw[h2.int]at r2;obtain⟨t,rfl⟩:=r1;obtain⟨t',rfl⟩:=r2;exact⟨SeqAt.RcAt.str_int _ _ _ _,SeqAt.EqAt.str_int _ _ _ _,SeqAt.RcNeAt.str_int _ _ _ _⟩
 ·cases h
def eAt(g:Z.D->Z.D->Option Bool)(as bs:List Z.D)(j:Nat):Bool:=match as[j]?,bs[j]? with
 | some x,some y=>(g x y).getD false
 | _,_=>true
theorem allEq_at{g : Z.D -> Z.D -> Option Bool}: ∀{as bs : List Z.D}{k : Bool}, Z.allEq g as bs = some k -> k = ((List.range (min as.length bs.length)).all (eAt g as bs) && as.length == bs.length) ∧ ∀(j : Nat) x y, as[j]? = some x -> bs[j]? = some y -> g x y = some (eAt g as bs j)
 | [],[],k,h=>by cases h;exact⟨rfl,λ j x y e=>by simp at e⟩
 | [],_ :: _,k,h=>by cases h;exact⟨by simp,λ j x y e=>by simp at e⟩
 | _ :: _,[],k,h=>by cases h;exact⟨by simp,λ j x y _ e=>by simp at e⟩
 | a :: as,b :: bs,k,h=>by
  unfold Z.allEq at h;split at h
  ·rename_i p q e1 e2;cases h;obtain⟨h1,h2⟩:=allEq_at e2;refine⟨?_,λ j x y ex ey=>?_⟩
   ·have:min (a :: as).length (b :: bs).length=min as.length bs.length+1:=by simp only[List.length_cons];lia
    rw[this,List.range_succ_eq_map,List.all_cons,List.all_map,h1];have e0:eAt g (a :: as) (b :: bs) 0=p:=by simp[eAt,e1]
    have es:(eAt g (a :: as) (b :: bs)∘Nat.succ)=eAt g as bs:=by funext j;simp[eAt]
    have el:((a :: as).length==(b :: bs).length)=(as.length==bs.length):=by rw[Bool.eq_iff_iff];simp
    rw[e0,es,el,Bool.and_assoc]
   ·cases j with
    | zero=>simp at ex ey;subst ex ey;simp[eAt,e1]
    | succ j =>have:=h2 j x y (by simpa using ex) (by simpa using ey);simpa[eAt]using this
  ·cases h
theorem items_at{pins:List (Addr×Obj)}{σ:St}{H:Hp}{s:Shared}(I:Inv X pins σ H s)(n:Nat){A:Around}(hu:A.units+n < cLine)
  (ih:∀{A:Around}{d1 d2:Z.D}{v1 v2:V}{u1 u2:Value}{k:Bool},A.units+n < cLine->Z.eqDn n d1 d2=some k->DenW X.K H d1 v1->DenW X.K H d2 v2->RelV v1 u1->RelV v2 u2->SeqAt.RcAt A s u1 u2 k∧SeqAt.EqAt A s u1 u2 k∧SeqAt.RcNeAt A s u1 u2 (!k))
  {as bs:List Z.D}{vs ws:List V}{its its2:List Value}{k:Bool}(hk:Z.allEq (Z.eqDn n) as bs=some k) (ta:aE X.K H as vs) (tb:aE X.K H bs ws) (ra:Vals vs its) (rb:Vals ws its2) :
   ∀j (h1:j < its.toArray.size) (h2:j < its2.toArray.size),SeqAt.EqAt A s its.toArray[j] its2.toArray[j] (eAt (Z.eqDn n) as bs j):=by
  intro j hj1 hj2;have la:=ta.length;have lb:=tb.length;have ra':=ra.length;have rb':=rb.length;simp only[List.size_toArray]at hj1 hj2;obtain⟨x,ex⟩:∃x,as[j]?=some x:=⟨as[j]'(by lia),List.getElem?_eq_getElem (by lia)⟩
  obtain⟨y,ey⟩:∃y,bs[j]?=some y:=⟨bs[j]'(by lia),List.getElem?_eq_getElem (by lia)⟩
  obtain⟨vx,evx,dx⟩:=ta.get ex;obtain⟨vy,evy,dy⟩:=tb.get ey;obtain⟨ux,eux,rx⟩:=ra.get evx;obtain⟨uy,euy,ry⟩:=rb.get evy;have e1:its.toArray[j]=ux:=by have:=List.getElem?_eq_getElem hj1;rw[eux]at this;simpa using(Option.some.inj this).symm
  have e2:its2.toArray[j]=uy:=by have:=List.getElem?_eq_getElem hj2;rw[euy]at this;simpa using(Option.some.inj this).symm
  rw[e1,e2];exact(ih hu ((allEq_at hk).2 j x y ex ey) (.inl dx) (.inl dy) rx ry).2.1
theorem eqS_same{K:PySem.W.Frag}{H:Hp}{d1 d2:Z.D}{v:V}{k:Bool}(h:Z.eqS d1 d2=some k)(h1:DenW K H d1 v)(h2:DenW K H d2 v):k=true:=by
 unfold Z.eqS at h;split at h<;>first
  | (cases h;rfl)
  | (cases h;done)
  | (have e:=h1.bl.symm.trans h2.bl;cases h;injection e with e;subst e;simp)
  | (have e:=h1.int.symm.trans h2.int;cases h;injection e with e;subst e;simp)
  | (have e:=h1.str.symm.trans h2.str;cases h;injection e with e;rw[<-str_beqZ,e];simp)
  | (have e:=h1.bl.symm.trans h2.int;cases e)
  | (have e:=h1.int.symm.trans h2.bl;cases e)
  | (have e:=h1.non.symm.trans h2.bl;cases e)
  | (have e:=h1.non.symm.trans h2.int;cases e)
  | (have e:=h1.non.symm.trans h2.str;cases e)
  | (have e:=h1.bl.symm.trans h2.non;cases e)
  | (have e:=h1.bl.symm.trans h2.str;cases e)
  | (have e:=h1.int.symm.trans h2.non;cases e)
  | (have e:=h1.int.symm.trans h2.str;cases e)
  | (have e:=h1.str.symm.trans h2.non;cases e)
  | (have e:=h1.str.symm.trans h2.bl;cases e)
  | (have e:=h1.str.symm.trans h2.int;cases e)
theorem items_same{K:PySem.W.Frag}{H:Hp}{n:Nat}(ih:∀{d1 d2:Z.D}{v:V}{k:Bool},Z.eqDn n d1 d2=some k->DenW K H d1 v->DenW K H d2 v->k=true){as bs:List Z.D}{vs:List V}{k:Bool}(h:Z.allEq (Z.eqDn n) as bs=some k)(ta:aE K H as vs)(tb:aE K H bs vs):k=true:=by
 obtain⟨h1,h2⟩:=allEq_at h;have la:=ta.length;have lb:=tb.length;rw[h1,show(as.length==bs.length)=true by simp;lia,Bool.and_true,List.all_eq_true];intro j hj;rw[List.mem_range]at hj;obtain⟨x,ex⟩:∃x,as[j]?=some x:=⟨as[j]'(by lia),List.getElem?_eq_getElem (by lia)⟩
 obtain⟨y,ey⟩:∃y,bs[j]?=some y:=⟨bs[j]'(by lia),List.getElem?_eq_getElem (by lia)⟩
 obtain⟨vx,evx,dx⟩:=ta.get ex;obtain⟨vy,evy,dy⟩:=tb.get ey;rw[evx]at evy;cases evy;exact ih (h2 j x y ex ey) (.inl dx) (.inl dy)
theorem ref_tl{pins:List (Addr×Obj)}{σ:St}{H:Hp}{s:Shared}{a:Addr}{xs ys:List V}(I:Inv X pins σ H s)(h:SqT X.K H a xs)(h':SqL X.K H a ys):False:=by obtain⟨its,r,⟨o,e,c,n,d⟩,_⟩:=I.tuple h;obtain⟨its',r',⟨o',n',e',c',_⟩,_⟩:=I.list h';rw[e]at e';cases e';rw[c]at c';injection c' with z;exact absurd z (by decide)
def sq:Z.D->Bool
 | .tup _=>true
 | .lst _=>true
 | _=>false
def dc:Z.D->Bool
 | .dct _ _=>true
 | _=>false
theorem aP(n:Nat){d1 d2:Z.D}(h:(sq d1=false∧sq d2=false)∨dc d1=true∨dc d2=true):Z.eqDn n d1 d2=Z.eqS d1 d2:=by cases d1<;>cases d2<;>cases n<;>first | rfl | (simp[sq,dc]at h)
theorem eqN_same0{pins : List (Addr × Obj)}{σ : St}{H : Hp}{s : Shared}(I : Inv X pins σ H s)(n : Nat)(ih : ∀m, m < n -> ∀{d1 d2 : Z.D}{v : V}{k : Bool}, Z.eqDn m d1 d2 = some k -> DenW X.K H d1 v -> DenW X.K H d2 v -> k = true){d1 d2 : Z.D}{v : V}{k : Bool}(h : Z.eqDn n d1 d2 = some k)(h1 : DenW X.K H d1 v)(h2 : DenW X.K H d2 v): k = true := by
  cases d1<;>cases d2
  case non.non=>exact eqS_same ((aP n (.inl ⟨rfl,rfl⟩)).symm.trans h) h1 h2
  case non.bl=>exact eqS_same ((aP n (.inl ⟨rfl,rfl⟩)).symm.trans h) h1 h2
  case non.int=>exact eqS_same ((aP n (.inl ⟨rfl,rfl⟩)).symm.trans h) h1 h2
  case non.str=>exact eqS_same ((aP n (.inl ⟨rfl,rfl⟩)).symm.trans h) h1 h2
  case non.tup=>obtain⟨_,_,e,_⟩:=h2.tup;rw[e]at h1;cases h1.non
  case non.lst=>obtain⟨_,_,e,_⟩:=h2.lst;rw[e]at h1;cases h1.non
  case non.dct=>exact eqS_same ((aP n (.inl ⟨rfl,rfl⟩)).symm.trans h) h1 h2
  case bl.non=>exact eqS_same ((aP n (.inl ⟨rfl,rfl⟩)).symm.trans h) h1 h2
  case bl.bl=>exact eqS_same ((aP n (.inl ⟨rfl,rfl⟩)).symm.trans h) h1 h2
  case bl.int=>exact eqS_same ((aP n (.inl ⟨rfl,rfl⟩)).symm.trans h) h1 h2
  case bl.str=>exact eqS_same ((aP n (.inl ⟨rfl,rfl⟩)).symm.trans h) h1 h2
  case bl.tup=>obtain⟨_,_,e,_⟩:=h2.tup;rw[e]at h1;cases h1.bl
  case bl.lst=>obtain⟨_,_,e,_⟩:=h2.lst;rw[e]at h1;cases h1.bl
  case bl.dct=>exact eqS_same ((aP n (.inl ⟨rfl,rfl⟩)).symm.trans h) h1 h2
  case int.non=>exact eqS_same ((aP n (.inl ⟨rfl,rfl⟩)).symm.trans h) h1 h2
  case int.bl=>exact eqS_same ((aP n (.inl ⟨rfl,rfl⟩)).symm.trans h) h1 h2
  case int.int=>exact eqS_same ((aP n (.inl ⟨rfl,rfl⟩)).symm.trans h) h1 h2
  case int.str=>exact eqS_same ((aP n (.inl ⟨rfl,rfl⟩)).symm.trans h) h1 h2
  case int.tup=>obtain⟨_,_,e,_⟩:=h2.tup;rw[e]at h1;cases h1.int
  case int.lst=>obtain⟨_,_,e,_⟩:=h2.lst;rw[e]at h1;cases h1.int
  case int.dct=>exact eqS_same ((aP n (.inl ⟨rfl,rfl⟩)).symm.trans h) h1 h2
  case str.non=>exact eqS_same ((aP n (.inl ⟨rfl,rfl⟩)).symm.trans h) h1 h2
  case str.bl=>exact eqS_same ((aP n (.inl ⟨rfl,rfl⟩)).symm.trans h) h1 h2
  case str.int=>exact eqS_same ((aP n (.inl ⟨rfl,rfl⟩)).symm.trans h) h1 h2
  case str.str=>exact eqS_same ((aP n (.inl ⟨rfl,rfl⟩)).symm.trans h) h1 h2
  case str.tup=>obtain⟨_,_,e,_⟩:=h2.tup;rw[e]at h1;cases h1.str
  case str.lst=>obtain⟨_,_,e,_⟩:=h2.lst;rw[e]at h1;cases h1.str
  case str.dct=>exact eqS_same ((aP n (.inl ⟨rfl,rfl⟩)).symm.trans h) h1 h2
  case tup.non=>obtain⟨_,_,e,_⟩:=h1.tup;rw[e]at h2;cases h2.non
  case tup.bl=>obtain⟨_,_,e,_⟩:=h1.tup;rw[e]at h2;cases h2.bl
  case tup.int=>obtain⟨_,_,e,_⟩:=h1.tup;rw[e]at h2;cases h2.int
  case tup.str=>obtain⟨_,_,e,_⟩:=h1.tup;rw[e]at h2;cases h2.str
  case tup.tup =>
   cases n with
   | zero=>cases h
   | succ n =>obtain⟨_,_,e,q,ta⟩:=h1.tup;obtain⟨_,_,e',q',tb⟩:=h2.tup;rw[e]at e';cases e';have:=I.tuple_inj q q';subst this;exact items_same (ih n (Nat.lt_succ_self n)) h ta tb
  case tup.lst=>obtain⟨_,_,e,q,_⟩:=h1.tup;obtain⟨_,_,e',q',_⟩:=h2.lst;rw[e]at e';cases e';exact(ref_tl I q q').elim
  case tup.dct=>exact eqS_same ((aP n (.inr (.inr rfl))).symm.trans h) h1 h2
  case lst.non=>obtain⟨_,_,e,_⟩:=h1.lst;rw[e]at h2;cases h2.non
  case lst.bl=>obtain⟨_,_,e,_⟩:=h1.lst;rw[e]at h2;cases h2.bl
  case lst.int=>obtain⟨_,_,e,_⟩:=h1.lst;rw[e]at h2;cases h2.int
  case lst.str=>obtain⟨_,_,e,_⟩:=h1.lst;rw[e]at h2;cases h2.str
  case lst.tup=>obtain⟨_,_,e,q,_⟩:=h1.lst;obtain⟨_,_,e',q',_⟩:=h2.tup;rw[e]at e';cases e';exact(ref_tl I q' q).elim
  case lst.lst =>
   cases n with
   | zero=>cases h
   | succ n =>obtain⟨_,_,e,q,ta⟩:=h1.lst;obtain⟨_,_,e',q',tb⟩:=h2.lst;rw[e]at e';cases e';have:=I.list_inj q q';subst this;exact items_same (ih n (Nat.lt_succ_self n)) h ta tb
  case lst.dct=>exact eqS_same ((aP n (.inr (.inr rfl))).symm.trans h) h1 h2
  case dct.non=>exact eqS_same ((aP n (.inl ⟨rfl,rfl⟩)).symm.trans h) h1 h2
  case dct.bl=>exact eqS_same ((aP n (.inl ⟨rfl,rfl⟩)).symm.trans h) h1 h2
  case dct.int=>exact eqS_same ((aP n (.inl ⟨rfl,rfl⟩)).symm.trans h) h1 h2
  case dct.str=>exact eqS_same ((aP n (.inl ⟨rfl,rfl⟩)).symm.trans h) h1 h2
  case dct.tup=>exact eqS_same ((aP n (.inr (.inl rfl))).symm.trans h) h1 h2
  case dct.lst=>exact eqS_same ((aP n (.inr (.inl rfl))).symm.trans h) h1 h2
  case dct.dct=>exact eqS_same ((aP n (.inl ⟨rfl,rfl⟩)).symm.trans h) h1 h2
theorem eqN_same{pins:List (Addr×Obj)}{σ:St}{H:Hp}{s:Shared}(I:Inv X pins σ H s)(n:Nat):∀{d1 d2:Z.D}{v:V}{k:Bool},Z.eqDn n d1 d2=some k->DenW X.K H d1 v->DenW X.K H d2 v->k=true:=by
 induction n using Nat.strongRecOn with
 | _ n ih=>exact eqN_same0 I n ih
theorem rcN0{pins:List (Addr×Obj)}{σ:St}{H:Hp}{s:Shared}(I:Inv X pins σ H s)(n:Nat)(ih:∀m,m < n->∀{A:Around}{d1 d2:Z.D}{v1 v2:V}{u1 u2:Value}{k:Bool},A.units+m < cLine->Z.eqDn m d1 d2=some k->DenW X.K H d1 v1->DenW X.K H d2 v2->RelV v1 u1->RelV v2 u2->SeqAt.RcAt A s u1 u2 k∧SeqAt.EqAt A s u1 u2 k∧SeqAt.RcNeAt A s u1 u2 (!k)){A:Around}{d1 d2:Z.D}{v1 v2:V}{u1 u2:Value}{k:Bool}(hu:A.units+n < cLine)(h:Z.eqDn n d1 d2=some k)(h1:DenW X.K H d1 v1)(h2:DenW X.K H d2 v2)(r1:RelV v1 u1)(r2:RelV v2 u2):
  SeqAt.RcAt A s u1 u2 k∧SeqAt.EqAt A s u1 u2 k∧SeqAt.RcNeAt A s u1 u2 (!k):=by
  have hu0:A.units < cLine:=by lia
  have tupL:∀{ds:List Z.D}{v:V}{u:Value},DenW X.K H (.tup ds) v->RelV v u->∃q its,u=.ref q∧s.heap.IsTuple q its:=λ hd rv=>by obtain⟨q,vs,rfl,hq,_⟩:=hd.tup;cases rv;obtain⟨its,_,p,_⟩:=I.tuple hq;exact⟨q,its.toArray,rfl,p⟩
  have lstL:∀{ds:List Z.D}{v:V}{u:Value},DenW X.K H (.lst ds) v->RelV v u->∃q its,u=.ref q∧s.heap.IsList q its:=λ hd rv=>by obtain⟨q,vs,rfl,hq,_⟩:=hd.lst;cases rv;obtain⟨its,_,p,_⟩:=I.list hq;exact⟨q,its.toArray,rfl,p.isList⟩
  cases d1<;>cases d2
  case non.non=>exact rcS ((aP n (.inl ⟨rfl,rfl⟩)).symm.trans h) h1 h2 r1 r2
  case non.bl=>exact rcS ((aP n (.inl ⟨rfl,rfl⟩)).symm.trans h) h1 h2 r1 r2
  case non.int=>exact rcS ((aP n (.inl ⟨rfl,rfl⟩)).symm.trans h) h1 h2 r1 r2
  case non.str=>exact rcS ((aP n (.inl ⟨rfl,rfl⟩)).symm.trans h) h1 h2 r1 r2
  case non.tup =>
   obtain rfl:k=false:=by cases n<;>cases h<;>rfl
   rw[h1.non]at r1;cases r1;obtain⟨q2,its2,rfl,p2⟩:=tupL h2 r2;exact⟨SeqAt.RcAt.none_tuple p2 hu0,SeqAt.EqAt.none_tuple p2 hu0,SeqAt.RcNeAt.none_tuple p2 hu0⟩
  case non.lst =>
   obtain rfl:k=false:=by cases n<;>cases h<;>rfl
   rw[h1.non]at r1;cases r1;obtain⟨q2,its2,rfl,p2⟩:=lstL h2 r2;exact⟨SeqAt.RcAt.none_list p2 hu0,SeqAt.EqAt.none_list p2 hu0,SeqAt.RcNeAt.none_list p2 hu0⟩
  case non.dct=>exact rcS ((aP n (.inl ⟨rfl,rfl⟩)).symm.trans h) h1 h2 r1 r2
  case bl.non=>exact rcS ((aP n (.inl ⟨rfl,rfl⟩)).symm.trans h) h1 h2 r1 r2
  case bl.bl=>exact rcS ((aP n (.inl ⟨rfl,rfl⟩)).symm.trans h) h1 h2 r1 r2
  case bl.int=>exact rcS ((aP n (.inl ⟨rfl,rfl⟩)).symm.trans h) h1 h2 r1 r2
  case bl.str=>exact rcS ((aP n (.inl ⟨rfl,rfl⟩)).symm.trans h) h1 h2 r1 r2
  case bl.tup =>
   obtain rfl:k=false:=by cases n<;>cases h<;>rfl
   rw[h1.bl]at r1;cases r1;obtain⟨q2,its2,rfl,p2⟩:=tupL h2 r2;exact⟨SeqAt.RcAt.bool_tuple _ p2 hu0,SeqAt.EqAt.bool_tuple _ p2 hu0,SeqAt.RcNeAt.bool_tuple _ p2 hu0⟩
  case bl.lst =>
   obtain rfl:k=false:=by cases n<;>cases h<;>rfl
   rw[h1.bl]at r1;cases r1;obtain⟨q2,its2,rfl,p2⟩:=lstL h2 r2;exact⟨SeqAt.RcAt.bool_list _ p2 hu0,SeqAt.EqAt.bool_list _ p2 hu0,SeqAt.RcNeAt.bool_list _ p2 hu0⟩
  case bl.dct=>exact rcS ((aP n (.inl ⟨rfl,rfl⟩)).symm.trans h) h1 h2 r1 r2
  case int.non=>exact rcS ((aP n (.inl ⟨rfl,rfl⟩)).symm.trans h) h1 h2 r1 r2
  case int.bl=>exact rcS ((aP n (.inl ⟨rfl,rfl⟩)).symm.trans h) h1 h2 r1 r2
  case int.int=>exact rcS ((aP n (.inl ⟨rfl,rfl⟩)).symm.trans h) h1 h2 r1 r2
  case int.str=>exact rcS ((aP n (.inl ⟨rfl,rfl⟩)).symm.trans h) h1 h2 r1 r2
  case int.tup =>
   obtain rfl:k=false:=by cases n<;>cases h<;>rfl
   rw[h1.int]at r1;obtain⟨t1,rfl⟩:=r1;obtain⟨q2,its2,rfl,p2⟩:=tupL h2 r2;exact⟨SeqAt.RcAt.int_tuple _ _ p2 hu0,SeqAt.EqAt.int_tuple _ _ p2 hu0,SeqAt.RcNeAt.int_tuple _ _ p2 hu0⟩
  case int.lst =>
   obtain rfl:k=false:=by cases n<;>cases h<;>rfl
   rw[h1.int]at r1;obtain⟨t1,rfl⟩:=r1;obtain⟨q2,its2,rfl,p2⟩:=lstL h2 r2;exact⟨SeqAt.RcAt.int_list _ _ p2 hu0,SeqAt.EqAt.int_list _ _ p2 hu0,SeqAt.RcNeAt.int_list _ _ p2 hu0⟩
  case int.dct=>exact rcS ((aP n (.inl ⟨rfl,rfl⟩)).symm.trans h) h1 h2 r1 r2
  case str.non=>exact rcS ((aP n (.inl ⟨rfl,rfl⟩)).symm.trans h) h1 h2 r1 r2
  case str.bl=>exact rcS ((aP n (.inl ⟨rfl,rfl⟩)).symm.trans h) h1 h2 r1 r2
  case str.int=>exact rcS ((aP n (.inl ⟨rfl,rfl⟩)).symm.trans h) h1 h2 r1 r2
  case str.str=>exact rcS ((aP n (.inl ⟨rfl,rfl⟩)).symm.trans h) h1 h2 r1 r2
  case str.tup =>
   obtain rfl:k=false:=by cases n<;>cases h<;>rfl
   rw[h1.str]at r1;obtain⟨t1,rfl⟩:=r1;obtain⟨q2,its2,rfl,p2⟩:=tupL h2 r2;exact⟨SeqAt.RcAt.str_tuple _ _ p2 hu0,SeqAt.EqAt.str_tuple _ _ p2 hu0,SeqAt.RcNeAt.str_tuple _ _ p2 hu0⟩
  case str.lst =>
   obtain rfl:k=false:=by cases n<;>cases h<;>rfl
   rw[h1.str]at r1;obtain⟨t1,rfl⟩:=r1;obtain⟨q2,its2,rfl,p2⟩:=lstL h2 r2;exact⟨SeqAt.RcAt.str_list _ _ p2 hu0,SeqAt.EqAt.str_list _ _ p2 hu0,SeqAt.RcNeAt.str_list _ _ p2 hu0⟩
  case str.dct=>exact rcS ((aP n (.inl ⟨rfl,rfl⟩)).symm.trans h) h1 h2 r1 r2
  case tup.non =>
   obtain rfl:k=false:=by cases n<;>cases h<;>rfl
   obtain⟨q1,its1,rfl,p1⟩:=tupL h1 r1;rw[h2.non]at r2;cases r2;exact⟨SeqAt.RcAt.tuple_none p1 hu0,SeqAt.EqAt.tuple_none p1 hu0,SeqAt.RcNeAt.tuple_none p1 hu0⟩
  case tup.bl =>
   obtain rfl:k=false:=by cases n<;>cases h<;>rfl
   obtain⟨q1,its1,rfl,p1⟩:=tupL h1 r1;rw[h2.bl]at r2;cases r2;exact⟨SeqAt.RcAt.tuple_bool _ p1 hu0,SeqAt.EqAt.tuple_bool _ p1 hu0,SeqAt.RcNeAt.tuple_bool _ p1 hu0⟩
  case tup.int =>
   obtain rfl:k=false:=by cases n<;>cases h<;>rfl
   obtain⟨q1,its1,rfl,p1⟩:=tupL h1 r1;rw[h2.int]at r2;obtain⟨t2,rfl⟩:=r2;exact⟨SeqAt.RcAt.tuple_int _ _ p1 hu0,SeqAt.EqAt.tuple_int _ _ p1 hu0,SeqAt.RcNeAt.tuple_int _ _ p1 hu0⟩
  case tup.str =>
   obtain rfl:k=false:=by cases n<;>cases h<;>rfl
   obtain⟨q1,its1,rfl,p1⟩:=tupL h1 r1;rw[h2.str]at r2;obtain⟨t2,rfl⟩:=r2;exact⟨SeqAt.RcAt.tuple_str _ _ p1 hu0,SeqAt.EqAt.tuple_str _ _ p1 hu0,SeqAt.RcNeAt.tuple_str _ _ p1 hu0⟩
  case tup.lst =>
   obtain rfl:k=false:=by cases n<;>cases h<;>rfl
   obtain⟨q1,its1,rfl,p1⟩:=tupL h1 r1;obtain⟨q2,its2,rfl,p2⟩:=lstL h2 r2;exact⟨SeqAt.RcAt.tuple_list p1 p2 hu0,SeqAt.EqAt.tuple_list p1 p2 hu0,SeqAt.RcNeAt.tuple_list p1 p2 hu0⟩
  case tup.dct=>exact rcS ((aP n (.inr (.inr rfl))).symm.trans h) h1 h2 r1 r2
  case lst.non =>
   obtain rfl:k=false:=by cases n<;>cases h<;>rfl
   obtain⟨q1,its1,rfl,p1⟩:=lstL h1 r1;rw[h2.non]at r2;cases r2;exact⟨SeqAt.RcAt.list_none p1 hu0,SeqAt.EqAt.list_none p1 hu0,SeqAt.RcNeAt.list_none p1 hu0⟩
  case lst.bl =>
   obtain rfl:k=false:=by cases n<;>cases h<;>rfl
   obtain⟨q1,its1,rfl,p1⟩:=lstL h1 r1;rw[h2.bl]at r2;cases r2;exact⟨SeqAt.RcAt.list_bool _ p1 hu0,SeqAt.EqAt.list_bool _ p1 hu0,SeqAt.RcNeAt.list_bool _ p1 hu0⟩
  case lst.int =>
   obtain rfl:k=false:=by cases n<;>cases h<;>rfl
   obtain⟨q1,its1,rfl,p1⟩:=lstL h1 r1;rw[h2.int]at r2;obtain⟨t2,rfl⟩:=r2;exact⟨SeqAt.RcAt.list_int _ _ p1 hu0,SeqAt.EqAt.list_int _ _ p1 hu0,SeqAt.RcNeAt.list_int _ _ p1 hu0⟩
  case lst.str =>
   obtain rfl:k=false:=by cases n<;>cases h<;>rfl
   obtain⟨q1,its1,rfl,p1⟩:=lstL h1 r1;rw[h2.str]at r2;obtain⟨t2,rfl⟩:=r2;exact⟨SeqAt.RcAt.list_str _ _ p1 hu0,SeqAt.EqAt.list_str _ _ p1 hu0,SeqAt.RcNeAt.list_str _ _ p1 hu0⟩
  case lst.tup =>
   obtain rfl:k=false:=by cases n<;>cases h<;>rfl
   obtain⟨q1,its1,rfl,p1⟩:=lstL h1 r1;obtain⟨q2,its2,rfl,p2⟩:=tupL h2 r2;exact⟨SeqAt.RcAt.list_tuple p1 p2 hu0,SeqAt.EqAt.list_tuple p1 p2 hu0,SeqAt.RcNeAt.list_tuple p1 p2 hu0⟩
  case lst.dct=>exact rcS ((aP n (.inr (.inr rfl))).symm.trans h) h1 h2 r1 r2
  case dct.non=>exact rcS ((aP n (.inl ⟨rfl,rfl⟩)).symm.trans h) h1 h2 r1 r2
  case dct.bl=>exact rcS ((aP n (.inl ⟨rfl,rfl⟩)).symm.trans h) h1 h2 r1 r2
  case dct.int=>exact rcS ((aP n (.inl ⟨rfl,rfl⟩)).symm.trans h) h1 h2 r1 r2
  case dct.str=>exact rcS ((aP n (.inl ⟨rfl,rfl⟩)).symm.trans h) h1 h2 r1 r2
  case dct.tup=>exact rcS ((aP n (.inr (.inl rfl))).symm.trans h) h1 h2 r1 r2
  case dct.lst=>exact rcS ((aP n (.inr (.inl rfl))).symm.trans h) h1 h2 r1 r2
  case dct.dct=>exact rcS ((aP n (.inl ⟨rfl,rfl⟩)).symm.trans h) h1 h2 r1 r2
  case tup.tup as bs =>
   cases n with
   | zero=>cases h
   | succ n =>
    have hk:Z.allEq (Z.eqDn n) as bs=some k:=h;have hs:=λ(z:v1=v2)=>eqN_same I (n+1) (d1:=.tup as) (d2:=.tup bs) (v:=v1) h h1 (z▸h2);obtain⟨q,vs,rfl,hq,ta⟩:=h1.tup;obtain⟨q',ws,rfl,hq',tb⟩:=h2.tup;cases r1;cases r2;obtain⟨its,ra,pa,_⟩:=I.tuple hq;obtain⟨its2,rb,pb,_⟩:=I.tuple hq';have hi:=items_at I n (A:=A.in1) (show A.units+1+n < cLine by lia) (ih n (Nat.lt_succ_self n)) hk ta tb ra rb;have e:=(allEq_at hk).1;have la:=ta.length;have lb:=tb.length;have ra':=ra.length;have rb':=rb.length;have t1:=SeqAt.RcAt.tuples (s:=s) (A:=A) (show s.heap.IsTuple q its.toArray from pa) (show s.heap.IsTuple q' its2.toArray from pb) hu0 hi;have t2:=SeqAt.RcNeAt.tuples (s:=s) (A:=A) (show s.heap.IsTuple q its.toArray from pa) (show s.heap.IsTuple q' its2.toArray from pb) hu0 hi;simp only[List.size_toArray]at t1 t2;rw[<-ra',<-rb',la,lb,<-e]at t1 t2;refine⟨t1,?_,t2⟩;by_cases hqq:q=q'
    ·subst hqq;rw[hs rfl];exact SeqAt.EqAt.same _
    ·exact SeqAt.EqAt.of_refs hqq t1
  case lst.lst as bs =>
   cases n with
   | zero=>cases h
   | succ n =>
    have hk:Z.allEq (Z.eqDn n) as bs=some k:=h;have hs:=λ(z:v1=v2)=>eqN_same I (n+1) (d1:=.lst as) (d2:=.lst bs) (v:=v1) h h1 (z▸h2);obtain⟨q,vs,rfl,hq,ta⟩:=h1.lst;obtain⟨q',ws,rfl,hq',tb⟩:=h2.lst;cases r1;cases r2;obtain⟨its,ra,pa,_⟩:=I.list hq;obtain⟨its2,rb,pb,_⟩:=I.list hq';have e:=(allEq_at hk).1;have la:=ta.length;have lb:=tb.length;have ra':=ra.length;have rb':=rb.length;have t:SeqAt.RcAt A s (.ref q) (.ref q') k∧SeqAt.RcNeAt A s (.ref q) (.ref q') (!k):=by
     by_cases hlen:as.length=bs.length
     ·have hi:=items_at I n (A:=A.in1) (show A.units+1+n < cLine by lia) (ih n (Nat.lt_succ_self n)) hk ta tb ra rb;have t1:=SeqAt.RcAt.lists (s:=s) (A:=A) pa.isList pb.isList (by simp only[List.size_toArray];lia) hu0 hi;have t2:=SeqAt.RcNeAt.lists (s:=s) (A:=A) pa.isList pb.isList (by simp only[List.size_toArray];lia) hu0 hi;simp only[List.size_toArray]at t1 t2;rw[<-ra',la]at t1 t2;rw[hlen,Nat.min_self,beq_self_eq_true,Bool.and_true,<-hlen]at e;rw[<-e]at t1 t2;exact⟨t1,t2⟩
     ·have:(as.length==bs.length)=false:=by simpa using hlen
      rw[this,Bool.and_false]at e;subst e;exact⟨SeqAt.RcAt.lists_lengths pa.isList pb.isList (by simp only[List.size_toArray,bne_iff_ne,ne_eq];lia) hu0,SeqAt.RcNeAt.lists_lengths pa.isList pb.isList (by simp only[List.size_toArray,bne_iff_ne,ne_eq];lia) hu0⟩
    refine⟨t.1,?_,t.2⟩;by_cases hqq:q=q'
    ·subst hqq;rw[hs rfl];exact SeqAt.EqAt.same _
    ·exact SeqAt.EqAt.of_refs hqq t.1
theorem rcN{pins:List (Addr×Obj)}{σ:St}{H:Hp}{s:Shared}(I:Inv X pins σ H s)(n:Nat):∀{A:Around}{d1 d2:Z.D}{v1 v2:V}{u1 u2:Value}{k:Bool},A.units+n < cLine->Z.eqDn n d1 d2=some k->DenW X.K H d1 v1->DenW X.K H d2 v2->RelV v1 u1->RelV v2 u2->SeqAt.RcAt A s u1 u2 k∧SeqAt.EqAt A s u1 u2 k∧SeqAt.RcNeAt A s u1 u2 (!k):=by
 induction n using Nat.strongRecOn with
 | _ n ih=>exact rcN0 I n ih
theorem c_eq(hu:X.A.units+64 < cLine):Cmp X .Eq Z.oEq:=by
 have ho:OpR X (compareOp .Eq) (λ x y H Q=>∃d1 d2 k,DenW X.K H d1 x∧DenW X.K H d2 y∧Z.eqD d1 d2=some k∧Q (.bl k) H):=by intro pins s σ H x y v u Q I rx ry h;obtain⟨d1,d2,k,h1,h2,e,q⟩:=h;exact(rcN I 6 (A:=X.A) (by lia) e h1 h2 rx ry).1 X.prog X.w X.xe _ ⟨.bl k,H,I,rfl,q⟩
 exact⟨_,ho,λ x y dx dy d H Q h1 h2 e k=>by
  unfold Z.oEq at e;split at e
  ·rename_i z hz;cases e;exact⟨dx,dy,z,h1,h2,hz,k _ H (aJ.refl H) den_bl⟩
  ·cases e⟩
theorem c_ne(hu:X.A.units+64 < cLine):Cmp X .NotEq Z.oNe:=by
 have ho:OpR X (compareOp .NotEq) (λ x y H Q=>∃d1 d2 k,DenW X.K H d1 x∧DenW X.K H d2 y∧Z.eqD d1 d2=some k∧Q (.bl (!k)) H):=by intro pins s σ H x y v u Q I rx ry h;obtain⟨d1,d2,k,h1,h2,e,q⟩:=h;exact(rcN I 6 (A:=X.A) (by lia) e h1 h2 rx ry).2.2 X.prog X.w X.xe _ ⟨.bl (!k),H,I,rfl,q⟩
 exact⟨_,ho,λ x y dx dy d H Q h1 h2 e k=>by
  unfold Z.oNe at e;split at e
  ·rename_i z hz;cases e;exact⟨dx,dy,z,h1,h2,hz,k _ H (aJ.refl H) den_bl⟩
  ·cases e⟩
theorem keyZ_inj:∀{a b:Sum Int (List Nat)},keyZ a=keyZ b->a=b
 | .inl a,.inl b,h=>by injection h with h;rw[h]
 | .inl _,.inr _,h=>by cases h
 | .inr _,.inl _,h=>by cases h
 | .inr a,.inr b,h=>by
  injection h with h
  injection h with h
  have:a=b:=by simpa using congrArg Array.toList h
  rw[this]
theorem keysZ_inj:∀{a b:List (Sum Int (List Nat))},a.map keyZ=b.map keyZ->a=b
 | [],[],_=>rfl
 | [],_ :: _,h=>by cases h
 | _ :: _,[],h=>by cases h
 | a :: as,b :: bs,h=>by simp only[List.map_cons,List.cons.injEq]at h;rw[keyZ_inj h.1,keysZ_inj h.2]
theorem cls_dct{pins:List (Addr×Obj)}{σ:St}{H:Hp}{s:Shared}{a:Addr}{o:Obj}{kvs:List (Key×V)}(I:Inv X pins σ H s)(hq:H a=some (.frz o (.dK kvs))):∃o',s.heap.get? a=some o'∧o'.cls=.type "dict" := by
 obtain⟨_,_,_,_,_,o',es,ep,h1,h2,_⟩:=(show ObjOk X.prog X.w H s.heap a (.frz o (.dK kvs))from I.hok a _ hq)
 exact⟨o',h1,h2.1⟩
theorem ref_td{pins:List (Addr×Obj)}{σ:St}{H:Hp}{s:Shared}{a:Addr}{xs:List V}{o:Obj}{kvs:List (Key×V)}(I:Inv X pins σ H s)(h:SqT X.K H a xs)(h':H a=some (.frz o (.dK kvs))):False:=by obtain⟨its,r,⟨o1,e,c,n,d⟩,_⟩:=I.tuple h;obtain⟨o2,e',c'⟩:=cls_dct I h';rw[e]at e';cases e';rw[c]at c';injection c' with z;exact absurd z (by decide)
theorem ref_ld{pins:List (Addr×Obj)}{σ:St}{H:Hp}{s:Shared}{a:Addr}{xs:List V}{o:Obj}{kvs:List (Key×V)}(I:Inv X pins σ H s)(h:SqL X.K H a xs)(h':H a=some (.frz o (.dK kvs))):False:=by obtain⟨its,r,⟨o1,n,e,c,_⟩,_⟩:=I.list h;obtain⟨o2,e',c'⟩:=cls_dct I h';rw[e]at e';cases e';rw[c]at c';injection c' with z;exact absurd z (by decide)
mutual
theorem Den.inj{pins:List (Addr×Obj)}{σ:St}{H:Hp}{s:Shared}(I:Inv X pins σ H s):∀(d1 d2:Z.D)(v:V),Den X.K H d1 v->Den X.K H d2 v->d1=d2
 | .non,d2,v,h1,h2=>by
  simp only[Den]at h1;subst h1;cases d2<;>simp only[Den]at h2<;>first | rfl | (cases h2;done) | skip
  case tup=>obtain⟨_,_,e,_⟩:=h2;cases e
  case lst=>obtain⟨_,_,e,_⟩:=h2;cases e
  case dct=>obtain⟨_,_,_,e,_⟩:=h2;cases e
 | .bl b,d2,v,h1,h2=>by
  simp only[Den]at h1;subst h1;cases d2<;>simp only[Den]at h2<;>first | (injection h2 with h2;rw[h2]) | (cases h2;done) | skip
  case tup=>obtain⟨_,_,e,_⟩:=h2;cases e
  case lst=>obtain⟨_,_,e,_⟩:=h2;cases e
  case dct=>obtain⟨_,_,_,e,_⟩:=h2;cases e
 | .int i,d2,v,h1,h2=>by
  simp only[Den]at h1;subst h1;cases d2<;>simp only[Den]at h2<;>first | (injection h2 with h2;rw[h2]) | (cases h2;done) | skip
  case tup=>obtain⟨_,_,e,_⟩:=h2;cases e
  case lst=>obtain⟨_,_,e,_⟩:=h2;cases e
  case dct=>obtain⟨_,_,_,e,_⟩:=h2;cases e
 | .str cs,d2,v,h1,h2=>by
  simp only[Den]at h1;subst h1;cases d2<;>simp only[Den]at h2<;>first | (injection h2 with h2;injection h2 with h2;have:=congrArg Array.toList h2;simp at this;rw[this]) | (cases h2;done) | skip
  case tup=>obtain⟨_,_,e,_⟩:=h2;cases e
  case lst=>obtain⟨_,_,e,_⟩:=h2;cases e
  case dct=>obtain⟨_,_,_,e,_⟩:=h2;cases e
 | .tup ds,d2,v,h1,h2=>by
  simp only[Den]at h1;obtain⟨a,vs,rfl,q,t⟩:=h1;cases d2<;>simp only[Den]at h2
  case tup es =>obtain⟨a',vs',e,q',t'⟩:=h2;cases e;rw[I.tuple_inj q' q]at t';rw[aE.inj I ds es vs t t']
  case lst es=>obtain⟨a',vs',e,q',t'⟩:=h2;cases e;exact(ref_tl I q q'.sq).elim
  case dct ks es=>obtain⟨a',o,kvs,e,q',_⟩:=h2;cases e;exact(ref_td I q q').elim
  all_goals cases h2
 | .lst ds,d2,v,h1,h2=>by
  simp only[Den]at h1;obtain⟨a,vs,rfl,q,t⟩:=h1;cases d2<;>simp only[Den]at h2
  case lst es =>obtain⟨a',vs',e,q',t'⟩:=h2;cases e;rw[I.list_inj q'.sq q.sq]at t';rw[aE.inj I ds es vs t t']
  case tup es=>obtain⟨a',vs',e,q',t'⟩:=h2;cases e;exact(ref_tl I q' q.sq).elim
  case dct ks es=>obtain⟨a',o,kvs,e,q',_⟩:=h2;cases e;exact(ref_ld I q.sq q').elim
  all_goals cases h2
 | .dct ks ds,d2,v,h1,h2=>by
  simp only[Den]at h1;obtain⟨a,o,kvs,rfl,q,hk,t⟩:=h1;cases d2<;>simp only[Den]at h2
  case lst es=>obtain⟨a',vs',e,q',t'⟩:=h2;cases e;exact(ref_ld I q'.sq q).elim
  case tup es=>obtain⟨a',vs',e,q',t'⟩:=h2;cases e;exact(ref_td I q' q).elim
  case dct ks' es =>obtain⟨a',o',kvs',e,q',hk',t'⟩:=h2;cases e;rw[q]at q';cases q';rw[aE.inj I ds es _ t t',keysZ_inj (hk.symm.trans hk')]
  all_goals cases h2
theorem aE.inj{pins:List (Addr×Obj)}{σ:St}{H:Hp}{s:Shared}(I:Inv X pins σ H s):∀(d1 d2:List Z.D)(v:List V),aE X.K H d1 v->aE X.K H d2 v->d1=d2
 | [],d2,v,h1,h2=>by
  simp only[aE]at h1;subst h1;cases d2 with
  | nil=>rfl
  | cons d ds=>simp only[aE]at h2;obtain⟨_,_,e,_⟩:=h2;cases e
 | d :: ds,d2,v,h1,h2=>by
  simp only[aE]at h1;obtain⟨u,r,rfl,q,t⟩:=h1;cases d2 with
  | nil=>simp only[aE]at h2;cases h2
  | cons d' ds' =>simp only[aE]at h2;obtain⟨u',r',e,q',t'⟩:=h2;cases e;rw[Den.inj I d d' u q q',aE.inj I ds ds' r t t']
end
theorem anyEq_at{x:Z.D}:∀{ys:List Z.D}{k:Bool},Z.anyEq x ys=some k->k=ys.any (λ y=>(Z.eqD y x).getD false)∧∀y∈ys,Z.eqD y x=some ((Z.eqD y x).getD false)
 | [],k,h=>by cases h;exact⟨rfl,λ y hy=>by cases hy⟩
 | y :: ys,k,h=>by
  unfold Z.anyEq at h;split at h
  ·rename_i a b ea eb;cases h;obtain⟨h1,h2⟩:=anyEq_at eb;refine⟨by rw[List.any_cons,ea,h1];rfl,λ z hz=>?_⟩;rcases List.mem_cons.mp hz with rfl | hz
   ·rw[ea];rfl
   ·exact h2 z hz
  ·cases h
theorem in_fun{pins : List (Addr × Obj)}{σ : St}{H : Hp}{s : Shared}(I : Inv X pins σ H s){A : Around}(hu : A.units + 60 < cLine){x : Z.D}{v : V}{u : Value}(hx : DenW X.K H x v)(rx : RelV v u): ∀{ys : List Z.D}{vs : List V}{us : List Value}, aE X.K H ys vs -> Vals vs us -> (∀y ∈ ys, Z.eqD y x = some ((Z.eqD y x).getD false)) ->
  ∃e:Value->Bool,(∀w∈us,SeqAt.EqAt A s w u (e w))∧us.any e=ys.any (λ y=>(Z.eqD y x).getD false):=by
 intro ys vs us;have key:∀{ys:List Z.D}{vs:List V}{us:List Value},aE X.K H ys vs->Vals vs us->(∀y∈ys,Z.eqD y x=some ((Z.eqD y x).getD false))->(∀w∈us,∃b,SeqAt.EqAt A s w u b)∧∀e:Value->Bool,(∀w∈us,∀y vy,Den X.K H y vy->RelV vy w->y∈ys->e w=(Z.eqD y x).getD false)->us.any e=ys.any (λ y=>(Z.eqD y x).getD false):=by
  intro ys
  induction ys with
  | nil=>intro vs us t r _;simp only[aE]at t;subst t;cases r;exact⟨λ w hw=>(by cases hw),λ _ _=>rfl⟩
  | cons y ys ih =>
   intro vs us t r hh;simp only[aE]at t;obtain⟨vy,vr,rfl,dy,tr⟩:=t;cases r with
   | cons ry rr =>
    obtain⟨h1,h2⟩:=ih tr rr (λ z hz=>hh z (List.mem_cons_of_mem _ hz));refine⟨λ w hw=>?_,λ e he=>?_⟩
    ·rcases List.mem_cons.mp hw with rfl | hw
     ·exact⟨_,(rcN I 6 (A:=A) (by lia) (hh y List.mem_cons_self) (.inl dy) hx ry rx).2.1⟩
     ·exact h1 w hw
    ·rw[List.any_cons,List.any_cons,he _ List.mem_cons_self y vy dy ry List.mem_cons_self,h2 e λ w hw z vz dz rz hz=>he w (List.mem_cons_of_mem _ hw) z vz dz rz (List.mem_cons_of_mem _ hz)]
 intro t r hh
 classical
 let e:Value->Bool:=λ w=>if h:∃y vy,Den X.K H y vy∧RelV vy w∧y∈ys then(Z.eqD h.choose x).getD false else false
 have he:∀w y vy,Den X.K H y vy->RelV vy w->y∈ys->e w=(Z.eqD y x).getD false:=by
  intro w y vy dy ry hy;have hex:∃y vy,Den X.K H y vy∧RelV vy w∧y∈ys:=⟨y,vy,dy,ry,hy⟩
  show(if h:_ then _ else _)=_;rw[dif_pos hex];obtain⟨vy',dy',ry',hy'⟩:=hex.choose_spec;have ev:vy'=vy:=ry'.inj ry;subst ev;rw[Den.inj I _ _ _ dy' dy]
 refine⟨e,λ w hw=>?_,(key t r hh).2 e λ w hw y vy dy ry hy=>he w y vy dy ry hy⟩;obtain⟨j,hj,ej⟩:=List.getElem_of_mem hw;have hl:=r.length;have ht:=t.length;obtain⟨y,ey⟩:∃y,ys[j]?=some y:=⟨ys[j]'(by lia),List.getElem?_eq_getElem (by lia)⟩
 obtain⟨vy,evy,dy⟩:=t.get ey;obtain⟨u',eu',ru'⟩:=r.get evy;have:u'=w:=by have:=List.getElem?_eq_getElem hj;rw[eu',ej]at this;exact Option.some.inj this
 subst this;have hy:y∈ys:=List.mem_of_getElem? ey;rw[he _ y vy dy ru' hy];exact(rcN I 6 (A:=A) (by lia) (hh y hy) (.inl dy) hx ru' rx).2.1
theorem op_inD(hu:X.A.units+64 < cLine):OpR X (compareOp .In) (λ x y H Q=>∃d ys q vs k,DenW X.K H d x∧y=.ref q∧(SqL X.K H q vs∨SqT X.K H q vs)∧aE X.K H ys vs∧Z.anyEq d ys=some k∧Q (.bl k) H):=by
 intro pins s σ H x y v u Q I rx ry h;obtain⟨d,ys,q,vs,k,hd,rfl,hq,t,e,k'⟩:=h;cases ry;obtain⟨e1,e2⟩:=anyEq_at e;subst e1;rcases hq with hq | hq
 ·obtain⟨its,r,pl,hz⟩:=I.list hq;obtain⟨f,hf,hfa⟩:=in_fun I (A:=X.A.in1) (show X.A.units+1+60 < cLine by lia) hd rx t r e2;refine SeqAt.in_listAt f pl.isList (λ w hw=>hf w (by simpa using hw)) ⟨.bl _,H,I,rfl,?_⟩;rw[show its.toArray.any f=its.any f by simp,hfa];exact k'
 ·obtain⟨its,r,pl,hz⟩:=I.tuple hq;obtain⟨f,hf,hfa⟩:=in_fun I (A:=X.A.in1) (show X.A.units+1+60 < cLine by lia) hd rx t r e2;refine SeqAt.in_tupleAt f pl (λ w hw=>hf w (by simpa using hw)) ⟨.bl _,H,I,rfl,?_⟩;rw[show its.toArray.any f=its.any f by simp,hfa];exact k'
theorem op_notInD(hu:X.A.units+64 < cLine):OpR X (compareOp .NotIn) (λ x y H Q=>∃d ys q vs k,DenW X.K H d x∧y=.ref q∧(SqL X.K H q vs∨SqT X.K H q vs)∧aE X.K H ys vs∧Z.anyEq d ys=some k∧Q (.bl (!k)) H):=by
 intro pins s σ H x y v u Q I rx ry h;obtain⟨d,ys,q,vs,k,hd,rfl,hq,t,e,k'⟩:=h;cases ry;obtain⟨e1,e2⟩:=anyEq_at e;subst e1;rcases hq with hq | hq
 ·obtain⟨its,r,pl,hz⟩:=I.list hq;obtain⟨f,hf,hfa⟩:=in_fun I (A:=X.A.in1) (show X.A.units+1+60 < cLine by lia) hd rx t r e2;refine SeqAt.notIn_listAt f pl.isList (λ w hw=>hf w (by simpa using hw)) ⟨.bl _,H,I,rfl,?_⟩;rw[show its.toArray.any f=its.any f by simp,hfa];exact k'
 ·obtain⟨its,r,pl,hz⟩:=I.tuple hq;obtain⟨f,hf,hfa⟩:=in_fun I (A:=X.A.in1) (show X.A.units+1+60 < cLine by lia) hd rx t r e2;refine SeqAt.notIn_tupleAt f pl (λ w hw=>hf w (by simpa using hw)) ⟨.bl _,H,I,rfl,?_⟩;rw[show its.toArray.any f=its.any f by simp,hfa];exact k'
theorem c_in(hu:X.A.units+64 < cLine):Cmp X .In Z.oIn:=⟨_,op_inD hu,λ x y dx dy d H Q h1 h2 e k=>by
 unfold Z.oIn at e;split at e
 ·split at e
  ·rename_i b hb;cases e;obtain⟨q,vs,rfl,hq,t⟩:=h2.tup;exact⟨dx,_,q,vs,b,h1,rfl,.inr hq,t,hb,k _ H (aJ.refl H) den_bl⟩
  ·cases e
 ·split at e
  ·rename_i b hb;cases e;obtain⟨q,vs,rfl,hq,t⟩:=h2.lst;exact⟨dx,_,q,vs,b,h1,rfl,.inl hq,t,hb,k _ H (aJ.refl H) den_bl⟩
  ·cases e
 ·cases e⟩
theorem c_notIn(hu:X.A.units+64 < cLine):Cmp X .NotIn Z.oNotIn:=⟨_,op_notInD hu,λ x y dx dy d H Q h1 h2 e k=>by
 unfold Z.oNotIn at e;split at e
 ·split at e
  ·rename_i b hb;cases e;obtain⟨q,vs,rfl,hq,t⟩:=h2.tup;exact⟨dx,_,q,vs,b,h1,rfl,.inr hq,t,hb,k _ H (aJ.refl H) den_bl⟩
  ·cases e
 ·split at e
  ·rename_i b hb;cases e;obtain⟨q,vs,rfl,hq,t⟩:=h2.lst;exact⟨dx,_,q,vs,b,h1,rfl,.inl hq,t,hb,k _ H (aJ.refl H) den_bl⟩
  ·cases e
 ·cases e⟩
theorem allB_ok: ∀{xs : List Z.D}{k : Bool}, Z.allB xs = some k -> ∃bs : List Bool, xs = bs.map Z.D.bl ∧ k = bs.all id
 | [],k,h=>by cases h;exact⟨[],rfl,rfl⟩
 | x :: xs,k,h=>by
  cases x with
  | bl b =>
   have h':(Z.allB xs).map (b&&·)=some k:=h;cases q:Z.allB xs with
   | none=>rw[q]at h';cases h'
   | some k' =>rw[q]at h';cases h';obtain⟨bs,rfl,rfl⟩:=allB_ok q;exact⟨b :: bs,rfl,rfl⟩
  | non=>cases h
  | int _=>cases h
  | str _=>cases h
  | tup _=>cases h
  | lst _=>cases h
  | dct _ _=>cases h
theorem dens_bls{K:PySem.W.Frag}{H:Hp}:∀{bs:List Bool}{vs:List V},aE K H (bs.map Z.D.bl) vs->vs=bs.map V.bl
 | [],vs,h=>by simp only[List.map_nil,aE]at h;subst h;rfl
 | b :: bs,vs,h=>by simp only[List.map_cons,aE]at h;obtain⟨v,r,rfl,hv,ht⟩:=h;simp only[Den]at hv;rw[hv,dens_bls ht];rfl
theorem all_range(bs:List Bool):((List.range bs.length).all λ i=>bs[i]?.getD true)=bs.all id:=by
 induction bs with
 | nil=>rfl
 | cons b bs ih =>
  rw[List.length_cons,List.range_succ_eq_map,List.all_cons,List.all_map,List.all_cons];have:((λ i=>((b :: bs)[i]?).getD true)∘Nat.succ)=λ i=>bs[i]?.getD true:=by funext i;simp
  rw[this,ih];simp
theorem call_allZ(hc:X.calm=true):CallR X (.builtin "all") (λ xs H Q=>∃(q:Addr) (bs:List Bool),xs=[.ref q]∧SqL X.K H q (bs.map V.bl)∧Q (.bl (bs.all id)) H):=by
 intro pins s σ H xs us Q I r h;obtain⟨q,bs,rfl,hq,k⟩:=h;obtain⟨u,rfl,ru⟩:=vals1 r;cases ru;obtain⟨its,rv,pl,hz⟩:=I.list hq;have hl:=rv.length;rw[List.length_map]at hl;have hlt:q < s.heap.objs.size:=by obtain⟨_,e,_⟩:=pl.isList;exact Heap.lt_size e
 have hh:X.A.in1.handled=none:=I.ok.hd hc;refine call_all_walk (wpAny_pyIter_list pl.isList ?_);refine⟨s.heap.objs.size,[s.heap.objs.size,q],[s.heap.objs.size],its.toArray.size,_,_,λ i=>bs[i]?.getD true,rfl,Walks.list hh s.heap.objs.size q (Nat.ne_of_lt hlt) its.toArray,⟨⟨_,Heap.get?_push_size _ rfl,rfl,rfl⟩,pl.isList.push _⟩,?_,λ h' tk hk=>?_⟩
 ·intro i v s' Q' E' hv hQ;have hi:its[i]?=some v:=by simpa using hv
  obtain⟨hi1,_⟩:=List.getElem?_eq_some_iff.mp hi;have hb:(bs.map V.bl)[i]?=some (V.bl (bs[i]'(by lia))):=by rw[List.getElem?_map,List.getElem?_eq_getElem (by lia)];rfl
  obtain⟨u,hu,ru⟩:=rv.get hb;rw[hi]at hu;cases hu;cases ru;refine wpAny_truthy_bool ?_;have:bs[i]?.getD true=bs[i]'(by lia):=by rw[List.getElem?_eq_getElem (by lia)];rfl
  rw[<-this];exact hQ
 ·have I1:Inv X pins σ H { s with heap:=s.heap.push { cls:=.type "list_iterator",data:=.fields #[.ref q,.int 0 0] } }:=I.kept (t':=s.toks) λ b o e=>Heap.get?_push_of_some _ e;obtain⟨f0,f1,f2,f3,f4,f5⟩:=I.fpOk (H':=H) (Nat.le_refl s.heap.objs.size) I.fresh;have I2:=I1.turned (h':=h') (t':=tk) (it:=s.heap.objs.size) (λ b o hb e=>hk b o (by simpa using hb) e) f0 f1 f3 f4 f5;refine⟨.bl _,H,I2,rfl,?_⟩;have e:(List.range its.toArray.size).all (λ i=>bs[i]?.getD true)=bs.all id:=by rw[List.size_toArray,<-hl,all_range]
  rw[e];exact k
theorem de_all{x : Str}{p1 : Pos}(hg : Gl X x)(hm : X.mg x = none)(hv : bootBuiltins x = some (.builtin "all"))(ha : DW X a fa)(hc : X.calm = true := by rfl)(hn : x ≠ "__name__" := by decide +kernel)(hdb : (x == ("__debug__" : Str)) = false := by decide +kernel)
  (he:starEach (a :: []) X.env=(false,eval a X.env) :: starEach [] X.env:=by rfl) (hpl:(backTo pos (starEach [] X.env)).any (·.1)=false:=by rfl):DE X (.Call (.Name x p1) [a] [] pos) (Z.eU Z.oAll fa) :=
 PE.imp (pe_callB (call_allZ hc) hg hm hv (pa_cons ha pa_nil he) hn hdb he hpl) λ σ H Q ⟨ρ,d,r,e,k⟩=>by
  obtain⟨x,ea,e⟩:=Z.Res.ax e;refine⟨ρ,x,r,ea,λ v H1 s1 d1=>?_⟩;unfold Z.oAll at e;split at e
  ·split at e
   ·rename_i xs k' hk;cases e;obtain⟨bs,rfl,rfl⟩:=allB_ok hk;obtain⟨q,vs,rfl,hq,t⟩:=d1.lst;rw[dens_bls t]at hq;exact⟨q,bs,rfl,hq,k _ H1 s1 den_bl⟩
   ·cases e
  ·cases e
end
section
variable {X:Cx}{es:List Expr}{f:Z.EF}{g:Z.AF}
theorem ah{v j p}(ha:DE X (.Constant v j p) f)(hr:DA X es g):DA X ((.Constant v j p) :: es) (Z.ae f g):=da_cons ha hr rfl
theorem aa{x p}(ha:DE X (.Name x p) f)(hr:DA X es g):DA X ((.Name x p) :: es) (Z.ae f g):=da_cons ha hr rfl
theorem da_cTuple{xs j p}(ha:DE X (.Tuple xs j p) f)(hr:DA X es g):DA X ((.Tuple xs j p) :: es) (Z.ae f g):=da_cons ha hr rfl
theorem da_cList{xs p}(ha:DE X (.List xs p) f)(hr:DA X es g):DA X ((.List xs p) :: es) (Z.ae f g):=da_cons ha hr rfl
theorem da_cBin{x o y p}(ha:DE X (.BinOp x o y p) f)(hr:DA X es g):DA X ((.BinOp x o y p) :: es) (Z.ae f g):=da_cons ha hr rfl
theorem da_cCall{x xs ks p}(ha:DE X (.Call x xs ks p) f)(hr:DA X es g):DA X ((.Call x xs ks p) :: es) (Z.ae f g):=da_cons ha hr rfl
theorem da_cSub{x y p}(ha:DE X (.Subscript x y p) f)(hr:DA X es g):DA X ((.Subscript x y p) :: es) (Z.ae f g):=da_cons ha hr rfl
theorem da_cCmp{x os ys p}(ha:DE X (.Compare x os ys p) f)(hr:DA X es g):DA X ((.Compare x os ys p) :: es) (Z.ae f g):=da_cons ha hr rfl
theorem da_cUn{o x p}(ha:DE X (.UnaryOp o x p) f)(hr:DA X es g):DA X ((.UnaryOp o x p) :: es) (Z.ae f g):=da_cons ha hr rfl
end
end ZS
namespace ZQ
open PySem PySem.Spec PyProof.Rows L2 ZS
abbrev St:=L2.St
structure QE(X:Cx)(e:Expr)(f:Z.EF):Prop where p:DE X e f
structure QW(X:Cx)(e:Expr)(f:Z.EF):Prop where p:DW X e f
structure QL(X:Cx)(e:Expr)(f:Z.LF):Prop where p:DL X e f
structure QT(X:Cx)(e:Expr)(f:Z.TF):Prop where p:DT X e f
structure QTW(X:Cx)(e:Expr)(f:Z.TF):Prop where p:DTW X e f
structure QA(X:Cx)(es:List Expr)(f:Z.AF):Prop where p:DA X es f
structure QP(X:Cx)(e:Option Expr)(f:Z.PF):Prop where p:DP X e f
structure QI(X:Cx)(tg e:Expr)(f:Z.LF):Prop where p:DI X tg e f
structure QJ(X:Cx)(tg e:Expr)(f:Z.LF):Prop where p:DJ X tg e f
structure QS(X:Cx)(H0:Hp)(st:Stmt)(g:Z.SF):Prop where p:DS X H0 st g
structure QSs(X:Cx)(H0:Hp)(st:List Stmt)(g:Z.SF):Prop where p:DSs X H0 st g
structure QG(X:Cx)(H0:Hp)(tg:Expr)(g:Z.GF):Prop where p:DG X H0 tg g
structure QGs(X:Cx)(H0:Hp)(tgs:List Expr)(is:List Nat):Prop where p:DGs X H0 tgs is
structure QTst(X:Cx)(ifs:List Expr)(t:Z.TF):Prop where p:Tst X ifs t
section
variable {X:Cx}{tg e a b c elt iter:Expr}{es ifs:List Expr}{pos p:Pos}{f fa fb fc:Z.EF}{g u:Z.SF}{H0:Hp}{st:Stmt}{sts:List Stmt}{N':List Str}{n:Nat}{is:List Nat}{scope:Scope}
theorem ag{i:Int}{j}:QE X (.Constant (.int i) j pos) (Z.eC (.int i)):=⟨ZS.ag ⟩
theorem de_bl{x:Bool}{j}:QE X (.Constant (.bool x) j pos) (Z.eC (.bl x)):=⟨ZS.de_bl ⟩
theorem de_non{j}:QE X (.Constant .none j pos) (Z.eC .non):=⟨ZS.de_non ⟩
theorem de_str{x:Str}{cs:List Nat}{j}(h:x=⟨cs.toArray⟩):QE X (.Constant (.str x) j pos) (Z.eC (.str cs)):=⟨ZS.de_str (h:=h)⟩
theorem av(i:Nat){x:Str}(hN:X.N[i]?=some x:=by rfl)(hv:Vis X.env.scope x:=by first | exact Or.inl rfl | exact Or.inr (Or.inl rfl) | exact Or.inr (Or.inr rfl))(hd:(x==("__debug__" : Str))=false:=by decide +kernel)(hcd:(x==("__classdict__" : Str))=false:=by decide +kernel):QE X (.Name x pos) (Z.eV i):=⟨ZS.av (i:=i) (hN:=hN) (hv:=hv) (hd:=hd) (hcd:=hcd)⟩
theorem aw(i:Nat){x:Str}(hN:X.N[i]?=some x:=by rfl)(hv:Vis X.env.scope x:=by first | exact Or.inl rfl | exact Or.inr (Or.inl rfl) | exact Or.inr (Or.inr rfl))(hd:(x==("__debug__" : Str))=false:=by decide +kernel)(hcd:(x==("__classdict__" : Str))=false:=by decide +kernel):QW X (.Name x pos) (Z.eW i):=⟨ZS.aw (i:=i) (hN:=hN) (hv:=hv) (hd:=hd) (hcd:=hcd)⟩
theorem de_globI{X:Cx}{pos:Pos}{x:Str}{i:Int}{t:Tok}(hg:Gl X x)(hm:X.mg x=some (.int i t))(hb:(x==("__debug__" : Str))=false:=by decide +kernel):QE X (.Name x pos) (Z.eC (.int i)):=⟨ZS.de_globI (hg:=hg) (hm:=hm) (hb:=hb)⟩
theorem ai(h:QE X e f):QW X e f:=⟨ZS.ai (h:=h.p)⟩
theorem dw_l{l:Z.LF}(h:QL X e l):QW X e (Z.eL l):=⟨ZS.dw_l (h:=h.p)⟩
theorem de_l{l:Z.LF}(h:QL X e l):QE X e (Z.eL l):=⟨ZS.de_l (h:=h.p)⟩
theorem de_sub(ha:QW X a fa)(hb:QW X b fb):QE X (.BinOp a .Sub b pos) (Z.eB Z.oSub fa fb):=⟨ZS.de_sub (ha:=ha.p) (hb:=hb.p)⟩
theorem de_mul(ha:QW X a fa)(hb:QW X b fb):QE X (.BinOp a .Mult b pos) (Z.eB Z.oMul fa fb):=⟨ZS.de_mul (ha:=ha.p) (hb:=hb.p)⟩
theorem de_div(ha:QW X a fa)(hb:QW X b fb):QE X (.BinOp a .FloorDiv b pos) (Z.eB Z.oDiv fa fb):=⟨ZS.de_div (ha:=ha.p) (hb:=hb.p)⟩
theorem de_mod(ha:QW X a fa)(hb:QW X b fb):QE X (.BinOp a .Mod b pos) (Z.eB Z.oMod fa fb):=⟨ZS.de_mod (ha:=ha.p) (hb:=hb.p)⟩
theorem de_pow(ha:QW X a fa)(hb:QW X b fb):QE X (.BinOp a .Pow b pos) (Z.eB Z.oPow fa fb):=⟨ZS.de_pow (ha:=ha.p) (hb:=hb.p)⟩
theorem aG(ha:QW X a fa)(hb:QW X b fb):QE X (.BinOp a .Add b pos) (Z.eB Z.oAdd fa fb):=⟨ZS.aG (ha:=ha.p) (hb:=hb.p)⟩
theorem de_neg(ha:QW X a fa):QE X (.UnaryOp .USub a pos) (Z.eU Z.oNeg fa):=⟨ZS.de_neg (ha:=ha.p)⟩
theorem de_cmpC{op:CmpOp}{o:Z.D->Z.D->Z.Res Z.D}(h:Cmp X op o)(ha:QW X a fa)(hb:QW X b fb)(hm:behindInMarks op b=false):QE X (.Compare a [op] [b] pos) (Z.eB o fa fb):=⟨ZS.de_cmpC (h:=h) (ha:=ha.p) (hb:=hb.p) (hm:=hm)⟩
theorem dt_cmpC{op:CmpOp}{o:Z.D->Z.D->Z.Res Z.D}(h:Cmp X op o)(ha:QW X a fa)(hb:QW X b fb)(hm:behindInMarks op b=false):QT X (.Compare a [op] [b] pos) (Z.tE (Z.eB o fa fb)):=⟨ZS.dt_cmpC (h:=h) (ha:=ha.p) (hb:=hb.p) (hm:=hm)⟩
theorem de_chain{op op':CmpOp}{o o':Z.D->Z.D->Z.Res Z.D}(h:Cmp X op o)(h':Cmp X op' o')(ha:QW X a fa)(hb:QW X b fb)(hc:QW X c fc)(hm:lastMarks [op,op'] [b,c]=false:=by with_unfolding_all rfl):QE X (.Compare a [op,op'] [b,c] pos) (Z.eChain o o' fa fb fc):=⟨ZS.de_chain (h:=h) (h':=h') (ha:=ha.p) (hb:=hb.p) (hc:=hc.p) (hm:=hm)⟩
theorem dt_chain{op op':CmpOp}{o o':Z.D->Z.D->Z.Res Z.D}(h:Cmp X op o)(h':Cmp X op' o')(ha:QW X a fa)(hb:QW X b fb)(hc:QW X c fc)(hm:lastMarks [op,op'] [b,c]=false:=by with_unfolding_all rfl):QT X (.Compare a [op,op'] [b,c] pos) (Z.tE (Z.eChain o o' fa fb fc)):=⟨ZS.dt_chain (h:=h) (h':=h') (ha:=ha.p) (hb:=hb.p) (hc:=hc.p) (hm:=hm)⟩
theorem de_isN{j pos'}(ha:QW X a fa):QE X (.Compare a [.Is] [.Constant .none j pos'] pos) (Z.eU Z.oIsN fa):=⟨ZS.de_isN (ha:=ha.p)⟩
theorem dt_isN{j pos'}(ha:QW X a fa):QT X (.Compare a [.Is] [.Constant .none j pos'] pos) (Z.tE (Z.eU Z.oIsN fa)):=⟨ZS.dt_isN (ha:=ha.p)⟩
theorem dt_notN{j pos'}(ha:QW X a fa):QT X (.Compare a [.IsNot] [.Constant .none j pos'] pos) (Z.tE (Z.eU Z.oNotN fa)):=⟨ZS.dt_notN (ha:=ha.p)⟩
theorem de_one{op}(h:QE X a fa):QE X (.BoolOp op [a] pos) fa:=⟨ZS.de_one (h:=h.p)⟩
theorem de_and{rest:List Expr}(ha:QE X a fa)(hb:QE X (.BoolOp .And (b :: rest) pos) fb):QE X (.BoolOp .And (a :: b :: rest) pos) (Z.eAnd fa fb):=⟨ZS.de_and (ha:=ha.p) (hb:=hb.p)⟩
theorem de_or{rest:List Expr}(ha:QE X a fa)(hb:QE X (.BoolOp .Or (b :: rest) pos) fb):QE X (.BoolOp .Or (a :: b :: rest) pos) (Z.eOr fa fb):=⟨ZS.de_or (ha:=ha.p) (hb:=hb.p)⟩
theorem de_not(ha:QE X a fa):QE X (.UnaryOp .Not a pos) (Z.eNot fa):=⟨ZS.de_not (ha:=ha.p)⟩
theorem dt_e(h:QE X e f)(he:∀whole,isTrue e X.env whole=(do let v ←whole;standAt e.pos;holding [v] (truthy v)):=by intro _;rfl):QT X e (Z.tE f):=⟨ZS.dt_e (h:=h.p) (he:=he)⟩
theorem dt_not{t:Z.TF}(h:QT X a t):QT X (.UnaryOp .Not a pos) (Z.tNot t):=⟨ZS.dt_not (h:=h.p)⟩
theorem dt_and1{t:Z.TF}(h:QT X a t):QTW X (.BoolOp .And [a] pos) t:=⟨ZS.dt_and1 (h:=h.p)⟩
theorem dt_or1{t:Z.TF}(h:QT X a t):QTW X (.BoolOp .Or [a] pos) t:=⟨ZS.dt_or1 (h:=h.p)⟩
theorem dt_and{t u:Z.TF}{rest:List Expr}(ha:QT X a t)(hb:QTW X (.BoolOp .And (b :: rest) pos) u):QTW X (.BoolOp .And (a :: b :: rest) pos) (Z.tAnd t u):=⟨ZS.dt_and (ha:=ha.p) (hb:=hb.p)⟩
theorem dt_or{t u:Z.TF}{rest:List Expr}(ha:QT X a t)(hb:QTW X (.BoolOp .Or (b :: rest) pos) u):QTW X (.BoolOp .Or (a :: b :: rest) pos) (Z.tOr t u):=⟨ZS.dt_or (ha:=ha.p) (hb:=hb.p)⟩
theorem dtw{t:Z.TF}(h:QTW X e t):QT X e t:=⟨ZS.dtw (h:=h.p)⟩
theorem de_ifExp{t:Z.TF}(hc:QT X c t)(ha:QE X a fa)(hb:QE X b fb):QE X (.IfExp c a b pos) (Z.eIf t fa fb):=⟨ZS.de_ifExp (hc:=hc.p) (ha:=ha.p) (hb:=hb.p)⟩
theorem ao: QA X [] Z.ay:=⟨ZS.ao ⟩
theorem ah{g:Z.AF}{v j p}(ha:QE X (.Constant v j p) f)(hr:QA X es g):QA X ((.Constant v j p) :: es) (Z.ae f g):=⟨ZS.ah (ha:=ha.p) (hr:=hr.p)⟩
theorem aa{g:Z.AF}{x p}(ha:QE X (.Name x p) f)(hr:QA X es g):QA X ((.Name x p) :: es) (Z.ae f g):=⟨ZS.aa (ha:=ha.p) (hr:=hr.p)⟩
theorem da_cTuple{g:Z.AF}{xs j p}(ha:QE X (.Tuple xs j p) f)(hr:QA X es g):QA X ((.Tuple xs j p) :: es) (Z.ae f g):=⟨ZS.da_cTuple (ha:=ha.p) (hr:=hr.p)⟩
theorem da_cList{g:Z.AF}{xs p}(ha:QE X (.List xs p) f)(hr:QA X es g):QA X ((.List xs p) :: es) (Z.ae f g):=⟨ZS.da_cList (ha:=ha.p) (hr:=hr.p)⟩
theorem da_cBin{g:Z.AF}{x o y p}(ha:QE X (.BinOp x o y p) f)(hr:QA X es g):QA X ((.BinOp x o y p) :: es) (Z.ae f g):=⟨ZS.da_cBin (ha:=ha.p) (hr:=hr.p)⟩
theorem da_cCall{g:Z.AF}{x xs ks p}(ha:QE X (.Call x xs ks p) f)(hr:QA X es g):QA X ((.Call x xs ks p) :: es) (Z.ae f g):=⟨ZS.da_cCall (ha:=ha.p) (hr:=hr.p)⟩
theorem da_cSub{g:Z.AF}{x y p}(ha:QE X (.Subscript x y p) f)(hr:QA X es g):QA X ((.Subscript x y p) :: es) (Z.ae f g):=⟨ZS.da_cSub (ha:=ha.p) (hr:=hr.p)⟩
theorem da_cCmp{g:Z.AF}{x os ys p}(ha:QE X (.Compare x os ys p) f)(hr:QA X es g):QA X ((.Compare x os ys p) :: es) (Z.ae f g):=⟨ZS.da_cCmp (ha:=ha.p) (hr:=hr.p)⟩
theorem da_cUn{g:Z.AF}{o x p}(ha:QE X (.UnaryOp o x p) f)(hr:QA X es g):QA X ((.UnaryOp o x p) :: es) (Z.ae f g):=⟨ZS.da_cUn (ha:=ha.p) (hr:=hr.p)⟩
theorem de_tup{x1}{g:Z.AF}(h:QA X es g):QE X (.Tuple es x1 pos) (Z.eTup g):=⟨ZS.de_tup (h:=h.p)⟩
theorem dl_disp{g:Z.AF}(h:QA X es g):QL X (.List es pos) (Z.lDisp g):=⟨ZS.dl_disp (h:=h.p)⟩
theorem de_isinst(t:Z.Ty){x y:Str}{p1 p2:Pos}(hg:Gl X x)(hm:X.mg x=none)(hv:bootBuiltins x=some (.builtin "isinstance"))(hg2:Gl X y)(hm2:X.mg y=none)(hv2:bootBuiltins y=some (.type (tyC t)))(ha:QW X a fa)(hn:x ≠ "__name__" := by decide +kernel)(hdb:(x==("__debug__" : Str))=false:=by decide +kernel)(hn2:y ≠ "__name__" := by decide +kernel)(hdb2:(y==("__debug__" : Str))=false:=by decide +kernel)(he:starEach (a :: [.Name y p2]) X.env=(false,eval a X.env) :: starEach [.Name y p2] X.env:=by rfl)(hpl:(backTo pos (starEach [.Name y p2] X.env)).any (·.1)=false:=by rfl)(he2:starEach ((.Name y p2) :: []) X.env=(false,eval (.Name y p2) X.env) :: starEach [] X.env:=by rfl):QE X (.Call (.Name x p1) [a,.Name y p2] [] pos) (Z.eU (Z.oIsTy t) fa):=⟨ZS.de_isinst (t:=t) (hg:=hg) (hm:=hm) (hv:=hv) (hg2:=hg2) (hm2:=hm2) (hv2:=hv2) (ha:=ha.p) (hn:=hn) (hdb:=hdb) (hn2:=hn2) (hdb2:=hdb2) (he:=he) (hpl:=hpl) (he2:=he2)⟩
theorem de_len{x:Str}{p1:Pos}(hg:Gl X x)(hm:X.mg x=none)(hv:bootBuiltins x=some (.builtin "len"))(ha:QW X a fa)(hn:x ≠ "__name__" := by decide +kernel)(hdb:(x==("__debug__" : Str))=false:=by decide +kernel)(he:starEach (a :: []) X.env=(false,eval a X.env) :: starEach [] X.env:=by rfl)(hpl:(backTo pos (starEach [] X.env)).any (·.1)=false:=by rfl):QE X (.Call (.Name x p1) [a] [] pos) (Z.eU Z.oLen fa):=⟨ZS.de_len (hg:=hg) (hm:=hm) (hv:=hv) (ha:=ha.p) (hn:=hn) (hdb:=hdb) (he:=he) (hpl:=hpl)⟩
theorem aC(ha:QW X a fa)(hb:QW X b fb)(hs:PlainIx b:=by intro _ _;rfl):QE X (.Subscript a b pos) (Z.eB Z.oIx fa fb):=⟨ZS.aC (ha:=ha.p) (hb:=hb.p) (hs:=hs)⟩
theorem dp_no: QP X none Z.pNo:=⟨ZS.dp_no ⟩
theorem dp_at(h:QW X e f):QP X (some e) (Z.pAt f):=⟨ZS.dp_at (h:=h.p)⟩
theorem de_slice{lo hi:Option Expr}{gl gh:Z.PF}{p2:Pos}(ha:QW X a fa)(hl:QP X lo gl)(hh:QP X hi gh):QE X (.Subscript a (.Slice lo hi none p2) pos) (Z.eSl fa gl gh):=⟨ZS.de_slice (ha:=ha.p) (hl:=hl.p) (hh:=hh.p)⟩
theorem dl_slice{lo hi:Option Expr}{gl gh:Z.PF}{p2:Pos}(ha:QW X a fa)(hl:QP X lo gl)(hh:QP X hi gh):QL X (.Subscript a (.Slice lo hi none p2) pos) (Z.lSl fa gl gh):=⟨ZS.dl_slice (ha:=ha.p) (hl:=hl.p) (hh:=hh.p)⟩
theorem dl_cat(ha:QW X a fa)(hb:QW X b fb):QL X (.BinOp a .Add b pos) (Z.lCat fa fb):=⟨ZS.dl_cat (ha:=ha.p) (hb:=hb.p)⟩
theorem aq{k:Nat}{ps:List Str}{x:Str}{m:List Z.D->Z.Res Z.D}{ar:Z.AF}{p1:Pos}(C:Cal X.prog X.w X.K X.mg X.base x k ps m)(hr:Room k X.A)(hg:Gl X x)(ha:QA X (e :: es) ar)(hdb:(x==("__debug__" : Str))=false:=by decide +kernel)(he:starEach (e :: es) X.env=(false,eval e X.env) :: starEach es X.env:=by rfl)(hpl:(backTo pos (starEach es X.env)).any (·.1)=false:=by rfl):QE X (.Call (.Name x p1) (e :: es) [] pos) (Z.az m ar):=⟨ZS.aq (C:=C) (hr:=hr) (hg:=hg) (ha:=ha.p) (hdb:=hdb) (he:=he) (hpl:=hpl)⟩
theorem di_j{g:Z.LF}(h:QJ X tg e g):QI X tg e g:=⟨ZS.di_j (h:=h.p)⟩
theorem dj_rng1(hg:Gl X "range")(hm:X.mg "range" = none)(ha:QE X a fa)(hs:starEach [a] X.env=[(false,eval a X.env)]:=by rfl)(hs1:starEach (a :: []) X.env=(false,eval a X.env) :: starEach [] X.env:=by rfl):QJ X tg (.Call (.Name "range" p) [a] [] pos) (Z.iRng1 fa):=⟨ZS.dj_rng1 (hg:=hg) (hm:=hm) (ha:=ha.p) (hs:=hs) (hs1:=hs1)⟩
theorem dj_rng2(hg:Gl X "range")(hm:X.mg "range" = none)(ha:QE X a fa)(hb:QE X b fb)(hs:starEach [a,b] X.env=[(false,eval a X.env),(false,eval b X.env)]:=by rfl)(hs2:starEach [b] X.env=[(false,eval b X.env)]:=by rfl)(h1:starEach (a :: [b]) X.env=(false,eval a X.env) :: starEach [b] X.env:=by rfl)(h2:starEach (b :: []) X.env=(false,eval b X.env) :: starEach [] X.env:=by rfl):QJ X tg (.Call (.Name "range" p) [a,b] [] pos) (Z.iRng2 fa fb):=⟨ZS.dj_rng2 (hg:=hg) (hm:=hm) (ha:=ha.p) (hb:=hb.p) (hs:=hs) (hs2:=hs2) (h1:=h1) (h2:=h2)⟩
theorem di_seq(ha:QW X a fa):QI X tg a (Z.iSeq fa):=⟨ZS.di_seq (ha:=ha.p)⟩
theorem dj_seq(ha:QE X a fa):QJ X tg a (Z.iSeq fa):=⟨ZS.dj_seq (ha:=ha.p)⟩
theorem aQ: QSs X H0 [] Z.sNext:=⟨ZS.aQ ⟩
theorem au(h:QS X H0 st g):QSs X H0 [st] g:=⟨ZS.au (h:=h.p)⟩
theorem aj(h1:QS X H0 st g)(h2:QSs X H0 sts u):QSs X H0 (st :: sts) (Z.aI g u):=⟨ZS.aj (h1:=h1.p) (h2:=h2.p)⟩
theorem aD(h:QE X a fa):QS X H0 (.Return (some a) pos) (Z.sRet fa):=⟨ZS.aD (h:=h.p)⟩
theorem ds_drop(h:QE X a fa)(hs:swapsWith a none pos.line X.env=pure false:=by rfl):QS X H0 (.Expr a pos) (Z.sDrop fa):=⟨ZS.ds_drop (h:=h.p) (hs:=hs)⟩
theorem ds_if{c:Expr}{b1 b2:List Stmt}{t:Z.TF}(hc:QT X c t)(h1:QSs X H0 b1 g)(h2:QSs X H0 b2 u):QS X H0 (.If c b1 b2 pos) (Z.sIf t g u):=⟨ZS.ds_if (hc:=hc.p) (h1:=h1.p) (h2:=h2.p)⟩
theorem aB{i:Nat}{x:Str}{pos':Pos}(hN:X.N.Nodup)(hi:X.N[i]?=some x)(hx:Loc X.env.scope x)(he:QE X a fa)(hs:swapsWith a (some (.Name x pos')) pos.line X.env=pure false:=by rfl)(hf:X.fn x=true∨X.env.scope.names.lookup x=some .local:=by first | exact .inl rfl | exact .inr rfl | assumption):QS X H0 (.Assign [.Name x pos'] a pos) (Z.sSet i fa):=⟨ZS.aB (hN:=hN) (hi:=hi) (hx:=hx) (he:=he.p) (hs:=hs) (hf:=hf)⟩
theorem ds_own{i:Nat}{x:Str}{pos':Pos}{l:Z.LF}(hN:X.N.Nodup)(hi:X.N[i]?=some x)(hx:Loc X.env.scope x)(he:QL X a l)(hs:swapsWith a (some (.Name x pos')) pos.line X.env=pure false:=by rfl)(hf:X.fn x=true∨X.env.scope.names.lookup x=some .local:=by first | exact .inl rfl | exact .inr rfl | assumption):QS X H0 (.Assign [.Name x pos'] a pos) (Z.sOwn i l):=⟨ZS.ds_own (hN:=hN) (hi:=hi) (hx:=hx) (he:=he.p) (hs:=hs) (hf:=hf)⟩
theorem dg_name{i:Nat}{x:Str}(hN:X.N.Nodup)(hi:X.N[i]?=some x)(hx:Loc X.env.scope x)(hf:X.fn x=true∨X.env.scope.names.lookup x=some .local:=by first | exact .inl rfl | exact .inr rfl | assumption):QG X H0 (.Name x pos) (Z.gName i):=⟨ZS.dg_name (hN:=hN) (hi:=hi) (hx:=hx) (hf:=hf)⟩
theorem dgs_nil: QGs X H0 [] []:=⟨ZS.dgs_nil ⟩
theorem dgs_cons{i:Nat}{is:List Nat}{x:Str}(hN:X.N.Nodup)(hi:X.N[i]?=some x)(hx:Loc X.env.scope x)(h2:QGs X H0 es is)(hs:(assignEach ((.Name x pos) :: es) X.env).map (·.2)=assign (.Name x pos) X.env :: (assignEach es X.env).map (·.2):=by rfl)(hf:X.fn x=true∨X.env.scope.names.lookup x=some .local:=by first | exact .inl rfl | exact .inr rfl | assumption):QGs X H0 (.Name x pos :: es) (i :: is):=⟨ZS.dgs_cons (hN:=hN) (hi:=hi) (hx:=hx) (h2:=h2.p) (hs:=hs) (hf:=hf)⟩
theorem dg_tup{x1 n:Nat}{is:List Nat}(hc:X.calm=true)(h:QGs X H0 es is)(hl:is.length=n)(hn:(assignEach es X.env).length=n:=by rfl)(hst:(assignEach es X.env).findIdx? (·.1)=none:=by rfl):QG X H0 (.Tuple es x1 pos) (Z.gTup is):=⟨ZS.dg_tup (hc:=hc) (h:=h.p) (hl:=hl) (hn:=hn) (hst:=hst)⟩
theorem ds_get{g:Z.GF}(he:QE X a fa)(hg:QG X H0 tg g)(hs:swapsWithSole [tg] a pos.line X.env=pure false:=by rfl)(hw:swappedStores [tg] a X.env=pure none:=by rfl)(h1:(assignEach [tg] X.env).map (·.2)=[assign tg X.env]:=by rfl):QS X H0 (.Assign [tg] a pos) (Z.sGet fa g):=⟨ZS.ds_get (he:=he.p) (hg:=hg.p) (hs:=hs) (hw:=hw) (h1:=h1)⟩
theorem ds_for{it:Z.LF}{G:Z.GF}{iter:Expr}{body:List Stmt}(hp:PassesOwn (model X.prog X.w) X.A X.env X.xe)(hc:X.calm=true)(hi:QJ X tg iter it)(hg:QG X H0 tg G)(hb:QSs X H0 body g)(hs:∀x,foldedSetIterable iter X.env x=pure x:=by intro _;rfl):QS X H0 (.For tg iter body [] pos) (Z.sFor it G g):=⟨ZS.ds_for (hp:=hp) (hc:=hc) (hi:=hi.p) (hg:=hg.p) (hb:=hb.p) (hs:=hs)⟩
theorem dss_frz{i:Nat}(h:QSs X H0 sts g):QSs X H0 sts (Z.sFrz i g):=⟨ZS.dss_frz (h:=h.p)⟩
theorem dl_comp{it:Z.LF}{G:Z.GF}{t:Z.TF}{fe:Z.EF}(hcalm:X.calm=true)(hi:QI X tg iter it)(B:Blk X.N N' n is scope X.env.scope)(hG:∀d ρ ρ1,G d ρ=.ok ρ1->ρ1.length=ρ.length∧∀i,n≤i->ρ1[i]?=ρ[i]?)(hg:∀cl C fp s H H0,QG (blk X N' scope cl C fp s H) H0 tg G)(ht:∀cl C fp s H,QTst (blk X N' scope cl C fp s H) ifs t)(he:∀cl C fp s H,QE (blk X N' scope cl C fp s H) elt fe)(hs:∀x,foldedSetIterable iter X.env x=pure x:=by intro _;rfl):QL X (.ListComp elt [⟨tg,iter,ifs,0⟩] scope pos) (Z.lComp it n is G t fe):=⟨ZS.dl_comp (hcalm:=hcalm) (hi:=hi.p) (B:=B) (hG:=hG) (hg:=λ y0 y1 y2 y3 y4 y5=>(hg y0 y1 y2 y3 y4 y5).p) (ht:=λ y0 y1 y2 y3 y4=>(ht y0 y1 y2 y3 y4).p) (he:=λ y0 y1 y2 y3 y4=>(he y0 y1 y2 y3 y4).p) (hs:=hs)⟩
theorem ds_setC{H0:Hp}{it:Z.LF}{G:Z.GF}{t:Z.TF}{fe:Z.EF}{i:Nat}{x:Str}{px spos:Pos}(hcalm:X.calm=true)(hN:X.N.Nodup)(hix:X.N[i]?=some x)(hx:Loc X.env.scope x)(hi:QI X tg iter it)(B:Blk X.N N' n is scope X.env.scope)(hG:∀d ρ ρ1,G d ρ=.ok ρ1->ρ1.length=ρ.length∧∀i,n≤i->ρ1[i]?=ρ[i]?)(hg:∀cl C fp s H H0,QG (blk X N' scope cl C fp s H) H0 tg G)(ht:∀cl C fp s H,QTst (blk X N' scope cl C fp s H) ifs t)(he:∀cl C fp s H,QE (blk X N' scope cl C fp s H) elt fe)(hsw:swapsWith (.ListComp elt [⟨tg,iter,ifs,0⟩] scope pos) (some (.Name x px)) spos.line X.env=pure true:=by rfl)(hs:∀x,foldedSetIterable iter X.env x=pure x:=by intro _;rfl)(hf:X.fn x=true∨X.env.scope.names.lookup x=some .local:=by first | exact .inl rfl | exact .inr rfl | assumption):QS X H0 (.Assign [.Name x px] (.ListComp elt [⟨tg,iter,ifs,0⟩] scope pos) spos) (Z.sSet i (Z.eL (Z.lComp it n is G t fe))):=⟨ZS.ds_setC (hcalm:=hcalm) (hN:=hN) (hix:=hix) (hx:=hx) (hi:=hi.p) (B:=B) (hG:=hG) (hg:=λ y0 y1 y2 y3 y4 y5=>(hg y0 y1 y2 y3 y4 y5).p) (ht:=λ y0 y1 y2 y3 y4=>(ht y0 y1 y2 y3 y4).p) (he:=λ y0 y1 y2 y3 y4=>(he y0 y1 y2 y3 y4).p) (hsw:=hsw) (hs:=hs) (hf:=hf)⟩
theorem tst_no: QTst X [] Z.tTrue:=⟨ZS.tst_no ⟩
theorem tst_one{c:Expr}{t:Z.TF}(h:QT X c t):QTst X [c] t:=⟨ZS.tst_one (h:=h.p)⟩
theorem de_all{x:Str}{p1:Pos}(hg:Gl X x)(hm:X.mg x=none)(hv:bootBuiltins x=some (.builtin "all"))(ha:QW X a fa)(hc:X.calm=true:=by rfl)(hn:x ≠ "__name__" := by decide +kernel)(hdb:(x==("__debug__" : Str))=false:=by decide +kernel)(he:starEach (a :: []) X.env=(false,eval a X.env) :: starEach [] X.env:=by rfl)(hpl:(backTo pos (starEach [] X.env)).any (·.1)=false:=by rfl):QE X (.Call (.Name x p1) [a] [] pos) (Z.eU Z.oAll fa):=⟨ZS.de_all (hg:=hg) (hm:=hm) (hv:=hv) (ha:=ha.p) (hc:=hc) (hn:=hn) (hdb:=hdb) (he:=he) (hpl:=hpl)⟩
theorem calQ{P:Program}{w:World}{K:PySem.W.Frag}{mg:Str->Option Value}{base:Heap}{x:Str}{k:Nat}{st:Stmt}{N ps:List Str}{b:Z.SF}(d:ZS.Def K mg x st ps)(S:aA N ps (ak st))
  (hb:∀ (f:Addr) (cdv:Value) (A:Around) (outer:List PySem.Env) (s:Shared) (H:Hp) (E:XK),Room k (A.deeper (envOfC x (ak st) s.heap.objs.size f cdv)) ->
   QSs (cxOf CX0 P w K mg base N x (ak st) f cdv A outer s H E).nox H (defBody st) b):ZS.Cal P w K mg base x (k+1) ps (Z.fn ps.length N.length b) :=
 ZS.Cal.mk' d S λ f cdv A outer s H E hr=>(hb f cdv A outer s H E hr).p
theorem fnQ{P:Program}{w:World}{K:PySem.W.Frag}{mg:Str->Option Value}{base:Heap}{x qual:Str}{st:Stmt}{f:Addr}{fd:FuncData}{N ps:List Str}{k:Nat}{b:Z.SF}(F:Fun K x qual st f fd)(S:aA N ps (ak st))
  (hb:∀ (cdv:Value) (A:Around) (outer:List PySem.Env) (s:Shared) (H:Hp) (E:XK),Room k (A.deeper (envOfC qual (ak st) s.heap.objs.size f cdv)) ->
   QSs (cxOf CX0 P w K mg base N qual (ak st) f cdv A outer s H E).nox H (defBody st) b):FnOk P w K mg base CX0 (k+1) f fd ps (ZS.spZ K (Z.fn ps.length N.length b)) :=
 ZS.fnZ F S λ cdv A outer s H E hr=>(hb cdv A outer s H E hr).p
end
end ZQ
noncomputable section
namespace Z
def oTuple:D->Res D
 | .lst xs=>.ok (.tup xs)
 | .tup xs=>.ok (.tup xs)
 | _=>.bad
@[simp] theorem oTuple_lst(xs:List D):oTuple (.lst xs)=.ok (.tup xs):=rfl
@[simp] theorem oTuple_tup(xs:List D):oTuple (.tup xs)=.ok (.tup xs):=rfl
def oInRng:D->D->Res D
 | .int i,.int j=>.ok (.bl (decide (0≤i∧i < j)))
 | _,_=>.bad
@[simp] theorem oInRng_int(i j:Int):oInRng (.int i) (.int j)=.ok (.bl (decide (0≤i∧i < j))):=rfl
def oNotInRng:D->D->Res D
 | .int i,.int j=>.ok (.bl (!decide (0≤i∧i < j)))
 | _,_=>.bad
@[simp] theorem oNotInRng_int(i j:Int):oNotInRng (.int i) (.int j)=.ok (.bl (!decide (0≤i∧i < j))):=rfl
def letters:List Nat:=[97,98,99,100,101,102,103,104,105,106,107,108,109,110,111,112,113,114,115,116,117,118,119,120,121,122]
def signs:List Nat:=[46,61,35,97,98,99,100,101,102,103,104,105,106,107,108,109,110,111,112,113,114,115,116,117,118,119,120,121,122]
def oMax:D->D->Res D
 | .int i,.int j=>.ok (.int (max i j))
 | _,_=>.bad
@[simp] theorem oMax_int(i j:Int):oMax (.int i) (.int j)=.ok (.int (max i j)):=rfl
def oMin:D->D->Res D
 | .int i,.int j=>.ok (.int (min i j))
 | _,_=>.bad
@[simp] theorem oMin_int(i j:Int):oMin (.int i) (.int j)=.ok (.int (min i j)):=rfl
def oInt:D->Res D
 | .int i=>.ok (.int i)
 | .bl b=>.ok (.int (if b then 1 else 0))
 | _=>.bad
@[simp] theorem oInt_int(i:Int):oInt (.int i)=.ok (.int i):=rfl
@[simp] theorem oInt_bl(b:Bool):oInt (.bl b)=.ok (.int (if b then 1 else 0)):=rfl
def lOf(a:EF)(ρ:Env):Res (List D):=(a ρ).bind λ x=>match x with
 | .lst xs=>.ok xs
 | .tup xs=>.ok xs
 | _=>.bad
def listK:D->Res (List D)
 | .lst xs=>.ok xs
 | .tup xs=>.ok xs
 | _=>.bad
@[simp] theorem lOf_a(a:EF)(ρ:Env):lOf a ρ=(a ρ).bind listK:=rfl
@[simp] theorem listK_lst(xs:List D):listK (.lst xs)=.ok xs:=rfl
@[simp] theorem listK_tup(xs:List D):listK (.tup xs)=.ok xs:=rfl
def cntEq(x:D):List D->Option Nat
 | []=>some 0
 | y :: r=>match eqD y x,cntEq x r with
  | some a,some b=>some (b+(if a then 1 else 0))
  | _,_=>none
def oCount:D->D->Res D
 | .lst ys,x=>match cntEq x ys with
  | some n=>.ok (.int n)
  | none=>.bad
 | _,_=>.bad
def sExt(i:Nat)(l:LF)(ρ:Env):Res Fl:=(l ρ).bind λ ys=>match ρ[i]? with
 | some (some (.own xs))=>guard (xs.length+ys.length≤line) (.ok (.nx (ρ.set i (some (.own (xs++ys))))))
 | _=>.bad
def pair(a b:D):D:=.tup [a,b]
def enumD(k:Nat):List D->List D
 | []=>[]
 | d :: ds=>pair (.int k) d :: enumD (k+1) ds
def zipD:List D->List D->List D
 | a :: as,b :: bs=>pair a b :: zipD as bs
 | _,_=>[]
def iEnum(a:EF)(ρ:Env):Res (List D):=(a ρ).bind λ x=>(iterD x).bind λ ds=>.ok (enumD 0 ds)
@[simp] theorem iEnum_a(a:EF)(ρ:Env):iEnum a ρ=(a ρ).bind λ x=>(iterD x).bind λ ds=>.ok (enumD 0 ds):=rfl
def seqD:D->Res (List D)
 | .tup xs=>.ok xs
 | .lst xs=>.ok xs
 | _=>.bad
@[simp] theorem seqD_tup(xs:List D):seqD (.tup xs)=.ok xs:=rfl
@[simp] theorem seqD_lst(xs:List D):seqD (.lst xs)=.ok xs:=rfl
def tupD:D->Res (List D)
 | .tup xs=>.ok xs
 | _=>.bad
@[simp] theorem tupD_tup(xs:List D):tupD (.tup xs)=.ok xs:=rfl
def iZip(a b:EF)(ρ:Env):Res (List D):=(a ρ).bind λ x=>(b ρ).bind λ y=>(seqD x).bind λ xs=>(tupD y).bind λ ys=>.ok (zipD xs ys)
@[simp] theorem iZip_a(a b:EF)(ρ:Env):iZip a b ρ=(a ρ).bind λ x=>(b ρ).bind λ y=>(seqD x).bind λ xs=>(tupD y).bind λ ys=>.ok (zipD xs ys):=rfl
end Z
end
namespace ZS
open PySem PySem.Spec PyProof.Rows L2
section
variable {X:Cx}{e a b:Expr}{es:List Expr}{pos p:Pos}{f fa fb:Z.EF}
theorem de_tuple{x:Str}{p1:Pos}(hg:Gl X x)(hm:X.mg x=none)(hv:bootBuiltins x=some (.type "tuple"))(ha:DW X a fa)(hn:x ≠ "__name__" := by decide +kernel)(hdb:(x==("__debug__" : Str))=false:=by decide +kernel)
  (he:starEach (a :: []) X.env=(false,eval a X.env) :: starEach [] X.env:=by rfl) (hpl:(backTo pos (starEach [] X.env)).any (·.1)=false:=by rfl):DE X (.Call (.Name x p1) [a] [] pos) (Z.eU Z.oTuple fa) :=
 PE.imp (pe_callTy call_tuple_of hg hm hv (pa_cons ha pa_nil he) hn hdb he hpl) λ σ H Q ⟨ρ,d,r,e,k⟩=>by
  obtain⟨x,ea,e⟩:=Z.Res.ax e;refine⟨ρ,x,r,ea,λ v H1 s1 d1=>?_⟩;unfold Z.oTuple at e;split at e
  ·cases e;obtain⟨q,vs,rfl,hq,t⟩:=d1.lst;refine⟨q,vs,rfl,.inl ⟨hq,λ l hl=>?_⟩⟩;have s2:aJ H1 (upd H1 l (.tup vs)):=upd_Same hl;exact k _ _ (s1.trans s2) (den_tup (.inl (.inl upd_same)) (t.up s2))
  ·cases e;obtain⟨q,vs,rfl,hq,t⟩:=d1.tup;exact⟨q,vs,rfl,.inr ⟨hq,k _ H1 s1 (den_tup hq t)⟩⟩
  ·cases e
end
end ZS
namespace ZQ
open PySem PySem.Spec PyProof.Rows L2 ZS
section
variable {X:Cx}{tg e a b c:Expr}{es:List Expr}{pos p:Pos}{f fa fb fc:Z.EF}{H0:Hp}
theorem de_tuple{x:Str}{p1:Pos}(hg:Gl X x)(hm:X.mg x=none)(hv:bootBuiltins x=some (.type "tuple"))(ha:QW X a fa)(hn:x ≠ "__name__" := by decide +kernel)(hdb:(x==("__debug__" : Str))=false:=by decide +kernel)(he:starEach (a :: []) X.env=(false,eval a X.env) :: starEach [] X.env:=by rfl)(hpl:(backTo pos (starEach [] X.env)).any (·.1)=false:=by rfl):QE X (.Call (.Name x p1) [a] [] pos) (Z.eU Z.oTuple fa):=⟨ZS.de_tuple (hg:=hg) (hm:=hm) (hv:=hv) (ha:=ha.p) (hn:=hn) (hdb:=hdb) (he:=he) (hpl:=hpl)⟩
theorem ds_app{i:Nat}{o:Expr}{p1 p2:Pos}(ho:PE X o (tVar i))(ha:QE X a fa)(hs:swapsWith (.Call (.Attribute o "append" p1) [a] [] p2) none pos.line X.env=pure false:=by rfl)(hs1:starEach (a :: []) X.env=(false,eval a X.env) :: starEach [] X.env:=by rfl)
  (hbase:attributeBase o "append" X.env (eval o X.env)=eval o X.env:=by rfl)
  (hfew:((backTo p2 (starEach (a :: []) X.env)).all (λ x=>!x.1)&&(backToKw p2 (keywordEach [] X.env)).all (λ x=>x.1.isSome)
   && decide ((a :: []).length+([]:List Keyword).length+(if([]:List Keyword).isEmpty then 0 else 1) < 30))=true:=by rfl)
  (hline:(p1.endLine==p2.line)=true:=by rfl) (hplain:(backTo p2 (starEach [] X.env)).any (·.1)=false:=by rfl) :
  QS X H0 (.Expr (.Call (.Attribute o "append" p1) [a] [] p2) pos) (Z.sAppend i fa) :=
 ⟨ZS.ds_append ho ha.p hs hs1 (pe_bm PySem.F.plainAttrs_list PySem.F.slot_list_append PySem.F.type_list_append mt_append ho (pa_cons ha.p pa_nil hs1) hbase hfew hline hs1 hplain)⟩
end
end ZQ
namespace ZS
open PySem PySem.Spec PyProof.Rows L2
section
variable {X:Cx}{e a b:Expr}{es:List Expr}{pos p:Pos}{f fa fb:Z.EF}
theorem max_if(i j:Int):(if j > i then j else i)=max i j:=by split<;>lia
theorem de_max2{x:Str}{p1:Pos}(hg:Gl X x)(hm:X.mg x=none)(hv:bootBuiltins x=some (.builtin "max"))(ha:DW X a fa)(hb:DW X b fb)(hc:X.calm=true:=by rfl)(hn:x ≠ "__name__" := by decide +kernel)(hdb:(x==("__debug__" : Str))=false:=by decide +kernel)
  (he:starEach (a :: [b]) X.env=(false,eval a X.env) :: starEach [b] X.env:=by rfl) (he2:starEach (b :: []) X.env=(false,eval b X.env) :: starEach [] X.env:=by rfl) (hpl:(backTo pos (starEach [b] X.env)).any (·.1)=false:=by rfl):DE X (.Call (.Name x p1) [a,b] [] pos) (Z.eB Z.oMax fa fb) :=
 PE.imp (pe_callB (call_max2 hc) hg hm hv (pa_cons ha (pa_cons hb pa_nil he2) he) hn hdb he hpl) λ σ H Q ⟨ρ,d,r,e,k⟩=>by
  obtain⟨x,ea,e⟩:=Z.Res.ax e;obtain⟨y,eb,e⟩:=Z.Res.ax e;refine⟨ρ,x,r,ea,λ v H1 s1 d1=>⟨ρ,y,r.up s1,eb,λ u H2 s2 d2=>?_⟩⟩;obtain⟨i,j,rfl,rfl,rfl⟩:∃i j,x=.int i∧y=.int j∧d=.int (max i j):=by
   unfold Z.oMax at e;split at e
   ·cases e;exact⟨_,_,rfl,rfl,rfl⟩
   ·cases e
  refine⟨i,j,by rw[d1.int,d2.int],?_⟩;rw[max_if];exact k _ H2 (s1.trans s2) den_int
theorem de_int1{x:Str}{p1:Pos}(hg:Gl X x)(hm:X.mg x=none)(hv:bootBuiltins x=some (.type "int"))(ha:DW X a fa)(hn:x ≠ "__name__" := by decide +kernel)(hdb:(x==("__debug__" : Str))=false:=by decide +kernel)
  (he:starEach (a :: []) X.env=(false,eval a X.env) :: starEach [] X.env:=by rfl) (hpl:(backTo pos (starEach [] X.env)).any (·.1)=false:=by rfl):DE X (.Call (.Name x p1) [a] [] pos) (Z.eU Z.oInt fa) :=
 PE.imp (pe_callTy call_int1 hg hm hv (pa_cons ha pa_nil he) hn hdb he hpl) λ σ H Q ⟨ρ,d,r,e,k⟩=>by
  obtain⟨x,ea,e⟩:=Z.Res.ax e;refine⟨ρ,x,r,ea,λ v H1 s1 d1=>?_⟩;unfold Z.oInt at e;split at e
  ·cases e;exact .inl ⟨_,by rw[d1.int],k _ H1 s1 den_int⟩
  ·cases e;exact .inr ⟨_,by rw[d1.bl],k _ H1 s1 den_int⟩
  ·cases e
theorem ds_extend{i:Nat}{o:Expr}{p1 p2:Pos}{l:Z.LF}{H0:Hp}(hs:swapsWith (.Call (.Attribute o "extend" p1) [a] [] p2) none pos.line X.env=pure false:=by rfl)
  (hbm:PE X (.Call (.Attribute o "extend" p1) [a] [] p2) (tBM X.K "list" rExtend (tVar i) (tCons (tZl X.K l) tNil))) :
  DS X H0 (.Expr (.Call (.Attribute o "extend" p1) [a] [] p2) pos) (Z.sExt i l):=PS.imp (ps_expr hbm hs) λ D σ H ⟨ρ,fl,rs,e,k⟩=>by
 obtain⟨ys,ea,e⟩:=Z.Res.ax e;split at e
 ·rename_i xs ei;unfold Z.guard at e;split at e
  ·rename_i hl;cases e;obtain⟨v,si,q,us,rfl,hq,t⟩:=rs.re.get i _ ei;refine⟨.ref q,si,.inl ⟨rfl,us,SqL.of hq⟩,ρ,ys,rs.re,ea,λ c vs H1 s1 hn hc tc=>?_⟩;have hq1:H1 q=some (.lst us):=s1 _ _ hq;refine⟨q,c,us,vs,rfl,rfl,hq1,hc,by rw[t.length,tc.length,sizeLine_eq];exact hl,?_⟩;exact k σ _ ((stb s1).trans (stb_lst hq1)) ((rs.up s1).chg ei si hq1 ((t.up s1).append tc))
  ·cases e
 ·cases e
theorem cntEq_at{x:Z.D}:∀{ys:List Z.D}{k:Nat},Z.cntEq x ys=some k->k=ys.countP (λ y=>(Z.eqD y x).getD false)∧∀y∈ys,Z.eqD y x=some ((Z.eqD y x).getD false)
 | [],k,h=>by cases h;exact⟨rfl,λ y hy=>by cases hy⟩
 | y :: ys,k,h=>by
  unfold Z.cntEq at h;split at h
  ·rename_i a b ea eb;cases h;obtain⟨h1,h2⟩:=cntEq_at eb;refine⟨by rw[List.countP_cons,ea,h1];rfl,λ z hz=>?_⟩;rcases List.mem_cons.mp hz with rfl | hz
   ·rw[ea];rfl
   ·exact h2 z hz
  ·cases h
theorem cnt_fun{pins:List (Addr×Obj)}{σ:St}{H:Hp}{s:Shared}(I:Inv X pins σ H s){A:Around}(hu:A.units+60 < cLine){x:Z.D}{v:V}{u:Value}(hx:DenW X.K H x v)(rx:RelV v u){ys:List Z.D}{vs:List V}{us:List Value}(t:aE X.K H ys vs)(r:Vals vs us)(hh:∀y∈ys,Z.eqD y x=some ((Z.eqD y x).getD false)):
  ∃e:Value->Bool,(∀w∈us,SeqAt.EqAt A s w u (e w))∧us.countP e=ys.countP (λ y=>(Z.eqD y x).getD false):=by
 classical
 let e:Value->Bool:=λ w=>if h:∃y vy,Den X.K H y vy∧RelV vy w∧y∈ys then(Z.eqD h.choose x).getD false else false
 have he:∀w y vy,Den X.K H y vy->RelV vy w->y∈ys->e w=(Z.eqD y x).getD false:=by
  intro w y vy dy ry hy;have hex:∃y vy,Den X.K H y vy∧RelV vy w∧y∈ys:=⟨y,vy,dy,ry,hy⟩
  show(if h:_ then _ else _)=_;rw[dif_pos hex];obtain⟨vy',dy',ry',hy'⟩:=hex.choose_spec;have ev:vy'=vy:=ry'.inj ry;subst ev;rw[Den.inj I _ _ _ dy' dy]
 have cnt:∀{zs:List Z.D}{vs:List V}{us:List Value},aE X.K H zs vs->Vals vs us->(∀z∈zs,z∈ys)->us.countP e=zs.countP (λ y=>(Z.eqD y x).getD false):=by
  intro zs
  induction zs with
  | nil=>intro vs us t r _;simp only[aE]at t;subst t;cases r;rfl
  | cons z zs ih =>
   intro vs us t r hm;simp only[aE]at t;obtain⟨vy,vr,rfl,dy,tr⟩:=t;cases r with
   | cons ry rr=>rw[List.countP_cons,List.countP_cons,ih tr rr (λ w hw=>hm w (List.mem_cons_of_mem _ hw)),he _ z vy dy ry (hm z List.mem_cons_self)]
 refine⟨e,λ w hw=>?_,cnt t r λ _ h=>h⟩;obtain⟨j,hj,ej⟩:=List.getElem_of_mem hw;have hl:=r.length;have ht:=t.length;obtain⟨y,ey⟩:∃y,ys[j]?=some y:=⟨ys[j]'(by lia),List.getElem?_eq_getElem (by lia)⟩
 obtain⟨vy,evy,dy⟩:=t.get ey;obtain⟨u',eu',ru'⟩:=r.get evy;have:u'=w:=by have:=List.getElem?_eq_getElem hj;rw[eu',ej]at this;exact Option.some.inj this
 subst this;have hy:y∈ys:=List.mem_of_getElem? ey;rw[he _ y vy dy ru' hy];exact(rcN I 6 (A:=A) (by lia) (hh y hy) (.inl dy) hx ru' rx).2.1
def rCount(K:PySem.W.Frag):V->List V->Hp->VK->Prop:=λ x vs H Q=>∃d ys q us v k,x=.ref q∧vs=[v]∧SqL K H q us∧aE K H ys us∧DenW K H d v∧Z.cntEq d ys=some k∧Q (.int k) H
theorem mt_count(hu:X.A.units+64 < cLine):MtR X "list.count" (rCount X.K):=by intro pins s σ H x vs v us Q I rx rv h;obtain⟨d,ys,q,us',v',k,rfl,rfl,hq,t,hd,e,k'⟩:=h;cases rx;obtain⟨u,rfl,ru⟩:=rv.one;obtain⟨e1,e2⟩:=cntEq_at e;subst e1;obtain⟨its,r,pl,hz⟩:=I.list hq;obtain⟨f,hf,hfa⟩:=cnt_fun I (A:=X.A.in1) (show X.A.units+1+60 < cLine by lia) hd ru t r e2;obtain⟨⟨cls,dd,data,sl⟩,ho,hc,n,hd'⟩:=id pl.isList;simp only at hc hd';subst hc hd';refine call_meets F.slot_list_count ⟨_,ho,rfl⟩ F.entry_list_count (F.args_list_count_2 _ _) (SeqAt.list_countAt q its.toArray n dd sl u f) ⟨ho,λ w hw=>hf w (by simpa using hw),?_⟩;refine⟨.int _,H,I.tok _,⟨_,rfl⟩,?_⟩;show Q (.int ((its.countP f:Nat):Int)) H;rw[hfa];exact k'
theorem de_count{o : Expr}{p1 p2 : Pos}(hu : X.A.units + 64 < cLine)(ho : DW X o fa)(hb : DW X b fb)
  (hbase:attributeBase o "count" X.env (eval o X.env)=eval o X.env:=by rfl)
  (hfew:((backTo p2 (starEach (b :: []) X.env)).all (λ x=>!x.1)&&(backToKw p2 (keywordEach [] X.env)).all (λ x=>x.1.isSome)
   && decide ((b :: []).length+([]:List Keyword).length+(if([]:List Keyword).isEmpty then 0 else 1) < 30))=true:=by rfl)
  (hline:(p1.endLine==p2.line)=true:=by rfl) (hs1:starEach (b :: []) X.env=(false,eval b X.env) :: starEach [] X.env:=by rfl) (hplain:(backTo p2 (starEach [] X.env)).any (·.1)=false:=by rfl) :
  DE X (.Call (.Attribute o "count" p1) [b] [] p2) (Z.eB Z.oCount fa fb) :=
 PE.imp (pe_bm PySem.F.plainAttrs_list PySem.F.slot_list_count PySem.F.type_list_count (mt_count hu) ho (pa_cons hb pa_nil hs1) hbase hfew hline hs1 hplain) λ σ H Q ⟨ρ,d,r,e,k⟩=>by
  obtain⟨x,ea,e⟩:=Z.Res.ax e;obtain⟨y,eb,e⟩:=Z.Res.ax e;refine⟨ρ,x,r,ea,λ v H1 s1 d1=>?_⟩;unfold Z.oCount at e;split at e
  ·rename_i ys _;split at e
   ·rename_i n hn;cases e;obtain⟨q,vs,rfl,hq,t⟩:=d1.lst;refine⟨.inl ⟨rfl,vs,hq⟩,ρ,y,r.up s1,eb,λ u H2 s2 d2=>?_⟩;exact⟨y,ys,q,vs,u,n,rfl,rfl,s2.seq hq,t.up s2,d2,hn,k _ H2 (s1.trans s2) den_int⟩
   ·cases e
  ·cases e
end
end ZS
namespace ZQ
open PySem PySem.Spec PyProof.Rows L2 ZS
section
variable {X:Cx}{tg e a b c:Expr}{es:List Expr}{pos p:Pos}{f fa fb fc:Z.EF}{H0:Hp}
theorem de_max2{x:Str}{p1:Pos}(hg:Gl X x)(hm:X.mg x=none)(hv:bootBuiltins x=some (.builtin "max"))(ha:QW X a fa)(hb:QW X b fb)(hc:X.calm=true:=by rfl)(hn:x ≠ "__name__" := by decide +kernel)(hdb:(x==("__debug__" : Str))=false:=by decide +kernel)(he:starEach (a :: [b]) X.env=(false,eval a X.env) :: starEach [b] X.env:=by rfl)(he2:starEach (b :: []) X.env=(false,eval b X.env) :: starEach [] X.env:=by rfl)(hpl:(backTo pos (starEach [b] X.env)).any (·.1)=false:=by rfl):QE X (.Call (.Name x p1) [a,b] [] pos) (Z.eB Z.oMax fa fb):=⟨ZS.de_max2 (hg:=hg) (hm:=hm) (hv:=hv) (ha:=ha.p) (hb:=hb.p) (hc:=hc) (hn:=hn) (hdb:=hdb) (he:=he) (he2:=he2) (hpl:=hpl)⟩
theorem de_int1{x:Str}{p1:Pos}(hg:Gl X x)(hm:X.mg x=none)(hv:bootBuiltins x=some (.type "int"))(ha:QW X a fa)(hn:x ≠ "__name__" := by decide +kernel)(hdb:(x==("__debug__" : Str))=false:=by decide +kernel)(he:starEach (a :: []) X.env=(false,eval a X.env) :: starEach [] X.env:=by rfl)(hpl:(backTo pos (starEach [] X.env)).any (·.1)=false:=by rfl):QE X (.Call (.Name x p1) [a] [] pos) (Z.eU Z.oInt fa):=⟨ZS.de_int1 (hg:=hg) (hm:=hm) (hv:=hv) (ha:=ha.p) (hn:=hn) (hdb:=hdb) (he:=he) (hpl:=hpl)⟩
theorem de_count{o:Expr}{p1 p2:Pos}(hu:X.A.units+64 < cLine)(ho:QW X o fa)(hb:QW X b fb)(hbase:attributeBase o "count" X.env (eval o X.env)=eval o X.env:=by rfl)(hfew:((backTo p2 (starEach (b :: []) X.env)).all (λ x=>!x.1)&&(backToKw p2 (keywordEach [] X.env)).all (λ x=>x.1.isSome)
   && decide ((b :: []).length+([]:List Keyword).length+(if([]:List Keyword).isEmpty then 0 else 1) < 30))=true:=by rfl) (hline:(p1.endLine==p2.line)=true:=by rfl) (hs1:starEach (b :: []) X.env=(false,eval b X.env) :: starEach [] X.env:=by rfl) (hplain:(backTo p2 (starEach [] X.env)).any (·.1)=false:=by rfl):QE X (.Call (.Attribute o "count" p1) [b] [] p2) (Z.eB Z.oCount fa fb):=⟨ZS.de_count (hu:=hu) (ho:=ho.p) (hb:=hb.p) (hbase:=hbase) (hfew:=hfew) (hline:=hline) (hs1:=hs1) (hplain:=hplain)⟩
theorem ds_ext{i:Nat}{o:Expr}{p1 p2:Pos}{l:Z.LF}(ho:PE X o (tVar i))(ha:QL X a l)(hs:swapsWith (.Call (.Attribute o "extend" p1) [a] [] p2) none pos.line X.env=pure false:=by rfl)(hs1:starEach (a :: []) X.env=(false,eval a X.env) :: starEach [] X.env:=by rfl)
  (hbase:attributeBase o "extend" X.env (eval o X.env)=eval o X.env:=by rfl)
  (hfew:((backTo p2 (starEach (a :: []) X.env)).all (λ x=>!x.1)&&(backToKw p2 (keywordEach [] X.env)).all (λ x=>x.1.isSome)
   && decide ((a :: []).length+([]:List Keyword).length+(if([]:List Keyword).isEmpty then 0 else 1) < 30))=true:=by rfl)
  (hline:(p1.endLine==p2.line)=true:=by rfl) (hplain:(backTo p2 (starEach [] X.env)).any (·.1)=false:=by rfl) :
  QS X H0 (.Expr (.Call (.Attribute o "extend" p1) [a] [] p2) pos) (Z.sExt i l) :=
 ⟨ZS.ds_extend hs (pe_bm PySem.F.plainAttrs_list PySem.F.slot_list_extend PySem.F.type_list_extend mt_extend ho (pa_cons ha.p pa_nil hs1) hbase hfew hline hs1 hplain)⟩
end
end ZQ
namespace ZS
open PySem PySem.Spec PyProof.Rows L2 PySem.W
theorem weight_ints{i:Int}:∀{ns:List Int},i∈ns->WData.weight (.int i)≤WData.weightAll (ns.map WData.int)
 | [],h=>by cases h
 | n :: ns,h=>by
  rcases List.mem_cons.mp h with rfl | h
  ·simp only[List.map_cons,WData.weightAll];lia
  ·have:=weight_ints h;simp only[List.map_cons,WData.weightAll];lia
theorem bits_script{ns:List Int}(h:WData.layableAll [WData.list (ns.map WData.int)]=true):∀i∈ns,Z.bits i≤2 ^ 20:=by
 intro i hi;have h1:WData.layable (.list (ns.map WData.int))=true:=List.all_eq_true.mp h _ List.mem_cons_self;unfold WData.layable at h1;rw[Bool.and_eq_true]at h1;have h2:WData.weight (.list (ns.map WData.int))≤2 ^ 20:=of_decide_eq_true h1.2;have h3:WData.weight (.list (ns.map WData.int))=WData.weightAll (ns.map WData.int):=by simp only[WData.weight]
 have h4:=weight_ints hi;have h5:WData.weight (.int i)=Z.bits i:=by
  simp only[WData.weight];unfold Z.bits;by_cases hz:i=0
  ·subst hz;rfl
  ·rw[if_neg hz,if_neg (by simpa using hz)]
 lia
def LamOk(q:Program)(K:Frag):Prop:=noTabs K=true∧(∀x∈lamNames,∀c P,tabIn K x=some (c,P)->∃d,(recsOf q).find? (λ e=>e.name==x)=some d) ∧
 ∀x y c P c',x∈lamNames->y∈lamNames->tabIn K x=some (c,P)->tabIn K y=some (c',P)->x=y
theorem tab_none{K:Frag}{x:Str}(h:nsIn K mainGlobals x=some none):tabIn K x=none:=by unfold tabIn;rw[h]
theorem tab_some{K:Frag}{x:Str}{f c p:Addr}{o1 o2:Value}{d1 d2:Option Addr}{s1 s2:Array (Option Value)}{fd:FuncData}{vs:Array Value}(h:nsIn K mainGlobals x=some (some (.ref f)))(h2:K.lookup f=some ⟨o1,d1,.func fd,s1⟩)(h3:fd.code=.ref c)
  (h4:K.lookup c=some ⟨o2,d2,.fields vs,s2⟩) (h5:vs[11]?=some (.ref p)):tabIn K x=some (c,p):=by
 unfold tabIn;rw[h];dsimp only;rw[h2];dsimp only;rw[h3];dsimp only;rw[h4];dsimp only;rw[h5]
theorem lamNames_cases{p:Str->Prop}(h1:p "best_among")(h2:p "paper_beside"):∀x∈lamNames,p x:=by
 intro x hx;unfold lamNames at hx;rcases List.mem_cons.mp hx with rfl | hx
 ·exact h1
 ·rw[List.mem_singleton.mp hx];exact h2
theorem lam_ok{q:Program}{K:Frag}{r1 r2:Option (Addr×Addr)}(n:noTabs K=true)(h1:tabIn K "best_among" = r1)(h2:tabIn K "paper_beside" = r2)(g1:r1=none∨((recsOf q).find? (λ e=>e.name==Str.ofString "best_among")).isSome=true)(g2:r2=none∨((recsOf q).find? (λ e=>e.name==Str.ofString "paper_beside")).isSome=true)
  (ne:∀c P c' P',r1=some (c,P)->r2=some (c',P')->P≠P'):LamOk q K:=by
 refine⟨n,lamNames_cases (λ c P e=>?_) (λ c P e=>?_),λ x y c P c' hx hy=>?_⟩
 ·rcases g1 with z | z
  ·rw[h1,z]at e;cases e
  ·exact Option.isSome_iff_exists.mp z
 ·rcases g2 with z | z
  ·rw[h2,z]at e;cases e
  ·exact Option.isSome_iff_exists.mp z
 ·refine lamNames_cases (p:=λ x=>tabIn K x=some (c,P)->tabIn K y=some (c',P)->x=y) (λ e1=>?_) (λ e1=>?_) x hx
  ·refine lamNames_cases (p:=λ y=>tabIn K y=some (c',P) -> "best_among" = y) (λ _=>rfl) (λ e2=>?_) y hy;exact absurd rfl (ne c P c' P (h1.symm.trans e1) (h2.symm.trans e2))
  ·refine lamNames_cases (p:=λ y=>tabIn K y=some (c',P) -> "paper_beside" = y) (λ e2=>?_) (λ _=>rfl) y hy;exact absurd rfl (ne c' P c P (h1.symm.trans e2) (h2.symm.trans e1))
theorem walk_B{l : OpenLaw}{n k : Nat}{q : Program}{loose : List Str}{XP : (Str -> Option Value) -> Heap -> Prop}{YP : World -> Heap -> Prop}{d : DefRec}{K : Params -> Frag}{m : List Z.D -> Z.Res Z.D}{x : Str}
  (hn:l.most=some n) (hn2:n≤sizeLine) (hdf:d.params.defaults=[]) (hr:Room k callerA)
  (hY:∀(w:World)(h:Heap),YP w h->(K w.params).In h)
  (F:∀ (w:World) (mg:Str->Option Value) (fa:Addr) (h:Heap),(K w.params).In h->h.Ns mainGlobals mg->mg d.name=some (.ref fa) ->
   ∃fd:FuncData,(∀(s:Shared)(u:Value),BindsTo s fd ⟨[u],[]⟩ [(x,u)]) ∧
    ∀base:Heap,(K w.params).In base->base.Ns mainGlobals mg->FnOk l.prog w (K w.params) mg base CX0 k fa fd [x] (spZ (K w.params) m)) (hL:∀w:World,LamOk q (K w.params))
  (hold:∀ns:List Int,ns.length≤n->(∀i∈ns,Z.bits i≤2 ^ 20)->m [.lst (ns.map .int)]=.ok (.bl true)) :
  WalkO q loose XP YP l.row.toRowW d [] (λ f vs=>PySem.call f vs):=by
 intro w s₀ s₁ mg mb G Y fa o pm cd doc dV kV ho hd hcd hD hmg hg args vals as hpre hlay hrd hwl hlo;cases Dflts.none hD hdf;cases Dflts.noKw hD;obtain⟨a,vs,ns,rfl,rfl,hobj,hints,hlen⟩:=Att.script_of hn hpre hwl;have KX:=hY w _ Y;obtain⟨fd,hb,hF⟩:=F w mg fa _ KX G.T.g hmg;have C:=law_call KX G.T.g G.T.b G.T.builtins G.T.nolimit hg hobj hints (Nat.le_trans hlen hn2) hr hF hb (λ H hO hS=>law_sp hO hS (hold ns hlen (bits_script hlay))) (λ H e s' z=>z)
  (hL w).2.2 (λ y hy c p e=>let ⟨d,hd⟩:=(hL w).2.1 y hy c p e;let T:=tab_of G.T KX hd e;⟨T,T.1.tab T.2⟩) G.T.bmain (hL w).1
 refine enter_call (codeAny_mono C λ r s' hq=>?_);obtain⟨rfl,h2,h3,h4⟩:=hq;exact⟨.inl ⟨.bool true,.bool true,[],rfl,λ _=>rfl,.bool true,Att.post_true l _,λ _=>⟨List.Pairwise.nil,λ _ hm=>(nomatch hm)⟩⟩,h2,h3,h4⟩
end ZS
namespace ZS
open PySem PySem.Spec PyProof.Rows L2
section
variable {prog:Program}{w:World}{A:Around}{E:Value->Shared->Prop}{s:Shared}
theorem nextT_item{it t:Addr}{i:Nat}{items:Array Value}{x:Value}{Q:Value->Shared->Prop}(hit:s.heap.IsTupleIter it t i)(ht:s.heap.IsTuple t items)(hx:items[i]?=some x)
  (hQ:∀h',h'.IsTupleIter it t (i+1)->Heap.SameBut it s.heap h'->Q x { s with heap:=h' }):wpAny (model prog w) A (Builtin.SmallTypes.nextOf (.ref it)) Q E s:=by
 obtain⟨ob,hob,hcl,hda⟩:=id hit;obtain⟨ot,hot,_,nt,hdt⟩:=ht;unfold Builtin.SmallTypes.nextOf;refine wpAny_bind (wpAny_callSpecial?_slot (name:=Str.ofString "__next__") hit.typeIs F.slot_tuple_iterator_next (wpAny_call_entry F.slot_tuple_iterator_next hit.typeIs F.entry_tuple_iterator_next ?_ (F.args_tuple_iterator_next_1 _)));show wpAny _ _ (field (.ref it) 0 >>= _) _ _ _;refine wpAny_bind (wpAny_field hob hda (x:=.ref t) rfl ?_);show wpAny _ _ (if(Value.ref t==Value.none)=true then _ else _) _ _ _;have hno:¬(Value.ref t==Value.none)=true:=Bool.false_ne_true;rw[if_neg hno];show wpAny _ _ (field (.ref it) 1 >>= _) _ _ _;refine wpAny_bind (wpAny_field hob hda (x:=.int i 0) rfl ?_);show wpAny _ _ (seqItems? (.ref t) >>= _) _ _ _;refine wpAny_bind (wpAny_seqItems hot hdt ?_);simp only[Int.toNat_natCast,hx];refine wpAny_bind (wpAny_setField hob hda (by simp) (wpAny_pure ⟨x,rfl,wpAny_pure (hQ _ ⟨_,Heap.get?_update_self _ hob (Obj.isFreed_of_fields (Obj.data_mapFields hda _)),(Obj.cls_mapFields ..).trans hcl,?_⟩ (Heap.SameBut.update ..))⟩));rw[Obj.data_mapFields hda];simp[rawInt]
theorem nextT_end{it t:Addr}{i:Nat}{items:Array Value}{Q:Value->Shared->Prop}(hh:A.handled=none)(hit:s.heap.IsTupleIter it t i)(ht:s.heap.IsTuple t items)(hx:items[i]?=none)
  (hE:∀h' e,Heap.ExtBut it s.heap h'->(∃o,h'.get? e=some o∧o.cls=.type "StopIteration")->E (.ref e) { s with heap:=h' }):wpAny (model prog w) A (Builtin.SmallTypes.nextOf (.ref it)) Q E s:=by
 obtain⟨ob,hob,hcl,hda⟩:=id hit;obtain⟨ot,hot,_,nt,hdt⟩:=ht;unfold Builtin.SmallTypes.nextOf;refine wpAny_bind (wpAny_callSpecial?_slot (name:=Str.ofString "__next__") hit.typeIs F.slot_tuple_iterator_next (wpAny_call_entry F.slot_tuple_iterator_next hit.typeIs F.entry_tuple_iterator_next ?_ (F.args_tuple_iterator_next_1 _)));show wpAny _ _ (field (.ref it) 0 >>= _) _ _ _;refine wpAny_bind (wpAny_field hob hda (x:=.ref t) rfl ?_);show wpAny _ _ (if(Value.ref t==Value.none)=true then _ else _) _ _ _;have hno:¬(Value.ref t==Value.none)=true:=Bool.false_ne_true;rw[if_neg hno];show wpAny _ _ (field (.ref it) 1 >>= _) _ _ _;refine wpAny_bind (wpAny_field hob hda (x:=.int i 0) rfl ?_);show wpAny _ _ (seqItems? (.ref t) >>= _) _ _ _;refine wpAny_bind (wpAny_seqItems hot hdt ?_);simp only[Int.toNat_natCast,hx];refine wpAny_bind (wpAny_rule (wpAny_bind (wpAny_setField hob hda (by simp) ?_)));show wpAny _ _ (newExc (.type "StopIteration") [] >>= _) _ _ _;refine wpAny_bind ?_;simp only[newExc,newTuple];refine wpAny_bind (wpAny_newObj_type ?_ (by size_fits));refine wpAny_bind (m:=firstArgMember _ _) (wpAny_of_eq (a:=Value.none) (by first | rfl | (simp only[firstArgMember];rfl)) ?_);refine wpAny_newObj_type ?_ (by size_fits);simp only[raiseNew];refine wpAny_bind (wpAny_handled ?_)
 first | rw[show A.in1.handled=none from hh] | rw[hh]
 exact wpAny_bind (wpAny_pure (wpAny_throw (hE _ _ (((Heap.SameBut.update ..).extBut.push _).push _) ⟨_,Heap.get?_push_size _ rfl,rfl⟩)))
end
theorem drawsT{prog:Program}{w:World}{A:Around}(hh:A.handled=none)(it t:Addr)(hne:t≠it)(items:Array Value):
  Draws prog w A it [it,t] items.size (λ i v=>items[i]?=some v) (λ i h=>h.IsTupleIter it t i∧h.IsTuple t items) where
 live:=λ _ _ st=>let ⟨o,ho,_⟩:=st.1;⟨o,ho⟩
 frame:=λ _ _ _ st hk=>by obtain⟨⟨o,e,r⟩,⟨o2,e2,r2⟩⟩:=st;exact⟨⟨o,hk it (by simp) o e,r⟩,⟨o2,hk t (by simp) o2 e2,r2⟩⟩
 item:=λ i s Q E hi st hQ=>by refine nextT_item st.1 st.2 (x:=items[i]) (by simp[hi]) λ h' hit' hs'=>?_;exact hQ _ h' s.toks (by simp[hi]) ⟨hit',st.2.extBut hs'.extBut hne⟩ hs'
 done:=λ s Q E st hE=>nextT_end hh st.1 st.2 (by simp) hE
theorem turnedL{X:Cx}{pins:List (Addr×Obj)}{σ:St}{H:Hp}{s:Shared}{h':Heap}{t':Nat}{ch:List Addr}(I:Inv X pins σ H s)(k:∀b o,b∉ch->s.heap.get? b=some o->h'.get? b=some o)(hf:∀b∈ch,FpOk X pins H b):Inv X pins σ H { s with heap:=h',toks:=t' }:=by
 have nch:∀b u,H b=some u->b∉ch:=λ b u e hb=>by rw[(hf b hb).1]at e;cases e
 refine I.step (g':=s.gens) (d':=s.drawn) (ch:=ch) (λ b hb=>?_) (λ b o _ _ hc e _=>k b o hc e) (λ b o _ _ hc e _=>⟨o.slots,k b o hc e⟩) (λ _ _ _ _ n=>n)
  (λ b o hc e=>⟨o,k b o hc e⟩) (λ _ _ e=>e) (λ _ _ _ e=>e) (λ _ _ _ e=>e) (λ m hm=>?_) (λ b u e=>?_) I.bare
 ·obtain⟨f0,f1,f2,f3,f4,f5⟩:=hf b hb;exact⟨f3,f1,f4,f5⟩
 ·obtain⟨o,es,ep,ho,r⟩:=hm;exact⟨o,es,ep,k _ o (λ hb=>(hf _ hb).2.1 rfl) ho,r⟩
 ·refine(I.hok b u e).stay (λ c v hc q=>k c v ?_ q) (λ _ q=>q) (λ _ _ q=>q) λ _ _ _ q=>q;rcases hc with z | z
  ·rw[z];exact nch b u e
  ·exact nch c _ z
theorem turnedT{X : Cx}{pins : List (Addr × Obj)}{σ : St}{H : Hp}{s : Shared}{h' : Heap}{t' : Nat}{ch : List Addr}{T : Addr}{xs : List V}{us : List Value}(I : Inv X pins σ H s)(k : ∀b o, b ∉ ch -> s.heap.get? b = some o -> h'.get? b = some o)(hf : ∀b ∈ ch, FpOk X pins H b)
  (hT:s.heap.objs.size≤T) (hTT:h'.IsTuple T us.toArray) (r:Vals xs us) (hz:xs.length≤sizeLine):Inv X pins σ (upd H T (.tup xs)) { s with heap:=h',toks:=t' }:=by
 have hn:H T=none:=I.hok.fresh hT;have nch:∀b u,H b=some u->b∉ch:=λ b u e hb=>by rw[(hf b hb).1]at e;cases e
 have up:∀b u,H b=some u->upd H T (.tup xs) b=some u:=λ b u e=>by rw[aM (ne_of_none e hn)];exact e
 have lt:∀b o,s.heap.get? b=some o->b≠T:=λ b o e z=>by rw[z]at e;exact absurd (Heap.lt_size e) (Nat.not_lt.mpr hT)
 refine I.step (g':=s.gens) (d':=s.drawn) (ch:=ch) (λ b hb=>?_) (λ b o _ _ hc e _=>k b o hc e) (λ b o _ _ hc e _=>⟨o.slots,k b o hc e⟩) (λ b o _ e n=>by rw[aM (lt b o e)];exact n)
  (λ b o hc e=>⟨o,k b o hc e⟩) (λ b ys e=>up b _ e) (λ b o u e=>up b _ e) (λ b u _ e=>up b _ e) (λ m hm=>?_) (λ b u e=>?_) I.bare
 ·obtain⟨f0,f1,f2,f3,f4,f5⟩:=hf b hb;exact⟨f3,f1,f4,f5⟩
 ·obtain⟨o,es,ep,ho,q⟩:=hm;exact⟨o,es,ep,k _ o (λ hb=>(hf _ hb).2.1 rfl) ho,q⟩
 ·by_cases hb:b=T
  ·subst hb;rw[upd_same]at e;cases e;exact⟨hz,us,r,hTT⟩
  ·rw[aM hb]at e;refine(I.hok b u e).stay (λ c v hc q=>k c v ?_ q) (λ c q=>?_) (λ c ys q=>up c _ q) λ c v _ q=>up c _ q
   ·rcases hc with z | z
    ·rw[z];exact nch b u e
    ·exact nch c _ z
   ·exact up c _ q
end ZS
namespace ZS
open PySem PySem.Spec PyProof.Rows L2
structure Inn where
 at_:Nat->Hp->V->Prop
 end_:Nat->Hp->Prop
structure Src(P:Program)(w:World)(K:PySem.W.Frag)(J:Inn)(it:Addr)(inn:Nat->Heap->Prop):Prop where
 obj:∀i h,inn i h->∃o,h.get? it=some o∧(∀v,o.data≠.cell v)∧o.cls≠.type "enumerate" ∧ o.cls≠.type "zip" ∧ o.cls≠.type "tuple"
 keep:∀i h h',inn i h->(∀o,h.get? it=some o->h'.get? it=some o)->inn i h'
 draw:∀(X:Cx),X.prog=P->X.w=w->X.K=K->X.calm=true->∀(i:Nat)(pins:List (Addr×Obj))(s:Shared)(σ:St)(H:Hp),Inv X pins σ H s->inn i s.heap->((∃y,J.at_ i H y)∨J.end_ i H) ->
  ∃(fp:List Addr) (n:Nat) (Pv:Nat->Value->Prop) (S:Nat->Heap->Prop),Draws P w X.A.in1 it fp n Pv S∧S i s.heap∧it∈fp∧(∀b∈fp,b=it∨∃o,s.heap.get? b=some o∧o.cls≠.type "enumerate" ∧ o.cls≠.type "zip" ∧ (H b=none->∃o',K.lookup b=some o')) ∧
   ((∃y,J.at_ i H y)->i < n∧∀u,Pv i u->∃y,RelV y u∧J.at_ i H y)∧(J.end_ i H->i=n)∧∀j h,S j h->inn j h
def innT(K:PySem.W.Frag)(t:Addr)(vs:List V):Inn:=⟨λ i H y=>SqT K H t vs∧vs[i]?=some y,λ i H=>SqT K H t vs∧vs.length=i⟩
def innL(K:PySem.W.Frag)(t:Addr)(vs:List V):Inn:=⟨λ i H y=>SqL K H t vs∧vs[i]?=some y,λ i H=>SqL K H t vs∧vs.length=i⟩
theorem src_tup{P : Program}{w : World}{K : PySem.W.Frag}{t it : Addr}{xs : List V}: Src P w K (innT K t xs) it (λ i h => h.IsTupleIter it t i) where
 obj:=λ i h st=>by obtain⟨o,e,c,d⟩:=st;exact⟨o,e,λ v z=>(by rw[d]at z;cases z),by rw[c];decide,by rw[c];decide,by rw[c];decide⟩
 keep:=λ i h h' st k=>let ⟨o,e,r⟩:=st;⟨o,k o e,r⟩
 draw:=by
  intro X hP hw hK hc i pins s σ H I st hg;subst hP hw hK;have hq:SqT X.K H t xs:=by rcases hg with⟨y,h,_⟩ | ⟨h,_⟩<;>exact h
  obtain⟨its,r,p,hz⟩:=I.tuple hq;obtain⟨ot,hot,hct,nt,hdt⟩:=id p;obtain⟨oi,hoi,hci,hdi⟩:=id st;have hne:t≠it:=by rintro rfl;rw[hot]at hoi;cases hoi;rw[hct]at hci;injection hci with z;exact absurd z (by decide)
  refine⟨[it,t],its.toArray.size,_,_,drawsT (A:=X.A.in1) (I.ok.hd hc) it t hne its.toArray,⟨st,p⟩,by simp,λ b hb=>?_,λ⟨y,_,hyi⟩=>?_,λ⟨_,hl⟩=>?_,λ j h q=>q.1⟩
  ·rcases List.mem_cons.mp hb with rfl | hb
   ·exact .inl rfl
   ·rw[List.mem_singleton]at hb;subst hb;refine .inr ⟨ot,hot,by rw[hct];decide,by rw[hct];decide,λ hn=>?_⟩;rcases hq with(z | ⟨o,z⟩) | ⟨o,_,_,z,_⟩
    ·rw[hn]at z;cases z
    ·rw[hn]at z;cases z
    ·exact⟨o,z⟩
  ·obtain⟨u,hu,ru⟩:=r.get hyi;refine⟨by rw[List.size_toArray];exact(List.getElem?_eq_some_iff.mp hu).1,λ u' hu'=>⟨y,?_,hq,hyi⟩⟩;have:its[i]?=some u':=by simpa using hu'
   rw[hu]at this;cases this;exact ru
  ·rw[List.size_toArray,<-r.length,hl]
theorem src_lst{P : Program}{w : World}{K : PySem.W.Frag}{t it : Addr}{xs : List V}: Src P w K (innL K t xs) it (λ i h => h.IsListIter it t i) where
 obj:=λ i h st=>by obtain⟨o,e,c,d⟩:=st;exact⟨o,e,λ v z=>(by rw[d]at z;cases z),by rw[c];decide,by rw[c];decide,by rw[c];decide⟩
 keep:=λ i h h' st k=>let ⟨o,e,r⟩:=st;⟨o,k o e,r⟩
 draw:=by
  intro X hP hw hK hc i pins s σ H I st hg;subst hP hw hK;have hq:SqL X.K H t xs:=by rcases hg with⟨y,h,_⟩ | ⟨h,_⟩<;>exact h
  obtain⟨its,r,p,hz⟩:=I.list hq;obtain⟨ot,hot,hct,nt,hdt⟩:=id p.isList;obtain⟨oi,hoi,hci,hdi⟩:=id st;have hne:t≠it:=by rintro rfl;rw[hot]at hoi;cases hoi;rw[hct]at hci;injection hci with z;exact absurd z (by decide)
  refine⟨[it,t],its.toArray.size,_,_,Draws.list (A:=X.A.in1) (I.ok.hd hc) it t hne its.toArray,⟨st,p.isList⟩,by simp,λ b hb=>?_,λ⟨y,_,hyi⟩=>?_,λ⟨_,hl⟩=>?_,λ j h q=>q.1⟩
  ·rcases List.mem_cons.mp hb with rfl | hb
   ·exact .inl rfl
   ·rw[List.mem_singleton]at hb;subst hb;refine .inr ⟨ot,hot,by rw[hct];decide,by rw[hct];decide,λ hn=>?_⟩;rcases hq with(z | ⟨o,z⟩) | ⟨o,_,_,z,_⟩
    ·rw[hn]at z;cases z
    ·rw[hn]at z;cases z
    ·exact⟨o,z⟩
  ·obtain⟨u,hu,ru⟩:=r.get hyi;refine⟨by rw[List.size_toArray];exact(List.getElem?_eq_some_iff.mp hu).1,λ u' hu'=>⟨y,?_,hq,hyi⟩⟩;have:its[i]?=some u':=by simpa using hu'
   rw[hu]at this;cases this;exact ru
  ·rw[List.size_toArray,<-r.length,hl]
section
variable {X:Cx}{a b:Expr}{pos p p2:Pos}{fa fb:Z.EF}{elts:List Expr}{x1:Nat}
end
end ZS
namespace ZS
open PySem PySem.Spec PyProof.Rows L2
structure Far(z TI TO i1 i2:Addr)(f1 f2:List Addr):Prop where
 ne:[z,TI,TO,i1,i2].Nodup
 a1:z∉f1∧TO∉f1∧i2∉f1
 a2:z∉f2∧TO∉f2∧i1∉f2
section
variable {prog:Program}{w:World}{A:Around}{E:Value->Shared->Prop}{s:Shared}
theorem zipD_item{z TI TO i1 i2:Addr}{f1 f2:List Addr}{n1 n2 k:Nat}{P1 P2:Nat->Value->Prop}{S1 S2:Nat->Heap->Prop}{a b:Value}{Q:Value->Shared->Prop}(F:Far z TI TO i1 i2 f1 f2)(D1:Draws prog w A i1 f1 n1 P1 S1)(D2:Draws prog w A i2 f2 n2 P2 S2)
  (hz:IsZip s.heap z TI TO .none) (hTI:IsPair s.heap TI (.ref i1) (.ref i2)) (hTO:IsPair s.heap TO a b) (h1:S1 k s.heap) (h2:S2 k s.heap) (hk1:k < n1) (hk2:k < n2)
  (hQ:∀x y h' tk,P1 k x->P2 k y->IsZip h' z TI TO (rawInt s.heap.objs.size)->IsPair h' TO x y->S1 (k+1) h'->S2 (k+1) h'->IsPair h' s.heap.objs.size x y->(∀c o,c∉[z,TO,i1,i2]->s.heap.get? c=some o->h'.get? c=some o)->Q (.ref s.heap.objs.size) { s with heap:=h',toks:=tk }) :
  wpAny (model prog w) A (Builtin.«zip.__next__» ⟨[.ref z],[]⟩) (λ fin s'=>∃v,fin=.done (.ret v)∧Q v s') E s:=by
 have ne:=F.ne;simp only[List.nodup_cons,List.mem_cons,List.not_mem_nil,or_false,not_or,List.nodup_nil,and_true,not_false_eq_true]at ne;obtain⟨⟨zTI,zTO,zi1,zi2⟩,⟨TITO,TIi1,TIi2⟩,⟨TOi1,TOi2⟩,i12⟩:=ne;obtain⟨zf1,TOf1,i2f1⟩:=F.a1;obtain⟨zf2,TOf2,i1f2⟩:=F.a2;obtain⟨hp,gs,dr,tk0,os⟩:=s;show wpAny _ _ (field (.ref z) 2 >>= _) _ _ _;refine wpAny_bind (wpAny_field hz rfl (x:=.bool false) rfl ?_);show wpAny _ _ (field (.ref z) 3 >>= _) _ _ _;refine wpAny_bind (wpAny_field hz rfl (x:=.ref TI) rfl (wpAny_bind (wpAny_seqItems hTI rfl ?_)));show wpAny _ _ (Builtin.SmallTypes.ownedTupleIsFree (.ref z) >>= _) _ _ _;refine wpAny_bind ?_;unfold Builtin.SmallTypes.ownedTupleIsFree;refine wpAny_bind (wpAny_field hz rfl (x:=.none) rfl (wpAny_pure ?_));simp only[if_true];refine wpAny_bind (wpAny_rule (wpAny_bind (wpAny_field hz rfl (x:=.ref TO) rfl (wpAny_bind (wpAny_setField_rec hz (by simp) λ g1 hz1 e1=>?_)))));have hz1:IsZip g1 z TI TO .ellipsis:=hz1;have e1:Heap.SameBut z hp g1:=e1;refine wpAny_bind ?_;simp only[List.zipIdx_cons,List.zipIdx_nil,List.forIn_cons,List.forIn_nil];refine wpAny_bind (wpAny_bind (wpAny_onRaise ?_));show wpAny _ _ (Builtin.SmallTypes.nextOf (.ref i1) >>= _) _ _ _;refine wpAny_bind (D1.item k _ _ _ hk1 (D1.frame k hp g1 h1 λ c hc o q=>e1.extBut c o (λ y=>zf1 (y▸hc)) q) λ x g2 t2 hx h12 e2=>wpAny_pure ?_);have e2:Heap.SameBut i1 g1 g2:=e2;have hTO2:IsPair g2 TO a b:=e2.extBut _ _ TOi1 (e1.extBut _ _ (Ne.symm zTO) hTO);refine wpAny_bind (wpAny_seqItems hTO2 rfl (wpAny_bind (wpAny_updateSeq_pair hTO2 λ g3 hTO3 e3=>?_)));have hTO3:IsPair g3 TO x b:=hTO3;have e3:Heap.SameBut TO g2 g3:=e3;refine wpAny_bind (wpAny_letGo (wpAny_pure ?_));refine wpAny_bind (wpAny_bind (wpAny_onRaise ?_));show wpAny _ _ (Builtin.SmallTypes.nextOf (.ref i2) >>= _) _ _ _;have h23:S2 k g3:=D2.frame k hp g3 h2 λ c hc o q=>e3.extBut c o (λ y=>TOf2 (y▸hc)) (e2.extBut c o (λ y=>i1f2 (y▸hc)) (e1.extBut c o (λ y=>zf2 (y▸hc)) q));refine wpAny_bind (D2.item k _ _ _ hk2 h23 λ y g4 t4 hy h24 e4=>wpAny_pure ?_);have e4:Heap.SameBut i2 g3 g4:=e4;have hTO4:IsPair g4 TO x b:=e4.extBut _ _ TOi2 hTO3;refine wpAny_bind (wpAny_seqItems hTO4 rfl (wpAny_bind (wpAny_updateSeq_pair hTO4 λ g5 hTO5 e5=>?_)));have hTO5:IsPair g5 TO x y:=hTO5;have e5:Heap.SameBut TO g4 g5:=e5;refine wpAny_bind (wpAny_letGo (wpAny_pure (wpAny_pure ?_)));refine wpAny_bind (wpAny_seqItems hTO5 rfl (wpAny_bind (wpAny_newTuple ?_)));have hsz:g5.objs.size=hp.objs.size:=by rw[e5.1,e4.1,e3.1,e2.1,e1.1]
 have hz5:IsZip g5 z TI TO .ellipsis:=e5.extBut _ _ zTO (e4.extBut _ _ zi2 (e3.extBut _ _ zTO (e2.extBut _ _ zi1 hz1)));have hzl:z < g5.objs.size:=Heap.lt_size hz5;show wpAny _ _ (Builtin.SmallTypes.ownedTupleHandOut (.ref z) (.ref g5.objs.size) >>= _) _ _ _;refine wpAny_bind ?_;unfold Builtin.SmallTypes.ownedTupleHandOut;have hz6:IsZip (g5.push { cls:=.type "tuple",data:=.seq #[x,y] }) z TI TO .ellipsis:=Heap.get?_push_of_some _ hz5;refine wpAny_bind (wpAny_setField_rec hz6 (by simp) λ g7 hz7 e7=>?_);have hz7:IsZip g7 z TI TO (rawInt g5.objs.size):=hz7;refine wpAny_setField_rec hz7 (by simp) λ g8 hz8 e8=>?_;have hz8:IsZip g8 z TI TO (rawInt g5.objs.size):=hz8;have up:∀c o,c≠z->g5.get? c=some o->g8.get? c=some o:=λ c o h q=>e8.extBut _ _ h (e7.extBut _ _ h (Heap.get?_push_of_some _ q));have hT8:IsPair g8 g5.objs.size x y:=e8.extBut _ _ (Nat.ne_of_gt hzl) (e7.extBut _ _ (Nat.ne_of_gt hzl) (Heap.get?_push_size _ rfl));have s1:S1 (k+1) g8:=D1.frame _ g2 g8 h12 λ c hc o q=>up c o (λ y=>zf1 (y▸hc)) (e5.extBut c o (λ y=>TOf1 (y▸hc)) (e4.extBut c o (λ y=>i2f1 (y▸hc)) (e3.extBut c o (λ y=>TOf1 (y▸hc)) q)));have s2:S2 (k+1) g8:=D2.frame _ g4 g8 h24 λ c hc o q=>up c o (λ y=>zf2 (y▸hc)) (e5.extBut c o (λ y=>TOf2 (y▸hc)) q);have kp:∀c o,c∉[z,TO,i1,i2]->hp.get? c=some o->g8.get? c=some o:=λ c o hc q=>by simp only[List.mem_cons,List.not_mem_nil,or_false,not_or]at hc;exact up c o hc.1 (e5.extBut _ _ hc.2.1 (e4.extBut _ _ hc.2.2.2 (e3.extBut _ _ hc.2.1 (e2.extBut _ _ hc.2.2.1 (e1.extBut _ _ hc.1 q)))))
 rw[hsz]at hz8 hT8;refine wpAny_pure ⟨_,rfl,?_⟩;show Q (.ref g5.objs.size) _;rw[hsz];exact hQ x y g8 t4 hx hy hz8 (up _ _ (Ne.symm zTO) hTO5) s1 s2 hT8 kp
theorem zipD_end{z TI TO i1 i2:Addr}{f1 f2:List Addr}{n1 n2 k:Nat}{P1 P2:Nat->Value->Prop}{S1 S2:Nat->Heap->Prop}{a b:Value}{Q:Fin->Shared->Prop}(F:Far z TI TO i1 i2 f1 f2)(D1:Draws prog w A i1 f1 n1 P1 S1)(D2:Draws prog w A i2 f2 n2 P2 S2)
  (hz:IsZip s.heap z TI TO .none) (hTI:IsPair s.heap TI (.ref i1) (.ref i2)) (hTO:IsPair s.heap TO a b) (h1:S1 k s.heap) (h2:S2 k s.heap) (hend:k=n1∨(k < n1∧k=n2))
  (hE:∀h' e tk,(∀c o,c∉[z,TO,i1,i2]->s.heap.get? c=some o->h'.get? c=some o)->(∃o,h'.get? e=some o∧o.cls=.type "StopIteration")->E (.ref e) { s with heap:=h',toks:=tk }) :
  wpAny (model prog w) A (Builtin.«zip.__next__» ⟨[.ref z],[]⟩) Q E s:=by
 have ne:=F.ne;simp only[List.nodup_cons,List.mem_cons,List.not_mem_nil,or_false,not_or,List.nodup_nil,and_true,not_false_eq_true]at ne;obtain⟨⟨zTI,zTO,zi1,zi2⟩,⟨TITO,TIi1,TIi2⟩,⟨TOi1,TOi2⟩,i12⟩:=ne;obtain⟨zf1,TOf1,i2f1⟩:=F.a1;obtain⟨zf2,TOf2,i1f2⟩:=F.a2;obtain⟨hp,gs,dr,tk0,os⟩:=s;show wpAny _ _ (field (.ref z) 2 >>= _) _ _ _;refine wpAny_bind (wpAny_field hz rfl (x:=.bool false) rfl ?_);show wpAny _ _ (field (.ref z) 3 >>= _) _ _ _;refine wpAny_bind (wpAny_field hz rfl (x:=.ref TI) rfl (wpAny_bind (wpAny_seqItems hTI rfl ?_)));show wpAny _ _ (Builtin.SmallTypes.ownedTupleIsFree (.ref z) >>= _) _ _ _;refine wpAny_bind ?_;unfold Builtin.SmallTypes.ownedTupleIsFree;refine wpAny_bind (wpAny_field hz rfl (x:=.none) rfl (wpAny_pure ?_));simp only[if_true];refine wpAny_bind (wpAny_rule (wpAny_bind (wpAny_field hz rfl (x:=.ref TO) rfl (wpAny_bind (wpAny_setField_rec hz (by simp) λ g1 hz1 e1=>?_)))));have hz1:IsZip g1 z TI TO .ellipsis:=hz1;have e1:Heap.SameBut z hp g1:=e1;refine wpAny_bind ?_;simp only[List.zipIdx_cons,List.zipIdx_nil,List.forIn_cons,List.forIn_nil];refine wpAny_bind (wpAny_bind (wpAny_onRaise ?_));show wpAny _ _ (Builtin.SmallTypes.nextOf (.ref i1) >>= _) _ _ _;have h11:S1 k g1:=D1.frame k hp g1 h1 λ c hc o q=>e1.extBut c o (λ y=>zf1 (y▸hc)) q;rcases hend with rfl | ⟨hk1,rfl⟩
 ·refine wpAny_bind (D1.done _ _ _ h11 λ g2 e e2 he=>?_);obtain⟨oe,hoe,hce⟩:=he;have e2:Heap.ExtBut i1 g1 g2:=e2;have hz2:IsZip g2 z TI TO .ellipsis:=e2 _ _ zi1 hz1;have hez:e≠z:=λ q=>by subst q;rw[hz2]at hoe;cases hoe;simp at hce
  refine wpAny_setField_rec hz2 (by simp) λ g3 _ e3=>hE g3 e tk0 (λ c o hc q=>?_) ⟨oe,e3.extBut _ _ hez hoe,hce⟩;simp only[List.mem_cons,List.not_mem_nil,or_false,not_or]at hc;exact e3.extBut _ _ hc.1 (e2 _ _ hc.2.2.1 (e1.extBut _ _ hc.1 q))
 ·refine wpAny_bind (D1.item k _ _ _ hk1 h11 λ x g2 t2 hx h12 e2=>wpAny_pure ?_);have e2:Heap.SameBut i1 g1 g2:=e2;have hTO2:IsPair g2 TO a b:=e2.extBut _ _ TOi1 (e1.extBut _ _ (Ne.symm zTO) hTO);refine wpAny_bind (wpAny_seqItems hTO2 rfl (wpAny_bind (wpAny_updateSeq_pair hTO2 λ g3 hTO3 e3=>?_)));have e3:Heap.SameBut TO g2 g3:=e3;refine wpAny_bind (wpAny_letGo (wpAny_pure ?_));refine wpAny_bind (wpAny_bind (wpAny_onRaise ?_));show wpAny _ _ (Builtin.SmallTypes.nextOf (.ref i2) >>= _) _ _ _;have h23:S2 k g3:=D2.frame k hp g3 h2 λ c hc o q=>e3.extBut c o (λ y=>TOf2 (y▸hc)) (e2.extBut c o (λ y=>i1f2 (y▸hc)) (e1.extBut c o (λ y=>zf2 (y▸hc)) q));refine wpAny_bind (D2.done _ _ _ h23 λ g4 e e4 he=>?_);obtain⟨oe,hoe,hce⟩:=he;have e4:Heap.ExtBut i2 g3 g4:=e4;have hz4:IsZip g4 z TI TO .ellipsis:=e4 _ _ zi2 (e3.extBut _ _ zTO (e2.extBut _ _ zi1 hz1));have hez:e≠z:=λ q=>by subst q;rw[hz4]at hoe;cases hoe;simp at hce
  refine wpAny_setField_rec hz4 (by simp) λ g5 _ e5=>hE g5 e t2 (λ c o hc q=>?_) ⟨oe,e5.extBut _ _ hez hoe,hce⟩;simp only[List.mem_cons,List.not_mem_nil,or_false,not_or]at hc;exact e5.extBut _ _ hc.1 (e4 _ _ hc.2.2.2 (e3.extBut _ _ hc.2.1 (e2.extBut _ _ hc.2.2.1 (e1.extBut _ _ hc.1 q))))
end
end ZS
namespace ZS
open PySem PySem.Spec PyProof.Rows L2
def ItP(J1 J2:Inn):It:=⟨λ i H=>(∃y,J1.at_ i H y)∧∃y,J2.at_ i H y,
 λ i H x H'=>∃T y1 y2,H T=none∧x=.ref T∧H'=upd H T (.tup [y1,y2])∧J1.at_ i H y1∧J2.at_ i H y2,
 λ i H=>(J1.end_ i H∧((∃y,J2.at_ i H y)∨J2.end_ i H))∨((∃y,J1.at_ i H y)∧J2.end_ i H)⟩
theorem notK{X:Cx}{pins:List (Addr×Obj)}{σ:St}{H:Hp}{s:Shared}{b:Addr}{o:Obj}(I:Inv X pins σ H s)(f:FpOk X pins H b)(h:X.K.lookup b=some o):False:=by
 have hb:=I.ok.mod.kin b o h;rcases f.2.2.2.1 with z | z
 ·exact I.ok.noex b o hb z
 ·exact absurd (Heap.lt_size (I.ok.bs b o hb).1) (Nat.not_lt.mpr z)
def tnZ(z TI TO i1 i2:Addr)(n1 n2:Nat->Heap->Prop)(i:Nat)(h:Heap):Prop:=IsZip h z TI TO .none∧IsPair h TI (.ref i1) (.ref i2)∧(∃a b,IsPair h TO a b)∧n1 i h∧n2 i h
theorem pair_obj{h:Heap}{T:Addr}{a b:Value}(p:IsPair h T a b):∃o,h.get? T=some o∧∀v,o.data≠.cell v :=
 ⟨_,p,λ v z=>by have z':Data.seq _ _=Data.cell v:=z;cases z'⟩
theorem turn_zip{P : Program}{w : World}{K : PySem.W.Frag}{J1 J2 : Inn}{z TI TO i1 i2 : Addr}{n1 n2 : Nat -> Heap -> Prop}{elts : List Expr}{x1 : Nat}{pos : Pos}(S1 : Src P w K J1 i1 n1)(S2 : Src P w K J2 i2 n2)(nd : [z, TI, TO, i1, i2].Nodup):
  Turn P w K (.Tuple elts x1 pos) (ItP J1 J2) [z,TI,TO,i1,i2] z (tnZ z TI TO i1 i2 n1 n2):=by
 have far:∀{X:Cx}{pins:List (Addr×Obj)}{σ:St}{H:Hp}{s:Shared}{f1 f2:List Addr},X.K=K->Inv X pins σ H s->(∀b∈[z,TI,TO,i1,i2],FpOk X pins H b) ->
   (∀b∈f1,b=i1∨∃o,s.heap.get? b=some o∧o.cls≠.type "enumerate" ∧ o.cls≠.type "zip" ∧ (H b=none->∃o',K.lookup b=some o')) ->
   (∀b∈f2,b=i2∨∃o,s.heap.get? b=some o∧o.cls≠.type "enumerate" ∧ o.cls≠.type "zip" ∧ (H b=none->∃o',K.lookup b=some o'))->Far z TI TO i1 i2 f1 f2:=by
  intro X pins σ H s f1 f2 hK I hf g1 g2;subst hK;have nd':=nd;simp only[List.nodup_cons,List.mem_cons,List.not_mem_nil,or_false,not_or,List.nodup_nil,and_true,not_false_eq_true]at nd';obtain⟨⟨zTI,zTO,zi1,zi2⟩,⟨TITO,TIi1,TIi2⟩,⟨TOi1,TOi2⟩,i12⟩:=nd';have no1:∀b,b∈[z,TI,TO,i1,i2]->b≠i1->b∉f1:=λ b hb hne hm=>by
   rcases g1 b hm with q | ⟨o,_,_,_,q⟩
   ·exact hne q
   ·obtain⟨o',h'⟩:=q (hf b hb).1;exact notK I (hf b hb) h'
  have no2:∀b,b∈[z,TI,TO,i1,i2]->b≠i2->b∉f2:=λ b hb hne hm=>by
   rcases g2 b hm with q | ⟨o,_,_,_,q⟩
   ·exact hne q
   ·obtain⟨o',h'⟩:=q (hf b hb).1;exact notK I (hf b hb) h'
  exact⟨nd,⟨no1 z (by simp) zi1,no1 TO (by simp) TOi1,no1 i2 (by simp) (Ne.symm i12)⟩,⟨no2 z (by simp) zi2,no2 TO (by simp) TOi2,no2 i1 (by simp) i12⟩⟩
 refine⟨by simp,λ i h st b hb=>?_,λ i h h' st k=>?_,?_,?_,λ A i s Q E st hQ=>wpAny_pyIter_zip st.1 hQ⟩
 ·obtain⟨hz,hTI,⟨a,b',hTO⟩,h1,h2⟩:=st;simp only[List.mem_cons,List.not_mem_nil,or_false]at hb;rcases hb with rfl | rfl | rfl | rfl | rfl
  ·exact⟨_,hz,λ v z=>by have z':Data.fields _=Data.cell v:=z;cases z'⟩
  ·exact pair_obj hTI
  ·exact pair_obj hTO
  ·obtain⟨o,q,r,_⟩:=S1.obj i h h1;exact⟨o,q,r⟩
  ·obtain⟨o,q,r,_⟩:=S2.obj i h h2;exact⟨o,q,r⟩
 ·obtain⟨hz,hTI,⟨a,b',hTO⟩,h1,h2⟩:=st;exact⟨k z (by simp) _ hz,k TI (by simp) _ hTI,⟨a,b',k TO (by simp) _ hTO⟩,S1.keep i h h' h1 λ o q=>k i1 (by simp) o q,S2.keep i h h' h2 λ o q=>k i2 (by simp) o q⟩
 ·intro X hP hw hK hc i pins s σ H E I hf st hg;obtain⟨hz,hTI,⟨a,b',hTO⟩,h1,h2⟩:=st;obtain⟨f1,m1,P1,T1,D1,hs1,_,hfp1,hat1,_,hin1⟩:=S1.draw X hP hw hK hc i pins s σ H I h1 (.inl hg.1);obtain⟨f2,m2,P2,T2,D2,hs2,_,hfp2,hat2,_,hin2⟩:=S2.draw X hP hw hK hc i pins s σ H I h2 (.inl hg.2);obtain⟨hi1,hv1⟩:=hat1 hg.1;obtain⟨hi2,hv2⟩:=hat2 hg.2;have FR:=far hK I hf hfp1 hfp2;subst hP hw hK;have hT:s.TypeIs (.ref z) "zip" := ⟨_,hz,rfl⟩
  unfold pyNext;refine wpAny_bind (wpAny_attempt (wpAny_callSpecial?_slot (name:=Str.ofString "__next__") hT F.slot_zip_next (wpAny_call_entry F.slot_zip_next hT F.entry_zip_next (zipD_item FR D1 D2 hz hTI hTO hs1 hs2 hi1 hi2 λ x y h' tk px py z' to' s1' s2' tt kp=>wpAny_pure ?_) (F.args_zip_next_1 _))));refine⟨_,rfl,?_⟩;obtain⟨y1,r1,a1⟩:=hv1 x px;obtain⟨y2,r2,a2⟩:=hv2 y py;have lt:∀{c o},s.heap.get? c=some o->c≠s.heap.objs.size:=λ q=>Nat.ne_of_lt (Heap.lt_size q);have hTn:H s.heap.objs.size=none:=I.fresh;have hTz:s.heap.objs.size≠z:=(lt hz).symm;refine wpAny_letOwnedTupleGo_zip z' λ h2' hz2 hs2'=>?_;have nd':=nd;simp only[List.nodup_cons,List.mem_cons,List.not_mem_nil,or_false,not_or,List.nodup_nil,and_true,not_false_eq_true]at nd';obtain⟨⟨zTI,zTO,zi1,zi2⟩,⟨TITO,TIi1,TIi2⟩,⟨TOi1,TOi2⟩,i12⟩:=nd';have tt2:h2'.IsTuple s.heap.objs.size [x,y].toArray:=⟨_,hs2'.extBut _ _ hTz tt,rfl,_,rfl⟩
  have I2:Inv X pins σ (upd H s.heap.objs.size (.tup [y1,y2])) { s with heap:=h2',toks:=tk } :=
   turnedT (ch:=[z,TO,i1,i2]) I (λ b o hb q=>hs2'.extBut b o (λ e=>hb (by simp[e])) (kp b o hb q)) (λ b hb=>hf b (by simp only[List.mem_cons,List.not_mem_nil,or_false]at hb ⊢;rcases hb with e | e | e | e<;>simp[e])) (Nat.le_refl _) tt2 (.cons r1 (.cons r2 .nil)) (by show 2≤sizeLine;decide)
  have k1:n1 (i+1) h2':=S1.keep _ _ _ (hin1 _ _ s1') λ o q=>hs2'.extBut i1 o (Ne.symm zi1) q;have k2:n2 (i+1) h2':=S2.keep _ _ _ (hin2 _ _ s2') λ o q=>hs2'.extBut i2 o (Ne.symm zi2) q;have kTI:IsPair h2' TI (.ref i1) (.ref i2):=hs2'.extBut _ _ (Ne.symm zTI) (kp TI _ (by simp only[List.mem_cons,List.not_mem_nil,or_false,not_or];exact⟨Ne.symm zTI,TITO,TIi1,TIi2⟩) hTI);refine⟨.ref _,_,I2,rfl,⟨_,y1,y2,hTn,rfl,rfl,a1,a2⟩,⟨hz2,kTI,⟨x,y,hs2'.extBut _ _ (Ne.symm zTO) to'⟩,k1,k2⟩,λ b hb=>?_⟩;have hbT:b≠s.heap.objs.size:=by
   simp only[List.mem_cons,List.not_mem_nil,or_false]at hb;rcases hb with rfl | rfl | rfl | rfl | rfl
   ·exact lt hz
   ·exact lt hTI
   ·exact lt hTO
   ·obtain⟨o,q,_⟩:=S1.obj i _ h1;exact lt q
   ·obtain⟨o,q,_⟩:=S2.obj i _ h2;exact lt q
  rw[aM hbT];exact(hf b hb).1
 ·intro X hP hw hK hc i pins s σ H E I hf st hg;obtain⟨hz,hTI,⟨a,b',hTO⟩,h1,h2⟩:=st;have g1:(∃y,J1.at_ i H y)∨J1.end_ i H:=by
   rcases hg with⟨q,_⟩ | ⟨q,_⟩
   ·exact .inr q
   ·exact .inl q
  have g2:(∃y,J2.at_ i H y)∨J2.end_ i H:=by
   rcases hg with⟨_,q⟩ | ⟨_,q⟩
   ·exact q
   ·exact .inr q
  obtain⟨f1,m1,P1,T1,D1,hs1,_,hfp1,hat1,hend1,hin1⟩:=S1.draw X hP hw hK hc i pins s σ H I h1 g1;obtain⟨f2,m2,P2,T2,D2,hs2,_,hfp2,hat2,hend2,hin2⟩:=S2.draw X hP hw hK hc i pins s σ H I h2 g2;have FR:=far hK I hf hfp1 hfp2;have he:i=m1∨(i < m1∧i=m2):=by
   rcases hg with⟨q,_⟩ | ⟨q,q2⟩
   ·exact .inl (hend1 q)
   ·exact .inr ⟨(hat1 q).1,hend2 q2⟩
  subst hP hw hK;have hT:s.TypeIs (.ref z) "zip" := ⟨_,hz,rfl⟩
  unfold pyNext;refine wpAny_bind (wpAny_attempt (wpAny_callSpecial?_slot (name:=Str.ofString "__next__") hT F.slot_zip_next (wpAny_call_entry F.slot_zip_next hT F.entry_zip_next (zipD_end FR D1 D2 hz hTI hTO hs1 hs2 he λ h' e tk kp hx=>?_) (F.args_zip_next_1 _))));obtain⟨o,ho,hco⟩:=hx;refine wpAny_bind (wpAny_isInstance (T := "StopIteration") (b:=true) ⟨o,ho,hco⟩ isSubtype_stop (wpAny_pure ⟨rfl,?_⟩));exact turnedL (ch:=[z,TO,i1,i2]) I kp λ b hb=>hf b (by simp only[List.mem_cons,List.not_mem_nil,or_false]at hb ⊢;rcases hb with e | e | e | e<;>simp[e])
abbrev zh(T1 T2:String)(h:Heap)(l1 l2:Addr):Heap:=((((h.push { cls:=.type T1,data:=.fields #[.ref l1,.int 0 0] }).push { cls:=.type T2,data:=.fields #[.ref l2,.int 0 0] }).push { cls:=.type "tuple",data:=.seq #[.ref h.objs.size,.ref (h.objs.size+1)] }).push { cls:=.type "tuple",data:=.seq #[.none,.none] }).push
 { cls:=.type "zip",data:=.fields #[.none,.bool false,.bool false,.ref (h.objs.size+2),.ref (h.objs.size+3)] }
theorem meets_zipTT(l1 l2:Addr)(xs ys:Array Value):Meets (Builtin.«zip.__new__» ⟨[.type "zip",.ref l1,.ref l2],[]⟩) (λ _ R s=>s.heap.IsTuple l1 xs∧s.heap.IsTuple l2 ys∧R (.ok (.ret (.ref (s.heap.objs.size+4)))) { s with heap:=zh "tuple_iterator" "tuple_iterator" s.heap l1 l2 }) :=
 .of_wp λ prog w A R s h=>by
  obtain⟨hp,gs,dr,tk,os⟩:=s;obtain⟨hl1,hl2,h⟩:=h;have hsub:=sub_zip;have q1:Heap.IsTuple (Shared.heap ⟨hp,gs,dr,tk,os⟩) l1 xs:=hl1;have q2:Heap.IsTuple (Shared.heap ⟨hp.push { cls:=.type "tuple_iterator",data:=.fields #[.ref l1,.int 0 0] },gs,dr,tk,os⟩) l2 ys:=Heap.IsTuple.push hl2 _
  wp_walk using wpAny_pyIter_tuple q1,wpAny_pyIter_tuple q2
  simp only[zh,Heap.size_push]at h ⊢;exact⟨_,rfl,h⟩
theorem meets_zipLT(l1 l2:Addr)(xs ys:Array Value):Meets (Builtin.«zip.__new__» ⟨[.type "zip",.ref l1,.ref l2],[]⟩) (λ _ R s=>s.heap.IsList l1 xs∧s.heap.IsTuple l2 ys∧R (.ok (.ret (.ref (s.heap.objs.size+4)))) { s with heap:=zh "list_iterator" "tuple_iterator" s.heap l1 l2 }) :=
 .of_wp λ prog w A R s h=>by
  obtain⟨hp,gs,dr,tk,os⟩:=s;obtain⟨hl1,hl2,h⟩:=h;have hsub:=sub_zip;have q1:Heap.IsList (Shared.heap ⟨hp,gs,dr,tk,os⟩) l1 xs:=hl1;have q2:Heap.IsTuple (Shared.heap ⟨hp.push { cls:=.type "list_iterator",data:=.fields #[.ref l1,.int 0 0] },gs,dr,tk,os⟩) l2 ys:=Heap.IsTuple.push hl2 _
  wp_walk using wpAny_pyIter_list q1,wpAny_pyIter_tuple q2
  simp only[zh,Heap.size_push]at h ⊢;exact⟨_,rfl,h⟩
theorem zh_facts(T1 T2:String)(h:Heap)(l1 l2:Addr):IsZip (zh T1 T2 h l1 l2) (h.objs.size+4) (h.objs.size+2) (h.objs.size+3) .none∧IsPair (zh T1 T2 h l1 l2) (h.objs.size+2) (.ref h.objs.size) (.ref (h.objs.size+1))∧IsPair (zh T1 T2 h l1 l2) (h.objs.size+3) .none .none ∧
  (zh T1 T2 h l1 l2).get? h.objs.size=some { cls:=.type T1,data:=.fields #[.ref l1,.int 0 0] }∧(zh T1 T2 h l1 l2).get? (h.objs.size+1)=some { cls:=.type T2,data:=.fields #[.ref l2,.int 0 0] }∧∀c o,h.get? c=some o->(zh T1 T2 h l1 l2).get? c=some o:=by
 have z1:(h.push { cls:=.type T1,data:=.fields #[.ref l1,.int 0 0] }).objs.size=h.objs.size+1:=Heap.size_push ..;have z2:((h.push { cls:=.type T1,data:=.fields #[.ref l1,.int 0 0] }).push { cls:=.type T2,data:=.fields #[.ref l2,.int 0 0] }).objs.size=h.objs.size+2:=by rw[Heap.size_push,z1]
 have z3:(((h.push { cls:=.type T1,data:=.fields #[.ref l1,.int 0 0] }).push { cls:=.type T2,data:=.fields #[.ref l2,.int 0 0] }).push { cls:=.type "tuple",data:=.seq #[.ref h.objs.size,.ref (h.objs.size+1)] }).objs.size=h.objs.size+3:=by rw[Heap.size_push,z2]
 have z4:((((h.push { cls:=.type T1,data:=.fields #[.ref l1,.int 0 0] }).push { cls:=.type T2,data:=.fields #[.ref l2,.int 0 0] }).push { cls:=.type "tuple",data:=.seq #[.ref h.objs.size,.ref (h.objs.size+1)] }).push { cls:=.type "tuple",data:=.seq #[.none,.none] }).objs.size=h.objs.size+4:=by rw[Heap.size_push,z3]
 refine⟨?_,?_,?_,?_,?_,λ c o q=>?_⟩
 ·show Heap.get? _ _=_;rw[<-z4];exact Heap.get?_push_size _ rfl
 ·show Heap.get? _ _=_;rw[<-z2];exact Heap.get?_push_of_some _ (Heap.get?_push_of_some _ (Heap.get?_push_size _ rfl))
 ·show Heap.get? _ _=_;rw[<-z3];exact Heap.get?_push_of_some _ (Heap.get?_push_size _ rfl)
 ·exact Heap.get?_push_of_some _ (Heap.get?_push_of_some _ (Heap.get?_push_of_some _ (Heap.get?_push_of_some _ (Heap.get?_push_size _ rfl))))
 ·show Heap.get? _ _=_;rw[<-z1];exact Heap.get?_push_of_some _ (Heap.get?_push_of_some _ (Heap.get?_push_of_some _ (Heap.get?_push_size _ rfl)))
 ·exact Heap.get?_push_of_some _ (Heap.get?_push_of_some _ (Heap.get?_push_of_some _ (Heap.get?_push_of_some _ (Heap.get?_push_of_some _ q))))
theorem zipD_get:∀(xs ys:List Z.D)(i:Nat),(Z.zipD xs ys)[i]?=(xs[i]?).bind λ x=>(ys[i]?).map λ y=>Z.pair x y
 | [],ys,i=>by cases ys<;>simp[Z.zipD]
 | x :: xs,[],i=>by simp[Z.zipD]
 | x :: xs,y :: ys,0=>by simp[Z.zipD]
 | x :: xs,y :: ys,i+1=>by simp[Z.zipD,zipD_get xs ys i]
theorem zipD_len:∀(xs ys:List Z.D),(Z.zipD xs ys).length=min xs.length ys.length
 | [],ys=>by cases ys<;>simp[Z.zipD]
 | x :: xs,[]=>by simp[Z.zipD]
 | x :: xs,y :: ys=>by simp[Z.zipD,zipD_len xs ys]
structure Gives(K:PySem.W.Frag)(J:Inn)(S:Hp->Prop)(ds:List Z.D):Prop where
 at_:∀(i:Nat) d H1,S H1->ds[i]?=some d->(∃y,J.at_ i H1 y)∧∀y,J.at_ i H1 y->Den K H1 d y
 end_:∀H1,S H1->J.end_ ds.length H1
theorem itz_zip{K : PySem.W.Frag}{J1 J2 : Inn}{S : Hp -> Prop}{xs ys : List Z.D}(g1 : Gives K J1 S xs)(g2 : Gives K J2 S ys): ItZ K (ItP J1 J2) S (Z.zipD xs ys) where
 go:=λ i d H1 s hi=>by
  rw[zipD_get]at hi;cases q:xs[i]? with
  | none=>rw[q]at hi;cases hi
  | some x =>
   rw[q]at hi;cases q2:ys[i]? with
   | none=>simp[q2]at hi
   | some y=>exact⟨(g1.at_ i x H1 s q).1,(g2.at_ i y H1 s q2).1⟩
 yld:=λ i d H1 H2 x s hi y=>by
  obtain⟨T,y1,y2,hT,rfl,rfl,a1,a2⟩:=y;rw[zipD_get]at hi;cases q:xs[i]? with
  | none=>rw[q]at hi;cases hi
  | some x =>
   rw[q]at hi;cases q2:ys[i]? with
   | none=>simp[q2]at hi
   | some y =>simp only[q2,Option.bind_some,Option.map_some,Option.some.injEq]at hi;subst hi;have sm:aJ H1 (upd H1 T (.tup [y1,y2])):=upd_Same hT;exact⟨sm,den_tup (.inl (.inl upd_same)) (aE.cons (((g1.at_ i x H1 s q).2 y1 a1).up sm) (aE.cons (((g2.at_ i y H1 s q2).2 y2 a2).up sm) aE.nil))⟩
 stop:=λ H1 s=>by
  rw[zipD_len];have e1:=g1.end_ H1 s;have e2:=g2.end_ H1 s;rcases Nat.lt_trichotomy xs.length ys.length with h | h | h
  ·rw[Nat.min_eq_left (Nat.le_of_lt h)];exact .inl ⟨e1,.inl (g2.at_ xs.length _ H1 s (List.getElem?_eq_getElem h)).1⟩
  ·rw[Nat.min_eq_left (Nat.le_of_eq h)];rw[<-h]at e2;exact .inl ⟨e1,.inr e2⟩
  ·rw[Nat.min_eq_right (Nat.le_of_lt h)];exact .inr ⟨(g1.at_ ys.length _ H1 s (List.getElem?_eq_getElem h)).1,e2⟩
theorem gives_tup{K:PySem.W.Frag}{H:Hp}{q:Addr}{vs:List V}{ds:List Z.D}(h:SqT K H q vs)(t:aE K H ds vs):Gives K (innT K q vs) (Stb H) ds :=
 ⟨λ i d H1 s hi=>by obtain⟨y,hy,dy⟩:=t.get hi;refine⟨⟨y,sqT_mono s h,hy⟩,λ y' hy'=>?_⟩;have:=hy'.2;rw[hy]at this;cases this;exact dy.ups s,λ H1 s=>⟨sqT_mono s h,t.length⟩⟩
theorem gives_lst{K:PySem.W.Frag}{H:Hp}{q:Addr}{vs:List V}{ds:List Z.D}(h:FzL K H q vs)(t:aE K H ds vs):Gives K (innL K q vs) (Stb H) ds :=
 ⟨λ i d H1 s hi=>by obtain⟨y,hy,dy⟩:=t.get hi;refine⟨⟨y,(h.mono s).sq,hy⟩,λ y' hy'=>?_⟩;have:=hy'.2;rw[hy]at this;cases this;exact dy.ups s,λ H1 s=>⟨(h.mono s).sq,t.length⟩⟩
section
variable {X:Cx}{a b:Expr}{pos p p2:Pos}{fa fb:Z.EF}{elts:List Expr}{x1:Nat}
theorem fp_five{pins:List (Addr×Obj)}{σ:St}{H:Hp}{s:Shared}(I:Inv X pins σ H s):∀b∈[s.heap.objs.size+4,s.heap.objs.size+2,s.heap.objs.size+3,s.heap.objs.size,s.heap.objs.size+1],FpOk X pins H b:=λ b hb=>by
 have h:s.heap.objs.size≤b:=by simp only[List.mem_cons,List.not_mem_nil,or_false]at hb;lia
 exact I.fpOk h (I.hok.fresh h)
theorem nd_five(n:Nat):[n+4,n+2,n+3,n,n+1].Nodup:=by simp only[List.nodup_cons,List.mem_cons,List.not_mem_nil,or_false,not_or,List.nodup_nil,and_true,not_false_eq_true];lia
theorem dj_zip(hg:Gl X "zip")(hm:X.mg "zip" = none)(ha:DE X a fa)(hb:DE X b fb)(hs:starEach [a,b] X.env=[(false,eval a X.env),(false,eval b X.env)]:=by rfl)(hs2:starEach [b] X.env=[(false,eval b X.env)]:=by rfl)
  (h1:starEach (a :: [b]) X.env=(false,eval a X.env) :: starEach [b] X.env:=by rfl) (h2:starEach (b :: []) X.env=(false,eval b X.env) :: starEach [] X.env:=by rfl):DJ X (.Tuple elts x1 p2) (.Call (.Name "zip" p) [a,b] [] pos) (Z.iZip fa fb):=by
 intro pins s σ H R I w;obtain⟨ρ,ds,r,e,k⟩:=w;obtain⟨d1,ea,e⟩:=Z.Res.ax e;obtain⟨d2,eb,e⟩:=Z.Res.ax e;obtain⟨xs,ex,e⟩:=Z.Res.ax e;obtain⟨ys,ey,e⟩:=Z.Res.ax e;cases e;refine Call_ (ld_blt I hg hm (by kernel_rfl:bootBuiltins "zip" = some (.type "zip")) (PyProof.Rows.callWith_type1 (thn ((pa_cons ha (pa_cons hb pa_nil h2) h1) pos pins s σ H (λ vs H1=>∃v u,vs=[v,u]∧aJ H H1∧Den X.K H1 d1 v∧Den X.K H1 d2 u) I ⟨ρ,d1,r,ea,λ v H1 s1 q1=>⟨ρ,d2,r.up s1,eb,λ u H2 s2 q2=>⟨v,u,rfl,s1.trans s2,q1.up s2,q2⟩⟩⟩) λ us s1 ⟨vs,H1,I1,r1,q1⟩=>?_) (by rw[hs,hs2]) (by rw[hs2];rfl)));obtain⟨v,u,rfl,sm,hd1,hd2⟩:=q1;obtain⟨u1,u2,rfl,ru1,ru2⟩:=vals2 r1;have hd2':∃ys0,d2=.tup ys0∧ys0=ys:=by
  cases d2 with
  | tup ys0=>cases ey;exact⟨_,rfl,rfl⟩
  | non=>cases ey
  | bl _=>cases ey
  | int _=>cases ey
  | str _=>cases ey
  | lst _=>cases ey
  | dct _ _=>cases ey
 obtain⟨_,rfl,rfl⟩:=hd2';obtain⟨q2,vs2,rfl,hq2,t2⟩:=DenW.tup (.inl hd2);cases ru2;obtain⟨its2,rv2,pt2,_⟩:=I1.tuple hq2;cases d1 with
 | tup xs0 =>cases ex;obtain⟨q,vs,rfl,hq,t⟩:=DenW.tup (.inl hd1);cases ru1;obtain⟨its,rv,pt,hz⟩:=I1.tuple hq;obtain⟨f1,f2,f3,f4,f5,f6⟩:=zh_facts "tuple_iterator" "tuple_iterator" s1.heap q q2;refine callType_new F.called_zip (by decide) (F.typeCall_zip_2 _ _) (F.newCall_zip_2 _ _) (λ obj=>F.args_object_init_3 obj _ _) F.entry_zip_new (meets_zipTT q q2 its.toArray its2.toArray) ⟨pt,pt2,⟨_,f1,rfl⟩,wpAny_pyIter_zip f1 ?_⟩;exact⟨_,[s1.heap.objs.size+4,s1.heap.objs.size+2,s1.heap.objs.size+3,s1.heap.objs.size,s1.heap.objs.size+1],_,ItP (innT X.K q vs) (innT X.K q2 vs2),H1,rfl,I1.kept (t':=s1.toks) f6,turn_zip src_tup src_tup (nd_five _),⟨f1,f2,⟨_,_,f3⟩,⟨_,f4,rfl,rfl⟩,⟨_,f5,rfl,rfl⟩⟩,fp_five I1,k _ H1 sm (itz_zip (gives_tup hq t) (gives_tup hq2 t2))⟩
 | lst xs0 =>cases ex;simp only[Den]at hd1;obtain⟨q,vs,rfl,hq,t⟩:=hd1;cases ru1;obtain⟨its,rv,pt,hz⟩:=I1.list hq.sq;obtain⟨f1,f2,f3,f4,f5,f6⟩:=zh_facts "list_iterator" "tuple_iterator" s1.heap q q2;refine callType_new F.called_zip (by decide) (F.typeCall_zip_2 _ _) (F.newCall_zip_2 _ _) (λ obj=>F.args_object_init_3 obj _ _) F.entry_zip_new (meets_zipLT q q2 its.toArray its2.toArray) ⟨pt.isList,pt2,⟨_,f1,rfl⟩,wpAny_pyIter_zip f1 ?_⟩;exact⟨_,[s1.heap.objs.size+4,s1.heap.objs.size+2,s1.heap.objs.size+3,s1.heap.objs.size,s1.heap.objs.size+1],_,ItP (innL X.K q vs) (innT X.K q2 vs2),H1,rfl,I1.kept (t':=s1.toks) f6,turn_zip src_lst src_tup (nd_five _),⟨f1,f2,⟨_,_,f3⟩,⟨_,f4,rfl,rfl⟩,⟨_,f5,rfl,rfl⟩⟩,fp_five I1,k _ H1 sm (itz_zip (gives_lst hq t) (gives_tup hq2 t2))⟩
 | non=>cases ex
 | bl _=>cases ex
 | int _=>cases ex
 | str _=>cases ex
 | dct _ _=>cases ex
end
end ZS
namespace ZQ
open PySem PySem.Spec PyProof.Rows L2 ZS
section
variable {X:Cx}{a b:Expr}{pos p p2:Pos}{fa fb:Z.EF}{elts:List Expr}{x1:Nat}
theorem dj_zip(hg:Gl X "zip")(hm:X.mg "zip" = none)(ha:QE X a fa)(hb:QE X b fb)(hs:starEach [a,b] X.env=[(false,eval a X.env),(false,eval b X.env)]:=by rfl)(hs2:starEach [b] X.env=[(false,eval b X.env)]:=by rfl)
  (h1:starEach (a :: [b]) X.env=(false,eval a X.env) :: starEach [b] X.env:=by rfl) (h2:starEach (b :: []) X.env=(false,eval b X.env) :: starEach [] X.env:=by rfl):QJ X (.Tuple elts x1 p2) (.Call (.Name "zip" p) [a,b] [] pos) (Z.iZip fa fb) :=
 ⟨ZS.dj_zip hg hm ha.p hb.p hs hs2 h1 h2⟩
end
end ZQ
noncomputable section
namespace Z
end Z
end
namespace ZS
open PySem PySem.Spec PyProof.Rows L2
end ZS
namespace ZQ
open PySem PySem.Spec PyProof.Rows L2 ZS
end ZQ
noncomputable section
namespace Z
def intsD(hi:Int)(n:Nat):List D:=(List.range n).map λ i=>D.int (hi-(i:Nat))
def downD:D->D->D->Res (List D)
 | .int i,.int j,.int k=>guard (k=-1∧-1000000000≤i∧i≤1000000000∧-1000000000≤j∧j≤1000000000) (.ok (intsD i (i-j).toNat))
 | _,_,_=>.bad
def iRngD(a b c:EF)(ρ:Env):Res (List D):=(a ρ).bind λ x=>(b ρ).bind λ y=>(c ρ).bind λ z=>downD x y z
@[simp] theorem iRngD_a(a b c:EF)(ρ:Env):iRngD a b c ρ=(a ρ).bind λ x=>(b ρ).bind λ y=>(c ρ).bind λ z=>downD x y z:=rfl
def repK:D->D->Res (List D)
 | .lst [d],.int n=>guard (0≤n∧n≤16777216) (.ok (List.replicate n.toNat d))
 | _,_=>.bad
theorem repK_a(d:D)(n:Int):repK (.lst [d]) (.int n)=guard (0≤n∧n≤16777216) (.ok (List.replicate n.toNat d)):=rfl
theorem repK_ok{x y:D}{ds:List D}(h:repK x y=.ok ds):∃d n,x=.lst [d]∧y=.int n∧0≤n∧n≤16777216∧ds=List.replicate n.toNat d:=by
 unfold repK at h;split at h
 ·obtain⟨⟨h1,h2⟩,e⟩:=guard_ok h;cases e;exact⟨_,_,rfl,rfl,h1,h2,rfl⟩
 ·cases h
def lRep(a:LF)(b:EF)(ρ:Env):Res (List D):=(a ρ).bind λ xs=>(b ρ).bind λ y=>repK (.lst xs) y
@[simp] theorem lRep_a(a:LF)(b:EF)(ρ:Env):lRep a b ρ=(a ρ).bind λ xs=>(b ρ).bind λ y=>repK (.lst xs) y:=rfl
def oNotT:D->Res D
 | .bl b=>.ok (.bl (!b))
 | _=>.bad
@[simp] theorem oNotT_bl(b:Bool):oNotT (.bl b)=.ok (.bl (!b)):=rfl
end Z
end
namespace ZS
open PySem PySem.Spec PyProof.Rows L2
section
variable {X:Cx}{tg:Expr}
variable {a b c:Expr}{p pos:Pos}{fa fb fc:Z.EF}
theorem dens_rep{K:PySem.W.Frag}{H:Hp}{d:Z.D}{w:V}(h:Den K H d w):∀n,aE K H (List.replicate n d) (List.replicate n w)
 | 0=>aE.nil
 | n+1=>aE.cons h (dens_rep h n)
theorem flat_one{w:V}:∀n:Nat,(List.replicate n [w]).flatten=List.replicate n w
 | 0=>rfl
 | n+1=>by rw[List.replicate_succ,List.flatten_cons,flat_one n];rfl
theorem dl_rep{la:Z.LF}(ha:DL X a la)(hb:DW X b fb):DL X (.BinOp a .Mult b pos) (Z.lRep la fb):=PE.imp (pe_op L2.op_rep ha hb) λ σ H Q ⟨ρ,ds,r,e,k⟩=>by
 obtain⟨xs,ea,e⟩:=Z.Res.ax e;obtain⟨y,eb,e⟩:=Z.Res.ax e;obtain⟨d,n,hx,rfl,h0,h1,rfl⟩:=Z.repK_ok e;cases hx;refine⟨ρ,[d],r,ea,λ l vs H1 s1 hn hv t=>⟨ρ,_,r.up s1,eb,λ u H2 s2 d2=>?_⟩⟩;simp only[aE]at t;obtain⟨w,r',rfl,dw,rfl⟩:=t;refine⟨l,n,[w],rfl,d2.int,s2 _ _ hv,by lia,by lia,?_,λ z hz=>?_⟩
 ·rw[sizeLine_eq];simp;lia
 ·rw[flat_one];have s12:=s1.trans s2;have s3:aJ H2 (upd H2 z (.lst (List.replicate n.toNat w))):=upd_Same hz;exact k z _ _ (s12.trans s3) (s12.free hz) upd_same (dens_rep ((dw.up s2).up s3) _)
end
end ZS
namespace ZQ
open PySem PySem.Spec PyProof.Rows L2 ZS
section
variable {X:Cx}{tg a b c:Expr}{p pos:Pos}{fa fb fc:Z.EF}{la:Z.LF}
theorem dl_rep(ha:QL X a la)(hb:QW X b fb):QL X (.BinOp a .Mult b pos) (Z.lRep la fb):=⟨ZS.dl_rep ha.p hb.p⟩
end
end ZQ
noncomputable section
namespace Z
def textsD:List D->Option (List (List Nat))
 | []=>some []
 | .str c :: r=>(textsD r).map (c :: ·)
 | _ :: _=>none
def gluedC(sep:List Nat):List (List Nat)->List Nat
 | []=>[]
 | [x]=>x
 | x :: y :: r=>x++sep++gluedC sep (y :: r)
def oJoin:D->D->Res D
 | .str sep,.lst xs=>match textsD xs with
  | some ts=>guard ((ts.map List.length).sum+ts.length*sep.length≤line) (.ok (.str (gluedC sep ts)))
  | none=>.bad
 | _,_=>.bad
theorem oJoin_ok{x y d:D}(h:oJoin x y=.ok d):∃sep xs ts,x=.str sep∧y=.lst xs∧textsD xs=some ts∧(ts.map List.length).sum+ts.length*sep.length≤16777216∧d=.str (gluedC sep ts):=by
 unfold oJoin at h;split at h
 ·split at h
  ·rename_i hs;obtain⟨h1,e⟩:=guard_ok h;cases e;exact⟨_,_,_,rfl,rfl,hs,h1,rfl⟩
  ·cases h
 ·cases h
theorem textsD_map:∀ts:List (List Nat),textsD (ts.map D.str)=some ts
 | []=>rfl
 | t :: ts=>by simp[textsD,textsD_map ts]
theorem glued_nil:∀ts:List (List Nat),gluedC [] ts=ts.flatten
 | []=>rfl
 | [x]=>by simp[gluedC]
 | x :: y :: r=>by rw[gluedC,glued_nil (y :: r)];simp
theorem oJoin_nil{ts:List (List Nat)}(h:ts.flatten.length≤16777216):oJoin (.str []) (.lst (ts.map D.str))=.ok (.str ts.flatten):=by show(match textsD (ts.map D.str)with | some ts=>guard ((ts.map List.length).sum+ts.length*0≤line) (Res.ok (D.str (gluedC [] ts))) | none=>Res.bad)=_;rw[textsD_map];simp only[glued_nil];rw[guard_pos];rw[List.length_flatten]at h;simpa using h
def oCntS:D->D->Res D
 | .str t,.str [c]=>.ok (.int (t.count c))
 | _,_=>.bad
@[simp] theorem oCntS_a(t:List Nat)(c:Nat):oCntS (.str t) (.str [c])=.ok (.int (t.count c)):=rfl
theorem oCntS_ok{x y d:D}(h:oCntS x y=.ok d):∃t c,x=.str t∧y=.str [c]∧d=.int (t.count c):=by
 unfold oCntS at h;split at h
 ·cases h;exact⟨_,_,rfl,rfl,rfl⟩
 ·cases h
def oRev:D->Res D
 | .tup xs=>.ok (.tup xs.reverse)
 | .str cs=>guard (cs.length≤line) (.ok (.str cs.reverse))
 | _=>.bad
@[simp] theorem oRev_tup(xs:List D):oRev (.tup xs)=.ok (.tup xs.reverse):=rfl
@[simp] theorem oRev_str(cs:List Nat):oRev (.str cs)=guard (cs.length≤line) (.ok (.str cs.reverse)):=rfl
def gSeq(is:List Nat)(d:D)(ρ:Env):Res Env:=match d with
 | .tup ds=>gNames is ds ρ
 | .lst ds=>gNames is ds ρ
 | _=>.bad
theorem gSeq_lst(is:List Nat)(ds:List D)(ρ:Env):gSeq is (.lst ds) ρ=gNames is ds ρ:=rfl
end Z
end
namespace ZS
open PySem PySem.Spec PyProof.Rows L2
def DenF(K:PySem.W.Frag)(H:Hp)(b:Bool)(d:Z.D)(v:V):Prop:=if b=true then DenW K H d v else Den K H d v
def DensF(K:PySem.W.Frag)(H:Hp):List Bool->List Z.D->List V->Prop
 | [],[],vs=>vs=[]
 | b :: bs,d :: ds,vs=>∃v r,vs=v :: r∧DenF K H b d v∧DensF K H bs ds r
 | _,_,_=>False
theorem DenF.up{K:PySem.W.Frag}{H H':Hp}{b:Bool}{d:Z.D}{v:V}(h:DenF K H b d v)(e:aJ H H'):DenF K H' b d v:=by
 unfold DenF at h ⊢;cases b with
 | true=>exact DenW.up (show DenW K H d v from h) e
 | false=>exact Den.up (show Den K H d v from h) e
theorem DensF.up{K:PySem.W.Frag}{H H':Hp}(e:aJ H H'):∀{bs:List Bool}{ds:List Z.D}{vs:List V},DensF K H bs ds vs->DensF K H' bs ds vs
 | [],[],_,h=>h
 | [],_ :: _,_,h=>h.elim
 | _ :: _,[],_,h=>h.elim
 | b :: bs,d :: ds,_,⟨v,r,e1,h1,h2⟩=>⟨v,r,e1,h1.up e,DensF.up e h2⟩
theorem DensF.length{K:PySem.W.Frag}{H:Hp}:∀{bs:List Bool}{ds:List Z.D}{vs:List V},DensF K H bs ds vs->vs.length=ds.length∧ds.length=bs.length
 | [],[],vs,h=>by have:vs=[]:=h;subst this;exact⟨rfl,rfl⟩
 | [],_ :: _,_,h=>h.elim
 | _ :: _,[],_,h=>h.elim
 | b :: bs,d :: ds,_,⟨v,r,e1,h1,h2⟩=>by have:=DensF.length h2;subst e1;simp[this.1,this.2]
theorem DensF.get{K:PySem.W.Frag}{H:Hp}:∀{bs:List Bool}{ds:List Z.D}{vs:List V}{i:Nat}{b:Bool}{d:Z.D},DensF K H bs ds vs->bs[i]?=some b->ds[i]?=some d->∃v,vs[i]?=some v∧DenF K H b d v
 | [],[],_,_,_,_,_,e,_=>by simp at e
 | [],_ :: _,_,_,_,_,h,_,_=>h.elim
 | _ :: _,[],_,_,_,_,h,_,_=>h.elim
 | b :: bs,d :: ds,_,0,b',d',⟨v,r,e1,h1,h2⟩,eb,ed=>by simp at eb ed;subst e1;subst eb;subst ed;exact⟨v,rfl,h1⟩
 | b :: bs,d :: ds,_,i+1,b',d',⟨v,r,e1,h1,h2⟩,eb,ed=>by subst e1;obtain⟨u,q1,q2⟩:=DensF.get (i:=i) h2 (by simpa using eb) (by simpa using ed);exact⟨u,by simpa using q1,q2⟩
def tZaF(K:PySem.W.Frag)(bs:List Bool)(f:Z.AF):TA:=λ σ H Q=>∃ρ ds,RE K H σ ρ∧f ρ=.ok ds∧∀vs H',aJ H H'->DensF K H' bs ds vs->Q vs H'
abbrev DAF(X:Cx)(es:List Expr)(bs:List Bool)(f:Z.AF):Prop:=PA X es (tZaF X.K bs f)
section
variable {X:Cx}{e:Expr}{es:List Expr}{pos:Pos}{f:Z.EF}
def spZF(K:PySem.W.Frag)(bs:List Bool)(m:List Z.D->Z.Res Z.D):Sp:=λ vs H Q _=>∃ds d,DensF K H bs ds vs∧m ds=.ok d∧∀v H',aJ H H'->Den K H' d v->Q v H'
end
section
variable {P:Program}{w:World}{K:PySem.W.Frag}{mg:Str->Option Value}{base:Heap}
structure CalB(P:Program)(w:World)(K:PySem.W.Frag)(mg:Str->Option Value)(base:Heap)(x:Str)(k:Nat)(ps:List Str)(bs:List Bool)(m:List Z.D->Z.Res Z.D):Prop where
 ex:∃g fd,FnOk P w K mg base CX0 k g fd ps (spZF K bs m)∧mg x=some (.ref g)∧PySem.W.keepIn K (.ref g)=true∧Binds K fd ps []
end
section
variable {X:Cx}{e:Expr}{es:List Expr}{pos:Pos}
end
end ZS
namespace ZQ
open PySem PySem.Spec PyProof.Rows L2 ZS
structure QAF(X:Cx)(es:List Expr)(bs:List Bool)(f:Z.AF):Prop where p:DAF X es bs f
section
variable {X:Cx}{e:Expr}{es:List Expr}{pos:Pos}{f:Z.EF}
end
end ZQ
namespace ZS
open PySem PySem.Spec PyProof.Rows L2
section
variable {prog:Program}{w:World}{A:Around}{E:Value->Shared->Prop}{s:Shared}
theorem draw_listZ{it l:Addr}{items:Array Value}(hne:l≠it):∀(n i:Nat)(s:Shared)(Q:List Value->Shared->Prop),s.heap.IsListIter it l i->s.heap.IsList l items->i+n≤items.size ->
  (∀h',h'.IsListIter it l (i+n)->Heap.SameBut it s.heap h'->Q ((items.toList.drop i).take n) { s with heap:=h' })->wpAny (model prog w) A (draw (.ref it) n) Q E s
 | 0,i,s,Q,hit,_,_,hQ=>by show wpAny _ _ (pure []) Q E s;exact wpAny_pure (by simpa using hQ s.heap hit (Heap.SameBut.refl ..))
 | n+1,i,s,Q,hit,ht,hle,hQ=>by
  have hlt:i < items.size:=by lia
  show wpAny _ _ (pyNext (.ref it) >>= _) Q E s;refine wpAny_bind (wpAny_pyNext_list_item hit ht (x:=items[i]) (by simp[hlt]) λ h₁ hit₁ hs₁=>?_);refine wpAny_bind (wpAny_holding (draw_listZ hne n (i+1) _ _ hit₁ (ht.extBut hs₁.extBut hne) (by lia) λ h₂ hit₂ hs₂=>wpAny_pure ?_));have hd:items.toList.drop i=items[i] :: items.toList.drop (i+1):=by simp[List.drop_eq_getElem_cons,hlt]
  have:=hQ h₂ (by rw[show i+(n+1)=i+1+n by lia];exact hit₂) (hs₁.trans hs₂);rw[hd,List.take_succ_cons]at this;exact this
theorem unpackItems_listZ{t:Addr}{items:Array Value}{Q:List Value->Shared->Prop}(hh:A.handled=none)(ht:s.heap.IsList t items)
  (hQ:∀h',Heap.ExtBut s.heap.objs.size s.heap h'->Q items.toList { s with heap:=h' }):wpAny (model prog w) A (unpackItems (.ref t) items.size none) Q E s:=by
 have hlt:t≠s.heap.objs.size:=by obtain⟨o,ho,_⟩:=ht;exact Nat.ne_of_lt (Heap.lt_size ho)
 unfold unpackItems;refine wpAny_bind ?_
 ·unfold notIterableAtAll;refine wpAny_bind (wpAny_specialOf ht.typeIs slot_list_iter.lookup ?_);refine wpAny_pure ?_;simp only[Bool.false_eq_true,if_false];refine wpAny_bind (wpAny_holding (wpAny_pyIter_list ht ?_));refine wpAny_bind (wpAny_holding (draw_listZ hlt items.size 0 _ _ ⟨_,Heap.get?_push_size _ rfl,rfl,rfl⟩ (ht.push _) (by lia) λ h₁ hit₁ hs₁=>?_));have hall:List.take items.size (List.drop 0 items.toList)=items.toList:=by rw[List.drop_zero];exact List.take_of_length_le (by simp)
  rw[hall];rw[if_neg (by simp)];have ht₁:h₁.IsList t items:=(ht.push _).extBut hs₁.extBut hlt;refine wpAny_bind (wpAny_holding (wpAny_pyNext_list_end hh hit₁ ht₁ (by simp) λ h₂ he₂=>?_));simp only[Option.isSome_none,Bool.false_eq_true,if_false];refine wpAny_pure (hQ h₂ λ b o hb e=>he₂ b o hb (hs₁.extBut b o hb (Heap.get?_push_of_some _ e)))
theorem assign_Tuple_listZ{env:Env}{elts:List Expr}{x1}{pos:Pos}{t:Addr}{items:Array Value}{Q:Unit->Shared->Prop}(hh:A.handled=none)(ht:s.heap.IsList t items)
  (hn:(assignEach elts env).length=items.size) (hstar:(assignEach elts env).findIdx? (·.1)=none)
  (h:∀h',Heap.ExtBut s.heap.objs.size s.heap h'->wpAny (model prog w) A (assignInOrder ((assignEach elts env).map (·.2)) items.toList) Q E { s with heap:=h' }) :
  wpAny (model prog w) A (assign (.Tuple elts x1 pos) env (.ref t)) Q E s:=by
 rw[assign_Tuple];refine wpAny_bind (wpAny_standAt ?_);unfold unpack;rw[hn,hstar];exact wpAny_bind (wpAny_holding (unpackItems_listZ hh ht h))
end
section
variable {X:Cx}{tg o e a b:Expr}{es:List Expr}{pos:Pos}{fa fb:Z.EF}{H0:Hp}
def gLstL(K:PySem.W.Frag)(n:Nat)(t:TGs):TG:=λ v σ H Q=>∃a xs,v=.ref a∧SqL K H a xs∧xs.length=n∧t xs σ H Q
theorem pg_lst{es:List Expr}{k:Nat}{t:TGs}{n:Nat}(hc:X.calm=true)(h:PGs X es t)
  (hn:(assignEach es X.env).length=n:=by rfl) (hst:(assignEach es X.env).findIdx? (·.1)=none:=by rfl):PG X (.Tuple es k pos) (gLstL X.K n t):=by
 intro pins s σ H v u Q I r hw;obtain⟨a,xs,e1,hq,hl,hw⟩:=hw;subst e1;cases r;obtain⟨its,rv,ht,hz⟩:=I.list hq;refine assign_Tuple_listZ (I.ok.hd hc) ht.isList (by simp[hn,<-hl,rv.length]) hst λ h' hx=>?_;have I1:Inv X pins σ H { s with heap:=h' }:=I.kept (t':=s.toks) λ b o e=>hx b o (Nat.ne_of_lt (Heap.lt_size e)) e;exact h pins _ σ H xs _ Q I1 (by simpa using rv) hw
theorem gNames_len:∀(is:List Nat)(ds:List Z.D)(ρ ρ':Z.Env),Z.gNames is ds ρ=.ok ρ'->ds.length=is.length:=by
 intro is
 induction is with
 | nil=>intro ds ρ ρ' e;cases ds with
  | nil=>rfl
  | cons d ds=>cases e
 | cons i is ih=>intro ds ρ ρ' e;cases ds with
  | nil=>cases e
  | cons d ds=>simp[ih ds _ _ e]
theorem dg_seq{x1 n:Nat}{is:List Nat}(hc:X.calm=true)(h:DGs X H0 es is)(hl:is.length=n)(hn:(assignEach es X.env).length=n:=by rfl)(hst:(assignEach es X.env).findIdx? (·.1)=none:=by rfl):DG X H0 (.Tuple es x1 pos) (Z.gSeq is):=by
 intro pins s σ H v u Q I r hw;obtain⟨ρ,d,ρ',rs,hd,e,k⟩:=hw;unfold Z.gSeq at e;split at e
 ·rename_i ds;obtain⟨q,vs,rfl,hq,t⟩:=DenW.tup (.inl hd);exact pg_tup hc h hn hst pins s σ H _ u Q I r ⟨q,vs,rfl,hq,by rw[t.length,gNames_len is ds ρ ρ' e];exact hl,ρ,ds,ρ',rs,t,e,k⟩
 ·rename_i ds;obtain⟨q,vs,rfl,hq,t⟩:=DenW.lst (.inl hd);exact pg_lst hc h hn hst pins s σ H _ u Q I r ⟨q,vs,rfl,hq,by rw[t.length,gNames_len is ds ρ ρ' e];exact hl,ρ,ds,ρ',rs,t,e,k⟩
 ·cases e
theorem vals_str:∀{ts:List Str}{its:List Value},Vals (ts.map V.str) its->∃l:List (Str×Tok),strValues l=its∧l.map (·.1)=ts
 | [],its,h=>by cases h;exact⟨[],rfl,rfl⟩
 | t :: ts,its,h=>by
  cases h with
  | cons r rr =>obtain⟨tk,rfl⟩:=r;obtain⟨l,rfl,h2⟩:=vals_str rr;exact⟨(t,tk) :: l,rfl,by rw[<-h2];rfl⟩
def rJoin(K:PySem.W.Frag):V->List V->Hp->VK->Prop:=λ x vs H Q=>∃sep q ts,x=.str sep∧vs=[.ref q]∧SqL K H q (ts.map V.str)∧JoinOk sep ts=true∧Q (.str (Txt.join sep ts)) H
theorem mt_join:MtR X "str.join" (rJoin X.K):=by intro pins s σ H x vs v us Q I rx rv h;obtain⟨sep,q,ts,rfl,rfl,hq,hok,k⟩:=h;obtain⟨t,rfl⟩:=rx;obtain⟨u,rfl,ru⟩:=rv.one;cases ru;obtain⟨its,r,pl,hz⟩:=I.list hq;obtain⟨l,rfl,hl⟩:=vals_str r;exact SC.join pl.isList hl hok λ t' c=>⟨.str (Txt.join sep ts),H,I.tok c,⟨t',rfl⟩,k⟩
def mkS(cs:List Nat):Str:=⟨cs.toArray⟩
theorem dens_texts{K : PySem.W.Frag}{H : Hp}: ∀{xs : List Z.D}{ts : List (List Nat)}{vs : List V}, Z.textsD xs = some ts -> aE K H xs vs -> vs = (ts.map mkS).map V.str
 | [],ts,vs,e,h=>by cases e;simp only[aE]at h;subst h;rfl
 | x :: xs,ts,vs,e,h=>by
  cases x with
  | str c =>
   have e':(Z.textsD xs).map (c :: ·)=some ts:=e;cases q:Z.textsD xs with
   | none=>rw[q]at e';cases e'
   | some ts' =>rw[q]at e';cases e';simp only[aE]at h;obtain⟨v,r,rfl,hv,ht⟩:=h;simp only[Den]at hv;rw[hv,dens_texts q ht];rfl
  | non=>cases e
  | bl _=>cases e
  | int _=>cases e
  | tup _=>cases e
  | lst _=>cases e
  | dct _ _=>cases e
theorem mkS_len(cs:List Nat):(mkS cs).length=cs.length:=by simp[mkS,Str.length]
theorem mkS_app(a b:List Nat):mkS a++mkS b=mkS (a++b):=by show(⟨a.toArray++b.toArray⟩:Str)=_;simp[mkS]
theorem join_mk(sep:List Nat):∀ts:List (List Nat),Txt.join (mkS sep) (ts.map mkS)=mkS (Z.gluedC sep ts):=by
 intro ts;show Builtin.Str.glued _ _=_;rw[StrLaws.glued_eq_join]
 induction ts with
 | nil=>rfl
 | cons x ts ih =>
  cases ts with
  | nil=>rfl
  | cons y r =>show mkS x++mkS sep++Str.join (mkS sep) ((y :: r).map mkS)=_;rw[ih,mkS_app,mkS_app];rfl
theorem join_ok{sep:List Nat}{ts:List (List Nat)}(h:(ts.map List.length).sum+ts.length*sep.length≤16777216):JoinOk (mkS sep) (ts.map mkS)=true:=by
 unfold JoinOk;rw[StrLaws.joinTotal];have e:(ts.map mkS).map (·.length)=ts.map List.length:=by rw[List.map_map];exact List.map_congr_left λ x _=>mkS_len x
 rw[e,List.length_map,mkS_len];simp only[Builtin.Str.tooLong,Bool.not_eq_true',decide_eq_false_iff_not,gt_iff_lt,Nat.not_lt];rw[sizeLine_eq];exact h
theorem de_join{p1 p2:Pos}(ho:DE X o fa)(hb:DW X b fb)
  (hbase:attributeBase o "join" X.env (eval o X.env)=eval o X.env:=by rfl)
  (hfew:((backTo p2 (starEach (b :: []) X.env)).all (λ x=>!x.1)&&(backToKw p2 (keywordEach [] X.env)).all (λ x=>x.1.isSome)
   && decide ((b :: []).length+([]:List Keyword).length+(if([]:List Keyword).isEmpty then 0 else 1) < 30))=true:=by rfl)
  (hline:(p1.endLine==p2.line)=true:=by rfl) (hs1:starEach (b :: []) X.env=(false,eval b X.env) :: starEach [] X.env:=by rfl) (hplain:(backTo p2 (starEach [] X.env)).any (·.1)=false:=by rfl) :
  DE X (.Call (.Attribute o "join" p1) [b] [] p2) (Z.eB Z.oJoin fa fb) :=
 PE.imp (pe_bm PySem.F.plainAttrs_str PySem.F.slot_str_join PySem.F.type_str_join mt_join ho (pa_cons hb pa_nil hs1) hbase hfew hline hs1 hplain) λ σ H Q ⟨ρ,d,r,e,k⟩=>by obtain⟨x,ea,e⟩:=Z.Res.ax e;obtain⟨y,eb,e⟩:=Z.Res.ax e;obtain⟨sep,xs,ts,rfl,rfl,et,hl,rfl⟩:=Z.oJoin_ok e;refine⟨ρ,_,r,ea,λ v H1 s1 d1=>?_⟩;simp only[Den]at d1;subst d1;refine⟨rfl,ρ,_,r.up s1,eb,λ u H2 s2 d2=>?_⟩;obtain⟨q,vs,rfl,hq,t⟩:=d2.lst;rw[dens_texts et t]at hq;refine⟨mkS sep,q,ts.map mkS,rfl,rfl,hq,join_ok hl,?_⟩;rw[join_mk];exact k _ H2 (s1.trans s2) den_str
theorem occ_one(x : Str)(c : Nat)(lim : Nat): ∀(n lo : Nat)(st : Array Nat × Nat), st.2 ≤ lo -> st.1.size + n ≤ lim -> lo + n = x.length + 1 ->
  (forIn (List.range' lo n) st (StrLaws.occBody x ⟨#[c]⟩ x.length lim)).run.fst.size=st.1.size+(x.cps.toList.drop lo).count c:=by
 intro n
 induction n with
 | zero =>intro lo st h1 h2 h3;have:x.cps.toList.drop lo=[]:=List.drop_eq_nil_of_le (by simp;show x.length≤lo;lia);simp[this]
 | succ n ih =>
  intro lo st h1 h2 h3;rw[List.range'_succ,List.forIn_cons];by_cases hlo:lo < x.length
  ·have hlo':lo < x.cps.toList.length:=by rw[Array.length_toList];exact hlo
   have hsub:Builtin.Str.subAt x ⟨#[c]⟩ lo=decide (x.cps.toList[lo]=c):=by
    have so:=StrLaws.subAt_one x c lo;rw[Bool.eq_iff_iff,decide_eq_true_eq];constructor
    ·intro h;have:=so.mp ⟨by show lo+1≤x.length;lia,h⟩;rw[List.getElem?_eq_getElem hlo']at this;exact Option.some.inj this
    ·intro h;exact(so.mpr (by rw[List.getElem?_eq_getElem hlo',h])).2
   rw[List.drop_eq_getElem_cons hlo'];by_cases hc:x.cps.toList[lo]=c
   ·have hcond:((st.1.size < lim∧st.2≤lo)∧lo+(⟨#[c]⟩:Str).length≤x.length)∧Builtin.Str.subAt x ⟨#[c]⟩ lo=true:=⟨⟨⟨by lia,h1⟩,by show lo+1≤x.length;lia⟩,by rw[hsub];simp[hc]⟩
    have e:StrLaws.occBody x ⟨#[c]⟩ x.length lim lo st=pure (ForInStep.yield (st.1.push lo,lo+1)):=by unfold StrLaws.occBody;rw[if_pos hcond];rfl
    rw[e];have:=ih (lo+1) (st.1.push lo,lo+1) (Nat.le_refl _) (by simp;lia) (by lia);simp only[pure_bind];rw[this,hc,List.count_cons_self];simp only[Array.size_push];lia
   ·have hcond:¬(((st.1.size < lim∧st.2≤lo)∧lo+(⟨#[c]⟩:Str).length≤x.length)∧Builtin.Str.subAt x ⟨#[c]⟩ lo=true):=λ z=>by rw[hsub]at z;exact hc (of_decide_eq_true z.2)
    have e:StrLaws.occBody x ⟨#[c]⟩ x.length lim lo st=pure (ForInStep.yield (st.1,st.2)):=by unfold StrLaws.occBody;rw[if_neg hcond]
    rw[e];have:=ih (lo+1) (st.1,st.2) (by simp;lia) (by simp;lia) (by lia);simp only[pure_bind];rw[this,List.count_cons_of_ne hc]
  ·have hcond:¬(((st.1.size < lim∧st.2≤lo)∧lo+(⟨#[c]⟩:Str).length≤x.length)∧Builtin.Str.subAt x ⟨#[c]⟩ lo=true):=λ z=>hlo (by have:=z.1.2;change lo+1≤x.length at this;lia);have e:StrLaws.occBody x ⟨#[c]⟩ x.length lim lo st=pure (ForInStep.yield (st.1,st.2)):=by unfold StrLaws.occBody;rw[if_neg hcond]
   rw[e];have:=ih (lo+1) (st.1,st.2) (by simp;lia) (by simp;lia) (by lia);simp only[pure_bind];rw[this];have h5:x.cps.toList.drop lo=[]:=List.drop_eq_nil_of_le (by simp;show x.length≤lo;lia);have h6:x.cps.toList.drop (lo+1)=[]:=List.drop_eq_nil_of_le (by simp;show x.length≤lo+1;lia);rw[h5,h6]
theorem occ_count(t:List Nat)(c:Nat):(Builtin.Str.occurrences (mkS t) ⟨#[c]⟩ 0 (mkS t).length ((mkS t).length+1)).length=t.count c:=by rw[StrLaws.occ_eq];have:=occ_one (mkS t) c ((mkS t).length+1) ((mkS t).length+1) 0 (#[],0) (Nat.le_refl _) (by simp) (by lia);simpa[mkS]using this
def rCntS:V->List V->Hp->VK->Prop:=λ x vs H Q=>∃t c,x=.str (mkS t)∧vs=[.str ⟨#[c]⟩]∧Q (.int ((t.count c:Nat):Int)) H
theorem mt_cntS:MtR X "str.count" rCntS:=by intro pins s σ H x vs v us Q I rx rv h;obtain⟨t,c,rfl,rfl,k⟩:=h;obtain⟨tk,rfl⟩:=rx;obtain⟨u,rfl,ru⟩:=rv.one;obtain⟨tk2,rfl⟩:=ru;refine call_gives F.slot_str_count (typeIs_str _ _ _) F.entry_str_count (F.args_str_count_2 _ _) (gives_str_count _ _ tk tk2) ?_;rw[occ_count];exact⟨.int _,H,I.tok _,⟨_,rfl⟩,k⟩
theorem de_cntS{p1 p2:Pos}(ho:DW X o fa)(hb:DW X b fb)
  (hbase:attributeBase o "count" X.env (eval o X.env)=eval o X.env:=by rfl)
  (hfew:((backTo p2 (starEach (b :: []) X.env)).all (λ x=>!x.1)&&(backToKw p2 (keywordEach [] X.env)).all (λ x=>x.1.isSome)
   && decide ((b :: []).length+([]:List Keyword).length+(if([]:List Keyword).isEmpty then 0 else 1) < 30))=true:=by rfl)
  (hline:(p1.endLine==p2.line)=true:=by rfl) (hs1:starEach (b :: []) X.env=(false,eval b X.env) :: starEach [] X.env:=by rfl) (hplain:(backTo p2 (starEach [] X.env)).any (·.1)=false:=by rfl) :
  DE X (.Call (.Attribute o "count" p1) [b] [] p2) (Z.eB Z.oCntS fa fb) :=
 PE.imp (pe_bm PySem.F.plainAttrs_str PySem.F.slot_str_count PySem.F.type_str_count mt_cntS ho (pa_cons hb pa_nil hs1) hbase hfew hline hs1 hplain) λ σ H Q ⟨ρ,d,r,e,k⟩=>by obtain⟨x,ea,e⟩:=Z.Res.ax e;obtain⟨y,eb,e⟩:=Z.Res.ax e;obtain⟨t,c,rfl,rfl,rfl⟩:=Z.oCntS_ok e;refine⟨ρ,_,r,ea,λ v H1 s1 d1=>?_⟩;have d1':=d1.str;subst d1';refine⟨rfl,ρ,_,r.up s1,eb,λ u H2 s2 d2=>?_⟩;have d2':=d2.str;subst d2';exact⟨t,c,rfl,rfl,k _ H2 (s1.trans s2) den_int⟩
end
end ZS
namespace ZQ
open PySem PySem.Spec PyProof.Rows L2 ZS
section
variable {X:Cx}{tg o e a b:Expr}{es:List Expr}{pos:Pos}{fa fb:Z.EF}{H0:Hp}
theorem dg_seq{x1 n:Nat}{is:List Nat}(hc:X.calm=true)(h:QGs X H0 es is)(hl:is.length=n)(hn:(assignEach es X.env).length=n:=by rfl)(hst:(assignEach es X.env).findIdx? (·.1)=none:=by rfl):QG X H0 (.Tuple es x1 pos) (Z.gSeq is):=⟨ZS.dg_seq hc h.p hl hn hst⟩
theorem de_join{p1 p2:Pos}(ho:QE X o fa)(hb:QW X b fb)
  (hbase:attributeBase o "join" X.env (eval o X.env)=eval o X.env:=by rfl)
  (hfew:((backTo p2 (starEach (b :: []) X.env)).all (λ x=>!x.1)&&(backToKw p2 (keywordEach [] X.env)).all (λ x=>x.1.isSome)
   && decide ((b :: []).length+([]:List Keyword).length+(if([]:List Keyword).isEmpty then 0 else 1) < 30))=true:=by rfl)
  (hline:(p1.endLine==p2.line)=true:=by rfl) (hs1:starEach (b :: []) X.env=(false,eval b X.env) :: starEach [] X.env:=by rfl) (hplain:(backTo p2 (starEach [] X.env)).any (·.1)=false:=by rfl) :
  QE X (.Call (.Attribute o "join" p1) [b] [] p2) (Z.eB Z.oJoin fa fb):=⟨ZS.de_join ho.p hb.p hbase hfew hline hs1 hplain⟩
theorem de_cntS{p1 p2:Pos}(ho:QW X o fa)(hb:QW X b fb)
  (hbase:attributeBase o "count" X.env (eval o X.env)=eval o X.env:=by rfl)
  (hfew:((backTo p2 (starEach (b :: []) X.env)).all (λ x=>!x.1)&&(backToKw p2 (keywordEach [] X.env)).all (λ x=>x.1.isSome)
   && decide ((b :: []).length+([]:List Keyword).length+(if([]:List Keyword).isEmpty then 0 else 1) < 30))=true:=by rfl)
  (hline:(p1.endLine==p2.line)=true:=by rfl) (hs1:starEach (b :: []) X.env=(false,eval b X.env) :: starEach [] X.env:=by rfl) (hplain:(backTo p2 (starEach [] X.env)).any (·.1)=false:=by rfl) :
  QE X (.Call (.Attribute o "count" p1) [b] [] p2) (Z.eB Z.oCntS fa fb):=⟨ZS.de_cntS ho.p hb.p hbase hfew hline hs1 hplain⟩
end
end ZQ
namespace ZS
open PySem PySem.Spec PyProof.Rows L2
section
variable {prog:Program}{w:World}{A:Around}{E:Value->Shared->Prop}{s:Shared}
end
section
variable {X:Cx}{e st:Expr}{te:TE}{pos p2:Pos}{fa:Z.EF}
end
end ZS
namespace ZQ
open PySem PySem.Spec PyProof.Rows L2 ZS
section
variable {X:Cx}{e:Expr}{pos p2:Pos}{fa:Z.EF}
end
end ZQ
noncomputable section
namespace Z
def sBad(_:Env):Res Fl:=.bad
@[simp] theorem sBad_a(ρ:Env):sBad ρ=.bad:=rfl
def eBad(_:Env):Res D:=.bad
@[simp] theorem eBad_a(ρ:Env):eBad ρ=.bad:=rfl
def oRepT:D->D->Res D
 | .tup [d],.int n=>guard (0≤n∧n≤1000000) (.ok (.tup (List.replicate n.toNat d)))
 | _,_=>.bad
theorem oRepT_a(d:D)(n:Int):oRepT (.tup [d]) (.int n)=guard (0≤n∧n≤1000000) (.ok (.tup (List.replicate n.toNat d))):=rfl
theorem oRepT_ok{x y d:D}(h:oRepT x y=.ok d):∃e n,x=.tup [e]∧y=.int n∧0≤n∧n≤1000000∧d=.tup (List.replicate n.toNat e):=by
 unfold oRepT at h;split at h
 ·obtain⟨⟨h0,h1⟩,e⟩:=guard_ok h;cases e;exact⟨_,_,rfl,rfl,h0,h1,rfl⟩
 ·cases h
def withN(f:List D->Res D)(ds:List D):Res D:=f (ds++[.non])
@[simp] theorem withN_a(f:List D->Res D)(ds:List D):withN f ds=f (ds++[.non]):=rfl
end Z
end
namespace ZS
open PySem PySem.Spec PyProof.Rows L2
theorem ds_bad{X:Cx}{H0:Hp}{st:Stmt}:DS X H0 st Z.sBad:=λ _ _ _ _ _ _ ⟨_,_,_,e,_⟩=>nomatch e
theorem dss_bad{X:Cx}{H0:Hp}{sts:List Stmt}:DSs X H0 sts Z.sBad:=λ _ _ _ _ _ _ ⟨_,_,_,e,_⟩=>nomatch e
theorem calBad{P:Program}{w:World}{K:PySem.W.Frag}{mg:Str->Option Value}{base:Heap}{x:Str}{k:Nat}{ps:List Str}{m:List Z.D->Z.Res Z.D}(C:Cal P w K mg base x k ps m)(hm:∀ds d,m ds≠.ok d:=by intro ds d h;unfold Z.fn at h;split at h<;>cases h):Cal P w K mg base x k ps (λ _=>.bad):=by
 obtain⟨g,fd,F,h⟩:=C.ex;have:spZ K m=spZ K λ _=>.bad:=by
  funext vs H Q E
  refine propext ⟨λ⟨ds,d,_,e,_⟩=>absurd e (hm ds d),λ⟨ds,d,_,e,_⟩=>nomatch e⟩
 rw[this]at F;exact⟨g,fd,F,h⟩
structure FunD(K:PySem.W.Frag)(x qual:Str)(st:Stmt)(f:Addr)(fd:FuncData):Prop where
 ex:∃(oc:Value)(od:Option Addr)(dV kV doc pm:Value)(an:Option Addr)(cdv ct:Value)(osl:Array (Option Value)),
  fd=PySem.W.fnOf x qual (defArgs st) (defBody st) (ak st) dV kV doc pm an cdv ct∧K.lookup f=some ⟨oc,od,.func fd,osl⟩∧PySem.W.codeIn K cdv qual=true
 kp:PySem.W.keepIn K (.ref f)=true
section
variable {P:Program}{w:World}{K:PySem.W.Frag}{mg:Str->Option Value}{base:Heap}
theorem FunD.ok{x qual:Str}{st:Stmt}{f:Addr}{fd:FuncData}{N ps:List Str}{k:Nat}{sp:Sp}(F:FunD K x qual st f fd)(S:aA N ps (ak st))(len:∀vs H Q E,sp vs H Q E->vs.length=ps.length)
  (hbody:∀ (cdv:Value) (A:Around) (outer:List Env) (s:Shared) (H:Hp) (vs:List V) (Q:VK) (E:XK),Room k (A.deeper (envOfC qual (ak st) s.heap.objs.size f cdv))->sp vs H Q E ->
   ∃t,PSs (cxOf CX0 P w K mg base N qual (ak st) f cdv A outer s H E).nox (defBody st) t∧t { nx:=λ _ H'=>Q .non H',rt:=Q } (start N vs) H):FnOk P w K mg base CX0 (k+1) f fd ps sp:=by
 obtain⟨oc,od,dV,kV,doc,pm,an,cdv,ct,osl,rfl,lk,hcd⟩:=F.ex;refine fn_of lk hcd S len λ A outer s H vs Q E hr hsp=>?_;obtain⟨t,h,q⟩:=hbody cdv A outer s H vs Q E hr hsp;exact⟨t,h.nox,q⟩
theorem fnZD{x qual:Str}{st:Stmt}{f:Addr}{fd:FuncData}{N ps:List Str}{k:Nat}{b:Z.SF}(F:FunD K x qual st f fd)(S:aA N ps (ak st))
  (hb:∀ (cdv:Value) (A:Around) (outer:List Env) (s:Shared) (H:Hp) (E:XK),Room k (A.deeper (envOfC qual (ak st) s.heap.objs.size f cdv)) ->
   DSs (cxOf CX0 P w K mg base N qual (ak st) f cdv A outer s H E).nox H (defBody st) b):FnOk P w K mg base CX0 (k+1) f fd ps (spZ K (Z.fn ps.length N.length b)):=by
 have hlen:∀(vs:List V)(H:Hp)(Q:VK)(E:XK),spZ K (Z.fn ps.length N.length b) vs H Q E->vs.length=ps.length:=λ vs H Q E ⟨ds,d,t,e,_⟩=>by
  unfold Z.fn at e;split at e
  ·rename_i h;rw[t.length];exact h
  ·cases e
 refine F.ok S hlen (λ cdv A outer s H vs Q E hr h=>⟨_,hb cdv A outer s H E hr,?_⟩);have hl:=hlen vs H Q E h;obtain⟨ds,d,t,e,k⟩:=h;have hpl:ps.length≤N.length:=by have:=congrArg List.length S.pre;rw[List.length_take]at this;lia
 have rs:RS K H H (L2.start N vs) (Z.start N.length ds):=start_get t (by lia);unfold Z.fn at e;split at e
 ·cases eb:b (Z.start N.length ds)with
  | bad=>rw[eb]at e;cases e
  | ok fl =>
   rw[eb]at e;refine⟨_,fl,rs,eb,?_⟩;cases fl with
   | rt d'=>cases e;exact λ v H' s' dv=>k v H' s' dv
   | nx ρ'=>cases e;exact λ σ' H' _ rs'=>k .non H' rs'.same den_non
   | bk ρ'=>cases e
   | ct ρ'=>cases e
 ·cases e
structure DefD(K:PySem.W.Frag)(mg:Str->Option Value)(x:Str)(st:Stmt)(ps:List Str):Prop where
 ex:∃f fd,FunD K x x st f fd∧mg x=some (.ref f)∧Binds K fd ps []∧Binds K fd ps [.none]
structure CalD(P:Program)(w:World)(K:PySem.W.Frag)(mg:Str->Option Value)(base:Heap)(x:Str)(k:Nat)(ps:List Str)(m:List Z.D->Z.Res Z.D):Prop where
 ex:∃g fd,FnOk P w K mg base CX0 k g fd ps (spZ K m)∧mg x=some (.ref g)∧PySem.W.keepIn K (.ref g)=true∧Binds K fd ps []∧Binds K fd ps [.none]
theorem CalD.full{x:Str}{k:Nat}{ps:List Str}{m:List Z.D->Z.Res Z.D}(C:CalD P w K mg base x k ps m):Cal P w K mg base x k ps m :=
 let ⟨g,fd,h1,h2,h3,h4,_⟩:=C.ex;⟨g,fd,h1,h2,h3,h4⟩
theorem CalD.mk'{x:Str}{k:Nat}{st:Stmt}{N ps:List Str}{b:Z.SF}(d:DefD K mg x st ps)(S:aA N ps (ak st))
  (hb:∀ (f:Addr) (cdv:Value) (A:Around) (outer:List Env) (s:Shared) (H:Hp) (E:XK),Room k (A.deeper (envOfC x (ak st) s.heap.objs.size f cdv)) ->
   DSs (cxOf CX0 P w K mg base N x (ak st) f cdv A outer s H E).nox H (defBody st) b):CalD P w K mg base x (k+1) ps (Z.fn ps.length N.length b):=by
 obtain⟨f,fd,F,hm,hb',hb2⟩:=d.ex;exact⟨f,fd,fnZD F S (hb f),hm,F.kp,hb',hb2⟩
theorem defD_mk{x:Str}{st:Stmt}{ps:List Str}{f t:Addr}{oc:Value}{od an:Option Addr}{osl:Array (Option Value)}{kV doc pm cdv ct tc:Value}{td:Option Addr}{tn:Nat}{tsl:Array (Option Value)}
  (l:K.lookup f=some ⟨oc,od,.func (PySem.W.fnOf x x (defArgs st) (defBody st) (ak st) (.ref t) kV doc pm an cdv ct),osl⟩)
  (c:PySem.W.codeIn K cdv x=true) (k:PySem.W.keepIn K (.ref f)=true) (lt:K.lookup t=some ⟨tc,td,.seq #[.none] tn,tsl⟩) (hm:mg x=some (.ref f))
  (h1:∀us:List Value,us.length=ps.length->∃kk:Option (Array Value)->Sem (List (Str×Value)),bindArgs (PySem.W.fnOf x x (defArgs st) (defBody st) (ak st) (.ref t) kV doc pm an cdv ct) ⟨us,[]⟩=seqItems? (.ref t) >>= kk∧kk (some #[.none])=pure (ps.zip us))
  (h2:∀us:List Value,us.length+1=ps.length->∃kk:Option (Array Value)->Sem (List (Str×Value)),bindArgs (PySem.W.fnOf x x (defArgs st) (defBody st) (ak st) (.ref t) kV doc pm an cdv ct) ⟨us,[]⟩=seqItems? (.ref t) >>= kk∧kk (some #[.none])=pure (ps.zip (us++[.none]))):DefD K mg x st ps:=by
 refine⟨f,_,⟨⟨oc,od,.ref t,kV,doc,pm,an,cdv,ct,osl,rfl,l,c⟩,k⟩,hm,λ s us hK hl=>?_,λ s us hK hl=>?_⟩
 ·rw[List.append_nil]at hl ⊢;obtain⟨kk,e1,e2⟩:=h1 us hl;exact BindsTo.of_defaults (T:=t) (items:=#[.none]) rfl (hK t _ lt) rfl e1 e2
 ·obtain⟨kk,e1,e2⟩:=h2 us (by simpa using hl);exact BindsTo.of_defaults (T:=t) (items:=#[.none]) rfl (hK t _ lt) rfl e1 e2
end
section
variable {X:Cx}{e:Expr}{es:List Expr}{pos:Pos}
theorem de_callD{k:Nat}{ps:List Str}{x:Str}{m:List Z.D->Z.Res Z.D}{ar:Z.AF}{p1:Pos}(C:CalD X.prog X.w X.K X.mg X.base x k ps m)(hr:Room k X.A)(hg:Gl X x)
  (ha:DA X (e :: es) ar) (hdb:(x==("__debug__" : Str))=false:=by decide +kernel) (he:starEach (e :: es) X.env=(false,eval e X.env) :: starEach es X.env:=by rfl) (hpl:(backTo pos (starEach es X.env)).any (·.1)=false:=by rfl) :
  DE X (.Call (.Name x p1) (e :: es) [] pos) (Z.az (Z.withN m) ar):=by
 obtain⟨g,fd,F,hm,hk,_,hb⟩:=C.ex;refine PE.imp (pe_call F hr hg hm hk hb (.cons (show RelV V.non Value.none from rfl) .nil) pass0 ha hdb he hpl) λ σ H Q ⟨ρ,d,r,e,k⟩=>?_;obtain⟨ds,ea,e⟩:=Z.Res.ax e;refine⟨ρ,ds,r,ea,λ vs H1 s1 d1=>?_⟩;exact⟨ds++[Z.D.non],d,d1.append (aE.cons den_non aE.nil),(show m (ds++[Z.D.non])=.ok d from e),λ v H' s2 dv=>k v H' (s1.trans s2) dv⟩
end
end ZS
namespace ZQ
open PySem PySem.Spec PyProof.Rows L2 ZS
section
variable {X:Cx}{e:Expr}{es:List Expr}{pos:Pos}{H0:Hp}{st:Stmt}{sts:List Stmt}
theorem ds_bad:QS X H0 st Z.sBad:=⟨ZS.ds_bad⟩
theorem dss_bad:QSs X H0 sts Z.sBad:=⟨ZS.dss_bad⟩
theorem de_callD{k:Nat}{ps:List Str}{x:Str}{m:List Z.D->Z.Res Z.D}{ar:Z.AF}{p1:Pos}(C:CalD X.prog X.w X.K X.mg X.base x k ps m)(hr:Room k X.A)(hg:Gl X x)
  (ha:QA X (e :: es) ar) (hdb:(x==("__debug__" : Str))=false:=by decide +kernel) (he:starEach (e :: es) X.env=(false,eval e X.env) :: starEach es X.env:=by rfl) (hpl:(backTo pos (starEach es X.env)).any (·.1)=false:=by rfl) :
  QE X (.Call (.Name x p1) (e :: es) [] pos) (Z.az (Z.withN m) ar):=⟨ZS.de_callD C hr hg ha.p hdb he hpl⟩
theorem calQD{P:Program}{w:World}{K:PySem.W.Frag}{mg:Str->Option Value}{base:Heap}{x:Str}{k:Nat}{st:Stmt}{N ps:List Str}{b:Z.SF}(d:ZS.DefD K mg x st ps)(S:aA N ps (ak st))
  (hb:∀ (f:Addr) (cdv:Value) (A:Around) (outer:List PySem.Env) (s:Shared) (H:Hp) (E:XK),Room k (A.deeper (envOfC x (ak st) s.heap.objs.size f cdv)) ->
   QSs (cxOf CX0 P w K mg base N x (ak st) f cdv A outer s H E).nox H (defBody st) b):ZS.CalD P w K mg base x (k+1) ps (Z.fn ps.length N.length b) :=
 ZS.CalD.mk' d S λ f cdv A outer s H E hr=>(hb f cdv A outer s H E hr).p
end
end ZQ
namespace PySem
open Sem (wp)
open Builtin
theorem noFill_tuple_mul:fillsNumberSlot (.type "tuple") "mul" = pure false :=
 fillsNumberSlot_seq (id := "tuple.__mul__") (r:=some (.builtin "tuple.__rmul__")) F.slot_tuple_mul.lookup (by decide +kernel) F.slot_tuple_rmul.lookup (by decide +kernel)
theorem repeat_tuple:seqRepeat? (.type "tuple")=pure (some (.builtin "tuple.__mul__")):=by unfold seqRepeat?;rw[seqSlot_of (T := "tuple") (name := "__mul__") (id := "tuple.__mul__") F.slot_tuple_mul.lookup (by decide +kernel),seqSlot_of (T := "tuple") (name := "__rmul__") (id := "tuple.__rmul__") F.slot_tuple_rmul.lookup (by decide +kernel)];rfl
theorem int___rmul___int_tuple(a:Int)(t:Tok)(l:Addr)(items:Array Value)(n:Nat)(dd:Option Addr)(sl:Array (Option Value)):
  Meets (Builtin.«int.__rmul__» ⟨[.int a t,.ref l],[]⟩) (λ _ R s=>s.heap.get? l=some { cls:=.type "tuple",dict:=dd,data:=.seq items n,slots:=sl }∧R (.ok (.ret Value.notImplemented)) s) :=
 .of_wp λ prog w A R s h=>by obtain⟨hp,g,d,tk,os⟩:=s;obtain⟨hl,h⟩:=h;wp_walk;exact⟨_,rfl,h⟩
theorem tuple___mul___0(a:Int)(t:Tok)(l:Addr)(x:Value)(n:Nat)(dd:Option Addr)(sl:Array (Option Value))(h0:a=0):
  Meets (Builtin.«tuple.__mul__» ⟨[.ref l,.int a t],[]⟩) (λ _ R s=>s.heap.get? l=some { cls:=.type "tuple",dict:=dd,data:=.seq #[x] n,slots:=sl }∧R (.ok (.ret (.ref s.heap.objs.size))) { s with heap:=s.heap.push { cls:=.type "tuple",data:=.seq #[] } }) :=
 .of_wp λ prog w A R s h=>by
  obtain⟨hp,g,d,tk,os⟩:=s;obtain⟨hl,h⟩:=h;subst h0
  wp_walk
  exact⟨_,rfl,h⟩
theorem tuple___mul___1(a:Int)(t:Tok)(l:Addr)(x:Value)(n:Nat)(dd:Option Addr)(sl:Array (Option Value))(h0:a=1):
  Meets (Builtin.«tuple.__mul__» ⟨[.ref l,.int a t],[]⟩) (λ _ R s=>s.heap.get? l=some { cls:=.type "tuple",dict:=dd,data:=.seq #[x] n,slots:=sl }∧R (.ok (.ret (.ref l))) s) :=
 .of_wp λ prog w A R s h=>by
  obtain⟨hp,g,d,tk,os⟩:=s;obtain⟨hl,h⟩:=h;subst h0
  wp_walk
  exact⟨_,rfl,h⟩
theorem tuple___mul___2(a:Int)(t:Tok)(l:Addr)(x:Value)(n:Nat)(dd:Option Addr)(sl:Array (Option Value))(h1:¬(decide (a < -(2 ^ 63)) || decide (a≥2 ^ 63))=true)(h2:¬((#[x]:Array Value).isEmpty || a==1)=true)(h3:¬(decide (a≤0) || (#[x]:Array Value).isEmpty)=true)(h4:¬((#[x]:Array Value).size:Int)*a > (2 ^ 63-1) / 8)(h5:¬Tuple.tupleTooMany (((#[x]:Array Value).size:Int)*a)=true)(h6:((List.replicate a.toNat #[x]).foldl (·++·) #[]).size≤sizeLine):
  Meets (Builtin.«tuple.__mul__» ⟨[.ref l,.int a t],[]⟩) (λ _ R s=>s.heap.get? l=some { cls:=.type "tuple",dict:=dd,data:=.seq #[x] n,slots:=sl }∧R (.ok (.ret (.ref s.heap.objs.size))) { s with heap:=s.heap.push { cls:=.type "tuple",data:=.seq ((List.replicate a.toNat #[x]).foldl (·++·) #[]) } }) :=
 .of_wp λ prog w A R s h=>by
  obtain⟨hp,g,d,tk,os⟩:=s;obtain⟨hl,h⟩:=h
  wp_walk
  refine wpAny_ite_false (by simpa using h1) ?_
  wp_walk
  refine wpAny_ite_false (by simpa using h2) ?_
  wp_walk
  refine wpAny_ite_false (by simpa using h3) ?_
  wp_walk
  refine wpAny_ite_false (decide_eq_false h4) ?_
  wp_walk
  refine wpAny_ite_false (by simpa using h5) ?_
  wp_walk
  exact⟨_,rfl,h⟩
end PySem
namespace ZS
open PySem PySem.Spec PyProof.Rows L2
section
variable {X:Cx}{a b:Expr}{pos:Pos}{fa fb:Z.EF}
def rRepT(K:PySem.W.Frag):R2:=λ x y H Q=>∃l k w,x=.ref l∧y=.int k∧SqT K H l [w]∧0≤k∧k≤1000000∧(k=1->Q (.ref l) H)∧(k≠1->∀p,H p=none->Q (.ref p) (upd H p (.tup (List.replicate k.toNat w))))
theorem foldl_one(v:Value):∀(k:Nat)(acc:Array Value),List.foldl (λ x1 x2=>x1++x2) acc (List.replicate k #[v])=acc++(List.replicate k v).toArray
 | 0,acc=>by simp
 | k+1,acc=>by rw[List.replicate_succ,List.foldl_cons,foldl_one v k,List.replicate_succ];apply Array.toList_inj.mp;simp
theorem vals_repl{w:V}{u:Value}(r:RelV w u):∀k:Nat,Vals (List.replicate k w) (List.replicate k u)
 | 0=>.nil
 | k+1=>.cons r (vals_repl r k)
theorem op_repT: OpR X (binaryOp .Mult) (rRepT X.K) := by
 intro pins s σ H x y v u Q I rx ry h;obtain⟨l,k,w,rfl,rfl,hq,h0,h1,q1,q2⟩:=h;cases rx;obtain⟨t,rfl⟩:=ry;obtain⟨its,r,ht,hz⟩:=I.tuple hq;obtain⟨x,rfl,rx⟩:=vals1 r;obtain⟨⟨cls,dd,data,sl⟩,ho,hc,n,hd⟩:=id ht;simp only at hc hd;subst hc hd;have e:s.heap.get? l=some { cls:=.type "tuple",dict:=dd,data:=.seq #[x] n,slots:=sl }:=ho;refine wpAny_binaryOp_repeat_ref (T := "tuple") (U := "int") (by decide) ⟨_,e,rfl⟩ (λ s'=>typeIs_int s' k t) noFill_tuple_mul F.fills_int_mul F.slot_int_rmul repeat_tuple F.slot_int_index.lookup
  (call_meets F.slot_int_rmul (typeIs_int s k t) F.entry_int_rmul (F.args_int_rmul_2 _ _) (int___rmul___int_tuple k t l #[x] n dd sl) ⟨e,rfl,⟨_,e,rfl⟩,?_⟩)
 by_cases hk1:k=1
 ·exact call_meets F.slot_tuple_mul ⟨_,e,rfl⟩ F.entry_tuple_mul (F.args_tuple_mul_2 _ _) (tuple___mul___1 k t l x n dd sl hk1) ⟨e,⟨.ref l,H,I,rfl,q1 hk1⟩⟩
 ·by_cases hk0:k=0
  ·refine call_meets F.slot_tuple_mul ⟨_,e,rfl⟩ F.entry_tuple_mul (F.args_tuple_mul_2 _ _) (tuple___mul___0 k t l x n dd sl hk0) ⟨e,?_⟩;have q:=q2 hk1 _ (I.hok.fresh (Nat.le_refl s.heap.objs.size));rw[hk0]at q;refine⟨.ref _,_,I.laid (t':=s.toks) (o:=.tup []) (λ b ob z=>Heap.get?_push_of_some _ z) (Nat.le_refl _) ?_,rfl,q⟩;exact⟨Nat.zero_le _,[],.nil,IsTup.new _ _⟩
  ·have hk2:2≤k:=by lia
   have hf:=foldl_one x k.toNat #[];rw[Array.empty_append]at hf;have hs:(1000000:Nat)≤sizeLine:=by decide
   refine call_meets F.slot_tuple_mul ⟨_,e,rfl⟩ F.entry_tuple_mul (F.args_tuple_mul_2 _ _) (tuple___mul___2 k t l x n dd sl ?_ ?_ ?_ ?_ ?_ ?_) ⟨e,?_⟩
   ·simp;lia
   ·simp;lia
   ·simp;lia
   ·show ¬((1:Nat):Int)*k > (2 ^ 63-1) / 8;lia
   ·show ¬(decide (((1:Nat):Int)*k > (sizeLine:Int)))=true;rw[decide_eq_true_eq];have:((1000000:Nat):Int)≤(sizeLine:Int):=Int.ofNat_le.mpr hs;generalize (sizeLine:Int)=z at this ⊢;lia
   ·rw[hf,List.size_toArray,List.length_replicate];lia
   ·rw[hf];refine⟨.ref _,_,I.laid (t':=s.toks) (o:=.tup (List.replicate k.toNat w)) (λ b ob z=>Heap.get?_push_of_some _ z) (Nat.le_refl _) ?_,rfl,q2 hk1 _ (I.hok.fresh (Nat.le_refl _))⟩;exact⟨by rw[List.length_replicate];lia,_,vals_repl rx k.toNat,IsTup.new _ _⟩
theorem de_repT(ha:DW X a fa)(hb:DW X b fb):DE X (.BinOp a .Mult b pos) (Z.eB Z.oRepT fa fb):=PE.imp (pe_op op_repT ha hb) λ σ H Q ⟨ρ,d,r,e,k⟩=>by
 obtain⟨x,ea,e⟩:=Z.Res.ax e;obtain⟨y,eb,e⟩:=Z.Res.ax e;obtain⟨d0,n,rfl,rfl,h0,h1,rfl⟩:=Z.oRepT_ok e;refine⟨ρ,_,r,ea,λ v H1 s1 d1=>⟨ρ,_,r.up s1,eb,λ u H2 s2 d2=>?_⟩⟩;obtain⟨q,vs,rfl,hq,t⟩:=d1.tup;simp only[aE]at t;obtain⟨w,r',rfl,dw,rfl⟩:=t;refine⟨q,n,w,rfl,d2.int,?_,h0,h1,λ hn=>?_,λ hn p hp=>?_⟩
 ·exact sqT_mono (stb s2) hq
 ·subst hn;exact k _ H2 (s1.trans s2) (den_tup (sqT_mono (stb s2) hq) (aE.cons (dw.up s2) aE.nil))
 ·have s3:aJ H2 (upd H2 p (.tup (List.replicate n.toNat w))):=upd_Same hp;exact k _ _ ((s1.trans s2).trans s3) (den_tup (SqT.of upd_same) (dens_rep ((dw.up s2).up s3) _))
end
end ZS
namespace ZQ
open PySem PySem.Spec PyProof.Rows L2 ZS
section
variable {X:Cx}{a b:Expr}{pos:Pos}{fa fb:Z.EF}
theorem de_repT(ha:QW X a fa)(hb:QW X b fb):QE X (.BinOp a .Mult b pos) (Z.eB Z.oRepT fa fb):=⟨ZS.de_repT ha.p hb.p⟩
end
end ZQ
noncomputable section
namespace Z
def cutC(c:Nat):List Nat->List (List Nat)
 | []=>[[]]
 | x :: r=>if x=c then[] :: cutC c r else match cutC c r with
  | []=>[[x]]
  | p :: ps=>(x :: p) :: ps
def splK:D->D->Res (List D)
 | .str cs,.str [c]=>guard (cs.length+2≤line) (.ok ((cutC c cs).map .str))
 | _,_=>.bad
def lSplit(a b:EF)(ρ:Env):Res (List D):=(a ρ).bind λ x=>(b ρ).bind λ y=>splK x y
def tlD:D->D->Res (List D)
 | .tup xs,.lst ys=>.ok (zipD xs ys)
 | _,_=>.bad
def iZipL(a b:EF)(ρ:Env):Res (List D):=(a ρ).bind λ x=>(b ρ).bind λ y=>tlD x y
@[simp] theorem iZipL_a(a b:EF)(ρ:Env):iZipL a b ρ=(a ρ).bind λ x=>(b ρ).bind λ y=>tlD x y:=rfl
@[simp] theorem tlD_a(xs ys:List D):tlD (.tup xs) (.lst ys)=.ok (zipD xs ys):=rfl
@[simp] theorem lSplit_a(a b:EF)(ρ:Env):lSplit a b ρ=(a ρ).bind λ x=>(b ρ).bind λ y=>splK x y:=rfl
end Z
end
namespace ZS
open PySem PySem.Spec PyProof.Rows L2
section
variable {prog:Program}{w:World}{A:Around}{E:Value->Shared->Prop}{s:Shared}{x y:Str}{t u:Tok}{Q:Value->Shared->Prop}
end
section
variable {X:Cx}{o a b:Expr}{pos p p2:Pos}{fa fb:Z.EF}{elts:List Expr}{x1:Nat}
end
end ZS
namespace ZQ
open PySem PySem.Spec PyProof.Rows L2 ZS
section
variable {X:Cx}{o a b:Expr}{pos p p2:Pos}{fa fb:Z.EF}{elts:List Expr}{x1:Nat}
end
end ZQ
noncomputable section
namespace Z
def signsD(cs:List Nat):List D:=cs.map λ c=>.str [c]
def lsK:D->Res (List D)
 | .str cs=>guard (cs.length≤line) (.ok (signsD cs))
 | _=>.bad
def lOfS(a:EF)(ρ:Env):Res (List D):=(a ρ).bind lsK
@[simp] theorem lOfS_a(a:EF)(ρ:Env):lOfS a ρ=(a ρ).bind lsK:=rfl
@[simp] theorem lsK_a(cs:List Nat):lsK (.str cs)=guard (cs.length≤line) (.ok (signsD cs)):=rfl
def oTupS(x:D):Res D:=(lsK x).map D.tup
@[simp] theorem oTupS_a(cs:List Nat):oTupS (.str cs)=guard (cs.length≤line) (.ok (.tup (signsD cs))):=by unfold oTupS;rw[lsK_a];unfold guard;split<;>rfl
end Z
end
namespace ZS
open PySem PySem.Spec PyProof.Rows L2
section
variable {prog:Program}{w:World}{A:Around}{E:Value->Shared->Prop}{s:Shared}{R:Result->Shared->Prop}{x:Str}{t:Tok}
end
section
variable {X:Cx}{a b e:Expr}{pos p2:Pos}{fa fb:Z.EF}
end
end ZS
namespace ZQ
open PySem PySem.Spec PyProof.Rows L2 ZS
section
variable {X:Cx}{a b e:Expr}{pos p2:Pos}{fa fb:Z.EF}
end
end ZQ
namespace PySem
namespace F
end F
namespace F
end F
def Heap.IsRvd(h:Heap)(a t:Addr)(i:Int):Prop:=∃o,h.get? a=some o∧o.cls=.type "reversed" ∧ o.data=.fields #[.ref t,rawInt i]
theorem Heap.IsRvd.typeIs{s:Shared}{a l:Addr}{i:Int}(x:s.heap.IsRvd a l i):s.TypeIs (.ref a) "reversed" := let ⟨o,ho,hc,_⟩:=x;⟨o,ho,hc⟩
theorem Heap.IsRvd.at{h h':Heap}{a l:Addr}{i:Int}(x:h.IsRvd a l i)(e:∀o,h.get? a=some o->h'.get? a=some o):h'.IsRvd a l i:=let ⟨o,ho,r⟩:=x;⟨o,e _ ho,r⟩
section
variable {prog:Program}{w:World}{A:Around}{E:Value->Shared->Prop}{s:Shared}
end
end PySem
noncomputable section
namespace Z
def rvK:D->Res (List D)
 | .tup xs=>.ok xs.reverse
 | .lst xs=>.ok xs.reverse
 | _=>.bad
def lRevd(a:EF)(ρ:Env):Res (List D):=(a ρ).bind rvK
@[simp] theorem lRevd_a(a:EF)(ρ:Env):lRevd a ρ=(a ρ).bind rvK:=rfl
@[simp] theorem rvK_tup(xs:List D):rvK (.tup xs)=.ok xs.reverse:=rfl
@[simp] theorem rvK_lst(xs:List D):rvK (.lst xs)=.ok xs.reverse:=rfl
end Z
end
namespace PySem
section
variable {prog:Program}{w:World}{A:Around}{s:Shared}{R:Result->Shared->Prop}
variable {I:Addr}{fp wr:List Addr}{G:Array GenState->Array GenState->Prop}{n:Nat}{P:Nat->Value->Prop}{St:Nat->Shared->Prop}
end
section
variable {prog:Program}{w:World}{A:Around}{E:Value->Shared->Prop}{s:Shared}{I t:Addr}{items:Array Value}{Q:Value->Shared->Prop}
end
end PySem
namespace ZS
open PySem PySem.Spec PyProof.Rows L2
section
variable {X:Cx}{a:Expr}{pos p p1 p2:Pos}{fa:Z.EF}
end
end ZS
namespace ZQ
open PySem PySem.Spec PyProof.Rows L2 ZS
section
variable {X:Cx}{a:Expr}{pos p p1 p2:Pos}{fa:Z.EF}
end
end ZQ
noncomputable section
namespace Z
def zbK(x:D):Option (Option L)->Res (List D)
 | some (some (.bor ys))=>match x with
  | .tup xs=>.ok (zipD xs ys)
  | _=>.bad
 | some (some (.val (.tup ys)))=>match x with
  | .tup xs=>.ok (zipD xs ys)
  | _=>.bad
 | _=>.bad
def iZipB(a:EF)(i:Nat)(ρ:Env):Res (List D):=(a ρ).bind λ x=>zbK x ρ[i]?
@[simp] theorem iZipB_a(a:EF)(i:Nat)(ρ:Env):iZipB a i ρ=(a ρ).bind λ x=>zbK x ρ[i]?:=rfl
@[simp] theorem zbK_bor(xs ys:List D):zbK (.tup xs) (some (some (.bor ys)))=.ok (zipD xs ys):=rfl
@[simp] theorem zbK_tup(xs ys:List D):zbK (.tup xs) (some (some (.val (.tup ys))))=.ok (zipD xs ys):=rfl
end Z
end
namespace ZS
open PySem PySem.Spec PyProof.Rows L2
theorem bd1{fd:FuncData}{ps:List Str}(h:∀a0:Value,bindArgs fd ⟨[a0],[]⟩=pure (ps.zip [a0])):∀us:List Value,us.length=1->bindArgs fd ⟨us,[]⟩=pure (ps.zip us)
 | [a0],_=>h a0
theorem bd2{fd:FuncData}{ps:List Str}(h:∀a0 a1:Value,bindArgs fd ⟨[a0,a1],[]⟩=pure (ps.zip [a0,a1])):∀us:List Value,us.length=2->bindArgs fd ⟨us,[]⟩=pure (ps.zip us)
 | [a0,a1],_=>h a0 a1
theorem bd3{fd:FuncData}{ps:List Str}(h:∀a0 a1 a2:Value,bindArgs fd ⟨[a0,a1,a2],[]⟩=pure (ps.zip [a0,a1,a2])):∀us:List Value,us.length=3->bindArgs fd ⟨us,[]⟩=pure (ps.zip us)
 | [a0,a1,a2],_=>h a0 a1 a2
theorem bd4{fd:FuncData}{ps:List Str}(h:∀a0 a1 a2 a3:Value,bindArgs fd ⟨[a0,a1,a2,a3],[]⟩=pure (ps.zip [a0,a1,a2,a3])):∀us:List Value,us.length=4->bindArgs fd ⟨us,[]⟩=pure (ps.zip us)
 | [a0,a1,a2,a3],_=>h a0 a1 a2 a3
theorem bd5{fd:FuncData}{ps:List Str}(h:∀a0 a1 a2 a3 a4:Value,bindArgs fd ⟨[a0,a1,a2,a3,a4],[]⟩=pure (ps.zip [a0,a1,a2,a3,a4])):∀us:List Value,us.length=5->bindArgs fd ⟨us,[]⟩=pure (ps.zip us)
 | [a0,a1,a2,a3,a4],_=>h a0 a1 a2 a3 a4
def StbK(H0 H1:Hp):Hp->Prop:=λ H2=>Stb H1 H2∧aJ H0 H2
def tZk(K:PySem.W.Frag)(H0:Hp)(f:Z.LF):TI:=λ σ H R=>∃ρ ds,RS K H0 H σ ρ∧f ρ=.ok ds∧∀J H',aJ H H'->ItZ K J (StbK H0 H') ds->R J H'
abbrev DK(X:Cx)(H0:Hp)(tg e:Expr)(f:Z.LF):Prop:=PI X tg e (tZk X.K H0 f)
theorem Gives.imp{K:PySem.W.Frag}{J:Inn}{S S':Hp->Prop}{ds:List Z.D}(h:Gives K J S ds)(k:∀H,S' H->S H):Gives K J S' ds :=
 ⟨λ i d H1 s=>h.at_ i d H1 (k _ s),λ H1 s=>h.end_ H1 (k _ s)⟩
section
variable {X:Cx}{H0:Hp}{tg a b:Expr}{pos p p2:Pos}{fa:Z.EF}{elts:List Expr}{x1:Nat}{g:Z.SF}
end
end ZS
namespace ZQ
open PySem PySem.Spec PyProof.Rows L2 ZS
structure QK(X:Cx)(H0:Hp)(tg e:Expr)(f:Z.LF):Prop where p:DK X H0 tg e f
section
variable {X:Cx}{H0:Hp}{tg a b:Expr}{pos p p2:Pos}{fa:Z.EF}{elts:List Expr}{x1:Nat}{g:Z.SF}
end
end ZQ
noncomputable section
namespace Z
def oAddI:D->D->Res D
 | .int a,.int b=>.ok (.int (a+b))
 | _,_=>.bad
@[simp] theorem oAddI_int(a b:Int):oAddI (.int a) (.int b)=.ok (.int (a+b)):=rfl
def oIsB(c:Bool):D->Res D
 | .bl b=>.ok (.bl (b==c))
 | _=>.bad
@[simp] theorem oIsB_bl(c b:Bool):oIsB c (.bl b)=.ok (.bl (b==c)):=rfl
def oNotB(c:Bool):D->Res D
 | .bl b=>.ok (.bl (b != c))
 | _=>.bad
@[simp] theorem oNotB_bl(c b:Bool):oNotB c (.bl b)=.ok (.bl (b != c)):=rfl
def intsL:List D->Option (List Int)
 | []=>some []
 | .int i :: r=>(intsL r).map (i :: ·)
 | _ :: _=>none
@[simp] theorem intsL_map:∀ns:List Int,intsL (ns.map .int)=some ns
 | []=>rfl
 | n :: ns=>by show(intsL (ns.map .int)).map (n :: ·)=_;rw[intsL_map ns];rfl
end Z
end
noncomputable section
namespace Z
end Z
end
namespace ZS
open PySem PySem.Spec PyProof.Rows L2
section
variable {X:Cx}{H0:Hp}{pos:Pos}
theorem eV_at{i:Nat}{ρ:Z.Env}{d:Z.D}(h:Z.eV i ρ=.ok d):ρ[i]?=some (some (.val d)):=by
 unfold Z.eV at h;split at h
 ·rename_i e;cases h;exact e
 ·cases h
theorem ds_aug{i:Nat}{x:Str}{a:Expr}{fa:Z.EF}{pos':Pos}{op:Operator}{r:R2}{o:Z.D->Z.D->Z.Res Z.D}(hN:X.N.Nodup)(hi:X.N[i]?=some x)(hx:Loc X.env.scope x)(hr:OpR X (inplaceOp op) r)(hz:OpZ X.K r o)(he:DE X a fa)(hf:X.fn x=true∨X.env.scope.names.lookup x=some .local):
  DS X H0 (.AugAssign (.Name x pos') op a pos) (Z.sSet i (Z.eB o (Z.eV i) fa)):=PS.imp (ps_aug hN hi hx he hr hf) λ D σ H ⟨ρ,fl,rs,e,k⟩=>by
 obtain⟨d,ea,e⟩:=Z.Res.ax e;cases e;obtain⟨dx,e1,ea⟩:=Z.Res.ax ea;obtain⟨dy,e2,ea⟩:=Z.Res.ax ea;obtain⟨v,si,dv⟩:=rs.re.get i _ (eV_at e1);refine⟨v,si,ρ,dy,rs.re,e2,λ y H1 s1 dy1=>?_⟩;exact hz v y dx dy d H1 _ (.inl (Den.up dv s1)) (.inl dy1) ea λ z H2 s2 dz=>k _ H2 (stb (s1.trans s2)) ((rs.up (s1.trans s2)).setV dz)
theorem iop_mulZ:OpR X (inplaceOp .Mult) (rI CMulZ λ i j=>.int (i*j)):=opI λ _ _ _ _ _ _ _ hc q=>imul_int q hc
theorem oz_mul{K:PySem.W.Frag}:OpZ K (rI CMulZ λ i j=>.int (i*j)) Z.oMul:=opz_int λ dx dy d e=>by
 unfold Z.oMul at e;split at e
 ·unfold Z.guard at e;split at e
  ·rename_i h;cases e;exact⟨_,_,rfl,rfl,mulFits_ok h,rfl⟩
  ·cases e
 ·cases e
end
end ZS
namespace ZQ
open PySem PySem.Spec PyProof.Rows L2 ZS
section
variable {X:Cx}{H0:Hp}{pos:Pos}
theorem ds_mulA{i:Nat}{x:Str}{a:Expr}{fa:Z.EF}{pos':Pos}(hN:X.N.Nodup)(hi:X.N[i]?=some x)(hx:Loc X.env.scope x)(he:QE X a fa)(hf:X.fn x=true∨X.env.scope.names.lookup x=some .local:=by first | exact .inl rfl | exact .inr rfl | assumption):
  QS X H0 (.AugAssign (.Name x pos') .Mult a pos) (Z.sSet i (Z.eB Z.oMul (Z.eV i) fa)):=⟨ZS.ds_aug hN hi hx iop_mulZ oz_mul he.p hf⟩
end
end ZQ
namespace ZMx
open PySem PySem.Spec PyProof.Rows
section
variable {prog:Program}{w:World}{A:Around}{R:Result->Shared->Prop}{I S:Addr}{fp wr:List Addr}{n:Nat}{P:Nat->Value->Prop}{St:Nat->Heap->Prop}
abbrev two(b:Value)(c:Nat):Obj:={ cls:=.type "list",data:=.seq #[b,b] c }
abbrev lp(I S:Addr)(kw:List (Str×Value)):Code:=.builtin "max.loop" ⟨[.ref I,.none,.ref S],kw⟩
theorem nm:(toString "max" ++ toString ".loop" : String) = "max.loop" := by decide
theorem go(W:Walks prog w A.in1 I fp wr n P St){bt:Nat->Nat->Bool}(hc:CmpOf prog w A.in1 .Gt P bt)(out:S∉fp)(kw:List (Str×Value)):
  ∀(k j:Nat)(s:Shared)(b:Value)(c:Nat),n=j+1+k->St (j+1) s.heap->P (argBest bt j) b->s.heap.get? S=some (two b c) ->
   (∀v h' tk,P (argBest bt (n-1)) v->(∀a o,a≠S->a∉wr->s.heap.get? a=some o->h'.get? a=some o)->R (.ok (.ret v)) { s with heap:=h',toks:=tk }) ->
   codeAny (model prog w) A (lp I S kw) R s:=by
 have ow:S∉wr:=λ z=>out (W.sub S z);have oth:∀{h:Heap}{a:Addr}{o:Obj}(f:Obj->Obj),a≠S->h.get? a=some o->(h.update S f).get? a=some o:=λ f ne e=>(Heap.get?_update_other _ _ (Ne.symm ne)).trans e;intro k
 induction k with
 | zero =>intro j s b c hn st pb gS fin;refine codeAny_builtin PySem.F.entry_max_loop ?_;rw[Around.under_plainId PySem.F.plain_max_loop (⟨[.ref I,.none,.ref S],kw⟩)];show wpAny (model prog w) A.in1 (seqItems? (.ref S) >>= _) _ _ s;refine wpAny_bind (wpAny_seqItems gS rfl (wpAny_bind (wpAny_tryCatch (W.done s _ _ (by rw[hn];exact st) λ h1 t1 k1=>?_))));have g1:=k1 S _ ow gS;show wpAny (model prog w) A.in1 (updateSeq S (λ _=>#[]) >>= _) _ _ _;refine wpAny_bind (wpAny_updateSeq g1 rfl (wpAny_bind (wpAny_letGo (wpAny_pure ?_))));refine fin b _ t1 (by rw[hn];exact pb) λ a o ne nw e=>oth _ ne (k1 a o nw e)
 | succ k ih =>
  intro j s b c hn st pb gS fin;refine codeAny_builtin PySem.F.entry_max_loop ?_;rw[Around.under_plainId PySem.F.plain_max_loop (⟨[.ref I,.none,.ref S],kw⟩)];show wpAny (model prog w) A.in1 (seqItems? (.ref S) >>= _) _ _ s;refine wpAny_bind (wpAny_seqItems gS rfl (wpAny_bind (wpAny_tryCatch (W.item (j+1) s _ _ (by lia) st λ v h1 t1 pv st1 k1=>?_))));have g1:=k1 S _ ow gS;refine wpAny_bind (wpAny_pure ?_);show wpAny (model prog w) A.in1 (tryCatch (holding [v,v] (richCompare .Gt v b >>= _)) _ >>= _) _ _ _;refine wpAny_bind (wpAny_tryCatch (wpAny_holding (wpAny_bind (hc (j+1) (argBest bt j) v b _ _ _ pv pb (wpAny_bind (wpAny_holding (wpAny_truthy_bool (wpAny_bind (wpAny_letGo (wpAny_pure ?_))))))))));have stay:∀(f:Obj->Obj),St (j+1+1) (h1.update S f):=λ f=>W.frame _ _ _ st1 λ a ha o e=>oth f (λ z=>out (z▸ha)) e;cases q:bt (j+1) (argBest bt j)with
  | true =>simp only[if_true];refine wpAny_bind (wpAny_updateSeq g1 rfl (wpAny_bind (wpAny_letGo ?_)));rw[nm];refine wpAny_pure ⟨plainId_quiet PySem.F.plain_max_loop _,ih (j+1) _ v _ (by lia) (stay _) (by simp only[argBest,q,if_true];exact pv) (Heap.get?_update_self _ g1 rfl) λ v' h2 t2 pv' k2=>?_⟩;exact fin v' h2 t2 pv' λ a o ne nw e=>k2 a o ne nw (oth _ ne (k1 a o nw e))
  | false =>simp only[Bool.false_eq_true,if_false];refine wpAny_bind (wpAny_letGo ?_);rw[nm];refine wpAny_pure ⟨plainId_quiet PySem.F.plain_max_loop _,ih (j+1) _ b c (by lia) st1 (by simp only[argBest,q,Bool.false_eq_true,if_false];exact pb) g1 λ v' h2 t2 pv' k2=>?_⟩;exact fin v' h2 t2 pv' λ a o ne nw e=>k2 a o ne nw (k1 a o nw e)
theorem first(W:Walks prog w A.in1 I fp wr n P St){bt:Nat->Nat->Bool}(hc:CmpOf prog w A.in1 .Gt P bt)(out:S∉fp){x:Str}{d:Value}{s:Shared}{c:Nat}(st:St 0 s.heap)(gS:s.heap.get? S=some { cls:=.type "list",data:=.seq #[] c })
  (none_:n=0->∀h' tk,(∀a o,a≠S->a∉wr->s.heap.get? a=some o->h'.get? a=some o)->R (.ok (.ret d)) { s with heap:=h',toks:=tk })
  (fin:0 < n->∀v h' tk,P (argBest bt (n-1)) v->(∀a o,a≠S->a∉wr->s.heap.get? a=some o->h'.get? a=some o)->R (.ok (.ret v)) { s with heap:=h',toks:=tk }) :
  codeAny (model prog w) A (lp I S [(x,d)]) R s:=by
 have ow:S∉wr:=λ z=>out (W.sub S z);have oth:∀{h:Heap}{a:Addr}{o:Obj}(f:Obj->Obj),a≠S->h.get? a=some o->(h.update S f).get? a=some o:=λ f ne e=>(Heap.get?_update_other _ _ (Ne.symm ne)).trans e;refine codeAny_builtin PySem.F.entry_max_loop ?_;rw[Around.under_plainId PySem.F.plain_max_loop (⟨[.ref I,.none,.ref S],[(x,d)]⟩)];show wpAny (model prog w) A.in1 (seqItems? (.ref S) >>= _) _ _ s;by_cases h0:n=0
 ·subst h0;refine wpAny_bind (wpAny_seqItems gS rfl (wpAny_bind (wpAny_tryCatch (W.done s _ _ st λ h1 t1 k1=>?_))));refine wpAny_bind (wpAny_rule (wpAny_pure ?_));exact none_ rfl h1 t1 λ a o _ nw e=>k1 a o nw e
 ·have hp:0 < n:=Nat.pos_of_ne_zero h0;refine wpAny_bind (wpAny_seqItems gS rfl (wpAny_bind (wpAny_tryCatch (W.item 0 s _ _ hp st λ v h1 t1 pv st1 k1=>?_))));have g1:=k1 S _ ow gS;refine wpAny_bind (wpAny_pure ?_);refine wpAny_bind (wpAny_updateSeq g1 rfl ?_);rw[nm];refine wpAny_pure ⟨plainId_quiet PySem.F.plain_max_loop _,go W hc out [(x,d)] (n-1) 0 _ v _ (by lia) (W.frame _ _ _ st1 λ a ha o e=>oth _ (λ z=>out (z▸ha)) e) pv (Heap.get?_update_self _ g1 rfl) λ v' h2 t2 pv' k2=>?_⟩;exact fin hp v' h2 t2 pv' λ a o ne nw e=>k2 a o ne nw (oth _ ne (k1 a o nw e))
theorem args(a d:Value):argsOk "max" ⟨[a],[(Str.ofString "default",d)]⟩:=by unfold argsOk;kernel_rfl
theorem binds(d:Value):Builtin.Builtins.bindParams "max" ["key", "default"] 0 ⟨[],[(Str.ofString "default",d)]⟩=pure [none,some d]:=by kernel_rfl
theorem call{x d:Value}{Q:Value->Shared->Prop}{E:Value->Shared->Prop}{s:Shared}
  (h:wpAny (model prog w) A.in1 (pyIter x) (λ it s2=>∃ I fp wr n P St bt,it=.ref I∧Walks prog w A.in1 I fp wr n P St∧St 0 s2.heap∧(∀ b∈fp,b < s2.heap.objs.size)∧CmpOf prog w A.in1 .Gt P bt ∧
   (n=0->∀h' tk,(∀a o,a∉wr->s2.heap.get? a=some o->h'.get? a=some o)->Q d { s2 with heap:=h',toks:=tk }) ∧
   (0 < n->∀v h' tk,P (argBest bt (n-1)) v->(∀a o,a∉wr->s2.heap.get? a=some o->h'.get? a=some o)->Q v { s2 with heap:=h',toks:=tk })) E s) :
  wpAny (model prog w) A (PySem.call (.builtin "max") [x] [(Str.ofString "default",d)]) Q E s:=by
 refine kmk_tree PySem.F.kind_max PySem.F.plain_max PySem.F.entry_max (args x d) ?_;show wpAny (model prog w) A.in1 (Builtin.Builtins.bindParams "max" ["key", "default"] 0 ⟨[],[(Str.ofString "default",d)]⟩ >>= _) _ _ s;rw[binds];refine wpAny_bind (wpAny_pure (wpAny_bind (wpAny_pure (wpAny_bind (wpAny_mono h (λ it s2 q=>?_) λ _ _ e=>e)))));obtain⟨I,fp,wr,n,P,St,bt,rfl,W,st,lt,hc,q0,q1⟩:=q;refine wpAny_bind (wpAny_newObj_type ?_);have out:s2.heap.objs.size∉fp:=λ z=>Nat.lt_irrefl _ (lt _ z);have keep:∀{h':Heap},(∀a o,a≠s2.heap.objs.size->a∉wr->(s2.heap.push { cls:=.type "list",data:=.seq #[] }).get? a=some o->h'.get? a=some o)->∀a o,a∉wr->s2.heap.get? a=some o->h'.get? a=some o :=
  λ k a o nw e=>k a o (Nat.ne_of_lt (Heap.lt_size e)) nw (Heap.get?_push_of_some _ e)
 rw[nm];refine wpAny_pure ⟨plainId_quiet PySem.F.plain_max_loop _,first W hc out (W.frame _ _ _ st λ a _ o e=>Heap.get?_push_of_some _ e) (Heap.get?_push_size _ rfl) (λ z h' tk k=>q0 z h' tk (keep k)) λ z v h' tk pv k=>q1 z v h' tk pv (keep k)⟩
end
end ZMx
namespace ZMx
open PySem PySem.Spec PyProof.Rows
section
variable {prog:Program}{w:World}{A:Around}{R:Result->Shared->Prop}{I S:Addr}{fp wr:List Addr}{n:Nat}{P:Nat->Value->Prop}{St:Nat->Heap->Prop}
end
end ZMx
namespace ZS
open PySem PySem.Spec PyProof.Rows L2
section
variable {X:Cx}{a c:Expr}{fa fc:Z.EF}{pos:Pos}
end
end ZS
namespace ZQ
open PySem PySem.Spec PyProof.Rows L2 ZS
section
variable {X:Cx}{a c:Expr}{fa fc:Z.EF}{pos:Pos}
end
end ZQ
namespace ZS
open PySem PySem.Spec PyProof.Rows L2
section
variable {X:Cx}{a c:Expr}{fa fc:Z.EF}{pos:Pos}
end
end ZS
namespace ZQ
open PySem PySem.Spec PyProof.Rows L2 ZS
section
variable {X:Cx}{a c:Expr}{fa fc:Z.EF}{pos:Pos}
end
end ZQ
noncomputable section
namespace Z
def keyI(e:EF)(ρ:Env)(d:D):Res Int:=(e (some (.val d) :: ρ)).bind λ y=>match y with
 | .int k=>.ok k
 | _=>.bad
theorem keyI_ok{e:EF}{ρ:Env}{d:D}{k:Int}(h:keyI e ρ d=.ok k):e (some (.val d) :: ρ)=.ok (.int k):=by
 unfold keyI at h;obtain⟨y,e1,e2⟩:=Res.ax h;split at e2
 ·cases e2;exact e1
 ·cases e2
def btr(mx:Bool)(k kb:Int):Bool:=if mx=true then decide (k > kb)else decide (k < kb)
def goK(mx:Bool)(e:D->Res Int)(b:D)(kb:Int):List D->Res D
 | []=>.ok b
 | d :: r=>(e d).bind λ k=>if btr mx k kb=true then goK mx e d k r else goK mx e b kb r
def pickK(mx:Bool)(z:Res D)(e:D->Res Int):List D->Res D
 | []=>z
 | d :: r=>(e d).bind λ k=>goK mx e d k r
def eExt(mx:Bool)(z:Res D)(a:EF)(is:List Nat)(e:EF)(ρ:Env):Res D:=(a ρ).bind λ x=>match x with
 | .lst ds=>pickK mx z (keyI e (capt ρ is)) ds
 | _=>.bad
end Z
end
noncomputable section
namespace Z
end Z
end
namespace ZS
open PySem PySem.Spec PyProof.Rows L2 PySem.W
section
variable {X:Cx}{pins:List (Addr×Obj)}{σ:St}{H:Hp}{s:Shared}
theorem Off.nofs{C:Addr}(o:Off X pins H C)(ok:X.Ok):C∉X.fs:=λ hb=>by obtain⟨_,ob,ho,_⟩:=ok.funs.mem hb;exact absurd (Nat.lt_of_lt_of_le (Heap.lt_size ho) o.new) (Nat.lt_irrefl _)
theorem Off.nostk{C:Addr}(o:Off X pins H C)(I:Inv X pins σ H s):C∉frs X.stack:=λ hb=>by
 rcases List.mem_cons.mp (I.stkSub C hb)with z | z
 ·exact o.loc z
 ·exact o.nofs I.ok z
theorem Off.up{H':Hp}{C:Addr}(o:Off X pins H C)(h:H' C=none):Off X pins H' C:=⟨h,o.loc,o.new,o.cell,o.pin⟩
theorem Off.fresh{C:Addr}(I:Inv X pins σ H s)(hC:s.heap.objs.size≤C){H':Hp}(h:H' C=none):Off X pins H' C where
 free:=h
 loc:=Nat.ne_of_gt (Nat.lt_of_lt_of_le I.lt hC)
 new:=Nat.le_trans I.sz hC
 cell:=λ x c e=>by obtain⟨v,o,ho,_⟩:=I.cell x c e;exact Nat.ne_of_lt (Nat.lt_of_lt_of_le (Heap.lt_size ho) hC)
 pin:=λ p hp=>Nat.ne_of_lt (Nat.lt_of_lt_of_le (Heap.lt_size (I.pin p hp).1) hC)
theorem code_snoc{pos q:Pos}{c cv:Value}(l:List Value)(h:TriplesOk l)(e:codeAmong q (l++[rawInt pos.line,rawInt pos.col,c])=some cv):codeAmong q l=some cv∨cv=c:=by
 fun_induction TriplesOk l with
 | case1 =>
  simp only[List.nil_append,codeAmong,rawInt]at e;split at e
  ·cases e;exact .inr rfl
  ·cases e
 | case2 a t b u x rest ih =>
  simp only[List.cons_append,codeAmong]at e ⊢;split at e
  ·rename_i hc;rw[if_pos hc];exact .inl e
  ·rename_i hc;rw[if_neg hc];exact ih h e
 | case3 l h1 h2=>exact h.elim
structure LamAt(X:Cx)(pins:List (Addr×Obj))(q:Str)(params:Arguments)(body:Expr)(scope:Scope)(cl:List (Str×Addr))(H:Hp)(s:Shared)(f c':Addr)(pm ctv:Value):Prop where
 off:Off X pins H f
 obj:s.heap.get? f=some (kla_obj "<lambda>" q params body scope cl pm c' ctv)
 code:H c'=some (.cod q)
theorem lam_make{x:Str}{c P:Addr}{params:Arguments}{body:Expr}{scope:Scope}{pos:Pos}{cl:List (Str×Addr)}(hx:x∈lamNames)(ht:tabIn X.K x=some (c,P))(hcode:X.env.code=.ref c)(hq:X.env.qual ++ "<lambda>" = lamQ x)
  (hdef:defaultsOf params X.env=([],[])) (hcl:closureFor scope X.env=pure cl) (I:Inv X pins σ H s) :
  wpAny (model X.prog X.w) X.A (eval (.Lambda params body scope pos) X.env) (λ r s'=>∃f c' pm ctv H',r=.ref f∧Inv X pins σ H' s'∧aJ H H'∧LamAt X pins (lamQ x) params body scope cl H' s' f c' pm ctv) X.xe s:=by
 refine kla_eval hdef ?_;rw[hq];obtain⟨hT,hC,bm,ob,b1,b2,b3,b4,b5,b6⟩:=I.tab x hx c P ht;obtain⟨ps,g,tri,am⟩:=I.hok P _ hT;have hgs:s.heap.Ns mainGlobals X.mg:=I.mod.glob.keeps I.bk;have baseP:∀b o,X.base.get? b=some o->b≠P:=λ b o e z=>by have:=(I.bs b o e).2;rw[z,hT]at this;cases this
 have hgP:mainGlobals≠P:=by obtain⟨o,es,ep,e,_⟩:=I.mod.glob;exact baseP _ _ e
 have hbG:bm≠mainGlobals:=λ z=>by obtain⟨o,es,ep,e,hd,_⟩:=I.mod.glob;rw[z,e]at b3;cases b3;rw[hd]at b6;cases b6
 have hB:s.heap.BuiltinsAt X.mg P:=⟨bm,ob,b1,b2,hbG,baseP _ _ b3,I.bk _ _ b3,b4,b5,b6⟩
 cases hf:codeAmong pos ps.toList with
 | some cv =>obtain⟨c',rfl,hc'⟩:=am pos cv hf;refine kla_makeFunctionHit (mg:=X.mg) hcl I.ok.glob hgs hcode (hC.keeps I.bk) g tri hf hB λ ctv h' tk hk hsz=>?_;have I':Inv X pins σ H { s with heap:=h'.push (kla_obj "<lambda>" (lamQ x) params body scope cl ((X.mg "__name__").getD .none) c' ctv),toks:=tk }:=I.kept λ b u e=>Heap.get?_push_of_some _ (hk b u e);exact⟨_,c',_,ctv,H,rfl,I',aJ.refl H,⟨Off.fresh I hsz (I.hok.fresh hsz),Heap.get?_push_size _ rfl,hc'⟩⟩
 | none =>
  refine kla_makeFunction (mg:=X.mg) hcl I.ok.glob hgs hcode (hC.keeps I.bk) g tri hf hgP hB λ c' ctv h' tk hx' hge hlt hrec htb=>?_;have hn:H c'=none:=I.hok.fresh hge;have kp:∀b o,b≠P->s.heap.get? b=some o->(h'.push (kla_obj "<lambda>" (lamQ x) params body scope cl ((X.mg "__name__").getD .none) c' ctv)).get? b=some o:=λ b o hb e=>Heap.get?_push_of_some _ (hx' b o hb e);have neP:∀b,H b=none->b≠P:=λ b e z=>by rw[z,hT]at e;cases e
  have nec:∀b u,H b=some u->b≠c':=λ b u e=>ne_of_none e hn;have ltc:∀b o,s.heap.get? b=some o->b≠c':=λ b o e=>Nat.ne_of_lt (Nat.lt_of_lt_of_le (Heap.lt_size e) hge);have hP:(h'.push (kla_obj "<lambda>" (lamQ x) params body scope cl ((X.mg "__name__").getD .none) c' ctv)).get? P=some (tabObj (ps++#[rawInt pos.line,rawInt pos.col,.ref c'])):=Heap.get?_push_of_some _ htb;have un:Un X.fs [] H (upd H c' (.cod (lamQ x))) s.heap (h'.push (kla_obj "<lambda>" (lamQ x) params body scope cl ((X.mg "__name__").getD .none) c' ctv)):=by
   refine⟨λ b o e n _ _=>kp b o (neP b n) e,λ b o e n _ _=>⟨o.slots,kp b o (neP b n) e⟩,λ b o e n _=>by rw[aM (ltc b o e)];exact n,λ b o e _=>?_,λ b xs e=>by rw[aM (nec _ _ e)];exact e,λ b o u e=>by rw[aM (nec _ _ e)];exact e,λ b u _ e=>by rw[aM (nec _ _ e)];exact e⟩;by_cases hb:b=P
   ·exact⟨_,hb▸hP⟩
   ·exact⟨o,kp b o hb e⟩
  have hok:HOk X.prog X.w (upd H c' (.cod (lamQ x))) (h'.push (kla_obj "<lambda>" (lamQ x) params body scope cl ((X.mg "__name__").getD .none) c' ctv)):=λ b u e=>by
   by_cases hb:b=c'
   ·subst hb;rw[upd_same]at e;cases e;obtain⟨c2,oc,vs,t,e2,hoc,r⟩:=hrec;cases e2;exact⟨_,oc,vs,t,rfl,Heap.get?_push_of_some _ hoc,r⟩
   ·rw[aM hb]at e;by_cases hbP:b=P
    ·subst hbP;rw[hT]at e;cases e;refine⟨_,hP,by rw[Array.toList_append];exact TriplesOk_snoc _ _ _ _ tri,λ p cv e2=>?_⟩;rw[Array.toList_append]at e2;rcases code_snoc _ tri e2 with z | rfl
     ·obtain⟨c2,e3,e4⟩:=am p cv z;exact⟨c2,e3,by rw[aM (nec _ _ e4)];exact e4⟩
     ·exact⟨c',rfl,upd_same⟩
    ·refine(I.hok b u e).stay (λ b2 v hc q=>kp b2 v ?_ q) (λ b2 q=>by rw[aM (nec _ _ q)];exact q) (λ b2 xs q=>by rw[aM (nec _ _ q)];exact q) λ b2 v _ q=>by rw[aM (nec _ _ q)];exact q
     rcases hc with rfl | hc
     ·exact hbP
     ·exact ne_of hc hT (λ z=>nomatch z)
  have hfn:(upd H c' (.cod (lamQ x))) h'.objs.size=none:=by rw[aM (Nat.ne_of_gt hlt)];exact I.hok.fresh (Nat.le_of_lt (Nat.lt_of_le_of_lt hge hlt))
  exact⟨_,c',_,ctv,_,rfl,I.un (t':=tk) un hok,upd_Same hn,⟨Off.fresh I (Nat.le_of_lt (Nat.lt_of_le_of_lt hge hlt)) hfn,Heap.get?_push_size _ rfl,upd_same⟩⟩
end
abbrev lamX(X:Cx)(N':List Str)(q:Str)(scope:Scope)(cl:List (Str×Addr))(f c':Addr)(s₂:Shared)(H₂:Hp):Cx :=
 { prog:=X.prog,w:=X.w,K:=X.K,mg:=X.mg,base:=X.base,A:=X.A.in1.deeper (envX q scope s₂.heap.objs.size f (.ref c') cl),N:=N',s₀:=s₂,H₀:=H₂,env:=envX q scope s₂.heap.objs.size f (.ref c') cl,outer:=X.stack,stack:=envX q scope s₂.heap.objs.size f (.ref c') cl :: X.stack,ex:=[],fn:=λ _=>false,calm:=true,pn:=[],xe:=λ _ _=>False }
section
variable {X:Cx}{pins:List (Addr×Obj)}{σ:St}{H:Hp}{s:Shared}{N':List Str}{is:List Nat}{scope:Scope}{body:Expr}{params:Arguments}{q:Str}{cl:List (Str×Addr)}{f c':Addr}{pm ctv:Value}{ρ:Z.Env}{fe:Z.EF}{x:Str}
theorem re_lam{K:PySem.W.Frag}{d:Z.D}{v:V}(h:RE K H σ ρ)(hd:Den K H d v):RE K H (some v :: sCap σ 0 is) (some (.val d) :: Z.capt ρ is):=by
 have R:=re_cap (n:=0) (is:=is) h (aJ.refl H);refine⟨by simp[sCap,Z.capt],λ i l e=>?_,λ i j xs ys a e1=>?_⟩
 ·cases i with
  | zero =>simp only[List.getElem?_cons_zero,Option.some.injEq]at e;subst e;exact⟨v,rfl,hd⟩
  | succ i =>obtain⟨u,h1,h2⟩:=R.re.get i l (by simpa using e);exact⟨u,by simpa using h1,h2⟩
 ·cases i with
  | zero=>simp at e1
  | succ i=>exact absurd (by simpa using e1) (cap_noown 0 is ρ i xs)
theorem lam_call{u : Value}{v : V}{d : Z.D}{k : Int}(hcalm : X.calm = true)(hroom : X.A.in1.depth < recursionLimit)(B : Blk X.N N' 1 is scope X.env.scope)(hx0 : N'[0]? = some x)(hgen : scope.isGenerator = false)(hco : scope.isCoroutine = false)
  (hbind:∀u,bindArgs (kla_fn "<lambda>" q params body scope cl pm (.ref c') ctv) ⟨[u],[]⟩=pure [(x,u)])
  (hcl1:∀x c,cl.lookup x=some c->X.env.cells.lookup x=some c) (hcl2:∀y∈scope.names,y.2=.free->(cl.lookup y.1).isSome=true)
  (he:∀cl f c' s H,DE (lamX X N' q scope cl f c' s H) body fe)
  (L:LamAt X pins q params body scope cl H s f c' pm ctv) (I:Inv X pins σ H s){E:Value->Shared->Prop}(re:RE X.K H σ ρ) (rv:RelV v u) (dv:Den X.K H d v) (ek:Z.keyI fe (Z.capt ρ is) d=.ok k) :
  wpAny (model X.prog X.w) X.A.in1 (call (.ref f) [u]) (λ r s'=>∃t H',r=.int k t∧aJ H H'∧Un (frs X.stack) [] H H' s.heap s'.heap∧HOk X.prog X.w H' s'.heap∧AllBare s'.gens∧s'.os=s.os) E s:=by
 have hrec:s.heap.CodeRec (.ref c') q:=I.hok c' _ L.code;obtain⟨x0,hx1,hxl⟩:=B.own 0 (Nat.zero_lt_one);rw[hx0]at hx1;cases hx1;refine wpAny_call (kla_callFunE hroom L.obj rfl hco hgen rfl hrec ?_);rw[hbind];refine wpAny_pure (wpAny_newFunctionEnv B.cell (λ y hy=>by rw[List.mem_singleton.mp hy];exact hxl) (λ h₁ hns hsb=>⟨I.nolimit.fresh _ hsb,?_⟩) B.kind);show codeAny _ _ (.expr body (envX q scope s.heap.objs.size f (.ref c') cl)) _ _;have old:∀b o,s.heap.get? b=some o->h₁.get? b=some o:=λ b o e=>hsb.extBut b o (Nat.ne_of_lt (Heap.lt_size e)) (Heap.get?_push_of_some _ e);have hfresh:H s.heap.objs.size=none:=I.hok.fresh (Nat.le_refl _);have ok:(lamX X N' q scope cl f c' s H).Ok:=by
  refine⟨I.ok.mod,B.kind,rfl,rfl,Nat.le_refl _,λ x y c e1 e2=>I.ok.inj x y c (hcl1 x c e1) (hcl1 y c e2),λ y hy=>?_,λ y c hf=>(by cases hf),λ _=>I.ok.hd hcalm,Around.frames_deeper I.ok.frames,.inr ⟨rfl,rfl⟩,
   λ b hb=>absurd (show b∈([]:List Addr)from hb) (by simp),I.bs,Nat.le_trans I.ok.bsz I.sz,λ b o _ hb=>absurd (show b∈([]:List Addr)from hb) (by simp),λ b hb=>absurd (show b∈([]:List Addr)from hb) (by simp),I.stack,I.stkFree⟩
  have hy':scope.names.lookup y=some .cell∨scope.names.lookup y=some .free:=hy;rcases hy' with z | z
  ·exact absurd rfl (B.cell _ (PySem.mem_of_lookup z))
  ·exact Option.isSome_iff_exists.mp (hcl2 _ (PySem.mem_of_lookup z) rfl)
 have cellS:∀x c,X.env.cells.lookup x=some c->c < s.heap.objs.size∧∀v,s.heap.IsCell c v->h₁.IsCell c v:=λ x c e=>by obtain⟨v,o,ho,hd⟩:=I.cell x c e;exact⟨Heap.lt_size ho,λ v' ⟨o',ho',hd'⟩=>⟨o',old c o' ho',hd'⟩⟩
 have I4 : Inv (lamX X N' q scope cl f c' s H) [] (some v :: sCap σ 0 is) H { s with heap := h₁, toks := s.toks + [(x, u)].length } := by
  refine⟨ok,rfl,I.bare,Un.kept old,⟨_,hns,λ i y w e1 e2 e3=>?_⟩,λ y c e=>?_,hfresh,λ y c e=>I.freeC y c (hcl1 y c e),λ p hp=>absurd (show p∈([]:List (Addr×Obj))from hp) (by simp),I.hok.kept old,?_,I.tab⟩
  ·cases i with
   | zero =>have e1':N'[0]?=some y:=e1;rw[hx0]at e1';cases e1';simp only[List.getElem?_cons_zero,Option.some.injEq]at e2;subst e2;refine⟨u,rv,.inl ⟨hxl,?_⟩⟩;simp
   | succ i =>
    have e2':(sCap σ 0 is)[i]?=some (some w):=by simpa using e2
    unfold sCap at e2';simp only[List.replicate_zero,List.nil_append,List.getElem?_map]at e2';cases r:is[i]? with
    | none=>rw[r]at e2';cases e2'
    | some j =>
     rw[r]at e2';simp only[Option.map_some]at e2';obtain⟨x',c1,c2,c3⟩:=B.cap i j r;have e1':N'[i+1]?=some y:=e1;rw[show i+1=1+i from Nat.add_comm _ _,c1]at e1';cases e1';have hσ:σ[j]?=some (some w):=by
      cases r2:σ[j]? with
      | none=>rw[r2]at e2';cases e2'
      | some z =>
       rw[r2]at e2';have:z=some w:=by simpa using e2'
       rw[this]
     obtain⟨m,hn,hl⟩:=I.loc;have hm:=PySem.mem_of_lookup c3;have hk:=B.free _ hm rfl;have hvis:Vis X.env.scope y:=by
      rcases hk with k | k
      ·exact .inr (.inl k)
      ·exact .inr (.inr k)
     obtain⟨u',ru,lk⟩:=hl j y w c2 hσ hvis;refine⟨u',ru,?_⟩;rcases lk with⟨k1,_⟩ | ⟨k1,c,hc,hcell⟩
     ·have k1':X.env.scope.names.lookup y=some .local:=k1;rcases hk with k | k
      ·rw[k]at k1';cases k1'
      ·rw[k]at k1';cases k1'
     ·obtain⟨c2',hc'⟩:=Option.isSome_iff_exists.mp (hcl2 _ hm rfl);have:c2'=c:=by have:=hcl1 y c2' hc';rw[hc]at this;exact(Option.some.inj this).symm
      subst this;exact .inr ⟨.inr c3,c2',hc',(cellS y c2' hc).2 _ hcell⟩
  ·obtain⟨v',hv⟩:=I.cell y c (hcl1 y c e);exact⟨v',(cellS y c (hcl1 y c e)).2 v' hv⟩
  ·have:=B.len;simp[sCap,this,Nat.add_comm]
 refine kla_codeExpr (wpAny_mono (he cl f c' s H [] _ _ H (λ v' H'=>aJ H H'∧v'=.int k) I4 ⟨_,_,re_lam re dv,Z.keyI_ok ek,λ v' H' s' d'=>⟨s',by simpa only[Den]using d'⟩⟩) (λ r s' hq=>?_) λ e s' hq=>hq.elim);obtain⟨v',H',J,rv',sm,rfl⟩:=hq;obtain⟨t,rfl⟩:=rv';exact⟨t,H',rfl,sm,J.base,J.hok,J.bare,J.os⟩
end
end ZS
namespace ZS
open PySem PySem.Spec PyProof.Rows L2 PySem.W
abbrev held(b:Value)(k:Value)(c:Nat):Obj:={ cls:=.type "list",data:=.seq #[b,k] c }
structure KLp(X:Cx)(pins:List (Addr×Obj))(σ:St)(H₀:Hp)(l I S:Addr)(vs:List V)(H:Hp)(s:Shared)(j i:Nat)(kb:Int):Prop where
 inv:Inv X pins σ H s
 sm:aJ H₀ H
 it:s.heap.IsListIter I l j
 offI:Off X pins H I
 offS:Off X pins H S
 best:∃b v tb c,vs[i]?=some v∧RelV v b∧s.heap.get? S=some (held b (.int kb tb) c)
section
variable {X:Cx}{pins:List (Addr×Obj)}{σ:St}{H₀ H:Hp}{s:Shared}{l I S f:Addr}{vs:List V}{j i:Nat}{kb:Int}{kw:List (Str×Value)}
theorem klp_next{Q:Option Value->Shared->Prop}{E:Value->Shared->Prop}(hcalm:X.calm=true)(I1:Inv X pins σ H s)(hq:SqL X.K H l vs)(it:s.heap.IsListIter I l j)(oI:Off X pins H I)(hj:j < vs.length)
  (h:∀u v h' tk,vs[j]?=some v->RelV v u->Inv X pins σ H { s with heap:=h',toks:=tk }->h'.IsListIter I l (j+1)->(∀b o,b≠I->s.heap.get? b=some o->h'.get? b=some o)->Q (some u) { s with heap:=h',toks:=tk }) :
  wpAny (model X.prog X.w) X.A.in1 (pyNext (.ref I)) Q E s:=by
 obtain⟨its,rv,pl,hz⟩:=I1.list hq;have hl:=rv.length;have hh:X.A.in1.handled=none:=I1.ok.hd hcalm;have hne:l≠I:=by rintro rfl;obtain⟨o,e,hc,_⟩:=pl.isList;obtain⟨o2,e2,hc2,_⟩:=it;rw[e]at e2;cases e2;rw[hc]at hc2;exact absurd (Value.type.inj hc2) (by decide)
 have W:=Walks.list (prog:=X.prog) (w:=X.w) (A:=X.A.in1) hh I l hne its.toArray;refine W.item j s Q E (by rw[List.size_toArray,<-hl];exact hj) ⟨it,pl.isList⟩ λ u h' tk pv st k1=>?_;have hv:its[j]?=some u:=by simpa using pv
 obtain⟨v,hv2⟩:∃v,vs[j]?=some v:=⟨vs[j],by simp[hj]⟩
 obtain⟨u',hu',rvu⟩:=rv.get hv2;rw[hv]at hu';cases hu';have kp:∀b o,b≠I->s.heap.get? b=some o->h'.get? b=some o:=λ b o hb e=>k1 b o (by simpa using hb) e;exact h u v h' tk hv2 rvu (I1.turned kp oI.free oI.loc (.inr oI.new) oI.cell oI.pin) st.1 kp
theorem klp_stop{Q:Option Value->Shared->Prop}{E:Value->Shared->Prop}(hcalm:X.calm=true)(I1:Inv X pins σ H s)(hq:SqL X.K H l vs)(it:s.heap.IsListIter I l j)(oI:Off X pins H I)(hj:j=vs.length)
  (h:∀h' tk,Inv X pins σ H { s with heap:=h',toks:=tk }->(∀b o,b≠I->s.heap.get? b=some o->h'.get? b=some o)->Q none { s with heap:=h',toks:=tk }) :
  wpAny (model X.prog X.w) X.A.in1 (pyNext (.ref I)) Q E s:=by
 obtain⟨its,rv,pl,hz⟩:=I1.list hq;have hl:=rv.length;have hh:X.A.in1.handled=none:=I1.ok.hd hcalm;have hne:l≠I:=by rintro rfl;obtain⟨o,e,hc,_⟩:=pl.isList;obtain⟨o2,e2,hc2,_⟩:=it;rw[e]at e2;cases e2;rw[hc]at hc2;exact absurd (Value.type.inj hc2) (by decide)
 have W:=Walks.list (prog:=X.prog) (w:=X.w) (A:=X.A.in1) hh I l hne its.toArray;refine W.done s Q E ⟨by rw[List.size_toArray,<-hl,<-hj];exact it,pl.isList⟩ λ h' tk k1=>?_;have kp:∀b o,b≠I->s.heap.get? b=some o->h'.get? b=some o:=λ b o hb e=>k1 b o (by simpa using hb) e;exact h h' tk (I1.turned kp oI.free oI.loc (.inr oI.new) oI.cell oI.pin) kp
def KeyOk(X:Cx)(pins:List (Addr×Obj))(σ:St)(H₀:Hp)(f:Addr)(St:Hp->Shared->Prop)(e:Z.D->Z.Res Int):Prop :=
 ∀(H:Hp)(s:Shared)(u:Value)(v:V)(d:Z.D)(k:Int),Inv X pins σ H s->aJ H₀ H->St H s->RelV v u->Den X.K H d v->e d=.ok k ->
  wpAny (model X.prog X.w) X.A.in1 (call (.ref f) [u]) (λ r s'=>∃t H',r=.int k t∧aJ H H'∧Un (frs X.stack) [] H H' s.heap s'.heap∧HOk X.prog X.w H' s'.heap∧AllBare s'.gens∧s'.os=s.os) (λ _ _=>False) s
structure Stay(X:Cx)(pins:List (Addr×Obj))(σ:St)(f:Addr)(St:Hp->Shared->Prop):Prop where
 off:∀H s,St H s->Off X pins H f
 un:∀H H' s s',Inv X pins σ H s->St H s->aJ H H'->H' f=none->(∀o,s.heap.get? f=some o->s'.heap.get? f=some o)->St H' s'
end
section
variable {X:Cx}{pins:List (Addr×Obj)}{σ:St}{H₀:Hp}{l I S f:Addr}{vs:List V}{kw:List (Str×Value)}{St:Hp->Shared->Prop}{e:Z.D->Z.Res Int}{ds:List Z.D}{r:Z.D}{R:Result->Shared->Prop}
theorem two_intsL{k kb:Int}{t tb:Tok}{A:Around}{Q E:Value->Shared->Prop}{s:Shared}{prog:Program}{w:World}(h:Q (.bool (decide (k < kb))) s):wpAny (model prog w) A (richCompare .Lt (.int k t) (.int kb tb)) Q E s :=
 CmpOf.ints_lt (prog:=prog) (w:=w) (A:=A) (P:=λ i v=>∃t,v=.int (if i=0 then k else kb) t) (λ i=>if i=0 then k else kb) (λ i v h=>h) 0 1 _ _ _ _ _ ⟨t,rfl⟩ ⟨tb,rfl⟩ h
theorem klp_key{H:Hp}{s:Shared}{u:Value}{v:V}{d:Z.D}{k:Int}{Q:Value->Shared->Prop}{E:Value->Shared->Prop}(KO:KeyOk X pins σ H₀ f St e)(SY:Stay X pins σ f St)(Iv:Inv X pins σ H s)(sm:aJ H₀ H)(st:St H s)(rv:RelV v u)(dv:Den X.K H d v)(ek:e d=.ok k)
  (oI:Off X pins H I) (oS:Off X pins H S){oi os:Obj}(gI:s.heap.get? I=some oi) (gS:s.heap.get? S=some os) (gf:∃o,s.heap.get? f=some o)
  (h:∀t H' s',Inv X pins σ H' s'->aJ H H'->St H' s'->Off X pins H' I->Off X pins H' S->s'.heap.get? I=some oi->s'.heap.get? S=some os->(∃o,s'.heap.get? f=some o)->Q (.int k t) s') :
  wpAny (model X.prog X.w) X.A.in1 (call (.ref f) [u]) Q E s:=by
 refine wpAny_mono (KO H s u v d k Iv sm st rv dv ek) (λ x s' hq=>?_) λ _ _ z=>z.elim;obtain⟨t,H',rfl,sm',un,hok,bare,os'⟩:=hq;have Iv':Inv X pins σ H' s':=Iv.call' (s':=s') os' un hok bare λ b hb=>absurd hb (by simp);have of:=SY.off H s st;have kp:∀{b:Addr}{o:Obj},Off X pins H b->s.heap.get? b=some o->s'.heap.get? b=some o∧H' b=none:=λ {b o} ob e=>⟨un.keep b o e ob.free (ob.nostk Iv) (by simp),un.free b o e ob.free (by simp)⟩
 obtain⟨fo,gf⟩:=gf;exact h t H' s' Iv' sm' (SY.un H H' s s' Iv st sm' (kp of gf).2 λ o e=>(kp of e).1) (oI.up (kp oI gI).2) (oS.up (kp oS gS).2) (kp oI gI).1 (kp oS gS).1 ⟨fo,(kp of gf).1⟩
end
section
variable {X:Cx}{pins:List (Addr×Obj)}{σ:St}{H₀:Hp}{l I S f:Addr}{vs:List V}{kw:List (Str×Value)}{St:Hp->Shared->Prop}{e:Z.D->Z.Res Int}{ds:List Z.D}{r:Z.D}{R:Result->Shared->Prop}
end
section
variable {X:Cx}{pins:List (Addr×Obj)}{σ:St}{H₀:Hp}{l I S f:Addr}{vs:List V}{kw:List (Str×Value)}{St:Hp->Shared->Prop}{e:Z.D->Z.Res Int}{ds:List Z.D}{r:Z.D}{R:Result->Shared->Prop}
theorem klp_go_min(hcalm : X.calm = true)(KO : KeyOk X pins σ H₀ f St e)(SY : Stay X pins σ f St)(hSI : S ≠ I)(hfI : f ≠ I)(hfS : f ≠ S)(hl : SqL X.K H₀ l vs)(dn : aE X.K H₀ ds vs)
  (fin:∀H s u v,Inv X pins σ H s->aJ H₀ H->RelV v u->Den X.K H r v->R (.ok (.ret u)) s) :
  ∀(n j i:Nat)(H:Hp)(s:Shared)(kb:Int)(db:Z.D),ds.length=j+n->ds[i]?=some db->Z.goK false e db kb (ds.drop j)=.ok r->KLp X pins σ H₀ l I S vs H s j i kb->St H s->(∃o,s.heap.get? f=some o) ->
   codeAny (model X.prog X.w) X.A (.builtin "min.loop" ⟨[.ref I,.ref f,.ref S],kw⟩) R s:=by
 have nm:(toString "min" ++ toString ".loop" : String) = "min.loop" := by decide
 have hlen:=dn.length;intro n
 induction n with
 | zero =>
  intro j i H s kb db hn hdb eg L st gf;obtain⟨b,v,tb,c,hv,rb,gS⟩:=L.best;refine codeAny_builtin PySem.F.entry_min_loop ?_;rw[Around.under_plainId PySem.F.plain_min_loop _];show wpAny (model X.prog X.w) X.A.in1 (seqItems? (.ref S) >>= _) _ _ s;refine wpAny_bind (wpAny_seqItems gS rfl (wpAny_bind (wpAny_tryCatch (klp_stop hcalm L.inv (L.sm.seq hl) L.it L.offI (by lia) λ h1 t1 I1 k1=>?_))));have g1:=k1 S _ hSI gS;show wpAny (model X.prog X.w) X.A.in1 (updateSeq S (λ _=>#[]) >>= _) _ _ _;refine wpAny_bind (wpAny_updateSeq g1 rfl (wpAny_bind (wpAny_letGo (wpAny_pure ?_))));have hr:db=r:=by rw[List.drop_eq_nil_of_le (by lia)]at eg;unfold Z.goK at eg;cases eg;rfl
  subst hr;obtain⟨v',hv',dv⟩:=dn.get hdb;rw[hv]at hv';cases hv';exact fin H _ b v (I1.turned (t':=t1) (λ b o hb e=>(Heap.get?_update_other _ _ (Ne.symm hb)).trans e) L.offS.free L.offS.loc (.inr L.offS.new) L.offS.cell L.offS.pin) L.sm rb (dv.up L.sm)
 | succ n ih =>
  intro j i H s kb db hn hdb eg L st gf;obtain⟨b,v,tb,c,hv,rb,gS⟩:=L.best;have hj:j < ds.length:=by lia
  obtain⟨dj,hdj⟩:∃d,ds[j]?=some d:=⟨ds[j],by simp[hj]⟩
  have hdrop:ds.drop j=dj :: ds.drop (j+1):=by
   rw[List.drop_eq_getElem_cons hj];have:ds[j]=dj:=by have:=List.getElem?_eq_getElem hj;rw[this]at hdj;exact Option.some.inj hdj
   rw[this]
  rw[hdrop]at eg;unfold Z.goK at eg;obtain⟨k,ek,eg⟩:=Z.Res.ax eg;refine codeAny_builtin PySem.F.entry_min_loop ?_;rw[Around.under_plainId PySem.F.plain_min_loop _];show wpAny (model X.prog X.w) X.A.in1 (seqItems? (.ref S) >>= _) _ _ s;refine wpAny_bind (wpAny_seqItems gS rfl (wpAny_bind (wpAny_tryCatch (klp_next hcalm L.inv (L.sm.seq hl) L.it L.offI (by lia) λ u v1 h1 t1 hv1 rv1 I1 it1 k1=>?_))));have g1:=k1 S _ hSI gS;obtain⟨oI,gI,rI⟩:=id it1;obtain⟨of,gf⟩:=gf;have gf1:=k1 f _ hfI gf;obtain⟨v',hv',dv⟩:=dn.get hdj;rw[hv1]at hv';cases hv';have st1:St H { s with heap:=h1,toks:=t1 }:=SY.un H H s _ L.inv st (aJ.refl H) (SY.off H s st).free λ o e=>k1 f o hfI e;show wpAny (model X.prog X.w) X.A.in1 (tryCatch (holding [u] (call (.ref f) [u])) _ >>= _) _ _ _;refine wpAny_bind (wpAny_tryCatch (wpAny_holding (klp_key KO SY I1 L.sm st1 rv1 (dv.up L.sm) ek L.offI L.offS gI g1 ⟨of,gf1⟩ λ t2 H2 s2 I2 sm2 st2 oI2 oS2 gI2 gS2 gf2=>?_)));show wpAny (model X.prog X.w) X.A.in1 (tryCatch (holding [u,.int k t2] (richCompare .Lt (.int k t2) (.int kb tb) >>= _)) _ >>= _) _ _ _;refine wpAny_bind (wpAny_tryCatch (wpAny_holding (wpAny_bind (two_intsL (wpAny_bind (wpAny_holding (wpAny_truthy_bool (wpAny_bind (wpAny_letGo (wpAny_pure ?_))))))))));have sm02:=L.sm.trans sm2;have it2:s2.heap.IsListIter I l (j+1):=⟨oI,gI2,rI⟩
  by_cases hb:k < kb
  ·simp only[hb,decide_true,if_true];refine wpAny_bind (wpAny_updateSeq gS2 rfl (wpAny_bind (wpAny_letGo ?_)));rw[nm];rw[if_pos (by unfold Z.btr;simpa using hb)]at eg;have kp:∀b o,b≠S->s2.heap.get? b=some o->(s2.heap.update S (Obj.mapSeq λ _=>#[u,.int k t2])).get? b=some o:=λ b o hb e=>(Heap.get?_update_other _ _ (Ne.symm hb)).trans e;have I3:=I2.turned (t':=s2.toks) kp oS2.free oS2.loc (.inr oS2.new) oS2.cell oS2.pin;refine wpAny_pure ⟨plainId_quiet PySem.F.plain_min_loop _,ih (j+1) j H2 _ k dj (by lia) hdj eg ⟨I3,sm02,⟨oI,kp I _ (Ne.symm hSI) gI2,rI⟩,oI2,oS2,u,v1,t2,_,hv1,rv1,Heap.get?_update_self _ gS2 rfl⟩ (SY.un H2 H2 s2 _ I2 st2 (aJ.refl H2) (SY.off H2 s2 st2).free λ o e=>kp f o hfS e) (let ⟨o,e⟩:=gf2;⟨o,kp f o hfS e⟩)⟩
  ·simp only[hb,decide_false,Bool.false_eq_true,if_false];refine wpAny_bind (wpAny_letGo ?_);rw[nm];rw[if_neg (by unfold Z.btr;simpa using hb)]at eg;exact wpAny_pure ⟨plainId_quiet PySem.F.plain_min_loop _,ih (j+1) i H2 s2 kb db (by lia) hdb eg ⟨I2,sm02,it2,oI2,oS2,b,v,tb,c,hv,rb,gS2⟩ st2 gf2⟩
end
end ZS
namespace ZS
open PySem PySem.Spec PyProof.Rows L2 PySem.W
def LamCtx(X:Cx)(nm:Str):Prop:=∃c P,nm∈lamNames∧tabIn X.K nm=some (c,P)∧X.env.code=.ref c∧X.env.qual ++ "<lambda>" = lamQ nm
section
variable {X:Cx}{pins:List (Addr×Obj)}{σ:St}{H:Hp}{s:Shared}{l f:Addr}{vs:List V}{St:Hp->Shared->Prop}{e:Z.D->Z.Res Int}{ds:List Z.D}{r:Z.D}{Q:VK}
end
section
variable {X:Cx}{a body:Expr}{fa fe:Z.EF}{pos:Pos}{N':List Str}{is:List Nat}{scope:Scope}{params:Arguments}
end
theorem argsK_min(a k:Value):argsOk "min" ⟨[a],[(Str.ofString "key",k)]⟩:=by unfold argsOk;kernel_rfl
theorem bindsK_min(k:Value):Builtin.Builtins.bindParams "min" ["key", "default"] 0 ⟨[],[(Str.ofString "key",k)]⟩=pure [some k,none]:=by kernel_rfl
section
variable {X:Cx}{pins:List (Addr×Obj)}{σ:St}{H:Hp}{s:Shared}{l f:Addr}{vs:List V}{St:Hp->Shared->Prop}{e:Z.D->Z.Res Int}{ds:List Z.D}{r:Z.D}{Q:VK}
theorem ext_min(hcalm:X.calm=true)(KO:KeyOk X pins σ H f St e)(SY:Stay X pins σ f St)(Iv:Inv X pins σ H s)(st:St H s)(gf:∃o,s.heap.get? f=some o)(hl:SqL X.K H l vs)(dn:aE X.K H ds vs)(ek:Z.pickK false .bad e ds=.ok r)
  (k:∀v H',aJ H H'->Den X.K H' r v->Q v H'):wpAny (model X.prog X.w) X.A (call (.builtin "min") [.ref l] ([(Str.ofString "key",.ref f)])) (EP X pins σ Q) X.xe s:=by
 have nm:(toString "min" ++ toString ".loop" : String) = "min.loop" := by decide
 have hlen:=dn.length;obtain⟨fo,gf⟩:=gf;obtain⟨its,rv,pl,hz⟩:=Iv.list hl;refine kmk_tree PySem.F.kind_min PySem.F.plain_min PySem.F.entry_min (argsK_min _ _) ?_;show wpAny (model X.prog X.w) X.A.in1 (Builtin.Builtins.bindParams "min" ["key", "default"] 0 ⟨[],[(Str.ofString "key",.ref f)]⟩ >>= _) _ _ s;rw[bindsK_min];refine wpAny_bind (wpAny_pure (wpAny_bind (wpAny_pure (wpAny_bind (wpAny_pyIter_list pl.isList ?_)))));refine wpAny_bind (wpAny_newObj_type ?_);rw[nm];generalize hH2:s.heap.push { cls:=.type "list_iterator",data:=.fields #[.ref l,.int 0 0] }=HH;have hS:HH.objs.size=s.heap.objs.size+1:=by rw[<-hH2,Heap.size_push]
 have gI0:HH.get? s.heap.objs.size=some { cls:=.type "list_iterator",data:=.fields #[.ref l,.int 0 0] }:=by rw[<-hH2];exact Heap.get?_push_size _ rfl
 have kp0:∀b o,s.heap.get? b=some o->(HH.push { cls:=.type "list",data:=.seq ([]:List Value).toArray }).get? b=some o:=λ b o e=>Heap.get?_push_of_some _ (by rw[<-hH2];exact Heap.get?_push_of_some _ e);have I1:Inv X pins σ H { s with heap:=HH.push { cls:=.type "list",data:=.seq ([]:List Value).toArray } }:=Iv.kept (t':=s.toks) kp0;have oI:Off X pins H s.heap.objs.size:=Off.fresh Iv (Nat.le_refl _) (Iv.hok.fresh (Nat.le_refl _));have oS:Off X pins H HH.objs.size:=Off.fresh Iv (by rw[hS];exact Nat.le_succ _) (Iv.hok.fresh (by rw[hS];exact Nat.le_succ _));have hSI:HH.objs.size≠s.heap.objs.size:=by rw[hS];exact Nat.ne_of_gt (Nat.lt_succ_self _)
 have hfI:f≠s.heap.objs.size:=Nat.ne_of_lt (Heap.lt_size gf);have hfS:f≠HH.objs.size:=by rw[hS];exact Nat.ne_of_lt (Nat.lt_succ_of_lt (Heap.lt_size gf))
 have gS:(HH.push { cls:=.type "list",data:=.seq ([]:List Value).toArray }).get? HH.objs.size=some { cls:=.type "list",data:=.seq ([]:List Value).toArray }:=Heap.get?_push_size _ rfl;have gI:(HH.push { cls:=.type "list",data:=.seq ([]:List Value).toArray }).get? s.heap.objs.size=some { cls:=.type "list_iterator",data:=.fields #[.ref l,.int 0 0] }:=Heap.get?_push_of_some _ gI0;have st1:St H { s with heap:=HH.push { cls:=.type "list",data:=.seq ([]:List Value).toArray } }:=SY.un H H s _ Iv st (aJ.refl H) (SY.off H s st).free λ o e=>kp0 f o e;have gf1:=kp0 f fo gf;generalize hS2:HH.objs.size=S at oS hSI hfS gS;generalize hI2:s.heap.objs.size=I at oI hSI hfI gI;generalize hs1:({ s with heap:=HH.push { cls:=.type "list",data:=.seq ([]:List Value).toArray } }:Shared)=s1 at I1 st1;have e1:HH.push { cls:=.type "list",data:=.seq ([]:List Value).toArray }=s1.heap:=by rw[<-hs1]
 rw[e1]at gS gI gf1;refine wpAny_pure ⟨plainId_quiet PySem.F.plain_min_loop _,?_⟩;refine codeAny_builtin PySem.F.entry_min_loop ?_;rw[Around.under_plainId PySem.F.plain_min_loop _];show wpAny (model X.prog X.w) X.A.in1 (seqItems? (.ref S) >>= _) _ _ _;cases ds with
 | nil =>cases ek
 | cons d0 dr =>unfold Z.pickK at ek;obtain⟨k0,ek0,ek⟩:=Z.Res.ax ek;refine wpAny_bind (wpAny_seqItems gS rfl (wpAny_bind (wpAny_tryCatch (klp_next (j:=0) hcalm I1 hl ⟨_,gI,rfl,rfl⟩ oI (by simp at hlen;lia) λ u v1 h1 t1 hv1 rv1 I2 it2 k1=>?_))));have g1:=k1 S _ hSI gS;obtain⟨oi,gI2,rI⟩:=id it2;obtain⟨v',hv',dv⟩:=dn.get (i:=0) (d:=d0) rfl;rw[hv1]at hv';cases hv';have st2:St H { s1 with heap:=h1,toks:=t1 }:=SY.un H H s1 _ I1 st1 (aJ.refl H) (SY.off H s1 st1).free λ o e=>k1 f o hfI e;show wpAny (model X.prog X.w) X.A.in1 (tryCatch (holding [u] (call (.ref f) [u])) _ >>= _) _ _ _;refine wpAny_bind (wpAny_tryCatch (wpAny_holding (klp_key KO SY I2 (aJ.refl H) st2 rv1 dv ek0 oI oS gI2 g1 ⟨fo,k1 f _ hfI gf1⟩ λ t3 H3 s3 I3 sm3 st3 oI3 oS3 gI3 gS3 gf3=>?_)));show wpAny (model X.prog X.w) X.A.in1 (updateSeq S (λ _=>#[u,.int k0 t3]) >>= _) _ _ _;refine wpAny_bind (wpAny_updateSeq gS3 rfl ?_);rw[nm];have kp:∀b o,b≠S->s3.heap.get? b=some o->(s3.heap.update S (Obj.mapSeq λ _=>#[u,.int k0 t3])).get? b=some o:=λ b o hb e=>(Heap.get?_update_other _ _ (Ne.symm hb)).trans e;have I4:=I3.turned (t':=s3.toks) kp oS3.free oS3.loc (.inr oS3.new) oS3.cell oS3.pin;exact wpAny_pure ⟨plainId_quiet PySem.F.plain_min_loop _,klp_go_min hcalm KO SY hSI hfI hfS hl dn (λ H5 s5 u5 v5 I5 sm5 rv5 dv5=>⟨v5,H5,I5,rv5,k v5 H5 sm5 dv5⟩) dr.length 1 0 H3 _ k0 d0 (by simp;lia) rfl ek ⟨I4,sm3,⟨oi,kp _ _ (Ne.symm hSI) gI3,rI⟩,oI3,oS3,u,v1,t3,_,hv1,rv1,Heap.get?_update_self _ gS3 rfl⟩ (SY.un H3 H3 s3 _ I3 st3 (aJ.refl H3) (SY.off H3 s3 st3).free λ o e=>kp f o hfS e) (let ⟨o,e⟩:=gf3;⟨o,kp f o hfS e⟩)⟩
end
section
variable {X:Cx}{a body:Expr}{fa fe:Z.EF}{pos:Pos}{N':List Str}{is:List Nat}{scope:Scope}{params:Arguments}
theorem de_minK{x nm y:Str}{p1 kp lp:Pos}(hL:LamCtx X nm)(hroom:X.A.in1.depth < recursionLimit)(hg:Gl X x)(hm:X.mg x=none)(hv:bootBuiltins x=some (.builtin "min"))(ha:DW X a fa)
  (B:Blk X.N N' 1 is scope X.env.scope) (hx0:N'[0]?=some y) (he:∀cl f c' s H,DE (lamX X N' (lamQ nm) scope cl f c' s H) body fe)
  (hbind:∀(q:Str) (cl:List (Str×Addr)) (pm:Value) (c':Addr) (ctv u:Value),bindArgs (kla_fn "<lambda>" q params body scope cl pm (.ref c') ctv) ⟨[u],[]⟩=pure [(y,u)])
  (hdef:defaultsOf params X.env=([],[]):=by rfl) (hgen:scope.isGenerator=false:=by rfl) (hco:scope.isCoroutine=false:=by rfl)
  (hc:X.calm=true:=by rfl) (hn:x ≠ "__name__" := by decide +kernel) (hdb:(x==("__debug__" : Str))=false:=by decide +kernel)
  (hse:starEach (a :: []) X.env=(false,eval a X.env) :: starEach [] X.env:=by rfl) (hb1:backTo pos (starEach (a :: []) X.env)=(false,eval a X.env) :: backTo pos (starEach [] X.env):=by rfl) (hpl:(backTo pos (starEach (a :: []) X.env)).any (·.1)=false:=by rfl) :
  DE X (.Call (.Name x p1) [a] [⟨some (Str.ofString "key"),.Lambda params body scope lp,kp⟩] pos) (Z.eExt false .bad fa is fe):=by
 intro pins s σ H Q I h;obtain⟨ρ,d,r,e,k⟩:=h;obtain⟨dx,ea,e⟩:=Z.Res.ax e;obtain⟨c,P,h1,h2,h3,h4⟩:=hL;split at e
 ·rename_i ds;refine wpAny_Call_Name_kw (ld_blt I hg hm hv ?_ hn hdb);refine callWith_kw ?_ hb1 hpl;refine thn (pa_cons ha pa_nil hse pos pins s σ H (λ vs H1=>∃v,vs=[v]∧aJ H H1∧DenW X.K H1 (.lst ds) v) I ⟨ρ,_,r,ea,λ v H1 s1 d1=>⟨v,rfl,s1,d1⟩⟩) λ us s1 ⟨vs,H1,I1,r1,q1⟩=>?_;obtain⟨v,rfl,sm,d1⟩:=q1;obtain⟨u,rfl,ru⟩:=vals1 r1;have hfree:∀y∈scope.names,y.2=.free->∃c,X.env.cells.lookup y.1=some c:=λ y hy hf=>I1.ok.has y.1 (B.free y hy hf);obtain⟨cl,hcl,hcl1,hcl2⟩:=closureFor_of hfree;refine kws_cons (thn (lam_make h1 h2 h3 h4 hdef hcl I1) λ w s2 ⟨f,c',pm,ctv,H2,ew,I2,sm2,LA⟩=>?_);subst ew;refine kws_nil ?_;obtain⟨q,vs,rfl,hq,tt⟩:=(d1.up sm2).lst;cases ru;have re2:RE X.K H2 σ ρ:=(r.up sm).up sm2;refine ext_min (St:=λ H s=>LamAt X pins (lamQ nm) params body scope cl H s f c' pm ctv) hc (λ H5 s5 u5 v5 d5 k5 I5 sm5 st5 rv5 dv5 ek5=>?_) ⟨λ _ _ st=>st.off,λ H5 H6 s5 s6 I5 st5 sm5 hf5 ho5=>⟨st5.off.up hf5,ho5 _ st5.obj,sm5 _ _ st5.code⟩⟩ I2 LA ⟨_,LA.obj⟩ hq tt e λ v' H' s' d'=>k v' H' ((sm.trans sm2).trans s') d';exact lam_call (x:=y) hc hroom B hx0 hgen hco (λ u=>hbind _ _ _ _ _ u) hcl1 hcl2 he st5 I5 (re2.up sm5) rv5 dv5 ek5
 ·cases e
end
end ZS
namespace ZS
open PySem PySem.Spec PyProof.Rows L2 PySem.W
theorem room_lam{k:Nat}{A:Around}(r:Room (k+2) A)(env:PySem.Env):Room k (A.in1.deeper env):=(Room.in1 r).deeper env
theorem room_d{k:Nat}{A:Around}(r:Room k A):A.in1.depth < recursionLimit:=r.depth
def LamD(K:Frag)(mg:Str->Option Value)(x:Str):Prop:=∃c P,tabIn K x=some (c,P)∧∀f fd oc od sl,mg x=some (.ref f)->K.lookup f=some ⟨oc,od,.func fd,sl⟩->fd.code=.ref c
theorem lamD_mk{K:Frag}{mg:Str->Option Value}{h:Heap}{x:Str}{c P:Addr}(X:K.In h)(G:h.Ns mainGlobals mg)(t:tabIn K x=some (c,P)):LamD K mg x:=⟨c,P,t,λ f fd oc od sl hm hl=>law_code X G t hm (X _ _ hl) rfl⟩
def LamC(K:Frag)(x:Str)(cdv:Value):Prop:=∃c P,cdv=.ref c∧tabIn K x=some (c,P)
theorem lam_ctx{CX:CXT}{P:Program}{w:World}{K:Frag}{mg:Str->Option Value}{base:Heap}{N:List Str}{x:Str}{scope:Scope}{f:Addr}{cd:Value}{A:Around}{outer:List PySem.Env}{s:Shared}{H:Hp}{E:XK}(h:LamC K x cd)(hx:x∈lamNames):
  LamCtx (cxOf CX P w K mg base N x scope f cd A outer s H E).nox x:=by
 obtain⟨c,p,e,t⟩:=h;exact⟨c,p,hx,t,e,rfl⟩
section
variable {P:Program}{w:World}{K:PySem.W.Frag}{mg:Str->Option Value}{base:Heap}
theorem fnZL{x qual:Str}{st:Stmt}{f:Addr}{fd:FuncData}{N ps:List Str}{k:Nat}{b:Z.SF}(F:Fun K x qual st f fd)(S:aA N ps (ak st))
  (hb:∀ (A:Around) (outer:List PySem.Env) (s:Shared) (H:Hp) (E:XK),Room k (A.deeper (envOfC qual (ak st) s.heap.objs.size f fd.code)) ->
   DSs (cxOf CX0 P w K mg base N qual (ak st) f fd.code A outer s H E).nox H (defBody st) b):FnOk P w K mg base CX0 (k+1) f fd ps (spZ K (Z.fn ps.length N.length b)):=by
 have hlen:∀(vs:List V)(H:Hp)(Q:VK)(E:XK),spZ K (Z.fn ps.length N.length b) vs H Q E->vs.length=ps.length:=λ vs H Q E ⟨ds,d,t,e,_⟩=>by
  unfold Z.fn at e;split at e
  ·rename_i h;rw[t.length];exact h
  ·cases e
 obtain⟨oc,od,kV,doc,pm,an,cdv,ct,osl,rfl,lk,hcd⟩:=F.ex;refine fn_of lk hcd S hlen λ A outer s H vs Q E hr h=>?_;refine⟨_,PSs.nox (hb A outer s H E hr),?_⟩;have hl:=hlen vs H Q E h;obtain⟨ds,d,t,e,k⟩:=h;have hpl:ps.length≤N.length:=by have:=congrArg List.length S.pre;rw[List.length_take]at this;lia
 have rs:RS K H H (L2.start N vs) (Z.start N.length ds):=start_get t (by lia);unfold Z.fn at e;split at e
 ·cases eb:b (Z.start N.length ds)with
  | bad=>rw[eb]at e;cases e
  | ok fl =>
   rw[eb]at e;refine⟨_,fl,rs,eb,?_⟩;cases fl with
   | rt d'=>cases e;exact λ v H' s' dv=>k v H' s' dv
   | nx ρ'=>cases e;exact λ σ' H' _ rs'=>k .non H' rs'.same den_non
   | bk ρ'=>cases e
   | ct ρ'=>cases e
 ·cases e
theorem calL{x:Str}{k:Nat}{st:Stmt}{N ps:List Str}{b:Z.SF}(d:Def K mg x st ps)(S:aA N ps (ak st))(L:LamD K mg x)
  (hb:∀ (f:Addr) (cdv:Value) (A:Around) (outer:List PySem.Env) (s:Shared) (H:Hp) (E:XK),LamC K x cdv->Room k (A.deeper (envOfC x (ak st) s.heap.objs.size f cdv)) ->
   DSs (cxOf CX0 P w K mg base N x (ak st) f cdv A outer s H E).nox H (defBody st) b):Cal P w K mg base x (k+1) ps (Z.fn ps.length N.length b):=by
 obtain⟨f,fd,F,hm,hb'⟩:=d.ex;obtain⟨c,p,t,hc⟩:=L;have hfd:fd.code=.ref c:=by obtain⟨oc,od,kV,doc,pm,an,cdv,ct,osl,e,lk,hcd⟩:=F.ex;exact hc f fd _ _ _ hm lk
 exact⟨f,fd,fnZL F S λ A outer s H E hr=>hb f fd.code A outer s H E ⟨c,p,hfd,t⟩ hr,hm,F.kp,hb'⟩
end
end ZS
namespace ZQ
open PySem PySem.Spec PyProof.Rows L2 PySem.W ZS
section
variable {X:Cx}{a body:Expr}{fa fe:Z.EF}{pos:Pos}{N':List Str}{is:List Nat}{scope:Scope}{params:Arguments}
theorem de_minK{x nm y:Str}{p1 kp lp:Pos}(hL:LamCtx X nm)(hroom:X.A.in1.depth < recursionLimit)(hg:Gl X x)(hm:X.mg x=none)(hv:bootBuiltins x=some (.builtin "min"))(ha:QW X a fa)
  (B:Blk X.N N' 1 is scope X.env.scope) (hx0:N'[0]?=some y) (he:∀cl f c' s H,QE (lamX X N' (lamQ nm) scope cl f c' s H) body fe)
  (hbind:∀(q:Str) (cl:List (Str×Addr)) (pm:Value) (c':Addr) (ctv u:Value),bindArgs (kla_fn "<lambda>" q params body scope cl pm (.ref c') ctv) ⟨[u],[]⟩=pure [(y,u)])
  (hdef:defaultsOf params X.env=([],[]):=by rfl) (hgen:scope.isGenerator=false:=by rfl) (hco:scope.isCoroutine=false:=by rfl)
  (hc:X.calm=true:=by rfl) (hn:x ≠ "__name__" := by decide +kernel) (hdb:(x==("__debug__" : Str))=false:=by decide +kernel)
  (hse:starEach (a :: []) X.env=(false,eval a X.env) :: starEach [] X.env:=by rfl) (hb1:backTo pos (starEach (a :: []) X.env)=(false,eval a X.env) :: backTo pos (starEach [] X.env):=by rfl) (hpl:(backTo pos (starEach (a :: []) X.env)).any (·.1)=false:=by rfl) :
  QE X (.Call (.Name x p1) [a] [⟨some (Str.ofString "key"),.Lambda params body scope lp,kp⟩] pos) (Z.eExt false .bad fa is fe) :=
 ⟨ZS.de_minK hL hroom hg hm hv ha.p B hx0 (λ cl f c' s H=>(he cl f c' s H).p) hbind hdef hgen hco hc hn hdb hse hb1 hpl⟩
end
theorem calQL{P:Program}{w:World}{K:PySem.W.Frag}{mg:Str->Option Value}{base:Heap}{x:Str}{k:Nat}{st:Stmt}{N ps:List Str}{b:Z.SF}(d:ZS.Def K mg x st ps)(S:aA N ps (ak st))(L:ZS.LamD K mg x)
  (hb:∀ (f:Addr) (cdv:Value) (A:Around) (outer:List PySem.Env) (s:Shared) (H:Hp) (E:XK),ZS.LamC K x cdv->Room k (A.deeper (envOfC x (ak st) s.heap.objs.size f cdv)) ->
   QSs (cxOf CX0 P w K mg base N x (ak st) f cdv A outer s H E).nox H (defBody st) b):ZS.Cal P w K mg base x (k+1) ps (Z.fn ps.length N.length b) :=
 ZS.calL d S L λ f cdv A outer s H E hl hr=>(hb f cdv A outer s H E hl hr).p
end ZQ
namespace ZS
open PySem PySem.Spec PyProof.Rows L2 PySem.W
def DefK(K:Frag)(n:Str)(st:Stmt):Prop:=∃(f:Addr)(od an:Option Addr)(sl:Array (Option Value))(oc kV dc pm cd ct:Value),nsIn K mainGlobals n=some (some (.ref f))∧K.lookup f=some ⟨oc,od,.func (fnOf n n (defArgs st) (defBody st) (ak st) .none kV dc pm an cd ct),sl⟩∧codeIn K cd n=true∧keepIn K (.ref f)=true
def DefKD(K:Frag)(n:Str)(st:Stmt):Prop:=∃(f t:Addr)(od an td:Option Addr)(sl ts:Array (Option Value))(tn:Nat)(oc kV dc pm cd ct tc:Value),nsIn K mainGlobals n=some (some (.ref f))∧K.lookup f=some ⟨oc,od,.func (fnOf n n (defArgs st) (defBody st) (ak st) (.ref t) kV dc pm an cd ct),sl⟩∧codeIn K cd n=true∧keepIn K (.ref f)=true∧K.lookup t=some ⟨tc,td,.seq #[.none] tn,ts⟩
def DefKL(K:Frag)(n:Str)(st:Stmt):Prop:=DefK K n st∧∃c p,tabIn K n=some (c,p)
section
variable {K:Frag}{n:Str}{st:Stmt}{h:Heap}{mg:Str->Option Value}{ps:List Str}
theorem DefK.mk'{f:Addr}{od an:Option Addr}{sl:Array (Option Value)}{oc kV dc pm cd ct:Value}(a:nsIn K mainGlobals n=some (some (.ref f)))(l:K.lookup f=some ⟨oc,od,.func (fnOf n n (defArgs st) (defBody st) (ak st) .none kV dc pm an cd ct),sl⟩)(c:codeIn K cd n=true)(k:keepIn K (.ref f)=true):DefK K n st:=⟨f,od,an,sl,oc,kV,dc,pm,cd,ct,a,l,c,k⟩
theorem DefKD.mk'{f t:Addr}{od an td:Option Addr}{sl ts:Array (Option Value)}{tn:Nat}{oc kV dc pm cd ct tc:Value}(a:nsIn K mainGlobals n=some (some (.ref f)))(l:K.lookup f=some ⟨oc,od,.func (fnOf n n (defArgs st) (defBody st) (ak st) (.ref t) kV dc pm an cd ct),sl⟩)(c:codeIn K cd n=true)(k:keepIn K (.ref f)=true)(q:K.lookup t=some ⟨tc,td,.seq #[.none] tn,ts⟩):DefKD K n st:=⟨f,t,od,an,td,sl,ts,tn,oc,kV,dc,pm,cd,ct,tc,a,l,c,k,q⟩
theorem DefKL.mk'{f cc pp:Addr}{od an td:Option Addr}{sl ts:Array (Option Value)}{tv:Array Value}{oc kV dc pm ct to:Value}(a:nsIn K mainGlobals n=some (some (.ref f)))(l:K.lookup f=some ⟨oc,od,.func (fnOf n n (defArgs st) (defBody st) (ak st) .none kV dc pm an (.ref cc) ct),sl⟩)(c:codeIn K (.ref cc) n=true)(k:keepIn K (.ref f)=true)(tl:K.lookup cc=some ⟨to,td,.fields tv,ts⟩)(tp:tv[11]?=some (.ref pp)):DefKL K n st:=⟨⟨f,od,an,sl,oc,kV,dc,pm,.ref cc,ct,a,l,c,k⟩,cc,pp,tab_some a l rfl tl tp⟩
theorem DefK.df(d:DefK K n st)(X:K.In h)(G:h.Ns mainGlobals mg)(hb:∀(kV doc pm:Value)(an:Option Addr)(cdv ct:Value)(us:List Value),us.length=ps.length->bindArgs (fnOf n n (defArgs st) (defBody st) (ak st) .none kV doc pm an cdv ct) ⟨us,[]⟩=pure (ps.zip us)):Def K mg n st ps:=by obtain⟨f,od,an,sl,oc,kV,dc,pm,cd,ct,a,l,c,k⟩:=d;have F:=fun_mk (st:=st) l c k;exact⟨f,_,F,mg_of X G a,F.binds hb⟩
theorem DefKD.df(d:DefKD K n st)(X:K.In h)(G:h.Ns mainGlobals mg)
  (h1:∀(t:Addr)(kV doc pm:Value)(an:Option Addr)(cdv ct:Value)(us:List Value),us.length=ps.length->∃kk:Option (Array Value)->Sem (List (Str×Value)),bindArgs (fnOf n n (defArgs st) (defBody st) (ak st) (.ref t) kV doc pm an cdv ct) ⟨us,[]⟩=seqItems? (.ref t) >>= kk∧kk (some #[.none])=pure (ps.zip us))
  (h2:∀(t:Addr)(kV doc pm:Value)(an:Option Addr)(cdv ct:Value)(us:List Value),us.length+1=ps.length->∃kk:Option (Array Value)->Sem (List (Str×Value)),bindArgs (fnOf n n (defArgs st) (defBody st) (ak st) (.ref t) kV doc pm an cdv ct) ⟨us,[]⟩=seqItems? (.ref t) >>= kk∧kk (some #[.none])=pure (ps.zip (us++[.none]))):DefD K mg n st ps:=by
 obtain⟨f,t,od,an,td,sl,ts,tn,oc,kV,dc,pm,cd,ct,tc,a,l,c,k,q⟩:=d;exact defD_mk l c k q (mg_of X G a) (h1 t kV dc pm an cd ct) (h2 t kV dc pm an cd ct)
theorem DefK.law(d:DefK K n st)(X:K.In h)(G:h.Ns mainGlobals mg){fa:Addr}(hfa:mg n=some (.ref fa)){x:Str}(hb:∀(kV doc pm:Value)(an:Option Addr)(cdv ct:Value)(s:Shared)(v:Value),BindsTo s (fnOf n n (defArgs st) (defBody st) (ak st) .none kV doc pm an cdv ct) ⟨[v],[]⟩ [(x,v)]):∃fd:FuncData,(∀(s:Shared)(v:Value),BindsTo s fd ⟨[v],[]⟩ [(x,v)])∧Fun K n n st fa fd:=by obtain⟨f,od,an,sl,oc,kV,dc,pm,cd,ct,a,l,c,k⟩:=d;have e:=hfa.symm.trans (mg_of X G a);cases e;exact⟨_,hb kV dc pm an cd ct,fun_mk (st:=st) l c k⟩
theorem DefKL.lam(d:DefKL K n st)(X:K.In h)(G:h.Ns mainGlobals mg):LamD K mg n:=let ⟨c,p,t⟩:=d.2;lamD_mk X G t
end
end ZS
namespace ZQ
open PySem PySem.Spec L2
def locB(sc:Scope)(x:Str):Bool:=match sc.names.lookup x with
 | some .local=>true
 | some .cell=>true
 | _=>false
theorem lo{sc:Scope}{x:Str}(h:locB sc x=true):Loc sc x:=by
 unfold locB at h;split at h
 ·rename_i e;exact .inl e
 ·rename_i e;exact .inr e
 ·cases h
end ZQ
namespace ZS
open PySem PySem.Spec PyProof.Rows L2
section
open PySem.SeqAt
open PySem.AutoSeq1 (wpAny_loadPart')
open PySem.MeetsSeq PySem.MeetsSeq2 PySem.MeetsSeq3
end
section
open PySem.SeqAt
open PySem.AutoSeq1 (wpAny_loadPart')
open PySem.MeetsSeq PySem.MeetsSeq2 PySem.MeetsSeq3
end
section
variable {X:Cx}
end
end ZS
namespace ZS
open PySem PySem.Spec PyProof.Rows L2 PySem.W
structure KL0(X:Cx)(pins:List (Addr×Obj))(σ:St)(H:Hp)(l I S:Addr)(s:Shared)(j:Nat)(db:Z.D):Prop where
 inv:Inv X pins σ H s
 it:s.heap.IsListIter I l j
 offI:Off X pins H I
 offS:Off X pins H S
 best:∃b v c,Den X.K H db v∧RelV v b∧s.heap.get? S=some (held b b c)
section
variable {X:Cx}{pins:List (Addr×Obj)}{σ:St}{H:Hp}{l I S:Addr}{vs:List V}{kw:List (Str×Value)}{ds:List Z.D}{r:Z.D}{R:Result->Shared->Prop}
end
section
variable {X:Cx}{a c:Expr}{fa fc:Z.EF}{pos:Pos}
end
end ZS
namespace ZQ
open PySem PySem.Spec PyProof.Rows L2 ZS
section
variable {X:Cx}{a c:Expr}{fa fc:Z.EF}{pos:Pos}
end
end ZQ
noncomputable section
namespace Z
abbrev XN:=List Nat×List (List Nat×D)
abbrev XF:=Env->Option XN
def xNo(_:Env):Option XN:=none
def xCall(m:List D->Option XN)(as:AF)(ρ:Env):Option XN:=match as ρ with
 | .ok ds=>m ds
 | .bad=>none
def xTl(a:EF)(r:XF)(ρ:Env):Option XN:=match a ρ with
 | .ok _=>r ρ
 | .bad=>none
def xSeq(a:SF)(xa xb:XF)(ρ:Env):Option XN:=match xa ρ with
 | some c=>some c
 | none=>match a ρ with
  | .ok (.nx ρ')=>xb ρ'
  | _=>none
def xIf(t:TF)(a b:XF)(ρ:Env):Option XN:=match t ρ with
 | .ok c=>if c then a ρ else b ρ
 | .bad=>none
def xRaise(c:List Nat)(a:EF)(ρ:Env):Option XN:=match a ρ with
 | .ok _=>some (c,[])
 | .bad=>none
def fx(ps n:Nat)(b:XF)(ds:List D):Option XN:=if ds.length=ps then b (start n ds)else none
theorem fx_a(ps n:Nat)(b:XF)(ds:List D)(h:ds.length=ps):fx ps n b ds=b (start n ds):=if_pos h
def sTry(b:SF)(xb:XF)(c:List Nat)(i:Nat)(h:SF)(ρ:Env):Res Fl:=match xb ρ with
 | some c'=>if c'.1=c then(match h (ρ.set i (some (.exc c')))with
  | .ok (.nx ρ')=>.ok (.nx (ρ'.set i none))
  | .ok (.rt d)=>.ok (.rt d)
  | _=>.bad)else .bad
 | none=>b ρ
def eIsX(i:Nat)(f:List Nat->Option Bool)(ρ:Env):Res D:=match ρ[i]? with
 | some (some (.exc c))=>(match f c.1 with
  | some b=>.ok (.bl b)
  | none=>.bad)
 | _=>.bad
def isx(c0:List Nat)(b:Bool)(c:List Nat):Option Bool:=if c=c0 then some b else none
def fnE(n:Nat)(b:SF)(c:XN):Res D:=match b (some (.exc c) :: List.replicate (n-1) none)with
 | .ok (.rt d)=>.ok d
 | .ok (.nx _)=>.ok .non
 | _=>.bad
def eCallE(f:XN->Res D)(i:Nat)(ρ:Env):Res D:=match ρ[i]? with
 | some (some (.exc c))=>f c
 | _=>.bad
end Z
end
namespace ZS
open PySem PySem.Spec PyProof.Rows L2 PySem.W
theorem objThere{P:Program}{w:World}{H:Hp}{h:Heap}{a:Addr}{o:HO}(x:ObjOk P w H h a o):∃ob,h.get? a=some ob:=by
 cases o with
 | lst xs=>obtain⟨_,_,_,_,e⟩:=x;exact⟨_,e⟩
 | tup xs=>obtain⟨_,_,_,ob,e,_⟩:=x;exact⟨_,e⟩
 | dK kvs=>obtain⟨_,_,_,_,o,_,_,e,_⟩:=x;exact⟨_,e⟩
 | dT kvs=>obtain⟨_,_,_,_,o,_,_,e,_⟩:=x;exact⟨_,e⟩
 | set S n=>obtain⟨o,_,_,_,e,_⟩:=x;exact⟨_,e⟩
 | ins C dx fs=>obtain⟨_,_,_,e,_⟩:=x;exact⟨_,e⟩
 | own y=>obtain⟨_,e⟩:=x;exact⟨_,e⟩
 | xd fs=>obtain⟨_,⟨_,_,_,e,_⟩,_⟩:=x;exact⟨_,e⟩
 | rng lo hi=>obtain⟨_,_,_,e⟩:=x;exact⟨_,e⟩
 | frz ob u=>obtain⟨e,_⟩:=x;exact⟨_,e⟩
 | tbl q=>obtain⟨_,e,_⟩:=x;exact⟨_,e⟩
 | cod q=>obtain⟨_,_,_,_,e1,e2,_⟩:=x;cases e1;exact⟨_,e2⟩
 | met f y=>exact⟨_,(show h.get? a=some _ from x)⟩
 | ext φ=>obtain⟨_,⟨_,e⟩,_⟩:=x;exact⟨_,e⟩
section
variable {X:Cx}{pins:List (Addr×Obj)}{σ:St}{H H':Hp}{s:Shared}{h':Heap}
theorem stepX{g':Array GenState}{t':Nat}{d':Drawn}{ch:List Addr}(I:Inv X pins σ H s)
  (hch:∀b∈ch,X.s₀.heap.get? b=none∧b≠X.env.locals∧(∀x c,X.env.cells.lookup x=some c->c≠b)∧∀p∈X.pn++pins,p.1≠b)
  (keep:∀b o,b≠X.env.locals->b∉X.fs->b∉ch->s.heap.get? b=some o->H b=none->h'.get? b=some o)
  (slot:∀b o,b≠X.env.locals->b∈X.fs->b∉ch->s.heap.get? b=some o->H b=none->∃sl,h'.get? b=some { o with slots:=sl }) (free:∀b o,b∉ch->s.heap.get? b=some o->H b=none->H' b=none)
  (there:∀b o,b∉ch->s.heap.get? b=some o->∃o',h'.get? b=some o')
  (tups:∀b xs,H b=some (.tup xs)->H' b=some (.tup xs)) (frzs:∀b o u,H b=some (.frz o u)->H' b=some (.frz o u)) (tbls:∀b u,Prm u->H b=some u->H' b=some u)
  (ns:∀m,s.heap.Ns X.env.locals m->h'.Ns X.env.locals m) (hok:HOk X.prog X.w H' h') (hg:AllBare g') :
  Inv X pins σ H' { s with heap:=h',gens:=g',drawn:=d',toks:=t' }:=by
 have neL:∀b o,X.s₀.heap.get? b=some o->b≠X.env.locals:=λ b o e=>Nat.ne_of_lt (Nat.lt_of_lt_of_le (Heap.lt_size e) I.ok.above);have neC:∀b o,X.s₀.heap.get? b=some o->b∉ch:=λ b o e hb=>by rw[(hch b hb).1]at e;cases e
 have cellK:∀x c,X.env.cells.lookup x=some c->∀v,s.heap.IsCell c v->h'.IsCell c v:=λ x c e v ⟨o,ho,hd⟩=>by
  have nch:c∉ch:=λ z=>(hch c z).2.2.1 x c e rfl;by_cases hc:c∈X.fs
  ·obtain⟨sl,q⟩:=slot c o (I.cne x c e) hc nch ho (I.freeC x c e);exact⟨_,q,hd⟩
  ·exact⟨o,keep c o (I.cne x c e) hc nch ho (I.freeC x c e),hd⟩
 refine⟨I.ok,I.os,hg,⟨λ b o e n hb hx=>?_,λ b o e n hb hx=>?_,λ b o e n hx=>?_,λ b o e hx=>?_,λ b xs e=>tups b xs (I.base.tups b xs e),λ b o xs e=>frzs b o xs (I.base.frzs b o xs e),λ b u p e=>tbls b u p (I.base.tbls b u p e)⟩,?_,λ x c e=>?_,?_,λ x c e=>?_,λ p hp=>?_,hok,I.len,I.tab.up tbls⟩
 ·exact keep b o (neL b o e) hb (neC b o e) (I.base.keep b o e n hb hx) (I.base.free b o e n hx)
 ·obtain⟨sl,e1⟩:=I.base.slot b o e n hb hx;obtain⟨sl',e2⟩:=slot b _ (neL b o e) hb (neC b o e) e1 (I.base.free b o e n hx);exact⟨sl',e2⟩
 ·obtain⟨o',e1⟩:=I.base.there b o e hx;exact free b o' (neC b o e) e1 (I.base.free b o e n hx)
 ·obtain⟨o',e1⟩:=I.base.there b o e hx;exact there b o' (neC b o e) e1
 ·obtain⟨m,hn,hl⟩:=I.loc;refine⟨m,ns m hn,λ i x v e1 e2 e3=>?_⟩;obtain⟨u,r,l⟩:=hl i x v e1 e2 e3;refine⟨u,r,?_⟩;rcases l with l | ⟨k,c,e,z⟩
  ·exact .inl l
  ·exact .inr ⟨k,c,e,cellK x c e _ z⟩
 ·obtain⟨v,z⟩:=I.cell x c e;exact⟨v,cellK x c e v z⟩
 ·obtain⟨m,⟨o,_,_,ho,_⟩,_⟩:=I.loc;exact free _ o (λ z=>(hch _ z).2.1 rfl) ho I.free
 ·obtain⟨v,o,ho,hd⟩:=I.cell x c e;exact free c o (λ z=>(hch c z).2.2.1 x c e rfl) ho (I.freeC x c e)
 ·obtain⟨e,n,ne,nf,d⟩:=I.pin p hp;have nch:p.1∉ch:=λ z=>(hch p.1 z).2.2.2 p hp rfl;exact⟨keep p.1 p.2 ne nf nch e n,free p.1 p.2 nch e n,ne,nf,d⟩
structure OffX(X:Cx)(pins:List (Addr×Obj))(H:Hp)(s:Shared)(a:Addr):Prop where
 free:H a=none
 new:X.s₀.heap.get? a=none
 pin:∀p∈X.pn++pins,p.1≠a
 isr:∃o vs,s.heap.get? a=some o∧o.data=.fields vs
theorem OffX.loc{a:Addr}(o:OffX X pins H s a)(I:Inv X pins σ H s):a≠X.env.locals:=λ z=>by obtain⟨ob,vs,e,d⟩:=o.isr;obtain⟨m,⟨o',es,ep,ho',hd',_⟩,_⟩:=I.loc;rw[z,ho']at e;cases e;rw[hd']at d;cases d
theorem OffX.cell{a:Addr}(o:OffX X pins H s a)(I:Inv X pins σ H s)(x:Str)(c:Addr)(hc:X.env.cells.lookup x=some c):c≠a:=λ z=>by obtain⟨ob,vs,e,d⟩:=o.isr;obtain⟨v,o',ho',hd'⟩:=I.cell x c hc;rw[z,e]at ho';cases ho';rw[d]at hd';cases hd'
theorem OffX.stk{a:Addr}(o:OffX X pins H s a)(I:Inv X pins σ H s):a∉frs X.stack:=λ z=>by obtain⟨ob,vs,e,d⟩:=o.isr;obtain⟨_,o',ho',hd'⟩:=I.stack.mem z;rw[e]at ho';cases ho';exact hd' vs d
theorem absent{a:Addr}(I:Inv X pins σ H s)(h:s.heap.get? a=none):H a=none∧X.s₀.heap.get? a=none∨a∈X.ex:=by
 by_cases hx:a∈X.ex
 ·exact .inr hx
 ·refine .inl ⟨?_,?_⟩
  ·cases e:H a with
   | none=>rfl
   | some u=>obtain⟨ob,q⟩:=objThere (I.hok a u e);rw[h]at q;cases q
  ·cases e:X.s₀.heap.get? a with
   | none=>rfl
   | some o=>obtain⟨o',q⟩:=I.base.there a o e hx;rw[h]at q;cases q
theorem Inv.snap{l:List Addr}{t':Nat}(I:Inv X pins σ H s)(off:∀a∈l,OffX X pins H s a)(k1:(hideAll s.heap (frs X.stack++l)).StaysIn h')
  (k4:∀b o,s.heap.get? b=some o->(∀vs,o.data≠.fields vs)->∃sl,h'.get? b=some { o with slots:=sl }):Inv X pins σ H { s with heap:=h',toks:=t' }:=by
 have inB:∀b o,b∉frs X.stack->b∉l->s.heap.get? b=some o->h'.get? b=some o:=λ b o n1 n2 e=>k1 b o (hideAll_get _ e (λ z=>(List.mem_append.mp z).elim n1 n2));have trk:∀b u,H b=some u->b∉frs X.stack∧b∉l:=λ b u e=>⟨λ z=>(by rw[I.stkFree b z]at e;cases e),λ z=>(by rw[(off b z).free]at e;cases e)⟩
 refine stepX (g':=s.gens) (d':=s.drawn) (ch:=l) I (λ b hb=>⟨(off b hb).new,(off b hb).loc I,(off b hb).cell I,(off b hb).pin⟩) (λ b o hL hf hc e n=>inB b o (λ z=>(List.mem_cons.mp (I.stkSub b z)).elim hL hf) hc e) (λ b o hL hf hc e n=>?_) (λ _ _ _ _ n=>n) (λ b o hc e=>?_) (λ _ _ e=>e) (λ _ _ _ e=>e) (λ _ _ _ e=>e) (λ m hm=>?_) (λ b u e=>?_) I.bare
 ·obtain⟨_,o',ho',hd'⟩:=I.funs.mem hf;rw[e]at ho';cases ho';exact k4 b o e hd'
 ·by_cases hz:b∈frs X.stack
  ·obtain⟨_,o',ho',hd'⟩:=I.stack.mem hz;rw[e]at ho';cases ho';obtain⟨sl,q⟩:=k4 b o e hd';exact⟨_,q⟩
  ·exact⟨o,inB b o hz hc e⟩
 ·obtain⟨o,es,ep,ho,hd,r⟩:=hm;obtain⟨sl,q⟩:=k4 _ o ho (λ vs z=>by rw[hd]at z;cases z);exact⟨_,es,ep,q,hd,r⟩
 ·refine(I.hok b u e).stay (λ c v hc q=>?_) (λ _ q=>q) (λ _ _ q=>q) λ _ _ _ q=>q;rcases hc with rfl | hc
  ·exact inB c v (trk c u e).1 (trk c u e).2 q
  ·exact inB c v (trk c _ hc).1 (trk c _ hc).2 q
theorem snap_new{l:List Addr}{T:Addr}{oT:Obj}{ts:Array Value}(hex:X.ex=[])(I:Inv X pins σ H s)(off:∀a∈l,OffX X pins H s a)(k2:h'.FunFrames (hideAll s.heap (frs X.stack++l)) X.stack)
  (hT:(hideAll s.heap (frs X.stack++l)).get? T=none) (hT':h'.get? T=some oT) (hd:oT.data=.fields ts):H T=none∧X.s₀.heap.get? T=none∧∀p∈X.pn++pins,p.1≠T:=by
 have nst:T∉frs X.stack:=λ z=>by obtain⟨_,o',ho',hd'⟩:=k2.mem z;rw[hT']at ho';cases ho';exact hd' ts hd
 by_cases hl:T∈l
 ·exact⟨(off T hl).free,(off T hl).new,(off T hl).pin⟩
 ·have hn:s.heap.get? T=none:=by
   cases e:s.heap.get? T with
   | none=>rfl
   | some o=>rw[hideAll_get _ e (λ z=>(List.mem_append.mp z).elim nst hl)]at hT;cases hT
  rcases absent I hn with z | z
  ·exact⟨z.1,z.2,λ p hp q=>by rw[<-q,(I.pin p hp).1]at hn;cases hn⟩
  ·rw[hex]at z;cases z
end
theorem entryX{M:Model}{A:Around}{E:Value->Shared->Prop}{s:Shared}{ground:Heap}{env:PySem.Env}{rest:List PySem.Env}{L e:Addr}{oe:Obj}{fl:Array Value}{hd0:Value}{nx:Bool}{Q:Unit->Shared->Prop}
  (fr:A.frames=some (env :: rest)) (ff:s.heap.FunFrames ground (env :: rest)) (el:env.frame=some L) (ge:s.heap.get? e=some oe) (st:ground.StaysIn s.heap) (ne:ground.get? e=none) (de:oe.data=.fields fl) (sz:1 < fl.size)
  (k:∀ h' T oT ts,ground.StaysIn h'->h'.FunFrames ground (env :: rest)->h'.get? e=some (oe.mapFields (·.setIfInBounds 1 (.ref T)))->ground.get? T=none->T≠e->h'.get? T=some oT->oT.data=.fields ts->3 < ts.size ->
   (∀b o,s.heap.get? b=some o->(∀vs,o.data≠.fields vs)->∃sl,h'.get? b=some { o with slots:=sl })->Q () { s with heap:=h' }) :
  wpAny M A (do let a ←frameOf env;let pl ←entryPlaceOf L nx;let b ←EntryCells.newEntry hd0 a .none (rawInt L) .none pl;setField (.ref e) 1 b) Q E s:=by
 have out:e∉(env :: rest).filterMap (·.frame):=λ z=>by obtain⟨_,o,go,no⟩:=ff.mem z;rw[ge]at go;cases go;exact no fl de
 refine wpAny_bind (wpAny_frameOf_fun fr ff el λ h1 so=>wpAny_bind (wpAny_entryPlaceOf λ pl ip=>?_));unfold EntryCells.newEntry newFields;refine wpAny_bind (wpAny_newObj_type ?_ (ip.sizeOk5 _ _ _ _ _));generalize hnew:({ cls:=.type "traceback",dict:=none,data:=.fields ([hd0,.ref L,.none,rawInt L,.none]++(if pl.isEmpty then List.replicate 6 Value.none else pl)).toArray }:Obj)=new;have dnew:new.data=.fields ([hd0,.ref L,.none,rawInt L,.none]++(if pl.isEmpty then List.replicate 6 Value.none else pl)).toArray:=by rw[<-hnew]
 have ge1:h1.get? e=some oe:=(so.2.1 e out).trans ge;have st1:ground.StaysIn h1:=λ b o q=>(so.2.1 b λ z=>by rw[(ff.mem z).1]at q;cases q).trans (st b o q);have ge2:=Heap.get?_push_of_some (h:=h1) new ge1;refine wpAny_setField ge2 de sz ?_;have Te:h1.objs.size≠e:=Nat.ne_of_gt (Heap.lt_size ge1);have d3:=Obj.data_mapFields de (·.setIfInBounds 1 (Value.ref h1.objs.size));have ge3:=Heap.get?_update_self (Obj.mapFields (·.setIfInBounds 1 (Value.ref h1.objs.size))) ge2 (Obj.isFreed_of_fields d3);have gT:=(Heap.get?_update_other (h1.push new) (Obj.mapFields (·.setIfInBounds 1 (Value.ref h1.objs.size))) (Ne.symm Te)).trans (Heap.get?_push_size h1 (Obj.isFreed_of_fields dnew));have hold:∀b o,b≠e->h1.get? b=some o->((h1.push new).update e (Obj.mapFields (·.setIfInBounds 1 (Value.ref h1.objs.size)))).get? b=some o:=λ b o n q=>by rw[Heap.get?_update_other _ _ (Ne.symm n)];exact Heap.get?_push_of_some _ q
 have apart:∀b o,s.heap.get? b=some o->(∀vs,o.data≠.fields vs)->b≠e:=λ b o q n z=>by rw[z,ge]at q;cases q;exact n fl de
 refine k _ h1.objs.size new _ (λ b o q=>hold b o (λ z=>by rw[z,ne]at q;cases q) (st1 b o q)) (ff.of_keeps λ b o q n=>?_) ge3 st1.fresh Te gT dnew (by simp only[List.size_toArray,List.length_append,List.length_cons,List.length_nil];lia) λ b o q n=>?_
 ·obtain⟨sl,z⟩:=so.2.2 b o q;exact⟨_,hold b _ (apart b o q n) z,rfl⟩
 ·obtain⟨sl,z⟩:=so.2.2 b o q;exact⟨sl,hold b _ (apart b o q n) z⟩
theorem mapFields_dict(o:Obj)(f:Array Value->Array Value):(o.mapFields f).dict=o.dict:=by obtain⟨_,_,d,_⟩:=o;cases d<;>rfl
structure Thr(X:Cx)(pins:List (Addr×Obj))(H:Hp)(s:Shared)(e C:Addr)(dd:Option Addr):Prop where
 off:OffX X pins H s e
 ex:∃oe vs,s.heap.get? e=some oe∧oe.cls=.ref C∧oe.dict=dd∧oe.data=.fields vs∧(vs[1]?=some .none∨∃T oT ts,vs[1]?=some (.ref T)∧T≠e∧OffX X pins H s T∧s.heap.get? T=some oT∧oT.data=.fields ts∧ts[3]?=some .none)
def NewX(h0:Heap)(H':Hp)(h':Heap)(e C:Addr)(dd:Option Addr):Prop:=h0.get? e=none∧H' e=none∧∃oe vs T oT ts,h'.get? e=some oe∧oe.cls=.ref C∧oe.dict=dd∧oe.data=.fields vs∧vs[1]?=some (.ref T)∧T≠e∧H' T=none∧h0.get? T=none∧h'.get? T=some oT∧oT.data=.fields ts∧ts[3]?=some .none
def CXZ(P:Program)(w:World):CXT:=λ outer H s E ev s'=>∃e C dd H',ev=.ref e∧s'.os=s.os∧AllBare s'.gens∧Un (frs outer) [] H H' s.heap s'.heap∧HOk P w H' s'.heap∧NewX s.heap H' s'.heap e C dd∧E (.ref C) dd H'
theorem stk_in{l:List PySem.Env}{as:List Addr}:∀env∈l,∀a,env.frame=some a->a∈frs l++as:=λ env he a ha=>List.mem_append_left _ (List.mem_filterMap.mpr ⟨env,he,ha⟩)
section
variable {X:Cx}{pins:List (Addr×Obj)}{σ:St}{H:Hp}{s:Shared}
structure Cgt(X:Cx)(pins:List (Addr×Obj))(σ:St)(H:Hp)(s:Shared)(e C:Addr)(dd:Option Addr)(lands:Bool):Prop where
 inv:Inv X pins σ H s
 off:OffX X pins H s e
 ex:∃oe vs T oT ts,s.heap.get? e=some oe∧oe.cls=.ref C∧oe.dict=dd∧oe.data=.fields vs∧vs[1]?=some (.ref T)∧T≠e∧OffX X pins H s T∧s.heap.get? T=some oT∧oT.data=.fields ts∧3 < ts.size∧(lands=true->ts[3]?=some .none)
theorem note_thr{M:Model}{E:Value->Shared->Prop}{Q:Unit->Shared->Prop}{e C:Addr}{dd:Option Addr}(hex:X.ex=[])(hst:X.stack=X.env :: X.outer)(hfl:X.env.frame=some X.env.locals)(I:Inv X pins σ H s)(t:Thr X pins H s e C dd)
  (k:∀s',Cgt X pins σ H s' e C dd false->Q () s'):wpAny M X.A (noteFrame (.ref e) X.env) Q E s:=by
 obtain⟨oe,vs,he,hcl,hdd,hd,h1⟩:=t.ex;have hfr:X.A.frames=some (X.env :: X.outer):=by rw[<-hst];exact I.ok.frames
 have stk:=I.stack;rw[hst]at stk;unfold noteFrame;simp only[hfl];rcases h1 with h1 | ⟨T,oT,ts,h1,hTe,oT',gT,dT,h3⟩
 ·have off:∀a∈[e],OffX X pins H s a:=λ a ha=>by rw[List.mem_singleton.mp ha];exact t.off
  refine wpAny_bind (wpAny_field he hd h1 ?_);rw[if_neg (by decide)];refine entryX (ground:=hideAll s.heap (frs (X.env :: X.outer)++[e])) hfr (funFrames_hide stk stk_in) hfl he (λ b o=>of_hideAll _) (hideAll_none _ (List.mem_append_right _ (List.mem_singleton.mpr rfl))) hd (Array.getElem?_eq_some_iff.mp h1).1 λ h' T' oT' ts' k1 k2 g1 g2 g3 g4 g5 g6 k4=>k _ ?_;rw[<-hst]at k1 k2 g2;have J:=Inv.snap (t':=s.toks) I off k1 k4;obtain⟨n1,n2,n3⟩:=snap_new hex I off k2 g2 g4 g5;have sz:=(Array.getElem?_eq_some_iff.mp h1).1;exact⟨J,⟨t.off.free,t.off.new,t.off.pin,_,_,g1,Obj.data_mapFields hd _⟩,_,_,T',oT',ts',g1,(Obj.cls_mapFields _ _).trans hcl,(mapFields_dict _ _).trans hdd,Obj.data_mapFields hd _,by simp[sz],g3,⟨n1,n2,n3,oT',ts',g4,g5⟩,g4,g5,g6,λ z=>nomatch z⟩
 ·have off:∀a∈[e,T],OffX X pins H s a:=λ a ha=>by
   rcases List.mem_cons.mp ha with rfl | ha
   ·exact t.off
   ·rw[List.mem_singleton.mp ha];exact oT'
  refine wpAny_bind (wpAny_field he hd h1 ?_);rw[if_pos (show(Value.ref T != Value.none)=true from by simp)];refine wpAny_bind (wpAny_field gT dT h3 ?_);rw[if_neg (show ¬((Value.none==rawInt X.env.locals)=true)from by simp[rawInt])];refine wpAny_bind (wpAny_setField gT dT (Array.getElem?_eq_some_iff.mp h3).1 ?_);have other:∀b,b≠T->(s.heap.update T (Obj.mapFields (·.setIfInBounds 3 Value.none))).get? b=s.heap.get? b:=λ b hb=>Heap.get?_update_other _ _ (Ne.symm hb);have apart:∀b o,s.heap.get? b=some o->(∀vs,o.data≠.fields vs)->b≠T:=λ b o q n z=>by rw[z,gT]at q;cases q;exact n ts dT
  have inT:T∈frs (X.env :: X.outer)++[e,T]:=List.mem_append_right _ (by simp);refine entryX (s:={ s with heap:=s.heap.update T (Obj.mapFields (·.setIfInBounds 3 Value.none)) }) (ground:=hideAll s.heap (frs (X.env :: X.outer)++[e,T])) hfr ((funFrames_hide stk stk_in).of_keeps λ b o q n=>⟨o,(other b (apart b o q n)).trans q,rfl⟩) hfl ((other e (Ne.symm hTe)).trans he)
   (λ b o q=>(other b (λ z=>by rw[z,hideAll_none _ inT]at q;cases q)).trans (of_hideAll _ q)) (hideAll_none _ (List.mem_append_right _ (by simp))) hd (Array.getElem?_eq_some_iff.mp h1).1 λ h' T' oT2 ts' k1 k2 g1 g2 g3 g4 g5 g6 k4=>k _ ?_
  rw[<-hst]at k1 k2 g2;have J:=Inv.snap (t':=s.toks) I off k1 λ b o q n=>k4 b o ((other b (apart b o q n)).trans q) n;obtain⟨n1,n2,n3⟩:=snap_new hex I off k2 g2 g4 g5;have sz:=(Array.getElem?_eq_some_iff.mp h1).1;exact⟨J,⟨t.off.free,t.off.new,t.off.pin,_,_,g1,Obj.data_mapFields hd _⟩,_,_,T',oT2,ts',g1,(Obj.cls_mapFields _ _).trans hcl,(mapFields_dict _ _).trans hdd,Obj.data_mapFields hd _,by simp[sz],g3,⟨n1,n2,n3,oT2,ts',g4,g5⟩,g4,g5,g6,λ z=>nomatch z⟩
theorem land{M:Model}{A:Around}{E:Value->Shared->Prop}{Q:Unit->Shared->Prop}{e C:Addr}{dd:Option Addr}{l:Bool}(c:Cgt X pins σ H s e C dd l)(k:∀s',Cgt X pins σ H s' e C dd true->Q () s'):wpAny M A (setFlight (.ref e) none) Q E s:=by
 obtain⟨oe,vs,T,oT,ts,he,hcl,hdd,hd,h1,hTe,oT',gT,dT,h3,_⟩:=c.ex;refine wpAny_setFlight_none he hd h1 gT dT h3 (k _ ?_);have other:∀b o,b≠T->s.heap.get? b=some o->(s.heap.update T (Obj.mapFields (·.setIfInBounds 3 .none))).get? b=some o:=λ b o hb q=>(Heap.get?_update_other _ _ (Ne.symm hb)).trans q;have gT2:=Heap.get?_update_self (Obj.mapFields (·.setIfInBounds 3 Value.none)) gT (Obj.isFreed_of_fields (Obj.data_mapFields dT _));have off:∀a∈[T],OffX X pins H s a:=λ a ha=>by rw[List.mem_singleton.mp ha];exact oT'
 have J:Inv X pins σ H { s with heap:=s.heap.update T (Obj.mapFields (·.setIfInBounds 3 .none)) }:=Inv.snap (t':=s.toks) c.inv off (λ b o q=>by
   by_cases hb:b=T
   ·rw[hb,hideAll_none _ (List.mem_append_right _ (List.mem_singleton.mpr rfl))]at q;cases q
   ·exact other b o hb (of_hideAll _ q)) (λ b o q n=>⟨o.slots,other b o (λ z=>by rw[z,gT]at q;cases q;exact n ts dT) q⟩)
 have he2:=other e oe (Ne.symm hTe) he;exact⟨J,⟨c.off.free,c.off.new,c.off.pin,oe,vs,he2,hd⟩,oe,vs,T,_,_,he2,hcl,hdd,hd,h1,hTe,⟨oT'.free,oT'.new,oT'.pin,_,_,gT2,Obj.data_mapFields dT _⟩,gT2,Obj.data_mapFields dT _,by simpa using h3,λ _=>by simp[h3]⟩
end
theorem leave_thr{P:Program}{w:World}{K:PySem.W.Frag}{mg:Str->Option Value}{base:Heap}{N:List Str}{qual:Str}{scope:Scope}{f:Addr}{cd:Value}{A:Around}{outer:List PySem.Env}{s0:Shared}{H0:Hp}{E:XK}{pins:List (Addr×Obj)}{σ:St}{H:Hp}{s:Shared}{e C:Addr}{dd:Option Addr}
  (I:Inv (cxOf (CXZ P w) P w K mg base N qual scope f cd A outer s0 H0 E) pins σ H s) (t:Thr (cxOf (CXZ P w) P w K mg base N qual scope f cd A outer s0 H0 E) pins H s e C dd) (hE:E (.ref C) dd H) :
  (cxOf (CXZ P w) P w K mg base N qual scope f cd A outer s0 H0 E).xe (.ref e) s:=by
 show wpAny (model P w) (cxOf (CXZ P w) P w K mg base N qual scope f cd A outer s0 H0 E).A (leaving (cxOf (CXZ P w) P w K mg base N qual scope f cd A outer s0 H0 E).env (.ref e)) (λ _ s''=>CXZ P w outer H0 s0 E (.ref e) s'') _ s;unfold leaving;refine wpAny_bind (note_thr rfl rfl rfl I t λ s1 c1=>land c1 λ s2 c2=>?_);obtain⟨oe,vs,T,oT,ts,q1,q2,qd,q3,q4,q5,q6,q7,q8,q9,q10⟩:=c2.ex;exact⟨e,C,dd,H,rfl,c2.inv.os,c2.inv.bare,c2.inv.base,c2.inv.hok,⟨c2.off.new,c2.off.free,oe,vs,T,oT,ts,q1,q2,qd,q3,q4,q5,q6.free,q6.new,q7,q8,q10 rfl⟩,hE⟩
theorem thr_of{X:Cx}{pins:List (Addr×Obj)}{σ:St}{H:Hp}{s s':Shared}{E:XK}{ev:Value}(hex:X.ex=[])(I:Inv X pins σ H s)(c:CXZ X.prog X.w X.stack H s E ev s'):
  ∃e C dd H',ev=.ref e∧Inv X pins σ H' s'∧Thr X pins H' s' e C dd∧E (.ref C) dd H':=by
 obtain⟨e,C,dd,H',rfl,os,bare,un,hok,⟨ne,fe,oe,vs,T,oT,ts,q1,q2,qd,q3,q4,q5,q6,q7,q8,q9,q10⟩,hE⟩:=c;have J:Inv X pins σ H' s':=I.call' (s':=s') os un hok bare λ b hb=>absurd hb (by simp);have ab:∀a,s.heap.get? a=none->X.s₀.heap.get? a=none∧∀p∈X.pn++pins,p.1≠a:=λ a h=>by
  rcases absent I h with z | z
  ·exact⟨z.2,λ p hp q=>by rw[<-q,(I.pin p hp).1]at h;cases h⟩
  ·rw[hex]at z;cases z
 exact⟨e,C,dd,H',rfl,J,⟨⟨fe,(ab e ne).1,(ab e ne).2,oe,vs,q1,q3⟩,oe,vs,q1,q2,qd,q3,.inr ⟨T,oT,ts,q4,q5,⟨q6,(ab T q7).1,(ab T q7).2,oT,ts,q8,q9⟩,q8,q9,q10⟩⟩,hE⟩
theorem thr_new{X:Cx}{pins:List (Addr×Obj)}{σ:St}{H:Hp}{s:Shared}{h':Heap}{e C:Addr}{vs:List Value}(hex:X.ex=[])(I:Inv X pins σ H s)(hm:Heap.MadeExcOf s.heap h' e (.ref C) vs):
  Inv X pins σ H { s with heap:=h' }∧Thr X pins H { s with heap:=h' } e C none:=by
 have J:Inv X pins σ H { s with heap:=h' }:=I.kept (t':=s.toks) hm.keeps;obtain⟨t,ht,_,_⟩:=hm.there;refine⟨J,?_⟩;rcases absent I hm.new with z | z
 ·exact⟨⟨z.1,z.2,λ p hp q=>(by have:=(I.pin p hp).1;rw[q,hm.new]at this;cases this),_,_,ht,rfl⟩,_,_,ht,rfl,rfl,rfl,.inl rfl⟩
 ·rw[hex]at z;cases z
end ZS
namespace ZS
open PySem PySem.Spec PyProof.Rows L2 PySem.W
section
variable {X:Cx}{pins:List (Addr×Obj)}{σ:St}{H:Hp}{s:Shared}
theorem PW.nox{e:Expr}{t:TT}(h:PW X.nox e t):PW X e t:=λ whole pins s σ H Q I hw =>wpAny_mono (h whole pins s σ H Q (I.wish _) hw) (λ _ _ ⟨H',I',q⟩=>⟨H',I'.unwish,q⟩) λ _ _ z=>False.elim z
theorem PA.nox{es:List Expr}{t:TA}(h:PA X.nox es t):PA X es t:=λ pos pins s σ H Q I hw =>wpAny_mono (h pos pins s σ H Q (I.wish _) hw) (λ _ _ ⟨vs,H',I',r,q⟩=>⟨vs,H',I'.unwish,r,q⟩) λ _ _ z=>False.elim z
theorem PS.nox{st:Stmt}{t:TS}(h:PS X.nox st t):PS X st t:=λ pins s σ H D I hw =>wpAny_mono (h pins s σ H D (I.wish _) hw) (λ _ _ q=>q.unwish) λ _ _ z=>False.elim z
def XwE(X:Cx)(σ:St)(H:Hp)(c:Z.XN):Prop:=∀pins H' s e C dd,aJ H H'->XRel X.K H' c C dd->Inv X pins σ H' s->Thr X pins H' s e C dd->X.xe (.ref e) s
def Xw(X:Cx)(H0:Hp)(c:Z.XN):Prop:=∀pins σ H' s e C dd,aJ H0 H'->XRel X.K H' c C dd->Inv X pins σ H' s->Thr X pins H' s e C dd->X.xe (.ref e) s
theorem XwE.up{c:Z.XN}{H':Hp}(h:XwE X σ H c)(e:aJ H H'):XwE X σ H' c:=λ pins H2 s a C dd sm=>h pins H2 s a C dd (e.trans sm)
def xR(X:Cx)(f:Z.XF)(σ:St)(H:Hp):Prop:=∃ρ c,RE X.K H σ ρ∧f ρ=some c∧XwE X σ H c
abbrev XE(X:Cx)(e:Expr)(f:Z.XF):Prop:=PE X e (λ σ H _=>xR X f σ H)
abbrev XA(X:Cx)(es:List Expr)(f:Z.XF):Prop:=PA X es (λ σ H _=>xR X f σ H)
abbrev XT(X:Cx)(e:Expr)(f:Z.XF):Prop:=PT X e (λ σ H _=>xR X f σ H)
abbrev XR(X:Cx)(st:Stmt)(f:Z.XF):Prop:=PS X st (λ _ σ H=>xR X f σ H)
abbrev XRs(X:Cx)(sts:List Stmt)(f:Z.XF):Prop:=PSs X sts (λ _ σ H=>xR X f σ H)
def xS(X:Cx)(H0:Hp)(f:Z.XF)(σ:St)(H:Hp):Prop:=∃ρ c,RS X.K H0 H σ ρ∧f ρ=some c∧Xw X H0 c
abbrev XS(X:Cx)(H0:Hp)(st:Stmt)(f:Z.XF):Prop:=PS X st (λ _ σ H=>xS X H0 f σ H)
abbrev XSs(X:Cx)(H0:Hp)(sts:List Stmt)(f:Z.XF):Prop:=PSs X sts (λ _ σ H=>xS X H0 f σ H)
theorem xS.r{H0:Hp}{f:Z.XF}(h:xS X H0 f σ H):xR X f σ H:=by obtain⟨ρ,c,rs,e,k⟩:=h;exact⟨ρ,c,rs.re,e,λ pins H' s a C dd sm=>k pins σ H' s a C dd (rs.same.trans sm)⟩
end
def ClsO(C:Addr)(h:Heap):Prop:=∃(tl:List Value)(ns:Addr)(nm qn:Str)(bs:List Value)(hd:Bool)(sn:List Str)(sub:List Value)(ab:Bool)(col:Option Bool)(dd:Option Addr)(s0 s1 s2 s3 s5:Option Value),
 h.get? C=some (excClassObj nm qn C ns bs tl hd sn sub ab col dd s0 s1 s2 s3 s5 "ValueError.__new__")∧tl.contains (.type "BaseException")=true
theorem clsO{K : PySem.W.Frag}{c : List Nat}{C : Addr}{h : Heap}(X : K.In h)(xc : XC K c C): ClsO C h := by
 have q:=xc.2;unfold xcIn at q;split at q
 ·rename_i dd cd sl ho;split at q
  ·rename_i C' tl s0 s1 s2 s3 id s5 e1 e2;simp only[Bool.and_eq_true,beq_iff_eq,Bool.not_eq_true']at q;obtain⟨⟨⟨rfl,rfl⟩,r1⟩,r2⟩:=q;cases cd;dsimp only at e1 r1;subst e1 r1;obtain rfl:sl=#[s0,s1,s2,s3,some (.builtin "ValueError.__new__"),s5]:=by cases sl;simp only at e2;rw[e2]
   exact⟨tl,_,_,_,_,_,_,_,_,_,dd,s0,s1,s2,s3,s5,X _ _ ho,r2⟩
  ·cases q
 ·cases q
def ClsI(C:Addr)(h:Heap):Prop:=∃(tl:List Value)(ns:Addr)(nm qn:Str)(bs:List Value)(hd:Bool)(sn:List Str)(sub:List Value)(ab:Bool)(col:Option Bool)(dd:Option Addr)(s0 s1 s2 s3 s5:Option Value)(mN:Str->Option Value),
 h.get? C=some (excClassObj nm qn C ns bs tl hd sn sub ab col dd s0 s1 s2 s3 s5 "ValueError.__new__")∧h.Ns ns mN∧mN "__init__" = none∧OwnTail h [.type "ValueError",.type "Exception",.type "BaseException",.type "object"] tl
theorem clsI{K : PySem.W.Frag}{C : Addr}{h : Heap}(X : K.In h)(q : excIn K C [.type "ValueError", .type "Exception", .type "BaseException", .type "object"] "ValueError.__new__" = true): ClsI C h := by
 unfold excIn at q;split at q
 ·rename_i dd cd sl ho;split at q
  ·rename_i C' tl s0 s1 s2 s3 id s5 e1 e2;simp only[Bool.and_eq_true,beq_iff_eq,Bool.not_eq_true']at q;obtain⟨⟨⟨⟨⟨rfl,rfl⟩,r1⟩,r2⟩,r3⟩,r4⟩:=q;cases cd;dsimp only at e1 r1 r3 r4;subst e1 r1;obtain rfl:sl=#[s0,s1,s2,s3,some (.builtin "ValueError.__new__"),s5]:=by cases sl;simp only at e2;rw[e2]
   exact⟨tl,_,_,_,_,_,_,_,_,_,dd,s0,s1,s2,s3,s5,_,X _ _ ho,.of_isNs (isNs_of_in X r3),nsMap_none_of_in X r3 r4,tail_of_in X r2⟩
  ·cases q
 ·cases q
def spR(K:PySem.W.Frag)(m:List Z.D->Option Z.XN):Sp:=λ vs H _ E=>∃ds c,aE K H ds vs∧m ds=some c∧∀C dd H',aJ H H'->XRel K H' c C dd->E (.ref C) dd H'
structure CalX(P:Program)(w:World)(K:PySem.W.Frag)(mg:Str->Option Value)(base:Heap)(x:Str)(k:Nat)(ps:List Str)(m:List Z.D->Option Z.XN):Prop where
 ex:∃g fd,FnOk P w K mg base (CXZ P w) k g fd ps (spR K m)∧mg x=some (.ref g)∧PySem.W.keepIn K (.ref g)=true∧Binds K fd ps []
section
variable {X:Cx}{e a:Expr}{es:List Expr}{pos:Pos}{f:Z.XF}
theorem xe_call{k : Nat}{ps : List Str}{x : Str}{m : List Z.D -> Option Z.XN}{ar : Z.AF}{p1 : Pos}(C : CalX X.prog X.w X.K X.mg X.base x k ps m)(hr : Room k X.A)(hg : Gl X x)
  (ha:DA X.nox (e :: es) ar) (hex:X.ex=[]:=by rfl) (hdb:(x==("__debug__" : Str))=false:=by decide +kernel) (he:starEach (e :: es) X.env=(false,eval e X.env) :: starEach es X.env:=by rfl) (hpl:(backTo pos (starEach es X.env)).any (·.1)=false:=by rfl) :
  XE X (.Call (.Name x p1) (e :: es) [] pos) (Z.xCall m ar):=by
 obtain⟨g,fd,F,hm,hk,hb⟩:=C.ex;intro pins s σ H Q I h;obtain⟨ρ,c,re,ec,kw⟩:=h;unfold Z.xCall at ec;split at ec
 ·rename_i ds ed;refine wpAny_Call_Name_kw (ld_glob I hg hm ?_ hdb);refine PySem.W.callWith_K (h₀:=X.base) I.ok.mod.kin hk (thn (PA.nox ha pos pins s σ H (λ vs H1=>aJ H H1∧aE X.K H1 ds vs) I ⟨ρ,ds,re,ed,λ vs H1 s1 d1=>⟨s1,d1⟩⟩) λ us s1 ⟨vs,H1,I1,r,sm,d1⟩=>⟨I1.kIn,?_⟩) he hpl;have hsp:spR X.K m vs H1 (λ _ _=>False) (λ cv dd H'=>∃C,cv=.ref C∧XRel X.K H' c C dd∧aJ H1 H'):=⟨ds,c,d1,ec,λ C' dd H' s2 x2=>⟨C',rfl,x2,s2⟩⟩
  have hl:=F.len _ _ _ _ hsp;refine wpAny_call (codeAny_mono (F.run X.A X.stack s1 H1 ⟨us,[]⟩ us vs _ _ hr I1.env0 (by have:=hb s1 us I1.kIn (by rw[List.append_nil,<-r.length];exact hl);simpa using this) r hsp) λ rr s' hq=>?_);cases rr with
  | ok fl =>
   cases fl with
   | ret u =>obtain⟨v,H2,_,_,_,_,_,q⟩:=hq;exact q.elim
   | _=>exact hq.elim
  | error ev =>have hq:CXZ X.prog X.w X.stack H1 s1 (λ cv dd H'=>∃C,cv=.ref C∧XRel X.K H' c C dd∧aJ H1 H') ev s':=hq;obtain⟨a,C',dd,H',rfl,J,th,C2,hc,x2,s2⟩:=thr_of hex I1 hq;cases hc;exact kw pins H' s' a C' dd (sm.trans s2) x2 J th
 ·cases ec
theorem xa_hd(h:XE X e f){ar:Z.AF}(ha:DA X.nox es ar)(he:starEach (e :: es) X.env=(false,eval e X.env) :: starEach es X.env:=by rfl):XA X (e :: es) f:=pa_cons h (PA.nox ha) he
theorem xa_tl{fa:Z.EF}(h:DE X.nox e fa)(ha:XA X es f)(he:starEach (e :: es) X.env=(false,eval e X.env) :: starEach es X.env:=by rfl):XA X (e :: es) (Z.xTl fa f) :=
 PA.imp (pa_cons (PE.nox h) ha he) λ σ H Q ⟨ρ,c,re,ec,kw⟩=>by
  unfold Z.xTl at ec;split at ec
  ·rename_i d ed;exact⟨ρ,d,re,ed,λ v H1 s1 d1=>⟨ρ,c,re.up s1,ec,kw.up s1⟩⟩
  ·cases ec
theorem xe_arg{k:Nat}{ps:List Str}{x:Str}{m:List Z.D->Z.Res Z.D}{p1:Pos}(C:Cal X.prog X.w X.K X.mg X.base x k ps m)(hr:Room k X.A)(hg:Gl X x)(ha:XA X (e :: es) f)
  (hdb:(x==("__debug__" : Str))=false:=by decide +kernel) (he:starEach (e :: es) X.env=(false,eval e X.env) :: starEach es X.env:=by rfl) (hpl:(backTo pos (starEach es X.env)).any (·.1)=false:=by rfl):XE X (.Call (.Name x p1) (e :: es) [] pos) f:=by
 obtain⟨g,fd,F,hm,hk,hb⟩:=C.ex;exact pe_call F hr hg hm hk hb .nil pass0 ha hdb he hpl
theorem xe_argT{T:String}{x:Str}{p1:Pos}(hg:Gl X x)(hm:X.mg x=none)(hv:bootBuiltins x=some (.type T))(ha:XA X (e :: es) f)(hn:x ≠ "__name__" := by decide +kernel)(hdb:(x==("__debug__" : Str))=false:=by decide +kernel)
  (he:starEach (e :: es) X.env=(false,eval e X.env) :: starEach es X.env:=by rfl) (hpl:(backTo pos (starEach es X.env)).any (·.1)=false:=by rfl):XE X (.Call (.Name x p1) (e :: es) [] pos) f :=
 pe_callTy (r:=λ _ _ _=>False) (λ _ _ _ _ _ _ _ _ _ h=>h.elim) hg hm hv ha hn hdb he hpl
theorem xt_notN{j:Nat}{pos':Pos}(h:XE X a f):XT X (.Compare a [.IsNot] [.Constant .none j pos'] pos) f:=pt_cmpR op_notN h pe_non (nomark _)
section
variable {H0:Hp}{st:Stmt}{sts:List Stmt}{g u:Z.SF}{xa xb:Z.XF}
theorem xs_set{i:Nat}{x:Str}{pos':Pos}(hN:X.N.Nodup)(hi:X.N[i]?=some x)(hx:Loc X.env.scope x)(h:XE X a f)(hs:swapsWith a (some (.Name x pos')) pos.line X.env=pure false:=by rfl)(hf:X.fn x=true∨X.env.scope.names.lookup x=some .local:=by first | exact .inl rfl | exact .inr rfl | assumption):XS X H0 (.Assign [.Name x pos'] a pos) f :=
 PS.imp (ps_set hN hi hx h hs hf) λ D σ H q=>q.r
theorem xs_ret(h:XE X a f):XS X H0 (.Return (some a) pos) f:=PS.imp (ps_ret h) λ D σ H q=>q.r
theorem xr_drop(h:XE X a f)(hs:swapsWith a none pos.line X.env=pure false:=by rfl):XR X (.Expr a pos) f:=ps_expr h hs
theorem xs_for{tg iter:Expr}{body:List Stmt}(h:XE X iter f)(hs:∀x,foldedSetIterable iter X.env x=pure x:=by intro _;rfl):XS X H0 (.For tg iter body [] pos) f:=λ pins s σ H D I q =>wpAny_For (wpAny_mono (h pins s σ H (λ _ _=>False) I q.r) (λ v s1 ⟨_,_,_,_,z⟩=>z.elim) λ _ _ z=>z) hs
theorem xs_if{c:Expr}{b1 b2:List Stmt}{t:Z.TF}(hc:DT X.nox c t)(h1:XSs X H0 b1 xa)(h2:XSs X H0 b2 xb):XS X H0 (.If c b1 b2 pos) (Z.xIf t xa xb):=PS.imp (ps_if (PT.nox hc) h1 h2) λ D σ H ⟨ρ,c,rs,ec,kw⟩=>by
 unfold Z.xIf at ec;split at ec
 ·rename_i b eb;refine⟨ρ,b,rs.re,eb,λ H1 s1=>?_⟩;cases b with
  | true=>exact⟨ρ,c,rs.up s1,by simpa using ec,kw⟩
  | false=>exact⟨ρ,c,rs.up s1,by simpa using ec,kw⟩
 ·cases ec
theorem xr_if{c:Expr}{b1 b2:List Stmt}{t:Z.TF}(hc:DT X.nox c t)(h1:XRs X b1 xa)(h2:XRs X b2 xb):XR X (.If c b1 b2 pos) (Z.xIf t xa xb):=PS.imp (ps_if (PT.nox hc) h1 h2) λ D σ H ⟨ρ,c,re,ec,kw⟩=>by
 unfold Z.xIf at ec;split at ec
 ·rename_i b eb;refine⟨ρ,b,re,eb,λ H1 s1=>?_⟩;cases b with
  | true=>exact⟨ρ,c,re.up s1,by simpa using ec,kw.up s1⟩
  | false=>exact⟨ρ,c,re.up s1,by simpa using ec,kw.up s1⟩
 ·cases ec
theorem xs_ifT{c:Expr}{b1 b2:List Stmt}(hc:XT X c f)(h1:DSs X.nox H0 b1 g)(h2:DSs X.nox H0 b2 u):XS X H0 (.If c b1 b2 pos) f:=PS.imp (ps_if hc (PSs.nox h1) (PSs.nox h2)) λ D σ H q=>q.r
theorem xs_no:XS X H0 st Z.xNo:=λ _ _ _ _ _ _ ⟨_,_,_,e,_⟩=>nomatch e
theorem xss_no:XSs X H0 sts Z.xNo:=λ _ _ _ _ _ _ ⟨_,_,_,e,_⟩=>nomatch e
theorem xss_one(h:XS X H0 st f):XSs X H0 [st] f:=pss_one h
theorem xrs_one(h:XR X st f):XRs X [st] f:=pss_one h
theorem xss_cons(h1:DS X.nox H0 st g)(x1:XS X H0 st xa)(x2:XSs X H0 sts xb):XSs X H0 (st :: sts) (Z.xSeq g xa xb):=by
 intro pins s σ H D I h;obtain⟨ρ,c,rs,ec,kw⟩:=h;unfold Z.xSeq at ec;split at ec
 ·rename_i c' e1;cases ec;exact pss_cons x1 x2 pins s σ H D I ⟨ρ,c,rs,e1,kw⟩
 ·split at ec
  ·rename_i ρ' e2;refine pss_cons (PS.nox h1) x2 pins s σ H D I ⟨ρ,_,rs,e2,λ σ' H' _ rs'=>⟨ρ',c,rs',ec,kw⟩⟩
  ·cases ec
theorem xs_raise{x:Str}{c:List Nat}{C:Addr}{fa:Z.EF}{np cpos:Pos}(hc:X.calm=true)(hex:X.ex=[])(hg:Gl X x)(hcx:(⟨c.toArray⟩:Str)=x)(xc:XC X.K c C)(xi:excIn X.K C [.type "ValueError",.type "Exception",.type "BaseException",.type "object"] "ValueError.__new__" = true)(ha:DE X.nox a fa)
  (hdb:(x==("__debug__" : Str))=false:=by decide +kernel) (he:starEach (a :: []) X.env=(false,eval a X.env) :: starEach [] X.env:=by rfl) (hpl:(backTo cpos (starEach (a :: []) X.env)).any (·.1)=false:=by rfl) :
  XS X H0 (.Raise (some (.Call (.Name x np) [a] [] cpos)) none pos) (Z.xRaise c fa):=by
 intro pins s σ H D I h;obtain⟨ρ,c',rs,ec,kw⟩:=h;unfold Z.xRaise at ec;split at ec
 ·rename_i d ed;cases ec;have hm:X.mg x=some (.ref C):=by have:=PySem.W.mg_of (mg:=X.mg) (h:=s.heap) I.kIn (I.mod.glob.keeps I.bk) xc.1;rw[hcx]at this;exact this
  obtain⟨tl,ns,nm,qn,bs,hd,sn,sub,ab,col,dd,s0,s1,s2,s3,s5,mN,hC,hN,hni,T⟩:=clsI I.mod.kin xi;refine wpAny_Raise_call_subT (C:=C) (nm:=nm) (q:=qn) (N:=ns) (bs:=bs) (bm:=tl) (hdct:=hd) (sn:=sn) (sub:=sub) (ab:=ab) (col:=col) (dd:=dd) (k0:=s0) (k1:=s1) (k2:=s2) (k3:=s3) (k5:=s5)
   F.excBase_ValueError (mN:=mN) (T.hasType F.excBase_ValueError.hasBase) (I.ok.hd hc) hpl hni (ld_glob I hg hm ⟨rfl,?_⟩ hdb)
  have P:=pa_cons (PE.nox ha) pa_nil he cpos pins s σ H (λ vs H1=>aJ H H1∧vs.length=1) I ⟨ρ,d,rs.re,ed,λ v H1 s1 d1=>⟨s1,rfl⟩⟩;rw[he]at P ⊢;refine Calls.evalArgs_plain (wpAny_mono P (λ us s1 ⟨vs,H1,I1,r,sm,hl⟩=>⟨rfl,?_,I1.bk _ _ hC,hN.keeps I1.bk,T.keeps I1.bk,λ h' ex hmk=>?_⟩) λ _ _ z=>z)
  ·show us.length≤sizeLine;rw[<-r.length,hl,sizeLine_eq];decide
  ·obtain⟨J,th⟩:=thr_new hex I1 hmk;exact kw pins σ H1 _ ex C none (rs.same.trans sm) ⟨xc,rfl⟩ J th
 ·cases ec
end
end
end ZS
namespace ZS
open PySem PySem.Spec PyProof.Rows L2 PySem.W
section
variable {P:Program}{w:World}{K:PySem.W.Frag}{mg:Str->Option Value}{base:Heap}
theorem fnX{f:Addr}{name qual:Str}{st:Stmt}{dV kV doc pm cdv ct oc:Value}{an od:Option Addr}{osl:Array (Option Value)}{N ps:List Str}{k:Nat}{xb:Z.XF}
  (lk:K.lookup f=some ⟨oc,od,.func (PySem.W.fnOf name qual (defArgs st) (defBody st) (ak st) dV kV doc pm an cdv ct),osl⟩) (hcd:PySem.W.codeIn K cdv qual=true) (S:aA N ps (ak st))
  (hb:∀ (A:Around) (outer:List PySem.Env) (s:Shared) (H:Hp) (E:XK),Room k (A.deeper (envOfC qual (ak st) s.heap.objs.size f cdv)) ->
   XSs (cxOf (CXZ P w) P w K mg base N qual (ak st) f cdv A outer s H E) H (defBody st) xb):FnOk P w K mg base (CXZ P w) (k+1) f (PySem.W.fnOf name qual (defArgs st) (defBody st) (ak st) dV kV doc pm an cdv ct) ps (spR K (Z.fx ps.length N.length xb)):=by
 have hlen:∀(vs:List V)(H:Hp)(Q:VK)(E:XK),spR K (Z.fx ps.length N.length xb) vs H Q E->vs.length=ps.length:=λ vs H Q E ⟨ds,d,t,e,_⟩=>by
  unfold Z.fx at e;split at e
  ·rename_i h;rw[t.length];exact h
  ·cases e
 refine fn_of lk hcd S hlen λ A outer s H vs Q E hr h=>?_;refine⟨_,hb A outer s H E hr,?_⟩;have hl:=hlen vs H Q E h;obtain⟨ds,c,t,e,k⟩:=h;have hpl:ps.length≤N.length:=by have:=congrArg List.length S.pre;rw[List.length_take]at this;lia
 have rs:RS K H H (L2.start N vs) (Z.start N.length ds):=start_get t (by lia);unfold Z.fx at e;split at e
 ·exact⟨_,c,rs,e,λ pins σ H' s' a C dd sm xc I th=>leave_thr I th (k C dd H' sm xc)⟩
 ·cases e
theorem CalX.mk'{x:Str}{k:Nat}{st:Stmt}{N ps:List Str}{xb:Z.XF}(d:Def K mg x st ps)(S:aA N ps (ak st))
  (hb:∀ (f:Addr) (cdv:Value) (A:Around) (outer:List PySem.Env) (s:Shared) (H:Hp) (E:XK),Room k (A.deeper (envOfC x (ak st) s.heap.objs.size f cdv)) ->
   XSs (cxOf (CXZ P w) P w K mg base N x (ak st) f cdv A outer s H E) H (defBody st) xb):CalX P w K mg base x (k+1) ps (Z.fx ps.length N.length xb):=by
 obtain⟨f,fd,F,hm,hb'⟩:=d.ex;have kp:=F.kp;obtain⟨oc,od,kV,doc,pm,an,cdv,ct,osl,rfl,lk,hcd⟩:=F.ex;exact⟨f,_,fnX lk hcd S (hb f cdv),hm,kp,hb'⟩
theorem CalX.mkD{x:Str}{k:Nat}{st:Stmt}{N ps:List Str}{xb:Z.XF}(d:DefD K mg x st ps)(S:aA N ps (ak st))
  (hb:∀ (f:Addr) (cdv:Value) (A:Around) (outer:List PySem.Env) (s:Shared) (H:Hp) (E:XK),Room k (A.deeper (envOfC x (ak st) s.heap.objs.size f cdv)) ->
   XSs (cxOf (CXZ P w) P w K mg base N x (ak st) f cdv A outer s H E) H (defBody st) xb):CalX P w K mg base x (k+1) ps (Z.fx ps.length N.length xb):=by
 obtain⟨f,fd,F,hm,hb',_⟩:=d.ex;have kp:=F.kp;obtain⟨t,oc,od,kV,doc,pm,an,cdv,ct,osl,rfl,lk,hcd⟩:=F.ex;exact⟨f,_,fnX lk hcd S (hb f cdv),hm,kp,hb'⟩
end
section
variable {X:Cx}{pins:List (Addr×Obj)}{σ:St}{H:Hp}{s:Shared}
theorem RS.setX{K : PySem.W.Frag}{H0 H : Hp}{σ : St}{ρ : Z.Env}{i : Nat}{c : Z.XN}{v : V}(h : RS K H0 H σ ρ)(hd : RL K H (.exc c) v): RS K H0 H (σ.set i (some v)) (ρ.set i (some (.exc c))) := by
 have getσ:∀(j:Nat),i≠j->(σ.set i (some v))[j]?=σ[j]?:=λ j hj=>List.getElem?_set_ne hj;refine⟨h.same,⟨by simp[h.re.len],λ j l e=>?_,λ j k xs ys q e1 e2 e3 e4=>?_⟩,λ j xs q e1 e2=>?_,λ j xs e1=>?_,h.dic.set λ _ z=>nomatch z⟩
 ·rcases set_cases e with⟨rfl,hl,e⟩ | ⟨hj,e⟩
  ·cases e;exact⟨v,List.getElem?_set_self (by rw[<-h.re.len];exact hl),hd⟩
  ·rw[getσ j hj];exact h.re.get j l e
 ·rcases set_cases e1 with⟨_,_,e⟩ | ⟨hj,e1⟩
  ·cases e
  ·rcases set_cases e2 with⟨_,_,e⟩ | ⟨hk,e2⟩
   ·cases e
   ·rw[getσ j hj]at e3;rw[getσ k hk]at e4;exact h.re.sep j k xs ys q e1 e2 e3 e4
 ·rcases set_cases e1 with⟨_,_,e⟩ | ⟨hj,e1⟩
  ·cases e
  ·rw[getσ j hj]at e2;exact h.fresh j xs q e1 e2
 ·rcases set_cases e1 with⟨_,_,e⟩ | ⟨hj,e1⟩
  ·cases e
  ·rw[getσ j hj];exact h.bors j xs e1
theorem DicOk.setN{H0:Hp}{σ:St}{ρ:Z.Env}{i:Nat}(h:DicOk H0 σ ρ):DicOk H0 (σ.set i none) (ρ.set i none):=by
 have g1:∀{j:Nat}{l:Z.L},(ρ.set i none)[j]?=some (some l)->i≠j∧ρ[j]?=some (some l):=λ {j l} e=>by
  rcases set_cases e with⟨_,_,e⟩ | z
  ·cases e
  ·exact z
 have g2:∀{j:Nat},i≠j->(σ.set i none)[j]?=σ[j]?:=λ {j} hj=>List.getElem?_set_ne hj;refine⟨λ j k ks ls q e1 e2 e3 e4=>?_,λ j ks q e1 e2=>?_⟩
 ·obtain⟨n1,e1⟩:=g1 e1;obtain⟨n2,e2⟩:=g1 e2;rw[g2 n1]at e3;rw[g2 n2]at e4;exact h.1 j k ks ls q e1 e2 e3 e4
 ·obtain⟨n1,e1⟩:=g1 e1;rw[g2 n1]at e2;exact h.2 j ks q e1 e2
theorem RS.setN{K:PySem.W.Frag}{H0 H:Hp}{σ:St}{ρ:Z.Env}{i:Nat}(h:RS K H0 H σ ρ):RS K H0 H (σ.set i none) (ρ.set i none):=by
 have g1:∀{j:Nat}{l:Z.L},(ρ.set i none)[j]?=some (some l)->i≠j∧ρ[j]?=some (some l):=λ {j l} e=>by
  rcases set_cases e with⟨_,_,e⟩ | z
  ·cases e
  ·exact z
 have g2:∀{j:Nat},i≠j->(σ.set i none)[j]?=σ[j]?:=λ {j} hj=>List.getElem?_set_ne hj;refine⟨h.same,⟨by simp[h.re.len],λ j l e=>?_,λ j k xs ys q e1 e2 e3 e4=>?_⟩,λ j xs q e1 e2=>?_,λ j xs e1=>?_,h.dic.setN⟩
 ·obtain⟨n,e⟩:=g1 e;rw[g2 n];exact h.re.get j l e
 ·obtain⟨n1,e1⟩:=g1 e1;obtain⟨n2,e2⟩:=g1 e2;rw[g2 n1]at e3;rw[g2 n2]at e4;exact h.re.sep j k xs ys q e1 e2 e3 e4
 ·obtain⟨n,e1⟩:=g1 e1;rw[g2 n]at e2;exact h.fresh j xs q e1 e2
 ·obtain⟨n,e1⟩:=g1 e1;rw[g2 n];exact h.bors j xs e1
theorem Cgt.track{e C:Addr}{dd:Option Addr}{l:Bool}(c:Cgt X pins σ H s e C dd l):∃oe u,oe.cls=.ref C∧oe.dict=dd∧(∃vs,oe.data=.fields vs)∧H e=none∧Inv X pins σ (upd H e (.frz oe u)) s:=by
 obtain⟨oe,vs,T,oT,ts,he,hcl,hdd,hd,h1,hTe,oT',gT,dT,h3,_⟩:=c.ex;have I:=c.inv;have ne:∀b u,H b=some u->b≠e:=λ b u q=>ne_of_none q c.off.free;refine⟨oe,.ext (λ _=>True),hcl,hdd,⟨vs,hd⟩,c.off.free,?_⟩;have J:=stepX (g':=s.gens) (t':=s.toks) (d':=s.drawn) (h':=s.heap) (H':=upd H e (.frz oe (.ext λ _=>True))) (ch:=[e]) I (λ b hb=>by rw[List.mem_singleton.mp hb];exact⟨c.off.new,c.off.loc I,c.off.cell I,c.off.pin⟩) (λ b o _ _ _ q _=>q) (λ b o _ _ _ q _=>⟨o.slots,q⟩)
  (λ b o hb q n=>by rw[aM (λ z=>hb (List.mem_singleton.mpr z))];exact n) (λ b o _ q=>⟨o,q⟩) (λ b xs q=>by rw[aM (ne b _ q)];exact q) (λ b o u q=>by rw[aM (ne b _ q)];exact q) (λ b u _ q=>by rw[aM (ne b _ q)];exact q) (λ m hm=>hm) (λ b u q=>?_) I.bare
 ·exact J
 ·by_cases hb:b=e
  ·subst hb;rw[upd_same]at q;cases q;exact⟨he,trivial,⟨oe,he⟩,λ _ _ _ _=>trivial⟩
  ·rw[aM hb]at q;exact(I.hok b u q).stay (λ c v _ z=>z) (λ c z=>by rw[aM (ne c _ z)];exact z) (λ c xs z=>by rw[aM (ne c _ z)];exact z) λ c v _ z=>by rw[aM (ne c _ z)];exact z
theorem name_goes{M:Model}{A:Around}{E:Value->Shared->Prop}{Q:Unit->Shared->Prop}{n:Str}{i:Nat}{pos:Pos}(hN:X.N.Nodup)(hi:X.N[i]?=some n)(hl:X.env.scope.names.lookup n=some .local)(I:Inv X pins σ H s)
  (k:∀s',Inv X pins (σ.set i none) H s'->Q () s'):wpAny M A (do bindName X.env n .none;unbindBehindTheSuite X.env n pos) Q E s:=by
 obtain⟨m,hn,hlk⟩:=id I.loc;obtain⟨oL,_,_,hoL,_⟩:=id hn;refine wpAny_nameGoes_keeps hl hn (by rw[I.ok.kind];rfl) λ h' v hn' hs=>k _ ?_;have lt:∀b o,X.s₀.heap.get? b=some o->b≠X.env.locals:=λ b o e=>Nat.ne_of_lt (Nat.lt_of_lt_of_le (Heap.lt_size e) I.ok.above);refine⟨I.ok,I.os,I.bare,⟨λ b o e n hb hx=>(hs.2 b (lt b o e)).trans (I.base.keep b o e n hb hx),λ b o e n hb hx=>?_,I.base.free,λ b o e hx=>?_,I.base.tups,I.base.frzs,I.base.tbls⟩,⟨_,hn',λ j y v' e1 e2 e3=>?_⟩,λ y c e=>?_,I.free,I.freeC,λ p hp=>?_,λ b u e=>?_,by simpa using I.len,I.tab⟩
 ·obtain⟨sl,e1⟩:=I.base.slot b o e n hb hx;exact⟨sl,(hs.2 b (lt b o e)).trans e1⟩
 ·obtain⟨o',e1⟩:=I.base.there b o e hx;exact⟨o',(hs.2 b (lt b o e)).trans e1⟩
 ·have hj:j≠i:=λ z=>by
   subst z;rcases set_cases e2 with⟨_,_,e⟩ | ⟨n,_⟩
   ·cases e
   ·exact n rfl
  rw[List.getElem?_set_ne (Ne.symm hj)]at e2;obtain⟨u',r',q⟩:=hlk j y v' e1 e2 e3;refine⟨u',r',?_⟩;rcases q with⟨k,e⟩ | ⟨k,c,e,z⟩
  ·refine .inl ⟨k,?_⟩;have:y≠n:=λ e=>hj (nodup_ix hN e1 (e▸hi));simp[this,e]
  ·exact .inr ⟨k,c,e,z.sameBut hs (I.cne y c e)⟩
 ·obtain⟨w',z⟩:=I.cell y c e;exact⟨w',z.sameBut hs (I.cne y c e)⟩
 ·obtain⟨e,n,ne,nf,d⟩:=I.pin p hp;exact⟨(hs.2 p.1 ne).trans e,n,ne,nf,d⟩
 ·refine(I.hok b u e).stay (λ c v hc q=>(hs.2 c ?_).trans q) (λ _ q=>q) (λ _ _ q=>q) λ _ _ _ q=>q;rintro rfl;rcases hc with rfl | hc
  ·rw[I.free]at e;cases e
  ·rw[I.free]at hc;cases hc
end
end ZS
namespace ZS
open PySem PySem.Spec PyProof.Rows L2 PySem.W
abbrev tryX(X:Cx)(pn:List (Addr×Obj))(E:Value->Shared->Prop):Cx:={ X with pn:=pn,xe:=E }
abbrev hanX(X:Cx)(ev:Value):Cx:={ X with A:=X.A.mark (some ev),calm:=false }
theorem ok_try{X:Cx}(ok:X.Ok)(pn:List (Addr×Obj))(E:Value->Shared->Prop):(tryX X pn E).Ok :=
 ⟨ok.mod,ok.kind,ok.glob,ok.blt,ok.above,ok.inj,ok.has,ok.cab,ok.hd,ok.frames,ok.stk,ok.exf,ok.bs,ok.bsz,ok.noex,ok.exfs,ok.funs,ok.frf⟩
theorem ok_han{X:Cx}(ok:X.Ok)(ev:Value):(hanX X ev).Ok :=
 ⟨ok.mod,ok.kind,ok.glob,ok.blt,ok.above,ok.inj,ok.has,ok.cab,λ z=>(nomatch z),ok.frames,ok.stk,ok.exf,ok.bs,ok.bsz,ok.noex,ok.exfs,ok.funs,ok.frf⟩
section
variable {X:Cx}{pins:List (Addr×Obj)}{σ:St}{H:Hp}{s:Shared}
theorem inv_try(I:Inv X pins σ H s)(E:Value->Shared->Prop):Inv (tryX X (X.pn++pins) E) [] σ H s:=⟨ok_try I.ok _ E,I.os,I.bare,I.base,I.loc,I.cell,I.free,I.freeC,λ p hp=>I.pin p (by simpa using hp),I.hok,I.len,I.tab⟩
theorem inv_of_try{E:Value->Shared->Prop}{pins':List (Addr×Obj)}(ok:X.Ok)(I:Inv (tryX X (X.pn++pins) E) pins' σ H s):Inv X pins σ H s:=⟨ok,I.os,I.bare,I.base,I.loc,I.cell,I.free,I.freeC,λ p hp=>I.pin p (List.mem_append_left _ hp),I.hok,I.len,I.tab⟩
theorem off_of_try{E:Value->Shared->Prop}{pins':List (Addr×Obj)}{a:Addr}(o:OffX (tryX X (X.pn++pins) E) pins' H s a):OffX X pins H s a:=⟨o.free,o.new,λ p hp=>o.pin p (List.mem_append_left _ hp),o.isr⟩
theorem thr_of_try{E:Value->Shared->Prop}{pins':List (Addr×Obj)}{e C:Addr}{dd:Option Addr}(t:Thr (tryX X (X.pn++pins) E) pins' H s e C dd):Thr X pins H s e C dd:=by
 obtain⟨oe,vs,he,hcl,hdd,hd,h1⟩:=t.ex;refine⟨off_of_try t.off,oe,vs,he,hcl,hdd,hd,?_⟩;rcases h1 with h1 | ⟨T,oT,ts,h1,h2,h3,h4⟩
 ·exact .inl h1
 ·exact .inr ⟨T,oT,ts,h1,h2,off_of_try h3,h4⟩
theorem inv_han(I:Inv X pins σ H s)(ev:Value):Inv (hanX X ev).nox pins σ H s:=⟨(ok_han I.ok ev).wish _,I.os,I.bare,I.base,I.loc,I.cell,I.free,I.freeC,I.pin,I.hok,I.len,I.tab⟩
theorem inv_of_han{ev:Value}(ok:X.Ok)(I:Inv (hanX X ev).nox pins σ H s):Inv X pins σ H s:=⟨ok,I.os,I.bare,I.base,I.loc,I.cell,I.free,I.freeC,I.pin,I.hok,I.len,I.tab⟩
theorem ld_globA{M:Model}{A:Around}{E:Value->Shared->Prop}{x:Str}{u:Value}{pos:Pos}{Q:Value->Shared->Prop}(I:Inv X pins σ H s)(hg:Gl X x)(hm:X.mg x=some u)(h:Q u s)
  (hd:(x==("__debug__" : Str))=false):wpAny M A (eval (.Name x pos) X.env) Q E s :=
 Calls.Name_function_global I.ok.kind hg (Calls.loadGlobal_global (by rw[I.ok.glob];exact I.mod.glob.keeps I.bk) hm h) hd
end
section
variable {X:Cx}{H0:Hp}
theorem ds_try{body suite : List Stmt}{b0 : Stmt}{x n : Str}{np hpos pos : Pos}{c : List Nat}{i : Nat}{g h : Z.SF}{xb : Z.XF}(hex : X.ex = [])(hst : X.stack = X.env :: X.outer)(hfl : X.env.frame = some X.env.locals)
  (hN:X.N.Nodup) (hi:X.N[i]?=some n) (hl:X.env.scope.names.lookup n=some .local) (hg:Gl X x) (hcx:(⟨c.toArray⟩:Str)=x)
  (hb:DSs X.nox H0 body g) (hxb:∀pn E,XRs (tryX X pn E) body xb) (hh:∀ev,DSs (hanX X ev).nox H0 (b0 :: suite) h) (hdb:(x==("__debug__" : Str))=false:=by decide +kernel) :
  DS X H0 (.Try body [.ExceptHandler (some (.Name x np)) (some n) (b0 :: suite) hpos] [] [] pos) (Z.sTry g xb c i h):=by
 intro pins s σ H D I hyp;obtain⟨ρ,fl,rs,e,k⟩:=hyp;refine wpAny_Try_except ?_;unfold Z.sTry at e;split at e
 ·rename_i c' ec;split at e
  ·rename_i hc';subst hc';refine wpAny_mono (hxb (X.pn++pins) _ [] s σ H { nx:=λ _ _=>False,rt:=λ _ _=>False } (inv_try I _) ⟨ρ,c',rs.re,ec,λ pins' H' s' ex C dd sm xr J1 th1=>?_⟩) (λ f s1 q=>?_) λ _ _ z=>z;rotate_left
   ·cases f with
    | next=>obtain⟨_,_,_,z⟩:=q;exact z.elim
    | brk=>obtain⟨_,_,_,z⟩:=q;exact z.elim
    | cont=>obtain⟨_,_,_,z⟩:=q;exact z.elim
    | ret u=>obtain⟨_,_,_,_,_,z⟩:=q;exact z.elim
   have J:=inv_of_try I.ok J1;have xr:XRel X.K H' c' C dd:=xr;have xc:XC X.K c'.1 C:=xr.1;have hm:X.mg x=some (.ref C):=by have:=PySem.W.mg_of (mg:=X.mg) (h:=s'.heap) J.kIn (J.mod.glob.keeps J.bk) xc.1;rw[hcx]at this;exact this
   refine note_thr hex hst hfl J (thr_of_try th1) λ s2 c2=>land c2 λ s3 c3=>?_;obtain⟨tl,ns,nm,qn,bs,hd,sn,sub,ab,col,dd',s0',s1',s2',s3',s5',hC,hbs⟩:=clsO c3.inv.kIn xc;obtain⟨oe,vs,_,_,_,he,hcl,_⟩:=c3.ex;refine wpAny_handleBy_cons (codeAny_handlers_test (ld_globA c3.inv hg hm ?_ hdb)) (by intro q;cases q);refine wpAny_excMatches_sub_self hC he hcl hbs ?_;refine codeAny_handlers_suite_as (land c3 λ s4 c4=>?_);obtain⟨oe4,u4,hcl4,hdd4,hda4,fe,I4⟩:=c4.track;refine store_ok I4 hN hi (.inl hl) (show RelV (.ref ex) (.ref ex)from rfl) (λ s5 I5=>?_) (.inr hl);have sm5:aJ H (upd H' ex (.frz oe4 u4)):=sm.trans (upd_Same fe);have rs5:RS X.K H0 (upd H' ex (.frz oe4 u4)) (σ.set i (some (.ref ex))) (ρ.set i (some (.exc c'))):=(rs.up sm5).setX ⟨ex,oe4,u4,C,rfl,upd_same,hcl4,hda4,by rw[hdd4];exact xr.ups (stb (upd_Same fe))⟩;split at e
   ·rename_i ρ' eh;cases e;refine wpAny_mono (hh (.ref ex) pins s5 _ _ { nx:=λ σ' H2=>D.nx (σ'.set i none) H2,rt:=λ _ _=>False } (inv_han I5 _) ⟨_,.nx ρ',rs5,eh,λ σ' H2 st rs'=>k (σ'.set i none) H2 ((stb sm5).trans st) rs'.setN⟩) (λ f s6 q=>?_) λ _ _ z=>z.elim;cases f with
    | next =>obtain⟨σ',H2,I6,q⟩:=q;exact name_goes hN hi hl (inv_of_han I.ok I6) λ s7 I7=>⟨_,H2,I7,q⟩
    | brk=>obtain⟨_,_,_,z⟩:=q;exact z.elim
    | cont=>obtain⟨_,_,_,z⟩:=q;exact z.elim
    | ret u=>obtain⟨_,_,_,_,_,z⟩:=q;exact z.elim
   ·rename_i d eh;cases e;refine wpAny_mono (hh (.ref ex) pins s5 _ _ { nx:=λ _ _=>False,rt:=D.rt } (inv_han I5 _) ⟨_,.rt d,rs5,eh,k⟩) (λ f s6 q=>?_) λ _ _ z=>z.elim;cases f with
    | next=>obtain⟨_,_,_,z⟩:=q;exact z.elim
    | brk=>obtain⟨_,_,_,z⟩:=q;exact z.elim
    | cont=>obtain⟨_,_,_,z⟩:=q;exact z.elim
    | ret u =>obtain⟨v,σ',H2,I6,rv,q⟩:=q;exact name_goes hN hi hl (inv_of_han I.ok I6) λ s7 I7=>⟨v,_,H2,I7,rv,q⟩
   ·cases e
  ·cases e
 ·refine wpAny_mono (hb pins s σ H D (I.wish _) ⟨ρ,fl,rs,e,k⟩) (λ f s1 q=>?_) λ _ _ z=>z.elim;have q:=q.unwish;cases f with
  | next=>exact wpAny_execs_nil q
  | brk=>exact q
  | cont=>exact q
  | ret u=>exact q
end
end ZS
namespace ZS
open PySem PySem.Spec PyProof.Rows L2 PySem.W
structure ExcK(K:PySem.W.Frag)(C:Addr):Prop where
 ga:findIn K (.ref C) "__getattribute__" = some (some (.builtin "BaseException.__getattribute__"))
 gn:findIn K (.ref C) "__getattr__" = some none
 cl:findIn K (.ref C) "__class__" = some (some (.builtin "object.__class__"))
 hn:specialIn K (.builtin "object.__class__") "__get__" = some (some (.builtin "getset_descriptor.__get__"))
 tk:takesIn K (.builtin "object.__class__")=some true
 mo:mroIn K C (.type "object")=some true
 mb:mroIn K C (.type "BaseException")=some true
section
variable {prog:Program}{w:World}{A:Around}{E:Value->Shared->Prop}{s:Shared}{K:PySem.W.Frag}{x C:Addr}{ox:Obj}{od:Option Obj}
theorem exc_cls{Q:Option Value->Shared->Prop}(k:ExcK K C)(X:K.In s.heap)(I:InstAt s.heap x ox C od)(h:Q (some (.ref C)) { s with toks:=s.toks+1 }):wpAny (model prog w) A (getAttr? (.ref x) "__class__") Q E s:=by
 have hf:findObj K C od "__class__" = some (.bind (.builtin "getset_descriptor.__get__") (.builtin "object.__class__")):=by
  have:=k.mo;unfold mroIn at this;cases e:clsIn K C with
  | none=>rw[e]at this;cases this
  | some cd =>unfold findObj;rw[e];simp only[Option.bind_some,k.cl,k.hn,k.tk]
 obtain⟨hh,g,d,t,os⟩:=s;have L0:=I.type (M:=model prog w);have L1:=looks_findIn (M:=model prog w) X k.ga;have L2:=looks_findIn (M:=model prog w) X k.gn;have L3:=looks_find (M:=model prog w) X I hf;have L4:=looks_mroIn (M:=model prog w) X k.mb;have LB:Looks (model prog w) hh (isInstance (.ref x) (.type "BaseException")) true:=L0.andThen L4;unfold getAttr? getAttrBy? getAttrBy;refine wpAny_bind (wpAny_mkText (wpAny_bind (wpAny_attempt (wpAny_holding (wpAny_bind (L0.at (wpAny_bind (L1.at ?_))))))));dsimp only;rw[show(Value.builtin "BaseException.__getattribute__" == Value.builtin "object.__getattribute__")=false from by decide +kernel,Bool.and_false,if_neg (by decide)];unfold getAttrByItsOwn hookBefore;refine wpAny_bind ?_;rw[if_pos (show onTheHeap (.ref C)=true from rfl)];refine L2.at ?_;refine wpAny_bind (wpAny_attempt (wpAny_holding ?_));unfold callGetattribute;rw[if_neg (by decide)];unfold boundAndCalled;rw[F.excAttr_ValueError.ga.bind (.ref x)];refine wpAny_bind (wpAny_pure ?_);refine wpAny_call (codeAny_call_builtin F.excAttr_ValueError.ga.plain F.entry_bexc_ga ?_);have hk:builtinKind "BaseException.__getattribute__" = some .slot:=by decide +kernel
 have hsplit:splitId "BaseException.__getattribute__" = some ("BaseException", "__getattribute__"):=by decide +kernel
 have hargs:=F.args_bexc_ga (.ref x) (.str "__class__" t);simp only[checkBuiltinCall,hk,hsplit];refine wpAny_bind (LB.at ?_)
 repeat (any_goals (first | assumption | with_reducible refine LB.at ?_ | wp_step))
 refine wpAny_loadPart I.at_ (wpAny_pure ?_);rw[I.cls];refine wpAny_bind (L3.at ?_);dsimp only;unfold Builtin.ObjectAttr.bindTo;dsimp only;refine wpAny_bind (wpAny_holding (wpAny_call (class_get (s:=⟨hh,g,d,t+1,os⟩) (ox:=ox) (od:=od) X I k.mo ?_)));refine wpAny_pure ?_;exact wpAny_pure (wpAny_pure h)
theorem kitx_exc(k:ExcK K C):KitX K (.ref x) (.ref C) (λ h=>InstAt h x ox C od) where
 ty:=λ _ _ _ I=>I.type
 it:=λ _ _ X _=>by
  have:=k.mo;unfold mroIn clsIn at this;split at this
  ·rename_i ho;intro A' Q' E' s' kp q;unfold isType loadHead;exact wpAny_bind (wpAny_loadPart (kp _ _ (X _ _ ho)) (wpAny_pure q))
  ·cases this
 ne:=λ h tp dd its n sl X htp=>by
  have:=k.mo;unfold mroIn clsIn at this;split at this
  ·rename_i ho;refine Bool.eq_false_iff.mpr λ q=>?_;have e:C=tp:=Value.ref.inj (beq_iff_eq.mp q);subst e;have z:=(X _ _ ho).symm.trans htp;cases z
  ·cases this
 ca:=λ X I h=>exc_cls k X I h
end
def IsK(K:PySem.W.Frag)(c0:List Nat)(cv:Value)(b:Bool):Prop:=∃C,nsIn K mainGlobals ⟨c0.toArray⟩=some (some (.ref C))∧ExcK K C∧kitOne K (.ref C) cv=some b
theorem isK_at{K:PySem.W.Frag}{c0:List Nat}{cv:Value}{b:Bool}(h:IsK K c0 cv b){c:List Nat}{b':Bool}{C:Addr}(e:Z.isx c0 b c=some b')(xc:XC K c C):ExcK K C∧kitOne K (.ref C) cv=some b':=by
 unfold Z.isx at e;split at e
 ·rename_i hc;subst hc;cases e;obtain⟨C',e1,k,e2⟩:=h;have:=xc.1.symm.trans e1;cases this;exact⟨k,e2⟩
 ·cases e
section
variable {X:Cx}{a:Expr}{pos:Pos}
theorem xinst{pins:List (Addr×Obj)}{σ:St}{H:Hp}{s:Shared}{Q:Value->Shared->Prop}{E:Value->Shared->Prop}{A:Around}{p C:Addr}{o:Obj}{u:HO}{c:Z.XN}{cv:Value}{b:Bool}(I:Inv X pins σ H s)(hp:H p=some (.frz o u))(hc:o.cls=.ref C)(hd:∃vs,o.data=.fields vs)(xr:XRel X.K H c C o.dict)
  (k:ExcK X.K C) (e:kitOne X.K (.ref C) cv=some b) (h:∀tk,Q (.bool b) { s with toks:=tk }):wpAny (model X.prog X.w) A (call (.builtin "isinstance") [.ref p,cv]) Q E s:=by
 obtain⟨g1,_⟩:=(show ObjOk X.prog X.w H s.heap p (.frz o u)from I.hok p _ hp)
 obtain⟨vs,hd⟩:=hd;have nc:notCls o=true:=by unfold notCls;rw[hd]
 have xd:=xr.2;cases hdd:o.dict with
 | none=>exact kia_one (kitx_exc (ox:=o) (od:=none) k) I.kIn ⟨g1,hc,nc,by rw[hdd];trivial⟩ e (λ z=>nomatch z) h
 | some dx =>
  rw[hdd]at xd;obtain⟨_,od,kvs,q,_⟩:=xd;obtain⟨g2,_⟩:=(show ObjOk X.prog X.w H s.heap dx (.frz od (.xd kvs))from I.hok dx _ q)
  exact kia_one (kitx_exc (ox:=o) (od:=some od) k) I.kIn ⟨g1,hc,nc,by rw[hdd];exact g2⟩ e (λ z=>nomatch z) h
theorem call_isX{cv:Value}{cV:V}(rc:∀u,RelV cV u->u=cv):CallR X (.builtin "isinstance") (λ xs H Q=>∃p o u C c b,xs=[.ref p,cV]∧H p=some (.frz o u)∧o.cls=.ref C∧(∃vs,o.data=.fields vs)∧XRel X.K H c C o.dict∧ExcK X.K C∧kitOne X.K (.ref C) cv=some b∧Q (.bl b) H):=by intro pins s σ H xs us Q I r h;obtain⟨p,o,u,C,c,b,rfl,h1,h2,h3,h4,h5,h6,q⟩:=h;obtain⟨v1,v2,rfl,r1,r2⟩:=vals2 r;cases (show v1=Value.ref p from r1);cases rc v2 r2;exact xinst I h1 h2 h3 h4 h5 h6 λ tk=>⟨.bl b,H,I.tok _,rfl,q⟩
theorem isX_imp{i:Nat}{c0:List Nat}{b:Bool}{cv:Value}{cV:V}(hK:IsK X.K c0 cv b):∀σ H Q,tZ X.K (Z.eIsX i (Z.isx c0 b)) σ H Q ->
  tCB (λ xs H Q=>∃p o u C c b,xs=[.ref p,cV]∧H p=some (.frz o u)∧o.cls=.ref C∧(∃vs,o.data=.fields vs)∧XRel X.K H c C o.dict∧ExcK X.K C∧kitOne X.K (.ref C) cv=some b∧Q (.bl b) H) (tCons (tVar i) (tCons (tC cV) tNil)) σ H Q:=λ σ H Q ⟨ρ,d,r,e,k⟩=>by
 unfold Z.eIsX at e;split at e
 ·rename_i c hi;split at e
  ·rename_i b' eb;cases e;obtain⟨v,hv,p,o,u,C,rfl,h1,h2,h3,h4⟩:=r.get i _ hi;obtain⟨k1,k2⟩:=isK_at hK eb h4.1;exact⟨_,hv,p,o,u,C,c,b',rfl,h1,h2,h3,h4,k1,k2,k _ H (aJ.refl H) den_bl⟩
  ·cases e
 ·cases e
theorem de_isXO{x y:Str}{p1 p2:Pos}{i:Nat}{c0:List Nat}{b:Bool}{D:Addr}(hg:Gl X x)(hm:X.mg x=none)(hv:bootBuiltins x=some (.builtin "isinstance"))(ha:PE X a (tVar i))(hgy:Gl X y)(hmy:X.mg y=some (.ref D))(hK:IsK X.K c0 (.ref D) b)
  (hn:x ≠ "__name__" := by decide +kernel) (hdb:(x==("__debug__" : Str))=false:=by decide +kernel) (hdy:(y==("__debug__" : Str))=false:=by decide +kernel)
  (he:starEach (a :: [.Name y p2]) X.env=(false,eval a X.env) :: starEach [.Name y p2] X.env:=by rfl) (hpl:(backTo pos (starEach [.Name y p2] X.env)).any (·.1)=false:=by rfl) (he2:starEach ((.Name y p2) :: []) X.env=(false,eval (.Name y p2) X.env) :: starEach [] X.env:=by rfl) :
  DE X (.Call (.Name x p1) [a,.Name y p2] [] pos) (Z.eIsX i (Z.isx c0 b)) :=
 PE.imp (pe_callB (call_isX (cv:=.ref D) (cV:=.ref D) λ u r=>r) hg hm hv (pa_cons ha (pa_cons (pe_glob (v:=.ref D) hgy hmy rfl hdy) pa_nil he2) he) hn hdb he hpl) (isX_imp hK)
theorem de_isXB{x y:Str}{T:String}{p1 p2:Pos}{i:Nat}{c0:List Nat}{b:Bool}(hg:Gl X x)(hm:X.mg x=none)(hv:bootBuiltins x=some (.builtin "isinstance"))(ha:PE X a (tVar i))(hgy:Gl X y)(hmy:X.mg y=none)(hvy:bootBuiltins y=some (.type T))(hK:IsK X.K c0 (.type T) b)
  (hn:x ≠ "__name__" := by decide +kernel) (hdb:(x==("__debug__" : Str))=false:=by decide +kernel) (hny:y ≠ "__name__" := by decide +kernel) (hdy:(y==("__debug__" : Str))=false:=by decide +kernel)
  (he:starEach (a :: [.Name y p2]) X.env=(false,eval a X.env) :: starEach [.Name y p2] X.env:=by rfl) (hpl:(backTo pos (starEach [.Name y p2] X.env)).any (·.1)=false:=by rfl) (he2:starEach ((.Name y p2) :: []) X.env=(false,eval (.Name y p2) X.env) :: starEach [] X.env:=by rfl) :
  DE X (.Call (.Name x p1) [a,.Name y p2] [] pos) (Z.eIsX i (Z.isx c0 b)) :=
 PE.imp (pe_callB (call_isX (cv:=.type T) (cV:=.ty T) λ u r=>r) hg hm hv (pa_cons ha (pa_cons (pe_bltn (v:=.ty T) hgy hmy hvy rfl hny hdy) pa_nil he2) he) hn hdb he hpl) (isX_imp hK)
end
end ZS
namespace ZS
open PySem PySem.Spec PyProof.Rows L2 PySem.W
structure RoomH(k:Nat)(A:Around):Prop where
 dp:A.depth+3*k+5 < recursionLimit
 un:A.units+16*k+200 < cLine
theorem Room.han{k:Nat}{A:Around}(r:Room k A)(ev:Option Value):RoomH k (A.mark ev):=⟨r.dp,r.un⟩
abbrev cxH(P:Program)(w:World)(K:PySem.W.Frag)(mg:Str->Option Value)(base:Heap)(N:List Str)(qual:Str)(scope:Scope)(f:Addr)(cd:Value)(A:Around)(outer:List PySem.Env)(s:Shared)(H:Hp):Cx :=
 { cxOf CX0 P w K mg base N qual scope f cd A outer s H E0 with calm:=false }
section
variable {P:Program}{w:World}{K:PySem.W.Frag}{mg:Str->Option Value}{base:Heap}
def RunE(P:Program)(w:World)(K:PySem.W.Frag)(mg:Str->Option Value)(base:Heap)(k:Nat)(g:Addr)(fd:FuncData)(ps:List Str)(m:Z.XN->Z.Res Z.D):Prop :=
 ∀(A:Around)(outer:List PySem.Env)(s:Shared)(H:Hp)(args:Args)(u:Value)(v:V)(Q:VK)(c:Z.XN)(d:Z.D),RoomH k A->Env0 P w K mg base A outer s H->BindsTo s fd args (ps.zip [u])->RelV v u->RL K H (.exc c) v->m c=.ok d->(∀v' H',aJ H H'->Den K H' d v'->Q v' H') ->
  codeAny (model P w) A (.call (.ref g) args) (CR CX0 outer P w H s Q E0) s
structure CalE(P:Program)(w:World)(K:PySem.W.Frag)(mg:Str->Option Value)(base:Heap)(x:Str)(k:Nat)(ps:List Str)(m:Z.XN->Z.Res Z.D):Prop where
 ex:∃g fd,RunE P w K mg base k g fd ps m∧mg x=some (.ref g)∧PySem.W.keepIn K (.ref g)=true∧Binds K fd ps []∧ps.length=1
theorem start_exc{N:List Str}{v:V}{c:Z.XN}{H:Hp}(hN:1≤N.length)(h:RL K H (.exc c) v):RS K H H (L2.start N [v]) (some (.exc c) :: List.replicate (N.length-1) none):=by
 have base:RS K H H (List.replicate N.length (none:Option V)) (List.replicate N.length (none:Option Z.L)):=by
  have nn:∀(i:Nat)(l:Z.L),(List.replicate N.length (none:Option Z.L))[i]?≠some (some l):=λ i l e=>by rw[List.getElem?_replicate]at e;split at e<;>cases e
  refine⟨aJ.refl H,⟨by simp,λ i l e=>absurd e (nn i l),λ i j xs ys a e=>absurd e (nn i _)⟩,λ i xs q e=>absurd e (nn i _),λ i xs e=>absurd e (nn i _),⟨λ i j ks ls q e=>absurd e (nn i _),λ i ks q e=>absurd e (nn i _)⟩⟩
 have e1:L2.start N [v]=(List.replicate N.length (none:Option V)).set 0 (some v):=by
  unfold L2.start;obtain⟨n,hn⟩:∃n,N.length=n+1:=⟨N.length-1,by lia⟩
  rw[hn];rfl
 have e2:(some (Z.L.exc c) :: List.replicate (N.length-1) none)=(List.replicate N.length (none:Option Z.L)).set 0 (some (.exc c)):=by
  obtain⟨n,hn⟩:∃n,N.length=n+1:=⟨N.length-1,by lia⟩
  rw[hn];rfl
 rw[e1,e2];exact base.setX h
theorem calE{x:Str}{k:Nat}{st:Stmt}{N ps:List Str}{b:Z.SF}(d:Def K mg x st ps)(S:aA N ps (ak st))(h1:ps.length=1)
  (hb:∀ (f:Addr) (cdv:Value) (A:Around) (outer:List PySem.Env) (s:Shared) (H:Hp),RoomH k (A.deeper (envOfC x (ak st) s.heap.objs.size f cdv)) ->
   DSs (cxH P w K mg base N x (ak st) f cdv A outer s H).nox H (defBody st) b):CalE P w K mg base x (k+1) ps (Z.fnE N.length b):=by
 obtain⟨f,fd,F,hm,hb'⟩:=d.ex;have kp:=F.kp;obtain⟨oc,od,kV,doc,pm,an,cdv,ct,osl,rfl,lk,hcd⟩:=F.ex;refine⟨f,_,?_,hm,kp,hb',h1⟩;intro A outer s H args u v Q c dd hr e0 hbi rv rl em hq;have KX:K.In s.heap:=e0.mod.kin.keeps λ b o e=>(e0.bs b o e).1;have lim:s.heap.NoLimit:=e0.mod.nolimit.keeps λ b o e=>(e0.bs b o e).1;have hkind:∀y∈ps.zip [u],(ak st).names.lookup y.1=some .local∨((ak st).names.lookup y.1=some .cell∧((cellsFrom (s.heap.objs.size+1) (ak st).names []).lookup y.1).isSome=true):=λ⟨n,v⟩ hy=>by
  rcases S.par n (List.of_mem_zip hy).1 with q | q
  ·exact .inl q
  ·exact .inr ⟨q,PySem.W.cellsFrom_some _ _ _ (.inl q)⟩
 have hpl:ps.length≤N.length:=by have:=congrArg List.length S.pre;rw[List.length_take]at this;lia
 refine codeAny_call_function (by have:=hr.dp;lia) (KX _ _ lk) rfl S.co S.gen rfl (PySem.W.codeRec_of KX hcd) (hbi _ _ _ _ ?_);refine wpAny_newFunctionEnv_cells S.kind hkind λ env he s1 x1=>?_;subst he;refine⟨lim.keeps x1.toInCall.keep,codeAny_func ?_⟩;have e1:Env0 P w K mg base ({ A with handled:=none }) outer s H:=⟨e0.frames,e0.mod,e0.bs,e0.bsz,e0.funs,e0.frf,e0.hok,e0.bare,e0.tab⟩
 have I0:Inv (cxOf CX0 P w K mg base N x (ak st) f cdv { A with handled:=none } outer s H E0) [] (L2.start N [v]) H s1:=inv_start S rfl e1 (by rw[h1];rfl) (.cons rv .nil) x1;have ok:(cxH P w K mg base N x (ak st) f cdv A outer s H).Ok:=let ok:=I0.ok
  ⟨ok.mod,ok.kind,ok.glob,ok.blt,ok.above,ok.inj,ok.has,ok.cab,λ z=>(nomatch z),Around.frames_deeper e0.frames,ok.stk,ok.exf,ok.bs,ok.bsz,ok.noex,ok.exfs,ok.funs,ok.frf⟩
 have I:Inv (cxH P w K mg base N x (ak st) f cdv A outer s H).nox [] (L2.start N [v]) H s1:=⟨ok.wish _,I0.os,I0.bare,I0.base,I0.loc,I0.cell,I0.free,I0.freeC,I0.pin,I0.hok,I0.len,I0.tab⟩
 have room:RoomH k (A.deeper (envOfC x (ak st) s.heap.objs.size f cdv)):=⟨by have:=hr.dp;show A.depth+1+3*k+5 < _;lia,by have:=hr.un;show A.units+3+16*k+200 < _;lia⟩
 have rs:=start_exc (N:=N) (by lia) rl;unfold Z.fnE at em;have fin:∀{σ':St}{H':Hp}{v':V}{u':Value}{s':Shared},Inv (cxH P w K mg base N x (ak st) f cdv A outer s H).nox [] σ' H' s'->RelV v' u'->Q v' H'->CE outer P w H s Q u' s' :=
  λ {σ' H' v' u' s'} J rv q=>⟨v',H',J.os,J.bare,J.base,J.hok,rv,q⟩
 split at em
 ·rename_i d' eb;cases em;refine wpAny_mono (hb f cdv A outer s H room [] s1 _ H { nx:=λ _ _=>False,rt:=Q } I ⟨_,.rt dd,rs,eb,λ v' H' s' dv=>hq v' H' s' dv⟩) (λ fl s' hs=>?_) λ _ _ z=>z.elim;cases fl with
  | ret u'=>obtain⟨v',σ',H',J,rv',q⟩:=hs;exact fin J rv' q
  | next=>obtain⟨_,_,_,q⟩:=hs;exact q.elim
  | brk=>obtain⟨_,_,_,q⟩:=hs;exact q.elim
  | cont=>obtain⟨_,_,_,q⟩:=hs;exact q.elim
 ·rename_i ρ' eb;cases em;refine wpAny_mono (hb f cdv A outer s H room [] s1 _ H { nx:=λ _ H'=>Q .non H',rt:=λ _ _=>False } I ⟨_,.nx ρ',rs,eb,λ σ' H' _ rs'=>hq .non H' rs'.same den_non⟩) (λ fl s' hs=>?_) λ _ _ z=>z.elim;cases fl with
  | ret u'=>obtain⟨_,_,_,_,_,q⟩:=hs;exact q.elim
  | next=>obtain⟨σ',H',J,q⟩:=hs;exact fin (v':=V.non) (u':=Value.none) J rfl q
  | brk=>obtain⟨_,_,_,q⟩:=hs;exact q.elim
  | cont=>obtain⟨_,_,_,q⟩:=hs;exact q.elim
 ·cases em
end
section
variable {X:Cx}{a:Expr}{pos:Pos}
theorem de_callE{k:Nat}{ps:List Str}{x:Str}{m:Z.XN->Z.Res Z.D}{i:Nat}{p1:Pos}(C:CalE X.prog X.w X.K X.mg X.base x k ps m)(hr:RoomH k X.A)(hg:Gl X x)(ha:PE X a (tVar i))
  (hdb:(x==("__debug__" : Str))=false:=by decide +kernel) (he:starEach (a :: []) X.env=(false,eval a X.env) :: starEach [] X.env:=by rfl) (hpl:(backTo pos (starEach [] X.env)).any (·.1)=false:=by rfl) :
  DE X (.Call (.Name x p1) [a] [] pos) (Z.eCallE m i):=by
 obtain⟨g,fd,F,hm,hk,hb,h1⟩:=C.ex;intro pins s σ H Q I h;obtain⟨ρ,d,re,e,kk⟩:=h;unfold Z.eCallE at e;split at e
 ·rename_i c hi;obtain⟨v,hv,rl⟩:=re.get i _ hi;refine wpAny_Call_Name_kw (ld_glob I hg hm ?_ hdb);refine PySem.W.callWith_K (h₀:=X.base) I.ok.mod.kin hk (thn (pa_cons ha pa_nil he pos pins s σ H (λ vs H1=>vs=[v]∧H1=H) I ⟨v,hv,rfl,rfl⟩) λ us s1 ⟨vs,H1,I1,r,q⟩=>⟨I1.kIn,?_⟩) he hpl;obtain⟨rfl,rfl⟩:=q;obtain⟨u,rfl,ru⟩:=vals1 r;refine wpAny_call (codeAny_mono (F X.A X.stack s1 H1 ⟨[u],[]⟩ u v Q c d hr I1.env0 (by have:=hb s1 [u] I1.kIn (by rw[h1];rfl);simpa using this) ru rl e kk) λ rr s' hq=>?_);cases rr with
  | error ev=>exact hq.elim
  | ok fl =>
   cases fl with
   | ret u'=>exact I1.after hq
   | _=>exact hq.elim
 ·cases e
end
end ZS
namespace ZQ
open PySem PySem.Spec PyProof.Rows L2 ZS PySem.W
structure QXE(X:Cx)(e:Expr)(f:Z.XF):Prop where p:XE X e f
structure QXA(X:Cx)(es:List Expr)(f:Z.XF):Prop where p:XA X es f
structure QXT(X:Cx)(e:Expr)(f:Z.XF):Prop where p:XT X e f
structure QXS(X:Cx)(H0:Hp)(st:Stmt)(f:Z.XF):Prop where p:XS X H0 st f
structure QXSs(X:Cx)(H0:Hp)(sts:List Stmt)(f:Z.XF):Prop where p:XSs X H0 sts f
structure QXR(X:Cx)(st:Stmt)(f:Z.XF):Prop where p:XR X st f
structure QXRs(X:Cx)(sts:List Stmt)(f:Z.XF):Prop where p:XRs X sts f
section
variable {X:Cx}{e a:Expr}{es:List Expr}{pos:Pos}{f:Z.XF}{H0:Hp}{st:Stmt}{sts:List Stmt}{g u:Z.SF}{xa xb:Z.XF}
theorem xe_call{k:Nat}{ps:List Str}{x:Str}{m:List Z.D->Option Z.XN}{ar:Z.AF}{p1:Pos}(C:CalX X.prog X.w X.K X.mg X.base x k ps m)(hr:Room k X.A)(hg:Gl X x)
  (ha:QA X.nox (e :: es) ar) (hex:X.ex=[]:=by rfl) (hdb:(x==("__debug__" : Str))=false:=by decide +kernel) (he:starEach (e :: es) X.env=(false,eval e X.env) :: starEach es X.env:=by rfl) (hpl:(backTo pos (starEach es X.env)).any (·.1)=false:=by rfl) :
  QXE X (.Call (.Name x p1) (e :: es) [] pos) (Z.xCall m ar):=⟨ZS.xe_call C hr hg ha.p hex hdb he hpl⟩
theorem xa_hd(h:QXE X e f){ar:Z.AF}(ha:QA X.nox es ar)(he:starEach (e :: es) X.env=(false,eval e X.env) :: starEach es X.env:=by rfl):QXA X (e :: es) f:=⟨ZS.xa_hd h.p ha.p he⟩
theorem xa_tl{fa:Z.EF}(h:QE X.nox e fa)(ha:QXA X es f)(he:starEach (e :: es) X.env=(false,eval e X.env) :: starEach es X.env:=by rfl):QXA X (e :: es) (Z.xTl fa f):=⟨ZS.xa_tl h.p ha.p he⟩
theorem xe_arg{k:Nat}{ps:List Str}{x:Str}{m:List Z.D->Z.Res Z.D}{p1:Pos}(C:Cal X.prog X.w X.K X.mg X.base x k ps m)(hr:Room k X.A)(hg:Gl X x)(ha:QXA X (e :: es) f)
  (hdb:(x==("__debug__" : Str))=false:=by decide +kernel) (he:starEach (e :: es) X.env=(false,eval e X.env) :: starEach es X.env:=by rfl) (hpl:(backTo pos (starEach es X.env)).any (·.1)=false:=by rfl):QXE X (.Call (.Name x p1) (e :: es) [] pos) f:=⟨ZS.xe_arg C hr hg ha.p hdb he hpl⟩
theorem xe_argT{T:String}{x:Str}{p1:Pos}(hg:Gl X x)(hm:X.mg x=none)(hv:bootBuiltins x=some (.type T))(ha:QXA X (e :: es) f)(hn:x ≠ "__name__" := by decide +kernel)(hdb:(x==("__debug__" : Str))=false:=by decide +kernel)
  (he:starEach (e :: es) X.env=(false,eval e X.env) :: starEach es X.env:=by rfl) (hpl:(backTo pos (starEach es X.env)).any (·.1)=false:=by rfl):QXE X (.Call (.Name x p1) (e :: es) [] pos) f:=⟨ZS.xe_argT hg hm hv ha.p hn hdb he hpl⟩
theorem xt_notN{j:Nat}{pos':Pos}(h:QXE X a f):QXT X (.Compare a [.IsNot] [.Constant .none j pos'] pos) f:=⟨ZS.xt_notN h.p⟩
theorem xs_set{i:Nat}{x:Str}{pos':Pos}(hN:X.N.Nodup)(hi:X.N[i]?=some x)(hx:Loc X.env.scope x)(h:QXE X a f)(hs:swapsWith a (some (.Name x pos')) pos.line X.env=pure false:=by rfl)(hf:X.fn x=true∨X.env.scope.names.lookup x=some .local:=by first | exact .inl rfl | exact .inr rfl | assumption):QXS X H0 (.Assign [.Name x pos'] a pos) f:=⟨ZS.xs_set hN hi hx h.p hs hf⟩
theorem xs_ret(h:QXE X a f):QXS X H0 (.Return (some a) pos) f:=⟨ZS.xs_ret h.p⟩
theorem xr_drop(h:QXE X a f)(hs:swapsWith a none pos.line X.env=pure false:=by rfl):QXR X (.Expr a pos) f:=⟨ZS.xr_drop h.p hs⟩
theorem xs_for{tg iter:Expr}{body:List Stmt}(h:QXE X iter f)(hs:∀x,foldedSetIterable iter X.env x=pure x:=by intro _;rfl):QXS X H0 (.For tg iter body [] pos) f:=⟨ZS.xs_for h.p hs⟩
theorem xs_if{c:Expr}{b1 b2:List Stmt}{t:Z.TF}(hc:QT X.nox c t)(h1:QXSs X H0 b1 xa)(h2:QXSs X H0 b2 xb):QXS X H0 (.If c b1 b2 pos) (Z.xIf t xa xb):=⟨ZS.xs_if hc.p h1.p h2.p⟩
theorem xr_if{c:Expr}{b1 b2:List Stmt}{t:Z.TF}(hc:QT X.nox c t)(h1:QXRs X b1 xa)(h2:QXRs X b2 xb):QXR X (.If c b1 b2 pos) (Z.xIf t xa xb):=⟨ZS.xr_if hc.p h1.p h2.p⟩
theorem xs_ifT{c:Expr}{b1 b2:List Stmt}(hc:QXT X c f)(h1:QSs X.nox H0 b1 g)(h2:QSs X.nox H0 b2 u):QXS X H0 (.If c b1 b2 pos) f:=⟨ZS.xs_ifT hc.p h1.p h2.p⟩
theorem xs_no:QXS X H0 st Z.xNo:=⟨ZS.xs_no⟩
theorem xss_no:QXSs X H0 sts Z.xNo:=⟨ZS.xss_no⟩
theorem xss_one(h:QXS X H0 st f):QXSs X H0 [st] f:=⟨ZS.xss_one h.p⟩
theorem xrs_one(h:QXR X st f):QXRs X [st] f:=⟨ZS.xrs_one h.p⟩
theorem xss_cons(h1:QS X.nox H0 st g)(x1:QXS X H0 st xa)(x2:QXSs X H0 sts xb):QXSs X H0 (st :: sts) (Z.xSeq g xa xb):=⟨ZS.xss_cons h1.p x1.p x2.p⟩
theorem xs_raise{x:Str}{c:List Nat}{C:Addr}{fa:Z.EF}{np cpos:Pos}(hc:X.calm=true)(hex:X.ex=[])(hg:Gl X x)(hcx:(⟨c.toArray⟩:Str)=x)(xc:XC X.K c C)(xi:excIn X.K C [.type "ValueError",.type "Exception",.type "BaseException",.type "object"] "ValueError.__new__" = true)(ha:QE X.nox a fa)
  (hdb:(x==("__debug__" : Str))=false:=by decide +kernel) (he:starEach (a :: []) X.env=(false,eval a X.env) :: starEach [] X.env:=by rfl) (hpl:(backTo cpos (starEach (a :: []) X.env)).any (·.1)=false:=by rfl) :
  QXS X H0 (.Raise (some (.Call (.Name x np) [a] [] cpos)) none pos) (Z.xRaise c fa):=⟨ZS.xs_raise hc hex hg hcx xc xi ha.p hdb he hpl⟩
theorem ds_try{body suite:List Stmt}{b0:Stmt}{x n:Str}{np hpos pos:Pos}{c:List Nat}{i:Nat}{g h:Z.SF}{xb:Z.XF}(hex:X.ex=[])(hst:X.stack=X.env :: X.outer)(hfl:X.env.frame=some X.env.locals)
  (hN:X.N.Nodup) (hi:X.N[i]?=some n) (hl:X.env.scope.names.lookup n=some .local) (hg:Gl X x) (hcx:(⟨c.toArray⟩:Str)=x)
  (hb:QSs X.nox H0 body g) (hxb:∀pn E,QXRs (tryX X pn E) body xb) (hh:∀ev,QSs (hanX X ev).nox H0 (b0 :: suite) h) (hdb:(x==("__debug__" : Str))=false:=by decide +kernel) :
  QS X H0 (.Try body [.ExceptHandler (some (.Name x np)) (some n) (b0 :: suite) hpos] [] [] pos) (Z.sTry g xb c i h):=⟨ZS.ds_try hex hst hfl hN hi hl hg hcx hb.p (λ pn E=>(hxb pn E).p) (λ ev=>(hh ev).p) hdb⟩
theorem de_isXO{x y:Str}{p1 p2:Pos}{i:Nat}{c0:List Nat}{b:Bool}{D:Addr}(hg:Gl X x)(hm:X.mg x=none)(hv:bootBuiltins x=some (.builtin "isinstance"))(ha:PE X a (tVar i))(hgy:Gl X y)(hmy:X.mg y=some (.ref D))(hK:IsK X.K c0 (.ref D) b)
  (hn:x ≠ "__name__" := by decide +kernel) (hdb:(x==("__debug__" : Str))=false:=by decide +kernel) (hdy:(y==("__debug__" : Str))=false:=by decide +kernel)
  (he:starEach (a :: [.Name y p2]) X.env=(false,eval a X.env) :: starEach [.Name y p2] X.env:=by rfl) (hpl:(backTo pos (starEach [.Name y p2] X.env)).any (·.1)=false:=by rfl) (he2:starEach ((.Name y p2) :: []) X.env=(false,eval (.Name y p2) X.env) :: starEach [] X.env:=by rfl) :
  QE X (.Call (.Name x p1) [a,.Name y p2] [] pos) (Z.eIsX i (Z.isx c0 b)):=⟨ZS.de_isXO hg hm hv ha hgy hmy hK hn hdb hdy he hpl he2⟩
theorem de_isXB{x y:Str}{T:String}{p1 p2:Pos}{i:Nat}{c0:List Nat}{b:Bool}(hg:Gl X x)(hm:X.mg x=none)(hv:bootBuiltins x=some (.builtin "isinstance"))(ha:PE X a (tVar i))(hgy:Gl X y)(hmy:X.mg y=none)(hvy:bootBuiltins y=some (.type T))(hK:IsK X.K c0 (.type T) b)
  (hn:x ≠ "__name__" := by decide +kernel) (hdb:(x==("__debug__" : Str))=false:=by decide +kernel) (hny:y ≠ "__name__" := by decide +kernel) (hdy:(y==("__debug__" : Str))=false:=by decide +kernel)
  (he:starEach (a :: [.Name y p2]) X.env=(false,eval a X.env) :: starEach [.Name y p2] X.env:=by rfl) (hpl:(backTo pos (starEach [.Name y p2] X.env)).any (·.1)=false:=by rfl) (he2:starEach ((.Name y p2) :: []) X.env=(false,eval (.Name y p2) X.env) :: starEach [] X.env:=by rfl) :
  QE X (.Call (.Name x p1) [a,.Name y p2] [] pos) (Z.eIsX i (Z.isx c0 b)):=⟨ZS.de_isXB hg hm hv ha hgy hmy hvy hK hn hdb hny hdy he hpl he2⟩
theorem de_callE{k:Nat}{ps:List Str}{x:Str}{m:Z.XN->Z.Res Z.D}{i:Nat}{p1:Pos}(C:CalE X.prog X.w X.K X.mg X.base x k ps m)(hr:RoomH k X.A)(hg:Gl X x)(ha:PE X a (tVar i))
  (hdb:(x==("__debug__" : Str))=false:=by decide +kernel) (he:starEach (a :: []) X.env=(false,eval a X.env) :: starEach [] X.env:=by rfl) (hpl:(backTo pos (starEach [] X.env)).any (·.1)=false:=by rfl) :
  QE X (.Call (.Name x p1) [a] [] pos) (Z.eCallE m i):=⟨ZS.de_callE C hr hg ha hdb he hpl⟩
end
section
variable {P:Program}{w:World}{K:PySem.W.Frag}{mg:Str->Option Value}{base:Heap}
theorem calX{x:Str}{k:Nat}{st:Stmt}{N ps:List Str}{xb:Z.XF}(d:Def K mg x st ps)(S:aA N ps (ak st))
  (hb:∀ (f:Addr) (cdv:Value) (A:Around) (outer:List PySem.Env) (s:Shared) (H:Hp) (E:XK),Room k (A.deeper (envOfC x (ak st) s.heap.objs.size f cdv)) ->
   QXSs (cxOf (CXZ P w) P w K mg base N x (ak st) f cdv A outer s H E) H (defBody st) xb):CalX P w K mg base x (k+1) ps (Z.fx ps.length N.length xb):=CalX.mk' d S λ f cdv A outer s H E hr=>(hb f cdv A outer s H E hr).p
theorem calXD{x:Str}{k:Nat}{st:Stmt}{N ps:List Str}{xb:Z.XF}(d:DefD K mg x st ps)(S:aA N ps (ak st))
  (hb:∀ (f:Addr) (cdv:Value) (A:Around) (outer:List PySem.Env) (s:Shared) (H:Hp) (E:XK),Room k (A.deeper (envOfC x (ak st) s.heap.objs.size f cdv)) ->
   QXSs (cxOf (CXZ P w) P w K mg base N x (ak st) f cdv A outer s H E) H (defBody st) xb):CalX P w K mg base x (k+1) ps (Z.fx ps.length N.length xb):=CalX.mkD d S λ f cdv A outer s H E hr=>(hb f cdv A outer s H E hr).p
theorem calE{x:Str}{k:Nat}{st:Stmt}{N ps:List Str}{b:Z.SF}(d:Def K mg x st ps)(S:aA N ps (ak st))(h1:ps.length=1)
  (hb:∀ (f:Addr) (cdv:Value) (A:Around) (outer:List PySem.Env) (s:Shared) (H:Hp),RoomH k (A.deeper (envOfC x (ak st) s.heap.objs.size f cdv)) ->
   QSs (cxH P w K mg base N x (ak st) f cdv A outer s H).nox H (defBody st) b):CalE P w K mg base x (k+1) ps (Z.fnE N.length b):=ZS.calE d S h1 λ f cdv A outer s H hr=>(hb f cdv A outer s H hr).p
end
end ZQ
noncomputable section
namespace Z
def Ok{α:Type}(r:Res α)(Q:α->Prop):Prop:=∃a,r=.ok a∧Q a
theorem Ok.intro{α:Type}{r:Res α}{Q:α->Prop}{a:α}(h:r=.ok a)(q:Q a):Ok r Q:=⟨a,h,q⟩
theorem Ok.imp{α:Type}{r:Res α}{P Q:α->Prop}(h:Ok r P)(k:∀a,P a->Q a):Ok r Q:=let ⟨a,e,p⟩:=h;⟨a,e,k a p⟩
theorem Ok.eq{α:Type}{r:Res α}{a:α}(h:Ok r λ x=>x=a):r=.ok a:=by obtain⟨x,e,rfl⟩:=h;exact e
@[simp] theorem Ok_ok{α:Type}(a:α)(Q:α->Prop):Ok (.ok a) Q↔Q a:=⟨λ⟨_,e,q⟩=>by cases e;exact q,λ q=>⟨a,rfl,q⟩⟩
@[simp] theorem Ok_bad{α:Type}(Q:α->Prop):Ok (.bad:Res α) Q↔False:=⟨λ⟨_,e,_⟩=>(by cases e),False.elim⟩
@[simp] theorem Ok_bind{α β:Type}(r:Res α)(f:α->Res β)(Q:β->Prop):Ok (r.bind f) Q↔Ok r λ a=>Ok (f a) Q:=by
 cases r with
 | ok a=>simp
 | bad=>simp
@[simp] theorem Ok_map{α β:Type}(r:Res α)(f:α->β)(Q:β->Prop):Ok (r.map f) Q↔Ok r λ a=>Q (f a):=by
 cases r with
 | ok a=>simp
 | bad=>simp
@[simp] theorem Ok_guard{α:Type}(p:Prop)(r:Res α)(Q:α->Prop):Ok (guard p r) Q↔p∧Ok r Q:=by
 constructor
 ·rintro⟨a,e,q⟩;obtain⟨h,e⟩:=guard_ok e;exact⟨h,a,e,q⟩
 ·rintro⟨h,k⟩;rw[guard_pos h];exact k
@[simp] theorem Ok_ite{α:Type}{c:Prop}[Decidable c](r r':Res α)(Q:α->Prop):Ok (if c then r else r') Q↔if c then Ok r Q else Ok r' Q:=by split<;>rfl
abbrev v(d:D):Option L:=some (.val d)
abbrev vi(i:Int):Option L:=some (.val (.int i))
abbrev vs(cs:List Nat):Option L:=some (.val (.str cs))
abbrev ow(xs:List D):Option L:=some (.own xs)
def asW:Option (Option L)->Res D
 | some (some (.val d))=>.ok d
 | some (some (.own xs))=>.ok (.lst xs)
 | some (some (.bor xs))=>.ok (.lst xs)
 | _=>.bad
def asV:Option (Option L)->Res D
 | some (some (.val d))=>.ok d
 | _=>.bad
@[simp] theorem eW_a(i:Nat)(ρ:Env):eW i ρ=asW ρ[i]?:=by
 unfold eW asW;cases ρ[i]? with
 | none=>rfl
 | some o=>cases o with
  | none=>rfl
  | some l=>cases l<;>rfl
@[simp] theorem eV_a(i:Nat)(ρ:Env):eV i ρ=asV ρ[i]?:=by
 unfold eV asV;cases ρ[i]? with
 | none=>rfl
 | some o=>cases o with
  | none=>rfl
  | some l=>cases l<;>rfl
@[simp] theorem asW_val(d:D):asW (some (some (.val d)))=.ok d:=rfl
@[simp] theorem asW_own(xs:List D):asW (some (some (.own xs)))=.ok (.lst xs):=rfl
@[simp] theorem asW_bor(xs:List D):asW (some (some (.bor xs)))=.ok (.lst xs):=rfl
@[simp] theorem asV_val(d:D):asV (some (some (.val d)))=.ok d:=rfl
theorem ret_ok{b:SF}{ρ:Env}{d:D}(h:Ok (b ρ) λ fl=>retK (.ok fl)=.ok d):retK (b ρ)=.ok d:=by obtain⟨fl,e,q⟩:=h;rw[e,q]
theorem ret_Ok{b:SF}{ρ:Env}{P:D->Prop}(h:Ok (b ρ) λ fl=>Ok (retK (.ok fl)) P):Ok (retK (b ρ)) P:=by obtain⟨fl,e,q⟩:=h;rw[e];exact q
@[simp] theorem sCont_a(ρ:Env):sCont ρ=.ok (.ct ρ):=rfl
@[simp] theorem sBreak_a(ρ:Env):sBreak ρ=.ok (.bk ρ):=rfl
@[simp] theorem sGet_a(e:EF)(g:GF)(ρ:Env):sGet e g ρ=(e ρ).bind λ d=>(g d ρ).bind λ ρ'=>.ok (.nx ρ'):=rfl
@[simp] theorem gTup2(i j:Nat)(a b:D)(ρ:Env):gTup [i,j] (.tup [a,b]) ρ=.ok ((ρ.set i (v a)).set j (v b)):=rfl
def appK(i:Nat)(ρ:Env)(d:D):Option (Option L)->Res Fl
 | some (some (.own xs))=>guard (xs.length < line) (.ok (.nx (ρ.set i (ow (xs++[d])))))
 | _=>.bad
@[simp] theorem sAppend_a(i:Nat)(e:EF)(ρ:Env):sAppend i e ρ=(e ρ).bind λ d=>appK i ρ d ρ[i]?:=rfl
@[simp] theorem appK_own(i:Nat)(ρ:Env)(d:D)(xs:List D):appK i ρ d (some (some (.own xs)))=guard (xs.length < line) (.ok (.nx (ρ.set i (ow (xs++[d]))))):=rfl
def extK(i:Nat)(ρ:Env)(ys:List D):Option (Option L)->Res Fl
 | some (some (.own xs))=>guard (xs.length+ys.length≤line) (.ok (.nx (ρ.set i (ow (xs++ys)))))
 | _=>.bad
@[simp] theorem sExt_a(i:Nat)(l:LF)(ρ:Env):sExt i l ρ=(l ρ).bind λ ys=>extK i ρ ys ρ[i]?:=rfl
@[simp] theorem extK_own(i:Nat)(ρ:Env)(ys xs:List D):extK i ρ ys (some (some (.own xs)))=guard (xs.length+ys.length≤line) (.ok (.nx (ρ.set i (ow (xs++ys))))):=rfl
def frzK(i:Nat)(ρ:Env):Option (Option L)->Env
 | some (some (.own xs))=>ρ.set i (v (.lst xs))
 | _=>ρ
@[simp] theorem sFrz_a(i:Nat)(a:SF)(ρ:Env):sFrz i a ρ=a (frzK i ρ ρ[i]?):=by
 unfold sFrz frz frzK;cases ρ[i]? with
 | none=>rfl
 | some o=>cases o with
  | none=>rfl
  | some l=>cases l<;>rfl
@[simp] theorem frzK_own(i:Nat)(ρ:Env)(xs:List D):frzK i ρ (some (some (.own xs)))=ρ.set i (v (.lst xs)):=rfl
@[simp] theorem frzK_val(i:Nat)(ρ:Env)(d:D):frzK i ρ (some (some (.val d)))=ρ:=rfl
@[simp] theorem frzK_none(i:Nat)(ρ:Env):frzK i ρ (some none)=ρ:=rfl
def catK:D->D->Res (List D)
 | .lst xs,.lst ys=>guard (xs.length+ys.length≤line) (.ok (xs++ys))
 | _,_=>.bad
theorem lCat_k(a b:EF)(ρ:Env):lCat a b ρ=(a ρ).bind λ x=>(b ρ).bind λ y=>catK x y:=rfl
@[simp] theorem catK_lst(xs ys:List D):catK (.lst xs) (.lst ys)=guard (xs.length+ys.length≤line) (.ok (xs++ys)):=rfl
def slK(l h:Option Int):D->Res (List D)
 | .lst xs=>.ok (cut xs l h)
 | _=>.bad
theorem lSl_k(a:EF)(lo hi:PF)(ρ:Env):lSl a lo hi ρ=(a ρ).bind λ x=>(lo ρ).bind λ l=>(hi ρ).bind λ h=>slK l h x:=rfl
@[simp] theorem slK_lst(l h:Option Int)(xs:List D):slK l h (.lst xs)=.ok (cut xs l h):=rfl
@[simp] theorem oSl_tup(xs:List D)(l h:Option Int):oSl (.tup xs) l h=.ok (.tup (cut xs l h)):=rfl
@[simp] theorem oSl_str'(cs:List Nat)(l h:Option Int):oSl (.str cs) l h=guard (cs.length≤line) (.ok (.str (cut cs l h))):=rfl
@[simp] theorem oAdd_str'(a b:List Nat):oAdd (.str a) (.str b)=guard (a.length+b.length≤line) (.ok (.str (a++b))):=rfl
@[simp] theorem oAdd_tup'(a b:List D):oAdd (.tup a) (.tup b)=guard (a.length+b.length≤line) (.ok (.tup (a++b))):=rfl
@[simp] theorem oNeg_int(a:Int):oNeg (.int a)=.ok (.int (-a)):=rfl
@[simp] theorem oIsN_non:oIsN .non=.ok (.bl true):=rfl
@[simp] theorem oIsN_tup(xs:List D):oIsN (.tup xs)=.ok (.bl false):=rfl
@[simp] theorem oNotN_non:oNotN .non=.ok (.bl false):=rfl
@[simp] theorem oNotN_tup(xs:List D):oNotN (.tup xs)=.ok (.bl true):=rfl
theorem oPow_nat(a b:Nat)(hb:b≤1000000)(ha:a < 18446744073709551616):oPow (.int (a:Int)) (.int (b:Int))=.ok (.int ((a ^ b:Nat):Int)):=by
 have h:(0:Int)≤b∧(b:Int)≤1000000∧(a:Int).natAbs < 2 ^ 64:=⟨by lia,by lia,by rw[Int.natAbs_natCast];exact ha⟩
 show guard _ _=_;rw[guard_pos h,Int.toNat_natCast,Int.natCast_pow]
@[simp] theorem p10_60:oPow (.int 10) (.int 60)=.ok (.int 1000000000000000000000000000000000000000000000000000000000000):=oPow_nat 10 60 (by decide) (by decide)
@[simp] theorem p10_59:oPow (.int 10) (.int 59)=.ok (.int 100000000000000000000000000000000000000000000000000000000000):=oPow_nat 10 59 (by decide) (by decide)
@[simp] theorem p10_55:oPow (.int 10) (.int 55)=.ok (.int 10000000000000000000000000000000000000000000000000000000):=oPow_nat 10 55 (by decide) (by decide)
@[simp] theorem p10_50:oPow (.int 10) (.int 50)=.ok (.int 100000000000000000000000000000000000000000000000000):=oPow_nat 10 50 (by decide) (by decide)
@[simp] theorem p7919_9:oPow (.int 7919) (.int 9)=.ok (.int 122470950010456506152021579891552879):=oPow_nat 7919 9 (by decide) (by decide)
def atK:Option D->Res D
 | some d=>.ok d
 | none=>.bad
@[simp] theorem atK_some(d:D):atK (some d)=.ok d:=rfl
theorem oIx_tup(xs:List D)(i:Int):oIx (.tup xs) (.int i)=atK ((ixZ xs.length i).bind λ j=>xs[j]?):=by show(match (ixZ xs.length i).bind λ j=>xs[j]? with | some v=>Res.ok v | none=>.bad)=_;cases (ixZ xs.length i).bind λ j=>xs[j]?<;>rfl
theorem oIx_lst(xs:List D)(i:Int):oIx (.lst xs) (.int i)=atK ((ixZ xs.length i).bind λ j=>xs[j]?):=by show(match (ixZ xs.length i).bind λ j=>xs[j]? with | some v=>Res.ok v | none=>.bad)=_;cases (ixZ xs.length i).bind λ j=>xs[j]?<;>rfl
theorem ix_at{xs:List D}{i:Int}{j:Nat}{d:D}(h:i=j)(e:xs[j]?=some d):oIx (.tup xs) (.int i)=.ok d∧oIx (.lst xs) (.int i)=.ok d:=by
 subst h;have hj:j < xs.length:=(List.getElem?_eq_some_iff.mp e).1;have:ixZ xs.length (j:Int)=some j:=by simp[ixZ,hj]
 rw[oIx_tup,oIx_lst,this];simp[e]
theorem ix_strAt{cs:List Nat}{i:Int}{j c:Nat}(h:i=j)(e:cs[j]?=some c)(hl:cs.length≤line):oIx (.str cs) (.int i)=.ok (.str [c]):=by
 subst h;have hj:j < cs.length:=(List.getElem?_eq_some_iff.mp e).1;have:ixZ cs.length (j:Int)=some j:=by simp[ixZ,hj]
 show guard (cs.length≤line) (match (ixZ cs.length (j:Int)).bind λ j=>cs[j]? with | some c=>Res.ok (D.str [c]) | none=>.bad)=_;rw[guard_pos hl,this];simp[e]
theorem ix_some{xs:List D}{i:Int}(h0:0≤i)(h1:i < xs.length):∃d∈xs,oIx (.lst xs) (.int i)=.ok d∧oIx (.tup xs) (.int i)=.ok d:=by
 have hj:i.toNat < xs.length:=by lia
 refine⟨xs[i.toNat],List.getElem_mem hj,?_⟩;have:=ix_at (xs:=xs) (i:=i) (j:=i.toNat) (d:=xs[i.toNat]) (by lia) (List.getElem?_eq_getElem hj);exact⟨this.2,this.1⟩
def turn(I:Env->Prop)(Q:Fl->Prop):Fl->Prop
 | .nx ρ=>I ρ
 | .ct ρ=>I ρ
 | .bk ρ=>Q (.nx ρ)
 | .rt d=>Q (.rt d)
@[simp] theorem turn_nx(I:Env->Prop)(Q:Fl->Prop)(ρ:Env):turn I Q (.nx ρ)↔I ρ:=Iff.rfl
@[simp] theorem turn_ct(I:Env->Prop)(Q:Fl->Prop)(ρ:Env):turn I Q (.ct ρ)↔I ρ:=Iff.rfl
@[simp] theorem turn_bk(I:Env->Prop)(Q:Fl->Prop)(ρ:Env):turn I Q (.bk ρ)↔Q (.nx ρ):=Iff.rfl
@[simp] theorem turn_rt(I:Env->Prop)(Q:Fl->Prop)(d:D):turn I Q (.rt d)↔Q (.rt d):=Iff.rfl
theorem for_ix{g:GF}{b:SF}{Q:Fl->Prop}(I:Nat->Env->Prop):∀(ds:List D)(ρ:Env)(i:Nat),I i ρ->(∀j d ρ,ds[j]?=some d->I (i+j) ρ->Ok (g d ρ) λ ρ1=>Ok (b ρ1) (turn (I (i+j+1)) Q))->(∀ρ,I (i+ds.length) ρ->Q (.nx ρ))->Ok (forGo g b ds ρ) Q
 | [],ρ,i,h,_,e=>by simpa[forGo]using e ρ h
 | d :: ds,ρ,i,h,k,e=>by
  obtain⟨ρ1,e1,fl,e2,t⟩:=k 0 d ρ rfl h;have ih:=λ ρ' (h':I (i+1) ρ')=>for_ix I (g:=g) (b:=b) (Q:=Q) ds ρ' (i+1) h' (λ j x ρ hj hP=>by have:=k (j+1) x ρ (by simpa using hj) (by simpa[Nat.add_assoc,Nat.add_comm 1 j]using hP);simpa[Nat.add_assoc,Nat.add_comm 1 j]using this) (λ ρ hP=>e ρ (by simpa[Nat.add_assoc,Nat.add_comm 1]using hP))
  unfold forGo;rw[e1,Res.ok_bind,e2,Res.ok_bind];cases fl with
  | nx ρ'=>exact ih ρ' (by simpa using t)
  | ct ρ'=>exact ih ρ' (by simpa using t)
  | bk ρ'=>simpa using t
  | rt d=>simpa using t
theorem for_at{g:GF}{b:SF}{Q:Fl->Prop}(I:Nat->Env->Prop){ds:List D}{ρ:Env}(h0:I 0 ρ)(hs:∀j d ρ,ds[j]?=some d->I j ρ->Ok (g d ρ) λ ρ1=>Ok (b ρ1) (turn (I (j+1)) Q))(he:∀ρ,I ds.length ρ->Q (.nx ρ)):Ok (forGo g b ds ρ) Q :=
 for_ix I ds ρ 0 h0 (λ j d ρ hd hI=>by rw[Nat.zero_add]at hI ⊢;exact hs j d ρ hd hI) (λ ρ h=>he ρ (by rwa [Nat.zero_add]at h))
theorem for_all{g:GF}{b:SF}{Q:Fl->Prop}(I:Env->Prop){ds:List D}{ρ:Env}(h0:I ρ)(hs:∀d∈ds,∀ρ,I ρ->Ok (g d ρ) λ ρ1=>Ok (b ρ1) (turn I Q))(he:∀ρ,I ρ->Q (.nx ρ)):Ok (forGo g b ds ρ) Q :=
 for_at (λ _=>I) h0 (λ j d ρ hd hI=>hs d (List.mem_of_getElem? hd) ρ hI) he
theorem comp_ok{g:GF}{t:TF}{e:EF}{ρ:Env}{ds:List D}{Q:List D->Prop}(p:D->Bool)(h:D->D)(hs:∀d∈ds,Ok (g d ρ) λ ρ1=>Ok (t ρ1) λ c=>c=p d∧(p d=true->Ok (e ρ1) λ y=>y=h d))(hq:Q ((ds.filter p).map h)):Ok (compGo g t e ρ ds) Q:=by refine⟨_,compGo_filter (p:=p) (h:=h) ds λ d hd=>?_,hq⟩;obtain⟨ρ1,e1,c,e2,hc,k⟩:=hs d hd;exact⟨ρ1,e1,by rw[e2,hc],λ hp=>(k hp).eq⟩
theorem comp_map{g:GF}{e:EF}{ρ:Env}{ds:List D}{Q:List D->Prop}(h:D->D)(hs:∀d∈ds,Ok (g d ρ) λ ρ1=>Ok (e ρ1) λ y=>y=h d)(hq:Q (ds.map h)):Ok (compGo g tTrue e ρ ds) Q:=by refine⟨_,compGo_map (h:=h) ds λ d hd=>?_,hq⟩;obtain⟨ρ1,e1,k⟩:=hs d hd;rw[e1];exact k.eq
theorem comp_enc{α:Type}(enc:α->D){g:GF}{t:TF}{e:EF}{ρ:Env}(f:α->Bool)(h:α->D):∀{xs:List α}{Q:List D->Prop},(∀x∈xs,Ok (g (enc x) ρ) λ ρ1=>Ok (t ρ1) λ c=>c=f x∧(f x=true->Ok (e ρ1) λ y=>y=h x))->Q ((xs.filter f).map h)->Ok (compGo g t e ρ (xs.map enc)) Q:=by
 intro xs Q hs hq;refine⟨_,?_,hq⟩;clear hq
 induction xs with
 | nil=>rfl
 | cons x xs ih =>
  obtain⟨ρ1,e1,c,e2,hc,k⟩:=hs x List.mem_cons_self;have ih':=ih λ y hy=>hs y (List.mem_cons_of_mem _ hy);cases hf:f x with
  | true =>rw[hf]at hc;have:=(k hf).eq;simp[compGo,e1,e2,hc,this,ih',hf]
  | false =>rw[hf]at hc;simp[compGo,e1,e2,hc,ih',hf]
theorem allEq_map{α:Type}[DecidableEq α]{f:D->D->Option Bool}{h:α->D}(k:∀x y,f (h x) (h y)=some (decide (x=y))):∀(xs ys:List α),allEq f (xs.map h) (ys.map h)=some (decide (xs=ys))
 | [],[]=>rfl
 | [],_ :: _=>rfl
 | _ :: _,[]=>rfl
 | x :: xs,y :: ys=>by simp[allEq,k,allEq_map k xs ys]
end Z
end
set_option maxRecDepth 4000
noncomputable section
namespace KG
open Z
def b_takes:SF:=(sRet (eOr (eB oIn (eW 0) (eTup (ae (eC (.str [46])) (ae (eC (.str [61])) ay)))) (eB oEq (eW 0) (eW 1))))
def fn_takes:List D->Res D:=fn 2 2 b_takes
theorem fe_takes(x0 x1:D):fn_takes [x0,x1]=retK (b_takes [some (.val x0),some (.val x1)]):=fn_a _ _ _ _ rfl
def b_seats_of:SF:=(aI (sOwn 2 (lDisp ay)) (aI (sFor (iRng2 (eB oIx (eW 1) (eC (.int 0))) (eB oAdd (eB oIx (eW 1) (eC (.int 0))) (eB oIx (eW 0) (eC (.int 2))))) (gName 3) (sExt 2 (lComp (iRng2 (eB oIx (eW 1) (eC (.int 1))) (eB oAdd (eB oIx (eW 1) (eC (.int 1))) (eB oIx (eW 0) (eC (.int 1))))) 1 [3] (gName 0) tTrue (eTup (ae (eV 1) (ae (eV 0) ay)))))) (sRet (eU oTuple (eW 2)))))
def fn_seats_of:List D->Res D:=fn 2 4 b_seats_of
theorem fe_seats_of(x0 x1:D):fn_seats_of [x0,x1]=retK (b_seats_of [some (.val x0),some (.val x1),none,none]):=fn_a _ _ _ _ rfl
def b_law_cell_at:SF:=(aI (sIf (tE (eB oLt (eW 1) (eU oLen (eW 0)))) (sRet (eB oIx (eW 0) (eW 1))) sNext) (sRet (eC (.int 0))))
def aL:List D->Res D:=fn 2 2 b_law_cell_at
theorem fe_law_cell_at(x0 x1:D):aL [x0,x1]=retK (b_law_cell_at [some (.val x0),some (.val x1)]):=fn_a _ _ _ _ rfl
def b_law_mixed:SF:=(aI (sSet 2 (eB oMod (eB oMul (eB oAdd (eB oAdd (eB oMod (eW 0) (eC (.int 2147483629))) (eB oMul (eB oMul (eC (.int 7919)) (eW 1)) (eW 1))) (eW 1)) (eC (.int 48271))) (eC (.int 2147483647)))) (aI (sSet 2 (eB oMod (eB oAdd (eB oAdd (eB oMul (eW 2) (eW 2)) (eB oMul (eC (.int 69621)) (eW 2))) (eW 1)) (eC (.int 2147483647)))) (sRet (eB oMod (eB oAdd (eB oMul (eW 2) (eC (.int 39373))) (eB oMul (eC (.int 11)) (eW 1))) (eC (.int 2147483587))))))
def fn_law_mixed:List D->Res D:=fn 2 3 b_law_mixed
theorem fe_law_mixed(x0 x1:D):fn_law_mixed [x0,x1]=retK (b_law_mixed [some (.val x0),some (.val x1),none]):=fn_a _ _ _ _ rfl
def b_sign_at:SF:=(aI (sSet 2 (eB oIx (eW 1) (eC (.int 0)))) (aI (sSet 3 (eB oIx (eW 1) (eC (.int 1)))) (aI (sIf (tAnd (tE (eChain oLe oLt (eC (.int 0)) (eW 2) (eU oLen (eW 0)))) (tE (eChain oLe oLt (eC (.int 0)) (eW 3) (eU oLen (eB oIx (eW 0) (eC (.int 0))))))) (sRet (eB oIx (eB oIx (eW 0) (eW 2)) (eW 3))) sNext) (sRet (eC .non)))))
def fn_sign_at:List D->Res D:=fn 2 4 b_sign_at
theorem fe_sign_at(x0 x1:D):fn_sign_at [x0,x1]=retK (b_sign_at [some (.val x0),some (.val x1),none,none]):=fn_a _ _ _ _ rfl
def b_fits:SF:=(aI (sSet 3 (eL (lComp (iSeq (az fn_seats_of (ae (eV 1) (ae (eV 2) ay)))) 1 [0] (gName 0) tTrue (az fn_sign_at (ae (eV 1) (ae (eV 0) ay)))))) (aI (sIf (tNot (tE (eU oAll (eL (lComp (iSeq (eW 3)) 1 [1] (gName 0) tTrue (az fn_takes (ae (eV 0) (ae (eB oIx (eW 1) (eC (.int 3))) ay)))))))) (sRet (eC (.bl false))) sNext) (sRet (eB oGe (eB oCount (eW 3) (eC (.str [61]))) (eB oIx (eW 1) (eC (.int 4)))))))
def fn_fits:List D->Res D:=fn 3 4 b_fits
theorem fe_fits(x0 x1 x2:D):fn_fits [x0,x1,x2]=retK (b_fits [some (.val x0),some (.val x1),some (.val x2),none]):=fn_a _ _ _ _ rfl
def b_places_of:SF:=(aI (sOwn 2 (lDisp ay)) (aI (sFor (iRng1 (eU oLen (eW 0))) (gName 3) (sExt 2 (lComp (iRng1 (eU oLen (eB oIx (eW 0) (eW 3)))) 1 [0,1,3] (gName 0) (tE (az fn_fits (ae (eV 1) (ae (eV 2) (ae (eTup (ae (eV 3) (ae (eV 0) ay))) ay))))) (eTup (ae (eV 3) (ae (eV 0) ay)))))) (sRet (eU oTuple (eW 2)))))
def fn_places_of:List D->Res D:=fn 2 4 b_places_of
theorem fe_places_of(x0 x1:D):fn_places_of [x0,x1]=retK (b_places_of [some (.val x0),some (.val x1),none,none]):=fn_a _ _ _ _ rfl
def b_apart:SF:=(aI (sIf (tOr (tE (eB oLe (eB oAdd (eB oIx (eW 1) (eC (.int 0))) (eB oIx (eW 0) (eC (.int 2)))) (eB oIx (eW 3) (eC (.int 0))))) (tE (eB oLe (eB oAdd (eB oIx (eW 3) (eC (.int 0))) (eB oIx (eW 2) (eC (.int 2)))) (eB oIx (eW 1) (eC (.int 0)))))) (sRet (eC (.bl true))) sNext) (aI (sSet 4 (eB oMax (eB oIx (eW 0) (eC (.int 5))) (eB oIx (eW 2) (eC (.int 5))))) (sRet (eOr (eB oLe (eB oAdd (eB oAdd (eB oIx (eW 1) (eC (.int 1))) (eB oIx (eW 0) (eC (.int 1)))) (eW 4)) (eB oIx (eW 3) (eC (.int 1)))) (eB oLe (eB oAdd (eB oAdd (eB oIx (eW 3) (eC (.int 1))) (eB oIx (eW 2) (eC (.int 1)))) (eW 4)) (eB oIx (eW 1) (eC (.int 1))))))))
def fn_apart:List D->Res D:=fn 4 5 b_apart
theorem fe_apart(x0 x1 x2 x3:D):fn_apart [x0,x1,x2,x3]=retK (b_apart [some (.val x0),some (.val x1),some (.val x2),some (.val x3),none]):=fn_a _ _ _ _ rfl
def b_those_that_sit:SF:=(sRet (eL (lComp (iZip (eV 0) (eV 1)) 2 [] (gTup [0,1]) (tE (eU oNotN (eW 1))) (eTup (ae (eV 0) (ae (eV 1) ay))))))
def fn_those_that_sit:List D->Res D:=fn 2 2 b_those_that_sit
theorem fe_those_that_sit(x0 x1:D):fn_those_that_sit [x0,x1]=retK (b_those_that_sit [some (.val x0),some (.val x1)]):=fn_a _ _ _ _ rfl
def b_apart_from_all:SF:=(sRet (eU oAll (eL (lComp (iSeq (eW 2)) 2 [0,1] (gTup [0,1]) tTrue (az fn_apart (ae (eV 2) (ae (eV 3) (ae (eV 0) (ae (eV 1) ay)))))))))
def fn_apart_from_all:List D->Res D:=fn 3 3 b_apart_from_all
theorem fe_apart_from_all(x0 x1 x2:D):fn_apart_from_all [x0,x1,x2]=retK (b_apart_from_all [some (.val x0),some (.val x1),some (.val x2)]):=fn_a _ _ _ _ rfl
def b_keeps:SF:=(aI (sSet 3 (az fn_those_that_sit (ae (eV 1) (ae (eV 2) ay)))) (aI (sIf (tNot (tE (eU oAll (eL (lComp (iSeq (eW 3)) 2 [0] (gTup [0,1]) tTrue (az fn_fits (ae (eV 2) (ae (eV 0) (ae (eV 1) ay))))))))) (sRet (eC (.bl false))) sNext) (sRet (eU oAll (eL (lComp (iRng1 (eU oLen (eW 3))) 1 [3] (gName 0) tTrue (az fn_apart_from_all (ae (eB oIx (eB oIx (eW 1) (eW 0)) (eC (.int 0))) (ae (eB oIx (eB oIx (eW 1) (eW 0)) (eC (.int 1))) (ae (eL (lSl (eW 1) pNo (pAt (eW 0)))) ay))))))))))
def fn_keeps:List D->Res D:=fn 3 4 b_keeps
theorem fe_keeps(x0 x1 x2:D):fn_keeps [x0,x1,x2]=retK (b_keeps [some (.val x0),some (.val x1),some (.val x2),none]):=fn_a _ _ _ _ rfl
end KG
end
namespace KG
open Z
abbrev Rows:=List (List Nat)
abbrev Pl:=Int×Int
structure Hall(rows:Rows)(C:Nat):Prop where
 r1:1≤rows.length
 r2:rows.length≤100
 c1:1≤C
 c2:C≤100
 len:∀x∈rows,x.length=C
structure G where
 name:List Nat
 w:Nat
 d:Nat
 kind:List Nat
 wide:Nat
 gap:Nat
 worth:D
 wishes:D
structure GOk(g:G):Prop where
 w1:1≤g.w
 w2:g.w≤13
 d1:1≤g.d
 d2:g.d≤4
 kd:g.kind.length≤1
 wd:g.wide≤100
 gp:g.gap≤100
def encH(rows:Rows):D:=.tup (rows.map .str)
def aN(p:Pl):D:=.tup [.int p.1,.int p.2]
def encG(g:G):D:=.tup [.str g.name,.int g.w,.int g.d,.str g.kind,.int g.wide,.int g.gap,g.worth,g.wishes]
def encS:Option Nat->D
 | some c=>.str [c]
 | none=>.non
@[simp] theorem p_ix0(p:Pl):oIx (aN p) (.int 0)=.ok (.int p.1):=rfl
@[simp] theorem p_ix1(p:Pl):oIx (aN p) (.int 1)=.ok (.int p.2):=rfl
@[simp] theorem g_ix0(g:G):oIx (encG g) (.int 0)=.ok (.str g.name):=rfl
@[simp] theorem g_ix1(g:G):oIx (encG g) (.int 1)=.ok (.int g.w):=rfl
@[simp] theorem g_ix2(g:G):oIx (encG g) (.int 2)=.ok (.int g.d):=rfl
@[simp] theorem g_ix3(g:G):oIx (encG g) (.int 3)=.ok (.str g.kind):=rfl
@[simp] theorem g_ix4(g:G):oIx (encG g) (.int 4)=.ok (.int g.wide):=rfl
@[simp] theorem g_ix5(g:G):oIx (encG g) (.int 5)=.ok (.int g.gap):=rfl
@[simp] theorem g_ix6(g:G):oIx (encG g) (.int 6)=.ok g.worth:=rfl
@[simp] theorem g_ix7(g:G):oIx (encG g) (.int 7)=.ok g.wishes:=rfl
@[simp] theorem h_len(rows:Rows):oLen (encH rows)=.ok (.int rows.length):=by simp[encH]
@[simp] theorem tup_P(a b:Int):D.tup [.int a,.int b]=aN (a,b):=rfl
theorem capt_a(ρ:Env)(is:List Nat):capt ρ is=is.map (capt1 ρ):=rfl
def captK:Option (Option L)->Option L
 | some (some (.val d))=>some (.val d)
 | some (some (.bor xs))=>some (.bor xs)
 | some (some (.fdc ks))=>some (.fdc ks)
 | _=>none
theorem capt1_a(ρ:Env)(i:Nat):capt1 ρ i=captK ρ[i]?:=by
 unfold capt1 captK;cases ρ[i]? with
 | none=>rfl
 | some o=>cases o with
  | none=>rfl
  | some l=>cases l<;>rfl
@[simp] theorem captK_bor(xs:List D):captK (some (some (.bor xs)))=some (.bor xs):=rfl
@[simp] theorem captK_fdc(ks:List (List Int)):captK (some (some (.fdc ks)))=some (.fdc ks):=rfl
@[simp] theorem captK_val(d:D):captK (some (some (.val d)))=some (.val d):=rfl
theorem Hall.row{rows:Rows}{C:Nat}(H:Hall rows C){r:Nat}(h:r < rows.length):∃row,rows[r]?=some row∧row.length=C∧oIx (encH rows) (.int r)=.ok (.str row):=by refine⟨rows[r],List.getElem?_eq_getElem h,H.len _ (List.getElem_mem h),(ix_at (j:=r) rfl ?_).1⟩;rw[List.getElem?_map,List.getElem?_eq_getElem h];rfl
theorem Hall.row0{rows:Rows}{C:Nat}(H:Hall rows C):∃row,row.length=C∧oIx (encH rows) (.int 0)=.ok (.str row):=by obtain⟨row,_,h1,h2⟩:=H.row (r:=0) H.r1;exact⟨row,h1,h2⟩
def signAt(rows:Rows)(p:Pl):Option Nat:=if 0≤p.1∧0≤p.2 then(rows[p.1.toNat]?).bind (λ r=>r[p.2.toNat]?)else none
theorem sign_in{rows:Rows}{C:Nat}(H:Hall rows C){p:Pl}(h1:0≤p.1)(h2:p.1 < rows.length)(h3:0≤p.2)(h4:p.2 < C):∃row c,oIx (encH rows) (.int p.1)=.ok (.str row)∧row.length=C∧oIx (.str row) (.int p.2)=.ok (.str [c])∧signAt rows p=some c:=by
 obtain⟨row,e1,hl,e2⟩:=H.row (r:=p.1.toNat) (by lia);rw[Int.toNat_of_nonneg h1]at e2;have hc:p.2.toNat < row.length:=by lia
 have hl':=H.c2;refine⟨row,row[p.2.toNat],e2,hl,ix_strAt (j:=p.2.toNat) (by lia) (List.getElem?_eq_getElem hc) (by simp only[line];lia),?_⟩;simp[signAt,h1,h3,e1,hc]
theorem sign_out{rows:Rows}{C:Nat}(H:Hall rows C){p:Pl}(h:¬(0≤p.1∧p.1 < rows.length∧0≤p.2∧p.2 < C)):signAt rows p=none:=by
 unfold signAt;by_cases h0:0≤p.1∧0≤p.2
 ·rw[if_pos h0];cases e:rows[p.1.toNat]? with
  | none=>rfl
  | some row =>obtain⟨h1,h2⟩:=List.getElem?_eq_some_iff.mp e;have:=H.len row (List.mem_of_getElem? e);simp only[Option.bind_some];exact List.getElem?_eq_none (by lia)
 ·rw[if_neg h0]
theorem sign_ok{rows : Rows}{C : Nat}(H : Hall rows C)(p : Pl): fn_sign_at [encH rows, aN p] = .ok (encS (signAt rows p)) := by
 rw[fe_sign_at];refine ret_ok ?_;obtain⟨row0,hl0,e0⟩:=H.row0;have hc2:=H.c2;have hln:C≤line:=by simp only[line];lia
 by_cases h:0≤p.1∧p.1 < rows.length∧0≤p.2∧p.2 < C
 ·obtain⟨row,c,e1,_,e2,e3⟩:=sign_in H h.1 h.2.1 h.2.2.1 h.2.2.2;simp[b_sign_at,e0,hl0,hln,h.1,h.2.1,h.2.2.1,h.2.2.2,e1,e2,e3,encS]
 ·rw [sign_out H h];have hr1:=H.r1;by_cases a1:0≤p.1
  ·by_cases a2:p.1 < rows.length
   ·by_cases a3:0≤p.2
    ·have a4:¬p.2 < C:=λ z=>h ⟨a1,a2,a3,z⟩;simp[b_sign_at,e0,hl0,hln,a1,a2,a3,a4,encS]
    ·simp[b_sign_at,e0,hl0,hln,a1,a2,a3,encS]
   ·simp[b_sign_at,e0,hl0,hln,a1,a2,encS]
  ·simp[b_sign_at,e0,hl0,hln,a1,encS]
def takesB(kind:List Nat):Option Nat->Bool
 | some c=>decide (c=46∨c=61∨kind=[c])
 | none=>false
theorem eqD_sn(c:List Nat):eqD (.str c) .non=some false:=rfl
theorem eqD_ns(c:List Nat):eqD .non (.str c)=some false:=rfl
theorem eqD_ss(a b:List Nat):eqD (.str a) (.str b)=some (a==b):=rfl
theorem in2(c:Nat):oIn (.str [c]) (.tup [.str [46],.str [61]])=.ok (.bl (decide (c=46∨c=61))):=by
 simp only[oIn,anyEq,eqD_ss];by_cases h1:c=46
 ·subst h1;rfl
 ·by_cases h2:c=61
  ·subst h2;rfl
  ·have h1':¬46=c:=λ h=>h1 h.symm;have h2':¬61=c:=λ h=>h2 h.symm;simp[h1,h2,h1',h2']
theorem takes_ok(s : Option Nat)(k : List Nat): fn_takes [encS s, .str k] = .ok (.bl (takesB k s)) := by
 rw[fe_takes];refine ret_ok ?_;cases s with
 | none=>simp[b_takes,encS,takesB,line,oIn,anyEq,eqD_ns,eqD_sn,oEq]
 | some c =>
  simp[b_takes,encS,takesB,line,in2];by_cases h1:c=46
  ·simp[h1]
  ·by_cases h2:c=61
   ·simp[h2]
   ·by_cases h3:k=[c]
    ·subst h3;simp[h1,h2]
    ·have h3':¬[c]=k:=λ h=>h3 h.symm;simp[h1,h2,h3,h3']
def rowSeats(w:Nat)(r c:Int):List Pl:=(List.range w).map λ j=>(r,c+(j:Nat))
def seatsN(w:Nat)(p:Pl)(n:Nat):List Pl:=(List.range n).flatMap λ i=>rowSeats w (p.1+(i:Nat)) p.2
def seats(g:G)(p:Pl):List Pl:=seatsN g.w p g.d
theorem seatsN_succ(w:Nat)(p:Pl)(n:Nat):seatsN w p (n+1)=seatsN w p n++rowSeats w (p.1+(n:Nat)) p.2:=by simp[seatsN,List.range_succ,List.flatMap_append]
theorem rowSeats_len(w:Nat)(r c:Int):(rowSeats w r c).length=w:=by simp[rowSeats]
theorem seatsN_len(w:Nat)(p:Pl)(n:Nat):(seatsN w p n).length=n*w:=by
 induction n with
 | zero=>simp[seatsN]
 | succ n ih=>rw[seatsN_succ,List.length_append,ih,rowSeats_len,Nat.succ_mul]
theorem ints_map(lo:Int)(n:Nat):zints lo n=(List.range n).map λ i=>D.int (lo+(i:Nat)):=rfl
theorem ints_get{lo:Int}{n j:Nat}{d:D}(h:(zints lo n)[j]?=some d):j < n∧d=.int (lo+(j:Nat)):=by
 rw[ints_map,List.getElem?_map]at h;cases q:(List.range n)[j]? with
 | none=>rw[q]at h;cases h
 | some i =>rw[q]at h;obtain⟨h1,h2⟩:=List.getElem?_eq_some_iff.mp q;rw[List.length_range]at h1;rw[List.getElem_range]at h2;subst h2;simp at h;exact⟨h1,h.symm⟩
theorem toNat_sub(a:Int)(n:Nat):(a+(n:Int)-a).toNat=n:=by lia
theorem seats_ok{g : G}(k : GOk g)(p : Pl): fn_seats_of [encG g, aN p] = .ok (.tup ((seats g p).map aN)) := by
 rw[fe_seats_of];refine ret_ok ?_;have hw:=k.w2;have hd:=k.d2;simp[b_seats_of,toNat_sub,line];refine for_at (λ i ρ=>∃x,ρ=[v (encG g),v (aN p),ow ((seatsN g.w p i).map aN),x]) ⟨none,rfl⟩ ?_ ?_
 ·rintro j d ρ hj ⟨x,rfl⟩;obtain⟨hj,rfl⟩:=ints_get hj;simp[lComp_a,toNat_sub,line,capt_a,capt1_a];refine⟨by lia,comp_map (λ d=>.tup [.int (p.1+(j:Nat)),d]) ?_ ?_⟩
  ·rintro d hd;obtain⟨i,hi⟩:=List.getElem?_of_mem hd;obtain⟨_,rfl⟩:=ints_get hi;simp[line]
  ·refine⟨?_,?_⟩
   ·rw[List.length_map,seatsN_len,ints_len];have:j*g.w≤4*13:=Nat.mul_le_mul (by lia) hw;lia
   ·simp[seatsN_succ,rowSeats,ints_map]
 ·rintro ρ ⟨x,rfl⟩;simp[seats]
def wideB(rows:Rows)(s:Pl):Bool:=signAt rows s==some 61
def fitsB(rows:Rows)(g:G)(p:Pl):Bool:=(seats g p).all (λ s=>takesB g.kind (signAt rows s))&&decide (g.wide≤(seats g p).countP (wideB rows))
theorem cnt_wide(rows:Rows):∀(ss:List Pl),cntEq (.str [61]) (ss.map λ s=>encS (signAt rows s))=some (ss.countP (wideB rows))
 | []=>rfl
 | s :: ss=>by
  rw[List.map_cons,cntEq,cnt_wide rows ss,List.countP_cons];cases e:signAt rows s with
  | none=>simp[encS,wideB,e,eqD_sn,eqD_ns]
  | some c=>simp[encS,wideB,e,eqD_ss]
theorem all_map{α:Type}(f:α->Bool)(xs:List α):allB (xs.map λ x=>D.bl (f x))=some (xs.all f):=by
 have:=allB_bl (xs.map f);rw[List.map_map]at this;rw[show(xs.map λ x=>D.bl (f x))=xs.map (D.bl∘f)from rfl,this]
 congr 1
 induction xs with
 | nil=>rfl
 | cons x xs ih=>simp
theorem fits_ok{rows : Rows}{C : Nat}(H : Hall rows C){g : G}(k : GOk g)(p : Pl): fn_fits [encH rows, encG g, aN p] = .ok (.bl (fitsB rows g p)) := by
 rw[fe_fits];refine ret_ok ?_;have hlen:(seats g p).length≤16777216:=by rw[seats,seatsN_len];have:g.d*g.w≤4*13:=Nat.mul_le_mul k.d2 k.w2;lia
 simp[b_fits,lComp_a,seats_ok k,line,capt_a,capt1_a,hlen];refine comp_map (λ d=>match d with | .tup [.int a,.int b]=>encS (signAt rows (a,b)) | _=>.non) ?_ ?_
 ·intro d hd;obtain⟨q,_,rfl⟩:=List.mem_map.mp hd;simp[sign_ok H];rfl
 ·have e1:(List.map aN (seats g p)).map (λ d=>match d with | .tup [.int a,.int b]=>encS (signAt rows (a,b)) | _=>.non)=(seats g p).map λ s=>encS (signAt rows s):=by rw[List.map_map];rfl
  rw[e1];simp[lComp_a,line,hlen,capt_a,capt1_a];refine comp_map (λ d=>match d with | .str [c]=>.bl (takesB g.kind (some c)) | _=>.bl false) ?_ ?_
  ·intro d hd;obtain⟨q,_,rfl⟩:=List.mem_map.mp hd;simp[takes_ok];cases signAt rows q<;>rfl
  ·have e2:((seats g p).map λ s=>encS (signAt rows s)).map (λ d=>match d with | .str [c]=>D.bl (takesB g.kind (some c)) | _=>D.bl false)=(seats g p).map λ s=>D.bl (takesB g.kind (signAt rows s)):=by rw[List.map_map];apply List.map_congr_left;intro s _;show(match encS (signAt rows s)with | .str [c]=>D.bl (takesB g.kind (some c)) | _=>D.bl false)=_;cases signAt rows s<;>rfl
   rw[e2];simp only[oAll,all_map,Ok_ok];cases ha:(seats g p).all λ s=>takesB g.kind (signAt rows s)with
   | false=>simp[fitsB,ha]
   | true=>simp[fitsB,ha,oCount,cnt_wide]
def okS(rows:Rows)(g:G)(s:Pl):Bool:=takesB g.kind (signAt rows s)
theorem all_false{α:Type}{f:α->Bool}{xs:List α}{x:α}(h:x∈xs)(e:f x=false):xs.all f=false:=by rw[Bool.eq_false_iff];intro z;rw[List.all_eq_true]at z;rw[z x h]at e;cases e
theorem mem_row{w j:Nat}{r c:Int}(h:j < w):(r,c+(j:Nat))∈rowSeats w r c:=List.mem_map.mpr ⟨j,List.mem_range.mpr h,rfl⟩
theorem mem_seats{g:G}{p:Pl}{i j:Nat}(hi:i < g.d)(hj:j < g.w):(p.1+(i:Nat),p.2+(j:Nat))∈seats g p :=
 List.mem_flatMap.mpr ⟨i,List.mem_range.mpr hi,mem_row hj⟩
theorem fits_false{rows:Rows}{g:G}{p s:Pl}(h:s∈seats g p)(e:okS rows g s=false):fitsB rows g p=false:=by unfold fitsB;have:=all_false (f:=okS rows g) h e;rw[show(seats g p).all (λ s=>takesB g.kind (signAt rows s))=(seats g p).all (okS rows g)from rfl,this];rfl
def rowPl(r C:Nat):List Pl:=(List.range C).map λ(c:Nat)=>(((r:Nat):Int),((c:Nat):Int))
def allPl(n C:Nat):List Pl:=(List.range n).flatMap λ r=>rowPl r C
theorem allPl_succ(n C:Nat):allPl (n+1) C=allPl n C++rowPl n C:=by simp[allPl,List.range_succ,List.flatMap_append]
theorem rowPl_len(r C:Nat):(rowPl r C).length=C:=by simp[rowPl]
theorem allPl_len(n C:Nat):(allPl n C).length=n*C:=by
 induction n with
 | zero=>simp[allPl]
 | succ n ih=>rw[allPl_succ,List.length_append,ih,rowPl_len,Nat.succ_mul]
def places(rows:Rows)(C:Nat)(g:G):List Pl:=(allPl rows.length C).filter (fitsB rows g)
theorem places_of_ok{rows : Rows}{C : Nat}(H : Hall rows C){g : G}(k : GOk g): fn_places_of [encH rows, encG g] = .ok (.tup ((places rows C g).map aN)) := by
 rw[fe_places_of];refine ret_ok ?_;have hc2:=H.c2;have hr2:=H.r2;simp[b_places_of,line];refine for_at (λ i ρ=>i≤rows.length∧∃x,ρ=[v (encH rows),v (encG g),ow (((allPl i C).filter (fitsB rows g)).map aN),x]) ⟨Nat.zero_le _,none,rfl⟩ ?_ ?_
 ·rintro i d ρ hi ⟨_,x,rfl⟩;obtain⟨hi',rfl⟩:=ints_get hi;obtain⟨row,_,hl,e1⟩:=H.row hi';have hln:C≤16777216:=by lia
  simp[e1,hl,lComp_a,line,capt_a,capt1_a,hln];refine comp_ok (λ d=>match d with | .int c=>fitsB rows g ((i:Int),c) | _=>false) (λ d=>.tup [.int (i:Nat),d]) ?_ ?_
  ·intro d hd;obtain⟨c,hc⟩:=List.getElem?_of_mem hd;obtain⟨_,rfl⟩:=ints_get hc;simp[line,fits_ok H k]
  ·have e2:((zints 0 C).filter (λ d=>match d with | .int c=>fitsB rows g ((i:Int),c) | _=>false)).map (λ d=>D.tup [.int (i:Nat),d])=((rowPl i C).filter (fitsB rows g)).map aN:=by
    rw[ints_map,rowPl,List.filter_map,List.filter_map,List.map_map,List.map_map]
    congr 1
    ·funext c;simp
    ·congr 1;funext c;simp
   rw[e2,allPl_succ,List.filter_append,List.map_append];have h1:=List.length_filter_le (fitsB rows g) (allPl i C);have h2:=List.length_filter_le (fitsB rows g) (rowPl i C);rw[allPl_len]at h1;rw[rowPl_len]at h2;have h3:i*C≤100*100:=Nat.mul_le_mul (by lia) hc2;refine⟨?_,by lia,rfl⟩;rw[List.length_map];lia
 ·rintro ρ ⟨_,x,rfl⟩;simp[places]
def apartB(g:G)(p:Pl)(h:G)(q:Pl):Bool:=decide (p.1+g.d≤q.1∨q.1+h.d≤p.1∨p.2+g.w+max (g.gap:Int) (h.gap:Int)≤q.2∨q.2+h.w+max (g.gap:Int) (h.gap:Int)≤p.2)
theorem apart_ok(g:G)(p:Pl)(h:G)(q:Pl):fn_apart [encG g,aN p,encG h,aN q]=.ok (.bl (apartB g p h q)):=by
 rw[fe_apart];refine ret_ok ?_;by_cases h1:p.1+g.d≤q.1
 ·simp[b_apart,apartB,h1]
 ·by_cases h2:q.1+h.d≤p.1
  ·simp[b_apart,apartB,h1,h2]
  ·by_cases h3:p.2+g.w+max (g.gap:Int) h.gap≤q.2
   ·simp[b_apart,apartB,h1,h2,h3]
   ·simp[b_apart,apartB,h1,h2,h3]
end KG
set_option maxRecDepth 8000
namespace KG
open Z
def Bd(ns:List Int):Prop:=∀i∈ns,bits i≤2 ^ 20
theorem cell_at{ns:List Int}(hb:Bd ns){k:Int}(h:0≤k):∃c,aL [.lst (ns.map .int),.int k]=.ok (.int c)∧bits c≤2 ^ 20:=by
 by_cases hk:k < ns.length
 ·have hj:k.toNat < ns.length:=by lia
  have e:=(ix_at (xs:=ns.map D.int) (i:=k) (j:=k.toNat) (d:=.int ns[k.toNat]) (by lia) (by simp[hj])).2;refine⟨ns[k.toNat],?_,hb _ (List.getElem_mem hj)⟩;rw[fe_law_cell_at];refine ret_ok ?_;simp[b_law_cell_at,hk,e]
 ·refine⟨0,?_,by decide⟩;rw[fe_law_cell_at];refine ret_ok ?_;simp[b_law_cell_at,hk]
theorem mixed(c:Int){k:Int}(h0:0≤k)(h1:k≤1000):∃m,fn_law_mixed [.int c,.int k]=.ok (.int m)∧0≤m:=by
 have q1:mulFits 7919 k:=mulFits_l (by decide) (by decide);have q2:mulFits (7919*k) k:=mulFits_r (by lia) (by lia);have q3:∀x,mulFits x 48271:=λ x=>mulFits_r (by decide) (by decide);have q4:∀x:Int,mulFits (x % 2147483647) (x % 2147483647):=λ x=>mulFits_l (by lia) (by lia);have q5:∀x,mulFits 69621 x:=λ x=>mulFits_l (by decide) (by decide);have q6:∀x,mulFits x 39373:=λ x=>mulFits_r (by decide) (by decide);have q7:∀x,mulFits 11 x:=λ x=>mulFits_l (by decide) (by decide);rw[fe_law_mixed];have:Ok (retK (b_law_mixed [v (.int c),v (.int k),none])) λ d=>∃m,d=.int m∧0≤m:=by refine ret_Ok ?_;simp[b_law_mixed,q1,q2,q3,q4,q5,q6,q7];lia
 obtain⟨d,e,m,rfl,hm⟩:=this;exact⟨m,e,hm⟩
theorem letter_at(z:Int):∃q∈letters,oIx (.str letters) (.int (z % 26))=.ok (.str [q]) :=
 ix_str (by lia) (by simp[letters];lia) (by decide)
theorem letters_sign{q:Nat}(h:q∈letters):q∈signs:=(by decide:∀q∈letters,q∈signs) q h
structure HallG(rows:Rows)(C:Nat):Prop extends Hall rows C where
 r6:rows.length≤6
 c12:C≤12
 sg:∀x∈rows,∀c∈x,c∈signs
theorem hallG{rows:Rows}{C:Nat}(h1:1≤rows.length)(h2:rows.length≤6)(h3:1≤C)(h4:C≤12)(h:∀x∈rows,x.length=C∧∀c∈x,c∈signs):HallG rows C :=
 ⟨⟨h1,by lia,h3,by lia,λ x hx=>(h x hx).1⟩,h2,h4,λ x hx=>(h x hx).2⟩
def RowsOk(C i:Nat)(rows:Rows):Prop:=rows.length=i∧∀x∈rows,x.length=C∧∀c∈x,c∈signs
def LineOk(j:Nat)(ln:List Nat):Prop:=ln.length=j∧∀c∈ln,c∈signs
theorem LineOk.nil:LineOk 0 []:=⟨rfl,λ c h=>by cases h⟩
theorem RowsOk.nil(C:Nat):RowsOk C 0 []:=⟨rfl,λ c h=>by cases h⟩
theorem RowsOk.add{C i:Nat}{rows:Rows}{ln:List Nat}(h:RowsOk C i rows)(hl:LineOk C ln):RowsOk C (i+1) (rows++[ln]) :=
 ⟨by simp [h.1],λ c hc=>by
  rcases List.mem_append.mp hc with hc | hc
  ·exact h.2 c hc
  ·rw[List.mem_singleton.mp hc];exact hl⟩
theorem nat_of{z:Int}(h:0≤z):∃n:Nat,z=n:=⟨z.toNat,by lia⟩
theorem ix_all{xs:List D}{i:Int}{Q:D->Prop}(h0:0≤i)(h1:i < xs.length)(h:∀d∈xs,Q d):Ok (oIx (.lst xs) (.int i)) Q:=by obtain⟨d,hd,e,_⟩:=ix_some h0 h1;exact⟨d,e,h d hd⟩
end KG
namespace KG
open Z
structure GrpG(g:G):Prop extends GOk g where
 w12:g.w≤12
 d3:g.d≤3
 kl:g.kind=[]∨∃c∈letters,g.kind=[c]
 wdd:g.wide≤g.w*g.d
 g6:g.gap≤6
 wsh:∃(wt:Int)(ws:List Pl),ws.length≤6∧g.worth=.int wt∧g.wishes=.tup (ws.map aN)
theorem grpG{g:G}(h1:1≤g.w)(h2:g.w≤12)(h3:1≤g.d)(h4:g.d≤3)(h5:g.kind=[]∨∃c∈letters,g.kind=[c])(h6:g.wide≤g.w*g.d)(h7:g.gap≤6)(h8:∃(wt:Int)(ws:List Pl),ws.length≤6∧g.worth=.int wt∧g.wishes=.tup (ws.map aN)):GrpG g :=
 ⟨⟨h1,by lia,h3,by lia,by rcases h5 with h | ⟨c,_,h⟩<;>rw [h]<;>simp,by have:g.w*g.d≤12*3:=Nat.mul_le_mul h2 h4;lia,by lia⟩,h2,h4,h5,h6,h7,h8⟩
end KG
noncomputable section
namespace KG
open Z
@[simp] theorem isTy_bl(b:Bool):isTy .bool (.bl b)=true:=rfl
@[simp] theorem isTy_tup(xs:List D):isTy .tuple (.tup xs)=true:=rfl
@[simp] theorem isTy_P(p:Pl):isTy .tuple (aN p)=true:=rfl
@[simp] theorem isTy_int(i:Int):isTy .int (.int i)=true:=rfl
@[simp] theorem isTy_intb(i:Int):isTy .bool (.int i)=false:=rfl
theorem eqP(n:Nat)(p q:Pl):eqDn (n+1) (aN p) (aN q)=some (decide (p=q)):=by
 show allEq (eqDn n) [.int p.1,.int p.2] [.int q.1,.int q.2]=_;have e:∀a b:Int,eqDn n (.int a) (.int b)=some (decide (a=b)):=λ a b=>by cases n<;>rfl
 simp only[allEq,e]
 congr 1
 rw[Bool.eq_iff_iff];simp[Prod.ext_iff]
theorem eqPs(n:Nat)(ps qs:List Pl):allEq (eqDn (n+1)) (ps.map aN) (qs.map aN)=some (decide (ps=qs)):=allEq_map (eqP n) ps qs
theorem eqIs(n:Nat)(ps qs:List Int):allEq (eqDn n) (ps.map D.int) (qs.map D.int)=some (decide (ps=qs)):=allEq_map (λ a b=>by cases n<;>rfl) ps qs
@[simp] theorem neP(ps qs:List Pl):oNe (.lst (ps.map aN)) (.lst (qs.map aN))=.ok (.bl (!decide (ps=qs))):=by have:eqD (.lst (ps.map aN)) (.lst (qs.map aN))=some (decide (ps=qs)):=eqPs 4 ps qs;unfold oNe;rw[this]
@[simp] theorem eqPl(ps qs:List Pl):oEq (.lst (ps.map aN)) (.lst (qs.map aN))=.ok (.bl (decide (ps=qs))):=by have:eqD (.lst (ps.map aN)) (.lst (qs.map aN))=some (decide (ps=qs)):=eqPs 4 ps qs;unfold oEq;rw[this]
@[simp] theorem eqPt(ps qs:List Pl):oEq (.tup (ps.map aN)) (.tup (qs.map aN))=.ok (.bl (decide (ps=qs))):=by have:eqD (.tup (ps.map aN)) (.tup (qs.map aN))=some (decide (ps=qs)):=eqPs 4 ps qs;unfold oEq;rw[this]
@[simp] theorem neI(ps qs:List Int):oNe (.lst (ps.map D.int)) (.lst (qs.map D.int))=.ok (.bl (!decide (ps=qs))):=by have:eqD (.lst (ps.map D.int)) (.lst (qs.map D.int))=some (decide (ps=qs)):=eqIs 5 ps qs;unfold oNe;rw[this]
theorem anyP(p:Pl):∀(qs:List Pl),anyEq (aN p) (qs.map aN)=some (decide (p∈qs))
 | []=>rfl
 | q :: qs=>by
  rw[List.map_cons,anyEq,anyP p qs,show eqD (aN q) (aN p)=some (decide (q=p))from eqP 5 q p];show some (decide (q=p) || decide (p∈qs))=_
  congr 1
  rw[Bool.eq_iff_iff];simp only[Bool.or_eq_true,decide_eq_true_eq,List.mem_cons];exact⟨λ h=>h.imp Eq.symm id,λ h=>h.imp Eq.symm id⟩
@[simp] theorem inPt(p:Pl)(qs:List Pl):oIn (aN p) (.tup (qs.map aN))=.ok (.bl (decide (p∈qs))):=by simp only[oIn,anyP]
@[simp] theorem notInPt(p:Pl)(qs:List Pl):oNotIn (aN p) (.tup (qs.map aN))=.ok (.bl (!decide (p∈qs))):=by simp only[oNotIn,anyP]
end KG
end
noncomputable section
namespace KG
open Z
def ltP(p q:Pl):Prop:=p.1 < q.1∨p.1=q.1∧p.2 < q.2
theorem mem_rowPl{r C:Nat}{p:Pl}(h:p∈rowPl r C):p.1=r∧0≤p.2∧p.2 < C:=by obtain⟨c,hc,rfl⟩:=List.mem_map.mp h;rw[List.mem_range]at hc;exact⟨rfl,by show(0:Int)≤(c:Nat);lia,by show((c:Nat):Int) < C;lia⟩
theorem mem_allPl{n C:Nat}{p:Pl}:p∈allPl n C↔0≤p.1∧p.1 < n∧0≤p.2∧p.2 < C:=by
 constructor
 ·intro h;obtain⟨r,hr,h⟩:=List.mem_flatMap.mp h;rw[List.mem_range]at hr;obtain⟨h1,h2,h3⟩:=mem_rowPl h;exact⟨by lia,by lia,h2,h3⟩
 ·rintro⟨h1,h2,h3,h4⟩;refine List.mem_flatMap.mpr ⟨p.1.toNat,List.mem_range.mpr (by lia),List.mem_map.mpr ⟨p.2.toNat,List.mem_range.mpr (by lia),?_⟩⟩;apply Prod.ext
  ·show((p.1.toNat:Nat):Int)=p.1;lia
  ·show((p.2.toNat:Nat):Int)=p.2;lia
theorem take_snoc{α:Type}{xs:List α}{i:Nat}{x:α}(h:xs[i]?=some x):xs.take (i+1)=xs.take i++[x]:=by rw[List.take_add_one,h];rfl
theorem places_len{rows:Rows}{C:Nat}(H:Hall rows C)(g:G):(places rows C g).length≤10000:=by have h1:=List.length_filter_le (fitsB rows g) (allPl rows.length C);rw[allPl_len]at h1;have:rows.length*C≤100*100:=Nat.mul_le_mul H.r2 H.c2;unfold places;lia
end KG
end
set_option maxRecDepth 4000
namespace KG
open Z
end KG
set_option maxRecDepth 8000
namespace KG
open Z
abbrev GP:=G×Pl
abbrev GO:=G×Option Pl
def encO:Option Pl->D
 | none=>.non
 | some p=>aN p
@[simp] theorem encO_some(p:Pl):encO (some p)=aN p:=rfl
@[simp] theorem encO_none:encO none=.non:=rfl
def encX(x:GP):D:=.tup [encG x.1,aN x.2]
def encY(x:GO):D:=.tup [encG x.1,encO x.2]
theorem zip_Y:∀(xs:List GO),zipD (xs.map λ x=>encG x.1) (xs.map λ x=>encO x.2)=xs.map encY
 | []=>rfl
 | x :: xs=>by simp[zipD,zip_Y xs];rfl
@[simp] theorem notN_O(o:Option Pl):oNotN (encO o)=.ok (.bl o.isSome):=by cases o<;>rfl
@[simp] theorem isN_O(o:Option Pl):oIsN (encO o)=.ok (.bl o.isNone):=by cases o<;>rfl
@[simp] theorem gX(x:GP)(i j:Nat)(ρ:Env):gTup [i,j] (encX x) ρ=.ok ((ρ.set i (v (encG x.1))).set j (v (aN x.2))):=rfl
@[simp] theorem gY(x:GO)(i j:Nat)(ρ:Env):gTup [i,j] (encY x) ρ=.ok ((ρ.set i (v (encG x.1))).set j (v (encO x.2))):=rfl
theorem f_true{α:Type}(xs:List α):xs.filter (λ _=>true)=xs:=List.filter_eq_self.mpr λ _ _=>rfl
def sit:List GO->List GP
 | []=>[]
 | (g,some p) :: xs=>(g,p) :: sit xs
 | (_,none) :: xs=>sit xs
theorem sit_enc:∀(xs:List GO),(xs.filter λ x=>x.2.isSome).map encY=(sit xs).map encX
 | []=>rfl
 | (g,some p) :: xs=>by rw[List.filter_cons_of_pos (by rfl)];simp only[List.map_cons,sit,sit_enc xs];rfl
 | (g,none) :: xs=>by rw[List.filter_cons_of_neg (by simp)];simp only[sit,sit_enc xs]
theorem sit_len:∀(xs:List GO),(sit xs).length≤xs.length
 | []=>Nat.le_refl _
 | (g,some p) :: xs=>by have:=sit_len xs;simp only[sit,List.length_cons];lia
 | (g,none) :: xs=>by have:=sit_len xs;simp only[sit,List.length_cons];lia
theorem mem_sit:∀{xs:List GO}{y:GP},y∈sit xs↔(y.1,some y.2)∈xs
 | [],y=>by simp[sit]
 | (g,some p) :: xs,y=>by
  simp only[sit,List.mem_cons,mem_sit (xs:=xs),Prod.mk.injEq,Option.some.injEq];constructor
  ·rintro(rfl | h)
   ·exact .inl ⟨rfl,rfl⟩
   ·exact .inr h
  ·rintro(⟨h1,h2⟩ | h)
   ·left;rw[<-h1,<-h2]
   ·exact .inr h
 | (g,none) :: xs,y=>by simp only[sit,List.mem_cons,mem_sit (xs:=xs),Prod.mk.injEq,reduceCtorEq,and_false,false_or]
theorem those_ok{xs:List GO}(h:xs.length≤16777216):fn_those_that_sit [.tup (xs.map λ x=>encG x.1),.tup (xs.map λ x=>encO x.2)]=.ok (.lst ((sit xs).map encX)):=by
 rw[fe_those_that_sit];refine ret_ok ?_;simp[b_those_that_sit,lComp_a,line,capt_a,capt1_a,zip_Y,h];refine comp_enc encY (λ x=>x.2.isSome) encY ?_ ?_
 ·intro x hx;simp;exact λ _=>⟨by decide,rfl⟩
 ·rw[sit_enc]
theorem oAll_map{α:Type}(f:α->Bool)(xs:List α):oAll (.lst (xs.map λ x=>D.bl (f x)))=.ok (.bl (xs.all f)):=by simp only[oAll,all_map]
theorem afa_ok(g:G)(p:Pl){xs:List GP}(h:xs.length≤16777216):fn_apart_from_all [encG g,aN p,.lst (xs.map encX)]=.ok (.bl (xs.all λ x=>apartB g p x.1 x.2)):=by
 rw[fe_apart_from_all];refine ret_ok ?_;simp[b_apart_from_all,lComp_a,line,capt_a,capt1_a,h];refine comp_enc encX (λ _=>true) (λ x=>.bl (apartB g p x.1 x.2)) ?_ ?_
 ·intro x hx;simp[apart_ok]
 ·rw[f_true,oAll_map];simp
theorem cut_take{α:Type}(xs:List α){k:Nat}(h:k≤xs.length):cut xs none (some (k:Int))=xs.take k:=by
 have:¬(k:Int) < 0:=by lia
 simp[cut,sIx,this]
def keepK(ss:List GP)(k:Nat):Bool:=match ss[k]? with
 | some x=>(ss.take k).all λ y=>apartB x.1 x.2 y.1 y.2
 | none=>true
def keepsB(rows:Rows)(ss:List GP):Bool:=(ss.all λ x=>fitsB rows x.1 x.2)&&(List.range ss.length).all (keepK ss)
theorem keeps_ok{rows : Rows}{C : Nat}(H : Hall rows C){xs : List GO}(h6 : xs.length ≤ 6)(hg : ∀x ∈ xs, GOk x.1): fn_keeps [encH rows, .tup (xs.map λ x => encG x.1), .tup (xs.map λ x => encO x.2)] = .ok (.bl (keepsB rows (sit xs))) := by
 rw[fe_keeps];refine ret_ok ?_;have hl0:=sit_len xs;have hl:(sit xs).length≤16777216:=by lia
 have hlx:xs.length≤16777216:=by lia
 have hk:∀x∈sit xs,GOk x.1:=λ x hx=>hg _ (mem_sit.mp hx);generalize hss:sit xs=ss at hl0 hl hk;simp[b_keeps,lComp_a,line,capt_a,capt1_a,those_ok hlx,hss,hl];refine comp_enc encX (λ _=>true) (λ x=>.bl (fitsB rows x.1 x.2)) ?_ ?_
 ·intro x hx;simp[fits_ok H (hk x hx)]
 ·rw [f_true,oAll_map];cases e:(ss.all λ x=>fitsB rows x.1 x.2)with
  | false=>simp[keepsB,e]
  | true =>
   simp[hl];refine Z.comp_map (λ d=>match d with | .int c=>.bl (keepK ss c.toNat) | d=>d) ?_ ?_
   ·intro d hd;obtain⟨j,hj⟩:=List.getElem?_of_mem hd;obtain⟨hj',rfl⟩:=ints_get hj;obtain⟨x,ex⟩:∃x,ss[j]?=some x:=⟨_,List.getElem?_eq_getElem hj'⟩
    have i1:=(ix_at (xs:=ss.map encX) (i:=j) (j:=j) (d:=encX x) rfl (by rw[List.getElem?_map,ex];rfl)).2;have i2:oIx (encX x) (.int 0)=.ok (encG x.1):=rfl;have i3:oIx (encX x) (.int 1)=.ok (aN x.2):=rfl;have ct:=cut_take (ss.map encX) (k:=j) (by rw[List.length_map];lia);have af:=afa_ok x.1 x.2 (xs:=ss.take j) (by rw[List.length_take];lia);rw[List.map_take]at af;rw[Int.zero_add];simp[i1,i2,i3,lSl_k,ct,af,keepK,ex]
   ·have:(zints 0 ss.length).map (λ d=>match d with | .int c=>.bl (keepK ss c.toNat) | d=>d)=(List.range ss.length).map λ j=>D.bl (keepK ss j):=by rw[ints_map,List.map_map];refine List.map_congr_left λ j _=>?_;simp
    rw[this,oAll_map];simp[keepsB,e]
theorem keepsB_iff{rows:Rows}{ss:List GP}:keepsB rows ss=true↔(∀x∈ss,fitsB rows x.1 x.2=true)∧ss.Pairwise λ a b=>apartB b.1 b.2 a.1 a.2=true:=by
 unfold keepsB;rw[Bool.and_eq_true,List.all_eq_true,List.all_eq_true,List.pairwise_iff_getElem];refine and_congr_right λ _=>?_;constructor
 ·intro h i j hi hj hij;have:=h j (List.mem_range.mpr hj);rw[keepK,List.getElem?_eq_getElem hj]at this;rw[List.all_eq_true]at this;exact this ss[i] (List.mem_iff_getElem.mpr ⟨i,by rw[List.length_take];lia,by rw[List.getElem_take]⟩)
 ·intro h k hk;rw[List.mem_range]at hk;rw[keepK,List.getElem?_eq_getElem hk];rw[List.all_eq_true];intro y hy;obtain⟨i,hi,rfl⟩:=List.mem_iff_getElem.mp hy;rw[List.length_take]at hi;rw[List.getElem_take];exact h i k (by lia) hk (by lia)
end KG
namespace KG
open Z
theorem apart_sym(g:G)(p:Pl)(h:G)(q:Pl):apartB g p h q=apartB h q g p:=by unfold apartB;rw[decide_eq_decide,Int.max_comm (h.gap:Int)];lia
theorem sit_pair{R:GP->GP->Prop}:∀{xs:List GO},(sit xs).Pairwise R↔xs.Pairwise λ a b=>∀p q,a.2=some p->b.2=some q->R (a.1,p) (b.1,q)
 | []=>by simp[sit]
 | (g,some p) :: xs=>by
  simp only[sit,List.pairwise_cons,sit_pair (xs:=xs)];refine and_congr_left λ _=>?_;constructor
  ·intro h b hb p' q hp hq;cases hp;exact h (b.1,q) (mem_sit.mpr (by simp only[<-hq];exact hb))
  ·intro h y hy;exact h _ (mem_sit.mp hy) p y.2 rfl rfl
 | (g,none) :: xs=>by simp only[sit,List.pairwise_cons,sit_pair (xs:=xs)];exact⟨λ h=>⟨λ b hb p q hp=>(by cases hp),h⟩,λ h=>h.2⟩
end KG
set_option maxRecDepth 4000
noncomputable section
namespace KH
open Z KG
def b_with_place:SF:=(sRet (eB oAdd (eB oAdd (eSl (eW 0) pNo (pAt (eW 1))) (eTup (ae (eV 2) ay))) (eSl (eW 0) (pAt (eB oAdd (eW 1) (eC (.int 1)))) pNo)))
def fn_with_place:List D->Res D:=fn 3 3 b_with_place
theorem fe_with_place(x0 x1 x2:D):fn_with_place [x0,x1,x2]=retK (b_with_place [some (.val x0),some (.val x1),some (.val x2)]):=fn_a _ _ _ _ rfl
def b_open_among:SF:=(sRet (eU oTuple (eL (lComp (iSeq (eW 0)) 1 [1,2] (gName 0) (tE (az KG.fn_apart_from_all (ae (eV 1) (ae (eV 0) (ae (eV 2) ay))))) (eV 0)))))
def fn_open_among:List D->Res D:=fn 3 3 b_open_among
def b_law_digits:SF:=(aI (sOwn 2 (lDisp ay)) (aI (sFor (iSeq (eV 1)) (gName 3) (aI (sAppend 2 (eB oMod (eW 0) (eW 3))) (sSet 0 (eB oDiv (eW 0) (eW 3))))) (sFrz 2 (sRet (eV 2)))))
def fn_law_digits:List D->Res D:=fn 2 4 b_law_digits
theorem fe_law_digits(x0 x1:D):fn_law_digits [x0,x1]=retK (b_law_digits [some (.val x0),some (.val x1),none,none]):=fn_a _ _ _ _ rfl
def b_law_hall:SF:=(aI (sSet 1 (az KG.aL (ae (eV 0) (ae (eC (.int 0)) ay)))) (aI (sSet 2 (eB oAdd (eC (.int 1)) (eB oMod (eB oDiv (eW 1) (eC (.int 2))) (eC (.int 6))))) (aI (sSet 3 (eB oAdd (eC (.int 1)) (eB oMod (eB oDiv (eW 1) (eC (.int 12))) (eC (.int 12))))) (aI (sSet 4 (eB oIx (eC (.str letters)) (eB oMod (eB oDiv (eW 1) (eC (.int 144))) (eC (.int 26))))) (aI (sSet 5 (eB oIx (eC (.str letters)) (eB oMod (eB oAdd (eB oAdd (eB oDiv (eW 1) (eC (.int 144))) (eC (.int 1))) (eB oMod (eB oDiv (eW 1) (eC (.int 3744))) (eC (.int 25)))) (eC (.int 26))))) (aI (sSet 6 (eB oIx (eL (lDisp (ae (eC (.str [46,46,46,46,46,46,46,61])) (ae (eB oAdd (eB oAdd (eC (.str [46,46])) (eC (.str [46,46,46,61,35]))) (eW 4)) (ae (eB oAdd (eB oAdd (eB oAdd (eC (.str [46,46,46])) (eC (.str [61,61,35]))) (eW 4)) (eW 5)) ay))))) (eB oMod (eB oDiv (eW 1) (eC (.int 93600))) (eC (.int 3))))) (aI (sIf (tE (eB oEq (eB oMod (eW 1) (eC (.int 2))) (eC (.int 1)))) (aI (sSet 6 (eC (.str signs))) (sSet 7 (az fn_law_digits (ae (az KG.aL (ae (eV 0) (ae (eC (.int 1)) ay))) (ae (eL (lRep (lDisp (ae (eC (.int 29)) ay)) (eB oMul (eW 2) (eW 3)))) ay))))) (aI (sSet 2 (eB oIx (eL (lDisp (ae (eC (.int 1)) (ae (eC (.int 2)) (ae (eC (.int 3)) (ae (eC (.int 4)) (ae (eC (.int 2)) (ae (eC (.int 3)) ay)))))))) (eB oSub (eW 2) (eC (.int 1))))) (aI (sSet 3 (eB oIx (eL (lDisp (ae (eC (.int 1)) (ae (eC (.int 2)) (ae (eC (.int 3)) (ae (eC (.int 4)) (ae (eC (.int 5)) (ae (eC (.int 6)) (ae (eC (.int 8)) (ae (eC (.int 3)) (ae (eC (.int 4)) (ae (eC (.int 5)) (ae (eC (.int 6)) (ae (eC (.int 12)) ay)))))))))))))) (eB oSub (eW 3) (eC (.int 1))))) (sSet 7 (eL (lComp (iRng1 (eB oMul (eW 2) (eW 3))) 1 [0] (gName 0) tTrue (eB oMod (eB oDiv (az KG.fn_law_mixed (ae (az KG.aL (ae (eV 1) (ae (eC (.int 1)) ay))) (ae (eV 0) ay))) (eC (.int 5))) (eC (.int 8))))))))) (aI (sOwn 8 (lDisp ay)) (aI (sFor (iRng1 (eV 2)) (gName 9) (sAppend 8 (eB oJoin (eC (.str [])) (eL (lComp (iSeq (eL (lSl (eW 7) (pAt (eB oMul (eW 9) (eW 3))) (pAt (eB oMul (eB oAdd (eW 9) (eC (.int 1))) (eW 3)))))) 1 [6] (gName 0) tTrue (eB oIx (eW 1) (eW 0))))))) (sRet (eTup (ae (eU oTuple (eW 8)) (ae (eV 4) (ae (eV 5) ay))))))))))))))
def fn_law_hall:List D->Res D:=fn 1 10 b_law_hall
theorem fe_law_hall(x0:D):fn_law_hall [x0]=retK (b_law_hall [some (.val x0),none,none,none,none,none,none,none,none,none]):=fn_a _ _ _ _ rfl
def b_law_name:SF:=(aI (sSet 2 (eC (.str letters))) (aI (sSet 3 (eB oAdd (eC (.int 1)) (eB oMod (eW 0) (eC (.int 8))))) (aI (sSet 4 (eB oMod (eB oDiv (eW 0) (eC (.int 8))) (eW 3))) (aI (sSet 5 (eC (.str []))) (aI (sFor (iRng1 (eV 3)) (gName 6) (aI (sSet 7 (eB oAdd (eB oDiv (eB oDiv (eW 0) (eC (.int 64))) (eB oAdd (eW 6) (eC (.int 1)))) (eB oMul (eW 6) (eW 6)))) (aI (sIf (tE (eB oEq (eW 6) (eW 4))) (sSet 7 (eB oAdd (eW 7) (eW 1))) sNext) (sSet 5 (eB oAdd (eW 5) (eB oIx (eW 2) (eB oMod (eW 7) (eC (.int 26))))))))) (sRet (eV 5)))))))
def fn_law_name:List D->Res D:=fn 2 8 b_law_name
theorem fe_law_name(x0 x1:D):fn_law_name [x0,x1]=retK (b_law_name [some (.val x0),some (.val x1),none,none,none,none,none,none]):=fn_a _ _ _ _ rfl
def b_law_any:SF:=(aI (sSet 2 (eL (lDisp (ae (eC (.str [])) (ae (eC (.str [97])) (ae (eC (.str [98])) (ae (eC (.str [99])) (ae (eC (.str [100])) (ae (eC (.str [101])) (ae (eC (.str [102])) (ae (eC (.str [103])) (ae (eC (.str [104])) (ae (eC (.str [105])) (ae (eC (.str [106])) (ae (eC (.str [107])) (ae (eC (.str [108])) (ae (eC (.str [109])) (ae (eC (.str [110])) (ae (eC (.str [111])) (ae (eC (.str [112])) (ae (eC (.str [113])) (ae (eC (.str [114])) (ae (eC (.str [115])) ay))))))))))))))))))))))) (aI (sSet 2 (eL (lCat (eW 2) (eL (lDisp (ae (eC (.str [116])) (ae (eC (.str [117])) (ae (eC (.str [118])) (ae (eC (.str [119])) (ae (eC (.str [120])) (ae (eC (.str [121])) (ae (eC (.str [122])) ay)))))))))))) (aI (sGet (az fn_law_digits (ae (eV 0) (ae (eL (lDisp (ae (eC (.int 12)) (ae (eC (.int 3)) (ae (eC (.int 27)) (ae (eC (.int 7)) (ae (eC (.int 2)) (ae (eC (.int 64)) ay)))))))) ay))) (gSeq [3,4,5,6,7,8])) (aI (sSet 9 (eB oDiv (eW 0) (eC (.int 870912)))) (aI (sSet 10 (eB oMod (eW 9) (eB oAdd (eB oMul (eB oAdd (eW 3) (eC (.int 1))) (eB oAdd (eW 4) (eC (.int 1)))) (eC (.int 1))))) (aI (sSet 11 (eB oIx (eL (lDisp (ae (eL (lDisp (ae (eC (.int 4)) (ae (eC (.int 3)) (ae (eC (.int 3)) (ae (eC (.int 3)) (ae (eC (.int 3)) (ae (eC (.int 3)) (ae (eC (.int 3)) ay))))))))) (ae (eL (lCat (eL (lDisp (ae (eB oPow (eC (.int 10)) (eC (.int 60))) ay))) (eL (lRep (lDisp (ae (eB oSub (eB oPow (eC (.int 10)) (eC (.int 60))) (eC (.int 1))) ay)) (eC (.int 6)))))) ay)))) (eW 7))) (aI (sSet 12 (az fn_law_digits (ae (eB oDiv (eW 9) (eB oAdd (eB oMul (eB oAdd (eW 3) (eC (.int 1))) (eB oAdd (eW 4) (eC (.int 1)))) (eC (.int 1)))) (ae (eV 11) ay)))) (aI (sSet 13 (eL (lComp (iRng1 (eC (.int 6))) 1 [8,12] (gName 0) (tE (eB oEq (eB oMod (eB oDiv (eW 1) (eB oIx (eL (lDisp (ae (eC (.int 1)) (ae (eC (.int 2)) (ae (eC (.int 4)) (ae (eC (.int 8)) (ae (eC (.int 16)) (ae (eC (.int 32)) ay)))))))) (eW 0))) (eC (.int 2))) (eC (.int 1)))) (eTup (ae (eV 0) (ae (eB oAdd (eC (.int 1)) (eB oIx (eW 2) (eB oAdd (eC (.int 1)) (eW 0)))) ay)))))) (sRet (eTup (ae (eV 1) (ae (eB oAdd (eW 3) (eC (.int 1))) (ae (eB oAdd (eW 4) (eC (.int 1))) (ae (eB oIx (eW 2) (eW 5)) (ae (eV 10) (ae (eV 6) (ae (eB oIx (eW 12) (eC (.int 0))) (ae (eU oTuple (eW 13)) ay))))))))))))))))))
def fn_law_any:List D->Res D:=fn 2 14 b_law_any
theorem fe_law_any(x0 x1:D):fn_law_any [x0,x1]=retK (b_law_any [some (.val x0),some (.val x1),none,none,none,none,none,none,none,none,none,none,none,none]):=fn_a _ _ _ _ rfl
def b_law_group:SF:=(aI (sSet 4 (eB oAdd (eC (.int 1)) (eB oMod (eW 0) (eC (.int 3))))) (aI (sSet 5 (eB oIx (eL (lDisp (ae (eC (.int 1)) (ae (eC (.int 1)) (ae (eC (.int 1)) (ae (eC (.int 2)) ay)))))) (eB oMod (eB oDiv (eW 0) (eC (.int 3))) (eC (.int 4))))) (aI (sSet 6 (eB oIx (eL (lDisp (ae (eC (.str [])) (ae (eC (.str [])) (ae (eB oIx (eW 2) (eC (.int 0))) (ae (eB oIx (eW 2) (eC (.int 1))) ay)))))) (eB oMod (eB oDiv (eW 0) (eC (.int 12))) (eC (.int 4))))) (aI (sSet 7 (eB oIx (eL (lDisp (ae (eC (.int 0)) (ae (eC (.int 0)) (ae (eC (.int 0)) (ae (eC (.int 1)) ay)))))) (eB oMod (eB oDiv (eW 0) (eC (.int 48))) (eC (.int 4))))) (aI (sSet 8 (eB oMod (eB oDiv (eW 0) (eC (.int 768))) (eC (.int 4)))) (aI (sSet 9 (eB oAdd (eC (.int 1)) (eB oMod (eB oDiv (eW 0) (eC (.int 3072))) (eC (.int 3))))) (aI (sIf (tE (eV 3)) (aI (sSet 8 (eB oMod (eB oDiv (eW 0) (eC (.int 768))) (eB oPow (eC (.int 10)) (eC (.int 40))))) (sSet 9 (eB oAdd (eC (.int 1)) (eB oMod (eB oDiv (eW 0) (eC (.int 3072))) (eB oPow (eC (.int 10)) (eC (.int 39))))))) sNext) (aI (sOwn 10 (lDisp ay)) (aI (sFor (iRng1 (eC (.int 4))) (gName 11) (sIf (tE (eB oEq (eB oMod (eB oDiv (eW 0) (eB oIx (eL (lDisp (ae (eC (.int 9216)) (ae (eC (.int 27648)) (ae (eC (.int 82944)) (ae (eC (.int 248832)) ay)))))) (eW 11))) (eC (.int 3))) (eC (.int 1)))) (sAppend 10 (eTup (ae (eV 11) (ae (eB oAdd (eW 9) (eB oMul (eW 11) (eU oInt (eW 3)))) ay)))) sNext)) (sRet (eTup (ae (eV 1) (ae (eV 4) (ae (eV 5) (ae (eV 6) (ae (eV 7) (ae (eB oIx (eL (lDisp (ae (eC (.int 0)) (ae (eC (.int 0)) (ae (eC (.int 1)) (ae (eC (.int 2)) ay)))))) (eB oMod (eB oDiv (eW 0) (eC (.int 192))) (eC (.int 4)))) (ae (eV 8) (ae (eU oTuple (eW 10)) ay)))))))))))))))))))
def fn_law_group:List D->Res D:=fn 4 12 b_law_group
theorem fe_law_group(x0 x1 x2 x3:D):fn_law_group [x0,x1,x2,x3]=retK (b_law_group [some (.val x0),some (.val x1),some (.val x2),some (.val x3),none,none,none,none,none,none,none,none]):=fn_a _ _ _ _ rfl
def b_law_groups:SF:=(aI (sGet (az fn_law_digits (ae (az KG.aL (ae (eV 0) (ae (eC (.int 2)) ay))) (ae (eL (lDisp (ae (eC (.int 4)) (ae (eC (.int 7)) (ae (eC (.int 4)) (ae (eC (.int 4)) ay)))))) ay))) (gSeq [3,4,5,6])) (aI (sOwn 7 (lDisp ay)) (aI (sFor (iRng1 (eV 4)) (gName 8) (aI (sSet 9 (az fn_law_name (ae (az KG.aL (ae (eV 0) (ae (eC (.int 3)) ay))) (ae (eV 8) ay)))) (aI (sSet 10 (az KG.aL (ae (eV 0) (ae (eB oAdd (eC (.int 4)) (eW 8)) ay)))) (aI (sIf (tE (eB oGe (eB oAdd (eC (.int 4)) (eW 8)) (eU oLen (eW 0)))) (sSet 10 (eB oMul (az KG.fn_law_mixed (ae (az KG.aL (ae (eV 0) (ae (eC (.int 2)) ay))) (ae (eV 8) ay))) (az KG.fn_law_mixed (ae (az KG.aL (ae (eV 0) (ae (eC (.int 3)) ay))) (ae (eV 8) ay))))) sNext) (sIf (tAnd (tE (eB oEq (eW 6) (eC (.int 1)))) (tAnd (tE (eB oGt (eW 8) (eC (.int 0)))) (tE (eB oGt (eB oMod (eW 10) (eC (.int 3))) (eC (.int 0)))))) (sAppend 7 (eB oAdd (eTup (ae (eV 9) ay)) (eSl (eB oIx (eW 7) (eC (.int 0))) (pAt (eC (.int 1))) pNo))) (sIf (tE (eB oEq (eB oMod (eW 3) (eC (.int 2))) (eC (.int 1)))) (sAppend 7 (az fn_law_any (ae (eV 10) (ae (eV 9) ay)))) (sAppend 7 (az fn_law_group (ae (eB oMod (eW 10) (eB oPow (eC (.int 10)) (eC (.int 50)))) (ae (eV 9) (ae (eB oAdd (eW 1) (eW 2)) (ae (eB oEq (eW 5) (eC (.int 1))) ay)))))))))))) (sRet (eU oTuple (eW 7))))))
def fn_law_groups:List D->Res D:=fn 3 11 b_law_groups
theorem fe_law_groups(x0 x1 x2:D):fn_law_groups [x0,x1,x2]=retK (b_law_groups [some (.val x0),some (.val x1),some (.val x2),none,none,none,none,none,none,none,none]):=fn_a _ _ _ _ rfl
def b_law_fits:SF:=(aI (sIf (tOr (tE (eB oGt (eB oAdd (eW 2) (eB oIx (eW 1) (eC (.int 2)))) (eU oLen (eW 0)))) (tE (eB oGt (eB oAdd (eW 3) (eB oIx (eW 1) (eC (.int 1)))) (eU oLen (eB oIx (eW 0) (eC (.int 0))))))) (sRet (eC (.bl false))) sNext) (aI (sSet 4 (eC (.str []))) (aI (sFor (iRng2 (eV 2) (eB oAdd (eW 2) (eB oIx (eW 1) (eC (.int 2))))) (gName 5) (sSet 4 (eB oAdd (eW 4) (eSl (eB oIx (eW 0) (eW 5)) (pAt (eW 3)) (pAt (eB oAdd (eW 3) (eB oIx (eW 1) (eC (.int 1))))))))) (aI (sIf (tE (eB oNe (eL (lComp (iSeq (eW 4)) 1 [1] (gName 0) (tAnd (tE (eB oNe (eW 0) (eC (.str [46])))) (tAnd (tE (eB oNe (eW 0) (eC (.str [61])))) (tE (eB oNe (eW 0) (eB oIx (eW 1) (eC (.int 3))))))) (eV 0))) (eL (lDisp ay)))) (sRet (eC (.bl false))) sNext) (sRet (eB oGe (eB oCntS (eW 4) (eC (.str [61]))) (eB oIx (eW 1) (eC (.int 4)))))))))
def fn_law_fits:List D->Res D:=fn 4 6 b_law_fits
theorem fe_law_fits(x0 x1 x2 x3:D):fn_law_fits [x0,x1,x2,x3]=retK (b_law_fits [some (.val x0),some (.val x1),some (.val x2),some (.val x3),none,none]):=fn_a _ _ _ _ rfl
def b_law_places:SF:=(aI (sOwn 2 (lDisp ay)) (aI (sFor (iRng1 (eU oLen (eW 0))) (gName 3) (sFor (iRng1 (eU oLen (eB oIx (eW 0) (eC (.int 0))))) (gName 4) (sIf (tE (az fn_law_fits (ae (eV 0) (ae (eV 1) (ae (eV 3) (ae (eV 4) ay)))))) (sAppend 2 (eTup (ae (eV 3) (ae (eV 4) ay)))) sNext))) (sFrz 2 (sRet (eV 2)))))
def fn_law_places:List D->Res D:=fn 2 5 b_law_places
theorem fe_law_places(x0 x1:D):fn_law_places [x0,x1]=retK (b_law_places [some (.val x0),some (.val x1),none,none,none]):=fn_a _ _ _ _ rfl
def b_law_apart:SF:=(aI (sIf (tOr (tE (eB oLe (eB oAdd (eB oIx (eW 1) (eC (.int 0))) (eB oIx (eW 0) (eC (.int 2)))) (eB oIx (eW 3) (eC (.int 0))))) (tE (eB oLe (eB oAdd (eB oIx (eW 3) (eC (.int 0))) (eB oIx (eW 2) (eC (.int 2)))) (eB oIx (eW 1) (eC (.int 0)))))) (sRet (eC (.bl true))) sNext) (aI (sSet 4 (eB oMax (eB oIx (eW 0) (eC (.int 5))) (eB oIx (eW 2) (eC (.int 5))))) (sRet (eOr (eB oLe (eB oAdd (eB oAdd (eB oIx (eW 1) (eC (.int 1))) (eB oIx (eW 0) (eC (.int 1)))) (eW 4)) (eB oIx (eW 3) (eC (.int 1)))) (eB oLe (eB oAdd (eB oAdd (eB oIx (eW 3) (eC (.int 1))) (eB oIx (eW 2) (eC (.int 1)))) (eW 4)) (eB oIx (eW 1) (eC (.int 1))))))))
def fn_law_apart:List D->Res D:=fn 4 5 b_law_apart
theorem fe_law_apart(x0 x1 x2 x3:D):fn_law_apart [x0,x1,x2,x3]=retK (b_law_apart [some (.val x0),some (.val x1),some (.val x2),some (.val x3),none]):=fn_a _ _ _ _ rfl
def b_law_open:SF:=(aI (sOwn 4 (lDisp ay)) (aI (sFor (iSeq (eB oIx (eW 0) (eW 3))) (gName 5) (aI (sSet 6 (eC (.bl true))) (aI (sFor (iRng1 (eU oLen (eW 1))) (gName 7) (aI (sSet 8 (eB oIx (eW 2) (eW 7))) (sIf (tAnd (tE (eB oNe (eW 7) (eW 3))) (tE (eU oNotN (eW 8)))) (sSet 6 (eAnd (eV 6) (az fn_law_apart (ae (eB oIx (eW 1) (eW 3)) (ae (eV 5) (ae (eB oIx (eW 1) (eW 7)) (ae (eV 8) ay))))))) sNext))) (sIf (tE (eV 6)) (sAppend 4 (eV 5)) sNext)))) (sFrz 4 (sRet (eV 4)))))
def fn_law_open:List D->Res D:=fn 4 9 b_law_open
theorem fe_law_open(x0 x1 x2 x3:D):fn_law_open [x0,x1,x2,x3]=retK (b_law_open [some (.val x0),some (.val x1),some (.val x2),some (.val x3),none,none,none,none,none]):=fn_a _ _ _ _ rfl
def b_law_with:SF:=(sRet (eB oAdd (eB oAdd (eSl (eW 0) pNo (pAt (eW 1))) (eTup (ae (eV 2) ay))) (eSl (eW 0) (pAt (eB oAdd (eW 1) (eC (.int 1)))) pNo)))
def fn_law_with:List D->Res D:=fn 3 3 b_law_with
theorem fe_law_with(x0 x1 x2:D):fn_law_with [x0,x1,x2]=retK (b_law_with [some (.val x0),some (.val x1),some (.val x2)]):=fn_a _ _ _ _ rfl
def b_law_seated:SF:=(aI (sSet 3 (eU oTuple (eL (lComp (iSeq (eW 1)) 1 [] (gName 0) tTrue (eC .non))))) (aI (sFor (iRng1 (eU oLen (eW 1))) (gName 4) (aI (sSet 5 (az KG.fn_law_mixed (ae (az KG.aL (ae (eV 2) (ae (eB oAdd (eC (.int 1)) (eW 4)) ay))) (ae (eB oAdd (eC (.int 90)) (eW 4)) ay)))) (aI (sIf (tE (eB oLt (eB oAdd (eC (.int 10)) (eW 4)) (eU oLen (eW 2)))) (sSet 5 (eB oIx (eW 2) (eB oAdd (eC (.int 10)) (eW 4)))) sNext) (aI (sSet 6 (az fn_law_open (ae (eV 0) (ae (eV 1) (ae (eV 3) (ae (eV 4) ay)))))) (sIf (tAnd (tE (eB oNe (eW 6) (eL (lDisp ay)))) (tE (eB oGt (eB oMod (eW 5) (eC (.int 5))) (eC (.int 0))))) (sSet 3 (az fn_law_with (ae (eV 3) (ae (eV 4) (ae (eB oIx (eW 6) (eB oMod (eB oDiv (eW 5) (eC (.int 5))) (eU oLen (eW 6)))) ay))))) sNext))))) (sRet (eV 3))))
def fn_law_seated:List D->Res D:=fn 3 7 b_law_seated
theorem fe_law_seated(x0 x1 x2:D):fn_law_seated [x0,x1,x2]=retK (b_law_seated [some (.val x0),some (.val x1),some (.val x2),none,none,none,none]):=fn_a _ _ _ _ rfl
def b_law_fast:SF:=(sRet (eU oTuple (eL (lComp (iRng1 (eU oLen (eW 0))) 1 [1,0] (gName 0) tTrue (eIf (tE (eB oEq (eB oMod (eB oDiv (eW 1) (eB oIx (eL (lDisp (ae (eC (.int 1)) (ae (eC (.int 2)) (ae (eC (.int 4)) (ae (eC (.int 8)) (ae (eC (.int 16)) (ae (eC (.int 32)) ay)))))))) (eW 0))) (eC (.int 2))) (eC (.int 1)))) (eB oIx (eW 2) (eW 0)) (eC .non))))))
def fn_law_fast:List D->Res D:=fn 2 2 b_law_fast
theorem fe_law_fast(x0 x1:D):fn_law_fast [x0,x1]=retK (b_law_fast [some (.val x0),some (.val x1)]):=fn_a _ _ _ _ rfl
end KH
end
set_option maxRecDepth 8000
namespace KH
open Z KG
def digs:Int->List Int->List Int
 | _,[]=>[]
 | c,s :: ss=>c % s :: digs (c / s) ss
def aft:Int->List Int->Int
 | c,[]=>c
 | c,s :: ss=>aft (c / s) ss
theorem digs_app:∀(c:Int)(a b:List Int),digs c (a++b)=digs c a++digs (aft c a) b
 | c,[],b=>rfl
 | c,s :: a,b=>by simp[digs,aft,digs_app (c / s) a b]
theorem aft_app:∀(c:Int)(a b:List Int),aft c (a++b)=aft (aft c a) b
 | c,[],b=>rfl
 | c,s :: a,b=>by simp[aft,aft_app (c / s) a b]
theorem digs_len:∀(c:Int)(a:List Int),(digs c a).length=a.length
 | c,[]=>rfl
 | c,s :: a=>by simp[digs,digs_len (c / s) a]
def Szs(ss:List Int):Prop:=ss.length≤100∧∀s∈ss,0 < s∧s≤1000000000000000000000000000000000000000000000000000000000000
theorem digits_ok{ss:List Int}(h:Szs ss)(c:Int):fn_law_digits [.int c,.lst (ss.map .int)]=.ok (.lst ((digs c ss).map .int)):=by
 rw[fe_law_digits];refine ret_ok ?_;simp[b_law_digits,line];refine for_at (λ i ρ=>∃x,ρ=[vi (aft c (ss.take i)),v (.lst (ss.map .int)),ow ((digs c (ss.take i)).map .int),x]) ⟨none,by simp[aft,digs]⟩ ?_ ?_
 ·rintro j d ρ hj ⟨x,rfl⟩;rw[List.getElem?_map]at hj;cases e:ss[j]? with
  | none=>rw[e]at hj;cases hj
  | some s =>
   rw[e]at hj;cases hj;obtain⟨h1,h2⟩:=h.2 s (List.mem_of_getElem? e);have hl:(digs c (ss.take j)).length < 16777216:=by rw[digs_len,List.length_take];have:=h.1;lia
   simp[h1,line,hl,divFits_of h1 (by lia),take_snoc e,digs_app,aft_app,digs,aft]
 ·rintro ρ ⟨x,rfl⟩;simp
theorem digs_lt:∀(c:Int)(ss:List Int)(m:Int),(∀s∈ss,0 < s∧s≤m)->∀x∈digs c ss,0≤x∧x < m
 | c,[],m,_=>by simp[digs]
 | c,s :: ss,m,h=>by
  intro x hx;simp only[digs,List.mem_cons]at hx;rcases hx with rfl | hx
  ·obtain⟨h1,h2⟩:=h s List.mem_cons_self;have:=Int.emod_lt_of_pos c h1;exact⟨Int.emod_nonneg _ (by lia),by lia⟩
  ·exact digs_lt (c / s) ss m (λ t ht=>h t (List.mem_cons_of_mem _ ht)) x hx
theorem cut_len_at{α:Type}(xs:List α){r c:Nat}(h:(r+1)*c≤xs.length):(cut xs (some ((r:Int)*c)) (some (((r:Int)+1)*c))).length=c:=by
 have h1:((r:Int)*c)=((r*c:Nat):Int):=by push_cast;rfl
 have h2:(((r:Int)+1)*c)=(((r+1)*c:Nat):Int):=by push_cast;rfl
 rw[h1,h2];have h3:(r+1)*c=r*c+c:=Nat.succ_mul ..;have n1:¬((r*c:Nat):Int) < 0:=by lia
 have n2:¬(((r+1)*c:Nat):Int) < 0:=by lia
 have a2:min ((r+1)*c) xs.length=(r+1)*c:=Nat.min_eq_left h;have a1:min (r*c) xs.length=r*c:=Nat.min_eq_left (Nat.le_trans (Nat.mul_le_mul_right c (Nat.le_succ r)) h);simp only[cut,sIx,n1,n2,if_false,Int.toNat_natCast,List.length_take,List.length_drop,a1,a2];rw[h3,Nat.add_sub_cancel_left];exact Nat.min_eq_left (Nat.le_sub_of_add_le (by rw[Nat.add_comm,<-h3];exact h))
theorem mem_cut_KH{α:Type}{xs:List α}{l h:Option Int}{x:α}(hx:x∈cut xs l h):x∈xs:=List.mem_of_mem_drop (List.mem_of_mem_take hx)
theorem cut_map{α β:Type}(f:α->β)(xs:List α)(l h:Option Int):cut (xs.map f) l h=(cut xs l h).map f:=by simp[cut,List.map_take,List.map_drop]
theorem rows_ok{sg : List Nat}{nums : List Int}{R C : Nat}(hs : sg.length ≤ 100)(hsg : ∀c ∈ sg, c ∈ signs)(hn : ∀x ∈ nums, 0 ≤ x ∧ x < sg.length)(hl : nums.length = R * C)(hR : R ≤ 6)(hC : C ≤ 12){b : SF}{Q : Fl -> Prop}
  (hb:b=sAppend 8 (eB oJoin (eC (.str [])) (eL (lComp (iSeq (eL (lSl (eW 7) (pAt (eB oMul (eW 9) (eW 3))) (pAt (eB oMul (eB oAdd (eW 9) (eC (.int 1))) (eW 3)))))) 1 [6] (gName 0) tTrue (eB oIx (eW 1) (eW 0))))))
  (x0 x1 x2 x4 x5:Option L) (hQ:∀rows x,RowsOk C R rows->Q (.nx [x0,x1,x2,vi C,x4,x5,vs sg,v (.lst (nums.map .int)),ow (rows.map .str),x])) :
  Ok (forGo (gName 9) b (zints 0 R) [x0,x1,x2,vi C,x4,x5,vs sg,v (.lst (nums.map .int)),ow [],none]) Q:=by
 subst hb;refine for_at (λ i ρ=>∃rows x,RowsOk C i rows∧ρ=[x0,x1,x2,vi C,x4,x5,vs sg,v (.lst (nums.map .int)),ow (rows.map .str),x]) ⟨[],none,RowsOk.nil C,rfl⟩ ?_ ?_
 ·rintro i d ρ hi ⟨rows,x,hrow,rfl⟩;obtain⟨hi',rfl⟩:=ints_get hi;have q1:mulFits (i:Int) (C:Int):=mulFits_l (by lia) (by lia);have q2:mulFits ((i:Int)+1) (C:Int):=mulFits_l (by lia) (by lia);have hle:(i+1)*C≤nums.length:=by rw[hl];exact Nat.mul_le_mul_right C hi'
  have hcl:=cut_len_at nums hle;have hcl':(cut nums (some ((i:Int)*C)) (some (((i:Int)+1)*C))).length≤16777216:=by lia
  have hrl:rows.length < 16777216:=by rw[hrow.1];lia
  simp[lComp_a,lSl_k,q1,q2,line,capt_a,capt1_a,cut_map,hcl'];generalize hns:cut nums (some ((i:Int)*C)) (some (((i:Int)+1)*C))=ns at hcl hcl';have key:∀x:Int,∃q,(0≤x∧x < sg.length)->q∈signs∧oIx (.str sg) (.int x)=.ok (.str [q]):=λ x=>by
   by_cases h:0≤x∧x < sg.length
   ·obtain⟨c,hc,e⟩:=ix_str h.1 h.2 (by simp only[line];lia);exact⟨c,λ _=>⟨hsg c hc,e⟩⟩
   ·exact⟨0,λ h'=>absurd h' h⟩
  have kq:∃q:Int->Nat,∀x:Int,(0≤x∧x < sg.length)->q x∈signs∧oIx (.str sg) (.int x)=.ok (.str [q x]):=⟨λ x=>(key x).choose,λ x=>(key x).choose_spec⟩
  obtain⟨q,hq⟩:=kq;have hin:∀x∈ns,0≤x∧x < sg.length:=λ x hx=>hn x (mem_cut_KH (hns▸hx));refine comp_enc D.int (λ _=>true) (λ x=>.str [q x]) ?_ ?_
  ·intro x hx;simp[(hq x (hin x hx)).2]
  ·rw[f_true];have e1:ns.map (λ x=>D.str [q x])=(ns.map λ x=>[q x]).map D.str:=by rw[List.map_map];rfl
   have e2:(ns.map λ x=>[q x]).flatten=ns.map q:=by
    clear hcl hcl' hns hin e1
    induction ns with
    | nil=>rfl
    | cons a as ih=>simp[ih]
   rw[e1,oJoin_nil (by rw[e2,List.length_map];lia),e2];simp[hrl];refine⟨rows++[ns.map q],hrow.add ⟨by rw[List.length_map];exact hcl,?_⟩,by simp⟩;intro c hc;obtain⟨x,hx,rfl⟩:=List.mem_map.mp hc;exact(hq x (hin x hx)).1
 ·rintro ρ ⟨rows,x,hrow,rfl⟩;rw[ints_len]at hrow;exact hQ rows x hrow
theorem signs_len:signs.length=29:=by decide
theorem szs_rep{n:Nat}(h:n≤100):Szs (List.replicate n 29):=⟨by simpa using h,λ s hs=>by rw[List.eq_of_mem_replicate hs];decide⟩
theorem hall_ok_KH{ns : List Int}(hb : Bd ns): ∃rows C a b, HallG rows C ∧ a ∈ letters ∧ b ∈ letters ∧ fn_law_hall [.lst (ns.map .int)] = .ok (.tup [encH rows, .str [a], .str [b]]) := by
 obtain⟨f,ef,hf⟩:=cell_at hb (k:=0) (by decide);obtain⟨c1,ec1,_⟩:=cell_at hb (k:=1) (by decide);obtain⟨a,ha,ea⟩:=letter_at (f / 144);obtain⟨b,hlb,eb⟩:=letter_at (f / 144+1+f / 3744 % 25);obtain⟨R,hR⟩:=nat_of (z:=1+f / 2 % 6) (by first | exact Int.emod_nonneg _ (by decide) | lia);obtain⟨C,hC⟩:=nat_of (z:=1+f / 12 % 12) (by first | exact Int.emod_nonneg _ (by decide) | lia);have hR1:1≤R∧R≤6:=by lia
 have hC1:1≤C∧C≤12:=by lia
 have hA:a∈signs:=letters_sign ha;have hB:b∈signs:=letters_sign hlb;have key:Ok (retK (b_law_hall [v (.lst (ns.map .int)),none,none,none,none,none,none,none,none,none])) λ d=>∃rows R C,RowsOk C R rows∧1≤R∧R≤6∧1≤C∧C≤12∧d=.tup [encH rows,.str [a],.str [b]]:=by
  refine ret_Ok ?_;simp[b_law_hall,ef,ec1,divFits_of,hR,hC,ea,eb,line];refine ix_all (by first | exact Int.emod_nonneg _ (by decide) | lia) (by first | exact Int.emod_lt_of_pos _ (by decide) | (simp;lia)) ?_;intro d hd;obtain⟨sg,rfl,hl8,hsg⟩:∃sg,d=.str sg∧sg.length=8∧∀c∈sg,c∈signs:=by
   have k46:46∈signs:=by decide
   have k61:61∈signs:=by decide
   have k35:35∈signs:=by decide
   simp at hd;rcases hd with rfl | rfl | rfl
   ·exact⟨_,rfl,rfl,by simp[k46,k61]⟩
   ·exact⟨_,rfl,rfl,by simp[k46,k61,k35,hA]⟩
   ·exact⟨_,rfl,rfl,by simp[k46,k61,k35,hA,hB]⟩
  by_cases hm:f % 2=1
  ·have q1:mulFits (R:Int) (C:Int):=mulFits_l (by lia) (by lia);have hrc:R*C≤100:=Nat.le_trans (Nat.mul_le_mul hR1.2 hC1.2) (by decide);obtain⟨N,hrc2,hN⟩:∃N:Nat,(R:Int)*C=(N:Int)∧N=R*C:=⟨R*C,by push_cast;rfl,rfl⟩
   rw[<-hN]at hrc;have dg:=digits_ok (szs_rep hrc) c1;rw[List.map_replicate]at dg;have hg:N≤16777216:=by lia
   simp[hm,q1,ec1,repK_a,hrc2,hg,dg];refine⟨by lia,?_⟩;refine rows_ok (sg:=signs) (nums:=digs c1 (List.replicate N 29)) (R:=R) (C:=C) (by decide) (λ c hc=>hc) ?_ (by rw[digs_len,List.length_replicate];exact hN) hR1.2 hC1.2 rfl _ _ _ _ _ ?_
   ·intro x hx;have:=digs_lt c1 _ 29 (λ s hs=>by rw[List.eq_of_mem_replicate hs];decide) x hx;rw[signs_len];exact this
   ·intro rows x hrow;simp[line];exact⟨rows,R,C,hrow,hR1.1,hR1.2,hC1.1,hC1.2,rfl⟩
  ·simp[hm];have h6:(R:Int)-1 < 6:=by lia
   refine ix_all (by first | exact Int.emod_nonneg _ (by decide) | lia) (by first | exact Int.emod_lt_of_pos _ (by decide) | (simp;lia)) ?_;intro d hd;obtain⟨R',rfl,hR'⟩:∃R':Nat,d=.int R'∧1≤R'∧R'≤6:=by
    simp at hd;rcases hd with rfl | rfl | rfl | rfl | rfl | rfl
    all_goals first | exact⟨1,rfl,by decide⟩ | exact⟨2,rfl,by decide⟩ | exact⟨3,rfl,by decide⟩ | exact⟨4,rfl,by decide⟩
   simp;refine ix_all (by first | exact Int.emod_nonneg _ (by decide) | lia) (by first | exact Int.emod_lt_of_pos _ (by decide) | (simp;lia)) ?_;intro d hd;obtain⟨C',rfl,hC'⟩:∃C':Nat,d=.int C'∧1≤C'∧C'≤12:=by
    simp at hd;rcases hd with rfl | rfl | rfl | rfl | rfl | rfl | rfl | rfl | rfl | rfl | rfl | rfl
    all_goals first | exact⟨1,rfl,by decide⟩ | exact⟨2,rfl,by decide⟩ | exact⟨3,rfl,by decide⟩ | exact⟨4,rfl,by decide⟩ | exact⟨5,rfl,by decide⟩ | exact⟨6,rfl,by decide⟩ | exact⟨8,rfl,by decide⟩ | exact⟨12,rfl,by decide⟩
   have q1:mulFits (R':Int) (C':Int):=mulFits_l (by lia) (by lia);have hrc:R'*C'≤100:=Nat.le_trans (Nat.mul_le_mul hR'.2 hC'.2) (by decide);obtain⟨N,hrc2,hN⟩:∃N:Nat,(R':Int)*C'=(N:Int)∧N=R'*C':=⟨R'*C',by push_cast;rfl,rfl⟩
   rw[<-hN]at hrc;have hrc3:N≤16777216:=by lia
   simp[q1,lComp_a,capt_a,capt1_a,line,hrc2,hrc3];have kx:∀i:Nat,∃m,i≤1000->KG.fn_law_mixed [.int c1,.int i]=.ok (.int m):=λ i=>by
    by_cases h:i≤1000
    ·obtain⟨m,e,_⟩:=mixed c1 (k:=(i:Int)) (by lia) (by lia);exact⟨m,λ _=>e⟩
    ·exact⟨0,λ h'=>absurd h' h⟩
   have kq:∃m:Nat->Int,∀i:Nat,i≤1000->KG.fn_law_mixed [.int c1,.int i]=.ok (.int (m i)):=⟨λ x=>(kx x).choose,λ x=>(kx x).choose_spec⟩
   obtain⟨m,hm⟩:=kq;refine Z.comp_map (λ d=>match d with | .int c=>.int (m c.toNat / 5 % 8) | d=>d) ?_ ?_
   ·intro d hd;obtain⟨j,hj⟩:=List.getElem?_of_mem hd;obtain⟨hj',rfl⟩:=ints_get hj;rw[Int.zero_add];simp[ec1,hm j (by lia),divFits_of]
   ·have e:(zints 0 N).map (λ d=>match d with | .int c=>D.int (m c.toNat / 5 % 8) | d=>d)=((List.range N).map λ j=>m j / 5 % 8).map D.int:=by rw[ints_map,List.map_map,List.map_map];refine List.map_congr_left λ j _=>?_;simp
    obtain⟨nums,hnums⟩:∃nums,nums=(List.range N).map λ j=>m j / 5 % 8:=⟨_,rfl⟩
    rw[e,<-hnums];refine rows_ok (sg:=sg) (nums:=nums) (R:=R') (C:=C') (by lia) hsg ?_ (by simp[hnums,hN]) hR'.2 hC'.2 rfl _ _ _ _ _ ?_
    ·intro x hx;rw[hnums]at hx;obtain⟨j,_,rfl⟩:=List.mem_map.mp hx;rw[hl8];lia
    ·intro rows x hrow;simp[line];exact⟨rows,R',C',hrow,hR'.1,hR'.2,hC'.1,hC'.2,rfl⟩
 obtain⟨d,e,rows,R',C',hrow,r1,r2,c1',c2',rfl⟩:=key;exact⟨rows,C',a,b,hallG (by rw[hrow.1];exact r1) (by rw[hrow.1];exact r2) c1' c2' hrow.2,ha,hlb,by rw[fe_law_hall];exact e⟩
end KH
namespace KH
open Z KG
@[simp] theorem p10_40:oPow (.int 10) (.int 40)=.ok (.int 10000000000000000000000000000000000000000):=oPow_nat 10 40 (by decide) (by decide)
@[simp] theorem p10_39:oPow (.int 10) (.int 39)=.ok (.int 1000000000000000000000000000000000000000):=oPow_nat 10 39 (by decide) (by decide)
theorem name_ok(c : Int){k : Int}(h0 : 0 ≤ k)(h1 : k ≤ 1000): ∃nm, fn_law_name [.int c, .int k] = .ok (.str nm) := by
 obtain⟨S,hS⟩:=nat_of (z:=1+c % 8) (by first | exact Int.emod_nonneg _ (by decide) | lia);rw[fe_law_name];have:Ok (retK (b_law_name [v (.int c),v (.int k),none,none,none,none,none,none])) λ d=>∃nm,d=.str nm:=by
  refine ret_Ok ?_;have s0':0 < S:=by lia
  simp[b_law_name,divFits_of,hS,s0'];refine for_at (λ i ρ=>∃nm x y,nm.length=i∧ρ=[vi c,vi k,vs letters,vi S,vi (c / 8 % S),vs nm,x,y]) ⟨[],none,none,rfl,rfl⟩ ?_ ?_
  ·rintro j d ρ hj ⟨nm,x,y,hn,rfl⟩;obtain⟨hj',rfl⟩:=ints_get hj;have hj8:(j:Int) < 8:=by lia
   have q1:mulFits (j:Int) (j:Int):=mulFits_l (by lia) (by lia);have q4:divFits ((j:Int)+1):=divFits_of (by lia) (by lia);have hl:nm.length+1≤16777216:=by lia
   by_cases he:(j:Int)=c / 8 % S
   ·obtain⟨q,hq,eq⟩:=letter_at (c / 64 / ((j:Int)+1)+(j:Int)*j+k);simp[q1,q4,divFits_of,he.symm,eq,line,hl,hn];lia
   ·obtain⟨q,hq,eq⟩:=letter_at (c / 64 / ((j:Int)+1)+(j:Int)*j);simp[q1,q4,divFits_of,he,eq,line,hl,hn];lia
  ·rintro ρ ⟨nm,x,y,hn,rfl⟩;simp
 obtain⟨d,e,nm,rfl⟩:=this;exact⟨nm,e⟩
def kinds:List D:=[.str [],.str [97],.str [98],.str [99],.str [100],.str [101],.str [102],.str [103],.str [104],.str [105],.str [106],.str [107],.str [108],.str [109],.str [110],.str [111],.str [112],.str [113],.str [114],.str [115],.str [116],.str [117],.str [118],.str [119],.str [120],.str [121],.str [122]]
theorem kinds_ok:∀d∈kinds,∃kd,d=.str kd∧(kd=[]∨∃c∈letters,kd=[c]):=by
 intro d hd;have:kinds=.str [] :: letters.map λ c=>.str [c]:=rfl;rw[this]at hd;rcases List.mem_cons.mp hd with rfl | hd
 ·exact⟨[],rfl,.inl rfl⟩
 ·obtain⟨c,hc,rfl⟩:=List.mem_map.mp hd;exact⟨[c],rfl,.inr ⟨c,hc,rfl⟩⟩
def pw2:Nat->Int
 | 0=>1
 | 1=>2
 | 2=>4
 | 3=>8
 | 4=>16
 | _=>32
theorem mixedB(c:Int){k:Int}(h0:0≤k)(h1:k≤1000):∃m,KG.fn_law_mixed [.int c,.int k]=.ok (.int m)∧0≤m∧m < 2147483587:=by
 have q1:mulFits 7919 k:=mulFits_l (by decide) (by decide);have q2:mulFits (7919*k) k:=mulFits_r (by lia) (by lia);have q3:∀x,mulFits x 48271:=λ x=>mulFits_r (by decide) (by decide);have q4:∀x:Int,mulFits (x % 2147483647) (x % 2147483647):=λ x=>mulFits_l (by lia) (by lia);have q5:∀x,mulFits 69621 x:=λ x=>mulFits_l (by decide) (by decide);have q6:∀x,mulFits x 39373:=λ x=>mulFits_r (by decide) (by decide);have q7:∀x,mulFits 11 x:=λ x=>mulFits_l (by decide) (by decide);rw[fe_law_mixed];have:Ok (retK (b_law_mixed [v (.int c),v (.int k),none])) λ d=>∃m,d=.int m∧0≤m∧m < 2147483587:=by refine ret_Ok ?_;simp[b_law_mixed,q1,q2,q3,q4,q5,q6,q7];lia
 obtain⟨d,e,m,rfl,hm⟩:=this;exact⟨m,e,hm⟩
end KH
namespace KH
open Z KG
theorem renamed{g:G}(h:GrpG g)(nm:List Nat):GrpG { g with name:=nm } :=
 grpG h.w1 h.w12 h.d1 h.d3 h.kl h.wdd h.g6 h.wsh
theorem enc_renamed(g:G)(nm:List Nat):oSl (encG g) (some 1) none=.ok (.tup [.int g.w,.int g.d,.str g.kind,.int g.wide,.int g.gap,g.worth,g.wishes]):=rfl
noncomputable def tailS:SF:=(sIf (tAnd (tE (eB oEq (eW 6) (eC (.int 1)))) (tAnd (tE (eB oGt (eW 8) (eC (.int 0)))) (tE (eB oGt (eB oMod (eW 10) (eC (.int 3))) (eC (.int 0)))))) (sAppend 7 (eB oAdd (eTup (ae (eV 9) ay)) (eSl (eB oIx (eW 7) (eC (.int 0))) (pAt (eC (.int 1))) pNo))) (sIf (tE (eB oEq (eB oMod (eW 3) (eC (.int 2))) (eC (.int 1)))) (sAppend 7 (az fn_law_any (ae (eV 10) (ae (eV 9) ay)))) (sAppend 7 (az fn_law_group (ae (eB oMod (eW 10) (eB oPow (eC (.int 10)) (eC (.int 50)))) (ae (eV 9) (ae (eB oAdd (eW 1) (eW 2)) (ae (eB oEq (eW 5) (eC (.int 1))) ay))))))))
theorem bg_eq:b_law_groups=(aI (sGet (az fn_law_digits (ae (az KG.aL (ae (eV 0) (ae (eC (.int 2)) ay))) (ae (eL (lDisp (ae (eC (.int 4)) (ae (eC (.int 7)) (ae (eC (.int 4)) (ae (eC (.int 4)) ay)))))) ay))) (gSeq [3,4,5,6])) (aI (sOwn 7 (lDisp ay)) (aI (sFor (iRng1 (eV 4)) (gName 8) (aI (sSet 9 (az fn_law_name (ae (az KG.aL (ae (eV 0) (ae (eC (.int 3)) ay))) (ae (eV 8) ay)))) (aI (sSet 10 (az KG.aL (ae (eV 0) (ae (eB oAdd (eC (.int 4)) (eW 8)) ay)))) (aI (sIf (tE (eB oGe (eB oAdd (eC (.int 4)) (eW 8)) (eU oLen (eW 0)))) (sSet 10 (eB oMul (az KG.fn_law_mixed (ae (az KG.aL (ae (eV 0) (ae (eC (.int 2)) ay))) (ae (eV 8) ay))) (az KG.fn_law_mixed (ae (az KG.aL (ae (eV 0) (ae (eC (.int 3)) ay))) (ae (eV 8) ay))))) sNext) tailS)))) (sRet (eU oTuple (eW 7)))))):=rfl
end KH
namespace KH
open Z KG
theorem cut_row(row:List Nat){c w:Nat}(h:c+w≤row.length):cut row (some (c:Int)) (some ((c:Int)+w))=(row.drop c).take w:=by
 have n1:¬(c:Int) < 0:=by lia
 have n2:¬(c:Int)+w < 0:=by lia
 have e:((c:Int)+w).toNat=c+w:=by lia
 simp only[cut,sIx,n1,n2,if_false,Int.toNat_natCast,e];rw[Nat.min_eq_left h,Nat.min_eq_left (by lia:c≤row.length),Nat.add_sub_cancel_left]
theorem row_signs{rows:Rows}{C:Nat}(H:Hall rows C){r c w:Nat}{row:List Nat}(hr:rows[r]?=some row)(h:c+w≤C):((row.drop c).take w).map some=(rowSeats w (r:Int) (c:Int)).map (signAt rows):=by
 have hl:=H.len row (List.mem_of_getElem? hr);apply List.ext_getElem?;intro j;simp only[List.getElem?_map,rowSeats,List.getElem?_take,List.getElem?_drop];by_cases hj:j < w
 ·rw[if_pos hj,List.getElem?_range hj];have hc:c+j < row.length:=by lia
  rw[List.getElem?_eq_getElem hc];simp only[Option.map_some,signAt];have e1:((c:Int)+(j:Int)).toNat=c+j:=by lia
  rw[if_pos ⟨by lia,by lia⟩];simp[hr,e1,hc]
 ·rw[if_neg hj,List.getElem?_eq_none (by simp;lia)];rfl
theorem badB(k : List Nat)(c : Nat): (!(c == 46) && (!(c == 61) && !([c] == k))) = !takesB k (some c) := by
 by_cases h1:c=46
 ·simp[takesB,h1]
 ·by_cases h2:c=61
  ·simp[takesB,h2]
  ·by_cases h3:k=[c]
   ·subst h3;simp[takesB]
   ·have h3':¬[c]=k:=λ h=>h3 h.symm;simp[takesB,h1,h2,h3,h3']
theorem neNil(xs:List D):oNe (.lst xs) (.lst [])=.ok (.bl (!xs.isEmpty)):=by cases xs<;>rfl
theorem law_fits_ok_KH{rows : Rows}{C : Nat}(H : Hall rows C){g : G}(k : GOk g){r c : Nat}(hr : r < rows.length)(hc : c < C): fn_law_fits [encH rows, encG g, .int (r : Nat), .int (c : Nat)] = .ok (.bl (fitsB rows g ((r : Int), (c : Int)))) := by
 rw[fe_law_fits];refine ret_ok ?_;obtain⟨row0,hl0,e0⟩:=H.row0;have hc2:=H.c2;have hln:C≤16777216:=by lia
 have w1:=k.w1;have d1:=k.d1;have w2:=k.w2;have d2:=k.d2;by_cases h1:(rows.length:Int) < (r:Int)+g.d
 ·have hb:fitsB rows g ((r:Int),(c:Int))=false:=by refine fits_false (s:=((r:Int)+((g.d-1:Nat):Int),(c:Int)+((0:Nat):Int))) (mem_seats (p:=((r:Int),(c:Int))) (i:=g.d-1) (j:=0) (by lia) (by lia)) ?_;unfold okS;rw[sign_out H (by simp only;lia)];rfl
  simp[b_law_fits,h1,hb]
 ·by_cases h2:(C:Int) < (c:Int)+g.w
  ·have hb:fitsB rows g ((r:Int),(c:Int))=false:=by refine fits_false (s:=((r:Int)+((0:Nat):Int),(c:Int)+((g.w-1:Nat):Int))) (mem_seats (p:=((r:Int),(c:Int))) (i:=0) (j:=g.w-1) (by lia) (by lia)) ?_;unfold okS;rw[sign_out H (by simp only;lia)];rfl
   simp[b_law_fits,h1,h2,hb,e0,hl0,line,hln]
  ·have hdd:((r:Int)+g.d).toNat-r=g.d:=by lia
   simp[b_law_fits,h1,h2,e0,hl0,line,hln,toNat_sub,hdd];refine for_at (λ i ρ=>∃(sg:List Nat)(x:Option L),sg.map some=(seatsN g.w ((r:Int),(c:Int)) i).map (signAt rows)∧ρ=[v (encH rows),v (encG g),vi (r:Nat),vi (c:Nat),vs sg,x]) ⟨[],none,rfl,rfl⟩ ?_ ?_
   ·rintro i d ρ hi ⟨sg,x,hsg,rfl⟩;obtain⟨hi',rfl⟩:=ints_get hi;obtain⟨row,er,hl,e1⟩:=H.row (r:=r+i) (by lia);have e1':oIx (encH rows) (.int ((r:Int)+(i:Nat)))=.ok (.str row):=by
     have:((r+i:Nat):Int)=(r:Int)+(i:Nat):=by lia
     rw[<-this];exact e1
    have hsl:sg.length=i*g.w:=by have:=congrArg List.length hsg;simpa[seatsN_len]using this
    have hm:i*g.w≤4*13:=Nat.mul_le_mul (by lia) w2;have ec:=cut_row row (c:=c) (w:=g.w) (by lia);have hll:sg.length+((row.drop c).take g.w).length≤16777216:=by rw[List.length_take];lia
    have hrl:row.length≤16777216:=by lia
    simp[e1',line,ec,hrl];have hll':sg.length+min g.w (row.length-c)≤16777216:=by simpa using hll
    refine⟨hll',?_⟩;have rs:=row_signs H er (c:=c) (w:=g.w) (by lia);rw[List.map_take,List.map_drop]at rs;have:((r+i:Nat):Int)=(r:Int)+(i:Nat):=by lia
    rw[this]at rs;rw[hsg,seatsN_succ,List.map_append,rs]
   ·rintro ρ ⟨sg,x,hsg,rfl⟩;rw[ints_len]at hsg;have hsl:sg.length=g.d*g.w:=by have:=congrArg List.length hsg;simpa[seatsN_len]using this
    have hm:g.d*g.w≤4*13:=Nat.mul_le_mul d2 w2;have hsl':sg.length≤16777216:=by lia
    have eall:(seats g ((r:Int),(c:Int))).all (λ s=>takesB g.kind (signAt rows s))=sg.all λ c=>takesB g.kind (some c):=by
     have h1:(seats g ((r:Int),(c:Int))).all (λ s=>takesB g.kind (signAt rows s))=((seats g ((r:Int),(c:Int))).map (signAt rows)).all (takesB g.kind):=by rw[List.all_map];rfl
     rw[h1,show seats g ((r:Int),(c:Int))=seatsN g.w ((r:Int),(c:Int)) g.d from rfl,<-hsg,List.all_map];rfl
    have ecnt:(seats g ((r:Int),(c:Int))).countP (wideB rows)=sg.count 61:=by
     have h1:(seats g ((r:Int),(c:Int))).countP (wideB rows)=((seats g ((r:Int),(c:Int))).map (signAt rows)).countP (λ o=>o==some 61):=by rw[List.countP_map];rfl
     rw[h1,show seats g ((r:Int),(c:Int))=seatsN g.w ((r:Int),(c:Int)) g.d from rfl,<-hsg,List.countP_map,List.count];refine List.countP_congr λ x _=>?_;simp
    simp[lComp_a,line,capt_a,capt1_a,hsl'];refine comp_enc (λ c=>.str [c]) (λ c=>!takesB g.kind (some c)) (λ c=>.str [c]) ?_ ?_
    ·intro x hx;have:=badB g.kind x;cases h46:(x==46)<;>cases h61:(x==61)<;>simp_all -implicitDefEqProofs
    ·rw[neNil];unfold fitsB;rw[eall,ecnt];cases ha:sg.all λ c=>takesB g.kind (some c)with
     | true =>
      have:sg.filter (λ c=>!takesB g.kind (some c))=[]:=by rw[List.filter_eq_nil_iff];intro x hx;rw[List.all_eq_true]at ha;simp[ha x hx]
      rw[this];simp
     | false =>
      have:(sg.filter (λ c=>!takesB g.kind (some c)))≠[]:=by intro h;rw[List.filter_eq_nil_iff]at h;rw[Bool.eq_false_iff]at ha;refine ha (List.all_eq_true.mpr λ x hx=>?_);have:=h x hx;simpa using this
      obtain⟨y,ys,e⟩:=List.exists_cons_of_ne_nil this;rw[e];simp
theorem law_places_ok_KH{rows : Rows}{C : Nat}(H : Hall rows C){g : G}(k : GOk g): fn_law_places [encH rows, encG g] = .ok (.lst ((places rows C g).map aN)) := by
 rw[fe_law_places];refine ret_ok ?_;have hc2:=H.c2;have hr2:=H.r2;obtain⟨row0,hl0,e0⟩:=H.row0;have hln:C≤16777216:=by lia
 simp[b_law_places,line];refine for_at (λ i ρ=>i≤rows.length∧∃x y,ρ=[v (encH rows),v (encG g),ow (((allPl i C).filter (fitsB rows g)).map aN),x,y]) ⟨Nat.zero_le _,none,none,rfl⟩ ?_ ?_
 ·rintro i d ρ hi ⟨_,x,y,rfl⟩;obtain⟨hi',rfl⟩:=ints_get hi;simp[e0,hl0,line,hln];refine for_at (λ j ρ=>j≤C∧∃y,ρ=[v (encH rows),v (encG g),ow (((allPl i C++rowPl i j).filter (fitsB rows g)).map aN),vi (i:Nat),y]) ⟨Nat.zero_le _,y,by simp[rowPl]⟩ ?_ ?_
  ·rintro j d ρ hj ⟨_,y,rfl⟩;obtain⟨hj',rfl⟩:=ints_get hj;have e3:rowPl i (j+1)=rowPl i j++[((i:Int),(j:Int))]:=by simp[rowPl,List.range_succ]
   have h1:=List.length_filter_le (fitsB rows g) (allPl i C++rowPl i j);rw[List.length_append,allPl_len,rowPl_len]at h1;have h3:i*C≤100*100:=Nat.mul_le_mul (by lia) hc2;rw[e3,<-List.append_assoc,List.filter_append (allPl i C++rowPl i j)];generalize (allPl i C++rowPl i j).filter (fitsB rows g)=fs at h1 ⊢;have lf:=law_fits_ok_KH H k hi' hj';cases hf:fitsB rows g ((i:Int),(j:Int))with
   | true =>simp[lf,hf,line];lia
   | false =>simp[lf,hf,line];lia
  ·rintro ρ ⟨_,y,rfl⟩;simp only[ints_len];simp;rw[allPl_succ];exact⟨by lia,by simp⟩
 ·rintro ρ ⟨_,x,y,rfl⟩;simp[places]
theorem law_apart_ok_KH(g:G)(p:Pl)(h:G)(q:Pl):fn_law_apart [encG g,aN p,encG h,aN q]=.ok (.bl (apartB g p h q)):=by
 rw[fe_law_apart];refine ret_ok ?_;by_cases h1:p.1+g.d≤q.1
 ·simp[b_law_apart,apartB,h1]
 ·by_cases h2:q.1+h.d≤p.1
  ·simp[b_law_apart,apartB,h1,h2]
  ·by_cases h3:p.2+g.w+max (g.gap:Int) h.gap≤q.2
   ·simp[b_law_apart,apartB,h1,h2,h3]
   ·simp[b_law_apart,apartB,h1,h2,h3]
def okJ(xs:List GO)(g:G)(k:Nat)(p:Pl)(j:Nat):Bool:=decide (j=k) || match xs[j]? with
 | some (h,some q)=>apartB g p h q
 | _=>true
def openAt(xs:List GO)(g:G)(k:Nat)(p:Pl):Bool:=(List.range xs.length).all (okJ xs g k p)
def openL(rows:Rows)(C:Nat)(xs:List GO)(g:G)(k:Nat):List Pl:=(places rows C g).filter (openAt xs g k)
def encGs(xs:List GO):D:=.tup (xs.map λ x=>encG x.1)
def encOs(xs:List GO):D:=.tup (xs.map λ x=>encO x.2)
def spotsD(rows:Rows)(C:Nat)(xs:List GO):D:=.lst (xs.map λ x=>.lst ((places rows C x.1).map aN))
theorem open_ok{rows : Rows}{C : Nat}(H : Hall rows C){xs : List GO}(h6 : xs.length ≤ 6){k : Nat}{x : GO}(hk : xs[k]? = some x): fn_law_open [spotsD rows C xs, encGs xs, encOs xs, .int (k : Nat)] = .ok (.lst ((openL rows C xs x.1 k).map aN)) := by
 rw[fe_law_open];refine ret_ok ?_;have i1:=(ix_at (xs:=xs.map λ x=>D.lst ((places rows C x.1).map aN)) (i:=(k:Nat)) (j:=k) rfl (by rw[List.getElem?_map,hk];rfl)).2;have i2:=(ix_at (xs:=xs.map λ x=>encG x.1) (i:=(k:Nat)) (j:=k) rfl (by rw[List.getElem?_map,hk];rfl)).1;have hpl:=places_len H x.1;unfold spotsD encGs encOs openL;generalize hS:xs.map (λ x=>D.lst ((places rows C x.1).map aN))=S at i1;simp[b_law_open,line,i1];generalize places rows C x.1=ps at hpl;refine for_at (λ i ρ=>∃x5 x6 x7 x8,ρ=[v (.lst S),v (.tup (xs.map λ x=>encG x.1)),v (.tup (xs.map λ x=>encO x.2)),vi (k:Nat),ow (((ps.take i).filter (openAt xs x.1 k)).map aN),x5,x6,x7,x8]) ⟨none,none,none,none,rfl⟩ ?_ ?_
 ·rintro i d ρ hi ⟨x5,x6,x7,x8,rfl⟩;rw[List.getElem?_map]at hi;cases ep:ps[i]? with
  | none=>rw[ep]at hi;cases hi
  | some p =>
   rw[ep]at hi;cases hi;have hfl:=List.length_filter_le (openAt xs x.1 k) (ps.take i);rw[List.length_take]at hfl;rw[take_snoc ep,List.filter_append];generalize (ps.take i).filter (openAt xs x.1 k)=fs at hfl;have hfl':fs.length < 16777216:=by lia
   simp;refine for_at (λ j ρ=>∃x7 x8,ρ=[v (.lst S),v (.tup (xs.map λ x=>encG x.1)),v (.tup (xs.map λ x=>encO x.2)),vi (k:Nat),ow (fs.map aN),v (aN p),v (.bl ((List.range j).all (okJ xs x.1 k p))),x7,x8]) ⟨x7,x8,by simp⟩ ?_ ?_
   ·rintro j d ρ hj ⟨x7,x8,rfl⟩;obtain⟨hj',rfl⟩:=ints_get hj;obtain⟨y,ey⟩:∃y,xs[j]?=some y:=⟨_,List.getElem?_eq_getElem hj'⟩
    have j1:=(ix_at (xs:=xs.map λ x=>encO x.2) (i:=(j:Nat)) (j:=j) rfl (by rw[List.getElem?_map,ey];rfl)).1;have j2:=(ix_at (xs:=xs.map λ x=>encG x.1) (i:=(j:Nat)) (j:=j) rfl (by rw[List.getElem?_map,ey];rfl)).1;rw[List.range_succ,List.all_append];generalize (List.range j).all (okJ xs x.1 k p)=fr;by_cases hjk:j=k
    ·have e:okJ xs x.1 k p j=true:=by simp[okJ,hjk]
     subst hjk;simp[j1,e]
    ·have hjk':¬(j:Int)=k:=by lia
     obtain⟨h,o⟩:=y;cases o with
     | none =>
      have e:okJ xs x.1 k p j=true:=by simp[okJ,ey]
      simp[j1,hjk',e]
     | some q =>
      have e:okJ xs x.1 k p j=apartB x.1 p h q:=by simp[okJ,ey,hjk]
      have nN:oNotN (aN q)=.ok (.bl true):=rfl;cases fr with
      | true=>simp[j1,j2,hjk',e,i2,law_apart_ok_KH,nN]
      | false=>simp[j1,j2,hjk',e,i2,law_apart_ok_KH,nN]
   ·rintro ρ ⟨x7,x8,rfl⟩;rw[ints_len];have e:openAt xs x.1 k p=(List.range xs.length).all (okJ xs x.1 k p):=rfl;rw[<-e];cases ho:openAt xs x.1 k p with
    | true =>simp[line,hfl',ho]
    | false =>simp[ho]
 ·rintro ρ ⟨x5,x6,x7,x8,rfl⟩;rw[List.length_map,List.take_length];simp
end KH
namespace KH
open Z KG
theorem set_cut{ds:List D}{k:Nat}(h:k < ds.length)(d:D):cut ds none (some (k:Int))++(d :: cut ds (some ((k:Int)+1)) none)=ds.set k d:=by
 have e1:cut ds none (some (k:Int))=ds.take k:=cut_take ds (by lia);have e2:cut ds (some ((k:Int)+1)) none=ds.drop (k+1):=by
  have:¬(k:Int)+1 < 0:=by lia
  have h3:((k:Int)+1).toNat=k+1:=by lia
  have h4:min (k+1) ds.length=k+1:=by lia
  simp[cut,sIx,this,h3,h4];rw[List.take_of_length_le (by simp)]
 rw[e1,e2,List.set_eq_take_append_cons_drop,if_pos h]
theorem with_ok{ds:List D}{k:Nat}(h:k < ds.length)(hl:ds.length≤1000)(d:D):fn_law_with [.tup ds,.int (k:Nat),d]=.ok (.tup (ds.set k d)):=by
 rw[fe_law_with];refine ret_ok ?_;have c1:=cut_len ds none (some (k:Int));have c2:=cut_len ds (some ((k:Int)+1)) none;have g1:(cut ds none (some (k:Int))).length+1≤16777216:=by lia
 have g2:(cut ds none (some (k:Int))).length+1+(cut ds (some ((k:Int)+1)) none).length≤16777216:=by lia
 simp[b_law_with,line,g1,g2,set_cut h]
theorem with_place_ok{ds:List D}{k:Nat}(h:k < ds.length)(hl:ds.length≤1000)(d:D):fn_with_place [.tup ds,.int (k:Nat),d]=.ok (.tup (ds.set k d)):=by
 rw[fe_with_place];refine ret_ok ?_;have c1:=cut_len ds none (some (k:Int));have c2:=cut_len ds (some ((k:Int)+1)) none;have g1:(cut ds none (some (k:Int))).length+1≤16777216:=by lia
 have g2:(cut ds none (some (k:Int))).length+1+(cut ds (some ((k:Int)+1)) none).length≤16777216:=by lia
 simp[b_with_place,line,g1,g2,set_cut h]
theorem encOs_set(xs:List GO)(k:Nat)(g:G)(o:Option Pl):encOs (xs.set k (g,o))=.tup ((xs.map λ x=>encO x.2).set k (encO o)):=by simp[encOs,List.map_set]
theorem encGs_set{xs:List GO}{k:Nat}{x:GO}(h:xs[k]?=some x)(o:Option Pl):encGs (xs.set k (x.1,o))=encGs xs:=by
 have hk:k < xs.length:=(List.getElem?_eq_some_iff.mp h).1;have e:x=xs[k]:=by rw[List.getElem?_eq_getElem hk]at h;exact(Option.some.inj h).symm
 unfold encGs;rw[List.map_set]
 congr 1
 subst e;apply List.ext_getElem (by simp);intro i h1 h2;rw[List.getElem_set];split
 ·rename_i e;subst e;simp
 ·rfl
def Good(rows:Rows)(xs:List GO):Prop:=∀(i:Nat)(g:G)(p:Pl),xs[i]?=some (g,some p)->fitsB rows g p=true∧∀(j:Nat)(h:G)(q:Pl),xs[j]?=some (h,some q)->j≠i->apartB g p h q=true
theorem openAt_iff{xs : List GO}{g : G}{k : Nat}{p : Pl}: openAt xs g k p = true ↔ ∀(j : Nat)(h : G)(q : Pl), xs[j]? = some (h, some q) -> j ≠ k -> apartB g p h q = true := by
 unfold openAt;rw[List.all_eq_true];constructor
 ·intro h j hh q e hj;have hl:j < xs.length:=(List.getElem?_eq_some_iff.mp e).1;have:=h j (List.mem_range.mpr hl);simpa[okJ,e,hj]using this
 ·intro h j hj;unfold okJ;by_cases hk:j=k
  ·simp[hk]
  ·cases e:xs[j]? with
   | none=>simp
   | some y =>
    obtain⟨hh,o⟩:=y;cases o with
    | none=>simp
    | some q=>simp[h j hh q e hk]
theorem Good.put{rows:Rows}{xs:List GO}(h:Good rows xs){k:Nat}{x:GO}(hk:xs[k]?=some x){p:Pl}(hf:fitsB rows x.1 p=true)(ho:openAt xs x.1 k p=true):Good rows (xs.set k (x.1,some p)):=by
 rw[openAt_iff]at ho;have hl:k < xs.length:=(List.getElem?_eq_some_iff.mp hk).1;intro i g q e;rw[List.getElem?_set]at e;by_cases hi:k=i
 ·subst hi;rw[if_pos rfl,if_pos hl]at e;cases e;refine⟨hf,λ j hh r ej hj=>?_⟩;rw[List.getElem?_set,if_neg (λ z=>hj z.symm)]at ej;exact ho j hh r ej hj
 ·rw[if_neg hi]at e;obtain⟨h1,h2⟩:=h i g q e;refine⟨h1,λ j hh r ej hj=>?_⟩;rw[List.getElem?_set]at ej;by_cases hj':k=j
  ·subst hj';rw[if_pos rfl,if_pos hl]at ej;cases ej;rw[apart_sym];exact ho i g q e (λ z=>hi z.symm)
  ·rw[if_neg hj']at ej;exact h2 j hh r ej hj
theorem Good.sub{rows:Rows}{xs ys:List GO}(h:Good rows xs)(hs:∀(i:Nat)(g:G)(p:Pl),ys[i]?=some (g,some p)->xs[i]?=some (g,some p)):Good rows ys:=by intro i g p e;obtain⟨h1,h2⟩:=h i g p (hs i g p e);exact⟨h1,λ j hh q ej hj=>h2 j hh q (hs j hh q ej) hj⟩
theorem Good.keeps{rows:Rows}{xs:List GO}(h:Good rows xs):keepsB rows (sit xs)=true:=by
 rw[keepsB_iff];constructor
 ·intro y hy;obtain⟨i,hi⟩:=List.getElem?_of_mem (mem_sit.mp hy);exact(h i y.1 y.2 hi).1
 ·rw[sit_pair,List.pairwise_iff_getElem];intro i j hi hj hij p q ep eq;have e1:xs[i]?=some (xs[i].1,some p):=by rw[List.getElem?_eq_getElem hi,<-ep]
  have e2:xs[j]?=some (xs[j].1,some q):=by rw[List.getElem?_eq_getElem hj,<-eq]
  exact(h j _ q e2).2 i _ p e1 (by lia)
theorem mem_places_KH{rows:Rows}{C:Nat}{g:G}{p:Pl}(h:p∈places rows C g):fitsB rows g p=true:=(List.mem_filter.mp h).2
noncomputable def seatT:SF:=(sIf (tAnd (tE (eB oNe (eW 6) (eL (lDisp ay)))) (tE (eB oGt (eB oMod (eW 5) (eC (.int 5))) (eC (.int 0))))) (sSet 3 (az fn_law_with (ae (eV 3) (ae (eV 4) (ae (eB oIx (eW 6) (eB oMod (eB oDiv (eW 5) (eC (.int 5))) (eU oLen (eW 6)))) ay))))) sNext)
theorem bs_eq:b_law_seated=(aI (sSet 3 (eU oTuple (eL (lComp (iSeq (eW 1)) 1 [] (gName 0) tTrue (eC .non))))) (aI (sFor (iRng1 (eU oLen (eW 1))) (gName 4) (aI (sSet 5 (az KG.fn_law_mixed (ae (az KG.aL (ae (eV 2) (ae (eB oAdd (eC (.int 1)) (eW 4)) ay))) (ae (eB oAdd (eC (.int 90)) (eW 4)) ay)))) (aI (sIf (tE (eB oLt (eB oAdd (eC (.int 10)) (eW 4)) (eU oLen (eW 2)))) (sSet 5 (eB oIx (eW 2) (eB oAdd (eC (.int 10)) (eW 4)))) sNext) (aI (sSet 6 (az fn_law_open (ae (eV 0) (ae (eV 1) (ae (eV 3) (ae (eV 4) ay)))))) seatT)))) (sRet (eV 3)))):=rfl
theorem seated_ok {rows : Rows} {C : Nat} (H : Hall rows C) {ns : List Int} (hb : Bd ns) {gs : List G} (h6 : gs.length ≤ 6) : ∃ xs : List GO, xs.map (·.1) = gs ∧ Good rows xs ∧ fn_law_seated [.lst (gs.map λ g => .lst ((places rows C g).map aN)), .tup (gs.map encG), .lst (ns.map .int)] = .ok (encOs xs) := by
 rw[fe_law_seated];have hl6:gs.length≤16777216:=by lia
 have : Ok (retK (b_law_seated [v (.lst (gs.map λ g => .lst ((places rows C g).map aN))), v (.tup (gs.map encG)), v (.lst (ns.map .int)), none, none, none, none])) λ d => ∃ xs : List GO, xs.map (·.1) = gs ∧ Good rows xs ∧ d = encOs xs := by
  refine ret_Ok ?_;simp[bs_eq,lComp_a,line,capt_a,capt1_a,hl6];refine comp_enc encG (λ _=>true) (λ _=>.non) (λ x hx=>by simp) ?_;rw[f_true];refine for_at (λ i ρ=>∃(xs:List GO)(x4 x5 x6:Option L),xs.map (·.1)=gs∧Good rows xs∧ρ=[v (.lst (gs.map λ g=>.lst ((places rows C g).map aN))),v (.tup (gs.map encG)),v (.lst (ns.map .int)),v (encOs xs),x4,x5,x6]) ⟨gs.map λ g=>(g,none),none,none,none,(by rw[List.map_map];exact List.map_id gs),?_,?_⟩ ?_ ?_
  ·intro i g p e;rw[List.getElem?_map]at e;cases q:gs[i]?<;>rw[q]at e<;>simp at e
  ·simp[encOs,List.map_map]
  ·rintro k d ρ hk ⟨xs,x4,x5,x6,hxs,hgood,rfl⟩;obtain⟨hk',rfl⟩:=ints_get hk;have hxl:xs.length=gs.length:=by rw[<-hxs,List.length_map]
   obtain⟨x,ex⟩:∃x,xs[k]?=some x:=⟨_,List.getElem?_eq_getElem (by lia)⟩
   obtain⟨c,ec,hc⟩:=cell_at hb (k:=1+(k:Int)) (by lia);obtain⟨m,em,hm⟩:=mixed c (k:=90+(k:Int)) (by lia) (by lia);have eo:=open_ok H (xs:=xs) (by lia) ex;have es:spotsD rows C xs=.lst (gs.map λ g=>.lst ((places rows C g).map aN)):=by rw[spotsD,<-hxs,List.map_map];rfl
   have eg:encGs xs=.tup (gs.map encG):=by rw[encGs,<-hxs,List.map_map];rfl
   rw[es,eg]at eo;have hopl:(openL rows C xs x.1 k).length≤10000:=Nat.le_trans (List.length_filter_le _ _) (places_len H x.1);have hop:∀p∈openL rows C xs x.1 k,fitsB rows x.1 p=true∧openAt xs x.1 k p=true:=λ p hp=>by obtain⟨h1,h2⟩:=List.mem_filter.mp hp;exact⟨mem_places_KH h1,h2⟩
   generalize openL rows C xs x.1 k=op at eo hopl hop;have fin:∀ cl:Int,Ok (seatT [v (.lst (gs.map λ g=>.lst ((places rows C g).map aN))),v (.tup (gs.map encG)),v (.lst (ns.map .int)),v (encOs xs),vi (k:Nat),vi cl,v (.lst (op.map aN))]) λ fl=>∃ ys:List GO,ys.map (·.1)=gs∧Good rows ys∧fl=.nx [v (.lst (gs.map λ g=>.lst ((places rows C g).map aN))),v (.tup (gs.map encG)),v (.lst (ns.map .int)),v (encOs ys),vi (k:Nat),vi cl,v (.lst (op.map aN))]:=by
    intro cl;cases op with
    | nil =>simp[seatT,line,neNil];exact⟨xs,hxs,hgood,rfl⟩
    | cons p0 ps =>
     by_cases h5:0 < cl % 5
     ·obtain⟨z,hz⟩:=nat_of (z:=cl / 5 % ((ps.length:Int)+1)) (Int.emod_nonneg _ (by lia));have hz2:=Int.emod_lt_of_pos (cl / 5) (show(0:Int) < (ps.length:Int)+1 by lia);have hzl:z < (p0 :: ps).length:=by simp;lia
      obtain⟨p,ep⟩:∃p,(p0 :: ps)[z]?=some p:=⟨_,List.getElem?_eq_getElem hzl⟩
      have ip:=(ix_at (xs:=(p0 :: ps).map aN) (i:=(z:Nat)) (j:=z) rfl (by rw[List.getElem?_map,ep];rfl)).2;simp only[List.map_cons]at ip;obtain⟨f1,f2⟩:=hop p (List.mem_of_getElem? ep);have hw:=with_ok (ds:=xs.map λ x=>encO x.2) (k:=k) (by simp;lia) (by simp;lia) (aN p);have hp0:(0:Int) < (ps.length:Int)+1:=by lia
      rw[show D.tup (xs.map λ x=>encO x.2)=encOs xs from rfl]at hw;simp[seatT,line,neNil,h5,divFits_of,hp0,hz,ip,hw];refine⟨xs.set k (x.1,some p),?_,hgood.put ex f1 f2,?_⟩
      ·have:=encGs_set ex (some p);rw[List.map_set,hxs];refine List.ext_getElem (by simp) λ i h1 h2=>?_;rw[List.getElem_set];split
       ·rename_i e;subst e;have:gs[k]?=some x.1:=by rw[<-hxs,List.getElem?_map,ex];rfl
        rw[List.getElem?_eq_getElem hk']at this;exact(Option.some.inj this).symm
       ·rfl
      ·rw[encOs_set];rfl
     ·simp[seatT,line,neNil,h5];exact⟨xs,hxs,hgood,rfl⟩
   by_cases hlt:10+(k:Int) < ns.length
   ·have hj:10+k < ns.length:=by lia
    have e10:=(ix_at (xs:=ns.map D.int) (i:=10+(k:Int)) (j:=10+k) (d:=.int ns[10+k]) (by lia) (by simp[hj])).2;simp[ec,em,hlt,e10,eo];refine(fin _).imp ?_;rintro fl ⟨ys,h1,h2,rfl⟩;simp only[turn_nx];exact⟨ys,h1,h2,_,_,_,rfl⟩
   ·simp[ec,em,hlt,eo];refine(fin _).imp ?_;rintro fl ⟨ys,h1,h2,rfl⟩;simp only[turn_nx];exact⟨ys,h1,h2,_,_,_,rfl⟩
  ·rintro ρ ⟨xs,x4,x5,x6,hxs,hgood,rfl⟩;simp;exact⟨xs,hxs,hgood,rfl⟩
 obtain⟨d,e,xs,h1,h2,rfl⟩:=this;exact⟨xs,h1,h2,e⟩
end KH
namespace KH
open Z KG
structure GrpP(g:G):Prop extends GrpG g where
 pos:∃(wt:Int)(ws:List Pl),ws.length≤6∧0≤wt∧(∀p∈ws,0≤p.2)∧g.worth=.int wt∧g.wishes=.tup (ws.map aN)
theorem renamedP{g:G}(h:GrpP g)(nm:List Nat):GrpP { g with name:=nm }:=⟨renamed h.toGrpG nm,h.pos⟩
theorem pos_snoc{wl:List Pl}{r m:Int}(h:∀p∈wl,0≤p.2)(hm:0≤m):∀a b,(a,b)∈wl++[(r,m)]->0≤b:=by
 intro a b hp;rcases List.mem_append.mp hp with hp | hp
 ·exact h _ hp
 ·rw[List.mem_singleton]at hp;cases hp;exact hm
theorem pos_two{wl:List Pl}(h:∀p∈wl,0≤p.2):∀a b,(a,b)∈wl->0≤b:=λ a b hp=>h _ hp
theorem pos_filt(f:D->Bool)(ws:List Int)(hn:∀x∈ws,0≤x):∀p∈((zints 0 6).filter f).map (λ d=>match d with | .int r=>(r,1+ws[r.toNat+1]?.getD 0) | d=>((0,0):Pl)),0≤p.2:=by
 intro p hp;obtain⟨d,hd,rfl⟩:=List.mem_map.mp hp;cases d with
 | int r =>
  show 0≤1+ws[r.toNat+1]?.getD 0;cases e:ws[r.toNat+1]? with
  | none=>simp
  | some x =>have:=hn x (List.mem_of_getElem? e);show 0≤1+x;lia
 | _=>exact Int.le_refl _
theorem any_okP(c:Int)(nm:List Nat):∃g,GrpP g∧fn_law_any [.int c,.str nm]=.ok (encG g):=by
 have dg:=digits_ok (ss:=[12,3,27,7,2,64]) ⟨by decide,by decide⟩ c;obtain⟨w,hw⟩:=nat_of (z:=c % 12) (by first | exact Int.emod_nonneg _ (by decide) | lia);obtain⟨d,hd⟩:=nat_of (z:=c / 12 % 3) (by first | exact Int.emod_nonneg _ (by decide) | lia);obtain⟨kd,hkd⟩:=nat_of (z:=c / 12 / 3 % 27) (by first | exact Int.emod_nonneg _ (by decide) | lia);obtain⟨gp,hgp⟩:=nat_of (z:=c / 12 / 3 / 27 % 7) (by first | exact Int.emod_nonneg _ (by decide) | lia);obtain⟨gr,hgr⟩:=nat_of (z:=c / 12 / 3 / 27 / 7 % 2) (by first | exact Int.emod_nonneg _ (by decide) | lia);obtain⟨bt,hbt⟩:=nat_of (z:=c / 12 / 3 / 27 / 7 / 2 % 64) (by first | exact Int.emod_nonneg _ (by decide) | lia);have ed:digs c [12,3,27,7,2,64]=[(w:Int),d,kd,gp,gr,bt]:=by simp only[digs,hw,hd,hkd,hgp,hgr,hbt]
 rw[ed]at dg;simp only[List.map_cons,List.map_nil]at dg;obtain⟨M,hM,hM2⟩:∃M:Nat,((w:Int)+1)*((d:Int)+1)=(M:Int)∧M=(w+1)*(d+1):=⟨(w+1)*(d+1),by push_cast;rfl,rfl⟩
 have hM3:M≤36:=by rw[hM2];exact Nat.le_trans (Nat.mul_le_mul (by lia:w+1≤12) (by lia:d+1≤3)) (by decide)
 obtain⟨wd,hwd⟩:=nat_of (z:=c / 870912 % ((M:Int)+1)) (Int.emod_nonneg _ (by lia));have hwd2:wd≤M:=by have:=Int.emod_lt_of_pos (c / 870912) (show(0:Int) < (M:Int)+1 by lia);lia
 have q1:mulFits ((w:Int)+1) ((d:Int)+1):=mulFits_l (by lia) (by lia);have q2:divFits ((M:Int)+1):=divFits_of (by lia) (by lia);have q3:(0:Int) < (M:Int)+1:=by lia
 obtain⟨ss,hss,hs7,ess⟩:∃ss:List Int,Szs ss∧ss.length=7∧oIx (.lst [.lst [.int 4,.int 3,.int 3,.int 3,.int 3,.int 3,.int 3],.lst [.int 1000000000000000000000000000000000000000000000000000000000000,.int 999999999999999999999999999999999999999999999999999999999999,.int 999999999999999999999999999999999999999999999999999999999999,.int 999999999999999999999999999999999999999999999999999999999999,.int 999999999999999999999999999999999999999999999999999999999999,.int 999999999999999999999999999999999999999999999999999999999999,.int 999999999999999999999999999999999999999999999999999999999999]]) (.int gr)=.ok (.lst (ss.map .int)):=by
  have:gr=0∨gr=1:=by lia
  rcases this with rfl | rfl
  ·exact⟨[4,3,3,3,3,3,3],⟨by decide,by decide⟩,rfl,rfl⟩
  ·exact⟨[1000000000000000000000000000000000000000000000000000000000000,999999999999999999999999999999999999999999999999999999999999,999999999999999999999999999999999999999999999999999999999999,999999999999999999999999999999999999999999999999999999999999,999999999999999999999999999999999999999999999999999999999999,999999999999999999999999999999999999999999999999999999999999,999999999999999999999999999999999999999999999999999999999999],⟨by decide,by decide⟩,rfl,rfl⟩
 have dg2:=digits_ok hss (c / 870912 / ((M:Int)+1));have hl7:(digs (c / 870912 / ((M:Int)+1)) ss).length=7:=by rw[digs_len,hs7]
 have hnn:∀x∈digs (c / 870912 / ((M:Int)+1)) ss,0≤x:=λ x hx=>(digs_lt _ ss _ hss.2 x hx).1;generalize digs (c / 870912 / ((M:Int)+1)) ss=ws at dg2 hl7 hnn;obtain⟨kx,hkx,ekx⟩:∃kx,(kx=[]∨∃c∈letters,kx=[c])∧oIx (.lst kinds) (.int kd)=.ok (.str kx):=by obtain⟨x,hx,e,_⟩:=ix_some (xs:=kinds) (i:=(kd:Int)) (by lia) (by simp[kinds];lia);obtain⟨k,rfl,hk⟩:=kinds_ok x hx;exact⟨k,hk,e⟩
 rw[fe_law_any];have:Ok (retK (b_law_any [v (.int c),v (.str nm),none,none,none,none,none,none,none,none,none,none,none,none])) λ x=>∃(wt:Int)(wl:List Pl),wl.length≤6∧(0≤wt∧∀p∈wl,0≤p.2)∧x=encG ⟨nm,w+1,d+1,kx,wd,gp,.int wt,.tup (wl.map aN)⟩:=by
  refine ret_Ok ?_;unfold kinds at ekx;simp[b_law_any,line,lCat_k,dg,gSeq_lst,gNames,divFits_of,q1,hM,q2,q3,hwd,repK_a,ess,dg2,lComp_a,capt_a,capt1_a,ekx];obtain⟨e6,i0⟩:zints 0 6=[.int 0,.int 1,.int 2,.int 3,.int 4,.int 5]∧∃w0,0≤w0∧oIx (.lst (ws.map .int)) (.int 0)=.ok (.int w0):=⟨rfl,by
   match ws,hl7,hnn with
   | a :: as,_,hnn=>exact⟨a,hnn a List.mem_cons_self,(ix_at (xs:=(a :: as).map D.int) (i:=0) (j:=0) rfl rfl).2⟩⟩
  obtain⟨w0,hw0,i0⟩:=i0;refine comp_ok (λ d=>match d with | .int r=>decide ((bt:Int) / pw2 r.toNat % 2=1) | _=>false) (λ d=>match d with | .int r=>aN (r,1+ws[r.toNat+1]?.getD 0) | d=>d) ?_ ?_
  ·intro d hd
   match ws,hl7 with
   | [a0,a1,a2,a3,a4,a5,a6],_ =>
    rw[e6]at hd;simp only[List.mem_cons,List.not_mem_nil,or_false]at hd;have t2:∀(a b c d e f:D),oIx (.lst [a,b,c,d,e,f]) (.int 0)=.ok a∧oIx (.lst [a,b,c,d,e,f]) (.int 1)=.ok b∧oIx (.lst [a,b,c,d,e,f]) (.int 2)=.ok c∧oIx (.lst [a,b,c,d,e,f]) (.int 3)=.ok d∧oIx (.lst [a,b,c,d,e,f]) (.int 4)=.ok e∧oIx (.lst [a,b,c,d,e,f]) (.int 5)=.ok f:=λ _ _ _ _ _ _=>⟨rfl,rfl,rfl,rfl,rfl,rfl⟩
    have t7:∀(o a b c d e f:D),oIx (.lst [o,a,b,c,d,e,f]) (.int 1)=.ok a∧oIx (.lst [o,a,b,c,d,e,f]) (.int 2)=.ok b∧oIx (.lst [o,a,b,c,d,e,f]) (.int 3)=.ok c∧oIx (.lst [o,a,b,c,d,e,f]) (.int 4)=.ok d∧oIx (.lst [o,a,b,c,d,e,f]) (.int 5)=.ok e∧oIx (.lst [o,a,b,c,d,e,f]) (.int 6)=.ok f:=λ _ _ _ _ _ _ _=>⟨rfl,rfl,rfl,rfl,rfl,rfl⟩
    rcases hd with rfl | rfl | rfl | rfl | rfl | rfl
    all_goals
     simp[line,divFits_of,t2,t7,pw2];rw[Bool.eq_iff_iff];simp
  ·rw[i0];simp;refine⟨w0,((zints 0 6).filter λ d=>match d with | .int r=>decide ((bt:Int) / pw2 r.toNat % 2=1) | _=>false).map (λ d=>match d with | .int r=>(r,1+ws[r.toNat+1]?.getD 0) | d=>(0,0)),?_,⟨hw0,λ a b hp=>pos_filt _ _ hnn (a,b) hp⟩,?_⟩
   ·rw[List.length_map];refine Nat.le_trans (List.length_filter_le _ _) ?_;rw[ints_len];decide
   ·have:∀ds:List D,(∀d∈ds,∃r,d=.int r)->ds.map (λ d=>match d with | .int r=>aN (r,1+ws[r.toNat+1]?.getD 0) | d=>d)=(ds.map (λ d=>match d with | .int r=>(r,1+ws[r.toNat+1]?.getD 0) | d=>((0,0):Pl))).map aN:=by intro ds h;rw[List.map_map];refine List.map_congr_left λ d hd=>?_;obtain⟨r,rfl⟩:=h d hd;rfl
    rw[this _ (λ d hd=>by obtain⟨j,hj⟩:=List.getElem?_of_mem (List.mem_filter.mp hd).1;obtain⟨_,rfl⟩:=ints_get hj;exact⟨_,rfl⟩)]
    simp[encG]
 obtain⟨x,e,wt,ws,hws,⟨hp0,hp1⟩,rfl⟩:=this;exact⟨_,⟨grpG (by show 1≤w+1;lia) (by show w+1≤12;lia) (by show 1≤d+1;lia) (by show d+1≤3;lia) hkx (by show wd≤(w+1)*(d+1);lia) (by show gp≤6;lia) ⟨wt,ws,hws,rfl,rfl⟩,wt,ws,hws,hp0,hp1,rfl,rfl⟩,e⟩
theorem group_okP(z : Int)(nm : List Nat){a b : Nat}(ha : a ∈ letters)(hb : b ∈ letters)(gr : Bool): ∃g, GrpP g ∧ fn_law_group [.int z, .str nm, .str [a, b], .bl gr] = .ok (encG g) := by
 obtain⟨w,hw⟩:=nat_of (z:=1+z % 3) (by first | exact Int.emod_nonneg _ (by decide) | lia);have i0:oIx (.str [a,b]) (.int 0)=.ok (.str [a]):=ix_strAt (j:=0) rfl rfl (by simp[line]);have i1:oIx (.str [a,b]) (.int 1)=.ok (.str [b]):=ix_strAt (j:=1) rfl rfl (by simp[line]);rw[fe_law_group];have:Ok (retK (b_law_group [v (.int z),v (.str nm),v (.str [a,b]),v (.bl gr),none,none,none,none,none,none,none,none])) λ x=>∃g,GrpP g∧x=encG g:=by
  refine ret_Ok ?_;simp[b_law_group,divFits_of,hw,line,i0,i1];refine ix_all (by first | exact Int.emod_nonneg _ (by decide) | lia) (by first | exact Int.emod_lt_of_pos _ (by decide) | (simp;lia)) ?_;intro x hx;obtain⟨d,rfl,d1,d2⟩:∃d:Nat,x=.int d∧1≤d∧d≤3:=by
   simp at hx;rcases hx with rfl | rfl
   ·exact⟨1,rfl,by decide,by decide⟩
   ·exact⟨2,rfl,by decide,by decide⟩
  refine ix_all (by first | exact Int.emod_nonneg _ (by decide) | lia) (by first | exact Int.emod_lt_of_pos _ (by decide) | (simp;lia)) ?_;intro x hx;obtain⟨kd,rfl,hkd⟩:∃kd,x=.str kd∧(kd=[]∨∃c∈letters,kd=[c]):=by
   simp at hx;rcases hx with rfl | rfl | rfl
   ·exact⟨[],rfl,.inl rfl⟩
   ·exact⟨_,rfl,.inr ⟨_,ha,rfl⟩⟩
   ·exact⟨_,rfl,.inr ⟨_,hb,rfl⟩⟩
  refine ix_all (by first | exact Int.emod_nonneg _ (by decide) | lia) (by first | exact Int.emod_lt_of_pos _ (by decide) | (simp;lia)) ?_;intro x hx;obtain⟨wd,rfl,hwd⟩:∃wd:Nat,x=.int wd∧wd≤1:=by
   simp at hx;rcases hx with rfl | rfl
   ·exact⟨0,rfl,by decide⟩
   ·exact⟨1,rfl,by decide⟩
  have hwd2:wd≤w*d:=Nat.le_trans hwd (Nat.mul_le_mul (show 1≤w by lia) d1);have fin:∀(wt mr:Int),0≤mr->Ok (forGo (gName 11) (sIf (tE (eB oEq (eB oMod (eB oDiv (eW 0) (eB oIx (eL (lDisp (ae (eC (.int 9216)) (ae (eC (.int 27648)) (ae (eC (.int 82944)) (ae (eC (.int 248832)) ay)))))) (eW 11))) (eC (.int 3))) (eC (.int 1)))) (sAppend 10 (eTup (ae (eV 11) (ae (eB oAdd (eW 9) (eB oMul (eW 11) (eU oInt (eW 3)))) ay)))) sNext) (zints 0 4) [v (.int z),v (.str nm),v (.str [a,b]),v (.bl gr),vi w,vi d,vs kd,vi wd,vi wt,vi mr,ow [],none]) λ fl=>∃(wl:List Pl)(x:Option L),wl.length≤4∧(∀p∈wl,0≤p.2)∧fl=.nx [v (.int z),v (.str nm),v (.str [a,b]),v (.bl gr),vi w,vi d,vs kd,vi wd,vi wt,vi mr,ow (wl.map aN),x]:=by
   intro wt mr hmr;refine for_at (λ i ρ=>∃(wl:List Pl)(x:Option L),wl.length≤i∧(∀p∈wl,0≤p.2)∧ρ=[v (.int z),v (.str nm),v (.str [a,b]),v (.bl gr),vi w,vi d,vs kd,vi wd,vi wt,vi mr,ow (wl.map aN),x]) ⟨[],none,Nat.zero_le _,by simp,rfl⟩ ?_ ?_
   ·rintro j y ρ hj ⟨wl,x,hl,hw,rfl⟩;obtain⟨hj',rfl⟩:=ints_get hj;obtain⟨n,hn0,hn⟩:∃n:Int,(0 < n∧n < 1000000)∧oIx (.lst [.int 9216,.int 27648,.int 82944,.int 248832]) (.int (0+(j:Nat)))=.ok (.int n):=by
     match j,hj' with
     | 0,_=>exact⟨9216,by decide,rfl⟩
     | 1,_=>exact⟨27648,by decide,rfl⟩
     | 2,_=>exact⟨82944,by decide,rfl⟩
     | 3,_=>exact⟨248832,by decide,rfl⟩
    rw[Int.zero_add]at hn;have hd:=divFits_of hn0.1 (by lia);have q1:∀x:Int,mulFits (j:Int) x:=λ x=>mulFits_l (by lia) (by lia);have hll:wl.length < 16777216:=by lia
    by_cases h:z / n % 3=1
    ·cases gr <;>
     ·simp[line,hn,hd,h,q1,hll,oInt];refine⟨wl++[(_,_)],by simp;lia,?_,by simp;rfl⟩;exact pos_snoc hw (by lia)
    ·simp[line,hn,hd,h];exact⟨wl,by lia,pos_two hw,rfl⟩
   ·rintro ρ ⟨wl,x,hl,hw,rfl⟩;exact⟨wl,x,by simpa using hl,hw,rfl⟩
  have hgp:∃gp:Nat,gp≤6∧oIx (.lst [.int 0,.int 0,.int 1,.int 2]) (.int (z / 192 % 4))=.ok (.int gp):=by
   obtain⟨x,hx,e,_⟩:=ix_some (xs:=[D.int 0,.int 0,.int 1,.int 2]) (i:=z / 192 % 4) (by lia) (by simp;lia);simp at hx;rcases hx with rfl | rfl | rfl
   ·exact⟨0,by decide,e⟩
   ·exact⟨1,by decide,e⟩
   ·exact⟨2,by decide,e⟩
  obtain⟨gp,hgp6,egp⟩:=hgp;cases gr
  ·simp;refine(fin _ _ (by first | exact Int.emod_nonneg _ (by decide) | lia)).imp ?_;rintro fl ⟨wl,x,hl,hw,rfl⟩;simp[divFits_of,egp,line];exact⟨⟨nm,w,d,kd,wd,gp,_,_⟩,⟨grpG (by show 1≤w;lia) (by show w≤12;lia) d1 d2 hkd hwd2 hgp6 ⟨_,wl,by lia,rfl,rfl⟩,_,wl,by lia,(by first | exact Int.emod_nonneg _ (by decide) | lia),hw,rfl,rfl⟩,rfl⟩
  ·simp;refine(fin _ _ (by first | exact Int.emod_nonneg _ (by decide) | lia)).imp ?_;rintro fl ⟨wl,x,hl,hw,rfl⟩;simp[divFits_of,egp,line];exact⟨⟨nm,w,d,kd,wd,gp,_,_⟩,⟨grpG (by show 1≤w;lia) (by show w≤12;lia) d1 d2 hkd hwd2 hgp6 ⟨_,wl,by lia,rfl,rfl⟩,_,wl,by lia,(by first | exact Int.emod_nonneg _ (by decide) | lia),hw,rfl,rfl⟩,rfl⟩
 obtain⟨x,e,g,hg,rfl⟩:=this;exact⟨g,hg,e⟩
theorem groups_okP {ns : List Int} (hb : Bd ns) {a b : Nat} (ha : a ∈ letters) (hlb : b ∈ letters) : ∃ gs : List G, gs.length ≤ 6 ∧ (∀ g ∈ gs, GrpP g) ∧ fn_law_groups [.lst (ns.map .int), .str [a], .str [b]] = .ok (.tup (gs.map encG)) := by
 obtain⟨c2,ec2,_⟩:=cell_at hb (k:=2) (by decide);obtain⟨c3,ec3,_⟩:=cell_at hb (k:=3) (by decide);have dg:=digits_ok (ss:=[4,7,4,4]) ⟨by decide,by decide⟩ c2;obtain⟨wy,hwy⟩:=nat_of (z:=c2 % 4) (by first | exact Int.emod_nonneg _ (by decide) | lia);obtain⟨mn,hmn⟩:=nat_of (z:=c2 / 4 % 7) (by first | exact Int.emod_nonneg _ (by decide) | lia);obtain⟨gr,hgr⟩:=nat_of (z:=c2 / 4 / 7 % 4) (by first | exact Int.emod_nonneg _ (by decide) | lia);obtain⟨tw,htw⟩:=nat_of (z:=c2 / 4 / 7 / 4 % 4) (by first | exact Int.emod_nonneg _ (by decide) | lia);have ed:digs c2 [4,7,4,4]=[(wy:Int),mn,gr,tw]:=by simp only[digs,hwy,hmn,hgr,htw]
 rw[ed]at dg;simp only[List.map_cons,List.map_nil]at dg;rw[fe_law_groups];have : Ok (retK (b_law_groups [v (.lst (ns.map .int)), v (.str [a]), v (.str [b]), none, none, none, none, none, none, none, none])) λ x => ∃ gs : List G, gs.length ≤ 6 ∧ (∀ g ∈ gs, GrpP g) ∧ x = .tup (gs.map encG) := by
  refine ret_Ok ?_;simp[bg_eq,ec2,dg,line,gSeq_lst,gNames];refine for_at (λ i ρ=>∃(gs:List G)(x y z:Option L),gs.length=i∧(∀g∈gs,GrpP g)∧ρ=[v (.lst (ns.map .int)),v (.str [a]),v (.str [b]),vi wy,vi mn,vi gr,vi tw,ow (gs.map encG),x,y,z]) ⟨[],none,none,none,rfl,λ g h=>absurd h List.not_mem_nil,rfl⟩ ?_ ?_
  ·rintro j d ρ hj ⟨gs,x,y,z,hl,hg,rfl⟩;obtain⟨hj',rfl⟩:=ints_get hj;obtain⟨nm,en⟩:=name_ok c3 (k:=(j:Int)) (by lia) (by lia);obtain⟨c,ec,hc⟩:=cell_at hb (k:=4+(j:Int)) (by lia);obtain⟨m2,em2,a1,a2⟩:=mixedB c2 (k:=(j:Int)) (by lia) (by lia);obtain⟨m3,em3,a3,a4⟩:=mixedB c3 (k:=(j:Int)) (by lia) (by lia);have q1:mulFits m2 m3:=mulFits_l (by lia) (by lia);have hll:gs.length < 16777216:=by lia
   have fin:∀ cl:Int,Ok (tailS [v (.lst (ns.map .int)),v (.str [a]),v (.str [b]),vi wy,vi mn,vi gr,vi tw,ow (gs.map encG),vi (j:Nat),vs nm,vi cl]) λ fl=>∃ g,GrpP g∧fl=.nx [v (.lst (ns.map .int)),v (.str [a]),v (.str [b]),vi wy,vi mn,vi gr,vi tw,ow ((gs++[g]).map encG),vi (j:Nat),vs nm,vi cl]:=by
    intro cl;by_cases ht:(tw:Int)=1∧0 < (j:Int)∧0 < cl % 3
    ·obtain⟨t1,t2,t3⟩:=ht;have t1':tw=1:=by lia
     have t2':0 < j:=by lia
     match gs,hl,hg with
     | [],h,_=>simp at h;lia
     | g0 :: gr',h,hg =>
      have i0:oIx (.lst ((g0 :: gr').map encG)) (.int 0)=.ok (encG g0):=(ix_at (xs:=(g0 :: gr').map encG) (i:=0) (j:=0) rfl rfl).2;simp only[List.map_cons]at i0;have hll':gr'.length < 16777215:=by simp at hll;lia
      simp[tailS,t1',t2',t3,i0,enc_renamed g0 nm,line,hll'];refine⟨by lia,{ g0 with name:=nm },renamedP (hg g0 List.mem_cons_self) nm,rfl⟩
    ·have hf:Ok (tAnd (tE (eB oEq (eW 6) (eC (.int 1)))) (tAnd (tE (eB oGt (eW 8) (eC (.int 0)))) (tE (eB oGt (eB oMod (eW 10) (eC (.int 3))) (eC (.int 0))))) [v (.lst (ns.map .int)),v (.str [a]),v (.str [b]),vi wy,vi mn,vi gr,vi tw,ow (gs.map encG),vi (j:Nat),vs nm,vi cl]) λ c=>c=false:=by
      by_cases t1:tw=1
      ·by_cases t2:0 < j
       ·have t3:¬0 < cl % 3:=λ z=>ht ⟨by lia,by lia,z⟩;simp[t1,t2,t3]
       ·simp[t1,t2]
      ·have t1':¬(tw:Int)=1:=by lia
       simp[t1']
     unfold tailS;rw[sIf_a,hf.eq];simp only[Res.ok_bind];by_cases hy:wy % 2=1
     ·obtain⟨g,hgg,eg⟩:=any_okP cl nm;have hy':((wy:Int) % 2==1)=true:=by simp;lia
      simp[hy',eg,line,hll];exact⟨g,hgg,rfl⟩
     ·obtain⟨g,hgg,eg⟩:=group_okP (cl % 100000000000000000000000000000000000000000000000000) nm ha hlb ((gr:Int)==1);have hy':((wy:Int) % 2==1)=false:=by simp;lia
      simp[hy',eg,line,hll];exact⟨g,hgg,rfl⟩
   by_cases hge:(ns.length:Int)≤4+(j:Int)
   ·simp[ec3,en,ec,hge,ec2,em2,em3,q1];refine(fin _).imp ?_;rintro fl ⟨g,hgg,rfl⟩;simp only[turn_nx];exact⟨gs++[g],by simp[hl],λ x hx=>(List.mem_append.mp hx).elim (hg x) (λ h=>by rw[List.mem_singleton.mp h];exact hgg),_,_,_,rfl⟩
   ·simp[ec3,en,ec,hge];refine(fin _).imp ?_;rintro fl ⟨g,hgg,rfl⟩;simp only[turn_nx];exact⟨gs++[g],by simp[hl],λ x hx=>(List.mem_append.mp hx).elim (hg x) (λ h=>by rw[List.mem_singleton.mp h];exact hgg),_,_,_,rfl⟩
  ·rintro ρ ⟨gs,x,y,z,hl,hg,rfl⟩;rw[ints_len]at hl;simp;exact⟨gs,by lia,hg,rfl⟩
 obtain⟨x,e,gs,h1,h2,rfl⟩:=this;exact⟨gs,h1,h2,e⟩
end KH
set_option maxRecDepth 4000
noncomputable section
namespace KB
open Z KG KH
def b_fast_seating:SF:=(aI (sSet 3 (eIf (tE (eU oIsN (eW 2))) (eB oRepT (eTup (ae (eC .non) ay)) (eU oLen (eW 1))) (eV 2))) (aI (sIf (tNot (tE (az KG.fn_keeps (ae (eV 0) (ae (eV 1) (ae (eV 3) ay)))))) sBad sNext) (sRet (eV 3))))
def fn_fast_seating:List D->Res D:=fn 3 4 b_fast_seating
theorem fe_fast_seating(x0 x1 x2:D):fn_fast_seating [x0,x1,x2]=retK (b_fast_seating [some (.val x0),some (.val x1),some (.val x2),none]):=fn_a _ _ _ _ rfl
def b_ways:SF:=(aI (sSet 3 (eC (.int 1))) (aI (sFor (iZip (eV 1) (az fn_fast_seating (ae (eV 0) (ae (eV 1) (ae (eV 2) ay))))) (gTup [4,5]) (sIf (tE (eU oIsN (eW 5))) (sSet 3 (eB oMul (eV 3) (eB oAdd (eU oLen (az KG.fn_places_of (ae (eV 0) (ae (eV 4) ay)))) (eC (.int 1))))) sNext)) (sRet (eV 3))))
def fn_ways:List D->Res D:=fn 3 6 b_ways
theorem fe_ways(x0 x1 x2:D):fn_ways [x0,x1,x2]=retK (b_ways [some (.val x0),some (.val x1),some (.val x2),none,none,none]):=fn_a _ _ _ _ rfl
def b_small_start:SF:=(aI (sSet 3 (az fn_ways (ae (eV 0) (ae (eV 1) (ae (eV 2) ay))))) (aI (sIf (tE (eB oGt (eW 3) (eC (.int 2000)))) sBad sNext) (sRet (az fn_fast_seating (ae (eV 0) (ae (eV 1) (ae (eV 2) ay)))))))
def fn_small_start:List D->Res D:=fn 3 4 b_small_start
def b_with_one_more:SF:=(aI (sSet 5 (az KG.fn_places_of (ae (eV 0) (ae (eB oIx (eW 1) (eW 3)) ay)))) (aI (sOwn 6 (lDisp ay)) (aI (sFor (iSeq (eV 2)) (gName 7) (aI (sSet 8 (az KG.fn_those_that_sit (ae (eV 1) (ae (eV 7) ay)))) (aI (sExt 6 (lComp (iSeq (az KH.fn_open_among (ae (eV 5) (ae (eB oIx (eW 1) (eW 3)) (ae (eV 8) ay))))) 1 [7,3] (gName 0) tTrue (az KH.fn_with_place (ae (eV 1) (ae (eV 2) (ae (eV 0) ay)))))) (sIf (tE (eV 4)) (sAppend 6 (eV 7)) sNext)))) (sFrz 6 (sRet (eV 6))))))
def fn_with_one_more:List D->Res D:=fn 5 9 b_with_one_more
def b_seatings_from:SF:=(aI (sSet 4 (eL (lDisp (ae (eV 2) ay)))) (aI (sFor (iRng1 (eU oLen (eW 1))) (gName 5) (sIf (tE (eU oIsN (eB oIx (eW 2) (eW 5)))) (sSet 4 (az fn_with_one_more (ae (eV 0) (ae (eV 1) (ae (eV 4) (ae (eV 5) (ae (eV 3) ay))))))) sNext)) (sRet (eV 4))))
def fn_seatings_from:List D->Res D:=fn 4 6 b_seatings_from
end KB
end
set_option maxRecDepth 8000
namespace KB
open Z KG
open KH
theorem keepsE{rows:Rows}{C:Nat}(H:Hall rows C){xs:List GO}(h6:xs.length≤6)(hg:∀x∈xs,GOk x.1)(hk:Good rows xs):KG.fn_keeps [encH rows,encGs xs,encOs xs]=.ok (.bl true):=by have:=keeps_ok H h6 hg;rw[hk.keeps]at this;exact this
theorem fast_some{rows:Rows}{C:Nat}(H:Hall rows C){xs:List GO}(h6:xs.length≤6)(hg:∀x∈xs,GOk x.1)(hk:Good rows xs):fn_fast_seating [encH rows,encGs xs,encOs xs]=.ok (encOs xs):=by rw[fe_fast_seating];refine ret_ok ?_;have hN:oIsN (encOs xs)=.ok (.bl false):=rfl;simp[b_fast_seating,hN,keepsE H h6 hg hk]
theorem fastL_ok{rows:Rows}{xs:List GO}(h6:xs.length≤6)(hk:Good rows xs)(c:Int):∃ys:List GO,ys.map (·.1)=xs.map (·.1)∧(∀(i:Nat)(g:G)(p:Pl),ys[i]?=some (g,some p)->xs[i]?=some (g,some p))∧Good rows ys∧KH.fn_law_fast [encOs xs,.int c]=.ok (encOs ys):=by
 obtain⟨ys,hys⟩:∃ys:List GO,ys=(List.range xs.length).map λ i=>(((xs[i]?).map (·.1)).getD ⟨[],0,0,[],0,0,.non,.non⟩,if decide (c / pw2 i % 2=1)then((xs[i]?).bind (·.2))else none):=⟨_,rfl⟩
 have at_:∀(i:Nat)(x:GO),xs[i]?=some x->ys[i]?=some (x.1,if decide (c / pw2 i % 2=1)then x.2 else none):=λ i x e=>by have hl:i < xs.length:=(List.getElem?_eq_some_iff.mp e).1;rw[hys,List.getElem?_map,List.getElem?_range hl];simp[e]
 have hyl:ys.length=xs.length:=by rw[hys];simp
 have sub:∀(i:Nat)(g:G)(p:Pl),ys[i]?=some (g,some p)->xs[i]?=some (g,some p):=λ i g p e=>by
  cases ex:xs[i]? with
  | none =>have:ys[i]?=none:=List.getElem?_eq_none (by rw[hyl];exact List.getElem?_eq_none_iff.mp ex);rw[this]at e;cases e
  | some x =>
   rw[at_ i x ex]at e;obtain⟨g',o⟩:=x;simp only[Option.some.injEq,Prod.mk.injEq]at e;obtain⟨rfl,e⟩:=e;split at e
   ·rw[e]
   ·cases e
 refine⟨ys,?_,sub,hk.sub sub,?_⟩
 ·refine List.ext_getElem? λ i=>?_;rw[List.getElem?_map,List.getElem?_map];cases e:xs[i]? with
  | none =>have:ys[i]?=none:=List.getElem?_eq_none (by rw[hyl];exact List.getElem?_eq_none_iff.mp e);rw[this]
  | some x=>rw[at_ i x e];rfl
 ·rw[fe_law_fast];refine ret_ok ?_;have hol:oLen (encOs xs)=.ok (.int xs.length):=by simp[encOs]
  have hl:xs.length≤16777216:=by lia
  simp[b_law_fast,lComp_a,line,capt_a,capt1_a,hol,hl];have e0:zints 0 xs.length=(List.range xs.length).map λ j=>D.int (j:Nat):=by rw[ints_map];exact List.map_congr_left λ j _=>by rw[Int.zero_add]
  rw[e0];refine comp_enc (λ j:Nat=>D.int (j:Nat)) (λ _=>true) (λ j=>encO (if decide (c / pw2 j % 2=1)then((xs[j]?).bind (·.2))else none)) ?_ ?_
  ·intro j hj;rw[List.mem_range]at hj;obtain⟨x,ex⟩:∃x,xs[j]?=some x:=⟨_,List.getElem?_eq_getElem hj⟩
   have ix:oIx (encOs xs) (.int (j:Nat))=.ok (encO x.2):=(ix_at (xs:=xs.map λ y:GO=>encO y.2) (i:=(j:Nat)) (j:=j) rfl (by rw[List.getElem?_map,ex];rfl)).1;obtain⟨q,hq0,hq⟩:∃q:Int,(0 < q∧q≤32)∧q=pw2 j∧oIx (.lst [.int 1,.int 2,.int 4,.int 8,.int 16,.int 32]) (.int (j:Nat))=.ok (.int q):=by
    match j,(by lia:j < 6)with
    | 0,_=>exact⟨1,by decide,rfl,rfl⟩
    | 1,_=>exact⟨2,by decide,rfl,rfl⟩
    | 2,_=>exact⟨4,by decide,rfl,rfl⟩
    | 3,_=>exact⟨8,by decide,rfl,rfl⟩
    | 4,_=>exact⟨16,by decide,rfl,rfl⟩
    | 5,_=>exact⟨32,by decide,rfl,rfl⟩
   obtain⟨hq1,hq⟩:=hq;rw[<-hq1];have hd:=divFits_of hq0.1 (by lia);by_cases hb:c / q % 2=1
   ·simp[line,hq,hd,hb,ix,ex]
   ·simp[line,hq,hd,hb]
  ·rw[f_true];unfold encOs;rw[hys,List.map_map];rfl
def wtD:D->Int
 | .int w=>w
 | _=>0
def plD:D->Pl
 | .tup [.int a,.int b]=>(a,b)
 | _=>(0,0)
def wsD:D->List Pl
 | .tup ds=>ds.map plD
 | _=>[]
def more(ws:List Pl)(row:Int):Int:=((ws.filter λ p=>decide (p.1=row)).map (·.2)).sum
def wIn(g:G)(row:Int):Int:=wtD g.worth+more (wsD g.wishes) row
def wO(x:GO):Int:=match x.2 with
 | none=>0
 | some p=>wIn x.1 p.1
theorem withP_ok{xs:List GO}(h6:xs.length≤6){k:Nat}{g:G}{o:Option Pl}(hk:xs[k]?=some (g,o))(p:Pl):KH.fn_with_place [encOs xs,.int (k:Nat),aN p]=.ok (encOs (xs.set k (g,some p)))∧KH.fn_law_with [encOs xs,.int (k:Nat),aN p]=.ok (encOs (xs.set k (g,some p))):=by have hl:k < xs.length:=(List.getElem?_eq_some_iff.mp hk).1;have h1:=with_place_ok (ds:=xs.map λ x=>encO x.2) (k:=k) (by simp;lia) (by simp;lia) (aN p);have h2:=with_ok (ds:=xs.map λ x=>encO x.2) (k:=k) (by simp;lia) (by simp;lia) (aN p);rw[encOs_set];exact⟨h1,h2⟩
theorem sign_rng{rows:Rows}{C:Nat}(hr:∀x∈rows,x.length=C){s:Pl}{c:Nat}(h:signAt rows s=some c):0≤s.1∧s.1 < rows.length∧0≤s.2∧s.2 < C:=by
 unfold signAt at h;split at h
 ·rename_i z;cases e:rows[s.1.toNat]? with
  | none=>rw[e]at h;cases h
  | some r =>rw[e]at h;have h:r[s.2.toNat]?=some c:=h;have h1:=(List.getElem?_eq_some_iff.mp h).1;have h2:=(List.getElem?_eq_some_iff.mp e).1;have hl:=hr r (List.mem_of_getElem? e);lia
 ·cases h
theorem seat0{g:G}(k:GOk g)(p:Pl):p∈seats g p:=by have hw:=k.w1;have hd:=k.d1;unfold seats seatsN rowSeats;simp only[List.mem_flatMap,List.mem_range,List.mem_map];exact⟨0,by lia,0,by lia,by simp⟩
theorem fits_mem{rows:Rows}{C:Nat}(H:Hall rows C){g:G}(k:GOk g){p:Pl}(h:fitsB rows g p=true):p∈places rows C g:=by
 refine List.mem_filter.mpr ⟨mem_allPl.mpr ?_,h⟩;unfold fitsB at h;rw[Bool.and_eq_true,List.all_eq_true]at h;have:=h.1 p (seat0 k p);cases e:signAt rows p with
 | none=>rw[e]at this;cases this
 | some c=>exact sign_rng H.len e
structure Ext(cs hs:List GO):Prop where
 gs:cs.map (·.1)=hs.map (·.1)
 sub:∀(i:Nat)(g:G)(p:Pl),cs[i]?=some (g,some p)->hs[i]?=some (g,some p)
theorem Ext.len{cs hs:List GO}(e:Ext cs hs):cs.length=hs.length:=by have:=congrArg List.length e.gs;rwa [List.length_map,List.length_map]at this
theorem Ext.at{cs hs:List GO}(e:Ext cs hs){k:Nat}{g:G}{o:Option Pl}(h:cs[k]?=some (g,o)):∃o',hs[k]?=some (g,o')∧(∀p,o=some p->o'=some p):=by
 have hl:k < cs.length:=(List.getElem?_eq_some_iff.mp h).1;rw[e.len]at hl;obtain⟨⟨g',o'⟩,e'⟩:∃x,hs[k]?=some x:=⟨_,List.getElem?_eq_getElem hl⟩
 have z:=congrArg (λ l=>l[k]?) e.gs;simp only[List.getElem?_map,h,e',Option.map_some,Option.some.injEq]at z;subst z;refine⟨o',e',λ p hp=>?_⟩;subst hp;have:=e.sub k g p h;rw[e']at this;exact(Prod.mk.inj (Option.some.inj this)).2
theorem zip_map{α:Type}(f h:α->D):∀xs:List α,zipD (xs.map f) (xs.map h)=xs.map λ x=>.tup [f x,h x]
 | []=>rfl
 | x :: xs=>by simp[zipD,zip_map f h xs];rfl
end KB
namespace KB
open Z KG
open KH
def prodL:List Nat->Nat
 | []=>1
 | n :: r=>n*prodL r
theorem prodL_append:∀a b:List Nat,prodL (a++b)=prodL a*prodL b
 | [],b=>by simp[prodL]
 | n :: a,b=>by simp[prodL,prodL_append a b,Nat.mul_assoc]
def wayN(rows:Rows)(C:Nat)(x:GO):Nat:=match x.2 with
 | none=>(places rows C x.1).length+1
 | some _=>1
def waysN(rows:Rows)(C:Nat)(xs:List GO):Nat:=prodL (xs.map (wayN rows C))
theorem ways_snoc{rows:Rows}{C:Nat}{xs:List GO}{j:Nat}{x:GO}(h:xs[j]?=some x):prodL ((xs.take (j+1)).map (wayN rows C))=prodL ((xs.take j).map (wayN rows C))*wayN rows C x:=by rw[take_snoc h,List.map_append,prodL_append];simp[prodL]
theorem ways_ok{rows:Rows}{C:Nat}(H:Hall rows C){xs:List GO}(h6:xs.length≤6)(hg:∀x∈xs,GOk x.1){fd:D}(ef:fn_fast_seating [encH rows,encGs xs,fd]=.ok (encOs xs)):fn_ways [encH rows,encGs xs,fd]=.ok (.int (waysN rows C xs)):=by
 rw[fe_ways];refine ret_ok ?_;simp[b_ways,ef];unfold encGs encOs at *;simp[zip_map];refine for_at (λ i ρ=>∃(x4 x5:Option L),ρ=[v (encH rows),v (.tup (xs.map λ x=>encG x.1)),v fd,vi (prodL ((xs.take i).map (wayN rows C)):Nat),x4,x5]) ⟨none,none,rfl⟩ ?_ ?_
 ·rintro j d ρ hj ⟨x4,x5,rfl⟩;rw[List.getElem?_map]at hj;obtain⟨⟨g,o⟩,hx,rfl⟩:=Option.map_eq_some_iff.mp hj;have gX:∀ρ:Env,gTup [4,5] (.tup [encG g,encO o]) ρ=.ok ((ρ.set 4 (v (encG g))).set 5 (v (encO o))):=λ ρ=>rfl;rw[ways_snoc hx];generalize prodL ((xs.take j).map (wayN rows C))=m;cases o with
  | some p =>have en:oIsN (aN p)=.ok (.bl false):=rfl;simp[gX,encO,en,wayN]
  | none =>have pl:=places_of_ok H (hg _ (List.mem_of_getElem? hx));have hpl:=places_len H g;rw[show wayN rows C (g,none)=(places rows C g).length+1 from rfl];generalize places rows C g=ps at pl hpl ⊢;have q1:mulFits (m:Int) ((ps.length:Int)+1):=Or.inr (Or.inl ⟨by lia,by lia⟩);simp[gX,encO,pl,q1]
 ·rintro ρ ⟨x4,x5,rfl⟩;rw[List.length_map,List.take_length];simp[waysN]
theorem fast_none{rows:Rows}{C:Nat}(H:Hall rows C){xs:List GO}(h6:xs.length≤6)(hg:∀x∈xs,GOk x.1)(hn:∀x∈xs,x.2=none):fn_fast_seating [encH rows,encGs xs,.non]=.ok (encOs xs):=by
 have hk:Good rows xs:=λ i g p e=>by have:=hn _ (List.mem_of_getElem? e);cases this
 rw[fe_fast_seating];refine ret_ok ?_;have hl:oLen (encGs xs)=.ok (.int xs.length):=by simp[encGs]
 have e0:List.replicate xs.length D.non=xs.map λ x=>encO x.2:=by refine List.ext_getElem (by simp) λ i h1 h2=>?_;have:=hn (xs[i]'(by simpa using h2)) (List.getElem_mem _);simp[this,encO]
 have h6':(xs.length:Int)≤1000000:=by lia
 have kk:=keepsE H h6 hg hk;unfold encOs at kk ⊢;rw[<-e0]at kk ⊢;simp[b_fast_seating,hl,oRepT_a,h6',kk,line]
theorem gs_enc{cs xs:List GO}(h:cs.map (·.1)=xs.map (·.1)):encGs cs=encGs xs:=by have:=congrArg (List.map encG) h;rw[List.map_map,List.map_map]at this;exact congrArg D.tup this
end KB
namespace KB
open Z KG
open KH
section
variable {rows:Rows}{C:Nat}{sm:Bool}{xs:List GO}
structure SeatI(rows:Rows)(sm:Bool)(xs:List GO)(j:Nat)(z:List GO):Prop where
 gs:z.map (·.1)=xs.map (·.1)
 rest:∀i:Nat,j≤i->z[i]?=xs[i]?
 ext:Ext xs z
 good:Good rows z
 full:sm=false->∀(i:Nat)(g:G),i < j->z[i]?≠some (g,none)
def wS(z:List GO):Int:=(z.map wO).sum
end
end KB
namespace KB
open Z KG
open KH
end KB
namespace KB
open Z KG
open KH
theorem spots_enc{rows:Rows}{C:Nat}{cs xs:List GO}(h:cs.map (·.1)=xs.map (·.1)):spotsD rows C cs=spotsD rows C xs:=by have:=congrArg (List.map λ g=>D.lst ((places rows C g).map aN)) h;rw[List.map_map,List.map_map]at this;exact congrArg D.lst this
end KB
namespace KB
open Z KG
open KH
end KB
namespace KB
open Z KG
open KH
def ltO:Option Pl->Option Pl->Prop
 | some p,some q=>ltP p q
 | some _,none=>True
 | _,_=>False
def ltS(a b:List GO):Prop:=∃(i:Nat)(g:G)(o o':Option Pl),(∀j,j < i->a[j]?=b[j]?)∧a[i]?=some (g,o)∧b[i]?=some (g,o')∧ltO o o'
section
variable {rows:Rows}{C:Nat}{sm:Bool}{xs:List GO}
end
open Classical in
def Full(z:List GO):Prop:=∀(i:Nat)(g:G),z[i]?≠some (g,none)
end KB
namespace KB
open Z KG
open KH
structure Best(rows:Rows)(C:Nat)(xs m:List GO):Prop where
 ext:Ext xs m
 good:Good rows m
 full:Full m
 most:∀z,Ext xs z->Good rows z->Full z->wS z≤wS m∧(wS z=wS m->z=m∨ltS m z)
end KB
set_option maxRecDepth 4000
noncomputable section
namespace KC
open Z KG KH KB
def b_is_whole:SF:=(sRet (eAnd (eU (oIsTy .int) (eW 0)) (eNot (eU (oIsTy .bool) (eW 0)))))
def fn_is_whole:List D->Res D:=fn 1 1 b_is_whole
def b_is_whole_within:SF:=(sRet (eAnd (az fn_is_whole (ae (eV 0) ay)) (eChain oLe oLe (eW 1) (eW 0) (eW 2))))
def fn_is_whole_within:List D->Res D:=fn 3 3 b_is_whole_within
def b_first_of_all:SF:=(aI (sSet 3 (az KB.fn_seatings_from (ae (eV 0) (ae (eV 1) (ae (az KB.fn_small_start (ae (eV 0) (ae (eV 1) (ae (eV 2) ay)))) (ae (eC (.bl false)) ay)))))) (sRet (eIf (tE (eB oGt (eU oLen (eW 3)) (eC (.int 0)))) (eB oIx (eW 3) (eC (.int 0))) (eC .non))))
def fn_first_of_all:List D->Res D:=fn 3 4 b_first_of_all
def b_all_places:SF:=(sRet (eL (lComp (iSeq (eW 1)) 1 [0] (gName 0) tTrue (az KG.fn_places_of (ae (eV 1) (ae (eV 0) ay))))))
def fn_all_places:List D->Res D:=fn 2 2 b_all_places
def b_spots_of:SF:=(sRet (az KH.fn_open_among (ae (eB oIx (eW 1) (eW 3)) (ae (eB oIx (eW 0) (eW 3)) (ae (az KG.fn_those_that_sit (ae (eV 0) (ae (eV 2) ay))) ay)))))
def fn_spots_of:List D->Res D:=fn 4 4 b_spots_of
def b_is_waiting:SF:=(sRet (eAnd (az fn_is_whole_within (ae (eV 1) (ae (eC (.int 0)) (ae (eB oSub (eU oLen (eW 0)) (eC (.int 1))) ay)))) (eU oIsN (eB oIx (eW 0) (eW 1)))))
def fn_is_waiting:List D->Res D:=fn 2 2 b_is_waiting
def b_begins_with:SF:=(aI (sIf (tOr (tNot (tE (eU (oIsTy .tuple) (eW 0)))) (tE (eB oNe (eU oLen (eW 0)) (eW 2)))) (sRet (eC (.bl false))) sNext) (sRet (eAnd (eU (oIsTy .str) (eB oIx (eW 0) (eC (.int 0)))) (eB oEq (eB oIx (eW 0) (eC (.int 0))) (eW 1)))))
def fn_begins_with:List D->Res D:=fn 3 3 b_begins_with
def b_is_each:SF:=(sRet (eAnd (az fn_begins_with (ae (eV 0) (ae (eC (.str [101,97,99,104])) (ae (eC (.int 3)) ay)))) (eU (oIsTy .tuple) (eB oIx (eW 0) (eC (.int 2))))))
def fn_is_each:List D->Res D:=fn 1 1 b_is_each
def b_lets_by_beside(self:List D->Res D):SF:=(aI (sIf (tAnd (tNot (tE (az fn_begins_with (ae (eV 3) (ae (eC (.str [115,116,117,99,107])) (ae (eC (.int 2)) ay)))))) (tNot (tE (az fn_is_each (ae (eV 3) ay))))) (sRet (eC (.bl false))) sNext) (aI (sIf (tNot (tE (az fn_is_waiting (ae (eV 2) (ae (eB oIx (eW 3) (eC (.int 1))) ay))))) (sRet (eC (.bl false))) sNext) (aI (sSet 4 (eB oIx (eW 3) (eC (.int 1)))) (aI (sSet 5 (az fn_spots_of (ae (eV 0) (ae (eV 1) (ae (eV 2) (ae (eV 4) ay)))))) (aI (sSet 6 (eIf (tE (az fn_is_each (ae (eV 3) ay))) (eB oIx (eW 3) (eC (.int 2))) (eTup ay))) (aI (sIf (tE (eB oNe (eU oLen (eW 6)) (eU oLen (eW 5)))) (sRet (eC (.bl false))) sNext) (aI (sFor (iZip (eV 5) (eV 6)) (gTup [7,8]) (sIf (tNot (tE (az self (ae (eV 0) (ae (eV 1) (ae (az KH.fn_with_place (ae (eV 2) (ae (eV 4) (ae (eV 7) ay)))) (ae (eV 8) ay))))))) (sRet (eC (.bl false))) sNext)) (sRet (eC (.bl true))))))))))
def fn_lets_by_beside:Nat->List D->Res D
 | 0=>λ _=>.bad
 | k+1=>fn 4 9 (b_lets_by_beside (fn_lets_by_beside k))
def b_lets_by:SF:=(aI (sSet 4 (az KB.fn_fast_seating (ae (eV 0) (ae (eV 1) (ae (eV 3) ay))))) (sRet (az (fn_lets_by_beside 9) (ae (eV 1) (ae (az fn_all_places (ae (eV 0) (ae (eV 1) ay))) (ae (eV 4) (ae (eV 2) ay)))))))
def fn_lets_by:List D->Res D:=fn 4 5 b_lets_by
def b_paper_beside(self:List D->Res D):SF:=(aI (sSet 3 (eL (lComp (iRng1 (eU oLen (eW 0))) 1 [2] (gName 0) (tE (eU oIsN (eB oIx (eW 1) (eW 0)))) (eV 0)))) (aI (sSet 4 (eExt false .bad (eW 3) [0,1,2] (eU oLen (az fn_spots_of (ae (eV 1) (ae (eV 2) (ae (eV 3) (ae (eV 0) ay)))))))) (aI (sSet 5 (az fn_spots_of (ae (eV 0) (ae (eV 1) (ae (eV 2) (ae (eV 4) ay)))))) (aI (sIf (tE (eB oEq (eW 5) (eTup ay))) (sRet (eTup (ae (eC (.str [115,116,117,99,107])) (ae (eV 4) ay)))) sNext) (aI (sSet 6 (eL (lComp (iSeq (eW 5)) 1 [0,1,2,4] (gName 0) tTrue (az self (ae (eV 1) (ae (eV 2) (ae (az KH.fn_with_place (ae (eV 3) (ae (eV 4) (ae (eV 0) ay)))) ay))))))) (sRet (eTup (ae (eC (.str [101,97,99,104])) (ae (eV 4) (ae (eU oTuple (eW 6)) ay))))))))))
def fn_paper_beside:Nat->List D->Res D
 | 0=>λ _=>.bad
 | k+1=>fn 3 7 (b_paper_beside (fn_paper_beside k))
def b_paper_of:SF:=(aI (sIf (tE (eU oNotN (az fn_first_of_all (ae (eV 0) (ae (eV 1) (ae (eV 2) ay)))))) (sRet (eC .non)) sNext) (sRet (az (fn_paper_beside 9) (ae (eV 1) (ae (az fn_all_places (ae (eV 0) (ae (eV 1) ay))) (ae (az KB.fn_fast_seating (ae (eV 0) (ae (eV 1) (ae (eV 2) ay)))) ay))))))
def fn_paper_of:List D->Res D:=fn 3 3 b_paper_of
end KC
end
set_option maxRecDepth 8000
namespace KC
open Z KG KB
open KH
def nN(xs:List GO):Nat:=xs.countP λ x=>x.2.isNone
section
variable {rows:Rows}{C:Nat}{xs:List GO}
def NoRoom(rows:Rows)(xs:List GO):Prop:=∀z,Ext xs z->Good rows z->∃(i:Nat)(g:G),z[i]?=some (g,none)
theorem ext_put{cs:List GO}{k:Nat}{g:G}(hk:cs[k]?=some (g,none))(p:Pl):Ext cs (cs.set k (g,some p)):=by
 have hl:k < cs.length:=(List.getElem?_eq_some_iff.mp hk).1;refine⟨?_,λ i g' q hi=>?_⟩
 ·refine List.ext_getElem? λ i=>?_;rw[List.getElem?_map,List.getElem?_map,List.getElem?_set];split
  ·rename_i ei;subst ei;rw[hk];rfl
  ·rfl
 ·rw[List.getElem?_set];split
  ·rename_i ej;subst ej;rw[hk]at hi;cases hi
  ·exact hi
theorem NoRoom.put(h:NoRoom rows xs){k:Nat}{g:G}(hk:xs[k]?=some (g,none))(p:Pl):NoRoom rows (xs.set k (g,some p)):=λ z e gz =>
 have e1:=ext_put hk p
 h z ⟨e1.gs.trans e.gs,λ i g p q=>e.sub i g p (e1.sub i g p q)⟩ gz
end
end KC
set_option maxRecDepth 4000
noncomputable section
namespace K50
open Z KG KH KB KC
def t_0_K50:List Nat:=[116,104,111,115,101,32,116,104,97,116,32,97,114,101,32,116,111,108,100,32,102,97,115,116,32,100,111,110,39,116,32,107,101,101,112,32,116,104,101,32,104,97,108,108]
def b_law_keeps:SF:=(aI (sFor (iRng1 (eU oLen (eW 1))) (gName 3) (sIf (tAnd (tE (eU oNotN (eB oIx (eW 2) (eW 3)))) (tE (eB oNotIn (eB oIx (eW 2) (eW 3)) (az KH.fn_law_open (ae (eV 0) (ae (eV 1) (ae (eV 2) (ae (eV 3) ay)))))))) (sRet (eC (.bl false))) sNext)) (sRet (eC (.bl true))))
def fn_law_keeps:List D->Res D:=fn 3 4 b_law_keeps
theorem fe_law_keeps(x0 x1 x2:D):fn_law_keeps [x0,x1,x2]=retK (b_law_keeps [some (.val x0),some (.val x1),some (.val x2),none]):=fn_a _ _ _ _ rfl
def b_law_off:SF:=(aI (sSet 2 (eL (lComp (iRng1 (eU oLen (eW 0))) 1 [0] (gName 0) (tE (eU oNotN (eB oIx (eW 1) (eW 0)))) (eV 0)))) (aI (sIf (tOr (tE (eB oEq (eW 2) (eL (lDisp ay)))) (tE (eB oEq (eB oMod (eW 1) (eC (.int 2))) (eC (.int 0))))) (sRet (eV 0)) sNext) (aI (sSet 3 (eB oIx (eW 2) (eB oMod (eB oDiv (eW 1) (eC (.int 2))) (eU oLen (eW 2))))) (aI (sGet (eB oIx (eW 0) (eW 3)) (gSeq [4,5])) (aI (sSet 6 (eB oIx (eL (lDisp (ae (eTup (ae (eC (.int 0)) (ae (eC (.int 1)) ay))) (ae (eTup (ae (eC (.int 1)) (ae (eC (.int 0)) ay))) (ae (eTup (ae (eC (.int 0)) (ae (eU oNeg (eC (.int 1))) ay))) (ae (eTup (ae (eU oNeg (eC (.int 1))) (ae (eC (.int 0)) ay))) (ae (eTup (ae (eC (.int 0)) (ae (eC (.int 13)) ay))) (ae (eTup (ae (eC (.int 7)) (ae (eC (.int 0)) ay))) ay)))))))) (eB oMod (eB oDiv (eW 1) (eC (.int 14))) (eC (.int 6))))) (sRet (az KH.fn_law_with (ae (eV 0) (ae (eV 3) (ae (eTup (ae (eB oAdd (eW 4) (eB oIx (eW 6) (eC (.int 0)))) (ae (eB oAdd (eW 5) (eB oIx (eW 6) (eC (.int 1)))) ay))) ay))))))))))
def fn_law_off:List D->Res D:=fn 2 7 b_law_off
theorem fe_law_off(x0 x1:D):fn_law_off [x0,x1]=retK (b_law_off [some (.val x0),some (.val x1),none,none,none,none,none]):=fn_a _ _ _ _ rfl
def b_law_product:SF:=(aI (sSet 2 (eC (.int 1))) (aI (sFor (iZip (eV 0) (eV 1)) (gTup [3,4]) (sIf (tE (eU oIsN (eW 4))) (sSet 2 (eB oMul (eW 2) (eB oAdd (eC (.int 1)) (eU oLen (eW 3))))) sNext)) (sRet (eV 2))))
def fn_law_product:List D->Res D:=fn 2 5 b_law_product
theorem fe_law_product(x0 x1:D):fn_law_product [x0,x1]=retK (b_law_product [some (.val x0),some (.val x1),none,none,none]):=fn_a _ _ _ _ rfl
def b_law_told:SF:=(sRet (eAnd (eU (oIsTy .int) (eW 0)) (eAnd (eNot (eU (oIsTy .bool) (eW 0))) (eB oEq (eW 0) (eW 1)))))
def fn_law_told:List D->Res D:=fn 2 2 b_law_told
theorem fe_law_told(x0 x1:D):fn_law_told [x0,x1]=retK (b_law_told [some (.val x0),some (.val x1)]):=fn_a _ _ _ _ rfl
def b_law_apart_from_all:SF:=(aI (sIf (tOr (tE (eIsX 0 (isx [78,111,83,101,97,116,105,110,103] false))) (tOr (tE (eIsX 0 (isx [78,111,83,101,97,116,105,110,103] false))) (tOr (tE (eIsX 0 (isx [78,111,83,101,97,116,105,110,103] false))) (tE (eIsX 0 (isx [78,111,83,101,97,116,105,110,103] false)))))) (sRet (eC (.bl false))) sNext) (aI (sIf (tOr (tE (eIsX 0 (isx [78,111,83,101,97,116,105,110,103] false))) (tOr (tE (eIsX 0 (isx [78,111,83,101,97,116,105,110,103] false))) (tOr (tE (eIsX 0 (isx [78,111,83,101,97,116,105,110,103] false))) (tE (eIsX 0 (isx [78,111,83,101,97,116,105,110,103] false)))))) (sRet (eC (.bl false))) sNext) (sRet (eAnd (eIsX 0 (isx [78,111,83,101,97,116,105,110,103] true)) (eIsX 0 (isx [78,111,83,101,97,116,105,110,103] true))))))
def fn_law_apart_from_all:XN->Res D:=fnE 1 b_law_apart_from_all
theorem fe_law_apart_from_all(c:XN):fn_law_apart_from_all c=retK (b_law_apart_from_all [some (.exc c)]):=rfl
def xb_fast_seating:XF:=(xSeq (sSet 3 (eIf (tE (eU oIsN (eW 2))) (eB oRepT (eTup (ae (eC .non) ay)) (eU oLen (eW 1))) (eV 2))) xNo (xSeq (sIf (tNot (tE (az KG.fn_keeps (ae (eV 0) (ae (eV 1) (ae (eV 3) ay)))))) sBad sNext) (xIf (tNot (tE (az KG.fn_keeps (ae (eV 0) (ae (eV 1) (ae (eV 3) ay)))))) (xRaise [78,111,83,101,97,116,105,110,103] (eC (.str t_0_K50))) xNo) xNo))
def fx_fast_seating:List D->Option XN:=fx 3 4 xb_fast_seating
theorem fxe_fast_seating(x0 x1 x2:D):fx_fast_seating [x0,x1,x2]=xb_fast_seating [some (.val x0),some (.val x1),some (.val x2),none]:=fx_a _ _ _ _ rfl
def xb_ways:XF:=(xSeq (sSet 3 (eC (.int 1))) xNo (xSeq (sFor (iZip (eV 1) (az KB.fn_fast_seating (ae (eV 0) (ae (eV 1) (ae (eV 2) ay))))) (gTup [4,5]) (sIf (tE (eU oIsN (eW 5))) (sSet 3 (eB oMul (eV 3) (eB oAdd (eU oLen (az KG.fn_places_of (ae (eV 0) (ae (eV 4) ay)))) (eC (.int 1))))) sNext)) (xTl (eV 1) (xCall fx_fast_seating (ae (eV 0) (ae (eV 1) (ae (eV 2) ay))))) xNo))
def fx_ways:List D->Option XN:=fx 3 6 xb_ways
theorem fxe_ways(x0 x1 x2:D):fx_ways [x0,x1,x2]=xb_ways [some (.val x0),some (.val x1),some (.val x2),none,none,none]:=fx_a _ _ _ _ rfl
def xb_small_start:XF:=(xSeq (sSet 3 (az KB.fn_ways (ae (eV 0) (ae (eV 1) (ae (eV 2) ay))))) (xCall fx_ways (ae (eV 0) (ae (eV 1) (ae (eV 2) ay)))) (xSeq (sIf (tE (eB oGt (eW 3) (eC (.int 2000)))) sBad sNext) xNo (xCall fx_fast_seating (ae (eV 0) (ae (eV 1) (ae (eV 2) ay))))))
def fx_small_start:List D->Option XN:=fx 3 4 xb_small_start
theorem fxe_small_start(x0 x1 x2:D):fx_small_start [x0,x1,x2]=xb_small_start [some (.val x0),some (.val x1),some (.val x2),none]:=fx_a _ _ _ _ rfl
def xb_first_of_all:XF:=(xSeq (sSet 3 (az KB.fn_seatings_from (ae (eV 0) (ae (eV 1) (ae (az KB.fn_small_start (ae (eV 0) (ae (eV 1) (ae (eV 2) ay)))) (ae (eC (.bl false)) ay)))))) (xTl (eV 0) (xTl (eV 1) (xCall fx_small_start (ae (eV 0) (ae (eV 1) (ae (eV 2) ay)))))) xNo)
def fx_first_of_all:List D->Option XN:=fx 3 4 xb_first_of_all
theorem fxe_first_of_all(x0 x1 x2:D):fx_first_of_all [x0,x1,x2]=xb_first_of_all [some (.val x0),some (.val x1),some (.val x2),none]:=fx_a _ _ _ _ rfl
def xb_lets_by:XF:=(xSeq (sSet 4 (az KB.fn_fast_seating (ae (eV 0) (ae (eV 1) (ae (eV 3) ay))))) (xCall fx_fast_seating (ae (eV 0) (ae (eV 1) (ae (eV 3) ay)))) xNo)
def fx_lets_by:List D->Option XN:=fx 4 5 xb_lets_by
theorem fxe_lets_by(x0 x1 x2 x3:D):fx_lets_by [x0,x1,x2,x3]=xb_lets_by [some (.val x0),some (.val x1),some (.val x2),some (.val x3),none]:=fx_a _ _ _ _ rfl
def xb_paper_of:XF:=(xSeq (sIf (tE (eU oNotN (az KC.fn_first_of_all (ae (eV 0) (ae (eV 1) (ae (eV 2) ay)))))) (sRet (eC .non)) sNext) (xCall fx_first_of_all (ae (eV 0) (ae (eV 1) (ae (eV 2) ay)))) (xTl (eV 1) (xTl (az KC.fn_all_places (ae (eV 0) (ae (eV 1) ay))) (xCall fx_fast_seating (ae (eV 0) (ae (eV 1) (ae (eV 2) ay)))))))
def fx_paper_of:List D->Option XN:=fx 3 3 xb_paper_of
theorem fxe_paper_of(x0 x1 x2:D):fx_paper_of [x0,x1,x2]=xb_paper_of [some (.val x0),some (.val x1),some (.val x2)]:=fx_a _ _ _ _ rfl
def b_law_refused:SF:=(aI (sSet 4 (eC (.bl false))) (aI (sTry (sIf (tE (eB oEq (eW 0) (eC (.int 0)))) (sDrop (az KB.fn_ways (ae (eV 1) (ae (eV 2) (ae (eV 3) ay))))) (sIf (tE (eB oEq (eW 0) (eC (.int 1)))) (sDrop (az KC.fn_first_of_all (ae (eV 1) (ae (eV 2) (ae (eV 3) ay))))) (sIf (tE (eB oEq (eW 0) (eC (.int 2)))) (sDrop (az KC.fn_paper_of (ae (eV 1) (ae (eV 2) (ae (eV 3) ay))))) (sDrop (az KC.fn_lets_by (ae (eV 1) (ae (eV 2) (ae (eTup (ae (eC (.str [115,116,117,99,107])) (ae (eC (.int 0)) ay))) (ae (eV 3) ay))))))))) (xIf (tE (eB oEq (eW 0) (eC (.int 0)))) (xCall fx_ways (ae (eV 1) (ae (eV 2) (ae (eV 3) ay)))) (xIf (tE (eB oEq (eW 0) (eC (.int 1)))) (xCall fx_first_of_all (ae (eV 1) (ae (eV 2) (ae (eV 3) ay)))) (xIf (tE (eB oEq (eW 0) (eC (.int 2)))) (xCall fx_paper_of (ae (eV 1) (ae (eV 2) (ae (eV 3) ay)))) (xCall fx_lets_by (ae (eV 1) (ae (eV 2) (ae (eTup (ae (eC (.str [115,116,117,99,107])) (ae (eC (.int 0)) ay))) (ae (eV 3) ay)))))))) [78,111,83,101,97,116,105,110,103] 5 (sSet 4 (eCallE fn_law_apart_from_all 5))) (sRet (eV 4))))
def fn_law_refused:List D->Res D:=fn 4 6 b_law_refused
theorem fe_law_refused(x0 x1 x2 x3:D):fn_law_refused [x0,x1,x2,x3]=retK (b_law_refused [some (.val x0),some (.val x1),some (.val x2),some (.val x3),none,none]):=fn_a _ _ _ _ rfl
def b_law:SF:=(aI (sGet (az KH.fn_law_hall (ae (eV 0) ay)) (gSeq [1,2,3])) (aI (sSet 4 (az KH.fn_law_groups (ae (eV 0) (ae (eV 2) (ae (eV 3) ay))))) (aI (sSet 5 (eL (lComp (iSeq (eW 4)) 1 [1] (gName 0) tTrue (az KH.fn_law_places (ae (eV 1) (ae (eV 0) ay)))))) (aI (sSet 6 (az KH.fn_law_seated (ae (eV 5) (ae (eV 4) (ae (eV 0) ay))))) (aI (sSet 7 (eU oTuple (eL (lComp (iSeq (eW 4)) 1 [] (gName 0) tTrue (eC .non))))) (aI (sFor (iSeq (eL (lDisp (ae (eC .non) (ae (eV 7) ay))))) (gName 8) (sIf (tNot (tE (az fn_law_told (ae (az KB.fn_ways (ae (eV 1) (ae (eV 4) (ae (eV 8) ay)))) (ae (az fn_law_product (ae (eV 5) (ae (eV 7) ay))) ay))))) (sRet (eC (.bl false))) sNext)) (aI (sIf (tNot (tE (az fn_law_told (ae (az (withN KB.fn_ways) (ae (eV 1) (ae (eV 4) ay))) (ae (az fn_law_product (ae (eV 5) (ae (eV 7) ay))) ay))))) (sRet (eC (.bl false))) sNext) (aI (sSet 8 (az KH.fn_law_fast (ae (eV 6) (ae (az KG.fn_law_mixed (ae (eB oAdd (az KG.aL (ae (eV 0) (ae (eC (.int 16)) ay))) (az KG.aL (ae (eV 0) (ae (eC (.int 0)) ay)))) (ae (eC (.int 5)) ay))) ay)))) (aI (sIf (tNot (tE (az fn_law_told (ae (az KB.fn_ways (ae (eV 1) (ae (eV 4) (ae (eV 8) ay)))) (ae (az fn_law_product (ae (eV 5) (ae (eV 8) ay))) ay))))) (sRet (eC (.bl false))) sNext) (aI (sSet 9 (az fn_law_off (ae (eV 8) (ae (eB oDiv (az KG.aL (ae (eV 0) (ae (eC (.int 1)) ay))) (eC (.int 64))) ay)))) (aI (sIf (tE (az fn_law_keeps (ae (eV 5) (ae (eV 4) (ae (eV 9) ay))))) (sRet (az fn_law_told (ae (az KB.fn_ways (ae (eV 1) (ae (eV 4) (ae (eV 9) ay)))) (ae (az fn_law_product (ae (eV 5) (ae (eV 9) ay))) ay)))) sNext) (aI (sFor (iRng1 (eC (.int 4))) (gName 10) (sIf (tNot (tE (az fn_law_refused (ae (eV 10) (ae (eV 1) (ae (eV 4) (ae (eV 9) ay))))))) (sRet (eC (.bl false))) sNext)) (sRet (az fn_law_told (ae (az KB.fn_ways (ae (eV 1) (ae (eV 4) (ae (eV 8) ay)))) (ae (az fn_law_product (ae (eV 5) (ae (eV 8) ay))) ay))))))))))))))))
def fn_law:List D->Res D:=fn 1 11 b_law
theorem fe_law(x0:D):fn_law [x0]=retK (b_law [some (.val x0),none,none,none,none,none,none,none,none,none,none]):=fn_a _ _ _ _ rfl
end K50
end
set_option maxRecDepth 8000
namespace K50
open Z KG KB KC
open KH
theorem keeps_good{rows:Rows}{xs:List GO}(h:keepsB rows (sit xs)=true):Good rows xs:=by
 obtain⟨h1,h2⟩:=keepsB_iff.mp h;rw[sit_pair,List.pairwise_iff_getElem]at h2;intro i g p e;refine⟨h1 (g,p) (mem_sit.mpr (List.mem_of_getElem? e)),λ j hh q ej hj=>?_⟩;obtain⟨hi,ei⟩:=List.getElem?_eq_some_iff.mp e;obtain⟨hj',ej'⟩:=List.getElem?_eq_some_iff.mp ej;rcases Nat.lt_or_gt_of_ne hj with l | l
 ·have:=h2 j i hj' hi l q p (by rw[ej']) (by rw[ei]);rw[ei,ej']at this;exact this
 ·have:=h2 i j hi hj' l p q (by rw[ei]) (by rw[ej']);rw[ei,ej']at this;rw[apart_sym];exact this
theorem eqD_pl(p q:Pl):eqD (aN p) (aN q)=some (decide (p=q)):=by obtain⟨a,b⟩:=p;obtain⟨c,d⟩:=q;show allEq (eqDn 5) [.int a,.int b] [.int c,.int d]=_;simp only[allEq,eqDn,eqS];by_cases h1:a=c<;>by_cases h2:b=d<;>simp[h1,h2]
theorem any_pl(p:Pl):∀ps:List Pl,anyEq (aN p) (ps.map aN)=some (decide (p∈ps))
 | []=>rfl
 | q :: ps=>by
  show(match eqD (aN q) (aN p),anyEq (aN p) (ps.map aN)with | some x,some y=>some (x || y) | _,_=>none)=_;rw[any_pl p ps,eqD_pl];simp only[List.mem_cons,Bool.decide_or]
  congr 2
  rw[Bool.eq_iff_iff];simp[eq_comm]
def okK(rows:Rows)(C:Nat)(ys:List GO)(k:Nat):Bool:=match ys[k]? with
 | some (g,some p)=>decide (p∈openL rows C ys g k)
 | _=>true
theorem okK_good{rows:Rows}{C:Nat}(H:Hall rows C){ys:List GO}(hg:∀x∈ys,GOk x.1):(List.range ys.length).all (okK rows C ys)=true↔Good rows ys:=by
 rw[List.all_eq_true];constructor
 ·intro h i g p e;have hi:=(List.getElem?_eq_some_iff.mp e).1;have:=h i (List.mem_range.mpr hi);unfold okK at this;rw[e]at this;obtain⟨m1,m2⟩:=List.mem_filter.mp (of_decide_eq_true this);exact⟨KH.mem_places_KH m1,λ j hh q ej hj=>openAt_iff.mp m2 j hh q ej hj⟩
 ·intro h i _;unfold okK;split
  ·rename_i g p e;obtain⟨f,a⟩:=h i g p e;exact decide_eq_true (List.mem_filter.mpr ⟨fits_mem H (hg _ (List.mem_of_getElem? e)) f,openAt_iff.mpr λ j hh q ej hj=>a j hh q ej hj⟩)
  ·rfl
theorem law_keeps_ok_K50{rows : Rows}{C : Nat}(H : Hall rows C){ys : List GO}(h6 : ys.length ≤ 6): fn_law_keeps [spotsD rows C ys, encGs ys, encOs ys] = .ok (.bl ((List.range ys.length).all (okK rows C ys))) := by
 rw[fe_law_keeps];refine ret_ok ?_;have hl:oLen (encGs ys)=.ok (.int ys.length):=by simp[encGs]
 have el:zints 0 ys.length=(List.range ys.length).map λ n=>D.int (n:Nat):=by rw[ints_map];refine List.map_congr_left λ n _=>?_;simp
 simp[b_law_keeps,hl];rw[el];refine for_at (λ i ρ=>∃x:Option L,ρ=[v (spotsD rows C ys),v (encGs ys),v (encOs ys),x]∧(List.range i).all (okK rows C ys)=true) ⟨none,rfl,rfl⟩ ?_ ?_
 ·rintro j d ρ hj ⟨x,rfl,hall⟩;rw[List.getElem?_map]at hj;obtain⟨k,hk,rfl⟩:=Option.map_eq_some_iff.mp hj;have hjl:j < ys.length:=by have:=(List.getElem?_eq_some_iff.mp hk).1;simpa using this
  rw[List.getElem?_range hjl]at hk;cases hk;obtain⟨⟨g,o⟩,e⟩:∃x,ys[j]?=some x:=⟨_,List.getElem?_eq_getElem hjl⟩
  have ix:oIx (encOs ys) (.int (j:Nat))=.ok (encO o):=(ix_at (xs:=ys.map λ y:GO=>encO y.2) (i:=j) (j:=j) rfl (by rw[List.getElem?_map,e];rfl)).1;have so:=KH.open_ok H h6 e;have nxt:okK rows C ys j=true->(List.range (j+1)).all (okK rows C ys)=true:=λ h=>by rw[List.range_succ,List.all_append,hall];simp[h]
  cases o with
  | none =>have:=nxt (by unfold okK;rw[e]);simp[ix,this]
  | some p =>
   have en:oNotN (aN p)=.ok (.bl true):=rfl;have ni:oNotIn (aN p) (.lst ((openL rows C ys g j).map aN))=.ok (.bl (!decide (p∈openL rows C ys g j))):=by show(match anyEq (aN p) ((openL rows C ys g j).map aN)with | some b=>Res.ok (D.bl !b) | none=>Res.bad)=_;rw[any_pl]
   have ek:okK rows C ys j=decide (p∈openL rows C ys g j):=by unfold okK;rw[e]
   by_cases hp:p∈openL rows C ys g j
   ·have:=nxt (by rw[ek];exact decide_eq_true hp);simp[ix,encO,en,so,ni,hp,this]
   ·have hf:(List.range ys.length).all (okK rows C ys)=false:=by rw[List.all_eq_false];exact⟨j,List.mem_range.mpr hjl,by rw[ek];simpa using hp⟩
    simp[ix,encO,en,so,ni,hp,hf]
 ·rintro ρ ⟨x,rfl,hall⟩;rw[List.length_map,List.length_range]at hall;simp[hall]
abbrev cNS:XN:=([78,111,83,101,97,116,105,110,103],[])
section
variable {rows:Rows}{C:Nat}{ys:List GO}
theorem x_fast(H:Hall rows C)(h6:ys.length≤6)(hg:∀x∈ys,GOk x.1)(hb:¬Good rows ys):fx_fast_seating [encH rows,encGs ys,encOs ys]=some cNS:=by
 rw[fxe_fast_seating];have kf:keepsB rows (sit ys)=false:=by
  cases e:keepsB rows (sit ys)with
  | false=>rfl
  | true=>exact absurd (keeps_good e) hb
 have ke:=keeps_ok H h6 hg;rw[kf]at ke;have ke':KG.fn_keeps [encH rows,encGs ys,encOs ys]=.ok (.bl false):=ke;have hN:oIsN (encOs ys)=.ok (.bl false):=rfl;simp[xb_fast_seating,xSeq,xNo,xIf,xRaise,hN,ke',cNS]
theorem x_ways(h:fx_fast_seating [encH rows,encGs ys,encOs ys]=some cNS):fx_ways [encH rows,encGs ys,encOs ys]=some cNS:=by rw[fxe_ways];simp[xb_ways,xSeq,xNo,xTl,xCall,h]
theorem x_small(h:fx_fast_seating [encH rows,encGs ys,encOs ys]=some cNS):fx_small_start [encH rows,encGs ys,encOs ys]=some cNS:=by rw[fxe_small_start];simp[xb_small_start,xSeq,xCall,x_ways h]
theorem x_first(h:fx_fast_seating [encH rows,encGs ys,encOs ys]=some cNS):fx_first_of_all [encH rows,encGs ys,encOs ys]=some cNS:=by rw[fxe_first_of_all];simp[xb_first_of_all,xSeq,xTl,xCall,x_small h]
theorem apart_ok':fn_law_apart_from_all cNS=.ok (.bl true):=by rw[fe_law_apart_from_all];refine ret_ok ?_;simp[b_law_apart_from_all,eIsX,isx,cNS]
theorem refused_ok(h:fx_fast_seating [encH rows,encGs ys,encOs ys]=some cNS){w:Nat}(hw:w < 4):fn_law_refused [.int (w:Nat),encH rows,encGs ys,encOs ys]=.ok (.bl true):=by
 have b1:=x_ways h;have b2:=x_first h;have b3:fx_paper_of [encH rows,encGs ys,encOs ys]=some cNS:=by rw[fxe_paper_of];simp[xb_paper_of,xSeq,xCall,b2]
 have b4:fx_lets_by [encH rows,encGs ys,.tup [.str [115,116,117,99,107],.int 0],encOs ys]=some cNS:=by rw[fxe_lets_by];simp[xb_lets_by,xSeq,xCall,h]
 have eq:∀a b:Int,oEq (.int a) (.int b)=.ok (.bl (decide (a=b))):=λ a b=>by by_cases h:a=b<;>simp[oEq,eqD,eqDn,eqS,h]
 have ap:=apart_ok';rw[fe_law_refused];refine ret_ok ?_
 match w,hw with
 | 0,_=>simp[b_law_refused,sTry,xIf,xCall,eq,b1,eCallE,ap]
 | 1,_=>simp[b_law_refused,sTry,xIf,xCall,eq,b2,eCallE,ap]
 | 2,_=>simp[b_law_refused,sTry,xIf,xCall,eq,b3,eCallE,ap]
 | 3,_=>simp[b_law_refused,sTry,xIf,xCall,eq,b4,line,eCallE,ap]
end
theorem product_ok{rows:Rows}{C:Nat}(H:Hall rows C){xs:List GO}(h6:xs.length≤6):fn_law_product [spotsD rows C xs,encOs xs]=.ok (.int (waysN rows C xs)):=by
 rw[fe_law_product];refine ret_ok ?_;simp[b_law_product];unfold spotsD encOs at *;simp[zip_map];refine for_at (λ i ρ=>∃(x4 x5:Option L),ρ=[v (.lst (xs.map λ x=>.lst ((places rows C x.1).map aN))),v (.tup (xs.map λ x=>encO x.2)),vi (prodL ((xs.take i).map (wayN rows C)):Nat),x4,x5]) ⟨none,none,rfl⟩ ?_ ?_
 ·rintro j d ρ hj ⟨x4,x5,rfl⟩;rw[List.getElem?_map]at hj;obtain⟨⟨g,o⟩,hx,rfl⟩:=Option.map_eq_some_iff.mp hj;have gX:∀ρ:Env,gTup [3,4] (.tup [.lst ((places rows C g).map aN),encO o]) ρ=.ok ((ρ.set 3 (v (.lst ((places rows C g).map aN)))).set 4 (v (encO o))):=λ ρ=>rfl;rw[ways_snoc hx];generalize prodL ((xs.take j).map (wayN rows C))=m;cases o with
  | some p =>have en:oIsN (aN p)=.ok (.bl false):=rfl;simp[gX,encO,en,wayN]
  | none =>have hpl:=places_len H g;rw[show wayN rows C (g,none)=(places rows C g).length+1 from rfl];generalize places rows C g=ps at hpl gX ⊢;have q1:mulFits (m:Int) (1+(ps.length:Int)):=Or.inr (Or.inl ⟨by lia,by lia⟩);simp[gX,encO,q1];rw[Int.add_comm]
 ·rintro ρ ⟨x4,x5,rfl⟩;rw[List.length_map,List.take_length];simp[waysN]
theorem told_ok(n:Nat):fn_law_told [.int (n:Nat),.int (n:Nat)]=.ok (.bl true):=by
 rw[fe_law_told];refine ret_ok ?_;have t1:isTy .int (.int (n:Nat))=true:=rfl;have t2:isTy .bool (.int (n:Nat))=false:=rfl;have eq:oEq (.int (n:Nat)) (.int (n:Nat))=.ok (.bl true):=by simp[oEq,eqD,eqDn,eqS]
 simp[b_law_told,t1,t2,eq]
def satB(zs:List GO)(k:Nat):Bool:=match zs[k]? with
 | some (_,some _)=>true
 | _=>false
theorem satB_at{zs:List GO}{k:Nat}(h:satB zs k=true):∃g p,zs[k]?=some (g,some p):=by
 unfold satB at h;split at h
 ·rename_i g p e;exact⟨g,p,e⟩
 ·cases h
theorem ints_eq(ks:List Nat):oEq (.lst (ks.map λ n=>D.int (n:Nat))) (.lst [])=.ok (.bl ks.isEmpty):=by cases ks<;>rfl
theorem off_ok{xs:List GO}(h6:xs.length≤6)(c:Int):∃ys:List GO,ys.map (·.1)=xs.map (·.1)∧fn_law_off [encOs xs,.int c]=.ok (encOs ys):=by
 rw[fe_law_off];have hl:oLen (encOs xs)=.ok (.int xs.length):=by simp[encOs]
 have hx:xs.length≤16777216:=by lia
 have el:zints 0 xs.length=(List.range xs.length).map λ n=>D.int (n:Nat):=by rw[ints_map];refine List.map_congr_left λ n _=>?_;simp
 have ixO:∀{k:Nat}{g:G}{o:Option Pl},xs[k]?=some (g,o)->oIx (encOs xs) (.int (k:Nat))=.ok (encO o):=λ {k g o} e=>(ix_at (xs:=xs.map λ y:GO=>encO y.2) (i:=k) (j:=k) rfl (by rw[List.getElem?_map,e];rfl)).1;have cm:lComp (iRng1 (eU oLen (eW 0))) 1 [0] (gName 0) (tE (eU oNotN (eB oIx (eW 1) (eW 0)))) (eV 0) [v (encOs xs),v (.int c),none,none,none,none,none]=.ok (((List.range xs.length).filter (satB xs)).map λ n=>D.int (n:Nat)):=by
  refine Ok.eq ?_;simp[lComp_a,line,capt_a,capt1_a,hl,hx];rw[el];refine comp_enc (λ n:Nat=>D.int (n:Nat)) (satB xs) (λ n=>D.int (n:Nat)) (xs:=List.range xs.length) (λ k hk=>?_) rfl;have hk':k < xs.length:=List.mem_range.mp hk;obtain⟨⟨g,o⟩,e⟩:∃x,xs[k]?=some x:=⟨_,List.getElem?_eq_getElem hk'⟩
  cases o with
  | none=>simp[ixO e,satB,e]
  | some p =>have en:oNotN (aN p)=.ok (.bl true):=rfl;simp[ixO e,encO,en,satB,e]
 have mem:∀k∈(List.range xs.length).filter (satB xs),∃g p,xs[k]?=some (g,some p):=λ k hk=>satB_at (List.mem_filter.mp hk).2;have md:∀x b:Int,0 < b->oMod (.int x) (.int b)=.ok (.int (x % b)):=λ x b h1=>guard_pos h1;have dv:∀b:Int,0 < b->b < 1000->oDiv (.int c) (.int b)=.ok (.int (c / b)):=λ b h1 h2=>by show guard (divFits b) (Res.ok (D.int (c / b)))=_;exact guard_pos ⟨h1,Int.lt_trans h2 (by decide)⟩
 have eq:∀a b:Int,oEq (.int a) (.int b)=.ok (.bl (decide (a=b))):=λ a b=>by by_cases h:a=b<;>simp[oEq,eqD,eqDn,eqS,h]
 generalize hks:(List.range xs.length).filter (satB xs)=ks at cm mem;cases ks with
 | nil =>refine⟨xs,rfl,ret_ok ?_⟩;have e0:=ints_eq [];simp only[List.map_nil,List.isEmpty_nil]at cm e0;simp[b_law_off,cm,line,e0]
 | cons k0 kr =>
  have e0:=ints_eq (k0 :: kr);generalize hL:k0 :: kr=L at cm mem e0;have hne:L.isEmpty=false:=by rw[<-hL];rfl
  rw[hne]at e0;have hlp:0 < L.length:=by rw[<-hL];simp
  by_cases hev:c % 2=0
  ·refine⟨xs,rfl,ret_ok ?_⟩;simp[b_law_off,cm,line,e0,md c 2 (by decide),eq,hev]
  have h1:0≤c / 2 % (L.length:Nat):=Int.emod_nonneg _ (by lia);have h2:c / 2 % (L.length:Nat) < (L.length:Nat):=Int.emod_lt_of_pos _ (by lia);obtain⟨d,hd,ik,_⟩:=ix_some (xs:=L.map λ n=>D.int (n:Nat)) h1 (by simpa using h2);obtain⟨k,hk,rfl⟩:=List.mem_map.mp hd;obtain⟨g,p,ek⟩:=mem k hk;have hlen:oLen (.lst (L.map λ n=>D.int (n:Nat)))=.ok (.int (L.length:Nat)):=by simp
  obtain⟨q,hq⟩:∃q:Pl,oIx (.lst [aN (0,1),aN (1,0),aN (0,-1),aN (-1,0),aN (0,13),aN (7,0)]) (.int (c / 14 % 6))=.ok (aN q):=by have h1:0≤c / 14 % 6:=Int.emod_nonneg _ (by decide);have h2:c / 14 % 6 < 6:=Int.emod_lt_of_pos _ (by decide);obtain⟨d,hd,e,_⟩:=ix_some (xs:=[aN (0,1),aN (1,0),aN (0,-1),aN (-1,0),aN (0,13),aN (7,0)]) h1 h2;simp only[List.mem_cons,List.not_mem_nil,or_false]at hd;rcases hd with rfl | rfl | rfl | rfl | rfl | rfl<;>exact⟨_,e⟩
  have hq':oIx (.lst [.tup [.int 0,.int 1],.tup [.int 1,.int 0],.tup [.int 0,.int (-1)],.tup [.int (-1),.int 0],.tup [.int 0,.int 13],.tup [.int 7,.int 0]]) (.int (c / 14 % 6))=.ok (aN q):=hq;have wp:=(withP_ok h6 ek (p.1+q.1,p.2+q.2)).2;have wp':KH.fn_law_with [encOs xs,.int (k:Nat),.tup [.int (p.1+q.1),.int (p.2+q.2)]]=_:=wp;refine⟨xs.set k (g,some (p.1+q.1,p.2+q.2)),?_,ret_ok ?_⟩
  ·rw[List.map_set];refine List.ext_getElem? λ i=>?_;rw[List.getElem?_set];split
   ·rename_i hi;subst hi;rw[List.getElem?_map,ek];have:=(List.getElem?_eq_some_iff.mp ek).1;simp[this]
   ·rfl
  ·have gS:∀ρ,gSeq [4,5] (aN p) ρ=.ok ((ρ.set 4 (v (.int p.1))).set 5 (v (.int p.2))):=λ _=>rfl;have i0:oIx (aN q) (.int 0)=.ok (.int q.1):=rfl;have i1:oIx (aN q) (.int 1)=.ok (.int q.2):=rfl;simp[b_law_off,cm,line,e0,md c 2 (by decide),eq,hev,hlen,dv 2 (by decide) (by decide),md (c / 2) _ (show(0:Int) < (L.length:Nat)by lia),ik,ixO ek,encO,gS,dv 14 (by decide) (by decide),md (c / 14) 6 (by decide),hq,hq',i0,i1,wp,wp']
theorem holds(ns:List Int)(hn:ns.length≤63)(hb:∀i∈ns,bits i≤2 ^ 20):fn_law [.lst (ns.map .int)]=.ok (.bl true):=by
 rw[fe_law];refine ret_ok ?_;obtain⟨rows,C,a,b,H,ha,hlb,eh⟩:=KH.hall_ok_KH hb;obtain⟨gs,hg6,hgs0,eg0⟩:=KH.groups_okP hb ha hlb;have hgs:∀g∈gs,GOk g:=λ g h=>(hgs0 g h).toGOk;obtain⟨zs,hzs,hgood,es⟩:=seated_ok H.toHall hb hg6;have hzl:zs.length=gs.length:=by rw[<-hzs,List.length_map]
 obtain⟨c1,ec1,_⟩:=cell_at hb (k:=1) (by decide);obtain⟨c16,ec16,_⟩:=cell_at hb (k:=16) (by decide);obtain⟨c0,ec0,_⟩:=cell_at hb (k:=0) (by decide);obtain⟨m5,em5,_⟩:=mixed (c16+c0) (k:=5) (by decide) (by decide);obtain⟨xs,hxs,hxz,hk,ef⟩:=fastL_ok (rows:=rows) (xs:=zs) (by lia) hgood m5;rw[hzs]at hxs;have hxl:xs.length≤6:=by have:=congrArg List.length hxs;rw[List.length_map]at this;lia
 have hxo:∀x∈xs,GOk x.1:=λ x hx=>hgs x.1 (by rw[<-hxs];exact List.mem_map.mpr ⟨x,hx,rfl⟩);have eG:D.tup (gs.map encG)=encGs xs:=by rw[encGs,<-hxs,List.map_map];rfl
 have eS:D.lst (gs.map λ g=>.lst ((places rows C g).map aN))=spotsD rows C xs:=by rw[spotsD,<-hxs,List.map_map];rfl
 have hl6:gs.length≤16777216:=by lia
 have wx:=ways_ok H.toHall hxl hxo (fast_some H.toHall hxl hxo hk);have px:=product_ok H.toHall hxl
 -- nobody fast
 obtain⟨us,hus⟩:∃us:List GO,us=gs.map λ g=>(g,none):=⟨_,rfl⟩
 have hu1:us.map (·.1)=gs:=by rw[hus,List.map_map];exact List.map_id gs
 have hun:∀x∈us,x.2=none:=λ x hx=>by rw[hus]at hx;obtain⟨g,_,rfl⟩:=List.mem_map.mp hx;rfl
 have hul:us.length≤6:=by rw[hus,List.length_map];exact hg6
 have huo:∀x∈us,GOk x.1:=λ x hx=>hgs x.1 (by rw[<-hu1];exact List.mem_map.mpr ⟨x,hx,rfl⟩);have hug:Good rows us:=λ i g p e=>by have:=hun _ (List.mem_of_getElem? e);cases this
 have eU:encGs us=encGs xs:=gs_enc (hu1.trans hxs.symm);have eUs:spotsD rows C us=spotsD rows C xs:=spots_enc (hu1.trans hxs.symm);have eUo:encOs us=.tup (gs.map λ _=>.non):=by rw[hus,encOs,List.map_map];rfl
 have wu:=ways_ok H.toHall hul huo (fast_some H.toHall hul huo hug);have wn:=ways_ok H.toHall hul huo (fast_none H.toHall hul huo hun);have pu:=product_ok H.toHall hul;rw[eU]at wu wn;rw[eUs]at pu
 -- one that is off
 obtain⟨ys,hy,eo⟩:=off_ok hxl (c1 / 64);have hy6:ys.length≤6:=by have:=congrArg List.length hy;simp only[List.length_map]at this;lia
 have hyo:∀x∈ys,GOk x.1:=λ x hx=>by
  have:x.1∈xs.map (·.1):=by rw[<-hy];exact List.mem_map.mpr ⟨x,hx,rfl⟩
  obtain⟨w,hw,e⟩:=List.mem_map.mp this;rw[<-e];exact hxo w hw
 have eGy:encGs ys=encGs xs:=gs_enc hy;have eSy:spotsD rows C ys=spotsD rows C xs:=spots_enc hy;have lk:=law_keeps_ok_K50 H.toHall hy6;have gd:=okK_good H.toHall hyo;rw[eGy,eSy]at lk;have d64:oDiv (.int c1) (.int 64)=.ok (.int (c1 / 64)):=by show guard (divFits 64) (Res.ok (D.int (c1 / 64)))=_;exact guard_pos ⟨by decide,by decide⟩
 have tu:=told_ok (waysN rows C us);have tx:=told_ok (waysN rows C xs);have gX3:∀(p q r:D)(ρ:Env),gSeq [1,2,3] (.tup [p,q,r]) ρ=.ok (((ρ.set 1 (v p)).set 2 (v q)).set 3 (v r)):=λ _ _ _ _=>rfl;simp -implicitDefEqProofs [b_law,eh,gX3,eg0,lComp_a,line,capt_a,capt1_a,hl6];refine comp_enc encG (λ _=>true) (λ g=>.lst ((places rows C g).map aN)) ?_ ?_
 ·intro g hg;simp[KH.law_places_ok_KH H.toHall (hgs g hg)]
 rw[f_true];rw[eS]at es;rw[eS];rw[eG]at es;simp -implicitDefEqProofs [eG,es];rw[<-eG];refine comp_enc encG (λ _=>true) (λ _=>.non) (λ g hg=>by simp) ?_;rw[f_true,eG,<-eUo];refine for_all (λ ρ=>∃x:Option L,ρ=[v (.lst (ns.map .int)),v (encH rows),v (.str [a]),v (.str [b]),v (encGs xs),v (spotsD rows C xs),v (encOs zs),v (encOs us),x,none,none]) ⟨none,rfl⟩ ?_ ?_
 ·rintro d hd ρ ⟨x,rfl⟩;simp only[List.mem_cons,List.not_mem_nil,or_false]at hd;rcases hd with rfl | rfl
  ·simp -implicitDefEqProofs [wn,pu,tu]
  ·simp -implicitDefEqProofs [wu,pu,tu]
 ·rintro ρ ⟨x,rfl⟩;have e4:zints 0 4=(List.range 4).map λ n=>D.int (n:Nat):=by rw[ints_map];exact List.map_congr_left λ n _=>by simp
  cases hkk:(List.range ys.length).all (okK rows C ys)with
  | true =>rw[hkk]at lk gd;have wy:=ways_ok H.toHall hy6 hyo (fast_some H.toHall hy6 hyo (gd.mp rfl));have py:=product_ok H.toHall hy6;rw[eGy]at wy;rw[eSy]at py;have ty:=told_ok (waysN rows C ys);simp -implicitDefEqProofs [withN,wn,pu,tu,ec16,ec0,em5,ef,wx,px,tx,ec1,d64,eo,lk,wy,py,ty]
  | false =>
   rw[hkk]at lk gd;have xf:=x_fast H.toHall hy6 hyo λ z=>by have:=gd.mpr z;cases this
   simp -implicitDefEqProofs [withN,wn,pu,tu,ec16,ec0,em5,ef,wx,px,tx,ec1,d64,eo,lk];refine for_all (λ ρ=>∃z:Option L,ρ=[v (.lst (ns.map .int)),v (encH rows),v (.str [a]),v (.str [b]),v (encGs xs),v (spotsD rows C xs),v (encOs zs),v (encOs us),v (encOs xs),v (encOs ys),z]) ⟨none,rfl⟩ ?_ ?_
   ·rintro d hd ρ ⟨z,rfl⟩;rw[e4]at hd;obtain⟨w,hw,rfl⟩:=List.mem_map.mp hd;have rf:=refused_ok xf (List.mem_range.mp hw);rw[eGy]at rf;simp -implicitDefEqProofs [rf]
   ·rintro ρ ⟨z,rfl⟩;simp -implicitDefEqProofs [wx,px,tx]
end K50
set_option maxRecDepth 100000
namespace K50
open PySem PySem.Spec PyProof.Rows L2 ZQ KG KH KB KC
def top(i:Nat):Stmt:=PySem.Challenge.pw_besideseats_k50_ways_counted.main.body.getD i (.Pass ⟨0,0,0,0⟩)
theorem bb_ValueError:bootBuiltins "ValueError" = some (.type "ValueError"):=by kernel_rfl
theorem bb_all:bootBuiltins "all" = some (.builtin "all"):=by kernel_rfl
theorem bb_bool:bootBuiltins "bool" = some (.type "bool"):=by kernel_rfl
theorem bb_int:bootBuiltins "int" = some (.type "int"):=by kernel_rfl
theorem bb_isinstance:bootBuiltins "isinstance" = some (.builtin "isinstance"):=by kernel_rfl
theorem bb_len:bootBuiltins "len" = some (.builtin "len"):=by kernel_rfl
theorem bb_max:bootBuiltins "max" = some (.builtin "max"):=by kernel_rfl
theorem bb_min:bootBuiltins "min" = some (.builtin "min"):=by kernel_rfl
theorem bb_str:bootBuiltins "str" = some (.type "str"):=by kernel_rfl
theorem bb_tuple:bootBuiltins "tuple" = some (.type "tuple"):=by kernel_rfl
theorem bb_zip:bootBuiltins "zip" = some (.type "zip"):=by kernel_rfl
section
variable {P:Program}{w:World}{K:PySem.W.Frag}{mg:Str->Option Value}{base:Heap}
abbrev s_is_whole:Stmt:=top 12
abbrev n_is_whole:List Str:=["thing"]
theorem sc_is_whole:aA n_is_whole n_is_whole (ak s_is_whole):=⟨rfl,rfl,rfl,by decide +kernel,rfl,by decide +kernel,by decide +kernel⟩
abbrev T_is_whole(P:Program)(w:World)(K:PySem.W.Frag)(mg:Str->Option Value)(base:Heap):Prop:=ZS.Cal P w K mg base "is_whole" 1 n_is_whole (KC.fn_is_whole)
theorem ok_is_whole(d:ZS.Def K mg "is_whole" s_is_whole n_is_whole)(g_bool:mg "bool" = none)(g_int:mg "int" = none)(aK:mg "isinstance" = none):T_is_whole P w K mg base :=
 calQ (N:=n_is_whole) (b:=KC.b_is_whole) d sc_is_whole λ f cdv A outer s H E hr=>have nd:=sc_is_whole.nd;have hu:=hr.units;(au (aD (de_and (de_isinst .int rfl aK bb_isinstance rfl g_int bb_int (aw 0)) (de_one (de_not (de_isinst .bool rfl aK bb_isinstance rfl g_bool bb_bool (aw 0)))))))
abbrev s_is_whole_within:Stmt:=top 13
abbrev n_is_whole_within:List Str:=["thing", "least", "most"]
theorem sc_is_whole_within:aA n_is_whole_within n_is_whole_within (ak s_is_whole_within):=⟨rfl,rfl,rfl,by decide +kernel,rfl,by decide +kernel,by decide +kernel⟩
abbrev T_is_whole_within(P:Program)(w:World)(K:PySem.W.Frag)(mg:Str->Option Value)(base:Heap):Prop:=ZS.Cal P w K mg base "is_whole_within" 2 n_is_whole_within (KC.fn_is_whole_within)
theorem ok_is_whole_within(d:ZS.Def K mg "is_whole_within" s_is_whole_within n_is_whole_within)(C_is_whole:T_is_whole P w K mg base):T_is_whole_within P w K mg base :=
 calQ (N:=n_is_whole_within) (b:=KC.b_is_whole_within) d sc_is_whole_within λ f cdv A outer s H E hr=>have nd:=sc_is_whole_within.nd;have hu:=hr.units;(au (aD (de_and (aq C_is_whole (hr.mono (by decide)) rfl (aa (av 0) ao)) (de_one (de_chain ZS.c_le ZS.c_le (aw 1) (aw 0) (aw 2))))))
abbrev s_sign_at:Stmt:=top 20
abbrev n_sign_at:List Str:=["hall", "seat", "row", "column"]
abbrev p_sign_at:List Str:=["hall", "seat"]
theorem sc_sign_at:aA n_sign_at p_sign_at (ak s_sign_at):=⟨rfl,rfl,rfl,by decide +kernel,rfl,by decide +kernel,by decide +kernel⟩
abbrev T_sign_at(P:Program)(w:World)(K:PySem.W.Frag)(mg:Str->Option Value)(base:Heap):Prop:=ZS.Cal P w K mg base "sign_at" 1 p_sign_at (KG.fn_sign_at)
theorem ok_sign_at(d:ZS.Def K mg "sign_at" s_sign_at p_sign_at)(aO:mg "len" = none):T_sign_at P w K mg base :=
 calQ (N:=n_sign_at) (b:=KG.b_sign_at) d sc_sign_at λ f cdv A outer s H E hr=>have nd:=sc_sign_at.nd;have hu:=hr.units;(aj (aB (i:=2) nd rfl (lo rfl) (aC (aw 1) (ai ag))) (aj (aB (i:=3) nd rfl (lo rfl) (aC (aw 1) (ai ag))) (aj (ds_if (dtw (dt_and (dt_chain ZS.c_le ZS.c_lt (ai ag) (aw 2) (ai (de_len rfl aO bb_len (aw 0)))) (dt_and1 (dt_chain ZS.c_le ZS.c_lt (ai ag) (aw 3) (ai (de_len rfl aO bb_len (ai (aC (aw 0) (ai ag))))))))) (au (aD (aC (ai (aC (aw 0) (aw 2))) (aw 3)))) aQ) (au (aD de_non)))))
abbrev s_takes:Stmt:=top 22
abbrev n_takes:List Str:=["sign", "kind"]
theorem sc_takes:aA n_takes n_takes (ak s_takes):=⟨rfl,rfl,rfl,by decide +kernel,rfl,by decide +kernel,by decide +kernel⟩
abbrev T_takes(P:Program)(w:World)(K:PySem.W.Frag)(mg:Str->Option Value)(base:Heap):Prop:=ZS.Cal P w K mg base "takes" 1 n_takes (KG.fn_takes)
theorem ok_takes(d:ZS.Def K mg "takes" s_takes n_takes): T_takes P w K mg base :=
 calQ (N:=n_takes) (b:=KG.b_takes) d sc_takes λ f cdv A outer s H E hr=>have nd:=sc_takes.nd;have hu:=hr.units;(au (aD (de_or (de_cmpC (ZS.c_in hu) (aw 0) (ai (de_tup (ah (de_str (by decide +kernel)) (ah (de_str (by decide +kernel)) ao)))) (by with_unfolding_all rfl)) (de_one (de_cmpC (ZS.c_eq hu) (aw 0) (aw 1) (nomark _))))))
abbrev s_seats_of:Stmt:=top 23
abbrev n_seats_of:List Str:=["group", "place", "seats", "row"]
abbrev p_seats_of:List Str:=["group", "place"]
theorem sc_seats_of:aA n_seats_of p_seats_of (ak s_seats_of):=⟨rfl,rfl,rfl,by decide +kernel,rfl,by decide +kernel,by decide +kernel⟩
abbrev T_seats_of(P:Program)(w:World)(K:PySem.W.Frag)(mg:Str->Option Value)(base:Heap):Prop:=ZS.Cal P w K mg base "seats_of" 1 p_seats_of (KG.fn_seats_of)
theorem ok_seats_of(d:ZS.Def K mg "seats_of" s_seats_of p_seats_of)(aH:mg "range" = none)(g_tuple:mg "tuple" = none){t_DEPTH:Tok}(c_DEPTH:mg "DEPTH" = some (.int 2 t_DEPTH)){t_WIDTH:Tok}(c_WIDTH:mg "WIDTH" = some (.int 1 t_WIDTH)):T_seats_of P w K mg base :=
 calQ (N:=n_seats_of) (b:=KG.b_seats_of) d sc_seats_of λ f cdv A outer s H E hr=>have nd:=sc_seats_of.nd;have hu:=hr.units;(aj (ds_own (i:=2) nd rfl (lo rfl) (dl_disp ao)) (aj (ds_for PassesOwn.never rfl (dj_rng2 rfl aH (aC (aw 1) (ai ag)) (aG (ai (aC (aw 1) (ai ag))) (ai (aC (aw 0) (ai (de_globI rfl c_DEPTH)))))) (dg_name (i:=3) nd rfl (lo rfl)) (au (ds_ext (i:=2) (pv 2) (dl_comp rfl (di_j (dj_rng2 rfl aH (aC (aw 1) (ai ag)) (aG (ai (aC (aw 1) (ai ag))) (ai (aC (aw 0) (ai (de_globI rfl c_WIDTH))))))) (N':=["column", "row"]) (n:=1) (is:=[3]) (ZS.Blk.of (by kernel_rfl)) (ZS.gName_keep (by decide)) (λ _ _ _ _ _ _=>(dg_name (i:=0) (show List.Nodup (["column", "row"]:List Str)by decide +kernel) rfl (lo rfl))) (λ _ _ _ _ _=>tst_no) (λ _ _ _ _ _=>(de_tup (aa (av 1) (aa (av 0) ao)))))))) (au (aD (de_tuple rfl g_tuple bb_tuple (aw 2))))))
abbrev s_fits:Stmt:=top 24
abbrev n_fits:List Str:=["hall", "group", "place", "signs"]
abbrev p_fits:List Str:=["hall", "group", "place"]
theorem sc_fits:aA n_fits p_fits (ak s_fits):=⟨rfl,rfl,rfl,by decide +kernel,rfl,by decide +kernel,by decide +kernel⟩
abbrev T_fits(P:Program)(w:World)(K:PySem.W.Frag)(mg:Str->Option Value)(base:Heap):Prop:=ZS.Cal P w K mg base "fits" 2 p_fits (KG.fn_fits)
theorem ok_fits(d:ZS.Def K mg "fits" s_fits p_fits)(C_seats_of:T_seats_of P w K mg base)(C_sign_at:T_sign_at P w K mg base)(C_takes:T_takes P w K mg base)(g_all:mg "all" = none){t_KIND:Tok}(c_KIND:mg "KIND" = some (.int 3 t_KIND)){t_WIDE:Tok}(c_WIDE:mg "WIDE" = some (.int 4 t_WIDE)):T_fits P w K mg base :=
 calQ (N:=n_fits) (b:=KG.b_fits) d sc_fits λ f cdv A outer s H E hr=>have nd:=sc_fits.nd;have hu:=hr.units;(aj (ds_setC (i:=3) rfl nd rfl (lo rfl) (di_seq (ai (aq C_seats_of (hr.mono (by decide)) rfl (aa (av 1) (aa (av 2) ao))))) (N':=["seat", "hall"]) (n:=1) (is:=[0]) (ZS.Blk.of (by kernel_rfl)) (ZS.gName_keep (by decide)) (λ _ _ _ _ _ _=>(dg_name (i:=0) (show List.Nodup (["seat", "hall"]:List Str)by decide +kernel) rfl (lo rfl))) (λ _ _ _ _ _=>tst_no) (λ _ _ _ _ _=>(aq C_sign_at (hr.mono (by decide)) rfl (aa (av 1) (aa (av 0) ao))))) (aj (ds_if (dt_not (dt_e (de_all rfl g_all bb_all (dw_l (dl_comp rfl (di_seq (aw 3)) (N':=["sign", "group"]) (n:=1) (is:=[1]) (ZS.Blk.of (by kernel_rfl)) (ZS.gName_keep (by decide)) (λ _ _ _ _ _ _=>(dg_name (i:=0) (show List.Nodup (["sign", "group"]:List Str)by decide +kernel) rfl (lo rfl))) (λ _ _ _ _ _=>tst_no) (λ _ _ _ _ _=>(aq C_takes (hr.mono (by decide)) rfl (aa (av 0) (da_cSub (aC (aw 1) (ai (de_globI rfl c_KIND))) ao))))))))) (au (aD de_bl)) aQ) (au (aD (de_cmpC ZS.c_ge (ai (de_count hu (aw 3) (ai (de_str (by decide +kernel))))) (ai (aC (aw 1) (ai (de_globI rfl c_WIDE)))) (nomark _))))))
abbrev s_places_of:Stmt:=top 25
abbrev n_places_of:List Str:=["hall", "group", "places", "row"]
abbrev p_places_of:List Str:=["hall", "group"]
theorem sc_places_of:aA n_places_of p_places_of (ak s_places_of):=⟨rfl,rfl,rfl,by decide +kernel,rfl,by decide +kernel,by decide +kernel⟩
abbrev T_places_of(P:Program)(w:World)(K:PySem.W.Frag)(mg:Str->Option Value)(base:Heap):Prop:=ZS.Cal P w K mg base "places_of" 3 p_places_of (KG.fn_places_of)
theorem ok_places_of(d:ZS.Def K mg "places_of" s_places_of p_places_of)(C_fits:T_fits P w K mg base)(aO:mg "len" = none)(aH:mg "range" = none)(g_tuple:mg "tuple" = none):T_places_of P w K mg base :=
 calQ (N:=n_places_of) (b:=KG.b_places_of) d sc_places_of λ f cdv A outer s H E hr=>have nd:=sc_places_of.nd;have hu:=hr.units;(aj (ds_own (i:=2) nd rfl (lo rfl) (dl_disp ao)) (aj (ds_for PassesOwn.never rfl (dj_rng1 rfl aH (de_len rfl aO bb_len (aw 0))) (dg_name (i:=3) nd rfl (lo rfl)) (au (ds_ext (i:=2) (pv 2) (dl_comp rfl (di_j (dj_rng1 rfl aH (de_len rfl aO bb_len (ai (aC (aw 0) (aw 3)))))) (N':=["column", "hall", "group", "row"]) (n:=1) (is:=[0,1,3]) (ZS.Blk.of (by kernel_rfl)) (ZS.gName_keep (by decide)) (λ _ _ _ _ _ _=>(dg_name (i:=0) (show List.Nodup (["column", "hall", "group", "row"]:List Str)by decide +kernel) rfl (lo rfl))) (λ _ _ _ _ _=>(tst_one (dt_e (aq C_fits (hr.mono (by decide)) rfl (aa (av 1) (aa (av 2) (da_cTuple (de_tup (aa (av 3) (aa (av 0) ao))) ao))))))) (λ _ _ _ _ _=>(de_tup (aa (av 3) (aa (av 0) ao)))))))) (au (aD (de_tuple rfl g_tuple bb_tuple (aw 2))))))
abbrev s_apart:Stmt:=top 27
abbrev n_apart:List Str:=["one", "here", "other", "there", "gap"]
abbrev p_apart:List Str:=["one", "here", "other", "there"]
theorem sc_apart:aA n_apart p_apart (ak s_apart):=⟨rfl,rfl,rfl,by decide +kernel,rfl,by decide +kernel,by decide +kernel⟩
abbrev T_apart(P:Program)(w:World)(K:PySem.W.Frag)(mg:Str->Option Value)(base:Heap):Prop:=ZS.Cal P w K mg base "apart" 1 p_apart (KG.fn_apart)
theorem ok_apart(d:ZS.Def K mg "apart" s_apart p_apart)(g_max:mg "max" = none){t_DEPTH:Tok}(c_DEPTH:mg "DEPTH" = some (.int 2 t_DEPTH)){t_GAP:Tok}(c_GAP:mg "GAP" = some (.int 5 t_GAP)){t_WIDTH:Tok}(c_WIDTH:mg "WIDTH" = some (.int 1 t_WIDTH)):T_apart P w K mg base :=
 calQ (N:=n_apart) (b:=KG.b_apart) d sc_apart λ f cdv A outer s H E hr=>have nd:=sc_apart.nd;have hu:=hr.units;(aj (ds_if (dtw (dt_or (dt_cmpC ZS.c_le (ai (aG (ai (aC (aw 1) (ai ag))) (ai (aC (aw 0) (ai (de_globI rfl c_DEPTH)))))) (ai (aC (aw 3) (ai ag))) (nomark _)) (dt_or1 (dt_cmpC ZS.c_le (ai (aG (ai (aC (aw 3) (ai ag))) (ai (aC (aw 2) (ai (de_globI rfl c_DEPTH)))))) (ai (aC (aw 1) (ai ag))) (nomark _))))) (au (aD de_bl)) aQ) (aj (aB (i:=4) nd rfl (lo rfl) (de_max2 rfl g_max bb_max (ai (aC (aw 0) (ai (de_globI rfl c_GAP)))) (ai (aC (aw 2) (ai (de_globI rfl c_GAP)))))) (au (aD (de_or (de_cmpC ZS.c_le (ai (aG (ai (aG (ai (aC (aw 1) (ai ag))) (ai (aC (aw 0) (ai (de_globI rfl c_WIDTH)))))) (aw 4))) (ai (aC (aw 3) (ai ag))) (nomark _)) (de_one (de_cmpC ZS.c_le (ai (aG (ai (aG (ai (aC (aw 3) (ai ag))) (ai (aC (aw 2) (ai (de_globI rfl c_WIDTH)))))) (aw 4))) (ai (aC (aw 1) (ai ag))) (nomark _))))))))
abbrev s_those_that_sit:Stmt:=top 28
abbrev n_those_that_sit:List Str:=["groups", "seating"]
theorem sc_those_that_sit:aA n_those_that_sit n_those_that_sit (ak s_those_that_sit):=⟨rfl,rfl,rfl,by decide +kernel,rfl,by decide +kernel,by decide +kernel⟩
abbrev T_those_that_sit(P:Program)(w:World)(K:PySem.W.Frag)(mg:Str->Option Value)(base:Heap):Prop:=ZS.Cal P w K mg base "those_that_sit" 1 n_those_that_sit (KG.fn_those_that_sit)
theorem ok_those_that_sit(d:ZS.Def K mg "those_that_sit" s_those_that_sit n_those_that_sit)(g_zip:mg "zip" = none):T_those_that_sit P w K mg base :=
 calQ (N:=n_those_that_sit) (b:=KG.b_those_that_sit) d sc_those_that_sit λ f cdv A outer s H E hr=>have nd:=sc_those_that_sit.nd;have hu:=hr.units;(au (aD (de_l (dl_comp rfl (di_j (dj_zip rfl g_zip (av 0) (av 1))) (N':=["group", "place"]) (n:=2) (is:=[]) (ZS.Blk.of (by kernel_rfl)) (ZS.gTup_keep (by decide)) (λ _ _ _ _ _ _=>(dg_tup rfl (dgs_cons (i:=0) (show List.Nodup (["group", "place"]:List Str)by decide +kernel) rfl (lo rfl) (dgs_cons (i:=1) (show List.Nodup (["group", "place"]:List Str)by decide +kernel) rfl (lo rfl) dgs_nil)) rfl)) (λ _ _ _ _ _=>(tst_one (dt_notN (aw 1)))) (λ _ _ _ _ _=>(de_tup (aa (av 0) (aa (av 1) ao))))))))
abbrev s_apart_from_all:Stmt:=top 29
abbrev n_apart_from_all:List Str:=["group", "place", "seated"]
theorem sc_apart_from_all:aA n_apart_from_all n_apart_from_all (ak s_apart_from_all):=⟨rfl,rfl,rfl,by decide +kernel,rfl,by decide +kernel,by decide +kernel⟩
abbrev T_apart_from_all(P:Program)(w:World)(K:PySem.W.Frag)(mg:Str->Option Value)(base:Heap):Prop:=ZS.Cal P w K mg base "apart_from_all" 2 n_apart_from_all (KG.fn_apart_from_all)
theorem ok_apart_from_all(d:ZS.Def K mg "apart_from_all" s_apart_from_all n_apart_from_all)(C_apart:T_apart P w K mg base)(g_all:mg "all" = none):T_apart_from_all P w K mg base :=
 calQ (N:=n_apart_from_all) (b:=KG.b_apart_from_all) d sc_apart_from_all λ f cdv A outer s H E hr=>have nd:=sc_apart_from_all.nd;have hu:=hr.units;(au (aD (de_all rfl g_all bb_all (dw_l (dl_comp rfl (di_seq (aw 2)) (N':=["other", "there", "group", "place"]) (n:=2) (is:=[0,1]) (ZS.Blk.of (by kernel_rfl)) (ZS.gTup_keep (by decide)) (λ _ _ _ _ _ _=>(dg_tup rfl (dgs_cons (i:=0) (show List.Nodup (["other", "there", "group", "place"]:List Str)by decide +kernel) rfl (lo rfl) (dgs_cons (i:=1) (show List.Nodup (["other", "there", "group", "place"]:List Str)by decide +kernel) rfl (lo rfl) dgs_nil)) rfl)) (λ _ _ _ _ _=>tst_no) (λ _ _ _ _ _=>(aq C_apart (hr.mono (by decide)) rfl (aa (av 2) (aa (av 3) (aa (av 0) (aa (av 1) ao)))))))))))
abbrev s_keeps:Stmt:=top 30
abbrev n_keeps:List Str:=["hall", "groups", "seating", "seated"]
abbrev p_keeps:List Str:=["hall", "groups", "seating"]
theorem sc_keeps:aA n_keeps p_keeps (ak s_keeps):=⟨rfl,rfl,rfl,by decide +kernel,rfl,by decide +kernel,by decide +kernel⟩
abbrev T_keeps(P:Program)(w:World)(K:PySem.W.Frag)(mg:Str->Option Value)(base:Heap):Prop:=ZS.Cal P w K mg base "keeps" 3 p_keeps (KG.fn_keeps)
theorem ok_keeps(d:ZS.Def K mg "keeps" s_keeps p_keeps)(C_apart_from_all:T_apart_from_all P w K mg base)(C_fits:T_fits P w K mg base)(C_those_that_sit:T_those_that_sit P w K mg base)(g_all:mg "all" = none)(aO:mg "len" = none)(aH:mg "range" = none):T_keeps P w K mg base :=
 calQ (N:=n_keeps) (b:=KG.b_keeps) d sc_keeps λ f cdv A outer s H E hr=>have nd:=sc_keeps.nd;have hu:=hr.units;(aj (aB (i:=3) nd rfl (lo rfl) (aq C_those_that_sit (hr.mono (by decide)) rfl (aa (av 1) (aa (av 2) ao)))) (aj (ds_if (dt_not (dt_e (de_all rfl g_all bb_all (dw_l (dl_comp rfl (di_seq (aw 3)) (N':=["group", "place", "hall"]) (n:=2) (is:=[0]) (ZS.Blk.of (by kernel_rfl)) (ZS.gTup_keep (by decide)) (λ _ _ _ _ _ _=>(dg_tup rfl (dgs_cons (i:=0) (show List.Nodup (["group", "place", "hall"]:List Str)by decide +kernel) rfl (lo rfl) (dgs_cons (i:=1) (show List.Nodup (["group", "place", "hall"]:List Str)by decide +kernel) rfl (lo rfl) dgs_nil)) rfl)) (λ _ _ _ _ _=>tst_no) (λ _ _ _ _ _=>(aq C_fits (hr.mono (by decide)) rfl (aa (av 2) (aa (av 0) (aa (av 1) ao)))))))))) (au (aD de_bl)) aQ) (au (aD (de_all rfl g_all bb_all (dw_l (dl_comp rfl (di_j (dj_rng1 rfl aH (de_len rfl aO bb_len (aw 3)))) (N':=["k", "seated"]) (n:=1) (is:=[3]) (ZS.Blk.of (by kernel_rfl)) (ZS.gName_keep (by decide)) (λ _ _ _ _ _ _=>(dg_name (i:=0) (show List.Nodup (["k", "seated"]:List Str)by decide +kernel) rfl (lo rfl))) (λ _ _ _ _ _=>tst_no) (λ _ _ _ _ _=>(aq C_apart_from_all (hr.mono (by decide)) rfl (da_cSub (aC (ai (aC (aw 1) (aw 0))) (ai ag)) (da_cSub (aC (ai (aC (aw 1) (aw 0))) (ai ag)) (da_cSub (de_l (dl_slice (aw 1) dp_no (dp_at (aw 0)))) ao))))))))))))
abbrev s_fast_seating:Stmt:=top 33
abbrev n_fast_seating:List Str:=["hall", "groups", "fast", "seating"]
abbrev p_fast_seating:List Str:=["hall", "groups", "fast"]
theorem sc_fast_seating:aA n_fast_seating p_fast_seating (ak s_fast_seating):=⟨rfl,rfl,rfl,by decide +kernel,rfl,by decide +kernel,by decide +kernel⟩
abbrev T_fast_seating(P:Program)(w:World)(K:PySem.W.Frag)(mg:Str->Option Value)(base:Heap):Prop:=ZS.Cal P w K mg base "fast_seating" 4 p_fast_seating (KB.fn_fast_seating)
theorem ok_fast_seating(d:ZS.Def K mg "fast_seating" s_fast_seating p_fast_seating)(C_keeps:T_keeps P w K mg base)(aO:mg "len" = none):T_fast_seating P w K mg base :=
 calQ (N:=n_fast_seating) (b:=KB.b_fast_seating) d sc_fast_seating λ f cdv A outer s H E hr=>have nd:=sc_fast_seating.nd;have hu:=hr.units;(aj (aB (i:=3) nd rfl (lo rfl) (de_ifExp (dt_isN (aw 2)) (de_repT (ai (de_tup (ah de_non ao))) (ai (de_len rfl aO bb_len (aw 1)))) (av 2))) (aj (ds_if (dt_not (dt_e (aq C_keeps (hr.mono (by decide)) rfl (aa (av 0) (aa (av 1) (aa (av 3) ao)))))) (au ds_bad) aQ) (au (aD (av 3)))))
abbrev TX_fast_seating(P:Program)(w:World)(K:PySem.W.Frag)(mg:Str->Option Value)(base:Heap):Prop:=ZS.CalX P w K mg base "fast_seating" 4 p_fast_seating fx_fast_seating
theorem okx_fast_seating(d:ZS.Def K mg "fast_seating" s_fast_seating p_fast_seating)(C_keeps:T_keeps P w K mg base)(aO:mg "len" = none){aF:Addr}(m_NoSeating:mg "NoSeating" = some (.ref aF))(x_NoSeating:ZS.XC K [78,111,83,101,97,116,105,110,103] aF)(xi_NoSeating:PySem.W.excIn K aF [.type "ValueError",.type "Exception",.type "BaseException",.type "object"] "ValueError.__new__" = true):TX_fast_seating P w K mg base :=
 calX (N:=n_fast_seating) (xb:=xb_fast_seating) d sc_fast_seating λ f cdv A outer s H E hr=>have nd:=sc_fast_seating.nd;have hu:=hr.units;(xss_cons (aB (i:=3) nd rfl (lo rfl) (de_ifExp (dt_isN (aw 2)) (de_repT (ai (de_tup (ah de_non ao))) (ai (de_len rfl aO bb_len (aw 1)))) (av 2))) xs_no (xss_cons (ds_if (dt_not (dt_e (aq C_keeps (hr.mono (by decide)) rfl (aa (av 0) (aa (av 1) (aa (av 3) ao)))))) (au ds_bad) aQ) (xs_if (dt_not (dt_e (aq C_keeps (hr.mono (by decide)) rfl (aa (av 0) (aa (av 1) (aa (av 3) ao)))))) (xss_one (xs_raise rfl rfl rfl (by decide +kernel) x_NoSeating xi_NoSeating (de_str (by decide +kernel)))) xss_no) xss_no))
abbrev s_ways:Stmt:=top 34
abbrev n_ways:List Str:=["hall", "groups", "fast", "many", "group", "place"]
abbrev p_ways:List Str:=["hall", "groups", "fast"]
theorem sc_ways:aA n_ways p_ways (ak s_ways):=⟨rfl,rfl,rfl,by decide +kernel,rfl,by decide +kernel,by decide +kernel⟩
abbrev T_ways(P:Program)(w:World)(K:PySem.W.Frag)(mg:Str->Option Value)(base:Heap):Prop:=ZS.CalD P w K mg base "ways" 5 p_ways (KB.fn_ways)
theorem ok_ways(d:ZS.DefD K mg "ways" s_ways p_ways)(C_fast_seating:T_fast_seating P w K mg base)(C_places_of:T_places_of P w K mg base)(aO:mg "len" = none)(g_zip:mg "zip" = none):T_ways P w K mg base :=
 calQD (N:=n_ways) (b:=KB.b_ways) d sc_ways λ f cdv A outer s H E hr=>have nd:=sc_ways.nd;have hu:=hr.units;(aj (aB (i:=3) nd rfl (lo rfl) ag) (aj (ds_for PassesOwn.never rfl (dj_zip rfl g_zip (av 1) (aq C_fast_seating (hr.mono (by decide)) rfl (aa (av 0) (aa (av 1) (aa (av 2) ao))))) (dg_tup rfl (dgs_cons (i:=4) nd rfl (lo rfl) (dgs_cons (i:=5) nd rfl (lo rfl) dgs_nil)) rfl) (au (ds_if (dt_isN (aw 5)) (au (ds_mulA (i:=3) nd rfl (lo rfl) (aG (ai (de_len rfl aO bb_len (ai (aq C_places_of (hr.mono (by decide)) rfl (aa (av 0) (aa (av 4) ao)))))) (ai ag)))) aQ))) (au (aD (av 3)))))
abbrev TX_ways(P:Program)(w:World)(K:PySem.W.Frag)(mg:Str->Option Value)(base:Heap):Prop:=ZS.CalX P w K mg base "ways" 5 p_ways fx_ways
theorem okx_ways(d:ZS.DefD K mg "ways" s_ways p_ways)(C_fast_seating:T_fast_seating P w K mg base)(C_places_of:T_places_of P w K mg base)(X_fast_seating:TX_fast_seating P w K mg base)(aO:mg "len" = none)(g_zip:mg "zip" = none):TX_ways P w K mg base :=
 calXD (N:=n_ways) (xb:=xb_ways) d sc_ways λ f cdv A outer s H E hr=>have nd:=sc_ways.nd;have hu:=hr.units;(xss_cons (aB (i:=3) nd rfl (lo rfl) ag) xs_no (xss_cons (ds_for PassesOwn.never rfl (dj_zip rfl g_zip (av 1) (aq C_fast_seating (hr.mono (by decide)) rfl (aa (av 0) (aa (av 1) (aa (av 2) ao))))) (dg_tup rfl (dgs_cons (i:=4) nd rfl (lo rfl) (dgs_cons (i:=5) nd rfl (lo rfl) dgs_nil)) rfl) (au (ds_if (dt_isN (aw 5)) (au (ds_mulA (i:=3) nd rfl (lo rfl) (aG (ai (de_len rfl aO bb_len (ai (aq C_places_of (hr.mono (by decide)) rfl (aa (av 0) (aa (av 4) ao)))))) (ai ag)))) aQ))) (xs_for (xe_argT rfl g_zip bb_zip (xa_tl (av 1) (xa_hd (xe_call X_fast_seating (hr.mono (by decide)) rfl (aa (av 0) (aa (av 1) (aa (av 2) ao)))) ao)))) xss_no))
abbrev s_small_start:Stmt:=top 35
abbrev n_small_start:List Str:=["hall", "groups", "fast", "many"]
abbrev p_small_start:List Str:=["hall", "groups", "fast"]
theorem sc_small_start:aA n_small_start p_small_start (ak s_small_start):=⟨rfl,rfl,rfl,by decide +kernel,rfl,by decide +kernel,by decide +kernel⟩
abbrev T_small_start(P:Program)(w:World)(K:PySem.W.Frag)(mg:Str->Option Value)(base:Heap):Prop:=ZS.Cal P w K mg base "small_start" 6 p_small_start (KB.fn_small_start)
theorem ok_small_start(d:ZS.Def K mg "small_start" s_small_start p_small_start)(C_fast_seating:T_fast_seating P w K mg base)(C_ways:T_ways P w K mg base){t_MOST_WAYS:Tok}(c_MOST_WAYS:mg "MOST_WAYS" = some (.int 2000 t_MOST_WAYS)):T_small_start P w K mg base :=
 calQ (N:=n_small_start) (b:=KB.b_small_start) d sc_small_start λ f cdv A outer s H E hr=>have nd:=sc_small_start.nd;have hu:=hr.units;(aj (aB (i:=3) nd rfl (lo rfl) (aq C_ways.full (hr.mono (by decide)) rfl (aa (av 0) (aa (av 1) (aa (av 2) ao))))) (aj (ds_if (dt_cmpC ZS.c_gt (aw 3) (ai (de_globI rfl c_MOST_WAYS)) (nomark _)) (au ds_bad) aQ) (au (aD (aq C_fast_seating (hr.mono (by decide)) rfl (aa (av 0) (aa (av 1) (aa (av 2) ao))))))))
abbrev TX_small_start(P:Program)(w:World)(K:PySem.W.Frag)(mg:Str->Option Value)(base:Heap):Prop:=ZS.CalX P w K mg base "small_start" 6 p_small_start fx_small_start
theorem okx_small_start(d:ZS.Def K mg "small_start" s_small_start p_small_start)(C_ways:T_ways P w K mg base)(X_fast_seating:TX_fast_seating P w K mg base)(X_ways:TX_ways P w K mg base){t_MOST_WAYS:Tok}(c_MOST_WAYS:mg "MOST_WAYS" = some (.int 2000 t_MOST_WAYS)):TX_small_start P w K mg base :=
 calX (N:=n_small_start) (xb:=xb_small_start) d sc_small_start λ f cdv A outer s H E hr=>have nd:=sc_small_start.nd;have hu:=hr.units;(xss_cons (aB (i:=3) nd rfl (lo rfl) (aq C_ways.full (hr.mono (by decide)) rfl (aa (av 0) (aa (av 1) (aa (av 2) ao))))) (xs_set (i:=3) nd rfl (lo rfl) (xe_call X_ways (hr.mono (by decide)) rfl (aa (av 0) (aa (av 1) (aa (av 2) ao))))) (xss_cons (ds_if (dt_cmpC ZS.c_gt (aw 3) (ai (de_globI rfl c_MOST_WAYS)) (nomark _)) (au ds_bad) aQ) xs_no (xss_one (xs_ret (xe_call X_fast_seating (hr.mono (by decide)) rfl (aa (av 0) (aa (av 1) (aa (av 2) ao))))))))
abbrev s_with_place:Stmt:=top 36
abbrev n_with_place:List Str:=["seating", "k", "place"]
theorem sc_with_place:aA n_with_place n_with_place (ak s_with_place):=⟨rfl,rfl,rfl,by decide +kernel,rfl,by decide +kernel,by decide +kernel⟩
abbrev T_with_place(P:Program)(w:World)(K:PySem.W.Frag)(mg:Str->Option Value)(base:Heap):Prop:=ZS.Cal P w K mg base "with_place" 1 n_with_place (KH.fn_with_place)
theorem ok_with_place(d:ZS.Def K mg "with_place" s_with_place n_with_place): T_with_place P w K mg base :=
 calQ (N:=n_with_place) (b:=KH.b_with_place) d sc_with_place λ f cdv A outer s H E hr=>have nd:=sc_with_place.nd;have hu:=hr.units;(au (aD (aG (ai (aG (ai (de_slice (aw 0) dp_no (dp_at (aw 1)))) (ai (de_tup (aa (av 2) ao))))) (ai (de_slice (aw 0) (dp_at (ai (aG (aw 1) (ai ag)))) dp_no)))))
abbrev s_open_among:Stmt:=top 37
abbrev n_open_among:List Str:=["places", "group", "seated"]
theorem sc_open_among:aA n_open_among n_open_among (ak s_open_among):=⟨rfl,rfl,rfl,by decide +kernel,rfl,by decide +kernel,by decide +kernel⟩
abbrev T_open_among(P:Program)(w:World)(K:PySem.W.Frag)(mg:Str->Option Value)(base:Heap):Prop:=ZS.Cal P w K mg base "open_among" 3 n_open_among (KH.fn_open_among)
theorem ok_open_among(d:ZS.Def K mg "open_among" s_open_among n_open_among)(C_apart_from_all:T_apart_from_all P w K mg base)(g_tuple:mg "tuple" = none):T_open_among P w K mg base :=
 calQ (N:=n_open_among) (b:=KH.b_open_among) d sc_open_among λ f cdv A outer s H E hr=>have nd:=sc_open_among.nd;have hu:=hr.units;(au (aD (de_tuple rfl g_tuple bb_tuple (dw_l (dl_comp rfl (di_seq (aw 0)) (N':=["place", "group", "seated"]) (n:=1) (is:=[1,2]) (ZS.Blk.of (by kernel_rfl)) (ZS.gName_keep (by decide)) (λ _ _ _ _ _ _=>(dg_name (i:=0) (show List.Nodup (["place", "group", "seated"]:List Str)by decide +kernel) rfl (lo rfl))) (λ _ _ _ _ _=>(tst_one (dt_e (aq C_apart_from_all (hr.mono (by decide)) rfl (aa (av 1) (aa (av 0) (aa (av 2) ao))))))) (λ _ _ _ _ _=>(av 0)))))))
abbrev s_with_one_more:Stmt:=top 38
abbrev n_with_one_more:List Str:=["hall", "groups", "seatings", "k", "some", "places", "wider", "seating", "seated"]
abbrev p_with_one_more:List Str:=["hall", "groups", "seatings", "k", "some"]
theorem sc_with_one_more:aA n_with_one_more p_with_one_more (ak s_with_one_more):=⟨rfl,rfl,rfl,by decide +kernel,rfl,by decide +kernel,by decide +kernel⟩
abbrev T_with_one_more(P:Program)(w:World)(K:PySem.W.Frag)(mg:Str->Option Value)(base:Heap):Prop:=ZS.Cal P w K mg base "with_one_more" 4 p_with_one_more (KB.fn_with_one_more)
theorem ok_with_one_more(d:ZS.Def K mg "with_one_more" s_with_one_more p_with_one_more)(C_open_among:T_open_among P w K mg base)(C_places_of:T_places_of P w K mg base)(C_those_that_sit:T_those_that_sit P w K mg base)(C_with_place:T_with_place P w K mg base):T_with_one_more P w K mg base :=
 calQ (N:=n_with_one_more) (b:=KB.b_with_one_more) d sc_with_one_more λ f cdv A outer s H E hr=>have nd:=sc_with_one_more.nd;have hu:=hr.units;(aj (aB (i:=5) nd rfl (lo rfl) (aq C_places_of (hr.mono (by decide)) rfl (aa (av 0) (da_cSub (aC (aw 1) (aw 3)) ao)))) (aj (ds_own (i:=6) nd rfl (lo rfl) (dl_disp ao)) (aj (ds_for PassesOwn.never rfl (dj_seq (av 2)) (dg_name (i:=7) nd rfl (lo rfl)) (aj (aB (i:=8) nd rfl (lo rfl) (aq C_those_that_sit (hr.mono (by decide)) rfl (aa (av 1) (aa (av 7) ao)))) (aj (ds_ext (i:=6) (pv 6) (dl_comp rfl (di_seq (ai (aq C_open_among (hr.mono (by decide)) rfl (aa (av 5) (da_cSub (aC (aw 1) (aw 3)) (aa (av 8) ao)))))) (N':=["place", "seating", "k"]) (n:=1) (is:=[7,3]) (ZS.Blk.of (by kernel_rfl)) (ZS.gName_keep (by decide)) (λ _ _ _ _ _ _=>(dg_name (i:=0) (show List.Nodup (["place", "seating", "k"]:List Str)by decide +kernel) rfl (lo rfl))) (λ _ _ _ _ _=>tst_no) (λ _ _ _ _ _=>(aq C_with_place (hr.mono (by decide)) rfl (aa (av 1) (aa (av 2) (aa (av 0) ao))))))) (au (ds_if (dt_e (av 4)) (au (ds_app (i:=6) (pv 6) (av 7))) aQ))))) (dss_frz (i:=6) (au (aD (av 6)))))))
abbrev s_seatings_from:Stmt:=top 39
abbrev n_seatings_from:List Str:=["hall", "groups", "start", "some", "seatings", "k"]
abbrev p_seatings_from:List Str:=["hall", "groups", "start", "some"]
theorem sc_seatings_from:aA n_seatings_from p_seatings_from (ak s_seatings_from):=⟨rfl,rfl,rfl,by decide +kernel,rfl,by decide +kernel,by decide +kernel⟩
abbrev T_seatings_from(P:Program)(w:World)(K:PySem.W.Frag)(mg:Str->Option Value)(base:Heap):Prop:=ZS.Cal P w K mg base "seatings_from" 5 p_seatings_from (KB.fn_seatings_from)
theorem ok_seatings_from(d:ZS.Def K mg "seatings_from" s_seatings_from p_seatings_from)(C_with_one_more:T_with_one_more P w K mg base)(aO:mg "len" = none)(aH:mg "range" = none):T_seatings_from P w K mg base :=
 calQ (N:=n_seatings_from) (b:=KB.b_seatings_from) d sc_seatings_from λ f cdv A outer s H E hr=>have nd:=sc_seatings_from.nd;have hu:=hr.units;(aj (aB (i:=4) nd rfl (lo rfl) (de_l (dl_disp (aa (av 2) ao)))) (aj (ds_for PassesOwn.never rfl (dj_rng1 rfl aH (de_len rfl aO bb_len (aw 1))) (dg_name (i:=5) nd rfl (lo rfl)) (au (ds_if (dt_isN (ai (aC (aw 2) (aw 5)))) (au (aB (i:=4) nd rfl (lo rfl) (aq C_with_one_more (hr.mono (by decide)) rfl (aa (av 0) (aa (av 1) (aa (av 4) (aa (av 5) (aa (av 3) ao)))))))) aQ))) (au (aD (av 4)))))
abbrev s_first_of_all:Stmt:=top 40
abbrev n_first_of_all:List Str:=["hall", "groups", "fast", "seatings"]
abbrev p_first_of_all:List Str:=["hall", "groups", "fast"]
theorem sc_first_of_all:aA n_first_of_all p_first_of_all (ak s_first_of_all):=⟨rfl,rfl,rfl,by decide +kernel,rfl,by decide +kernel,by decide +kernel⟩
abbrev T_first_of_all(P:Program)(w:World)(K:PySem.W.Frag)(mg:Str->Option Value)(base:Heap):Prop:=ZS.CalD P w K mg base "first_of_all" 7 p_first_of_all (KC.fn_first_of_all)
theorem ok_first_of_all(d:ZS.DefD K mg "first_of_all" s_first_of_all p_first_of_all)(C_seatings_from:T_seatings_from P w K mg base)(C_small_start:T_small_start P w K mg base)(aO:mg "len" = none):T_first_of_all P w K mg base :=
 calQD (N:=n_first_of_all) (b:=KC.b_first_of_all) d sc_first_of_all λ f cdv A outer s H E hr=>have nd:=sc_first_of_all.nd;have hu:=hr.units;(aj (aB (i:=3) nd rfl (lo rfl) (aq C_seatings_from (hr.mono (by decide)) rfl (aa (av 0) (aa (av 1) (da_cCall (aq C_small_start (hr.mono (by decide)) rfl (aa (av 0) (aa (av 1) (aa (av 2) ao)))) (ah de_bl ao)))))) (au (aD (de_ifExp (dt_cmpC ZS.c_gt (ai (de_len rfl aO bb_len (aw 3))) (ai ag) (nomark _)) (aC (aw 3) (ai ag)) de_non))))
abbrev TX_first_of_all(P:Program)(w:World)(K:PySem.W.Frag)(mg:Str->Option Value)(base:Heap):Prop:=ZS.CalX P w K mg base "first_of_all" 7 p_first_of_all fx_first_of_all
theorem okx_first_of_all(d:ZS.DefD K mg "first_of_all" s_first_of_all p_first_of_all)(C_seatings_from:T_seatings_from P w K mg base)(C_small_start:T_small_start P w K mg base)(X_small_start:TX_small_start P w K mg base):TX_first_of_all P w K mg base :=
 calXD (N:=n_first_of_all) (xb:=xb_first_of_all) d sc_first_of_all λ f cdv A outer s H E hr=>have nd:=sc_first_of_all.nd;have hu:=hr.units;(xss_cons (aB (i:=3) nd rfl (lo rfl) (aq C_seatings_from (hr.mono (by decide)) rfl (aa (av 0) (aa (av 1) (da_cCall (aq C_small_start (hr.mono (by decide)) rfl (aa (av 0) (aa (av 1) (aa (av 2) ao)))) (ah de_bl ao)))))) (xs_set (i:=3) nd rfl (lo rfl) (xe_arg C_seatings_from (hr.mono (by decide)) rfl (xa_tl (av 0) (xa_tl (av 1) (xa_hd (xe_call X_small_start (hr.mono (by decide)) rfl (aa (av 0) (aa (av 1) (aa (av 2) ao)))) (ah de_bl ao)))))) xss_no)
abbrev s_all_places:Stmt:=top 42
abbrev n_all_places:List Str:=["hall", "groups"]
theorem sc_all_places:aA n_all_places n_all_places (ak s_all_places):=⟨rfl,rfl,rfl,by decide +kernel,rfl,by decide +kernel,by decide +kernel⟩
abbrev T_all_places(P:Program)(w:World)(K:PySem.W.Frag)(mg:Str->Option Value)(base:Heap):Prop:=ZS.Cal P w K mg base "all_places" 4 n_all_places (KC.fn_all_places)
theorem ok_all_places(d:ZS.Def K mg "all_places" s_all_places n_all_places)(C_places_of:T_places_of P w K mg base):T_all_places P w K mg base :=
 calQ (N:=n_all_places) (b:=KC.b_all_places) d sc_all_places λ f cdv A outer s H E hr=>have nd:=sc_all_places.nd;have hu:=hr.units;(au (aD (de_l (dl_comp rfl (di_seq (aw 1)) (N':=["group", "hall"]) (n:=1) (is:=[0]) (ZS.Blk.of (by kernel_rfl)) (ZS.gName_keep (by decide)) (λ _ _ _ _ _ _=>(dg_name (i:=0) (show List.Nodup (["group", "hall"]:List Str)by decide +kernel) rfl (lo rfl))) (λ _ _ _ _ _=>tst_no) (λ _ _ _ _ _=>(aq C_places_of (hr.mono (by decide)) rfl (aa (av 1) (aa (av 0) ao))))))))
abbrev s_spots_of:Stmt:=top 43
abbrev n_spots_of:List Str:=["groups", "places", "seating", "k"]
theorem sc_spots_of:aA n_spots_of n_spots_of (ak s_spots_of):=⟨rfl,rfl,rfl,by decide +kernel,rfl,by decide +kernel,by decide +kernel⟩
abbrev T_spots_of(P:Program)(w:World)(K:PySem.W.Frag)(mg:Str->Option Value)(base:Heap):Prop:=ZS.Cal P w K mg base "spots_of" 4 n_spots_of (KC.fn_spots_of)
theorem ok_spots_of(d:ZS.Def K mg "spots_of" s_spots_of n_spots_of)(C_open_among:T_open_among P w K mg base)(C_those_that_sit:T_those_that_sit P w K mg base):T_spots_of P w K mg base :=
 calQ (N:=n_spots_of) (b:=KC.b_spots_of) d sc_spots_of λ f cdv A outer s H E hr=>have nd:=sc_spots_of.nd;have hu:=hr.units;(au (aD (aq C_open_among (hr.mono (by decide)) rfl (da_cSub (aC (aw 1) (aw 3)) (da_cSub (aC (aw 0) (aw 3)) (da_cCall (aq C_those_that_sit (hr.mono (by decide)) rfl (aa (av 0) (aa (av 2) ao))) ao))))))
abbrev s_is_waiting:Stmt:=top 44
abbrev n_is_waiting:List Str:=["seating", "thing"]
theorem sc_is_waiting:aA n_is_waiting n_is_waiting (ak s_is_waiting):=⟨rfl,rfl,rfl,by decide +kernel,rfl,by decide +kernel,by decide +kernel⟩
abbrev T_is_waiting(P:Program)(w:World)(K:PySem.W.Frag)(mg:Str->Option Value)(base:Heap):Prop:=ZS.Cal P w K mg base "is_waiting" 3 n_is_waiting (KC.fn_is_waiting)
theorem ok_is_waiting(d:ZS.Def K mg "is_waiting" s_is_waiting n_is_waiting)(C_is_whole_within:T_is_whole_within P w K mg base)(aO:mg "len" = none):T_is_waiting P w K mg base :=
 calQ (N:=n_is_waiting) (b:=KC.b_is_waiting) d sc_is_waiting λ f cdv A outer s H E hr=>have nd:=sc_is_waiting.nd;have hu:=hr.units;(au (aD (de_and (aq C_is_whole_within (hr.mono (by decide)) rfl (aa (av 1) (ah ag (da_cBin (de_sub (ai (de_len rfl aO bb_len (aw 0))) (ai ag)) ao)))) (de_one (de_isN (ai (aC (aw 0) (aw 1))))))))
abbrev s_begins_with:Stmt:=top 45
abbrev n_begins_with:List Str:=["thing", "word", "length"]
theorem sc_begins_with:aA n_begins_with n_begins_with (ak s_begins_with):=⟨rfl,rfl,rfl,by decide +kernel,rfl,by decide +kernel,by decide +kernel⟩
abbrev T_begins_with(P:Program)(w:World)(K:PySem.W.Frag)(mg:Str->Option Value)(base:Heap):Prop:=ZS.Cal P w K mg base "begins_with" 1 n_begins_with (KC.fn_begins_with)
theorem ok_begins_with(d:ZS.Def K mg "begins_with" s_begins_with n_begins_with)(aK:mg "isinstance" = none)(aO:mg "len" = none)(g_str:mg "str" = none)(g_tuple:mg "tuple" = none):T_begins_with P w K mg base :=
 calQ (N:=n_begins_with) (b:=KC.b_begins_with) d sc_begins_with λ f cdv A outer s H E hr=>have nd:=sc_begins_with.nd;have hu:=hr.units;(aj (ds_if (dtw (dt_or (dt_not (dt_e (de_isinst .tuple rfl aK bb_isinstance rfl g_tuple bb_tuple (aw 0)))) (dt_or1 (dt_cmpC (ZS.c_ne hu) (ai (de_len rfl aO bb_len (aw 0))) (aw 2) (nomark _))))) (au (aD de_bl)) aQ) (au (aD (de_and (de_isinst .str rfl aK bb_isinstance rfl g_str bb_str (ai (aC (aw 0) (ai ag)))) (de_one (de_cmpC (ZS.c_eq hu) (ai (aC (aw 0) (ai ag))) (aw 1) (nomark _)))))))
abbrev s_is_each:Stmt:=top 46
abbrev n_is_each:List Str:=["thing"]
theorem sc_is_each:aA n_is_each n_is_each (ak s_is_each):=⟨rfl,rfl,rfl,by decide +kernel,rfl,by decide +kernel,by decide +kernel⟩
abbrev T_is_each(P:Program)(w:World)(K:PySem.W.Frag)(mg:Str->Option Value)(base:Heap):Prop:=ZS.Cal P w K mg base "is_each" 2 n_is_each (KC.fn_is_each)
theorem ok_is_each(d:ZS.Def K mg "is_each" s_is_each n_is_each)(C_begins_with:T_begins_with P w K mg base)(aK:mg "isinstance" = none)(g_tuple:mg "tuple" = none):T_is_each P w K mg base :=
 calQ (N:=n_is_each) (b:=KC.b_is_each) d sc_is_each λ f cdv A outer s H E hr=>have nd:=sc_is_each.nd;have hu:=hr.units;(au (aD (de_and (aq C_begins_with (hr.mono (by decide)) rfl (aa (av 0) (ah (de_str (by decide +kernel)) (ah ag ao)))) (de_one (de_isinst .tuple rfl aK bb_isinstance rfl g_tuple bb_tuple (ai (aC (aw 0) (ai ag))))))))
abbrev s_lets_by_beside:Stmt:=top 47
abbrev n_lets_by_beside:List Str:=["groups", "places", "seating", "paper", "k", "spots", "papers", "place", "inner"]
abbrev p_lets_by_beside:List Str:=["groups", "places", "seating", "paper"]
theorem sc_lets_by_beside:aA n_lets_by_beside p_lets_by_beside (ak s_lets_by_beside):=⟨rfl,rfl,rfl,by decide +kernel,rfl,by decide +kernel,by decide +kernel⟩
abbrev T_lets_by_beside(P:Program)(w:World)(K:PySem.W.Frag)(mg:Str->Option Value)(base:Heap):Prop:=ZS.Cal P w K mg base "lets_by_beside" 14 p_lets_by_beside (KC.fn_lets_by_beside 9)
theorem ok_lets_by_beside(d:ZS.Def K mg "lets_by_beside" s_lets_by_beside p_lets_by_beside)(C_begins_with:T_begins_with P w K mg base)(C_is_each:T_is_each P w K mg base)(C_is_waiting:T_is_waiting P w K mg base)(C_spots_of:T_spots_of P w K mg base)(C_with_place:T_with_place P w K mg base)(aO:mg "len" = none)(g_zip:mg "zip" = none):∀j,ZS.Cal P w K mg base "lets_by_beside" (5+j) p_lets_by_beside (KC.fn_lets_by_beside j)
 | 0=>ZS.calBad (calQ (k:=4) (N:=n_lets_by_beside) (b:=Z.sBad) d sc_lets_by_beside λ _ _ _ _ _ _ _ _=>dss_bad)
 | j+1=>calQ (k:=5+j) (N:=n_lets_by_beside) (b:=KC.b_lets_by_beside (KC.fn_lets_by_beside j)) d sc_lets_by_beside λ f cdv A outer s H E hr=>have C_self:=ok_lets_by_beside d C_begins_with C_is_each C_is_waiting C_spots_of C_with_place aO g_zip j;have nd:=sc_lets_by_beside.nd;have hu:=hr.units;(aj (ds_if (dtw (dt_and (dt_not (dt_e (aq C_begins_with (hr.mono (by omega)) rfl (aa (av 3) (ah (de_str (by decide +kernel)) (ah ag ao)))))) (dt_and1 (dt_not (dt_e (aq C_is_each (hr.mono (by omega)) rfl (aa (av 3) ao))))))) (au (aD de_bl)) aQ) (aj (ds_if (dt_not (dt_e (aq C_is_waiting (hr.mono (by omega)) rfl (aa (av 2) (da_cSub (aC (aw 3) (ai ag)) ao))))) (au (aD de_bl)) aQ) (aj (aB (i:=4) nd rfl (lo rfl) (aC (aw 3) (ai ag))) (aj (aB (i:=5) nd rfl (lo rfl) (aq C_spots_of (hr.mono (by omega)) rfl (aa (av 0) (aa (av 1) (aa (av 2) (aa (av 4) ao)))))) (aj (aB (i:=6) nd rfl (lo rfl) (de_ifExp (dt_e (aq C_is_each (hr.mono (by omega)) rfl (aa (av 3) ao))) (aC (aw 3) (ai ag)) (de_tup ao))) (aj (ds_if (dt_cmpC (ZS.c_ne hu) (ai (de_len rfl aO bb_len (aw 6))) (ai (de_len rfl aO bb_len (aw 5))) (nomark _)) (au (aD de_bl)) aQ) (aj (ds_for PassesOwn.never rfl (dj_zip rfl g_zip (av 5) (av 6)) (dg_tup rfl (dgs_cons (i:=7) nd rfl (lo rfl) (dgs_cons (i:=8) nd rfl (lo rfl) dgs_nil)) rfl) (au (ds_if (dt_not (dt_e (aq C_self (hr.mono (Nat.le_refl _)) rfl (aa (av 0) (aa (av 1) (da_cCall (aq C_with_place (hr.mono (by omega)) rfl (aa (av 2) (aa (av 4) (aa (av 7) ao)))) (aa (av 8) ao))))))) (au (aD de_bl)) aQ))) (au (aD de_bl)))))))))
abbrev s_lets_by:Stmt:=top 48
abbrev n_lets_by:List Str:=["hall", "groups", "paper", "fast", "seating"]
abbrev p_lets_by:List Str:=["hall", "groups", "paper", "fast"]
theorem sc_lets_by:aA n_lets_by p_lets_by (ak s_lets_by):=⟨rfl,rfl,rfl,by decide +kernel,rfl,by decide +kernel,by decide +kernel⟩
abbrev T_lets_by(P:Program)(w:World)(K:PySem.W.Frag)(mg:Str->Option Value)(base:Heap):Prop:=ZS.CalD P w K mg base "lets_by" 15 p_lets_by (KC.fn_lets_by)
theorem ok_lets_by(d:ZS.DefD K mg "lets_by" s_lets_by p_lets_by)(C_all_places:T_all_places P w K mg base)(C_fast_seating:T_fast_seating P w K mg base)(C_lets_by_beside:T_lets_by_beside P w K mg base):T_lets_by P w K mg base :=
 calQD (N:=n_lets_by) (b:=KC.b_lets_by) d sc_lets_by λ f cdv A outer s H E hr=>have nd:=sc_lets_by.nd;have hu:=hr.units;(aj (aB (i:=4) nd rfl (lo rfl) (aq C_fast_seating (hr.mono (by decide)) rfl (aa (av 0) (aa (av 1) (aa (av 3) ao))))) (au (aD (aq C_lets_by_beside (hr.mono (by decide)) rfl (aa (av 1) (da_cCall (aq C_all_places (hr.mono (by decide)) rfl (aa (av 0) (aa (av 1) ao))) (aa (av 4) (aa (av 2) ao))))))))
abbrev TX_lets_by(P:Program)(w:World)(K:PySem.W.Frag)(mg:Str->Option Value)(base:Heap):Prop:=ZS.CalX P w K mg base "lets_by" 15 p_lets_by fx_lets_by
theorem okx_lets_by(d:ZS.DefD K mg "lets_by" s_lets_by p_lets_by)(C_fast_seating:T_fast_seating P w K mg base)(X_fast_seating:TX_fast_seating P w K mg base):TX_lets_by P w K mg base :=
 calXD (N:=n_lets_by) (xb:=xb_lets_by) d sc_lets_by λ f cdv A outer s H E hr=>have nd:=sc_lets_by.nd;have hu:=hr.units;(xss_cons (aB (i:=4) nd rfl (lo rfl) (aq C_fast_seating (hr.mono (by decide)) rfl (aa (av 0) (aa (av 1) (aa (av 3) ao))))) (xs_set (i:=4) nd rfl (lo rfl) (xe_call X_fast_seating (hr.mono (by decide)) rfl (aa (av 0) (aa (av 1) (aa (av 3) ao))))) xss_no)
abbrev s_paper_beside:Stmt:=top 49
abbrev n_paper_beside:List Str:=["groups", "places", "seating", "waiting", "k", "spots", "papers"]
abbrev p_paper_beside:List Str:=["groups", "places", "seating"]
theorem sc_paper_beside:aA n_paper_beside p_paper_beside (ak s_paper_beside):=⟨rfl,rfl,rfl,by decide +kernel,rfl,by decide +kernel,by decide +kernel⟩
abbrev T_paper_beside(P:Program)(w:World)(K:PySem.W.Frag)(mg:Str->Option Value)(base:Heap):Prop:=ZS.Cal P w K mg base "paper_beside" 16 p_paper_beside (KC.fn_paper_beside 9)
theorem ok_paper_beside(d:ZS.Def K mg "paper_beside" s_paper_beside p_paper_beside)(L:ZS.LamD K mg "paper_beside")(C_spots_of:T_spots_of P w K mg base)(C_with_place:T_with_place P w K mg base)(aO:mg "len" = none)(g_min:mg "min" = none)(aH:mg "range" = none)(g_tuple:mg "tuple" = none):∀j,ZS.Cal P w K mg base "paper_beside" (7+j) p_paper_beside (KC.fn_paper_beside j)
 | 0=>ZS.calBad (calQ (k:=6) (N:=n_paper_beside) (b:=Z.sBad) d sc_paper_beside λ _ _ _ _ _ _ _ _=>dss_bad)
 | j+1=>calQL (k:=7+j) (N:=n_paper_beside) (b:=KC.b_paper_beside (KC.fn_paper_beside j)) d sc_paper_beside L λ f cdv A outer s H E hl hr=>have C_self:=ok_paper_beside d L C_spots_of C_with_place aO g_min aH g_tuple j;have nd:=sc_paper_beside.nd;have hu:=hr.units;have hrL:=λ env=>ZS.room_lam (k:=4) (hr.mono (by lia)) env;(aj (ds_setC (i:=3) rfl nd rfl (lo rfl) (di_j (dj_rng1 rfl aH (de_len rfl aO bb_len (aw 0)))) (N':=["k", "seating"]) (n:=1) (is:=[2]) (ZS.Blk.of (by kernel_rfl)) (ZS.gName_keep (by decide)) (λ _ _ _ _ _ _=>(dg_name (i:=0) (show List.Nodup (["k", "seating"]:List Str)by decide +kernel) rfl (lo rfl))) (λ _ _ _ _ _=>(tst_one (dt_isN (ai (aC (aw 1) (aw 0)))))) (λ _ _ _ _ _=>(av 0))) (aj (aB (i:=4) nd rfl (lo rfl) (de_minK (ZS.lam_ctx hl (by decide +kernel)) (ZS.room_d hr) rfl g_min bb_min (aw 3) (N':=["j", "groups", "places", "seating"]) (is:=[0,1,2]) (ZS.Blk.of (by kernel_rfl)) rfl (λ _ _ _ _ _=>(de_len rfl aO bb_len (ai (aq C_spots_of ((hrL _).mono (by omega)) rfl (aa (av 1) (aa (av 2) (aa (av 3) (aa (av 0) ao)))))))) (λ _ _ _ _ _ _=>rfl))) (aj (aB (i:=5) nd rfl (lo rfl) (aq C_spots_of (hr.mono (by omega)) rfl (aa (av 0) (aa (av 1) (aa (av 2) (aa (av 4) ao)))))) (aj (ds_if (dt_cmpC (ZS.c_eq hu) (aw 5) (ai (de_tup ao)) (nomark _)) (au (aD (de_tup (ah (de_str (by decide +kernel)) (aa (av 4) ao))))) aQ) (aj (ds_setC (i:=6) rfl nd rfl (lo rfl) (di_seq (aw 5)) (N':=["place", "groups", "places", "seating", "k"]) (n:=1) (is:=[0,1,2,4]) (ZS.Blk.of (by kernel_rfl)) (ZS.gName_keep (by decide)) (λ _ _ _ _ _ _=>(dg_name (i:=0) (show List.Nodup (["place", "groups", "places", "seating", "k"]:List Str)by decide +kernel) rfl (lo rfl))) (λ _ _ _ _ _=>tst_no) (λ _ _ _ _ _=>(aq C_self (hr.mono (Nat.le_refl _)) rfl (aa (av 1) (aa (av 2) (da_cCall (aq C_with_place (hr.mono (by omega)) rfl (aa (av 3) (aa (av 4) (aa (av 0) ao)))) ao)))))) (au (aD (de_tup (ah (de_str (by decide +kernel)) (aa (av 4) (da_cCall (de_tuple rfl g_tuple bb_tuple (aw 6)) ao)))))))))))
abbrev s_paper_of:Stmt:=top 50
abbrev n_paper_of:List Str:=["hall", "groups", "fast"]
theorem sc_paper_of:aA n_paper_of n_paper_of (ak s_paper_of):=⟨rfl,rfl,rfl,by decide +kernel,rfl,by decide +kernel,by decide +kernel⟩
abbrev T_paper_of(P:Program)(w:World)(K:PySem.W.Frag)(mg:Str->Option Value)(base:Heap):Prop:=ZS.CalD P w K mg base "paper_of" 17 n_paper_of (KC.fn_paper_of)
theorem ok_paper_of(d:ZS.DefD K mg "paper_of" s_paper_of n_paper_of)(C_all_places:T_all_places P w K mg base)(C_fast_seating:T_fast_seating P w K mg base)(C_first_of_all:T_first_of_all P w K mg base)(C_paper_beside:T_paper_beside P w K mg base):T_paper_of P w K mg base :=
 calQD (N:=n_paper_of) (b:=KC.b_paper_of) d sc_paper_of λ f cdv A outer s H E hr=>have nd:=sc_paper_of.nd;have hu:=hr.units;(aj (ds_if (dt_notN (ai (aq C_first_of_all.full (hr.mono (by decide)) rfl (aa (av 0) (aa (av 1) (aa (av 2) ao)))))) (au (aD de_non)) aQ) (au (aD (aq C_paper_beside (hr.mono (by decide)) rfl (aa (av 1) (da_cCall (aq C_all_places (hr.mono (by decide)) rfl (aa (av 0) (aa (av 1) ao))) (da_cCall (aq C_fast_seating (hr.mono (by decide)) rfl (aa (av 0) (aa (av 1) (aa (av 2) ao)))) ao)))))))
abbrev TX_paper_of(P:Program)(w:World)(K:PySem.W.Frag)(mg:Str->Option Value)(base:Heap):Prop:=ZS.CalX P w K mg base "paper_of" 17 n_paper_of fx_paper_of
theorem okx_paper_of(d:ZS.DefD K mg "paper_of" s_paper_of n_paper_of)(C_all_places:T_all_places P w K mg base)(C_first_of_all:T_first_of_all P w K mg base)(C_paper_beside:T_paper_beside P w K mg base)(X_fast_seating:TX_fast_seating P w K mg base)(X_first_of_all:TX_first_of_all P w K mg base):TX_paper_of P w K mg base :=
 calXD (N:=n_paper_of) (xb:=xb_paper_of) d sc_paper_of λ f cdv A outer s H E hr=>have nd:=sc_paper_of.nd;have hu:=hr.units;(xss_cons (ds_if (dt_notN (ai (aq C_first_of_all.full (hr.mono (by decide)) rfl (aa (av 0) (aa (av 1) (aa (av 2) ao)))))) (au (aD de_non)) aQ) (xs_ifT (xt_notN (xe_call X_first_of_all (hr.mono (by decide)) rfl (aa (av 0) (aa (av 1) (aa (av 2) ao))))) (au (aD de_non)) aQ) (xss_one (xs_ret (xe_arg C_paper_beside (hr.mono (by decide)) rfl (xa_tl (av 1) (xa_tl (aq C_all_places (hr.mono (by decide)) rfl (aa (av 0) (aa (av 1) ao))) (xa_hd (xe_call X_fast_seating (hr.mono (by decide)) rfl (aa (av 0) (aa (av 1) (aa (av 2) ao)))) ao)))))))
abbrev s_law_cell_at:Stmt:=top 52
abbrev n_law_cell_at:List Str:=["_law_script", "_law_k"]
theorem sc_law_cell_at:aA n_law_cell_at n_law_cell_at (ak s_law_cell_at):=⟨rfl,rfl,rfl,by decide +kernel,rfl,by decide +kernel,by decide +kernel⟩
abbrev T_law_cell_at(P:Program)(w:World)(K:PySem.W.Frag)(mg:Str->Option Value)(base:Heap):Prop:=ZS.Cal P w K mg base "_law_cell_at" 1 n_law_cell_at (KG.aL)
theorem ok_law_cell_at(d:ZS.Def K mg "_law_cell_at" s_law_cell_at n_law_cell_at)(aO:mg "len" = none):T_law_cell_at P w K mg base :=
 calQ (N:=n_law_cell_at) (b:=KG.b_law_cell_at) d sc_law_cell_at λ f cdv A outer s H E hr=>have nd:=sc_law_cell_at.nd;have hu:=hr.units;(aj (ds_if (dt_cmpC ZS.c_lt (aw 1) (ai (de_len rfl aO bb_len (aw 0))) (nomark _)) (au (aD (aC (aw 0) (aw 1)))) aQ) (au (aD ag)))
abbrev s_law_mixed:Stmt:=top 53
abbrev n_law_mixed:List Str:=["_law_cell", "_law_k", "_law_number"]
abbrev p_law_mixed:List Str:=["_law_cell", "_law_k"]
theorem sc_law_mixed:aA n_law_mixed p_law_mixed (ak s_law_mixed):=⟨rfl,rfl,rfl,by decide +kernel,rfl,by decide +kernel,by decide +kernel⟩
abbrev T_law_mixed(P:Program)(w:World)(K:PySem.W.Frag)(mg:Str->Option Value)(base:Heap):Prop:=ZS.Cal P w K mg base "_law_mixed" 1 p_law_mixed (KG.fn_law_mixed)
theorem ok_law_mixed(d:ZS.Def K mg "_law_mixed" s_law_mixed p_law_mixed): T_law_mixed P w K mg base :=
 calQ (N:=n_law_mixed) (b:=KG.b_law_mixed) d sc_law_mixed λ f cdv A outer s H E hr=>have nd:=sc_law_mixed.nd;have hu:=hr.units;(aj (aB (i:=2) nd rfl (lo rfl) (de_mod (ai (de_mul (ai (aG (ai (aG (ai (de_mod (aw 0) (ai ag))) (ai (de_mul (ai (de_mul (ai ag) (aw 1))) (aw 1))))) (aw 1))) (ai ag))) (ai ag))) (aj (aB (i:=2) nd rfl (lo rfl) (de_mod (ai (aG (ai (aG (ai (de_mul (aw 2) (aw 2))) (ai (de_mul (ai ag) (aw 2))))) (aw 1))) (ai ag))) (au (aD (de_mod (ai (aG (ai (de_mul (aw 2) (ai ag))) (ai (de_mul (ai ag) (aw 1))))) (ai ag))))))
abbrev s_law_digits:Stmt:=top 54
abbrev n_law_digits:List Str:=["_law_cell", "_law_sizes", "_law_found", "_law_size"]
abbrev p_law_digits:List Str:=["_law_cell", "_law_sizes"]
theorem sc_law_digits:aA n_law_digits p_law_digits (ak s_law_digits):=⟨rfl,rfl,rfl,by decide +kernel,rfl,by decide +kernel,by decide +kernel⟩
abbrev T_law_digits(P:Program)(w:World)(K:PySem.W.Frag)(mg:Str->Option Value)(base:Heap):Prop:=ZS.Cal P w K mg base "_law_digits" 1 p_law_digits (KH.fn_law_digits)
theorem ok_law_digits(d:ZS.Def K mg "_law_digits" s_law_digits p_law_digits): T_law_digits P w K mg base :=
 calQ (N:=n_law_digits) (b:=KH.b_law_digits) d sc_law_digits λ f cdv A outer s H E hr=>have nd:=sc_law_digits.nd;have hu:=hr.units;(aj (ds_own (i:=2) nd rfl (lo rfl) (dl_disp ao)) (aj (ds_for PassesOwn.never rfl (dj_seq (av 1)) (dg_name (i:=3) nd rfl (lo rfl)) (aj (ds_app (i:=2) (pv 2) (de_mod (aw 0) (aw 3))) (au (aB (i:=0) nd rfl (lo rfl) (de_div (aw 0) (aw 3)))))) (dss_frz (i:=2) (au (aD (av 2))))))
abbrev s_law_hall:Stmt:=top 55
abbrev n_law_hall:List Str:=["_law_script", "_law_first", "_law_rows", "_law_columns", "_law_one", "_law_other", "_law_signs", "_law_numbers", "_law_hall_here", "_law_r"]
abbrev p_law_hall:List Str:=["_law_script"]
theorem sc_law_hall:aA n_law_hall p_law_hall (ak s_law_hall):=⟨rfl,rfl,rfl,by decide +kernel,rfl,by decide +kernel,by decide +kernel⟩
abbrev T_law_hall(P:Program)(w:World)(K:PySem.W.Frag)(mg:Str->Option Value)(base:Heap):Prop:=ZS.Cal P w K mg base "_law_hall" 2 p_law_hall (KH.fn_law_hall)
theorem ok_law_hall(d:ZS.Def K mg "_law_hall" s_law_hall p_law_hall)(C_law_cell_at:T_law_cell_at P w K mg base)(C_law_digits:T_law_digits P w K mg base)(C_law_mixed:T_law_mixed P w K mg base)(aH:mg "range" = none)(g_tuple:mg "tuple" = none):T_law_hall P w K mg base :=
 calQ (N:=n_law_hall) (b:=KH.b_law_hall) d sc_law_hall λ f cdv A outer s H E hr=>have nd:=sc_law_hall.nd;have hu:=hr.units;(aj (aB (i:=1) nd rfl (lo rfl) (aq C_law_cell_at (hr.mono (by decide)) rfl (aa (av 0) (ah ag ao)))) (aj (aB (i:=2) nd rfl (lo rfl) (aG (ai ag) (ai (de_mod (ai (de_div (aw 1) (ai ag))) (ai ag))))) (aj (aB (i:=3) nd rfl (lo rfl) (aG (ai ag) (ai (de_mod (ai (de_div (aw 1) (ai ag))) (ai ag))))) (aj (aB (i:=4) nd rfl (lo rfl) (aC (ai (de_str (by decide +kernel))) (ai (de_mod (ai (de_div (aw 1) (ai ag))) (ai ag))))) (aj (aB (i:=5) nd rfl (lo rfl) (aC (ai (de_str (by decide +kernel))) (ai (de_mod (ai (aG (ai (aG (ai (de_div (aw 1) (ai ag))) (ai ag))) (ai (de_mod (ai (de_div (aw 1) (ai ag))) (ai ag))))) (ai ag))))) (aj (aB (i:=6) nd rfl (lo rfl) (aC (dw_l (dl_disp (ah (de_str (by decide +kernel)) (da_cBin (aG (ai (aG (ai (de_str (by decide +kernel))) (ai (de_str (by decide +kernel))))) (aw 4)) (da_cBin (aG (ai (aG (ai (aG (ai (de_str (by decide +kernel))) (ai (de_str (by decide +kernel))))) (aw 4))) (aw 5)) ao))))) (ai (de_mod (ai (de_div (aw 1) (ai ag))) (ai ag))))) (aj (ds_if (dt_cmpC (ZS.c_eq hu) (ai (de_mod (aw 1) (ai ag))) (ai ag) (nomark _)) (aj (aB (i:=6) nd rfl (lo rfl) (de_str (by decide +kernel))) (au (aB (i:=7) nd rfl (lo rfl) (aq C_law_digits (hr.mono (by decide)) rfl (da_cCall (aq C_law_cell_at (hr.mono (by decide)) rfl (aa (av 0) (ah ag ao))) (da_cBin (de_l (dl_rep (dl_disp (ah ag ao)) (ai (de_mul (aw 2) (aw 3))))) ao)))))) (aj (aB (i:=2) nd rfl (lo rfl) (aC (dw_l (dl_disp (ah ag (ah ag (ah ag (ah ag (ah ag (ah ag ao)))))))) (ai (de_sub (aw 2) (ai ag))))) (aj (aB (i:=3) nd rfl (lo rfl) (aC (dw_l (dl_disp (ah ag (ah ag (ah ag (ah ag (ah ag (ah ag (ah ag (ah ag (ah ag (ah ag (ah ag (ah ag ao)))))))))))))) (ai (de_sub (aw 3) (ai ag))))) (au (ds_setC (i:=7) rfl nd rfl (lo rfl) (di_j (dj_rng1 rfl aH (de_mul (aw 2) (aw 3)))) (N':=["_law_k", "_law_script"]) (n:=1) (is:=[0]) (ZS.Blk.of (by kernel_rfl)) (ZS.gName_keep (by decide)) (λ _ _ _ _ _ _=>(dg_name (i:=0) (show List.Nodup (["_law_k", "_law_script"]:List Str)by decide +kernel) rfl (lo rfl))) (λ _ _ _ _ _=>tst_no) (λ _ _ _ _ _=>(de_mod (ai (de_div (ai (aq C_law_mixed (hr.mono (by decide)) rfl (da_cCall (aq C_law_cell_at (hr.mono (by decide)) rfl (aa (av 1) (ah ag ao))) (aa (av 0) ao)))) (ai ag))) (ai ag)))))))) (aj (ds_own (i:=8) nd rfl (lo rfl) (dl_disp ao)) (aj (ds_for PassesOwn.never rfl (dj_rng1 rfl aH (av 2)) (dg_name (i:=9) nd rfl (lo rfl)) (au (ds_app (i:=8) (pv 8) (de_join (de_str (by decide +kernel)) (dw_l (dl_comp rfl (di_seq (dw_l (dl_slice (aw 7) (dp_at (ai (de_mul (aw 9) (aw 3)))) (dp_at (ai (de_mul (ai (aG (aw 9) (ai ag))) (aw 3))))))) (N':=["_law_number", "_law_signs"]) (n:=1) (is:=[6]) (ZS.Blk.of (by kernel_rfl)) (ZS.gName_keep (by decide)) (λ _ _ _ _ _ _=>(dg_name (i:=0) (show List.Nodup (["_law_number", "_law_signs"]:List Str)by decide +kernel) rfl (lo rfl))) (λ _ _ _ _ _=>tst_no) (λ _ _ _ _ _=>(aC (aw 1) (aw 0))))))))) (au (aD (de_tup (da_cCall (de_tuple rfl g_tuple bb_tuple (aw 8)) (aa (av 4) (aa (av 5) ao)))))))))))))))
abbrev s_law_name:Stmt:=top 56
abbrev n_law_name:List Str:=["_law_cell", "_law_k", "_law_letters", "_law_size", "_law_at", "_law_name_here", "_law_j", "_law_number"]
abbrev p_law_name:List Str:=["_law_cell", "_law_k"]
theorem sc_law_name:aA n_law_name p_law_name (ak s_law_name):=⟨rfl,rfl,rfl,by decide +kernel,rfl,by decide +kernel,by decide +kernel⟩
abbrev T_law_name(P:Program)(w:World)(K:PySem.W.Frag)(mg:Str->Option Value)(base:Heap):Prop:=ZS.Cal P w K mg base "_law_name" 1 p_law_name (KH.fn_law_name)
theorem ok_law_name(d:ZS.Def K mg "_law_name" s_law_name p_law_name)(aH:mg "range" = none):T_law_name P w K mg base :=
 calQ (N:=n_law_name) (b:=KH.b_law_name) d sc_law_name λ f cdv A outer s H E hr=>have nd:=sc_law_name.nd;have hu:=hr.units;(aj (aB (i:=2) nd rfl (lo rfl) (de_str (by decide +kernel))) (aj (aB (i:=3) nd rfl (lo rfl) (aG (ai ag) (ai (de_mod (aw 0) (ai ag))))) (aj (aB (i:=4) nd rfl (lo rfl) (de_mod (ai (de_div (aw 0) (ai ag))) (aw 3))) (aj (aB (i:=5) nd rfl (lo rfl) (de_str (by decide +kernel))) (aj (ds_for PassesOwn.never rfl (dj_rng1 rfl aH (av 3)) (dg_name (i:=6) nd rfl (lo rfl)) (aj (aB (i:=7) nd rfl (lo rfl) (aG (ai (de_div (ai (de_div (aw 0) (ai ag))) (ai (aG (aw 6) (ai ag))))) (ai (de_mul (aw 6) (aw 6))))) (aj (ds_if (dt_cmpC (ZS.c_eq hu) (aw 6) (aw 4) (nomark _)) (au (aB (i:=7) nd rfl (lo rfl) (aG (aw 7) (aw 1)))) aQ) (au (aB (i:=5) nd rfl (lo rfl) (aG (aw 5) (ai (aC (aw 2) (ai (de_mod (aw 7) (ai ag))))))))))) (au (aD (av 5))))))))
abbrev s_law_any:Stmt:=top 57
abbrev n_law_any:List Str:=["_law_cell", "_law_name_here", "_law_letters", "_law_width", "_law_depth", "_law_kind", "_law_gap", "_law_great", "_law_bits", "_law_rest", "_law_wide", "_law_sizes", "_law_worths", "_law_wishes"]
abbrev p_law_any:List Str:=["_law_cell", "_law_name_here"]
theorem sc_law_any:aA n_law_any p_law_any (ak s_law_any):=⟨rfl,rfl,rfl,by decide +kernel,rfl,by decide +kernel,by decide +kernel⟩
abbrev T_law_any(P:Program)(w:World)(K:PySem.W.Frag)(mg:Str->Option Value)(base:Heap):Prop:=ZS.Cal P w K mg base "_law_any" 2 p_law_any (KH.fn_law_any)
theorem ok_law_any(d:ZS.Def K mg "_law_any" s_law_any p_law_any)(C_law_digits:T_law_digits P w K mg base)(aH:mg "range" = none)(g_tuple:mg "tuple" = none):T_law_any P w K mg base :=
 calQ (N:=n_law_any) (b:=KH.b_law_any) d sc_law_any λ f cdv A outer s H E hr=>have nd:=sc_law_any.nd;have hu:=hr.units;(aj (aB (i:=2) nd rfl (lo rfl) (de_l (dl_disp (ah (de_str (by decide +kernel)) (ah (de_str (by decide +kernel)) (ah (de_str (by decide +kernel)) (ah (de_str (by decide +kernel)) (ah (de_str (by decide +kernel)) (ah (de_str (by decide +kernel)) (ah (de_str (by decide +kernel)) (ah (de_str (by decide +kernel)) (ah (de_str (by decide +kernel)) (ah (de_str (by decide +kernel)) (ah (de_str (by decide +kernel)) (ah (de_str (by decide +kernel)) (ah (de_str (by decide +kernel)) (ah (de_str (by decide +kernel)) (ah (de_str (by decide +kernel)) (ah (de_str (by decide +kernel)) (ah (de_str (by decide +kernel)) (ah (de_str (by decide +kernel)) (ah (de_str (by decide +kernel)) (ah (de_str (by decide +kernel)) ao))))))))))))))))))))))) (aj (aB (i:=2) nd rfl (lo rfl) (de_l (dl_cat (aw 2) (dw_l (dl_disp (ah (de_str (by decide +kernel)) (ah (de_str (by decide +kernel)) (ah (de_str (by decide +kernel)) (ah (de_str (by decide +kernel)) (ah (de_str (by decide +kernel)) (ah (de_str (by decide +kernel)) (ah (de_str (by decide +kernel)) ao)))))))))))) (aj (ds_get (aq C_law_digits (hr.mono (by decide)) rfl (aa (av 0) (da_cList (de_l (dl_disp (ah ag (ah ag (ah ag (ah ag (ah ag (ah ag ao)))))))) ao))) (dg_seq rfl (dgs_cons (i:=3) nd rfl (lo rfl) (dgs_cons (i:=4) nd rfl (lo rfl) (dgs_cons (i:=5) nd rfl (lo rfl) (dgs_cons (i:=6) nd rfl (lo rfl) (dgs_cons (i:=7) nd rfl (lo rfl) (dgs_cons (i:=8) nd rfl (lo rfl) dgs_nil)))))) rfl)) (aj (aB (i:=9) nd rfl (lo rfl) (de_div (aw 0) (ai ag))) (aj (aB (i:=10) nd rfl (lo rfl) (de_mod (aw 9) (ai (aG (ai (de_mul (ai (aG (aw 3) (ai ag))) (ai (aG (aw 4) (ai ag))))) (ai ag))))) (aj (aB (i:=11) nd rfl (lo rfl) (aC (dw_l (dl_disp (da_cList (de_l (dl_disp (ah ag (ah ag (ah ag (ah ag (ah ag (ah ag (ah ag ao))))))))) (da_cBin (de_l (dl_cat (dw_l (dl_disp (da_cBin (de_pow (ai ag) (ai ag)) ao))) (dw_l (dl_rep (dl_disp (da_cBin (de_sub (ai (de_pow (ai ag) (ai ag))) (ai ag)) ao)) (ai ag))))) ao)))) (aw 7))) (aj (aB (i:=12) nd rfl (lo rfl) (aq C_law_digits (hr.mono (by decide)) rfl (da_cBin (de_div (aw 9) (ai (aG (ai (de_mul (ai (aG (aw 3) (ai ag))) (ai (aG (aw 4) (ai ag))))) (ai ag)))) (aa (av 11) ao)))) (aj (ds_setC (i:=13) rfl nd rfl (lo rfl) (di_j (dj_rng1 rfl aH ag)) (N':=["_law_r", "_law_bits", "_law_worths"]) (n:=1) (is:=[8,12]) (ZS.Blk.of (by kernel_rfl)) (ZS.gName_keep (by decide)) (λ _ _ _ _ _ _=>(dg_name (i:=0) (show List.Nodup (["_law_r", "_law_bits", "_law_worths"]:List Str)by decide +kernel) rfl (lo rfl))) (λ _ _ _ _ _=>(tst_one (dt_cmpC (ZS.c_eq hu) (ai (de_mod (ai (de_div (aw 1) (ai (aC (dw_l (dl_disp (ah ag (ah ag (ah ag (ah ag (ah ag (ah ag ao)))))))) (aw 0))))) (ai ag))) (ai ag) (nomark _)))) (λ _ _ _ _ _=>(de_tup (aa (av 0) (da_cBin (aG (ai ag) (ai (aC (aw 2) (ai (aG (ai ag) (aw 0)))))) ao))))) (au (aD (de_tup (aa (av 1) (da_cBin (aG (aw 3) (ai ag)) (da_cBin (aG (aw 4) (ai ag)) (da_cSub (aC (aw 2) (aw 5)) (aa (av 10) (aa (av 6) (da_cSub (aC (aw 12) (ai ag)) (da_cCall (de_tuple rfl g_tuple bb_tuple (aw 13)) ao)))))))))))))))))))
abbrev s_law_group:Stmt:=top 58
abbrev n_law_group:List Str:=["_law_number", "_law_name_here", "_law_letters", "_law_great", "_law_width", "_law_depth", "_law_kind", "_law_wide", "_law_worth", "_law_more", "_law_wishes", "_law_r"]
abbrev p_law_group:List Str:=["_law_number", "_law_name_here", "_law_letters", "_law_great"]
theorem sc_law_group:aA n_law_group p_law_group (ak s_law_group):=⟨rfl,rfl,rfl,by decide +kernel,rfl,by decide +kernel,by decide +kernel⟩
abbrev T_law_group(P:Program)(w:World)(K:PySem.W.Frag)(mg:Str->Option Value)(base:Heap):Prop:=ZS.Cal P w K mg base "_law_group" 1 p_law_group (KH.fn_law_group)
theorem ok_law_group(d:ZS.Def K mg "_law_group" s_law_group p_law_group)(g_int:mg "int" = none)(aH:mg "range" = none)(g_tuple:mg "tuple" = none):T_law_group P w K mg base :=
 calQ (N:=n_law_group) (b:=KH.b_law_group) d sc_law_group λ f cdv A outer s H E hr=>have nd:=sc_law_group.nd;have hu:=hr.units;(aj (aB (i:=4) nd rfl (lo rfl) (aG (ai ag) (ai (de_mod (aw 0) (ai ag))))) (aj (aB (i:=5) nd rfl (lo rfl) (aC (dw_l (dl_disp (ah ag (ah ag (ah ag (ah ag ao)))))) (ai (de_mod (ai (de_div (aw 0) (ai ag))) (ai ag))))) (aj (aB (i:=6) nd rfl (lo rfl) (aC (dw_l (dl_disp (ah (de_str (by decide +kernel)) (ah (de_str (by decide +kernel)) (da_cSub (aC (aw 2) (ai ag)) (da_cSub (aC (aw 2) (ai ag)) ao)))))) (ai (de_mod (ai (de_div (aw 0) (ai ag))) (ai ag))))) (aj (aB (i:=7) nd rfl (lo rfl) (aC (dw_l (dl_disp (ah ag (ah ag (ah ag (ah ag ao)))))) (ai (de_mod (ai (de_div (aw 0) (ai ag))) (ai ag))))) (aj (aB (i:=8) nd rfl (lo rfl) (de_mod (ai (de_div (aw 0) (ai ag))) (ai ag))) (aj (aB (i:=9) nd rfl (lo rfl) (aG (ai ag) (ai (de_mod (ai (de_div (aw 0) (ai ag))) (ai ag))))) (aj (ds_if (dt_e (av 3)) (aj (aB (i:=8) nd rfl (lo rfl) (de_mod (ai (de_div (aw 0) (ai ag))) (ai (de_pow (ai ag) (ai ag))))) (au (aB (i:=9) nd rfl (lo rfl) (aG (ai ag) (ai (de_mod (ai (de_div (aw 0) (ai ag))) (ai (de_pow (ai ag) (ai ag))))))))) aQ) (aj (ds_own (i:=10) nd rfl (lo rfl) (dl_disp ao)) (aj (ds_for PassesOwn.never rfl (dj_rng1 rfl aH ag) (dg_name (i:=11) nd rfl (lo rfl)) (au (ds_if (dt_cmpC (ZS.c_eq hu) (ai (de_mod (ai (de_div (aw 0) (ai (aC (dw_l (dl_disp (ah ag (ah ag (ah ag (ah ag ao)))))) (aw 11))))) (ai ag))) (ai ag) (nomark _)) (au (ds_app (i:=10) (pv 10) (de_tup (aa (av 11) (da_cBin (aG (aw 9) (ai (de_mul (aw 11) (ai (de_int1 rfl g_int bb_int (aw 3)))))) ao))))) aQ))) (au (aD (de_tup (aa (av 1) (aa (av 4) (aa (av 5) (aa (av 6) (aa (av 7) (da_cSub (aC (dw_l (dl_disp (ah ag (ah ag (ah ag (ah ag ao)))))) (ai (de_mod (ai (de_div (aw 0) (ai ag))) (ai ag)))) (aa (av 8) (da_cCall (de_tuple rfl g_tuple bb_tuple (aw 10)) ao))))))))))))))))))))
abbrev s_law_groups:Stmt:=top 59
abbrev n_law_groups:List Str:=["_law_script", "_law_one", "_law_other", "_law_way", "_law_many", "_law_great", "_law_twins", "_law_groups_here", "_law_k", "_law_name_here", "_law_cell"]
abbrev p_law_groups:List Str:=["_law_script", "_law_one", "_law_other"]
theorem sc_law_groups:aA n_law_groups p_law_groups (ak s_law_groups):=⟨rfl,rfl,rfl,by decide +kernel,rfl,by decide +kernel,by decide +kernel⟩
abbrev T_law_groups(P:Program)(w:World)(K:PySem.W.Frag)(mg:Str->Option Value)(base:Heap):Prop:=ZS.Cal P w K mg base "_law_groups" 3 p_law_groups (KH.fn_law_groups)
theorem ok_law_groups(d:ZS.Def K mg "_law_groups" s_law_groups p_law_groups)(C_law_any:T_law_any P w K mg base)(C_law_cell_at:T_law_cell_at P w K mg base)(C_law_digits:T_law_digits P w K mg base)(C_law_group:T_law_group P w K mg base)(C_law_mixed:T_law_mixed P w K mg base)(C_law_name:T_law_name P w K mg base)(aO:mg "len" = none)(aH:mg "range" = none)(g_tuple:mg "tuple" = none):T_law_groups P w K mg base :=
 calQ (N:=n_law_groups) (b:=KH.b_law_groups) d sc_law_groups λ f cdv A outer s H E hr=>have nd:=sc_law_groups.nd;have hu:=hr.units;(aj (ds_get (aq C_law_digits (hr.mono (by decide)) rfl (da_cCall (aq C_law_cell_at (hr.mono (by decide)) rfl (aa (av 0) (ah ag ao))) (da_cList (de_l (dl_disp (ah ag (ah ag (ah ag (ah ag ao)))))) ao))) (dg_seq rfl (dgs_cons (i:=3) nd rfl (lo rfl) (dgs_cons (i:=4) nd rfl (lo rfl) (dgs_cons (i:=5) nd rfl (lo rfl) (dgs_cons (i:=6) nd rfl (lo rfl) dgs_nil)))) rfl)) (aj (ds_own (i:=7) nd rfl (lo rfl) (dl_disp ao)) (aj (ds_for PassesOwn.never rfl (dj_rng1 rfl aH (av 4)) (dg_name (i:=8) nd rfl (lo rfl)) (aj (aB (i:=9) nd rfl (lo rfl) (aq C_law_name (hr.mono (by decide)) rfl (da_cCall (aq C_law_cell_at (hr.mono (by decide)) rfl (aa (av 0) (ah ag ao))) (aa (av 8) ao)))) (aj (aB (i:=10) nd rfl (lo rfl) (aq C_law_cell_at (hr.mono (by decide)) rfl (aa (av 0) (da_cBin (aG (ai ag) (aw 8)) ao)))) (aj (ds_if (dt_cmpC ZS.c_ge (ai (aG (ai ag) (aw 8))) (ai (de_len rfl aO bb_len (aw 0))) (nomark _)) (au (aB (i:=10) nd rfl (lo rfl) (de_mul (ai (aq C_law_mixed (hr.mono (by decide)) rfl (da_cCall (aq C_law_cell_at (hr.mono (by decide)) rfl (aa (av 0) (ah ag ao))) (aa (av 8) ao)))) (ai (aq C_law_mixed (hr.mono (by decide)) rfl (da_cCall (aq C_law_cell_at (hr.mono (by decide)) rfl (aa (av 0) (ah ag ao))) (aa (av 8) ao))))))) aQ) (au (ds_if (dtw (dt_and (dt_cmpC (ZS.c_eq hu) (aw 6) (ai ag) (nomark _)) (dt_and (dt_cmpC ZS.c_gt (aw 8) (ai ag) (nomark _)) (dt_and1 (dt_cmpC ZS.c_gt (ai (de_mod (aw 10) (ai ag))) (ai ag) (nomark _)))))) (au (ds_app (i:=7) (pv 7) (aG (ai (de_tup (aa (av 9) ao))) (ai (de_slice (ai (aC (aw 7) (ai ag))) (dp_at (ai ag)) dp_no))))) (au (ds_if (dt_cmpC (ZS.c_eq hu) (ai (de_mod (aw 3) (ai ag))) (ai ag) (nomark _)) (au (ds_app (i:=7) (pv 7) (aq C_law_any (hr.mono (by decide)) rfl (aa (av 10) (aa (av 9) ao))))) (au (ds_app (i:=7) (pv 7) (aq C_law_group (hr.mono (by decide)) rfl (da_cBin (de_mod (aw 10) (ai (de_pow (ai ag) (ai ag)))) (aa (av 9) (da_cBin (aG (aw 1) (aw 2)) (da_cCmp (de_cmpC (ZS.c_eq hu) (aw 5) (ai ag) (nomark _)) ao))))))))))))))) (au (aD (de_tuple rfl g_tuple bb_tuple (aw 7)))))))
abbrev s_law_fits:Stmt:=top 60
abbrev n_law_fits:List Str:=["_law_hall_here", "_law_group_here", "_law_row", "_law_column", "_law_signs", "_law_r"]
abbrev p_law_fits:List Str:=["_law_hall_here", "_law_group_here", "_law_row", "_law_column"]
theorem sc_law_fits:aA n_law_fits p_law_fits (ak s_law_fits):=⟨rfl,rfl,rfl,by decide +kernel,rfl,by decide +kernel,by decide +kernel⟩
abbrev T_law_fits(P:Program)(w:World)(K:PySem.W.Frag)(mg:Str->Option Value)(base:Heap):Prop:=ZS.Cal P w K mg base "_law_fits" 1 p_law_fits (KH.fn_law_fits)
theorem ok_law_fits(d:ZS.Def K mg "_law_fits" s_law_fits p_law_fits)(aO:mg "len" = none)(aH:mg "range" = none):T_law_fits P w K mg base :=
 calQ (N:=n_law_fits) (b:=KH.b_law_fits) d sc_law_fits λ f cdv A outer s H E hr=>have nd:=sc_law_fits.nd;have hu:=hr.units;(aj (ds_if (dtw (dt_or (dt_cmpC ZS.c_gt (ai (aG (aw 2) (ai (aC (aw 1) (ai ag))))) (ai (de_len rfl aO bb_len (aw 0))) (nomark _)) (dt_or1 (dt_cmpC ZS.c_gt (ai (aG (aw 3) (ai (aC (aw 1) (ai ag))))) (ai (de_len rfl aO bb_len (ai (aC (aw 0) (ai ag))))) (nomark _))))) (au (aD de_bl)) aQ) (aj (aB (i:=4) nd rfl (lo rfl) (de_str (by decide +kernel))) (aj (ds_for PassesOwn.never rfl (dj_rng2 rfl aH (av 2) (aG (aw 2) (ai (aC (aw 1) (ai ag))))) (dg_name (i:=5) nd rfl (lo rfl)) (au (aB (i:=4) nd rfl (lo rfl) (aG (aw 4) (ai (de_slice (ai (aC (aw 0) (aw 5))) (dp_at (aw 3)) (dp_at (ai (aG (aw 3) (ai (aC (aw 1) (ai ag)))))))))))) (aj (ds_if (dt_cmpC (ZS.c_ne hu) (dw_l (dl_comp rfl (di_seq (aw 4)) (N':=["_law_sign", "_law_group_here"]) (n:=1) (is:=[1]) (ZS.Blk.of (by kernel_rfl)) (ZS.gName_keep (by decide)) (λ _ _ _ _ _ _=>(dg_name (i:=0) (show List.Nodup (["_law_sign", "_law_group_here"]:List Str)by decide +kernel) rfl (lo rfl))) (λ _ _ _ _ _=>(tst_one (dtw (dt_and (dt_cmpC (ZS.c_ne hu) (aw 0) (ai (de_str (by decide +kernel))) (nomark _)) (dt_and (dt_cmpC (ZS.c_ne hu) (aw 0) (ai (de_str (by decide +kernel))) (nomark _)) (dt_and1 (dt_cmpC (ZS.c_ne hu) (aw 0) (ai (aC (aw 1) (ai ag))) (nomark _)))))))) (λ _ _ _ _ _=>(av 0)))) (dw_l (dl_disp ao)) (nomark _)) (au (aD de_bl)) aQ) (au (aD (de_cmpC ZS.c_ge (ai (de_cntS (aw 4) (ai (de_str (by decide +kernel))))) (ai (aC (aw 1) (ai ag))) (nomark _))))))))
abbrev s_law_places:Stmt:=top 61
abbrev n_law_places:List Str:=["_law_hall_here", "_law_group_here", "_law_found", "_law_row", "_law_column"]
abbrev p_law_places:List Str:=["_law_hall_here", "_law_group_here"]
theorem sc_law_places:aA n_law_places p_law_places (ak s_law_places):=⟨rfl,rfl,rfl,by decide +kernel,rfl,by decide +kernel,by decide +kernel⟩
abbrev T_law_places(P:Program)(w:World)(K:PySem.W.Frag)(mg:Str->Option Value)(base:Heap):Prop:=ZS.Cal P w K mg base "_law_places" 2 p_law_places (KH.fn_law_places)
theorem ok_law_places(d:ZS.Def K mg "_law_places" s_law_places p_law_places)(C_law_fits:T_law_fits P w K mg base)(aO:mg "len" = none)(aH:mg "range" = none):T_law_places P w K mg base :=
 calQ (N:=n_law_places) (b:=KH.b_law_places) d sc_law_places λ f cdv A outer s H E hr=>have nd:=sc_law_places.nd;have hu:=hr.units;(aj (ds_own (i:=2) nd rfl (lo rfl) (dl_disp ao)) (aj (ds_for PassesOwn.never rfl (dj_rng1 rfl aH (de_len rfl aO bb_len (aw 0))) (dg_name (i:=3) nd rfl (lo rfl)) (au (ds_for PassesOwn.never rfl (dj_rng1 rfl aH (de_len rfl aO bb_len (ai (aC (aw 0) (ai ag))))) (dg_name (i:=4) nd rfl (lo rfl)) (au (ds_if (dt_e (aq C_law_fits (hr.mono (by decide)) rfl (aa (av 0) (aa (av 1) (aa (av 3) (aa (av 4) ao)))))) (au (ds_app (i:=2) (pv 2) (de_tup (aa (av 3) (aa (av 4) ao))))) aQ))))) (dss_frz (i:=2) (au (aD (av 2))))))
abbrev s_law_apart:Stmt:=top 62
abbrev n_law_apart:List Str:=["_law_one", "_law_here", "_law_other", "_law_there", "_law_gap"]
abbrev p_law_apart:List Str:=["_law_one", "_law_here", "_law_other", "_law_there"]
theorem sc_law_apart:aA n_law_apart p_law_apart (ak s_law_apart):=⟨rfl,rfl,rfl,by decide +kernel,rfl,by decide +kernel,by decide +kernel⟩
abbrev T_law_apart(P:Program)(w:World)(K:PySem.W.Frag)(mg:Str->Option Value)(base:Heap):Prop:=ZS.Cal P w K mg base "_law_apart" 1 p_law_apart (KH.fn_law_apart)
theorem ok_law_apart(d:ZS.Def K mg "_law_apart" s_law_apart p_law_apart)(g_max:mg "max" = none):T_law_apart P w K mg base :=
 calQ (N:=n_law_apart) (b:=KH.b_law_apart) d sc_law_apart λ f cdv A outer s H E hr=>have nd:=sc_law_apart.nd;have hu:=hr.units;(aj (ds_if (dtw (dt_or (dt_cmpC ZS.c_le (ai (aG (ai (aC (aw 1) (ai ag))) (ai (aC (aw 0) (ai ag))))) (ai (aC (aw 3) (ai ag))) (nomark _)) (dt_or1 (dt_cmpC ZS.c_le (ai (aG (ai (aC (aw 3) (ai ag))) (ai (aC (aw 2) (ai ag))))) (ai (aC (aw 1) (ai ag))) (nomark _))))) (au (aD de_bl)) aQ) (aj (aB (i:=4) nd rfl (lo rfl) (de_max2 rfl g_max bb_max (ai (aC (aw 0) (ai ag))) (ai (aC (aw 2) (ai ag))))) (au (aD (de_or (de_cmpC ZS.c_le (ai (aG (ai (aG (ai (aC (aw 1) (ai ag))) (ai (aC (aw 0) (ai ag))))) (aw 4))) (ai (aC (aw 3) (ai ag))) (nomark _)) (de_one (de_cmpC ZS.c_le (ai (aG (ai (aG (ai (aC (aw 3) (ai ag))) (ai (aC (aw 2) (ai ag))))) (aw 4))) (ai (aC (aw 1) (ai ag))) (nomark _))))))))
abbrev s_law_open:Stmt:=top 63
abbrev n_law_open:List Str:=["_law_spots", "_law_groups_here", "_law_seating", "_law_k", "_law_found", "_law_place", "_law_free", "_law_j", "_law_there"]
abbrev p_law_open:List Str:=["_law_spots", "_law_groups_here", "_law_seating", "_law_k"]
theorem sc_law_open:aA n_law_open p_law_open (ak s_law_open):=⟨rfl,rfl,rfl,by decide +kernel,rfl,by decide +kernel,by decide +kernel⟩
abbrev T_law_open(P:Program)(w:World)(K:PySem.W.Frag)(mg:Str->Option Value)(base:Heap):Prop:=ZS.Cal P w K mg base "_law_open" 2 p_law_open (KH.fn_law_open)
theorem ok_law_open(d:ZS.Def K mg "_law_open" s_law_open p_law_open)(C_law_apart:T_law_apart P w K mg base)(aO:mg "len" = none)(aH:mg "range" = none):T_law_open P w K mg base :=
 calQ (N:=n_law_open) (b:=KH.b_law_open) d sc_law_open λ f cdv A outer s H E hr=>have nd:=sc_law_open.nd;have hu:=hr.units;(aj (ds_own (i:=4) nd rfl (lo rfl) (dl_disp ao)) (aj (ds_for PassesOwn.never rfl (dj_seq (aC (aw 0) (aw 3))) (dg_name (i:=5) nd rfl (lo rfl)) (aj (aB (i:=6) nd rfl (lo rfl) de_bl) (aj (ds_for PassesOwn.never rfl (dj_rng1 rfl aH (de_len rfl aO bb_len (aw 1))) (dg_name (i:=7) nd rfl (lo rfl)) (aj (aB (i:=8) nd rfl (lo rfl) (aC (aw 2) (aw 7))) (au (ds_if (dtw (dt_and (dt_cmpC (ZS.c_ne hu) (aw 7) (aw 3) (nomark _)) (dt_and1 (dt_notN (aw 8))))) (au (aB (i:=6) nd rfl (lo rfl) (de_and (av 6) (de_one (aq C_law_apart (hr.mono (by decide)) rfl (da_cSub (aC (aw 1) (aw 3)) (aa (av 5) (da_cSub (aC (aw 1) (aw 7)) (aa (av 8) ao))))))))) aQ)))) (au (ds_if (dt_e (av 6)) (au (ds_app (i:=4) (pv 4) (av 5))) aQ))))) (dss_frz (i:=4) (au (aD (av 4))))))
abbrev s_law_with:Stmt:=top 64
abbrev n_law_with:List Str:=["_law_seating", "_law_k", "_law_place"]
theorem sc_law_with:aA n_law_with n_law_with (ak s_law_with):=⟨rfl,rfl,rfl,by decide +kernel,rfl,by decide +kernel,by decide +kernel⟩
abbrev T_law_with(P:Program)(w:World)(K:PySem.W.Frag)(mg:Str->Option Value)(base:Heap):Prop:=ZS.Cal P w K mg base "_law_with" 1 n_law_with (KH.fn_law_with)
theorem ok_law_with(d:ZS.Def K mg "_law_with" s_law_with n_law_with): T_law_with P w K mg base :=
 calQ (N:=n_law_with) (b:=KH.b_law_with) d sc_law_with λ f cdv A outer s H E hr=>have nd:=sc_law_with.nd;have hu:=hr.units;(au (aD (aG (ai (aG (ai (de_slice (aw 0) dp_no (dp_at (aw 1)))) (ai (de_tup (aa (av 2) ao))))) (ai (de_slice (aw 0) (dp_at (ai (aG (aw 1) (ai ag)))) dp_no)))))
abbrev s_law_seated:Stmt:=top 65
abbrev n_law_seated:List Str:=["_law_spots", "_law_groups_here", "_law_script", "_law_seating", "_law_k", "_law_cell", "_law_some"]
abbrev p_law_seated:List Str:=["_law_spots", "_law_groups_here", "_law_script"]
theorem sc_law_seated:aA n_law_seated p_law_seated (ak s_law_seated):=⟨rfl,rfl,rfl,by decide +kernel,rfl,by decide +kernel,by decide +kernel⟩
abbrev T_law_seated(P:Program)(w:World)(K:PySem.W.Frag)(mg:Str->Option Value)(base:Heap):Prop:=ZS.Cal P w K mg base "_law_seated" 3 p_law_seated (KH.fn_law_seated)
theorem ok_law_seated(d:ZS.Def K mg "_law_seated" s_law_seated p_law_seated)(C_law_cell_at:T_law_cell_at P w K mg base)(C_law_mixed:T_law_mixed P w K mg base)(C_law_open:T_law_open P w K mg base)(C_law_with:T_law_with P w K mg base)(aO:mg "len" = none)(aH:mg "range" = none)(g_tuple:mg "tuple" = none):T_law_seated P w K mg base :=
 calQ (N:=n_law_seated) (b:=KH.b_law_seated) d sc_law_seated λ f cdv A outer s H E hr=>have nd:=sc_law_seated.nd;have hu:=hr.units;(aj (aB (i:=3) nd rfl (lo rfl) (de_tuple rfl g_tuple bb_tuple (dw_l (dl_comp rfl (di_seq (aw 1)) (N':=["_law_group_here"]) (n:=1) (is:=[]) (ZS.Blk.of (by kernel_rfl)) (ZS.gName_keep (by decide)) (λ _ _ _ _ _ _=>(dg_name (i:=0) (show List.Nodup (["_law_group_here"]:List Str)by decide +kernel) rfl (lo rfl))) (λ _ _ _ _ _=>tst_no) (λ _ _ _ _ _=>de_non))))) (aj (ds_for PassesOwn.never rfl (dj_rng1 rfl aH (de_len rfl aO bb_len (aw 1))) (dg_name (i:=4) nd rfl (lo rfl)) (aj (aB (i:=5) nd rfl (lo rfl) (aq C_law_mixed (hr.mono (by decide)) rfl (da_cCall (aq C_law_cell_at (hr.mono (by decide)) rfl (aa (av 2) (da_cBin (aG (ai ag) (aw 4)) ao))) (da_cBin (aG (ai ag) (aw 4)) ao)))) (aj (ds_if (dt_cmpC ZS.c_lt (ai (aG (ai ag) (aw 4))) (ai (de_len rfl aO bb_len (aw 2))) (nomark _)) (au (aB (i:=5) nd rfl (lo rfl) (aC (aw 2) (ai (aG (ai ag) (aw 4)))))) aQ) (aj (aB (i:=6) nd rfl (lo rfl) (aq C_law_open (hr.mono (by decide)) rfl (aa (av 0) (aa (av 1) (aa (av 3) (aa (av 4) ao)))))) (au (ds_if (dtw (dt_and (dt_cmpC (ZS.c_ne hu) (aw 6) (dw_l (dl_disp ao)) (nomark _)) (dt_and1 (dt_cmpC ZS.c_gt (ai (de_mod (aw 5) (ai ag))) (ai ag) (nomark _))))) (au (aB (i:=3) nd rfl (lo rfl) (aq C_law_with (hr.mono (by decide)) rfl (aa (av 3) (aa (av 4) (da_cSub (aC (aw 6) (ai (de_mod (ai (de_div (aw 5) (ai ag))) (ai (de_len rfl aO bb_len (aw 6)))))) ao)))))) aQ)))))) (au (aD (av 3)))))
abbrev s_law_fast:Stmt:=top 66
abbrev n_law_fast:List Str:=["_law_seating", "_law_cell"]
theorem sc_law_fast:aA n_law_fast n_law_fast (ak s_law_fast):=⟨rfl,rfl,rfl,by decide +kernel,rfl,by decide +kernel,by decide +kernel⟩
abbrev T_law_fast(P:Program)(w:World)(K:PySem.W.Frag)(mg:Str->Option Value)(base:Heap):Prop:=ZS.Cal P w K mg base "_law_fast" 1 n_law_fast (KH.fn_law_fast)
theorem ok_law_fast(d:ZS.Def K mg "_law_fast" s_law_fast n_law_fast)(aO:mg "len" = none)(aH:mg "range" = none)(g_tuple:mg "tuple" = none):T_law_fast P w K mg base :=
 calQ (N:=n_law_fast) (b:=KH.b_law_fast) d sc_law_fast λ f cdv A outer s H E hr=>have nd:=sc_law_fast.nd;have hu:=hr.units;(au (aD (de_tuple rfl g_tuple bb_tuple (dw_l (dl_comp rfl (di_j (dj_rng1 rfl aH (de_len rfl aO bb_len (aw 0)))) (N':=["_law_k", "_law_cell", "_law_seating"]) (n:=1) (is:=[1,0]) (ZS.Blk.of (by kernel_rfl)) (ZS.gName_keep (by decide)) (λ _ _ _ _ _ _=>(dg_name (i:=0) (show List.Nodup (["_law_k", "_law_cell", "_law_seating"]:List Str)by decide +kernel) rfl (lo rfl))) (λ _ _ _ _ _=>tst_no) (λ _ _ _ _ _=>(de_ifExp (dt_cmpC (ZS.c_eq hu) (ai (de_mod (ai (de_div (aw 1) (ai (aC (dw_l (dl_disp (ah ag (ah ag (ah ag (ah ag (ah ag (ah ag ao)))))))) (aw 0))))) (ai ag))) (ai ag) (nomark _)) (aC (aw 2) (aw 0)) de_non)))))))
abbrev s_law_keeps:Stmt:=top 67
abbrev n_law_keeps:List Str:=["_law_spots", "_law_groups_here", "_law_seating", "_law_k"]
abbrev p_law_keeps:List Str:=["_law_spots", "_law_groups_here", "_law_seating"]
theorem sc_law_keeps:aA n_law_keeps p_law_keeps (ak s_law_keeps):=⟨rfl,rfl,rfl,by decide +kernel,rfl,by decide +kernel,by decide +kernel⟩
abbrev T_law_keeps(P:Program)(w:World)(K:PySem.W.Frag)(mg:Str->Option Value)(base:Heap):Prop:=ZS.Cal P w K mg base "_law_keeps" 3 p_law_keeps (fn_law_keeps)
theorem ok_law_keeps(d:ZS.Def K mg "_law_keeps" s_law_keeps p_law_keeps)(C_law_open:T_law_open P w K mg base)(aO:mg "len" = none)(aH:mg "range" = none):T_law_keeps P w K mg base :=
 calQ (N:=n_law_keeps) (b:=b_law_keeps) d sc_law_keeps λ f cdv A outer s H E hr=>have nd:=sc_law_keeps.nd;have hu:=hr.units;(aj (ds_for PassesOwn.never rfl (dj_rng1 rfl aH (de_len rfl aO bb_len (aw 1))) (dg_name (i:=3) nd rfl (lo rfl)) (au (ds_if (dtw (dt_and (dt_notN (ai (aC (aw 2) (aw 3)))) (dt_and1 (dt_cmpC (ZS.c_notIn hu) (ai (aC (aw 2) (aw 3))) (ai (aq C_law_open (hr.mono (by decide)) rfl (aa (av 0) (aa (av 1) (aa (av 2) (aa (av 3) ao)))))) (by with_unfolding_all rfl))))) (au (aD de_bl)) aQ))) (au (aD de_bl)))
abbrev s_law_off:Stmt:=top 68
abbrev n_law_off:List Str:=["_law_fast_here", "_law_cell", "_law_some", "_law_k", "_law_row", "_law_column", "_law_step"]
abbrev p_law_off:List Str:=["_law_fast_here", "_law_cell"]
theorem sc_law_off:aA n_law_off p_law_off (ak s_law_off):=⟨rfl,rfl,rfl,by decide +kernel,rfl,by decide +kernel,by decide +kernel⟩
abbrev T_law_off(P:Program)(w:World)(K:PySem.W.Frag)(mg:Str->Option Value)(base:Heap):Prop:=ZS.Cal P w K mg base "_law_off" 2 p_law_off (fn_law_off)
theorem ok_law_off(d:ZS.Def K mg "_law_off" s_law_off p_law_off)(C_law_with:T_law_with P w K mg base)(aO:mg "len" = none)(aH:mg "range" = none):T_law_off P w K mg base :=
 calQ (N:=n_law_off) (b:=b_law_off) d sc_law_off λ f cdv A outer s H E hr=>have nd:=sc_law_off.nd;have hu:=hr.units;(aj (ds_setC (i:=2) rfl nd rfl (lo rfl) (di_j (dj_rng1 rfl aH (de_len rfl aO bb_len (aw 0)))) (N':=["_law_k", "_law_fast_here"]) (n:=1) (is:=[0]) (ZS.Blk.of (by kernel_rfl)) (ZS.gName_keep (by decide)) (λ _ _ _ _ _ _=>(dg_name (i:=0) (show List.Nodup (["_law_k", "_law_fast_here"]:List Str)by decide +kernel) rfl (lo rfl))) (λ _ _ _ _ _=>(tst_one (dt_notN (ai (aC (aw 1) (aw 0)))))) (λ _ _ _ _ _=>(av 0))) (aj (ds_if (dtw (dt_or (dt_cmpC (ZS.c_eq hu) (aw 2) (dw_l (dl_disp ao)) (nomark _)) (dt_or1 (dt_cmpC (ZS.c_eq hu) (ai (de_mod (aw 1) (ai ag))) (ai ag) (nomark _))))) (au (aD (av 0))) aQ) (aj (aB (i:=3) nd rfl (lo rfl) (aC (aw 2) (ai (de_mod (ai (de_div (aw 1) (ai ag))) (ai (de_len rfl aO bb_len (aw 2))))))) (aj (ds_get (aC (aw 0) (aw 3)) (dg_seq rfl (dgs_cons (i:=4) nd rfl (lo rfl) (dgs_cons (i:=5) nd rfl (lo rfl) dgs_nil)) rfl)) (aj (aB (i:=6) nd rfl (lo rfl) (aC (dw_l (dl_disp (da_cTuple (de_tup (ah ag (ah ag ao))) (da_cTuple (de_tup (ah ag (ah ag ao))) (da_cTuple (de_tup (ah ag (da_cUn (de_neg (ai ag)) ao))) (da_cTuple (de_tup (da_cUn (de_neg (ai ag)) (ah ag ao))) (da_cTuple (de_tup (ah ag (ah ag ao))) (da_cTuple (de_tup (ah ag (ah ag ao))) ao)))))))) (ai (de_mod (ai (de_div (aw 1) (ai ag))) (ai ag))))) (au (aD (aq C_law_with (hr.mono (by decide)) rfl (aa (av 0) (aa (av 3) (da_cTuple (de_tup (da_cBin (aG (aw 4) (ai (aC (aw 6) (ai ag)))) (da_cBin (aG (aw 5) (ai (aC (aw 6) (ai ag)))) ao))) ao)))))))))))
abbrev s_law_product:Stmt:=top 69
abbrev n_law_product:List Str:=["_law_spots", "_law_fast_here", "_law_found", "_law_places_here", "_law_place"]
abbrev p_law_product:List Str:=["_law_spots", "_law_fast_here"]
theorem sc_law_product:aA n_law_product p_law_product (ak s_law_product):=⟨rfl,rfl,rfl,by decide +kernel,rfl,by decide +kernel,by decide +kernel⟩
abbrev T_law_product(P:Program)(w:World)(K:PySem.W.Frag)(mg:Str->Option Value)(base:Heap):Prop:=ZS.Cal P w K mg base "_law_product" 1 p_law_product (fn_law_product)
theorem ok_law_product(d:ZS.Def K mg "_law_product" s_law_product p_law_product)(aO:mg "len" = none)(g_zip:mg "zip" = none):T_law_product P w K mg base :=
 calQ (N:=n_law_product) (b:=b_law_product) d sc_law_product λ f cdv A outer s H E hr=>have nd:=sc_law_product.nd;have hu:=hr.units;(aj (aB (i:=2) nd rfl (lo rfl) ag) (aj (ds_for PassesOwn.never rfl (dj_zip rfl g_zip (av 0) (av 1)) (dg_tup rfl (dgs_cons (i:=3) nd rfl (lo rfl) (dgs_cons (i:=4) nd rfl (lo rfl) dgs_nil)) rfl) (au (ds_if (dt_isN (aw 4)) (au (aB (i:=2) nd rfl (lo rfl) (de_mul (aw 2) (ai (aG (ai ag) (ai (de_len rfl aO bb_len (aw 3)))))))) aQ))) (au (aD (av 2)))))
abbrev s_law_told:Stmt:=top 70
abbrev n_law_told:List Str:=["_law_found", "_law_due"]
theorem sc_law_told:aA n_law_told n_law_told (ak s_law_told):=⟨rfl,rfl,rfl,by decide +kernel,rfl,by decide +kernel,by decide +kernel⟩
abbrev T_law_told(P:Program)(w:World)(K:PySem.W.Frag)(mg:Str->Option Value)(base:Heap):Prop:=ZS.Cal P w K mg base "_law_told" 1 n_law_told (fn_law_told)
theorem ok_law_told(d:ZS.Def K mg "_law_told" s_law_told n_law_told)(g_bool:mg "bool" = none)(g_int:mg "int" = none)(aK:mg "isinstance" = none):T_law_told P w K mg base :=
 calQ (N:=n_law_told) (b:=b_law_told) d sc_law_told λ f cdv A outer s H E hr=>have nd:=sc_law_told.nd;have hu:=hr.units;(au (aD (de_and (de_isinst .int rfl aK bb_isinstance rfl g_int bb_int (aw 0)) (de_and (de_not (de_isinst .bool rfl aK bb_isinstance rfl g_bool bb_bool (aw 0))) (de_one (de_cmpC (ZS.c_eq hu) (aw 0) (aw 1) (nomark _)))))))
abbrev s_law_apart_from_all:Stmt:=top 71
abbrev n_law_apart_from_all:List Str:=["_law_e"]
theorem sc_law_apart_from_all:aA n_law_apart_from_all n_law_apart_from_all (ak s_law_apart_from_all):=⟨rfl,rfl,rfl,by decide +kernel,rfl,by decide +kernel,by decide +kernel⟩
abbrev T_law_apart_from_all(P:Program)(w:World)(K:PySem.W.Frag)(mg:Str->Option Value)(base:Heap):Prop:=ZS.CalE P w K mg base "_law_apart_from_all" 1 n_law_apart_from_all (fn_law_apart_from_all)
theorem ok_law_apart_from_all(d:ZS.Def K mg "_law_apart_from_all" s_law_apart_from_all n_law_apart_from_all)(g_ValueError:mg "ValueError" = none)(aK:mg "isinstance" = none){A_Full:Addr}(m_Full:mg "Full" = some (.ref A_Full)){A_NoGroup:Addr}(m_NoGroup:mg "NoGroup" = some (.ref A_NoGroup)){A_NoHall:Addr}(m_NoHall:mg "NoHall" = some (.ref A_NoHall)){A_NoName:Addr}(m_NoName:mg "NoName" = some (.ref A_NoName)){A_NoRow:Addr}(m_NoRow:mg "NoRow" = some (.ref A_NoRow)){aF:Addr}(m_NoSeating:mg "NoSeating" = some (.ref aF)){A_NoText:Addr}(m_NoText:mg "NoText" = some (.ref A_NoText)){A_SeatError:Addr}(m_SeatError:mg "SeatError" = some (.ref A_SeatError)){A_TooGreat:Addr}(m_TooGreat:mg "TooGreat" = some (.ref A_TooGreat)){A_Twice:Addr}(m_Twice:mg "Twice" = some (.ref A_Twice))(i_NoSeating_Full:ZS.IsK K [78,111,83,101,97,116,105,110,103] (.ref A_Full) false)(i_NoSeating_NoGroup:ZS.IsK K [78,111,83,101,97,116,105,110,103] (.ref A_NoGroup) false)(i_NoSeating_NoHall:ZS.IsK K [78,111,83,101,97,116,105,110,103] (.ref A_NoHall) false)(i_NoSeating_NoName:ZS.IsK K [78,111,83,101,97,116,105,110,103] (.ref A_NoName) false)(i_NoSeating_NoRow:ZS.IsK K [78,111,83,101,97,116,105,110,103] (.ref A_NoRow) false)(i_NoSeating_NoText:ZS.IsK K [78,111,83,101,97,116,105,110,103] (.ref A_NoText) false)(i_NoSeating_SeatError:ZS.IsK K [78,111,83,101,97,116,105,110,103] (.ref A_SeatError) true)(i_NoSeating_TooGreat:ZS.IsK K [78,111,83,101,97,116,105,110,103] (.ref A_TooGreat) false)(i_NoSeating_Twice:ZS.IsK K [78,111,83,101,97,116,105,110,103] (.ref A_Twice) false)(i_NoSeating_ValueError:ZS.IsK K [78,111,83,101,97,116,105,110,103] (.type "ValueError") true):T_law_apart_from_all P w K mg base :=
 calE (N:=n_law_apart_from_all) (b:=b_law_apart_from_all) d sc_law_apart_from_all rfl λ f cdv A outer s H hr=>have nd:=sc_law_apart_from_all.nd;(aj (ds_if (dtw (dt_or (dt_e (de_isXO rfl aK bb_isinstance (pv 0) rfl m_Full i_NoSeating_Full)) (dt_or (dt_e (de_isXO rfl aK bb_isinstance (pv 0) rfl m_NoGroup i_NoSeating_NoGroup)) (dt_or (dt_e (de_isXO rfl aK bb_isinstance (pv 0) rfl m_NoHall i_NoSeating_NoHall)) (dt_or1 (dt_e (de_isXO rfl aK bb_isinstance (pv 0) rfl m_NoName i_NoSeating_NoName))))))) (au (aD de_bl)) aQ) (aj (ds_if (dtw (dt_or (dt_e (de_isXO rfl aK bb_isinstance (pv 0) rfl m_NoRow i_NoSeating_NoRow)) (dt_or (dt_e (de_isXO rfl aK bb_isinstance (pv 0) rfl m_NoText i_NoSeating_NoText)) (dt_or (dt_e (de_isXO rfl aK bb_isinstance (pv 0) rfl m_TooGreat i_NoSeating_TooGreat)) (dt_or1 (dt_e (de_isXO rfl aK bb_isinstance (pv 0) rfl m_Twice i_NoSeating_Twice))))))) (au (aD de_bl)) aQ) (au (aD (de_and (de_isXO rfl aK bb_isinstance (pv 0) rfl m_SeatError i_NoSeating_SeatError) (de_one (de_isXB rfl aK bb_isinstance (pv 0) rfl g_ValueError bb_ValueError i_NoSeating_ValueError)))))))
abbrev s_law_refused:Stmt:=top 72
abbrev n_law_refused:List Str:=["_law_way", "_law_hall_here", "_law_groups_here", "_law_fast_here", "_law_good", "_law_e"]
abbrev p_law_refused:List Str:=["_law_way", "_law_hall_here", "_law_groups_here", "_law_fast_here"]
theorem sc_law_refused:aA n_law_refused p_law_refused (ak s_law_refused):=⟨rfl,rfl,rfl,by decide +kernel,rfl,by decide +kernel,by decide +kernel⟩
abbrev T_law_refused(P:Program)(w:World)(K:PySem.W.Frag)(mg:Str->Option Value)(base:Heap):Prop:=ZS.Cal P w K mg base "_law_refused" 18 p_law_refused (fn_law_refused)
theorem ok_law_refused(d:ZS.Def K mg "_law_refused" s_law_refused p_law_refused)(C_law_apart_from_all:T_law_apart_from_all P w K mg base)(C_first_of_all:T_first_of_all P w K mg base)(C_lets_by:T_lets_by P w K mg base)(C_paper_of:T_paper_of P w K mg base)(C_ways:T_ways P w K mg base)(X_first_of_all:TX_first_of_all P w K mg base)(X_lets_by:TX_lets_by P w K mg base)(X_paper_of:TX_paper_of P w K mg base)(X_ways:TX_ways P w K mg base){aF:Addr}(m_NoSeating:mg "NoSeating" = some (.ref aF)):T_law_refused P w K mg base :=
 calQ (N:=n_law_refused) (b:=b_law_refused) d sc_law_refused λ f cdv A outer s H E hr=>have nd:=sc_law_refused.nd;have hu:=hr.units;(aj (aB (i:=4) nd rfl (lo rfl) de_bl) (aj (ds_try (i:=5) rfl rfl rfl nd rfl (by kernel_rfl) rfl (by decide +kernel) (au (ds_if (dt_cmpC (ZS.c_eq hu) (aw 0) (ai ag) (nomark _)) (au (ds_drop (aq C_ways.full (hr.mono (by decide)) rfl (aa (av 1) (aa (av 2) (aa (av 3) ao)))))) (au (ds_if (dt_cmpC (ZS.c_eq hu) (aw 0) (ai ag) (nomark _)) (au (ds_drop (aq C_first_of_all.full (hr.mono (by decide)) rfl (aa (av 1) (aa (av 2) (aa (av 3) ao)))))) (au (ds_if (dt_cmpC (ZS.c_eq hu) (aw 0) (ai ag) (nomark _)) (au (ds_drop (aq C_paper_of.full (hr.mono (by decide)) rfl (aa (av 1) (aa (av 2) (aa (av 3) ao)))))) (au (ds_drop (aq C_lets_by.full (hr.mono (by decide)) rfl (aa (av 1) (aa (av 2) (da_cTuple (de_tup (ah (de_str (by decide +kernel)) (ah ag ao))) (aa (av 3) ao))))))))))))) (λ _ _=>(xrs_one (xr_if (dt_cmpC (ZS.c_eq hu) (aw 0) (ai ag) (nomark _)) (xrs_one (xr_drop (xe_call X_ways (hr.mono (by decide)) rfl (aa (av 1) (aa (av 2) (aa (av 3) ao)))))) (xrs_one (xr_if (dt_cmpC (ZS.c_eq hu) (aw 0) (ai ag) (nomark _)) (xrs_one (xr_drop (xe_call X_first_of_all (hr.mono (by decide)) rfl (aa (av 1) (aa (av 2) (aa (av 3) ao)))))) (xrs_one (xr_if (dt_cmpC (ZS.c_eq hu) (aw 0) (ai ag) (nomark _)) (xrs_one (xr_drop (xe_call X_paper_of (hr.mono (by decide)) rfl (aa (av 1) (aa (av 2) (aa (av 3) ao)))))) (xrs_one (xr_drop (xe_call X_lets_by (hr.mono (by decide)) rfl (aa (av 1) (aa (av 2) (da_cTuple (de_tup (ah (de_str (by decide +kernel)) (ah ag ao))) (aa (av 3) ao)))))))))))))) (λ _=>(au (aB (i:=4) nd rfl (lo rfl) (de_callE C_law_apart_from_all (ZS.Room.han (hr.mono (by decide)) _) rfl (pv 5)))))) (au (aD (av 4)))))
abbrev s_law:Stmt:=top 73
abbrev n_law:List Str:=["_law_script", "_law_hall_here", "_law_one", "_law_other", "_law_groups_here", "_law_spots", "_law_seating", "_law_nobody", "_law_fast_here", "_law_odd", "_law_way"]
abbrev p_law:List Str:=["_law_script"]
theorem sc_law:aA n_law p_law (ak s_law):=⟨rfl,rfl,rfl,by decide +kernel,rfl,by decide +kernel,by decide +kernel⟩
theorem ok_law{f:Addr}{fd:FuncData}(F:Fun K "law" "law" s_law f fd)(C_law_cell_at:T_law_cell_at P w K mg base)(C_law_fast:T_law_fast P w K mg base)(C_law_groups:T_law_groups P w K mg base)(C_law_hall:T_law_hall P w K mg base)(C_law_keeps:T_law_keeps P w K mg base)(C_law_mixed:T_law_mixed P w K mg base)(C_law_off:T_law_off P w K mg base)(C_law_places:T_law_places P w K mg base)(C_law_product:T_law_product P w K mg base)(C_law_refused:T_law_refused P w K mg base)(C_law_seated:T_law_seated P w K mg base)(C_law_told:T_law_told P w K mg base)(C_ways:T_ways P w K mg base)(aH:mg "range" = none)(g_tuple:mg "tuple" = none):FnOk P w K mg base CX0 19 f fd p_law (ZS.spZ K fn_law) :=
 fnQ (N:=n_law) (b:=b_law) F sc_law λ cdv A outer s H E hr=>have nd:=sc_law.nd;have hu:=hr.units;(aj (ds_get (aq C_law_hall (hr.mono (by decide)) rfl (aa (av 0) ao)) (dg_seq rfl (dgs_cons (i:=1) nd rfl (lo rfl) (dgs_cons (i:=2) nd rfl (lo rfl) (dgs_cons (i:=3) nd rfl (lo rfl) dgs_nil))) rfl)) (aj (aB (i:=4) nd rfl (lo rfl) (aq C_law_groups (hr.mono (by decide)) rfl (aa (av 0) (aa (av 2) (aa (av 3) ao))))) (aj (ds_setC (i:=5) rfl nd rfl (lo rfl) (di_seq (aw 4)) (N':=["_law_group_here", "_law_hall_here"]) (n:=1) (is:=[1]) (ZS.Blk.of (by kernel_rfl)) (ZS.gName_keep (by decide)) (λ _ _ _ _ _ _=>(dg_name (i:=0) (show List.Nodup (["_law_group_here", "_law_hall_here"]:List Str)by decide +kernel) rfl (lo rfl))) (λ _ _ _ _ _=>tst_no) (λ _ _ _ _ _=>(aq C_law_places (hr.mono (by decide)) rfl (aa (av 1) (aa (av 0) ao))))) (aj (aB (i:=6) nd rfl (lo rfl) (aq C_law_seated (hr.mono (by decide)) rfl (aa (av 5) (aa (av 4) (aa (av 0) ao))))) (aj (aB (i:=7) nd rfl (lo rfl) (de_tuple rfl g_tuple bb_tuple (dw_l (dl_comp rfl (di_seq (aw 4)) (N':=["_law_group_here"]) (n:=1) (is:=[]) (ZS.Blk.of (by kernel_rfl)) (ZS.gName_keep (by decide)) (λ _ _ _ _ _ _=>(dg_name (i:=0) (show List.Nodup (["_law_group_here"]:List Str)by decide +kernel) rfl (lo rfl))) (λ _ _ _ _ _=>tst_no) (λ _ _ _ _ _=>de_non))))) (aj (ds_for PassesOwn.never rfl (dj_seq (de_l (dl_disp (ah de_non (aa (av 7) ao))))) (dg_name (i:=8) nd rfl (lo rfl)) (au (ds_if (dt_not (dt_e (aq C_law_told (hr.mono (by decide)) rfl (da_cCall (aq C_ways.full (hr.mono (by decide)) rfl (aa (av 1) (aa (av 4) (aa (av 8) ao)))) (da_cCall (aq C_law_product (hr.mono (by decide)) rfl (aa (av 5) (aa (av 7) ao))) ao))))) (au (aD de_bl)) aQ))) (aj (ds_if (dt_not (dt_e (aq C_law_told (hr.mono (by decide)) rfl (da_cCall (de_callD C_ways (hr.mono (by decide)) rfl (aa (av 1) (aa (av 4) ao))) (da_cCall (aq C_law_product (hr.mono (by decide)) rfl (aa (av 5) (aa (av 7) ao))) ao))))) (au (aD de_bl)) aQ) (aj (aB (i:=8) nd rfl (lo rfl) (aq C_law_fast (hr.mono (by decide)) rfl (aa (av 6) (da_cCall (aq C_law_mixed (hr.mono (by decide)) rfl (da_cBin (aG (ai (aq C_law_cell_at (hr.mono (by decide)) rfl (aa (av 0) (ah ag ao)))) (ai (aq C_law_cell_at (hr.mono (by decide)) rfl (aa (av 0) (ah ag ao))))) (ah ag ao))) ao)))) (aj (ds_if (dt_not (dt_e (aq C_law_told (hr.mono (by decide)) rfl (da_cCall (aq C_ways.full (hr.mono (by decide)) rfl (aa (av 1) (aa (av 4) (aa (av 8) ao)))) (da_cCall (aq C_law_product (hr.mono (by decide)) rfl (aa (av 5) (aa (av 8) ao))) ao))))) (au (aD de_bl)) aQ) (aj (aB (i:=9) nd rfl (lo rfl) (aq C_law_off (hr.mono (by decide)) rfl (aa (av 8) (da_cBin (de_div (ai (aq C_law_cell_at (hr.mono (by decide)) rfl (aa (av 0) (ah ag ao)))) (ai ag)) ao)))) (aj (ds_if (dt_e (aq C_law_keeps (hr.mono (by decide)) rfl (aa (av 5) (aa (av 4) (aa (av 9) ao))))) (au (aD (aq C_law_told (hr.mono (by decide)) rfl (da_cCall (aq C_ways.full (hr.mono (by decide)) rfl (aa (av 1) (aa (av 4) (aa (av 9) ao)))) (da_cCall (aq C_law_product (hr.mono (by decide)) rfl (aa (av 5) (aa (av 9) ao))) ao))))) aQ) (aj (ds_for PassesOwn.never rfl (dj_rng1 rfl aH ag) (dg_name (i:=10) nd rfl (lo rfl)) (au (ds_if (dt_not (dt_e (aq C_law_refused (hr.mono (by decide)) rfl (aa (av 10) (aa (av 1) (aa (av 4) (aa (av 9) ao))))))) (au (aD de_bl)) aQ))) (au (aD (aq C_law_told (hr.mono (by decide)) rfl (da_cCall (aq C_ways.full (hr.mono (by decide)) rfl (aa (av 1) (aa (av 4) (aa (av 8) ao)))) (da_cCall (aq C_law_product (hr.mono (by decide)) rfl (aa (av 5) (aa (av 8) ao))) ao)))))))))))))))))
end
end K50
namespace K50
open PySem PySem.Spec PyProof.Rows L2 ZQ KG KH KB KC
theorem all_mk{l:PySem.W.OpenLaw}{w:World}{K:PySem.W.Frag}{h:Heap}{mg:Str->Option Value}{fa:Addr}(X:K.In h)(G:h.Ns mainGlobals mg)(hfa:mg "law" = some (.ref fa))(a0:ZS.DefK K "is_whole" s_is_whole)(a1:ZS.DefK K "is_whole_within" s_is_whole_within)(a2:ZS.DefK K "sign_at" s_sign_at)(a3:ZS.DefK K "takes" s_takes)(a4:ZS.DefK K "seats_of" s_seats_of)(a5:ZS.DefK K "fits" s_fits)(a6:ZS.DefK K "places_of" s_places_of)(a7:ZS.DefK K "apart" s_apart)(a8:ZS.DefK K "those_that_sit" s_those_that_sit)(a9:ZS.DefK K "apart_from_all" s_apart_from_all)(a10:ZS.DefK K "keeps" s_keeps)(a11:ZS.DefK K "fast_seating" s_fast_seating)(a12:ZS.DefKD K "ways" s_ways)(a13:ZS.DefK K "small_start" s_small_start)(a14:ZS.DefK K "with_place" s_with_place)(a15:ZS.DefK K "open_among" s_open_among)(a16:ZS.DefK K "with_one_more" s_with_one_more)(a17:ZS.DefK K "seatings_from" s_seatings_from)(a18:ZS.DefKD K "first_of_all" s_first_of_all)(a19:ZS.DefK K "all_places" s_all_places)(a20:ZS.DefK K "spots_of" s_spots_of)(a21:ZS.DefK K "is_waiting" s_is_waiting)(a22:ZS.DefK K "begins_with" s_begins_with)(a23:ZS.DefK K "is_each" s_is_each)(a24:ZS.DefK K "lets_by_beside" s_lets_by_beside)(a25:ZS.DefKD K "lets_by" s_lets_by)(a26:ZS.DefKL K "paper_beside" s_paper_beside)(a27:ZS.DefKD K "paper_of" s_paper_of)(a28:ZS.DefK K "_law_cell_at" s_law_cell_at)(a29:ZS.DefK K "_law_mixed" s_law_mixed)(a30:ZS.DefK K "_law_digits" s_law_digits)(a31:ZS.DefK K "_law_hall" s_law_hall)(a32:ZS.DefK K "_law_name" s_law_name)(a33:ZS.DefK K "_law_any" s_law_any)(a34:ZS.DefK K "_law_group" s_law_group)(a35:ZS.DefK K "_law_groups" s_law_groups)(a36:ZS.DefK K "_law_fits" s_law_fits)(a37:ZS.DefK K "_law_places" s_law_places)(a38:ZS.DefK K "_law_apart" s_law_apart)(a39:ZS.DefK K "_law_open" s_law_open)(a40:ZS.DefK K "_law_with" s_law_with)(a41:ZS.DefK K "_law_seated" s_law_seated)(a42:ZS.DefK K "_law_fast" s_law_fast)(a43:ZS.DefK K "_law_keeps" s_law_keeps)(a44:ZS.DefK K "_law_off" s_law_off)(a45:ZS.DefK K "_law_product" s_law_product)(a46:ZS.DefK K "_law_told" s_law_told)(a47:ZS.DefK K "_law_apart_from_all" s_law_apart_from_all)(a48:ZS.DefK K "_law_refused" s_law_refused)(a49:ZS.DefK K "law" s_law){t_DEPTH:Tok}(v_DEPTH:PySem.W.nsIn K mainGlobals "DEPTH" = some (some (.int 2 t_DEPTH))){t_GAP:Tok}(v_GAP:PySem.W.nsIn K mainGlobals "GAP" = some (some (.int 5 t_GAP))){t_KIND:Tok}(v_KIND:PySem.W.nsIn K mainGlobals "KIND" = some (some (.int 3 t_KIND))){t_MOST_WAYS:Tok}(v_MOST_WAYS:PySem.W.nsIn K mainGlobals "MOST_WAYS" = some (some (.int 2000 t_MOST_WAYS))){t_WIDE:Tok}(v_WIDE:PySem.W.nsIn K mainGlobals "WIDE" = some (some (.int 4 t_WIDE))){t_WIDTH:Tok}(v_WIDTH:PySem.W.nsIn K mainGlobals "WIDTH" = some (some (.int 1 t_WIDTH)))(n_ValueError:PySem.W.nsIn K mainGlobals "ValueError" = some none)(n_all:PySem.W.nsIn K mainGlobals "all" = some none)(n_bool:PySem.W.nsIn K mainGlobals "bool" = some none)(n_int:PySem.W.nsIn K mainGlobals "int" = some none)(n_isinstance:PySem.W.nsIn K mainGlobals "isinstance" = some none)(n_len:PySem.W.nsIn K mainGlobals "len" = some none)(n_max:PySem.W.nsIn K mainGlobals "max" = some none)(n_min:PySem.W.nsIn K mainGlobals "min" = some none)(n_range:PySem.W.nsIn K mainGlobals "range" = some none)(n_str:PySem.W.nsIn K mainGlobals "str" = some none)(n_tuple:PySem.W.nsIn K mainGlobals "tuple" = some none)(n_zip:PySem.W.nsIn K mainGlobals "zip" = some none){A_Full:Addr}(w_Full:PySem.W.nsIn K mainGlobals "Full" = some (some (.ref A_Full))){A_NoGroup:Addr}(w_NoGroup:PySem.W.nsIn K mainGlobals "NoGroup" = some (some (.ref A_NoGroup))){A_NoHall:Addr}(w_NoHall:PySem.W.nsIn K mainGlobals "NoHall" = some (some (.ref A_NoHall))){A_NoName:Addr}(w_NoName:PySem.W.nsIn K mainGlobals "NoName" = some (some (.ref A_NoName))){A_NoRow:Addr}(w_NoRow:PySem.W.nsIn K mainGlobals "NoRow" = some (some (.ref A_NoRow))){aF:Addr}(w_NoSeating:PySem.W.nsIn K mainGlobals "NoSeating" = some (some (.ref aF))){A_NoText:Addr}(w_NoText:PySem.W.nsIn K mainGlobals "NoText" = some (some (.ref A_NoText))){A_SeatError:Addr}(w_SeatError:PySem.W.nsIn K mainGlobals "SeatError" = some (some (.ref A_SeatError))){A_TooGreat:Addr}(w_TooGreat:PySem.W.nsIn K mainGlobals "TooGreat" = some (some (.ref A_TooGreat))){A_Twice:Addr}(w_Twice:PySem.W.nsIn K mainGlobals "Twice" = some (some (.ref A_Twice)))(xc_NoSeating:ZS.xcIn K aF=true)(xi_NoSeating:PySem.W.excIn K aF [.type "ValueError",.type "Exception",.type "BaseException",.type "object"] "ValueError.__new__" = true)(ek_NoSeating:ZS.ExcK K aF)(kk_NoSeating_Full:PySem.W.kitOne K (.ref aF) (.ref A_Full)=some false)(kk_NoSeating_NoGroup:PySem.W.kitOne K (.ref aF) (.ref A_NoGroup)=some false)(kk_NoSeating_NoHall:PySem.W.kitOne K (.ref aF) (.ref A_NoHall)=some false)(kk_NoSeating_NoName:PySem.W.kitOne K (.ref aF) (.ref A_NoName)=some false)(kk_NoSeating_NoRow:PySem.W.kitOne K (.ref aF) (.ref A_NoRow)=some false)(kk_NoSeating_NoText:PySem.W.kitOne K (.ref aF) (.ref A_NoText)=some false)(kk_NoSeating_SeatError:PySem.W.kitOne K (.ref aF) (.ref A_SeatError)=some true)(kk_NoSeating_TooGreat:PySem.W.kitOne K (.ref aF) (.ref A_TooGreat)=some false)(kk_NoSeating_Twice:PySem.W.kitOne K (.ref aF) (.ref A_Twice)=some false)(kk_NoSeating_ValueError:PySem.W.kitOne K (.ref aF) (.type "ValueError")=some true):
  ∃fd:FuncData,(∀(s:Shared) (v:Value),BindsTo s fd ⟨[v],[]⟩ [("_law_script",v)])∧∀base:Heap,K.In base->base.Ns mainGlobals mg->FnOk l.prog w K mg base CX0 19 fa fd ["_law_script"] (ZS.spZ K fn_law):=by
 have c_DEPTH:=PySem.W.mg_of X G v_DEPTH;have c_GAP:=PySem.W.mg_of X G v_GAP;have c_KIND:=PySem.W.mg_of X G v_KIND;have c_MOST_WAYS:=PySem.W.mg_of X G v_MOST_WAYS;have c_WIDE:=PySem.W.mg_of X G v_WIDE;have c_WIDTH:=PySem.W.mg_of X G v_WIDTH;have g_ValueError:=PySem.W.mg_none_of X G n_ValueError;have g_all:=PySem.W.mg_none_of X G n_all;have g_bool:=PySem.W.mg_none_of X G n_bool;have g_int:=PySem.W.mg_none_of X G n_int;have aK:=PySem.W.mg_none_of X G n_isinstance;have aO:=PySem.W.mg_none_of X G n_len;have g_max:=PySem.W.mg_none_of X G n_max;have g_min:=PySem.W.mg_none_of X G n_min;have aH:=PySem.W.mg_none_of X G n_range;have g_str:=PySem.W.mg_none_of X G n_str;have g_tuple:=PySem.W.mg_none_of X G n_tuple;have g_zip:=PySem.W.mg_none_of X G n_zip;have m_Full:=PySem.W.mg_of X G w_Full;have m_NoGroup:=PySem.W.mg_of X G w_NoGroup;have m_NoHall:=PySem.W.mg_of X G w_NoHall;have m_NoName:=PySem.W.mg_of X G w_NoName;have m_NoRow:=PySem.W.mg_of X G w_NoRow;have m_NoSeating:=PySem.W.mg_of X G w_NoSeating;have m_NoText:=PySem.W.mg_of X G w_NoText;have m_SeatError:=PySem.W.mg_of X G w_SeatError;have m_TooGreat:=PySem.W.mg_of X G w_TooGreat;have m_Twice:=PySem.W.mg_of X G w_Twice;have x_NoSeating:ZS.XC K [78,111,83,101,97,116,105,110,103] aF:=⟨by rw[show(⟨[78,111,83,101,97,116,105,110,103].toArray⟩:Str) = "NoSeating" from by decide +kernel];exact w_NoSeating,xc_NoSeating⟩
 have i_NoSeating_Full:ZS.IsK K [78,111,83,101,97,116,105,110,103] (.ref A_Full) false:=⟨aF,by rw[show(⟨[78,111,83,101,97,116,105,110,103].toArray⟩:Str) = "NoSeating" from by decide +kernel];exact w_NoSeating,ek_NoSeating,kk_NoSeating_Full⟩
 have i_NoSeating_NoGroup:ZS.IsK K [78,111,83,101,97,116,105,110,103] (.ref A_NoGroup) false:=⟨aF,by rw[show(⟨[78,111,83,101,97,116,105,110,103].toArray⟩:Str) = "NoSeating" from by decide +kernel];exact w_NoSeating,ek_NoSeating,kk_NoSeating_NoGroup⟩
 have i_NoSeating_NoHall:ZS.IsK K [78,111,83,101,97,116,105,110,103] (.ref A_NoHall) false:=⟨aF,by rw[show(⟨[78,111,83,101,97,116,105,110,103].toArray⟩:Str) = "NoSeating" from by decide +kernel];exact w_NoSeating,ek_NoSeating,kk_NoSeating_NoHall⟩
 have i_NoSeating_NoName:ZS.IsK K [78,111,83,101,97,116,105,110,103] (.ref A_NoName) false:=⟨aF,by rw[show(⟨[78,111,83,101,97,116,105,110,103].toArray⟩:Str) = "NoSeating" from by decide +kernel];exact w_NoSeating,ek_NoSeating,kk_NoSeating_NoName⟩
 have i_NoSeating_NoRow:ZS.IsK K [78,111,83,101,97,116,105,110,103] (.ref A_NoRow) false:=⟨aF,by rw[show(⟨[78,111,83,101,97,116,105,110,103].toArray⟩:Str) = "NoSeating" from by decide +kernel];exact w_NoSeating,ek_NoSeating,kk_NoSeating_NoRow⟩
 have i_NoSeating_NoText:ZS.IsK K [78,111,83,101,97,116,105,110,103] (.ref A_NoText) false:=⟨aF,by rw[show(⟨[78,111,83,101,97,116,105,110,103].toArray⟩:Str) = "NoSeating" from by decide +kernel];exact w_NoSeating,ek_NoSeating,kk_NoSeating_NoText⟩
 have i_NoSeating_SeatError:ZS.IsK K [78,111,83,101,97,116,105,110,103] (.ref A_SeatError) true:=⟨aF,by rw[show(⟨[78,111,83,101,97,116,105,110,103].toArray⟩:Str) = "NoSeating" from by decide +kernel];exact w_NoSeating,ek_NoSeating,kk_NoSeating_SeatError⟩
 have i_NoSeating_TooGreat:ZS.IsK K [78,111,83,101,97,116,105,110,103] (.ref A_TooGreat) false:=⟨aF,by rw[show(⟨[78,111,83,101,97,116,105,110,103].toArray⟩:Str) = "NoSeating" from by decide +kernel];exact w_NoSeating,ek_NoSeating,kk_NoSeating_TooGreat⟩
 have i_NoSeating_Twice:ZS.IsK K [78,111,83,101,97,116,105,110,103] (.ref A_Twice) false:=⟨aF,by rw[show(⟨[78,111,83,101,97,116,105,110,103].toArray⟩:Str) = "NoSeating" from by decide +kernel];exact w_NoSeating,ek_NoSeating,kk_NoSeating_Twice⟩
 have i_NoSeating_ValueError:ZS.IsK K [78,111,83,101,97,116,105,110,103] (.type "ValueError") true:=⟨aF,by rw[show(⟨[78,111,83,101,97,116,105,110,103].toArray⟩:Str) = "NoSeating" from by decide +kernel];exact w_NoSeating,ek_NoSeating,kk_NoSeating_ValueError⟩
 obtain⟨fd,hb,F⟩:=a49.law X G hfa (x := "_law_script") λ _ _ _ _ _ _ _ _=>.of_eq rfl;refine⟨fd,hb,λ base _ _=>?_⟩;have C_is_whole:T_is_whole l.prog w K mg base:=ok_is_whole (a0.df X G λ _ _ _ _ _ _=>ZS.bd1 λ _=>rfl) g_bool g_int aK;have C_is_whole_within:T_is_whole_within l.prog w K mg base:=ok_is_whole_within (a1.df X G λ _ _ _ _ _ _=>ZS.bd3 λ _ _ _=>rfl) C_is_whole;have C_sign_at:T_sign_at l.prog w K mg base:=ok_sign_at (a2.df X G λ _ _ _ _ _ _=>ZS.bd2 λ _ _=>rfl) aO;have C_takes:T_takes l.prog w K mg base:=ok_takes (a3.df X G λ _ _ _ _ _ _=>ZS.bd2 λ _ _=>rfl) ;have C_seats_of:T_seats_of l.prog w K mg base:=ok_seats_of (a4.df X G λ _ _ _ _ _ _=>ZS.bd2 λ _ _=>rfl) aH g_tuple c_DEPTH c_WIDTH;have C_fits:T_fits l.prog w K mg base:=ok_fits (a5.df X G λ _ _ _ _ _ _=>ZS.bd3 λ _ _ _=>rfl) C_seats_of C_sign_at C_takes g_all c_KIND c_WIDE;have C_places_of:T_places_of l.prog w K mg base:=ok_places_of (a6.df X G λ _ _ _ _ _ _=>ZS.bd2 λ _ _=>rfl) C_fits aO aH g_tuple;have C_apart:T_apart l.prog w K mg base:=ok_apart (a7.df X G λ _ _ _ _ _ _=>ZS.bd4 λ _ _ _ _=>rfl) g_max c_DEPTH c_GAP c_WIDTH;have C_those_that_sit:T_those_that_sit l.prog w K mg base:=ok_those_that_sit (a8.df X G λ _ _ _ _ _ _=>ZS.bd2 λ _ _=>rfl) g_zip;have C_apart_from_all:T_apart_from_all l.prog w K mg base:=ok_apart_from_all (a9.df X G λ _ _ _ _ _ _=>ZS.bd3 λ _ _ _=>rfl) C_apart g_all;have C_keeps:T_keeps l.prog w K mg base:=ok_keeps (a10.df X G λ _ _ _ _ _ _=>ZS.bd3 λ _ _ _=>rfl) C_apart_from_all C_fits C_those_that_sit g_all aO aH;have C_fast_seating:T_fast_seating l.prog w K mg base:=ok_fast_seating (a11.df X G λ _ _ _ _ _ _=>ZS.bd3 λ _ _ _=>rfl) C_keeps aO;have X_fast_seating:TX_fast_seating l.prog w K mg base:=okx_fast_seating (a11.df X G λ _ _ _ _ _ _=>ZS.bd3 λ _ _ _=>rfl) C_keeps aO m_NoSeating x_NoSeating xi_NoSeating;have C_ways:T_ways l.prog w K mg base:=ok_ways (a12.df X G (λ _ _ _ _ _ _ _ us hl=>match us,hl with | [_,_,_],_=>⟨_,rfl,rfl⟩) λ _ _ _ _ _ _ _ us hl=>match us,hl with | [_,_],_=>⟨_,rfl,rfl⟩) C_fast_seating C_places_of aO g_zip;have X_ways:TX_ways l.prog w K mg base:=okx_ways (a12.df X G (λ _ _ _ _ _ _ _ us hl=>match us,hl with | [_,_,_],_=>⟨_,rfl,rfl⟩) λ _ _ _ _ _ _ _ us hl=>match us,hl with | [_,_],_=>⟨_,rfl,rfl⟩) C_fast_seating C_places_of X_fast_seating aO g_zip;have C_small_start:T_small_start l.prog w K mg base:=ok_small_start (a13.df X G λ _ _ _ _ _ _=>ZS.bd3 λ _ _ _=>rfl) C_fast_seating C_ways c_MOST_WAYS;have X_small_start:TX_small_start l.prog w K mg base:=okx_small_start (a13.df X G λ _ _ _ _ _ _=>ZS.bd3 λ _ _ _=>rfl) C_ways X_fast_seating X_ways c_MOST_WAYS;have C_with_place:T_with_place l.prog w K mg base:=ok_with_place (a14.df X G λ _ _ _ _ _ _=>ZS.bd3 λ _ _ _=>rfl) ;have C_open_among:T_open_among l.prog w K mg base:=ok_open_among (a15.df X G λ _ _ _ _ _ _=>ZS.bd3 λ _ _ _=>rfl) C_apart_from_all g_tuple;have C_with_one_more:T_with_one_more l.prog w K mg base:=ok_with_one_more (a16.df X G λ _ _ _ _ _ _=>ZS.bd5 λ _ _ _ _ _=>rfl) C_open_among C_places_of C_those_that_sit C_with_place;have C_seatings_from:T_seatings_from l.prog w K mg base:=ok_seatings_from (a17.df X G λ _ _ _ _ _ _=>ZS.bd4 λ _ _ _ _=>rfl) C_with_one_more aO aH;have C_first_of_all:T_first_of_all l.prog w K mg base:=ok_first_of_all (a18.df X G (λ _ _ _ _ _ _ _ us hl=>match us,hl with | [_,_,_],_=>⟨_,rfl,rfl⟩) λ _ _ _ _ _ _ _ us hl=>match us,hl with | [_,_],_=>⟨_,rfl,rfl⟩) C_seatings_from C_small_start aO;have X_first_of_all:TX_first_of_all l.prog w K mg base:=okx_first_of_all (a18.df X G (λ _ _ _ _ _ _ _ us hl=>match us,hl with | [_,_,_],_=>⟨_,rfl,rfl⟩) λ _ _ _ _ _ _ _ us hl=>match us,hl with | [_,_],_=>⟨_,rfl,rfl⟩) C_seatings_from C_small_start X_small_start;have C_all_places:T_all_places l.prog w K mg base:=ok_all_places (a19.df X G λ _ _ _ _ _ _=>ZS.bd2 λ _ _=>rfl) C_places_of;have C_spots_of:T_spots_of l.prog w K mg base:=ok_spots_of (a20.df X G λ _ _ _ _ _ _=>ZS.bd4 λ _ _ _ _=>rfl) C_open_among C_those_that_sit;have C_is_waiting:T_is_waiting l.prog w K mg base:=ok_is_waiting (a21.df X G λ _ _ _ _ _ _=>ZS.bd2 λ _ _=>rfl) C_is_whole_within aO;have C_begins_with:T_begins_with l.prog w K mg base:=ok_begins_with (a22.df X G λ _ _ _ _ _ _=>ZS.bd3 λ _ _ _=>rfl) aK aO g_str g_tuple;have C_is_each:T_is_each l.prog w K mg base:=ok_is_each (a23.df X G λ _ _ _ _ _ _=>ZS.bd1 λ _=>rfl) C_begins_with aK g_tuple;have C_lets_by_beside:T_lets_by_beside l.prog w K mg base:=ok_lets_by_beside (a24.df X G λ _ _ _ _ _ _=>ZS.bd4 λ _ _ _ _=>rfl) C_begins_with C_is_each C_is_waiting C_spots_of C_with_place aO g_zip 9;have C_lets_by:T_lets_by l.prog w K mg base:=ok_lets_by (a25.df X G (λ _ _ _ _ _ _ _ us hl=>match us,hl with | [_,_,_,_],_=>⟨_,rfl,rfl⟩) λ _ _ _ _ _ _ _ us hl=>match us,hl with | [_,_,_],_=>⟨_,rfl,rfl⟩) C_all_places C_fast_seating C_lets_by_beside;have X_lets_by:TX_lets_by l.prog w K mg base:=okx_lets_by (a25.df X G (λ _ _ _ _ _ _ _ us hl=>match us,hl with | [_,_,_,_],_=>⟨_,rfl,rfl⟩) λ _ _ _ _ _ _ _ us hl=>match us,hl with | [_,_,_],_=>⟨_,rfl,rfl⟩) C_fast_seating X_fast_seating;have C_paper_beside:T_paper_beside l.prog w K mg base:=ok_paper_beside (a26.1.df X G λ _ _ _ _ _ _=>ZS.bd3 λ _ _ _=>rfl) (a26.lam X G) C_spots_of C_with_place aO g_min aH g_tuple 9;have C_paper_of:T_paper_of l.prog w K mg base:=ok_paper_of (a27.df X G (λ _ _ _ _ _ _ _ us hl=>match us,hl with | [_,_,_],_=>⟨_,rfl,rfl⟩) λ _ _ _ _ _ _ _ us hl=>match us,hl with | [_,_],_=>⟨_,rfl,rfl⟩) C_all_places C_fast_seating C_first_of_all C_paper_beside;have X_paper_of:TX_paper_of l.prog w K mg base:=okx_paper_of (a27.df X G (λ _ _ _ _ _ _ _ us hl=>match us,hl with | [_,_,_],_=>⟨_,rfl,rfl⟩) λ _ _ _ _ _ _ _ us hl=>match us,hl with | [_,_],_=>⟨_,rfl,rfl⟩) C_all_places C_first_of_all C_paper_beside X_fast_seating X_first_of_all;have C_law_cell_at:T_law_cell_at l.prog w K mg base:=ok_law_cell_at (a28.df X G λ _ _ _ _ _ _=>ZS.bd2 λ _ _=>rfl) aO;have C_law_mixed:T_law_mixed l.prog w K mg base:=ok_law_mixed (a29.df X G λ _ _ _ _ _ _=>ZS.bd2 λ _ _=>rfl) ;have C_law_digits:T_law_digits l.prog w K mg base:=ok_law_digits (a30.df X G λ _ _ _ _ _ _=>ZS.bd2 λ _ _=>rfl) ;have C_law_hall:T_law_hall l.prog w K mg base:=ok_law_hall (a31.df X G λ _ _ _ _ _ _=>ZS.bd1 λ _=>rfl) C_law_cell_at C_law_digits C_law_mixed aH g_tuple;have C_law_name:T_law_name l.prog w K mg base:=ok_law_name (a32.df X G λ _ _ _ _ _ _=>ZS.bd2 λ _ _=>rfl) aH;have C_law_any:T_law_any l.prog w K mg base:=ok_law_any (a33.df X G λ _ _ _ _ _ _=>ZS.bd2 λ _ _=>rfl) C_law_digits aH g_tuple;have C_law_group:T_law_group l.prog w K mg base:=ok_law_group (a34.df X G λ _ _ _ _ _ _=>ZS.bd4 λ _ _ _ _=>rfl) g_int aH g_tuple;have C_law_groups:T_law_groups l.prog w K mg base:=ok_law_groups (a35.df X G λ _ _ _ _ _ _=>ZS.bd3 λ _ _ _=>rfl) C_law_any C_law_cell_at C_law_digits C_law_group C_law_mixed C_law_name aO aH g_tuple;have C_law_fits:T_law_fits l.prog w K mg base:=ok_law_fits (a36.df X G λ _ _ _ _ _ _=>ZS.bd4 λ _ _ _ _=>rfl) aO aH;have C_law_places:T_law_places l.prog w K mg base:=ok_law_places (a37.df X G λ _ _ _ _ _ _=>ZS.bd2 λ _ _=>rfl) C_law_fits aO aH;have C_law_apart:T_law_apart l.prog w K mg base:=ok_law_apart (a38.df X G λ _ _ _ _ _ _=>ZS.bd4 λ _ _ _ _=>rfl) g_max;have C_law_open:T_law_open l.prog w K mg base:=ok_law_open (a39.df X G λ _ _ _ _ _ _=>ZS.bd4 λ _ _ _ _=>rfl) C_law_apart aO aH;have C_law_with:T_law_with l.prog w K mg base:=ok_law_with (a40.df X G λ _ _ _ _ _ _=>ZS.bd3 λ _ _ _=>rfl) ;have C_law_seated:T_law_seated l.prog w K mg base:=ok_law_seated (a41.df X G λ _ _ _ _ _ _=>ZS.bd3 λ _ _ _=>rfl) C_law_cell_at C_law_mixed C_law_open C_law_with aO aH g_tuple;have C_law_fast:T_law_fast l.prog w K mg base:=ok_law_fast (a42.df X G λ _ _ _ _ _ _=>ZS.bd2 λ _ _=>rfl) aO aH g_tuple;have C_law_keeps:T_law_keeps l.prog w K mg base:=ok_law_keeps (a43.df X G λ _ _ _ _ _ _=>ZS.bd3 λ _ _ _=>rfl) C_law_open aO aH;have C_law_off:T_law_off l.prog w K mg base:=ok_law_off (a44.df X G λ _ _ _ _ _ _=>ZS.bd2 λ _ _=>rfl) C_law_with aO aH;have C_law_product:T_law_product l.prog w K mg base:=ok_law_product (a45.df X G λ _ _ _ _ _ _=>ZS.bd2 λ _ _=>rfl) aO g_zip;have C_law_told:T_law_told l.prog w K mg base:=ok_law_told (a46.df X G λ _ _ _ _ _ _=>ZS.bd2 λ _ _=>rfl) g_bool g_int aK;have C_law_apart_from_all:T_law_apart_from_all l.prog w K mg base:=ok_law_apart_from_all (a47.df X G λ _ _ _ _ _ _=>ZS.bd1 λ _=>rfl) g_ValueError aK m_Full m_NoGroup m_NoHall m_NoName m_NoRow m_NoSeating m_NoText m_SeatError m_TooGreat m_Twice i_NoSeating_Full i_NoSeating_NoGroup i_NoSeating_NoHall i_NoSeating_NoName i_NoSeating_NoRow i_NoSeating_NoText i_NoSeating_SeatError i_NoSeating_TooGreat i_NoSeating_Twice i_NoSeating_ValueError;have C_law_refused:T_law_refused l.prog w K mg base:=ok_law_refused (a48.df X G λ _ _ _ _ _ _=>ZS.bd4 λ _ _ _ _=>rfl) C_law_apart_from_all C_first_of_all C_lets_by C_paper_of C_ways X_first_of_all X_lets_by X_paper_of X_ways m_NoSeating;exact ok_law F C_law_cell_at C_law_fast C_law_groups C_law_hall C_law_keeps C_law_mixed C_law_off C_law_places C_law_product C_law_refused C_law_seated C_law_told C_ways aH g_tuple
theorem walk{l:PySem.W.OpenLaw}{q:Program}{loose:List Str}{XP:(Str->Option Value)->Heap->Prop}{YP:World->Heap->Prop}{d:DefRec}{K:Params->PySem.W.Frag}(hn:l.most=some 63)(hdf:d.params.defaults=[])
  (hY:∀(w:World)(h:Heap),YP w h->(K w.params).In h)
  (F:∀ (w:World) (mg:Str->Option Value) (fa:Addr) (h:Heap),(K w.params).In h->h.Ns mainGlobals mg->mg d.name=some (.ref fa) ->
   ∃fd:FuncData,(∀(s:Shared) (u:Value),BindsTo s fd ⟨[u],[]⟩ [("_law_script",u)])∧∀base:Heap,(K w.params).In base->base.Ns mainGlobals mg->FnOk l.prog w (K w.params) mg base CX0 19 fa fd ["_law_script"] (ZS.spZ (K w.params) fn_law)) (hL:∀w:World,ZS.LamOk q (K w.params)) :
  PySem.W.WalkO q loose XP YP l.row.toRowW d [] (λ f vs=>PySem.call f vs) :=
 ZS.walk_B (n:=63) (k:=19) (x := "_law_script") (m:=fn_law) hn (by decide) hdf ⟨rfl,by decide,by decide⟩ hY F hL holds
end K50
namespace K50
open PySem PySem.Spec PyProof.Rows L2
abbrev km0:String := "besideseats.plain"
abbrev km1:String := "besideseats.halls"
abbrev km2:String := "besideseats.places"
abbrev km3:String := "besideseats.seatings"
abbrev km4:String := "besideseats.rooms"
abbrev km5:String := "besideseats.papers"
abbrev km6:String := "law_besideseats_k50_ways_counted"
noncomputable def kd(P:Params)(n:String)(t:Nat)(v:Value):DictEntry:={ hash:=PyData.keyHash P (Str.ofString n),key:=.str (Str.ofString n) t,val:=v }
noncomputable def kc(n:String)(t l:Nat)(a b c d e f g h i j:Value)(u:Nat):Obj:={ cls:=.type "code",data:=.fields #[.str (Str.ofString n) t,.str (Str.ofString n) (t+1),.str (Str.ofString "/claim/cut.py") (t+2),.int l 0,a,.int 0 0,.int 0 0,b,c,.bool true,d,e,f,g,h,i,j,.int l 0,.str (Str.ofString "/claim/cut.py") u] }
noncomputable def kf(n:String)(i:Nat)(m:String)(t c:Nat)(v:Value:=.none):Obj:={ cls:=.type "function",data:=.func { name:=Str.ofString n,qualname:=Str.ofString n,params:=defArgs (top i),body:=.stmts (defBody (top i)),scope:=ak (top i),globals:=3,closure:=[],defaults:=v,kwdefaults:=.none,pyModule:=.str (Str.ofString m) t,code:=.ref c } }
noncomputable def KK(P:Params):PySem.W.Frag:=(λ(_:Str.ofString "a" = Str.mk #[97])=>(nat_lit 3,{ cls:=.type "dict",data:=.dict #[kd P "__name__" 165 (.str (Str.ofString "law_besideseats_k50_ways_counted") 632),kd P "__doc__" 166 .none,kd P "__package__" 167 .none,kd P "__loader__" 168 (.builtin "__main__.__loader__#opaque"),kd P "__spec__" 169 .none,kd P "__annotations__" 170 (.ref 6),kd P "__builtins__" 171 (.ref 4),kd P "__file__" 173 (.str (Str.ofString "/claim/cut.py") 172),kd P "__cached__" 174 .none,kd P "SeatError" 206 (.ref 24),kd P "NoHall" 222 (.ref 37),kd P "NoGroup" 238 (.ref 49),kd P "NoText" 254 (.ref 61),kd P "NoSeating" 270 (.ref 73),kd P "NoRow" 286 (.ref 85),kd P "NoName" 302 (.ref 97),kd P "Twice" 318 (.ref 109),kd P "Full" 343 (.ref 128),kd P "TooGreat" 370 (.ref 147),kd P "is_whole" 379 (.ref 156),kd P "is_whole_within" 388 (.ref 163),kd P "WIDTH" 390 (.int 1 389),kd P "DEPTH" 392 (.int 2 391),kd P "KIND" 394 (.int 3 393),kd P "WIDE" 396 (.int 4 395),kd P "GAP" 398 (.int 5 397),kd P "sign_at" 410 (.ref 170),kd P "takes" 420 (.ref 177),kd P "seats_of" 426 (.ref 182),kd P "fits" 432 (.ref 187),kd P "places_of" 438 (.ref 192),kd P "apart" 451 (.ref 199),kd P "those_that_sit" 457 (.ref 204),kd P "apart_from_all" 463 (.ref 209),kd P "keeps" 469 (.ref 214),kd P "MOST_WAYS" 473 (.int 2000 472),kd P "fast_seating" 483 (.ref 221),kd P "ways" 495 (.ref 229),kd P "small_start" 505 (.ref 236),kd P "with_place" 514 (.ref 243),kd P "open_among" 520 (.ref 248),kd P "with_one_more" 526 (.ref 253),kd P "seatings_from" 538 (.ref 260),kd P "first_of_all" 548 (.ref 268),kd P "all_places" 556 (.ref 273),kd P "spots_of" 566 (.ref 280),kd P "is_waiting" 574 (.ref 287),kd P "begins_with" 583 (.ref 294),kd P "is_each" 590 (.ref 301),kd P "lets_by_beside" 605 (.ref 308),kd P "lets_by" 616 (.ref 316),kd P "paper_beside" 622 (.ref 321),kd P "paper_of" 631 (.ref 329),kd P "_law_cell_at" 641 (.ref 336),kd P "_law_mixed" 650 (.ref 343),kd P "_law_digits" 660 (.ref 350),kd P "_law_hall" 666 (.ref 355),kd P "_law_name" 680 (.ref 362),kd P "_law_any" 686 (.ref 367),kd P "_law_group" 704 (.ref 374),kd P "_law_groups" 721 (.ref 381),kd P "_law_fits" 727 (.ref 386),kd P "_law_places" 738 (.ref 393),kd P "_law_apart" 749 (.ref 400),kd P "_law_open" 764 (.ref 407),kd P "_law_with" 773 (.ref 414),kd P "_law_seated" 779 (.ref 419),kd P "_law_fast" 785 (.ref 424),kd P "_law_keeps" 795 (.ref 431),kd P "_law_off" 801 (.ref 436),kd P "_law_product" 812 (.ref 443),kd P "_law_told" 820 (.ref 450),kd P "_law_apart_from_all" 827 (.ref 457),kd P "_law_refused" 839 (.ref 464),kd P "law" 845 (.ref 469)] 75 }) ::
 (nat_lit 23,{ cls:=Value.type "dict",data:=Data.dict #[{ hash:=PyData.keyHash P (Str.ofString "__module__"),key:=Value.str (Str.ofString "__module__") 196,val:=Value.str (Str.ofString "besideseats.errors") 187 },{ hash:=PyData.keyHash P (Str.ofString "__firstlineno__"),key:=Value.str (Str.ofString "__firstlineno__") 200,val:=Value.int 2 199 },{ hash:=PyData.keyHash P (Str.ofString "__static_attributes__"),key:=Value.str (Str.ofString "__static_attributes__") 201,val:=Value.ref 22 },{ hash:=PyData.keyHash P (Str.ofString "__weakref__"),key:=Value.str (Str.ofString "__weakref__") 203,val:=Value.ref 25 },{ hash:=PyData.keyHash P (Str.ofString "__doc__"),key:=Value.str (Str.ofString "__doc__") 204,val:=Value.none }] 3 }) ::
 (nat_lit 24,{ cls:=Value.type "type",data:=Data.cls { name:=Str.ofString "SeatError",bases:=[Value.type "ValueError"],mro:=[Value.ref 24,Value.type "ValueError",Value.type "Exception",Value.type "BaseException",Value.type "object"],ns:=23,qualname:=Str.ofString "SeatError",subclasses:=[Value.ref 37,Value.ref 49,Value.ref 61,Value.ref 73,Value.ref 85,Value.ref 97,Value.ref 109,Value.ref 128,Value.ref 147] },slots:=#[some (Value.ref 15),none,some (Value.str (Str.ofString "SeatError") 189),some (Value.str (Str.ofString "SeatError") 197),some (Value.builtin "ValueError.__new__"),some (Value.bool true)] }) ::
 (nat_lit 36,{ cls:=Value.type "dict",data:=Data.dict #[{ hash:=PyData.keyHash P (Str.ofString "__module__"),key:=Value.str (Str.ofString "__module__") 214,val:=Value.str (Str.ofString "besideseats.errors") 187 },{ hash:=PyData.keyHash P (Str.ofString "__firstlineno__"),key:=Value.str (Str.ofString "__firstlineno__") 218,val:=Value.int 4 217 },{ hash:=PyData.keyHash P (Str.ofString "__static_attributes__"),key:=Value.str (Str.ofString "__static_attributes__") 219,val:=Value.ref 35 },{ hash:=PyData.keyHash P (Str.ofString "__doc__"),key:=Value.str (Str.ofString "__doc__") 220,val:=Value.none }] 2 }) ::
 (nat_lit 37,{ cls:=Value.type "type",data:=Data.cls { name:=Str.ofString "NoHall",bases:=[Value.ref 24],mro:=[Value.ref 37,Value.ref 24,Value.type "ValueError",Value.type "Exception",Value.type "BaseException",Value.type "object"],ns:=36,qualname:=Str.ofString "NoHall" },slots:=#[some (Value.ref 28),none,some (Value.str (Str.ofString "NoHall") 207),some (Value.str (Str.ofString "NoHall") 215),some (Value.builtin "ValueError.__new__"),some (Value.bool true)] }) ::
 (nat_lit 48,{ cls:=Value.type "dict",data:=Data.dict #[{ hash:=PyData.keyHash P (Str.ofString "__module__"),key:=Value.str (Str.ofString "__module__") 230,val:=Value.str (Str.ofString "besideseats.errors") 187 },{ hash:=PyData.keyHash P (Str.ofString "__firstlineno__"),key:=Value.str (Str.ofString "__firstlineno__") 234,val:=Value.int 6 233 },{ hash:=PyData.keyHash P (Str.ofString "__static_attributes__"),key:=Value.str (Str.ofString "__static_attributes__") 235,val:=Value.ref 47 },{ hash:=PyData.keyHash P (Str.ofString "__doc__"),key:=Value.str (Str.ofString "__doc__") 236,val:=Value.none }] 2 }) ::
 (nat_lit 49,{ cls:=Value.type "type",data:=Data.cls { name:=Str.ofString "NoGroup",bases:=[Value.ref 24],mro:=[Value.ref 49,Value.ref 24,Value.type "ValueError",Value.type "Exception",Value.type "BaseException",Value.type "object"],ns:=48,qualname:=Str.ofString "NoGroup" },slots:=#[some (Value.ref 40),none,some (Value.str (Str.ofString "NoGroup") 223),some (Value.str (Str.ofString "NoGroup") 231),some (Value.builtin "ValueError.__new__"),some (Value.bool true)] }) ::
 (nat_lit 60,{ cls:=Value.type "dict",data:=Data.dict #[{ hash:=PyData.keyHash P (Str.ofString "__module__"),key:=Value.str (Str.ofString "__module__") 246,val:=Value.str (Str.ofString "besideseats.errors") 187 },{ hash:=PyData.keyHash P (Str.ofString "__firstlineno__"),key:=Value.str (Str.ofString "__firstlineno__") 250,val:=Value.int 8 249 },{ hash:=PyData.keyHash P (Str.ofString "__static_attributes__"),key:=Value.str (Str.ofString "__static_attributes__") 251,val:=Value.ref 59 },{ hash:=PyData.keyHash P (Str.ofString "__doc__"),key:=Value.str (Str.ofString "__doc__") 252,val:=Value.none }] 2 }) ::
 (nat_lit 61,{ cls:=Value.type "type",data:=Data.cls { name:=Str.ofString "NoText",bases:=[Value.ref 24],mro:=[Value.ref 61,Value.ref 24,Value.type "ValueError",Value.type "Exception",Value.type "BaseException",Value.type "object"],ns:=60,qualname:=Str.ofString "NoText" },slots:=#[some (Value.ref 52),none,some (Value.str (Str.ofString "NoText") 239),some (Value.str (Str.ofString "NoText") 247),some (Value.builtin "ValueError.__new__"),some (Value.bool true)] }) ::
 (nat_lit 72,{ cls:=Value.type "dict",data:=Data.dict #[{ hash:=PyData.keyHash P (Str.ofString "__module__"),key:=Value.str (Str.ofString "__module__") 262,val:=Value.str (Str.ofString "besideseats.errors") 187 },{ hash:=PyData.keyHash P (Str.ofString "__firstlineno__"),key:=Value.str (Str.ofString "__firstlineno__") 266,val:=Value.int 10 265 },{ hash:=PyData.keyHash P (Str.ofString "__static_attributes__"),key:=Value.str (Str.ofString "__static_attributes__") 267,val:=Value.ref 71 },{ hash:=PyData.keyHash P (Str.ofString "__doc__"),key:=Value.str (Str.ofString "__doc__") 268,val:=Value.none }] 2 }) ::
 (nat_lit 73,{ cls:=Value.type "type",data:=Data.cls { name:=Str.ofString "NoSeating",bases:=[Value.ref 24],mro:=[Value.ref 73,Value.ref 24,Value.type "ValueError",Value.type "Exception",Value.type "BaseException",Value.type "object"],ns:=72,qualname:=Str.ofString "NoSeating" },slots:=#[some (Value.ref 64),none,some (Value.str (Str.ofString "NoSeating") 255),some (Value.str (Str.ofString "NoSeating") 263),some (Value.builtin "ValueError.__new__"),some (Value.bool true)] }) ::
 (nat_lit 84,{ cls:=Value.type "dict",data:=Data.dict #[{ hash:=PyData.keyHash P (Str.ofString "__module__"),key:=Value.str (Str.ofString "__module__") 278,val:=Value.str (Str.ofString "besideseats.errors") 187 },{ hash:=PyData.keyHash P (Str.ofString "__firstlineno__"),key:=Value.str (Str.ofString "__firstlineno__") 282,val:=Value.int 12 281 },{ hash:=PyData.keyHash P (Str.ofString "__static_attributes__"),key:=Value.str (Str.ofString "__static_attributes__") 283,val:=Value.ref 83 },{ hash:=PyData.keyHash P (Str.ofString "__doc__"),key:=Value.str (Str.ofString "__doc__") 284,val:=Value.none }] 2 }) ::
 (nat_lit 85,{ cls:=Value.type "type",data:=Data.cls { name:=Str.ofString "NoRow",bases:=[Value.ref 24],mro:=[Value.ref 85,Value.ref 24,Value.type "ValueError",Value.type "Exception",Value.type "BaseException",Value.type "object"],ns:=84,qualname:=Str.ofString "NoRow" },slots:=#[some (Value.ref 76),none,some (Value.str (Str.ofString "NoRow") 271),some (Value.str (Str.ofString "NoRow") 279),some (Value.builtin "ValueError.__new__"),some (Value.bool true)] }) ::
 (nat_lit 96,{ cls:=Value.type "dict",data:=Data.dict #[{ hash:=PyData.keyHash P (Str.ofString "__module__"),key:=Value.str (Str.ofString "__module__") 294,val:=Value.str (Str.ofString "besideseats.errors") 187 },{ hash:=PyData.keyHash P (Str.ofString "__firstlineno__"),key:=Value.str (Str.ofString "__firstlineno__") 298,val:=Value.int 14 297 },{ hash:=PyData.keyHash P (Str.ofString "__static_attributes__"),key:=Value.str (Str.ofString "__static_attributes__") 299,val:=Value.ref 95 },{ hash:=PyData.keyHash P (Str.ofString "__doc__"),key:=Value.str (Str.ofString "__doc__") 300,val:=Value.none }] 2 }) ::
 (nat_lit 97,{ cls:=Value.type "type",data:=Data.cls { name:=Str.ofString "NoName",bases:=[Value.ref 24],mro:=[Value.ref 97,Value.ref 24,Value.type "ValueError",Value.type "Exception",Value.type "BaseException",Value.type "object"],ns:=96,qualname:=Str.ofString "NoName" },slots:=#[some (Value.ref 88),none,some (Value.str (Str.ofString "NoName") 287),some (Value.str (Str.ofString "NoName") 295),some (Value.builtin "ValueError.__new__"),some (Value.bool true)] }) ::
 (nat_lit 108,{ cls:=Value.type "dict",data:=Data.dict #[{ hash:=PyData.keyHash P (Str.ofString "__module__"),key:=Value.str (Str.ofString "__module__") 310,val:=Value.str (Str.ofString "besideseats.errors") 187 },{ hash:=PyData.keyHash P (Str.ofString "__firstlineno__"),key:=Value.str (Str.ofString "__firstlineno__") 314,val:=Value.int 16 313 },{ hash:=PyData.keyHash P (Str.ofString "__static_attributes__"),key:=Value.str (Str.ofString "__static_attributes__") 315,val:=Value.ref 107 },{ hash:=PyData.keyHash P (Str.ofString "__doc__"),key:=Value.str (Str.ofString "__doc__") 316,val:=Value.none }] 2 }) ::
 (nat_lit 109,{ cls:=Value.type "type",data:=Data.cls { name:=Str.ofString "Twice",bases:=[Value.ref 24],mro:=[Value.ref 109,Value.ref 24,Value.type "ValueError",Value.type "Exception",Value.type "BaseException",Value.type "object"],ns:=108,qualname:=Str.ofString "Twice" },slots:=#[some (Value.ref 100),none,some (Value.str (Str.ofString "Twice") 303),some (Value.str (Str.ofString "Twice") 311),some (Value.builtin "ValueError.__new__"),some (Value.bool true)] }) ::
 (nat_lit 127,{ cls:=Value.type "dict",data:=Data.dict #[{ hash:=PyData.keyHash P (Str.ofString "__module__"),key:=Value.str (Str.ofString "__module__") 326,val:=Value.str (Str.ofString "besideseats.errors") 187 },{ hash:=PyData.keyHash P (Str.ofString "__firstlineno__"),key:=Value.str (Str.ofString "__firstlineno__") 330,val:=Value.int 18 329 },{ hash:=PyData.keyHash P (Str.ofString "__init__"),key:=Value.str (Str.ofString "__init__") 338,val:=Value.ref 125 },{ hash:=PyData.keyHash P (Str.ofString "__static_attributes__"),key:=Value.str (Str.ofString "__static_attributes__") 340,val:=Value.ref 126 },{ hash:=PyData.keyHash P (Str.ofString "__doc__"),key:=Value.str (Str.ofString "__doc__") 341,val:=Value.none }] 2 }) ::
 (nat_lit 128,{ cls:=Value.type "type",data:=Data.cls { name:=Str.ofString "Full",bases:=[Value.ref 24],mro:=[Value.ref 128,Value.ref 24,Value.type "ValueError",Value.type "Exception",Value.type "BaseException",Value.type "object"],ns:=127,qualname:=Str.ofString "Full" },slots:=#[some (Value.ref 112),none,some (Value.str (Str.ofString "Full") 319),some (Value.str (Str.ofString "Full") 327),some (Value.builtin "ValueError.__new__"),some (Value.bool true)] }) ::
 (nat_lit 146,{ cls:=Value.type "dict",data:=Data.dict #[{ hash:=PyData.keyHash P (Str.ofString "__module__"),key:=Value.str (Str.ofString "__module__") 351,val:=Value.str (Str.ofString "besideseats.errors") 187 },{ hash:=PyData.keyHash P (Str.ofString "__firstlineno__"),key:=Value.str (Str.ofString "__firstlineno__") 355,val:=Value.int 22 354 },{ hash:=PyData.keyHash P (Str.ofString "__init__"),key:=Value.str (Str.ofString "__init__") 364,val:=Value.ref 144 },{ hash:=PyData.keyHash P (Str.ofString "__static_attributes__"),key:=Value.str (Str.ofString "__static_attributes__") 367,val:=Value.ref 145 },{ hash:=PyData.keyHash P (Str.ofString "__doc__"),key:=Value.str (Str.ofString "__doc__") 368,val:=Value.none }] 2 }) ::
 (nat_lit 147,{ cls:=Value.type "type",data:=Data.cls { name:=Str.ofString "TooGreat",bases:=[Value.ref 24],mro:=[Value.ref 147,Value.ref 24,Value.type "ValueError",Value.type "Exception",Value.type "BaseException",Value.type "object"],ns:=146,qualname:=Str.ofString "TooGreat" },slots:=#[some (Value.ref 131),none,some (Value.str (Str.ofString "TooGreat") 344),some (Value.str (Str.ofString "TooGreat") 352),some (Value.builtin "ValueError.__new__"),some (Value.bool true)] }) ::
 (nat_lit 155,kc "is_whole" 373 28 (.int 1 0) (.int 3 0) (.ref 150) (.int 181 0) (.ref 151) .none (.ref 152) (.ref 153) (.ref 154) (.int 377 0) 378) ::
 (nat_lit 156,kf "is_whole" 12 km0 371 155) ::
 (nat_lit 162,kc "is_whole_within" 380 30 (.int 3 0) (.int 3 0) (.ref 157) (.int 181 0) (.ref 158) .none (.ref 159) (.ref 160) (.ref 161) (.int 386 0) 387) ::
 (nat_lit 163,kf "is_whole_within" 13 km0 371 162) ::
 (nat_lit 169,kc "sign_at" 401 38 (.int 2 0) (.int 3 0) (.ref 164) (.int 181 0) (.ref 165) .none (.ref 166) (.ref 167) (.ref 168) (.int 408 0) 409) ::
 (nat_lit 170,kf "sign_at" 20 km1 399 169) ::
 (nat_lit 176,kc "takes" 413 45 (.int 2 0) (.int 3 0) (.ref 171) (.int 181 0) (.ref 172) .none (.ref 173) (.ref 174) (.ref 175) (.int 418 0) 419) ::
 (nat_lit 177,kf "takes" 22 km2 411 176) ::
 (nat_lit 181,kc "seats_of" 421 47 (.int 2 0) (.int 3 0) (.ref 178) (.int 181 0) (.ref 179) .none .none .none (.ref 180) (.int 424 0) 425) ::
 (nat_lit 182,kf "seats_of" 23 km2 411 181) ::
 (nat_lit 186,kc "fits" 427 52 (.int 3 0) (.int 3 0) (.ref 183) (.int 181 0) (.ref 184) .none .none .none (.ref 185) (.int 430 0) 431) ::
 (nat_lit 187,kf "fits" 24 km2 411 186) ::
 (nat_lit 191,kc "places_of" 433 57 (.int 2 0) (.int 3 0) (.ref 188) (.int 181 0) (.ref 189) .none .none .none (.ref 190) (.int 436 0) 437) ::
 (nat_lit 192,kf "places_of" 25 km2 411 191) ::
 (nat_lit 198,kc "apart" 441 63 (.int 4 0) (.int 3 0) (.ref 193) (.int 181 0) (.ref 194) .none (.ref 195) (.ref 196) (.ref 197) (.int 449 0) 450) ::
 (nat_lit 199,kf "apart" 27 km3 439 198) ::
 (nat_lit 203,kc "those_that_sit" 452 68 (.int 2 0) (.int 3 0) (.ref 200) (.int 181 0) (.ref 201) .none .none .none (.ref 202) (.int 455 0) 456) ::
 (nat_lit 204,kf "those_that_sit" 28 km3 439 203) ::
 (nat_lit 208,kc "apart_from_all" 458 70 (.int 3 0) (.int 3 0) (.ref 205) (.int 181 0) (.ref 206) .none .none .none (.ref 207) (.int 461 0) 462) ::
 (nat_lit 209,kf "apart_from_all" 29 km3 439 208) ::
 (nat_lit 213,kc "keeps" 464 72 (.int 3 0) (.int 3 0) (.ref 210) (.int 181 0) (.ref 211) .none .none .none (.ref 212) (.int 467 0) 468) ::
 (nat_lit 214,kf "keeps" 30 km3 439 213) ::
 (nat_lit 220,kc "fast_seating" 474 79 (.int 3 0) (.int 3 0) (.ref 215) (.int 181 0) (.ref 216) .none (.ref 217) (.ref 218) (.ref 219) (.int 481 0) 482) ::
 (nat_lit 221,kf "fast_seating" 33 km4 470 220) ::
 (nat_lit 228,kc "ways" 484 84 (.int 3 0) (.int 3 0) (.ref 223) (.int 181 0) (.ref 224) .none (.ref 225) (.ref 226) (.ref 227) (.int 493 0) 494) ::
 (nat_lit 229,kf "ways" 34 km4 470 228 (.ref 222)) ::
 (nat_lit 235,kc "small_start" 496 90 (.int 3 0) (.int 3 0) (.ref 230) (.int 181 0) (.ref 231) .none (.ref 232) (.ref 233) (.ref 234) (.int 503 0) 504) ::
 (nat_lit 236,kf "small_start" 35 km4 470 235) ::
 (nat_lit 242,kc "with_place" 506 95 (.int 3 0) (.int 3 0) (.ref 237) (.int 181 0) (.ref 238) .none (.ref 239) (.ref 240) (.ref 241) (.int 512 0) 513) ::
 (nat_lit 243,kf "with_place" 36 km4 470 242) ::
 (nat_lit 247,kc "open_among" 515 97 (.int 3 0) (.int 3 0) (.ref 244) (.int 181 0) (.ref 245) .none .none .none (.ref 246) (.int 518 0) 519) ::
 (nat_lit 248,kf "open_among" 37 km4 470 247) ::
 (nat_lit 252,kc "with_one_more" 521 99 (.int 5 0) (.int 3 0) (.ref 249) (.int 181 0) (.ref 250) .none .none .none (.ref 251) (.int 524 0) 525) ::
 (nat_lit 253,kf "with_one_more" 38 km4 470 252) ::
 (nat_lit 259,kc "seatings_from" 527 108 (.int 4 0) (.int 3 0) (.ref 254) (.int 181 0) (.ref 255) .none (.ref 256) (.ref 257) (.ref 258) (.int 536 0) 537) ::
 (nat_lit 260,kf "seatings_from" 39 km4 470 259) ::
 (nat_lit 267,kc "first_of_all" 539 114 (.int 3 0) (.int 3 0) (.ref 262) (.int 181 0) (.ref 263) .none (.ref 264) (.ref 265) (.ref 266) (.int 546 0) 547) ::
 (nat_lit 268,kf "first_of_all" 40 km4 470 267 (.ref 261)) ::
 (nat_lit 272,kc "all_places" 551 118 (.int 2 0) (.int 3 0) (.ref 269) (.int 181 0) (.ref 270) .none .none .none (.ref 271) (.int 554 0) 555) ::
 (nat_lit 273,kf "all_places" 42 km5 549 272) ::
 (nat_lit 279,kc "spots_of" 557 120 (.int 4 0) (.int 3 0) (.ref 274) (.int 181 0) (.ref 275) .none (.ref 276) (.ref 277) (.ref 278) (.int 564 0) 565) ::
 (nat_lit 280,kf "spots_of" 43 km5 549 279) ::
 (nat_lit 286,kc "is_waiting" 567 122 (.int 2 0) (.int 3 0) (.ref 281) (.int 181 0) (.ref 282) .none (.ref 283) (.ref 284) (.ref 285) (.int 572 0) 573) ::
 (nat_lit 287,kf "is_waiting" 44 km5 549 286) ::
 (nat_lit 293,kc "begins_with" 575 124 (.int 3 0) (.int 3 0) (.ref 288) (.int 181 0) (.ref 289) .none (.ref 290) (.ref 291) (.ref 292) (.int 581 0) 582) ::
 (nat_lit 294,kf "begins_with" 45 km5 549 293) ::
 (nat_lit 300,kc "is_each" 584 128 (.int 1 0) (.int 3 0) (.ref 295) (.int 181 0) (.ref 296) .none (.ref 297) (.ref 298) (.ref 299) (.int 588 0) 589) ::
 (nat_lit 301,kf "is_each" 46 km5 549 300) ::
 (nat_lit 307,kc "lets_by_beside" 591 130 (.int 4 0) (.int 3 0) (.ref 302) (.int 181 0) (.ref 303) .none (.ref 304) (.ref 305) (.ref 306) (.int 603 0) 604) ::
 (nat_lit 308,kf "lets_by_beside" 47 km5 549 307) ::
 (nat_lit 315,kc "lets_by" 606 144 (.int 4 0) (.int 3 0) (.ref 310) (.int 181 0) (.ref 311) .none (.ref 312) (.ref 313) (.ref 314) (.int 614 0) 615) ::
 (nat_lit 316,kf "lets_by" 48 km5 549 315 (.ref 309)) ::
 (nat_lit 320,kc "paper_beside" 617 147 (.int 3 0) (.int 3 0) (.ref 317) (.int 181 0) (.ref 318) .none .none .none (.ref 319) (.int 620 0) 621) ::
 (nat_lit 321,kf "paper_beside" 49 km5 549 320) ::
 (nat_lit 328,kc "paper_of" 623 155 (.int 3 0) (.int 3 0) (.ref 323) (.int 181 0) (.ref 324) .none (.ref 325) (.ref 326) (.ref 327) (.int 629 0) 630) ::
 (nat_lit 329,kf "paper_of" 50 km5 549 328 (.ref 322)) ::
 (nat_lit 335,kc "_law_cell_at" 634 160 (.int 2 0) (.int 3 0) (.ref 330) (.int 181 0) (.ref 331) .none (.ref 332) (.ref 333) (.ref 334) (.int 639 0) 640) ::
 (nat_lit 336,kf "_law_cell_at" 52 km6 632 335) ::
 (nat_lit 342,kc "_law_mixed" 642 164 (.int 2 0) (.int 3 0) (.ref 337) (.int 181 0) (.ref 338) .none (.ref 339) (.ref 340) (.ref 341) (.int 648 0) 649) ::
 (nat_lit 343,kf "_law_mixed" 53 km6 632 342) ::
 (nat_lit 349,kc "_law_digits" 651 168 (.int 2 0) (.int 3 0) (.ref 344) (.int 181 0) (.ref 345) .none (.ref 346) (.ref 347) (.ref 348) (.int 658 0) 659) ::
 (nat_lit 350,kf "_law_digits" 54 km6 632 349) ::
 (nat_lit 354,kc "_law_hall" 661 174 (.int 1 0) (.int 3 0) (.ref 351) (.int 181 0) (.ref 352) .none .none .none (.ref 353) (.int 664 0) 665) ::
 (nat_lit 355,kf "_law_hall" 55 km6 632 354) ::
 (nat_lit 361,kc "_law_name" 667 192 (.int 2 0) (.int 3 0) (.ref 356) (.int 181 0) (.ref 357) .none (.ref 358) (.ref 359) (.ref 360) (.int 678 0) 679) ::
 (nat_lit 362,kf "_law_name" 56 km6 632 361) ::
 (nat_lit 366,kc "_law_any" 681 203 (.int 2 0) (.int 3 0) (.ref 363) (.int 181 0) (.ref 364) .none .none .none (.ref 365) (.int 684 0) 685) ::
 (nat_lit 367,kf "_law_any" 57 km6 632 366) ::
 (nat_lit 373,kc "_law_group" 687 213 (.int 4 0) (.int 3 0) (.ref 368) (.int 181 0) (.ref 369) .none (.ref 370) (.ref 371) (.ref 372) (.int 702 0) 703) ::
 (nat_lit 374,kf "_law_group" 58 km6 632 373) ::
 (nat_lit 380,kc "_law_groups" 705 228 (.int 3 0) (.int 3 0) (.ref 375) (.int 181 0) (.ref 376) .none (.ref 377) (.ref 378) (.ref 379) (.int 719 0) 720) ::
 (nat_lit 381,kf "_law_groups" 59 km6 632 380) ::
 (nat_lit 385,kc "_law_fits" 722 243 (.int 4 0) (.int 3 0) (.ref 382) (.int 181 0) (.ref 383) .none .none .none (.ref 384) (.int 725 0) 726) ::
 (nat_lit 386,kf "_law_fits" 60 km6 632 385) ::
 (nat_lit 392,kc "_law_places" 728 252 (.int 2 0) (.int 3 0) (.ref 387) (.int 181 0) (.ref 388) .none (.ref 389) (.ref 390) (.ref 391) (.int 736 0) 737) ::
 (nat_lit 393,kf "_law_places" 61 km6 632 392) ::
 (nat_lit 399,kc "_law_apart" 739 259 (.int 4 0) (.int 3 0) (.ref 394) (.int 181 0) (.ref 395) .none (.ref 396) (.ref 397) (.ref 398) (.int 747 0) 748) ::
 (nat_lit 400,kf "_law_apart" 62 km6 632 399) ::
 (nat_lit 406,kc "_law_open" 750 264 (.int 4 0) (.int 3 0) (.ref 401) (.int 181 0) (.ref 402) .none (.ref 403) (.ref 404) (.ref 405) (.int 762 0) 763) ::
 (nat_lit 407,kf "_law_open" 63 km6 632 406) ::
 (nat_lit 413,kc "_law_with" 765 275 (.int 3 0) (.int 3 0) (.ref 408) (.int 181 0) (.ref 409) .none (.ref 410) (.ref 411) (.ref 412) (.int 771 0) 772) ::
 (nat_lit 414,kf "_law_with" 64 km6 632 413) ::
 (nat_lit 418,kc "_law_seated" 774 277 (.int 3 0) (.int 3 0) (.ref 415) (.int 181 0) (.ref 416) .none .none .none (.ref 417) (.int 777 0) 778) ::
 (nat_lit 419,kf "_law_seated" 65 km6 632 418) ::
 (nat_lit 423,kc "_law_fast" 780 287 (.int 2 0) (.int 3 0) (.ref 420) (.int 181 0) (.ref 421) .none .none .none (.ref 422) (.int 783 0) 784) ::
 (nat_lit 424,kf "_law_fast" 66 km6 632 423) ::
 (nat_lit 430,kc "_law_keeps" 786 289 (.int 3 0) (.int 3 0) (.ref 425) (.int 181 0) (.ref 426) .none (.ref 427) (.ref 428) (.ref 429) (.int 793 0) 794) ::
 (nat_lit 431,kf "_law_keeps" 67 km6 632 430) ::
 (nat_lit 435,kc "_law_off" 796 294 (.int 2 0) (.int 3 0) (.ref 432) (.int 181 0) (.ref 433) .none .none .none (.ref 434) (.int 799 0) 800) ::
 (nat_lit 436,kf "_law_off" 68 km6 632 435) ::
 (nat_lit 442,kc "_law_product" 802 302 (.int 2 0) (.int 3 0) (.ref 437) (.int 181 0) (.ref 438) .none (.ref 439) (.ref 440) (.ref 441) (.int 810 0) 811) ::
 (nat_lit 443,kf "_law_product" 69 km6 632 442) ::
 (nat_lit 449,kc "_law_told" 813 308 (.int 2 0) (.int 3 0) (.ref 444) (.int 181 0) (.ref 445) .none (.ref 446) (.ref 447) (.ref 448) (.int 818 0) 819) ::
 (nat_lit 450,kf "_law_told" 70 km6 632 449) ::
 (nat_lit 456,kc "_law_apart_from_all" 821 310 (.int 1 0) (.int 3 0) (.ref 451) (.int 181 0) (.ref 452) .none (.ref 453) (.ref 454) (.ref 455) (.int 825 0) 826) ::
 (nat_lit 457,kf "_law_apart_from_all" 71 km6 632 456) ::
 (nat_lit 463,kc "_law_refused" 828 316 (.int 4 0) (.int 3 0) (.ref 458) (.int 181 0) (.ref 459) .none (.ref 460) (.ref 461) (.ref 462) (.int 837 0) 838) ::
 (nat_lit 464,kf "_law_refused" 72 km6 632 463) ::
 (nat_lit 468,kc "law" 840 330 (.int 1 0) (.int 3 0) (.ref 465) (.int 181 0) (.ref 466) .none .none .none (.ref 467) (.int 843 0) 844) ::
 (nat_lit 469,kf "law" 73 km6 632 468) ::
 (nat_lit 222,{ cls:=.type "tuple",data:=.seq #[.none] }) ::
 (nat_lit 261,{ cls:=.type "tuple",data:=.seq #[.none] }) ::
 (nat_lit 309,{ cls:=.type "tuple",data:=.seq #[.none] }) ::
 (nat_lit 322,{ cls:=.type "tuple",data:=.seq #[.none] }) :: []) (by kernel_rfl)
def KA:List Addr:=[nat_lit 3,nat_lit 23,nat_lit 24,nat_lit 36,nat_lit 37,nat_lit 48,nat_lit 49,nat_lit 60,nat_lit 61,nat_lit 72,nat_lit 73,nat_lit 84,nat_lit 85,nat_lit 96,nat_lit 97,nat_lit 108,nat_lit 109,nat_lit 127,nat_lit 128,nat_lit 146,nat_lit 147,nat_lit 155,nat_lit 156,nat_lit 162,nat_lit 163,nat_lit 169,nat_lit 170,nat_lit 176,nat_lit 177,nat_lit 181,nat_lit 182,nat_lit 186,nat_lit 187,nat_lit 191,nat_lit 192,nat_lit 198,nat_lit 199,nat_lit 203,nat_lit 204,nat_lit 208,nat_lit 209,nat_lit 213,nat_lit 214,nat_lit 220,nat_lit 221,nat_lit 228,nat_lit 229,nat_lit 235,nat_lit 236,nat_lit 242,nat_lit 243,nat_lit 247,nat_lit 248,nat_lit 252,nat_lit 253,nat_lit 259,nat_lit 260,nat_lit 267,nat_lit 268,nat_lit 272,nat_lit 273,nat_lit 279,nat_lit 280,nat_lit 286,nat_lit 287,nat_lit 293,nat_lit 294,nat_lit 300,nat_lit 301,nat_lit 307,nat_lit 308,nat_lit 315,nat_lit 316,nat_lit 320,nat_lit 321,nat_lit 328,nat_lit 329,nat_lit 335,nat_lit 336,nat_lit 342,nat_lit 343,nat_lit 349,nat_lit 350,nat_lit 354,nat_lit 355,nat_lit 361,nat_lit 362,nat_lit 366,nat_lit 367,nat_lit 373,nat_lit 374,nat_lit 380,nat_lit 381,nat_lit 385,nat_lit 386,nat_lit 392,nat_lit 393,nat_lit 399,nat_lit 400,nat_lit 406,nat_lit 407,nat_lit 413,nat_lit 414,nat_lit 418,nat_lit 419,nat_lit 423,nat_lit 424,nat_lit 430,nat_lit 431,nat_lit 435,nat_lit 436,nat_lit 442,nat_lit 443,nat_lit 449,nat_lit 450,nat_lit 456,nat_lit 457,nat_lit 463,nat_lit 464,nat_lit 468,nat_lit 469,nat_lit 222,nat_lit 261,nat_lit 309,nat_lit 322]
end K50
namespace PySem.W.Fast
def tw1633321215784216530:Unit:=()
def tw4244285360850522459:Unit:=()
def tw6146380524843813163:Unit:=()
def tw3007888732514028500:Unit:=()
def tw2266324330602980824:Unit:=()
def tw16490656311354142343:Unit:=()
def tw11932392390120778659:Unit:=()
def tw18144915093178446213:Unit:=()
def tw13579586179238194218:Unit:=()
def tw3634962288457483433:Unit:=()
def tw14613568212968724576:Unit:=()
def tw10565370109953575702:Unit:=()
def tw14958873618032333387:Unit:=()
def tw8257704745663150586:Unit:=()
def tw7221840315707920686:Unit:=()
def tw8205628413465598460:Unit:=()
def tw10971460227433171003:Unit:=()
def tw1172177409780805652:Unit:=()
def tw6455073380608296200:Unit:=()
def tw18083988859859181654:Unit:=()
def tw8007450426271933044:Unit:=()
def tw15597639375808616658:Unit:=()
def tw8515969742108074571:Unit:=()
def tw5230016020183009507:Unit:=()
def tw15090990173763414872:Unit:=()
end PySem.W.Fast
open PySem PySem.W PyProof.Rows
set_option maxRecDepth 100000 in
set_option maxHeartbeats 0 in
theorem PySem.Challenge.cw_besideseats_k50_ways_counted_holds : PySem.Challenge.rw_besideseats_k50_ways_counted.Holds := by
 w_on;o_law;o_head (PySem.W.kHook K50.KK K50.KA (λ _=>by kernel_rfl));(case hw=>w_witness2)
 k_fill
 refine K50.walk (l:=PySem.Challenge.rw_besideseats_k50_ways_counted) rfl rfl (λ w h Y=>PySem.W.kIn_of Y) ?F ?L
 case L =>
  intro w;refine' ZS.lam_ok (r1:=_) (r2:=_) ?n ?h1 ?h2 ?g1 ?g2 ?ne
  (case n=>kernel_rfl)
  (case h1=>refine' ZS.tab_none ?a1;(case a1=>k_is))
  (case g1=>exact .inl rfl)
  (case h2=>refine' ZS.tab_some ?a2 ?l2 ?e2 ?tl2 ?tp2;(case a2=>k_is);(case l2=>k_is);(case e2=>exact rfl);(case tl2=>k_is);(case tp2=>exact rfl))
  (case g2=>exact .inr rfl)
  (case ne=>exact λ c P c' P' e1 e2=>by first | (cases e1;done) | (cases e2;done) | (cases e1;cases e2;decide))
 case F =>
  intro w mg fa h KX G hmg;refine' K50.all_mk KX G hmg ?a0 ?a1 ?a2 ?a3 ?a4 ?a5 ?a6 ?a7 ?a8 ?a9 ?a10 ?a11 ?a12 ?a13 ?a14 ?a15 ?a16 ?a17 ?a18 ?a19 ?a20 ?a21 ?a22 ?a23 ?a24 ?a25 ?a26 ?a27 ?a28 ?a29 ?a30 ?a31 ?a32 ?a33 ?a34 ?a35 ?a36 ?a37 ?a38 ?a39 ?a40 ?a41 ?a42 ?a43 ?a44 ?a45 ?a46 ?a47 ?a48 ?a49 ?v_DEPTH ?v_GAP ?v_KIND ?v_MOST_WAYS ?v_WIDE ?v_WIDTH ?n_ValueError ?n_all ?n_bool ?n_int ?n_isinstance ?n_len ?n_max ?n_min ?n_range ?n_str ?n_tuple ?n_zip ?w_Full ?w_NoGroup ?w_NoHall ?w_NoName ?w_NoRow ?w_NoSeating ?w_NoText ?w_SeatError ?w_TooGreat ?w_Twice ?xc_NoSeating ?xi_NoSeating ?ek_NoSeating ?kk_NoSeating_Full ?kk_NoSeating_NoGroup ?kk_NoSeating_NoHall ?kk_NoSeating_NoName ?kk_NoSeating_NoRow ?kk_NoSeating_NoText ?kk_NoSeating_SeatError ?kk_NoSeating_TooGreat ?kk_NoSeating_Twice ?kk_NoSeating_ValueError
  (case v_DEPTH=>k_is)
  (case v_GAP=>k_is)
  (case v_KIND=>k_is)
  (case v_MOST_WAYS=>k_is)
  (case v_WIDE=>k_is)
  (case v_WIDTH=>k_is)
  (case w_Full=>k_is)
  (case w_NoGroup=>k_is)
  (case w_NoHall=>k_is)
  (case w_NoName=>k_is)
  (case w_NoRow=>k_is)
  (case w_NoSeating=>k_is)
  (case w_NoText=>k_is)
  (case w_SeatError=>k_is)
  (case w_TooGreat=>k_is)
  (case w_Twice=>k_is)
  (case xc_NoSeating=>kernel_rfl)
  (case xi_NoSeating=>kernel_rfl)
  (case ek_NoSeating=>refine' ⟨?_,?_,?_,?_,?_,?_,?_⟩<;>kernel_rfl)
  (case kk_NoSeating_Full=>kernel_rfl)
  (case kk_NoSeating_NoGroup=>kernel_rfl)
  (case kk_NoSeating_NoHall=>kernel_rfl)
  (case kk_NoSeating_NoName=>kernel_rfl)
  (case kk_NoSeating_NoRow=>kernel_rfl)
  (case kk_NoSeating_NoText=>kernel_rfl)
  (case kk_NoSeating_SeatError=>kernel_rfl)
  (case kk_NoSeating_TooGreat=>kernel_rfl)
  (case kk_NoSeating_Twice=>kernel_rfl)
  (case kk_NoSeating_ValueError=>kernel_rfl)
  (case a12=>refine' ZS.DefKD.mk' ?a12 ?l12 ?c12 ?k12 ?q12;(case a12=>k_is);(case l12=>k_is);(case c12=>k_is);(case k12=>k_is);(case q12=>k_is))
  (case a18=>refine' ZS.DefKD.mk' ?a18 ?l18 ?c18 ?k18 ?q18;(case a18=>k_is);(case l18=>k_is);(case c18=>k_is);(case k18=>k_is);(case q18=>k_is))
  (case a25=>refine' ZS.DefKD.mk' ?a25 ?l25 ?c25 ?k25 ?q25;(case a25=>k_is);(case l25=>k_is);(case c25=>k_is);(case k25=>k_is);(case q25=>k_is))
  (case a26=>refine' ZS.DefKL.mk' ?a26 ?l26 ?c26 ?k26 ?tl26 ?tp26;(case a26=>k_is);(case l26=>k_is);(case c26=>k_is);(case k26=>k_is);(case tl26=>k_is);(case tp26=>exact rfl))
  (case a27=>refine' ZS.DefKD.mk' ?a27 ?l27 ?c27 ?k27 ?q27;(case a27=>k_is);(case l27=>k_is);(case c27=>k_is);(case k27=>k_is);(case q27=>k_is))
  all_goals first | k_is | (refine' ZS.DefK.mk' ?a ?l ?c ?k;(case a=>k_is);(case l=>k_is);(case c=>k_is);(case k=>k_is))
#print axioms PySem.Challenge.cw_besideseats_k50_ways_counted_holds
