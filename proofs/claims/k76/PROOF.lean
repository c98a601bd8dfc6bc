import PyProof.Rows.All
import Wide.All
import OpenK.AllK
import Wide.FinOn
import Lean
import KE.KMinKey
import PyProof.WalkInts
import PyProof.SeqI3
import PyProof.Rows.CallKwBuiltin
import KE.KSortTup
import PyProof.EqAt
import PyProof.EqKinds
import PyProof.TupleCall
import KE.KLam
import PySem.Challenge.RW_besideseats_k76_whole_holes_from_the_oth
set_option Elab.async false
set_option linter.all false
set_option maxRecDepth 100000
set_option genSizeOf false
set_option compiler.extract_closed false
set_option bootstrap.genMatcherCode false
namespace L2
open PySem PySem.Spec PyProof.Rows
abbrev Key:=Sum Int Str
def keyIs:Key->Value->Bool
  | .inl k,v=>Value.isInt k v
  | .inr x,v=>Value.isStrOf x v
def keyH(w:World):Key->Int
  | .inl k=>hashInt k
  | .inr x=>hashStr w x
theorem cK:∀{k:Key}{v:Value},keyIs k v=true->(∃i t,k=Sum.inl i∧v=Value.int i t)∨(∃x t,k=Sum.inr x∧v=Value.str x t)
  | .inl i,v,h=>by obtain⟨t,e⟩:=Value.isInt_shape (k:=i) (v:=v) h;exact .inl ⟨i,t,rfl,e⟩
  | .inr x,v,h=>by obtain⟨t,e⟩:=Value.isStrOf_shape (x:=x) (v:=v) h;exact .inr ⟨x,t,rfl,e⟩
theorem key_ll(a b:Int):decide ((Sum.inl a:Key)=Sum.inl b)=(a==b):=by
  by_cases e:a=b
  ·subst e;simp
  · have h:¬(Sum.inl a:Key)=Sum.inl b:=λ q=>e (Sum.inl.inj q);rw[decide_eq_false h];exact(beq_eq_false_iff_ne.mpr e).symm
theorem key_rr(a b:Str):decide ((Sum.inr a:Key)=Sum.inr b)=decide (a=b):=by
  by_cases e:a=b
  ·subst e;simp
  · have h:¬(Sum.inr a:Key)=Sum.inr b:=λ q=>e (Sum.inr.inj q);rw[decide_eq_false h,decide_eq_false e]
theorem key_lr(a:Int)(b:Str):decide ((Sum.inl a:Key)=Sum.inr b)=false:=decide_eq_false (λ q=>nomatch q)
theorem key_rl(a:Str)(b:Int):decide ((Sum.inr a:Key)=Sum.inl b)=false:=decide_eq_false (λ q=>nomatch q)
def mixKind (prog:Program) (w:World):PySem.KeyKind prog w Key where
  is:=keyIs
  hash:=keyH w
  inj:=λ v a b ha hb=>by
    rcases cK ha with⟨i,t,rfl,rfl⟩ | ⟨x,t,rfl,rfl⟩
    · rcases cK hb with⟨j,u,rfl,e⟩ | ⟨y,u,rfl,e⟩
      ·injection e with e1 _;rw[e1]
      ·exact nomatch e
    · rcases cK hb with⟨j,u,rfl,e⟩ | ⟨y,u,rfl,e⟩
      ·exact nomatch e
      ·injection e with e1 _;rw[e1]
  byValue:=λ k v h=>by rcases cK h with⟨i,t,rfl,rfl⟩ | ⟨x,t,rfl,rfl⟩<;>rfl
  pyHash:=λ hv h=>by
    rcases cK hv with⟨i,t,rfl,rfl⟩ | ⟨x,t,rfl,rfl⟩
    ·exact wpAny_pyHash_int h
    ·exact wpAny_pyHash_str h
  eqBool:=λ hu hv h=>by
    rcases cK hu with⟨i,t,rfl,rfl⟩ | ⟨x,t,rfl,rfl⟩
    · rcases cK hv with⟨j,u,rfl,rfl⟩ | ⟨y,u,rfl,rfl⟩
      ·rw[key_ll]at h;exact wpAny_eqBool_int h
      ·rw[key_lr]at h;exact SeqAt.EqAt.int_str i t y u _ _ _ _ h
    · rcases cK hv with⟨j,u,rfl,rfl⟩ | ⟨y,u,rfl,rfl⟩
      ·rw[key_rl]at h;exact SeqAt.EqAt.str_int x t j u _ _ _ _ h
      ·rw[key_rr]at h;exact wpAny_eqBool_str h
  «strs»:=λ k x t v h=>by
    rcases cK h with⟨i,u,rfl,e⟩ | ⟨y,u,rfl,e⟩
    ·exact nomatch e
    · injection e with e1 _
      subst e1;cases v<;>rfl
end L2
namespace L2
open PySem PySem.Spec PyProof.Rows
inductive V where
  | non | bl (b:Bool) | int (i:Int) | str (x:Str) | byt (b:Array UInt8) | flt (b:UInt64) | ref (a:Addr) | ty (n:String)
  deriving DecidableEq
def RelV:V->Value->Prop
  | .non,u=>u=Value.none
  | .bl b,u=>u=Value.bool b
  | .int i,u=>∃t,u=Value.int i t
  | .str x,u=>∃t,u=Value.str x t
  | .byt b,u=>∃t,u=Value.bytes b t
  | .flt b,u=>∃t,u=Value.float b t
  | .ref a,u=>u=Value.ref a
  | .ty n,u=>u=Value.type n
abbrev Vals:List V->List Value->Prop:=Paired RelV
theorem Vals.length{xs:List V}{us:List Value}(r:Vals xs us):xs.length=us.length:=Paired.length r
theorem Vals.get:∀{xs:List V}{us:List Value}{i:Nat}{x:V},Vals xs us->xs[i]?=some x->∃u,us[i]?=some u∧RelV x u
  | _,_,_,_,.nil,e=>by simp at e
  | _,_,0,_,.cons r _,e=>by simp at e;subst e;exact⟨_,rfl,r⟩
  | _,_,i+1,x,.cons _ t,e=>by obtain⟨u,h1,h2⟩:=Vals.get (i:=i) (x:=x) t (by simpa using e);exact⟨u,by simpa using h1,h2⟩
theorem Vals.set{x:V}{u:Value}(r:RelV x u):∀{xs:List V}{us:List Value}(i:Nat),Vals xs us->Vals (xs.set i x) (us.set i u)
  | _,_,_,.nil=>.nil
  | _,_,0,.cons _ t=>.cons r t
  | _,_,i+1,.cons q t=>.cons q (Vals.set r i t)
theorem Vals.append:∀{xs ys:List V}{us ws:List Value},Vals xs us->Vals ys ws->Vals (xs++ys) (us++ws)
  | _,_,_,_,.nil,s=>s
  | _,_,_,_,.cons r t,s=>.cons r (Vals.append t s)
theorem Vals.take:∀{xs:List V}{us:List Value}(n:Nat),Vals xs us->Vals (xs.take n) (us.take n)
  | _,_,0,_=>.nil
  | _,_,_+1,.nil=>.nil
  | _,_,n+1,.cons r t=>.cons r (Vals.take n t)
theorem Vals.drop:∀{xs:List V}{us:List Value}(n:Nat),Vals xs us->Vals (xs.drop n) (us.drop n)
  | _,_,0,r=>r
  | _,_,_+1,.nil=>.nil
  | _,_,n+1,.cons _ t=>Vals.drop n t
def RelO:Option V->Option Value->Prop
  | some v,some u=>RelV v u
  | none,none=>True
  | _,_=>False
def KV{κ:Type}:List (κ×V)->List (κ×Value)->Prop:=Paired λ(p:κ×V) (q:κ×Value)=>p.1=q.1∧RelV p.2 q.2
def kV:Key->V
  | .inl i=>.int i
  | .inr x=>.str x
inductive HO where
    | lst (xs:List V)
    | tup (xs:List V)
    | dK (g0:List (Key×V)) | dT (g0:List (List Key×V))
    | set (S:Int->Bool) (n:Nat)
    | ins (C dx:Addr) (fs:List (Str×V))
    | own (x:Addr)
    | xd (fs:List (Str×V))
    | met (f x:Addr)
    | rng (lo hi:Int)
    | fh (o:Obj) (u:HO)
    | tbl (q:Str)
  | cod (q:Str)
    | ext (φ:Heap->Prop)
abbrev Hp:=Addr->Option HO
def Prm:HO->Prop
  | .tbl _=>True
  | .cod _=>True
  | _=>False
def upd(H:Hp)(a:Addr)(o:HO):Hp:=λ b=>if b=a then some o else H b
theorem aX{H:Hp}{a:Addr}{o:HO}:upd H a o a=some o:=by unfold upd;rw[if_pos rfl]
theorem aK{H:Hp}{a b:Addr}{o:HO}(h:b≠a):upd H a o b=H b:=by unfold upd;rw[if_neg h]
theorem bH{H:Hp}{a b:Addr}{o:HO}(h:H a=some o)(h':H b=none):a≠b:=by intro e;subst e;rw[h]at h';cases h'
section
variable (P:Program) (w:World)
def f7(H:Hp)(h:Heap)(a:Addr):HO->Prop
  | .lst xs=>xs.length≤sizeLine∧∃(aM:List Value) (n:Nat),Vals xs aM∧h.get? a=some { cls:=.type "list",data:=.seq aM.toArray n }
  | .tup xs=>xs.length≤sizeLine∧∃aM:List Value,Vals xs aM∧IsTup h a aM.toArray
  | .dK g0=>g0.length≤sizeLine∧(a==sysModules)=false∧∃vs,KV g0 vs∧h.DictOf (mixKind P w) a vs
  | .dT g0=>g0.length≤sizeLine∧(a==sysModules)=false∧∃xs:List (List Key×Addr×Value),
      Paired (λ(p:List Key×V) (q:List Key×Addr×Value)=>p.1=q.1∧H q.2.1=some (.tup (p.1.map kV))∧RelV p.2 q.2.2) g0 xs ∧
      ∃o es ep,h.get? a=some o∧o.ExactDict∧o.data=.dict es ep∧es.toList=xs.map (entryOfKey (tupleKind (mixKind P w)))∧(xs.map (·.1)).Nodup
  | .set S n=>h.SetOf (intKind P w) a S n
  | .ins C dx fs=>H dx=some (.own a)∧fs.length≤1000∧dx≠a∧h.get? a=some (PySem.W.instObj C dx) ∧
      ∃mA,h.Ns1 dx mA∧(∀f,RelO (fs.lookup f) (mA f))∧PySem.Within mA (fs.map (·.1))
  | .own _=>∃o,h.get? a=some o
  | .xd fs=>∃mA,h.Ns1 a mA∧∀f,RelO (fs.lookup f) (mA f)
  | .rng lo hi=>∃t u v,h.get? a=some { cls:=.type "range",data:=.fields #[.int lo t,.int hi u,.int 1 v] }
  | .fh o u=>h.get? a=some o∧f7 H h a u
  | .tbl q=>∃ps:Array Value,h.get? a=some { cls:=.none,data:=.fields ps }∧TriplesOk ps.toList∧∀pos cv,codeAmong pos ps.toList=some cv->∃c,cv=.ref c∧H c=some (.cod q)
  | .cod q=>h.CodeRec (.ref a) q
  | .met f x=>h.get? a=some (PySem.W.methodObj (.ref f) (.ref x))
  | .ext φ=>φ h∧(∃o,h.get? a=some o)∧∀h1 h2:Heap,φ h1->(∀o,h1.get? a=some o->h2.get? a=some o)->φ h2
def HOk(H:Hp)(h:Heap):Prop:=∀a o,H a=some o->f7 P w H h a o
end
section
variable {P:Program}{w:World}{H H':Hp}{h h':Heap}{a:Addr}{o:HO}
theorem f7.lt(x:f7 P w H h a o):a < h.objs.size:=by
  cases o with
  | lst xs=>obtain⟨_,_,_,_,e⟩:=x;exact Heap.lt_size e
  | tup xs=>obtain⟨_,_,_,p⟩:=x;exact p.lt
  | dK g0=>obtain⟨_,_,_,_,o,_,_,e,_⟩:=x;exact Heap.lt_size e
  | dT g0=>obtain⟨_,_,_,_,o,_,_,e,_⟩:=x;exact Heap.lt_size e
  | set S n=>obtain⟨o,_,_,_,e,_⟩:=x;exact Heap.lt_size e
  | ins C dx fs=>obtain⟨_,_,_,e,_⟩:=x;exact Heap.lt_size e
  | own y=>obtain⟨_,e⟩:=x;exact Heap.lt_size e
  | xd fs=>obtain⟨_,⟨_,_,_,e,_⟩,_⟩:=x;exact Heap.lt_size e
  | rng lo hi=>obtain⟨_,_,_,e⟩:=x;exact Heap.lt_size e
  | fh ob u=>obtain⟨e,_⟩:=x;exact Heap.lt_size e
  | tbl q=>obtain⟨_,e,_⟩:=x;exact Heap.lt_size e
  | cod q=>obtain⟨_,_,_,_,e1,e2,_⟩:=x;cases e1;exact Heap.lt_size e2
  | met f y=>exact Heap.lt_size (show h.get? a=some _ from x)
  | ext φ=>obtain⟨_,⟨_,e⟩,_⟩:=x;exact Heap.lt_size e
theorem Paired.mapP{α β:Type}{F G:α->β->Prop}:∀{l₁:List α}{l₂:List β},Paired F l₁ l₂->(∀a b,F a b->G a b)->Paired G l₁ l₂
  | _,_,.nil,_=>.nil
  | _,_,.cons r t,f=>.cons (f _ _ r) (Paired.mapP t f)
theorem f7.stay(x:f7 P w H h a o)(k:∀b u,(b=a∨H b=some (.own a))->h.get? b=some u->h'.get? b=some u)
    (ho:∀b,H b=some (.own a)->H' b=some (.own a)) (ht:∀b xs,H b=some (.tup xs)->H' b=some (.tup xs)) (hp:∀b u,Prm u->H b=some u->H' b=some u):f7 P w H' h' a o:=by
  induction o with
  | lst xs=>obtain⟨z,aM,n,r,e⟩:=x;exact⟨z,aM,n,r,k _ _ (.inl rfl) e⟩
  | tup xs=>obtain⟨z,aM,r,ob,e,c⟩:=x;exact⟨z,aM,r,ob,k _ _ (.inl rfl) e,c⟩
  | dK g0=>obtain⟨z,y,vs,r,ob,es,ep,e,c⟩:=x;exact⟨z,y,vs,r,ob,es,ep,k _ _ (.inl rfl) e,c⟩
  | dT g0 =>obtain⟨z,y,xs,r,ob,es,ep,e,c⟩:=x;exact⟨z,y,xs,Paired.mapP r λ p q z=>⟨z.1,ht _ _ z.2.1,z.2.2⟩,ob,es,ep,k _ _ (.inl rfl) e,c⟩
  | set S n=>obtain⟨ob,es,ep,t,e,c⟩:=x;exact⟨ob,es,ep,t,k _ _ (.inl rfl) e,c⟩
  | ins C dx fs =>obtain⟨d,z,ne,e,mA,⟨od,es,ep,e2,c⟩,r⟩:=x;exact⟨ho _ d,z,ne,k _ _ (.inl rfl) e,mA,⟨od,es,ep,k _ _ (.inr d) e2,c⟩,r⟩
  | own y=>obtain⟨ob,e⟩:=x;exact⟨ob,k _ _ (.inl rfl) e⟩
  | xd fs=>obtain⟨mA,⟨od,es,ep,e,c⟩,r⟩:=x;exact⟨mA,⟨od,es,ep,k _ _ (.inl rfl) e,c⟩,r⟩
  | rng lo hi=>obtain⟨t,u,v,e⟩:=x;exact⟨t,u,v,k _ _ (.inl rfl) e⟩
  | fh ob u ih=>obtain⟨e,q⟩:=x;exact⟨k _ _ (.inl rfl) e,ih q⟩
  | tbl q =>obtain⟨ps,e,t,g⟩:=x;exact⟨ps,k a _ (.inl rfl) e,t,λ pos cv r=>let ⟨c,e1,e2⟩:=g pos cv r;⟨c,e1,hp c _ trivial e2⟩⟩
  | cod q =>obtain⟨c,oc,vs,t,e1,e2,r⟩:=x;cases e1;exact⟨a,oc,vs,t,rfl,k a _ (.inl rfl) e2,r⟩
  | met f y =>have e:h.get? a=some (PySem.W.methodObj (.ref f) (.ref y)):=x;show h'.get? a=some (PySem.W.methodObj (.ref f) (.ref y));exact k a _ (.inl rfl) e
  | ext φ=>obtain⟨p,⟨o,e⟩,st⟩:=x;exact⟨st _ _ p λ o q=>k _ _ (.inl rfl) q,⟨o,k _ _ (.inl rfl) e⟩,st⟩
theorem HOk.lt(x:HOk P w H h)(e:H a=some o):a < h.objs.size:=(x a o e).lt
theorem HOk.fresh(x:HOk P w H h)(e:h.objs.size≤a):H a=none:=by
  cases q:H a with
  | none=>rfl
  | some u=>exact absurd (Nat.lt_of_lt_of_le (x.lt q) e) (Nat.lt_irrefl _)
theorem HOk.kept(x:HOk P w H h)(k:∀b u,h.get? b=some u->h'.get? b=some u):HOk P w H h':=λ a o e =>(x a o e).stay (λ b u _ q=>k b u q) (λ _ q=>q) (λ _ _ q=>q) λ _ _ _ q=>q
theorem HOk.laid(x:HOk P w H h)(k:∀b u,h.get? b=some u->h'.get? b=some u)(hp:h.objs.size≤a)(new:f7 P w (upd H a o) h' a o):HOk P w (upd H a o) h':=λ b u e=>by
  have hn:=x.fresh hp;by_cases hb:b=a
  ·subst hb;rw[aX]at e;cases e;exact new
  · rw[aK hb]at e;exact(x b u e).stay (λ c v _ q=>k c v q) (λ c q=>by rw[aK (bH q hn)];exact q) (λ c xs q=>by rw[aK (bH q hn)];exact q) λ c v _ q=>by rw[aK (bH q hn)];exact q
end
def Rd(H:Hp)(a:Addr)(u:HO):Prop:=H a=some u∨∃o,H a=some (.fh o u)
theorem Rd.of{H:Hp}{a:Addr}{u:HO}(h:H a=some u):Rd H a u:=.inl h
theorem Rd.ok{P:Program}{w:World}{H:Hp}{h:Heap}{a:Addr}{u:HO}(r:Rd H a u)(x:HOk P w H h):f7 P w H h a u:=by
  rcases r with r | ⟨o,r⟩
  ·exact x a u r
  · obtain⟨_,q⟩:=x a _ r;exact q
def Mut:Option HO->Prop
  | some (.lst _)=>True
  | some (.dK _)=>True
  | some (.dT _)=>True
  | some (.set _ _)=>True
  | some (.ins _ _ _)=>True
  | some (.ext _)=>True
  | _=>False
section
variable {P:Program}{w:World}{H:Hp}{h h':Heap}{x e:Addr}{o':HO}
theorem HOk.write (ok : HOk P w H h) (mu : Mut (H x)) (he : e = x ∨ H e = some (.own x)) (k : ∀ b u, b ≠ e -> h.get? b = some u -> h'.get? b = some u) (heo : ∃ u, h'.get? e = some u)
    (new:f7 P w (upd H x o') h' x o'):HOk P w (upd H x o') h':=λ b u q=>by
  have nown:∀c y,H c=some (.own y)->c≠x:=λ c y r z=>by subst z;rw[r]at mu;exact mu
  have ntup:∀c xs,H c=some (.tup xs)->c≠x:=λ c xs r z=>by subst z;rw[r]at mu;exact mu
  have nprm:∀c u,Prm u->H c=some u->c≠x:=λ c u p r z=>by subst z;rw[r]at mu;cases u<;>first | exact p | exact mu
  by_cases hb:b=x
  ·subst hb;rw[aX]at q;cases q;exact new
  · rw[aK hb]at q;by_cases hbe:b=e
    · have q':H b=some (.own x):=by
        rcases he with z | z
        ·exact absurd (hbe.trans z) hb
        ·rw[hbe];exact z
      rw[q]at q';cases q';obtain⟨v,hv⟩:=heo;exact⟨v,by rw[hbe];exact hv⟩
    · refine(ok b u q).stay (λ c v hc r=>k c v ?_ r) (λ c r=>by rw[aK (nown c b r)];exact r) (λ c xs r=>by rw[aK (ntup c xs r)];exact r) λ c v p r=>by rw[aK (nprm c v p r)];exact r
      rcases hc with rfl | hc
      ·exact hbe
      · rintro rfl;rcases he with z | z
        ·exact nown c b hc z
        ·rw[hc]at z;cases z;exact hb rfl
end
structure Un(fs ex:List Addr)(H H':Hp)(h h':Heap):Prop where
  keep:∀b o,h.get? b=some o->H b=none->b∉fs->b∉ex->h'.get? b=some o
  slot:∀b o,h.get? b=some o->H b=none->b∈fs->b∉ex->∃sl,h'.get? b=some { o with slots:=sl }
  free:∀b o,h.get? b=some o->H b=none->b∉ex->H' b=none
  there:∀b o,h.get? b=some o->b∉ex->∃o',h'.get? b=some o'
  tups:∀b xs,H b=some (.tup xs)->H' b=some (.tup xs)
  frzs:∀b o u,H b=some (.fh o u)->H' b=some (.fh o u)
  tbls:∀b u,Prm u->H b=some u->H' b=some u
section
variable {fs fs' ex ex':List Addr}{H H1 H2:Hp}{h h1 h2 h':Heap}{a x e:Addr}{o:HO}
theorem Un.any(u:Un fs ex H H1 h h1){b:Addr}{ob:Obj}(q:h.get? b=some ob)(n:H b=none)(hx:b∉ex):∃sl,h1.get? b=some { ob with slots:=sl }:=by
  by_cases hb:b∈fs
  ·exact u.slot b ob q n hb hx
  ·exact⟨ob.slots,u.keep b ob q n hb hx⟩
theorem Un.kept(k:∀b u,h.get? b=some u->h'.get? b=some u):Un fs ex H H h h' :=
  ⟨λ b ob q _ _ _=>k b ob q,λ b ob q _ _ _=>⟨ob.slots,k b ob q⟩,λ _ _ _ n _=>n,λ b ob q _=>⟨ob,k b ob q⟩,λ _ _ q=>q,λ _ _ _ q=>q,λ _ _ _ q=>q⟩
theorem Un.refl:Un fs ex H H h h:=Un.kept λ _ _ q=>q
theorem Un.laid(k:∀b u,h.get? b=some u->h'.get? b=some u)(hp:h.objs.size≤a)(hn:H a=none):Un fs ex H (upd H a o) h h' where
  keep:=λ b u q _ _ _=>k b u q
  slot:=λ b u q _ _ _=>⟨u.slots,k b u q⟩
  free:=λ b u q n _=>by rw[aK (Nat.ne_of_lt (Nat.lt_of_lt_of_le (Heap.lt_size q) hp))];exact n
  there:=λ b u q _=>⟨u,k b u q⟩
  tups:=λ b xs q=>by rw[aK (bH q hn)];exact q
  frzs:=λ b u xs q=>by rw[aK (bH q hn)];exact q
  tbls:=λ b u _ q=>by rw[aK (bH q hn)];exact q
theorem Un.write(mu:Mut (H x))(he:e=x∨H e=some (.own x))(k:∀b u,b≠e->h.get? b=some u->h'.get? b=some u)(heo:∃u,h'.get? e=some u):Un fs ex H (upd H x o) h h':=by
  have hx:∀b,H b=none->b≠x:=λ b n z=>by subst z;rw[n]at mu;exact mu
  have hb:∀b,H b=none->b≠e:=λ b n z=>by
    subst z;rcases he with r | r
    ·exact hx b n r
    ·rw[n]at r;cases r
  have hm:∀b u,H b=some u->¬Mut (some u)->b≠x:=λ b u q nm z=>by subst z;rw[q]at mu;exact nm mu
  refine⟨λ b u q n _ _=>k b u (hb b n) q,λ b u q n _ _=>⟨u.slots,k b u (hb b n) q⟩,λ b u q n _=>by rw[aK (hx b n)];exact n,λ b u q _=>?_,
    λ b xs q=>by rw[aK (hm b _ q λ z=>z)];exact q,λ b u xs q=>by rw[aK (hm b _ q λ z=>z)];exact q,λ b u p q=>by rw[aK (hm b _ q λ z=>by cases u<;>first | exact p | exact z)];exact q⟩
  by_cases hbe:b=e
  ·subst hbe;exact heo
  ·exact⟨u,k b u hbe q⟩
theorem Un.mono(u:Un fs ex H H1 h h1)(hs:∀b∈fs,b∈fs')(hx:∀b∈ex,b∈ex'):Un fs' ex' H H1 h h1 :=
  ⟨λ b ob q n hb he=>u.keep b ob q n (λ z=>hb (hs b z)) λ z=>he (hx b z),λ _ _ q n _ he=>u.any q n λ z=>he (hx _ z),λ b ob q n he=>u.free b ob q n λ z=>he (hx b z),λ b ob q he=>u.there b ob q λ z=>he (hx b z),u.tups,u.frzs,u.tbls⟩
end
def trk(h:Heap)(H:Hp):List Addr:=(List.range h.objs.size).filter λ a=>(H a).isSome
def hidT(h:Heap)(H:Hp):Heap:=PySem.W.hideAll h (trk h H)
theorem hidT_size(h:Heap)(H:Hp):(hidT h H).objs.size=h.objs.size:=PySem.W.hideAll_size _ _
theorem hidT_get{h:Heap}{H:Hp}{b:Addr}{o:Obj}(e:h.get? b=some o)(n:H b=none):(hidT h H).get? b=some o :=
  PySem.W.hideAll_get _ e λ hm=>by have q:(H b).isSome=true:=(List.mem_filter.mp hm).2;rw[n]at q;simp at q
theorem of_hidT{h:Heap}{H:Hp}{b:Addr}{o:Obj}(e:(hidT h H).get? b=some o):h.get? b=some o∧H b=none:=by
  have e':h.get? b=some o:=PySem.W.of_hideAll (trk h H) e;refine⟨e',?_⟩;cases q:H b with
  | none=>rfl
  | some x =>have hm:b∈trk h H:=List.mem_filter.mpr ⟨List.mem_range.mpr (Heap.lt_size e'),by simp[q]⟩;have z:(hidT h H).get? b=none:=PySem.W.hideAll_none (trk h H) hm;rw[z]at e;cases e
def allNews(g h:Heap)(L:Addr):List (Addr×Obj):=(List.range h.objs.size).filterMap λ a=>if a=L∨(g.get? a).isSome=true then none else(h.get? a).map λ o=>(a,o)
def rest(g h:Heap)(L d:Addr):List (Addr×Obj):=(allNews g h L).filter λ p=>decide (p.1≠d)
end L2
namespace L2
open PySem PySem.Spec PyProof.Rows
structure Mod(K:PySem.W.Frag)(mg:Str->Option Value)(base:Heap):Prop where
  kin:K.In base
  glob:base.Ns mainGlobals mg
  blt:∃mb,base.Ns builtinsNs mb∧∀x:Str,x ≠ "__name__" -> mb x=bootBuiltins x
  nolimit:base.NoLimit
def dm:List Str:=["best_among", "paper_beside"]
def lamQ(x:Str):Str:=x ++ ".<locals>." ++ "<lambda>"
def BMain(mg:Str->Option Value)(base:Heap):Prop:=∃bm ob,mg "__builtins__" = some (.ref bm)∧bm≠builtinsNs∧base.get? bm=some ob∧ob.cls=.type "module" ∧ ob.dict=some builtinsNs∧ob.data=.plain
def TabOk(K:PySem.W.Frag)(mg:Str->Option Value)(base:Heap)(H:Hp):Prop:=∀x∈dm,∀c P,PySem.W.tabIn K x=some (c,P)->H P=some (.tbl (lamQ x))∧PySem.W.CodeHd base c P∧BMain mg base
theorem TabOk.up{K:PySem.W.Frag}{mg:Str->Option Value}{base:Heap}{H H':Hp}(t:TabOk K mg base H)(u:∀b o,Prm o->H b=some o->H' b=some o):TabOk K mg base H':=λ x hx c P e=>⟨u _ _ trivial (t x hx c P e).1,(t x hx c P e).2⟩
structure Cx where
  prog:Program
  w:World
  K:PySem.W.Frag
  mg:Str->Option Value
  base:Heap
  A:Around
  N:List Str
  s₀:Shared
  H₀:Hp
  env:Env
  outer:List Env
  stack:List Env
  ex:List Addr
  fn:Str->Bool
  calm:Bool
  pn:List (Addr×Obj)
  xe:Value->Shared->Prop
def frs(l:List Env):List Addr:=l.filterMap (·.frame)
abbrev Cx.fs(X:Cx):List Addr:=frs X.outer
def Vis(sc:Scope)(x:Str):Prop:=sc.names.lookup x=some .local∨sc.names.lookup x=some .cell∨sc.names.lookup x=some .free
def Loc(sc:Scope)(x:Str):Prop:=sc.names.lookup x=some .local∨sc.names.lookup x=some .cell
def Look(env:Env)(h:Heap)(m:Str->Option Value)(x:Str)(u:Value):Prop :=
  (env.kindOf x=some .local∧m x=some u)∨((env.kindOf x=some .cell∨env.kindOf x=some .free)∧∃c,env.cells.lookup x=some c∧h.IsCell c (some u))
structure Cx.Ok(X:Cx):Prop where
  mod:Mod X.K X.mg X.base
  kind:X.env.scope.kind=.function
  glob:X.env.globals=mainGlobals
  blt:X.env.builtins=builtinsNs
  above:X.s₀.heap.objs.size≤X.env.locals
  inj:∀x y c,X.env.cells.lookup x=some c->X.env.cells.lookup y=some c->x=y
  has:∀x,(X.env.kindOf x=some .cell∨X.env.kindOf x=some .free)->∃c,X.env.cells.lookup x=some c
  cab:∀x c,X.fn x=true->X.env.cells.lookup x=some c->X.s₀.heap.objs.size≤c
  hd:X.calm=true->X.A.handled=none
  frames:X.A.frames=some X.stack
  stk:X.stack=X.outer∨(X.stack=X.env :: X.outer∧X.env.frame=some X.env.locals)
  exf:∀b∈X.ex,b≠X.env.locals∧∀x c,X.env.cells.lookup x=some c->c≠b
  bs:∀b o,X.base.get? b=some o->X.s₀.heap.get? b=some o∧X.H₀ b=none
  bsz:X.base.objs.size≤X.s₀.heap.objs.size
  noex:∀b o,X.base.get? b=some o->b∉X.ex
  exfs:∀b∈X.ex,b∉X.fs
  funs:X.s₀.heap.FunFrames X.base X.outer
  frf:∀b∈X.fs,X.H₀ b=none
structure Inv(X:Cx)(pins:List (Addr×Obj))(σ:List (Option V))(H:Hp)(s:Shared):Prop where
  ok:X.Ok
  os:s.os=X.s₀.os
  bare:AllBare s.gens
  base:Un X.fs X.ex X.H₀ H X.s₀.heap s.heap
  loc:∃m,s.heap.Ns X.env.locals m∧∀(i:Nat)(x:Str)(v:V),X.N[i]?=some x->σ[i]?=some (some v)->Vis X.env.scope x->∃u,RelV v u∧Look X.env s.heap m x u
  cell:∀x c,X.env.cells.lookup x=some c->∃v,s.heap.IsCell c v
  free:H X.env.locals=none
  lT:∀x c,X.env.cells.lookup x=some c->H c=none
  pin:∀p∈X.pn++pins,s.heap.get? p.1=some p.2∧H p.1=none∧p.1≠X.env.locals∧p.1∉X.fs∧∀v,p.2.data≠.cell v
  dO:HOk X.prog X.w H s.heap
  len:σ.length=X.N.length
  tab:TabOk X.K X.mg X.base H
section
variable {X:Cx}{pins:List (Addr×Obj)}{σ:List (Option V)}{H H':Hp}{s:Shared}{h':Heap}
theorem Cx.Ok.nofr(ok:X.Ok){b:Addr}{o:Obj}(e:X.base.get? b=some o):b∉X.fs:=λ hb=>by have:=(ok.funs.mem hb).1;rw[e]at this;cases this
theorem Inv.bs(I:Inv X pins σ H s):∀b o,X.base.get? b=some o->s.heap.get? b=some o∧H b=none:=λ b o e =>⟨I.base.keep b o (I.ok.bs b o e).1 (I.ok.bs b o e).2 (I.ok.nofr e) (I.ok.noex b o e),I.base.free b o (I.ok.bs b o e).1 (I.ok.bs b o e).2 (I.ok.noex b o e)⟩
theorem Inv.bk(I:Inv X pins σ H s):∀b o,X.base.get? b=some o->s.heap.get? b=some o:=λ b o e=>(I.bs b o e).1
theorem Inv.mod(I:Inv X pins σ H s):Mod X.K X.mg X.base:=I.ok.mod
theorem Inv.kIn(I:Inv X pins σ H s):X.K.In s.heap:=I.ok.mod.kin.keeps I.bk
theorem Inv.nolimit(I:Inv X pins σ H s):s.heap.NoLimit:=I.ok.mod.nolimit.keeps I.bk
theorem Inv.lt(I:Inv X pins σ H s):X.env.locals < s.heap.objs.size:=let ⟨_,hn,_⟩:=I.loc;hn.lt
theorem Inv.sz(I:Inv X pins σ H s):X.s₀.heap.objs.size≤s.heap.objs.size:=Nat.le_trans I.ok.above (Nat.le_of_lt I.lt)
theorem Inv.nofs(I:Inv X pins σ H s){a:Addr}(h:s.heap.objs.size≤a):a∉X.fs:=λ hb=>by obtain⟨_,o,ho,_⟩:=I.ok.funs.mem hb;exact absurd (Nat.lt_of_lt_of_le (Heap.lt_size ho) (Nat.le_trans I.sz h)) (Nat.lt_irrefl _)
theorem Inv.cne(I:Inv X pins σ H s):∀x c,X.env.cells.lookup x=some c->c≠X.env.locals:=λ x c e z=>by obtain⟨v,o,ho,hd⟩:=I.cell x c e;obtain⟨m,⟨o',es,ep,ho',hd',_⟩,_⟩:=I.loc;rw[z,ho']at ho;cases ho;rw[hd']at hd;cases hd
theorem Inv.funs(I:Inv X pins σ H s):s.heap.FunFrames X.base X.outer:=by
  have all:∀(l:List Env),(∀b∈frs l,b∈X.fs)->X.s₀.heap.FunFrames X.base l->s.heap.FunFrames X.base l:=by
    intro l
    induction l with
    | nil=>intro _ _;trivial
    | cons env r ih =>intro hs hl;obtain⟨hk,⟨L,o,hf,hn,ho,hd⟩,hr⟩:=hl;have hL:L∈X.fs:=hs L (by unfold frs;rw[List.filterMap_cons,hf];exact List.mem_cons_self);obtain⟨sl,e⟩:=I.base.slot L o ho (I.ok.frf L hL) hL λ z=>I.ok.exfs L z hL;exact⟨hk,⟨L,_,hf,hn,e,hd⟩,ih (λ b hb=>hs b (by unfold frs;rw[List.filterMap_cons,hf];exact List.mem_cons_of_mem _ hb)) hr⟩
  exact all X.outer (λ _ hb=>hb) I.ok.funs
theorem Inv.stack(I:Inv X pins σ H s):s.heap.FunFrames X.base X.stack:=by
  rcases I.ok.stk with e | ⟨e,hf⟩
  ·rw[e];exact I.funs
  · rw[e];obtain⟨m,hn,_⟩:=I.loc;refine .cons (by rw[I.ok.kind];decide) hf hn ?_ I.funs;exact Heap.get?_none_of_le (Nat.le_trans I.ok.bsz I.ok.above)
theorem Inv.stkSub(I:Inv X pins σ H s):∀b∈frs X.stack,b∈X.env.locals :: X.fs:=λ b hb=>by
  rcases I.ok.stk with e | ⟨e,hf⟩
  ·rw[e]at hb;exact List.mem_cons_of_mem _ hb
  · rw[e]at hb;unfold frs at hb;rw[List.filterMap_cons,hf]at hb;exact hb
theorem Inv.stkFree(I:Inv X pins σ H s):∀b∈frs X.stack,H b=none:=λ b hb=>by
  rcases List.mem_cons.mp (I.stkSub b hb)with e | hb
  ·rw[e];exact I.free
  · obtain⟨_,o,ho,_⟩:=I.ok.funs.mem hb;exact I.base.free b o ho (I.ok.frf b hb) λ z=>I.ok.exfs b z hb
theorem Inv.step{g':Array GenState}{t':Nat}{d':Drawn}{ch:List Addr}(I:Inv X pins σ H s)
    (hch:∀b∈ch,(b∈X.ex∨X.s₀.heap.objs.size≤b)∧b≠X.env.locals∧(∀x c,X.env.cells.lookup x=some c->c≠b)∧∀p∈X.pn++pins,p.1≠b)
    (keep:∀b o,b≠X.env.locals->b∉X.fs->b∉ch->s.heap.get? b=some o->H b=none->h'.get? b=some o)
    (slot:∀b o,b≠X.env.locals->b∈X.fs->b∉ch->s.heap.get? b=some o->H b=none->∃sl,h'.get? b=some { o with slots:=sl }) (free:∀b o,b∉ch->s.heap.get? b=some o->H b=none->H' b=none)
    (there:∀b o,b∉ch->s.heap.get? b=some o->∃o',h'.get? b=some o')
    (tups:∀b xs,H b=some (.tup xs)->H' b=some (.tup xs)) (frzs:∀b o u,H b=some (.fh o u)->H' b=some (.fh o u)) (tbls:∀b u,Prm u->H b=some u->H' b=some u)
    (ns:∀m,s.heap.Ns X.env.locals m->h'.Ns X.env.locals m) (dO:HOk X.prog X.w H' h') (hg:AllBare g') :
    Inv X pins σ H' { s with heap:=h',gens:=g',drawn:=d',toks:=t' }:=by
  have neL:∀b o,X.s₀.heap.get? b=some o->b≠X.env.locals:=λ b o e=>Nat.ne_of_lt (Nat.lt_of_lt_of_le (Heap.lt_size e) I.ok.above);have neC:∀b o,X.s₀.heap.get? b=some o->b∉X.ex->b∉ch:=λ b o e hx hb=>by
    rcases(hch b hb).1 with z | z
    ·exact hx z
    ·exact absurd (Nat.lt_of_lt_of_le (Heap.lt_size e) z) (Nat.lt_irrefl _)
  have cellK:∀x c,X.env.cells.lookup x=some c->∀v,s.heap.IsCell c v->h'.IsCell c v:=λ x c e v ⟨o,ho,hd⟩=>by
    have nch:c∉ch:=λ z=>(hch c z).2.2.1 x c e rfl;by_cases hc:c∈X.fs
    · obtain⟨sl,q⟩:=slot c o (I.cne x c e) hc nch ho (I.lT x c e);exact⟨_,q,hd⟩
    ·exact⟨o,keep c o (I.cne x c e) hc nch ho (I.lT x c e),hd⟩
  refine⟨I.ok,I.os,hg,⟨λ b o e n hb hx=>?_,λ b o e n hb hx=>?_,λ b o e n hx=>?_,λ b o e hx=>?_,λ b xs e=>tups b xs (I.base.tups b xs e),λ b o xs e=>frzs b o xs (I.base.frzs b o xs e),λ b u p e=>tbls b u p (I.base.tbls b u p e)⟩,?_,λ x c e=>?_,?_,λ x c e=>?_,λ p hp=>?_,dO,I.len,I.tab.up tbls⟩
  ·exact keep b o (neL b o e) hb (neC b o e hx) (I.base.keep b o e n hb hx) (I.base.free b o e n hx)
  · obtain⟨sl,e1⟩:=I.base.slot b o e n hb hx;obtain⟨sl',e2⟩:=slot b _ (neL b o e) hb (neC b o e hx) e1 (I.base.free b o e n hx);exact⟨sl',e2⟩
  · obtain⟨o',e1⟩:=I.base.there b o e hx;exact free b o' (neC b o e hx) e1 (I.base.free b o e n hx)
  · obtain⟨o',e1⟩:=I.base.there b o e hx;exact there b o' (neC b o e hx) e1
  · obtain⟨m,hn,hl⟩:=I.loc;refine⟨m,ns m hn,λ i x v e1 e2 e3=>?_⟩;obtain⟨u,r,l⟩:=hl i x v e1 e2 e3;refine⟨u,r,?_⟩;rcases l with l | ⟨k,c,e,z⟩
    ·exact .inl l
    ·exact .inr ⟨k,c,e,cellK x c e _ z⟩
  · obtain⟨v,z⟩:=I.cell x c e;exact⟨v,cellK x c e v z⟩
  · obtain⟨m,⟨o,_,_,ho,_⟩,_⟩:=I.loc;exact free _ o (λ z=>(hch _ z).2.1 rfl) ho I.free
  · obtain⟨v,o,ho,hd⟩:=I.cell x c e;exact free c o (λ z=>(hch c z).2.2.1 x c e rfl) ho (I.lT x c e)
  · obtain⟨e,n,ne,nf,d⟩:=I.pin p hp;have nch:p.1∉ch:=λ z=>(hch p.1 z).2.2.2 p hp rfl;exact⟨keep p.1 p.2 ne nf nch e n,free p.1 p.2 nch e n,ne,nf,d⟩
theorem Inv.un{t':Nat}(I:Inv X pins σ H s)(u:Un X.fs [] H H' s.heap h')(dO:HOk X.prog X.w H' h'):Inv X pins σ H' { s with heap:=h',toks:=t' }:=by
  obtain⟨m,⟨o,es,ep,ho,r⟩,_⟩:=id I.loc;obtain⟨sl,hL⟩:=u.any ho I.free (by simp);exact I.step (g':=s.gens) (d':=s.drawn) (ch:=[]) (λ _ z=>nomatch z) (λ b o _ hb _ e n=>u.keep b o e n hb (by simp)) (λ b o _ hb _ e n=>u.slot b o e n hb (by simp)) (λ b o _ e n=>u.free b o e n (by simp)) (λ b o _ e=>u.there b o e (by simp)) u.tups u.frzs u.tbls (λ m' hm=>by obtain⟨o',es',ep',ho',r'⟩:=hm;rw[ho]at ho';cases ho';exact⟨_,es',ep',hL,r'⟩) dO I.bare
theorem Inv.call{g':Array GenState}{t':Nat}{d':Drawn}{ch:List Addr}(I:Inv X pins σ H s)(u:Un (frs X.stack) ch H H' s.heap h')(dO:HOk X.prog X.w H' h')(hg:AllBare g')
    (hch:∀b∈ch,(b∈X.ex∨X.s₀.heap.objs.size≤b)∧b≠X.env.locals∧(∀x c,X.env.cells.lookup x=some c->c≠b)∧∀p∈X.pn++pins,p.1≠b) :
    Inv X pins σ H' { s with heap:=h',gens:=g',drawn:=d',toks:=t' }:=by
  obtain⟨m,⟨o,es,ep,ho,r⟩,_⟩:=id I.loc;obtain⟨sl,hL⟩:=u.any ho I.free λ z=>(hch _ z).2.1 rfl;exact I.step (ch:=ch) hch (λ b o hL hb hc e n=>u.keep b o e n (λ z=>(List.mem_cons.mp (I.stkSub b z)).elim hL hb) hc) (λ b o _ _ hc e n=>u.any e n hc) (λ b o hc e n=>u.free b o e n hc) (λ b o hc e=>u.there b o e hc) u.tups u.frzs u.tbls (λ m' hm=>by obtain⟨o',es',ep',ho',r'⟩:=hm;rw[ho]at ho';cases ho';exact⟨_,es',ep',hL,r'⟩) dO hg
theorem Inv.turned{t':Nat}{it:Addr}(I:Inv X pins σ H s)(k:∀b o,b≠it->s.heap.get? b=some o->h'.get? b=some o)(hn:H it=none)(hL:it≠X.env.locals)
    (h1:it∈X.ex∨X.s₀.heap.objs.size≤it) (h2:∀x c,X.env.cells.lookup x=some c->c≠it) (h3:∀p∈X.pn++pins,p.1≠it):Inv X pins σ H { s with heap:=h',toks:=t' }:=by
  have nit:∀b u,H b=some u->b≠it:=λ b u e z=>by rw[z,hn]at e;cases e
  refine I.step (g':=s.gens) (d':=s.drawn) (ch:=[it]) (λ b hb=>?_) (λ b o _ _ hc e _=>k b o (λ z=>hc (by simp[z])) e) (λ b o _ _ hc e _=>⟨o.slots,k b o (λ z=>hc (by simp[z])) e⟩) (λ _ _ _ _ n=>n)
    (λ b o hc e=>⟨o,k b o (λ z=>hc (by simp[z])) e⟩) (λ _ _ e=>e) (λ _ _ _ e=>e) (λ _ _ _ e=>e) (λ m hm=>?_) (λ b u e=>?_) I.bare
  · have e:b=it:=by simpa using hb
    subst e;exact⟨h1,hL,h2,h3⟩
  · obtain⟨o,es,ep,ho,r⟩:=hm;exact⟨o,es,ep,k _ o (Ne.symm hL) ho,r⟩
  · refine(I.dO b u e).stay (λ c v hc q=>k c v ?_ q) (λ _ q=>q) (λ _ _ q=>q) λ _ _ _ q=>q;rcases hc with z | z
    ·rw[z];exact nit b u e
    ·exact nit c _ z
theorem Inv.tok(I:Inv X pins σ H s)(t:Nat):Inv X pins σ H { s with toks:=t }:=I.un (h':=s.heap) (t':=t) Un.refl I.dO
theorem Inv.kept{t':Nat}(I:Inv X pins σ H s)(k:∀b u,s.heap.get? b=some u->h'.get? b=some u):Inv X pins σ H { s with heap:=h',toks:=t' }:=I.un (Un.kept k) (I.dO.kept k)
theorem Inv.laid{a:Addr}{o:HO}{t':Nat}(I:Inv X pins σ H s)(k:∀b u,s.heap.get? b=some u->h'.get? b=some u)(hp:s.heap.objs.size≤a)(new:f7 X.prog X.w (upd H a o) h' a o):
    Inv X pins σ (upd H a o) { s with heap:=h',toks:=t' }:=I.un (Un.laid k hp (I.dO.fresh hp)) (I.dO.laid k hp new)
theorem Inv.write{x e:Addr}{o:HO}{t':Nat}(I:Inv X pins σ H s)(mu:Mut (H x))(he:e=x∨H e=some (.own x))(k:∀b u,b≠e->s.heap.get? b=some u->h'.get? b=some u)(heo:∃u,h'.get? e=some u)
    (new:f7 X.prog X.w (upd H x o) h' x o):Inv X pins σ (upd H x o) { s with heap:=h',toks:=t' }:=I.un (Un.write mu he k heo) (I.dO.write mu he k heo new)
theorem Inv.pins_of{pins':List (Addr×Obj)}(I:Inv X pins σ H s)(h:∀p∈pins',s.heap.get? p.1=some p.2∧H p.1=none∧p.1≠X.env.locals∧p.1∉X.fs∧∀v,p.2.data≠.cell v):Inv X pins' σ H s :=
  ⟨I.ok,I.os,I.bare,I.base,I.loc,I.cell,I.free,I.lT,λ p hp=>(List.mem_append.mp hp).elim (λ z=>I.pin p (List.mem_append_left _ z)) (h p),I.dO,I.len,I.tab⟩
theorem nodup_ix{N:List Str}(hN:N.Nodup){i j:Nat}{x:Str}(a:N[i]?=some x)(b:N[j]?=some x):i=j:=by obtain⟨h1,e1⟩:=List.getElem?_eq_some_iff.mp a;obtain⟨h2,e2⟩:=List.getElem?_eq_some_iff.mp b;exact(List.getElem_inj hN).mp (e1.trans e2.symm)
theorem store_ok2 {M : Model} {A : Around} {E : Value -> Shared -> Prop} {i : Nat} {x : Str} {v : V} {u : Value} {Q : Unit -> Shared -> Prop} (I : Inv X pins σ H s) (hN : X.N.Nodup) (hi : X.N[i]? = some x) (hx : Loc X.env.scope x) (r : RelV v u)
    (h:∀s',Inv X pins (σ.set i (some v)) H s'->(∃a,Heap.SameBut a s.heap s'.heap∧(a=X.env.locals∨X.env.cells.lookup x=some a))∧(X.env.scope.names.lookup x=some .local->s.toks < s'.toks)->Q () s') (hf:X.fn x=true∨X.env.scope.names.lookup x=some .local:=by first | exact .inl rfl | exact .inr rfl | assumption):wpAny M A (storeName X.env x u) Q E s:=by
  obtain⟨m,hn,hl⟩:=id I.loc;have hcls:(X.env.scope.kind==.class || (X.env.scope.kind==.module&&X.env.locals != X.env.globals))=false:=by rw[I.ok.kind];rfl
  have hiσ:i < σ.length:=by rw[I.len];exact(List.getElem?_eq_some_iff.mp hi).1
  have cne:=I.cne;have tracked:∀{a:Addr}{h':Heap},(∃o,s.heap.get? a=some o∧H a=none)->Heap.SameBut a s.heap h'->HOk X.prog X.w H h':=λ {a h'} ha hs b ob e=>by
    obtain⟨_,_,hfree⟩:=ha;refine(I.dO b ob e).stay (λ c w' hc q=>(hs.2 c ?_).trans q) (λ _ q=>q) (λ _ _ q=>q) λ _ _ _ q=>q;rintro rfl;rcases hc with rfl | hc
    ·rw[hfree]at e;cases e
    ·rw[hfree]at hc;cases hc
  rcases hx with hk | hk
  · refine wpAny_storeName_local hk hn (λ h' hn' hs=>?_) hcls;obtain⟨oL,_,_,hoL,_⟩:=id hn;refine h _ ⟨I.ok,I.os,I.bare,⟨λ b o e n hb hx=>?_,λ b o e n hb hx=>?_,I.base.free,λ b o e hx=>?_,I.base.tups,I.base.frzs,I.base.tbls⟩,⟨_,hn',λ j y v' e1 e2 e3=>?_⟩,λ y c e=>?_,I.free,I.lT,λ p hp=>?_,tracked ⟨oL,hoL,I.free⟩ hs,by simpa using I.len,I.tab⟩ ⟨⟨_,hs,.inl rfl⟩,λ _=>Nat.lt_succ_self _⟩
    ·exact(hs.2 b (Nat.ne_of_lt (Nat.lt_of_lt_of_le (Heap.lt_size e) I.ok.above))).trans (I.base.keep b o e n hb hx)
    · obtain⟨sl,e1⟩:=I.base.slot b o e n hb hx;exact⟨sl,(hs.2 b (Nat.ne_of_lt (Nat.lt_of_lt_of_le (Heap.lt_size e) I.ok.above))).trans e1⟩
    · obtain⟨o',e1⟩:=I.base.there b o e hx;exact⟨o',(hs.2 b (Nat.ne_of_lt (Nat.lt_of_lt_of_le (Heap.lt_size e) I.ok.above))).trans e1⟩
    · by_cases hj:j=i
      · subst hj;rw[hi]at e1;cases e1;rw[List.getElem?_set_self hiσ]at e2;cases e2;exact⟨u,r,.inl ⟨hk,by simp⟩⟩
      · rw[List.getElem?_set_ne (Ne.symm hj)]at e2;obtain⟨u',r',q⟩:=hl j y v' e1 e2 e3;refine⟨u',r',?_⟩;rcases q with⟨k,e⟩ | ⟨k,c,e,z⟩
        · refine .inl ⟨k,?_⟩;have:y≠x:=λ e=>hj (nodup_ix hN e1 (e▸hi));simp[this,e]
        ·exact .inr ⟨k,c,e,z.sameBut hs (cne y c e)⟩
    · obtain⟨w',z⟩:=I.cell y c e;exact⟨w',z.sameBut hs (cne y c e)⟩
    · obtain⟨e,n,ne,nf,d⟩:=I.pin p hp;exact⟨(hs.2 p.1 ne).trans e,n,ne,nf,d⟩
  · have hfn:X.fn x=true:=by
      rcases hf with z | z
      ·exact z
      ·rw[z]at hk;cases hk
    obtain⟨c,hc⟩:=I.ok.has x (.inl hk);obtain⟨w',z⟩:=I.cell x c hc;refine wpAny_storeName_cell I.ok.kind hk hc z (λ h' hc' hs=>?_);obtain⟨oc,hoc,hocd⟩:=id z;refine h { s with heap:=h' } ⟨I.ok,I.os,I.bare,⟨λ b o e n hb hx=>?_,λ b o e n hb hx=>?_,I.base.free,λ b o e hx=>?_,I.base.tups,I.base.frzs,I.base.tbls⟩,⟨m,hn.sameBut hs (Ne.symm (cne x c hc)),λ j y v' e1 e2 e3=>?_⟩,λ y c' e=>?_,I.free,I.lT,λ p hp=>?_,tracked ⟨oc,hoc,I.lT x c hc⟩ hs,by simpa using I.len,I.tab⟩ ⟨⟨c,hs,.inr hc⟩,λ z=>absurd (hk.symm.trans z) (by decide)⟩
    ·exact(hs.2 b (Nat.ne_of_lt (Nat.lt_of_lt_of_le (Heap.lt_size e) (I.ok.cab x c hfn hc)))).trans (I.base.keep b o e n hb hx)
    · obtain⟨sl,e1⟩:=I.base.slot b o e n hb hx;exact⟨sl,(hs.2 b (Nat.ne_of_lt (Nat.lt_of_lt_of_le (Heap.lt_size e) (I.ok.cab x c hfn hc)))).trans e1⟩
    · obtain⟨o',e1⟩:=I.base.there b o e hx;exact⟨o',(hs.2 b (Nat.ne_of_lt (Nat.lt_of_lt_of_le (Heap.lt_size e) (I.ok.cab x c hfn hc)))).trans e1⟩
    · by_cases hj:j=i
      · subst hj;rw[hi]at e1;cases e1;rw[List.getElem?_set_self hiσ]at e2;cases e2;exact⟨u,r,.inr ⟨.inl hk,c,hc,hc'⟩⟩
      · rw[List.getElem?_set_ne (Ne.symm hj)]at e2;obtain⟨u',r',q⟩:=hl j y v' e1 e2 e3;refine⟨u',r',?_⟩;rcases q with q | ⟨k,c',e,z'⟩
        ·exact .inl q
        · refine .inr ⟨k,c',e,z'.sameBut hs ?_⟩;rintro rfl;exact hj (nodup_ix hN e1 (I.ok.inj _ _ _ e hc▸hi))
    · by_cases hcc:c'=c
      ·subst hcc;exact⟨_,hc'⟩
      · obtain⟨w2,z2⟩:=I.cell y c' e;exact⟨w2,z2.sameBut hs hcc⟩
    · obtain⟨e,n,ne,nf,d⟩:=I.pin p hp;refine⟨(hs.2 p.1 ?_).trans e,n,ne,nf,d⟩;intro q;rw[q,hoc]at e;have q':oc=p.2:=Option.some.inj e;exact d w' (by rw[<-q'];exact hocd)
theorem store_ok{M:Model}{A:Around}{E:Value->Shared->Prop}{i:Nat}{x:Str}{v:V}{u:Value}{Q:Unit->Shared->Prop}(I:Inv X pins σ H s)(hN:X.N.Nodup)(hi:X.N[i]?=some x)(hx:Loc X.env.scope x)(r:RelV v u)
    (h:∀s',Inv X pins (σ.set i (some v)) H s'->Q () s') (hf:X.fn x=true∨X.env.scope.names.lookup x=some .local:=by first | exact .inl rfl | exact .inr rfl | assumption):wpAny M A (storeName X.env x u) Q E s :=
  store_ok2 I hN hi hx r (λ s' I' _=>h s' I') hf
theorem Inv.call'{s':Shared}{ch:List Addr}(I:Inv X pins σ H s)(ho:s'.os=s.os)(u:Un (frs X.stack) ch H H' s.heap s'.heap)(dO:HOk X.prog X.w H' s'.heap)(hg:AllBare s'.gens)
    (hch:∀b∈ch,(b∈X.ex∨X.s₀.heap.objs.size≤b)∧b≠X.env.locals∧(∀x c,X.env.cells.lookup x=some c->c≠b)∧∀p∈X.pn++pins,p.1≠b):Inv X pins σ H' s':=by
  obtain⟨h',g',d',t',o'⟩:=s';have e:o'=s.os:=ho;subst e;exact I.call (g':=g') (t':=t') (d':=d') u dO hg hch
end
abbrev XK:=Value->Option Addr->Hp->Prop
abbrev St:=List (Option V)
abbrev VK:=V->Hp->Prop
abbrev TE:=St->Hp->VK->Prop
abbrev TT:=St->Hp->(Bool->Hp->Prop)->Prop
abbrev TA:=St->Hp->(List V->Hp->Prop)->Prop
structure Ends where
  nx:St->Hp->Prop
  rt:VK
  bk:St->Hp->Prop:=λ _ _=>False
  ct:St->Hp->Prop:=λ _ _=>False
abbrev TS:=Ends->St->Hp->Prop
def EP(X:Cx)(pins:List (Addr×Obj))(σ:St)(Q:VK)(u:Value)(s':Shared):Prop:=∃v H',Inv X pins σ H' s'∧RelV v u∧Q v H'
def TP(X:Cx)(pins:List (Addr×Obj))(σ:St)(Q:Bool->Hp->Prop)(b:Bool)(s':Shared):Prop:=∃H',Inv X pins σ H' s'∧Q b H'
def AP(X:Cx)(pins:List (Addr×Obj))(σ:St)(Q:List V->Hp->Prop)(us:List Value)(s':Shared):Prop:=∃vs H',Inv X pins σ H' s'∧Vals vs us∧Q vs H'
def SP(X:Cx)(pins:List (Addr×Obj))(D:Ends)(f:Flow)(s':Shared):Prop :=
  match f with
  | .next=>∃σ' H',Inv X pins σ' H' s'∧D.nx σ' H'
  | .brk=>∃σ' H',Inv X pins σ' H' s'∧D.bk σ' H'
  | .cont=>∃σ' H',Inv X pins σ' H' s'∧D.ct σ' H'
  | .ret u=>∃v σ' H',Inv X pins σ' H' s'∧RelV v u∧D.rt v H'
def PE(X:Cx)(e:Expr)(t:TE):Prop :=
  ∀(pins:List (Addr×Obj))(s:Shared)(σ:St)(H:Hp)(Q:VK),Inv X pins σ H s->t σ H Q->wpAny (model X.prog X.w) X.A (eval e X.env) (EP X pins σ Q) X.xe s
def PT(X:Cx)(e:Expr)(t:TT):Prop :=
  ∀(pins:List (Addr×Obj))(s:Shared)(σ:St)(H:Hp)(Q:Bool->Hp->Prop),Inv X pins σ H s->t σ H Q->wpAny (model X.prog X.w) X.A (isTrue e X.env (eval e X.env)) (TP X pins σ Q) X.xe s
def PW(X:Cx)(e:Expr)(t:TT):Prop :=
  ∀(whole:Sem Value)(pins:List (Addr×Obj))(s:Shared)(σ:St)(H:Hp)(Q:Bool->Hp->Prop),Inv X pins σ H s->t σ H Q->wpAny (model X.prog X.w) X.A (isTrue e X.env whole) (TP X pins σ Q) X.xe s
theorem PW.pt{X:Cx}{e:Expr}{t:TT}(h:PW X e t):PT X e t:=h _
def PA(X:Cx)(es:List Expr)(t:TA):Prop :=
  ∀(pos:Pos)(pins:List (Addr×Obj))(s:Shared)(σ:St)(H:Hp)(Q:List V->Hp->Prop),Inv X pins σ H s->t σ H Q->wpAny (model X.prog X.w) X.A (spliced (backTo pos (starEach es X.env))) (AP X pins σ Q) X.xe s
def PS(X:Cx)(st:Stmt)(t:TS):Prop :=
  ∀(pins:List (Addr×Obj))(s:Shared)(σ:St)(H:Hp)(D:Ends),Inv X pins σ H s->t D σ H->wpAny (model X.prog X.w) X.A (exec st X.env) (SP X pins D) X.xe s
def PSs(X:Cx)(st:List Stmt)(t:TS):Prop :=
  ∀(pins:List (Addr×Obj))(s:Shared)(σ:St)(H:Hp)(D:Ends),Inv X pins σ H s->t D σ H->wpAny (model X.prog X.w) X.A (execs st X.env) (SP X pins D) X.xe s
theorem du{α:Type}{t:Sem α}{Q Q':α->Shared->Prop}{M:Model}{A:Around}{E:Value->Shared->Prop}{s:Shared}(h:wpAny M A t Q E s)(hQ:∀a s,Q a s->Q' a s):wpAny M A t Q' E s:=wpAny_mono h hQ λ _ _ x=>x
end L2
namespace L2
open PySem PySem.Spec PyProof.Rows
section
variable {X:Cx}
def lD(i:Nat):TE:=λ σ H Q=>∃v,σ[i]?=some (some v)∧Q v H
def tC(v:V):TE:=fun _ H Q=>Q v H
theorem pe_var{i:Nat}{x:Str}{pos:Pos}(hN:X.N[i]?=some x)(hv:Vis X.env.scope x)(hd:(x==("__debug__" : Str))=false:=by decide)(hcd:(x==("__classdict__" : Str))=false:=by decide):PE X (.Name x pos) (lD i):=by
  intro pins s σ H Q I h;obtain⟨v,e,h⟩:=h;obtain⟨m,hn,hl⟩:=I.loc;obtain⟨u,r,l⟩:=hl i x v hN e hv;have fin:EP X pins σ Q u s:=⟨v,H,I,r,h⟩
  rcases l with⟨hk,hm⟩ | ⟨hk,c,hc,hcell⟩
  ·exact wpAny_Name (wpAny_loadName_local I.ok.kind hk hn hm fin) hd
  · rcases hk with hk | hk
    ·exact wpAny_Name (wpAny_loadName_cell I.ok.kind hk hc hcell fin) hd
    ·exact wpAny_Name (wpAny_loadName_free I.ok.kind hk hc hcell fin hcd) hd
theorem pe_int{i j pos}:PE X (.Constant (.int i) j pos) (tC (.int i)):=λ _ _ _ H _ I h=>wpAny_Constant_int ⟨.int i,H,I.tok _,⟨_,rfl⟩,h⟩
theorem pe_bl{b j pos}:PE X (.Constant (.bool b) j pos) (tC (.bl b)):=λ _ _ _ H _ I h=>Constant_bool ⟨.bl b,H,I,rfl,h⟩
theorem pe_non{j pos}:PE X (.Constant .none j pos) (tC .non):=λ _ _ _ H _ I h=>Constant_none ⟨.non,H,I,rfl,h⟩
theorem pe_str{x j pos}:PE X (.Constant (.str x) j pos) (tC (.str x)):=λ _ _ _ H _ I h=>Calls.Constant_str ⟨.str x,H,I.tok _,⟨_,rfl⟩,h⟩
def Gl(X:Cx)(x:Str):Prop:=X.env.kindOf x=some .globalImplicit
theorem ld_glob{E:Value->Shared->Prop}{pins:List (Addr×Obj)}{s:Shared}{σ:St}{H:Hp}{x:Str}{u:Value}{pos:Pos}{Q:Value->Shared->Prop}(I:Inv X pins σ H s)(hg:Gl X x)(hm:X.mg x=some u)(h:Q u s)
    (hd:(x==("__debug__" : Str))=false:=by decide):wpAny (model X.prog X.w) X.A (eval (.Name x pos) X.env) Q E s :=
  Calls.Name_function_global I.ok.kind hg (Calls.loadGlobal_global (by rw[I.ok.glob];exact I.mod.glob.keeps I.bk) hm h) hd
theorem l?{E:Value->Shared->Prop}{pins:List (Addr×Obj)}{s:Shared}{σ:St}{H:Hp}{x:Str}{u:Value}{pos:Pos}{Q:Value->Shared->Prop}(I:Inv X pins σ H s)(hg:Gl X x)(hm:X.mg x=none)(hv:bootBuiltins x=some u)(h:Q u s)
    (hn:x ≠ "__name__" := by decide) (hd:(x==("__debug__" : Str))=false:=by decide):wpAny (model X.prog X.w) X.A (eval (.Name x pos) X.env) Q E s:=by
  obtain⟨mb,h1,h2⟩:=I.mod.blt;exact Calls.Name_function_global I.ok.kind hg (Calls.loadGlobal_builtin (by rw[I.ok.glob];exact I.mod.glob.keeps I.bk) hm (by rw[I.ok.blt];exact h1.keeps I.bk) ((h2 x hn).trans hv) h) hd
theorem pe_glob{x:Str}{v:V}{u:Value}{pos:Pos}(hg:Gl X x)(hm:X.mg x=some u)(r:RelV v u)(hd:(x==("__debug__" : Str))=false:=by decide):PE X (.Name x pos) (tC v) :=
  λ _ _ _ H _ I h=>ld_glob I hg hm ⟨v,H,I,r,h⟩ hd
variable {a b:Expr}{ta tb:TE}{pos:Pos}
def PC (X:Cx) (op:CmpOp) (a b:Expr) (t:TE):Prop :=
  ∀ (pins:List (Addr×Obj)) (s:Shared) (σ:St) (H:Hp) (Q:VK),Inv X pins σ H s->t σ H Q ->
    wpAny (model X.prog X.w) X.A (eval a X.env) (λ v s₁=>wpAny (model X.prog X.w) X.A (eval b X.env) (λ u s₂=>wpAny (model X.prog X.w) X.A (compareOp op v u) (EP X pins σ Q) X.xe s₂) X.xe s₁) X.xe s
def tB(t:TE):TT:=λ σ H Q=>t σ H λ x H1=>∃c,x=.bl c∧Q c H1
theorem pt_cmp{op:CmpOp}{t:TE}(h:PC X op a b t)(h1:behindInMarks op b=false:=by first | exact nobehind _ (by decide) (by decide) | rfl):PT X (.Compare a [op] [b] pos) (tB t):=by intro pins s σ H Q I hw;refine wpAny_isTrue_Compare1 (du (h pins s σ H _ I hw) λ v s1 h1=>du h1 λ u s2 h2=>du h2 λ c s3 ⟨x,H1,I1,r1,q1⟩=>?_) h1;obtain⟨d,rfl,q⟩:=q1;cases r1;exact wpAny_truthy_bool ⟨H1,I1,q⟩
theorem pt_val{e:Expr}{t:TE}(h:PE X e t)(he:∀whole,isTrue e X.env whole=(do let v ←whole;standAt e.pos;holding [v] (truthy v)):=by intro _;rfl):PT X e (tB t):=by intro pins s σ H Q I hw;refine isTrue_plain (du (h pins s σ H _ I hw) λ v s1 ⟨x,H1,I1,r1,q1⟩=>?_) (he _);obtain⟨d,rfl,q⟩:=q1;cases r1;exact wpAny_truthy_bool ⟨H1,I1,q⟩
variable {tA tB':TT}{rest:List Expr}
def tAnd(t u:TT):TT:=λ σ H Q=>t σ H λ c H1=>if c=true then u σ H1 Q else Q false H1
def tOr(t u:TT):TT:=λ σ H Q=>t σ H λ c H1=>if c=true then Q true H1 else u σ H1 Q
def tNot(t:TT):TT:=λ σ H Q=>t σ H λ c H1=>Q (!c) H1
theorem pw_and1(ha:PT X a tA):PW X (.BoolOp .And [a] pos) tA:=by
  intro wh pins s σ H Q I h;refine isTrue_and (du (ha pins s σ H Q I h) λ c s1 e=>?_);cases c with
  | true=>exact isTrue_and_nil e
  | false=>exact e
theorem pw_or1(ha:PT X a tA):PW X (.BoolOp .Or [a] pos) tA:=by
  intro wh pins s σ H Q I h;refine isTrue_or (du (ha pins s σ H Q I h) λ c s1 e=>?_);cases c with
  | false=>exact isTrue_or_nil e
  | true=>exact e
theorem pw_and(ha:PT X a tA)(hb:PW X (.BoolOp .And (b :: rest) pos) tB'):PW X (.BoolOp .And (a :: b :: rest) pos) (tAnd tA tB'):=by
  intro wh pins s σ H Q I h;refine isTrue_and (du (ha pins s σ H _ I h) λ c s1 ⟨H1,I1,q1⟩=>?_);cases c with
  | true=>exact hb wh pins s1 σ H1 Q I1 q1
  | false=>exact⟨H1,I1,q1⟩
theorem pw_or(ha:PT X a tA)(hb:PW X (.BoolOp .Or (b :: rest) pos) tB'):PW X (.BoolOp .Or (a :: b :: rest) pos) (tOr tA tB'):=by
  intro wh pins s σ H Q I h;refine isTrue_or (du (ha pins s σ H _ I h) λ c s1 ⟨H1,I1,q1⟩=>?_);cases c with
  | true=>exact⟨H1,I1,q1⟩
  | false=>exact hb wh pins s1 σ H1 Q I1 q1
theorem pt_not(ha:PT X a tA):PT X (.UnaryOp .Not a pos) (tNot tA):=by intro pins s σ H Q I h;exact isTrue_not (ha pins s σ H (λ c H1=>Q (!c) H1) I h)
def tOrV(ta tb:TE):TE:=λ σ H Q=>ta σ H λ x H1=>∃c,x=.bl c∧if c=true then Q (.bl true) H1 else tb σ H1 Q
theorem pe_one{op}{t:TE}(h:PE X a t):PE X (.BoolOp op [a] pos) t:=λ pins s σ H Q I hw=>BoolOp_one (h pins s σ H Q I hw)
theorem pe_or(ha:PE X a ta)(hb:PE X (.BoolOp .Or (b :: rest) pos) tb):PE X (.BoolOp .Or (a :: b :: rest) pos) (tOrV ta tb):=by
  intro pins s σ H Q I h;refine BoolOp_or (du (ha pins s σ H _ I h) λ v s1 ⟨x,H1,I1,r1,q1⟩=>?_);obtain⟨c,rfl,q1⟩:=q1;cases r1;refine wpAny_truthy_bool ?_;cases c with
  | false=>exact hb pins s1 σ H1 Q I1 q1
  | true=>exact⟨.bl true,H1,I1,rfl,q1⟩
end
end L2
namespace L2
open PySem PySem.Spec PyProof.Rows
def i6 (K:PySem.W.Frag) (H:Hp) (a:Addr) (xs:List V):Prop :=
  Rd H a (.lst xs) ∨
    ∃(o:Obj) (aM:Array Value) (n:Nat),K.lookup a=some o∧o.cls=.type "list" ∧ o.dict=none∧o.data=.seq aM n∧aM.size≤sizeLine∧Vals xs aM.toList
def k? (K:PySem.W.Frag) (H:Hp) (a:Addr) (xs:List V):Prop :=
  Rd H a (.tup xs) ∨
    ∃(o:Obj) (aM:Array Value) (n:Nat),K.lookup a=some o∧o.cls=.type "tuple" ∧ o.data=.seq aM n∧aM.size≤sizeLine∧Vals xs aM.toList
def absV:Value->Option V
  | .none=>some .non
  | .bool b=>some (.bl b)
  | .int i _=>some (.int i)
  | .str x _=>some (.str x)
  | .bytes b _=>some (.byt b)
  | .float b _=>some (.flt b)
  | .ref a=>some (.ref a)
  | .type n=>some (.ty n)
  | _=>none
theorem RelV.abs{x:V}{u:Value}(r:RelV x u):absV u=some x:=by
  cases x with
  | non=>cases r;rfl
  | bl _=>cases r;rfl
  | int _=>obtain⟨t,rfl⟩:=r;rfl
  | str _=>obtain⟨t,rfl⟩:=r;rfl
  | byt _=>obtain⟨t,rfl⟩:=r;rfl
  | flt _=>obtain⟨t,rfl⟩:=r;rfl
  | ref _=>cases r;rfl
  | ty _=>cases r;rfl
theorem RelV.inj{x y:V}{u:Value}(r:RelV x u)(q:RelV y u):x=y:=Option.some.inj (r.abs.symm.trans q.abs)
theorem Vals.inj:∀{xs ys:List V}{us:List Value},Vals xs us->Vals ys us->xs=ys
  | _,_,_,.nil,.nil=>rfl
  | _,_,_,.cons r t,.cons r' t'=>by rw[r.inj r',Vals.inj t t']
section
variable {X:Cx}{pins:List (Addr×Obj)}{σ:St}{H:Hp}{s:Shared}{a:Addr}{xs ys:List V}
theorem i6.of{K:PySem.W.Frag}(h:H a=some (.lst xs)):i6 K H a xs:=.inl (.inl h)
theorem k?.of{K:PySem.W.Frag}(h:H a=some (.tup xs)):k? K H a xs:=.inl (.inl h)
theorem Inv.list(I:Inv X pins σ H s)(h:i6 X.K H a xs):∃aM:List Value,Vals xs aM∧PlainL s.heap a aM.toArray∧xs.length≤sizeLine:=by
  rcases h with h | ⟨o,aM,n,hk,hc,hd,hs,hz,r⟩
  · obtain⟨z,aM,n,r,e⟩:=h.ok I.dO;exact⟨aM,r,⟨_,n,e,rfl,rfl,rfl⟩,z⟩
  · refine⟨aM.toList,r,⟨o,n,I.kIn a o hk,hc,hd,by simpa using hs⟩,?_⟩;have e:=r.length;simp only[Array.length_toList]at e;lia
theorem Inv.tuple(I:Inv X pins σ H s)(h:k? X.K H a xs):∃aM:List Value,Vals xs aM∧IsTup s.heap a aM.toArray∧xs.length≤sizeLine:=by
  rcases h with h | ⟨o,aM,n,hk,hc,hs,hz,r⟩
  · obtain⟨z,aM,r,p⟩:=h.ok I.dO;exact⟨aM,r,p,z⟩
  · refine⟨aM.toList,r,⟨o,I.kIn a o hk,hc,n,by simpa using hs⟩,?_⟩;have e:=r.length;simp only[Array.length_toList]at e;lia
theorem Inv.m_(I:Inv X pins σ H s)(h:i6 X.K H a xs)(h':i6 X.K H a ys):xs=ys:=by
  obtain⟨aM,r,⟨o,n,e,_,_,d⟩,_⟩:=I.list h;obtain⟨its',r',⟨o',n',e',_,_,d'⟩,_⟩:=I.list h';rw[e]at e';cases e';rw[d]at d';injection d' with d1 _
  have:aM=its':=by simpa using congrArg Array.toList d1
  subst this;exact r.inj r'
theorem Inv.tuple_inj(I:Inv X pins σ H s)(h:k? X.K H a xs)(h':k? X.K H a ys):xs=ys:=by
  obtain⟨aM,r,⟨o,e,_,n,d⟩,_⟩:=I.tuple h;obtain⟨its',r',⟨o',e',_,n',d'⟩,_⟩:=I.tuple h';rw[e]at e';cases e';rw[d]at d';injection d' with d1 _
  have:aM=its':=by simpa using congrArg Array.toList d1
  subst this;exact r.inj r'
end
abbrev Cx.wish(X:Cx)(E:Value->Shared->Prop):Cx:={ X with xe:=E }
abbrev Cx.nox(X:Cx):Cx:=X.wish λ _ _=>False
theorem Cx.Ok.wish{X:Cx}(ok:X.Ok)(E:Value->Shared->Prop):(X.wish E).Ok :=
  ⟨ok.mod,ok.kind,ok.glob,ok.blt,ok.above,ok.inj,ok.has,ok.cab,ok.hd,ok.frames,ok.stk,ok.exf,ok.bs,ok.bsz,ok.noex,ok.exfs,ok.funs,ok.frf⟩
theorem Cx.Ok.ko{X:Cx}{E:Value->Shared->Prop}(ok:(X.wish E).Ok):X.Ok :=
  ⟨ok.mod,ok.kind,ok.glob,ok.blt,ok.above,ok.inj,ok.has,ok.cab,ok.hd,ok.frames,ok.stk,ok.exf,ok.bs,ok.bsz,ok.noex,ok.exfs,ok.funs,ok.frf⟩
section
variable {X:Cx}{pins:List (Addr×Obj)}{σ:St}{H:Hp}{s:Shared}{E:Value->Shared->Prop}
theorem Inv.wish(I:Inv X pins σ H s)(E:Value->Shared->Prop):Inv (X.wish E) pins σ H s:=⟨I.ok.wish E,I.os,I.bare,I.base,I.loc,I.cell,I.free,I.lT,I.pin,I.dO,I.len,I.tab⟩
theorem Inv.ko(I:Inv (X.wish E) pins σ H s):Inv X pins σ H s:=⟨I.ok.ko,I.os,I.bare,I.base,I.loc,I.cell,I.free,I.lT,I.pin,I.dO,I.len,I.tab⟩
theorem SP.ko{D:Ends}{f:Flow}{s':Shared}(h:SP (X.wish E) pins D f s'):SP X pins D f s':=by
  cases f with
  | next=>obtain⟨σ',H',I,q⟩:=h;exact⟨σ',H',I.ko,q⟩
  | brk=>obtain⟨σ',H',I,q⟩:=h;exact⟨σ',H',I.ko,q⟩
  | cont=>obtain⟨σ',H',I,q⟩:=h;exact⟨σ',H',I.ko,q⟩
  | ret u=>obtain⟨v,σ',H',I,r,q⟩:=h;exact⟨v,σ',H',I.ko,r,q⟩
theorem PSs.nox{st:List Stmt}{t:TS}(h:PSs X.nox st t):PSs X st t:=λ pins s σ H D I hw =>wpAny_mono (h pins s σ H D (I.wish _) hw) (λ _ _ q=>q.ko) λ _ _ z=>False.elim z
end
section
variable {X:Cx}{st:Stmt}{rest:List Stmt}{t u:TS}{e:Expr}{te:TE}{pos:Pos}
def tNext:TS:=λ D σ H=>D.nx σ H
def tSeq(t u:TS):TS:=λ D σ H=>t { D with nx:=u D } σ H
theorem pss_nil:PSs X [] tNext:=λ _ _ σ H _ I h=>wpAny_execs_nil ⟨σ,H,I,h⟩
theorem pss_cons(h1:PS X st t)(h2:PSs X rest u):PSs X (st :: rest) (tSeq t u):=by
  intro pins s σ H D I h;refine wpAny_execs_cons (du (h1 pins s σ H { D with nx:=u D } I h) λ f s1 q=>?_);cases f with
  | next =>obtain⟨σ',H',I',q⟩:=q;exact h2 pins s1 σ' H' D I' q
  | ret v=>exact q
  | brk=>exact q
  | cont=>exact q
theorem pss_one(h1:PS X st t):PSs X [st] t:=by
  intro pins s σ H D I h;refine wpAny_execs_cons (du (h1 pins s σ H D I h) λ f s1 q=>?_);cases f with
  | next=>exact wpAny_execs_nil q
  | ret v=>exact q
  | brk=>exact q
  | cont=>exact q
theorem Inv.quiet{pins:List (Addr×Obj)}{σ:St}{H:Hp}{s:Shared}(I:Inv X pins σ H s):interactive X.env=false:=by simp[interactive,I.ok.kind]
def tDrop(te:TE):TS:=λ D σ H=>te σ H λ _ H1=>D.nx σ H1
theorem ps_expr(he:PE X e te)(hs:swapsWith e none pos.line X.env=pure false:=by rfl):PS X (.Expr e pos) (tDrop te):=by intro pins s σ H D I h;exact wpAny_Expr_any (du (he pins s σ H _ I h) λ v s1 ⟨x,H1,I1,r1,q1⟩=>⟨σ,H1,I1,q1⟩) I.quiet hs
def tRet(te:TE):TS:=λ D σ H=>te σ H D.rt
theorem ps_ret(he:PE X e te):PS X (.Return (some e) pos) (tRet te):=by intro pins s σ H D I h;exact wpAny_Return_some (du (he pins s σ H _ I h) λ v s1 ⟨x,H1,I1,r1,q1⟩=>⟨x,σ,H1,I1,r1,q1⟩)
def tIfS(c:TT)(t u:TS):TS:=λ D σ H=>c σ H λ b H1=>if b=true then t D σ H1 else u D σ H1
theorem ps_if{c:Expr}{a b:List Stmt}{tc:TT}(hc:PT X c tc)(ha:PSs X a t)(hb:PSs X b u):PS X (.If c a b pos) (tIfS tc t u):=by
  intro pins s σ H D I h;refine wpAny_If (du (hc pins s σ H _ I h) λ d s1 ⟨H1,I1,q1⟩=>?_);cases d with
  | true=>exact ha pins s1 σ H1 D I1 q1
  | false=>exact hb pins s1 σ H1 D I1 q1
end
abbrev TG:=V->St->Hp->(St->Hp->Prop)->Prop
abbrev TGs:=List V->St->Hp->(St->Hp->Prop)->Prop
def PG (X:Cx) (target:Expr) (t:TG):Prop :=
  ∀ (pins:List (Addr×Obj)) (s:Shared) (σ:St) (H:Hp) (v:V) (u:Value) (Q:St->Hp->Prop),Inv X pins σ H s->RelV v u->t v σ H Q ->
    wpAny (model X.prog X.w) X.A (assign target X.env u) (λ _ s'=>∃σ' H',Inv X pins σ' H' s'∧Q σ' H') X.xe s
def PGs (X:Cx) (ts:List Expr) (t:TGs):Prop :=
  ∀ (pins:List (Addr×Obj)) (s:Shared) (σ:St) (H:Hp) (vs:List V) (us:List Value) (Q:St->Hp->Prop),Inv X pins σ H s->Vals vs us->t vs σ H Q ->
    wpAny (model X.prog X.w) X.A (assignInOrder ((assignEach ts X.env).map (·.2)) us) (λ _ s'=>∃σ' H',Inv X pins σ' H' s'∧Q σ' H') X.xe s
section
variable {X:Cx}{pos:Pos}
def bf(i:Nat):TG:=λ v σ H Q=>Q (σ.set i (some v)) H
theorem pg_name{i:Nat}{x:Str}(hN:X.N.Nodup)(hi:X.N[i]?=some x)(hx:Loc X.env.scope x)(hf:X.fn x=true∨X.env.scope.names.lookup x=some .local:=by first | exact .inl rfl | exact .inr rfl | assumption):PG X (.Name x pos) (bf i):=by intro pins s σ H v u Q I r h;exact wpAny_assign_Name (store_ok I hN hi hx r (λ s' I'=>⟨_,H,I',h⟩) hf)
def gNil:TGs:=λ vs σ H Q=>vs=[]∧Q σ H
def gCons(t:TG)(u:TGs):TGs:=λ vs σ H Q=>∃v r,vs=v :: r∧t v σ H λ σ' H'=>u r σ' H' Q
theorem pgs_nil:PGs X [] gNil:=by intro pins s σ H vs us Q I r h;obtain⟨e,h⟩:=h;subst e;cases r;exact assignInOrder_nil ⟨σ,H,I,h⟩
theorem pgs_cons{e:Expr}{es:List Expr}{t:TG}{u:TGs}(h1:PG X e t)(h2:PGs X es u)
    (hs:(assignEach (e :: es) X.env).map (·.2)=assign e X.env :: (assignEach es X.env).map (·.2):=by rfl):PGs X (e :: es) (gCons t u):=by
  intro pins s σ H vs us Q I r h;obtain⟨v,vr,e1,h⟩:=h;subst e1;cases r with
  | cons r rr =>rw[hs];refine assignInOrder_cons (du (h1 pins s σ H _ _ _ I r h) λ _ s1 ⟨σ1,H1,I1,q1⟩=>?_);exact h2 pins s1 σ1 H1 _ _ Q I1 rr q1
def fG(K:PySem.W.Frag)(n:Nat)(t:TGs):TG:=λ v σ H Q=>∃a xs,v=.ref a∧k? K H a xs∧xs.length=n∧t xs σ H Q
theorem pg_tup{es:List Expr}{k:Nat}{t:TGs}{n:Nat}(hc:X.calm=true)(h:PGs X es t)
    (hn:(assignEach es X.env).length=n:=by rfl) (hst:(assignEach es X.env).findIdx? (·.1)=none:=by rfl):PG X (.Tuple es k pos) (fG X.K n t):=by
  intro pins s σ H v u Q I r hw;obtain⟨a,xs,e1,hq,hl,hw⟩:=hw;subst e1;cases r;obtain⟨aM,rv,ht,hz⟩:=I.tuple hq;refine assign_Tuple_tuple (I.ok.hd hc) ht (by simp[hn,<-hl,rv.length]) hst λ h' hx=>?_;have I1:Inv X pins σ H { s with heap:=h' }:=I.kept (t':=s.toks) λ b o e=>hx b o (Nat.ne_of_lt (Heap.lt_size e)) e;exact h pins _ σ H xs _ Q I1 (by simpa using rv) hw
def tAsg(te:TE)(g:TG):TS:=λ D σ H=>te σ H λ x H1=>g x σ H1 D.nx
theorem ps_asg{tg e:Expr}{te:TE}{g:TG}(he:PE X e te)(hg:PG X tg g)(hs:swapsWithSole [tg] e pos.line X.env=pure false:=by rfl)(hw:swappedStores [tg] e X.env=pure none:=by rfl)
    (h1:(assignEach [tg] X.env).map (·.2)=[assign tg X.env]:=by rfl):PS X (.Assign [tg] e pos) (tAsg te g):=by
  intro pins s σ H D I h;refine wpAny_Assign_stores (du (he pins s σ H _ I h) λ v s1 ⟨x,H1,I1,r1,q1⟩=>?_) hs hw;rw[h1];exact du (hg pins s1 σ H1 x v _ I1 r1 q1) λ _ s2 q=>q
theorem ps_set{i:Nat}{x:Str}{e:Expr}{te:TE}{pos':Pos}(hN:X.N.Nodup)(hi:X.N[i]?=some x)(hx:Loc X.env.scope x)(he:PE X e te)(hs:swapsWith e (some (.Name x pos')) pos.line X.env=pure false:=by rfl)(hf:X.fn x=true∨X.env.scope.names.lookup x=some .local:=by first | exact .inl rfl | exact .inr rfl | assumption):
    PS X (.Assign [.Name x pos'] e pos) (tAsg te (bf i)):=by
  intro pins s σ H D I h;refine wpAny_Assign_Name (du (he pins s σ H _ I h) λ v s1 ⟨y,H1,I1,r1,q1⟩=>?_) hs;exact store_ok I1 hN hi hx r1 (λ s2 I2=>⟨_,H1,I2,q1⟩) hf
end
section
variable {X:Cx}{pos:Pos}
end
structure It where
  go:Nat->Hp->Prop
  yld:Nat->Hp->V->Hp->Prop
  stop:Nat->Hp->Prop
def FpOk(X:Cx)(pins:List (Addr×Obj))(H:Hp)(b:Addr):Prop :=
  H b=none∧b≠X.env.locals∧b∉X.fs∧(b∈X.ex∨X.s₀.heap.objs.size≤b)∧(∀x c,X.env.cells.lookup x=some c->c≠b)∧∀p∈X.pn++pins,p.1≠b
theorem Inv.fpOk{X:Cx}{pins:List (Addr×Obj)}{σ:St}{H H':Hp}{s:Shared}{b:Addr}(I:Inv X pins σ H s)(hb:s.heap.objs.size≤b)(hn:H' b=none):FpOk X pins H' b:=by
  refine⟨hn,Nat.ne_of_gt (Nat.lt_of_lt_of_le I.lt hb),I.nofs hb,.inr (Nat.le_trans I.sz hb),λ x c e z=>?_,λ p hp z=>?_⟩
  · obtain⟨v,q⟩:=I.cell x c e;exact absurd (Nat.lt_of_lt_of_le q.lt (by rw[z];exact hb)) (Nat.lt_irrefl _)
  ·exact absurd (Nat.lt_of_lt_of_le (Heap.lt_size (I.pin p hp).1) (by rw[z];exact hb)) (Nat.lt_irrefl _)
structure Turn(P:Program)(w:World)(K:PySem.W.Frag)(tg:Expr)(J:It)(fp:List Addr)(it:Addr)(tn:Nat->Heap->Prop):Prop where
  mem:it∈fp
  obj:∀i h,tn i h->∀b∈fp,∃o,h.get? b=some o∧∀v,o.data≠.cell v
  keep:∀i h h',tn i h->(∀b∈fp,∀o,h.get? b=some o->h'.get? b=some o)->tn i h'
  item:∀(X:Cx),X.prog=P->X.w=w->X.K=K->X.calm=true->∀(i:Nat)(pins:List (Addr×Obj))(s:Shared)(σ:St)(H:Hp)(E:Value->Shared->Prop),Inv X pins σ H s->(∀b∈fp,FpOk X pins H b)->tn i s.heap->J.go i H ->
    wpAny (model P w) X.A (pyNext (.ref it)) (λ r s1=>∃u,r=some u ∧
      wpAny (model P w) X.A (letOwnedTupleGo tg (.ref it) u) (λ _ s2=>∃x H',Inv X pins σ H' s2∧RelV x u∧J.yld i H x H'∧tn (i+1) s2.heap∧∀b∈fp,H' b=none) E s1) E s
  done:∀(X:Cx),X.prog=P->X.w=w->X.K=K->X.calm=true->∀(i:Nat)(pins:List (Addr×Obj))(s:Shared)(σ:St)(H:Hp)(E:Value->Shared->Prop),Inv X pins σ H s->(∀b∈fp,FpOk X pins H b)->tn i s.heap->J.stop i H ->
    wpAny (model P w) X.A (pyNext (.ref it)) (λ r s1=>r=none∧Inv X pins σ H s1) E s
  self:∀(A:Around)(i:Nat)(s:Shared)(Q:Value->Shared->Prop)(E:Value->Shared->Prop),tn i s.heap->Q (.ref it) s->wpAny (model P w) A (pyIter (.ref it)) Q E s
abbrev TI:=St->Hp->(It->Hp->Prop)->Prop
def PIE(X:Cx)(pins:List (Addr×Obj))(σ:St)(tg:Expr)(R:It->Hp->Prop)(itv:Value)(s2:Shared):Prop :=
  ∃(it:Addr)(fp:List Addr)(tn:Nat->Heap->Prop)(J:It)(H':Hp),itv=.ref it∧Inv X pins σ H' s2∧Turn X.prog X.w X.K tg J fp it tn∧tn 0 s2.heap∧(∀b∈fp,FpOk X pins H' b)∧R J H'
def PI (X:Cx) (tg iter:Expr) (wi:TI):Prop :=
  ∀ (pins:List (Addr×Obj)) (s:Shared) (σ:St) (H:Hp) (R:It->Hp->Prop),Inv X pins σ H s->wi σ H R ->
    wpAny (model X.prog X.w) X.A (eval iter X.env) (λ v s1=>wpAny (model X.prog X.w) X.A (pyIter v) (PIE X pins σ tg R) X.xe s1) X.xe s
theorem go_of {M : Model} {A : Around} {E : Value -> Shared -> Prop} {s : Shared} {tg : Expr} {it : Addr} {u : Value} {o : Obj} {n : String} {vs : Array Value} {Q : Unit -> Shared -> Prop} (ho : s.heap.get? it = some o) (hc : o.cls = .type n) (hd : o.data = .fields vs)
    (hn:["enumerate", "zip", "dict_itemiterator", "dict_reverseitemiterator", "odict_iterator", "itertools.zip_longest", "itertools.pairwise"].contains n=false) (hQ:Q () s):wpAny M A (letOwnedTupleGo tg (.ref it) u) Q E s:=by
  unfold letOwnedTupleGo;cases tg <;> first
    | exact wpAny_pure hQ
    | (cases u<;>first
        | exact wpAny_pure hQ
        | (refine wpAny_bind (wpAny_load ho ?_)
           rw[hc,hd];show wpAny M A (if(["enumerate", "zip", "dict_itemiterator", "dict_reverseitemiterator", "odict_iterator", "itertools.zip_longest", "itertools.pairwise"].contains n&&vs[0]?==some (rawInt _))=true then _ else _) Q E s;rw[if_neg (by intro h;rw[hn,Bool.false_and]at h;cases h)];exact wpAny_pure hQ))
def Itl(K:PySem.W.Frag)(a:Addr):It :=
  ⟨λ i H=>∃xs x,i6 K H a xs∧xs[i]?=some x,λ i H x H'=>H'=H∧∀xs,i6 K H a xs->xs[i]?=some x,λ i H=>∃xs,i6 K H a xs∧xs.length≤i⟩
def Itt(K:PySem.W.Frag)(a:Addr):It :=
  ⟨λ i H=>∃xs x,k? K H a xs∧xs[i]?=some x,λ i H x H'=>H'=H∧∀xs,k? K H a xs->xs[i]?=some x,λ i H=>∃xs,k? K H a xs∧xs.length≤i⟩
def Itr(lo:Int)(n:Nat):It:=⟨λ i _=>i < n,λ i H x H'=>H'=H∧x=.int (lo+i),λ i _=>n≤i⟩
theorem turn_list{P:Program}{w:World}{K:PySem.W.Frag}{tg:Expr}(a it:Addr):Turn P w K tg (Itl K a) [it] it (λ i h=>h.IsListIter it a i) where
  mem:=by simp
  obj:=λ i h st b hb=>by
    have e:b=it:=by simpa using hb
    subst e;obtain⟨o,e,c,d⟩:=st;exact⟨o,e,λ v z=>by rw[d]at z;cases z⟩
  keep:=λ i h h' st k=>st.at λ o e=>k it (by simp) o e
  item:=by intro X hP hw hK hc i pins s σ H E I hf st hg;subst hP hw hK;obtain⟨xs,x,hq,hx⟩:=hg;obtain⟨aM,rv,p,hz⟩:=I.list hq;obtain⟨u,hu,ru⟩:=rv.get hx;obtain⟨f0,f1,f2,f3,f4,f5⟩:=hf it (by simp);refine wpAny_pyNext_list_item st p.isList (x:=u) (by simpa using hu) λ h' aL sb=>?_;have I1:Inv X pins σ H { s with heap:=h' }:=I.turned (t':=s.toks) (λ b o hb e=>(sb.2 b hb).trans e) f0 f1 f3 f4 f5;obtain⟨o,e,c,d⟩:=id aL;exact⟨u,rfl,go_of (s:={ s with heap:=h' }) e c d (by decide) ⟨x,H,I1,ru,⟨rfl,λ ys hy=>by rw[I.m_ hy hq];exact hx⟩,aL,λ b hb=>(hf b hb).1⟩⟩
  done:=by intro X hP hw hK hc i pins s σ H E I hf st hg;subst hP hw hK;obtain⟨xs,hq,hx⟩:=hg;obtain⟨aM,rv,p,hz⟩:=I.list hq;obtain⟨f0,f1,f2,f3,f4,f5⟩:=hf it (by simp);have hl:=rv.length;exact wpAny_pyNext_list_end (I.ok.hd hc) st p.isList (by simp;lia) λ h' eb=>⟨rfl,I.turned (t':=s.toks) (λ b o hb e=>eb b o hb e) f0 f1 f3 f4 f5⟩
  self:=λ _ _ _ _ _ st h=>wpAny_pyIter_listiter st h
theorem turn_tuple{P:Program}{w:World}{K:PySem.W.Frag}{tg:Expr}(a it:Addr):Turn P w K tg (Itt K a) [it] it (λ i h=>h.IsTupleIter it a i) where
  mem:=by simp
  obj:=λ i h st b hb=>by
    have e:b=it:=by simpa using hb
    subst e;obtain⟨o,e,c,d⟩:=st;exact⟨o,e,λ v z=>by rw[d]at z;cases z⟩
  keep:=λ i h h' st k=>st.at λ o e=>k it (by simp) o e
  item:=by intro X hP hw hK hc i pins s σ H E I hf st hg;subst hP hw hK;obtain⟨xs,x,hq,hx⟩:=hg;obtain⟨aM,rv,p,hz⟩:=I.tuple hq;obtain⟨u,hu,ru⟩:=rv.get hx;obtain⟨f0,f1,f2,f3,f4,f5⟩:=hf it (by simp);refine wpAny_pyNext_tuple_item st (show s.heap.IsTuple a aM.toArray from p) (x:=u) (by simpa using hu) λ h' aL sb=>?_;have I1:Inv X pins σ H { s with heap:=h' }:=I.turned (t':=s.toks) (λ b o hb e=>(sb.2 b hb).trans e) f0 f1 f3 f4 f5;obtain⟨o,e,c,d⟩:=id aL;exact⟨u,rfl,go_of (s:={ s with heap:=h' }) e c d (by decide) ⟨x,H,I1,ru,⟨rfl,λ ys hy=>by rw[I.tuple_inj hy hq];exact hx⟩,aL,λ b hb=>(hf b hb).1⟩⟩
  done:=by intro X hP hw hK hc i pins s σ H E I hf st hg;subst hP hw hK;obtain⟨xs,hq,hx⟩:=hg;obtain⟨aM,rv,p,hz⟩:=I.tuple hq;obtain⟨f0,f1,f2,f3,f4,f5⟩:=hf it (by simp);have hl:=rv.length;exact wpAny_pyNext_tuple_end (I.ok.hd hc) st (show s.heap.IsTuple a aM.toArray from p) (by simp;lia) λ h' eb=>⟨rfl,I.turned (t':=s.toks) (λ b o hb e=>eb b o hb e) f0 f1 f3 f4 f5⟩
  self:=λ _ _ _ _ _ st h=>wpAny_pyIter_tupleiter st h
theorem turn_range{P:Program}{w:World}{K:PySem.W.Frag}{tg:Expr}(it:Addr)(lo:Int)(n:Nat):Turn P w K tg (Itr lo n) [it] it (λ i h=>IsRangeIter h it (lo+(i:Nat)*1) ((n:Int)-(i:Nat)) 1) where
  mem:=by simp
  obj:=λ i h st b hb=>by
    have e:b=it:=by simpa using hb
    subst e;exact⟨_,st,λ v z=>by have z':Data.fields _=Data.cell v:=z;cases z'⟩
  keep:=λ i h h' st k=>k it (by simp) _ st
  item:=by intro X hP hw hK hc i pins s σ H E I hf st hg;subst hP hw hK;obtain⟨f0,f1,f2,f3,f4,f5⟩:=hf it (by simp);have W:=Walks.range (prog:=X.prog) (w:=X.w) (I.ok.hd hc) it lo 1 n;refine W.item i s _ _ hg st λ v h' tk hv aL kk=>?_;obtain⟨t,rfl⟩:=hv;have I1:Inv X pins σ H { s with heap:=h',toks:=tk }:=I.turned (λ b o hb e=>kk b o (by simpa using hb) e) f0 f1 f3 f4 f5;refine⟨_,rfl,go_of (s:={ s with heap:=h',toks:=tk }) (n := "range_iterator") aL rfl rfl (by decide) ⟨.int (lo+i),H,I1,⟨t,?_⟩,⟨rfl,rfl⟩,aL,λ b hb=>(hf b hb).1⟩⟩;rw[Int.mul_one]
  done:=by intro X hP hw hK hc i pins s σ H E I hf st hg;subst hP hw hK;obtain⟨f0,f1,f2,f3,f4,f5⟩:=hf it (by simp);exact wpAny_pyNext_range_end (I.ok.hd hc) st (by have:n≤i:=hg;lia) λ h' eb=>⟨rfl,I.turned (t':=s.toks) (λ b o hb e=>eb b o hb e) f0 f1 f3 f4 f5⟩
  self:=λ _ _ _ _ _ st h=>wpAny_pyIter_rangeiter st h
end L2
namespace L2
open PySem PySem.Spec PyProof.Rows
section
variable {X:Cx}{tg:Expr}
def hU(ta:TA):TI:=λ σ H R=>ta σ H λ vs H1=>∃j:Int,vs=[.int j]∧-(2 ^ 62)≤j∧j < 2 ^ 62∧R (Itr 0 j.toNat) H1
def iRng2(ta:TA):TI:=λ σ H R=>ta σ H λ vs H1=>∃i j:Int,vs=[.int i,.int j]∧(-(2 ^ 62)≤i∧i < 2 ^ 62∧-(2 ^ 62)≤j∧j < 2 ^ 62)∧R (Itr i (j-i).toNat) H1
def tFor(wi:TI)(g:TG)(tb:TS):TS:=λ D σ H=>wi σ H λ J H1=>∃W:Nat->Nat->St->Hp->Prop,(∃m,W 0 m σ H1)∧∀i m σ H,W i m σ H ->
  (J.stop i H∧D.nx σ H)∨(J.go i H∧∃N:St->Hp->Prop,(∀σ' H',N σ' H'->∃m',m' < m∧W (i+1) m' σ' H')∧∀x H',J.yld i H x H'->g x σ H' λ σ2 H2=>tb { D with nx:=N,ct:=N,bk:=D.nx } σ2 H2)
def pinsAt(fp:List Addr)(h:Heap):List (Addr×Obj):=fp.filterMap λ b=>(h.get? b).map λ o=>(b,o)
theorem jO{fp:List Addr}{h:Heap}{b:Addr}{o:Obj}(hb:b∈fp)(e:h.get? b=some o):(b,o)∈pinsAt fp h:=List.mem_filterMap.mpr ⟨b,hb,by rw[e];rfl⟩
theorem of_pinsAt{fp:List Addr}{h:Heap}{p:Addr×Obj}(hp:p∈pinsAt fp h):p.1∈fp∧h.get? p.1=some p.2:=by
  obtain⟨b,hb,e⟩:=List.mem_filterMap.mp hp;cases q:h.get? b with
  | none=>rw[q]at e;cases e
  | some o =>rw[q]at e;have e':(b,o)=p:=Option.some.inj e;subst e';exact⟨hb,q⟩
theorem Inv.pinned{pins:List (Addr×Obj)}{σ:St}{H:Hp}{s:Shared}{fp:List Addr}(I:Inv X pins σ H s)(hf:∀b∈fp,FpOk X pins H b)(ho:∀b∈fp,∃o,s.heap.get? b=some o∧∀v,o.data≠.cell v):Inv X (pins++pinsAt fp s.heap) σ H s :=
  I.pins_of λ p hp=>(List.mem_append.mp hp).elim (λ z=>I.pin p (List.mem_append_right _ z)) λ z=>by obtain⟨hb,e⟩:=of_pinsAt z;obtain⟨f0,f1,f2,_⟩:=hf p.1 hb;obtain⟨o,e',d⟩:=ho p.1 hb;rw[e]at e';cases e';exact⟨e,f0,f1,f2,d⟩
theorem Inv.mB{pins pl:List (Addr×Obj)}{σ:St}{H:Hp}{s:Shared}(I:Inv X (pins++pl) σ H s):Inv X pins σ H s:=I.pins_of λ p hp=>I.pin p (List.mem_append_right _ (List.mem_append_left _ hp))
theorem ps_for{iter:Expr}{body:List Stmt}{wi:TI}{g:TG}{tb:TS}{pos:Pos}(hp:PassesOwn (model X.prog X.w) X.A X.env X.xe)(hc:X.calm=true)(hi:PI X tg iter wi)(hg:PG X tg g)(hb:PSs X body tb)
    (hs:∀x,foldedSetIterable iter X.env x=pure x:=by intro _;rfl):PS X (.For tg iter body [] pos) (tFor wi g tb):=by
  intro pins s σ H D I h;refine wpAny_For (du (hi pins s σ H _ I h) λ v s1 h1=>du h1 λ itv s2 h2=>?_) hs;obtain⟨it,fp,tn,J,H2,e,I2,T,cH,f2,W,⟨m0,w0⟩,turn⟩:=h2;subst e
  -- what stays true of the iterator's objects through the loop
  have stat:∀{H':Hp},(∀b∈fp,H' b=none)->∀b∈fp,FpOk X pins H' b:=λ hn b hb=>⟨hn b hb,(f2 b hb).2⟩
  refine codeAny_forLoop_any (λ n s'=>∃i σ' H',Inv X pins σ' H' s'∧tn i s'.heap∧(∀b∈fp,H' b=none)∧W i n σ' H') ?_ m0 ⟨0,σ,H2,I2,cH,λ b hb=>(f2 b hb).1,w0⟩;rintro n s3 ⟨i,σ3,H3,I3,lu,fr3,w3⟩;rcases turn i n σ3 H3 w3 with⟨stop,qn⟩ | ⟨go,N,hN,step⟩
  · refine wpAny_passesOwn hp (du (T.done X rfl rfl rfl hc i pins s3 σ3 H3 X.xe I3 (stat fr3) lu stop) λ r s4 ⟨hr,I4⟩=>?_);subst hr;exact wpAny_execs_nil ⟨σ3,H3,I4,qn⟩
  · refine wpAny_passesOwn hp (du (T.item X rfl rfl rfl hc i pins s3 σ3 H3 X.xe I3 (stat fr3) lu go) λ r s4 ⟨u,hr,h4⟩=>?_);subst hr;refine wpAny_passesOwn hp (du h4 λ _ s5 ⟨x,H5,I5,r5,y5,st5,fr5⟩=>?_);have I5':=I5.pinned (stat fr5) (T.obj _ _ st5);refine wpAny_passesOwn hp (du (hg _ s5 σ3 H5 x u _ I5' r5 (step x H5 y5)) λ _ s6 ⟨σ6,H6,I6,q6⟩=>?_);refine wpAny_passesOwn hp (du (hb _ s6 σ6 H6 _ I6 q6) λ f s7 q7=>?_);have again:∀{σ7:St}{H7:Hp},Inv X (pins++pinsAt fp s5.heap) σ7 H7 s7->N σ7 H7->∃m,m < n∧∃i σ' H',Inv X pins σ' H' s7∧tn i s7.heap∧(∀b∈fp,H' b=none)∧W i m σ' H':=λ {σ7 H7} I7 n7=>by obtain⟨m',hm,w7⟩:=hN σ7 H7 n7;refine⟨m',hm,i+1,σ7,H7,I7.mB,T.keep _ _ _ st5 λ b hb o e=>(I7.pin (b,o) (List.mem_append_right _ (List.mem_append_right _ (jO hb e)))).1,λ b hb=>?_,w7⟩;obtain⟨o,e,d⟩:=T.obj _ _ st5 b hb;exact(I7.pin (b,o) (List.mem_append_right _ (List.mem_append_right _ (jO hb e)))).2.1
    cases f with
    | next=>obtain⟨σ7,H7,I7,n7⟩:=q7;exact again I7 n7
    | cont=>obtain⟨σ7,H7,I7,n7⟩:=q7;exact again I7 n7
    | brk=>obtain⟨σ7,H7,I7,q7⟩:=q7;exact⟨σ7,H7,I7.mB,q7⟩
    | ret v=>obtain⟨x7,σ7,H7,I7,r7,q7⟩:=q7;exact⟨x7,σ7,H7,I7.mB,r7,q7⟩
end
end L2
namespace L2
open PySem PySem.Spec PyProof.Rows
abbrev R2:=V->V->Hp->VK->Prop
def ke (X:Cx) (f:Value->Value->Sem Value) (r:R2):Prop :=
  ∀ (pins:List (Addr×Obj)) (s:Shared) (σ:St) (H:Hp) (x y:V) (v u:Value) (Q:VK),Inv X pins σ H s->RelV x v->RelV y u->r x y H Q ->
    wpAny (model X.prog X.w) X.A (f v u) (EP X pins σ Q) X.xe s
def UnR (X:Cx) (f:Value->Sem Value) (r:V->Hp->VK->Prop):Prop :=
  ∀ (pins:List (Addr×Obj)) (s:Shared) (σ:St) (H:Hp) (x:V) (v:Value) (Q:VK),Inv X pins σ H s->RelV x v->r x H Q ->
    wpAny (model X.prog X.w) X.A (f v) (EP X pins σ Q) X.xe s
def iG (X:Cx) (f:Value) (r:List V->Hp->VK->Prop):Prop :=
  ∀ (pins:List (Addr×Obj)) (s:Shared) (σ:St) (H:Hp) (xs:List V) (us:List Value) (Q:VK),Inv X pins σ H s->Vals xs us->r xs H Q ->
    wpAny (model X.prog X.w) X.A (call f us) (EP X pins σ Q) X.xe s
def tOp(r:R2)(ta tb:TE):TE:=λ σ H Q=>ta σ H λ x H1=>tb σ H1 λ y H2=>r x y H2 Q
def tUn(r:V->Hp->VK->Prop)(ta:TE):TE:=λ σ H Q=>ta σ H λ x H1=>r x H1 Q
def rI(C:Int->Int->Prop)(g:Int->Int->V):R2:=λ x y H Q=>∃i j,x=.int i∧y=.int j∧C i j∧Q (g i j) H
def rI0(g:Int->Int->V):R2:=λ x y H Q=>∃i j,x=.int i∧y=.int j∧Q (g i j) H
def rU(g:Int->V):V->Hp->VK->Prop:=λ x H Q=>∃i,x=.int i∧Q (g i) H
section
variable {X:Cx}{a b c:Expr}{ta tb tc:TE}{pos:Pos}
theorem binT(ha:PE X a ta)(hb:PE X b tb){pins:List (Addr×Obj)}{s:Shared}{σ:St}{H:Hp}{R:V->V->Hp->Prop}(I:Inv X pins σ H s)
    (h:ta σ H λ x H1=>tb σ H1 λ y H2=>R x y H2){Q:Value->Shared->Prop}{f:Value->Value->Sem Value}
    (hf:∀v u s2 x y H2,Inv X pins σ H2 s2->RelV x v->RelV y u->R x y H2->wpAny (model X.prog X.w) X.A (f v u) Q X.xe s2) :
    wpAny (model X.prog X.w) X.A (eval a X.env) (λ v s₁=>wpAny (model X.prog X.w) X.A (eval b X.env) (λ u s₂=>wpAny (model X.prog X.w) X.A (f v u) Q X.xe s₂) X.xe s₁) X.xe s:=by
  refine du (ha pins s σ H _ I h) λ v s1 ⟨x,H1,I1,r1,q1⟩=>?_;refine du (hb pins s1 σ H1 _ I1 q1) λ u s2 ⟨y,H2,I2,r2,q2⟩=>?_;exact hf v u s2 x y H2 I2 r1 r2 q2
theorem pe_op{op:Operator}{r:R2}(ho:ke X (binaryOp op) r)(ha:PE X a ta)(hb:PE X b tb):PE X (.BinOp a op b pos) (tOp r ta tb):=by intro pins s σ H Q I h;exact wpAny_BinOp (binT ha hb I h λ v u s2 x y H2 I2 rx ry q=>ho pins s2 σ H2 x y v u Q I2 rx ry q)
theorem pe_un{op:UnaryOp}{r:V->Hp->VK->Prop}(ho:UnR X (unaryOp op) r)(ha:PE X a ta):PE X (.UnaryOp op a pos) (tUn r ta):=by intro pins s σ H Q I h;exact UnaryOp_ (du (ha pins s σ H _ I h) λ v s1 ⟨x,H1,I1,r1,q1⟩=>ho pins s1 σ H1 x v Q I1 r1 q1)
theorem opI{f:Value->Value->Sem Value}{C:Int->Int->Prop}{g:Int->Int->Int}
    (rule:∀(i j:Int)(t u:Tok)(s:Shared)(Q:Value->Shared->Prop)(E:Value->Shared->Prop),C i j->Q (.int (g i j) s.toks) { s with toks:=s.toks+1 }->wpAny (model X.prog X.w) X.A (f (.int i t) (.int j u)) Q E s) :
    ke X f (rI C λ i j=>.int (g i j)):=by
  intro pins s σ H x y v u Q I rx ry h;obtain⟨i,j,rfl,rfl,hc,q⟩:=h;obtain⟨t,rfl⟩:=rx;obtain⟨t',rfl⟩:=ry;exact rule i j t t' s _ _ hc ⟨.int (g i j),H,I.tok _,⟨_,rfl⟩,q⟩
theorem opI0{f:Value->Value->Sem Value}{g:Int->Int->Int}
    (rule:∀(i j:Int)(t u:Tok)(s:Shared)(Q:Value->Shared->Prop)(E:Value->Shared->Prop),Q (.int (g i j) s.toks) { s with toks:=s.toks+1 }->wpAny (model X.prog X.w) X.A (f (.int i t) (.int j u)) Q E s) :
    ke X f (rI0 λ i j=>.int (g i j)):=by
  intro pins s σ H x y v u Q I rx ry h;obtain⟨i,j,rfl,rfl,q⟩:=h;obtain⟨t,rfl⟩:=rx;obtain⟨t',rfl⟩:=ry;exact rule i j t t' s _ _ ⟨.int (g i j),H,I.tok _,⟨_,rfl⟩,q⟩
theorem opB0{f:Value->Value->Sem Value}{g:Int->Int->Bool}
    (rule:∀(i j:Int)(t u:Tok)(s:Shared)(Q:Value->Shared->Prop)(E:Value->Shared->Prop),Q (.bool (g i j)) s->wpAny (model X.prog X.w) X.A (f (.int i t) (.int j u)) Q E s) :
    ke X f (rI0 λ i j=>.bl (g i j)):=by
  intro pins s σ H x y v u Q I rx ry h;obtain⟨i,j,rfl,rfl,q⟩:=h;obtain⟨t,rfl⟩:=rx;obtain⟨t',rfl⟩:=ry;exact rule i j t t' s _ _ ⟨.bl (g i j),H,I,rfl,q⟩
def CPow(i j:Int):Prop:=0≤j∧j≤1000000∧i.natAbs < 2 ^ 64
def CMul(i j:Int):Prop:=(-(2 ^ 64) < i∧i < 2 ^ 64)∨(-(2 ^ 64) < j∧j < 2 ^ 64)
theorem CMul.ok{i j:Int}(h:CMul i j):IntMulOk i j:=by
  rcases h with⟨h1,h2⟩ | ⟨h1,h2⟩
  ·exact .of_left (intBits_le_64 h1 h2)
  ·exact .of_right (intBits_le_64 h1 h2)
theorem op_add:ke X (binaryOp .Add) (rI0 λ i j=>.int (i+j)):=opI0 λ _ _ _ _ _ _ _ q=>add_int q
theorem op_sub:ke X (binaryOp .Sub) (rI0 λ i j=>.int (i-j)):=opI0 λ _ _ _ _ _ _ _ q=>sub_int q
theorem op_mod:ke X (binaryOp .Mod) (rI (λ _ j=>0 < j) λ i j=>.int (i % j)):=opI λ i j _ _ _ _ _ hc q=>by have h1:(0:Int) < j:=hc;exact mod_int' (by lia) (by rw[Int.fmod_eq_emod_of_nonneg i (by lia)];exact q)
theorem op_pow:ke X (binaryOp .Pow) (rI CPow λ i j=>.int (i ^ j.toNat)):=opI λ _ _ _ _ _ _ _ hc q=>pow_int_small hc.1 hc.2.1 hc.2.2 q
theorem unI{f:Value->Sem Value}{g:Int->Int}
    (rule:∀(i:Int)(t:Tok)(s:Shared)(Q:Value->Shared->Prop)(E:Value->Shared->Prop),Q (.int (g i) s.toks) { s with toks:=s.toks+1 }->wpAny (model X.prog X.w) X.A (f (.int i t)) Q E s) :
    UnR X f (rU λ i=>.int (g i)):=by
  intro pins s σ H x v Q I rx h;obtain⟨i,rfl,q⟩:=h;obtain⟨t,rfl⟩:=rx;exact rule i t s _ _ ⟨.int (g i),H,I.tok _,⟨_,rfl⟩,q⟩
theorem un_neg:UnR X (unaryOp .USub) (rU λ i=>.int (-i)):=unI λ _ _ _ _ _ q=>neg_int q
end
section
variable {X:Cx}{a b c:Expr}{ta tb tc:TE}{pos:Pos}
theorem fin_bl{pins:List (Addr×Obj)}{σ:St}{H:Hp}{s:Shared}{Q:VK}{k k':Bool}(I:Inv X pins σ H s)(q:Q (.bl k) H)(e:k=k'):EP X pins σ Q (.bool k') s:=by subst e;exact⟨.bl k,H,I,rfl,q⟩
theorem op_lt:ke X (compareOp .Lt) (rI0 λ i j=>.bl (decide (i < j))):=opB0 λ _ _ _ _ _ _ _ q=>lt_int q
theorem op_le:ke X (compareOp .LtE) (rI0 λ i j=>.bl (decide (i≤j))):=opB0 λ _ _ _ _ _ _ _ q=>le_int q
theorem op_gt:ke X (compareOp .Gt) (rI0 λ i j=>.bl (decide (j < i))):=opB0 λ _ _ _ _ _ _ _ q=>gt_int q
theorem op_ge:ke X (compareOp .GtE) (rI0 λ i j=>.bl (decide (j≤i))):=opB0 λ _ _ _ _ _ _ _ q=>ge_int q
theorem op_isN:ke X (compareOp .Is) (λ x y H Q=>y=.non∧Q (.bl (decide (x=.non))) H):=by
  intro pins s σ H x y v u Q I rx ry h;obtain⟨rfl,q⟩:=h;cases ry;refine is_none_gen (fin_bl I q ?_);cases x<;>first
    | (cases rx;rfl)
    | (obtain⟨t,rfl⟩:=rx;rfl)
theorem op_notN:ke X (compareOp .IsNot) (λ x y H Q=>y=.non∧Q (.bl (!decide (x=.non))) H):=by
  intro pins s σ H x y v u Q I rx ry h;obtain⟨rfl,q⟩:=h;cases ry;refine isnot_none_gen (fin_bl I q ?_);cases x<;>first
    | (cases rx;rfl)
    | (obtain⟨t,rfl⟩:=rx;rfl)
theorem op_notin_str:ke X (compareOp .NotIn) (λ x y H Q=>∃i j,x=.str i∧y=.str j∧Q (.bl (!(!(Builtin.Str.occurrences j i 0 j.length 1).isEmpty))) H):=by intro pins s σ H x y v u Q I rx ry h;obtain⟨i,j,rfl,rfl,q⟩:=h;obtain⟨t,rfl⟩:=rx;obtain⟨t',rfl⟩:=ry;exact notIn_str (fin_bl I q rfl)
theorem ke.or{f:Value->Value->Sem Value}{r r':R2}(h:ke X f r)(h':ke X f r'):ke X f (λ x y H Q=>r x y H Q∨r' x y H Q):=by
  intro pins s σ H x y v u Q I rx ry q;rcases q with q | q
  ·exact h pins s σ H x y v u Q I rx ry q
  ·exact h' pins s σ H x y v u Q I rx ry q
theorem bD(b:Expr){op:CmpOp}(h:op≠.In:=by decide)(h2:op≠.NotIn:=by decide):behindInMarks op b=false:=by
  have e1:(op==CmpOp.In)=false:=by cases op<;>first | rfl | exact absurd rfl h
  have e2:(op==CmpOp.NotIn)=false:=by cases op<;>first | rfl | exact absurd rfl h2
  cases b<;>simp[behindInMarks,e1,e2]
theorem pe_cmpR{op:CmpOp}{r:R2}(ho:ke X (compareOp op) r)(ha:PE X a ta)(hb:PE X b tb)(hm:behindInMarks op b=false):PE X (.Compare a [op] [b] pos) (tOp r ta tb):=by intro pins s σ H Q I h;exact wpAny_Compare1 (binT ha hb I h λ v u s2 x y H2 I2 rx ry q=>ho pins s2 σ H2 x y v u Q I2 rx ry q) hm
def tTest(t:TE):TT:=λ σ H Q=>t σ H λ x H'=>∃k,x=.bl k∧Q k H'
theorem pt_cmpR{op:CmpOp}{r:R2}(ho:ke X (compareOp op) r)(ha:PE X a ta)(hb:PE X b tb)(hm:behindInMarks op b=false):PT X (.Compare a [op] [b] pos) (tTest (tOp r ta tb)):=by
  intro pins s σ H Q I h;refine wpAny_isTrue_Compare1 (du (ha pins s σ H _ I h) λ v s1 ⟨x,H1,I1,r1,q1⟩=>du (hb pins s1 σ H1 _ I1 q1) λ u s2 ⟨y,H2,I2,r2,q2⟩ =>du (ho pins s2 σ H2 x y v u _ I2 r1 r2 q2) λ c s3 ⟨z,H3,I3,r3,k,e,q3⟩=>?_) hm
  subst e;cases r3;exact wpAny_truthy_bool ⟨H3,I3,q3⟩
def tChain(r r':R2)(ta tb tc:TE):TE:=λ σ H Q=>ta σ H λ x H1=>tb σ H1 λ y H2=>r x y H2 λ z H3=>∃k,z=.bl k ∧
  (if k=true then tc σ H3 λ w' H4=>r' y w' H4 Q else Q (.bl false) H3)
theorem pt_chain{op op':CmpOp}{r r':R2}(ho:ke X (compareOp op) r)(ho':ke X (compareOp op') r')(ha:PE X a ta)(hb:PE X b tb)(hc:PE X c tc)
    (hm:lastMarks [op,op'] [b,c]=false:=by with_unfolding_all rfl):PT X (.Compare a [op,op'] [b,c] pos) (tTest (tChain r r' ta tb tc)):=by
  intro pins s σ H Q I h;refine isTrue_chain (du (ha pins s σ H _ I h) λ v s1 ⟨x,H1,I1,r1,q1⟩=>test_link (du (hb pins s1 σ H1 _ I1 q1) λ u s2 ⟨y,H2,I2,r2,q2⟩ =>du (ho pins s2 σ H2 x y v u _ I2 r1 r2 q2) λ d s3 ⟨z,H3,I3,r3,k,e,q3⟩=>?_)) hm
  subst e;cases r3;refine wpAny_truthy_bool ?_;cases k with
  | false =>obtain⟨k',e',q'⟩:=q3;cases e';exact ite_ff ⟨H3,I3,q'⟩
  | true =>refine ite_tt (test_last (du (hc pins s3 σ H3 _ I3 q3) λ w' s4 ⟨z',H4,I4,r4,q4⟩=>du (ho' pins s4 σ H4 y z' u w' _ I4 r2 r4 q4) λ d' s5 ⟨z2,H5,I5,r5,k2,e2,q5⟩=>?_));subst e2;cases r5;exact wpAny_truthy_bool ⟨H5,I5,q5⟩
theorem line63:(sizeLine:Nat) < 2 ^ 63:=by rw[sizeLine_eq];decide
theorem op_add_str:ke X (binaryOp .Add) (λ x y H Q=>∃i j,x=.str i∧y=.str j∧i.length+j.length≤sizeLine∧Q (.str (i++j)) H):=by intro pins s σ H x y v u Q I rx ry h;obtain⟨i,j,rfl,rfl,hz,q⟩:=h;obtain⟨t,rfl⟩:=rx;obtain⟨t',rfl⟩:=ry;exact add_str (λ t' tk=>⟨.str (i++j),H,I.tok _,⟨_,rfl⟩,q⟩) hz
theorem vals1{x:V}{us:List Value}(r:Vals [x] us):∃u,us=[u]∧RelV x u:=by
  cases r with
  | cons r1 r2=>cases r2;exact⟨_,rfl,r1⟩
theorem vals2{x y:V}{us:List Value}(r:Vals [x,y] us):∃u w',us=[u,w']∧RelV x u∧RelV y w':=by
  cases r with
  | cons r1 r2 =>
    cases r2 with
    | cons r3 r4=>cases r4;exact⟨_,_,rfl,r1,r3⟩
theorem call_max2(hc:X.calm=true):iG X (.builtin "max") (λ xs H Q=>∃i j,xs=[.int i,.int j]∧Q (.int (if j > i then j else i)) H):=by
  intro pins s σ H xs us Q I r h;obtain⟨i,j,rfl,q⟩:=h;obtain⟨u,w',rfl,⟨t,rfl⟩,⟨t',rfl⟩⟩:=vals2 r;refine max_two_ints (I.ok.hd hc) λ h' tk k=>⟨_,H,I.kept k,?_,q⟩
  by_cases hj:j > i
  ·rw[if_pos hj,if_pos hj];exact⟨_,rfl⟩
  ·rw[if_neg hj,if_neg hj];exact⟨_,rfl⟩
theorem call_min2(hc:X.calm=true):iG X (.builtin "min") (λ xs H Q=>∃i j,xs=[.int i,.int j]∧Q (.int (if j < i then j else i)) H):=by
  intro pins s σ H xs us Q I r h;obtain⟨i,j,rfl,q⟩:=h;obtain⟨u,w',rfl,⟨t,rfl⟩,⟨t',rfl⟩⟩:=vals2 r;refine min_two_ints (I.ok.hd hc) λ h' tk k=>⟨_,H,I.kept k,?_,q⟩
  by_cases hj:j < i
  ·rw[if_pos hj,if_pos hj];exact⟨_,rfl⟩
  ·rw[if_neg hj,if_neg hj];exact⟨_,rfl⟩
theorem call_int1:iG X (.type "int") (λ xs H Q=>(∃i,xs=[.int i]∧Q (.int i) H)∨∃k,xs=[.bl k]∧Q (.int (if k then 1 else 0)) H):=by
  intro pins s σ H xs us Q I r h;rcases h with⟨i,rfl,q⟩ | ⟨k,rfl,q⟩
  · obtain⟨u,rfl,t,rfl⟩:=vals1 r;exact call_int_int ⟨.int i,H,I,⟨_,rfl⟩,q⟩
  · obtain⟨u,rfl,r1⟩:=vals1 r;cases r1;exact call_int_bool ⟨.int (if k then 1 else 0),H,I.tok _,⟨_,rfl⟩,q⟩
def LenV(K:PySem.W.Frag)(x:V)(H:Hp)(n:Nat):Prop :=
  match x with
  | .str y=>y.length≤sizeLine∧n=y.length
  | .byt y=>y.size≤sizeLine∧n=y.size
  | .ref p=>(∃xs,i6 K H p xs∧n=xs.length)∨∃xs,k? K H p xs∧n=xs.length
  | _=>False
theorem call_len:iG X (.builtin "len") (λ xs H Q=>∃x n,xs=[x]∧LenV X.K x H n∧Q (.int n) H):=by
  intro pins s σ H xs us Q I r h;obtain⟨x,n,rfl,e,q⟩:=h;obtain⟨u,rfl,rx⟩:=vals1 r;have hl:=line63;have hs:sizeLine=16777216:=sizeLine_eq;cases x with
  | str y =>obtain⟨t,rfl⟩:=rx;obtain⟨hy,e'⟩:y.length≤sizeLine∧n=y.length:=e;subst e';exact len_str (by lia) ⟨.int _,H,I.tok _,⟨_,rfl⟩,q⟩
  | byt y =>obtain⟨t,rfl⟩:=rx;obtain⟨hy,e'⟩:y.size≤sizeLine∧n=y.size:=e;subst e';exact PySem.W.len_bytes (by lia) ⟨.int _,H,I.tok _,⟨_,rfl⟩,q⟩
  | ref p =>
    cases rx;have e':(∃xs,i6 X.K H p xs∧n=xs.length)∨∃xs,k? X.K H p xs∧n=xs.length:=e;rcases e' with⟨xs,hx,e'⟩ | ⟨xs,hx,e'⟩
    · subst e';obtain⟨aM,r',pl,hz⟩:=I.list hx;have hlen:=r'.length;exact Calls.call_len_list pl.isList (by simp only[List.size_toArray];lia) ⟨.int xs.length,H,I.tok _,⟨_,by simp only[List.size_toArray];rw[hlen]⟩,q⟩
    · subst e';obtain⟨aM,r',pl,hz⟩:=I.tuple hx;have hlen:=r'.length;exact len_tuple pl (by simp only[List.size_toArray];lia) ⟨.int xs.length,H,I.tok _,⟨_,by simp only[List.size_toArray];rw[hlen]⟩,q⟩
  | _=>exact(show False from e).elim
end
end L2
namespace L2
open PySem PySem.Spec PyProof.Rows
structure ObjM(h:Heap)(x dx C:Addr)(mA:Str->Option Value):Prop where
  obj:h.get? x=some (PySem.W.instObj C dx)
  ns:h.Ns1 dx mA
  ne:dx≠x
section
variable {prog:Program}{w:World}{A:Around}{E:Value->Shared->Prop}{s:Shared}{K:PySem.W.Frag}{x dx C f:Addr}{mA:Str->Option Value}{name:Str}{v:Value}
end
section
variable {P:Program}{w:World}{H H':Hp}{h h':Heap}{a C dx:Addr}{fs fs':List (Str×V)}
end
structure Cls(K:PySem.W.Frag)(C:Addr):Prop where
  pg:PySem.W.plainGet K C Str.empty=true
  hd:PySem.W.hasDictIn K C=true
  po:PySem.W.plainOver K C=true
  sa:PySem.W.findIn K (.ref C) "__setattr__" = some (some (.builtin "object.__setattr__"))
theorem Cls.get{K:PySem.W.Frag}{C:Addr}(c:Cls K C)(f:Str):PySem.W.plainGet K C f=true:=c.pg
structure Con(K:PySem.W.Frag)(C:Addr)(f:Str)(v:V)(u:Value):Prop where
  at_:PySem.W.findIn K (.ref C) f=some (some u)
  rel:RelV v u
  get:PySem.W.specialIn K u "__get__" = some none
  cp:PySem.W.copiedNames.contains f=false
structure Meth(K:PySem.W.Frag)(C:Addr)(m:Str)(f:Addr):Prop where
  at_:PySem.W.findIn K (.ref C) m=some (some (.ref f))
  fn:PySem.W.isFn K (.ref f)=true
  kp:PySem.W.keepIn K (.ref f)=true
section
variable {X:Cx}{pins:List (Addr×Obj)}{σ:St}{H:Hp}{s:Shared}{a C dx:Addr}{fs:List (Str×V)}{f:Str}{v:V}{A:Around}{E:Value->Shared->Prop}
end
section
variable {X:Cx}{o e value:Expr}{f:Str}{pos pos' tpos:Pos}{ta tv:TE}
end
section
variable {X:Cx}{pins:List (Addr×Obj)}{σ:St}{H:Hp}{s:Shared}{A:Around}{E:Value->Shared->Prop}{Q:Value->Shared->Prop}{c:Value}{b:Bool}
inductive TyOf (K:PySem.W.Frag) (H:Hp):V->Value->Prop where
  | non:TyOf K H .non (.type "NoneType")
  | bl (x:Bool):TyOf K H (.bl x) (.type "bool")
  | int (i:Int):TyOf K H (.int i) (.type "int")
  | str (x:Str):TyOf K H (.str x) (.type "str")
  | flt (x:UInt64):TyOf K H (.flt x) (.type "float")
  | lst {a:Addr}{xs:List V}(e:H a=some (.lst xs)):TyOf K H (.ref a) (.type "list")
  | fh {a:Addr}{o:Obj}{xs:List V}(e:H a=some (.fh o (.lst xs))):TyOf K H (.ref a) (.type "list")
  | tup {a:Addr}{xs:List V}(e:H a=some (.tup xs)):TyOf K H (.ref a) (.type "tuple")
  | dK {a:Addr}{g0:List (Key×V)}(e:H a=some (.dK g0)):TyOf K H (.ref a) (.type "dict")
  | dT {a:Addr}{g0:List (List Key×V)}(e:H a=some (.dT g0)):TyOf K H (.ref a) (.type "dict")
  | ins {a C dx:Addr}{fs:List (Str×V)}(e:H a=some (.ins C dx fs)) (cl:Cls K C) (ha:PySem.W.findIn K (.ref C) "__class__" = some (some (.builtin "object.__class__")))
      (hn:PySem.W.specialIn K (.builtin "object.__class__") "__get__" = some (some (.builtin "getset_descriptor.__get__"))) (htk:PySem.W.takesIn K (.builtin "object.__class__")=some true)
      (hm:PySem.W.mroIn K C (.type "object")=some true):TyOf K H (.ref a) (.ref C)
end
end L2
namespace L2
open PySem PySem.Spec PyProof.Rows
structure fH(k:Nat)(A:Around):Prop where
  hd:A.handled=none
  dp:A.depth+3*k+5 < recursionLimit
  un:A.units+16*k+200 < cLine
theorem fH.mono{j k:Nat}{A:Around}(r:fH k A)(h:j≤k):fH j A:=⟨r.hd,by have:=r.dp;lia,by have:=r.un;lia⟩
theorem fH.deeper{k:Nat}{A:Around}(r:fH (k+1) A)(env:Env):fH k (A.deeper env) :=
  ⟨r.hd,by have:=r.dp;show A.depth+1+3*k+5 < _;lia,by have:=r.un;show A.units+3+16*k+200 < _;lia⟩
theorem fH.depth{k:Nat}{A:Around}(r:fH k A):A.depth < recursionLimit:=by have:=r.dp;lia
theorem fH.units{k:Nat}{A:Around}(r:fH k A):A.units+64 < cLine:=by have:=r.un;lia
def tNil:TA:=λ _ H Q=>Q [] H
def tCons(ta:TE)(tr:TA):TA:=λ σ H Q=>ta σ H λ x H1=>tr σ H1 λ xs H2=>Q (x :: xs) H2
section
variable {X:Cx}{e:Expr}{es:List Expr}{te:TE}{t:TA}{pos:Pos}
theorem cQ:PA X [] tNil:=λ _ _ _ _ H Q I h=>Calls.spliced_nil ⟨[],H,I,.nil,h⟩
theorem a!(ha:PE X e te)(hr:PA X es t)(hs:starEach (e :: es) X.env=(false,eval e X.env) :: starEach es X.env:=by rfl):PA X (e :: es) (tCons te t):=by intro pos pins s σ H Q I h;rw[hs];show wpAny _ _ (spliced ((false,eval e X.env) :: backTo pos (starEach es X.env))) _ _ s;refine Calls.spliced_cons (du (ha pins s σ H _ I h) λ u s1 ⟨x,H1,I1,r1,q1⟩=>?_);exact du (hr pos pins s1 σ H1 _ I1 q1) λ us s2 ⟨xs,H2,I2,r2,q2⟩=>⟨x :: xs,H2,I2,.cons r1 r2,q2⟩
def tTup(t:TA):TE:=λ σ H Q=>t σ H λ xs H1=>xs.length≤sizeLine∧∀p,H1 p=none->Q (.ref p) (upd H1 p (.tup xs))
def tLst(t:TA):TE:=λ σ H Q=>t σ H λ xs H1=>xs.length≤sizeLine∧∀p,H1 p=none->Q (.ref p) (upd H1 p (.lst xs))
theorem pe_tup{x1}(h:PA X es t):PE X (.Tuple es x1 pos) (tTup t):=by intro pins s σ H Q I hq;refine wpAny_Tuple_spliced (du (h pos pins s σ H _ I hq) λ us s1 ⟨xs,H1,I1,r,z,q⟩=>⟨by rw[<-r.length];exact z,?_⟩);have hf:H1 s1.heap.objs.size=none:=I1.dO.fresh (Nat.le_refl _);refine⟨.ref s1.heap.objs.size,upd H1 s1.heap.objs.size (.tup xs),I1.laid (t':=s1.toks) (λ b u e=>Heap.get?_push_of_some _ e) (Nat.le_refl _) ?_,rfl,q _ hf⟩;exact⟨z,us,r,⟨_,Heap.get?_push_size _ rfl,rfl,_,rfl⟩⟩
theorem pe_lst(h:PA X es t):PE X (.List es pos) (tLst t):=by intro pins s σ H Q I hq;refine wpAny_List_spliced (du (h pos pins s σ H _ I hq) λ us s1 ⟨xs,H1,I1,r,z,q⟩=>⟨by rw[<-r.length];exact z,?_⟩);have hf:H1 s1.heap.objs.size=none:=I1.dO.fresh (Nat.le_refl _);refine⟨.ref s1.heap.objs.size,upd H1 s1.heap.objs.size (.lst xs),I1.laid (t':=s1.toks) (λ b u e=>Heap.get?_push_of_some _ e) (Nat.le_refl _) ?_,rfl,q _ hf⟩;exact⟨z,us,0,r,Heap.get?_push_size _ rfl⟩
end
abbrev Sp:=List V->Hp->VK->XK->Prop
abbrev CXT:=List Env->Hp->Shared->XK->Value->Shared->Prop
structure Env0(P:Program)(w:World)(K:PySem.W.Frag)(mg:Str->Option Value)(base:Heap)(A:Around)(outer:List Env)(s:Shared)(H:Hp):Prop where
  frames:A.frames=some outer
  mod:Mod K mg base
  bs:∀b o,base.get? b=some o->s.heap.get? b=some o∧H b=none
  bsz:base.objs.size≤s.heap.objs.size
  funs:s.heap.FunFrames base outer
  frf:∀b∈frs outer,H b=none
  dO:HOk P w H s.heap
  bare:AllBare s.gens
  tab:TabOk K mg base H
def CE(outer:List Env)(P:Program)(w:World)(H:Hp)(s:Shared)(Q:VK)(u:Value)(s':Shared):Prop :=
  ∃v H',s'.os=s.os∧AllBare s'.gens∧Un (frs outer) [] H H' s.heap s'.heap∧HOk P w H' s'.heap∧RelV v u∧Q v H'
def CR(CX:CXT)(outer:List Env)(P:Program)(w:World)(H:Hp)(s:Shared)(Q:VK)(E:XK)(r:Result)(s':Shared):Prop :=
  match r with
  | .ok (.ret u)=>CE outer P w H s Q u s'
  | .ok _=>False
  | .error e=>CX outer H s E e s'
structure k_(P:Program)(w:World)(K:PySem.W.Frag)(mg:Str->Option Value)(base:Heap)(CX:CXT)(k:Nat)(f:Addr)(fd:FuncData)(ps:List Str)(sp:Sp):Prop where
  len:∀vs H Q E,sp vs H Q E->vs.length=ps.length
  run:∀(A:Around)(outer:List Env)(s:Shared)(H:Hp)(args:Args)(us:List Value)(vs:List V)(Q:VK)(E:XK),fH k A->Env0 P w K mg base A outer s H->BindsTo s fd args (ps.zip us)->Vals vs us->sp vs H Q E ->
    codeAny (model P w) A (.call (.ref f) args) (CR CX outer P w H s Q E) s
theorem Env0.in1{P:Program}{w:World}{K:PySem.W.Frag}{mg:Str->Option Value}{base:Heap}{A:Around}{outer:List Env}{s:Shared}{H:Hp}(e:Env0 P w K mg base A outer s H):
    Env0 P w K mg base A.in1 outer s H:=⟨e.frames,e.mod,e.bs,e.bsz,e.funs,e.frf,e.dO,e.bare,e.tab⟩
section
variable {X:Cx}{pins:List (Addr×Obj)}{σ:St}{H:Hp}{s s':Shared}
theorem Inv.env0(I:Inv X pins σ H s):Env0 X.prog X.w X.K X.mg X.base X.A X.stack s H :=
  ⟨I.ok.frames,I.ok.mod,I.bs,Nat.le_trans I.ok.bsz I.sz,I.stack,I.stkFree,I.dO,I.bare,I.tab⟩
theorem Inv.after{Q:VK}{u:Value}(I:Inv X pins σ H s)(h:CE X.stack X.prog X.w H s Q u s'):EP X pins σ Q u s':=by obtain⟨v,H',os,bare,un,dO,r,q⟩:=h;obtain⟨hh,g,d,t,os'⟩:=s';obtain rfl:os'=s.os:=os;exact⟨v,H',I.call (h':=hh) (g':=g) (d':=d) (t':=t) (ch:=[]) un dO bare (λ b z=>absurd z (by simp)),r,q⟩
end
def tCall(sp:Sp)(dvs:List V)(E:XK)(t:TA):TE:=λ σ H Q=>t σ H λ vs H1=>sp (vs++dvs) H1 Q E
def Binds(K:PySem.W.Frag)(fd:FuncData)(ps:List Str)(ds:List Value):Prop :=
  ∀(s:Shared)(us:List Value),K.In s.heap->(us++ds).length=ps.length->BindsTo s fd ⟨us,[]⟩ (ps.zip (us++ds))
theorem Binds.all{K:PySem.W.Frag}{fd:FuncData}{ps:List Str}(h:∀us:List Value,us.length=ps.length->bindArgs fd ⟨us,[]⟩=pure (ps.zip us)):Binds K fd ps []:=λ s us _ hl=>by rw[List.append_nil]at hl ⊢;exact .of_eq (h us hl)
def Passes(CX:CXT)(X:Cx)(E:XK):Prop:=∀(pins:List (Addr×Obj))(σ:St)(H:Hp)(s:Shared)(e:Value)(s':Shared),Inv X pins σ H s->CX X.stack H s E e s'->X.xe e s'
section
variable {X:Cx}{CX:CXT}{k:Nat}{f C:Addr}{fd:FuncData}{ps:List Str}{sp:Sp}{dvs:List V}{ds:List Value}{E:XK}{x m:Str}{p pos apos:Pos}{e o:Expr}{es:List Expr}{ta:TE}{t:TA}
theorem run_fn{pins:List (Addr×Obj)}{σ:St}{H:Hp}{s:Shared}{Q:VK}{us:List Value}{vs:List V}(F:k_ X.prog X.w X.K X.mg X.base CX k f fd ps sp)(hr:fH k X.A)(hb:Binds X.K fd ps ds)(hd:Vals dvs ds)(hx:Passes CX X E)
    (I:Inv X pins σ H s) (r:Vals vs us) (h:sp (vs++dvs) H Q E):wpAny (model X.prog X.w) X.A (call (.ref f) us) (EP X pins σ Q) X.xe s:=by
  have r2:Vals (vs++dvs) (us++ds):=r.append hd;have hl:(us++ds).length=ps.length:=by rw[<-r2.length];exact F.len _ _ _ _ h
  refine wpAny_call (codeAny_mono (F.run X.A X.stack s H ⟨us,[]⟩ (us++ds) (vs++dvs) Q E hr I.env0 (hb s us I.kIn hl) r2 h) λ r s' hq=>?_);cases r with
  | error e=>exact hx pins σ H s e s' I hq
  | ok fl =>
    cases fl with
    | ret u=>exact I.after hq
    | next=>exact False.elim hq
    | brk=>exact False.elim hq
    | cont=>exact False.elim hq
theorem pe_call(F:k_ X.prog X.w X.K X.mg X.base CX k f fd ps sp)(hr:fH k X.A)(hg:Gl X x)(hm:X.mg x=some (.ref f))(hk:PySem.W.keepIn X.K (.ref f)=true)(hb:Binds X.K fd ps ds)(hd:Vals dvs ds)(hx:Passes CX X E)
    (ha:PA X (e :: es) t) (hdb:(x==("__debug__" : Str))=false:=by decide) (he:starEach (e :: es) X.env=(false,eval e X.env) :: starEach es X.env:=by rfl) (hpl:(backTo pos (starEach es X.env)).any (·.1)=false:=by rfl) :
    PE X (.Call (.Name x p) (e :: es) [] pos) (tCall sp dvs E t):=by
  intro pins s σ H Q I h;refine wpAny_Call_Name_kw (ld_glob I hg hm ?_ hdb);refine PySem.W.callWith_K (h₀:=X.base) I.ok.mod.kin hk (du (ha pos pins s σ H _ I h) λ us s1 ⟨vs,H1,I1,r,q⟩=>⟨I1.kIn,?_⟩) he hpl;exact run_fn F hr hb hd hx I1 r q
structure Mk(K:PySem.W.Frag)(C f:Addr):Prop where
  makes:PySem.W.makesIn K C=true
  init:PySem.W.findIn K (.ref C) "__init__" = some (some (.ref f))
  fn:PySem.W.isFn K (.ref f)=true
  kp:PySem.W.keepIn K (.ref C)=true
end
section
variable {X:Cx}{CX:CXT}{k:Nat}{f C:Addr}{fd:FuncData}{ps ks:List Str}{sp:Sp}{E:XK}{x m:Str}{p pos apos kpos:Pos}{e o:Expr}{es:List Expr}{kws:List Keyword}{te ta:TE}{t tk:TA}{nm:Option Str}
structure KBinds(K:PySem.W.Frag)(fd:FuncData)(ps ks:List Str)(g:List Value->List Value->List Value)(gV:List V->List V->List V):Prop where
  to:∀(s:Shared)(us ws:List Value),K.In s.heap->(g us ws).length=ps.length->BindsTo s fd ⟨us,ks.zip ws⟩ (ps.zip (g us ws))
  rel:∀{vs:List V}{us:List Value}{zs:List V}{ws:List Value},Vals vs us->Vals zs ws->Vals (gV vs zs) (g us ws)
variable {g:List Value->List Value->List Value}{gV:List V->List V->List V}
end
structure aF(N P:List Str)(sc:Scope):Prop where
  kind:sc.kind=.function
  co:sc.isCoroutine=false
  gen:sc.isGenerator=false
  nd:N.Nodup
  pre:N.take P.length=P
  par:∀x∈P,sc.names.lookup x=some .local∨sc.names.lookup x=some .cell
  nofree:∀y∈sc.names,y.2≠.free
theorem bindL_out{kindOf:Str->Option NameKind}{x:Str}:∀{binds:List (Str×Value)}{m:Str->Option Value},(∀v,(x,v)∉binds)->bindL kindOf binds m x=m x
  | [],_,_=>rfl
  | (n,v) :: r,m,h=>by
    unfold bindL;rw[bindL_out λ w hw=>h w (List.mem_cons_of_mem _ hw)];split
    · have:x≠n:=by rintro rfl;exact h v List.mem_cons_self
      simp[this]
    ·rfl
theorem bindC_out{kindOf:Str->Option NameKind}{x:Str}:∀{binds:List (Str×Value)}{m:Str->Option Value},(∀v,(x,v)∉binds)->bindC kindOf binds m x=m x
  | [],_,_=>rfl
  | (n,v) :: r,m,h=>by
    unfold bindC;rw[bindC_out λ w hw=>h w (List.mem_cons_of_mem _ hw)];split
    ·rfl
    · have:x≠n:=by rintro rfl;exact h v List.mem_cons_self
      simp[this]
theorem bindL_get{kindOf:Str->Option NameKind}{x:Str}{v:Value}:∀{P:List Str}{vs:List Value}{i:Nat}{m:Str->Option Value},P.Nodup->P[i]?=some x->vs[i]?=some v->kindOf x=some .local ->
    bindL kindOf (P.zip vs) m x=some v
  | [],_,_,_,_,h,_,_=>by simp at h
  | _ :: _,[],_,_,_,_,h,_=>by simp at h
  | p :: P,w :: vs,0,m,nd,h1,h2,hk=>by simp at h1 h2;subst h1;subst h2;show bindL kindOf ((p,w) :: P.zip vs) m p=_;unfold bindL;rw[bindL_out λ v hv=>(List.nodup_cons.mp nd).1 (List.of_mem_zip hv).1,if_pos hk];simp
  | p :: P,w :: vs,i+1,m,nd,h1,h2,hk=>by show bindL kindOf ((p,w) :: P.zip vs) m x=_;unfold bindL;exact bindL_get (i:=i) (List.nodup_cons.mp nd).2 (by simpa using h1) (by simpa using h2) hk
theorem bindC_get{kindOf:Str->Option NameKind}{x:Str}{v:Value}:∀{P:List Str}{vs:List Value}{i:Nat}{m:Str->Option Value},P.Nodup->P[i]?=some x->vs[i]?=some v->kindOf x≠some .local ->
    bindC kindOf (P.zip vs) m x=some v
  | [],_,_,_,_,h,_,_=>by simp at h
  | _ :: _,[],_,_,_,_,h,_=>by simp at h
  | p :: P,w :: vs,0,m,nd,h1,h2,hk=>by simp at h1 h2;subst h1;subst h2;show bindC kindOf ((p,w) :: P.zip vs) m p=_;unfold bindC;rw[bindC_out λ v hv=>(List.nodup_cons.mp nd).1 (List.of_mem_zip hv).1,if_neg hk];simp
  | p :: P,w :: vs,i+1,m,nd,h1,h2,hk=>by show bindC kindOf ((p,w) :: P.zip vs) m x=_;unfold bindC;exact bindC_get (i:=i) (List.nodup_cons.mp nd).2 (by simpa using h1) (by simpa using h2) hk
def start(N:List Str)(vs:List V):St:=vs.map some++List.replicate (N.length-vs.length) none
def cxOf(CX:CXT)(P:Program)(w:World)(K:PySem.W.Frag)(mg:Str->Option Value)(base:Heap)(N:List Str)(qual:Str)(scope:Scope)(f:Addr)(cd:Value)(A:Around)(outer:List Env)(s:Shared)(H:Hp)(E:XK):Cx where
  prog:=P
  w:=w
  K:=K
  mg:=mg
  base:=base
  A:=A.deeper (envOfC qual scope s.heap.objs.size f cd)
  N:=N
  s₀:=s
  H₀:=H
  env:=envOfC qual scope s.heap.objs.size f cd
  outer:=outer
  stack:=envOfC qual scope s.heap.objs.size f cd :: outer
  ex:=[]
  calm:=true
  fn:=λ _=>true
  pn:=[]
  xe:=λ e s'=>wpAny (model P w) (A.deeper (envOfC qual scope s.heap.objs.size f cd)) (leaving (envOfC qual scope s.heap.objs.size f cd) e) (λ _ s''=>CX outer H s E e s'') (λ e' s''=>CX outer H s E e' s'') s'
theorem cell_has{sc:Scope}{n:Nat}{x:Str}(h:sc.names.lookup x=some .cell):∃c,(cellsFrom n sc.names []).lookup x=some c:=by have q:=PySem.W.cellsFrom_some sc.names n [] (.inl h);exact Option.isSome_iff_exists.mp q
theorem inv_start {CX : CXT} {P : Program} {w : World} {K : PySem.W.Frag} {mg : Str -> Option Value} {base : Heap} {N ps : List Str} {qual : Str} {scope : Scope} {f : Addr} {cd : Value} {A : Around} {outer : List Env} {s s1 : Shared} {H : Hp} {E : XK} {us : List Value} {vs : List V}
    (S:aF N ps scope) (hd:A.handled=none) (e0:Env0 P w K mg base A outer s H) (hl:vs.length=ps.length) (r:Vals vs us)
    (x:InCallC s s.heap.objs.size (bindL (envOfC qual scope s.heap.objs.size f cd).kindOf (ps.zip us) λ _=>none) (cellsFrom (s.heap.objs.size+1) scope.names []) (bindC (envOfC qual scope s.heap.objs.size f cd).kindOf (ps.zip us) λ _=>none) s1) :
    Inv (cxOf CX P w K mg base N qual scope f cd A outer s H E) [] (start N vs) H s1:=by
  have hpl:ps.length≤N.length:=by have:=congrArg List.length S.pre;rw[List.length_take]at this;lia
  obtain⟨h1,tk,rfl,hk⟩:=x.done;have noA:∀b:Addr,b∉(cxOf CX P w K mg base N qual scope f cd A outer s H E).ex:=λ b z=>absurd (show b∈([]:List Addr)from z) (by simp);refine⟨⟨e0.mod,S.kind,rfl,rfl,Nat.le_refl _,λ y z c h1 h2=>?_,λ y hy=>?_,λ y c _ h=>?_,λ _=>hd,Around.frames_deeper e0.frames,.inr ⟨rfl,rfl⟩,λ b z=>absurd z (noA b),e0.bs,e0.bsz,λ b _ _=>noA b,λ b z=>absurd z (noA b),e0.funs,e0.frf⟩,
    rfl,e0.bare,Un.kept hk,⟨_,x.toInCall.ns,λ i y v h1 h2 h3=>?_⟩,λ y c h=>⟨_,x.cell y c h⟩,e0.dO.fresh (Nat.le_refl _),λ y c h=>?_,λ p hp=>absurd (show p∈([]:List (Addr×Obj))from hp) (by simp),e0.dO.kept hk,?_,e0.tab⟩
  ·exact name_of_addr x.apart (PySem.mem_of_lookup h1) (PySem.mem_of_lookup h2)
  · have hy:scope.names.lookup y=some .cell∨scope.names.lookup y=some .free:=hy;rcases hy with hy | hy
    ·exact cell_has hy
    ·exact absurd rfl (S.nofree _ (PySem.mem_of_lookup hy))
  ·exact Nat.le_of_lt (x.above y c (PySem.mem_of_lookup h))
  · have hi:i < vs.length:=by
      unfold start at h2;by_cases hi:i < vs.length
      ·exact hi
      · rw[List.getElem?_append_right (by simpa using hi)]at h2;rw[List.getElem?_replicate]at h2;split at h2<;>cases h2
    have ha:vs[i]?=some v:=by
      unfold start at h2;rw[List.getElem?_append_left (by simpa using hi),List.getElem?_map]at h2;cases e:vs[i]? with
      | none=>rw[e]at h2;cases h2
      | some a=>rw[e]at h2;cases h2;rfl
    obtain⟨u,hu,rv⟩:=r.get ha;have hp:ps[i]?=some y:=by rw[<-S.pre,List.getElem?_take_of_lt (by lia)];exact h1
    have ndP:ps.Nodup:=by rw[<-S.pre];exact S.nd.sublist (List.take_sublist _ _)
    refine⟨u,rv,?_⟩;rcases S.par y (List.mem_of_getElem? hp)with k | k
    ·exact .inl ⟨k,bindL_get ndP hp hu k⟩
    · obtain⟨c,e⟩:=cell_has (n:=s.heap.objs.size+1) k;refine .inr ⟨.inl k,c,e,?_⟩;have q:=x.cell y c e;rw[bindC_get ndP hp hu (by show scope.names.lookup y≠_;rw[k];decide)]at q;exact q
  ·exact e0.dO.fresh (Nat.le_of_lt (x.above y c (PySem.mem_of_lookup h)))
  · unfold start;show _=N.length;rw[List.length_append,List.length_map,List.length_replicate];lia
theorem fn_of{CX:CXT}{P:Program}{w:World}{K:PySem.W.Frag}{mg:Str->Option Value}{base:Heap}{k:Nat}{f:Addr}{name qual:Str}{params:Arguments}{body:List Stmt}{scope:Scope}{dV kV doc pm bT ct oc:Value}{an od:Option Addr}
    {osl:Array (Option Value)}{N ps:List Str}{sp:Sp}(lk:K.lookup f=some ⟨oc,od,.func (PySem.W.fnOf name qual params body scope dV kV doc pm an bT ct),osl⟩) (hcd:PySem.W.codeIn K bT qual=true) (S:aF N ps scope)
    (len:∀vs H Q E,sp vs H Q E->vs.length=ps.length)
    (hbody:∀(A:Around)(outer:List Env)(s:Shared)(H:Hp)(vs:List V)(Q:VK)(E:XK),fH k (A.deeper (envOfC qual scope s.heap.objs.size f bT))->sp vs H Q E ->
      ∃t,PSs (cxOf CX P w K mg base N qual scope f bT A outer s H E) body t∧t { nx:=λ _ H'=>Q .non H',rt:=Q } (start N vs) H) :
    k_ P w K mg base CX (k+1) f (PySem.W.fnOf name qual params body scope dV kV doc pm an bT ct) ps sp:=by
  refine⟨len,λ A outer s H args us vs Q E hr e0 hb r hsp=>?_⟩;have hl:=len _ _ _ _ hsp;have KX:K.In s.heap:=e0.mod.kin.keeps λ b o e=>(e0.bs b o e).1;have lim:s.heap.NoLimit:=e0.mod.nolimit.keeps λ b o e=>(e0.bs b o e).1;have hkind:∀y∈ps.zip us,scope.names.lookup y.1=some .local∨(scope.names.lookup y.1=some .cell∧((cellsFrom (s.heap.objs.size+1) scope.names []).lookup y.1).isSome=true):=λ⟨n,v⟩ hy=>by
    rcases S.par n (List.of_mem_zip hy).1 with q | q
    ·exact .inl q
    ·exact .inr ⟨q,PySem.W.cellsFrom_some _ _ _ (.inl q)⟩
  refine codeAny_call_function hr.depth (KX _ _ lk) rfl S.co S.gen rfl (PySem.W.codeRec_of KX hcd) (hb _ _ _ _ ?_);refine wpAny_newFunctionEnv_cells S.kind hkind λ env he s1 x=>?_;subst he;refine⟨lim.keeps x.toInCall.keep,codeAny_func ?_⟩;obtain⟨t,ht,hq⟩:=hbody A outer s H vs Q E (hr.deeper _) hsp;have I:Inv (cxOf CX P w K mg base N qual scope f bT A outer s H E) [] (start N vs) H s1:=inv_start S hr.hd e0 hl r x;refine wpAny_mono (ht [] s1 (start N vs) H _ I hq) (λ fl s' hs=>?_) λ e s' hs=>hs;have fin:∀{σ':St}{H':Hp}{v:V}{u:Value},Inv (cxOf CX P w K mg base N qual scope f bT A outer s H E) [] σ' H' s'->RelV v u->Q v H'->CE outer P w H s Q u s' :=
    λ {σ' H' v u} J rv q=>⟨v,H',J.os,J.bare,J.base,J.dO,rv,q⟩
  cases fl with
  | ret u =>obtain⟨v,σ',H',J,rv,q⟩:=hs;exact fin J rv q
  | next =>obtain⟨σ',H',J,q⟩:=hs;exact fin (v:=V.non) (u:=Value.none) J rfl q
  | brk =>obtain⟨_,_,_,q⟩:=hs;exact False.elim q
  | cont =>obtain⟨_,_,_,q⟩:=hs;exact False.elim q
end L2
namespace L2
open PySem PySem.Spec PyProof.Rows
section
variable {X:Cx}{x:Str}{p pos:Pos}{e:Expr}{es:List Expr}{t:TA}{id T:String}{r:List V->Hp->VK->Prop}
def tCB(r:List V->Hp->VK->Prop)(t:TA):TE:=λ σ H Q=>t σ H λ vs H1=>r vs H1 Q
theorem jn(hc:iG X (.builtin id) r)(hg:Gl X x)(hm:X.mg x=none)(hv:bootBuiltins x=some (.builtin id))(ha:PA X (e :: es) t)(hn:x ≠ "__name__" := by decide)(hdb:(x==("__debug__" : Str))=false:=by decide)
    (he:starEach (e :: es) X.env=(false,eval e X.env) :: starEach es X.env:=by rfl) (hpl:(backTo pos (starEach es X.env)).any (·.1)=false:=by rfl):PE X (.Call (.Name x p) (e :: es) [] pos) (tCB r t):=by
  intro pins s σ H Q I h;refine wpAny_Call_Name_kw (l? I hg hm hv ?_ hn hdb);exact PyProof.Rows.callWith_builtin1 (du (ha pos pins s σ H _ I h) λ us s1 ⟨vs,H1,I1,r1,q1⟩=>hc pins s1 σ H1 vs us Q I1 r1 q1) he hpl
theorem pe_callTy(hc:iG X (.type T) r)(hg:Gl X x)(hm:X.mg x=none)(hv:bootBuiltins x=some (.type T))(ha:PA X (e :: es) t)(hn:x ≠ "__name__" := by decide)(hdb:(x==("__debug__" : Str))=false:=by decide)
    (he:starEach (e :: es) X.env=(false,eval e X.env) :: starEach es X.env:=by rfl) (hpl:(backTo pos (starEach es X.env)).any (·.1)=false:=by rfl):PE X (.Call (.Name x p) (e :: es) [] pos) (tCB r t):=by
  intro pins s σ H Q I h;refine wpAny_Call_Name_kw (l? I hg hm hv ?_ hn hdb);exact PyProof.Rows.callWith_type1 (du (ha pos pins s σ H _ I h) λ us s1 ⟨vs,H1,I1,r1,q1⟩=>hc pins s1 σ H1 vs us Q I1 r1 q1) he hpl
end
end L2
namespace HT
open PySem PyProof.Rows
section
open PySem.SeqAt
open PySem.AutoSeq1 (wpAny_loadPart')
open PySem.MeetsSeq PySem.MeetsSeq2 PySem.MeetsSeq3
end
section
variable {prog:Program}{w:World}{A:Around}{E:Value->Shared->Prop}{s:Shared}
theorem cat_tup{t b:Addr}{vs ws:List Value}{Q:Value->Shared->Prop}(ht:IsTup s.heap t vs.toArray)(hb:IsTup s.heap b ws.toArray)(hv:vs≠[])
    (h1:ws=[]->Q (.ref t) s) (h2:ws≠[]->Q (.ref s.heap.objs.size) { s with heap:=s.heap.push { cls:=.type "tuple",data:=.seq (vs++ws).toArray } })
    (hsz:vs.length+ws.length≤sizeLine):wpAny (model prog w) A (binaryOp .Add (.ref t) (.ref b)) Q E s:=by
  obtain⟨⟨cls,dd,data,sl⟩,ho,hc,n,hd⟩:=id ht;obtain⟨⟨cls2,dd2,data2,sl2⟩,ho2,hc2,n2,hd2⟩:=id hb;simp only at hc hd hc2 hd2;subst hc hd hc2 hd2;have e:vs.toArray++ws.toArray=(vs++ws).toArray:=by simp
  by_cases hw:ws=[]
  · exact concat_meets ⟨_,ho,rfl⟩ ⟨_,ho2,rfl⟩ noFill_tuple_add seq_tuple_add PySem.F.slot_tuple_add PySem.F.entry_tuple_add (PySem.F.args_tuple_add_2 _ _)
      (tuple_addW1 t b vs.toArray ws.toArray n n2 dd dd2 sl sl2 (by simpa using hv) (by simp[hw])) ⟨ho,ho2,h1 hw⟩
  · refine concat_meets ⟨_,ho,rfl⟩ ⟨_,ho2,rfl⟩ noFill_tuple_add seq_tuple_add PySem.F.slot_tuple_add PySem.F.entry_tuple_add (PySem.F.args_tuple_add_2 _ _)
      (tuple_addW2 t b vs.toArray ws.toArray n n2 dd dd2 sl sl2 (by simpa using hv) (by simpa using hw) (by rw[List.size_toArray,List.size_toArray];exact hsz)) ⟨ho,ho2,?_⟩
    rw[e];exact h2 hw
def cP(n d:Nat):Option Int->Nat
  | none=>d
  | some v=>if v < 0 then(v+(n:Int)).toNat else min v.toNat n
theorem sIx_le(n d:Nat)(hd:d≤n)(o:Option Int):cP n d o≤n:=by
  cases o with
  | none=>exact hd
  | some v =>
    show(if v < 0 then(v+(n:Int)).toNat else min v.toNat n)≤n;by_cases hv:v < 0
    ·rw[if_pos hv];lia
    ·rw[if_neg hv];exact Nat.min_le_right _ _
theorem clip_eq(v:Int)(n d:Nat):(if v < 0 then max (v+(n:Int)) 0 else min v (n:Int))=((cP n d (some v):Nat):Int):=by
  show(if v < 0 then max (v+(n:Int)) 0 else min v (n:Int))=(((if v < 0 then(v+(n:Int)).toNat else min v.toNat n):Nat):Int)
  by_cases hv:v < 0
  ·simp only[if_pos hv];lia
  ·simp only[if_neg hv];lia
theorem adjust_gen(lo hi:Option Int)(n:Nat):Builtin.Slice.sliceAdjust lo hi 1 (n:Int)=(((cP n 0 lo:Nat):Int),((cP n n hi:Nat):Int)):=by
  have h1:¬((1:Int) < 0):=by lia
  unfold Builtin.Slice.sliceAdjust;simp only[h1,if_false];refine Prod.ext ?_ ?_
  · cases lo with
    | none=>rfl
    | some v=>exact clip_eq v n 0
  · cases hi with
    | none=>rfl
    | some v=>exact clip_eq v n n
theorem places_gen(i j:Nat):Builtin.Slice.slicePlaces (i:Int) (j:Int) 1=j-i:=by
  unfold Builtin.Slice.slicePlaces;have h1:(1:Int) > 0:=by lia
  simp only[h1,if_true,Int.ediv_one];split<;>lia
theorem slicePart_{v:Value}{o:Option Int}{Q:Option Int->Shared->Prop}(p:IsPart v o)(h:Q o s):wpAny (model prog w) A (Builtin.Slice.slicePartIndex v) Q E s:=by
  cases p with
  | none=>exact slicePart_none h
  | int i t=>exact slicePart_int h
theorem jk{sl:Addr}{vl vu:Value}{lo hi:Option Int}{n:Nat}{Q:Int×Int×Nat->Shared->Prop}(hs:s.heap.IsSliceOf sl vl vu .none)(pl:IsPart vl lo)(pu:IsPart vu hi)
    (h:Q (((cP n 0 lo:Nat):Int),1,cP n n hi-cP n 0 lo) s):wpAny (model prog w) A (Builtin.Slice.sliceApplied (.ref sl) (pure (n:Int))) Q E s:=by
  obtain⟨os,hos,hcs,hds⟩:=id hs;unfold Builtin.Slice.sliceApplied Builtin.Slice.sliceFields;refine wpAny_bind (wpAny_bind (wpAny_field hos hds (x:=vl) rfl (wpAny_bind (wpAny_field hos hds (x:=vu) rfl (wpAny_bind (wpAny_field hos hds (x:=.none) rfl (wpAny_pure ?_)))))));refine wpAny_bind (slicePart_none ?_);show wpAny _ _ (if((1:Int)==0)=true then _ else _) _ _ s;rw[if_neg (by decide)];refine wpAny_bind (slicePart_ pl (wpAny_bind (slicePart_ pu (wpAny_bind (wpAny_pure ?_)))));show wpAny _ _ (match Builtin.Slice.sliceAdjust lo hi 1 (n:Int)with | (lo,hi)=>pure (lo,(1:Int),Builtin.Slice.slicePlaces lo hi 1)) _ _ s;rw[adjust_gen lo hi n];show wpAny _ _ (pure (((cP n 0 lo:Nat):Int),(1:Int),Builtin.Slice.slicePlaces ((cP n 0 lo:Nat):Int) ((cP n n hi:Nat):Int) 1)) _ _ s;rw[places_gen];exact wpAny_pure h
theorem pick_gen(xs:Array Value)(i k:Nat):((List.range k).filterMap λ(m:Nat)=>xs[((i:Int)+(m:Int)*1).toNat]?).toArray=((xs.toList.drop i).take k).toArray:=by
  have e:(λ(m:Nat)=>xs[((i:Int)+(m:Int)*1).toNat]?)=λ m=>xs[i+m]?:=by
    funext m
    have:((i:Int)+(m:Int)*1).toNat=i+m:=by lia
    rw[this]
  rw[e];have:=pick_run xs i k;rw[List.filterMap_map]at this;have e2:((λ x=>xs[x]?)∘λ x=>i+x)=λ m=>xs[i+m]?:=rfl;rw[e2]at this;rw[this]
theorem nk{t sl:Addr}{items:Array Value}{vl vu:Value}{lo hi:Option Int}{Q:Value->Shared->Prop}(ht:IsTup s.heap t items)(hs:s.heap.IsSliceOf sl vl vu .none)(pl:IsPart vl lo)(pu:IsPart vu hi)
    (hw:¬(cP items.size 0 lo=0∧cP items.size items.size hi=items.size))
    (h:Q (.ref s.heap.objs.size) { s with heap:=s.heap.push { cls:=.type "tuple",data:=.seq ((items.toList.drop (cP items.size 0 lo)).take (cP items.size items.size hi-cP items.size 0 lo)).toArray } })
    (hsz:items.size≤sizeLine):wpAny (model prog w) A (getItem (.ref t) (.ref sl)) Q E s:=by
  have ni:sizeOk (.seq ((items.toList.drop (cP items.size 0 lo)).take (cP items.size items.size hi-cP items.size 0 lo)).toArray):=by show((items.toList.drop (cP items.size 0 lo)).take (cP items.size items.size hi-cP items.size 0 lo)).toArray.size≤sizeLine;rw[List.size_toArray,List.length_take,List.length_drop,Array.length_toList];lia
  have hj:cP items.size items.size hi≤items.size:=sIx_le _ _ (Nat.le_refl _) hi;obtain⟨os,hos,hcs,hds⟩:=id hs;have hTs:s.TypeIs (.ref sl) "slice" := ⟨os,hos,hcs⟩
  unfold getItem
  try with_reducible refine wpAny_holding ?_
  first | refine wpAny_bind (wpAny_pure ?_) | skip
  refine wpAny_bind (wpAny_sequenceKey ht.typeIs (by decide) ?_);refine wpAny_bind (wpAny_callSpecial?_slot (name:=Str.ofString "__getitem__") ht.typeIs PyProof.Rows.slot_tuple_getitem
    (wpAny_call_entry PyProof.Rows.slot_tuple_getitem ht.typeIs entry_tuple_getitem ?_ (args_tuple_getitem _ _)))
  show wpAny _ _ (Builtin.Tuple.tupleItemsOf (.ref t) >>= _) _ _ s;refine wpAny_bind (tupleItemsOf_ ht ?_);refine wpAny_bind (wpAny_typeOf hTs ?_);rw[if_pos (by decide)];refine wpAny_bind (jk hs pl pu ?_);have hno:¬((((cP items.size 0 lo:Nat):Int)==0&&(1:Int)==1&&(cP items.size items.size hi-cP items.size 0 lo)==items.size)=true):=by intro q;rw[Bool.and_eq_true,Bool.and_eq_true]at q;have q1:((cP items.size 0 lo:Nat):Int)=0:=eq_of_beq q.1.1;have q2:cP items.size items.size hi-cP items.size 0 lo=items.size:=eq_of_beq q.2;exact hw ⟨by lia,by lia⟩
  show wpAny _ _ (if(((cP items.size 0 lo:Nat):Int)==0&&(1:Int)==1&&(cP items.size items.size hi-cP items.size 0 lo)==items.size)=true then _ else _) _ _ s;rw[if_neg hno,pick_gen]
  first
    | exact wpAny_bind (m:=Builtin.Tuple.tupleExact _) (wpAny_newObj_type (wpAny_pure ⟨_,rfl,wpAny_pure h⟩) ni)
    | exact wpAny_bind (m:=Builtin.Tuple.tupleExact _) (wpAny_newObj_type (wpAny_bind (wpAny_pure (wpAny_pure ⟨_,rfl,wpAny_pure h⟩))) ni)
    | exact wpAny_bind (wpAny_bind (m:=Builtin.Tuple.tupleExact _) (wpAny_newObj_type (wpAny_pure (wpAny_pure ⟨_,rfl,wpAny_pure h⟩)) ni))
    | exact wpAny_bind (wpAny_bind (m:=Builtin.Tuple.tupleExact _) (wpAny_newObj_type (wpAny_pure ⟨_,rfl,wpAny_pure h⟩) ni))
end
end HT
namespace L2
open PySem PySem.Spec PyProof.Rows
abbrev TO:=St->Hp->(Option Int->Hp->Prop)->Prop
def PO (X:Cx) (e:Option Expr) (t:TO):Prop :=
  ∀ (pins:List (Addr×Obj)) (s:Shared) (σ:St) (H:Hp) (Q:Option Int->Hp->Prop),Inv X pins σ H s->t σ H Q ->
    wpAny (model X.prog X.w) X.A (evalPart e X.env) (λ u s'=>∃o H',Inv X pins σ H' s'∧IsPart u o∧Q o H') X.xe s
def tNoPart:TO:=λ _ H Q=>Q none H
def tPart(t:TE):TO:=λ σ H Q=>t σ H λ x H1=>∃i,x=.int i∧Q (some i) H1
section
variable {X:Cx}{e:Expr}{te:TE}{lo hi:Option Expr}{tl th:TO}{pos p2:Pos}
theorem po_none:PO X none tNoPart:=by intro pins s σ H Q I h;rw[evalPart_none];exact wpAny_pure ⟨none,H,I,.none,h⟩
theorem po_some(h:PE X e te):PO X (some e) (tPart te):=by intro pins s σ H Q I hw;rw[evalPart_some];refine du (h pins s σ H _ I hw) λ u s1 ⟨x,H1,I1,r1,q1⟩=>?_;obtain⟨i,rfl,q⟩:=q1;obtain⟨t,rfl⟩:=r1;exact⟨some i,H1,I1,.int i t,q⟩
def SlR (X:Cx) (r:V->Option Int->Option Int->Hp->VK->Prop):Prop :=
  ∀ (pins:List (Addr×Obj)) (s:Shared) (σ:St) (H:Hp) (x:V) (v vl vu:Value) (lo hi:Option Int) (sl:Addr) (Q:VK),Inv X pins σ H s->RelV x v->s.heap.IsSliceOf sl vl vu .none->IsPart vl lo->IsPart vu hi->r x lo hi H Q ->
    ∃T id,typeLookup (.type T) "__getitem__" = pure (some (.builtin id))∧s.TypeIs v T∧wpAny (model X.prog X.w) X.A (getItem v (.ref sl)) (EP X pins σ Q) X.xe s
theorem SlR.or{r r':V->Option Int->Option Int->Hp->VK->Prop}(h:SlR X r)(h':SlR X r'):SlR X (λ x lo hi H Q=>r x lo hi H Q∨r' x lo hi H Q):=by
  intro pins s σ H x v vl vu lo hi sl Q I rx hs pl pu q;rcases q with q | q
  ·exact h pins s σ H x v vl vu lo hi sl Q I rx hs pl pu q
  ·exact h' pins s σ H x v vl vu lo hi sl Q I rx hs pl pu q
def tSl(r:V->Option Int->Option Int->Hp->VK->Prop)(te:TE)(tl th:TO):TE:=λ σ H Q=>te σ H λ x H1=>tl σ H1 λ l H2=>th σ H2 λ u H3=>r x l u H3 Q
theorem pe_slice{r:V->Option Int->Option Int->Hp->VK->Prop}(hr:SlR X r)(he:PE X e te)(hl:PO X lo tl)(hu:PO X hi th):PE X (.Subscript e (.Slice lo hi none p2) pos) (tSl r te tl th):=by intro pins s σ H Q I h;refine Subscript_ (du (he pins s σ H _ I h) λ v s1 ⟨x,H1,I1,r1,q1⟩=>?_);refine wpAny_Slice (du (hl pins s1 σ H1 _ I1 q1) λ vl s2 ⟨l,H2,I2,pl,q2⟩=>du (hu pins s2 σ H2 _ I2 q2) λ vu s3 ⟨u,H3,I3,pu,q3⟩=>?_);rw[evalPart_none];refine wpAny_pure ?_;have I4:Inv X pins σ H3 { s3 with heap:=s3.heap.push { cls:=.type "slice",data:=.fields #[vl,vu,.none] } }:=I3.kept (t':=s3.toks) λ b ob q=>Heap.get?_push_of_some _ q;obtain⟨T,id,hT,ht,hg⟩:=hr pins { s3 with heap:=s3.heap.push { cls:=.type "slice",data:=.fields #[vl,vu,.none] } } σ H3 x v vl vu l u s3.heap.objs.size Q I4 r1 (Heap.IsSliceOf.new ..) pl pu q3;show wpAny (model X.prog X.w) X.A (subscriptTail e (.Slice lo hi none p2) v (.ref s3.heap.objs.size)) (EP X pins σ Q) X.xe { s3 with heap:=s3.heap.push { cls:=.type "slice",data:=.fields #[vl,vu,.none] } };exact tail_any (ops:=[.ref s3.heap.objs.size,v]) ht hT hg (by with_unfolding_all rfl)
def cutV(xs:List V)(lo hi:Option Int):List V:=(xs.drop (HT.cP xs.length 0 lo)).take (HT.cP xs.length xs.length hi-HT.cP xs.length 0 lo)
theorem cutV_length(xs:List V)(lo hi:Option Int):(cutV xs lo hi).length≤xs.length:=by unfold cutV;rw[List.length_take,List.length_drop];lia
def rSlT(K:PySem.W.Frag):V->Option Int->Option Int->Hp->VK->Prop:=λ x lo hi H Q=>∃a xs,x=.ref a∧k? K H a xs ∧
  ¬(HT.cP xs.length 0 lo=0∧HT.cP xs.length xs.length hi=xs.length)∧∀p,H p=none->Q (.ref p) (upd H p (.tup (cutV xs lo hi)))
theorem sl_tup:SlR X (rSlT X.K):=by
  intro pins s σ H x v vl vu lo hi sl Q I rx hs pl pu h;obtain⟨a,xs,rfl,hx,hw,q⟩:=h;cases rx;obtain⟨aM,r,ht,hz⟩:=I.tuple hx;have hlen:aM.toArray.size=xs.length:=by rw[List.size_toArray];exact r.length.symm
  refine⟨"tuple",_,PyProof.Rows.slot_tuple_getitem.lookup,ht.typeIs,?_⟩;refine HT.nk ht hs pl pu (by rw[hlen];exact hw) ?_ (by rw[hlen];exact hz);rw[hlen];refine⟨.ref s.heap.objs.size,_,I.laid (t':=s.toks) (o:=.tup (cutV xs lo hi)) (λ b ob q=>Heap.get?_push_of_some _ q) (Nat.le_refl _) ?_,rfl,q _ (I.dO.fresh (Nat.le_refl _))⟩;exact⟨Nat.le_trans (cutV_length xs lo hi) hz,_,(r.drop (HT.cP xs.length 0 lo)).take (HT.cP xs.length xs.length hi-HT.cP xs.length 0 lo),IsTup.new _ _⟩
def rCatT(K:PySem.W.Frag):R2:=λ x y H Q=>∃a b xs ys,x=.ref a∧y=.ref b∧k? K H a xs∧k? K H b ys∧xs≠[]∧xs.length+ys.length≤sizeLine ∧
  (ys=[]->Q (.ref a) H)∧(ys≠[]->∀p,H p=none->Q (.ref p) (upd H p (.tup (xs++ys))))
theorem Vals.nil_iff{xs:List V}{us:List Value}(r:Vals xs us):us=[]↔xs=[]:=by
  cases r with
  | nil=>simp
  | cons _ _=>simp
theorem op_catT:ke X (binaryOp .Add) (rCatT X.K):=by intro pins s σ H x y v u Q I rx ry h;obtain⟨a,b,xs,ys,rfl,rfl,ha,hb,hx,hz,q1,q2⟩:=h;cases rx;cases ry;obtain⟨aM,r1,p1,_⟩:=I.tuple ha;obtain⟨dq,r2,p2,_⟩:=I.tuple hb;refine HT.cat_tup p1 p2 (λ z=>hx (r1.nil_iff.mp z)) (λ z=>⟨.ref a,H,I,rfl,q1 (r2.nil_iff.mp z)⟩) (λ z=>?_) (by rw[<-r1.length,<-r2.length];exact hz);refine⟨.ref s.heap.objs.size,_,I.laid (t':=s.toks) (o:=.tup (xs++ys)) (λ b ob q=>Heap.get?_push_of_some _ q) (Nat.le_refl _) ?_,rfl,q2 (λ w=>z (r2.nil_iff.mpr w)) _ (I.dO.fresh (Nat.le_refl _))⟩;exact⟨by rw[List.length_append];exact hz,_,r1.append r2,IsTup.new _ _⟩
end
end L2
namespace L2
open PySem PySem.Spec PyProof.Rows
def ixN(n:Nat)(i:Int):Option Nat:=if 0≤i then(if i < n then some i.toNat else none)else if -(n:Int)≤i then some (i+n).toNat else none
def atI{α:Type}(xs:List α)(i:Int):Option α:=(ixN xs.length i).bind λ j=>xs[j]?
theorem ixN_seq{n:Nat}{i:Int}{j:Nat}(h:ixN n i=some j):seqIndex? i n=some j∧j < n∧-(n:Int)≤i∧i < n:=by
  unfold ixN at h;by_cases h0:0≤i
  · rw[if_pos h0]at h;by_cases h1:i < n
    · rw[if_pos h1]at h;have e:i.toNat=j:=Option.some.inj h;exact⟨by rw[seqIndex_of h0 h1,e],by lia,by lia,h1⟩
    ·rw[if_neg h1]at h;cases h
  · rw[if_neg h0]at h;by_cases h1:-(n:Int)≤i
    · rw[if_pos h1]at h;have e:(i+n).toNat=j:=Option.some.inj h;exact⟨by rw[seqIndex_neg (by lia) h1,e],by lia,h1,by lia⟩
    ·rw[if_neg h1]at h;cases h
theorem atI_get{α:Type}{xs:List α}{i:Int}{v:α}(h:atI xs i=some v):∃j,seqIndex? i xs.length=some j∧xs[j]?=some v∧j < xs.length∧-(xs.length:Int)≤i∧i < xs.length:=by
  unfold atI at h;cases e:ixN xs.length i with
  | none=>rw[e]at h;cases h
  | some j =>rw[e]at h;obtain⟨h1,h2,h3,h4⟩:=ixN_seq e;exact⟨j,h1,h,h2,h3,h4⟩
def PlainIx(b:Expr):Prop:=∀o i,subscripted b false o i=operate [o,i] (getItem o i)
def IxR (X:Cx) (r:R2):Prop :=
  ∀ (value slice:Expr) (pins:List (Addr×Obj)) (s:Shared) (σ:St) (H:Hp) (x y:V) (v u:Value) (Q:VK),Inv X pins σ H s->RelV x v->RelV y u->r x y H Q ->
    subscripted slice false v u=operate [v,u] (getItem v u)->wpAny (model X.prog X.w) X.A (subscriptTail value slice v u) (EP X pins σ Q) X.xe s
def MtR (X:Cx) (id:String) (r:V->List V->Hp->VK->Prop):Prop :=
  ∀ (pins:List (Addr×Obj)) (s:Shared) (σ:St) (H:Hp) (x:V) (xs:List V) (v:Value) (us:List Value) (Q:VK),Inv X pins σ H s->RelV x v->Vals xs us->r x xs H Q ->
    wpAny (model X.prog X.w) X.A (call (.builtin id) (v :: us)) (EP X pins σ Q) X.xe s
section
variable {X:Cx}{a b:Expr}{ta tb:TE}{pos:Pos}
theorem IxR.or{r r':R2}(h:IxR X r)(h':IxR X r'):IxR X (λ x y H Q=>r x y H Q∨r' x y H Q):=by
  intro value slice pins s σ H x y v u Q I rx ry q hs;rcases q with q | q
  ·exact h value slice pins s σ H x y v u Q I rx ry q hs
  ·exact h' value slice pins s σ H x y v u Q I rx ry q hs
theorem MtR.or{id:String}{r r':V->List V->Hp->VK->Prop}(h:MtR X id r)(h':MtR X id r'):MtR X id (λ x xs H Q=>r x xs H Q∨r' x xs H Q):=by
  intro pins s σ H x xs v us Q I rx rs q;rcases q with q | q
  ·exact h pins s σ H x xs v us Q I rx rs q
  ·exact h' pins s σ H x xs v us Q I rx rs q
theorem pe_ix{r:R2}(hr:IxR X r)(ha:PE X a ta)(hb:PE X b tb)(hs:PlainIx b):PE X (.Subscript a b pos) (tOp r ta tb):=by intro pins s σ H Q I h;exact Subscript_ (binT ha hb I h λ v u s2 x y H2 I2 rx ry q=>hr a b pins s2 σ H2 x y v u Q I2 rx ry q (hs _ _))
def rIxL(K:PySem.W.Frag):R2:=λ x y H Q=>∃p xs i v,x=.ref p∧y=.int i∧i6 K H p xs∧atI xs i=some v∧Q v H
def rIxT(K:PySem.W.Frag):R2:=λ x y H Q=>∃p xs i v,x=.ref p∧y=.int i∧k? K H p xs∧atI xs i=some v∧Q v H
def rIxS:R2:=λ x y H Q=>∃z i c,x=.str z∧y=.int i∧z.length≤sizeLine∧atI z.cps.toList i=some c∧Q (.str ⟨#[c]⟩) H
theorem ix_list:IxR X (rIxL X.K):=by
  intro value slice pins s σ H x y v u Q I rx ry h hs;obtain⟨p,xs,i,z,rfl,rfl,hq,he,q⟩:=h;cases rx;obtain⟨t,rfl⟩:=ry;obtain⟨aM,r,pl,hz⟩:=I.list hq;obtain⟨j,h1,h2,h3,h4,h5⟩:=atI_get he;obtain⟨w,ew,rw'⟩:=r.get h2;have hl:=r.length;have hn:=line63;have fin:EP X pins σ Q w s:=⟨z,H,I,rw',q⟩
  by_cases h0:0≤i
  · have hj:i.toNat=j:=by rw[seqIndex_of h0 h5]at h1;exact Option.some.inj h1
    exact item_listR pl.isList h0 (by lia) (by rw[hj];simpa using ew) fin hs
  · have hj:(i+(aM.toArray.size:Int)).toNat=j:=by rw[seqIndex_neg (by lia) h4]at h1;rw[List.size_toArray,<-hl];exact Option.some.inj h1
    exact subscriptTail_builtinR (x:=w) pl.isList.typeIs slot_list_getitem.lookup
      (wpAny_getItem_list_neg (Q:=λ r s'=>r=w∧EP X pins σ Q r s') pl.isList (by lia) (by rw[List.size_toArray]<;>lia) (by lia) (by rw[hj];simpa using ew) ⟨rfl,fin⟩) hs
theorem ix_tup:IxR X (rIxT X.K):=by
  intro value slice pins s σ H x y v u Q I rx ry h hs;obtain⟨p,xs,i,z,rfl,rfl,hq,he,q⟩:=h;cases rx;obtain⟨t,rfl⟩:=ry;obtain⟨aM,r,pl,hz⟩:=I.tuple hq;obtain⟨j,h1,h2,h3,h4,h5⟩:=atI_get he;obtain⟨w,ew,rw'⟩:=r.get h2;have hl:=r.length;have hn:=line63;have fin:EP X pins σ Q w s:=⟨z,H,I,rw',q⟩
  exact subscriptTail_builtinR (x:=w) pl.typeIs slot_tuple_getitem.lookup
    (getItem_tuple (j:=j) (Q:=λ r s'=>r=w∧EP X pins σ Q r s') pl (by lia) (by lia) (by rw[List.size_toArray,<-hl];exact h1) (by simpa using ew) ⟨rfl,fin⟩) hs
theorem ix_str:IxR X rIxS:=by
  intro value slice pins s σ H x y v u Q I rx ry h hs;obtain⟨z,i,c,rfl,rfl,hz,he,q⟩:=h;obtain⟨t,rfl⟩:=rx;obtain⟨t',rfl⟩:=ry;obtain⟨j,h1,h2,h3,h4,h5⟩:=atI_get he;have hl:z.cps.toList.length=z.length:=by simp[Str.length]
  rw[hl]at h1 h4 h5;have hn:=line63;exact tail_any (typeIs_str s z t) slot_str_getitem.lookup (getItem_str (c:=c) (by have e1:decide (i < -(2 ^ 63:Int))=false:=decide_eq_false (by lia);have e2:decide (i≥2 ^ 63)=false:=decide_eq_false (by lia);rw[e1,e2,Bool.or_false]) (by rw[h1];simpa using h2) ⟨.str ⟨#[c]⟩,H,I.tok _,⟨_,rfl⟩,q⟩) hs
def rIx(K:PySem.W.Frag):R2:=λ x y H Q=>rIxL K x y H Q∨rIxT K x y H Q∨rIxS x y H Q
theorem ix_seq:IxR X (rIx X.K):=ix_list.or (ix_tup.or ix_str)
theorem slice_bounds(lo hi:Option Int)(n:Nat):(sliceBounds lo hi none n).1=((HT.cP n 0 lo:Nat):Int)∧(sliceBounds lo hi none n).2.1=((HT.cP n n hi:Nat):Int)∧(sliceBounds lo hi none n).2.2=1:=by
  refine⟨?_,?_,rfl⟩
  · cases lo with
    | none=>simp[sliceBounds,HT.cP]
    | some i =>
      simp only[sliceBounds,HT.cP,Option.getD_none,show(1:Int) > 0 by decide,if_true];by_cases h:i < 0
      ·simp only[h,if_true]<;>lia
      ·simp only[h,if_false]<;>lia
  · cases hi with
    | none=>simp[sliceBounds,HT.cP]
    | some i =>
      simp only[sliceBounds,HT.cP,Option.getD_none,show(1:Int) > 0 by decide,if_true];by_cases h:i < 0
      ·simp only[h,if_true]<;>lia
      ·simp only[h,if_false]<;>lia
theorem slicePick_cut(aM:List Value)(lo hi:Option Int):slicePick aM.toArray lo hi none=((aM.drop (HT.cP aM.length 0 lo)).take (HT.cP aM.length aM.length hi-HT.cP aM.length 0 lo)).toArray:=by obtain⟨h1,h2,h3⟩:=slice_bounds lo hi aM.toArray.size;unfold slicePick;rw[h1,h2,h3];simp only[sliceRange_one,pick_run,List.size_toArray]<;>rfl
def rSlL(K:PySem.W.Frag):V->Option Int->Option Int->Hp->VK->Prop:=λ x lo hi H Q=>∃a xs,x=.ref a∧i6 K H a xs∧∀p,H p=none->Q (.ref p) (upd H p (.lst (cutV xs lo hi)))
theorem sl_list:SlR X (rSlL X.K):=by intro pins s σ H x v vl vu lo hi sl Q I rx hs pl pu h;obtain⟨a,xs,rfl,hx,q⟩:=h;cases rx;obtain⟨aM,r,ht,hz⟩:=I.list hx;have hlen:=r.length;refine⟨"list",_,slot_list_getitem.lookup,ht.isList.typeIs,?_⟩;refine wpAny_getItem_list_slice ht.isList hs pl pu .none (by simp) ?_ (by rw[List.size_toArray]<;>lia);rw[slicePick_cut,<-hlen];refine⟨.ref s.heap.objs.size,_,I.laid (t':=s.toks) (o:=.lst (cutV xs lo hi)) (λ b ob q=>Heap.get?_push_of_some _ q) (Nat.le_refl _) ?_,rfl,q _ (I.dO.fresh (Nat.le_refl _))⟩;exact⟨Nat.le_trans (cutV_length xs lo hi) hz,_,0,(r.drop (HT.cP xs.length 0 lo)).take (HT.cP xs.length xs.length hi-HT.cP xs.length 0 lo),Heap.get?_push_size _ rfl⟩
theorem iG.or{f:Value}{r r':List V->Hp->VK->Prop}(h:iG X f r)(h':iG X f r'):iG X f (λ xs H Q=>r xs H Q∨r' xs H Q):=by
  intro pins s σ H xs us Q I rs q;rcases q with q | q
  ·exact h pins s σ H xs us Q I rs q
  ·exact h' pins s σ H xs us Q I rs q
theorem call_list_of:iG X (.type "list") (λ xs H Q=>∃p ys,xs=[.ref p]∧(i6 X.K H p ys∨k? X.K H p ys)∧∀l,H l=none->Q (.ref l) (upd H l (.lst ys))):=by
  intro pins s σ H xs us Q I r h;obtain⟨p,ys,rfl,hq,q⟩:=h;obtain⟨u,rfl,rx⟩:=vals1 r;cases rx;have fin:∀(aM:List Value),Vals ys aM->ys.length≤sizeLine->∀(h':Heap)(c':Nat),(∀b o',s.heap.get? b=some o'->h'.get? b=some o') ->
      h'.get? s.heap.objs.size=some { cls:=.type "list",dict:=none,data:=.seq aM.toArray c',slots:=#[] }->EP X pins σ Q (.ref s.heap.objs.size) { s with heap:=h' }:=λ aM r' hz h' c' kp e =>
    ⟨.ref s.heap.objs.size,_,I.laid (t':=s.toks) kp (Nat.le_refl _) (show f7 X.prog X.w _ h' _ (.lst ys)from⟨hz,aM,c',r',e⟩),rfl,q _ (I.dO.fresh (Nat.le_refl _))⟩
  rcases hq with hq | hq
  · obtain⟨aM,r',pl,hz⟩:=I.list hq;have hlen:=r'.length;obtain⟨o,ho,hc,n,hd⟩:=pl.isList;exact call_list_seq p (.inl rfl) ho hc hd (λ h' c' kp e=>fin aM r' hz h' c' kp e) (by simp only[List.size_toArray]<;>lia)
  · obtain⟨aM,r',pl,hz⟩:=I.tuple hq;have hlen:=r'.length;obtain⟨o,ho,hc,n,hd⟩:=pl;exact call_list_seq p (.inr rfl) ho hc hd (λ h' c' kp e=>fin aM r' hz h' c' kp e) (by simp only[List.size_toArray]<;>lia)
theorem call_tuple_of:iG X (.type "tuple") (λ xs H Q=>∃p ys,xs=[.ref p]∧((i6 X.K H p ys∧∀l,H l=none->Q (.ref l) (upd H l (.tup ys)))∨(k? X.K H p ys∧Q (.ref p) H))):=by
  intro pins s σ H xs us Q I r h;obtain⟨p,ys,rfl,h⟩:=h;obtain⟨u,rfl,rx⟩:=vals1 r;cases rx;rcases h with⟨hq,q⟩ | ⟨hq,q⟩
  · obtain⟨aM,r',pl,hz⟩:=I.list hq;have hlen:=r'.length;refine call_tuple_list pl.isList (λ h' kp=>?_) (by simp only[List.size_toArray]<;>lia);have I1:Inv X pins σ H { s with heap:=h' }:=I.kept (t':=s.toks) kp;have I2:Inv X pins σ (upd H h'.objs.size (.tup ys)) { s with heap:=h'.push { cls:=.type "tuple",data:=.seq aM.toArray } } :=
      I1.laid (t':=s.toks) (λ b o e=>Heap.get?_push_of_some _ e) (Nat.le_refl _) (show f7 X.prog X.w _ _ _ (.tup ys)from⟨hz,aM,r',IsTup.new _ _⟩)
    exact⟨.ref h'.objs.size,_,I2,rfl,q _ (I1.dO.fresh (Nat.le_refl _))⟩
  · obtain⟨aM,r',pl,hz⟩:=I.tuple hq;exact call_tuple_same pl ⟨.ref p,H,I,rfl,q⟩
def tyV(K:PySem.W.Frag)(T:String)(x:V)(H:Hp):Prop:=match x with
  | .str _=>T = "str"
  | .int _=>T = "int"
  | .ref p=>(T = "list" ∧ ∃xs,i6 K H p xs)∨(T = "tuple" ∧ ∃o,K.lookup p=some o∧o.cls=.type "tuple" ∧ o.dict=none) ∨
      (T = "dict" ∧ ((∃g0,H p=some (.dK g0))∨∃g0,H p=some (.dT g0)))∨(T = "set" ∧ ∃S n,H p=some (.set S n))
  | _=>False
theorem tyV_is {pins : List (Addr × Obj)} {σ : St} {H : Hp} {s : Shared} {T : String} {x : V} {v : Value} (I : Inv X pins σ H s) (r : RelV x v) (ty : tyV X.K T x H) :
    s.TypeIs v T∧∀a,v=.ref a->∃ob,s.heap.get? a=some ob∧ob.dict=none:=by
  cases x with
  | str z =>obtain⟨t,rfl⟩:=r;cases (show T = "str" from ty);exact⟨typeIs_str s z t,λ _ e=>nomatch e⟩
  | int i =>obtain⟨t,rfl⟩:=r;cases (show T = "int" from ty);exact⟨typeIs_int s i t,λ _ e=>nomatch e⟩
  | ref p =>
    cases r;rcases ty with⟨rfl,xs,hq⟩ | ⟨rfl,o,hk,hc,hd⟩ | ⟨rfl,hk⟩ | ⟨rfl,S,n,hk⟩
    · obtain⟨aM,_,pl,_⟩:=I.list hq;refine⟨pl.isList.typeIs,λ a e=>?_⟩;cases e;obtain⟨o,n,e,c,hd,_⟩:=pl;exact⟨o,e,hd⟩
    · refine⟨⟨o,I.kIn p o hk,hc⟩,λ a e=>?_⟩;cases e;exact⟨o,I.kIn _ o hk,hd⟩
    · have z:∃o,s.heap.get? p=some o∧o.ExactDict:=by
        rcases hk with⟨g0,hk⟩ | ⟨g0,hk⟩
        · obtain⟨_,_,_,_,o,_,_,e,ex,_⟩:=I.dO p _ hk;exact⟨o,e,ex⟩
        · obtain⟨_,_,_,_,o,_,_,e,ex,_⟩:=I.dO p _ hk;exact⟨o,e,ex⟩
      obtain⟨o,e,ex⟩:=z;refine⟨⟨o,e,ex.1⟩,λ a e2=>?_⟩;cases e2;exact⟨o,e,ex.2.1⟩
    · obtain⟨o,_,_,_,e,ex,_⟩:=I.dO p _ hk;refine⟨⟨o,e,ex.1⟩,λ a e2=>?_⟩;cases e2;exact⟨o,e,ex.2.1⟩
  | _=>exact False.elim ty
def tBM(K:PySem.W.Frag)(T:String)(r:V->List V->Hp->VK->Prop)(to:TE)(t:TA):TE:=λ σ H Q=>to σ H λ x H1=>tyV K T x H1∧t σ H1 λ xs H2=>r x xs H2 Q
variable {o e:Expr}{es:List Expr}{to:TE}{t:TA}{name:Str}{apos cpos:Pos}{T id:String}{r:V->List V->Hp->VK->Prop}
theorem pe_bm(pa:PlainAttrs T)(slot:Slot T name id)(hty:typeOf (.builtin id)=pure (.type "method_descriptor"))(hm:MtR X id r)(ho:PE X o to)(ha:PA X (e :: es) t)
    (hbase:attributeBase o name X.env (eval o X.env)=eval o X.env:=by rfl)
    (hfew:((backTo cpos (starEach (e :: es) X.env)).all (λ x=>!x.1)&&(backToKw cpos (keywordEach [] X.env)).all (λ x=>x.1.isSome)
      && decide ((e :: es).length+([]:List Keyword).length+(if([]:List Keyword).isEmpty then 0 else 1) < 30))=true:=by rfl)
    (hline:(apos.endLine==cpos.line)=true:=by rfl) (hs:starEach (e :: es) X.env=(false,eval e X.env) :: starEach es X.env:=by rfl) (hplain:(backTo cpos (starEach es X.env)).any (·.1)=false:=by rfl) :
    PE X (.Call (.Attribute o name apos) (e :: es) [] cpos) (tBM X.K T r to t):=by
  intro pins s σ H Q I h;refine wpAny_Call_method_late hbase hfew hline rfl (du (ho pins s σ H _ I h) λ v s1 ⟨x,H1,I1,r1,ty,q1⟩=>?_);obtain⟨h1,h2⟩:=tyV_is I1 r1 ty;refine⟨T,id,pa,slot,hty,h1,h2,?_⟩;have hA:=ha cpos pins s1 σ H1 _ I1 q1;rw[hs]at hA ⊢;refine Calls.callWith_builtin (by show(false || (backTo cpos (starEach es X.env)).any (·.1))=false;rw[hplain]<;>rfl) (Calls.evalArgs_plain ?_);exact du hA λ us s2 ⟨vs,H2,I2,r2,q2⟩=>hm pins s2 σ H2 x vs v us Q I2 r1 r2 q2
/- xs.append(e),list.index on a module's tuple .. are MtR facts of 06m -/
end
end L2
namespace L2
open PySem PySem.Spec PyProof.Rows
def MtM (X:Cx) (id:String) (r:V->List V->Hp->VK->Prop):Prop :=
  ∀ (pins:List (Addr×Obj)) (s:Shared) (σ:St) (H:Hp) (x:V) (xs:List V) (v:Value) (us:List Value) (Q:VK),Inv X pins σ H s->RelV x v->Vals xs us->r x xs H Q ->
    wpAny (model X.prog X.w) X.A (call (.builtin id) (v :: us)) (EP X pins σ Q) X.xe s
theorem Vals.one:∀{x:V}{us:List Value},Vals [x] us->∃u,us=[u]∧RelV x u
  | _,_,.cons r .nil=>⟨_,rfl,r⟩
theorem Vals.zero:∀{us:List Value},Vals [] us->us=[]
  | _,.nil=>rfl
theorem Vals.eraseIdx:∀{xs:List V}{us:List Value}(i:Nat),Vals xs us->Vals (xs.eraseIdx i) (us.eraseIdx i)
  | _,_,_,.nil=>.nil
  | _,_,0,.cons _ t=>t
  | _,_,i+1,.cons r t=>.cons r (Vals.eraseIdx i t)
theorem Vals.reverse{xs:List V}{us:List Value}(h:Vals xs us):Vals xs.reverse us.reverse:=by
  induction h with
  | nil=>exact .nil
  | cons r t ih=>rw[List.reverse_cons,List.reverse_cons];exact Vals.append ih (.cons r .nil)
theorem Vals.rep{xs:List V}{us:List Value}(h:Vals xs us):∀k:Nat,Vals (List.replicate k xs).flatten (List.replicate k us).flatten
  | 0=>.nil
  | k+1=>by rw[List.replicate_succ,List.replicate_succ,List.flatten_cons,List.flatten_cons];exact Vals.append h (Vals.rep h k)
theorem foldl_rep(aM:List Value):∀(k:Nat)(acc:List Value),
    List.foldl (λ x1 x2=>x1++x2) acc.toArray (List.replicate k aM.toArray)=(acc++(List.replicate k aM).flatten).toArray
  | 0,acc=>by simp
  | k+1,acc=>by
    have e:acc.toArray++aM.toArray=(acc++aM).toArray:=by simp
    have e2:(acc++aM)++(List.replicate k aM).flatten=acc++(List.replicate (k+1) aM).flatten:=by rw[List.replicate_succ,List.flatten_cons,List.append_assoc]
    rw[<-e2,<-foldl_rep aM k (acc++aM),<-e,List.replicate_succ,List.foldl_cons]
section
variable {X:Cx}{pins:List (Addr×Obj)}{σ:St}{H:Hp}{s:Shared}{l b:Addr}{xs ys zs:List V}
theorem Inv.lset{aM its':List Value}{n:Nat}{f:Array Value->Array Value}{t':Nat}(I:Inv X pins σ H s)(hH:H l=some (.lst xs))
    (e:s.heap.get? l=some { cls:=.type "list",data:=.seq aM.toArray n }) (hf:f aM.toArray=its'.toArray) (hv:Vals ys its') (hz:ys.length≤sizeLine) :
    Inv X pins σ (upd H l (.lst ys)) { s with heap:=s.heap.update l (Obj.mapSeq f),toks:=t' }:=by
  have q:=PySem.IsL.update e f;rw[hf]at q;refine I.write (x:=l) (e:=l) (by rw[hH];exact trivial) (.inl rfl) (λ b' u hb hu=>(Heap.get?_update_other s.heap (Obj.mapSeq f) (Ne.symm hb)).trans hu) ⟨_,q⟩ ?_;exact⟨hz,its',_,hv,q⟩
theorem Inv.lnew{aM:List Value}{t':Nat}(I:Inv X pins σ H s)(hv:Vals ys aM)(hz:ys.length≤sizeLine):
    Inv X pins σ (upd H s.heap.objs.size (.lst ys)) { s with heap:=s.heap.push { cls:=.type "list",data:=.seq aM.toArray },toks:=t' } :=
  I.laid (λ _ _ q=>Heap.get?_push_of_some _ q) (Nat.le_refl _) ⟨hz,aM,0,hv,Heap.get?_push_size _ rfl⟩
theorem Inv.fresh(I:Inv X pins σ H s):H s.heap.objs.size=none:=I.dO.fresh (Nat.le_refl _)
theorem Inv.lstM(I:Inv X pins σ H s)(hH:H l=some (.lst xs)):xs.length≤sizeLine∧∃(aM:List Value) (n:Nat),Vals xs aM∧xs.length=aM.length∧s.heap.get? l=some { cls:=.type "list",data:=.seq aM.toArray n }:=by obtain⟨z,aM,n,r,e⟩:=I.dO l _ hH;exact⟨z,aM,n,r,r.length,e⟩
theorem notLongL{n:Nat}(h:n≤sizeLine):Builtin.List.listTooLong n=false:=by unfold Builtin.List.listTooLong;exact decide_eq_false (by lia)
end
section
variable {X:Cx}
def rAppend:V->List V->Hp->VK->Prop:=λ x vs H Q=>∃l xs y,x=.ref l∧vs=[y]∧H l=some (.lst xs)∧xs.length < sizeLine∧Q .non (upd H l (.lst (xs++[y])))
theorem mt_append:MtM X "list.append" rAppend:=by intro pins s σ H x vs v us Q I rx rv h;obtain⟨l,xs,y,rfl,rfl,hH,hz,q⟩:=h;cases rx;obtain⟨u,rfl,ru⟩:=rv.one;obtain⟨z,aM,n,r,hl,e⟩:=I.lstM hH;refine call_meets F.slot_list_append ⟨_,e,rfl⟩ F.entry_list_append (F.args_list_append_2 _ _) (PySem.list_append l aM.toArray n u (by rw[List.size_toArray];lia)) ⟨e,?_⟩;refine⟨.non,_,I.lset (its':=aM++[u]) hH e (by simp) (r.append (.cons ru .nil)) ?_,rfl,q⟩;rw[List.length_append,List.length_singleton];lia
def rExtend:V->List V->Hp->VK->Prop:=λ x vs H Q=>∃l b xs zs,x=.ref l∧vs=[.ref b]∧H l=some (.lst xs)∧H b=some (.lst zs)∧xs.length+zs.length≤sizeLine∧Q .non (upd H l (.lst (xs++zs)))
theorem mt_extend:MtM X "list.extend" rExtend:=by
  intro pins s σ H x vs v us Q I rx rv h;obtain⟨l,b,xs,zs,rfl,rfl,hH,hB,hz,q⟩:=h;cases rx;obtain⟨u,rfl,ru⟩:=rv.one;cases ru;obtain⟨z,aM,n,r,hl,e⟩:=I.lstM hH;obtain⟨z2,dq,n2,r2,hl2,e2⟩:=I.lstM hB;have hsz:aM.toArray.size+dq.toArray.size≤sizeLine:=by rw[List.size_toArray,List.size_toArray];lia
  have hlong:¬(!aM.toArray.isEmpty&&Builtin.List.listTooLong (aM.toArray.size+dq.toArray.size))=true:=by rw[notLongL hsz,Bool.and_false];exact Bool.false_ne_true
  refine call_meets F.slot_list_extend ⟨_,e,rfl⟩ F.entry_list_extend (F.args_list_extend_2 _ _)
    (AutoSeq1.list_extend_list_list_0 l aM.toArray n b dq.toArray n2 hlong (by rw[List.size_toArray];lia) (by lia)) ⟨e,e2,?_⟩
  refine⟨.non,_,I.lset (its':=aM++dq) hH e (by simp) (r.append r2) ?_,rfl,q⟩;rw[List.length_append];lia
def rRep:R2:=λ x y H Q=>∃l k xs,x=.ref l∧y=.int k∧H l=some (.lst xs)∧-(2 ^ 63)≤k∧k < 2 ^ 63∧xs.length*k.toNat≤sizeLine ∧
  ∀p,H p=none->Q (.ref p) (upd H p (.lst (List.replicate k.toNat xs).flatten))
theorem len_rep{α:Type}(xs:List α)(k:Nat):(List.replicate k xs).flatten.length=k*xs.length:=by
  induction k with
  | zero=>simp
  | succ k ih=>rw[List.replicate_succ,List.flatten_cons,List.length_append,ih,Nat.succ_mul,Nat.add_comm]
theorem op_rep:ke X (binaryOp .Mult) rRep:=by
  intro pins s σ H x y v u Q I rx ry h;obtain⟨l,k,xs,rfl,rfl,hH,h1,h2,hz,q⟩:=h;cases rx;obtain⟨t,rfl⟩:=ry;obtain⟨z,aM,n,r,hl,e⟩:=I.lstM hH;have hlen:aM.toArray.size*k.toNat≤sizeLine:=by rw[List.size_toArray,<-hl];exact hz
  have hcap:¬aM.toArray.size*k.toNat > (2 ^ 63-1) / 8:=by
    have:(sizeLine:Nat)≤(2 ^ 63-1) / 8:=by decide
    lia
  have hfit:¬(!Builtin.List.listFitsIndex k)=true:=by rw[fitsIndex_both h1 h2];exact Bool.false_ne_true
  have hlong:¬Builtin.List.listTooLong (aM.toArray.size*k.toNat)=true:=by rw[notLongL hlen];exact Bool.false_ne_true
  have hnew:List.foldl (λ x1 x2=>x1++x2) #[] (List.replicate (if aM.toArray.isEmpty=true then 0 else k.toNat) aM.toArray)=(List.replicate k.toNat aM).flatten.toArray:=by
    have f0:∀m:Nat,List.foldl (λ x1 x2=>x1++x2) #[] (List.replicate m aM.toArray)=(List.replicate m aM).flatten.toArray:=λ m=>by have:=foldl_rep aM m [];rw[List.nil_append]at this;exact this
    rw[f0];cases aM with
    | nil=>simp
    | cons a r'=>rw[if_neg (by simp)]
  refine wpAny_binaryOp_repeat_ref (T := "list") (U := "int") (by decide) ⟨_,e,rfl⟩ (λ s'=>typeIs_int s' k t) noFill_list_mul F.fills_int_mul F.slot_int_rmul repeat_list F.slot_int_index.lookup
    (call_meets F.slot_int_rmul (typeIs_int s k t) F.entry_int_rmul (F.args_int_rmul_2 _ _) (int___rmul___int_list k t l aM.toArray n)
      ⟨e,rfl,⟨_,e,rfl⟩,call_meets F.slot_list_mul ⟨_,e,rfl⟩ F.entry_list_mul (F.args_list_mul_2 _ _) (AutoListH.list___mul___list_int_3 l aM.toArray n k t hfit hcap hlong) ⟨e,?_⟩⟩)
  rw[hnew];exact⟨.ref _,_,I.lnew (t':=s.toks) (r.rep k.toNat) (by rw[len_rep,Nat.mul_comm];exact hz),rfl,q _ I.fresh⟩
end
section
variable {prog:Program}{w:World}{A:Around}{E:Value->Shared->Prop}{s:Shared}
set_option maxRecDepth 100000 in
end
section
variable {X:Cx}
end
end L2
namespace Att
open PySem PySem.W PySem.Calls PyProof.Rows
theorem ints_of_wellAll{P:Params}{h:Heap}:∀(ns:List Int)(vs:List Value),WellAll P h vs (ns.map WData.int)->IntsAre vs ns:=by
  intro ns
  induction ns with
  | nil =>intro vs w;rw[List.map_nil]at w;cases w;exact .nil
  | cons n ns ih =>
    intro vs w;rw[List.map_cons]at w;cases w with
    | cons a b =>cases a;exact .cons _ _ (ih _ b)
theorem script_of{l:OpenLaw}{n:Nat}(hn:l.most=some n){P:Params}{h:Heap}{args:List WData}{vals:List Value}
    (hpre:l.row.toRowW.claim.pre args=true) (hwl:WellAll P h vals args) :
    ∃a vs ns,vals=[Value.ref a]∧args=[WData.list (ns.map WData.int)]∧h.get? a=some { cls:=.type "list",data:=.seq vs.toArray }∧IntsAre vs ns∧ns.length≤n:=by
  have hsh:WShape.hasAll [] args [.list .int]=true:=(pre_splitW hpre).1;have hc:l.pre.holds [] { args:=args }=true:=(pre_splitW hpre).2;obtain⟨d,r,rfl,h1,h2⟩:=hasAllW_cons hsh;obtain rfl:=hasAllW_nil h2;obtain⟨xs,rfl,h3⟩:=hasW_list h1;obtain⟨ns,rfl⟩:=items_int h3;have hlen:ns.length≤n:=by
    unfold OpenLaw.pre at hc;have h4:(WTm.not (.lt (.lit (.int (n:Int))) (.len (.arg 0)))).holds [] { args:=[.list (ns.map .int)] }=true:=by have h4:=(holds_andW hc).1;rw[hn]at h4;exact h4
    have h5:=condW_of h4 (w_not (w_lt w_lit (w_len_list (w_arg rfl))));rw[List.length_map]at h5;refine Nat.le_of_not_lt λ q=>?_;have q':(n:Int) < ((ns.length:Nat):Int):=by lia
    first
      | (rw[decide_eq_true q']at h5;exact absurd h5 (by decide))
      | (simp at h5;lia)
  cases hwl with
  | cons w1 w2 =>
    cases w2;cases w1 with
    | list ho hall=>exact⟨_,_,ns,rfl,rfl,ho,ints_of_wellAll ns _ hall,hlen⟩
theorem post_true(l:OpenLaw)(args:List WData):l.row.toRowW.claim.post args (.bool true) args=true :=
  postW_of (r:=l.row.toRowW) (X:=(true==true))
    (show WShape.has [] (.bool true) .bool=true by first | rfl | decide | simp[WShape.has,WShape.arms,WShape.armsAll])
    (show(WTm.eq .res (.lit (.bool true))).value [] { args:=args,res:=some (.bool true),after:=args }=some (.bool (true==true))from w_eq_bool (w_res rfl) w_lit) rfl
section
variable {prog:Program}{w:World}{A:Around}{E:Value->Shared->Prop}{s:Shared}{K:Frag}
end
end Att
namespace L2
open PySem PySem.Spec PyProof.Rows
theorem vals_ints:∀{vs:List Value}{ns:List Int},IntsAre vs ns->Vals (ns.map V.int) vs
  | _,_,.nil=>.nil
  | _,_,.cons n t h=>.cons ⟨t,rfl⟩ (vals_ints h)
def Only(H:Hp):Prop:=∀b,H b=none∨(∃o xs,H b=some (.fh o (.lst xs)))∨∃q,H b=some (.tbl q)
def TabAt(K:PySem.W.Frag)(x:Str)(b:Addr):Prop:=x∈dm∧∃c,PySem.W.tabIn K x=some (c,b)
theorem lam_one{K:PySem.W.Frag}(one:∀x y c P c' ,x∈dm->y∈dm->PySem.W.tabIn K x=some (c,P)->PySem.W.tabIn K y=some (c',P)->x=y){x y:Str}{b:Addr}(h:TabAt K x b)(g:TabAt K y b):x=y:=by obtain⟨h1,c,h2⟩:=h;obtain⟨g1,d,g2⟩:=g;exact one x y c b d h1 g1 h2 g2
open Classical in
noncomputable def tabH(K:PySem.W.Frag)(a:Addr)(u:HO)(s:Bool):Hp:=λ b=>if h:∃x,TabAt K x b then some (.tbl (lamQ h.choose))else if s=true∧b=a then some u else none
theorem law_call {P : Program} {w : World} {K : PySem.W.Frag} {mg mb : Str -> Option Value} {CX : CXT} {k : Nat} {fa a : Addr} {fd : FuncData} {x : Str} {sp : Sp} {s₁ : Shared} {vs : List Value} {ns : List Int}
    (KX:K.In s₁.heap) (hns:s₁.heap.Ns mainGlobals mg) (hb:s₁.heap.Ns builtinsNs mb) (hbb:∀x:Str,x ≠ "__name__" -> mb x=bootBuiltins x) (hlim:s₁.heap.NoLimit) (hg:s₁.gens=#[])
    (ha:s₁.heap.get? a=some { cls:=.type "list",data:=.seq vs.toArray }) (hi:IntsAre vs ns) (hl:ns.length≤sizeLine) (hr:fH k callerA)
    (F:∀base:Heap,K.In base->base.Ns mainGlobals mg->k_ P w K mg base CX k fa fd [x] sp) (hbind:∀(s:Shared)(u:Value),BindsTo s fd ⟨[u],[]⟩ [(x,u)])
    (hsp:∀H:Hp,Only H->i6 K H a (ns.map V.int)->sp [.ref a] H (λ v _=>v=.bl true) λ _ _ _=>False)
    (hCX:∀H e s',CX [] H s₁ (λ _ _ _=>False) e s'->False)
    (one:∀x y c P c' ,x∈dm->y∈dm->PySem.W.tabIn K x=some (c,P)->PySem.W.tabIn K y=some (c',P)->x=y)
    (tab:∀x∈dm,∀c P,PySem.W.tabIn K x=some (c,P)->(PySem.W.CodeHd s₁.heap c P∧s₁.heap.get? P=some (PySem.W.tabObj #[]))∧s₁.heap.TableAt c P #[]) (bm:BMain mg s₁.heap) (noT:PySem.W.noTabs K=true) :
    codeAny (model P w) callerA (.call (.ref fa) ⟨[.ref a],[]⟩) (λ r s'=>r=.ok (.ret (.bool true))∧OldK s₁.heap s'.heap∧s'.os=s₁.os∧AllBare s'.gens) s₁:=by
  have rv:=vals_ints hi;have lenV:=hi.length;have tabG:∀{b:Addr}{y:Str},TabAt K y b->s₁.heap.get? b=some (PySem.W.tabObj #[]):=λ {b y} ⟨h1,c,h2⟩=>(tab y h1 c b h2).1.2;have notab:∀{b:Addr}{o:Obj},s₁.heap.get? b=some o->o≠PySem.W.tabObj #[]->¬∃y,TabAt K y b:=λ {b o} e n ⟨y,h⟩=>by have:=tabG h;rw[e]at this;exact n (Option.some.inj this)
  have at1:∀{b:Addr}{u:HO}{q:Bool}{y:Str},TabAt K y b->tabH K a u q b=some (.tbl (lamQ y)):=λ {b u q y} h=>by
    have hh:∃x,TabAt K x b:=⟨y,h⟩
    unfold tabH;rw[dif_pos hh];rw[lam_one one hh.choose_spec h]
  have at2:∀{b:Addr}{u:HO}{q:Bool},(¬∃y,TabAt K y b)->tabH K a u q b=if q=true∧b=a then some u else none:=λ {b u q} h=>by unfold tabH;rw[dif_neg h]
  -- from an abstract heap in which nothing but the script and the tables may be tracked
  have core:∀(u:HO)(q:Bool),(∃o xs,u=.fh o (.lst xs))->i6 K (tabH K a u q) a (ns.map V.int)->(q=true->f7 P w (tabH K a u q) s₁.heap a u)->(q=true->K.lookup a=none) ->
      codeAny (model P w) callerA (.call (.ref fa) ⟨[.ref a],[]⟩) (λ r s'=>r=.ok (.ret (.bool true))∧OldK s₁.heap s'.heap∧s'.os=s₁.os∧AllBare s'.gens) s₁:=by
    intro u q hu hS hua hK;generalize hHH:tabH K a u q=H at hS hua;have na:¬∃y,TabAt K y a:=notab ha λ z=>by cases z
    have of:∀{b:Addr}{v:HO},H b=some v->(∃y,TabAt K y b∧v=.tbl (lamQ y))∨(q=true∧b=a∧v=u):=λ {b v} e=>by
      by_cases hb:∃y,TabAt K y b
      · obtain⟨y,hy⟩:=hb;rw[<-hHH,at1 hy]at e;cases e;exact .inl ⟨y,hy,rfl⟩
      · rw[<-hHH,at2 hb]at e;split at e
        · rename_i hc;cases e;exact .inr ⟨hc.1,hc.2,rfl⟩
        ·cases e
    have dO:HOk P w H s₁.heap:=λ b v e=>by
      rcases of e with⟨y,hy,rfl⟩ | ⟨hq,rfl,rfl⟩
      ·exact⟨#[],tabG hy,trivial,λ pos cv z=>nomatch z⟩
      ·exact hua hq
    have hO:Only H:=λ b=>by
      cases e:H b with
      | none=>exact .inl rfl
      | some v =>
        rcases of e with⟨y,_,rfl⟩ | ⟨_,_,rfl⟩
        ·exact .inr (.inr ⟨_,rfl⟩)
        · obtain⟨o,xs,rfl⟩:=hu;exact .inr (.inl ⟨o,xs,rfl⟩)
    have base_of:∀{b:Addr}{o:Obj},s₁.heap.get? b=some o->H b=none->(hidT s₁.heap H).get? b=some o:=λ e n=>hidT_get e n;have noA:∀{b:Addr}{o:Obj},s₁.heap.get? b=some o->(∀xs n,o.data≠.seq xs n)->(∀xs,o.data≠.fields xs∨o.cls≠.none)->H b=none:=λ {b o} e d d2=>by
      cases r:H b with
      | none=>rfl
      | some v =>
        rcases of r with⟨y,hy,_⟩ | ⟨_,hba,_⟩
        · rw[tabG hy]at e;cases e;rcases d2 #[]with z | z
          ·exact absurd rfl z
          ·exact absurd rfl z
        · rw[hba,ha]at e;cases e;exact absurd rfl (d _ _)
    have nsK:∀{b:Addr}{m:Str->Option Value},s₁.heap.Ns b m->(hidT s₁.heap H).Ns b m:=λ {b m} ⟨o,es,ep,e,d,r⟩=>⟨o,es,ep,base_of e (noA e (λ xs n z=>by rw[d]at z;cases z) λ xs=>.inl λ z=>by rw[d]at z;cases z),d,r⟩
    have hKb:K.In (hidT s₁.heap H):=λ b o e=>base_of (KX b o e) (by
      cases r:H b with
      | none=>rfl
      | some v =>
        rcases of r with⟨y,hy,_⟩ | ⟨hq,hba,_⟩
        · have e2:=KX b o e;rw[tabG hy]at e2;cases e2;have h2:=List.all_eq_true.mp noT _ (PySem.W.mem_of_lookupK e);exact absurd (show false=true from h2) Bool.false_ne_true
        ·rw[hba,hK hq]at e;cases e)
    have hM:Mod K mg (hidT s₁.heap H):=⟨hKb,nsK hns,⟨mb,nsK hb,hbb⟩,let ⟨mc,h1,h2⟩:=hlim;⟨mc,nsK h1,h2⟩⟩
    have hT:TabOk K mg (hidT s₁.heap H) H:=λ y hy c p e=>by obtain⟨⟨⟨o,vs,file,tf,flags,tg,inF,text,tt,e1,e2,e3,r⟩,_⟩,_⟩:=tab y hy c p e;obtain⟨bmA,ob,b1,b2,b3,b4,b5,b6⟩:=bm;refine⟨by rw[<-hHH];exact at1 ⟨hy,c,e⟩,⟨o,vs,file,tf,flags,tg,inF,text,tt,base_of e1 (noA e1 (λ xs n z=>by rw[e3]at z;cases z) λ xs=>.inr λ z=>by rw[e2]at z;cases z),e2,e3,r⟩,bmA,ob,b1,b2,base_of b3 (noA b3 (λ xs n z=>by rw[b6]at z;cases z) λ xs=>.inr λ z=>by rw[b4]at z;cases z),b4,b5,b6⟩
    have e0:Env0 P w K mg (hidT s₁.heap H) callerA [] s₁ H:=⟨rfl,hM,λ b o e=>of_hidT e,Nat.le_of_eq (hidT_size _ _),trivial,λ b hb=>absurd (show b∈([]:List Addr)from hb) (by simp),dO,.of_eq hg,hT⟩
    refine codeAny_mono ((F _ hKb (nsK hns)).run callerA [] s₁ H ⟨[.ref a],[]⟩ [.ref a] [.ref a] _ _ hr e0 (hbind s₁ (.ref a)) (.cons rfl .nil) (hsp H hO hS)) λ r s' h=>?_;cases r with
    | error e=>exact(hCX H e s' h).elim
    | ok fl =>
      cases fl with
      | next=>exact False.elim h
      | brk=>exact False.elim h
      | cont=>exact False.elim h
      | ret u' =>
        obtain⟨v,H',os,bare,un,hok',r',q'⟩:=h;have q':v=.bl true:=q';subst q';obtain rfl:u'=Value.bool true:=r';refine⟨rfl,⟨λ b o e=>?_,λ b o e=>un.there b o e (by simp)⟩,os,bare⟩;cases r:H b with
        | none=>exact .inl (un.keep b o e r (by intro z;exact absurd (show b∈([]:List Addr)from z) (by simp)) (by simp))
        | some v =>
          rcases of r with⟨y,hy,rfl⟩ | ⟨_,_,rfl⟩
          · have r2:=un.tbls b (.tbl (lamQ y)) trivial r;obtain⟨ps,g1,_⟩:=hok' b _ r2;obtain⟨h1,c,h2⟩:=hy;have tb:=(tab y h1 c b h2).2;have e3:o={ cls:=.none,data:=.fields #[] }:=Option.some.inj (e.symm.trans tb.2);subst e3;exact .inr (.inl ⟨tb.isCodeTable,rfl,#[],ps,rfl,by rw[g1];simp⟩)
          · obtain⟨ob,xs,rfl⟩:=hu;have z2:=un.frzs b ob _ r;obtain⟨e1,_⟩:=dO b _ r;obtain⟨e2,_⟩:=hok' b _ z2;rw[e]at e1;cases e1;exact .inl e2
  have na:¬∃y,TabAt K y a:=notab ha λ z=>by cases z
  cases hk:K.lookup a with
  | some o =>
    -- the script is one of the module's own objects
    have e:=KX a o hk;rw[ha]at e;cases e;exact core (.fh { cls:=.type "list",data:=.seq vs.toArray } (.lst [])) false ⟨_,_,rfl⟩ (.inr ⟨_,vs.toArray,_,hk,rfl,rfl,rfl,by rw[List.size_toArray,lenV];exact hl,by simpa using rv⟩) (λ z=>nomatch z) λ z=>nomatch z
  | none =>refine core (.fh { cls:=.type "list",data:=.seq vs.toArray } (.lst (ns.map V.int))) true ⟨_,_,rfl⟩ (.inl (.inr ⟨{ cls:=.type "list",data:=.seq vs.toArray },by rw[at2 na];exact if_pos ⟨rfl,rfl⟩⟩)) (λ _=>⟨ha,by rw[List.length_map];exact hl,vs,_,rv,ha⟩) λ _=>hk
end L2
namespace L2
open PySem PySem.Spec PyProof.Rows
def cB(s:Stmt):Arguments:=match s with
  | .FunctionDef _ a _ _ _ _ _ _ _ _=>a
  | _=>{ posonlyargs:=[],args:=[],vararg:=none,kwonlyargs:=[],kw_defaults:=[],kwarg:=none,defaults:=[] }
def bp(s:Stmt):List Stmt:=match s with
  | .FunctionDef _ _ b _ _ _ _ _ _ _=>b
  | _=>[]
def aj(s:Stmt):Scope:=match s with
  | .FunctionDef _ _ _ _ _ _ sc _ _ _=>sc
  | _=>{ kind:=.function,names:=[],isGenerator:=false,isCoroutine:=false }
abbrev CX0:CXT:=λ _ _ _ _ _ _=>False
abbrev E0:XK:=λ _ _ _=>False
theorem pass0{X:Cx}:Passes CX0 X E0:=λ _ _ _ _ _ _ _ h=>h.elim
structure Fun(K:PySem.W.Frag)(x qual:Str)(st:Stmt)(f:Addr)(fd:FuncData):Prop where
  ex:∃(oc:Value)(od:Option Addr)(kV doc pm:Value)(an:Option Addr)(bT ct:Value)(osl:Array (Option Value)),
    fd=PySem.W.fnOf x qual (cB st) (bp st) (aj st) .none kV doc pm an bT ct∧K.lookup f=some ⟨oc,od,.func fd,osl⟩∧PySem.W.codeIn K bT qual=true
  kp:PySem.W.keepIn K (.ref f)=true
section
variable {P:Program}{w:World}{K:PySem.W.Frag}{mg:Str->Option Value}{base:Heap}
theorem Fun.ok{x qual:Str}{st:Stmt}{f:Addr}{fd:FuncData}{N ps:List Str}{k:Nat}{sp:Sp}(F:Fun K x qual st f fd)(S:aF N ps (aj st))(len:∀vs H Q E,sp vs H Q E->vs.length=ps.length)
    (hbody:∀(bT:Value)(A:Around)(outer:List Env)(s:Shared)(H:Hp)(vs:List V)(Q:VK)(E:XK),fH k (A.deeper (envOfC qual (aj st) s.heap.objs.size f bT))->sp vs H Q E ->
      ∃t,PSs (cxOf CX0 P w K mg base N qual (aj st) f bT A outer s H E).nox (bp st) t∧t { nx:=λ _ H'=>Q .non H',rt:=Q } (start N vs) H):k_ P w K mg base CX0 (k+1) f fd ps sp:=by
  obtain⟨oc,od,kV,doc,pm,an,bT,ct,osl,rfl,lk,hcd⟩:=F.ex;refine fn_of lk hcd S len λ A outer s H vs Q E hr hsp=>?_;obtain⟨t,h,q⟩:=hbody bT A outer s H vs Q E hr hsp;exact⟨t,h.nox,q⟩
theorem Fun.binds{x qual:Str}{st:Stmt}{f:Addr}{fd:FuncData}{ps:List Str}(F:Fun K x qual st f fd)
    (h:∀(kV doc pm:Value)(an:Option Addr)(bT ct:Value)(us:List Value),us.length=ps.length->bindArgs (PySem.W.fnOf x qual (cB st) (bp st) (aj st) .none kV doc pm an bT ct) ⟨us,[]⟩=pure (ps.zip us)):Binds K fd ps []:=by
  obtain⟨oc,od,kV,doc,pm,an,bT,ct,osl,rfl,lk,hcd⟩:=F.ex;exact .all (h kV doc pm an bT ct)
theorem fun_mk{x qual:Str}{st:Stmt}{f:Addr}{oc:Value}{od an:Option Addr}{osl:Array (Option Value)}{kV doc pm bT ct:Value}(l:K.lookup f=some ⟨oc,od,.func (PySem.W.fnOf x qual (cB st) (bp st) (aj st) .none kV doc pm an bT ct),osl⟩)
    (c:PySem.W.codeIn K bT qual=true) (k:PySem.W.keepIn K (.ref f)=true):Fun K x qual st f (PySem.W.fnOf x qual (cB st) (bp st) (aj st) .none kV doc pm an bT ct):=⟨⟨oc,od,kV,doc,pm,an,bT,ct,osl,rfl,l,c⟩,k⟩
end
section
variable {X:Cx}
theorem pv(i:Nat){x:Str}{pos:Pos}(hN:X.N[i]?=some x:=by rfl)(hv:Vis X.env.scope x:=by first | exact Or.inl rfl | exact Or.inr (Or.inl rfl) | exact Or.inr (Or.inr rfl))(hd:(x==("__debug__" : Str))=false:=by decide)
    (hcd:(x==("__classdict__" : Str))=false:=by decide):PE X (.Name x pos) (lD i):=pe_var hN hv hd hcd
end
def aD(H H':Hp):Prop:=∀b o,H b=some o->H' b=some o
theorem aD.refl(H:Hp):aD H H:=λ _ _ h=>h
theorem aD.trans{H H1 H2:Hp}(a:aD H H1)(b:aD H1 H2):aD H H2:=λ c o h=>b c o (a c o h)
theorem aD.free{H H':Hp}(e:aD H H'){l:Addr}(h:H' l=Option.none):H l=Option.none:=by
  cases q:H l with
  | none=>rfl
  | some o =>rw[e l o q]at h;cases h
theorem aD.seq{K:PySem.W.Frag}{H H':Hp}{a:Addr}{xs:List V}(e:aD H H')(h:i6 K H a xs):i6 K H' a xs:=by
  rcases h with(h | ⟨o,h⟩) | h
  ·exact .inl (.inl (e _ _ h))
  ·exact .inl (.inr ⟨o,e _ _ h⟩)
  ·exact .inr h
end L2
set_option genSizeOf true
noncomputable section
namespace Z
inductive D where
 | non
 | bl (b:Bool)
 | int (i:Int)
 | str (cs:List Nat)
 | tup (xs:List D)
 | lst (xs:List D)
 | dct (ks:List (Sum Int (List Nat))) (vs:List D)
inductive Res (α:Type) where
 | ok (a:α)
 | bad
namespace Res
def bind{α β:Type}(r:Res α)(f:α->Res β):Res β :=
 match r with
 | ok a=>f a
 | bad=>bad
@[simp] theorem mT{α β:Type}(a:α)(f:α->Res β):(Res.ok a).bind f=f a:=rfl
@[simp] theorem bad_bind{α β:Type}(f:α->Res β):(Res.bad:Res α).bind f=bad:=rfl
def map{α β:Type}(f:α->β)(r:Res α):Res β :=
 match r with
 | ok a=>ok (f a)
 | bad=>bad
@[simp] theorem map_ok{α β:Type}(a:α)(f:α->β):(Res.ok a).map f=ok (f a):=rfl
@[simp] theorem map_bad{α β:Type}(f:α->β):(Res.bad:Res α).map f=bad:=rfl
theorem ao{α β:Type}{r:Res α}{f:α->Res β}{b:β}(h:r.bind f=ok b):∃a,r=ok a∧f a=ok b:=by
 cases r with
 | ok a=>exact⟨a,rfl,h⟩
 | bad=>cases h
end Res
open Classical in
def guard{α:Type}(p:Prop)(r:Res α):Res α:=if p then r else .bad
@[simp] theorem guard_true{α:Type}(r:Res α):guard True r=r:=by unfold guard;exact if_pos trivial
theorem guard_pos{α:Type}{p:Prop}{r:Res α}(h:p):guard p r=r:=by unfold guard;exact if_pos h
theorem iB{α:Type}{p:Prop}{r:Res α}{a:α}(h:guard p r=.ok a):p∧r=.ok a:=by
 unfold guard at h;split at h
 ·rename_i q;exact⟨q,h⟩
 ·cases h
inductive L where
 | val (d:D)
 | own (xs:List D)
 | bor (xs:List D)
 | dc (k:List (List Int) ⊕ List (List Nat×List Nat))
 | fdc (ks:List (List Int))
 | idc (ps:List (Int×Int))
 | exc (c:List Nat×List (List Nat×D))
abbrev L.lU(ks:List (List Int)):L:=.dc (.inl ks)
abbrev DK:=List (List Int) ⊕ List (List Nat×List Nat)
abbrev Env:=List (Option L)
abbrev EF:=Env->Res D
abbrev LF:=Env->Res (List D)
abbrev TF:=Env->Res Bool
abbrev AF:=Env->Res (List D)
inductive Fl where
 | nx (ρ:Env)
 | rt (d:D)
 | bk (ρ:Env)
 | ct (ρ:Env)
abbrev SF:=Env->Res Fl
abbrev GF:=D->Env->Res Env
abbrev line:Nat:=16777216
def eC(d:D)(_:Env):Res D:=.ok d
def eV(i:Nat)(ρ:Env):Res D:=match ρ[i]? with
 | some (some (.val d))=>.ok d
 | _=>.bad
def eW(i:Nat)(ρ:Env):Res D:=match ρ[i]? with
 | some (some (.val d))=>.ok d
 | some (some (.own xs))=>.ok (.lst xs)
 | some (some (.bor xs))=>.ok (.lst xs)
 | _=>.bad
def eB(op:D->D->Res D)(a b:EF)(ρ:Env):Res D:=(a ρ).bind λ x=>(b ρ).bind λ y=>op x y
def eU(op:D->Res D)(a:EF)(ρ:Env):Res D:=(a ρ).bind op
def eAnd(a b:EF)(ρ:Env):Res D:=(a ρ).bind λ x=>match x with
 | .bl c=>if c then b ρ else .ok (.bl false)
 | _=>.bad
def eOr(a b:EF)(ρ:Env):Res D:=(a ρ).bind λ x=>match x with
 | .bl c=>if c then .ok (.bl true)else b ρ
 | _=>.bad
def eNot(a:EF)(ρ:Env):Res D:=(a ρ).bind λ x=>match x with
 | .bl c=>.ok (.bl !c)
 | _=>.bad
def eChain(op op':D->D->Res D)(a b c:EF)(ρ:Env):Res D:=(a ρ).bind λ x=>(b ρ).bind λ y=>(op x y).bind λ z=>match z with
 | .bl k=>if k then(c ρ).bind λ w=>op' y w else .ok (.bl false)
 | _=>.bad
def eIf(t:TF)(a b:EF)(ρ:Env):Res D:=(t ρ).bind λ c=>if c then a ρ else b ρ
def eL(l:LF)(ρ:Env):Res D:=(l ρ).map D.lst
def aC(_:Env):Res (List D):=.ok []
def ab(a:EF)(r:AF)(ρ:Env):Res (List D):=(a ρ).bind λ x=>(r ρ).bind λ xs=>.ok (x :: xs)
def bZ(as:AF)(ρ:Env):Res (List D):=(as ρ).bind λ xs=>guard (xs.length≤line) (.ok xs)
def gN(as:AF)(ρ:Env):Res D:=(as ρ).bind λ xs=>guard (xs.length≤line) (.ok (.tup xs))
def aJ(f:List D->Res D)(as:AF)(ρ:Env):Res D:=(as ρ).bind f
def tE(a:EF)(ρ:Env):Res Bool:=(a ρ).bind λ x=>match x with
 | .bl c=>.ok c
 | _=>.bad
def tAnd(a b:TF)(ρ:Env):Res Bool:=(a ρ).bind λ c=>if c then b ρ else .ok false
def tOr(a b:TF)(ρ:Env):Res Bool:=(a ρ).bind λ c=>if c then .ok true else b ρ
def tNot(a:TF)(ρ:Env):Res Bool:=(a ρ).bind λ c=>.ok !c
def bits(a:Int):Nat:=if a=0 then 0 else a.natAbs.log2+1
def bN:D->D->Res D
 | .int a,.int b=>.ok (.int (a+b))
 | .str a,.str b=>guard (a.length+b.length≤line) (.ok (.str (a++b)))
 | .tup a,.tup b=>guard (a.length+b.length≤line) (.ok (.tup (a++b)))
 | _,_=>.bad
def iJ:D->D->Res D
 | .int a,.int b=>.ok (.int (a-b))
 | _,_=>.bad
def a_(a b:Int):Prop:=((-18446744073709551616 < a∧a < 18446744073709551616)∨(-18446744073709551616 < b∧b < 18446744073709551616)∨(bits a≤16777216∧bits b≤16777216))
def gW:D->D->Res D
 | .int a,.int b=>guard (a_ a b) (.ok (.int (a*b)))
 | _,_=>.bad
def h9(b:Int):Prop:=0 < b∧b < 1809251394333065553493296640760748560207343510400633813116524750123642650624
def oDiv:D->D->Res D
 | .int a,.int b=>guard (h9 b) (.ok (.int (a / b)))
 | _,_=>.bad
def oMod:D->D->Res D
 | .int a,.int b=>guard (0 < b) (.ok (.int (a % b)))
 | _,_=>.bad
def oShr:D->D->Res D
 | .int a,.int b=>guard (0≤b) (.ok (.int (a / 2 ^ b.toNat)))
 | _,_=>.bad
def ki:D->D->Res D
 | .int a,.int b=>guard (0≤b∧b≤1000000∧a.natAbs < 2 ^ 64) (.ok (.int (a ^ b.toNat)))
 | _,_=>.bad
def oNeg:D->Res D
 | .int a=>.ok (.int (-a))
 | _=>.bad
def ltC:List Nat->List Nat->Bool
 | [],[]=>false
 | [],_ :: _=>true
 | _ :: _,[]=>false
 | a :: as,b :: bs=>if a < b then true else if a=b then ltC as bs else false
def oLt:D->D->Res D
 | .int a,.int b=>.ok (.bl (decide (a < b)))
 | _,_=>.bad
def oLe:D->D->Res D
 | .int a,.int b=>.ok (.bl (decide (a≤b)))
 | .str a,.str b=>.ok (.bl (!(ltC b a)))
 | _,_=>.bad
def oGt:D->D->Res D
 | .int a,.int b=>.ok (.bl (decide (b < a)))
 | _,_=>.bad
def oGe:D->D->Res D
 | .int a,.int b=>.ok (.bl (decide (b≤a)))
 | _,_=>.bad
def eqS:D->D->Option Bool
 | .non,.non=>some true
 | .bl a,.bl b=>some (a==b)
 | .bl a,.int b=>some ((if a then 1 else 0)==b)
 | .int a,.bl b=>some (a==(if b then 1 else 0))
 | .int a,.int b=>some (a==b)
 | .str a,.str b=>some (a==b)
 | .non,.bl _=>some false
 | .non,.int _=>some false
 | .non,.str _=>some false
 | .bl _,.non=>some false
 | .bl _,.str _=>some false
 | .int _,.non=>some false
 | .int _,.str _=>some false
 | .str _,.non=>some false
 | .str _,.bl _=>some false
 | .str _,.int _=>some false
 | _,_=>none
def allEq(f:D->D->Option Bool):List D->List D->Option Bool
 | [],[]=>some true
 | [],_ :: _=>some false
 | _ :: _,[]=>some false
 | a :: as,b :: bs=>match f a b,allEq f as bs with
  | some x,some y=>some (x&&y)
  | _,_=>none
def iK:Nat->D->D->Option Bool
 | n+1,.tup a,.tup b=>allEq (iK n) a b
 | n+1,.lst a,.lst b=>allEq (iK n) a b
 | _,.tup _,.lst _=>some false
 | _,.lst _,.tup _=>some false
 | _,.tup _,.non=>some false
 | _,.tup _,.bl _=>some false
 | _,.tup _,.int _=>some false
 | _,.tup _,.str _=>some false
 | _,.non,.tup _=>some false
 | _,.bl _,.tup _=>some false
 | _,.int _,.tup _=>some false
 | _,.str _,.tup _=>some false
 | _,.lst _,.non=>some false
 | _,.lst _,.bl _=>some false
 | _,.lst _,.int _=>some false
 | _,.lst _,.str _=>some false
 | _,.non,.lst _=>some false
 | _,.bl _,.lst _=>some false
 | _,.int _,.lst _=>some false
 | _,.str _,.lst _=>some false
 | _,x,y=>eqS x y
def km:D->D->Option Bool:=iK 6
def oEq(a b:D):Res D:=match km a b with
 | some x=>.ok (.bl x)
 | none=>.bad
def oNe(a b:D):Res D:=match km a b with
 | some x=>.ok (.bl !x)
 | none=>.bad
def oIsN:D->Res D
 | .non=>.ok (.bl true)
 | _=>.ok (.bl false)
def mV:D->Res D
 | .non=>.ok (.bl false)
 | _=>.ok (.bl true)
def oNotInS:D->D->Res D
 | .str [c],.str t=>.ok (.bl (!(t.contains c)))
 | _,_=>.bad
def ka(x:D):List D->Option Bool
 | []=>some false
 | y :: r=>match km y x,ka x r with
  | some a,some b=>some (a || b)
  | _,_=>none
def oIn:D->D->Res D
 | x,.tup ys=>match ka x ys with
  | some b=>.ok (.bl b)
  | none=>.bad
 | x,.lst ys=>match ka x ys with
  | some b=>.ok (.bl b)
  | none=>.bad
 | _,_=>.bad
def oNotIn:D->D->Res D
 | x,.tup ys=>match ka x ys with
  | some b=>.ok (.bl !b)
  | none=>.bad
 | x,.lst ys=>match ka x ys with
  | some b=>.ok (.bl !b)
  | none=>.bad
 | _,_=>.bad
def fF:D->Res D
 | .str t=>guard (t.length≤line) (.ok (.int t.length))
 | .tup xs=>.ok (.int xs.length)
 | .lst xs=>.ok (.int xs.length)
 | _=>.bad
inductive Ty where
 | bool | int | str | tuple | list | dict
def isTy:Ty->D->Bool
 | .bool,.bl _=>true
 | .int,.bl _=>true
 | .int,.int _=>true
 | .str,.str _=>true
 | .tuple,.tup _=>true
 | .list,.lst _=>true
 | .dict,.dct _ _=>true
 | _,_=>false
def oIsTy(t:Ty)(x:D):Res D:=.ok (.bl (isTy t x))
def ixZ(n:Nat)(i:Int):Option Nat:=if 0≤i then(if i < n then some i.toNat else none)else if -(n:Int)≤i then some (i+n).toNat else none
def aY:D->D->Res D
 | .tup xs,.int i=>match (ixZ xs.length i).bind λ j=>xs[j]? with
  | some v=>.ok v
  | none=>.bad
 | .lst xs,.int i=>match (ixZ xs.length i).bind λ j=>xs[j]? with
  | some v=>.ok v
  | none=>.bad
 | .str cs,.int i=>guard (cs.length≤line) (match (ixZ cs.length i).bind λ j=>cs[j]? with
  | some c=>.ok (.str [c])
  | none=>.bad)
 | _,_=>.bad
def cP(n d:Nat):Option Int->Nat
 | none=>d
 | some i=>if i < 0 then(i+n).toNat else min i.toNat n
def cut{α:Type}(xs:List α)(lo hi:Option Int):List α:=(xs.drop (cP xs.length 0 lo)).take (cP xs.length xs.length hi-cP xs.length 0 lo)
abbrev PF:=Env->Res (Option Int)
def pNo(_:Env):Res (Option Int):=.ok none
def pAt(a:EF)(ρ:Env):Res (Option Int):=(a ρ).bind λ x=>match x with
 | .int i=>.ok (some i)
 | _=>.bad
def oSl:D->Option Int->Option Int->Res D
 | .str cs,lo,hi=>guard (cs.length≤line) (.ok (.str (cut cs lo hi)))
 | .tup xs,lo,hi=>.ok (.tup (cut xs lo hi))
 | _,_,_=>.bad
def eSl(a:EF)(lo hi:PF)(ρ:Env):Res D:=(a ρ).bind λ x=>(lo ρ).bind λ l=>(hi ρ).bind λ h=>oSl x l h
def lSl(a:EF)(lo hi:PF)(ρ:Env):Res (List D):=(a ρ).bind λ x=>(lo ρ).bind λ l=>(hi ρ).bind λ h=>match x with
 | .lst xs=>.ok (cut xs l h)
 | _=>.bad
def lCat(a b:EF)(ρ:Env):Res (List D):=(a ρ).bind λ x=>(b ρ).bind λ y=>match x,y with
 | .lst xs,.lst ys=>guard (xs.length+ys.length≤line) (.ok (xs++ys))
 | _,_=>.bad
def allB:List D->Option Bool
 | []=>some true
 | .bl b :: r=>(allB r).map (b&&·)
 | _ :: _=>none
def oAll:D->Res D
 | .lst xs=>match allB xs with
  | some b=>.ok (.bl b)
  | none=>.bad
 | _=>.bad
def kT:D->Res (List D)
 | .tup xs=>.ok xs
 | .lst xs=>.ok xs
 | .str cs=>.ok (cs.map λ c=>.str [c])
 | _=>.bad
def fv(a:EF)(ρ:Env):Res (List D):=(a ρ).bind kT
def da(lo:Int)(n:Nat):List D:=(List.range n).map λ i=>D.int (lo+(i:Nat))
def hU(a:EF)(ρ:Env):Res (List D):=(a ρ).bind λ x=>match x with
 | .int j=>.ok (da 0 j.toNat)
 | _=>.bad
def iRng2(a b:EF)(ρ:Env):Res (List D):=(a ρ).bind λ x=>(b ρ).bind λ y=>match x,y with
 | .int i,.int j=>.ok (da i (j-i).toNat)
 | _,_=>.bad
def bf(i:Nat)(d:D)(ρ:Env):Res Env:=.ok (ρ.set i (some (.val d)))
def gg:List Nat->List D->Env->Res Env
 | [],[],ρ=>.ok ρ
 | i :: is,d :: ds,ρ=>gg is ds (ρ.set i (some (.val d)))
 | _,_,_=>.bad
def fG(is:List Nat)(d:D)(ρ:Env):Res Env:=match d with
 | .tup ds=>gg is ds ρ
 | _=>.bad
def lW(ρ:Env)(i:Nat):Option L:=match ρ[i]? with
 | some (some (.val d))=>some (.val d)
 | some (some (.bor xs))=>some (.bor xs)
 | some (some (.fdc ks))=>some (.fdc ks)
 | _=>none
def jd(ρ:Env)(is:List Nat):Env:=is.map (lW ρ)
def dh(g:GF)(t:TF)(e:EF)(ρ:Env):List D->Res (List D)
 | []=>.ok []
 | d :: r=>(g d ρ).bind λ ρ1=>(t ρ1).bind λ c=>if c then(e ρ1).bind λ y=>(dh g t e ρ r).bind λ ys=>.ok (y :: ys)else dh g t e ρ r
def bP(it:LF)(n:Nat)(is:List Nat)(g:GF)(t:TF)(e:EF)(ρ:Env):Res (List D):=(it ρ).bind λ ds=>guard (ds.length≤line) (dh g t e (List.replicate n none++jd ρ is) ds)
def eK(_:Env):Res Bool:=.ok true
def dR(ρ:Env):Res Fl:=.ok (.nx ρ)
def aI(a b:SF)(ρ:Env):Res Fl:=(a ρ).bind λ fl=>match fl with
 | .nx ρ'=>b ρ'
 | o=>.ok o
def bg(i:Nat)(e:EF)(ρ:Env):Res Fl:=(e ρ).bind λ d=>.ok (.nx (ρ.set i (some (.val d))))
def kh(i:Nat)(e:LF)(ρ:Env):Res Fl:=(e ρ).bind λ xs=>.ok (.nx (ρ.set i (some (.own xs))))
def sGet(e:EF)(g:GF)(ρ:Env):Res Fl:=(e ρ).bind λ d=>(g d ρ).bind λ ρ'=>.ok (.nx ρ')
def sIf(t:TF)(a b:SF)(ρ:Env):Res Fl:=(t ρ).bind λ c=>if c then a ρ else b ρ
def bY(e:EF)(ρ:Env):Res Fl:=(e ρ).bind λ d=>.ok (.rt d)
def sRetN(_:Env):Res Fl:=.ok (.rt .non)
def sBreak(ρ:Env):Res Fl:=.ok (.bk ρ)
def sCont(ρ:Env):Res Fl:=.ok (.ct ρ)
def fh(i:Nat)(ρ:Env):Env:=match ρ[i]? with
 | some (some (.own xs))=>ρ.set i (some (.val (.lst xs)))
 | _=>ρ
def sFrz(i:Nat)(a:SF)(ρ:Env):Res Fl:=a (fh i ρ)
def de(i:Nat)(e:EF)(ρ:Env):Res Fl:=(e ρ).bind λ d=>match ρ[i]? with
 | some (some (.own xs))=>guard (xs.length < line) (.ok (.nx (ρ.set i (some (.own (xs++[d]))))))
 | _=>.bad
def eX(g:GF)(b:SF):List D->Env->Res Fl
 | [],ρ=>.ok (.nx ρ)
 | d :: r,ρ=>(g d ρ).bind λ ρ1=>(b ρ1).bind λ fl=>match fl with
  | .nx ρ'=>eX g b r ρ'
  | .ct ρ'=>eX g b r ρ'
  | .bk ρ'=>.ok (.nx ρ')
  | .rt d=>.ok (.rt d)
def gJ(it:LF)(g:GF)(b:SF)(ρ:Env):Res Fl:=(it ρ).bind λ ds=>eX g b ds ρ
def start(n:Nat)(ds:List D):Env:=ds.map (λ d=>some (.val d))++List.replicate (n-ds.length) none
def fn(ps n:Nat)(b:SF)(ds:List D):Res D:=if ds.length=ps then(match b (start n ds)with
 | .ok (.rt d)=>.ok d
 | .ok (.nx _)=>.ok .non
 | _=>.bad)else .bad
def lent:Bool->D->L
 | true,.lst xs=>.bor xs
 | _,d=>.val d
def startB(n:Nat)(bs:List Bool)(ds:List D):Env:=(List.zipWith (λ b d=>some (lent b d)) bs ds)++List.replicate (n-ds.length) none
def fnB(bs:List Bool)(n:Nat)(b:SF)(ds:List D):Res D:=if ds.length=bs.length then(match b (startB n bs ds)with
 | .ok (.rt d)=>.ok d
 | .ok (.nx _)=>.ok .non
 | _=>.bad)else .bad
end Z
end
set_option genSizeOf false
noncomputable section
namespace Z
@[simp] theorem eC_a(d:D)(ρ:Env):eC d ρ=.ok d:=rfl
@[simp] theorem eB_a(o:D->D->Res D)(a b:EF)(ρ:Env):eB o a b ρ=(a ρ).bind λ x=>(b ρ).bind λ y=>o x y:=rfl
@[simp] theorem eU_a(o:D->Res D)(a:EF)(ρ:Env):eU o a ρ=(a ρ).bind o:=rfl
@[simp] theorem eL_a(l:LF)(ρ:Env):eL l ρ=(l ρ).map D.lst:=rfl
@[simp] theorem aNil_a(ρ:Env):aC ρ=.ok []:=rfl
@[simp] theorem aCons_a(a:EF)(r:AF)(ρ:Env):ab a r ρ=(a ρ).bind λ x=>(r ρ).bind λ xs=>.ok (x :: xs):=rfl
@[simp] theorem eCall_a(f:List D->Res D)(as:AF)(ρ:Env):aJ f as ρ=(as ρ).bind f:=rfl
@[simp] theorem sNext_a(ρ:Env):dR ρ=.ok (.nx ρ):=rfl
@[simp] theorem sSet_a(i:Nat)(e:EF)(ρ:Env):bg i e ρ=(e ρ).bind λ d=>.ok (.nx (ρ.set i (some (.val d)))):=rfl
@[simp] theorem sOwn_a(i:Nat)(e:LF)(ρ:Env):kh i e ρ=(e ρ).bind λ d=>.ok (.nx (ρ.set i (some (.own d)))):=rfl
@[simp] theorem sRet_a(e:EF)(ρ:Env):bY e ρ=(e ρ).bind λ d=>.ok (.rt d):=rfl
@[simp] theorem sRetN_a(ρ:Env):sRetN ρ=.ok (.rt .non):=rfl
@[simp] theorem sIf_a(t:TF)(a b:SF)(ρ:Env):sIf t a b ρ=(t ρ).bind λ c=>if c then a ρ else b ρ:=rfl
@[simp] theorem eIf_a(t:TF)(a b:EF)(ρ:Env):eIf t a b ρ=(t ρ).bind λ c=>if c then a ρ else b ρ:=rfl
@[simp] theorem sFor_a(it:LF)(g:GF)(b:SF)(ρ:Env):gJ it g b ρ=(it ρ).bind λ ds=>eX g b ds ρ:=rfl
def seqK(b:SF):Fl->Res Fl
 | .nx ρ'=>b ρ'
 | o=>.ok o
@[simp] theorem sSeq_a(a b:SF)(ρ:Env):aI a b ρ=(a ρ).bind (seqK b):=rfl
@[simp] theorem seqK_nx(b:SF)(ρ:Env):seqK b (.nx ρ)=b ρ:=rfl
@[simp] theorem seqK_rt(b:SF)(d:D):seqK b (.rt d)=.ok (.rt d):=rfl
@[simp] theorem seqK_bk(b:SF)(ρ:Env):seqK b (.bk ρ)=.ok (.bk ρ):=rfl
@[simp] theorem seqK_ct(b:SF)(ρ:Env):seqK b (.ct ρ)=.ok (.ct ρ):=rfl
def truK:D->Res Bool
 | .bl c=>.ok c
 | _=>.bad
@[simp] theorem tE_a(a:EF)(ρ:Env):tE a ρ=(a ρ).bind truK:=rfl
@[simp] theorem truK_bl(c:Bool):truK (.bl c)=.ok c:=rfl
@[simp] theorem tTrue_a(ρ:Env):eK ρ=.ok true:=rfl
@[simp] theorem tAnd_a(a b:TF)(ρ:Env):tAnd a b ρ=(a ρ).bind λ c=>if c then b ρ else .ok false:=rfl
@[simp] theorem tOr_a(a b:TF)(ρ:Env):tOr a b ρ=(a ρ).bind λ c=>if c then .ok true else b ρ:=rfl
@[simp] theorem tNot_a(a:TF)(ρ:Env):tNot a ρ=(a ρ).bind λ c=>.ok !c:=rfl
def boolK(f:Bool->Res D):D->Res D
 | .bl c=>f c
 | _=>.bad
@[simp] theorem boolK_bl(f:Bool->Res D)(c:Bool):boolK f (.bl c)=f c:=rfl
@[simp] theorem eAnd_a(a b:EF)(ρ:Env):eAnd a b ρ=(a ρ).bind (boolK λ c=>if c then b ρ else .ok (.bl false)):=rfl
@[simp] theorem eOr_a(a b:EF)(ρ:Env):eOr a b ρ=(a ρ).bind (boolK λ c=>if c then .ok (.bl true)else b ρ):=rfl
@[simp] theorem eNot_a(a:EF)(ρ:Env):eNot a ρ=(a ρ).bind (boolK λ c=>.ok (.bl !c)):=rfl
@[simp] theorem eChain_a(o o':D->D->Res D)(a b c:EF)(ρ:Env):eChain o o' a b c ρ=(a ρ).bind λ x=>(b ρ).bind λ y=>(o x y).bind (boolK λ k=>if k then(c ρ).bind λ w=>o' y w else .ok (.bl false)):=rfl
@[simp] theorem oAdd_int(a b:Int):bN (.int a) (.int b)=.ok (.int (a+b)):=rfl
@[simp] theorem oSub_int(a b:Int):iJ (.int a) (.int b)=.ok (.int (a-b)):=rfl
@[simp] theorem oMul_int(a b:Int):gW (.int a) (.int b)=guard (a_ a b) (.ok (.int (a*b))):=rfl
@[simp] theorem oDiv_int(a b:Int):oDiv (.int a) (.int b)=guard (h9 b) (.ok (.int (a / b))):=rfl
@[simp] theorem oMod_int(a b:Int):oMod (.int a) (.int b)=guard (0 < b) (.ok (.int (a % b))):=rfl
@[simp] theorem oShr_int(a b:Int):oShr (.int a) (.int b)=guard (0≤b) (.ok (.int (a / 2 ^ b.toNat))):=rfl
@[simp] theorem oLt_int(a b:Int):oLt (.int a) (.int b)=.ok (.bl (decide (a < b))):=rfl
@[simp] theorem oLe_int(a b:Int):oLe (.int a) (.int b)=.ok (.bl (decide (a≤b))):=rfl
@[simp] theorem oLe_str(a b:List Nat):oLe (.str a) (.str b)=.ok (.bl (!(ltC b a))):=rfl
@[simp] theorem oGt_int(a b:Int):oGt (.int a) (.int b)=.ok (.bl (decide (b < a))):=rfl
@[simp] theorem oGe_int(a b:Int):oGe (.int a) (.int b)=.ok (.bl (decide (b≤a))):=rfl
@[simp] theorem oEq_int(a b:Int):oEq (.int a) (.int b)=.ok (.bl (a==b)):=rfl
@[simp] theorem oEq_bl(a b:Bool):oEq (.bl a) (.bl b)=.ok (.bl (a==b)):=rfl
@[simp] theorem oEq_str(a b:List Nat):oEq (.str a) (.str b)=.ok (.bl (a==b)):=rfl
@[simp] theorem oNe_int(a b:Int):oNe (.int a) (.int b)=.ok (.bl (!(a==b))):=rfl
@[simp] theorem oNe_bl(a b:Bool):oNe (.bl a) (.bl b)=.ok (.bl (!(a==b))):=rfl
@[simp] theorem oNe_str(a b:List Nat):oNe (.str a) (.str b)=.ok (.bl (!(a==b))):=rfl
@[simp] theorem oLen_str(a:List Nat):fF (.str a)=guard (a.length≤line) (.ok (.int a.length)):=rfl
@[simp] theorem oLen_tup(a:List D):fF (.tup a)=.ok (.int a.length):=rfl
@[simp] theorem oLen_lst(a:List D):fF (.lst a)=.ok (.int a.length):=rfl
@[simp] theorem oIsTy_a(t:Ty)(x:D):oIsTy t x=.ok (.bl (isTy t x)):=rfl
@[simp] theorem pNo_a(ρ:Env):pNo ρ=.ok none:=rfl
def intK:D->Res (Option Int)
 | .int i=>.ok (some i)
 | _=>.bad
@[simp] theorem intK_int(i:Int):intK (.int i)=.ok (some i):=rfl
@[simp] theorem pAt_a(a:EF)(ρ:Env):pAt a ρ=(a ρ).bind intK:=rfl
@[simp] theorem eSl_a(a:EF)(lo hi:PF)(ρ:Env):eSl a lo hi ρ=(a ρ).bind λ x=>(lo ρ).bind λ l=>(hi ρ).bind λ h=>oSl x l h:=rfl
@[simp] theorem iSeq_a(a:EF)(ρ:Env):fv a ρ=(a ρ).bind kT:=rfl
def rng1K:D->Res (List D)
 | .int j=>.ok (da 0 j.toNat)
 | _=>.bad
@[simp] theorem iRng1_a(a:EF)(ρ:Env):hU a ρ=(a ρ).bind rng1K:=rfl
@[simp] theorem rng1K_int(j:Int):rng1K (.int j)=.ok (da 0 j.toNat):=rfl
def rng2K:D->D->Res (List D)
 | .int i,.int j=>.ok (da i (j-i).toNat)
 | _,_=>.bad
@[simp] theorem iRng2_a(a b:EF)(ρ:Env):iRng2 a b ρ=(a ρ).bind λ x=>(b ρ).bind λ y=>rng2K x y:=rfl
@[simp] theorem rng2K_int(i j:Int):rng2K (.int i) (.int j)=.ok (da i (j-i).toNat):=rfl
@[simp] theorem iterD_tup(xs:List D):kT (.tup xs)=.ok xs:=rfl
@[simp] theorem iterD_lst(xs:List D):kT (.lst xs)=.ok xs:=rfl
@[simp] theorem iterD_str(cs:List Nat):kT (.str cs)=.ok (cs.map λ c=>.str [c]):=rfl
@[simp] theorem gName_a(i:Nat)(d:D)(ρ:Env):bf i d ρ=.ok (ρ.set i (some (.val d))):=rfl
theorem bI(it:LF)(n:Nat)(is:List Nat)(g:GF)(t:TF)(e:EF)(ρ:Env):bP it n is g t e ρ=(it ρ).bind λ ds=>guard (ds.length≤line) (dh g t e (List.replicate n none++jd ρ is) ds):=rfl
@[simp] theorem lDisp_a(as:AF)(ρ:Env):bZ as ρ=(as ρ).bind λ xs=>guard (xs.length≤line) (.ok xs):=rfl
@[simp] theorem eTup_a(as:AF)(ρ:Env):gN as ρ=(as ρ).bind λ xs=>guard (xs.length≤line) (.ok (.tup xs)):=rfl
def bU:Res Fl->Res D
 | .ok (.rt d)=>.ok d
 | .ok (.nx _)=>.ok .non
 | _=>.bad
@[simp] theorem retK_rt(d:D):bU (.ok (.rt d))=.ok d:=rfl
@[simp] theorem retK_nx(ρ:Env):bU (.ok (.nx ρ))=.ok .non:=rfl
theorem dC(ps n:Nat)(b:SF)(ds:List D)(h:ds.length=ps):fn ps n b ds=bU (b (start n ds)):=by
 unfold fn;rw[if_pos h];cases b (start n ds)with
 | bad=>rfl
 | ok f=>cases f<;>rfl
theorem cI{a b:Int}(h1:-18446744073709551616 < a)(h2:a < 18446744073709551616):a_ a b:=by unfold a_;exact .inl ⟨h1,h2⟩
theorem gf{a b:Int}(h1:-18446744073709551616 < b)(h2:b < 18446744073709551616):a_ a b:=by unfold a_;exact .inr (.inl ⟨h1,h2⟩)
theorem bj{b:Int}(h0:0 < b)(h:b < 1809251394333065553493296640760748560207343510400633813116524750123642650624):h9 b:=by exact⟨h0,h⟩
theorem ix_str{cs:List Nat}{i:Int}(h0:0≤i)(h1:i < cs.length)(hl:cs.length≤line):∃c∈cs,aY (.str cs) (.int i)=.ok (.str [c]):=by
 have hj:i.toNat < cs.length:=by lia
 refine⟨cs[i.toNat],List.getElem_mem hj,?_⟩;simp[aY,hl,ixZ,h0,h1,hj]
@[simp] theorem fP(lo:Int)(n:Nat):(da lo n).length=n:=by simp[da]
theorem cut_len{α:Type}(xs:List α)(lo hi:Option Int):(cut xs lo hi).length≤xs.length:=by unfold cut;rw[List.length_take,List.length_drop];lia
theorem mem_cut{α:Type}{xs:List α}{lo hi:Option Int}{x:α}(h:x∈cut xs lo hi):x∈xs:=List.mem_of_mem_drop (List.mem_of_mem_take h)
@[simp] theorem lSl_a(xs:List D)(a:EF)(lo hi:PF)(ρ:Env)(h:a ρ=.ok (.lst xs)):lSl a lo hi ρ=(lo ρ).bind λ l=>(hi ρ).bind λ h=>.ok (cut xs l h):=by unfold lSl;rw[h];rfl
theorem compGo_map{g:GF}{e:EF}{ρ:Env}{h:D->D}:∀(ds:List D),(∀d∈ds,(g d ρ).bind e=.ok (h d))->dh g eK e ρ ds=.ok (ds.map h)
 | [],_=>rfl
 | d :: ds,k=>by have h1:=k d List.mem_cons_self;have h2:=compGo_map ds (λ x hx=>k x (List.mem_cons_of_mem _ hx));obtain⟨ρ1,e1,e2⟩:=Res.ao h1;simp[dh,e1,eK,e2,h2]
theorem lV{g:GF}{t:TF}{e:EF}{ρ:Env}{p:D->Bool}{h:D->D}:∀(ds:List D),(∀d∈ds,∃ρ1,g d ρ=.ok ρ1∧t ρ1=.ok (p d)∧(p d=true->e ρ1=.ok (h d)))->dh g t e ρ ds=.ok ((ds.filter p).map h)
 | [],_=>rfl
 | d :: ds,k=>by
  obtain⟨ρ1,e1,e2,e3⟩:=k d List.mem_cons_self;have h2:=lV ds (λ x hx=>k x (List.mem_cons_of_mem _ hx));cases hp:p d with
  | true=>simp[dh,e1,e2,hp,e3 hp,h2]
  | false=>simp[dh,e1,e2,hp,h2]
theorem allB_bl:∀(bs:List Bool),allB (bs.map D.bl)=some (bs.all id)
 | []=>rfl
 | b :: bs=>by simp[allB,allB_bl bs]
@[simp high] theorem gt0{α:Type _}(a:α)(l:List α):(a :: l)[0]?=some a:=rfl
@[simp high] theorem gtS{α:Type _}(a:α)(l:List α)(n:Nat):(a :: l)[n+1]?=l[n]?:=rfl
@[simp high] theorem st0{α:Type _}(a x:α)(l:List α):(a :: l).set 0 x=x :: l:=rfl
@[simp high] theorem stS{α:Type _}(a x:α)(l:List α)(n:Nat):(a :: l).set (n+1) x=a :: l.set n x:=rfl
end Z
end
set_option maxHeartbeats 4000000
namespace ZS
open PySem PySem.Spec PyProof.Rows L2
abbrev St:=L2.St
def keyZ:Sum Int (List Nat)->Key
 | .inl i=>.inl i
 | .inr cs=>.inr ⟨cs.toArray⟩
def FzL(K:PySem.W.Frag)(H:Hp)(a:Addr)(xs:List V):Prop :=
 (∃ o,H a=some (.fh o (.lst xs))) ∨
  ∃(o:Obj) (aM:Array Value) (n:Nat),K.lookup a=some o∧o.cls=.type "list" ∧ o.dict=none∧o.data=.seq aM n∧aM.size≤sizeLine∧Vals xs aM.toList
theorem FzL.sq{K:PySem.W.Frag}{H:Hp}{a:Addr}{xs:List V}(h:FzL K H a xs):i6 K H a xs:=by
 rcases h with⟨o,h⟩ | h
 ·exact .inl (.inr ⟨o,h⟩)
 ·exact .inr h
structure i5(H H':Hp):Prop where
 tup:∀a xs,H a=some (.tup xs)->H' a=some (.tup xs)
 fh:∀a o u,H a=some (.fh o u)->H' a=some (.fh o u)
theorem i5.refl(H:Hp):i5 H H:=⟨λ _ _ h=>h,λ _ _ _ h=>h⟩
theorem i5.trans{H H1 H2:Hp}(a:i5 H H1)(b:i5 H1 H2):i5 H H2:=⟨λ c xs h=>b.tup c xs (a.tup c xs h),λ c o u h=>b.fh c o u (a.fh c o u h)⟩
theorem stb{H H':Hp}(s:aD H H'):i5 H H':=⟨λ _ _ h=>s _ _ h,λ _ _ _ h=>s _ _ h⟩
theorem stb_upd{H:Hp}{p:Addr}{o u:HO}(h:H p=some o)(n1:∀xs,o≠.tup xs)(n2:∀ob x,o≠.fh ob x):i5 H (upd H p u) :=
 ⟨λ a xs e=>by rw[aK (by rintro rfl;rw[h]at e;exact n1 xs (Option.some.inj e))];exact e,λ a ob x e=>by rw[aK (by rintro rfl;rw[h]at e;exact n2 ob x (Option.some.inj e))];exact e⟩
theorem iL{H:Hp}{p:Addr}{xs:List V}{u:HO}(h:H p=some (.lst xs)):i5 H (upd H p u):=stb_upd h (λ _ z=>nomatch z) (λ _ _ z=>nomatch z)
theorem FzL.mono{K:PySem.W.Frag}{H H':Hp}{a:Addr}{xs:List V}(e:i5 H H')(h:FzL K H a xs):FzL K H' a xs:=by
 rcases h with⟨o,h⟩ | h
 ·exact .inl ⟨o,e.fh _ _ _ h⟩
 ·exact .inr h
theorem gI{K:PySem.W.Frag}{H H':Hp}{a:Addr}{xs:List V}(e:i5 H H')(h:k? K H a xs):k? K H' a xs:=by
 rcases h with(h | ⟨o,h⟩) | h
 ·exact .inl (.inl (e.tup _ _ h))
 ·exact .inl (.inr ⟨o,e.fh _ _ _ h⟩)
 ·exact .inr h
mutual
def Den(K:PySem.W.Frag)(H:Hp):Z.D->V->Prop
 | .non,v=>v=.non
 | .bl b,v=>v=.bl b
 | .int i,v=>v=.int i
 | .str cs,v=>v=.str ⟨cs.toArray⟩
 | .tup ds,v=>∃a vs,v=.ref a∧k? K H a vs∧ax K H ds vs
 | .lst ds,v=>∃a vs,v=.ref a∧FzL K H a vs∧ax K H ds vs
 | .dct ks ds,v=>∃a o g0,v=.ref a∧H a=some (.fh o (.dK g0))∧g0.map (·.1)=ks.map keyZ∧ax K H ds (g0.map (·.2))
def ax(K:PySem.W.Frag)(H:Hp):List Z.D->List V->Prop
 | [],vs=>vs=[]
 | d :: ds,vs=>∃v r,vs=v :: r∧Den K H d v∧ax K H ds r
end
section
variable {K:PySem.W.Frag}{H H':Hp}
mutual
theorem Den.mono(e:i5 H H'):∀(d:Z.D)(v:V),Den K H d v->Den K H' d v
 | .non,v,h=>by simp only[Den]at h ⊢;exact h
 | .bl b,v,h=>by simp only[Den]at h ⊢;exact h
 | .int i,v,h=>by simp only[Den]at h ⊢;exact h
 | .str cs,v,h=>by simp only[Den]at h ⊢;exact h
 | .tup ds,v,h=>by simp only[Den]at h ⊢;obtain⟨a,vs,e1,q,r⟩:=h;exact⟨a,vs,e1,gI e q,ax.mono e ds vs r⟩
 | .lst ds,v,h=>by simp only[Den]at h ⊢;obtain⟨a,vs,e1,q,r⟩:=h;exact⟨a,vs,e1,q.mono e,ax.mono e ds vs r⟩
 | .dct ks ds,v,h=>by simp only[Den]at h ⊢;obtain⟨a,o,g0,e1,q,k,r⟩:=h;exact⟨a,o,g0,e1,e.fh _ _ _ q,k,ax.mono e ds _ r⟩
theorem ax.mono(e:i5 H H'):∀(ds:List Z.D)(vs:List V),ax K H ds vs->ax K H' ds vs
 | [],vs,h=>by simp only[ax]at h ⊢;exact h
 | d :: ds,vs,h=>by simp only[ax]at h ⊢;obtain⟨v,r,e1,q,t⟩:=h;exact⟨v,r,e1,Den.mono e d v q,ax.mono e ds r t⟩
end
theorem Den.up{d:Z.D}{v:V}(h:Den K H d v)(e:aD H H'):Den K H' d v:=Den.mono (stb e) d v h
theorem Den.ups{d:Z.D}{v:V}(h:Den K H d v)(e:i5 H H'):Den K H' d v:=Den.mono e d v h
theorem ax.ups{ds:List Z.D}{vs:List V}(h:ax K H ds vs)(e:i5 H H'):ax K H' ds vs:=ax.mono e ds vs h
theorem ax.up{ds:List Z.D}{vs:List V}(h:ax K H ds vs)(e:aD H H'):ax K H' ds vs:=ax.mono (stb e) ds vs h
theorem ax.nil:ax K H [] []:=by simp only[ax]
theorem ax.cons{d:Z.D}{ds:List Z.D}{v:V}{vs:List V}(h:Den K H d v)(t:ax K H ds vs):ax K H (d :: ds) (v :: vs):=by simp only[ax];exact⟨v,vs,rfl,h,t⟩
theorem ax.length:∀{ds:List Z.D}{vs:List V},ax K H ds vs->vs.length=ds.length
 | [],vs,h=>by simp only[ax]at h;subst h;rfl
 | d :: ds,vs,h=>by simp only[ax]at h;obtain⟨v,r,rfl,_,t⟩:=h;simp[ax.length t]
theorem ax.get:∀{ds:List Z.D}{vs:List V}{i:Nat}{d:Z.D},ax K H ds vs->ds[i]?=some d->∃v,vs[i]?=some v∧Den K H d v
 | [],_,_,_,_,e=>by simp at e
 | x :: ds,vs,0,d,h,e=>by simp only[ax]at h;obtain⟨v,r,rfl,q,_⟩:=h;simp at e;subst e;exact⟨v,rfl,q⟩
 | x :: ds,vs,i+1,d,h,e=>by simp only[ax]at h;obtain⟨v,r,rfl,_,t⟩:=h;obtain⟨u,h1,h2⟩:=ax.get (i:=i) t (by simpa using e);exact⟨u,by simpa using h1,h2⟩
theorem ax.append:∀{ds es:List Z.D}{vs us:List V},ax K H ds vs->ax K H es us->ax K H (ds++es) (vs++us)
 | [],_,_,_,h,g=>by simp only[ax]at h;subst h;exact g
 | d :: ds,es,vs,us,h,g=>by simp only[ax]at h;obtain⟨v,r,rfl,q,t⟩:=h;exact ax.cons q (ax.append t g)
theorem ax.drop:∀{ds:List Z.D}{vs:List V}(n:Nat),ax K H ds vs->ax K H (ds.drop n) (vs.drop n)
 | _,_,0,h=>by simpa using h
 | [],vs,_+1,h=>by simp only[ax]at h;subst h;simpa using ax.nil
 | d :: ds,vs,n+1,h=>by simp only[ax]at h;obtain⟨v,r,rfl,q,t⟩:=h;simpa using ax.drop n t
theorem ax.take:∀{ds:List Z.D}{vs:List V}(n:Nat),ax K H ds vs->ax K H (ds.take n) (vs.take n)
 | _,_,0,h=>by simpa using ax.nil
 | [],vs,_+1,h=>by simp only[ax]at h;subst h;simpa using ax.nil
 | d :: ds,vs,n+1,h=>by simp only[ax]at h;obtain⟨v,r,rfl,q,t⟩:=h;simpa using ax.cons q (ax.take n t)
theorem ax.da:∀(ns:List Int),ax K H (ns.map Z.D.int) (ns.map V.int)
 | []=>ax.nil
 | n :: ns=>ax.cons (by simp only[Den]) (ax.da ns)
def aZ(K:PySem.W.Frag)(H:Hp)(d:Z.D)(v:V):Prop:=Den K H d v∨∃ds a vs,d=.lst ds∧v=.ref a∧H a=some (.lst vs)∧ax K H ds vs
theorem aZ.up{d:Z.D}{v:V}(h:aZ K H d v)(e:aD H H'):aZ K H' d v:=by
 rcases h with h | ⟨ds,a,vs,e1,e2,q,t⟩
 ·exact .inl (h.up e)
 ·exact .inr ⟨ds,a,vs,e1,e2,e _ _ q,t.up e⟩
theorem aZ.gT{d:Z.D}{v:V}(h:aZ K H d v)(n:∀ds,d≠.lst ds):Den K H d v:=by
 rcases h with h | ⟨ds,a,vs,e1,_⟩
 ·exact h
 ·exact absurd e1 (n ds)
theorem aZ.non{v:V}(h:aZ K H .non v):v=.non:=by have:=h.gT (λ _ z=>nomatch z);simpa only[Den]using this
theorem aZ.bl{b:Bool}{v:V}(h:aZ K H (.bl b) v):v=.bl b:=by have:=h.gT (λ _ z=>nomatch z);simpa only[Den]using this
theorem aZ.int{i:Int}{v:V}(h:aZ K H (.int i) v):v=.int i:=by have:=h.gT (λ _ z=>nomatch z);simpa only[Den]using this
theorem aZ.str{cs:List Nat}{v:V}(h:aZ K H (.str cs) v):v=.str ⟨cs.toArray⟩:=by have:=h.gT (λ _ z=>nomatch z);simpa only[Den]using this
theorem aZ.tup{ds:List Z.D}{v:V}(h:aZ K H (.tup ds) v):∃a vs,v=.ref a∧k? K H a vs∧ax K H ds vs:=by have:=h.gT (λ _ z=>nomatch z);simpa only[Den]using this
theorem aZ.lst{ds:List Z.D}{v:V}(h:aZ K H (.lst ds) v):∃a vs,v=.ref a∧i6 K H a vs∧ax K H ds vs:=by
 rcases h with h | ⟨es,a,vs,e1,e2,q,t⟩
 ·simp only[Den]at h;obtain⟨a,vs,e,q,t⟩:=h;exact⟨a,vs,e,q.sq,t⟩
 ·cases e1;exact⟨a,vs,e2,.inl (.inl q),t⟩
theorem aZ.dct{ks:List (Sum Int (List Nat))}{ds:List Z.D}{v:V}(h:aZ K H (.dct ks ds) v):∃a o g0,v=.ref a∧H a=some (.fh o (.dK g0))∧g0.map (·.1)=ks.map keyZ∧ax K H ds (g0.map (·.2)):=by have:=h.gT (λ _ z=>nomatch z);simpa only[Den]using this
theorem den_non:Den K H .non .non:=by simp only[Den]
theorem eO{b:Bool}:Den K H (.bl b) (.bl b):=by simp only[Den]
theorem cV{i:Int}:Den K H (.int i) (.int i):=by simp only[Den]
theorem iW{cs:List Nat}:Den K H (.str cs) (.str ⟨cs.toArray⟩):=by simp only[Den]
theorem fT{ds:List Z.D}{a:Addr}{vs:List V}(h:k? K H a vs)(t:ax K H ds vs):Den K H (.tup ds) (.ref a):=by simp only[Den];exact⟨a,vs,rfl,h,t⟩
theorem den_lst{ds:List Z.D}{a:Addr}{vs:List V}(h:FzL K H a vs)(t:ax K H ds vs):Den K H (.lst ds) (.ref a):=by simp only[Den];exact⟨a,vs,rfl,h,t⟩
end
def entI(x:List Int×Addr×Value):DictEntry:={ hash:=reduceHash (Builtin.Tuple.tupleHashOf (x.1.map hashInt)),key:=.ref x.2.1,val:=x.2.2 }
def DicAt(a:Addr)(ks:List (List Int))(as:List Addr)(h:Heap):Prop:=ks.length≤sizeLine∧(a==sysModules)=false∧∃(xs:List (List Int×Addr×Value))(o:Obj)(es:Array DictEntry)(ep:Nat),xs.map (·.1)=ks∧xs.map (·.2.1)=as∧h.get? a=some o∧o.ExactDict∧o.data=.dict es ep∧es.toList=xs.map entI∧ks.Nodup
abbrev DicO(a:Addr)(ks:List (List Int))(as:List Addr):HO:=.ext (DicAt a ks as)
def g?(K:PySem.W.Frag)(H:Hp)(ks:List (List Int))(as:List Addr):Prop:=Paired (λ(k:List Int) (b:Addr)=>Den K H (.tup (k.map .int)) (.ref b)) ks as
def kvT(g0:List (List Nat×List Nat)):List (Key×V):=g0.map λ p=>(Sum.inr ⟨p.1.toArray⟩,V.str ⟨p.2.toArray⟩)
def DcO(a:Addr):Z.DK->List Addr->HO
 | .inl ks,as=>DicO a ks as
 | .inr g0,_=>.dK (kvT g0)
def DcK(K:PySem.W.Frag)(H:Hp):Z.DK->List Addr->Prop
 | .inl ks,as=>g? K H ks as
 | .inr _,_=>True
theorem dcO_lst{a:Addr}{k:Z.DK}{as:List Addr}{xs:List V}:DcO a k as≠.lst xs:=by cases k<;>exact λ z=>nomatch z
theorem dcO_tup{a:Addr}{k:Z.DK}{as:List Addr}{xs:List V}:DcO a k as≠.tup xs:=by cases k<;>exact λ z=>nomatch z
theorem dcO_frz{a:Addr}{k:Z.DK}{as:List Addr}{o:Obj}{u:HO}:DcO a k as≠.fh o u:=by cases k<;>exact λ z=>nomatch z
def kvI(ps:List (Int×Int)):List (Key×V):=ps.map λ p=>(Sum.inl p.1,V.int p.2)
def xcIn(K:PySem.W.Frag)(C:Addr):Bool:=match K.lookup C with
 | some ⟨.type "type",_,.cls cd,sl⟩=>(match cd.mro,sl.toList with
  | .ref C' :: tl,[_,_,_,_,some (.builtin n),_]=>C'==C&&n == "ValueError.__new__" && !cd.hasDel&&tl.contains (.type "BaseException")
  | _,_=>false)
 | _=>false
def XC(K:PySem.W.Frag)(c:List Nat)(C:Addr):Prop:=PySem.W.nsIn K mainGlobals ⟨c.toArray⟩=some (some (.ref C))∧xcIn K C=true
def XD(K:PySem.W.Frag)(H:Hp):Option Addr->List (List Nat×Z.D)->Prop
 | none,fs=>fs=[]
 | some dx,fs=>fs≠[]∧∃od g0,H dx=some (.fh od (.xd g0))∧Paired (λ(p:Str×V) (q:List Nat×Z.D)=>p.1=⟨q.1.toArray⟩∧Den K H q.2 p.2) g0 fs
theorem XD.ups{K:PySem.W.Frag}{H H':Hp}{dd:Option Addr}{fs:List (List Nat×Z.D)}(h:XD K H dd fs)(e:i5 H H'):XD K H' dd fs:=by
 cases dd with
 | none=>exact h
 | some dx =>obtain⟨n,od,g0,q,p⟩:=h;exact⟨n,od,g0,e.fh _ _ _ q,Paired.mapP p λ _ _ z=>⟨z.1,z.2.ups e⟩⟩
def XRel(K:PySem.W.Frag)(H:Hp)(c:List Nat×List (List Nat×Z.D))(C:Addr)(dd:Option Addr):Prop:=XC K c.1 C∧XD K H dd c.2
theorem XRel.ups{K:PySem.W.Frag}{H H':Hp}{c:List Nat×List (List Nat×Z.D)}{C:Addr}{dd:Option Addr}(h:XRel K H c C dd)(e:i5 H H'):XRel K H' c C dd:=⟨h.1,h.2.ups e⟩
def RL(K:PySem.W.Frag)(H:Hp):Z.L->V->Prop
 | .val d,v=>Den K H d v
 | .own ds,v=>∃a vs,v=.ref a∧H a=some (.lst vs)∧ax K H ds vs
 | .bor ds,v=>aZ K H (.lst ds) v
 | .dc k,v=>∃a as,v=.ref a∧H a=some (DcO a k as)∧DcK K H k as
 | .fdc ks,v=>∃a o as,v=.ref a∧H a=some (.fh o (DicO a ks as))∧g? K H ks as
 | .idc ps,v=>∃a o,v=.ref a∧H a=some (.fh o (.dK (kvI ps)))
 | .exc c,v=>∃a o u C,v=.ref a∧H a=some (.fh o u)∧o.cls=.ref C∧(∃vs,o.data=.fields vs)∧XRel K H c C o.dict
theorem g?.ups{K:PySem.W.Frag}{H H':Hp}{ks:List (List Int)}{as:List Addr}(h:g? K H ks as)(e:i5 H H'):g? K H' ks as:=Paired.mapP h λ _ _ d=>Den.ups d e
theorem DcK.ups{K:PySem.W.Frag}{H H':Hp}{k:Z.DK}{as:List Addr}(h:DcK K H k as)(e:i5 H H'):DcK K H' k as:=by
 cases k with
 | inl ks=>exact g?.ups (show g? K H ks as from h) e
 | inr _=>exact True.intro
structure RE(K:PySem.W.Frag)(H:Hp)(σ:St)(ρ:Z.Env):Prop where
 len:ρ.length=σ.length
 get:∀(i:Nat)(l:Z.L),ρ[i]?=some (some l)->∃v,σ[i]?=some (some v)∧RL K H l v
 sep:∀(i j:Nat)(xs ys:List Z.D)(a:Addr),ρ[i]?=some (some (.own xs))->ρ[j]?=some (some (.own ys))->σ[i]?=some (some (.ref a))->σ[j]?=some (some (.ref a))->i=j
section
variable {K:PySem.W.Frag}{H H':Hp}{σ:St}{ρ:Z.Env}
theorem RL.up{l:Z.L}{v:V}(h:RL K H l v)(e:aD H H'):RL K H' l v:=by
 cases l with
 | val d=>exact Den.up (show Den K H d v from h) e
 | own ds =>obtain⟨a,vs,e1,q,t⟩:=h;exact⟨a,vs,e1,e _ _ q,t.up e⟩
 | bor ds=>exact aZ.up (show aZ K H (.lst ds) v from h) e
 | dc ks =>obtain⟨a,as,e1,q,t⟩:=h;exact⟨a,as,e1,e _ _ q,t.ups (stb e)⟩
 | fdc ks =>obtain⟨a,o,as,e1,q,t⟩:=h;exact⟨a,o,as,e1,e _ _ q,t.ups (stb e)⟩
 | idc ps =>obtain⟨a,o,e1,q⟩:=h;exact⟨a,o,e1,e _ _ q⟩
 | exc c =>obtain⟨a,o,u,C,e1,q,r1,r2,r3⟩:=h;exact⟨a,o,u,C,e1,e _ _ q,r1,r2,r3.ups (stb e)⟩
theorem RE.up(h:RE K H σ ρ)(e:aD H H'):RE K H' σ ρ :=
 ⟨h.len,λ i l q=>let ⟨v,h1,h2⟩:=h.get i l q;⟨v,h1,h2.up e⟩,h.sep⟩
theorem bG{a:Addr}{o:HO}(h:H a=none):aD H (upd H a o):=λ b u e=>by rw[aK (bH e h)];exact e
end
def tZ(K:PySem.W.Frag)(f:Z.EF):TE:=λ σ H Q=>∃ρ d,RE K H σ ρ∧f ρ=.ok d∧∀v H',aD H H'->Den K H' d v->Q v H'
def tZw(K:PySem.W.Frag)(f:Z.EF):TE:=λ σ H Q=>∃ρ d,RE K H σ ρ∧f ρ=.ok d∧∀v H',aD H H'->aZ K H' d v->Q v H'
def tZl(K:PySem.W.Frag)(f:Z.LF):TE:=λ σ H Q=>∃ρ ds,RE K H σ ρ∧f ρ=.ok ds∧∀a vs H',aD H H'->H a=none->H' a=some (.lst vs)->ax K H' ds vs->Q (.ref a) H'
def tZt(K:PySem.W.Frag)(f:Z.TF):TT:=λ σ H Q=>∃ρ b,RE K H σ ρ∧f ρ=.ok b∧∀H',aD H H'->Q b H'
def tZa(K:PySem.W.Frag)(f:Z.AF):TA:=λ σ H Q=>∃ρ ds,RE K H σ ρ∧f ρ=.ok ds∧∀vs H',aD H H'->ax K H' ds vs->Q vs H'
def tZp(K:PySem.W.Frag)(f:Z.PF):TO:=λ σ H Q=>∃ρ o,RE K H σ ρ∧f ρ=.ok o∧∀H',aD H H'->Q o H'
abbrev DE(X:Cx)(e:Expr)(f:Z.EF):Prop:=PE X e (tZ X.K f)
abbrev DW(X:Cx)(e:Expr)(f:Z.EF):Prop:=PE X e (tZw X.K f)
abbrev DL(X:Cx)(e:Expr)(f:Z.LF):Prop:=PE X e (tZl X.K f)
abbrev DT(X:Cx)(e:Expr)(f:Z.TF):Prop:=PT X e (tZt X.K f)
abbrev DTW(X:Cx)(e:Expr)(f:Z.TF):Prop:=PW X e (tZt X.K f)
abbrev DA(X:Cx)(es:List Expr)(f:Z.AF):Prop:=PA X es (tZa X.K f)
abbrev DP(X:Cx)(e:Option Expr)(f:Z.PF):Prop:=PO X e (tZp X.K f)
section
variable {X:Cx}{e a b c:Expr}{es:List Expr}{pos:Pos}{f fa fb fc:Z.EF}
theorem PE.imp{t t':TE}(h:PE X e t)(k:∀σ H Q,t' σ H Q->t σ H Q):PE X e t':=λ pins s σ H Q I w=>h pins s σ H Q I (k σ H Q w)
theorem PT.imp{t t':TT}(h:PT X e t)(k:∀σ H Q,t' σ H Q->t σ H Q):PT X e t':=λ pins s σ H Q I w=>h pins s σ H Q I (k σ H Q w)
theorem PW.imp{t t':TT}(h:PW X e t)(k:∀σ H Q,t' σ H Q->t σ H Q):PW X e t':=λ whole pins s σ H Q I w=>h whole pins s σ H Q I (k σ H Q w)
theorem PA.imp{t t':TA}(h:PA X es t)(k:∀σ H Q,t' σ H Q->t σ H Q):PA X es t':=λ p pins s σ H Q I w=>h p pins s σ H Q I (k σ H Q w)
theorem PO.imp{o:Option Expr}{t t':TO}(h:PO X o t)(k:∀σ H Q,t' σ H Q->t σ H Q):PO X o t':=λ pins s σ H Q I w=>h pins s σ H Q I (k σ H Q w)
theorem de_c{v:V}{d:Z.D}(h:PE X e (tC v))(hd:∀H,Den X.K H d v):DE X e (Z.eC d):=PE.imp h λ σ H Q ⟨ρ,d',_,e,k⟩=>by have e':Z.Res.ok d=Z.Res.ok d':=e;cases e';exact k v H (aD.refl H) (hd H)
theorem aa{i:Int}{j}:DE X (.Constant (.int i) j pos) (Z.eC (.int i)):=de_c pe_int λ _=>cV
theorem jt{x:Bool}{j}:DE X (.Constant (.bool x) j pos) (Z.eC (.bl x)):=de_c pe_bl λ _=>eO
theorem de_non{j}:DE X (.Constant .none j pos) (Z.eC .non):=de_c pe_non λ _=>den_non
theorem c8{x:Str}{cs:List Nat}{j}(h:x=⟨cs.toArray⟩):DE X (.Constant (.str x) j pos) (Z.eC (.str cs)):=by subst h;exact de_c pe_str λ _=>iW
theorem eV_ok{i:Nat}{ρ:Z.Env}{d:Z.D}(h:Z.eV i ρ=.ok d):ρ[i]?=some (some (.val d)):=by
 unfold Z.eV at h;split at h
 ·rename_i d' q;cases h;exact q
 ·cases h
theorem eW_ok{i:Nat}{ρ:Z.Env}{d:Z.D}(h:Z.eW i ρ=.ok d):ρ[i]?=some (some (.val d))∨(∃xs,ρ[i]?=some (some (.own xs))∧d=.lst xs)∨∃xs,ρ[i]?=some (some (.bor xs))∧d=.lst xs:=by
 unfold Z.eW at h;split at h
 ·rename_i d' q;cases h;exact .inl q
 ·rename_i xs q;cases h;exact .inr (.inl ⟨xs,q,rfl⟩)
 ·rename_i xs q;cases h;exact .inr (.inr ⟨xs,q,rfl⟩)
 ·cases h
theorem de_var{i:Nat}(h:PE X e (lD i)):DE X e (Z.eV i):=PE.imp h λ σ H Q ⟨ρ,d,r,e,k⟩=>by obtain⟨v,h1,h2⟩:=r.get i _ (eV_ok e);exact⟨v,h1,k v H (aD.refl H) h2⟩
theorem dw_var{i:Nat}(h:PE X e (lD i)):DW X e (Z.eW i):=PE.imp h λ σ H Q ⟨ρ,d,r,e,k⟩=>by
 rcases eW_ok e with q | ⟨xs,q,rfl⟩ | ⟨xs,q,rfl⟩
 rotate_left;rotate_left
 ·obtain⟨v,h1,h2⟩:=r.get i _ q;exact⟨v,h1,k v H (aD.refl H) h2⟩
 ·obtain⟨v,h1,h2⟩:=r.get i _ q;exact⟨v,h1,k v H (aD.refl H) (.inl h2)⟩
 ·obtain⟨v,h1,a,vs,rfl,h2,h3⟩:=r.get i _ q;exact⟨_,h1,k _ H (aD.refl H) (.inr ⟨xs,a,vs,rfl,rfl,h2,h3⟩)⟩
theorem av(i:Nat){x:Str}(hN:X.N[i]?=some x:=by rfl)(hv:Vis X.env.scope x:=by first | exact Or.inl rfl | exact Or.inr (Or.inl rfl) | exact Or.inr (Or.inr rfl))(hd:(x==("__debug__" : Str))=false:=by decide +kernel)
  (hcd:(x==("__classdict__" : Str))=false:=by decide +kernel):DE X (.Name x pos) (Z.eV i):=de_var (pe_var hN hv hd hcd)
theorem ak(i:Nat){x:Str}(hN:X.N[i]?=some x:=by rfl)(hv:Vis X.env.scope x:=by first | exact Or.inl rfl | exact Or.inr (Or.inl rfl) | exact Or.inr (Or.inr rfl))(hd:(x==("__debug__" : Str))=false:=by decide +kernel)
  (hcd:(x==("__classdict__" : Str))=false:=by decide +kernel):DW X (.Name x pos) (Z.eW i):=dw_var (pe_var hN hv hd hcd)
theorem de_glob{x:Str}{u:Value}{v:V}{d:Z.D}(hg:Gl X x)(hm:X.mg x=some u)(r:RelV v u)(hd:∀H,Den X.K H d v)(hb:(x==("__debug__" : Str))=false:=by decide +kernel):DE X (.Name x pos) (Z.eC d) :=
 de_c (pe_glob hg hm r hb) hd
theorem af(h:DE X e f):DW X e f:=PE.imp h λ σ H Q ⟨ρ,d,r,e,k⟩=>⟨ρ,d,r,e,λ v H' s q=>k v H' s (.inl q)⟩
theorem dJ{l:Z.LF}(h:DL X e l):DW X e (Z.eL l):=PE.imp h λ σ H Q ⟨ρ,d,r,e,k⟩=>by
 unfold Z.eL at e;cases q:l ρ with
 | bad=>rw[q]at e;cases e
 | ok ds =>rw[q]at e;cases e;exact⟨ρ,ds,r,q,λ a vs H' s hn h1 h2=>k _ H' s (.inr ⟨ds,a,vs,rfl,rfl,h1,h2⟩)⟩
theorem l_{pins : List (Addr × Obj)}{σ : St}{H : Hp}{s : Shared}{p : Addr}{xs : List V}(I : Inv X pins σ H s)(h : H p = some (.lst xs)): ∃o, Inv X pins σ (upd H p (.fh o (.lst xs))) s := by
 obtain⟨z,aM,n,r,ho⟩:=I.dO p _ h;refine⟨_,I.un (H':=upd H p (.fh { cls:=.type "list",data:=.seq aM.toArray n } (.lst xs))) (h':=s.heap) (t':=s.toks) ?_ ?_⟩
 ·have ne:∀b,H b=none->b≠p:=λ b e q=>by rw[q,h]at e;cases e
  refine⟨λ b o q _ _ _=>q,λ b o q _ _ _=>⟨o.slots,q⟩,λ b o q e _=>by rw[aK (ne b e)];exact e,λ b o q _=>⟨o,q⟩,λ b ys e=>?_,λ b o u e=>?_,λ b u pr e=>?_⟩
  ·have:b≠p:=by rintro rfl;rw[h]at e;cases e
   rw[aK this];exact e
  ·have:b≠p:=by rintro rfl;rw[h]at e;cases e
   rw[aK this];exact e
  ·have:b≠p:=by rintro rfl;rw[h]at e;cases e;exact pr
   rw[aK this];exact e
 ·intro b u e;by_cases hb:b=p
  ·subst hb;rw[aX]at e;cases e;exact⟨ho,z,aM,n,r,ho⟩
  ·rw[aK hb]at e;refine(I.dO b u e).stay (λ c w _ q=>q) (λ c q=>?_) (λ c ys q=>?_) λ c v pr q=>?_
   ·have:c≠p:=by rintro rfl;rw[h]at q;cases q
    rw[aK this];exact q
   ·have:c≠p:=by rintro rfl;rw[h]at q;cases q
    rw[aK this];exact q
   ·have:c≠p:=by rintro rfl;rw[h]at q;cases q;exact pr
    rw[aK this];exact q
theorem same_frz{H H1:Hp}{p:Addr}{o:Obj}{xs:List V}(s:aD H H1)(hn:H p=none):aD H (upd H1 p (.fh o (.lst xs))):=λ b u e=>by rw[aK (bH e hn)];exact s b u e
theorem nN{l:Z.LF}(h:DL X e l):DE X e (Z.eL l):=by
 intro pins s σ H Q I w;obtain⟨ρ,d,r,e,k⟩:=w;unfold Z.eL at e;cases q:l ρ with
 | bad=>rw[q]at e;cases e
 | ok ds =>rw[q]at e;cases e;refine du (h pins s σ H (λ v H1=>∃a vs,v=.ref a∧aD H H1∧H a=none∧H1 a=some (.lst vs)∧ax X.K H1 ds vs) I ⟨ρ,ds,r,q,λ a vs H1 s1 hn h1 h2=>⟨a,vs,rfl,s1,hn,h1,h2⟩⟩) ?_;rintro u s' ⟨v,H1,I1,rv,a,vs,rfl,s1,hn,h1,h2⟩;obtain⟨o,I2⟩:=l_ I1 h1;exact⟨_,_,I2,rv,k _ _ (same_frz s1 hn) (den_lst (.inl ⟨o,aX⟩) (h2.ups (iL h1)))⟩
def OpZ(K:PySem.W.Frag)(r:R2)(o:Z.D->Z.D->Z.Res Z.D):Prop:=∀(x y:V)(dx dy d:Z.D)(H:Hp)(Q:VK),aZ K H dx x->aZ K H dy y->o dx dy=.ok d->(∀v H',aD H H'->Den K H' d v->Q v H')->r x y H Q
theorem two{r:R2}{o:Z.D->Z.D->Z.Res Z.D}(hz:OpZ X.K r o):∀σ H Q,tZ X.K (Z.eB o fa fb) σ H Q->tOp r (tZw X.K fa) (tZw X.K fb) σ H Q:=by rintro σ H Q ⟨ρ,d,re,e,k⟩;obtain⟨x,ea,e⟩:=Z.Res.ao e;obtain⟨y,eb,e⟩:=Z.Res.ao e;exact⟨ρ,x,re,ea,λ v H1 s1 d1=>⟨ρ,y,re.up s1,eb,λ u H2 s2 d2=>hz _ _ _ _ _ H2 Q (d1.up s2) d2 e λ w H' s3 dw=>k w H' ((s1.trans s2).trans s3) dw⟩⟩
theorem de_op{op:Operator}{r:R2}{o:Z.D->Z.D->Z.Res Z.D}(hr:ke X (binaryOp op) r)(hz:OpZ X.K r o)(ha:DW X a fa)(hb:DW X b fb):DE X (.BinOp a op b pos) (Z.eB o fa fb) :=
 PE.imp (pe_op hr ha hb) (two hz)
theorem OpZ.or{K:PySem.W.Frag}{r r':R2}{o:Z.D->Z.D->Z.Res Z.D}(h:∀(x y:V)(dx dy d:Z.D)(H:Hp)(Q:VK),aZ K H dx x->aZ K H dy y->o dx dy=.ok d->(∀v H',aD H H'->Den K H' d v->Q v H')->r x y H Q∨r' x y H Q):OpZ K (λ x y H Q=>r x y H Q∨r' x y H Q) o:=h
theorem opz_int{K:PySem.W.Frag}{C:Int->Int->Prop}{g:Int->Int->Int}{o:Z.D->Z.D->Z.Res Z.D}(h:∀dx dy d,o dx dy=.ok d->∃i j,dx=.int i∧dy=.int j∧C i j∧d=.int (g i j)):OpZ K (rI C λ i j=>.int (g i j)) o:=by intro x y dx dy d H Q h1 h2 e k;obtain⟨i,j,rfl,rfl,hc,rfl⟩:=h _ _ _ e;exact⟨i,j,h1.int,h2.int,hc,k _ H (aD.refl H) cV⟩
theorem mP{K:PySem.W.Frag}{g:Int->Int->V}{gd:Int->Int->Z.D}{o:Z.D->Z.D->Z.Res Z.D}(h:∀dx dy d,o dx dy=.ok d->∃i j,dx=.int i∧dy=.int j∧d=gd i j)(hg:∀i j H,Den K H (gd i j) (g i j)):OpZ K (rI0 g) o:=by intro x y dx dy d H Q h1 h2 e k;obtain⟨i,j,rfl,rfl,rfl⟩:=h _ _ _ e;exact⟨i,j,h1.int,h2.int,k _ H (aD.refl H) (hg i j H)⟩
theorem c7(ha:DW X a fa)(hb:DW X b fb):DE X (.BinOp a .Sub b pos) (Z.eB Z.iJ fa fb):=de_op op_sub (mP (gd:=λ i j=>.int (i-j)) (λ dx dy d e=>by
 unfold Z.iJ at e;split at e
 ·cases e;exact⟨_,_,rfl,rfl,rfl⟩
 ·cases e) λ _ _ _=>cV) ha hb
def CMulZ(i j:Int):Prop:=IntMulOk i j
theorem op_mulZ:ke X (binaryOp .Mult) (rI CMulZ λ i j=>.int (i*j)):=opI λ _ _ _ _ _ _ _ hc q=>mul_int q hc
theorem bits_eq(i:Int):Z.bits i=Builtin.Int.intBits i:=by
 unfold Z.bits Builtin.Int.intBits;by_cases h:i=0
 ·subst h;simp
 ·first
   | (simp[h];done)
   | (rw[if_neg h];simp[h];done)
theorem mulFits_ok{i j:Int}(h:Z.a_ i j):IntMulOk i j:=by
 unfold Z.a_ at h;rcases h with h | h | ⟨h1,h2⟩
 ·exact IntMulOk.of_left (intBits_le_64 (by lia) (by lia))
 ·exact IntMulOk.of_right (intBits_le_64 (by lia) (by lia))
 ·rw[bits_eq]at h1 h2;exact mulOk_of_bits h1 h2 (by decide)
theorem c9(ha:DW X a fa)(hb:DW X b fb):DE X (.BinOp a .Mult b pos) (Z.eB Z.gW fa fb):=de_op op_mulZ (opz_int λ dx dy d e=>by
 unfold Z.gW at e;split at e
 ·unfold Z.guard at e;split at e
  ·rename_i h;cases e;exact⟨_,_,rfl,rfl,mulFits_ok h,rfl⟩
  ·cases e
 ·cases e) ha hb
def CDivZ(_ j:Int):Prop:=Z.h9 j
theorem divFits_ok{j:Int}(h:Z.h9 j):0 < j∧j.natAbs.log2 < 9000:=by
 have h0:=h.1;have h1:=h.2;have hn:j.natAbs≠0:=by lia
 have h2:j.natAbs < 2 ^ 250:=by
  have:(2:Nat) ^ 250=1809251394333065553493296640760748560207343510400633813116524750123642650624:=by decide
  lia
 have:=(Nat.log2_lt hn).mpr h2;exact⟨h0,by lia⟩
theorem op_divZ:ke X (binaryOp .FloorDiv) (rI CDivZ λ i j=>.int (i / j)):=opI λ i j _ _ _ _ _ hc q=>by obtain⟨h0,h1⟩:=divFits_ok hc;have e:i.fdiv j=i / j:=Int.fdiv_eq_ediv_of_nonneg i (Int.le_of_lt h0);exact floordiv_int (Int.ne_of_gt h0) (by rw[e];exact q) (.inl (PyProof.noPylong_of_log2 h1))
theorem cj(ha:DW X a fa)(hb:DW X b fb):DE X (.BinOp a .FloorDiv b pos) (Z.eB Z.oDiv fa fb):=de_op op_divZ (opz_int λ dx dy d e=>by
 unfold Z.oDiv at e;split at e
 ·unfold Z.guard at e;split at e
  ·rename_i h;cases e;exact⟨_,_,rfl,rfl,h,rfl⟩
  ·cases e
 ·cases e) ha hb
theorem bo(ha:DW X a fa)(hb:DW X b fb):DE X (.BinOp a .Mod b pos) (Z.eB Z.oMod fa fb):=de_op op_mod (opz_int λ dx dy d e=>by
 unfold Z.oMod at e;split at e
 ·unfold Z.guard at e;split at e
  ·rename_i h;cases e;exact⟨_,_,rfl,rfl,h,rfl⟩
  ·cases e
 ·cases e) ha hb
theorem kZ(ha:DW X a fa)(hb:DW X b fb):DE X (.BinOp a .Pow b pos) (Z.eB Z.ki fa fb):=de_op op_pow (opz_int λ dx dy d e=>by
 unfold Z.ki at e;split at e
 ·unfold Z.guard at e;split at e
  ·rename_i h;cases e;exact⟨_,_,rfl,rfl,h,rfl⟩
  ·cases e
 ·cases e) ha hb
def rCatZ(K:PySem.W.Frag):R2:=λ x y H Q=>∃a b xs ys,x=.ref a∧y=.ref b∧k? K H a xs∧k? K H b ys∧xs.length+ys.length≤sizeLine ∧
 (xs=[]->Q (.ref b) H)∧(ys=[]->Q (.ref a) H)∧(∀p,H p=none->Q (.ref p) (upd H p (.tup (xs++ys))))
theorem op_catZ:ke X (binaryOp .Add) (rCatZ X.K):=by
 intro pins s σ H x y v u Q I rx ry h;obtain⟨p,q,xs,ys,rfl,rfl,hp,hq,hz,q0,q1,q2⟩:=h;by_cases hx:xs=[]
 ·cases rx;cases ry;obtain⟨aM,r1,ht,_⟩:=I.tuple hp;obtain⟨dq,r2,hb,_⟩:=I.tuple hq;obtain⟨⟨cls,dd,data,sl⟩,ho,hc,n,hd⟩:=id ht;obtain⟨⟨cls2,dd2,data2,sl2⟩,ho2,hc2,n2,hd2⟩:=id hb;simp only at hc hd hc2 hd2;subst hc hd hc2 hd2;have e0:aM=[]:=r1.nil_iff.mpr hx;exact concat_meets ⟨_,ho,rfl⟩ ⟨_,ho2,rfl⟩ noFill_tuple_add seq_tuple_add PySem.F.slot_tuple_add PySem.F.entry_tuple_add (PySem.F.args_tuple_add_2 _ _)
   (tuple_addW0 p q aM.toArray dq.toArray n n2 dd dd2 sl sl2 (by simp[e0])) ⟨ho,ho2,⟨.ref q,H,I,rfl,q0 hx⟩⟩
 ·exact op_catT pins s σ H _ _ v u Q I rx ry ⟨p,q,xs,ys,rfl,rfl,hp,hq,hx,hz,q1,λ _=>q2⟩
theorem str_app(a b:List Nat):(⟨a.toArray⟩:Str)++(⟨b.toArray⟩:Str)=⟨(a++b).toArray⟩:=by show(⟨a.toArray++b.toArray⟩:Str)=_;simp
theorem aR(ha : DW X a fa)(hb : DW X b fb): DE X (.BinOp a .Add b pos) (Z.eB Z.bN fa fb) := de_op (op_add.or (op_add_str.or op_catZ)) (λ x y dx dy d H Q h1 h2 e k => by
 unfold Z.bN at e;split at e
 ·cases e;exact .inl ⟨_,_,h1.int,h2.int,k _ H (aD.refl H) cV⟩
 ·unfold Z.guard at e;split at e
  ·rename_i as bs h;cases e;refine .inr (.inl ⟨_,_,h1.str,h2.str,?_,?_⟩)
   ·show as.toArray.size+bs.toArray.size≤sizeLine;rw[sizeLine_eq];simpa using h
   ·rw[str_app];exact k _ H (aD.refl H) iW
  ·cases e
 ·unfold Z.guard at e;split at e
  ·rename_i as bs h;cases e;obtain⟨p,xs,rfl,hp,t1⟩:=h1.tup;obtain⟨q,ys,rfl,hq,t2⟩:=h2.tup;refine .inr (.inr ⟨p,q,xs,ys,rfl,rfl,hp,hq,?_,?_,?_,?_⟩)
   ·rw[t1.length,t2.length,sizeLine_eq];exact h
   ·rintro rfl;have:as=[]:=List.eq_nil_of_length_eq_zero (by rw[<-t1.length];rfl);subst this;exact k _ H (aD.refl H) (fT hq t2)
   ·rintro rfl;have:bs=[]:=List.eq_nil_of_length_eq_zero (by rw[<-t2.length];rfl);subst this;rw[List.append_nil]at k;exact k _ H (aD.refl H) (fT hp t1)
   ·intro z hn;have s1:aD H (upd H z (.tup (xs++ys))):=bG hn;exact k _ _ s1 (fT (.inl (.inl aX)) ((t1.append t2).up s1))
  ·cases e
 ·cases e) ha hb
end
end ZS
namespace ZS
section
open PySem Builtin Builtin.Str
theorem kR(t:List Nat):(⟨t.toArray⟩:Str).length=t.length:=by simp[Str.length]
theorem occ1(t:List Nat)(c:Nat):(!(Builtin.Str.occurrences ⟨t.toArray⟩ ⟨#[c]⟩ 0 t.length 1).isEmpty)=t.contains c:=by have h:=StrLaws.found_one ⟨t.toArray⟩ c;rw[kR]at h;rw[h,Bool.eq_iff_iff];simp
theorem clipS(n d:Nat)(i:Int):max 0 (min (if i < 0 then i+(n:Int)else i) (n:Int))=((Z.cP n d (some i):Nat):Int):=by
 show max 0 (min (if i < 0 then i+(n:Int)else i) (n:Int))=(((if i < 0 then(i+(n:Int)).toNat else min i.toNat n):Nat):Int)
 by_cases h:i < 0
 ·simp only[if_pos h];lia
 ·simp only[if_neg h];lia
theorem slR(a b:Nat):sliceRange (a:Int) (b:Int) 1=(List.range (b-a)).map (λ k=>a+k):=by
 unfold sliceRange;simp only[show(1:Int) > 0 by decide,if_true];have e:(if(a:Int) < (b:Int)then((b:Int)-(a:Int)+1-1) / 1 else 0).toNat=b-a:=by
  split
  ·rw[Int.ediv_one];lia
  ·lia
 rw[e];apply List.map_congr_left;intro k _;lia
theorem idxs(lo hi:Option Int)(n:Nat):strSliceIndices lo hi 1 n=(List.range (Z.cP n n hi-Z.cP n 0 lo)).map (λ k=>Z.cP n 0 lo+k):=by
 unfold strSliceIndices;simp only[show(1:Int) > 0 by decide,if_true];rw[<-slR];cases lo with
 | none =>
  cases hi with
  | none=>rfl
  | some j=>simp only[clipS n n j];rfl
 | some i =>
  cases hi with
  | none=>simp only[clipS n 0 i];rfl
  | some j=>simp only[clipS n 0 i,clipS n n j]
theorem sIx_le(n d:Nat)(hd:d≤n)(o:Option Int):Z.cP n d o≤n:=by
 cases o with
 | none=>exact hd
 | some v =>show(if v < 0 then(v+(n:Int)).toNat else min v.toNat n)≤n;split<;>lia
theorem pick(cs:List Nat):∀(k a:Nat),a+k≤cs.length->((List.range k).map (λ j=>a+j)).filterMap (λ i=>cs.toArray[i]?)=(cs.drop a).take k:=by
 intro k
 induction k with
 | zero=>intro a _;simp
 | succ k ih =>
  intro a h;rw[List.range_succ,List.map_append,List.filterMap_append,ih a (by lia)];have kj:a+k < cs.length:=by lia
  rw[List.take_succ];simp[kj]
theorem strSl(cs:List Nat)(lo hi:Option Int):Txt.slice ⟨cs.toArray⟩ lo hi=⟨(Z.cut cs lo hi).toArray⟩:=by
 unfold Txt.slice;rw[kR,idxs];have h1:=sIx_le cs.length cs.length (Nat.le_refl _) hi;have h0:=sIx_le cs.length 0 (Nat.zero_le _) lo;have hp:((List.range (Z.cP cs.length cs.length hi-Z.cP cs.length 0 lo)).map (λ k=>Z.cP cs.length 0 lo+k)).filterMap (λ i=>cs.toArray[i]?)=Z.cut cs lo hi:=by unfold Z.cut;exact pick cs _ _ (by lia)
 split
 ·rename_i hh;have hlen:(List.range (Z.cP cs.length cs.length hi-Z.cP cs.length 0 lo)).length=cs.length:=by simp only[beq_self_eq_true,Bool.true_and,beq_iff_eq,List.length_map]at hh;exact hh
  rw[List.length_range]at hlen;unfold Z.cut;have e0:Z.cP cs.length 0 lo=0:=by lia
  have e1:Z.cP cs.length cs.length hi-Z.cP cs.length 0 lo=cs.length:=by lia
  rw[e1,e0];simp
 ·rw[hp]
end
open PySem PySem.Spec PyProof.Rows L2
section
variable {X:Cx}{e a b c:Expr}{es:List Expr}{pos p:Pos}{f fa fb fc:Z.EF}
theorem de_cmp{op:CmpOp}{r:R2}{o:Z.D->Z.D->Z.Res Z.D}(hr:ke X (compareOp op) r)(hz:OpZ X.K r o)(ha:DW X a fa)(hb:DW X b fb)(hm:behindInMarks op b=false):DE X (.Compare a [op] [b] pos) (Z.eB o fa fb) :=
 PE.imp (pe_cmpR hr ha hb hm) (two hz)
theorem dt_of{t:TE}(h:PT X e (tTest t))(k:∀σ H Q,tZ X.K f σ H Q->t σ H Q):DT X e (Z.tE f):=PT.imp h λ σ H Q ⟨ρ,b,r,e,q⟩=>by
 obtain⟨x,ea,e⟩:=Z.Res.ao e;refine k σ H _ ⟨ρ,x,r,ea,λ v H' s d=>?_⟩;split at e
 ·cases e;simp only[Den]at d;exact⟨_,d,q H' s⟩
 ·cases e
theorem dt_cmp{op:CmpOp}{r:R2}{o:Z.D->Z.D->Z.Res Z.D}(hr:ke X (compareOp op) r)(hz:OpZ X.K r o)(ha:DW X a fa)(hb:DW X b fb)(hm:behindInMarks op b=false):DT X (.Compare a [op] [b] pos) (Z.tE (Z.eB o fa fb)) :=
 dt_of (pt_cmpR hr ha hb hm) (two hz)
structure Cmp(X:Cx)(op:CmpOp)(o:Z.D->Z.D->Z.Res Z.D):Prop where
 ex:∃r,ke X (compareOp op) r∧OpZ X.K r o
theorem fU{op:CmpOp}{o:Z.D->Z.D->Z.Res Z.D}(h:Cmp X op o)(ha:DW X a fa)(hb:DW X b fb)(hm:behindInMarks op b=false):DE X (.Compare a [op] [b] pos) (Z.eB o fa fb) :=
 let ⟨_,hr,hz⟩:=h.ex;de_cmp hr hz ha hb hm
theorem bA{op:CmpOp}{o:Z.D->Z.D->Z.Res Z.D}(h:Cmp X op o)(ha:DW X a fa)(hb:DW X b fb)(hm:behindInMarks op b=false):DT X (.Compare a [op] [b] pos) (Z.tE (Z.eB o fa fb)) :=
 let ⟨_,hr,hz⟩:=h.ex;dt_cmp hr hz ha hb hm
theorem chain_imp{r r':R2}{o o':Z.D->Z.D->Z.Res Z.D}(hz:OpZ X.K r o)(hz':OpZ X.K r' o'):∀σ H Q,tZ X.K (Z.eChain o o' fa fb fc) σ H Q->tChain r r' (tZw X.K fa) (tZw X.K fb) (tZw X.K fc) σ H Q:=by
 rintro σ H Q ⟨ρ,d,re,e,k⟩;obtain⟨x,ea,e⟩:=Z.Res.ao e;obtain⟨y,eb,e⟩:=Z.Res.ao e;obtain⟨z,eo,e⟩:=Z.Res.ao e;refine⟨ρ,x,re,ea,λ v H1 s1 d1=>⟨ρ,y,re.up s1,eb,λ u H2 s2 d2=>hz _ _ _ _ _ H2 _ (d1.up s2) d2 eo λ w H3 s3 dw=>?_⟩⟩;have s13:aD H H3:=(s1.trans s2).trans s3;split at e
 ·rename_i q;simp only[Den]at dw;refine⟨_,dw,?_⟩;cases q with
  | true =>simp only[if_true]at e ⊢;obtain⟨t,ec,e⟩:=Z.Res.ao e;exact⟨ρ,t,re.up s13,ec,λ v' H4 s4 d4=>hz' _ _ _ _ _ H4 Q ((d2.up s3).up s4) d4 e λ w' H5 s5 dw'=>k w' H5 ((s13.trans s4).trans s5) dw'⟩
  | false =>simp only[Bool.false_eq_true,if_false]at e ⊢;cases e;exact k _ H3 s13 eO
 ·cases e
theorem nD{op op':CmpOp}{o o':Z.D->Z.D->Z.Res Z.D}(h:Cmp X op o)(h':Cmp X op' o')(ha:DW X a fa)(hb:DW X b fb)(hc:DW X c fc)
  (hm:lastMarks [op,op'] [b,c]=false:=by with_unfolding_all rfl):DT X (.Compare a [op,op'] [b,c] pos) (Z.tE (Z.eChain o o' fa fb fc)) :=
 let ⟨_,hr,hz⟩:=h.ex;let ⟨_,hr',hz'⟩:=h'.ex;dt_of (pt_chain hr hr' ha hb hc hm) (chain_imp hz hz')
theorem c_lt:Cmp X .Lt Z.oLt:=⟨_,op_lt,mP (gd:=λ i j=>.bl (decide (i < j))) (λ dx dy d e=>by
 unfold Z.oLt at e;split at e
 ·cases e;exact⟨_,_,rfl,rfl,rfl⟩
 ·cases e) λ _ _ _=>eO⟩
theorem c_gt:Cmp X .Gt Z.oGt:=⟨_,op_gt,mP (gd:=λ i j=>.bl (decide (j < i))) (λ dx dy d e=>by
 unfold Z.oGt at e;split at e
 ·cases e;exact⟨_,_,rfl,rfl,rfl⟩
 ·cases e) λ _ _ _=>eO⟩
theorem c_ge:Cmp X .GtE Z.oGe:=⟨_,op_ge,mP (gd:=λ i j=>.bl (decide (j≤i))) (λ dx dy d e=>by
 unfold Z.oGe at e;split at e
 ·cases e;exact⟨_,_,rfl,rfl,rfl⟩
 ·cases e) λ _ _ _=>eO⟩
theorem op_le_str:ke X (compareOp .LtE) (λ x y H Q=>∃i j,x=.str i∧y=.str j∧Q (.bl (!decide (j.cps.toList < i.cps.toList))) H):=by intro pins s σ H x y v u Q I rx ry h;obtain⟨i,j,rfl,rfl,q⟩:=h;obtain⟨t,rfl⟩:=rx;obtain⟨t',rfl⟩:=ry;exact PySem.P.le_str (fin_bl I q rfl)
theorem ltC_eq:∀(a b:List Nat),Z.ltC a b=decide (a < b)
 | [],[]=>by simp[Z.ltC]
 | [],_ :: _=>by simp[Z.ltC]
 | _ :: _,[]=>by simp[Z.ltC]
 | a :: as,b :: bs=>by
  unfold Z.ltC;rw[ltC_eq as bs];by_cases h:a < b
  ·simp[h,List.cons_lt_cons_iff]
  ·by_cases h2:a=b
   ·subst h2;simp[List.cons_lt_cons_iff]
   ·simp[h,h2,List.cons_lt_cons_iff]
theorem c_le:Cmp X .LtE Z.oLe:=⟨_,op_le.or op_le_str,λ x y dx dy d H Q h1 h2 e k=>by
 unfold Z.oLe at e;split at e
 ·cases e;exact .inl ⟨_,_,h1.int,h2.int,k _ H (aD.refl H) eO⟩
 ·cases e;refine .inr ⟨_,_,h1.str,h2.str,?_⟩;rename_i as bs;have q:=k (.bl (!Z.ltC bs as)) H (aD.refl H) eO;rw[ltC_eq]at q;exact q
 ·cases e⟩
def isNon:Z.D->Bool
 | .non=>true
 | _=>false
theorem non_of{K:PySem.W.Frag}{H:Hp}{d:Z.D}{v:V}(h:aZ K H d v):decide (v=.non)=isNon d:=by
 cases d with
 | non=>rw[h.non];rfl
 | bl b=>rw[h.bl];rfl
 | int i=>rw[h.int];rfl
 | str cs=>rw[h.str];rfl
 | tup ds=>obtain⟨a,vs,rfl,_⟩:=h.tup;rfl
 | lst ds=>obtain⟨a,vs,rfl,_⟩:=h.lst;rfl
 | dct ks ds=>obtain⟨a,o,g0,rfl,_⟩:=h.dct;rfl
theorem isN_imp:∀σ H Q,tZ X.K (Z.eU Z.oIsN fa) σ H Q->tOp (λ x y H Q=>y=.non∧Q (.bl (decide (x=.non))) H) (tZw X.K fa) (tC .non) σ H Q:=by rintro σ H Q ⟨ρ,d,r,e,k⟩;obtain⟨x,ea,e⟩:=Z.Res.ao e;refine⟨ρ,x,r,ea,λ v H1 s1 d1=>⟨rfl,?_⟩⟩;rw[non_of d1];cases x<;>(cases e;exact k _ H1 s1 eO)
theorem notN_imp:∀σ H Q,tZ X.K (Z.eU Z.mV fa) σ H Q->tOp (λ x y H Q=>y=.non∧Q (.bl (!decide (x=.non))) H) (tZw X.K fa) (tC .non) σ H Q:=by rintro σ H Q ⟨ρ,d,r,e,k⟩;obtain⟨x,ea,e⟩:=Z.Res.ao e;refine⟨ρ,x,r,ea,λ v H1 s1 d1=>⟨rfl,?_⟩⟩;rw[non_of d1];cases x<;>(cases e;exact k _ H1 s1 eO)
theorem dt_isN{j pos'}(ha:DW X a fa):DT X (.Compare a [.Is] [.Constant .none j pos'] pos) (Z.tE (Z.eU Z.oIsN fa)):=dt_of (pt_cmpR op_isN ha pe_non (bD _)) isN_imp
theorem dt_notN{j pos'}(ha:DW X a fa):DT X (.Compare a [.IsNot] [.Constant .none j pos'] pos) (Z.tE (Z.eU Z.mV fa)):=dt_of (pt_cmpR op_notN ha pe_non (bD _)) notN_imp
theorem c_notInS:Cmp X .NotIn Z.oNotInS:=⟨_,op_notin_str,λ x y dx dy d H Q h1 h2 e k=>by
 unfold Z.oNotInS at e;split at e
 ·cases e;refine⟨_,_,h1.str,h2.str,?_⟩;rename_i c t;rw[kR,occ1];exact k _ H (aD.refl H) eO
 ·cases e⟩
theorem de_one{op}(h:DE X a fa):DE X (.BoolOp op [a] pos) fa:=pe_one h
theorem de_or{rest:List Expr}(ha:DE X a fa)(hb:DE X (.BoolOp .Or (b :: rest) pos) fb):DE X (.BoolOp .Or (a :: b :: rest) pos) (Z.eOr fa fb):=PE.imp (pe_or ha hb) λ σ H Q ⟨ρ,d,r,e,k⟩=>by
 obtain⟨x,ea,e⟩:=Z.Res.ao e;refine⟨ρ,x,r,ea,λ v H1 s1 d1=>?_⟩;split at e
 ·rename_i q;simp only[Den]at d1;refine⟨q,d1,?_⟩;cases q with
  | false =>simp only[Bool.false_eq_true,if_false]at e ⊢;exact⟨ρ,d,r.up s1,e,λ w H' s2 dw=>k w H' (s1.trans s2) dw⟩
  | true =>simp only[if_true]at e ⊢;cases e;exact k _ H1 s1 eO
 ·cases e
theorem tb_imp:∀σ H (Q:Bool->Hp->Prop),tZt X.K (Z.tE f) σ H Q->tB (tZ X.K f) σ H Q:=by
 rintro σ H Q ⟨ρ,b,r,e,q⟩;obtain⟨x,ea,e⟩:=Z.Res.ao e;refine⟨ρ,x,r,ea,λ v H' s d=>?_⟩;split at e
 ·cases e;simp only[Den]at d;exact⟨_,d,q H' s⟩
 ·cases e
theorem dt_e(h:DE X e f)(he:∀whole,isTrue e X.env whole=(do let v ←whole;standAt e.pos;holding [v] (truthy v)):=by intro _;rfl):DT X e (Z.tE f):=PT.imp (pt_val h he) tb_imp
theorem dt_not{t:Z.TF}(h:DT X a t):DT X (.UnaryOp .Not a pos) (Z.tNot t):=PT.imp (pt_not h) λ σ H Q ⟨ρ,b,r,e,q⟩=>by obtain⟨x,ea,e⟩:=Z.Res.ao e;cases e;exact⟨ρ,x,r,ea,λ H' s=>q H' s⟩
theorem jS{t:Z.TF}(h:DT X a t):DTW X (.BoolOp .And [a] pos) t:=pw_and1 h
theorem dt_or1{t:Z.TF}(h:DT X a t):DTW X (.BoolOp .Or [a] pos) t:=pw_or1 h
theorem mh{t u:Z.TF}{rest:List Expr}(ha:DT X a t)(hb:DTW X (.BoolOp .And (b :: rest) pos) u):DTW X (.BoolOp .And (a :: b :: rest) pos) (Z.tAnd t u):=PW.imp (pw_and ha hb) λ σ H Q ⟨ρ,d,r,e,k⟩=>by
 obtain⟨x,ea,e⟩:=Z.Res.ao e;refine⟨ρ,x,r,ea,λ H1 s1=>?_⟩;cases x with
 | true =>simp only[if_true]at e ⊢;exact⟨ρ,d,r.up s1,e,λ H' s2=>k H' (s1.trans s2)⟩
 | false =>simp only[Bool.false_eq_true,if_false]at e ⊢;cases e;exact k H1 s1
theorem dt_or{t u:Z.TF}{rest:List Expr}(ha:DT X a t)(hb:DTW X (.BoolOp .Or (b :: rest) pos) u):DTW X (.BoolOp .Or (a :: b :: rest) pos) (Z.tOr t u):=PW.imp (pw_or ha hb) λ σ H Q ⟨ρ,d,r,e,k⟩=>by
 obtain⟨x,ea,e⟩:=Z.Res.ao e;refine⟨ρ,x,r,ea,λ H1 s1=>?_⟩;cases x with
 | false =>simp only[Bool.false_eq_true,if_false]at e ⊢;exact⟨ρ,d,r.up s1,e,λ H' s2=>k H' (s1.trans s2)⟩
 | true =>simp only[if_true]at e ⊢;cases e;exact k H1 s1
theorem dtw{t:Z.TF}(h:DTW X e t):DT X e t:=h.pt
theorem ai:DA X [] Z.aC:=PA.imp cQ λ σ H Q ⟨ρ,ds,r,e,k⟩=>by cases e;exact k [] H (aD.refl H) ax.nil
theorem jU{g:Z.AF}(ha:DE X e f)(hr:DA X es g)(hs:starEach (e :: es) X.env=(false,eval e X.env) :: starEach es X.env:=by rfl):DA X (e :: es) (Z.ab f g):=PA.imp (a! ha hr hs) λ σ H Q ⟨ρ,ds,r,e,k⟩=>by obtain⟨x,ea,e⟩:=Z.Res.ao e;obtain⟨xs,eb,e⟩:=Z.Res.ao e;cases e;exact⟨ρ,x,r,ea,λ v H1 s1 d1=>⟨ρ,xs,r.up s1,eb,λ vs H2 s2 d2=>k _ H2 (s1.trans s2) (ax.cons (d1.up s2) d2)⟩⟩
theorem cg{x1}{g:Z.AF}(h:DA X es g):DE X (.Tuple es x1 pos) (Z.gN g):=PE.imp (pe_tup h) λ σ H Q ⟨ρ,d,r,e,k⟩=>by
 obtain⟨xs,ea,e⟩:=Z.Res.ao e;unfold Z.guard at e;split at e
 ·rename_i hl;cases e;refine⟨ρ,xs,r,ea,λ vs H1 s1 d1=>⟨by rw[d1.length,sizeLine_eq];exact hl,λ q hq=>?_⟩⟩;have s2:aD H1 (upd H1 q (.tup vs)):=bG hq;exact k _ _ (s1.trans s2) (fT (.inl (.inl aX)) (d1.up s2))
 ·cases e
theorem aV{g:Z.AF}(h:DA X es g):DL X (.List es pos) (Z.bZ g):=PE.imp (pe_lst h) λ σ H Q ⟨ρ,d,r,e,k⟩=>by
 obtain⟨xs,ea,e⟩:=Z.Res.ao e;unfold Z.guard at e;split at e
 ·rename_i hl;cases e;refine⟨ρ,_,r,ea,λ vs H1 s1 d1=>⟨by rw[d1.length,sizeLine_eq];exact hl,λ q hq=>?_⟩⟩;have s2:aD H1 (upd H1 q (.lst vs)):=bG hq;exact k q vs _ (s1.trans s2) (s1.free hq) aX (d1.up s2)
 ·cases e
end
end ZS
namespace ZS
open PySem PySem.Spec PyProof.Rows L2
section
variable {X:Cx}{e a b c:Expr}{es:List Expr}{pos p:Pos}{f fa fb fc:Z.EF}
theorem cz{x : Str}{p1 : Pos}(hg : Gl X x)(hm : X.mg x = none)(hv : bootBuiltins x = some (.builtin "len"))(ha : DW X a fa)(hn : x ≠ "__name__" := by decide +kernel)(hdb : (x == ("__debug__" : Str)) = false := by decide +kernel)
  (he:starEach (a :: []) X.env=(false,eval a X.env) :: starEach [] X.env:=by rfl) (hpl:(backTo pos (starEach [] X.env)).any (·.1)=false:=by rfl):DE X (.Call (.Name x p1) [a] [] pos) (Z.eU Z.fF fa) :=
 PE.imp (jn call_len hg hm hv (a! ha cQ he) hn hdb he hpl) λ σ H Q ⟨ρ,d,r,e,k⟩=>by
  obtain⟨x,ea,e⟩:=Z.Res.ao e;refine⟨ρ,x,r,ea,λ v H1 s1 d1=>?_⟩;unfold Z.fF at e;split at e
  ·unfold Z.guard at e;split at e
   ·rename_i cs hl;cases e;rw[d1.str];refine⟨_,cs.length,rfl,⟨?_,?_⟩,k _ H1 s1 cV⟩
    ·show cs.toArray.size≤sizeLine;rw[sizeLine_eq];simpa using hl
    ·show cs.length=cs.toArray.size;simp
   ·cases e
  ·cases e;obtain⟨q,vs,rfl,hq,t⟩:=d1.tup;refine⟨_,_,rfl,.inr ⟨vs,hq,rfl⟩,?_⟩;rw[t.length];exact k _ H1 s1 cV
  ·cases e;obtain⟨q,vs,rfl,hq,t⟩:=d1.lst;refine⟨_,_,rfl,.inl ⟨vs,hq,rfl⟩,?_⟩;rw[t.length];exact k _ H1 s1 cV
  ·cases e
theorem ixZ_eq(n:Nat)(i:Int):Z.ixZ n i=ixN n i:=rfl
theorem atZ{K:PySem.W.Frag}{H:Hp}{ds:List Z.D}{vs:List V}{i:Int}{d:Z.D}(t:ax K H ds vs)(h:((Z.ixZ ds.length i).bind λ j=>ds[j]?)=some d):∃v,atI vs i=some v∧Den K H d v:=by
 unfold atI;rw[t.length,<-ixZ_eq];cases q:Z.ixZ ds.length i with
 | none=>rw[q]at h;cases h
 | some j =>rw[q]at h;exact t.get h
theorem ay(ha : DW X a fa)(hb : DW X b fb)(hs : PlainIx b := by intro _ _; rfl): DE X (.Subscript a b pos) (Z.eB Z.aY fa fb) := PE.imp (pe_ix ix_seq ha hb hs) (two λ x y dx dy d H Q h1 h2 e k => by
 unfold Z.aY at e;split at e
 ·obtain⟨q,vs,rfl,hq,t⟩:=h1.tup;split at e
  ·rename_i v hv;cases e;obtain⟨w,e1,dw⟩:=atZ t hv;exact .inr (.inl ⟨q,vs,_,w,rfl,h2.int,hq,e1,k w H (aD.refl H) dw⟩)
  ·cases e
 ·obtain⟨q,vs,rfl,hq,t⟩:=h1.lst;split at e
  ·rename_i v hv;cases e;obtain⟨w,e1,dw⟩:=atZ t hv;exact .inl ⟨q,vs,_,w,rfl,h2.int,hq,e1,k w H (aD.refl H) dw⟩
  ·cases e
 ·unfold Z.guard at e;split at e
  ·rename_i cs i hl;split at e
   ·rename_i c hc;cases e;refine .inr (.inr ⟨_,_,c,h1.str,h2.int,?_,?_,?_⟩)
    ·show cs.toArray.size≤sizeLine;rw[sizeLine_eq];simpa using hl
    ·exact hc
    ·exact k _ H (aD.refl H) (iW (cs:=[c]))
   ·cases e
  ·cases e
 ·cases e)
theorem dp_no:DP X none Z.pNo:=PO.imp po_none λ σ H Q ⟨ρ,o,r,e,k⟩=>by cases e;exact k H (aD.refl H)
theorem iV(h:DW X e f):DP X (some e) (Z.pAt f):=PO.imp (po_some h) λ σ H Q ⟨ρ,o,r,e,k⟩=>by
 obtain⟨x,ea,e⟩:=Z.Res.ao e;refine⟨ρ,x,r,ea,λ v H1 s1 d1=>?_⟩;split at e
 ·cases e;exact⟨_,d1.int,k H1 s1⟩
 ·cases e
theorem sIx_eq(n d:Nat)(o:Option Int):Z.cP n d o=HT.cP n d o:=by cases o<;>rfl
theorem cut_eq{ds:List Z.D}{vs:List V}{K:PySem.W.Frag}{H:Hp}(t:ax K H ds vs)(lo hi:Option Int):ax K H (Z.cut ds lo hi) (cutV vs lo hi):=by unfold Z.cut cutV;rw[sIx_eq,sIx_eq,t.length];exact(t.drop _).take _
theorem cut_whole{α:Type}{xs:List α}{lo hi:Option Int}(h1:HT.cP xs.length 0 lo=0)(h2:HT.cP xs.length xs.length hi=xs.length):Z.cut xs lo hi=xs:=by unfold Z.cut;rw[sIx_eq,sIx_eq,h1,h2];simp
def rSlZ(K:PySem.W.Frag):V->Option Int->Option Int->Hp->VK->Prop:=λ x lo hi H Q=>∃a xs,x=.ref a∧k? K H a xs∧(cutV xs lo hi=xs->Q (.ref a) H)∧∀p,H p=none->Q (.ref p) (upd H p (.tup (cutV xs lo hi)))
theorem lF{prog:Program}{w:World}{A:Around}{E:Value->Shared->Prop}{s:Shared}{t sl:Addr}{items:Array Value}{vl vu:Value}{lo hi:Option Int}{Q:Value->Shared->Prop}(ht:IsTup s.heap t items)(hs:s.heap.IsSliceOf sl vl vu .none)(pl:IsPart vl lo)(pu:IsPart vu hi)
  (hw:HT.cP items.size 0 lo=0∧HT.cP items.size items.size hi=items.size)
  (h:Q (.ref t) s):wpAny (model prog w) A (getItem (.ref t) (.ref sl)) Q E s:=by
 obtain⟨os,hos,hcs,hds⟩:=id hs;have hTs:s.TypeIs (.ref sl) "slice" := ⟨os,hos,hcs⟩
 unfold getItem
 try with_reducible refine wpAny_holding ?_
 first | refine wpAny_bind (wpAny_pure ?_) | skip
 refine wpAny_bind (wpAny_sequenceKey ht.typeIs (by decide) ?_);refine wpAny_bind (wpAny_callSpecial?_slot (name:=Str.ofString "__getitem__") ht.typeIs PyProof.Rows.slot_tuple_getitem
  (wpAny_call_entry PyProof.Rows.slot_tuple_getitem ht.typeIs entry_tuple_getitem ?_ (args_tuple_getitem _ _)))
 show wpAny _ _ (Builtin.Tuple.tupleItemsOf (.ref t) >>= _) _ _ s;refine wpAny_bind (tupleItemsOf_ ht ?_);refine wpAny_bind (wpAny_typeOf hTs ?_);rw[if_pos (by decide)];refine wpAny_bind (HT.jk hs pl pu ?_);have hyes:(((HT.cP items.size 0 lo:Nat):Int)==0&&(1:Int)==1&&(HT.cP items.size items.size hi-HT.cP items.size 0 lo)==items.size)=true:=by rw[hw.1,hw.2];simp
 show wpAny _ _ (if(((HT.cP items.size 0 lo:Nat):Int)==0&&(1:Int)==1&&(HT.cP items.size items.size hi-HT.cP items.size 0 lo)==items.size)=true then _ else _) _ _ s;rw[if_pos hyes];refine wpAny_bind ?_;unfold Builtin.Tuple.tupleIsExact;refine wpAny_bind (wpAny_typeOf ht.typeIs ?_);refine wpAny_pure ?_;rw[if_pos (beq_self_eq_true _)];refine wpAny_bind (wpAny_rule ?_);exact wpAny_pure ⟨.ref t,rfl,wpAny_pure h⟩
theorem sl_tupZ:SlR X (rSlZ X.K):=by
 intro pins s σ H x v vl vu lo hi sl Q I rx hs pl pu h;obtain⟨a,xs,rfl,hx,q1,q2⟩:=h;by_cases hw:HT.cP xs.length 0 lo=0∧HT.cP xs.length xs.length hi=xs.length
 ·cases rx;obtain⟨aM,r,ht,hz⟩:=I.tuple hx;have hlen:aM.toArray.size=xs.length:=by rw[List.size_toArray];exact r.length.symm
  refine⟨"tuple",_,PyProof.Rows.slot_tuple_getitem.lookup,ht.typeIs,?_⟩;refine lF ht hs pl pu (by rw[hlen];exact hw) ⟨.ref a,H,I,rfl,q1 ?_⟩;have:=cut_whole (xs:=xs) hw.1 hw.2;unfold Z.cut at this;rw[sIx_eq,sIx_eq]at this;exact this
 ·exact sl_tup pins s σ H _ v vl vu lo hi sl Q I rx hs pl pu ⟨a,xs,rfl,hx,hw,q2⟩
def rSlS:V->Option Int->Option Int->Hp->VK->Prop:=λ x lo hi H Q=>∃z,x=.str z∧z.length≤sizeLine∧Q (.str (Txt.slice z lo hi)) H
theorem partOf{v:Value}{o:Option Int}(h:IsPart v o):∃q:Option (Int×Tok),v=partValue q∧q.map (·.1)=o:=by
 cases h with
 | none=>exact⟨none,rfl,rfl⟩
 | int i t=>exact⟨some (i,t),rfl,rfl⟩
theorem sl_strZ:SlR X rSlS:=by intro pins s σ H x v vl vu lo hi sl Q I rx hs pl pu h;obtain⟨z,rfl,hz,q⟩:=h;obtain⟨t,rfl⟩:=rx;obtain⟨ql,rfl,rfl⟩:=partOf pl;obtain⟨qu,rfl,rfl⟩:=partOf pu;refine⟨"str",_,F.slot_str_getitem.lookup,typeIs_str _ _ _,?_⟩;refine wpAny_getItem_str_slice (l:=ql) (u:=qu) (st:=none) hs rfl ?_;refine post_val_or_str ⟨Nat.le_trans (Txt.slice_le z _ _) hz,λ t' k=>⟨.str _,H,I.tok _,⟨t',rfl⟩,q⟩⟩
theorem kY{lo hi : Option Expr}{gl gh : Z.PF}{p2 : Pos}(ha : DW X a fa)(hl : DP X lo gl)(hh : DP X hi gh): DE X (.Subscript a (.Slice lo hi none p2) pos) (Z.eSl fa gl gh) :=
 PE.imp (pe_slice (sl_strZ.or sl_tupZ) ha hl hh) λ σ H Q ⟨ρ,d,r,e,k⟩=>by
  obtain⟨x,ea,e⟩:=Z.Res.ao e;obtain⟨l,el,e⟩:=Z.Res.ao e;obtain⟨h,eh,e⟩:=Z.Res.ao e;refine⟨ρ,x,r,ea,λ v H1 s1 d1=>⟨ρ,l,r.up s1,el,λ H2 s2=>⟨ρ,h,(r.up s1).up s2,eh,λ H3 s3=>?_⟩⟩⟩;have s13:aD H H3:=(s1.trans s2).trans s3;have d3:=(d1.up s2).up s3;unfold Z.oSl at e;split at e
  ·unfold Z.guard at e;split at e
   ·rename_i cs _ _ hl;cases e;refine .inl ⟨_,d3.str,?_,?_⟩
    ·show cs.toArray.size≤sizeLine;rw[sizeLine_eq];simpa using hl
    ·rw[strSl];exact k _ H3 s13 iW
   ·cases e
  ·cases e;obtain⟨q,vs,rfl,hq,t⟩:=d3.tup;refine .inr ⟨q,vs,rfl,hq,λ hw=>?_,λ z hz=>?_⟩
   ·have:=cut_eq t l h;rw[hw]at this;exact k _ H3 s13 (fT hq this)
   ·have s4:aD H3 (upd H3 z (.tup (cutV vs l h))):=bG hz;exact k _ _ (s13.trans s4) (fT (.inl (.inl aX)) ((cut_eq t l h).up s4))
  ·cases e
theorem jr{lo hi:Option Expr}{gl gh:Z.PF}{p2:Pos}(ha:DW X a fa)(hl:DP X lo gl)(hh:DP X hi gh):DL X (.Subscript a (.Slice lo hi none p2) pos) (Z.lSl fa gl gh) :=
 PE.imp (pe_slice sl_list ha hl hh) λ σ H Q ⟨ρ,d,r,e,k⟩=>by
  obtain⟨x,ea,e⟩:=Z.Res.ao e;obtain⟨l,el,e⟩:=Z.Res.ao e;obtain⟨h,eh,e⟩:=Z.Res.ao e;refine⟨ρ,x,r,ea,λ v H1 s1 d1=>⟨ρ,l,r.up s1,el,λ H2 s2=>⟨ρ,h,(r.up s1).up s2,eh,λ H3 s3=>?_⟩⟩⟩;have s13:aD H H3:=(s1.trans s2).trans s3;have d3:=(d1.up s2).up s3;split at e
  ·cases e;obtain⟨q,vs,rfl,hq,t⟩:=d3.lst;refine⟨q,vs,rfl,hq,λ z hz=>?_⟩;have s4:aD H3 (upd H3 z (.lst (cutV vs l h))):=bG hz;exact k z _ _ (s13.trans s4) (s13.free hz) aX ((cut_eq t l h).up s4)
  ·cases e
def rCatL(K:PySem.W.Frag):R2:=λ x y H Q=>∃l b xs zs,x=.ref l∧y=.ref b∧i6 K H l xs∧i6 K H b zs∧xs.length+zs.length≤sizeLine∧∀p,H p=none->Q (.ref p) (upd H p (.lst (xs++zs)))
theorem op_catL:ke X (binaryOp .Add) (rCatL X.K):=by
 intro pins s σ H x y v u Q I rx ry h;obtain⟨l,b,xs,zs,rfl,rfl,hH,hB,hz,q⟩:=h;cases rx;cases ry;obtain⟨aM,r,pl,_⟩:=I.list hH;obtain⟨dq,r2,pl2,_⟩:=I.list hB;have hl:=r.length;have hl2:=r2.length;obtain⟨⟨cls,dd,data,sl⟩,ho,hc,n,hd⟩:=id pl.isList;obtain⟨⟨cls2,dd2,data2,sl2⟩,ho2,hc2,n2,hd2⟩:=id pl2.isList;simp only at hc hd hc2 hd2;subst hc hd hc2 hd2;have ea:aM.toArray++dq.toArray=(aM++dq).toArray:=by simp
 refine concat_meets ⟨_,ho,rfl⟩ ⟨_,ho2,rfl⟩ noFill_list_add seq_list_add PySem.F.slot_list_add PySem.F.entry_list_add (PySem.F.args_list_add_2 _ _) (list_addW l b aM.toArray dq.toArray n n2 dd dd2 sl sl2 (by simp only[List.size_toArray];lia)) ⟨ho,ho2,?_⟩;rw[ea];exact⟨.ref _,_,I.lnew (t':=s.toks) (r.append r2) (by rw[List.length_append];lia),rfl,q _ I.fresh⟩
theorem dl_cat(ha:DW X a fa)(hb:DW X b fb):DL X (.BinOp a .Add b pos) (Z.lCat fa fb):=PE.imp (pe_op op_catL ha hb) λ σ H Q ⟨ρ,d,r,e,k⟩=>by
 obtain⟨x,ea,e⟩:=Z.Res.ao e;obtain⟨y,eb,e⟩:=Z.Res.ao e;refine⟨ρ,x,r,ea,λ v H1 s1 d1=>⟨ρ,y,r.up s1,eb,λ u H2 s2 d2=>?_⟩⟩;have s12:=s1.trans s2;split at e
 ·unfold Z.guard at e;split at e
  ·rename_i xs ys hl;cases e;obtain⟨q,vs,rfl,hq,t⟩:=(d1.up s2).lst;obtain⟨q',vs',rfl,hV,t'⟩:=d2.lst;refine⟨q,q',vs,vs',rfl,rfl,hq,hV,by rw[t.length,t'.length,sizeLine_eq];exact hl,λ z hz=>?_⟩;have s3:aD H2 (upd H2 z (.lst (vs++vs'))):=bG hz;exact k z _ _ (s12.trans s3) (s12.free hz) aX ((t.append t').up s3)
  ·cases e
 ·cases e
def spZ(K:PySem.W.Frag)(m:List Z.D->Z.Res Z.D):Sp:=λ vs H Q _=>∃ds d,ax K H ds vs∧m ds=.ok d∧∀v H',aD H H'->Den K H' d v->Q v H'
theorem de_call{k:Nat}{g:Addr}{fd:FuncData}{ps:List Str}{x:Str}{m:List Z.D->Z.Res Z.D}{ar:Z.AF}{p1:Pos}(F:k_ X.prog X.w X.K X.mg X.base CX0 k g fd ps (spZ X.K m))(hr:fH k X.A)(hg:Gl X x)(hm:X.mg x=some (.ref g))(hk:PySem.W.keepIn X.K (.ref g)=true)(hb:Binds X.K fd ps [])
  (ha:DA X (e :: es) ar) (hdb:(x==("__debug__" : Str))=false:=by decide +kernel) (he:starEach (e :: es) X.env=(false,eval e X.env) :: starEach es X.env:=by rfl) (hpl:(backTo pos (starEach es X.env)).any (·.1)=false:=by rfl) :
  DE X (.Call (.Name x p1) (e :: es) [] pos) (Z.aJ m ar) :=
 PE.imp (pe_call F hr hg hm hk hb .nil pass0 ha hdb he hpl) λ σ H Q ⟨ρ,d,r,e,k⟩=>by obtain⟨ds,ea,e⟩:=Z.Res.ao e;refine⟨ρ,ds,r,ea,λ vs H1 s1 d1=>?_⟩;show spZ X.K m (vs++[]) H1 Q E0;rw[List.append_nil];exact⟨ds,d,d1,e,λ v H' s2 dv=>k v H' (s1.trans s2) dv⟩
end
end ZS
namespace ZS
open PySem PySem.Spec PyProof.Rows L2
structure ItZ(K:PySem.W.Frag)(J:It)(S:Hp->Prop)(ds:List Z.D):Prop where
 go:∀(i:Nat)(d:Z.D)(H1:Hp),S H1->ds[i]?=some d->J.go i H1
 yld:∀(i:Nat)(d:Z.D)(H1 H2:Hp)(x:V),S H1->ds[i]?=some d->J.yld i H1 x H2->aD H1 H2∧Den K H2 d x
 stop:∀(H1:Hp),S H1->J.stop ds.length H1
def tZi(K:PySem.W.Frag)(f:Z.LF):TI:=λ σ H R=>∃ρ ds,RE K H σ ρ∧f ρ=.ok ds∧∀J H',aD H H'->ItZ K J (aD H') ds->R J H'
def tZj(K:PySem.W.Frag)(f:Z.LF):TI:=λ σ H R=>∃ρ ds,RE K H σ ρ∧f ρ=.ok ds∧∀J H',aD H H'->ItZ K J (i5 H') ds->R J H'
abbrev DI(X:Cx)(tg e:Expr)(f:Z.LF):Prop:=PI X tg e (tZi X.K f)
abbrev DJ(X:Cx)(tg e:Expr)(f:Z.LF):Prop:=PI X tg e (tZj X.K f)
section
variable {X:Cx}{tg e a b:Expr}{es:List Expr}{pos p:Pos}{f fa fb:Z.EF}
theorem PI.imp{t t':TI}(h:PI X tg e t)(k:∀σ H R,t' σ H R->t σ H R):PI X tg e t':=λ pins s σ H R I w=>h pins s σ H R I (k σ H R w)
theorem ItZ.imp{K:PySem.W.Frag}{J:It}{S S':Hp->Prop}{ds:List Z.D}(h:ItZ K J S ds)(k:∀H,S' H->S H):ItZ K J S' ds :=
 ⟨λ i d H1 s=>h.go i d H1 (k _ s),λ i d H1 H2 x s=>h.yld i d H1 H2 x (k _ s),λ H1 s=>h.stop H1 (k _ s)⟩
theorem di_j{g:Z.LF}(h:DJ X tg e g):DI X tg e g:=PI.imp h λ σ H R ⟨ρ,ds,r,e,k⟩=>⟨ρ,ds,r,e,λ J H' s z=>k J H' s (z.imp λ _ q=>stb q)⟩
theorem itz_tup{K:PySem.W.Frag}{H:Hp}{q:Addr}{vs:List V}{ds:List Z.D}(h:k? K H q vs)(t:ax K H ds vs):ItZ K (Itt K q) (i5 H) ds where
 go:=λ i d H1 s hi=>by obtain⟨v,h1,_⟩:=t.get hi;exact⟨vs,v,gI s h,h1⟩
 yld:=λ i d H1 H2 x s hi y=>by obtain⟨e,y⟩:=y;obtain⟨v,h1,h2⟩:=t.get hi;have:=y vs (gI s h);rw[h1]at this;cases this;subst e;exact⟨aD.refl _,h2.ups s⟩
 stop:=λ H1 s=>⟨vs,gI s h,by rw[t.length];exact Nat.le_refl _⟩
theorem itz_lst{K:PySem.W.Frag}{H:Hp}{q:Addr}{vs:List V}{ds:List Z.D}{S:Hp->Prop}(h:∀H1,S H1->i6 K H1 q vs)(t:∀H1,S H1->ax K H1 ds vs)(t0:ax K H ds vs):ItZ K (Itl K q) S ds where
 go:=λ i d H1 s hi=>by obtain⟨v,h1,_⟩:=t0.get hi;exact⟨vs,v,h H1 s,h1⟩
 yld:=λ i d H1 H2 x s hi y=>by obtain⟨e,y⟩:=y;obtain⟨v,h1,h2⟩:=(t H1 s).get hi;have:=y vs (h H1 s);rw[h1]at this;cases this;subst e;exact⟨aD.refl _,h2⟩
 stop:=λ H1 s=>⟨vs,h H1 s,by rw[t0.length];exact Nat.le_refl _⟩
theorem ints_get(lo:Int)(n i:Nat)(d:Z.D)(h:(Z.da lo n)[i]?=some d):i < n∧d=.int (lo+i):=by
 unfold Z.da at h;rw[List.getElem?_map]at h;cases q:(List.range n)[i]? with
 | none=>rw[q]at h;cases h
 | some j =>rw[q]at h;cases h;obtain⟨h1,h2⟩:=List.getElem?_eq_some_iff.mp q;rw[List.length_range]at h1;rw[List.getElem_range]at h2;subst h2;exact⟨h1,rfl⟩
theorem itz_rng{K:PySem.W.Frag}{S:Hp->Prop}(lo:Int)(n:Nat):ItZ K (Itr lo n) S (Z.da lo n) where
 go:=λ i d H1 s hi=>(ints_get lo n i d hi).1
 yld:=λ i d H1 H2 x s hi y=>by obtain⟨e,y⟩:=y;obtain⟨_,rfl⟩:=ints_get lo n i d hi;subst e;rw[y];exact⟨aD.refl _,cV⟩
 stop:=λ H1 s=>by show n≤(Z.da lo n).length;unfold Z.da;rw[List.length_map,List.length_range];exact Nat.le_refl _
theorem turn_long{P:Program}{w:World}{K:PySem.W.Frag}{tg:Expr}(it:Addr)(lo:Int)(n:Nat):Turn P w K tg (Itr lo n) [it] it (λ i h=>IsLongIter h it (lo+(i:Nat)*1) ((n:Int)-(i:Nat)) 1) where
 mem:=by simp
 obj:=λ i h st b hb=>by
  have e:b=it:=by simpa using hb
  subst e;exact⟨_,st,λ v z=>by have z':Data.fields _=Data.cell v:=z;cases z'⟩
 keep:=λ i h h' st k=>k it (by simp) _ st
 item:=by intro X hP hw hK hc i pins s σ H E I hf st hg;subst hP hw hK;obtain⟨f0,f1,f2,f3,f4,f5⟩:=hf it (by simp);have W:=Walks.longrange (prog:=X.prog) (w:=X.w) (I.ok.hd hc) it lo 1 n;refine W.item i s _ _ hg st λ v h' tk hv aL kk=>?_;obtain⟨t,rfl⟩:=hv;have I1:Inv X pins σ H { s with heap:=h',toks:=tk }:=I.turned (λ b o hb e=>kk b o (by simpa using hb) e) f0 f1 f3 f4 f5;refine⟨_,rfl,go_of (s:={ s with heap:=h',toks:=tk }) (n := "longrange_iterator") aL rfl rfl (by decide) ⟨.int (lo+i),H,I1,⟨t,?_⟩,⟨rfl,rfl⟩,aL,λ b hb=>(hf b hb).1⟩⟩;rw[Int.mul_one]
 done:=by intro X hP hw hK hc i pins s σ H E I hf st hg;subst hP hw hK;obtain⟨f0,f1,f2,f3,f4,f5⟩:=hf it (by simp);exact wpAny_pyNext_long_end (I.ok.hd hc) st (by have:n≤i:=hg;lia) λ h' eb=>⟨rfl,I.turned (t':=s.toks) (λ b o hb e=>eb b o hb e) f0 f1 f3 f4 f5⟩
 self:=λ _ _ _ _ _ st h=>wpAny_pyIter_longiter st h
theorem range_any{pins:List (Addr×Obj)}{σ:St}{H:Hp}{s:Shared}{R:It->Hp->Prop}{E:Value->Shared->Prop}{lo hi:Int}{t u v:Tok}{tk:Nat}(I:Inv X pins σ H s)
  (q:R (Itr lo (hi-lo).toNat) H):wpAny (model X.prog X.w) X.A (pyIter (.ref s.heap.objs.size)) (PIE X pins σ tg R) E { s with heap:=s.heap.push { cls:=.type "range",data:=.fields #[.int lo t,.int hi u,.int 1 v] },toks:=tk }:=by
 have I1:Inv X pins σ H { s with heap:=s.heap.push { cls:=.type "range",data:=.fields #[.int lo t,.int hi u,.int 1 v] },toks:=tk }:=I.kept λ b o e=>Heap.get?_push_of_some _ e;have e1:lo+((0:Nat):Int)*1=lo:=by simp
 have e2:(((hi-lo).toNat:Nat):Int)-((0:Nat):Int)=Builtin.Range.rangeSize lo hi 1:=by rw[rangeSize_one];split<;>lia
 cases hs:Builtin.Range.small lo hi 1 with
 | true =>
  refine wpAny_pyIter_range (IsRange.new ..) hs ?_;refine⟨(s.heap.push { cls:=.type "range",data:=.fields #[.int lo t,.int hi u,.int 1 v] }).objs.size,[(s.heap.push { cls:=.type "range",data:=.fields #[.int lo t,.int hi u,.int 1 v] }).objs.size],_,_,H,rfl,
   I1.kept (t':=tk) λ b o e=>Heap.get?_push_of_some _ e,turn_range _ lo (hi-lo).toNat,?_,λ b hb=>?_,q⟩
  ·show IsRangeIter _ _ (lo+((0:Nat):Int)*1) ((((hi-lo).toNat:Nat):Int)-((0:Nat):Int)) 1;rw[e1,e2];exact Heap.get?_push_size _ rfl
  ·have e:b=(s.heap.push { cls:=.type "range",data:=.fields #[.int lo t,.int hi u,.int 1 v] }).objs.size:=by simpa using hb
   subst e;exact I1.fpOk (Nat.le_refl _) (I1.dO.fresh (Nat.le_refl _))
 | false =>
  refine wpAny_pyIter_longrange (IsRange.new ..) hs ?_;refine⟨(s.heap.push { cls:=.type "range",data:=.fields #[.int lo t,.int hi u,.int 1 v] }).objs.size,[(s.heap.push { cls:=.type "range",data:=.fields #[.int lo t,.int hi u,.int 1 v] }).objs.size],_,_,H,rfl,
   I1.kept (t':=tk) λ b o e=>Heap.get?_push_of_some _ e,turn_long _ lo (hi-lo).toNat,?_,λ b hb=>?_,q⟩
  ·show IsLongIter _ _ (lo+((0:Nat):Int)*1) ((((hi-lo).toNat:Nat):Int)-((0:Nat):Int)) 1;rw[e1,e2];exact Heap.get?_push_size _ rfl
  ·have e:b=(s.heap.push { cls:=.type "range",data:=.fields #[.int lo t,.int hi u,.int 1 v] }).objs.size:=by simpa using hb
   subst e;exact I1.fpOk (Nat.le_refl _) (I1.dO.fresh (Nat.le_refl _))
def aRng1(ta:TA):TI:=λ σ H R=>ta σ H λ vs H1=>∃j:Int,vs=[.int j]∧R (Itr 0 j.toNat) H1
def aRng2(ta:TA):TI:=λ σ H R=>ta σ H λ vs H1=>∃i j:Int,vs=[.int i,.int j]∧R (Itr i (j-i).toNat) H1
theorem pi_any1{a:Expr}{ta:TA}{p pos:Pos}(hg:Gl X "range")(hm:X.mg "range" = none)(ha:PA X [a] ta)(hs:starEach [a] X.env=[(false,eval a X.env)]:=by rfl):PI X tg (.Call (.Name "range" p) [a] [] pos) (aRng1 ta):=by
 intro pins s σ H R I h;refine Call_ (l? I hg hm boot_range (PyProof.Rows.callWith_type1 (du (ha pos pins s σ H _ I h) λ us s1 ⟨vs,H1,I1,r1,q1⟩=>?_) hs rfl));obtain⟨j,e,q⟩:=q1;subst e;cases r1 with
 | cons r rr =>cases rr;obtain⟨t,rfl⟩:=r;exact call_range_1 (range_any I1 (by simpa using q))
theorem pi_any2{a b:Expr}{ta:TA}{p pos:Pos}(hg:Gl X "range")(hm:X.mg "range" = none)(ha:PA X [a,b] ta)(hs:starEach [a,b] X.env=[(false,eval a X.env),(false,eval b X.env)]:=by rfl)(hs2:starEach [b] X.env=[(false,eval b X.env)]:=by rfl):
  PI X tg (.Call (.Name "range" p) [a,b] [] pos) (aRng2 ta):=by
 intro pins s σ H R I h;refine Call_ (l? I hg hm boot_range (PyProof.Rows.callWith_type1 (du (ha pos pins s σ H _ I h) λ us s1 ⟨vs,H1,I1,r1,q1⟩=>?_) (by rw[hs,hs2]) (by rw[hs2];rfl)));obtain⟨i,j,e,q⟩:=q1;subst e;cases r1 with
 | cons r rr =>
  cases rr with
  | cons r' rr =>cases rr;obtain⟨t,rfl⟩:=r;obtain⟨t',rfl⟩:=r';exact call_range_2 (range_any I1 q)
theorem dG(hg:Gl X "range")(hm:X.mg "range" = none)(ha:DE X a fa)(hs:starEach [a] X.env=[(false,eval a X.env)]:=by rfl)(hs1:starEach (a :: []) X.env=(false,eval a X.env) :: starEach [] X.env:=by rfl):DJ X tg (.Call (.Name "range" p) [a] [] pos) (Z.hU fa) :=
 PI.imp (pi_any1 hg hm (a! ha cQ hs1) hs) λ σ H R ⟨ρ,ds,r,e,k⟩=>by
  obtain⟨x,ea,e⟩:=Z.Res.ao e;refine⟨ρ,x,r,ea,λ v H1 s1 d1=>?_⟩;split at e
  ·rename_i j;cases e;simp only[Den]at d1;exact⟨j,by rw[d1],k _ H1 s1 (itz_rng 0 j.toNat)⟩
  ·cases e
theorem dj_rng2(hg : Gl X "range")(hm : X.mg "range" = none)(ha : DE X a fa)(hb : DE X b fb)(hs : starEach [a, b] X.env = [(false, eval a X.env), (false, eval b X.env)] := by rfl)(hs2 : starEach [b] X.env = [(false, eval b X.env)] := by rfl)
  (h1:starEach (a :: [b]) X.env=(false,eval a X.env) :: starEach [b] X.env:=by rfl) (h2:starEach (b :: []) X.env=(false,eval b X.env) :: starEach [] X.env:=by rfl):DJ X tg (.Call (.Name "range" p) [a,b] [] pos) (Z.iRng2 fa fb) :=
 PI.imp (pi_any2 hg hm (a! ha (a! hb cQ h2) h1) hs hs2) λ σ H R ⟨ρ,ds,r,e,k⟩=>by
  obtain⟨x,ea,e⟩:=Z.Res.ao e;obtain⟨y,eb,e⟩:=Z.Res.ao e;obtain⟨i,j,rfl,rfl,rfl⟩:∃i j,x=.int i∧y=.int j∧ds=Z.da i (j-i).toNat:=by
   split at e
   ·cases e;exact⟨_,_,rfl,rfl,rfl⟩
   ·cases e
  refine⟨ρ,_,r,ea,λ v H1 s1 d1=>⟨ρ,_,r.up s1,eb,λ u H2 s2 d2=>?_⟩⟩;simp only[Den]at d1 d2;exact⟨i,j,by rw[d1,d2],k _ H2 (s1.trans s2) (itz_rng i (j-i).toNat)⟩
def Its(z:Str):It:=⟨λ i _=>i < z.cps.size,λ i H x H'=>H'=H∧∃c,z.cps[i]?=some c∧x=.str ⟨#[c]⟩,λ i _=>i=z.cps.size⟩
theorem turn_str{P:Program}{w:World}{K:PySem.W.Frag}(z:Str)(it:Addr)(n:String)(hn:["enumerate", "zip", "dict_itemiterator", "dict_reverseitemiterator", "odict_iterator", "itertools.zip_longest", "itertools.pairwise"].contains n=false)(t:Tok)
  (W:∀A:Around,A.handled=none->Walks P w A it [it] [it] z.cps.size (SignAt z) (λ i h=>h.IsStrIter it n z t i)) (self:∀(A:Around)(i:Nat)(s:Shared)(Q:Value->Shared->Prop)(E:Value->Shared->Prop),s.heap.IsStrIter it n z t i->Q (.ref it) s->wpAny (model P w) A (pyIter (.ref it)) Q E s) :
  Turn P w K tg (Its z) [it] it (λ i h=>h.IsStrIter it n z t i) where
 mem:=by simp
 obj:=λ i h st b hb=>by
  have e:b=it:=by simpa using hb
  subst e;obtain⟨o,e,c,d⟩:=st;exact⟨o,e,λ v z=>by rw[d]at z;cases z⟩
 keep:=λ i h h' st k=>by obtain⟨o,e,c,d⟩:=st;exact⟨o,k it (by simp) o e,c,d⟩
 item:=by intro X hP hw hK hc i pins s σ H E I hf st hg;subst hP hw hK;obtain⟨f0,f1,f2,f3,f4,f5⟩:=hf it (by simp);refine(W X.A (I.ok.hd hc)).item i s _ _ hg st λ v h' tk hv aL kk=>?_;obtain⟨c,u,hcc,rfl⟩:=hv;have I1:Inv X pins σ H { s with heap:=h',toks:=tk }:=I.turned (λ b o hb e=>kk b o (by simpa using hb) e) f0 f1 f3 f4 f5;obtain⟨o,e,c',d⟩:=id aL;exact⟨_,rfl,go_of (s:={ s with heap:=h',toks:=tk }) e c' d hn ⟨.str ⟨#[c]⟩,H,I1,⟨u,rfl⟩,⟨rfl,c,hcc,rfl⟩,aL,λ b hb=>(hf b hb).1⟩⟩
 done:=by intro X hP hw hK hc i pins s σ H E I hf st hg;subst hP hw hK;obtain⟨f0,f1,f2,f3,f4,f5⟩:=hf it (by simp);have hg':i=z.cps.size:=hg;subst hg';exact(W X.A (I.ok.hd hc)).done s _ _ st λ h' tk kk=>⟨rfl,I.turned (λ b o hb e=>kk b o (by simpa using hb) e) f0 f1 f3 f4 f5⟩
 self:=self
theorem itz_str{K:PySem.W.Frag}{S:Hp->Prop}(cs:List Nat):ItZ K (Its ⟨cs.toArray⟩) S (cs.map λ c=>.str [c]) where
 go:=λ i d H1 s hi=>by show i < cs.toArray.size;obtain⟨h1,_⟩:=List.getElem?_eq_some_iff.mp hi;simpa using h1
 yld:=λ i d H1 H2 x s hi y=>by
  obtain⟨e,c,hc,rfl⟩:=y;have hc':cs[i]?=some c:=by simpa using hc
  rw[List.getElem?_map,hc']at hi;cases hi;subst e;exact⟨aD.refl _,iW (cs:=[c])⟩
 stop:=λ H1 s=>by show(cs.map λ c=>Z.D.str [c]).length=cs.toArray.size;simp
theorem seq_it{pins : List (Addr × Obj)}{σ : St}{H : Hp}{s : Shared}{R : It -> Hp -> Prop}{E : Value -> Shared -> Prop}{d : Z.D}{v : V}{u : Value}{ds : List Z.D}{S : Hp -> Prop}(I : Inv X pins σ H s)(rv : RelV v u)(hd : aZ X.K H d v)(hi : Z.kT d = .ok ds)
  (hS:∀H1,S H1->i5 H H1) (hL:∀es q vs,d=.lst es->v=.ref q->i6 X.K H q vs->∀H1,S H1->i6 X.K H1 q vs)
  (k:∀J,ItZ X.K J S ds->R J H):wpAny (model X.prog X.w) X.A (pyIter u) (PIE X pins σ tg R) E s:=by
 unfold Z.kT at hi;split at hi
 ·cases hi;obtain⟨q,vs,rfl,hq,t⟩:=hd.tup;cases rv;obtain⟨aM,r',pl,hz⟩:=I.tuple hq;refine wpAny_pyIter_tuple (show s.heap.IsTuple q aM.toArray from pl) ?_;refine⟨s.heap.objs.size,[s.heap.objs.size],_,_,H,rfl,I.kept (t':=s.toks) λ b o e=>Heap.get?_push_of_some _ e,turn_tuple q _,⟨_,Heap.get?_push_size _ rfl,rfl,rfl⟩,λ b hb=>?_,k _ ((itz_tup hq t).imp hS)⟩;have e:b=s.heap.objs.size:=by simpa using hb
  subst e;exact I.fpOk (Nat.le_refl _) (I.dO.fresh (Nat.le_refl _))
 ·cases hi;obtain⟨q,vs,rfl,hq,t⟩:=hd.lst;cases rv;obtain⟨aM,r',pl,hz⟩:=I.list hq;refine wpAny_pyIter_list pl.isList ?_;refine⟨s.heap.objs.size,[s.heap.objs.size],_,_,H,rfl,I.kept (t':=s.toks) λ b o e=>Heap.get?_push_of_some _ e,turn_list q _,⟨_,Heap.get?_push_size _ rfl,rfl,rfl⟩,λ b hb=>?_,
   k _ (itz_lst (λ H1 s1=>hL _ q vs rfl rfl hq H1 s1) (λ H1 s1=>t.ups (hS H1 s1)) t)⟩
  have e:b=s.heap.objs.size:=by simpa using hb
  subst e;exact I.fpOk (Nat.le_refl _) (I.dO.fresh (Nat.le_refl _))
 ·cases hi;rename_i cs;rw[hd.str]at rv;obtain⟨t,rfl⟩:=rv;have fin:∀(n:String) (hn:["enumerate", "zip", "dict_itemiterator", "dict_reverseitemiterator", "odict_iterator", "itertools.zip_longest", "itertools.pairwise"].contains n=false)
    (W:∀A:Around,A.handled=none->Walks X.prog X.w A s.heap.objs.size [s.heap.objs.size] [s.heap.objs.size] (⟨cs.toArray⟩:Str).cps.size (SignAt ⟨cs.toArray⟩) (λ i h=>h.IsStrIter s.heap.objs.size n ⟨cs.toArray⟩ t i))
    (self:∀(A:Around)(i:Nat)(s':Shared)(Q:Value->Shared->Prop)(E:Value->Shared->Prop),s'.heap.IsStrIter s.heap.objs.size n ⟨cs.toArray⟩ t i->Q (.ref s.heap.objs.size) s'->wpAny (model X.prog X.w) A (pyIter (.ref s.heap.objs.size)) Q E s'),
    PIE X pins σ tg R (.ref s.heap.objs.size) { s with heap:=s.heap.push { cls:=.type n,data:=.fields #[.str ⟨cs.toArray⟩ t,.int 0 0] } }:=by
   intro n hn W self;refine⟨s.heap.objs.size,[s.heap.objs.size],_,_,H,rfl,I.kept (t':=s.toks) λ b o e=>Heap.get?_push_of_some _ e,turn_str ⟨cs.toArray⟩ _ n hn t W self,⟨_,Heap.get?_push_size _ rfl,rfl,rfl⟩,λ b hb=>?_,k _ (itz_str cs)⟩;have e:b=s.heap.objs.size:=by simpa using hb
   subst e;exact I.fpOk (Nat.le_refl _) (I.dO.fresh (Nat.le_refl _))
  cases ha:(⟨cs.toArray⟩:Str).cps.all (· < 128)
  ·exact wpAny_pyIter_wide ha (fin "str_iterator" (by decide) (λ A' hA=>Walks.strWide hA _ _ t) λ _ _ _ _ _ st hQ=>wpAny_pyIter_striter_wide st hQ)
  ·exact wpAny_pyIter_ascii ha (fin "str_ascii_iterator" (by decide) (λ A' hA=>Walks.strAscii hA _ _ t) λ _ _ _ _ _ st hQ=>wpAny_pyIter_striter_ascii st hQ)
 ·cases hi
theorem c6(ha:DW X a fa):DI X tg a (Z.fv fa):=by intro pins s σ H R I w;obtain⟨ρ,ds,r,e,k⟩:=w;obtain⟨d,ea,e⟩:=Z.Res.ao e;refine du (ha pins s σ H (λ v H1=>aD H H1∧aZ X.K H1 d v) I ⟨ρ,d,r,ea,λ v H1 s1 d1=>⟨s1,d1⟩⟩) ?_;rintro u s1 ⟨v,H1,I1,rv,sm,hd⟩;exact seq_it (S:=aD H1) I1 rv hd e (λ _ q=>stb q) (λ _ _ _ _ _ hq H2 s2=>s2.seq hq) λ J z=>k J H1 sm z
theorem jT(ha:DE X a fa):DJ X tg a (Z.fv fa):=by intro pins s σ H R I w;obtain⟨ρ,ds,r,e,k⟩:=w;obtain⟨d,ea,e⟩:=Z.Res.ao e;refine du (ha pins s σ H (λ v H1=>aD H H1∧Den X.K H1 d v) I ⟨ρ,d,r,ea,λ v H1 s1 d1=>⟨s1,d1⟩⟩) ?_;rintro u s1 ⟨v,H1,I1,rv,sm,hd⟩;refine seq_it (S:=i5 H1) I1 rv (.inl hd) e (λ _ q=>q) (λ es q vs e1 e2 hq H2 s2=>?_) λ J z=>k J H1 sm z;subst e1;simp only[Den]at hd;obtain⟨q',vs',e3,hz,_⟩:=hd;rw[e2]at e3;cases e3;rw[I1.m_ hq hz.sq];exact(hz.mono s2).sq
def jv(H0:Hp)(σ:St)(ρ:Z.Env):Prop:=(∀(i j:Nat)(ks ls:Z.DK)(a:Addr),ρ[i]?=some (some (.dc ks))->ρ[j]?=some (some (.dc ls))->σ[i]?=some (some (.ref a))->σ[j]?=some (some (.ref a))->i=j) ∧
 ∀(i:Nat)(ks:Z.DK)(q:Addr),ρ[i]?=some (some (.dc ks))->σ[i]?=some (some (.ref q))->H0 q=none
theorem jv.non{H0:Hp}{σ:St}{ρ:Z.Env}(h:∀(i:Nat)(ks:Z.DK),ρ[i]?≠some (some (.dc ks))):jv H0 σ ρ:=⟨λ i _ ks _ _ e=>absurd e (h i ks),λ i ks _ e=>absurd e (h i ks)⟩
structure RS(K:PySem.W.Frag)(H0 H:Hp)(σ:St)(ρ:Z.Env):Prop where
 same:aD H0 H
 re:RE K H σ ρ
 fresh:∀(i:Nat)(xs:List Z.D)(q:Addr),ρ[i]?=some (some (.own xs))->σ[i]?=some (some (.ref q))->H0 q=none
 nR:∀(i:Nat)(xs:List Z.D),ρ[i]?=some (some (.bor xs))->∃v,σ[i]?=some (some v)∧aZ K H0 (.lst xs) v
 lU:jv H0 σ ρ
def flZ(K:PySem.W.Frag)(H0 H:Hp)(D:Ends):Z.Fl->Prop
 | .nx ρ'=>∀σ' H',i5 H H'->RS K H0 H' σ' ρ'->D.nx σ' H'
 | .rt d=>∀v H',aD H0 H'->Den K H' d v->D.rt v H'
 | .bk ρ'=>∀σ' H',i5 H H'->RS K H0 H' σ' ρ'->D.bk σ' H'
 | .ct ρ'=>∀σ' H',i5 H H'->RS K H0 H' σ' ρ'->D.ct σ' H'
def tS(K:PySem.W.Frag)(H0:Hp)(g:Z.SF):TS:=λ D σ H=>∃ρ fl,RS K H0 H σ ρ∧g ρ=.ok fl∧flZ K H0 H D fl
abbrev DS(X:Cx)(H0:Hp)(st:Stmt)(g:Z.SF):Prop:=PS X st (tS X.K H0 g)
abbrev DSs(X:Cx)(H0:Hp)(st:List Stmt)(g:Z.SF):Prop:=PSs X st (tS X.K H0 g)
theorem PS.imp{st:Stmt}{t t':TS}(h:PS X st t)(k:∀D σ H,t' D σ H->t D σ H):PS X st t':=λ pins s σ H D I w=>h pins s σ H D I (k D σ H w)
theorem PSs.imp{st:List Stmt}{t t':TS}(h:PSs X st t)(k:∀D σ H,t' D σ H->t D σ H):PSs X st t':=λ pins s σ H D I w=>h pins s σ H D I (k D σ H w)
theorem RS.up{K:PySem.W.Frag}{H0 H H':Hp}{σ:St}{ρ:Z.Env}(h:RS K H0 H σ ρ)(e:aD H H'):RS K H0 H' σ ρ:=⟨h.same.trans e,h.re.up e,h.fresh,h.nR,h.lU⟩
theorem flZ.up{K:PySem.W.Frag}{H0 H H1:Hp}{D:Ends}{fl:Z.Fl}(h:flZ K H0 H D fl)(e:i5 H H1):flZ K H0 H1 D fl:=by
 cases fl with
 | nx ρ'=>exact λ σ' H' s r=>h σ' H' (e.trans s) r
 | rt d=>exact h
 | bk ρ'=>exact λ σ' H' s r=>h σ' H' (e.trans s) r
 | ct ρ'=>exact λ σ' H' s r=>h σ' H' (e.trans s) r
theorem aA{α:Type}{l:List (Option α)}{i j:Nat}{x:Option α}{y:α}(h:(l.set i x)[j]?=some (some y)):(i=j∧i < l.length∧x=some y)∨(i≠j∧l[j]?=some (some y)):=by
 by_cases hij:i=j
 ·subst hij;by_cases hl:i < l.length
  ·rw[List.getElem?_set_self hl]at h;exact .inl ⟨rfl,hl,Option.some.inj h⟩
  ·rw[List.getElem?_eq_none (by simpa using hl)]at h;cases h
 ·rw[List.getElem?_set_ne hij]at h;exact .inr ⟨hij,h⟩
theorem jv.set{H0:Hp}{σ:St}{ρ:Z.Env}{i:Nat}{v:V}{l:Z.L}(h:jv H0 σ ρ)(n:∀ks,l≠.dc ks):jv H0 (σ.set i (some v)) (ρ.set i (some l)):=by
 have get:∀(j:Nat)(ks:Z.DK),(ρ.set i (some l))[j]?=some (some (.dc ks))->ρ[j]?=some (some (.dc ks))∧(σ.set i (some v))[j]?=σ[j]?:=λ j ks e=>by
  rcases aA e with⟨_,_,e⟩ | ⟨hj,e⟩
  ·exact absurd (Option.some.inj e) (n ks)
  ·exact⟨e,List.getElem?_set_ne hj⟩
 exact⟨λ j k ks ls a e1 e2 e3 e4=>h.1 j k ks ls a (get j ks e1).1 (get k ls e2).1 (by rw[<-(get j ks e1).2];exact e3) (by rw[<-(get k ls e2).2];exact e4),λ j ks q e1 e2=>h.2 j ks q (get j ks e1).1 (by rw[<-(get j ks e1).2];exact e2)⟩
theorem jv.setρ{H0:Hp}{σ:St}{ρ:Z.Env}{i:Nat}{l:Z.L}(h:jv H0 σ ρ)(n:∀ks,l≠.dc ks):jv H0 σ (ρ.set i (some l)):=by
 have get:∀(j:Nat)(ks:Z.DK),(ρ.set i (some l))[j]?=some (some (.dc ks))->ρ[j]?=some (some (.dc ks)):=λ j ks e=>by
  rcases aA e with⟨_,_,e⟩ | ⟨hj,e⟩
  ·exact absurd (Option.some.inj e) (n ks)
  ·exact e
 exact⟨λ j k ks ls a e1 e2 e3 e4=>h.1 j k ks ls a (get j ks e1) (get k ls e2) e3 e4,λ j ks q e1 e2=>h.2 j ks q (get j ks e1) e2⟩
theorem RS.setV{K : PySem.W.Frag}{H0 H : Hp}{σ : St}{ρ : Z.Env}{i : Nat}{d : Z.D}{v : V}(h : RS K H0 H σ ρ)(hd : Den K H d v): RS K H0 H (σ.set i (some v)) (ρ.set i (some (.val d))) := by
 have getσ:∀(j:Nat),i≠j->(σ.set i (some v))[j]?=σ[j]?:=λ j hj=>List.getElem?_set_ne hj;refine⟨h.same,⟨by simp[h.re.len],λ j l e=>?_,λ j k xs ys q e1 e2 e3 e4=>?_⟩,λ j xs q e1 e2=>?_,λ j xs e1=>?_,h.lU.set λ _ z=>nomatch z⟩
 ·rcases aA e with⟨rfl,hl,e⟩ | ⟨hj,e⟩
  ·cases e;exact⟨v,List.getElem?_set_self (by rw[<-h.re.len];exact hl),hd⟩
  ·rw[getσ j hj];exact h.re.get j l e
 ·rcases aA e1 with⟨_,_,e⟩ | ⟨hj,e1⟩
  ·cases e
  ·rcases aA e2 with⟨_,_,e⟩ | ⟨hk,e2⟩
   ·cases e
   ·rw[getσ j hj]at e3;rw[getσ k hk]at e4;exact h.re.sep j k xs ys q e1 e2 e3 e4
 ·rcases aA e1 with⟨_,_,e⟩ | ⟨hj,e1⟩
  ·cases e
  ·rw[getσ j hj]at e2;exact h.fresh j xs q e1 e2
 ·rcases aA e1 with⟨_,_,e⟩ | ⟨hj,e1⟩
  ·cases e
  ·rw[getσ j hj];exact h.nR j xs e1
theorem RS.setO{K : PySem.W.Frag}{H0 H : Hp}{σ : St}{ρ : Z.Env}{i : Nat}{ds : List Z.D}{q : Addr}{vs : List V}(h : RS K H0 H σ ρ)(hq : H q = some (.lst vs))(t : ax K H ds vs)(h0 : H0 q = none)
  (nq:∀(j:Nat)(xs:List Z.D),j≠i->ρ[j]?=some (some (.own xs))->σ[j]?≠some (some (.ref q))):RS K H0 H (σ.set i (some (.ref q))) (ρ.set i (some (.own ds))):=by
 have getσ:∀(j:Nat),i≠j->(σ.set i (some (V.ref q)))[j]?=σ[j]?:=λ j hj=>List.getElem?_set_ne hj;refine⟨h.same,⟨by simp[h.re.len],λ j l e=>?_,λ j k xs ys p e1 e2 e3 e4=>?_⟩,λ j xs p e1 e2=>?_,λ j xs e1=>?_,h.lU.set λ _ z=>nomatch z⟩
 ·rcases aA e with⟨rfl,hl,e⟩ | ⟨hj,e⟩
  ·cases e;exact⟨.ref q,List.getElem?_set_self (by rw[<-h.re.len];exact hl),q,vs,rfl,hq,t⟩
  ·rw[getσ j hj];exact h.re.get j l e
 ·rcases aA e1 with⟨rfl,hl,_⟩ | ⟨hj,e1⟩
  ·rcases aA e2 with⟨rfl,_,_⟩ | ⟨hk,e2⟩
   ·rfl
   ·rw[List.getElem?_set_self (by rw[<-h.re.len];exact hl)]at e3;cases e3;rw[getσ k hk]at e4;exact absurd e4 (nq k ys (Ne.symm hk) e2)
  ·rcases aA e2 with⟨rfl,hl,_⟩ | ⟨hk,e2⟩
   ·rw[List.getElem?_set_self (by rw[<-h.re.len];exact hl)]at e4;cases e4;rw[getσ j hj]at e3;exact absurd e3 (nq j xs (Ne.symm hj) e1)
   ·rw[getσ j hj]at e3;rw[getσ k hk]at e4;exact h.re.sep j k xs ys p e1 e2 e3 e4
 ·rcases aA e1 with⟨rfl,hl,_⟩ | ⟨hj,e1⟩
  ·rw[List.getElem?_set_self (by rw[<-h.re.len];exact hl)]at e2;cases e2;exact h0
  ·rw[getσ j hj]at e2;exact h.fresh j xs p e1 e2
 ·rcases aA e1 with⟨_,_,e⟩ | ⟨hj,e1⟩
  ·cases e
  ·rw[getσ j hj];exact h.nR j xs e1
theorem RS.chg{K : PySem.W.Frag}{H0 H : Hp}{σ : St}{ρ : Z.Env}{i : Nat}{xs ds : List Z.D}{q : Addr}{us vs : List V}(h : RS K H0 H σ ρ)(ei : ρ[i]? = some (some (.own xs)))(si : σ[i]? = some (some (.ref q)))(hq : H q = some (.lst us))(t : ax K H ds vs):
  RS K H0 (upd H q (.lst vs)) σ (ρ.set i (some (.own ds))):=by
 have st:i5 H (upd H q (.lst vs)):=iL hq;have h0:H0 q=none:=h.fresh i xs q ei si;have hs:aD H0 (upd H q (.lst vs)):=λ b u e=>by rw[aK (bH e h0)];exact h.same b u e
 refine⟨hs,⟨by simp[h.re.len],λ j l e=>?_,λ j k xs' ys p e1 e2 e3 e4=>?_⟩,λ j xs' p e1 e2=>?_,λ j xs' e1=>?_,h.lU.setρ λ _ z=>nomatch z⟩
 ·rcases aA e with⟨rfl,hl,e⟩ | ⟨hj,e⟩
  ·cases e;exact⟨.ref q,si,q,vs,rfl,aX,t.ups st⟩
  ·obtain⟨v,e1,r⟩:=h.re.get j l e;refine⟨v,e1,?_⟩;cases l with
   | val d=>exact Den.ups (show Den K H d v from r) st
   | own zs =>
    obtain⟨q',ws,rfl,hV,t'⟩:=r;have:q'≠q:=by rintro rfl;exact hj (h.re.sep i j xs zs q' ei e si e1)
    exact⟨q',ws,rfl,by rw[aK this];exact hV,t'.ups st⟩
   | bor zs =>obtain⟨v',e2,r2⟩:=h.nR j zs e;rw[e1]at e2;cases e2;exact r2.up hs
   | dc ks =>
    obtain⟨q',as,rfl,hV,t'⟩:=r;have:q'≠q:=by rintro rfl;rw[hq]at hV;exact dcO_lst (Option.some.inj hV).symm
    exact⟨q',as,rfl,by rw[aK this];exact hV,t'.ups st⟩
   | fdc ks =>obtain⟨q',o',as,rfl,hV,t'⟩:=r;exact⟨q',o',as,rfl,st.fh _ _ _ hV,t'.ups st⟩
   | idc ps =>obtain⟨q',o',rfl,hV⟩:=r;exact⟨q',o',rfl,st.fh _ _ _ hV⟩
   | exc c =>obtain⟨q',o',u',C',rfl,hV,r1,r2,r3⟩:=r;exact⟨q',o',u',C',rfl,st.fh _ _ _ hV,r1,r2,r3.ups st⟩
 ·have old:∀{j:Nat}{zs:List Z.D},(ρ.set i (some (Z.L.own ds)))[j]?=some (some (.own zs))->∃zs',ρ[j]?=some (some (.own zs')):=λ {j zs} e=>by
   rcases aA e with⟨rfl,_,_⟩ | ⟨_,e⟩
   ·exact⟨xs,ei⟩
   ·exact⟨zs,e⟩
  obtain⟨_,o1⟩:=old e1;obtain⟨_,o2⟩:=old e2;exact h.re.sep j k _ _ p o1 o2 e3 e4
 ·rcases aA e1 with⟨rfl,_,_⟩ | ⟨_,e1⟩
  ·exact h.fresh i xs p ei e2
  ·exact h.fresh j xs' p e1 e2
 ·rcases aA e1 with⟨_,_,e⟩ | ⟨_,e1⟩
  ·cases e
  ·exact h.nR j xs' e1
theorem RS.fh{K : PySem.W.Frag}{H0 H : Hp}{σ : St}{ρ : Z.Env}{i : Nat}{xs : List Z.D}{q : Addr}{us : List V}{o : Obj}(h : RS K H0 H σ ρ)(ei : ρ[i]? = some (some (.own xs)))(si : σ[i]? = some (some (.ref q)))(hq : H q = some (.lst us))(t : ax K H xs us):
  RS K H0 (upd H q (.fh o (.lst us))) σ (ρ.set i (some (.val (.lst xs)))):=by
 have st:i5 H (upd H q (.fh o (.lst us))):=iL hq;have h0:H0 q=none:=h.fresh i xs q ei si;have hs:aD H0 (upd H q (.fh o (.lst us))):=λ b u e=>by rw[aK (bH e h0)];exact h.same b u e
 refine⟨hs,⟨by simp[h.re.len],λ j l e=>?_,λ j k xs' ys p e1 e2 e3 e4=>?_⟩,λ j xs' p e1 e2=>?_,λ j xs' e1=>?_,h.lU.setρ λ _ z=>nomatch z⟩
 ·rcases aA e with⟨rfl,hl,e⟩ | ⟨hj,e⟩
  ·cases e;exact⟨.ref q,si,den_lst (.inl ⟨o,aX⟩) (t.ups st)⟩
  ·obtain⟨v,e1,r⟩:=h.re.get j l e;refine⟨v,e1,?_⟩;cases l with
   | val d=>exact Den.ups (show Den K H d v from r) st
   | own zs =>
    obtain⟨q',ws,rfl,hV,t'⟩:=r;have:q'≠q:=by rintro rfl;exact hj (h.re.sep i j xs zs q' ei e si e1)
    exact⟨q',ws,rfl,by rw[aK this];exact hV,t'.ups st⟩
   | bor zs =>obtain⟨v',e2,r2⟩:=h.nR j zs e;rw[e1]at e2;cases e2;exact r2.up hs
   | dc ks =>
    obtain⟨q',as,rfl,hV,t'⟩:=r;have:q'≠q:=by rintro rfl;rw[hq]at hV;exact dcO_lst (Option.some.inj hV).symm
    exact⟨q',as,rfl,by rw[aK this];exact hV,t'.ups st⟩
   | fdc ks =>obtain⟨q',o',as,rfl,hV,t'⟩:=r;exact⟨q',o',as,rfl,st.fh _ _ _ hV,t'.ups st⟩
   | idc ps =>obtain⟨q',o',rfl,hV⟩:=r;exact⟨q',o',rfl,st.fh _ _ _ hV⟩
   | exc c =>obtain⟨q',o',u',C',rfl,hV,r1,r2,r3⟩:=r;exact⟨q',o',u',C',rfl,st.fh _ _ _ hV,r1,r2,r3.ups st⟩
 ·rcases aA e1 with⟨_,_,e⟩ | ⟨_,e1⟩
  ·cases e
  ·rcases aA e2 with⟨_,_,e⟩ | ⟨_,e2⟩
   ·cases e
   ·exact h.re.sep j k _ _ p e1 e2 e3 e4
 ·rcases aA e1 with⟨_,_,e⟩ | ⟨_,e1⟩
  ·cases e
  ·exact h.fresh j xs' p e1 e2
 ·rcases aA e1 with⟨_,_,e⟩ | ⟨_,e1⟩
  ·cases e
  ·exact h.nR j xs' e1
variable {H0:Hp}{st:Stmt}{sts:List Stmt}{g u:Z.SF}
theorem b8:DSs X H0 [] Z.dR:=PSs.imp pss_nil λ D σ H ⟨ρ,fl,rs,e,k⟩=>by cases e;exact k σ H (i5.refl H) rs
theorem au(h:DS X H0 st g):DSs X H0 [st] g:=pss_one h
theorem ah(h1:DS X H0 st g)(h2:DSs X H0 sts u):DSs X H0 (st :: sts) (Z.aI g u):=PSs.imp (pss_cons h1 h2) λ D σ H ⟨ρ,fl,rs,e,k⟩=>by
 obtain⟨f1,e1,e⟩:=Z.Res.ao e;refine⟨ρ,f1,rs,e1,?_⟩;cases f1 with
 | nx ρ'=>exact λ σ' H' s r=>⟨ρ',fl,r,e,k.up s⟩
 | rt d=>cases e;exact k
 | bk ρ'=>cases e;exact k
 | ct ρ'=>cases e;exact k
theorem aO(h:DE X a fa):DS X H0 (.Return (some a) pos) (Z.bY fa):=PS.imp (ps_ret h) λ D σ H ⟨ρ,fl,rs,e,k⟩=>by obtain⟨d,ea,e⟩:=Z.Res.ao e;cases e;exact⟨ρ,d,rs.re,ea,λ v H' s dv=>k v H' (rs.same.trans s) dv⟩
theorem e?{c:Expr}{b1 b2:List Stmt}{t:Z.TF}(hc:DT X c t)(h1:DSs X H0 b1 g)(h2:DSs X H0 b2 u):DS X H0 (.If c b1 b2 pos) (Z.sIf t g u):=PS.imp (ps_if hc h1 h2) λ D σ H ⟨ρ,fl,rs,e,k⟩=>by
 obtain⟨x,ea,e⟩:=Z.Res.ao e;refine⟨ρ,x,rs.re,ea,λ H1 s1=>?_⟩;cases x with
 | true =>simp only[if_true]at e ⊢;exact⟨ρ,fl,rs.up s1,e,k.up (stb s1)⟩
 | false =>simp only[Bool.false_eq_true,if_false]at e ⊢;exact⟨ρ,fl,rs.up s1,e,k.up (stb s1)⟩
theorem aH{i:Nat}{x:Str}{pos':Pos}(hN:X.N.Nodup)(hi:X.N[i]?=some x)(hx:Loc X.env.scope x)(he:DE X a fa)(hs:swapsWith a (some (.Name x pos')) pos.line X.env=pure false:=by rfl)(hf:X.fn x=true∨X.env.scope.names.lookup x=some .local:=by first | exact .inl rfl | exact .inr rfl | assumption):
  DS X H0 (.Assign [.Name x pos'] a pos) (Z.bg i fa):=PS.imp (ps_set hN hi hx he hs hf) λ D σ H ⟨ρ,fl,rs,e,k⟩=>by
 obtain⟨d,ea,e⟩:=Z.Res.ao e;cases e;exact⟨ρ,d,rs.re,ea,λ v H' s dv=>k _ H' (stb s) ((rs.up s).setV dv)⟩
theorem RS.noq{K:PySem.W.Frag}{H1 H:Hp}{σ:St}{ρ:Z.Env}{q:Addr}(h:RS K H1 H σ ρ)(hq:H q=none)(j:Nat)(xs:List Z.D)(e:ρ[j]?=some (some (.own xs))):σ[j]?≠some (some (.ref q)):=λ z=>by obtain⟨v,e1,q',vs,rfl,h2,_⟩:=h.re.get j _ e;rw[z]at e1;cases e1;rw[hq]at h2;cases h2
theorem fx{i:Nat}{x:Str}{pos':Pos}{l:Z.LF}(hN:X.N.Nodup)(hi:X.N[i]?=some x)(hx:Loc X.env.scope x)(he:DL X a l)(hs:swapsWith a (some (.Name x pos')) pos.line X.env=pure false:=by rfl)(hf:X.fn x=true∨X.env.scope.names.lookup x=some .local:=by first | exact .inl rfl | exact .inr rfl | assumption):
  DS X H0 (.Assign [.Name x pos'] a pos) (Z.kh i l):=PS.imp (ps_set hN hi hx he hs hf) λ D σ H ⟨ρ,fl,rs,e,k⟩=>by
 obtain⟨d,ea,e⟩:=Z.Res.ao e;cases e;refine⟨ρ,d,rs.re,ea,λ q vs H' s hn h1 t=>k _ H' (stb s) ((rs.up s).setO h1 t (rs.same.free hn) λ j xs _ e=>?_)⟩;exact rs.noq hn j xs e
def tG(K:PySem.W.Frag)(H0:Hp)(g:Z.GF):TG:=λ v σ H Q=>∃ρ d ρ',RS K H0 H σ ρ∧Den K H d v∧g d ρ=.ok ρ'∧∀σ' H',aD H H'->RS K H0 H' σ' ρ'->Q σ' H'
def tGs(K:PySem.W.Frag)(H0:Hp)(is:List Nat):TGs:=λ vs σ H Q=>∃ρ ds ρ',RS K H0 H σ ρ∧ax K H ds vs∧Z.gg is ds ρ=.ok ρ'∧∀σ' H',aD H H'->RS K H0 H' σ' ρ'->Q σ' H'
abbrev DG(X:Cx)(H0:Hp)(tg:Expr)(g:Z.GF):Prop:=PG X tg (tG X.K H0 g)
abbrev DGs(X:Cx)(H0:Hp)(tgs:List Expr)(is:List Nat):Prop:=PGs X tgs (tGs X.K H0 is)
theorem PG.imp{t t':TG}(h:PG X tg t)(k:∀v σ H Q,t' v σ H Q->t v σ H Q):PG X tg t':=λ pins s σ H v u Q I r w=>h pins s σ H v u Q I r (k v σ H Q w)
theorem PGs.imp{t t':TGs}(h:PGs X es t)(k:∀v σ H Q,t' v σ H Q->t v σ H Q):PGs X es t':=λ pins s σ H v u Q I r w=>h pins s σ H v u Q I r (k v σ H Q w)
theorem aW{i:Nat}{x:Str}(hN:X.N.Nodup)(hi:X.N[i]?=some x)(hx:Loc X.env.scope x)(hf:X.fn x=true∨X.env.scope.names.lookup x=some .local:=by first | exact .inl rfl | exact .inr rfl | assumption):DG X H0 (.Name x pos) (Z.bf i) :=
 PG.imp (pg_name hN hi hx hf) λ v σ H Q ⟨ρ,d,ρ',rs,hd,e,k⟩=>by cases e;exact k _ H (aD.refl H) (rs.setV hd)
theorem cf:DGs X H0 [] []:=PGs.imp pgs_nil λ vs σ H Q ⟨ρ,ds,ρ',rs,hd,e,k⟩=>by
 cases ds with
 | nil =>simp only[ax]at hd;cases e;exact⟨hd,k σ H (aD.refl H) rs⟩
 | cons d ds=>cases e
theorem aB{i:Nat}{is:List Nat}{x:Str}(hN:X.N.Nodup)(hi:X.N[i]?=some x)(hx:Loc X.env.scope x)(h2:DGs X H0 es is)(hs:(assignEach ((.Name x pos) :: es) X.env).map (·.2)=assign (.Name x pos) X.env :: (assignEach es X.env).map (·.2):=by rfl)
  (hf:X.fn x=true∨X.env.scope.names.lookup x=some .local:=by first | exact .inl rfl | exact .inr rfl | assumption):DGs X H0 (.Name x pos :: es) (i :: is) :=
 PGs.imp (pgs_cons (pg_name hN hi hx hf) h2 hs) λ vs σ H Q ⟨ρ,ds,ρ',rs,hd,e,k⟩=>by
  cases ds with
  | nil=>cases e
  | cons d ds =>simp only[ax]at hd;obtain⟨v,r,rfl,h1,h2⟩:=hd;exact⟨v,r,rfl,ρ.set i (some (.val d)),ds,ρ',rs.setV h1,h2,e,k⟩
theorem eN{x1 n : Nat}{is : List Nat}(hc : X.calm = true)(h : DGs X H0 es is)(hl : is.length = n)(hn : (assignEach es X.env).length = n := by rfl)(hst : (assignEach es X.env).findIdx? (·.1) = none := by rfl): DG X H0 (.Tuple es x1 pos) (Z.fG is) :=
 PG.imp (pg_tup hc h hn hst) λ v σ H Q ⟨ρ,d,ρ',rs,hd,e,k⟩=>by
  unfold Z.fG at e;split at e
  ·rename_i ds;obtain⟨q,vs,rfl,hq,t⟩:=aZ.tup (.inl hd);have hlen:∀(is:List Nat)(ds:List Z.D)(ρ ρ':Z.Env),Z.gg is ds ρ=.ok ρ'->ds.length=is.length:=by
    intro is
    induction is with
    | nil=>intro ds ρ ρ' e;cases ds with
     | nil=>rfl
     | cons d ds=>cases e
    | cons i is ih=>intro ds ρ ρ' e;cases ds with
     | nil=>cases e
     | cons d ds=>simp[ih ds _ _ e]
   exact⟨q,vs,rfl,hq,by rw[t.length,hlen is ds ρ ρ' e];exact hl,ρ,ds,ρ',rs,t,e,k⟩
  ·cases e
theorem ds_get{g:Z.GF}(he:DE X a fa)(hg:DG X H0 tg g)(hs:swapsWithSole [tg] a pos.line X.env=pure false:=by rfl)(hw:swappedStores [tg] a X.env=pure none:=by rfl)
  (h1:(assignEach [tg] X.env).map (·.2)=[assign tg X.env]:=by rfl):DS X H0 (.Assign [tg] a pos) (Z.sGet fa g):=PS.imp (ps_asg he hg hs hw h1) λ D σ H ⟨ρ,fl,rs,e,k⟩=>by
 obtain⟨d,ea,e⟩:=Z.Res.ao e;obtain⟨ρ',eb,e⟩:=Z.Res.ao e;cases e;exact⟨ρ,d,rs.re,ea,λ v H' s dv=>⟨ρ,d,ρ',rs.up s,dv,eb,λ σ2 H2 s2 r2=>k σ2 H2 ((stb s).trans (stb s2)) r2⟩⟩
theorem cG{it : Z.LF}{G : Z.GF}{iter : Expr}{body : List Stmt}(hp : PassesOwn (model X.prog X.w) X.A X.env X.xe)(hc : X.calm = true)(hi : DJ X tg iter it)(hg : DG X H0 tg G)(hb : DSs X H0 body g)
  (hs:∀x,foldedSetIterable iter X.env x=pure x:=by intro _;rfl):DS X H0 (.For tg iter body [] pos) (Z.gJ it G g):=PS.imp (ps_for hp hc hi hg hb hs) λ D σ H ⟨ρ,fl,rs,e,k⟩=>by
 obtain⟨ds,ei,e⟩:=Z.Res.ao e;refine⟨ρ,ds,rs.re,ei,λ J H1 s1 z=>?_⟩;refine⟨λ i m σ' H'=>m=ds.length-i∧i≤ds.length∧∃ρ',RS X.K H0 H' σ' ρ'∧i5 H1 H'∧Z.eX G g (ds.drop i) ρ'=.ok fl,⟨ds.length,by simp,Nat.zero_le _,ρ,rs.up s1,i5.refl H1,by simpa using e⟩,?_⟩;rintro i m σ2 H2 ⟨rfl,hil,ρ2,r2,s2,e2⟩;by_cases kj:i < ds.length
 ·obtain⟨d,hd⟩:∃d,ds[i]?=some d:=⟨ds[i],by simp[kj]⟩
  have hdrop:ds.drop i=d :: ds.drop (i+1):=by
   rw[List.drop_eq_getElem_cons kj];have:ds[i]=d:=by have:=List.getElem?_eq_getElem kj;rw[this]at hd;exact Option.some.inj hd
   rw[this]
  rw[hdrop]at e2;unfold Z.eX at e2;obtain⟨ρ3,eg,e2⟩:=Z.Res.ao e2;obtain⟨f3,eb,e2⟩:=Z.Res.ao e2;refine .inr ⟨z.go i d H2 s2 hd,λ σ' H'=>∃ρ',RS X.K H0 H' σ' ρ'∧i5 H1 H'∧Z.eX G g (ds.drop (i+1)) ρ'=.ok fl,λ σ' H' w=>⟨_,by lia,rfl,kj,w⟩,λ x H3 y=>?_⟩;obtain⟨sy,dx⟩:=z.yld i d H2 H3 x s2 hd y;replace s2:=s2.trans (stb sy);refine⟨ρ2,d,ρ3,r2.up sy,dx,eg,λ σ4 H4 s4' r4=>⟨ρ3,f3,r4,eb,?_⟩⟩;have s4:=stb s4';cases f3 with
  | nx ρ5=>exact λ σ5 H5 s5 r5=>⟨ρ5,r5,(s2.trans s4).trans s5,e2⟩
  | ct ρ5=>exact λ σ5 H5 s5 r5=>⟨ρ5,r5,(s2.trans s4).trans s5,e2⟩
  | bk ρ5 =>cases e2;exact λ σ5 H5 s5 r5=>k σ5 H5 ((stb s1).trans ((s2.trans s4).trans s5)) r5
  | rt d5 =>cases e2;exact k
 ·have:i=ds.length:=by lia
  subst this;rw[List.drop_length]at e2;cases e2;exact .inl ⟨z.stop H2 s2,k σ2 H2 ((stb s1).trans s2) r2⟩
theorem iT{i:Nat}(h:DSs X H0 sts g):DSs X H0 sts (Z.sFrz i g):=by
 intro pins s σ H D I w;obtain⟨ρ,fl,rs,e,k⟩:=w;unfold Z.sFrz Z.fh at e;split at e
 ·rename_i xs ei;obtain⟨v,si,q,us,rfl,hq,t⟩:=rs.re.get i _ ei;obtain⟨o,I2⟩:=l_ I hq;exact h pins s σ _ D I2 ⟨_,fl,rs.fh ei si hq t,e,k.up (iL hq)⟩
 ·exact h pins s σ H D I ⟨ρ,fl,rs,e,k⟩
theorem ds_append{i:Nat}{o:Expr}{p1 p2:Pos}(ho:PE X o (lD i))(ha:DE X a fa)(hs:swapsWith (.Call (.Attribute o "append" p1) [a] [] p2) none pos.line X.env=pure false:=by rfl)(hs1:starEach (a :: []) X.env=(false,eval a X.env) :: starEach [] X.env:=by rfl)
  (hbm:PE X (.Call (.Attribute o "append" p1) [a] [] p2) (tBM X.K "list" rAppend (lD i) (tCons (tZ X.K fa) tNil))) :
  DS X H0 (.Expr (.Call (.Attribute o "append" p1) [a] [] p2) pos) (Z.de i fa):=PS.imp (ps_expr hbm hs) λ D σ H ⟨ρ,fl,rs,e,k⟩=>by
 obtain⟨d,ea,e⟩:=Z.Res.ao e;split at e
 ·rename_i xs ei;unfold Z.guard at e;split at e
  ·rename_i hl;cases e;obtain⟨v,si,q,us,rfl,hq,t⟩:=rs.re.get i _ ei;refine⟨.ref q,si,.inl ⟨rfl,us,i6.of hq⟩,ρ,d,rs.re,ea,λ v' H1 s1 dv=>?_⟩;have hq1:H1 q=some (.lst us):=s1 _ _ hq;refine⟨q,us,v',rfl,rfl,hq1,by rw[t.length,sizeLine_eq];exact hl,?_⟩;exact k σ _ ((stb s1).trans (iL hq1)) ((rs.up s1).chg ei si hq1 ((t.up s1).append (ax.cons dv ax.nil)))
  ·cases e
 ·cases e
end
end ZS
namespace ZS
open PySem PySem.Spec PyProof.Rows L2
theorem mi{env : Env}: ∀(names : List (Str × NameKind))(acc : List (Str × Addr)), (∀y ∈ names, y.2 = .free -> ∃c, env.cells.lookup y.1 = some c) -> (∀x c, acc.lookup x = some c -> env.cells.lookup x = some c) ->
  ∃cl,(forIn names acc λ(x:Str×NameKind) (cs:List (Str×Addr))=>(if(x.2==NameKind.free)=true then do let c ←cellOf env x.1;pure (ForInStep.yield ((x.1,c) :: cs))else pure (ForInStep.yield cs):Sem (ForInStep (List (Str×Addr)))))=pure cl ∧
   (∀x c,cl.lookup x=some c->env.cells.lookup x=some c)∧(∀x,(acc.lookup x).isSome=true->(cl.lookup x).isSome=true)∧(∀y∈names,y.2=.free->(cl.lookup y.1).isSome=true)
 | [],acc,_,ha=>⟨acc,rfl,ha,λ _ h=>h,λ y hy=>by cases hy⟩
 | (n, k) :: r, acc, hn, ha => by
  by_cases hk:k=.free
  ·subst hk;obtain⟨c,hc⟩:=hn (n,.free) List.mem_cons_self rfl;have ha':∀x d,((n,c) :: acc).lookup x=some d->env.cells.lookup x=some d:=λ x d e=>by
    rw[List.lookup_cons]at e;split at e
    ·rename_i q;cases e;rw[beq_iff_eq.mp q];exact hc
    ·exact ha x d e
   obtain⟨cl,e,h1,h2,h3⟩:=mi r ((n,c) :: acc) (λ y hy=>hn y (List.mem_cons_of_mem _ hy)) ha';have self:(cl.lookup n).isSome=true:=h2 n (by rw[List.lookup_cons_self];rfl);refine⟨cl,?_,h1,λ x hx=>h2 x ?_,λ y hy hf=>?_⟩
   ·rw[List.forIn_cons];simp only[beq_self_eq_true,if_true];have:cellOf env n=pure c:=by unfold cellOf;rw[hc]
    rw[this];exact e
   ·rw[List.lookup_cons];split
    ·rfl
    ·exact hx
   ·rcases List.mem_cons.mp hy with rfl | hy
    ·exact self
    ·exact h3 y hy hf
  ·obtain⟨cl,e,h1,h2,h3⟩:=mi r acc (λ y hy=>hn y (List.mem_cons_of_mem _ hy)) ha;have hb:(k==NameKind.free)=false:=by simpa using hk
   refine⟨cl,?_,h1,h2,λ y hy hf=>?_⟩
   ·rw[List.forIn_cons];simp only[hb,Bool.false_eq_true,if_false];exact e
   ·rcases List.mem_cons.mp hy with rfl | hy
    ·exact absurd hf hk
    ·exact h3 y hy hf
theorem closureFor_of{env:Env}{scope:Scope}(hn:∀y∈scope.names,y.2=.free->∃c,env.cells.lookup y.1=some c):
  ∃cl,closureFor scope env=pure cl∧(∀x c,cl.lookup x=some c->env.cells.lookup x=some c)∧(∀y∈scope.names,y.2=.free->(cl.lookup y.1).isSome=true):=by
 obtain⟨cl,e,h1,_,h3⟩:=mi (env:=env) scope.names [] hn (λ x c e=>by cases e);refine⟨cl,?_,h1,h3⟩;unfold closureFor
 first
  | exact e
  | (simp only[bind_pure];exact e)
  | (rw[show _=_ from e];rfl)
theorem iA{env : Env}{x : Str}: ∀(names : List (Str × NameKind)), (names.map λ(n, k) => if(k == NameKind.free && env.scope.kind == .function && env.kindOf n == some .cell) = true then(n, NameKind.cell)else(n, k)).lookup x = (names.lookup x).map λ k => if(k == NameKind.free && env.scope.kind == .function && env.kindOf x == some .cell) = true then NameKind.cell else k
 | []=>rfl
 | (n, k) :: r => by
  have ih:=@iA env x r;show List.lookup x ((if(k==NameKind.free&&env.scope.kind==.function&&env.kindOf n==some .cell)=true then(n,NameKind.cell)else(n,k)) :: _)=_;by_cases hx:x=n
  ·subst hx;by_cases hc:(k==NameKind.free&&env.scope.kind==.function&&env.kindOf x==some .cell)=true
   ·rw[if_pos hc,List.lookup_cons_self,List.lookup_cons_self,Option.map_some,if_pos hc]
   ·rw[if_neg hc,List.lookup_cons_self,List.lookup_cons_self,Option.map_some,if_neg hc]
  ·have hb:(x==n)=false:=by simpa using hx
   by_cases hc:(k==NameKind.free&&env.scope.kind==.function&&env.kindOf n==some .cell)=true
   ·rw[if_pos hc,List.lookup_cons,List.lookup_cons,hb];exact ih
   ·rw[if_neg hc,List.lookup_cons,List.lookup_cons,hb];exact ih
abbrev lC(X:Cx)(N':List Str)(scope:Scope)(cl:List (Str×Addr))(C:Addr)(fp:List Addr)(s₂:Shared)(H₂:Hp):Cx :=
 { prog:=X.prog,w:=X.w,K:=X.K,mg:=X.mg,base:=X.base,A:=X.A,N:=N',s₀:=s₂,H₀:=H₂,env:=compEnvC scope cl C X.env,outer:=X.stack,stack:=X.stack,ex:=fp,fn:=λ _=>false,calm:=X.calm,pn:=[],xe:=λ _ _=>False }
structure lr(N N':List Str)(n:Nat)(is:List Nat)(sc osc:Scope):Prop where
 kind:sc.kind=.function
 cell:∀y∈sc.names,y.2≠.cell
 loc:∀y∈sc.names,y.2=.local->sc.names.lookup y.1=some .local
 free:∀y∈sc.names,y.2=.free->osc.names.lookup y.1=some .cell∨osc.names.lookup y.1=some .free
 len:N'.length=n+is.length
 cap:∀(j i:Nat),is[j]?=some i->∃x,N'[n+j]?=some x∧N[i]?=some x∧sc.names.lookup x=some .free
 own:∀(j:Nat),j < n->∃x,N'[j]?=some x∧sc.names.lookup x=some .local
section
variable {X:Cx}{tg e a b elt iter:Expr}{ifs:List Expr}{pos:Pos}{N':List Str}{n:Nat}{is:List Nat}{scope:Scope}
def sCap(σ:St)(n:Nat)(is:List Nat):St:=List.replicate n none++is.map λ i=>(σ[i]?).join
theorem gi(n:Nat)(is:List Nat)(ρ:Z.Env)(i:Nat)(xs:List Z.D):(List.replicate n none++Z.jd ρ is:Z.Env)[i]?≠some (some (.own xs)):=by
 intro e;by_cases hi:i < n
 ·rw[List.getElem?_append_left (by simpa using hi),List.getElem?_replicate]at e;split at e<;>cases e
 ·rw[List.getElem?_append_right (by simpa using hi)]at e;unfold Z.jd at e;rw[List.getElem?_map]at e;cases q:is[i-(List.replicate n (none:Option Z.L)).length]? with
  | none=>rw[q]at e;cases e
  | some j =>rw[q]at e;have e':Z.lW ρ j=some (.own xs):=Option.some.inj e;unfold Z.lW at e';split at e'<;>cases e'
theorem cap_nodic(n:Nat)(is:List Nat)(ρ:Z.Env)(i:Nat)(ks:Z.DK):(List.replicate n none++Z.jd ρ is:Z.Env)[i]?≠some (some (.dc ks)):=by
 intro e;by_cases hi:i < n
 ·rw[List.getElem?_append_left (by simpa using hi),List.getElem?_replicate]at e;split at e<;>cases e
 ·rw[List.getElem?_append_right (by simpa using hi)]at e;unfold Z.jd at e;rw[List.getElem?_map]at e;cases q:is[i-(List.replicate n (none:Option Z.L)).length]? with
  | none=>rw[q]at e;cases e
  | some j =>rw[q]at e;have e':Z.lW ρ j=some (.dc ks):=Option.some.inj e;unfold Z.lW at e';split at e'<;>cases e'
theorem re_cap{K : PySem.W.Frag}{H H' : Hp}{σ : St}{ρ : Z.Env}(h : RE K H σ ρ)(s : aD H H'): RS K H H' (sCap σ n is) (List.replicate n none ++ Z.jd ρ is) := by
 have key:∀(i:Nat)(l:Z.L),(List.replicate n none++Z.jd ρ is:Z.Env)[i]?=some (some l)->∃v,(sCap σ n is)[i]?=some (some v)∧RL K H l v:=?_;refine⟨s,⟨by simp[sCap,Z.jd],λ i l e=>let ⟨v,h1,h2⟩:=key i l e;⟨v,h1,h2.up s⟩,λ i j xs ys q e1=>absurd e1 (gi n is ρ i xs)⟩,λ i xs q e1=>absurd e1 (gi n is ρ i xs),λ i xs e1=>key i _ e1,jv.non (cap_nodic n is ρ)⟩;intro i l e;by_cases hi:i < n
 ·rw[List.getElem?_append_left (by simpa using hi),List.getElem?_replicate]at e;split at e<;>cases e
 ·rw[List.getElem?_append_right (by simpa using hi)]at e;unfold sCap;rw[List.getElem?_append_right (by simpa using hi)];simp only[List.length_replicate]at e ⊢;unfold Z.jd at e;rw[List.getElem?_map]at e ⊢;cases q:is[i-n]? with
  | none=>rw[q]at e;cases e
  | some j =>
   rw[q]at e;have e':Z.lW ρ j=some l:=Option.some.inj e;unfold Z.lW at e';split at e'
   ·rename_i d hd;cases e';obtain⟨v,h1,h2⟩:=h.get j _ hd;refine⟨v,?_,h2⟩;simp[h1]
   ·rename_i d hd;cases e';obtain⟨v,h1,h2⟩:=h.get j _ hd;refine⟨v,?_,h2⟩;simp[h1]
   ·rename_i d hd;cases e';obtain⟨v,h1,h2⟩:=h.get j _ hd;refine⟨v,?_,h2⟩;simp[h1]
   ·cases e'
theorem lI{prog:Program}{w:World}{A:Around}{R:Result->Shared->Prop}{s:Shared}{elt target iter:Expr}{ifs:List Expr}{scope:Scope}{pos:Pos}{it acc:Value}{env:Env}(I:Nat->Shared->Prop)
  (turn : ∀ n s, I n s -> wpAny (model prog w) A (pyNext it) (λ r s₁ => match r with
   | none=>R (.ok .next) s₁
   | some v=>wpAny (model prog w) A (letOwnedTupleGo target it v) (λ _ s₁=>wpAny (model prog w) A (assign target env v) (λ _ s₂ =>
     wpAny (model prog w) A (forIn ifs true λ c r=>if r=true then do let ok ←isTrue c env (eval c env);pure (ForInStep.yield ok)else pure (ForInStep.yield r)) (λ ok s₃ =>
      if ok=true then wpAny (model prog w) A (eval elt env) (λ x s₄ =>wpAny (model prog w) A (call (.builtin "list.append") [acc,x]) (λ _ s₅=>∃m,m < n∧I m s₅) (λ _ _=>False) s₄) (λ _ _=>False) s₃
      else ∃m,m < n∧I m s₃) (λ _ _=>False) s₂) (λ _ _=>False) s₁) (λ _ _=>False) s₁) (λ _ _=>False) s)
  (n:Nat) (h:I n s) :
  codeAny (model prog w) A (.compLoop (.ListComp elt [⟨target,iter,ifs,0⟩] scope pos) 0 it acc env) R s:=by
 refine codeAny_loop rfl I (λ n s hI=>?_) n h;show wpAny _ A ((compTurn (.ListComp elt [⟨target,iter,ifs,0⟩] scope pos) 0 it acc env).onRaise (λ x=>do noteFrame x env;theTreesLotGoes x)) _ _ s;refine wpAny_noted ?_;rw[compTurn_list];refine wpAny_bind (wpAny_standAt (wpAny_bind (wpAny_mono (turn n s hI) (λ r s₁ h₁=>?_) λ _ _ h'=>h'.elim)));cases r with
 | none=>exact wpAny_pure h₁
 | some v =>
  refine wpAny_bind (wpAny_mono h₁ (λ _ s₁ h₁=>?_) λ _ _ h'=>h'.elim);refine wpAny_bind (wpAny_mono h₁ (λ _ s₂ h₂=>wpAny_bind (wpAny_mono h₂ (λ ok s₃ h₃=>?_) λ _ _ h'=>h'.elim)) λ _ _ h'=>h'.elim);cases ok with
  | false=>exact wpAny_pure ⟨rfl,h₃⟩
  | true =>exact wpAny_bind (wpAny_bind (wpAny_mono h₃ (λ x s₄ h₄=>wpAny_bind (wpAny_mono h₄ (λ _ s₅ h₅=>wpAny_pure (wpAny_pure ⟨rfl,h₅⟩)) λ _ _ h'=>h'.elim)) λ _ _ h'=>h'.elim))
structure Off(X:Cx)(pins:List (Addr×Obj))(H:Hp)(C:Addr):Prop where
 free:H C=none
 loc:C≠X.env.locals
 new:X.s₀.heap.objs.size≤C
 cell:∀x c,X.env.cells.lookup x=some c->c≠C
 pin:∀p∈X.pn++pins,p.1≠C
theorem Off.inv{pins:List (Addr×Obj)}{σ:St}{H:Hp}{s:Shared}{C:Addr}{h':Heap}(o:Off X pins H C)(I:Inv X pins σ H s)(hs:Heap.SameBut C s.heap h'):Inv X pins σ H { s with heap:=h' } :=
 I.turned (t':=s.toks) (λ b ob hb e=>(hs.2 b hb).trans e) o.free o.loc (.inr o.new) o.cell o.pin
def Ran(X:Cx)(pins:List (Addr×Obj))(σ:St)(H₂:Hp)(ys:List Z.D)(acc:Value)(C:Addr)(s':Shared):Prop :=
 ∃D H' vs m,acc=.ref D∧s'.heap.Ns C m∧Inv X pins σ H' s'∧Off X pins H' C∧H₂ D=none∧aD H₂ H'∧H' D=some (.lst vs)∧ax X.K H' ys vs
theorem comp_ran{it : Addr}{fp : List Addr}{tn : Nat -> Heap -> Prop}{J : It}{pins : List (Addr × Obj)}{σ : St}{ρ : Z.Env}{H₂ : Hp}{s₂ : Shared}{E : Value -> Shared -> Prop}{cl : List (Str × Addr)}{G : Z.GF}{t : Z.TF}{fe : Z.EF}{ds ys : List Z.D}
  (hcalm:X.calm=true) (B:lr X.N N' n is scope X.env.scope) (I2:Inv X pins σ H₂ s₂) (T:Turn X.prog X.w X.K tg J fp it tn) (st0:tn 0 s₂.heap) (fo:∀b∈fp,FpOk X pins H₂ b) (z:ItZ X.K J (aD H₂) ds) (re:RE X.K H₂ σ ρ)
  (hcl1:∀x c,cl.lookup x=some c->X.env.cells.lookup x=some c) (hcl2:∀y∈scope.names,y.2=.free->(cl.lookup y.1).isSome=true)
  (hG:∀d ρ ρ1,G d ρ=.ok ρ1->ρ1.length=ρ.length∧∀i,n≤i->ρ1[i]?=ρ[i]?)
  (hg:∀C s H H0,DG (lC X N' scope cl C fp s H) H0 tg G)
  (ht:∀ (C:Addr) (s s':Shared) (H:Hp) (pins':List (Addr×Obj)) (σ':St) (H':Hp) (Q:Bool->Hp->Prop),Inv (lC X N' scope cl C fp s H) pins' σ' H' s'->tZt X.K t σ' H' Q ->
   wpAny (model X.prog X.w) X.A (forIn ifs true λ c r=>if r=true then do let ok ←isTrue c (compEnvC scope cl C X.env) (eval c (compEnvC scope cl C X.env));pure (ForInStep.yield ok)else pure (ForInStep.yield r)) (TP (lC X N' scope cl C fp s H) pins' σ' Q) (λ _ _=>False) s')
  (he:∀C s H,DE (lC X N' scope cl C fp s H) elt fe) (hlen:ds.length≤Z.line) (ego:Z.dh G t fe (List.replicate n none++Z.jd ρ is) ds=.ok ys) :
  wpAny (model X.prog X.w) X.A (newList []) (λ acc s₃=>wpAny (model X.prog X.w) X.A (newFunctionEnv scope X.env.globals cl [] X.env.qual none .none (some X.env)) (λ cenv s₄ =>codeAny (model X.prog X.w) X.A (.compStart (.ListComp elt [⟨tg,iter,ifs,0⟩] scope pos) 0 (.ref it) acc { cenv with scope:=relabel scope X.env }) (λ r s'=>r=.ok .next∧Ran X pins σ H₂ ys acc cenv.locals s') s₄) E s₃) E s₂:=by
 refine wpAny_newObj_type (wpAny_newFunctionEnv B.cell (by intro y hy;simp at hy) (λ h₁ hns₁ hsb₁=>?_) B.kind);dsimp only at hns₁ hsb₁ ⊢;generalize hH2:s₂.heap.push { cls:=.type "list",dict:=none,data:=.seq ([]:List Value).toArray }=HH at hns₁ hsb₁ ⊢;have hC:HH.objs.size=s₂.heap.objs.size+1:=by rw[<-hH2,Heap.size_push]
 have hDC:s₂.heap.objs.size≠HH.objs.size:=by rw[hC];exact Nat.ne_of_lt (Nat.lt_succ_self _)
 have below:∀b,b < s₂.heap.objs.size->b≠HH.objs.size∧b≠s₂.heap.objs.size:=λ b hb=>⟨by rw[hC];exact Nat.ne_of_lt (Nat.lt_succ_of_lt hb),Nat.ne_of_lt hb⟩
 have old:∀b o,s₂.heap.get? b=some o->h₁.get? b=some o:=λ b o e=>hsb₁.extBut b o (below b (Heap.lt_size e)).1 (Heap.get?_push_of_some _ (hH2▸Heap.get?_push_of_some _ e));have hacc:h₁.get? s₂.heap.objs.size=some { cls:=.type "list",data:=.seq ([]:List Value).toArray }:=hsb₁.extBut _ _ hDC (Heap.get?_push_of_some _ (hH2▸Heap.get?_push_size _ rfl));have fpo:∀b∈fp,∃o,s₂.heap.get? b=some o∧∀v,o.data≠.cell v:=T.obj 0 _ st0;have fplt:∀b∈fp,b < s₂.heap.objs.size:=λ b hb=>let ⟨_,e,_⟩:=fpo b hb;Heap.lt_size e;generalize hD:s₂.heap.objs.size=D at hDC below old hacc hC ⊢;generalize hCC:HH.objs.size=C at hns₁ hsb₁ hDC below hC ⊢;have hDn:H₂ D=none:=I2.dO.fresh (by rw[hD];exact Nat.le_refl _);have hCn:H₂ C=none:=I2.dO.fresh (by rw[hD,hC];exact Nat.le_succ _)
 -- the block's context is in order
 have ok : (lC X N' scope cl C fp s₂ H₂).Ok := by
  refine⟨I2.ok.mod,B.kind,I2.ok.glob,I2.ok.blt,by show s₂.heap.objs.size≤C;rw[hD,hC];exact Nat.le_succ _,λ x y c e1 e2=>I2.ok.inj x y c (hcl1 x c e1) (hcl1 y c e2),λ x hx=>?_,λ x c hf=>(by cases hf),I2.ok.hd,I2.ok.frames,.inl rfl,
   λ b hb=>⟨(below b (by rw[<-hD];exact fplt b hb)).1,λ x c e=>(fo b hb).2.2.2.2.1 x c (hcl1 x c e)⟩,I2.bs,Nat.le_trans I2.ok.bsz I2.sz,λ b o e hb=>?_,λ b hb z=>?_,I2.stack,I2.stkFree⟩
  ·have hx':(relabel scope X.env).names.lookup x=some .cell∨(relabel scope X.env).names.lookup x=some .free:=hx;have e:=iA (env:=X.env) (x:=x) scope.names;have e':(relabel scope X.env).names.lookup x=_:=e;rw[e']at hx';cases q:scope.names.lookup x with
   | none=>rw[q]at hx';rcases hx' with h | h<;>cases h
   | some k =>
    have hm:=PySem.mem_of_lookup q;have hk:k=.free:=by
     rw[q]at hx';simp only[Option.map_some]at hx';by_cases hc:(k==NameKind.free&&X.env.scope.kind==.function&&X.env.kindOf x==some .cell)=true
     ·rw[Bool.and_eq_true,Bool.and_eq_true]at hc;exact beq_iff_eq.mp hc.1.1
     ·rw[if_neg hc]at hx';rcases hx' with h | h
      ·exact absurd (Option.some.inj h) (B.cell _ hm)
      ·exact Option.some.inj h
    subst hk;exact Option.isSome_iff_exists.mp (hcl2 _ hm rfl)
  ·rcases(fo b hb).2.2.2.1 with q | q
   ·exact I2.ok.noex b o e q
   ·exact absurd (Nat.lt_of_lt_of_le (Heap.lt_size (I2.ok.bs b o e).1) q) (Nat.lt_irrefl _)
  ·rcases List.mem_cons.mp (I2.stkSub b z)with q | q
   ·exact(fo b hb).2.1 q
   ·exact(fo b hb).2.2.1 q
 have Hd:HOk X.prog X.w (upd H₂ D (.lst [])) h₁:=I2.dO.laid old (by rw[hD];exact Nat.le_refl _) ⟨Nat.zero_le _,[],_,.nil,hacc⟩;have ne2:∀b,b < s₂.heap.objs.size->b≠D:=λ b hb=>by rw[<-hD];exact Nat.ne_of_lt hb
 have cellS:∀x c,X.env.cells.lookup x=some c->c < s₂.heap.objs.size∧∀v,s₂.heap.IsCell c v->h₁.IsCell c v:=λ x c e=>by obtain⟨v,o,ho,hd⟩:=I2.cell x c e;exact⟨Heap.lt_size ho,λ v' ⟨o',ho',hd'⟩=>⟨o',old c o' ho',hd'⟩⟩
 have I4 : Inv (lC X N' scope cl C fp s₂ H₂) [] (sCap σ n is) (upd H₂ D (.lst [])) { s₂ with heap := h₁, toks := s₂.toks + ([] : List (Str × Value)).length } := by
  refine⟨ok,rfl,I2.bare,Un.laid old (by rw[hD];exact Nat.le_refl _) hDn,⟨_,hns₁,λ i x v e1 e2 e3=>?_⟩,λ x c e=>?_,by show upd H₂ D (.lst []) C=none;rw[aK (Ne.symm hDC)];exact hCn,λ x c e=>?_,λ p hp=>absurd (show p∈([]:List (Addr×Obj))from hp) (by simp),Hd,by simp[sCap,B.len],I2.tab.up λ b u _ e=>by rw[aK (bH e hDn)];exact e⟩
  ·unfold sCap at e2;by_cases hi:i < n
   ·rw[List.getElem?_append_left (by simpa using hi),List.getElem?_replicate]at e2;split at e2<;>cases e2
   ·rw [List.getElem?_append_right (by simpa using hi),List.getElem?_map] at e2;simp only[List.length_replicate]at e2;cases q:is[i-n]? with
    | none=>rw[q]at e2;cases e2
    | some j =>
     rw[q]at e2;simp only[Option.map_some]at e2;obtain⟨x',c1,c2,c3⟩:=B.cap (i-n) j q;have hin:n+(i-n)=i:=by lia
     rw[hin]at c1;have e1':N'[i]?=some x:=e1;rw[c1]at e1';cases e1';have hσ:σ[j]?=some (some v):=by
      cases r:σ[j]? with
      | none=>rw[r]at e2;cases e2
      | some y =>
       rw[r]at e2;have:y=some v:=by simpa using e2
       rw[this]
     obtain⟨m,hn,hl⟩:=I2.loc;have hm:=PySem.mem_of_lookup c3;have hk:=B.free _ hm rfl;have hvis:Vis X.env.scope x:=by
      rcases hk with k | k
      ·exact .inr (.inl k)
      ·exact .inr (.inr k)
     obtain⟨u,ru,lk⟩:=hl j x v c2 hσ hvis;refine⟨u,ru,?_⟩;rcases lk with⟨k1,_⟩ | ⟨k1,c,hc,hcell⟩
     ·have k1':X.env.scope.names.lookup x=some .local:=k1;rcases hk with k | k
      ·rw[k]at k1';cases k1'
      ·rw[k]at k1';cases k1'
     ·obtain⟨c',hc'⟩:=Option.isSome_iff_exists.mp (hcl2 _ hm rfl);have:c'=c:=by have:=hcl1 x c' hc';rw[hc]at this;exact(Option.some.inj this).symm
      subst this;refine .inr ⟨?_,c',hc',(cellS x c' hc).2 _ hcell⟩;show(relabel scope X.env).names.lookup x=some .cell∨(relabel scope X.env).names.lookup x=some .free;have e:=iA (env:=X.env) (x:=x) scope.names;have e':(relabel scope X.env).names.lookup x=_:=e;rw[e',c3];simp only[Option.map_some];split
      ·exact .inl rfl
      ·exact .inr rfl
  ·obtain⟨v,hv⟩:=I2.cell x c (hcl1 x c e);exact⟨v,(cellS x c (hcl1 x c e)).2 v hv⟩
  ·have kj:=(cellS x c (hcl1 x c e)).1;rw[aK (ne2 c kj)];exact I2.lT x c (hcl1 x c e)
 have rs4:RS X.K H₂ (upd H₂ D (.lst [])) (sCap σ n is) (List.replicate n none++Z.jd ρ is):=re_cap re (bG hDn);have st4:tn 0 h₁:=T.keep 0 _ _ st0 λ b hb o e=>old b o e;have fr4:∀b∈fp,(upd H₂ D (.lst [])) b=none:=λ b hb=>by rw[aK (ne2 b (fplt b hb))];exact(fo b hb).1
 -- what stays true of the iterator's objects
 have stat:∀{H':Hp},(∀b∈fp,H' b=none)->∀b∈fp,FpOk (lC X N' scope cl C fp s₂ H₂) [] H' b:=λ hn b hb=>by
  refine⟨hn b hb,(below b (by rw[<-hD];exact fplt b hb)).1,?_,.inl hb,λ x c e=>(fo b hb).2.2.2.2.1 x c (hcl1 x c e),λ p hp=>absurd (show p∈([]:List (Addr×Obj))from hp) (by simp)⟩;intro q;rcases List.mem_cons.mp (I2.stkSub b q)with q | q
  ·exact(fo b hb).2.1 q
  ·exact(fo b hb).2.2.1 q
 have loop : codeAny (model X.prog X.w) X.A (.compLoop (.ListComp elt [⟨tg, iter, ifs, 0⟩] scope pos) 0 (.ref it) (.ref D) (compEnvC scope cl C X.env)) (λ r s' => r = .ok .next ∧ Ran X pins σ H₂ ys (.ref D) C s')
   { s₂ with heap:=h₁,toks:=s₂.toks+([]:List (Str×Value)).length }:=by
  refine lI (λ m s'=>∃i σ' H' vs zs,m=ds.length+1-i∧i≤ds.length∧vs.length≤i∧Inv (lC X N' scope cl C fp s₂ H₂) [] σ' H' s'∧tn i s'.heap∧(∀b∈fp,H' b=none)∧H' D=some (.lst vs)∧aD H₂ H' ∧
   RS X.K H₂ H' σ' (List.replicate n none++Z.jd ρ is)∧(∃rest,Z.dh G t fe (List.replicate n none++Z.jd ρ is) (ds.drop i)=.ok rest∧zs++rest=ys)∧ax X.K H' zs vs) ?_ (ds.length+1)
   ⟨0,sCap σ n is,_,[],[],rfl,Nat.zero_le _,Nat.le_refl _,I4,st4,fr4,aX,bG hDn,rs4,⟨ys,by simpa using ego,rfl⟩,ax.nil⟩
  ·rintro m s' ⟨i,σ3,H3,vs,zs,rfl,hil,hvl,I3,lu,fr3,hD3,sm3,re3,⟨rest,er,ez⟩,dz⟩;by_cases kj:i < ds.length
   ·obtain⟨d,hd⟩:∃d,ds[i]?=some d:=⟨ds[i],by simp[kj]⟩
    have hdrop:ds.drop i=d :: ds.drop (i+1):=by
     rw[List.drop_eq_getElem_cons kj];have:ds[i]=d:=by have:=List.getElem?_eq_getElem kj;rw[this]at hd;exact Option.some.inj hd
     rw[this]
    rw[hdrop]at er;unfold Z.dh at er;obtain⟨ρ1,eg,er⟩:=Z.Res.ao er;obtain⟨c1,ec,er⟩:=Z.Res.ao er;refine du (T.item (lC X N' scope cl C fp s₂ H₂) rfl rfl rfl hcalm i [] s' σ3 H3 (λ _ _=>False) I3 (stat fr3) lu (z.go i d H3 sm3 hd)) λ r s4 ⟨u,hr,h4⟩=>?_;subst hr;refine du h4 λ _ s5 ⟨x,H5,I5,r5,y5,st5,fr5⟩=>?_;obtain⟨sy,dx⟩:=z.yld i d H3 H5 x sm3 hd y5;replace re3:=re3.up sy;replace sm3:=sm3.trans sy;replace hD3:=sy _ _ hD3;replace dz:=dz.up sy;have I5':=I5.pinned (stat fr5) (T.obj _ _ st5);have rs5:RS X.K H₂ H5 σ3 (List.replicate n none++Z.jd ρ is):=re3;refine du (hg C s₂ H₂ H₂ _ s5 σ3 H5 x u (λ σ6 H6=>aD H5 H6∧RS X.K H₂ H6 σ6 ρ1) I5' r5 ⟨_,d,ρ1,rs5,dx,eg,λ σ' H' s' r'=>⟨s',r'⟩⟩) λ _ s6 ⟨σ6,H6,I6,sm6,rs6⟩=>?_;refine du (ht C s₂ s6 H₂ _ σ6 H6 (λ b H7=>b=c1∧aD H6 H7) I6 ⟨ρ1,c1,rs6.re,ec,λ H7 s7=>⟨rfl,s7⟩⟩) λ ok s7 ⟨H7,I7,e7,sm7⟩=>?_;subst e7;have sm57:aD H5 H7:=sm6.trans sm7;have re7:RE X.K H7 σ6 ρ1:=rs6.re.up sm7;have re0:∀{H9:Hp},aD H7 H9->RS X.K H₂ H9 σ6 (List.replicate n none++Z.jd ρ is):=λ {H9} s9=>by
     obtain⟨gl,gk⟩:=hG d _ ρ1 eg;refine⟨(rs6.same.trans sm7).trans s9,⟨by rw[<-gl];exact re7.len,λ j l e=>?_,λ j k xs ys q e1=>absurd e1 (gi n is ρ j xs)⟩,λ j xs q e1=>absurd e1 (gi n is ρ j xs),λ j xs e=>?_,jv.non (cap_nodic n is ρ)⟩;rotate_left
     ·by_cases hj:n≤j
      ·rw[<-gk j hj]at e;exact rs6.nR j xs e
      ·rw[List.getElem?_append_left (by simp;lia),List.getElem?_replicate]at e;split at e<;>cases e
     by_cases hj:n≤j
     ·rw[<-gk j hj]at e;exact(re7.up s9).get j l e
     ·rw[List.getElem?_append_left (by simp;lia),List.getElem?_replicate]at e;split at e<;>cases e
    have fin:∀{H9:Hp}{s9:Shared}(vs9:List V) (zs9:List Z.D),Inv (lC X N' scope cl C fp s₂ H₂) ([]++pinsAt fp s5.heap) σ6 H9 s9->H9 D=some (.lst vs9)->vs9.length≤i+1->aD H₂ H9->RS X.K H₂ H9 σ6 (List.replicate n none++Z.jd ρ is) ->
      (∃ rest,Z.dh G t fe (List.replicate n none++Z.jd ρ is) (ds.drop (i+1))=.ok rest∧zs9++rest=ys)->ax X.K H9 zs9 vs9->∃ m,m < ds.length+1-i∧∃ i σ' H' vs zs,m=ds.length+1-i∧i≤ds.length∧vs.length≤i∧Inv (lC X N' scope cl C fp s₂ H₂) [] σ' H' s9∧tn i s9.heap∧(∀ b∈fp,H' b=none)∧H' D=some (.lst vs)∧aD H₂ H' ∧
       RS X.K H₂ H' σ' (List.replicate n none++Z.jd ρ is)∧(∃rest,Z.dh G t fe (List.replicate n none++Z.jd ρ is) (ds.drop i)=.ok rest∧zs++rest=ys)∧ax X.K H' zs vs:=by
     intro H9 s9 vs9 zs9 I9 hD9 hv9 sm9 re9 er9 dz9;refine⟨ds.length+1-(i+1),by lia,i+1,σ6,H9,vs9,zs9,rfl,kj,hv9,I9.mB,T.keep _ _ _ st5 λ b hb o e=>(I9.pin (b,o) (List.mem_append_right _ (List.mem_append_right _ (jO hb e)))).1,λ b hb=>?_,hD9,sm9,re9,er9,dz9⟩;obtain⟨o,e,_⟩:=T.obj _ _ st5 b hb;exact(I9.pin (b,o) (List.mem_append_right _ (List.mem_append_right _ (jO hb e)))).2.1
    have hD7:H7 D=some (.lst vs):=sm57 _ _ hD3;cases ok with
    | false =>simp only[Bool.false_eq_true,if_false]at er ⊢;exact fin vs zs I7 hD7 (Nat.le_succ_of_le hvl) (sm3.trans sm57) (re0 (aD.refl _)) ⟨rest,er,ez⟩ (dz.up sm57)
    | true =>
     simp only[if_true]at er ⊢;obtain⟨y,ey,er⟩:=Z.Res.ao er;obtain⟨rest2,er2,er⟩:=Z.Res.ao er;cases er;refine du (he C s₂ H₂ _ s7 σ6 H7 (λ v H8=>aD H7 H8∧Den X.K H8 y v) I7 ⟨ρ1,y,re7,ey,λ v H8 s8 d8=>⟨s8,d8⟩⟩) λ u8 s8 ⟨v8,H8,I8,rv8,sm8,dy⟩=>?_;have hD8:H8 D=some (.lst vs):=sm8 _ _ hD7;have sm28:aD H₂ H8:=(sm3.trans sm57).trans sm8;refine du (mt_append (X:=lC X N' scope cl C fp s₂ H₂) _ s8 σ6 H8 (.ref D) [v8] (.ref D) [u8] (λ v H9=>v=.non∧H9=upd H8 D (.lst (vs++[v8]))) I8 rfl (.cons rv8 .nil) ⟨D,vs,v8,rfl,rfl,hD8,?_,rfl,rfl⟩) λ _ s9 ⟨v9,H9,I9,_,_,e9⟩=>?_
     ·rw[sizeLine_eq];have:Z.line=16777216:=rfl;lia
     subst e9;have st8:i5 H8 (upd H8 D (.lst (vs++[v8]))):=iL hD8;have sm9:aD H₂ (upd H8 D (.lst (vs++[v8]))):=λ b o e=>by rw[aK (bH e hDn)];exact sm28 b o e
     have re8:=re0 sm8;refine fin (vs++[v8]) (zs++[y]) I9 aX (by simp;lia) sm9 ⟨sm9,⟨re8.re.len,λ j l e=>?_,λ j k xs ys q e1=>absurd e1 (gi n is ρ j xs)⟩,λ j xs q e1=>absurd e1 (gi n is ρ j xs),re8.nR,re8.lU⟩ ⟨rest2,er2,by rw[List.append_assoc];exact ez⟩ ((((dz.up sm57).up sm8).append (ax.cons dy ax.nil)).ups st8);obtain⟨v,h1,h2⟩:=re8.re.get j l e;refine⟨v,h1,?_⟩;cases l with
     | val dd=>exact Den.ups (show Den X.K H8 dd v from h2) st8
     | own xs=>exact absurd e (gi n is ρ j xs)
     | bor xs =>obtain⟨v',h3,h4⟩:=re8.nR j xs e;rw[h1]at h3;cases h3;exact h4.up sm9
     | dc ks=>exact absurd e (cap_nodic n is ρ j ks)
     | fdc ks =>obtain⟨q',o',as,rfl,hV,t'⟩:=h2;exact⟨q',o',as,rfl,st8.fh _ _ _ hV,t'.ups st8⟩
     | idc ps =>obtain⟨q',o',rfl,hV⟩:=h2;exact⟨q',o',rfl,st8.fh _ _ _ hV⟩
     | exc c =>obtain⟨q',o',u',C',rfl,hV,r1,r2,r3⟩:=h2;exact⟨q',o',u',C',rfl,st8.fh _ _ _ hV,r1,r2,r3.ups st8⟩
   ·have:i=ds.length:=by lia
    subst this;rw[List.drop_length]at er;cases er;rw[List.append_nil]at ez;subst ez;refine du (T.done (lC X N' scope cl C fp s₂ H₂) rfl rfl rfl hcalm _ [] s' σ3 H3 (λ _ _=>False) I3 (stat fr3) lu (z.stop H3 sm3)) λ r s4 ⟨hr,J4⟩=>?_;subst hr;obtain⟨m',hn',_⟩:=J4.loc;have neC:∀b o,s₂.heap.get? b=some o->b≠C:=λ b o e=>(below b (by rw[<-hD];exact Heap.lt_size e)).1;have I9:Inv X pins σ H3 s4:=I2.call' (s':=s4) J4.os J4.base J4.dO J4.bare λ b hb=>⟨(fo b hb).2.2.2.1,(fo b hb).2.1,(fo b hb).2.2.2.2.1,(fo b hb).2.2.2.2.2⟩
    have szC:s₂.heap.objs.size≤C:=by rw[hD,hC];exact Nat.le_succ _
    refine⟨rfl,D,H3,vs,m',rfl,hn',I9,⟨J4.free,?_,Nat.le_trans I2.sz szC,λ x c e=>?_,λ p hp=>?_⟩,hDn,sm3,hD3,dz⟩
    ·exact Nat.ne_of_gt (Nat.lt_of_lt_of_le I2.lt szC)
    ·exact Nat.ne_of_lt (Nat.lt_of_lt_of_le (cellS x c e).1 szC)
    ·exact neC p.1 p.2 (I2.pin p hp).1
 have hst:codeAny (model X.prog X.w) X.A (.compStart (.ListComp elt [⟨tg,iter,ifs,0⟩] scope pos) 0 (.ref it) (.ref D) (compEnvC scope cl C X.env)) (λ r s'=>r=.ok .next∧Ran X pins σ H₂ ys (.ref D) C s')
   { s₂ with heap:=h₁,toks:=s₂.toks+([]:List (Str×Value)).length }:=codeAny_compStart_list loop (T.self _ 0 _ _ _ st4 loop)
 exact hst
theorem bh{k:Nat}(h:k < n)(d:Z.D)(ρ ρ1:Z.Env)(e:Z.bf k d ρ=.ok ρ1):ρ1.length=ρ.length∧∀i,n≤i->ρ1[i]?=ρ[i]?:=by cases e;exact⟨by simp,λ i hi=>List.getElem?_set_ne (by lia)⟩
theorem gNames_keep:∀(ks:List Nat),(∀k∈ks,k < n)->∀(ds:List Z.D)(ρ ρ1:Z.Env),Z.gg ks ds ρ=.ok ρ1->ρ1.length=ρ.length∧∀i,n≤i->ρ1[i]?=ρ[i]?
 | [],_,[],ρ,ρ1,e=>by cases e;exact⟨rfl,λ _ _=>rfl⟩
 | [],_,_ :: _,_,_,e=>by cases e
 | _ :: _,_,[],_,_,e=>by cases e
 | k :: ks,h,d :: ds,ρ,ρ1,e=>by obtain⟨h1,h2⟩:=gNames_keep ks (λ k hk=>h k (List.mem_cons_of_mem _ hk)) ds _ ρ1 e;refine⟨by rw[h1];simp,λ i hi=>?_⟩;rw[h2 i hi];have:=h k List.mem_cons_self;exact List.getElem?_set_ne (by lia)
theorem ee{ks:List Nat}(h:∀k∈ks,k < n)(d:Z.D)(ρ ρ1:Z.Env)(e:Z.fG ks d ρ=.ok ρ1):ρ1.length=ρ.length∧∀i,n≤i->ρ1[i]?=ρ[i]?:=by
 unfold Z.fG at e;split at e
 ·exact gNames_keep ks h _ ρ ρ1 e
 ·cases e
def Tst(X:Cx)(ifs:List Expr)(t:Z.TF):Prop:=∀(pins:List (Addr×Obj))(s:Shared)(σ:St)(H:Hp)(Q:Bool->Hp->Prop),Inv X pins σ H s->tZt X.K t σ H Q ->
 wpAny (model X.prog X.w) X.A (forIn ifs true λ c r=>if r=true then do let ok ←isTrue c X.env (eval c X.env);pure (ForInStep.yield ok)else pure (ForInStep.yield r)) (TP X pins σ Q) X.xe s
theorem dP:Tst X [] Z.eK:=λ pins s σ H Q I ⟨ρ,b,r,e,k⟩=>by cases e;exact wpAny_tests_nil ⟨H,I,k H (aD.refl H)⟩
theorem fg{c:Expr}{t:Z.TF}(h:DT X c t):Tst X [c] t:=λ pins s σ H Q I w=>wpAny_tests_one (h pins s σ H Q I w)
theorem comp_all{it:Z.LF}{G:Z.GF}{t:Z.TF}{fe:Z.EF}{pins:List (Addr×Obj)}{σ:St}{H:Hp}{s:Shared}{ρ:Z.Env}{ys:List Z.D}{use:Option (Value->Sem Unit)}{Q:Value->Shared->Prop}{ps:Pos}(hcalm:X.calm=true)(hi:DI X tg iter it)(B:lr X.N N' n is scope X.env.scope)
  (hG:∀d ρ ρ1,G d ρ=.ok ρ1->ρ1.length=ρ.length∧∀i,n≤i->ρ1[i]?=ρ[i]?)
  (hg:∀cl C fp s H H0,DG (lC X N' scope cl C fp s H) H0 tg G) (ht:∀cl C fp s H,Tst (lC X N' scope cl C fp s H) ifs t) (he:∀cl C fp s H,DE (lC X N' scope cl C fp s H) elt fe)
  (hs:∀x,foldedSetIterable iter X.env x=pure x)
  (I:Inv X pins σ H s) (re:RE X.K H σ ρ) (ec:Z.bP it n is G t fe ρ=.ok ys)
  (fin:∀acc C s' H₂,aD H H₂->Ran X pins σ H₂ ys acc C s'->compPost (model X.prog X.w) X.A X.xe use Q acc C (.ok .next) s') :
  wpAny (model X.prog X.w) X.A (comprehension (.ListComp elt [⟨tg,iter,ifs,0⟩] scope pos) scope X.env ps (newList []) false (eval iter X.env) use) Q X.xe s:=by
 obtain⟨ds,ei,ec⟩:=Z.Res.ao ec;unfold Z.guard at ec;split at ec
 ·rename_i hlen;have hfree:∀y∈scope.names,y.2=.free->∃c,X.env.cells.lookup y.1=some c:=λ y hy hf=>I.ok.has y.1 (B.free y hy hf);obtain⟨cl,hcl,hcl1,hcl2⟩:=closureFor_of hfree;refine wpAny_comprehension_free (use:=use) rfl hs hcl B.kind B.loc ?_;refine du (hi pins s σ H (λ J H₂=>aD H H₂∧ItZ X.K J (aD H₂) ds) I ⟨ρ,ds,re,ei,λ J H' s' z=>⟨s',z⟩⟩) λ x s₁ h₁=>?_;refine du h₁ λ itv s₂ ⟨it',fp,tn,J,H₂,e2,I2,T,st0,fo,sm,z⟩=>?_;subst e2;refine du (comp_ran (iter:=iter) (pos:=pos) (cl:=cl) hcalm B I2 T st0 fo z (re.up sm) hcl1 hcl2 hG (λ C s H H0=>hg cl C fp s H H0) (λ C s s' H' pins' σ' H'' Q' I' w=>ht cl C fp s H' pins' s' σ' H'' Q' I' w) (λ C s H=>he cl C fp s H) hlen ec) λ acc s₃ h₃=>?_;refine du h₃ λ cenv s₄ h₄=>codeAny_mono h₄ λ r s' ⟨er,ran⟩=>?_;subst er;exact fin acc cenv.locals s' H₂ sm ran
 ·cases ec
theorem bW{it:Z.LF}{G:Z.GF}{t:Z.TF}{fe:Z.EF}(hcalm:X.calm=true)(hi:DI X tg iter it)(B:lr X.N N' n is scope X.env.scope)(hG:∀d ρ ρ1,G d ρ=.ok ρ1->ρ1.length=ρ.length∧∀i,n≤i->ρ1[i]?=ρ[i]?)
  (hg:∀cl C fp s H H0,DG (lC X N' scope cl C fp s H) H0 tg G) (ht:∀cl C fp s H,Tst (lC X N' scope cl C fp s H) ifs t) (he:∀cl C fp s H,DE (lC X N' scope cl C fp s H) elt fe)
  (hs:∀x,foldedSetIterable iter X.env x=pure x:=by intro _;rfl):DL X (.ListComp elt [⟨tg,iter,ifs,0⟩] scope pos) (Z.bP it n is G t fe):=by
 intro pins s σ H Q I w;obtain⟨ρ,ys,re,e,k⟩:=w;rw[eval_ListComp];refine comp_all (use:=none) hcalm hi B hG hg ht he hs I re e λ acc C s' H₂ sm ran=>?_;obtain⟨D,H',vs,m,rfl,hns,I',off,hDn,sm',hD,dz⟩:=ran;exact⟨m,hns,λ h' hs'=>⟨.ref D,H',off.inv I' hs',rfl,k D vs H' (sm.trans sm') (sm.free hDn) hD dz⟩⟩
theorem comp_set{it:Z.LF}{G:Z.GF}{t:Z.TF}{fe:Z.EF}{i:Nat}{x:Str}{px spos:Pos}{D:Ends}{pins:List (Addr×Obj)}{σ:St}{H:Hp}{s:Shared}{ρ:Z.Env}{ys:List Z.D}(hcalm:X.calm=true)(hN:X.N.Nodup)(hix:X.N[i]?=some x)(hx:Loc X.env.scope x)
  (hsw:swapsWith (.ListComp elt [⟨tg,iter,ifs,0⟩] scope pos) (some (.Name x px)) spos.line X.env=pure true) (hi:DI X tg iter it) (B:lr X.N N' n is scope X.env.scope) (hG:∀d ρ ρ1,G d ρ=.ok ρ1->ρ1.length=ρ.length∧∀i,n≤i->ρ1[i]?=ρ[i]?)
  (hg:∀cl C fp s H H0,DG (lC X N' scope cl C fp s H) H0 tg G) (ht:∀cl C fp s H,Tst (lC X N' scope cl C fp s H) ifs t) (he:∀cl C fp s H,DE (lC X N' scope cl C fp s H) elt fe)
  (hs:∀x,foldedSetIterable iter X.env x=pure x) (hf:X.fn x=true∨X.env.scope.names.lookup x=some .local) (I:Inv X pins σ H s) (re:RE X.K H σ ρ) (e:Z.bP it n is G t fe ρ=.ok ys)
  (k:∀q vs H',aD H H'->H q=none->H' q=some (.lst vs)->ax X.K H' ys vs->∃H'',(∀s',Inv X pins (σ.set i (some (.ref q))) H' s'->Inv X pins (σ.set i (some (.ref q))) H'' s')∧D.nx (σ.set i (some (.ref q))) H'') :
  wpAny (model X.prog X.w) X.A (exec (.Assign [.Name x px] (.ListComp elt [⟨tg,iter,ifs,0⟩] scope pos) spos) X.env) (SP X pins D) X.xe s:=by
 rw[exec_Assign_Name_used _ _ _ _ hsw];refine wpAny_bind (wpAny_standAt (wpAny_bind ?_));show wpAny _ X.A (do let _ ←comprehension (.ListComp elt [⟨tg,iter,ifs,0⟩] scope pos) scope X.env _ (newList []) false (eval iter X.env) (some (assign (.Name x px) X.env))) _ _ s;refine wpAny_bind (wpAny_mono (comp_all (use:=some (assign (.Name x px) X.env)) (Q:=λ _ s'=>SP X pins D .next s') hcalm hi B hG hg ht he hs I re e λ acc C s' H₂ sm ran=>?_) (λ _ s' hq=>wpAny_pure (wpAny_pure hq)) λ _ _ e=>e);obtain⟨q,H',vs,m,rfl,hns,I',off,hDn,sm',hD,dz⟩:=ran;obtain⟨H'',hI,hnx⟩:=k q vs H' (sm.trans sm') (sm.free hDn) hD dz;refine wpAny_assign_Name (store_ok2 I' hN hix hx (v:=.ref q) rfl (λ s'' I'' ⟨⟨a,sb,ha⟩,_⟩=>?_) hf);have hCa:C≠a:=by
  rcases ha with rfl | ha
  ·exact off.loc
  ·exact λ z=>off.cell x a ha z.symm
 refine⟨m,hns.sameBut sb hCa,λ h' hs'=>⟨_,H'',?_,hnx⟩⟩;exact hI _ (off.inv I'' hs')
theorem ds_ownC{H0:Hp}{it:Z.LF}{G:Z.GF}{t:Z.TF}{fe:Z.EF}{i:Nat}{x:Str}{px spos:Pos}(hcalm:X.calm=true)(hN:X.N.Nodup)(hix:X.N[i]?=some x)(hx:Loc X.env.scope x)
  (hi:DI X tg iter it) (B:lr X.N N' n is scope X.env.scope) (hG:∀d ρ ρ1,G d ρ=.ok ρ1->ρ1.length=ρ.length∧∀i,n≤i->ρ1[i]?=ρ[i]?)
  (hg:∀cl C fp s H H0,DG (lC X N' scope cl C fp s H) H0 tg G) (ht:∀cl C fp s H,Tst (lC X N' scope cl C fp s H) ifs t) (he:∀cl C fp s H,DE (lC X N' scope cl C fp s H) elt fe)
  (hsw:swapsWith (.ListComp elt [⟨tg,iter,ifs,0⟩] scope pos) (some (.Name x px)) spos.line X.env=pure true:=by rfl)
  (hs:∀x,foldedSetIterable iter X.env x=pure x:=by intro _;rfl) (hf:X.fn x=true∨X.env.scope.names.lookup x=some .local:=by first | exact .inl rfl | exact .inr rfl | assumption) :
  DS X H0 (.Assign [.Name x px] (.ListComp elt [⟨tg,iter,ifs,0⟩] scope pos) spos) (Z.kh i (Z.bP it n is G t fe)):=by
 intro pins s σ H D I w;obtain⟨ρ,fl,rs,e,k⟩:=w;obtain⟨ys,ey,e⟩:=Z.Res.ao e;cases e;refine comp_set hcalm hN hix hx hsw hi B hG hg ht he hs hf I rs.re ey λ q vs H' s' hn h1 t'=>⟨H',λ _ j=>j,?_⟩
 exact k _ H' (stb s') ((rs.up s').setO h1 t' (rs.same.free hn) λ j xs _ e=>rs.noq hn j xs e)
theorem iU{H0 : Hp}{it : Z.LF}{G : Z.GF}{t : Z.TF}{fe : Z.EF}{i : Nat}{x : Str}{px spos : Pos}(hcalm : X.calm = true)(hN : X.N.Nodup)(hix : X.N[i]? = some x)(hx : Loc X.env.scope x)
  (hi:DI X tg iter it) (B:lr X.N N' n is scope X.env.scope) (hG:∀d ρ ρ1,G d ρ=.ok ρ1->ρ1.length=ρ.length∧∀i,n≤i->ρ1[i]?=ρ[i]?)
  (hg:∀cl C fp s H H0,DG (lC X N' scope cl C fp s H) H0 tg G) (ht:∀cl C fp s H,Tst (lC X N' scope cl C fp s H) ifs t) (he:∀cl C fp s H,DE (lC X N' scope cl C fp s H) elt fe)
  (hsw:swapsWith (.ListComp elt [⟨tg,iter,ifs,0⟩] scope pos) (some (.Name x px)) spos.line X.env=pure true:=by rfl)
  (hs:∀x,foldedSetIterable iter X.env x=pure x:=by intro _;rfl) (hf:X.fn x=true∨X.env.scope.names.lookup x=some .local:=by first | exact .inl rfl | exact .inr rfl | assumption) :
  DS X H0 (.Assign [.Name x px] (.ListComp elt [⟨tg,iter,ifs,0⟩] scope pos) spos) (Z.bg i (Z.eL (Z.bP it n is G t fe))):=by
 have h1:DS X H0 (.Assign [.Name x px] (.ListComp elt [⟨tg,iter,ifs,0⟩] scope pos) spos) (Z.kh i (Z.bP it n is G t fe)):=ds_ownC hcalm hN hix hx hi B hG hg ht he hsw hs hf;intro pins s σ H D I w;obtain⟨ρ,fl,rs,e,k⟩:=w;obtain⟨d,ed,e⟩:=Z.Res.ao e;cases e;unfold Z.eL at ed;cases ey:Z.bP it n is G t fe ρ with
 | bad=>rw[ey]at ed;cases ed
 | ok ys =>
  rw[ey]at ed;cases ed;refine du (h1 pins s σ H { D with nx:=λ σ' H'=>i5 H H'∧RS X.K H0 H' σ' (ρ.set i (some (.own ys))) } I ⟨ρ,.nx (ρ.set i (some (.own ys))),rs,by show(Z.bP it n is G t fe ρ).bind _=_;rw[ey];rfl,λ σ' H' s' r'=>⟨s',r'⟩⟩) λ fl' s' h=>?_;cases fl' with
  | next =>
   obtain⟨σ',H',I',aL,rs'⟩:=h;by_cases hl:i < ρ.length
   ·have ei:(ρ.set i (some (Z.L.own ys)))[i]?=some (some (.own ys)):=List.getElem?_set_self hl;obtain⟨v,si,q,us,rfl,hq,t'⟩:=rs'.re.get i _ ei;obtain⟨o,I2⟩:=l_ I' hq;have r2:=rs'.fh (o:=o) ei si hq t';rw[List.set_set]at r2;exact⟨σ',_,I2,k σ' _ (aL.trans (iL hq)) r2⟩
   ·have e0:ρ.set i (some (Z.L.own ys))=ρ:=List.set_eq_of_length_le (by lia);have e1:ρ.set i (some (Z.L.val (.lst ys)))=ρ:=List.set_eq_of_length_le (by lia);rw[e0]at rs';have k':=k;rw[e1]at k';exact⟨σ',H',I',k' σ' H' aL rs'⟩
  | brk=>exact h
  | cont=>exact h
  | ret u=>exact h
end
section
variable {P:Program}{w:World}{K:PySem.W.Frag}{mg:Str->Option Value}{base:Heap}
theorem start_get{N:List Str}{vs:List V}{ds:List Z.D}{H:Hp}(t:ax K H ds vs)(hl:vs.length≤N.length):RS K H H (L2.start N vs) (Z.start N.length ds):=by
 have noown:∀(i:Nat)(xs:List Z.D),(Z.start N.length ds)[i]?≠some (some (.own xs)):=by
  intro i xs e;unfold Z.start at e;by_cases hi:i < ds.length
  ·rw[List.getElem?_append_left (by simpa using hi),List.getElem?_map]at e;cases q:ds[i]? with
   | none=>rw[q]at e;cases e
   | some d=>rw[q]at e;cases e
  ·rw[List.getElem?_append_right (by simpa using hi),List.getElem?_replicate]at e;split at e<;>cases e
 have nobor:∀(i:Nat)(xs:List Z.D),(Z.start N.length ds)[i]?≠some (some (.bor xs)):=by
  intro i xs e;unfold Z.start at e;by_cases hi:i < ds.length
  ·rw[List.getElem?_append_left (by simpa using hi),List.getElem?_map]at e;cases q:ds[i]? with
   | none=>rw[q]at e;cases e
   | some d=>rw[q]at e;cases e
  ·rw[List.getElem?_append_right (by simpa using hi),List.getElem?_replicate]at e;split at e<;>cases e
 have nodic:∀(i:Nat)(ks:Z.DK),(Z.start N.length ds)[i]?≠some (some (.dc ks)):=by
  intro i ks e;unfold Z.start at e;by_cases hi:i < ds.length
  ·rw[List.getElem?_append_left (by simpa using hi),List.getElem?_map]at e;cases q:ds[i]? with
   | none=>rw[q]at e;cases e
   | some d=>rw[q]at e;cases e
  ·rw[List.getElem?_append_right (by simpa using hi),List.getElem?_replicate]at e;split at e<;>cases e
 have hlen:=t.length;refine⟨aD.refl H,⟨?_,λ i l e=>?_,λ i j xs ys q e1=>absurd e1 (noown i xs)⟩,λ i xs q e1=>absurd e1 (noown i xs),λ i xs e1=>absurd e1 (nobor i xs),jv.non nodic⟩
 ·unfold Z.start L2.start;simp;lia
 ·unfold Z.start at e;by_cases hi:i < ds.length
  ·rw[List.getElem?_append_left (by simpa using hi),List.getElem?_map]at e;cases q:ds[i]? with
   | none=>rw[q]at e;cases e
   | some d =>rw[q]at e;cases e;obtain⟨v,h1,h2⟩:=t.get q;refine⟨v,?_,h2⟩;unfold L2.start;rw[List.getElem?_append_left (by simp;lia),List.getElem?_map,h1];rfl
  ·rw[List.getElem?_append_right (by simpa using hi),List.getElem?_replicate]at e;split at e<;>cases e
theorem fnZ{x qual:Str}{st:Stmt}{f:Addr}{fd:FuncData}{N ps:List Str}{k:Nat}{b:Z.SF}(F:Fun K x qual st f fd)(S:aF N ps (aj st))
  (hb:∀ (bT:Value) (A:Around) (outer:List Env) (s:Shared) (H:Hp) (E:XK),fH k (A.deeper (envOfC qual (aj st) s.heap.objs.size f bT)) ->
   DSs (cxOf CX0 P w K mg base N qual (aj st) f bT A outer s H E).nox H (bp st) b):k_ P w K mg base CX0 (k+1) f fd ps (spZ K (Z.fn ps.length N.length b)):=by
 have hlen:∀(vs:List V)(H:Hp)(Q:VK)(E:XK),spZ K (Z.fn ps.length N.length b) vs H Q E->vs.length=ps.length:=λ vs H Q E ⟨ds,d,t,e,_⟩=>by
  unfold Z.fn at e;split at e
  ·rename_i h;rw[t.length];exact h
  ·cases e
 refine F.ok S hlen (λ bT A outer s H vs Q E hr h=>⟨_,hb bT A outer s H E hr,?_⟩);have hl:=hlen vs H Q E h;obtain⟨ds,d,t,e,k⟩:=h;have hpl:ps.length≤N.length:=by have:=congrArg List.length S.pre;rw[List.length_take]at this;lia
 have rs:RS K H H (L2.start N vs) (Z.start N.length ds):=start_get t (by lia);unfold Z.fn at e;split at e
 ·cases eb:b (Z.start N.length ds)with
  | bad=>rw[eb]at e;cases e
  | ok fl =>
   rw[eb]at e;refine⟨_,fl,rs,eb,?_⟩;cases fl with
   | rt d'=>cases e;exact λ v H' s' dv=>k v H' s' dv
   | nx ρ'=>cases e;exact λ σ' H' _ rs'=>k .non H' rs'.same den_non
   | bk ρ'=>cases e
   | ct ρ'=>cases e
 ·cases e
end
end ZS
namespace ZS
open PySem PySem.Spec PyProof.Rows L2
def blkOk(N N':List Str)(n:Nat)(is:List Nat)(sc osc:Scope):Bool :=
 (sc.kind==.function)&&sc.names.all (λ y=>y.2 != .cell)&&sc.names.all (λ y=>y.2 != .local || sc.names.lookup y.1==some .local) &&
 sc.names.all (λ y=>y.2 != .free || osc.names.lookup y.1==some .cell || osc.names.lookup y.1==some .free)&&(N'.length==n+is.length) &&
 (List.range is.length).all (λ j=>match is[j]?,N'[n+j]? with
  | some i,some x=>N[i]?==some x&&sc.names.lookup x==some .free
  | _,_=>false) &&
 (List.range n).all (λ j=>match N'[j]? with
  | some x=>sc.names.lookup x==some .local
  | none=>false)
theorem lr.of{N N':List Str}{n:Nat}{is:List Nat}{sc osc:Scope}(h:blkOk N N' n is sc osc=true):lr N N' n is sc osc:=by
 unfold blkOk at h;simp only[Bool.and_eq_true,List.all_eq_true,beq_iff_eq,Bool.or_eq_true,bne_iff_ne,ne_eq,List.mem_range]at h;obtain⟨⟨⟨⟨⟨⟨h1,h2⟩,h3⟩,h4⟩,h5⟩,h6⟩,h7⟩:=h;refine⟨h1,h2,λ y hy e=>?_,λ y hy e=>?_,h5,λ j i e=>?_,λ j hj=>?_⟩
 ·rcases h3 y hy with q | q
  ·exact absurd e q
  ·exact q
 ·rcases h4 y hy with(q | q) | q
  ·exact absurd e q
  ·exact .inl q
  ·exact .inr q
 ·have hj:j < is.length:=(List.getElem?_eq_some_iff.mp e).1;have q:=h6 j hj;rw[e]at q;cases r:N'[n+j]? with
  | none=>rw[r]at q;cases q
  | some x =>rw[r]at q;simp only[Bool.and_eq_true,beq_iff_eq]at q;exact⟨x,rfl,q.1,q.2⟩
 ·have q:=h7 j hj;cases r:N'[j]? with
  | none=>rw[r]at q;cases q
  | some x =>rw[r]at q;exact⟨x,rfl,beq_iff_eq.mp q⟩
structure Def(K:PySem.W.Frag)(mg:Str->Option Value)(x:Str)(st:Stmt)(ps:List Str):Prop where
 ex:∃f fd,Fun K x x st f fd∧mg x=some (.ref f)∧Binds K fd ps []
structure jj(P:Program)(w:World)(K:PySem.W.Frag)(mg:Str->Option Value)(base:Heap)(x:Str)(k:Nat)(ps:List Str)(m:List Z.D->Z.Res Z.D):Prop where
 ex:∃g fd,k_ P w K mg base CX0 k g fd ps (spZ K m)∧mg x=some (.ref g)∧PySem.W.keepIn K (.ref g)=true∧Binds K fd ps []
theorem jj.mk'{P:Program}{w:World}{K:PySem.W.Frag}{mg:Str->Option Value}{base:Heap}{x:Str}{k:Nat}{st:Stmt}{N ps:List Str}{b:Z.SF}(d:Def K mg x st ps)(S:aF N ps (aj st))
  (hb:∀ (f:Addr) (bT:Value) (A:Around) (outer:List Env) (s:Shared) (H:Hp) (E:XK),fH k (A.deeper (envOfC x (aj st) s.heap.objs.size f bT)) ->
   DSs (cxOf CX0 P w K mg base N x (aj st) f bT A outer s H E).nox H (bp st) b):jj P w K mg base x (k+1) ps (Z.fn ps.length N.length b):=by
 obtain⟨f,fd,F,hm,hb'⟩:=d.ex;exact⟨f,fd,fnZ F S (hb f),hm,F.kp,hb'⟩
section
variable {X:Cx}{e:Expr}{es:List Expr}{pos:Pos}
theorem aq{k:Nat}{ps:List Str}{x:Str}{m:List Z.D->Z.Res Z.D}{ar:Z.AF}{p1:Pos}(C:jj X.prog X.w X.K X.mg X.base x k ps m)(hr:fH k X.A)(hg:Gl X x)
  (ha:DA X (e :: es) ar) (hdb:(x==("__debug__" : Str))=false:=by decide +kernel) (he:starEach (e :: es) X.env=(false,eval e X.env) :: starEach es X.env:=by rfl) (hpl:(backTo pos (starEach es X.env)).any (·.1)=false:=by rfl) :
  DE X (.Call (.Name x p1) (e :: es) [] pos) (Z.aJ m ar) :=
 let ⟨_,_,F,hm,hk,hb⟩:=C.ex;de_call F hr hg hm hk hb ha hdb he hpl
end
theorem b_{X:Cx}{pos:Pos}{x:Str}{i:Int}{t:Tok}(hg:Gl X x)(hm:X.mg x=some (.int i t))(hb:(x==("__debug__" : Str))=false:=by decide +kernel):DE X (.Name x pos) (Z.eC (.int i)) :=
 de_glob (v:=.int i) hg hm ⟨t,rfl⟩ (λ _=>cV) hb
theorem script_den{K:PySem.W.Frag}{H:Hp}{a:Addr}{ns:List Int}(hO:Only H)(h:i6 K H a (ns.map V.int)):Den K H (.lst (ns.map Z.D.int)) (.ref a):=by
 refine den_lst ?_ (ax.da ns);rcases h with(h | ⟨o,h⟩) | h
 ·rcases hO a with z | ⟨o,xs,z⟩ | ⟨q,z⟩
  ·rw[h]at z;cases z
  ·rw[h]at z;cases z
  ·rw[h]at z;cases z
 ·exact .inl ⟨o,h⟩
 ·exact .inr h
theorem law_sp{K:PySem.W.Frag}{H:Hp}{a:Addr}{ns:List Int}{m:List Z.D->Z.Res Z.D}(hO:Only H)(h:i6 K H a (ns.map V.int))(e:m [.lst (ns.map .int)]=.ok (.bl true)):spZ K m [.ref a] H (λ v _=>v=.bl true) λ _ _ _=>False :=
 ⟨_,_,ax.cons (script_den hO h) ax.nil,e,λ v H' _ d=>by simpa only[Den]using d⟩
end ZS
namespace ZS
open PySem PySem.Spec PyProof.Rows L2
section
variable {X:Cx}{e a b:Expr}{pos:Pos}{f fa fb:Z.EF}
theorem str_beqZ(x y:List Nat):((⟨x.toArray⟩:Str)==(⟨y.toArray⟩:Str))=(x==y):=by
 rw[Bool.eq_iff_iff,beq_iff_eq,beq_iff_eq];constructor
 ·intro h;injection h with h;simpa using h
 ·rintro rfl;rfl
theorem mO{A:Around}{s:Shared}{K:PySem.W.Frag}{H:Hp}{d1 d2:Z.D}{v1 v2:V}{u1 u2:Value}{k:Bool}(h:Z.eqS d1 d2=some k)(h1:aZ K H d1 v1)(h2:aZ K H d2 v2)(r1:RelV v1 u1)(r2:RelV v2 u2):SeqAt.RcAt A s u1 u2 k∧SeqAt.EqAt A s u1 u2 k∧SeqAt.RcNeAt A s u1 u2 (!k):=by
 unfold Z.eqS at h;split at h
 ·cases h;rw[h1.non]at r1;rw[h2.non]at r2;cases r1;cases r2;exact⟨SeqAt.RcAt.none_none,SeqAt.EqAt.same _,SeqAt.RcNeAt.none_none⟩
 ·cases h;rw[h1.bl]at r1;rw[h2.bl]at r2;cases r1;cases r2;exact⟨SeqAt.RcAt.bool_bool _ _,SeqAt.EqAt.bool_bool _ _,SeqAt.RcNeAt.bool_bool _ _⟩
 ·cases h;rw[h1.bl]at r1;rw[h2.int]at r2;cases r1;obtain⟨t,rfl⟩:=r2;exact⟨SeqAt.RcAt.bool_int _ _ _,SeqAt.EqAt.bool_int _ _ _,SeqAt.RcNeAt.bool_int _ _ _⟩
 ·cases h;rw[h1.int]at r1;rw[h2.bl]at r2;cases r2;obtain⟨t,rfl⟩:=r1;exact⟨SeqAt.RcAt.int_bool _ _ _,SeqAt.EqAt.int_bool _ _ _,SeqAt.RcNeAt.int_bool _ _ _⟩
 ·cases h;rw[h1.int]at r1;rw[h2.int]at r2;obtain⟨t,rfl⟩:=r1;obtain⟨t',rfl⟩:=r2;exact⟨SeqAt.RcAt.int_int _ _ _ _,SeqAt.EqAt.int_int _ _ _ _,SeqAt.RcNeAt.int_int _ _ _ _⟩
 ·cases h;rw[h1.str]at r1;rw[h2.str]at r2;obtain⟨t,rfl⟩:=r1;obtain⟨t',rfl⟩:=r2;rw[<-str_beqZ];exact⟨SeqAt.RcAt.str_str _ _ _ _,SeqAt.EqAt.str_str _ _ _ _,SeqAt.RcNeAt.str_str _ _ _ _⟩
 ·cases h;rw[h1.non]at r1;rw[h2.bl]at r2;cases r1;cases r2;exact⟨SeqAt.RcAt.none_bool _,SeqAt.EqAt.none_bool _,SeqAt.RcNeAt.none_bool _⟩
 ·cases h;rw[h1.non]at r1;rw[h2.int]at r2;cases r1;obtain⟨t,rfl⟩:=r2;exact⟨SeqAt.RcAt.none_int _ _,SeqAt.EqAt.none_int _ _,SeqAt.RcNeAt.none_int _ _⟩
 ·cases h;rw[h1.non]at r1;rw[h2.str]at r2;cases r1;obtain⟨t,rfl⟩:=r2;exact⟨SeqAt.RcAt.none_str _ _,SeqAt.EqAt.none_str _ _,SeqAt.RcNeAt.none_str _ _⟩
 ·cases h;rw[h1.bl]at r1;rw[h2.non]at r2;cases r1;cases r2;exact⟨SeqAt.RcAt.bool_none _,SeqAt.EqAt.bool_none _,SeqAt.RcNeAt.bool_none _⟩
 ·cases h;rw[h1.bl]at r1;rw[h2.str]at r2;cases r1;obtain⟨t,rfl⟩:=r2;exact⟨SeqAt.RcAt.bool_str _ _ _,SeqAt.EqAt.bool_str _ _ _,SeqAt.RcNeAt.bool_str _ _ _⟩
 ·cases h;rw[h1.int]at r1;rw[h2.non]at r2;cases r2;obtain⟨t,rfl⟩:=r1;exact⟨SeqAt.RcAt.int_none _ _,SeqAt.EqAt.int_none _ _,SeqAt.RcNeAt.int_none _ _⟩
 ·cases h;rw[h1.int]at r1;rw[h2.str]at r2;obtain⟨t,rfl⟩:=r1;obtain⟨t',rfl⟩:=r2;exact⟨SeqAt.RcAt.int_str _ _ _ _,SeqAt.EqAt.int_str _ _ _ _,SeqAt.RcNeAt.int_str _ _ _ _⟩
 ·cases h;rw[h1.str]at r1;rw[h2.non]at r2;cases r2;obtain⟨t,rfl⟩:=r1;exact⟨SeqAt.RcAt.str_none _ _,SeqAt.EqAt.str_none _ _,SeqAt.RcNeAt.str_none _ _⟩
 ·cases h;rw[h1.str]at r1;rw[h2.bl]at r2;cases r2;obtain⟨t,rfl⟩:=r1;exact⟨SeqAt.RcAt.str_bool _ _ _,SeqAt.EqAt.str_bool _ _ _,SeqAt.RcNeAt.str_bool _ _ _⟩
 ·cases h;rw[h1.str]at r1;rw[h2.int]at r2;obtain⟨t,rfl⟩:=r1;obtain⟨t',rfl⟩:=r2;exact⟨SeqAt.RcAt.str_int _ _ _ _,SeqAt.EqAt.str_int _ _ _ _,SeqAt.RcNeAt.str_int _ _ _ _⟩
 ·cases h
def eAt(g:Z.D->Z.D->Option Bool)(as bs:List Z.D)(j:Nat):Bool:=match as[j]?,bs[j]? with
 | some x,some y=>(g x y).getD false
 | _,_=>true
theorem k6{g : Z.D -> Z.D -> Option Bool}: ∀{as bs : List Z.D}{k : Bool}, Z.allEq g as bs = some k -> k = ((List.range (min as.length bs.length)).all (eAt g as bs) && as.length == bs.length) ∧ ∀(j : Nat) x y, as[j]? = some x -> bs[j]? = some y -> g x y = some (eAt g as bs j)
 | [],[],k,h=>by cases h;exact⟨rfl,λ j x y e=>by simp at e⟩
 | [],_ :: _,k,h=>by cases h;exact⟨by simp,λ j x y e=>by simp at e⟩
 | _ :: _,[],k,h=>by cases h;exact⟨by simp,λ j x y _ e=>by simp at e⟩
 | a :: as,b :: bs,k,h=>by
  unfold Z.allEq at h;split at h
  ·rename_i p q e1 e2;cases h;obtain⟨h1,h2⟩:=k6 e2;refine⟨?_,λ j x y ex ey=>?_⟩
   ·have:min (a :: as).length (b :: bs).length=min as.length bs.length+1:=by simp only[List.length_cons];lia
    rw[this,List.range_succ_eq_map,List.all_cons,List.all_map,h1];have e0:eAt g (a :: as) (b :: bs) 0=p:=by simp[eAt,e1]
    have es:(eAt g (a :: as) (b :: bs)∘Nat.succ)=eAt g as bs:=by funext j;simp[eAt]
    have el:((a :: as).length==(b :: bs).length)=(as.length==bs.length):=by rw[Bool.eq_iff_iff];simp
    rw[e0,es,el,Bool.and_assoc]
   ·cases j with
    | zero=>simp at ex ey;subst ex ey;simp[eAt,e1]
    | succ j =>have:=h2 j x y (by simpa using ex) (by simpa using ey);simpa[eAt]using this
  ·cases h
theorem items_at{pins:List (Addr×Obj)}{σ:St}{H:Hp}{s:Shared}(I:Inv X pins σ H s)(n:Nat){A:Around}(hu:A.units+n < cLine)
  (ih:∀{A:Around}{d1 d2:Z.D}{v1 v2:V}{u1 u2:Value}{k:Bool},A.units+n < cLine->Z.iK n d1 d2=some k->aZ X.K H d1 v1->aZ X.K H d2 v2->RelV v1 u1->RelV v2 u2->SeqAt.RcAt A s u1 u2 k∧SeqAt.EqAt A s u1 u2 k∧SeqAt.RcNeAt A s u1 u2 (!k))
  {as bs:List Z.D}{vs ws:List V}{aM dq:List Value}{k:Bool}(hk:Z.allEq (Z.iK n) as bs=some k) (ta:ax X.K H as vs) (tb:ax X.K H bs ws) (ra:Vals vs aM) (rb:Vals ws dq) :
   ∀j (h1:j < aM.toArray.size) (h2:j < dq.toArray.size),SeqAt.EqAt A s aM.toArray[j] dq.toArray[j] (eAt (Z.iK n) as bs j):=by
  intro j hj1 hj2;have la:=ta.length;have lb:=tb.length;have ra':=ra.length;have rb':=rb.length;simp only[List.size_toArray]at hj1 hj2;obtain⟨x,ex⟩:∃x,as[j]?=some x:=⟨as[j]'(by lia),List.getElem?_eq_getElem (by lia)⟩
  obtain⟨y,ey⟩:∃y,bs[j]?=some y:=⟨bs[j]'(by lia),List.getElem?_eq_getElem (by lia)⟩
  obtain⟨vx,evx,dx⟩:=ta.get ex;obtain⟨vy,evy,dy⟩:=tb.get ey;obtain⟨ux,eux,rx⟩:=ra.get evx;obtain⟨uy,euy,ry⟩:=rb.get evy;have e1:aM.toArray[j]=ux:=by have:=List.getElem?_eq_getElem hj1;rw[eux]at this;simpa using(Option.some.inj this).symm
  have e2:dq.toArray[j]=uy:=by have:=List.getElem?_eq_getElem hj2;rw[euy]at this;simpa using(Option.some.inj this).symm
  rw[e1,e2];exact(ih hu ((k6 hk).2 j x y ex ey) (.inl dx) (.inl dy) rx ry).2.1
theorem aT{K:PySem.W.Frag}{H:Hp}{d1 d2:Z.D}{v:V}{k:Bool}(h:Z.eqS d1 d2=some k)(h1:aZ K H d1 v)(h2:aZ K H d2 v):k=true:=by
 unfold Z.eqS at h;split at h<;>first
  | (cases h;rfl)
  | (cases h;done)
  | (have e:=h1.bl.symm.trans h2.bl;cases h;injection e with e;subst e;simp)
  | (have e:=h1.int.symm.trans h2.int;cases h;injection e with e;subst e;simp)
  | (have e:=h1.str.symm.trans h2.str;cases h;injection e with e;rw[<-str_beqZ,e];simp)
  | (have e:=h1.bl.symm.trans h2.int;cases e)
  | (have e:=h1.int.symm.trans h2.bl;cases e)
  | (have e:=h1.non.symm.trans h2.bl;cases e)
  | (have e:=h1.non.symm.trans h2.int;cases e)
  | (have e:=h1.non.symm.trans h2.str;cases e)
  | (have e:=h1.bl.symm.trans h2.non;cases e)
  | (have e:=h1.bl.symm.trans h2.str;cases e)
  | (have e:=h1.int.symm.trans h2.non;cases e)
  | (have e:=h1.int.symm.trans h2.str;cases e)
  | (have e:=h1.str.symm.trans h2.non;cases e)
  | (have e:=h1.str.symm.trans h2.bl;cases e)
  | (have e:=h1.str.symm.trans h2.int;cases e)
theorem items_same{K:PySem.W.Frag}{H:Hp}{n:Nat}(ih:∀{d1 d2:Z.D}{v:V}{k:Bool},Z.iK n d1 d2=some k->aZ K H d1 v->aZ K H d2 v->k=true){as bs:List Z.D}{vs:List V}{k:Bool}(h:Z.allEq (Z.iK n) as bs=some k)(ta:ax K H as vs)(tb:ax K H bs vs):k=true:=by
 obtain⟨h1,h2⟩:=k6 h;have la:=ta.length;have lb:=tb.length;rw[h1,show(as.length==bs.length)=true by simp;lia,Bool.and_true,List.all_eq_true];intro j hj;rw[List.mem_range]at hj;obtain⟨x,ex⟩:∃x,as[j]?=some x:=⟨as[j]'(by lia),List.getElem?_eq_getElem (by lia)⟩
 obtain⟨y,ey⟩:∃y,bs[j]?=some y:=⟨bs[j]'(by lia),List.getElem?_eq_getElem (by lia)⟩
 obtain⟨vx,evx,dx⟩:=ta.get ex;obtain⟨vy,evy,dy⟩:=tb.get ey;rw[evx]at evy;cases evy;exact ih (h2 j x y ex ey) (.inl dx) (.inl dy)
theorem ref_tl{pins:List (Addr×Obj)}{σ:St}{H:Hp}{s:Shared}{a:Addr}{xs ys:List V}(I:Inv X pins σ H s)(h:k? X.K H a xs)(h':i6 X.K H a ys):False:=by obtain⟨aM,r,⟨o,e,c,n,d⟩,_⟩:=I.tuple h;obtain⟨its',r',⟨o',n',e',c',_⟩,_⟩:=I.list h';rw[e]at e';cases e';rw[c]at c';injection c' with z;exact absurd z (by decide)
def sq:Z.D->Bool
 | .tup _=>true
 | .lst _=>true
 | _=>false
def dc:Z.D->Bool
 | .dct _ _=>true
 | _=>false
theorem aG(n:Nat){d1 d2:Z.D}(h:(sq d1=false∧sq d2=false)∨dc d1=true∨dc d2=true):Z.iK n d1 d2=Z.eqS d1 d2:=by cases d1<;>cases d2<;>cases n<;>first | rfl | (simp[sq,dc]at h)
theorem eqN_same0{pins : List (Addr × Obj)}{σ : St}{H : Hp}{s : Shared}(I : Inv X pins σ H s)(n : Nat)(ih : ∀m, m < n -> ∀{d1 d2 : Z.D}{v : V}{k : Bool}, Z.iK m d1 d2 = some k -> aZ X.K H d1 v -> aZ X.K H d2 v -> k = true){d1 d2 : Z.D}{v : V}{k : Bool}(h : Z.iK n d1 d2 = some k)(h1 : aZ X.K H d1 v)(h2 : aZ X.K H d2 v): k = true := by
  cases d1<;>cases d2
  case non.non=>exact aT ((aG n (.inl ⟨rfl,rfl⟩)).symm.trans h) h1 h2
  case non.bl=>exact aT ((aG n (.inl ⟨rfl,rfl⟩)).symm.trans h) h1 h2
  case non.int=>exact aT ((aG n (.inl ⟨rfl,rfl⟩)).symm.trans h) h1 h2
  case non.str=>exact aT ((aG n (.inl ⟨rfl,rfl⟩)).symm.trans h) h1 h2
  case non.tup=>obtain⟨_,_,e,_⟩:=h2.tup;rw[e]at h1;cases h1.non
  case non.lst=>obtain⟨_,_,e,_⟩:=h2.lst;rw[e]at h1;cases h1.non
  case non.dct=>exact aT ((aG n (.inl ⟨rfl,rfl⟩)).symm.trans h) h1 h2
  case bl.non=>exact aT ((aG n (.inl ⟨rfl,rfl⟩)).symm.trans h) h1 h2
  case bl.bl=>exact aT ((aG n (.inl ⟨rfl,rfl⟩)).symm.trans h) h1 h2
  case bl.int=>exact aT ((aG n (.inl ⟨rfl,rfl⟩)).symm.trans h) h1 h2
  case bl.str=>exact aT ((aG n (.inl ⟨rfl,rfl⟩)).symm.trans h) h1 h2
  case bl.tup=>obtain⟨_,_,e,_⟩:=h2.tup;rw[e]at h1;cases h1.bl
  case bl.lst=>obtain⟨_,_,e,_⟩:=h2.lst;rw[e]at h1;cases h1.bl
  case bl.dct=>exact aT ((aG n (.inl ⟨rfl,rfl⟩)).symm.trans h) h1 h2
  case int.non=>exact aT ((aG n (.inl ⟨rfl,rfl⟩)).symm.trans h) h1 h2
  case int.bl=>exact aT ((aG n (.inl ⟨rfl,rfl⟩)).symm.trans h) h1 h2
  case int.int=>exact aT ((aG n (.inl ⟨rfl,rfl⟩)).symm.trans h) h1 h2
  case int.str=>exact aT ((aG n (.inl ⟨rfl,rfl⟩)).symm.trans h) h1 h2
  case int.tup=>obtain⟨_,_,e,_⟩:=h2.tup;rw[e]at h1;cases h1.int
  case int.lst=>obtain⟨_,_,e,_⟩:=h2.lst;rw[e]at h1;cases h1.int
  case int.dct=>exact aT ((aG n (.inl ⟨rfl,rfl⟩)).symm.trans h) h1 h2
  case str.non=>exact aT ((aG n (.inl ⟨rfl,rfl⟩)).symm.trans h) h1 h2
  case str.bl=>exact aT ((aG n (.inl ⟨rfl,rfl⟩)).symm.trans h) h1 h2
  case str.int=>exact aT ((aG n (.inl ⟨rfl,rfl⟩)).symm.trans h) h1 h2
  case str.str=>exact aT ((aG n (.inl ⟨rfl,rfl⟩)).symm.trans h) h1 h2
  case str.tup=>obtain⟨_,_,e,_⟩:=h2.tup;rw[e]at h1;cases h1.str
  case str.lst=>obtain⟨_,_,e,_⟩:=h2.lst;rw[e]at h1;cases h1.str
  case str.dct=>exact aT ((aG n (.inl ⟨rfl,rfl⟩)).symm.trans h) h1 h2
  case tup.non=>obtain⟨_,_,e,_⟩:=h1.tup;rw[e]at h2;cases h2.non
  case tup.bl=>obtain⟨_,_,e,_⟩:=h1.tup;rw[e]at h2;cases h2.bl
  case tup.int=>obtain⟨_,_,e,_⟩:=h1.tup;rw[e]at h2;cases h2.int
  case tup.str=>obtain⟨_,_,e,_⟩:=h1.tup;rw[e]at h2;cases h2.str
  case tup.tup =>
   cases n with
   | zero=>cases h
   | succ n =>obtain⟨_,_,e,q,ta⟩:=h1.tup;obtain⟨_,_,e',q',tb⟩:=h2.tup;rw[e]at e';cases e';have:=I.tuple_inj q q';subst this;exact items_same (ih n (Nat.lt_succ_self n)) h ta tb
  case tup.lst=>obtain⟨_,_,e,q,_⟩:=h1.tup;obtain⟨_,_,e',q',_⟩:=h2.lst;rw[e]at e';cases e';exact(ref_tl I q q').elim
  case tup.dct=>exact aT ((aG n (.inr (.inr rfl))).symm.trans h) h1 h2
  case lst.non=>obtain⟨_,_,e,_⟩:=h1.lst;rw[e]at h2;cases h2.non
  case lst.bl=>obtain⟨_,_,e,_⟩:=h1.lst;rw[e]at h2;cases h2.bl
  case lst.int=>obtain⟨_,_,e,_⟩:=h1.lst;rw[e]at h2;cases h2.int
  case lst.str=>obtain⟨_,_,e,_⟩:=h1.lst;rw[e]at h2;cases h2.str
  case lst.tup=>obtain⟨_,_,e,q,_⟩:=h1.lst;obtain⟨_,_,e',q',_⟩:=h2.tup;rw[e]at e';cases e';exact(ref_tl I q' q).elim
  case lst.lst =>
   cases n with
   | zero=>cases h
   | succ n =>obtain⟨_,_,e,q,ta⟩:=h1.lst;obtain⟨_,_,e',q',tb⟩:=h2.lst;rw[e]at e';cases e';have:=I.m_ q q';subst this;exact items_same (ih n (Nat.lt_succ_self n)) h ta tb
  case lst.dct=>exact aT ((aG n (.inr (.inr rfl))).symm.trans h) h1 h2
  case dct.non=>exact aT ((aG n (.inl ⟨rfl,rfl⟩)).symm.trans h) h1 h2
  case dct.bl=>exact aT ((aG n (.inl ⟨rfl,rfl⟩)).symm.trans h) h1 h2
  case dct.int=>exact aT ((aG n (.inl ⟨rfl,rfl⟩)).symm.trans h) h1 h2
  case dct.str=>exact aT ((aG n (.inl ⟨rfl,rfl⟩)).symm.trans h) h1 h2
  case dct.tup=>exact aT ((aG n (.inr (.inl rfl))).symm.trans h) h1 h2
  case dct.lst=>exact aT ((aG n (.inr (.inl rfl))).symm.trans h) h1 h2
  case dct.dct=>exact aT ((aG n (.inl ⟨rfl,rfl⟩)).symm.trans h) h1 h2
theorem eqN_same{pins:List (Addr×Obj)}{σ:St}{H:Hp}{s:Shared}(I:Inv X pins σ H s)(n:Nat):∀{d1 d2:Z.D}{v:V}{k:Bool},Z.iK n d1 d2=some k->aZ X.K H d1 v->aZ X.K H d2 v->k=true:=by
 induction n using Nat.strongRecOn with
 | _ n ih=>exact eqN_same0 I n ih
theorem rcN0{pins:List (Addr×Obj)}{σ:St}{H:Hp}{s:Shared}(I:Inv X pins σ H s)(n:Nat)(ih:∀m,m < n->∀{A:Around}{d1 d2:Z.D}{v1 v2:V}{u1 u2:Value}{k:Bool},A.units+m < cLine->Z.iK m d1 d2=some k->aZ X.K H d1 v1->aZ X.K H d2 v2->RelV v1 u1->RelV v2 u2->SeqAt.RcAt A s u1 u2 k∧SeqAt.EqAt A s u1 u2 k∧SeqAt.RcNeAt A s u1 u2 (!k)){A:Around}{d1 d2:Z.D}{v1 v2:V}{u1 u2:Value}{k:Bool}(hu:A.units+n < cLine)(h:Z.iK n d1 d2=some k)(h1:aZ X.K H d1 v1)(h2:aZ X.K H d2 v2)(r1:RelV v1 u1)(r2:RelV v2 u2):
  SeqAt.RcAt A s u1 u2 k∧SeqAt.EqAt A s u1 u2 k∧SeqAt.RcNeAt A s u1 u2 (!k):=by
  have fI:A.units < cLine:=by lia
  have tupL:∀{ds:List Z.D}{v:V}{u:Value},aZ X.K H (.tup ds) v->RelV v u->∃q aM,u=.ref q∧s.heap.IsTuple q aM:=λ hd rv=>by obtain⟨q,vs,rfl,hq,_⟩:=hd.tup;cases rv;obtain⟨aM,_,p,_⟩:=I.tuple hq;exact⟨q,aM.toArray,rfl,p⟩
  have lstL:∀{ds:List Z.D}{v:V}{u:Value},aZ X.K H (.lst ds) v->RelV v u->∃q aM,u=.ref q∧s.heap.IsList q aM:=λ hd rv=>by obtain⟨q,vs,rfl,hq,_⟩:=hd.lst;cases rv;obtain⟨aM,_,p,_⟩:=I.list hq;exact⟨q,aM.toArray,rfl,p.isList⟩
  cases d1<;>cases d2
  case non.non=>exact mO ((aG n (.inl ⟨rfl,rfl⟩)).symm.trans h) h1 h2 r1 r2
  case non.bl=>exact mO ((aG n (.inl ⟨rfl,rfl⟩)).symm.trans h) h1 h2 r1 r2
  case non.int=>exact mO ((aG n (.inl ⟨rfl,rfl⟩)).symm.trans h) h1 h2 r1 r2
  case non.str=>exact mO ((aG n (.inl ⟨rfl,rfl⟩)).symm.trans h) h1 h2 r1 r2
  case non.tup =>
   obtain rfl:k=false:=by cases n<;>cases h<;>rfl
   rw[h1.non]at r1;cases r1;obtain⟨q2,dq,rfl,p2⟩:=tupL h2 r2;exact⟨SeqAt.RcAt.none_tuple p2 fI,SeqAt.EqAt.none_tuple p2 fI,SeqAt.RcNeAt.none_tuple p2 fI⟩
  case non.lst =>
   obtain rfl:k=false:=by cases n<;>cases h<;>rfl
   rw[h1.non]at r1;cases r1;obtain⟨q2,dq,rfl,p2⟩:=lstL h2 r2;exact⟨SeqAt.RcAt.none_list p2 fI,SeqAt.EqAt.none_list p2 fI,SeqAt.RcNeAt.none_list p2 fI⟩
  case non.dct=>exact mO ((aG n (.inl ⟨rfl,rfl⟩)).symm.trans h) h1 h2 r1 r2
  case bl.non=>exact mO ((aG n (.inl ⟨rfl,rfl⟩)).symm.trans h) h1 h2 r1 r2
  case bl.bl=>exact mO ((aG n (.inl ⟨rfl,rfl⟩)).symm.trans h) h1 h2 r1 r2
  case bl.int=>exact mO ((aG n (.inl ⟨rfl,rfl⟩)).symm.trans h) h1 h2 r1 r2
  case bl.str=>exact mO ((aG n (.inl ⟨rfl,rfl⟩)).symm.trans h) h1 h2 r1 r2
  case bl.tup =>
   obtain rfl:k=false:=by cases n<;>cases h<;>rfl
   rw[h1.bl]at r1;cases r1;obtain⟨q2,dq,rfl,p2⟩:=tupL h2 r2;exact⟨SeqAt.RcAt.bool_tuple _ p2 fI,SeqAt.EqAt.bool_tuple _ p2 fI,SeqAt.RcNeAt.bool_tuple _ p2 fI⟩
  case bl.lst =>
   obtain rfl:k=false:=by cases n<;>cases h<;>rfl
   rw[h1.bl]at r1;cases r1;obtain⟨q2,dq,rfl,p2⟩:=lstL h2 r2;exact⟨SeqAt.RcAt.bool_list _ p2 fI,SeqAt.EqAt.bool_list _ p2 fI,SeqAt.RcNeAt.bool_list _ p2 fI⟩
  case bl.dct=>exact mO ((aG n (.inl ⟨rfl,rfl⟩)).symm.trans h) h1 h2 r1 r2
  case int.non=>exact mO ((aG n (.inl ⟨rfl,rfl⟩)).symm.trans h) h1 h2 r1 r2
  case int.bl=>exact mO ((aG n (.inl ⟨rfl,rfl⟩)).symm.trans h) h1 h2 r1 r2
  case int.int=>exact mO ((aG n (.inl ⟨rfl,rfl⟩)).symm.trans h) h1 h2 r1 r2
  case int.str=>exact mO ((aG n (.inl ⟨rfl,rfl⟩)).symm.trans h) h1 h2 r1 r2
  case int.tup =>
   obtain rfl:k=false:=by cases n<;>cases h<;>rfl
   rw[h1.int]at r1;obtain⟨t1,rfl⟩:=r1;obtain⟨q2,dq,rfl,p2⟩:=tupL h2 r2;exact⟨SeqAt.RcAt.int_tuple _ _ p2 fI,SeqAt.EqAt.int_tuple _ _ p2 fI,SeqAt.RcNeAt.int_tuple _ _ p2 fI⟩
  case int.lst =>
   obtain rfl:k=false:=by cases n<;>cases h<;>rfl
   rw[h1.int]at r1;obtain⟨t1,rfl⟩:=r1;obtain⟨q2,dq,rfl,p2⟩:=lstL h2 r2;exact⟨SeqAt.RcAt.int_list _ _ p2 fI,SeqAt.EqAt.int_list _ _ p2 fI,SeqAt.RcNeAt.int_list _ _ p2 fI⟩
  case int.dct=>exact mO ((aG n (.inl ⟨rfl,rfl⟩)).symm.trans h) h1 h2 r1 r2
  case str.non=>exact mO ((aG n (.inl ⟨rfl,rfl⟩)).symm.trans h) h1 h2 r1 r2
  case str.bl=>exact mO ((aG n (.inl ⟨rfl,rfl⟩)).symm.trans h) h1 h2 r1 r2
  case str.int=>exact mO ((aG n (.inl ⟨rfl,rfl⟩)).symm.trans h) h1 h2 r1 r2
  case str.str=>exact mO ((aG n (.inl ⟨rfl,rfl⟩)).symm.trans h) h1 h2 r1 r2
  case str.tup =>
   obtain rfl:k=false:=by cases n<;>cases h<;>rfl
   rw[h1.str]at r1;obtain⟨t1,rfl⟩:=r1;obtain⟨q2,dq,rfl,p2⟩:=tupL h2 r2;exact⟨SeqAt.RcAt.str_tuple _ _ p2 fI,SeqAt.EqAt.str_tuple _ _ p2 fI,SeqAt.RcNeAt.str_tuple _ _ p2 fI⟩
  case str.lst =>
   obtain rfl:k=false:=by cases n<;>cases h<;>rfl
   rw[h1.str]at r1;obtain⟨t1,rfl⟩:=r1;obtain⟨q2,dq,rfl,p2⟩:=lstL h2 r2;exact⟨SeqAt.RcAt.str_list _ _ p2 fI,SeqAt.EqAt.str_list _ _ p2 fI,SeqAt.RcNeAt.str_list _ _ p2 fI⟩
  case str.dct=>exact mO ((aG n (.inl ⟨rfl,rfl⟩)).symm.trans h) h1 h2 r1 r2
  case tup.non =>
   obtain rfl:k=false:=by cases n<;>cases h<;>rfl
   obtain⟨q1,its1,rfl,p1⟩:=tupL h1 r1;rw[h2.non]at r2;cases r2;exact⟨SeqAt.RcAt.tuple_none p1 fI,SeqAt.EqAt.tuple_none p1 fI,SeqAt.RcNeAt.tuple_none p1 fI⟩
  case tup.bl =>
   obtain rfl:k=false:=by cases n<;>cases h<;>rfl
   obtain⟨q1,its1,rfl,p1⟩:=tupL h1 r1;rw[h2.bl]at r2;cases r2;exact⟨SeqAt.RcAt.tuple_bool _ p1 fI,SeqAt.EqAt.tuple_bool _ p1 fI,SeqAt.RcNeAt.tuple_bool _ p1 fI⟩
  case tup.int =>
   obtain rfl:k=false:=by cases n<;>cases h<;>rfl
   obtain⟨q1,its1,rfl,p1⟩:=tupL h1 r1;rw[h2.int]at r2;obtain⟨t2,rfl⟩:=r2;exact⟨SeqAt.RcAt.tuple_int _ _ p1 fI,SeqAt.EqAt.tuple_int _ _ p1 fI,SeqAt.RcNeAt.tuple_int _ _ p1 fI⟩
  case tup.str =>
   obtain rfl:k=false:=by cases n<;>cases h<;>rfl
   obtain⟨q1,its1,rfl,p1⟩:=tupL h1 r1;rw[h2.str]at r2;obtain⟨t2,rfl⟩:=r2;exact⟨SeqAt.RcAt.tuple_str _ _ p1 fI,SeqAt.EqAt.tuple_str _ _ p1 fI,SeqAt.RcNeAt.tuple_str _ _ p1 fI⟩
  case tup.lst =>
   obtain rfl:k=false:=by cases n<;>cases h<;>rfl
   obtain⟨q1,its1,rfl,p1⟩:=tupL h1 r1;obtain⟨q2,dq,rfl,p2⟩:=lstL h2 r2;exact⟨SeqAt.RcAt.tuple_list p1 p2 fI,SeqAt.EqAt.tuple_list p1 p2 fI,SeqAt.RcNeAt.tuple_list p1 p2 fI⟩
  case tup.dct=>exact mO ((aG n (.inr (.inr rfl))).symm.trans h) h1 h2 r1 r2
  case lst.non =>
   obtain rfl:k=false:=by cases n<;>cases h<;>rfl
   obtain⟨q1,its1,rfl,p1⟩:=lstL h1 r1;rw[h2.non]at r2;cases r2;exact⟨SeqAt.RcAt.list_none p1 fI,SeqAt.EqAt.list_none p1 fI,SeqAt.RcNeAt.list_none p1 fI⟩
  case lst.bl =>
   obtain rfl:k=false:=by cases n<;>cases h<;>rfl
   obtain⟨q1,its1,rfl,p1⟩:=lstL h1 r1;rw[h2.bl]at r2;cases r2;exact⟨SeqAt.RcAt.list_bool _ p1 fI,SeqAt.EqAt.list_bool _ p1 fI,SeqAt.RcNeAt.list_bool _ p1 fI⟩
  case lst.int =>
   obtain rfl:k=false:=by cases n<;>cases h<;>rfl
   obtain⟨q1,its1,rfl,p1⟩:=lstL h1 r1;rw[h2.int]at r2;obtain⟨t2,rfl⟩:=r2;exact⟨SeqAt.RcAt.list_int _ _ p1 fI,SeqAt.EqAt.list_int _ _ p1 fI,SeqAt.RcNeAt.list_int _ _ p1 fI⟩
  case lst.str =>
   obtain rfl:k=false:=by cases n<;>cases h<;>rfl
   obtain⟨q1,its1,rfl,p1⟩:=lstL h1 r1;rw[h2.str]at r2;obtain⟨t2,rfl⟩:=r2;exact⟨SeqAt.RcAt.list_str _ _ p1 fI,SeqAt.EqAt.list_str _ _ p1 fI,SeqAt.RcNeAt.list_str _ _ p1 fI⟩
  case lst.tup =>
   obtain rfl:k=false:=by cases n<;>cases h<;>rfl
   obtain⟨q1,its1,rfl,p1⟩:=lstL h1 r1;obtain⟨q2,dq,rfl,p2⟩:=tupL h2 r2;exact⟨SeqAt.RcAt.list_tuple p1 p2 fI,SeqAt.EqAt.list_tuple p1 p2 fI,SeqAt.RcNeAt.list_tuple p1 p2 fI⟩
  case lst.dct=>exact mO ((aG n (.inr (.inr rfl))).symm.trans h) h1 h2 r1 r2
  case dct.non=>exact mO ((aG n (.inl ⟨rfl,rfl⟩)).symm.trans h) h1 h2 r1 r2
  case dct.bl=>exact mO ((aG n (.inl ⟨rfl,rfl⟩)).symm.trans h) h1 h2 r1 r2
  case dct.int=>exact mO ((aG n (.inl ⟨rfl,rfl⟩)).symm.trans h) h1 h2 r1 r2
  case dct.str=>exact mO ((aG n (.inl ⟨rfl,rfl⟩)).symm.trans h) h1 h2 r1 r2
  case dct.tup=>exact mO ((aG n (.inr (.inl rfl))).symm.trans h) h1 h2 r1 r2
  case dct.lst=>exact mO ((aG n (.inr (.inl rfl))).symm.trans h) h1 h2 r1 r2
  case dct.dct=>exact mO ((aG n (.inl ⟨rfl,rfl⟩)).symm.trans h) h1 h2 r1 r2
  case tup.tup as bs =>
   cases n with
   | zero=>cases h
   | succ n =>
    have hk:Z.allEq (Z.iK n) as bs=some k:=h;have hs:=λ(z:v1=v2)=>eqN_same I (n+1) (d1:=.tup as) (d2:=.tup bs) (v:=v1) h h1 (z▸h2);obtain⟨q,vs,rfl,hq,ta⟩:=h1.tup;obtain⟨q',ws,rfl,hV,tb⟩:=h2.tup;cases r1;cases r2;obtain⟨aM,ra,pa,_⟩:=I.tuple hq;obtain⟨dq,rb,pb,_⟩:=I.tuple hV;have hi:=items_at I n (A:=A.in1) (show A.units+1+n < cLine by lia) (ih n (Nat.lt_succ_self n)) hk ta tb ra rb;have e:=(k6 hk).1;have la:=ta.length;have lb:=tb.length;have ra':=ra.length;have rb':=rb.length;have t1:=SeqAt.RcAt.tuples (s:=s) (A:=A) (show s.heap.IsTuple q aM.toArray from pa) (show s.heap.IsTuple q' dq.toArray from pb) fI hi;have t2:=SeqAt.RcNeAt.tuples (s:=s) (A:=A) (show s.heap.IsTuple q aM.toArray from pa) (show s.heap.IsTuple q' dq.toArray from pb) fI hi;simp only[List.size_toArray]at t1 t2;rw[<-ra',<-rb',la,lb,<-e]at t1 t2;refine⟨t1,?_,t2⟩;by_cases hqq:q=q'
    ·subst hqq;rw[hs rfl];exact SeqAt.EqAt.same _
    ·exact SeqAt.EqAt.of_refs hqq t1
  case lst.lst as bs =>
   cases n with
   | zero=>cases h
   | succ n =>
    have hk:Z.allEq (Z.iK n) as bs=some k:=h;have hs:=λ(z:v1=v2)=>eqN_same I (n+1) (d1:=.lst as) (d2:=.lst bs) (v:=v1) h h1 (z▸h2);obtain⟨q,vs,rfl,hq,ta⟩:=h1.lst;obtain⟨q',ws,rfl,hV,tb⟩:=h2.lst;cases r1;cases r2;obtain⟨aM,ra,pa,_⟩:=I.list hq;obtain⟨dq,rb,pb,_⟩:=I.list hV;have e:=(k6 hk).1;have la:=ta.length;have lb:=tb.length;have ra':=ra.length;have rb':=rb.length;have t:SeqAt.RcAt A s (.ref q) (.ref q') k∧SeqAt.RcNeAt A s (.ref q) (.ref q') (!k):=by
     by_cases hlen:as.length=bs.length
     ·have hi:=items_at I n (A:=A.in1) (show A.units+1+n < cLine by lia) (ih n (Nat.lt_succ_self n)) hk ta tb ra rb;have t1:=SeqAt.RcAt.lists (s:=s) (A:=A) pa.isList pb.isList (by simp only[List.size_toArray];lia) fI hi;have t2:=SeqAt.RcNeAt.lists (s:=s) (A:=A) pa.isList pb.isList (by simp only[List.size_toArray];lia) fI hi;simp only[List.size_toArray]at t1 t2;rw[<-ra',la]at t1 t2;rw[hlen,Nat.min_self,beq_self_eq_true,Bool.and_true,<-hlen]at e;rw[<-e]at t1 t2;exact⟨t1,t2⟩
     ·have:(as.length==bs.length)=false:=by simpa using hlen
      rw[this,Bool.and_false]at e;subst e;exact⟨SeqAt.RcAt.lists_lengths pa.isList pb.isList (by simp only[List.size_toArray,bne_iff_ne,ne_eq];lia) fI,SeqAt.RcNeAt.lists_lengths pa.isList pb.isList (by simp only[List.size_toArray,bne_iff_ne,ne_eq];lia) fI⟩
    refine⟨t.1,?_,t.2⟩;by_cases hqq:q=q'
    ·subst hqq;rw[hs rfl];exact SeqAt.EqAt.same _
    ·exact SeqAt.EqAt.of_refs hqq t.1
theorem rcN{pins:List (Addr×Obj)}{σ:St}{H:Hp}{s:Shared}(I:Inv X pins σ H s)(n:Nat):∀{A:Around}{d1 d2:Z.D}{v1 v2:V}{u1 u2:Value}{k:Bool},A.units+n < cLine->Z.iK n d1 d2=some k->aZ X.K H d1 v1->aZ X.K H d2 v2->RelV v1 u1->RelV v2 u2->SeqAt.RcAt A s u1 u2 k∧SeqAt.EqAt A s u1 u2 k∧SeqAt.RcNeAt A s u1 u2 (!k):=by
 induction n using Nat.strongRecOn with
 | _ n ih=>exact rcN0 I n ih
theorem c_eq(hu:X.A.units+64 < cLine):Cmp X .Eq Z.oEq:=by
 have ho:ke X (compareOp .Eq) (λ x y H Q=>∃d1 d2 k,aZ X.K H d1 x∧aZ X.K H d2 y∧Z.km d1 d2=some k∧Q (.bl k) H):=by intro pins s σ H x y v u Q I rx ry h;obtain⟨d1,d2,k,h1,h2,e,q⟩:=h;exact(rcN I 6 (A:=X.A) (by lia) e h1 h2 rx ry).1 X.prog X.w X.xe _ ⟨.bl k,H,I,rfl,q⟩
 exact⟨_,ho,λ x y dx dy d H Q h1 h2 e k=>by
  unfold Z.oEq at e;split at e
  ·rename_i z hz;cases e;exact⟨dx,dy,z,h1,h2,hz,k _ H (aD.refl H) eO⟩
  ·cases e⟩
theorem c_ne(hu:X.A.units+64 < cLine):Cmp X .NotEq Z.oNe:=by
 have ho:ke X (compareOp .NotEq) (λ x y H Q=>∃d1 d2 k,aZ X.K H d1 x∧aZ X.K H d2 y∧Z.km d1 d2=some k∧Q (.bl (!k)) H):=by intro pins s σ H x y v u Q I rx ry h;obtain⟨d1,d2,k,h1,h2,e,q⟩:=h;exact(rcN I 6 (A:=X.A) (by lia) e h1 h2 rx ry).2.2 X.prog X.w X.xe _ ⟨.bl (!k),H,I,rfl,q⟩
 exact⟨_,ho,λ x y dx dy d H Q h1 h2 e k=>by
  unfold Z.oNe at e;split at e
  ·rename_i z hz;cases e;exact⟨dx,dy,z,h1,h2,hz,k _ H (aD.refl H) eO⟩
  ·cases e⟩
theorem keyZ_inj:∀{a b:Sum Int (List Nat)},keyZ a=keyZ b->a=b
 | .inl a,.inl b,h=>by injection h with h;rw[h]
 | .inl _,.inr _,h=>by cases h
 | .inr _,.inl _,h=>by cases h
 | .inr a,.inr b,h=>by
  injection h with h
  injection h with h
  have:a=b:=by simpa using congrArg Array.toList h
  rw[this]
theorem keysZ_inj:∀{a b:List (Sum Int (List Nat))},a.map keyZ=b.map keyZ->a=b
 | [],[],_=>rfl
 | [],_ :: _,h=>by cases h
 | _ :: _,[],h=>by cases h
 | a :: as,b :: bs,h=>by simp only[List.map_cons,List.cons.injEq]at h;rw[keyZ_inj h.1,keysZ_inj h.2]
theorem cls_dct{pins:List (Addr×Obj)}{σ:St}{H:Hp}{s:Shared}{a:Addr}{o:Obj}{g0:List (Key×V)}(I:Inv X pins σ H s)(hq:H a=some (.fh o (.dK g0))):∃o',s.heap.get? a=some o'∧o'.cls=.type "dict" := by
 obtain⟨_,_,_,_,_,o',es,ep,h1,h2,_⟩:=(show f7 X.prog X.w H s.heap a (.fh o (.dK g0))from I.dO a _ hq)
 exact⟨o',h1,h2.1⟩
theorem ref_td{pins:List (Addr×Obj)}{σ:St}{H:Hp}{s:Shared}{a:Addr}{xs:List V}{o:Obj}{g0:List (Key×V)}(I:Inv X pins σ H s)(h:k? X.K H a xs)(h':H a=some (.fh o (.dK g0))):False:=by obtain⟨aM,r,⟨o1,e,c,n,d⟩,_⟩:=I.tuple h;obtain⟨o2,e',c'⟩:=cls_dct I h';rw[e]at e';cases e';rw[c]at c';injection c' with z;exact absurd z (by decide)
theorem ref_ld{pins:List (Addr×Obj)}{σ:St}{H:Hp}{s:Shared}{a:Addr}{xs:List V}{o:Obj}{g0:List (Key×V)}(I:Inv X pins σ H s)(h:i6 X.K H a xs)(h':H a=some (.fh o (.dK g0))):False:=by obtain⟨aM,r,⟨o1,n,e,c,_⟩,_⟩:=I.list h;obtain⟨o2,e',c'⟩:=cls_dct I h';rw[e]at e';cases e';rw[c]at c';injection c' with z;exact absurd z (by decide)
mutual
theorem Den.inj{pins:List (Addr×Obj)}{σ:St}{H:Hp}{s:Shared}(I:Inv X pins σ H s):∀(d1 d2:Z.D)(v:V),Den X.K H d1 v->Den X.K H d2 v->d1=d2
 | .non,d2,v,h1,h2=>by
  simp only[Den]at h1;subst h1;cases d2<;>simp only[Den]at h2<;>first | rfl | (cases h2;done) | skip
  case tup=>obtain⟨_,_,e,_⟩:=h2;cases e
  case lst=>obtain⟨_,_,e,_⟩:=h2;cases e
  case dct=>obtain⟨_,_,_,e,_⟩:=h2;cases e
 | .bl b,d2,v,h1,h2=>by
  simp only[Den]at h1;subst h1;cases d2<;>simp only[Den]at h2<;>first | (injection h2 with h2;rw[h2]) | (cases h2;done) | skip
  case tup=>obtain⟨_,_,e,_⟩:=h2;cases e
  case lst=>obtain⟨_,_,e,_⟩:=h2;cases e
  case dct=>obtain⟨_,_,_,e,_⟩:=h2;cases e
 | .int i,d2,v,h1,h2=>by
  simp only[Den]at h1;subst h1;cases d2<;>simp only[Den]at h2<;>first | (injection h2 with h2;rw[h2]) | (cases h2;done) | skip
  case tup=>obtain⟨_,_,e,_⟩:=h2;cases e
  case lst=>obtain⟨_,_,e,_⟩:=h2;cases e
  case dct=>obtain⟨_,_,_,e,_⟩:=h2;cases e
 | .str cs,d2,v,h1,h2=>by
  simp only[Den]at h1;subst h1;cases d2<;>simp only[Den]at h2<;>first | (injection h2 with h2;injection h2 with h2;have:=congrArg Array.toList h2;simp at this;rw[this]) | (cases h2;done) | skip
  case tup=>obtain⟨_,_,e,_⟩:=h2;cases e
  case lst=>obtain⟨_,_,e,_⟩:=h2;cases e
  case dct=>obtain⟨_,_,_,e,_⟩:=h2;cases e
 | .tup ds,d2,v,h1,h2=>by
  simp only[Den]at h1;obtain⟨a,vs,rfl,q,t⟩:=h1;cases d2<;>simp only[Den]at h2
  case tup es =>obtain⟨a',vs',e,q',t'⟩:=h2;cases e;rw[I.tuple_inj q' q]at t';rw[ax.inj I ds es vs t t']
  case lst es=>obtain⟨a',vs',e,q',t'⟩:=h2;cases e;exact(ref_tl I q q'.sq).elim
  case dct ks es=>obtain⟨a',o,g0,e,q',_⟩:=h2;cases e;exact(ref_td I q q').elim
  all_goals cases h2
 | .lst ds,d2,v,h1,h2=>by
  simp only[Den]at h1;obtain⟨a,vs,rfl,q,t⟩:=h1;cases d2<;>simp only[Den]at h2
  case lst es =>obtain⟨a',vs',e,q',t'⟩:=h2;cases e;rw[I.m_ q'.sq q.sq]at t';rw[ax.inj I ds es vs t t']
  case tup es=>obtain⟨a',vs',e,q',t'⟩:=h2;cases e;exact(ref_tl I q' q.sq).elim
  case dct ks es=>obtain⟨a',o,g0,e,q',_⟩:=h2;cases e;exact(ref_ld I q.sq q').elim
  all_goals cases h2
 | .dct ks ds,d2,v,h1,h2=>by
  simp only[Den]at h1;obtain⟨a,o,g0,rfl,q,hk,t⟩:=h1;cases d2<;>simp only[Den]at h2
  case lst es=>obtain⟨a',vs',e,q',t'⟩:=h2;cases e;exact(ref_ld I q'.sq q).elim
  case tup es=>obtain⟨a',vs',e,q',t'⟩:=h2;cases e;exact(ref_td I q' q).elim
  case dct ks' es =>obtain⟨a',o',kvs',e,q',hk',t'⟩:=h2;cases e;rw[q]at q';cases q';rw[ax.inj I ds es _ t t',keysZ_inj (hk.symm.trans hk')]
  all_goals cases h2
theorem ax.inj{pins:List (Addr×Obj)}{σ:St}{H:Hp}{s:Shared}(I:Inv X pins σ H s):∀(d1 d2:List Z.D)(v:List V),ax X.K H d1 v->ax X.K H d2 v->d1=d2
 | [],d2,v,h1,h2=>by
  simp only[ax]at h1;subst h1;cases d2 with
  | nil=>rfl
  | cons d ds=>simp only[ax]at h2;obtain⟨_,_,e,_⟩:=h2;cases e
 | d :: ds,d2,v,h1,h2=>by
  simp only[ax]at h1;obtain⟨u,r,rfl,q,t⟩:=h1;cases d2 with
  | nil=>simp only[ax]at h2;cases h2
  | cons d' ds' =>simp only[ax]at h2;obtain⟨u',r',e,q',t'⟩:=h2;cases e;rw[Den.inj I d d' u q q',ax.inj I ds ds' r t t']
end
theorem anyEq_at{x:Z.D}:∀{ys:List Z.D}{k:Bool},Z.ka x ys=some k->k=ys.any (λ y=>(Z.km y x).getD false)∧∀y∈ys,Z.km y x=some ((Z.km y x).getD false)
 | [],k,h=>by cases h;exact⟨rfl,λ y hy=>by cases hy⟩
 | y :: ys,k,h=>by
  unfold Z.ka at h;split at h
  ·rename_i a b ea eb;cases h;obtain⟨h1,h2⟩:=anyEq_at eb;refine⟨by rw[List.any_cons,ea,h1];rfl,λ z hz=>?_⟩;rcases List.mem_cons.mp hz with rfl | hz
   ·rw[ea];rfl
   ·exact h2 z hz
  ·cases h
theorem in_fun{pins : List (Addr × Obj)}{σ : St}{H : Hp}{s : Shared}(I : Inv X pins σ H s){A : Around}(hu : A.units + 60 < cLine){x : Z.D}{v : V}{u : Value}(hx : aZ X.K H x v)(rx : RelV v u): ∀{ys : List Z.D}{vs : List V}{us : List Value}, ax X.K H ys vs -> Vals vs us -> (∀y ∈ ys, Z.km y x = some ((Z.km y x).getD false)) ->
  ∃e:Value->Bool,(∀w∈us,SeqAt.EqAt A s w u (e w))∧us.any e=ys.any (λ y=>(Z.km y x).getD false):=by
 intro ys vs us;have key:∀{ys:List Z.D}{vs:List V}{us:List Value},ax X.K H ys vs->Vals vs us->(∀y∈ys,Z.km y x=some ((Z.km y x).getD false))->(∀w∈us,∃b,SeqAt.EqAt A s w u b)∧∀e:Value->Bool,(∀w∈us,∀y vy,Den X.K H y vy->RelV vy w->y∈ys->e w=(Z.km y x).getD false)->us.any e=ys.any (λ y=>(Z.km y x).getD false):=by
  intro ys
  induction ys with
  | nil=>intro vs us t r _;simp only[ax]at t;subst t;cases r;exact⟨λ w hw=>(by cases hw),λ _ _=>rfl⟩
  | cons y ys ih =>
   intro vs us t r hh;simp only[ax]at t;obtain⟨vy,vr,rfl,dy,tr⟩:=t;cases r with
   | cons ry rr =>
    obtain⟨h1,h2⟩:=ih tr rr (λ z hz=>hh z (List.mem_cons_of_mem _ hz));refine⟨λ w hw=>?_,λ e he=>?_⟩
    ·rcases List.mem_cons.mp hw with rfl | hw
     ·exact⟨_,(rcN I 6 (A:=A) (by lia) (hh y List.mem_cons_self) (.inl dy) hx ry rx).2.1⟩
     ·exact h1 w hw
    ·rw[List.any_cons,List.any_cons,he _ List.mem_cons_self y vy dy ry List.mem_cons_self,h2 e λ w hw z vz dz rz hz=>he w (List.mem_cons_of_mem _ hw) z vz dz rz (List.mem_cons_of_mem _ hz)]
 intro t r hh
 classical
 let e:Value->Bool:=λ w=>if h:∃y vy,Den X.K H y vy∧RelV vy w∧y∈ys then(Z.km h.choose x).getD false else false
 have he:∀w y vy,Den X.K H y vy->RelV vy w->y∈ys->e w=(Z.km y x).getD false:=by
  intro w y vy dy ry hy;have hex:∃y vy,Den X.K H y vy∧RelV vy w∧y∈ys:=⟨y,vy,dy,ry,hy⟩
  show(if h:_ then _ else _)=_;rw[dif_pos hex];obtain⟨vy',dy',ry',hy'⟩:=hex.choose_spec;have ev:vy'=vy:=ry'.inj ry;subst ev;rw[Den.inj I _ _ _ dy' dy]
 refine⟨e,λ w hw=>?_,(key t r hh).2 e λ w hw y vy dy ry hy=>he w y vy dy ry hy⟩;obtain⟨j,hj,ej⟩:=List.getElem_of_mem hw;have hl:=r.length;have ht:=t.length;obtain⟨y,ey⟩:∃y,ys[j]?=some y:=⟨ys[j]'(by lia),List.getElem?_eq_getElem (by lia)⟩
 obtain⟨vy,evy,dy⟩:=t.get ey;obtain⟨u',eu',ru'⟩:=r.get evy;have:u'=w:=by have:=List.getElem?_eq_getElem hj;rw[eu',ej]at this;exact Option.some.inj this
 subst this;have hy:y∈ys:=List.mem_of_getElem? ey;rw[he _ y vy dy ru' hy];exact(rcN I 6 (A:=A) (by lia) (hh y hy) (.inl dy) hx ru' rx).2.1
theorem op_inD(hu:X.A.units+64 < cLine):ke X (compareOp .In) (λ x y H Q=>∃d ys q vs k,aZ X.K H d x∧y=.ref q∧(i6 X.K H q vs∨k? X.K H q vs)∧ax X.K H ys vs∧Z.ka d ys=some k∧Q (.bl k) H):=by
 intro pins s σ H x y v u Q I rx ry h;obtain⟨d,ys,q,vs,k,hd,rfl,hq,t,e,k'⟩:=h;cases ry;obtain⟨e1,e2⟩:=anyEq_at e;subst e1;rcases hq with hq | hq
 ·obtain⟨aM,r,pl,hz⟩:=I.list hq;obtain⟨f,hf,hfa⟩:=in_fun I (A:=X.A.in1) (show X.A.units+1+60 < cLine by lia) hd rx t r e2;refine SeqAt.in_listAt f pl.isList (λ w hw=>hf w (by simpa using hw)) ⟨.bl _,H,I,rfl,?_⟩;rw[show aM.toArray.any f=aM.any f by simp,hfa];exact k'
 ·obtain⟨aM,r,pl,hz⟩:=I.tuple hq;obtain⟨f,hf,hfa⟩:=in_fun I (A:=X.A.in1) (show X.A.units+1+60 < cLine by lia) hd rx t r e2;refine SeqAt.in_tupleAt f pl (λ w hw=>hf w (by simpa using hw)) ⟨.bl _,H,I,rfl,?_⟩;rw[show aM.toArray.any f=aM.any f by simp,hfa];exact k'
theorem c_in(hu:X.A.units+64 < cLine):Cmp X .In Z.oIn:=⟨_,op_inD hu,λ x y dx dy d H Q h1 h2 e k=>by
 unfold Z.oIn at e;split at e
 ·split at e
  ·rename_i b hb;cases e;obtain⟨q,vs,rfl,hq,t⟩:=h2.tup;exact⟨dx,_,q,vs,b,h1,rfl,.inr hq,t,hb,k _ H (aD.refl H) eO⟩
  ·cases e
 ·split at e
  ·rename_i b hb;cases e;obtain⟨q,vs,rfl,hq,t⟩:=h2.lst;exact⟨dx,_,q,vs,b,h1,rfl,.inl hq,t,hb,k _ H (aD.refl H) eO⟩
  ·cases e
 ·cases e⟩
theorem allB_ok: ∀{xs : List Z.D}{k : Bool}, Z.allB xs = some k -> ∃bs : List Bool, xs = bs.map Z.D.bl ∧ k = bs.all id
 | [],k,h=>by cases h;exact⟨[],rfl,rfl⟩
 | x :: xs,k,h=>by
  cases x with
  | bl b =>
   have h':(Z.allB xs).map (b&&·)=some k:=h;cases q:Z.allB xs with
   | none=>rw[q]at h';cases h'
   | some k' =>rw[q]at h';cases h';obtain⟨bs,rfl,rfl⟩:=allB_ok q;exact⟨b :: bs,rfl,rfl⟩
  | non=>cases h
  | int _=>cases h
  | str _=>cases h
  | tup _=>cases h
  | lst _=>cases h
  | dct _ _=>cases h
theorem dens_bls{K:PySem.W.Frag}{H:Hp}:∀{bs:List Bool}{vs:List V},ax K H (bs.map Z.D.bl) vs->vs=bs.map V.bl
 | [],vs,h=>by simp only[List.map_nil,ax]at h;subst h;rfl
 | b :: bs,vs,h=>by simp only[List.map_cons,ax]at h;obtain⟨v,r,rfl,hv,ht⟩:=h;simp only[Den]at hv;rw[hv,dens_bls ht];rfl
theorem all_range(bs:List Bool):((List.range bs.length).all λ i=>bs[i]?.getD true)=bs.all id:=by
 induction bs with
 | nil=>rfl
 | cons b bs ih =>
  rw[List.length_cons,List.range_succ_eq_map,List.all_cons,List.all_map,List.all_cons];have:((λ i=>((b :: bs)[i]?).getD true)∘Nat.succ)=λ i=>bs[i]?.getD true:=by funext i;simp
  rw[this,ih];simp
theorem call_allZ(hc:X.calm=true):iG X (.builtin "all") (λ xs H Q=>∃(q:Addr) (bs:List Bool),xs=[.ref q]∧i6 X.K H q (bs.map V.bl)∧Q (.bl (bs.all id)) H):=by
 intro pins s σ H xs us Q I r h;obtain⟨q,bs,rfl,hq,k⟩:=h;obtain⟨u,rfl,ru⟩:=vals1 r;cases ru;obtain⟨aM,rv,pl,hz⟩:=I.list hq;have hl:=rv.length;rw[List.length_map]at hl;have kj:q < s.heap.objs.size:=by obtain⟨_,e,_⟩:=pl.isList;exact Heap.lt_size e
 have hh:X.A.in1.handled=none:=I.ok.hd hc;refine call_all_walk (wpAny_pyIter_list pl.isList ?_);refine⟨s.heap.objs.size,[s.heap.objs.size,q],[s.heap.objs.size],aM.toArray.size,_,_,λ i=>bs[i]?.getD true,rfl,Walks.list hh s.heap.objs.size q (Nat.ne_of_lt kj) aM.toArray,⟨⟨_,Heap.get?_push_size _ rfl,rfl,rfl⟩,pl.isList.push _⟩,?_,λ h' tk hk=>?_⟩
 ·intro i v s' Q' E' hv hQ;have hi:aM[i]?=some v:=by simpa using hv
  obtain⟨hi1,_⟩:=List.getElem?_eq_some_iff.mp hi;have hb:(bs.map V.bl)[i]?=some (V.bl (bs[i]'(by lia))):=by rw[List.getElem?_map,List.getElem?_eq_getElem (by lia)];rfl
  obtain⟨u,hu,ru⟩:=rv.get hb;rw[hi]at hu;cases hu;cases ru;refine wpAny_truthy_bool ?_;have:bs[i]?.getD true=bs[i]'(by lia):=by rw[List.getElem?_eq_getElem (by lia)];rfl
  rw[<-this];exact hQ
 ·have I1:Inv X pins σ H { s with heap:=s.heap.push { cls:=.type "list_iterator",data:=.fields #[.ref q,.int 0 0] } }:=I.kept (t':=s.toks) λ b o e=>Heap.get?_push_of_some _ e;obtain⟨f0,f1,f2,f3,f4,f5⟩:=I.fpOk (H':=H) (Nat.le_refl s.heap.objs.size) I.fresh;have I2:=I1.turned (h':=h') (t':=tk) (it:=s.heap.objs.size) (λ b o hb e=>hk b o (by simpa using hb) e) f0 f1 f3 f4 f5;refine⟨.bl _,H,I2,rfl,?_⟩;have e:(List.range aM.toArray.size).all (λ i=>bs[i]?.getD true)=bs.all id:=by rw[List.size_toArray,<-hl,all_range]
  rw[e];exact k
theorem de_all{x : Str}{p1 : Pos}(hg : Gl X x)(hm : X.mg x = none)(hv : bootBuiltins x = some (.builtin "all"))(ha : DW X a fa)(hc : X.calm = true := by rfl)(hn : x ≠ "__name__" := by decide +kernel)(hdb : (x == ("__debug__" : Str)) = false := by decide +kernel)
  (he:starEach (a :: []) X.env=(false,eval a X.env) :: starEach [] X.env:=by rfl) (hpl:(backTo pos (starEach [] X.env)).any (·.1)=false:=by rfl):DE X (.Call (.Name x p1) [a] [] pos) (Z.eU Z.oAll fa) :=
 PE.imp (jn (call_allZ hc) hg hm hv (a! ha cQ he) hn hdb he hpl) λ σ H Q ⟨ρ,d,r,e,k⟩=>by
  obtain⟨x,ea,e⟩:=Z.Res.ao e;refine⟨ρ,x,r,ea,λ v H1 s1 d1=>?_⟩;unfold Z.oAll at e;split at e
  ·split at e
   ·rename_i xs k' hk;cases e;obtain⟨bs,rfl,rfl⟩:=allB_ok hk;obtain⟨q,vs,rfl,hq,t⟩:=d1.lst;rw[dens_bls t]at hq;exact⟨q,bs,rfl,hq,k _ H1 s1 eO⟩
   ·cases e
  ·cases e
end
section
variable {X:Cx}{es:List Expr}{f:Z.EF}{g:Z.AF}
theorem ag{v j p}(ha:DE X (.Constant v j p) f)(hr:DA X es g):DA X ((.Constant v j p) :: es) (Z.ab f g):=jU ha hr rfl
theorem ae{x p}(ha:DE X (.Name x p) f)(hr:DA X es g):DA X ((.Name x p) :: es) (Z.ab f g):=jU ha hr rfl
theorem iq{xs j p}(ha:DE X (.Tuple xs j p) f)(hr:DA X es g):DA X ((.Tuple xs j p) :: es) (Z.ab f g):=jU ha hr rfl
theorem k5{xs p}(ha:DE X (.List xs p) f)(hr:DA X es g):DA X ((.List xs p) :: es) (Z.ab f g):=jU ha hr rfl
theorem ba{x o y p}(ha:DE X (.BinOp x o y p) f)(hr:DA X es g):DA X ((.BinOp x o y p) :: es) (Z.ab f g):=jU ha hr rfl
theorem b7{x xs ks p}(ha:DE X (.Call x xs ks p) f)(hr:DA X es g):DA X ((.Call x xs ks p) :: es) (Z.ab f g):=jU ha hr rfl
theorem cN{x y p}(ha:DE X (.Subscript x y p) f)(hr:DA X es g):DA X ((.Subscript x y p) :: es) (Z.ab f g):=jU ha hr rfl
end
end ZS
namespace ZQ
open PySem PySem.Spec PyProof.Rows L2 ZS
abbrev St:=L2.St
structure QE(X:Cx)(e:Expr)(f:Z.EF):Prop where p:DE X e f
structure QW(X:Cx)(e:Expr)(f:Z.EF):Prop where p:DW X e f
structure QL(X:Cx)(e:Expr)(f:Z.LF):Prop where p:DL X e f
structure QT(X:Cx)(e:Expr)(f:Z.TF):Prop where p:DT X e f
structure QTW(X:Cx)(e:Expr)(f:Z.TF):Prop where p:DTW X e f
structure QA(X:Cx)(es:List Expr)(f:Z.AF):Prop where p:DA X es f
structure QP(X:Cx)(e:Option Expr)(f:Z.PF):Prop where p:DP X e f
structure QI(X:Cx)(tg e:Expr)(f:Z.LF):Prop where p:DI X tg e f
structure QJ(X:Cx)(tg e:Expr)(f:Z.LF):Prop where p:DJ X tg e f
structure QS(X:Cx)(H0:Hp)(st:Stmt)(g:Z.SF):Prop where p:DS X H0 st g
structure QSs(X:Cx)(H0:Hp)(st:List Stmt)(g:Z.SF):Prop where p:DSs X H0 st g
structure QG(X:Cx)(H0:Hp)(tg:Expr)(g:Z.GF):Prop where p:DG X H0 tg g
structure QGs(X:Cx)(H0:Hp)(tgs:List Expr)(is:List Nat):Prop where p:DGs X H0 tgs is
structure QTst(X:Cx)(ifs:List Expr)(t:Z.TF):Prop where p:Tst X ifs t
section
variable {X:Cx}{tg e a b c elt iter:Expr}{es ifs:List Expr}{pos p:Pos}{f fa fb fc:Z.EF}{g u:Z.SF}{H0:Hp}{st:Stmt}{sts:List Stmt}{N':List Str}{n:Nat}{is:List Nat}{scope:Scope}
theorem aa{i:Int}{j}:QE X (.Constant (.int i) j pos) (Z.eC (.int i)):=⟨ZS.aa ⟩
theorem jt{x:Bool}{j}:QE X (.Constant (.bool x) j pos) (Z.eC (.bl x)):=⟨ZS.jt ⟩
theorem de_non{j}:QE X (.Constant .none j pos) (Z.eC .non):=⟨ZS.de_non ⟩
theorem c8{x:Str}{cs:List Nat}{j}(h:x=⟨cs.toArray⟩):QE X (.Constant (.str x) j pos) (Z.eC (.str cs)):=⟨ZS.c8 (h:=h)⟩
theorem av(i:Nat){x:Str}(hN:X.N[i]?=some x:=by rfl)(hv:Vis X.env.scope x:=by first | exact Or.inl rfl | exact Or.inr (Or.inl rfl) | exact Or.inr (Or.inr rfl))(hd:(x==("__debug__" : Str))=false:=by decide +kernel)(hcd:(x==("__classdict__" : Str))=false:=by decide +kernel):QE X (.Name x pos) (Z.eV i):=⟨ZS.av (i:=i) (hN:=hN) (hv:=hv) (hd:=hd) (hcd:=hcd)⟩
theorem ak(i:Nat){x:Str}(hN:X.N[i]?=some x:=by rfl)(hv:Vis X.env.scope x:=by first | exact Or.inl rfl | exact Or.inr (Or.inl rfl) | exact Or.inr (Or.inr rfl))(hd:(x==("__debug__" : Str))=false:=by decide +kernel)(hcd:(x==("__classdict__" : Str))=false:=by decide +kernel):QW X (.Name x pos) (Z.eW i):=⟨ZS.ak (i:=i) (hN:=hN) (hv:=hv) (hd:=hd) (hcd:=hcd)⟩
theorem b_{X:Cx}{pos:Pos}{x:Str}{i:Int}{t:Tok}(hg:Gl X x)(hm:X.mg x=some (.int i t))(hb:(x==("__debug__" : Str))=false:=by decide +kernel):QE X (.Name x pos) (Z.eC (.int i)):=⟨ZS.b_ (hg:=hg) (hm:=hm) (hb:=hb)⟩
theorem af(h:QE X e f):QW X e f:=⟨ZS.af (h:=h.p)⟩
theorem dJ{l:Z.LF}(h:QL X e l):QW X e (Z.eL l):=⟨ZS.dJ (h:=h.p)⟩
theorem nN{l:Z.LF}(h:QL X e l):QE X e (Z.eL l):=⟨ZS.nN (h:=h.p)⟩
theorem c7(ha:QW X a fa)(hb:QW X b fb):QE X (.BinOp a .Sub b pos) (Z.eB Z.iJ fa fb):=⟨ZS.c7 (ha:=ha.p) (hb:=hb.p)⟩
theorem c9(ha:QW X a fa)(hb:QW X b fb):QE X (.BinOp a .Mult b pos) (Z.eB Z.gW fa fb):=⟨ZS.c9 (ha:=ha.p) (hb:=hb.p)⟩
theorem cj(ha:QW X a fa)(hb:QW X b fb):QE X (.BinOp a .FloorDiv b pos) (Z.eB Z.oDiv fa fb):=⟨ZS.cj (ha:=ha.p) (hb:=hb.p)⟩
theorem bo(ha:QW X a fa)(hb:QW X b fb):QE X (.BinOp a .Mod b pos) (Z.eB Z.oMod fa fb):=⟨ZS.bo (ha:=ha.p) (hb:=hb.p)⟩
theorem kZ(ha:QW X a fa)(hb:QW X b fb):QE X (.BinOp a .Pow b pos) (Z.eB Z.ki fa fb):=⟨ZS.kZ (ha:=ha.p) (hb:=hb.p)⟩
theorem aR(ha:QW X a fa)(hb:QW X b fb):QE X (.BinOp a .Add b pos) (Z.eB Z.bN fa fb):=⟨ZS.aR (ha:=ha.p) (hb:=hb.p)⟩
theorem fU{op:CmpOp}{o:Z.D->Z.D->Z.Res Z.D}(h:Cmp X op o)(ha:QW X a fa)(hb:QW X b fb)(hm:behindInMarks op b=false):QE X (.Compare a [op] [b] pos) (Z.eB o fa fb):=⟨ZS.fU (h:=h) (ha:=ha.p) (hb:=hb.p) (hm:=hm)⟩
theorem bA{op:CmpOp}{o:Z.D->Z.D->Z.Res Z.D}(h:Cmp X op o)(ha:QW X a fa)(hb:QW X b fb)(hm:behindInMarks op b=false):QT X (.Compare a [op] [b] pos) (Z.tE (Z.eB o fa fb)):=⟨ZS.bA (h:=h) (ha:=ha.p) (hb:=hb.p) (hm:=hm)⟩
theorem nD{op op':CmpOp}{o o':Z.D->Z.D->Z.Res Z.D}(h:Cmp X op o)(h':Cmp X op' o')(ha:QW X a fa)(hb:QW X b fb)(hc:QW X c fc)(hm:lastMarks [op,op'] [b,c]=false:=by with_unfolding_all rfl):QT X (.Compare a [op,op'] [b,c] pos) (Z.tE (Z.eChain o o' fa fb fc)):=⟨ZS.nD (h:=h) (h':=h') (ha:=ha.p) (hb:=hb.p) (hc:=hc.p) (hm:=hm)⟩
theorem dt_isN{j pos'}(ha:QW X a fa):QT X (.Compare a [.Is] [.Constant .none j pos'] pos) (Z.tE (Z.eU Z.oIsN fa)):=⟨ZS.dt_isN (ha:=ha.p)⟩
theorem dt_notN{j pos'}(ha:QW X a fa):QT X (.Compare a [.IsNot] [.Constant .none j pos'] pos) (Z.tE (Z.eU Z.mV fa)):=⟨ZS.dt_notN (ha:=ha.p)⟩
theorem de_one{op}(h:QE X a fa):QE X (.BoolOp op [a] pos) fa:=⟨ZS.de_one (h:=h.p)⟩
theorem de_or{rest:List Expr}(ha:QE X a fa)(hb:QE X (.BoolOp .Or (b :: rest) pos) fb):QE X (.BoolOp .Or (a :: b :: rest) pos) (Z.eOr fa fb):=⟨ZS.de_or (ha:=ha.p) (hb:=hb.p)⟩
theorem dt_e(h:QE X e f)(he:∀whole,isTrue e X.env whole=(do let v ←whole;standAt e.pos;holding [v] (truthy v)):=by intro _;rfl):QT X e (Z.tE f):=⟨ZS.dt_e (h:=h.p) (he:=he)⟩
theorem dt_not{t:Z.TF}(h:QT X a t):QT X (.UnaryOp .Not a pos) (Z.tNot t):=⟨ZS.dt_not (h:=h.p)⟩
theorem jS{t:Z.TF}(h:QT X a t):QTW X (.BoolOp .And [a] pos) t:=⟨ZS.jS (h:=h.p)⟩
theorem dt_or1{t:Z.TF}(h:QT X a t):QTW X (.BoolOp .Or [a] pos) t:=⟨ZS.dt_or1 (h:=h.p)⟩
theorem mh{t u:Z.TF}{rest:List Expr}(ha:QT X a t)(hb:QTW X (.BoolOp .And (b :: rest) pos) u):QTW X (.BoolOp .And (a :: b :: rest) pos) (Z.tAnd t u):=⟨ZS.mh (ha:=ha.p) (hb:=hb.p)⟩
theorem dt_or{t u:Z.TF}{rest:List Expr}(ha:QT X a t)(hb:QTW X (.BoolOp .Or (b :: rest) pos) u):QTW X (.BoolOp .Or (a :: b :: rest) pos) (Z.tOr t u):=⟨ZS.dt_or (ha:=ha.p) (hb:=hb.p)⟩
theorem dtw{t:Z.TF}(h:QTW X e t):QT X e t:=⟨ZS.dtw (h:=h.p)⟩
theorem ai: QA X [] Z.aC:=⟨ZS.ai ⟩
theorem ag{g:Z.AF}{v j p}(ha:QE X (.Constant v j p) f)(hr:QA X es g):QA X ((.Constant v j p) :: es) (Z.ab f g):=⟨ZS.ag (ha:=ha.p) (hr:=hr.p)⟩
theorem ae{g:Z.AF}{x p}(ha:QE X (.Name x p) f)(hr:QA X es g):QA X ((.Name x p) :: es) (Z.ab f g):=⟨ZS.ae (ha:=ha.p) (hr:=hr.p)⟩
theorem iq{g:Z.AF}{xs j p}(ha:QE X (.Tuple xs j p) f)(hr:QA X es g):QA X ((.Tuple xs j p) :: es) (Z.ab f g):=⟨ZS.iq (ha:=ha.p) (hr:=hr.p)⟩
theorem k5{g:Z.AF}{xs p}(ha:QE X (.List xs p) f)(hr:QA X es g):QA X ((.List xs p) :: es) (Z.ab f g):=⟨ZS.k5 (ha:=ha.p) (hr:=hr.p)⟩
theorem ba{g:Z.AF}{x o y p}(ha:QE X (.BinOp x o y p) f)(hr:QA X es g):QA X ((.BinOp x o y p) :: es) (Z.ab f g):=⟨ZS.ba (ha:=ha.p) (hr:=hr.p)⟩
theorem b7{g:Z.AF}{x xs ks p}(ha:QE X (.Call x xs ks p) f)(hr:QA X es g):QA X ((.Call x xs ks p) :: es) (Z.ab f g):=⟨ZS.b7 (ha:=ha.p) (hr:=hr.p)⟩
theorem cN{g:Z.AF}{x y p}(ha:QE X (.Subscript x y p) f)(hr:QA X es g):QA X ((.Subscript x y p) :: es) (Z.ab f g):=⟨ZS.cN (ha:=ha.p) (hr:=hr.p)⟩
theorem cg{x1}{g:Z.AF}(h:QA X es g):QE X (.Tuple es x1 pos) (Z.gN g):=⟨ZS.cg (h:=h.p)⟩
theorem aV{g:Z.AF}(h:QA X es g):QL X (.List es pos) (Z.bZ g):=⟨ZS.aV (h:=h.p)⟩
theorem cz{x:Str}{p1:Pos}(hg:Gl X x)(hm:X.mg x=none)(hv:bootBuiltins x=some (.builtin "len"))(ha:QW X a fa)(hn:x ≠ "__name__" := by decide +kernel)(hdb:(x==("__debug__" : Str))=false:=by decide +kernel)(he:starEach (a :: []) X.env=(false,eval a X.env) :: starEach [] X.env:=by rfl)(hpl:(backTo pos (starEach [] X.env)).any (·.1)=false:=by rfl):QE X (.Call (.Name x p1) [a] [] pos) (Z.eU Z.fF fa):=⟨ZS.cz (hg:=hg) (hm:=hm) (hv:=hv) (ha:=ha.p) (hn:=hn) (hdb:=hdb) (he:=he) (hpl:=hpl)⟩
theorem ay(ha:QW X a fa)(hb:QW X b fb)(hs:PlainIx b:=by intro _ _;rfl):QE X (.Subscript a b pos) (Z.eB Z.aY fa fb):=⟨ZS.ay (ha:=ha.p) (hb:=hb.p) (hs:=hs)⟩
theorem dp_no: QP X none Z.pNo:=⟨ZS.dp_no ⟩
theorem iV(h:QW X e f):QP X (some e) (Z.pAt f):=⟨ZS.iV (h:=h.p)⟩
theorem kY{lo hi:Option Expr}{gl gh:Z.PF}{p2:Pos}(ha:QW X a fa)(hl:QP X lo gl)(hh:QP X hi gh):QE X (.Subscript a (.Slice lo hi none p2) pos) (Z.eSl fa gl gh):=⟨ZS.kY (ha:=ha.p) (hl:=hl.p) (hh:=hh.p)⟩
theorem jr{lo hi:Option Expr}{gl gh:Z.PF}{p2:Pos}(ha:QW X a fa)(hl:QP X lo gl)(hh:QP X hi gh):QL X (.Subscript a (.Slice lo hi none p2) pos) (Z.lSl fa gl gh):=⟨ZS.jr (ha:=ha.p) (hl:=hl.p) (hh:=hh.p)⟩
theorem dl_cat(ha:QW X a fa)(hb:QW X b fb):QL X (.BinOp a .Add b pos) (Z.lCat fa fb):=⟨ZS.dl_cat (ha:=ha.p) (hb:=hb.p)⟩
theorem aq{k:Nat}{ps:List Str}{x:Str}{m:List Z.D->Z.Res Z.D}{ar:Z.AF}{p1:Pos}(C:jj X.prog X.w X.K X.mg X.base x k ps m)(hr:fH k X.A)(hg:Gl X x)(ha:QA X (e :: es) ar)(hdb:(x==("__debug__" : Str))=false:=by decide +kernel)(he:starEach (e :: es) X.env=(false,eval e X.env) :: starEach es X.env:=by rfl)(hpl:(backTo pos (starEach es X.env)).any (·.1)=false:=by rfl):QE X (.Call (.Name x p1) (e :: es) [] pos) (Z.aJ m ar):=⟨ZS.aq (C:=C) (hr:=hr) (hg:=hg) (ha:=ha.p) (hdb:=hdb) (he:=he) (hpl:=hpl)⟩
theorem di_j{g:Z.LF}(h:QJ X tg e g):QI X tg e g:=⟨ZS.di_j (h:=h.p)⟩
theorem dG(hg:Gl X "range")(hm:X.mg "range" = none)(ha:QE X a fa)(hs:starEach [a] X.env=[(false,eval a X.env)]:=by rfl)(hs1:starEach (a :: []) X.env=(false,eval a X.env) :: starEach [] X.env:=by rfl):QJ X tg (.Call (.Name "range" p) [a] [] pos) (Z.hU fa):=⟨ZS.dG (hg:=hg) (hm:=hm) (ha:=ha.p) (hs:=hs) (hs1:=hs1)⟩
theorem dj_rng2(hg:Gl X "range")(hm:X.mg "range" = none)(ha:QE X a fa)(hb:QE X b fb)(hs:starEach [a,b] X.env=[(false,eval a X.env),(false,eval b X.env)]:=by rfl)(hs2:starEach [b] X.env=[(false,eval b X.env)]:=by rfl)(h1:starEach (a :: [b]) X.env=(false,eval a X.env) :: starEach [b] X.env:=by rfl)(h2:starEach (b :: []) X.env=(false,eval b X.env) :: starEach [] X.env:=by rfl):QJ X tg (.Call (.Name "range" p) [a,b] [] pos) (Z.iRng2 fa fb):=⟨ZS.dj_rng2 (hg:=hg) (hm:=hm) (ha:=ha.p) (hb:=hb.p) (hs:=hs) (hs2:=hs2) (h1:=h1) (h2:=h2)⟩
theorem c6(ha:QW X a fa):QI X tg a (Z.fv fa):=⟨ZS.c6 (ha:=ha.p)⟩
theorem jT(ha:QE X a fa):QJ X tg a (Z.fv fa):=⟨ZS.jT (ha:=ha.p)⟩
theorem b8: QSs X H0 [] Z.dR:=⟨ZS.b8 ⟩
theorem au(h:QS X H0 st g):QSs X H0 [st] g:=⟨ZS.au (h:=h.p)⟩
theorem ah(h1:QS X H0 st g)(h2:QSs X H0 sts u):QSs X H0 (st :: sts) (Z.aI g u):=⟨ZS.ah (h1:=h1.p) (h2:=h2.p)⟩
theorem aO(h:QE X a fa):QS X H0 (.Return (some a) pos) (Z.bY fa):=⟨ZS.aO (h:=h.p)⟩
theorem e?{c:Expr}{b1 b2:List Stmt}{t:Z.TF}(hc:QT X c t)(h1:QSs X H0 b1 g)(h2:QSs X H0 b2 u):QS X H0 (.If c b1 b2 pos) (Z.sIf t g u):=⟨ZS.e? (hc:=hc.p) (h1:=h1.p) (h2:=h2.p)⟩
theorem aH{i:Nat}{x:Str}{pos':Pos}(hN:X.N.Nodup)(hi:X.N[i]?=some x)(hx:Loc X.env.scope x)(he:QE X a fa)(hs:swapsWith a (some (.Name x pos')) pos.line X.env=pure false:=by rfl)(hf:X.fn x=true∨X.env.scope.names.lookup x=some .local:=by first | exact .inl rfl | exact .inr rfl | assumption):QS X H0 (.Assign [.Name x pos'] a pos) (Z.bg i fa):=⟨ZS.aH (hN:=hN) (hi:=hi) (hx:=hx) (he:=he.p) (hs:=hs) (hf:=hf)⟩
theorem fx{i:Nat}{x:Str}{pos':Pos}{l:Z.LF}(hN:X.N.Nodup)(hi:X.N[i]?=some x)(hx:Loc X.env.scope x)(he:QL X a l)(hs:swapsWith a (some (.Name x pos')) pos.line X.env=pure false:=by rfl)(hf:X.fn x=true∨X.env.scope.names.lookup x=some .local:=by first | exact .inl rfl | exact .inr rfl | assumption):QS X H0 (.Assign [.Name x pos'] a pos) (Z.kh i l):=⟨ZS.fx (hN:=hN) (hi:=hi) (hx:=hx) (he:=he.p) (hs:=hs) (hf:=hf)⟩
theorem aW{i:Nat}{x:Str}(hN:X.N.Nodup)(hi:X.N[i]?=some x)(hx:Loc X.env.scope x)(hf:X.fn x=true∨X.env.scope.names.lookup x=some .local:=by first | exact .inl rfl | exact .inr rfl | assumption):QG X H0 (.Name x pos) (Z.bf i):=⟨ZS.aW (hN:=hN) (hi:=hi) (hx:=hx) (hf:=hf)⟩
theorem cf: QGs X H0 [] []:=⟨ZS.cf ⟩
theorem aB{i:Nat}{is:List Nat}{x:Str}(hN:X.N.Nodup)(hi:X.N[i]?=some x)(hx:Loc X.env.scope x)(h2:QGs X H0 es is)(hs:(assignEach ((.Name x pos) :: es) X.env).map (·.2)=assign (.Name x pos) X.env :: (assignEach es X.env).map (·.2):=by rfl)(hf:X.fn x=true∨X.env.scope.names.lookup x=some .local:=by first | exact .inl rfl | exact .inr rfl | assumption):QGs X H0 (.Name x pos :: es) (i :: is):=⟨ZS.aB (hN:=hN) (hi:=hi) (hx:=hx) (h2:=h2.p) (hs:=hs) (hf:=hf)⟩
theorem eN{x1 n:Nat}{is:List Nat}(hc:X.calm=true)(h:QGs X H0 es is)(hl:is.length=n)(hn:(assignEach es X.env).length=n:=by rfl)(hst:(assignEach es X.env).findIdx? (·.1)=none:=by rfl):QG X H0 (.Tuple es x1 pos) (Z.fG is):=⟨ZS.eN (hc:=hc) (h:=h.p) (hl:=hl) (hn:=hn) (hst:=hst)⟩
theorem ds_get{g:Z.GF}(he:QE X a fa)(hg:QG X H0 tg g)(hs:swapsWithSole [tg] a pos.line X.env=pure false:=by rfl)(hw:swappedStores [tg] a X.env=pure none:=by rfl)(h1:(assignEach [tg] X.env).map (·.2)=[assign tg X.env]:=by rfl):QS X H0 (.Assign [tg] a pos) (Z.sGet fa g):=⟨ZS.ds_get (he:=he.p) (hg:=hg.p) (hs:=hs) (hw:=hw) (h1:=h1)⟩
theorem cG{it:Z.LF}{G:Z.GF}{iter:Expr}{body:List Stmt}(hp:PassesOwn (model X.prog X.w) X.A X.env X.xe)(hc:X.calm=true)(hi:QJ X tg iter it)(hg:QG X H0 tg G)(hb:QSs X H0 body g)(hs:∀x,foldedSetIterable iter X.env x=pure x:=by intro _;rfl):QS X H0 (.For tg iter body [] pos) (Z.gJ it G g):=⟨ZS.cG (hp:=hp) (hc:=hc) (hi:=hi.p) (hg:=hg.p) (hb:=hb.p) (hs:=hs)⟩
theorem iT{i:Nat}(h:QSs X H0 sts g):QSs X H0 sts (Z.sFrz i g):=⟨ZS.iT (h:=h.p)⟩
theorem bW{it:Z.LF}{G:Z.GF}{t:Z.TF}{fe:Z.EF}(hcalm:X.calm=true)(hi:QI X tg iter it)(B:lr X.N N' n is scope X.env.scope)(hG:∀d ρ ρ1,G d ρ=.ok ρ1->ρ1.length=ρ.length∧∀i,n≤i->ρ1[i]?=ρ[i]?)(hg:∀cl C fp s H H0,QG (lC X N' scope cl C fp s H) H0 tg G)(ht:∀cl C fp s H,QTst (lC X N' scope cl C fp s H) ifs t)(he:∀cl C fp s H,QE (lC X N' scope cl C fp s H) elt fe)(hs:∀x,foldedSetIterable iter X.env x=pure x:=by intro _;rfl):QL X (.ListComp elt [⟨tg,iter,ifs,0⟩] scope pos) (Z.bP it n is G t fe):=⟨ZS.bW (hcalm:=hcalm) (hi:=hi.p) (B:=B) (hG:=hG) (hg:=λ y0 y1 y2 y3 y4 y5=>(hg y0 y1 y2 y3 y4 y5).p) (ht:=λ y0 y1 y2 y3 y4=>(ht y0 y1 y2 y3 y4).p) (he:=λ y0 y1 y2 y3 y4=>(he y0 y1 y2 y3 y4).p) (hs:=hs)⟩
theorem iU{H0:Hp}{it:Z.LF}{G:Z.GF}{t:Z.TF}{fe:Z.EF}{i:Nat}{x:Str}{px spos:Pos}(hcalm:X.calm=true)(hN:X.N.Nodup)(hix:X.N[i]?=some x)(hx:Loc X.env.scope x)(hi:QI X tg iter it)(B:lr X.N N' n is scope X.env.scope)(hG:∀d ρ ρ1,G d ρ=.ok ρ1->ρ1.length=ρ.length∧∀i,n≤i->ρ1[i]?=ρ[i]?)(hg:∀cl C fp s H H0,QG (lC X N' scope cl C fp s H) H0 tg G)(ht:∀cl C fp s H,QTst (lC X N' scope cl C fp s H) ifs t)(he:∀cl C fp s H,QE (lC X N' scope cl C fp s H) elt fe)(hsw:swapsWith (.ListComp elt [⟨tg,iter,ifs,0⟩] scope pos) (some (.Name x px)) spos.line X.env=pure true:=by rfl)(hs:∀x,foldedSetIterable iter X.env x=pure x:=by intro _;rfl)(hf:X.fn x=true∨X.env.scope.names.lookup x=some .local:=by first | exact .inl rfl | exact .inr rfl | assumption):QS X H0 (.Assign [.Name x px] (.ListComp elt [⟨tg,iter,ifs,0⟩] scope pos) spos) (Z.bg i (Z.eL (Z.bP it n is G t fe))):=⟨ZS.iU (hcalm:=hcalm) (hN:=hN) (hix:=hix) (hx:=hx) (hi:=hi.p) (B:=B) (hG:=hG) (hg:=λ y0 y1 y2 y3 y4 y5=>(hg y0 y1 y2 y3 y4 y5).p) (ht:=λ y0 y1 y2 y3 y4=>(ht y0 y1 y2 y3 y4).p) (he:=λ y0 y1 y2 y3 y4=>(he y0 y1 y2 y3 y4).p) (hsw:=hsw) (hs:=hs) (hf:=hf)⟩
theorem dP: QTst X [] Z.eK:=⟨ZS.dP ⟩
theorem fg{c:Expr}{t:Z.TF}(h:QT X c t):QTst X [c] t:=⟨ZS.fg (h:=h.p)⟩
theorem de_all{x:Str}{p1:Pos}(hg:Gl X x)(hm:X.mg x=none)(hv:bootBuiltins x=some (.builtin "all"))(ha:QW X a fa)(hc:X.calm=true:=by rfl)(hn:x ≠ "__name__" := by decide +kernel)(hdb:(x==("__debug__" : Str))=false:=by decide +kernel)(he:starEach (a :: []) X.env=(false,eval a X.env) :: starEach [] X.env:=by rfl)(hpl:(backTo pos (starEach [] X.env)).any (·.1)=false:=by rfl):QE X (.Call (.Name x p1) [a] [] pos) (Z.eU Z.oAll fa):=⟨ZS.de_all (hg:=hg) (hm:=hm) (hv:=hv) (ha:=ha.p) (hc:=hc) (hn:=hn) (hdb:=hdb) (he:=he) (hpl:=hpl)⟩
theorem dN{P:Program}{w:World}{K:PySem.W.Frag}{mg:Str->Option Value}{base:Heap}{x:Str}{k:Nat}{st:Stmt}{N ps:List Str}{b:Z.SF}(d:ZS.Def K mg x st ps)(S:aF N ps (aj st))
  (hb:∀ (f:Addr) (bT:Value) (A:Around) (outer:List PySem.Env) (s:Shared) (H:Hp) (E:XK),fH k (A.deeper (envOfC x (aj st) s.heap.objs.size f bT)) ->
   QSs (cxOf CX0 P w K mg base N x (aj st) f bT A outer s H E).nox H (bp st) b):ZS.jj P w K mg base x (k+1) ps (Z.fn ps.length N.length b) :=
 ZS.jj.mk' d S λ f bT A outer s H E hr=>(hb f bT A outer s H E hr).p
theorem fnQ{P:Program}{w:World}{K:PySem.W.Frag}{mg:Str->Option Value}{base:Heap}{x qual:Str}{st:Stmt}{f:Addr}{fd:FuncData}{N ps:List Str}{k:Nat}{b:Z.SF}(F:Fun K x qual st f fd)(S:aF N ps (aj st))
  (hb:∀ (bT:Value) (A:Around) (outer:List PySem.Env) (s:Shared) (H:Hp) (E:XK),fH k (A.deeper (envOfC qual (aj st) s.heap.objs.size f bT)) ->
   QSs (cxOf CX0 P w K mg base N qual (aj st) f bT A outer s H E).nox H (bp st) b):k_ P w K mg base CX0 (k+1) f fd ps (ZS.spZ K (Z.fn ps.length N.length b)) :=
 ZS.fnZ F S λ bT A outer s H E hr=>(hb bT A outer s H E hr).p
end
end ZQ
noncomputable section
namespace Z
def cR:D->Res D
 | .lst xs=>.ok (.tup xs)
 | .tup xs=>.ok (.tup xs)
 | _=>.bad
@[simp] theorem oTuple_lst(xs:List D):cR (.lst xs)=.ok (.tup xs):=rfl
@[simp] theorem oTuple_tup(xs:List D):cR (.tup xs)=.ok (.tup xs):=rfl
def oInRng:D->D->Res D
 | .int i,.int j=>.ok (.bl (decide (0≤i∧i < j)))
 | _,_=>.bad
@[simp] theorem oInRng_int(i j:Int):oInRng (.int i) (.int j)=.ok (.bl (decide (0≤i∧i < j))):=rfl
def oNotInRng:D->D->Res D
 | .int i,.int j=>.ok (.bl (!decide (0≤i∧i < j)))
 | _,_=>.bad
@[simp] theorem oNotInRng_int(i j:Int):oNotInRng (.int i) (.int j)=.ok (.bl (!decide (0≤i∧i < j))):=rfl
def bO:List Nat:=[97,98,99,100,101,102,103,104,105,106,107,108,109,110,111,112,113,114,115,116,117,118,119,120,121,122]
def signs:List Nat:=[46,61,35,97,98,99,100,101,102,103,104,105,106,107,108,109,110,111,112,113,114,115,116,117,118,119,120,121,122]
def oMax:D->D->Res D
 | .int i,.int j=>.ok (.int (max i j))
 | _,_=>.bad
@[simp] theorem oMax_int(i j:Int):oMax (.int i) (.int j)=.ok (.int (max i j)):=rfl
def oMin:D->D->Res D
 | .int i,.int j=>.ok (.int (min i j))
 | _,_=>.bad
@[simp] theorem oMin_int(i j:Int):oMin (.int i) (.int j)=.ok (.int (min i j)):=rfl
def oInt:D->Res D
 | .int i=>.ok (.int i)
 | .bl b=>.ok (.int (if b then 1 else 0))
 | _=>.bad
@[simp] theorem oInt_int(i:Int):oInt (.int i)=.ok (.int i):=rfl
@[simp] theorem oInt_bl(b:Bool):oInt (.bl b)=.ok (.int (if b then 1 else 0)):=rfl
def lOf(a:EF)(ρ:Env):Res (List D):=(a ρ).bind λ x=>match x with
 | .lst xs=>.ok xs
 | .tup xs=>.ok xs
 | _=>.bad
def listK:D->Res (List D)
 | .lst xs=>.ok xs
 | .tup xs=>.ok xs
 | _=>.bad
@[simp] theorem lOf_a(a:EF)(ρ:Env):lOf a ρ=(a ρ).bind listK:=rfl
@[simp] theorem listK_lst(xs:List D):listK (.lst xs)=.ok xs:=rfl
@[simp] theorem listK_tup(xs:List D):listK (.tup xs)=.ok xs:=rfl
def cntEq(x:D):List D->Option Nat
 | []=>some 0
 | y :: r=>match km y x,cntEq x r with
  | some a,some b=>some (b+(if a then 1 else 0))
  | _,_=>none
def oCount:D->D->Res D
 | .lst ys,x=>match cntEq x ys with
  | some n=>.ok (.int n)
  | none=>.bad
 | _,_=>.bad
def sExt(i:Nat)(l:LF)(ρ:Env):Res Fl:=(l ρ).bind λ ys=>match ρ[i]? with
 | some (some (.own xs))=>guard (xs.length+ys.length≤line) (.ok (.nx (ρ.set i (some (.own (xs++ys))))))
 | _=>.bad
def pair(a b:D):D:=.tup [a,b]
def dF(k:Nat):List D->List D
 | []=>[]
 | d :: ds=>pair (.int k) d :: dF (k+1) ds
def gR:List D->List D->List D
 | a :: as,b :: bs=>pair a b :: gR as bs
 | _,_=>[]
def iEnum(a:EF)(ρ:Env):Res (List D):=(a ρ).bind λ x=>(kT x).bind λ ds=>.ok (dF 0 ds)
@[simp] theorem iEnum_a(a:EF)(ρ:Env):iEnum a ρ=(a ρ).bind λ x=>(kT x).bind λ ds=>.ok (dF 0 ds):=rfl
def seqD:D->Res (List D)
 | .tup xs=>.ok xs
 | .lst xs=>.ok xs
 | _=>.bad
@[simp] theorem seqD_tup(xs:List D):seqD (.tup xs)=.ok xs:=rfl
@[simp] theorem seqD_lst(xs:List D):seqD (.lst xs)=.ok xs:=rfl
def tupD:D->Res (List D)
 | .tup xs=>.ok xs
 | _=>.bad
@[simp] theorem tupD_tup(xs:List D):tupD (.tup xs)=.ok xs:=rfl
def iZip(a b:EF)(ρ:Env):Res (List D):=(a ρ).bind λ x=>(b ρ).bind λ y=>(seqD x).bind λ xs=>(tupD y).bind λ ys=>.ok (gR xs ys)
@[simp] theorem iZip_a(a b:EF)(ρ:Env):iZip a b ρ=(a ρ).bind λ x=>(b ρ).bind λ y=>(seqD x).bind λ xs=>(tupD y).bind λ ys=>.ok (gR xs ys):=rfl
end Z
end
namespace ZS
open PySem PySem.Spec PyProof.Rows L2
section
variable {X:Cx}{e a b:Expr}{es:List Expr}{pos p:Pos}{f fa fb:Z.EF}
theorem bQ{x:Str}{p1:Pos}(hg:Gl X x)(hm:X.mg x=none)(hv:bootBuiltins x=some (.type "tuple"))(ha:DW X a fa)(hn:x ≠ "__name__" := by decide +kernel)(hdb:(x==("__debug__" : Str))=false:=by decide +kernel)
  (he:starEach (a :: []) X.env=(false,eval a X.env) :: starEach [] X.env:=by rfl) (hpl:(backTo pos (starEach [] X.env)).any (·.1)=false:=by rfl):DE X (.Call (.Name x p1) [a] [] pos) (Z.eU Z.cR fa) :=
 PE.imp (pe_callTy call_tuple_of hg hm hv (a! ha cQ he) hn hdb he hpl) λ σ H Q ⟨ρ,d,r,e,k⟩=>by
  obtain⟨x,ea,e⟩:=Z.Res.ao e;refine⟨ρ,x,r,ea,λ v H1 s1 d1=>?_⟩;unfold Z.cR at e;split at e
  ·cases e;obtain⟨q,vs,rfl,hq,t⟩:=d1.lst;refine⟨q,vs,rfl,.inl ⟨hq,λ l hl=>?_⟩⟩;have s2:aD H1 (upd H1 l (.tup vs)):=bG hl;exact k _ _ (s1.trans s2) (fT (.inl (.inl aX)) (t.up s2))
  ·cases e;obtain⟨q,vs,rfl,hq,t⟩:=d1.tup;exact⟨q,vs,rfl,.inr ⟨hq,k _ H1 s1 (fT hq t)⟩⟩
  ·cases e
end
end ZS
namespace ZQ
open PySem PySem.Spec PyProof.Rows L2 ZS
section
variable {X:Cx}{tg e a b c:Expr}{es:List Expr}{pos p:Pos}{f fa fb fc:Z.EF}{H0:Hp}
theorem bQ{x:Str}{p1:Pos}(hg:Gl X x)(hm:X.mg x=none)(hv:bootBuiltins x=some (.type "tuple"))(ha:QW X a fa)(hn:x ≠ "__name__" := by decide +kernel)(hdb:(x==("__debug__" : Str))=false:=by decide +kernel)(he:starEach (a :: []) X.env=(false,eval a X.env) :: starEach [] X.env:=by rfl)(hpl:(backTo pos (starEach [] X.env)).any (·.1)=false:=by rfl):QE X (.Call (.Name x p1) [a] [] pos) (Z.eU Z.cR fa):=⟨ZS.bQ (hg:=hg) (hm:=hm) (hv:=hv) (ha:=ha.p) (hn:=hn) (hdb:=hdb) (he:=he) (hpl:=hpl)⟩
theorem jb{i:Nat}{o:Expr}{p1 p2:Pos}(ho:PE X o (lD i))(ha:QE X a fa)(hs:swapsWith (.Call (.Attribute o "append" p1) [a] [] p2) none pos.line X.env=pure false:=by rfl)(hs1:starEach (a :: []) X.env=(false,eval a X.env) :: starEach [] X.env:=by rfl)
  (hbase:attributeBase o "append" X.env (eval o X.env)=eval o X.env:=by rfl)
  (hfew:((backTo p2 (starEach (a :: []) X.env)).all (λ x=>!x.1)&&(backToKw p2 (keywordEach [] X.env)).all (λ x=>x.1.isSome)
   && decide ((a :: []).length+([]:List Keyword).length+(if([]:List Keyword).isEmpty then 0 else 1) < 30))=true:=by rfl)
  (hline:(p1.endLine==p2.line)=true:=by rfl) (hplain:(backTo p2 (starEach [] X.env)).any (·.1)=false:=by rfl) :
  QS X H0 (.Expr (.Call (.Attribute o "append" p1) [a] [] p2) pos) (Z.de i fa) :=
 ⟨ZS.ds_append ho ha.p hs hs1 (pe_bm PySem.F.plainAttrs_list PySem.F.slot_list_append PySem.F.type_list_append mt_append ho (a! ha.p cQ hs1) hbase hfew hline hs1 hplain)⟩
end
end ZQ
namespace ZS
open PySem PySem.Spec PyProof.Rows L2
section
variable {X:Cx}{e a b:Expr}{es:List Expr}{pos p:Pos}{f fa fb:Z.EF}
theorem max_if(i j:Int):(if j > i then j else i)=max i j:=by split<;>lia
theorem min_if(i j:Int):(if j < i then j else i)=min i j:=by split<;>lia
theorem de_max2{x:Str}{p1:Pos}(hg:Gl X x)(hm:X.mg x=none)(hv:bootBuiltins x=some (.builtin "max"))(ha:DW X a fa)(hb:DW X b fb)(hc:X.calm=true:=by rfl)(hn:x ≠ "__name__" := by decide +kernel)(hdb:(x==("__debug__" : Str))=false:=by decide +kernel)
  (he:starEach (a :: [b]) X.env=(false,eval a X.env) :: starEach [b] X.env:=by rfl) (he2:starEach (b :: []) X.env=(false,eval b X.env) :: starEach [] X.env:=by rfl) (hpl:(backTo pos (starEach [b] X.env)).any (·.1)=false:=by rfl):DE X (.Call (.Name x p1) [a,b] [] pos) (Z.eB Z.oMax fa fb) :=
 PE.imp (jn (call_max2 hc) hg hm hv (a! ha (a! hb cQ he2) he) hn hdb he hpl) λ σ H Q ⟨ρ,d,r,e,k⟩=>by
  obtain⟨x,ea,e⟩:=Z.Res.ao e;obtain⟨y,eb,e⟩:=Z.Res.ao e;refine⟨ρ,x,r,ea,λ v H1 s1 d1=>⟨ρ,y,r.up s1,eb,λ u H2 s2 d2=>?_⟩⟩;obtain⟨i,j,rfl,rfl,rfl⟩:∃i j,x=.int i∧y=.int j∧d=.int (max i j):=by
   unfold Z.oMax at e;split at e
   ·cases e;exact⟨_,_,rfl,rfl,rfl⟩
   ·cases e
  refine⟨i,j,by rw[d1.int,d2.int],?_⟩;rw[max_if];exact k _ H2 (s1.trans s2) cV
theorem de_min2{x:Str}{p1:Pos}(hg:Gl X x)(hm:X.mg x=none)(hv:bootBuiltins x=some (.builtin "min"))(ha:DW X a fa)(hb:DW X b fb)(hc:X.calm=true:=by rfl)(hn:x ≠ "__name__" := by decide +kernel)(hdb:(x==("__debug__" : Str))=false:=by decide +kernel)
  (he:starEach (a :: [b]) X.env=(false,eval a X.env) :: starEach [b] X.env:=by rfl) (he2:starEach (b :: []) X.env=(false,eval b X.env) :: starEach [] X.env:=by rfl) (hpl:(backTo pos (starEach [b] X.env)).any (·.1)=false:=by rfl):DE X (.Call (.Name x p1) [a,b] [] pos) (Z.eB Z.oMin fa fb) :=
 PE.imp (jn (call_min2 hc) hg hm hv (a! ha (a! hb cQ he2) he) hn hdb he hpl) λ σ H Q ⟨ρ,d,r,e,k⟩=>by
  obtain⟨x,ea,e⟩:=Z.Res.ao e;obtain⟨y,eb,e⟩:=Z.Res.ao e;refine⟨ρ,x,r,ea,λ v H1 s1 d1=>⟨ρ,y,r.up s1,eb,λ u H2 s2 d2=>?_⟩⟩;obtain⟨i,j,rfl,rfl,rfl⟩:∃i j,x=.int i∧y=.int j∧d=.int (min i j):=by
   unfold Z.oMin at e;split at e
   ·cases e;exact⟨_,_,rfl,rfl,rfl⟩
   ·cases e
  refine⟨i,j,by rw[d1.int,d2.int],?_⟩;rw[min_if];exact k _ H2 (s1.trans s2) cV
theorem nO{x:Str}{p1:Pos}(hg:Gl X x)(hm:X.mg x=none)(hv:bootBuiltins x=some (.type "int"))(ha:DW X a fa)(hn:x ≠ "__name__" := by decide +kernel)(hdb:(x==("__debug__" : Str))=false:=by decide +kernel)
  (he:starEach (a :: []) X.env=(false,eval a X.env) :: starEach [] X.env:=by rfl) (hpl:(backTo pos (starEach [] X.env)).any (·.1)=false:=by rfl):DE X (.Call (.Name x p1) [a] [] pos) (Z.eU Z.oInt fa) :=
 PE.imp (pe_callTy call_int1 hg hm hv (a! ha cQ he) hn hdb he hpl) λ σ H Q ⟨ρ,d,r,e,k⟩=>by
  obtain⟨x,ea,e⟩:=Z.Res.ao e;refine⟨ρ,x,r,ea,λ v H1 s1 d1=>?_⟩;unfold Z.oInt at e;split at e
  ·cases e;exact .inl ⟨_,by rw[d1.int],k _ H1 s1 cV⟩
  ·cases e;exact .inr ⟨_,by rw[d1.bl],k _ H1 s1 cV⟩
  ·cases e
theorem dl_list{x:Str}{p1:Pos}(hg:Gl X x)(hm:X.mg x=none)(hv:bootBuiltins x=some (.type "list"))(ha:DW X a fa)(hn:x ≠ "__name__" := by decide +kernel)(hdb:(x==("__debug__" : Str))=false:=by decide +kernel)
  (he:starEach (a :: []) X.env=(false,eval a X.env) :: starEach [] X.env:=by rfl) (hpl:(backTo pos (starEach [] X.env)).any (·.1)=false:=by rfl):DL X (.Call (.Name x p1) [a] [] pos) (Z.lOf fa) :=
 PE.imp (pe_callTy call_list_of hg hm hv (a! ha cQ he) hn hdb he hpl) λ σ H Q ⟨ρ,d,r,e,k⟩=>by
  obtain⟨x,ea,e⟩:=Z.Res.ao e;refine⟨ρ,x,r,ea,λ v H1 s1 d1=>?_⟩;split at e
  ·cases e;obtain⟨q,vs,rfl,hq,t⟩:=d1.lst;refine⟨q,vs,rfl,.inl hq,λ l hl=>?_⟩;have s2:aD H1 (upd H1 l (.lst vs)):=bG hl;exact k l _ _ (s1.trans s2) (s1.free hl) aX (t.up s2)
  ·cases e;obtain⟨q,vs,rfl,hq,t⟩:=d1.tup;refine⟨q,vs,rfl,.inr hq,λ l hl=>?_⟩;have s2:aD H1 (upd H1 l (.lst vs)):=bG hl;exact k l _ _ (s1.trans s2) (s1.free hl) aX (t.up s2)
  ·cases e
theorem ds_extend{i:Nat}{o:Expr}{p1 p2:Pos}{l:Z.LF}{H0:Hp}(hs:swapsWith (.Call (.Attribute o "extend" p1) [a] [] p2) none pos.line X.env=pure false:=by rfl)
  (hbm:PE X (.Call (.Attribute o "extend" p1) [a] [] p2) (tBM X.K "list" rExtend (lD i) (tCons (tZl X.K l) tNil))) :
  DS X H0 (.Expr (.Call (.Attribute o "extend" p1) [a] [] p2) pos) (Z.sExt i l):=PS.imp (ps_expr hbm hs) λ D σ H ⟨ρ,fl,rs,e,k⟩=>by
 obtain⟨ys,ea,e⟩:=Z.Res.ao e;split at e
 ·rename_i xs ei;unfold Z.guard at e;split at e
  ·rename_i hl;cases e;obtain⟨v,si,q,us,rfl,hq,t⟩:=rs.re.get i _ ei;refine⟨.ref q,si,.inl ⟨rfl,us,i6.of hq⟩,ρ,ys,rs.re,ea,λ c vs H1 s1 hn hc tc=>?_⟩;have hq1:H1 q=some (.lst us):=s1 _ _ hq;refine⟨q,c,us,vs,rfl,rfl,hq1,hc,by rw[t.length,tc.length,sizeLine_eq];exact hl,?_⟩;exact k σ _ ((stb s1).trans (iL hq1)) ((rs.up s1).chg ei si hq1 ((t.up s1).append tc))
  ·cases e
 ·cases e
theorem cntEq_at{x:Z.D}:∀{ys:List Z.D}{k:Nat},Z.cntEq x ys=some k->k=ys.countP (λ y=>(Z.km y x).getD false)∧∀y∈ys,Z.km y x=some ((Z.km y x).getD false)
 | [],k,h=>by cases h;exact⟨rfl,λ y hy=>by cases hy⟩
 | y :: ys,k,h=>by
  unfold Z.cntEq at h;split at h
  ·rename_i a b ea eb;cases h;obtain⟨h1,h2⟩:=cntEq_at eb;refine⟨by rw[List.countP_cons,ea,h1];rfl,λ z hz=>?_⟩;rcases List.mem_cons.mp hz with rfl | hz
   ·rw[ea];rfl
   ·exact h2 z hz
  ·cases h
theorem cnt_fun{pins:List (Addr×Obj)}{σ:St}{H:Hp}{s:Shared}(I:Inv X pins σ H s){A:Around}(hu:A.units+60 < cLine){x:Z.D}{v:V}{u:Value}(hx:aZ X.K H x v)(rx:RelV v u){ys:List Z.D}{vs:List V}{us:List Value}(t:ax X.K H ys vs)(r:Vals vs us)(hh:∀y∈ys,Z.km y x=some ((Z.km y x).getD false)):
  ∃e:Value->Bool,(∀w∈us,SeqAt.EqAt A s w u (e w))∧us.countP e=ys.countP (λ y=>(Z.km y x).getD false):=by
 classical
 let e:Value->Bool:=λ w=>if h:∃y vy,Den X.K H y vy∧RelV vy w∧y∈ys then(Z.km h.choose x).getD false else false
 have he:∀w y vy,Den X.K H y vy->RelV vy w->y∈ys->e w=(Z.km y x).getD false:=by
  intro w y vy dy ry hy;have hex:∃y vy,Den X.K H y vy∧RelV vy w∧y∈ys:=⟨y,vy,dy,ry,hy⟩
  show(if h:_ then _ else _)=_;rw[dif_pos hex];obtain⟨vy',dy',ry',hy'⟩:=hex.choose_spec;have ev:vy'=vy:=ry'.inj ry;subst ev;rw[Den.inj I _ _ _ dy' dy]
 have cnt:∀{zs:List Z.D}{vs:List V}{us:List Value},ax X.K H zs vs->Vals vs us->(∀z∈zs,z∈ys)->us.countP e=zs.countP (λ y=>(Z.km y x).getD false):=by
  intro zs
  induction zs with
  | nil=>intro vs us t r _;simp only[ax]at t;subst t;cases r;rfl
  | cons z zs ih =>
   intro vs us t r hm;simp only[ax]at t;obtain⟨vy,vr,rfl,dy,tr⟩:=t;cases r with
   | cons ry rr=>rw[List.countP_cons,List.countP_cons,ih tr rr (λ w hw=>hm w (List.mem_cons_of_mem _ hw)),he _ z vy dy ry (hm z List.mem_cons_self)]
 refine⟨e,λ w hw=>?_,cnt t r λ _ h=>h⟩;obtain⟨j,hj,ej⟩:=List.getElem_of_mem hw;have hl:=r.length;have ht:=t.length;obtain⟨y,ey⟩:∃y,ys[j]?=some y:=⟨ys[j]'(by lia),List.getElem?_eq_getElem (by lia)⟩
 obtain⟨vy,evy,dy⟩:=t.get ey;obtain⟨u',eu',ru'⟩:=r.get evy;have:u'=w:=by have:=List.getElem?_eq_getElem hj;rw[eu',ej]at this;exact Option.some.inj this
 subst this;have hy:y∈ys:=List.mem_of_getElem? ey;rw[he _ y vy dy ru' hy];exact(rcN I 6 (A:=A) (by lia) (hh y hy) (.inl dy) hx ru' rx).2.1
def rCount(K:PySem.W.Frag):V->List V->Hp->VK->Prop:=λ x vs H Q=>∃d ys q us v k,x=.ref q∧vs=[v]∧i6 K H q us∧ax K H ys us∧aZ K H d v∧Z.cntEq d ys=some k∧Q (.int k) H
theorem mt_count(hu:X.A.units+64 < cLine):MtR X "list.count" (rCount X.K):=by intro pins s σ H x vs v us Q I rx rv h;obtain⟨d,ys,q,us',v',k,rfl,rfl,hq,t,hd,e,k'⟩:=h;cases rx;obtain⟨u,rfl,ru⟩:=rv.one;obtain⟨e1,e2⟩:=cntEq_at e;subst e1;obtain⟨aM,r,pl,hz⟩:=I.list hq;obtain⟨f,hf,hfa⟩:=cnt_fun I (A:=X.A.in1) (show X.A.units+1+60 < cLine by lia) hd ru t r e2;obtain⟨⟨cls,dd,data,sl⟩,ho,hc,n,hd'⟩:=id pl.isList;simp only at hc hd';subst hc hd';refine call_meets F.slot_list_count ⟨_,ho,rfl⟩ F.entry_list_count (F.args_list_count_2 _ _) (SeqAt.list_countAt q aM.toArray n dd sl u f) ⟨ho,λ w hw=>hf w (by simpa using hw),?_⟩;refine⟨.int _,H,I.tok _,⟨_,rfl⟩,?_⟩;show Q (.int ((aM.countP f:Nat):Int)) H;rw[hfa];exact k'
theorem de_count{o : Expr}{p1 p2 : Pos}(hu : X.A.units + 64 < cLine)(ho : DW X o fa)(hb : DW X b fb)
  (hbase:attributeBase o "count" X.env (eval o X.env)=eval o X.env:=by rfl)
  (hfew:((backTo p2 (starEach (b :: []) X.env)).all (λ x=>!x.1)&&(backToKw p2 (keywordEach [] X.env)).all (λ x=>x.1.isSome)
   && decide ((b :: []).length+([]:List Keyword).length+(if([]:List Keyword).isEmpty then 0 else 1) < 30))=true:=by rfl)
  (hline:(p1.endLine==p2.line)=true:=by rfl) (hs1:starEach (b :: []) X.env=(false,eval b X.env) :: starEach [] X.env:=by rfl) (hplain:(backTo p2 (starEach [] X.env)).any (·.1)=false:=by rfl) :
  DE X (.Call (.Attribute o "count" p1) [b] [] p2) (Z.eB Z.oCount fa fb) :=
 PE.imp (pe_bm PySem.F.plainAttrs_list PySem.F.slot_list_count PySem.F.type_list_count (mt_count hu) ho (a! hb cQ hs1) hbase hfew hline hs1 hplain) λ σ H Q ⟨ρ,d,r,e,k⟩=>by
  obtain⟨x,ea,e⟩:=Z.Res.ao e;obtain⟨y,eb,e⟩:=Z.Res.ao e;refine⟨ρ,x,r,ea,λ v H1 s1 d1=>?_⟩;unfold Z.oCount at e;split at e
  ·rename_i ys _;split at e
   ·rename_i n hn;cases e;obtain⟨q,vs,rfl,hq,t⟩:=d1.lst;refine⟨.inl ⟨rfl,vs,hq⟩,ρ,y,r.up s1,eb,λ u H2 s2 d2=>?_⟩;exact⟨y,ys,q,vs,u,n,rfl,rfl,s2.seq hq,t.up s2,d2,hn,k _ H2 (s1.trans s2) cV⟩
   ·cases e
  ·cases e
end
end ZS
namespace ZQ
open PySem PySem.Spec PyProof.Rows L2 ZS
section
variable {X:Cx}{tg e a b c:Expr}{es:List Expr}{pos p:Pos}{f fa fb fc:Z.EF}{H0:Hp}
theorem de_max2{x:Str}{p1:Pos}(hg:Gl X x)(hm:X.mg x=none)(hv:bootBuiltins x=some (.builtin "max"))(ha:QW X a fa)(hb:QW X b fb)(hc:X.calm=true:=by rfl)(hn:x ≠ "__name__" := by decide +kernel)(hdb:(x==("__debug__" : Str))=false:=by decide +kernel)(he:starEach (a :: [b]) X.env=(false,eval a X.env) :: starEach [b] X.env:=by rfl)(he2:starEach (b :: []) X.env=(false,eval b X.env) :: starEach [] X.env:=by rfl)(hpl:(backTo pos (starEach [b] X.env)).any (·.1)=false:=by rfl):QE X (.Call (.Name x p1) [a,b] [] pos) (Z.eB Z.oMax fa fb):=⟨ZS.de_max2 (hg:=hg) (hm:=hm) (hv:=hv) (ha:=ha.p) (hb:=hb.p) (hc:=hc) (hn:=hn) (hdb:=hdb) (he:=he) (he2:=he2) (hpl:=hpl)⟩
theorem de_min2{x:Str}{p1:Pos}(hg:Gl X x)(hm:X.mg x=none)(hv:bootBuiltins x=some (.builtin "min"))(ha:QW X a fa)(hb:QW X b fb)(hc:X.calm=true:=by rfl)(hn:x ≠ "__name__" := by decide +kernel)(hdb:(x==("__debug__" : Str))=false:=by decide +kernel)(he:starEach (a :: [b]) X.env=(false,eval a X.env) :: starEach [b] X.env:=by rfl)(he2:starEach (b :: []) X.env=(false,eval b X.env) :: starEach [] X.env:=by rfl)(hpl:(backTo pos (starEach [b] X.env)).any (·.1)=false:=by rfl):QE X (.Call (.Name x p1) [a,b] [] pos) (Z.eB Z.oMin fa fb):=⟨ZS.de_min2 (hg:=hg) (hm:=hm) (hv:=hv) (ha:=ha.p) (hb:=hb.p) (hc:=hc) (hn:=hn) (hdb:=hdb) (he:=he) (he2:=he2) (hpl:=hpl)⟩
theorem nO{x:Str}{p1:Pos}(hg:Gl X x)(hm:X.mg x=none)(hv:bootBuiltins x=some (.type "int"))(ha:QW X a fa)(hn:x ≠ "__name__" := by decide +kernel)(hdb:(x==("__debug__" : Str))=false:=by decide +kernel)(he:starEach (a :: []) X.env=(false,eval a X.env) :: starEach [] X.env:=by rfl)(hpl:(backTo pos (starEach [] X.env)).any (·.1)=false:=by rfl):QE X (.Call (.Name x p1) [a] [] pos) (Z.eU Z.oInt fa):=⟨ZS.nO (hg:=hg) (hm:=hm) (hv:=hv) (ha:=ha.p) (hn:=hn) (hdb:=hdb) (he:=he) (hpl:=hpl)⟩
theorem dl_list{x:Str}{p1:Pos}(hg:Gl X x)(hm:X.mg x=none)(hv:bootBuiltins x=some (.type "list"))(ha:QW X a fa)(hn:x ≠ "__name__" := by decide +kernel)(hdb:(x==("__debug__" : Str))=false:=by decide +kernel)(he:starEach (a :: []) X.env=(false,eval a X.env) :: starEach [] X.env:=by rfl)(hpl:(backTo pos (starEach [] X.env)).any (·.1)=false:=by rfl):QL X (.Call (.Name x p1) [a] [] pos) (Z.lOf fa):=⟨ZS.dl_list (hg:=hg) (hm:=hm) (hv:=hv) (ha:=ha.p) (hn:=hn) (hdb:=hdb) (he:=he) (hpl:=hpl)⟩
theorem de_count{o:Expr}{p1 p2:Pos}(hu:X.A.units+64 < cLine)(ho:QW X o fa)(hb:QW X b fb)(hbase:attributeBase o "count" X.env (eval o X.env)=eval o X.env:=by rfl)(hfew:((backTo p2 (starEach (b :: []) X.env)).all (λ x=>!x.1)&&(backToKw p2 (keywordEach [] X.env)).all (λ x=>x.1.isSome)
   && decide ((b :: []).length+([]:List Keyword).length+(if([]:List Keyword).isEmpty then 0 else 1) < 30))=true:=by rfl) (hline:(p1.endLine==p2.line)=true:=by rfl) (hs1:starEach (b :: []) X.env=(false,eval b X.env) :: starEach [] X.env:=by rfl) (hplain:(backTo p2 (starEach [] X.env)).any (·.1)=false:=by rfl):QE X (.Call (.Attribute o "count" p1) [b] [] p2) (Z.eB Z.oCount fa fb):=⟨ZS.de_count (hu:=hu) (ho:=ho.p) (hb:=hb.p) (hbase:=hbase) (hfew:=hfew) (hline:=hline) (hs1:=hs1) (hplain:=hplain)⟩
theorem ds_ext{i:Nat}{o:Expr}{p1 p2:Pos}{l:Z.LF}(ho:PE X o (lD i))(ha:QL X a l)(hs:swapsWith (.Call (.Attribute o "extend" p1) [a] [] p2) none pos.line X.env=pure false:=by rfl)(hs1:starEach (a :: []) X.env=(false,eval a X.env) :: starEach [] X.env:=by rfl)
  (hbase:attributeBase o "extend" X.env (eval o X.env)=eval o X.env:=by rfl)
  (hfew:((backTo p2 (starEach (a :: []) X.env)).all (λ x=>!x.1)&&(backToKw p2 (keywordEach [] X.env)).all (λ x=>x.1.isSome)
   && decide ((a :: []).length+([]:List Keyword).length+(if([]:List Keyword).isEmpty then 0 else 1) < 30))=true:=by rfl)
  (hline:(p1.endLine==p2.line)=true:=by rfl) (hplain:(backTo p2 (starEach [] X.env)).any (·.1)=false:=by rfl) :
  QS X H0 (.Expr (.Call (.Attribute o "extend" p1) [a] [] p2) pos) (Z.sExt i l) :=
 ⟨ZS.ds_extend hs (pe_bm PySem.F.plainAttrs_list PySem.F.slot_list_extend PySem.F.type_list_extend mt_extend ho (a! ha.p cQ hs1) hbase hfew hline hs1 hplain)⟩
end
end ZQ
namespace ZS
open PySem PySem.Spec PyProof.Rows L2 PySem.W
theorem weight_ints{i:Int}:∀{ns:List Int},i∈ns->WData.weight (.int i)≤WData.weightAll (ns.map WData.int)
 | [],h=>by cases h
 | n :: ns,h=>by
  rcases List.mem_cons.mp h with rfl | h
  ·simp only[List.map_cons,WData.weightAll];lia
  ·have:=weight_ints h;simp only[List.map_cons,WData.weightAll];lia
theorem bits_script{ns:List Int}(h:WData.layableAll [WData.list (ns.map WData.int)]=true):∀i∈ns,Z.bits i≤2 ^ 20:=by
 intro i hi;have h1:WData.layable (.list (ns.map WData.int))=true:=List.all_eq_true.mp h _ List.mem_cons_self;unfold WData.layable at h1;rw[Bool.and_eq_true]at h1;have h2:WData.weight (.list (ns.map WData.int))≤2 ^ 20:=of_decide_eq_true h1.2;have h3:WData.weight (.list (ns.map WData.int))=WData.weightAll (ns.map WData.int):=by simp only[WData.weight]
 have h4:=weight_ints hi;have h5:WData.weight (.int i)=Z.bits i:=by
  simp only[WData.weight];unfold Z.bits;by_cases hz:i=0
  ·subst hz;rfl
  ·rw[if_neg hz,if_neg (by simpa using hz)]
 lia
def LamOk(q:Program)(K:Frag):Prop:=noTabs K=true∧(∀x∈dm,∀c P,tabIn K x=some (c,P)->∃d,(recsOf q).find? (λ e=>e.name==x)=some d) ∧
 ∀x y c P c',x∈dm->y∈dm->tabIn K x=some (c,P)->tabIn K y=some (c',P)->x=y
theorem tab_none{K:Frag}{x:Str}(h:nsIn K mainGlobals x=some none):tabIn K x=none:=by unfold tabIn;rw[h]
theorem tab_some{K:Frag}{x:Str}{f c p:Addr}{o1 o2:Value}{d1 d2:Option Addr}{s1 s2:Array (Option Value)}{fd:FuncData}{vs:Array Value}(h:nsIn K mainGlobals x=some (some (.ref f)))(h2:K.lookup f=some ⟨o1,d1,.func fd,s1⟩)(h3:fd.code=.ref c)
  (h4:K.lookup c=some ⟨o2,d2,.fields vs,s2⟩) (h5:vs[11]?=some (.ref p)):tabIn K x=some (c,p):=by
 unfold tabIn;rw[h];dsimp only;rw[h2];dsimp only;rw[h3];dsimp only;rw[h4];dsimp only;rw[h5]
theorem fO{p:Str->Prop}(h1:p "best_among")(h2:p "paper_beside"):∀x∈dm,p x:=by
 intro x hx;unfold dm at hx;rcases List.mem_cons.mp hx with rfl | hx
 ·exact h1
 ·rw[List.mem_singleton.mp hx];exact h2
theorem lam_ok{q:Program}{K:Frag}{r1 r2:Option (Addr×Addr)}(n:noTabs K=true)(h1:tabIn K "best_among" = r1)(h2:tabIn K "paper_beside" = r2)(g1:r1=none∨((recsOf q).find? (λ e=>e.name==Str.ofString "best_among")).isSome=true)(g2:r2=none∨((recsOf q).find? (λ e=>e.name==Str.ofString "paper_beside")).isSome=true)
  (ne:∀c P c' P',r1=some (c,P)->r2=some (c',P')->P≠P'):LamOk q K:=by
 refine⟨n,fO (λ c P e=>?_) (λ c P e=>?_),λ x y c P c' hx hy=>?_⟩
 ·rcases g1 with z | z
  ·rw[h1,z]at e;cases e
  ·exact Option.isSome_iff_exists.mp z
 ·rcases g2 with z | z
  ·rw[h2,z]at e;cases e
  ·exact Option.isSome_iff_exists.mp z
 ·refine fO (p:=λ x=>tabIn K x=some (c,P)->tabIn K y=some (c',P)->x=y) (λ e1=>?_) (λ e1=>?_) x hx
  ·refine fO (p:=λ y=>tabIn K y=some (c',P) -> "best_among" = y) (λ _=>rfl) (λ e2=>?_) y hy;exact absurd rfl (ne c P c' P (h1.symm.trans e1) (h2.symm.trans e2))
  ·refine fO (p:=λ y=>tabIn K y=some (c',P) -> "paper_beside" = y) (λ e2=>?_) (λ _=>rfl) y hy;exact absurd rfl (ne c' P c P (h1.symm.trans e2) (h2.symm.trans e1))
theorem walk_B{l : OpenLaw}{n k : Nat}{q : Program}{loose : List Str}{XP : (Str -> Option Value) -> Heap -> Prop}{YP : World -> Heap -> Prop}{d : DefRec}{K : Params -> Frag}{m : List Z.D -> Z.Res Z.D}{x : Str}
  (hn:l.most=some n) (hn2:n≤sizeLine) (hdf:d.params.defaults=[]) (hr:fH k callerA)
  (hY:∀(w:World)(h:Heap),YP w h->(K w.params).In h)
  (F:∀ (w:World) (mg:Str->Option Value) (fa:Addr) (h:Heap),(K w.params).In h->h.Ns mainGlobals mg->mg d.name=some (.ref fa) ->
   ∃fd:FuncData,(∀(s:Shared)(u:Value),BindsTo s fd ⟨[u],[]⟩ [(x,u)]) ∧
    ∀base:Heap,(K w.params).In base->base.Ns mainGlobals mg->k_ l.prog w (K w.params) mg base CX0 k fa fd [x] (spZ (K w.params) m)) (hL:∀w:World,LamOk q (K w.params))
  (hold:∀ns:List Int,ns.length≤n->(∀i∈ns,Z.bits i≤2 ^ 20)->m [.lst (ns.map .int)]=.ok (.bl true)) :
  WalkO q loose XP YP l.row.toRowW d [] (λ f vs=>PySem.call f vs):=by
 intro w s₀ s₁ mg mb G Y fa o pm cd doc dV kV ho hd hcd hD hmg hg args vals as hpre hlay hrd hwl hlo;cases Dflts.none hD hdf;cases Dflts.noKw hD;obtain⟨a,vs,ns,rfl,rfl,hobj,hints,hlen⟩:=Att.script_of hn hpre hwl;have KX:=hY w _ Y;obtain⟨fd,hb,hF⟩:=F w mg fa _ KX G.T.g hmg;have C:=law_call KX G.T.g G.T.b G.T.builtins G.T.nolimit hg hobj hints (Nat.le_trans hlen hn2) hr hF hb (λ H hO hS=>law_sp hO hS (hold ns hlen (bits_script hlay))) (λ H e s' z=>z)
  (hL w).2.2 (λ y hy c p e=>let ⟨d,hd⟩:=(hL w).2.1 y hy c p e;let T:=tab_of G.T KX hd e;⟨T,T.1.tab T.2⟩) G.T.bmain (hL w).1
 refine enter_call (codeAny_mono C λ r s' hq=>?_);obtain⟨rfl,h2,h3,h4⟩:=hq;exact⟨.inl ⟨.bool true,.bool true,[],rfl,λ _=>rfl,.bool true,Att.post_true l _,λ _=>⟨List.Pairwise.nil,λ _ hm=>(nomatch hm)⟩⟩,h2,h3,h4⟩
end ZS
namespace ZS
open PySem PySem.Spec PyProof.Rows L2
section
variable {prog:Program}{w:World}{A:Around}{E:Value->Shared->Prop}{s:Shared}
theorem nextT_item{it t:Addr}{i:Nat}{items:Array Value}{x:Value}{Q:Value->Shared->Prop}(hit:s.heap.IsTupleIter it t i)(ht:s.heap.IsTuple t items)(hx:items[i]?=some x)
  (hQ:∀h',h'.IsTupleIter it t (i+1)->Heap.SameBut it s.heap h'->Q x { s with heap:=h' }):wpAny (model prog w) A (Builtin.SmallTypes.nextOf (.ref it)) Q E s:=by
 obtain⟨ob,hob,hcl,hda⟩:=id hit;obtain⟨ot,hot,_,nt,hdt⟩:=ht;unfold Builtin.SmallTypes.nextOf;refine wpAny_bind (wpAny_callSpecial?_slot (name:=Str.ofString "__next__") hit.typeIs F.slot_tuple_iterator_next (wpAny_call_entry F.slot_tuple_iterator_next hit.typeIs F.entry_tuple_iterator_next ?_ (F.args_tuple_iterator_next_1 _)));show wpAny _ _ (field (.ref it) 0 >>= _) _ _ _;refine wpAny_bind (wpAny_field hob hda (x:=.ref t) rfl ?_);show wpAny _ _ (if(Value.ref t==Value.none)=true then _ else _) _ _ _;have hno:¬(Value.ref t==Value.none)=true:=Bool.false_ne_true;rw[if_neg hno];show wpAny _ _ (field (.ref it) 1 >>= _) _ _ _;refine wpAny_bind (wpAny_field hob hda (x:=.int i 0) rfl ?_);show wpAny _ _ (seqItems? (.ref t) >>= _) _ _ _;refine wpAny_bind (wpAny_seqItems hot hdt ?_);simp only[Int.toNat_natCast,hx];refine wpAny_bind (wpAny_setField hob hda (by simp) (wpAny_pure ⟨x,rfl,wpAny_pure (hQ _ ⟨_,Heap.get?_update_self _ hob (Obj.isFreed_of_fields (Obj.data_mapFields hda _)),(Obj.cls_mapFields ..).trans hcl,?_⟩ (Heap.SameBut.update ..))⟩));rw[Obj.data_mapFields hda];simp[rawInt]
theorem nextT_end{it t:Addr}{i:Nat}{items:Array Value}{Q:Value->Shared->Prop}(hh:A.handled=none)(hit:s.heap.IsTupleIter it t i)(ht:s.heap.IsTuple t items)(hx:items[i]?=none)
  (hE:∀h' e,Heap.ExtBut it s.heap h'->(∃o,h'.get? e=some o∧o.cls=.type "StopIteration")->E (.ref e) { s with heap:=h' }):wpAny (model prog w) A (Builtin.SmallTypes.nextOf (.ref it)) Q E s:=by
 obtain⟨ob,hob,hcl,hda⟩:=id hit;obtain⟨ot,hot,_,nt,hdt⟩:=ht;unfold Builtin.SmallTypes.nextOf;refine wpAny_bind (wpAny_callSpecial?_slot (name:=Str.ofString "__next__") hit.typeIs F.slot_tuple_iterator_next (wpAny_call_entry F.slot_tuple_iterator_next hit.typeIs F.entry_tuple_iterator_next ?_ (F.args_tuple_iterator_next_1 _)));show wpAny _ _ (field (.ref it) 0 >>= _) _ _ _;refine wpAny_bind (wpAny_field hob hda (x:=.ref t) rfl ?_);show wpAny _ _ (if(Value.ref t==Value.none)=true then _ else _) _ _ _;have hno:¬(Value.ref t==Value.none)=true:=Bool.false_ne_true;rw[if_neg hno];show wpAny _ _ (field (.ref it) 1 >>= _) _ _ _;refine wpAny_bind (wpAny_field hob hda (x:=.int i 0) rfl ?_);show wpAny _ _ (seqItems? (.ref t) >>= _) _ _ _;refine wpAny_bind (wpAny_seqItems hot hdt ?_);simp only[Int.toNat_natCast,hx];refine wpAny_bind (wpAny_rule (wpAny_bind (wpAny_setField hob hda (by simp) ?_)));show wpAny _ _ (newExc (.type "StopIteration") [] >>= _) _ _ _;refine wpAny_bind ?_;simp only[newExc,newTuple];refine wpAny_bind (wpAny_newObj_type ?_ (by size_fits));refine wpAny_bind (m:=firstArgMember _ _) (wpAny_of_eq (a:=Value.none) (by first | rfl | (simp only[firstArgMember];rfl)) ?_);refine wpAny_newObj_type ?_ (by size_fits);simp only[raiseNew];refine wpAny_bind (wpAny_handled ?_)
 first | rw[show A.in1.handled=none from hh] | rw[hh]
 exact wpAny_bind (wpAny_pure (wpAny_throw (hE _ _ (((Heap.SameBut.update ..).extBut.push _).push _) ⟨_,Heap.get?_push_size _ rfl,rfl⟩)))
end
theorem drawsT{prog:Program}{w:World}{A:Around}(hh:A.handled=none)(it t:Addr)(hne:t≠it)(items:Array Value):
  Draws prog w A it [it,t] items.size (λ i v=>items[i]?=some v) (λ i h=>h.IsTupleIter it t i∧h.IsTuple t items) where
 live:=λ _ _ st=>let ⟨o,ho,_⟩:=st.1;⟨o,ho⟩
 frame:=λ _ _ _ st hk=>by obtain⟨⟨o,e,r⟩,⟨o2,e2,r2⟩⟩:=st;exact⟨⟨o,hk it (by simp) o e,r⟩,⟨o2,hk t (by simp) o2 e2,r2⟩⟩
 item:=λ i s Q E hi st hQ=>by refine nextT_item st.1 st.2 (x:=items[i]) (by simp[hi]) λ h' hit' hs'=>?_;exact hQ _ h' s.toks (by simp[hi]) ⟨hit',st.2.extBut hs'.extBut hne⟩ hs'
 done:=λ s Q E st hE=>nextT_end hh st.1 st.2 (by simp) hE
theorem turnedL{X:Cx}{pins:List (Addr×Obj)}{σ:St}{H:Hp}{s:Shared}{h':Heap}{t':Nat}{ch:List Addr}(I:Inv X pins σ H s)(k:∀b o,b∉ch->s.heap.get? b=some o->h'.get? b=some o)(hf:∀b∈ch,FpOk X pins H b):Inv X pins σ H { s with heap:=h',toks:=t' }:=by
 have nch:∀b u,H b=some u->b∉ch:=λ b u e hb=>by rw[(hf b hb).1]at e;cases e
 refine I.step (g':=s.gens) (d':=s.drawn) (ch:=ch) (λ b hb=>?_) (λ b o _ _ hc e _=>k b o hc e) (λ b o _ _ hc e _=>⟨o.slots,k b o hc e⟩) (λ _ _ _ _ n=>n)
  (λ b o hc e=>⟨o,k b o hc e⟩) (λ _ _ e=>e) (λ _ _ _ e=>e) (λ _ _ _ e=>e) (λ m hm=>?_) (λ b u e=>?_) I.bare
 ·obtain⟨f0,f1,f2,f3,f4,f5⟩:=hf b hb;exact⟨f3,f1,f4,f5⟩
 ·obtain⟨o,es,ep,ho,r⟩:=hm;exact⟨o,es,ep,k _ o (λ hb=>(hf _ hb).2.1 rfl) ho,r⟩
 ·refine(I.dO b u e).stay (λ c v hc q=>k c v ?_ q) (λ _ q=>q) (λ _ _ q=>q) λ _ _ _ q=>q;rcases hc with z | z
  ·rw[z];exact nch b u e
  ·exact nch c _ z
theorem turnedT{X : Cx}{pins : List (Addr × Obj)}{σ : St}{H : Hp}{s : Shared}{h' : Heap}{t' : Nat}{ch : List Addr}{T : Addr}{xs : List V}{us : List Value}(I : Inv X pins σ H s)(k : ∀b o, b ∉ ch -> s.heap.get? b = some o -> h'.get? b = some o)(hf : ∀b ∈ ch, FpOk X pins H b)
  (hT:s.heap.objs.size≤T) (hTT:h'.IsTuple T us.toArray) (r:Vals xs us) (hz:xs.length≤sizeLine):Inv X pins σ (upd H T (.tup xs)) { s with heap:=h',toks:=t' }:=by
 have hn:H T=none:=I.dO.fresh hT;have nch:∀b u,H b=some u->b∉ch:=λ b u e hb=>by rw[(hf b hb).1]at e;cases e
 have up:∀b u,H b=some u->upd H T (.tup xs) b=some u:=λ b u e=>by rw[aK (bH e hn)];exact e
 have lt:∀b o,s.heap.get? b=some o->b≠T:=λ b o e z=>by rw[z]at e;exact absurd (Heap.lt_size e) (Nat.not_lt.mpr hT)
 refine I.step (g':=s.gens) (d':=s.drawn) (ch:=ch) (λ b hb=>?_) (λ b o _ _ hc e _=>k b o hc e) (λ b o _ _ hc e _=>⟨o.slots,k b o hc e⟩) (λ b o _ e n=>by rw[aK (lt b o e)];exact n)
  (λ b o hc e=>⟨o,k b o hc e⟩) (λ b ys e=>up b _ e) (λ b o u e=>up b _ e) (λ b u _ e=>up b _ e) (λ m hm=>?_) (λ b u e=>?_) I.bare
 ·obtain⟨f0,f1,f2,f3,f4,f5⟩:=hf b hb;exact⟨f3,f1,f4,f5⟩
 ·obtain⟨o,es,ep,ho,q⟩:=hm;exact⟨o,es,ep,k _ o (λ hb=>(hf _ hb).2.1 rfl) ho,q⟩
 ·by_cases hb:b=T
  ·subst hb;rw[aX]at e;cases e;exact⟨hz,us,r,hTT⟩
  ·rw[aK hb]at e;refine(I.dO b u e).stay (λ c v hc q=>k c v ?_ q) (λ c q=>?_) (λ c ys q=>up c _ q) λ c v _ q=>up c _ q
   ·rcases hc with z | z
    ·rw[z];exact nch b u e
    ·exact nch c _ z
   ·exact up c _ q
end ZS
namespace ZS
open PySem PySem.Spec PyProof.Rows L2
structure Inn where
 at_:Nat->Hp->V->Prop
 end_:Nat->Hp->Prop
def ItE(J:Inn):It:=⟨λ i H=>∃y,J.at_ i H y,λ i H x H'=>∃T y,H T=none∧x=.ref T∧H'=upd H T (.tup [.int (i:Nat),y])∧J.at_ i H y,J.end_⟩
structure Src(P:Program)(w:World)(K:PySem.W.Frag)(J:Inn)(it:Addr)(inn:Nat->Heap->Prop):Prop where
 obj:∀i h,inn i h->∃o,h.get? it=some o∧(∀v,o.data≠.cell v)∧o.cls≠.type "enumerate" ∧ o.cls≠.type "zip" ∧ o.cls≠.type "tuple"
 keep:∀i h h',inn i h->(∀o,h.get? it=some o->h'.get? it=some o)->inn i h'
 draw:∀(X:Cx),X.prog=P->X.w=w->X.K=K->X.calm=true->∀(i:Nat)(pins:List (Addr×Obj))(s:Shared)(σ:St)(H:Hp),Inv X pins σ H s->inn i s.heap->((∃y,J.at_ i H y)∨J.end_ i H) ->
  ∃(fp:List Addr) (n:Nat) (Pv:Nat->Value->Prop) (S:Nat->Heap->Prop),Draws P w X.A.in1 it fp n Pv S∧S i s.heap∧it∈fp∧(∀b∈fp,b=it∨∃o,s.heap.get? b=some o∧o.cls≠.type "enumerate" ∧ o.cls≠.type "zip" ∧ (H b=none->∃o',K.lookup b=some o')) ∧
   ((∃y,J.at_ i H y)->i < n∧∀u,Pv i u->∃y,RelV y u∧J.at_ i H y)∧(J.end_ i H->i=n)∧∀j h,S j h->inn j h
theorem turn_enum{P : Program}{w : World}{K : PySem.W.Frag}{J : Inn}{e it : Addr}{inn : Nat -> Heap -> Prop}{elts : List Expr}{x1 : Nat}{pos : Pos}(S : Src P w K J it inn)(hei : e ≠ it):
  Turn P w K (.Tuple elts x1 pos) (ItE J) [e,it] e (λ i h=>(∃old,IsEnum h e it i old)∧inn i h) where
 mem:=by simp
 obj:=λ i h st b hb=>by
  rcases List.mem_cons.mp hb with rfl | hb
  ·obtain⟨⟨old,he⟩,_⟩:=st;exact⟨_,he,λ v z=>by have z':Data.fields _=Data.cell v:=z;cases z'⟩
  ·rw[List.mem_singleton]at hb;subst hb;obtain⟨o,h1,h2,_⟩:=S.obj i h st.2;exact⟨o,h1,h2⟩
 keep:=λ i h h' st k=>⟨let ⟨old,he⟩:=st.1;⟨old,k e (by simp) _ he⟩,S.keep i h h' st.2 λ o q=>k it (by simp) o q⟩
 item:=by
  intro X hP hw hK hc i pins s σ H E I hf st hg;obtain⟨fp,n,Pv,St',D,hs0,hif,hfp,hat,_,hin⟩:=S.draw X hP hw hK hc i pins s σ H I st.2 (.inl hg);obtain⟨hi,hv⟩:=hat hg;subst hP hw hK;obtain⟨old,he⟩:=st.1;have hef:e∉fp:=λ hb=>by
   rcases hfp e hb with z | ⟨o,q,hne,_⟩
   ·exact hei z
   ·rw[he]at q;cases q;exact hne rfl
  have W:=WalksT.enumerateD (A:=X.A) D e hei hef hif;have helt:e < s.heap.objs.size:=Heap.lt_size he;have hilt:it < s.heap.objs.size:=by obtain⟨o,q,_⟩:=S.obj _ _ st.2;exact Heap.lt_size q
  refine W.item i s _ _ hi ⟨⟨old,he⟩,hs0⟩ λ T vals h' tk hPv hT hTT hM kk=>⟨.ref T,rfl,?_⟩
  obtain⟨t',u,hu,rfl⟩:=hPv;obtain⟨y,ry,hy⟩:=hv u hu;have hTw:T∉[e,it]:=W.apart i T h' hM;refine W.go elts x1 pos i T _ _ _ hM λ h2 hst2 kk2=>?_;have hTn:H T=none:=I.dO.fresh hT;have hTT2:h2.IsTuple T [Value.int i t',u].toArray:=by obtain⟨o,q,r⟩:=hTT;exact⟨o,kk2 T o hTw q,r⟩
  have I2:Inv X pins σ (upd H T (.tup [.int (i:Nat),y])) { s with heap:=h2,toks:=tk } :=
   turnedT (ch:=[e,it]) I (λ b o hb q=>kk2 b o hb (kk b o hb q)) hf hT hTT2 (.cons ⟨t',rfl⟩ (.cons ry .nil)) (by show 2≤sizeLine;decide)
  refine⟨.ref T,_,I2,rfl,⟨T,y,hTn,rfl,rfl,hy⟩,⟨hst2.1,hin _ _ hst2.2⟩,λ b hb=>?_⟩;have hbT:b≠T:=λ z=>hTw (z▸hb);rw[aK hbT];exact(hf b hb).1
 done:=by
  intro X hP hw hK hc i pins s σ H E I hf st hg;obtain⟨fp,n,Pv,St',D,hs0,hif,hfp,_,hend,hin⟩:=S.draw X hP hw hK hc i pins s σ H I st.2 (.inr hg);have hin':=hend hg;subst hP hw hK hin';obtain⟨old,he⟩:=st.1;have hef:e∉fp:=λ hb=>by
   rcases hfp e hb with z | ⟨o,q,hne,_⟩
   ·exact hei z
   ·rw[he]at q;cases q;exact hne rfl
  have W:=WalksT.enumerateD (A:=X.A) D e hei hef hif;exact W.done s _ _ ⟨⟨old,he⟩,hs0⟩ λ h' tk kk=>⟨rfl,turnedL (ch:=[e,it]) I kk hf⟩
 self:=λ A i s Q E st hQ=>by obtain⟨old,he⟩:=st.1;exact wpAny_pyIter_enum he hQ
def innT(K:PySem.W.Frag)(t:Addr)(vs:List V):Inn:=⟨λ i H y=>k? K H t vs∧vs[i]?=some y,λ i H=>k? K H t vs∧vs.length=i⟩
def innL(K:PySem.W.Frag)(t:Addr)(vs:List V):Inn:=⟨λ i H y=>i6 K H t vs∧vs[i]?=some y,λ i H=>i6 K H t vs∧vs.length=i⟩
def innS(z:Str):Inn:=⟨λ i _ y=>∃c,z.cps[i]?=some c∧y=.str ⟨#[c]⟩,λ i _=>i=z.cps.size⟩
theorem jB{P : Program}{w : World}{K : PySem.W.Frag}{t it : Addr}{xs : List V}: Src P w K (innT K t xs) it (λ i h => h.IsTupleIter it t i) where
 obj:=λ i h st=>by obtain⟨o,e,c,d⟩:=st;exact⟨o,e,λ v z=>(by rw[d]at z;cases z),by rw[c];decide,by rw[c];decide,by rw[c];decide⟩
 keep:=λ i h h' st k=>let ⟨o,e,r⟩:=st;⟨o,k o e,r⟩
 draw:=by
  intro X hP hw hK hc i pins s σ H I st hg;subst hP hw hK;have hq:k? X.K H t xs:=by rcases hg with⟨y,h,_⟩ | ⟨h,_⟩<;>exact h
  obtain⟨aM,r,p,hz⟩:=I.tuple hq;obtain⟨ot,hot,hct,nt,hdt⟩:=id p;obtain⟨oi,hoi,hci,hdi⟩:=id st;have hne:t≠it:=by rintro rfl;rw[hot]at hoi;cases hoi;rw[hct]at hci;injection hci with z;exact absurd z (by decide)
  refine⟨[it,t],aM.toArray.size,_,_,drawsT (A:=X.A.in1) (I.ok.hd hc) it t hne aM.toArray,⟨st,p⟩,by simp,λ b hb=>?_,λ⟨y,_,hyi⟩=>?_,λ⟨_,hl⟩=>?_,λ j h q=>q.1⟩
  ·rcases List.mem_cons.mp hb with rfl | hb
   ·exact .inl rfl
   ·rw[List.mem_singleton]at hb;subst hb;refine .inr ⟨ot,hot,by rw[hct];decide,by rw[hct];decide,λ hn=>?_⟩;rcases hq with(z | ⟨o,z⟩) | ⟨o,_,_,z,_⟩
    ·rw[hn]at z;cases z
    ·rw[hn]at z;cases z
    ·exact⟨o,z⟩
  ·obtain⟨u,hu,ru⟩:=r.get hyi;refine⟨by rw[List.size_toArray];exact(List.getElem?_eq_some_iff.mp hu).1,λ u' hu'=>⟨y,?_,hq,hyi⟩⟩;have:aM[i]?=some u':=by simpa using hu'
   rw[hu]at this;cases this;exact ru
  ·rw[List.size_toArray,<-r.length,hl]
theorem src_lst{P : Program}{w : World}{K : PySem.W.Frag}{t it : Addr}{xs : List V}: Src P w K (innL K t xs) it (λ i h => h.IsListIter it t i) where
 obj:=λ i h st=>by obtain⟨o,e,c,d⟩:=st;exact⟨o,e,λ v z=>(by rw[d]at z;cases z),by rw[c];decide,by rw[c];decide,by rw[c];decide⟩
 keep:=λ i h h' st k=>let ⟨o,e,r⟩:=st;⟨o,k o e,r⟩
 draw:=by
  intro X hP hw hK hc i pins s σ H I st hg;subst hP hw hK;have hq:i6 X.K H t xs:=by rcases hg with⟨y,h,_⟩ | ⟨h,_⟩<;>exact h
  obtain⟨aM,r,p,hz⟩:=I.list hq;obtain⟨ot,hot,hct,nt,hdt⟩:=id p.isList;obtain⟨oi,hoi,hci,hdi⟩:=id st;have hne:t≠it:=by rintro rfl;rw[hot]at hoi;cases hoi;rw[hct]at hci;injection hci with z;exact absurd z (by decide)
  refine⟨[it,t],aM.toArray.size,_,_,Draws.list (A:=X.A.in1) (I.ok.hd hc) it t hne aM.toArray,⟨st,p.isList⟩,by simp,λ b hb=>?_,λ⟨y,_,hyi⟩=>?_,λ⟨_,hl⟩=>?_,λ j h q=>q.1⟩
  ·rcases List.mem_cons.mp hb with rfl | hb
   ·exact .inl rfl
   ·rw[List.mem_singleton]at hb;subst hb;refine .inr ⟨ot,hot,by rw[hct];decide,by rw[hct];decide,λ hn=>?_⟩;rcases hq with(z | ⟨o,z⟩) | ⟨o,_,_,z,_⟩
    ·rw[hn]at z;cases z
    ·rw[hn]at z;cases z
    ·exact⟨o,z⟩
  ·obtain⟨u,hu,ru⟩:=r.get hyi;refine⟨by rw[List.size_toArray];exact(List.getElem?_eq_some_iff.mp hu).1,λ u' hu'=>⟨y,?_,hq,hyi⟩⟩;have:aM[i]?=some u':=by simpa using hu'
   rw[hu]at this;cases this;exact ru
  ·rw[List.size_toArray,<-r.length,hl]
theorem src_str{P : Program}{w : World}{K : PySem.W.Frag}{it : Addr}{z : Str}{tk : Tok}: Src P w K (innS z) it (λ i h => h.IsStrIter it (strIterType z) z tk i) where
 obj:=λ i h st=>by obtain⟨o,e,c,d⟩:=st;refine⟨o,e,λ v q=>(by rw[d]at q;cases q),?_,?_,?_⟩<;>(rw[c];unfold strIterType;split<;>decide)
 keep:=λ i h h' st k=>let ⟨o,e,r⟩:=st;⟨o,k o e,r⟩
 draw := by
  intro X hP hw hK hc i pins s σ H I st hg;subst hP hw hK;have hh:X.A.in1.handled=none:=I.ok.hd hc;have fin:∀(Pv:Nat->Value->Prop),(∀i u,Pv i u->∃c t,z.cps[i]?=some c∧u=.str ⟨#[c]⟩ t)->∀(S:Nat->Heap->Prop),Draws X.prog X.w X.A.in1 it [it] z.cps.size Pv S->S i s.heap->(∀j h,S j h->h.IsStrIter it (strIterType z) z tk j) ->
    ∃(fp:List Addr) (n:Nat) (Pv:Nat->Value->Prop) (S:Nat->Heap->Prop),Draws X.prog X.w X.A.in1 it fp n Pv S∧S i s.heap∧it∈fp∧(∀b∈fp,b=it∨∃o,s.heap.get? b=some o∧o.cls≠.type "enumerate" ∧ o.cls≠.type "zip" ∧ (H b=none->∃o',X.K.lookup b=some o')) ∧
     ((∃y,(innS z).at_ i H y)->i < n∧∀u,Pv i u->∃y,RelV y u∧(innS z).at_ i H y)∧((innS z).end_ i H->i=n)∧∀j h,S j h->h.IsStrIter it (strIterType z) z tk j:=by
   intro Pv hPv S D hs hS;refine⟨[it],z.cps.size,Pv,S,D,hs,by simp,λ b hb=>.inl (by simpa using hb),λ⟨y,c,hy,_⟩=>⟨?_,λ u hu=>?_⟩,λ q=>q,hS⟩
   ·rcases Nat.lt_or_ge i z.cps.size with q | q
    ·exact q
    ·rw[Array.getElem?_eq_none q]at hy;cases hy
   ·obtain⟨c',t',hc',rfl⟩:=hPv i u hu;exact⟨.str ⟨#[c']⟩,⟨t',rfl⟩,c',hc',rfl⟩
  cases ha:z.cps.all (· < 128)
  ·have e:strIterType z = "str_iterator" := by unfold strIterType;rw[ha];rfl
   exact fin _ (λ _ _ q=>q) _ (Draws.strWide hh it z tk) (by rw[<-e];exact st) (λ j h q=>by rw[e];exact q)
  ·have e:strIterType z = "str_ascii_iterator" := by unfold strIterType;rw[ha];rfl
   exact fin _ (λ _ _ q=>q) _ (Draws.strAscii hh it z tk) (by rw[<-e];exact st) (λ j h q=>by rw[e];exact q)
theorem meets_enumT(l : Addr)(items : Array Value)(n : Nat)(dct : Option Addr)(sl : Array (Option Value)):
  Meets (Builtin.«enumerate.__new__» ⟨[.type "enumerate",.ref l],[]⟩) (λ _ R s=>s.heap.get? l=some { cls:=.type "tuple",dict:=dct,data:=.seq items n,slots:=sl } ∧
   R (.ok (.ret (.ref (s.heap.push { cls:=.type "tuple_iterator",data:=.fields #[.ref l,.int 0 0] }).objs.size)))
    { s with heap:=(s.heap.push { cls:=.type "tuple_iterator",data:=.fields #[.ref l,.int 0 0] }).push { cls:=.type "enumerate",data:=.fields #[.none,.bool false,.ref s.heap.objs.size,rawInt 0,.none,.none] } }) :=
 .of_wp λ prog w A R s h=>by
  obtain⟨hp,gs,dr,tk,os⟩:=s;obtain⟨hl,h⟩:=h;have hsb:=sub_enumerate;have hL:Heap.IsTuple (Shared.heap ⟨hp,gs,dr,tk,os⟩) l items:=⟨_,hl,rfl,n,rfl⟩
  wp_walk using AutoSeq1.wpAny_loadPart' hl
  refine wpAny_stack_any λ st=>wpAny_pure ?_;split
  ·rename_i c _ _ _ _ _;cases (c==Value.type "enumerate")<;>(wp_walk using AutoSeq1.wpAny_loadPart' hl,wpAny_pyIter_tuple hL;exact⟨_,rfl,h⟩)
  ·wp_walk using AutoSeq1.wpAny_loadPart' hl,wpAny_pyIter_tuple hL
   exact⟨_,rfl,h⟩
theorem call_enumT{prog:Program}{w:World}{A:Around}{E:Value->Shared->Prop}{s:Shared}{l:Addr}{items:Array Value}{Q:Value->Shared->Prop}(hL:s.heap.IsTuple l items)
  (h:∀h',IsEnum h' (s.heap.objs.size+1) s.heap.objs.size 0 .none->h'.IsTupleIter s.heap.objs.size l 0->(∀b o,s.heap.get? b=some o->h'.get? b=some o)->Q (.ref (s.heap.objs.size+1)) { s with heap:=h' }) :
  wpAny (model prog w) A (call (.type "enumerate") [.ref l]) Q E s:=by
 obtain⟨⟨c,dct,dt,sl⟩,hl,hc,n,hd⟩:=hL;have hc':c=.type "tuple" := hc;have hd':dt=.seq items n:=hd;subst hc' hd';refine callType_new F.called_enumerate (by decide) (F.typeCall_enumerate_1 _) (F.newCall_enumerate_1 _) (λ obj=>F.args_object_init_2 obj _) F.entry_enumerate_new (meets_enumT l items n dct sl) ⟨hl,?_⟩;have hz:(s.heap.push { cls:=.type "tuple_iterator",data:=.fields #[.ref l,.int 0 0] }).objs.size=s.heap.objs.size+1:=Heap.size_push ..;have he:=Heap.get?_push_size (s.heap.push { cls:=.type "tuple_iterator",data:=.fields #[.ref l,.int 0 0] }) (o:={ cls:=.type "enumerate",data:=.fields #[.none,.bool false,.ref s.heap.objs.size,rawInt 0,.none,.none] }) rfl;show _∧_;rw[hz]at he ⊢;exact⟨⟨_,he,rfl⟩,h _ he ⟨_,Heap.get?_push_of_some _ (Heap.get?_push_size _ rfl),rfl,rfl⟩ λ b o x=>Heap.get?_push_of_some _ (Heap.get?_push_of_some _ x)⟩
theorem enumD_get:∀(ds:List Z.D)(k i:Nat),(Z.dF k ds)[i]?=(ds[i]?).map λ d=>Z.pair (.int ((k+i:Nat):Int)) d
 | [],_,_=>by simp[Z.dF]
 | d :: ds,k,0=>by simp[Z.dF]
 | d :: ds,k,i+1=>by simp only[Z.dF,List.getElem?_cons_succ,enumD_get ds (k+1) i];rw[show k+1+i=k+(i+1)by lia]
theorem enumD_len:∀(ds:List Z.D)(k:Nat),(Z.dF k ds).length=ds.length
 | [],_=>rfl
 | d :: ds,k=>by simp[Z.dF,enumD_len ds]
theorem itz_enum{K:PySem.W.Frag}{J:Inn}{S:Hp->Prop}{ds:List Z.D}(h1:∀(i:Nat) d H1,S H1->ds[i]?=some d->(∃y,J.at_ i H1 y)∧∀y,J.at_ i H1 y->Den K H1 d y)(h2:∀H1,S H1->J.end_ ds.length H1):ItZ K (ItE J) S (Z.dF 0 ds) where
 go:=λ i d H1 s hi=>by
  rw[enumD_get]at hi;cases q:ds[i]? with
  | none=>rw[q]at hi;cases hi
  | some d0=>exact(h1 i d0 H1 s q).1
 yld:=λ i d H1 H2 x s hi y=>by
  obtain⟨T,y,hT,rfl,rfl,hy⟩:=y;rw[enumD_get]at hi;cases q:ds[i]? with
  | none=>rw[q]at hi;cases hi
  | some d0 =>rw[q]at hi;cases hi;have sm:aD H1 (upd H1 T (.tup [.int (i:Nat),y])):=bG hT;refine⟨sm,fT (.inl (.inl aX)) (ax.cons ?_ (ax.cons (((h1 i d0 H1 s q).2 y hy).up sm) ax.nil))⟩;rw[Nat.zero_add];exact cV
 stop:=λ H1 s=>by rw[enumD_len];exact h2 H1 s
section
variable {X:Cx}{a b:Expr}{pos p p2:Pos}{fa fb:Z.EF}{elts:List Expr}{x1:Nat}
theorem fp_two{pins:List (Addr×Obj)}{σ:St}{H:Hp}{s:Shared}(I:Inv X pins σ H s):∀b∈[s.heap.objs.size+1,s.heap.objs.size],FpOk X pins H b:=λ b hb=>by
 rcases List.mem_cons.mp hb with rfl | hb
 ·exact I.fpOk (Nat.le_succ _) (I.dO.fresh (Nat.le_succ _))
 ·rw[List.mem_singleton]at hb;subst hb;exact I.fpOk (Nat.le_refl _) (I.dO.fresh (Nat.le_refl _))
theorem nH(hg:Gl X "enumerate")(hm:X.mg "enumerate" = none)(ha:DE X a fa)(hs:starEach [a] X.env=[(false,eval a X.env)]:=by rfl)(hs1:starEach (a :: []) X.env=(false,eval a X.env) :: starEach [] X.env:=by rfl):DJ X (.Tuple elts x1 p2) (.Call (.Name "enumerate" p) [a] [] pos) (Z.iEnum fa):=by
 intro pins s σ H R I w;obtain⟨ρ,ds,r,e,k⟩:=w;obtain⟨d,ea,e⟩:=Z.Res.ao e;obtain⟨ds0,ei,e⟩:=Z.Res.ao e;cases e;refine Call_ (l? I hg hm PyProof.Rows.boot_enumerate (PyProof.Rows.callWith_type1 (du ((a! ha cQ hs1) pos pins s σ H (λ vs H1=>∃v,vs=[v]∧aD H H1∧Den X.K H1 d v) I ⟨ρ,d,r,ea,λ v H1 s1 d1=>⟨v,rfl,s1,d1⟩⟩) λ us s1 ⟨vs,H1,I1,r1,q1⟩=>?_) hs rfl));obtain⟨v,rfl,sm,hd⟩:=q1;obtain⟨u,rfl,ru⟩:=vals1 r1;cases d with
 | tup xs0 =>
  cases ei;obtain⟨q,vs,rfl,hq,t⟩:=aZ.tup (.inl hd);cases ru;obtain⟨aM,rv,pt,hz⟩:=I1.tuple hq;refine call_enumT pt λ h' he hit hk=>wpAny_pyIter_enum he ?_;refine⟨_,[s1.heap.objs.size+1,s1.heap.objs.size],_,ItE (innT X.K q vs),H1,rfl,I1.kept (t':=s1.toks) hk,turn_enum jB (Nat.succ_ne_self _),⟨⟨_,he⟩,hit⟩,fp_two I1,k _ H1 sm (itz_enum (λ i d0 H2 s2 hi=>?_) λ H2 s2=>?_)⟩
  ·obtain⟨y,hy,dy⟩:=t.get hi;refine⟨⟨y,gI s2 hq,hy⟩,λ y' hy'=>?_⟩;have:=hy'.2;rw[hy]at this;cases this;exact dy.ups s2
  ·exact⟨gI s2 hq,t.length⟩
 | lst xs0 =>
  cases ei;simp only[Den]at hd;obtain⟨q,vs,rfl,hq,t⟩:=hd;cases ru;obtain⟨aM,rv,pt,hz⟩:=I1.list hq.sq;refine call_enumerate_list pt.isList λ h' he hit hsz hk=>wpAny_pyIter_enum he ?_;refine⟨_,[s1.heap.objs.size+1,s1.heap.objs.size],_,ItE (innL X.K q vs),H1,rfl,I1.kept (t':=s1.toks) hk,turn_enum src_lst (Nat.succ_ne_self _),⟨⟨_,he⟩,hit⟩,fp_two I1,k _ H1 sm (itz_enum (λ i d0 H2 s2 hi=>?_) λ H2 s2=>?_)⟩
  ·obtain⟨y,hy,dy⟩:=t.get hi;refine⟨⟨y,(hq.mono s2).sq,hy⟩,λ y' hy'=>?_⟩;have:=hy'.2;rw[hy]at this;cases this;exact dy.ups s2
  ·exact⟨(hq.mono s2).sq,t.length⟩
 | str cs =>
  cases ei;simp only[Den]at hd;rw[hd]at ru;obtain⟨tk,rfl⟩:=ru;refine call_enumerate_str λ h' he hit hsz hk=>wpAny_pyIter_enum he ?_;refine⟨_,[s1.heap.objs.size+1,s1.heap.objs.size],_,ItE (innS ⟨cs.toArray⟩),H1,rfl,I1.kept (t':=s1.toks) hk,turn_enum src_str (Nat.succ_ne_self _),⟨⟨_,he⟩,hit⟩,fp_two I1,k _ H1 sm (itz_enum (λ i d0 H2 s2 hi=>?_) λ H2 s2=>?_)⟩
  ·rw[List.getElem?_map]at hi;cases hc:cs[i]? with
   | none=>rw[hc]at hi;cases hi
   | some c =>
    rw[hc]at hi;cases hi;refine⟨⟨_,c,by simpa using hc,rfl⟩,λ y ⟨c',hc',hy⟩=>?_⟩;have:cs[i]?=some c':=by simpa using hc'
    rw[hc]at this;cases this;rw[hy];exact iW (cs:=[c])
  ·show(cs.map λ c=>Z.D.str [c]).length=cs.toArray.size;simp
 | non=>cases ei
 | bl _=>cases ei
 | int _=>cases ei
 | dct _ _=>cases ei
end
end ZS
namespace ZS
open PySem PySem.Spec PyProof.Rows L2
structure Far(z TI TO i1 i2:Addr)(f1 f2:List Addr):Prop where
 ne:[z,TI,TO,i1,i2].Nodup
 a1:z∉f1∧TO∉f1∧i2∉f1
 a2:z∉f2∧TO∉f2∧i1∉f2
section
variable {prog:Program}{w:World}{A:Around}{E:Value->Shared->Prop}{s:Shared}
theorem zipD_item{z TI TO i1 i2:Addr}{f1 f2:List Addr}{n1 n2 k:Nat}{P1 P2:Nat->Value->Prop}{S1 S2:Nat->Heap->Prop}{a b:Value}{Q:Value->Shared->Prop}(F:Far z TI TO i1 i2 f1 f2)(D1:Draws prog w A i1 f1 n1 P1 S1)(D2:Draws prog w A i2 f2 n2 P2 S2)
  (hz:IsZip s.heap z TI TO .none) (hTI:IsPair s.heap TI (.ref i1) (.ref i2)) (hTO:IsPair s.heap TO a b) (h1:S1 k s.heap) (h2:S2 k s.heap) (hk1:k < n1) (hk2:k < n2)
  (hQ:∀x y h' tk,P1 k x->P2 k y->IsZip h' z TI TO (rawInt s.heap.objs.size)->IsPair h' TO x y->S1 (k+1) h'->S2 (k+1) h'->IsPair h' s.heap.objs.size x y->(∀c o,c∉[z,TO,i1,i2]->s.heap.get? c=some o->h'.get? c=some o)->Q (.ref s.heap.objs.size) { s with heap:=h',toks:=tk }) :
  wpAny (model prog w) A (Builtin.«zip.__next__» ⟨[.ref z],[]⟩) (λ fin s'=>∃v,fin=.done (.ret v)∧Q v s') E s:=by
 have ne:=F.ne;simp only[List.nodup_cons,List.mem_cons,List.not_mem_nil,or_false,not_or,List.nodup_nil,and_true,not_false_eq_true]at ne;obtain⟨⟨zTI,zTO,zi1,zi2⟩,⟨TITO,TIi1,TIi2⟩,⟨TOi1,TOi2⟩,i12⟩:=ne;obtain⟨zf1,TOf1,i2f1⟩:=F.a1;obtain⟨zf2,TOf2,i1f2⟩:=F.a2;obtain⟨hp,gs,dr,tk0,os⟩:=s;show wpAny _ _ (field (.ref z) 2 >>= _) _ _ _;refine wpAny_bind (wpAny_field hz rfl (x:=.bool false) rfl ?_);show wpAny _ _ (field (.ref z) 3 >>= _) _ _ _;refine wpAny_bind (wpAny_field hz rfl (x:=.ref TI) rfl (wpAny_bind (wpAny_seqItems hTI rfl ?_)));show wpAny _ _ (Builtin.SmallTypes.ownedTupleIsFree (.ref z) >>= _) _ _ _;refine wpAny_bind ?_;unfold Builtin.SmallTypes.ownedTupleIsFree;refine wpAny_bind (wpAny_field hz rfl (x:=.none) rfl (wpAny_pure ?_));simp only[if_true];refine wpAny_bind (wpAny_rule (wpAny_bind (wpAny_field hz rfl (x:=.ref TO) rfl (wpAny_bind (wpAny_setField_rec hz (by simp) λ g1 hz1 e1=>?_)))));have hz1:IsZip g1 z TI TO .ellipsis:=hz1;have e1:Heap.SameBut z hp g1:=e1;refine wpAny_bind ?_;simp only[List.zipIdx_cons,List.zipIdx_nil,List.forIn_cons,List.forIn_nil];refine wpAny_bind (wpAny_bind (wpAny_onRaise ?_));show wpAny _ _ (Builtin.SmallTypes.nextOf (.ref i1) >>= _) _ _ _;refine wpAny_bind (D1.item k _ _ _ hk1 (D1.frame k hp g1 h1 λ c hc o q=>e1.extBut c o (λ y=>zf1 (y▸hc)) q) λ x g2 t2 hx h12 e2=>wpAny_pure ?_);have e2:Heap.SameBut i1 g1 g2:=e2;have hTO2:IsPair g2 TO a b:=e2.extBut _ _ TOi1 (e1.extBut _ _ (Ne.symm zTO) hTO);refine wpAny_bind (wpAny_seqItems hTO2 rfl (wpAny_bind (wpAny_updateSeq_pair hTO2 λ g3 hTO3 e3=>?_)));have hTO3:IsPair g3 TO x b:=hTO3;have e3:Heap.SameBut TO g2 g3:=e3;refine wpAny_bind (wpAny_letGo (wpAny_pure ?_));refine wpAny_bind (wpAny_bind (wpAny_onRaise ?_));show wpAny _ _ (Builtin.SmallTypes.nextOf (.ref i2) >>= _) _ _ _;have h23:S2 k g3:=D2.frame k hp g3 h2 λ c hc o q=>e3.extBut c o (λ y=>TOf2 (y▸hc)) (e2.extBut c o (λ y=>i1f2 (y▸hc)) (e1.extBut c o (λ y=>zf2 (y▸hc)) q));refine wpAny_bind (D2.item k _ _ _ hk2 h23 λ y g4 t4 hy h24 e4=>wpAny_pure ?_);have e4:Heap.SameBut i2 g3 g4:=e4;have hTO4:IsPair g4 TO x b:=e4.extBut _ _ TOi2 hTO3;refine wpAny_bind (wpAny_seqItems hTO4 rfl (wpAny_bind (wpAny_updateSeq_pair hTO4 λ g5 hTO5 e5=>?_)));have hTO5:IsPair g5 TO x y:=hTO5;have e5:Heap.SameBut TO g4 g5:=e5;refine wpAny_bind (wpAny_letGo (wpAny_pure (wpAny_pure ?_)));refine wpAny_bind (wpAny_seqItems hTO5 rfl (wpAny_bind (wpAny_newTuple ?_)));have hsz:g5.objs.size=hp.objs.size:=by rw[e5.1,e4.1,e3.1,e2.1,e1.1]
 have hz5:IsZip g5 z TI TO .ellipsis:=e5.extBut _ _ zTO (e4.extBut _ _ zi2 (e3.extBut _ _ zTO (e2.extBut _ _ zi1 hz1)));have hzl:z < g5.objs.size:=Heap.lt_size hz5;show wpAny _ _ (Builtin.SmallTypes.ownedTupleHandOut (.ref z) (.ref g5.objs.size) >>= _) _ _ _;refine wpAny_bind ?_;unfold Builtin.SmallTypes.ownedTupleHandOut;have hz6:IsZip (g5.push { cls:=.type "tuple",data:=.seq #[x,y] }) z TI TO .ellipsis:=Heap.get?_push_of_some _ hz5;refine wpAny_bind (wpAny_setField_rec hz6 (by simp) λ g7 hz7 e7=>?_);have hz7:IsZip g7 z TI TO (rawInt g5.objs.size):=hz7;refine wpAny_setField_rec hz7 (by simp) λ g8 hz8 e8=>?_;have hz8:IsZip g8 z TI TO (rawInt g5.objs.size):=hz8;have up:∀c o,c≠z->g5.get? c=some o->g8.get? c=some o:=λ c o h q=>e8.extBut _ _ h (e7.extBut _ _ h (Heap.get?_push_of_some _ q));have hT8:IsPair g8 g5.objs.size x y:=e8.extBut _ _ (Nat.ne_of_gt hzl) (e7.extBut _ _ (Nat.ne_of_gt hzl) (Heap.get?_push_size _ rfl));have s1:S1 (k+1) g8:=D1.frame _ g2 g8 h12 λ c hc o q=>up c o (λ y=>zf1 (y▸hc)) (e5.extBut c o (λ y=>TOf1 (y▸hc)) (e4.extBut c o (λ y=>i2f1 (y▸hc)) (e3.extBut c o (λ y=>TOf1 (y▸hc)) q)));have s2:S2 (k+1) g8:=D2.frame _ g4 g8 h24 λ c hc o q=>up c o (λ y=>zf2 (y▸hc)) (e5.extBut c o (λ y=>TOf2 (y▸hc)) q);have kp:∀c o,c∉[z,TO,i1,i2]->hp.get? c=some o->g8.get? c=some o:=λ c o hc q=>by simp only[List.mem_cons,List.not_mem_nil,or_false,not_or]at hc;exact up c o hc.1 (e5.extBut _ _ hc.2.1 (e4.extBut _ _ hc.2.2.2 (e3.extBut _ _ hc.2.1 (e2.extBut _ _ hc.2.2.1 (e1.extBut _ _ hc.1 q)))))
 rw[hsz]at hz8 hT8;refine wpAny_pure ⟨_,rfl,?_⟩;show Q (.ref g5.objs.size) _;rw[hsz];exact hQ x y g8 t4 hx hy hz8 (up _ _ (Ne.symm zTO) hTO5) s1 s2 hT8 kp
theorem zipD_end{z TI TO i1 i2:Addr}{f1 f2:List Addr}{n1 n2 k:Nat}{P1 P2:Nat->Value->Prop}{S1 S2:Nat->Heap->Prop}{a b:Value}{Q:Fin->Shared->Prop}(F:Far z TI TO i1 i2 f1 f2)(D1:Draws prog w A i1 f1 n1 P1 S1)(D2:Draws prog w A i2 f2 n2 P2 S2)
  (hz:IsZip s.heap z TI TO .none) (hTI:IsPair s.heap TI (.ref i1) (.ref i2)) (hTO:IsPair s.heap TO a b) (h1:S1 k s.heap) (h2:S2 k s.heap) (hend:k=n1∨(k < n1∧k=n2))
  (hE:∀h' e tk,(∀c o,c∉[z,TO,i1,i2]->s.heap.get? c=some o->h'.get? c=some o)->(∃o,h'.get? e=some o∧o.cls=.type "StopIteration")->E (.ref e) { s with heap:=h',toks:=tk }) :
  wpAny (model prog w) A (Builtin.«zip.__next__» ⟨[.ref z],[]⟩) Q E s:=by
 have ne:=F.ne;simp only[List.nodup_cons,List.mem_cons,List.not_mem_nil,or_false,not_or,List.nodup_nil,and_true,not_false_eq_true]at ne;obtain⟨⟨zTI,zTO,zi1,zi2⟩,⟨TITO,TIi1,TIi2⟩,⟨TOi1,TOi2⟩,i12⟩:=ne;obtain⟨zf1,TOf1,i2f1⟩:=F.a1;obtain⟨zf2,TOf2,i1f2⟩:=F.a2;obtain⟨hp,gs,dr,tk0,os⟩:=s;show wpAny _ _ (field (.ref z) 2 >>= _) _ _ _;refine wpAny_bind (wpAny_field hz rfl (x:=.bool false) rfl ?_);show wpAny _ _ (field (.ref z) 3 >>= _) _ _ _;refine wpAny_bind (wpAny_field hz rfl (x:=.ref TI) rfl (wpAny_bind (wpAny_seqItems hTI rfl ?_)));show wpAny _ _ (Builtin.SmallTypes.ownedTupleIsFree (.ref z) >>= _) _ _ _;refine wpAny_bind ?_;unfold Builtin.SmallTypes.ownedTupleIsFree;refine wpAny_bind (wpAny_field hz rfl (x:=.none) rfl (wpAny_pure ?_));simp only[if_true];refine wpAny_bind (wpAny_rule (wpAny_bind (wpAny_field hz rfl (x:=.ref TO) rfl (wpAny_bind (wpAny_setField_rec hz (by simp) λ g1 hz1 e1=>?_)))));have hz1:IsZip g1 z TI TO .ellipsis:=hz1;have e1:Heap.SameBut z hp g1:=e1;refine wpAny_bind ?_;simp only[List.zipIdx_cons,List.zipIdx_nil,List.forIn_cons,List.forIn_nil];refine wpAny_bind (wpAny_bind (wpAny_onRaise ?_));show wpAny _ _ (Builtin.SmallTypes.nextOf (.ref i1) >>= _) _ _ _;have h11:S1 k g1:=D1.frame k hp g1 h1 λ c hc o q=>e1.extBut c o (λ y=>zf1 (y▸hc)) q;rcases hend with rfl | ⟨hk1,rfl⟩
 ·refine wpAny_bind (D1.done _ _ _ h11 λ g2 e e2 he=>?_);obtain⟨oe,hoe,hce⟩:=he;have e2:Heap.ExtBut i1 g1 g2:=e2;have hz2:IsZip g2 z TI TO .ellipsis:=e2 _ _ zi1 hz1;have hez:e≠z:=λ q=>by subst q;rw[hz2]at hoe;cases hoe;simp at hce
  refine wpAny_setField_rec hz2 (by simp) λ g3 _ e3=>hE g3 e tk0 (λ c o hc q=>?_) ⟨oe,e3.extBut _ _ hez hoe,hce⟩;simp only[List.mem_cons,List.not_mem_nil,or_false,not_or]at hc;exact e3.extBut _ _ hc.1 (e2 _ _ hc.2.2.1 (e1.extBut _ _ hc.1 q))
 ·refine wpAny_bind (D1.item k _ _ _ hk1 h11 λ x g2 t2 hx h12 e2=>wpAny_pure ?_);have e2:Heap.SameBut i1 g1 g2:=e2;have hTO2:IsPair g2 TO a b:=e2.extBut _ _ TOi1 (e1.extBut _ _ (Ne.symm zTO) hTO);refine wpAny_bind (wpAny_seqItems hTO2 rfl (wpAny_bind (wpAny_updateSeq_pair hTO2 λ g3 hTO3 e3=>?_)));have e3:Heap.SameBut TO g2 g3:=e3;refine wpAny_bind (wpAny_letGo (wpAny_pure ?_));refine wpAny_bind (wpAny_bind (wpAny_onRaise ?_));show wpAny _ _ (Builtin.SmallTypes.nextOf (.ref i2) >>= _) _ _ _;have h23:S2 k g3:=D2.frame k hp g3 h2 λ c hc o q=>e3.extBut c o (λ y=>TOf2 (y▸hc)) (e2.extBut c o (λ y=>i1f2 (y▸hc)) (e1.extBut c o (λ y=>zf2 (y▸hc)) q));refine wpAny_bind (D2.done _ _ _ h23 λ g4 e e4 he=>?_);obtain⟨oe,hoe,hce⟩:=he;have e4:Heap.ExtBut i2 g3 g4:=e4;have hz4:IsZip g4 z TI TO .ellipsis:=e4 _ _ zi2 (e3.extBut _ _ zTO (e2.extBut _ _ zi1 hz1));have hez:e≠z:=λ q=>by subst q;rw[hz4]at hoe;cases hoe;simp at hce
  refine wpAny_setField_rec hz4 (by simp) λ g5 _ e5=>hE g5 e t2 (λ c o hc q=>?_) ⟨oe,e5.extBut _ _ hez hoe,hce⟩;simp only[List.mem_cons,List.not_mem_nil,or_false,not_or]at hc;exact e5.extBut _ _ hc.1 (e4 _ _ hc.2.2.2 (e3.extBut _ _ hc.2.1 (e2.extBut _ _ hc.2.2.1 (e1.extBut _ _ hc.1 q))))
end
end ZS
namespace ZS
open PySem PySem.Spec PyProof.Rows L2
def ItP(J1 J2:Inn):It:=⟨λ i H=>(∃y,J1.at_ i H y)∧∃y,J2.at_ i H y,
 λ i H x H'=>∃T y1 y2,H T=none∧x=.ref T∧H'=upd H T (.tup [y1,y2])∧J1.at_ i H y1∧J2.at_ i H y2,
 λ i H=>(J1.end_ i H∧((∃y,J2.at_ i H y)∨J2.end_ i H))∨((∃y,J1.at_ i H y)∧J2.end_ i H)⟩
theorem notK{X:Cx}{pins:List (Addr×Obj)}{σ:St}{H:Hp}{s:Shared}{b:Addr}{o:Obj}(I:Inv X pins σ H s)(f:FpOk X pins H b)(h:X.K.lookup b=some o):False:=by
 have hb:=I.ok.mod.kin b o h;rcases f.2.2.2.1 with z | z
 ·exact I.ok.noex b o hb z
 ·exact absurd (Heap.lt_size (I.ok.bs b o hb).1) (Nat.not_lt.mpr z)
def tnZ(z TI TO i1 i2:Addr)(n1 n2:Nat->Heap->Prop)(i:Nat)(h:Heap):Prop:=IsZip h z TI TO .none∧IsPair h TI (.ref i1) (.ref i2)∧(∃a b,IsPair h TO a b)∧n1 i h∧n2 i h
theorem pair_obj{h:Heap}{T:Addr}{a b:Value}(p:IsPair h T a b):∃o,h.get? T=some o∧∀v,o.data≠.cell v :=
 ⟨_,p,λ v z=>by have z':Data.seq _ _=Data.cell v:=z;cases z'⟩
theorem mD{P : Program}{w : World}{K : PySem.W.Frag}{J1 J2 : Inn}{z TI TO i1 i2 : Addr}{n1 n2 : Nat -> Heap -> Prop}{elts : List Expr}{x1 : Nat}{pos : Pos}(S1 : Src P w K J1 i1 n1)(S2 : Src P w K J2 i2 n2)(nd : [z, TI, TO, i1, i2].Nodup):
  Turn P w K (.Tuple elts x1 pos) (ItP J1 J2) [z,TI,TO,i1,i2] z (tnZ z TI TO i1 i2 n1 n2):=by
 have far:∀{X:Cx}{pins:List (Addr×Obj)}{σ:St}{H:Hp}{s:Shared}{f1 f2:List Addr},X.K=K->Inv X pins σ H s->(∀b∈[z,TI,TO,i1,i2],FpOk X pins H b) ->
   (∀b∈f1,b=i1∨∃o,s.heap.get? b=some o∧o.cls≠.type "enumerate" ∧ o.cls≠.type "zip" ∧ (H b=none->∃o',K.lookup b=some o')) ->
   (∀b∈f2,b=i2∨∃o,s.heap.get? b=some o∧o.cls≠.type "enumerate" ∧ o.cls≠.type "zip" ∧ (H b=none->∃o',K.lookup b=some o'))->Far z TI TO i1 i2 f1 f2:=by
  intro X pins σ H s f1 f2 hK I hf g1 g2;subst hK;have nd':=nd;simp only[List.nodup_cons,List.mem_cons,List.not_mem_nil,or_false,not_or,List.nodup_nil,and_true,not_false_eq_true]at nd';obtain⟨⟨zTI,zTO,zi1,zi2⟩,⟨TITO,TIi1,TIi2⟩,⟨TOi1,TOi2⟩,i12⟩:=nd';have no1:∀b,b∈[z,TI,TO,i1,i2]->b≠i1->b∉f1:=λ b hb hne hm=>by
   rcases g1 b hm with q | ⟨o,_,_,_,q⟩
   ·exact hne q
   ·obtain⟨o',h'⟩:=q (hf b hb).1;exact notK I (hf b hb) h'
  have no2:∀b,b∈[z,TI,TO,i1,i2]->b≠i2->b∉f2:=λ b hb hne hm=>by
   rcases g2 b hm with q | ⟨o,_,_,_,q⟩
   ·exact hne q
   ·obtain⟨o',h'⟩:=q (hf b hb).1;exact notK I (hf b hb) h'
  exact⟨nd,⟨no1 z (by simp) zi1,no1 TO (by simp) TOi1,no1 i2 (by simp) (Ne.symm i12)⟩,⟨no2 z (by simp) zi2,no2 TO (by simp) TOi2,no2 i1 (by simp) i12⟩⟩
 refine⟨by simp,λ i h st b hb=>?_,λ i h h' st k=>?_,?_,?_,λ A i s Q E st hQ=>wpAny_pyIter_zip st.1 hQ⟩
 ·obtain⟨hz,hTI,⟨a,b',hTO⟩,h1,h2⟩:=st;simp only[List.mem_cons,List.not_mem_nil,or_false]at hb;rcases hb with rfl | rfl | rfl | rfl | rfl
  ·exact⟨_,hz,λ v z=>by have z':Data.fields _=Data.cell v:=z;cases z'⟩
  ·exact pair_obj hTI
  ·exact pair_obj hTO
  ·obtain⟨o,q,r,_⟩:=S1.obj i h h1;exact⟨o,q,r⟩
  ·obtain⟨o,q,r,_⟩:=S2.obj i h h2;exact⟨o,q,r⟩
 ·obtain⟨hz,hTI,⟨a,b',hTO⟩,h1,h2⟩:=st;exact⟨k z (by simp) _ hz,k TI (by simp) _ hTI,⟨a,b',k TO (by simp) _ hTO⟩,S1.keep i h h' h1 λ o q=>k i1 (by simp) o q,S2.keep i h h' h2 λ o q=>k i2 (by simp) o q⟩
 ·intro X hP hw hK hc i pins s σ H E I hf st hg;obtain⟨hz,hTI,⟨a,b',hTO⟩,h1,h2⟩:=st;obtain⟨f1,m1,P1,T1,D1,hs1,_,hfp1,hat1,_,hin1⟩:=S1.draw X hP hw hK hc i pins s σ H I h1 (.inl hg.1);obtain⟨f2,m2,P2,T2,D2,hs2,_,hfp2,hat2,_,hin2⟩:=S2.draw X hP hw hK hc i pins s σ H I h2 (.inl hg.2);obtain⟨hi1,hv1⟩:=hat1 hg.1;obtain⟨hi2,hv2⟩:=hat2 hg.2;have FR:=far hK I hf hfp1 hfp2;subst hP hw hK;have hT:s.TypeIs (.ref z) "zip" := ⟨_,hz,rfl⟩
  unfold pyNext;refine wpAny_bind (wpAny_attempt (wpAny_callSpecial?_slot (name:=Str.ofString "__next__") hT F.slot_zip_next (wpAny_call_entry F.slot_zip_next hT F.entry_zip_next (zipD_item FR D1 D2 hz hTI hTO hs1 hs2 hi1 hi2 λ x y h' tk px py z' to' s1' s2' tt kp=>wpAny_pure ?_) (F.args_zip_next_1 _))));refine⟨_,rfl,?_⟩;obtain⟨y1,r1,a1⟩:=hv1 x px;obtain⟨y2,r2,a2⟩:=hv2 y py;have lt:∀{c o},s.heap.get? c=some o->c≠s.heap.objs.size:=λ q=>Nat.ne_of_lt (Heap.lt_size q);have hTn:H s.heap.objs.size=none:=I.fresh;have hTz:s.heap.objs.size≠z:=(lt hz).symm;refine wpAny_letOwnedTupleGo_zip z' λ h2' hz2 hs2'=>?_;have nd':=nd;simp only[List.nodup_cons,List.mem_cons,List.not_mem_nil,or_false,not_or,List.nodup_nil,and_true,not_false_eq_true]at nd';obtain⟨⟨zTI,zTO,zi1,zi2⟩,⟨TITO,TIi1,TIi2⟩,⟨TOi1,TOi2⟩,i12⟩:=nd';have tt2:h2'.IsTuple s.heap.objs.size [x,y].toArray:=⟨_,hs2'.extBut _ _ hTz tt,rfl,_,rfl⟩
  have I2:Inv X pins σ (upd H s.heap.objs.size (.tup [y1,y2])) { s with heap:=h2',toks:=tk } :=
   turnedT (ch:=[z,TO,i1,i2]) I (λ b o hb q=>hs2'.extBut b o (λ e=>hb (by simp[e])) (kp b o hb q)) (λ b hb=>hf b (by simp only[List.mem_cons,List.not_mem_nil,or_false]at hb ⊢;rcases hb with e | e | e | e<;>simp[e])) (Nat.le_refl _) tt2 (.cons r1 (.cons r2 .nil)) (by show 2≤sizeLine;decide)
  have k1:n1 (i+1) h2':=S1.keep _ _ _ (hin1 _ _ s1') λ o q=>hs2'.extBut i1 o (Ne.symm zi1) q;have k2:n2 (i+1) h2':=S2.keep _ _ _ (hin2 _ _ s2') λ o q=>hs2'.extBut i2 o (Ne.symm zi2) q;have kTI:IsPair h2' TI (.ref i1) (.ref i2):=hs2'.extBut _ _ (Ne.symm zTI) (kp TI _ (by simp only[List.mem_cons,List.not_mem_nil,or_false,not_or];exact⟨Ne.symm zTI,TITO,TIi1,TIi2⟩) hTI);refine⟨.ref _,_,I2,rfl,⟨_,y1,y2,hTn,rfl,rfl,a1,a2⟩,⟨hz2,kTI,⟨x,y,hs2'.extBut _ _ (Ne.symm zTO) to'⟩,k1,k2⟩,λ b hb=>?_⟩;have hbT:b≠s.heap.objs.size:=by
   simp only[List.mem_cons,List.not_mem_nil,or_false]at hb;rcases hb with rfl | rfl | rfl | rfl | rfl
   ·exact lt hz
   ·exact lt hTI
   ·exact lt hTO
   ·obtain⟨o,q,_⟩:=S1.obj i _ h1;exact lt q
   ·obtain⟨o,q,_⟩:=S2.obj i _ h2;exact lt q
  rw[aK hbT];exact(hf b hb).1
 ·intro X hP hw hK hc i pins s σ H E I hf st hg;obtain⟨hz,hTI,⟨a,b',hTO⟩,h1,h2⟩:=st;have g1:(∃y,J1.at_ i H y)∨J1.end_ i H:=by
   rcases hg with⟨q,_⟩ | ⟨q,_⟩
   ·exact .inr q
   ·exact .inl q
  have g2:(∃y,J2.at_ i H y)∨J2.end_ i H:=by
   rcases hg with⟨_,q⟩ | ⟨_,q⟩
   ·exact q
   ·exact .inr q
  obtain⟨f1,m1,P1,T1,D1,hs1,_,hfp1,hat1,hend1,hin1⟩:=S1.draw X hP hw hK hc i pins s σ H I h1 g1;obtain⟨f2,m2,P2,T2,D2,hs2,_,hfp2,hat2,hend2,hin2⟩:=S2.draw X hP hw hK hc i pins s σ H I h2 g2;have FR:=far hK I hf hfp1 hfp2;have he:i=m1∨(i < m1∧i=m2):=by
   rcases hg with⟨q,_⟩ | ⟨q,q2⟩
   ·exact .inl (hend1 q)
   ·exact .inr ⟨(hat1 q).1,hend2 q2⟩
  subst hP hw hK;have hT:s.TypeIs (.ref z) "zip" := ⟨_,hz,rfl⟩
  unfold pyNext;refine wpAny_bind (wpAny_attempt (wpAny_callSpecial?_slot (name:=Str.ofString "__next__") hT F.slot_zip_next (wpAny_call_entry F.slot_zip_next hT F.entry_zip_next (zipD_end FR D1 D2 hz hTI hTO hs1 hs2 he λ h' e tk kp hx=>?_) (F.args_zip_next_1 _))));obtain⟨o,ho,hco⟩:=hx;refine wpAny_bind (wpAny_isInstance (T := "StopIteration") (b:=true) ⟨o,ho,hco⟩ isSubtype_stop (wpAny_pure ⟨rfl,?_⟩));exact turnedL (ch:=[z,TO,i1,i2]) I kp λ b hb=>hf b (by simp only[List.mem_cons,List.not_mem_nil,or_false]at hb ⊢;rcases hb with e | e | e | e<;>simp[e])
abbrev zh(T1 T2:String)(h:Heap)(l1 l2:Addr):Heap:=((((h.push { cls:=.type T1,data:=.fields #[.ref l1,.int 0 0] }).push { cls:=.type T2,data:=.fields #[.ref l2,.int 0 0] }).push { cls:=.type "tuple",data:=.seq #[.ref h.objs.size,.ref (h.objs.size+1)] }).push { cls:=.type "tuple",data:=.seq #[.none,.none] }).push
 { cls:=.type "zip",data:=.fields #[.none,.bool false,.bool false,.ref (h.objs.size+2),.ref (h.objs.size+3)] }
theorem meets_zipTT(l1 l2:Addr)(xs ys:Array Value):Meets (Builtin.«zip.__new__» ⟨[.type "zip",.ref l1,.ref l2],[]⟩) (λ _ R s=>s.heap.IsTuple l1 xs∧s.heap.IsTuple l2 ys∧R (.ok (.ret (.ref (s.heap.objs.size+4)))) { s with heap:=zh "tuple_iterator" "tuple_iterator" s.heap l1 l2 }) :=
 .of_wp λ prog w A R s h=>by
  obtain⟨hp,gs,dr,tk,os⟩:=s;obtain⟨hl1,hl2,h⟩:=h;have hsub:=sub_zip;have q1:Heap.IsTuple (Shared.heap ⟨hp,gs,dr,tk,os⟩) l1 xs:=hl1;have q2:Heap.IsTuple (Shared.heap ⟨hp.push { cls:=.type "tuple_iterator",data:=.fields #[.ref l1,.int 0 0] },gs,dr,tk,os⟩) l2 ys:=Heap.IsTuple.push hl2 _
  wp_walk using wpAny_pyIter_tuple q1,wpAny_pyIter_tuple q2
  simp only[zh,Heap.size_push]at h ⊢;exact⟨_,rfl,h⟩
theorem meets_zipLT(l1 l2:Addr)(xs ys:Array Value):Meets (Builtin.«zip.__new__» ⟨[.type "zip",.ref l1,.ref l2],[]⟩) (λ _ R s=>s.heap.IsList l1 xs∧s.heap.IsTuple l2 ys∧R (.ok (.ret (.ref (s.heap.objs.size+4)))) { s with heap:=zh "list_iterator" "tuple_iterator" s.heap l1 l2 }) :=
 .of_wp λ prog w A R s h=>by
  obtain⟨hp,gs,dr,tk,os⟩:=s;obtain⟨hl1,hl2,h⟩:=h;have hsub:=sub_zip;have q1:Heap.IsList (Shared.heap ⟨hp,gs,dr,tk,os⟩) l1 xs:=hl1;have q2:Heap.IsTuple (Shared.heap ⟨hp.push { cls:=.type "list_iterator",data:=.fields #[.ref l1,.int 0 0] },gs,dr,tk,os⟩) l2 ys:=Heap.IsTuple.push hl2 _
  wp_walk using wpAny_pyIter_list q1,wpAny_pyIter_tuple q2
  simp only[zh,Heap.size_push]at h ⊢;exact⟨_,rfl,h⟩
theorem my(T1 T2:String)(h:Heap)(l1 l2:Addr):IsZip (zh T1 T2 h l1 l2) (h.objs.size+4) (h.objs.size+2) (h.objs.size+3) .none∧IsPair (zh T1 T2 h l1 l2) (h.objs.size+2) (.ref h.objs.size) (.ref (h.objs.size+1))∧IsPair (zh T1 T2 h l1 l2) (h.objs.size+3) .none .none ∧
  (zh T1 T2 h l1 l2).get? h.objs.size=some { cls:=.type T1,data:=.fields #[.ref l1,.int 0 0] }∧(zh T1 T2 h l1 l2).get? (h.objs.size+1)=some { cls:=.type T2,data:=.fields #[.ref l2,.int 0 0] }∧∀c o,h.get? c=some o->(zh T1 T2 h l1 l2).get? c=some o:=by
 have z1:(h.push { cls:=.type T1,data:=.fields #[.ref l1,.int 0 0] }).objs.size=h.objs.size+1:=Heap.size_push ..;have z2:((h.push { cls:=.type T1,data:=.fields #[.ref l1,.int 0 0] }).push { cls:=.type T2,data:=.fields #[.ref l2,.int 0 0] }).objs.size=h.objs.size+2:=by rw[Heap.size_push,z1]
 have z3:(((h.push { cls:=.type T1,data:=.fields #[.ref l1,.int 0 0] }).push { cls:=.type T2,data:=.fields #[.ref l2,.int 0 0] }).push { cls:=.type "tuple",data:=.seq #[.ref h.objs.size,.ref (h.objs.size+1)] }).objs.size=h.objs.size+3:=by rw[Heap.size_push,z2]
 have z4:((((h.push { cls:=.type T1,data:=.fields #[.ref l1,.int 0 0] }).push { cls:=.type T2,data:=.fields #[.ref l2,.int 0 0] }).push { cls:=.type "tuple",data:=.seq #[.ref h.objs.size,.ref (h.objs.size+1)] }).push { cls:=.type "tuple",data:=.seq #[.none,.none] }).objs.size=h.objs.size+4:=by rw[Heap.size_push,z3]
 refine⟨?_,?_,?_,?_,?_,λ c o q=>?_⟩
 ·show Heap.get? _ _=_;rw[<-z4];exact Heap.get?_push_size _ rfl
 ·show Heap.get? _ _=_;rw[<-z2];exact Heap.get?_push_of_some _ (Heap.get?_push_of_some _ (Heap.get?_push_size _ rfl))
 ·show Heap.get? _ _=_;rw[<-z3];exact Heap.get?_push_of_some _ (Heap.get?_push_size _ rfl)
 ·exact Heap.get?_push_of_some _ (Heap.get?_push_of_some _ (Heap.get?_push_of_some _ (Heap.get?_push_of_some _ (Heap.get?_push_size _ rfl))))
 ·show Heap.get? _ _=_;rw[<-z1];exact Heap.get?_push_of_some _ (Heap.get?_push_of_some _ (Heap.get?_push_of_some _ (Heap.get?_push_size _ rfl)))
 ·exact Heap.get?_push_of_some _ (Heap.get?_push_of_some _ (Heap.get?_push_of_some _ (Heap.get?_push_of_some _ (Heap.get?_push_of_some _ q))))
theorem zipD_get:∀(xs ys:List Z.D)(i:Nat),(Z.gR xs ys)[i]?=(xs[i]?).bind λ x=>(ys[i]?).map λ y=>Z.pair x y
 | [],ys,i=>by cases ys<;>simp[Z.gR]
 | x :: xs,[],i=>by simp[Z.gR]
 | x :: xs,y :: ys,0=>by simp[Z.gR]
 | x :: xs,y :: ys,i+1=>by simp[Z.gR,zipD_get xs ys i]
theorem zipD_len:∀(xs ys:List Z.D),(Z.gR xs ys).length=min xs.length ys.length
 | [],ys=>by cases ys<;>simp[Z.gR]
 | x :: xs,[]=>by simp[Z.gR]
 | x :: xs,y :: ys=>by simp[Z.gR,zipD_len xs ys]
structure Gives(K:PySem.W.Frag)(J:Inn)(S:Hp->Prop)(ds:List Z.D):Prop where
 at_:∀(i:Nat) d H1,S H1->ds[i]?=some d->(∃y,J.at_ i H1 y)∧∀y,J.at_ i H1 y->Den K H1 d y
 end_:∀H1,S H1->J.end_ ds.length H1
theorem itz_zip{K : PySem.W.Frag}{J1 J2 : Inn}{S : Hp -> Prop}{xs ys : List Z.D}(g1 : Gives K J1 S xs)(g2 : Gives K J2 S ys): ItZ K (ItP J1 J2) S (Z.gR xs ys) where
 go:=λ i d H1 s hi=>by
  rw[zipD_get]at hi;cases q:xs[i]? with
  | none=>rw[q]at hi;cases hi
  | some x =>
   rw[q]at hi;cases q2:ys[i]? with
   | none=>simp[q2]at hi
   | some y=>exact⟨(g1.at_ i x H1 s q).1,(g2.at_ i y H1 s q2).1⟩
 yld:=λ i d H1 H2 x s hi y=>by
  obtain⟨T,y1,y2,hT,rfl,rfl,a1,a2⟩:=y;rw[zipD_get]at hi;cases q:xs[i]? with
  | none=>rw[q]at hi;cases hi
  | some x =>
   rw[q]at hi;cases q2:ys[i]? with
   | none=>simp[q2]at hi
   | some y =>simp only[q2,Option.bind_some,Option.map_some,Option.some.injEq]at hi;subst hi;have sm:aD H1 (upd H1 T (.tup [y1,y2])):=bG hT;exact⟨sm,fT (.inl (.inl aX)) (ax.cons (((g1.at_ i x H1 s q).2 y1 a1).up sm) (ax.cons (((g2.at_ i y H1 s q2).2 y2 a2).up sm) ax.nil))⟩
 stop:=λ H1 s=>by
  rw[zipD_len];have e1:=g1.end_ H1 s;have e2:=g2.end_ H1 s;rcases Nat.lt_trichotomy xs.length ys.length with h | h | h
  ·rw[Nat.min_eq_left (Nat.le_of_lt h)];exact .inl ⟨e1,.inl (g2.at_ xs.length _ H1 s (List.getElem?_eq_getElem h)).1⟩
  ·rw[Nat.min_eq_left (Nat.le_of_eq h)];rw[<-h]at e2;exact .inl ⟨e1,.inr e2⟩
  ·rw[Nat.min_eq_right (Nat.le_of_lt h)];exact .inr ⟨(g1.at_ ys.length _ H1 s (List.getElem?_eq_getElem h)).1,e2⟩
theorem il{K:PySem.W.Frag}{H:Hp}{q:Addr}{vs:List V}{ds:List Z.D}(h:k? K H q vs)(t:ax K H ds vs):Gives K (innT K q vs) (i5 H) ds :=
 ⟨λ i d H1 s hi=>by obtain⟨y,hy,dy⟩:=t.get hi;refine⟨⟨y,gI s h,hy⟩,λ y' hy'=>?_⟩;have:=hy'.2;rw[hy]at this;cases this;exact dy.ups s,λ H1 s=>⟨gI s h,t.length⟩⟩
theorem gives_lst{K:PySem.W.Frag}{H:Hp}{q:Addr}{vs:List V}{ds:List Z.D}(h:FzL K H q vs)(t:ax K H ds vs):Gives K (innL K q vs) (i5 H) ds :=
 ⟨λ i d H1 s hi=>by obtain⟨y,hy,dy⟩:=t.get hi;refine⟨⟨y,(h.mono s).sq,hy⟩,λ y' hy'=>?_⟩;have:=hy'.2;rw[hy]at this;cases this;exact dy.ups s,λ H1 s=>⟨(h.mono s).sq,t.length⟩⟩
section
variable {X:Cx}{a b:Expr}{pos p p2:Pos}{fa fb:Z.EF}{elts:List Expr}{x1:Nat}
theorem fp_five{pins:List (Addr×Obj)}{σ:St}{H:Hp}{s:Shared}(I:Inv X pins σ H s):∀b∈[s.heap.objs.size+4,s.heap.objs.size+2,s.heap.objs.size+3,s.heap.objs.size,s.heap.objs.size+1],FpOk X pins H b:=λ b hb=>by
 have h:s.heap.objs.size≤b:=by simp only[List.mem_cons,List.not_mem_nil,or_false]at hb;lia
 exact I.fpOk h (I.dO.fresh h)
theorem nd_five(n:Nat):[n+4,n+2,n+3,n,n+1].Nodup:=by simp only[List.nodup_cons,List.mem_cons,List.not_mem_nil,or_false,not_or,List.nodup_nil,and_true,not_false_eq_true];lia
theorem dj_zip(hg:Gl X "zip")(hm:X.mg "zip" = none)(ha:DE X a fa)(hb:DE X b fb)(hs:starEach [a,b] X.env=[(false,eval a X.env),(false,eval b X.env)]:=by rfl)(hs2:starEach [b] X.env=[(false,eval b X.env)]:=by rfl)
  (h1:starEach (a :: [b]) X.env=(false,eval a X.env) :: starEach [b] X.env:=by rfl) (h2:starEach (b :: []) X.env=(false,eval b X.env) :: starEach [] X.env:=by rfl):DJ X (.Tuple elts x1 p2) (.Call (.Name "zip" p) [a,b] [] pos) (Z.iZip fa fb):=by
 intro pins s σ H R I w;obtain⟨ρ,ds,r,e,k⟩:=w;obtain⟨d1,ea,e⟩:=Z.Res.ao e;obtain⟨d2,eb,e⟩:=Z.Res.ao e;obtain⟨xs,ex,e⟩:=Z.Res.ao e;obtain⟨ys,ey,e⟩:=Z.Res.ao e;cases e;refine Call_ (l? I hg hm (by kernel_rfl:bootBuiltins "zip" = some (.type "zip")) (PyProof.Rows.callWith_type1 (du ((a! ha (a! hb cQ h2) h1) pos pins s σ H (λ vs H1=>∃v u,vs=[v,u]∧aD H H1∧Den X.K H1 d1 v∧Den X.K H1 d2 u) I ⟨ρ,d1,r,ea,λ v H1 s1 q1=>⟨ρ,d2,r.up s1,eb,λ u H2 s2 q2=>⟨v,u,rfl,s1.trans s2,q1.up s2,q2⟩⟩⟩) λ us s1 ⟨vs,H1,I1,r1,q1⟩=>?_) (by rw[hs,hs2]) (by rw[hs2];rfl)));obtain⟨v,u,rfl,sm,hd1,hd2⟩:=q1;obtain⟨u1,u2,rfl,ru1,ru2⟩:=vals2 r1;have hd2':∃ys0,d2=.tup ys0∧ys0=ys:=by
  cases d2 with
  | tup ys0=>cases ey;exact⟨_,rfl,rfl⟩
  | non=>cases ey
  | bl _=>cases ey
  | int _=>cases ey
  | str _=>cases ey
  | lst _=>cases ey
  | dct _ _=>cases ey
 obtain⟨_,rfl,rfl⟩:=hd2';obtain⟨q2,vs2,rfl,hq2,t2⟩:=aZ.tup (.inl hd2);cases ru2;obtain⟨dq,rv2,pt2,_⟩:=I1.tuple hq2;cases d1 with
 | tup xs0 =>cases ex;obtain⟨q,vs,rfl,hq,t⟩:=aZ.tup (.inl hd1);cases ru1;obtain⟨aM,rv,pt,hz⟩:=I1.tuple hq;obtain⟨f1,f2,f3,f4,f5,f6⟩:=my "tuple_iterator" "tuple_iterator" s1.heap q q2;refine callType_new F.called_zip (by decide) (F.typeCall_zip_2 _ _) (F.newCall_zip_2 _ _) (λ obj=>F.args_object_init_3 obj _ _) F.entry_zip_new (meets_zipTT q q2 aM.toArray dq.toArray) ⟨pt,pt2,⟨_,f1,rfl⟩,wpAny_pyIter_zip f1 ?_⟩;exact⟨_,[s1.heap.objs.size+4,s1.heap.objs.size+2,s1.heap.objs.size+3,s1.heap.objs.size,s1.heap.objs.size+1],_,ItP (innT X.K q vs) (innT X.K q2 vs2),H1,rfl,I1.kept (t':=s1.toks) f6,mD jB jB (nd_five _),⟨f1,f2,⟨_,_,f3⟩,⟨_,f4,rfl,rfl⟩,⟨_,f5,rfl,rfl⟩⟩,fp_five I1,k _ H1 sm (itz_zip (il hq t) (il hq2 t2))⟩
 | lst xs0 =>cases ex;simp only[Den]at hd1;obtain⟨q,vs,rfl,hq,t⟩:=hd1;cases ru1;obtain⟨aM,rv,pt,hz⟩:=I1.list hq.sq;obtain⟨f1,f2,f3,f4,f5,f6⟩:=my "list_iterator" "tuple_iterator" s1.heap q q2;refine callType_new F.called_zip (by decide) (F.typeCall_zip_2 _ _) (F.newCall_zip_2 _ _) (λ obj=>F.args_object_init_3 obj _ _) F.entry_zip_new (meets_zipLT q q2 aM.toArray dq.toArray) ⟨pt.isList,pt2,⟨_,f1,rfl⟩,wpAny_pyIter_zip f1 ?_⟩;exact⟨_,[s1.heap.objs.size+4,s1.heap.objs.size+2,s1.heap.objs.size+3,s1.heap.objs.size,s1.heap.objs.size+1],_,ItP (innL X.K q vs) (innT X.K q2 vs2),H1,rfl,I1.kept (t':=s1.toks) f6,mD src_lst jB (nd_five _),⟨f1,f2,⟨_,_,f3⟩,⟨_,f4,rfl,rfl⟩,⟨_,f5,rfl,rfl⟩⟩,fp_five I1,k _ H1 sm (itz_zip (gives_lst hq t) (il hq2 t2))⟩
 | non=>cases ex
 | bl _=>cases ex
 | int _=>cases ex
 | str _=>cases ex
 | dct _ _=>cases ex
end
end ZS
namespace ZQ
open PySem PySem.Spec PyProof.Rows L2 ZS
section
variable {X:Cx}{a b:Expr}{pos p p2:Pos}{fa fb:Z.EF}{elts:List Expr}{x1:Nat}
theorem nH(hg:Gl X "enumerate")(hm:X.mg "enumerate" = none)(ha:QE X a fa)(hs:starEach [a] X.env=[(false,eval a X.env)]:=by rfl)(hs1:starEach (a :: []) X.env=(false,eval a X.env) :: starEach [] X.env:=by rfl):QJ X (.Tuple elts x1 p2) (.Call (.Name "enumerate" p) [a] [] pos) (Z.iEnum fa) :=
 ⟨ZS.nH hg hm ha.p hs hs1⟩
theorem dj_zip(hg:Gl X "zip")(hm:X.mg "zip" = none)(ha:QE X a fa)(hb:QE X b fb)(hs:starEach [a,b] X.env=[(false,eval a X.env),(false,eval b X.env)]:=by rfl)(hs2:starEach [b] X.env=[(false,eval b X.env)]:=by rfl)
  (h1:starEach (a :: [b]) X.env=(false,eval a X.env) :: starEach [b] X.env:=by rfl) (h2:starEach (b :: []) X.env=(false,eval b X.env) :: starEach [] X.env:=by rfl):QJ X (.Tuple elts x1 p2) (.Call (.Name "zip" p) [a,b] [] pos) (Z.iZip fa fb) :=
 ⟨ZS.dj_zip hg hm ha.p hb.p hs hs2 h1 h2⟩
end
end ZQ
noncomputable section
namespace Z
end Z
end
namespace ZS
open PySem PySem.Spec PyProof.Rows L2
end ZS
namespace ZQ
open PySem PySem.Spec PyProof.Rows L2 ZS
end ZQ
noncomputable section
namespace Z
def intsD(hi:Int)(n:Nat):List D:=(List.range n).map λ i=>D.int (hi-(i:Nat))
def downD:D->D->D->Res (List D)
 | .int i,.int j,.int k=>guard (k=-1∧-1000000000≤i∧i≤1000000000∧-1000000000≤j∧j≤1000000000) (.ok (intsD i (i-j).toNat))
 | _,_,_=>.bad
def iRngD(a b c:EF)(ρ:Env):Res (List D):=(a ρ).bind λ x=>(b ρ).bind λ y=>(c ρ).bind λ z=>downD x y z
@[simp] theorem iRngD_a(a b c:EF)(ρ:Env):iRngD a b c ρ=(a ρ).bind λ x=>(b ρ).bind λ y=>(c ρ).bind λ z=>downD x y z:=rfl
def repK:D->D->Res (List D)
 | .lst [d],.int n=>guard (0≤n∧n≤16777216) (.ok (List.replicate n.toNat d))
 | _,_=>.bad
theorem repK_a(d:D)(n:Int):repK (.lst [d]) (.int n)=guard (0≤n∧n≤16777216) (.ok (List.replicate n.toNat d)):=rfl
theorem repK_ok{x y:D}{ds:List D}(h:repK x y=.ok ds):∃d n,x=.lst [d]∧y=.int n∧0≤n∧n≤16777216∧ds=List.replicate n.toNat d:=by
 unfold repK at h;split at h
 ·obtain⟨⟨h1,h2⟩,e⟩:=iB h;cases e;exact⟨_,_,rfl,rfl,h1,h2,rfl⟩
 ·cases h
def lRep(a:LF)(b:EF)(ρ:Env):Res (List D):=(a ρ).bind λ xs=>(b ρ).bind λ y=>repK (.lst xs) y
@[simp] theorem lRep_a(a:LF)(b:EF)(ρ:Env):lRep a b ρ=(a ρ).bind λ xs=>(b ρ).bind λ y=>repK (.lst xs) y:=rfl
def oNotT:D->Res D
 | .bl b=>.ok (.bl (!b))
 | _=>.bad
@[simp] theorem oNotT_bl(b:Bool):oNotT (.bl b)=.ok (.bl (!b)):=rfl
end Z
end
namespace ZS
open PySem PySem.Spec PyProof.Rows L2
section
variable {X:Cx}{tg:Expr}
variable {a b c:Expr}{p pos:Pos}{fa fb fc:Z.EF}
theorem dens_rep{K:PySem.W.Frag}{H:Hp}{d:Z.D}{w:V}(h:Den K H d w):∀n,ax K H (List.replicate n d) (List.replicate n w)
 | 0=>ax.nil
 | n+1=>ax.cons h (dens_rep h n)
theorem flat_one{w:V}:∀n:Nat,(List.replicate n [w]).flatten=List.replicate n w
 | 0=>rfl
 | n+1=>by rw[List.replicate_succ,List.flatten_cons,flat_one n];rfl
theorem dl_rep{la:Z.LF}(ha:DL X a la)(hb:DW X b fb):DL X (.BinOp a .Mult b pos) (Z.lRep la fb):=PE.imp (pe_op L2.op_rep ha hb) λ σ H Q ⟨ρ,ds,r,e,k⟩=>by
 obtain⟨xs,ea,e⟩:=Z.Res.ao e;obtain⟨y,eb,e⟩:=Z.Res.ao e;obtain⟨d,n,hx,rfl,h0,h1,rfl⟩:=Z.repK_ok e;cases hx;refine⟨ρ,[d],r,ea,λ l vs H1 s1 hn hv t=>⟨ρ,_,r.up s1,eb,λ u H2 s2 d2=>?_⟩⟩;simp only[ax]at t;obtain⟨w,r',rfl,dw,rfl⟩:=t;refine⟨l,n,[w],rfl,d2.int,s2 _ _ hv,by lia,by lia,?_,λ z hz=>?_⟩
 ·rw[sizeLine_eq];simp;lia
 ·rw[flat_one];have s12:=s1.trans s2;have s3:aD H2 (upd H2 z (.lst (List.replicate n.toNat w))):=bG hz;exact k z _ _ (s12.trans s3) (s12.free hz) aX (dens_rep ((dw.up s2).up s3) _)
end
end ZS
namespace ZQ
open PySem PySem.Spec PyProof.Rows L2 ZS
section
variable {X:Cx}{tg a b c:Expr}{p pos:Pos}{fa fb fc:Z.EF}{la:Z.LF}
theorem dl_rep(ha:QL X a la)(hb:QW X b fb):QL X (.BinOp a .Mult b pos) (Z.lRep la fb):=⟨ZS.dl_rep ha.p hb.p⟩
end
end ZQ
noncomputable section
namespace Z
theorem fnB_a(bs:List Bool)(n:Nat)(b:SF)(ds:List D)(h:ds.length=bs.length):fnB bs n b ds=bU (b (startB n bs ds)):=by
 unfold fnB;rw[if_pos h];cases b (startB n bs ds)with
 | bad=>rfl
 | ok f=>cases f<;>rfl
def jx:List D->Option (List (List Nat))
 | []=>some []
 | .str c :: r=>(jx r).map (c :: ·)
 | _ :: _=>none
def kU(sep:List Nat):List (List Nat)->List Nat
 | []=>[]
 | [x]=>x
 | x :: y :: r=>x++sep++kU sep (y :: r)
def oJoin:D->D->Res D
 | .str sep,.lst xs=>match jx xs with
  | some ts=>guard ((ts.map List.length).sum+ts.length*sep.length≤line) (.ok (.str (kU sep ts)))
  | none=>.bad
 | _,_=>.bad
theorem oJoin_ok{x y d:D}(h:oJoin x y=.ok d):∃sep xs ts,x=.str sep∧y=.lst xs∧jx xs=some ts∧(ts.map List.length).sum+ts.length*sep.length≤16777216∧d=.str (kU sep ts):=by
 unfold oJoin at h;split at h
 ·split at h
  ·rename_i hs;obtain⟨h1,e⟩:=iB h;cases e;exact⟨_,_,_,rfl,rfl,hs,h1,rfl⟩
  ·cases h
 ·cases h
theorem textsD_map:∀ts:List (List Nat),jx (ts.map D.str)=some ts
 | []=>rfl
 | t :: ts=>by simp[jx,textsD_map ts]
theorem glued_nil:∀ts:List (List Nat),kU [] ts=ts.flatten
 | []=>rfl
 | [x]=>by simp[kU]
 | x :: y :: r=>by rw[kU,glued_nil (y :: r)];simp
theorem oJoin_nil{ts:List (List Nat)}(h:ts.flatten.length≤16777216):oJoin (.str []) (.lst (ts.map D.str))=.ok (.str ts.flatten):=by show(match jx (ts.map D.str)with | some ts=>guard ((ts.map List.length).sum+ts.length*0≤line) (Res.ok (D.str (kU [] ts))) | none=>Res.bad)=_;rw[textsD_map];simp only[glued_nil];rw[guard_pos];rw[List.length_flatten]at h;simpa using h
def oCntS:D->D->Res D
 | .str t,.str [c]=>.ok (.int (t.count c))
 | _,_=>.bad
@[simp] theorem oCntS_a(t:List Nat)(c:Nat):oCntS (.str t) (.str [c])=.ok (.int (t.count c)):=rfl
theorem oCntS_ok{x y d:D}(h:oCntS x y=.ok d):∃t c,x=.str t∧y=.str [c]∧d=.int (t.count c):=by
 unfold oCntS at h;split at h
 ·cases h;exact⟨_,_,rfl,rfl,rfl⟩
 ·cases h
def oRev:D->Res D
 | .tup xs=>.ok (.tup xs.reverse)
 | .str cs=>guard (cs.length≤line) (.ok (.str cs.reverse))
 | _=>.bad
@[simp] theorem oRev_tup(xs:List D):oRev (.tup xs)=.ok (.tup xs.reverse):=rfl
@[simp] theorem oRev_str(cs:List Nat):oRev (.str cs)=guard (cs.length≤line) (.ok (.str cs.reverse)):=rfl
def gSeq(is:List Nat)(d:D)(ρ:Env):Res Env:=match d with
 | .tup ds=>gg is ds ρ
 | .lst ds=>gg is ds ρ
 | _=>.bad
theorem nu(is:List Nat)(ds:List D)(ρ:Env):gSeq is (.lst ds) ρ=gg is ds ρ:=rfl
end Z
end
namespace ZS
open PySem PySem.Spec PyProof.Rows L2
def DenF(K:PySem.W.Frag)(H:Hp)(b:Bool)(d:Z.D)(v:V):Prop:=if b=true then aZ K H d v else Den K H d v
def i8(K:PySem.W.Frag)(H:Hp):List Bool->List Z.D->List V->Prop
 | [],[],vs=>vs=[]
 | b :: bs,d :: ds,vs=>∃v r,vs=v :: r∧DenF K H b d v∧i8 K H bs ds r
 | _,_,_=>False
theorem DenF.up{K:PySem.W.Frag}{H H':Hp}{b:Bool}{d:Z.D}{v:V}(h:DenF K H b d v)(e:aD H H'):DenF K H' b d v:=by
 unfold DenF at h ⊢;cases b with
 | true=>exact aZ.up (show aZ K H d v from h) e
 | false=>exact Den.up (show Den K H d v from h) e
theorem i8.up{K:PySem.W.Frag}{H H':Hp}(e:aD H H'):∀{bs:List Bool}{ds:List Z.D}{vs:List V},i8 K H bs ds vs->i8 K H' bs ds vs
 | [],[],_,h=>h
 | [],_ :: _,_,h=>h.elim
 | _ :: _,[],_,h=>h.elim
 | b :: bs,d :: ds,_,⟨v,r,e1,h1,h2⟩=>⟨v,r,e1,h1.up e,i8.up e h2⟩
theorem i8.length{K:PySem.W.Frag}{H:Hp}:∀{bs:List Bool}{ds:List Z.D}{vs:List V},i8 K H bs ds vs->vs.length=ds.length∧ds.length=bs.length
 | [],[],vs,h=>by have:vs=[]:=h;subst this;exact⟨rfl,rfl⟩
 | [],_ :: _,_,h=>h.elim
 | _ :: _,[],_,h=>h.elim
 | b :: bs,d :: ds,_,⟨v,r,e1,h1,h2⟩=>by have:=i8.length h2;subst e1;simp[this.1,this.2]
theorem i8.get{K:PySem.W.Frag}{H:Hp}:∀{bs:List Bool}{ds:List Z.D}{vs:List V}{i:Nat}{b:Bool}{d:Z.D},i8 K H bs ds vs->bs[i]?=some b->ds[i]?=some d->∃v,vs[i]?=some v∧DenF K H b d v
 | [],[],_,_,_,_,_,e,_=>by simp at e
 | [],_ :: _,_,_,_,_,h,_,_=>h.elim
 | _ :: _,[],_,_,_,_,h,_,_=>h.elim
 | b :: bs,d :: ds,_,0,b',d',⟨v,r,e1,h1,h2⟩,eb,ed=>by simp at eb ed;subst e1;subst eb;subst ed;exact⟨v,rfl,h1⟩
 | b :: bs,d :: ds,_,i+1,b',d',⟨v,r,e1,h1,h2⟩,eb,ed=>by subst e1;obtain⟨u,q1,q2⟩:=i8.get (i:=i) h2 (by simpa using eb) (by simpa using ed);exact⟨u,by simpa using q1,q2⟩
def tZaF(K:PySem.W.Frag)(bs:List Bool)(f:Z.AF):TA:=λ σ H Q=>∃ρ ds,RE K H σ ρ∧f ρ=.ok ds∧∀vs H',aD H H'->i8 K H' bs ds vs->Q vs H'
abbrev DAF(X:Cx)(es:List Expr)(bs:List Bool)(f:Z.AF):Prop:=PA X es (tZaF X.K bs f)
section
variable {X:Cx}{e:Expr}{es:List Expr}{pos:Pos}{f:Z.EF}
theorem daf_nil:DAF X [] [] Z.aC:=PA.imp cQ λ σ H Q ⟨ρ,ds,r,e,k⟩=>by cases e;exact k [] H (aD.refl H) rfl
theorem k4{bs:List Bool}{g:Z.AF}(ha:DE X e f)(hr:DAF X es bs g)(hs:starEach (e :: es) X.env=(false,eval e X.env) :: starEach es X.env:=by rfl):DAF X (e :: es) (false :: bs) (Z.ab f g):=PA.imp (a! ha hr hs) λ σ H Q ⟨ρ,ds,r,e,k⟩=>by obtain⟨x,ea,e⟩:=Z.Res.ao e;obtain⟨xs,eb,e⟩:=Z.Res.ao e;cases e;exact⟨ρ,x,r,ea,λ v H1 s1 d1=>⟨ρ,xs,r.up s1,eb,λ vs H2 s2 t=>k _ H2 (s1.trans s2) ⟨v,vs,rfl,Den.up d1 s2,t⟩⟩⟩
theorem daf_lend{bs:List Bool}{g:Z.AF}(ha:DW X e f)(hr:DAF X es bs g)(hs:starEach (e :: es) X.env=(false,eval e X.env) :: starEach es X.env:=by rfl):DAF X (e :: es) (true :: bs) (Z.ab f g):=PA.imp (a! ha hr hs) λ σ H Q ⟨ρ,ds,r,e,k⟩=>by obtain⟨x,ea,e⟩:=Z.Res.ao e;obtain⟨xs,eb,e⟩:=Z.Res.ao e;cases e;exact⟨ρ,x,r,ea,λ v H1 s1 d1=>⟨ρ,xs,r.up s1,eb,λ vs H2 s2 t=>k _ H2 (s1.trans s2) ⟨v,vs,rfl,aZ.up d1 s2,t⟩⟩⟩
def spZF(K:PySem.W.Frag)(bs:List Bool)(m:List Z.D->Z.Res Z.D):Sp:=λ vs H Q _=>∃ds d,i8 K H bs ds vs∧m ds=.ok d∧∀v H',aD H H'->Den K H' d v->Q v H'
theorem de_callF{k:Nat}{g:Addr}{fd:FuncData}{ps:List Str}{x:Str}{bs:List Bool}{m:List Z.D->Z.Res Z.D}{ar:Z.AF}{p1:Pos}(F:k_ X.prog X.w X.K X.mg X.base CX0 k g fd ps (spZF X.K bs m))(hr:fH k X.A)(hg:Gl X x)(hm:X.mg x=some (.ref g))(hk:PySem.W.keepIn X.K (.ref g)=true)(hb:Binds X.K fd ps [])
  (ha:DAF X (e :: es) bs ar) (hdb:(x==("__debug__" : Str))=false:=by decide +kernel) (he:starEach (e :: es) X.env=(false,eval e X.env) :: starEach es X.env:=by rfl) (hpl:(backTo pos (starEach es X.env)).any (·.1)=false:=by rfl) :
  DE X (.Call (.Name x p1) (e :: es) [] pos) (Z.aJ m ar) :=
 PE.imp (pe_call F hr hg hm hk hb .nil pass0 ha hdb he hpl) λ σ H Q ⟨ρ,d,r,e,k⟩=>by obtain⟨ds,ea,e⟩:=Z.Res.ao e;refine⟨ρ,ds,r,ea,λ vs H1 s1 d1=>?_⟩;show spZF X.K bs m (vs++[]) H1 Q E0;rw[List.append_nil];exact⟨ds,d,d1,e,λ v H' s2 dv=>k v H' (s1.trans s2) dv⟩
end
section
variable {P:Program}{w:World}{K:PySem.W.Frag}{mg:Str->Option Value}{base:Heap}
theorem lent_noown(b:Bool)(d:Z.D)(xs:List Z.D):Z.lent b d≠.own xs:=by unfold Z.lent;split<;>intro h<;>cases h
theorem lent_nodic(b:Bool)(d:Z.D)(ks:Z.DK):Z.lent b d≠.dc ks:=by unfold Z.lent;split<;>intro h<;>cases h
theorem lent_ok{H:Hp}{b:Bool}{d:Z.D}{v:V}(h:DenF K H b d v):RL K H (Z.lent b d) v:=by
 unfold DenF at h;cases b with
 | false=>exact(show Den K H d v from h)
 | true =>
  have h':aZ K H d v:=h;cases d with
  | lst xs=>exact h'
  | non=>exact h'.gT (λ _ z=>nomatch z)
  | bl _=>exact h'.gT (λ _ z=>nomatch z)
  | int _=>exact h'.gT (λ _ z=>nomatch z)
  | str _=>exact h'.gT (λ _ z=>nomatch z)
  | tup _=>exact h'.gT (λ _ z=>nomatch z)
  | dct _ _=>exact h'.gT (λ _ z=>nomatch z)
theorem startB_get{N:List Str}{bs:List Bool}{vs:List V}{ds:List Z.D}{H:Hp}(t:i8 K H bs ds vs)(hl:vs.length≤N.length):RS K H H (L2.start N vs) (Z.startB N.length bs ds):=by
 obtain⟨hlen,hbl⟩:=t.length;have hz:(List.zipWith (λ b d=>some (Z.lent b d)) bs ds).length=ds.length:=by simp[hbl]
 have key:∀(i:Nat)(l:Z.L),(Z.startB N.length bs ds)[i]?=some (some l)->∃b d,l=Z.lent b d∧∃v,(L2.start N vs)[i]?=some (some v)∧DenF K H b d v:=by
  intro i l e;unfold Z.startB at e;by_cases hi:i < ds.length
  ·rw[List.getElem?_append_left (by rw[hz];exact hi)]at e;have hb':i < bs.length:=by lia
   rw[List.getElem?_zipWith,List.getElem?_eq_getElem hb',List.getElem?_eq_getElem hi]at e;simp only at e;cases e;obtain⟨v,h1,h2⟩:=t.get (List.getElem?_eq_getElem hb') (List.getElem?_eq_getElem hi);refine⟨_,_,rfl,v,?_,h2⟩;unfold L2.start;rw[List.getElem?_append_left (by simp;lia),List.getElem?_map,h1];rfl
  ·rw[List.getElem?_append_right (by rw[hz];lia),List.getElem?_replicate]at e;split at e<;>cases e
 have noown:∀(i:Nat)(xs:List Z.D),(Z.startB N.length bs ds)[i]?≠some (some (.own xs)):=λ i xs e=>by obtain⟨b,d,h,_⟩:=key i _ e;exact lent_noown b d xs h.symm
 refine⟨aD.refl H,⟨?_,λ i l e=>?_,λ i j xs ys q e1=>absurd e1 (noown i xs)⟩,λ i xs q e1=>absurd e1 (noown i xs),λ i xs e1=>?_,jv.non λ i ks e=>by obtain⟨b,d,h,_⟩:=key i _ e;exact lent_nodic b d ks h.symm⟩
 ·unfold Z.startB L2.start;rw[List.length_append,List.length_append,hz,List.length_replicate,List.length_map,List.length_replicate,hlen]
 ·obtain⟨b,d,rfl,v,h1,h2⟩:=key i l e;exact⟨v,h1,lent_ok h2⟩
 ·obtain⟨b,d,h,v,h1,h2⟩:=key i _ e1;have:=lent_ok h2;rw[<-h]at this;exact⟨v,h1,this⟩
theorem fnZB{x qual:Str}{st:Stmt}{f:Addr}{fd:FuncData}{N ps:List Str}{bs:List Bool}{k:Nat}{b:Z.SF}(hbs:bs.length=ps.length)(F:Fun K x qual st f fd)(S:aF N ps (aj st))
  (hb:∀ (bT:Value) (A:Around) (outer:List Env) (s:Shared) (H:Hp) (E:XK),fH k (A.deeper (envOfC qual (aj st) s.heap.objs.size f bT)) ->
   DSs (cxOf CX0 P w K mg base N qual (aj st) f bT A outer s H E).nox H (bp st) b):k_ P w K mg base CX0 (k+1) f fd ps (spZF K bs (Z.fnB bs N.length b)):=by
 have hlen:∀(vs:List V)(H:Hp)(Q:VK)(E:XK),spZF K bs (Z.fnB bs N.length b) vs H Q E->vs.length=ps.length:=λ vs H Q E ⟨ds,d,t,e,_⟩=>by have:=t.length;lia
 refine F.ok S hlen (λ bT A outer s H vs Q E hr h=>⟨_,hb bT A outer s H E hr,?_⟩);have hl:=hlen vs H Q E h;obtain⟨ds,d,t,e,k⟩:=h;have hpl:ps.length≤N.length:=by have:=congrArg List.length S.pre;rw[List.length_take]at this;lia
 have rs:RS K H H (L2.start N vs) (Z.startB N.length bs ds):=startB_get t (by lia);unfold Z.fnB at e;split at e
 ·cases eb:b (Z.startB N.length bs ds)with
  | bad=>rw[eb]at e;cases e
  | ok fl =>
   rw[eb]at e;refine⟨_,fl,rs,eb,?_⟩;cases fl with
   | rt d'=>cases e;exact λ v H' s' dv=>k v H' s' dv
   | nx ρ'=>cases e;exact λ σ' H' _ rs'=>k .non H' rs'.same den_non
   | bk ρ'=>cases e
   | ct ρ'=>cases e
 ·cases e
structure CalB(P:Program)(w:World)(K:PySem.W.Frag)(mg:Str->Option Value)(base:Heap)(x:Str)(k:Nat)(ps:List Str)(bs:List Bool)(m:List Z.D->Z.Res Z.D):Prop where
 ex:∃g fd,k_ P w K mg base CX0 k g fd ps (spZF K bs m)∧mg x=some (.ref g)∧PySem.W.keepIn K (.ref g)=true∧Binds K fd ps []
theorem CalB.mk'{P:Program}{w:World}{K:PySem.W.Frag}{mg:Str->Option Value}{base:Heap}{x:Str}{k:Nat}{st:Stmt}{N ps:List Str}{bs:List Bool}{b:Z.SF}(hbs:bs.length=ps.length)(d:Def K mg x st ps)(S:aF N ps (aj st))
  (hb:∀ (f:Addr) (bT:Value) (A:Around) (outer:List Env) (s:Shared) (H:Hp) (E:XK),fH k (A.deeper (envOfC x (aj st) s.heap.objs.size f bT)) ->
   DSs (cxOf CX0 P w K mg base N x (aj st) f bT A outer s H E).nox H (bp st) b):CalB P w K mg base x (k+1) ps bs (Z.fnB bs N.length b):=by
 obtain⟨f,fd,F,hm,hb'⟩:=d.ex;exact⟨f,fd,fnZB hbs F S (hb f),hm,F.kp,hb'⟩
end
section
variable {X:Cx}{e:Expr}{es:List Expr}{pos:Pos}
theorem de_callB{k:Nat}{ps:List Str}{bs:List Bool}{x:Str}{m:List Z.D->Z.Res Z.D}{ar:Z.AF}{p1:Pos}(C:CalB X.prog X.w X.K X.mg X.base x k ps bs m)(hr:fH k X.A)(hg:Gl X x)
  (ha:DAF X (e :: es) bs ar) (hdb:(x==("__debug__" : Str))=false:=by decide +kernel) (he:starEach (e :: es) X.env=(false,eval e X.env) :: starEach es X.env:=by rfl) (hpl:(backTo pos (starEach es X.env)).any (·.1)=false:=by rfl) :
  DE X (.Call (.Name x p1) (e :: es) [] pos) (Z.aJ m ar) :=
 let ⟨_,_,F,hm,hk,hb⟩:=C.ex;de_callF F hr hg hm hk hb ha hdb he hpl
end
end ZS
namespace ZQ
open PySem PySem.Spec PyProof.Rows L2 ZS
structure QAF(X:Cx)(es:List Expr)(bs:List Bool)(f:Z.AF):Prop where p:DAF X es bs f
section
variable {X:Cx}{e:Expr}{es:List Expr}{pos:Pos}{f:Z.EF}
theorem daf_nil:QAF X [] [] Z.aC:=⟨ZS.daf_nil⟩
theorem k4{bs:List Bool}{g:Z.AF}(ha:QE X e f)(hr:QAF X es bs g)(hs:starEach (e :: es) X.env=(false,eval e X.env) :: starEach es X.env:=by rfl):QAF X (e :: es) (false :: bs) (Z.ab f g):=⟨ZS.k4 ha.p hr.p hs⟩
theorem daf_lend{bs:List Bool}{g:Z.AF}(ha:QW X e f)(hr:QAF X es bs g)(hs:starEach (e :: es) X.env=(false,eval e X.env) :: starEach es X.env:=by rfl):QAF X (e :: es) (true :: bs) (Z.ab f g):=⟨ZS.daf_lend ha.p hr.p hs⟩
theorem de_callB{k:Nat}{ps:List Str}{bs:List Bool}{x:Str}{m:List Z.D->Z.Res Z.D}{ar:Z.AF}{p1:Pos}(C:CalB X.prog X.w X.K X.mg X.base x k ps bs m)(hr:fH k X.A)(hg:Gl X x)
  (ha:QAF X (e :: es) bs ar) (hdb:(x==("__debug__" : Str))=false:=by decide +kernel) (he:starEach (e :: es) X.env=(false,eval e X.env) :: starEach es X.env:=by rfl) (hpl:(backTo pos (starEach es X.env)).any (·.1)=false:=by rfl) :
  QE X (.Call (.Name x p1) (e :: es) [] pos) (Z.aJ m ar):=⟨ZS.de_callB C hr hg ha.p hdb he hpl⟩
theorem calQB{P:Program}{w:World}{K:PySem.W.Frag}{mg:Str->Option Value}{base:Heap}{x:Str}{k:Nat}{st:Stmt}{N ps:List Str}{bs:List Bool}{b:Z.SF}(hbs:bs.length=ps.length)(d:ZS.Def K mg x st ps)(S:aF N ps (aj st))
  (hb:∀ (f:Addr) (bT:Value) (A:Around) (outer:List PySem.Env) (s:Shared) (H:Hp) (E:XK),fH k (A.deeper (envOfC x (aj st) s.heap.objs.size f bT)) ->
   QSs (cxOf CX0 P w K mg base N x (aj st) f bT A outer s H E).nox H (bp st) b):ZS.CalB P w K mg base x (k+1) ps bs (Z.fnB bs N.length b) :=
 ZS.CalB.mk' hbs d S λ f bT A outer s H E hr=>(hb f bT A outer s H E hr).p
end
end ZQ
namespace ZS
open PySem PySem.Spec PyProof.Rows L2
section
variable {prog:Program}{w:World}{A:Around}{E:Value->Shared->Prop}{s:Shared}
theorem draw_listZ{it l:Addr}{items:Array Value}(hne:l≠it):∀(n i:Nat)(s:Shared)(Q:List Value->Shared->Prop),s.heap.IsListIter it l i->s.heap.IsList l items->i+n≤items.size ->
  (∀h',h'.IsListIter it l (i+n)->Heap.SameBut it s.heap h'->Q ((items.toList.drop i).take n) { s with heap:=h' })->wpAny (model prog w) A (draw (.ref it) n) Q E s
 | 0,i,s,Q,hit,_,_,hQ=>by show wpAny _ _ (pure []) Q E s;exact wpAny_pure (by simpa using hQ s.heap hit (Heap.SameBut.refl ..))
 | n+1,i,s,Q,hit,ht,hle,hQ=>by
  have kj:i < items.size:=by lia
  show wpAny _ _ (pyNext (.ref it) >>= _) Q E s;refine wpAny_bind (wpAny_pyNext_list_item hit ht (x:=items[i]) (by simp[kj]) λ h₁ hit₁ hs₁=>?_);refine wpAny_bind (wpAny_holding (draw_listZ hne n (i+1) _ _ hit₁ (ht.extBut hs₁.extBut hne) (by lia) λ h₂ hit₂ hs₂=>wpAny_pure ?_));have hd:items.toList.drop i=items[i] :: items.toList.drop (i+1):=by simp[List.drop_eq_getElem_cons,kj]
  have:=hQ h₂ (by rw[show i+(n+1)=i+1+n by lia];exact hit₂) (hs₁.trans hs₂);rw[hd,List.take_succ_cons]at this;exact this
theorem mC{t:Addr}{items:Array Value}{Q:List Value->Shared->Prop}(hh:A.handled=none)(ht:s.heap.IsList t items)
  (hQ:∀h',Heap.ExtBut s.heap.objs.size s.heap h'->Q items.toList { s with heap:=h' }):wpAny (model prog w) A (unpackItems (.ref t) items.size none) Q E s:=by
 have kj:t≠s.heap.objs.size:=by obtain⟨o,ho,_⟩:=ht;exact Nat.ne_of_lt (Heap.lt_size ho)
 unfold unpackItems;refine wpAny_bind ?_
 ·unfold notIterableAtAll;refine wpAny_bind (wpAny_specialOf ht.typeIs slot_list_iter.lookup ?_);refine wpAny_pure ?_;simp only[Bool.false_eq_true,if_false];refine wpAny_bind (wpAny_holding (wpAny_pyIter_list ht ?_));refine wpAny_bind (wpAny_holding (draw_listZ kj items.size 0 _ _ ⟨_,Heap.get?_push_size _ rfl,rfl,rfl⟩ (ht.push _) (by lia) λ h₁ hit₁ hs₁=>?_));have hall:List.take items.size (List.drop 0 items.toList)=items.toList:=by rw[List.drop_zero];exact List.take_of_length_le (by simp)
  rw[hall];rw[if_neg (by simp)];have ht₁:h₁.IsList t items:=(ht.push _).extBut hs₁.extBut kj;refine wpAny_bind (wpAny_holding (wpAny_pyNext_list_end hh hit₁ ht₁ (by simp) λ h₂ he₂=>?_));simp only[Option.isSome_none,Bool.false_eq_true,if_false];refine wpAny_pure (hQ h₂ λ b o hb e=>he₂ b o hb (hs₁.extBut b o hb (Heap.get?_push_of_some _ e)))
theorem mj{env:Env}{elts:List Expr}{x1}{pos:Pos}{t:Addr}{items:Array Value}{Q:Unit->Shared->Prop}(hh:A.handled=none)(ht:s.heap.IsList t items)
  (hn:(assignEach elts env).length=items.size) (hstar:(assignEach elts env).findIdx? (·.1)=none)
  (h:∀h',Heap.ExtBut s.heap.objs.size s.heap h'->wpAny (model prog w) A (assignInOrder ((assignEach elts env).map (·.2)) items.toList) Q E { s with heap:=h' }) :
  wpAny (model prog w) A (assign (.Tuple elts x1 pos) env (.ref t)) Q E s:=by
 rw[assign_Tuple];refine wpAny_bind (wpAny_standAt ?_);unfold unpack;rw[hn,hstar];exact wpAny_bind (wpAny_holding (mC hh ht h))
end
section
variable {X:Cx}{tg o e a b:Expr}{es:List Expr}{pos:Pos}{fa fb:Z.EF}{H0:Hp}
def gLstL(K:PySem.W.Frag)(n:Nat)(t:TGs):TG:=λ v σ H Q=>∃a xs,v=.ref a∧i6 K H a xs∧xs.length=n∧t xs σ H Q
theorem pg_lst{es:List Expr}{k:Nat}{t:TGs}{n:Nat}(hc:X.calm=true)(h:PGs X es t)
  (hn:(assignEach es X.env).length=n:=by rfl) (hst:(assignEach es X.env).findIdx? (·.1)=none:=by rfl):PG X (.Tuple es k pos) (gLstL X.K n t):=by
 intro pins s σ H v u Q I r hw;obtain⟨a,xs,e1,hq,hl,hw⟩:=hw;subst e1;cases r;obtain⟨aM,rv,ht,hz⟩:=I.list hq;refine mj (I.ok.hd hc) ht.isList (by simp[hn,<-hl,rv.length]) hst λ h' hx=>?_;have I1:Inv X pins σ H { s with heap:=h' }:=I.kept (t':=s.toks) λ b o e=>hx b o (Nat.ne_of_lt (Heap.lt_size e)) e;exact h pins _ σ H xs _ Q I1 (by simpa using rv) hw
theorem gNames_len:∀(is:List Nat)(ds:List Z.D)(ρ ρ':Z.Env),Z.gg is ds ρ=.ok ρ'->ds.length=is.length:=by
 intro is
 induction is with
 | nil=>intro ds ρ ρ' e;cases ds with
  | nil=>rfl
  | cons d ds=>cases e
 | cons i is ih=>intro ds ρ ρ' e;cases ds with
  | nil=>cases e
  | cons d ds=>simp[ih ds _ _ e]
theorem dg_seq{x1 n:Nat}{is:List Nat}(hc:X.calm=true)(h:DGs X H0 es is)(hl:is.length=n)(hn:(assignEach es X.env).length=n:=by rfl)(hst:(assignEach es X.env).findIdx? (·.1)=none:=by rfl):DG X H0 (.Tuple es x1 pos) (Z.gSeq is):=by
 intro pins s σ H v u Q I r hw;obtain⟨ρ,d,ρ',rs,hd,e,k⟩:=hw;unfold Z.gSeq at e;split at e
 ·rename_i ds;obtain⟨q,vs,rfl,hq,t⟩:=aZ.tup (.inl hd);exact pg_tup hc h hn hst pins s σ H _ u Q I r ⟨q,vs,rfl,hq,by rw[t.length,gNames_len is ds ρ ρ' e];exact hl,ρ,ds,ρ',rs,t,e,k⟩
 ·rename_i ds;obtain⟨q,vs,rfl,hq,t⟩:=aZ.lst (.inl hd);exact pg_lst hc h hn hst pins s σ H _ u Q I r ⟨q,vs,rfl,hq,by rw[t.length,gNames_len is ds ρ ρ' e];exact hl,ρ,ds,ρ',rs,t,e,k⟩
 ·cases e
theorem vals_str:∀{ts:List Str}{aM:List Value},Vals (ts.map V.str) aM->∃l:List (Str×Tok),strValues l=aM∧l.map (·.1)=ts
 | [],aM,h=>by cases h;exact⟨[],rfl,rfl⟩
 | t :: ts,aM,h=>by
  cases h with
  | cons r rr =>obtain⟨tk,rfl⟩:=r;obtain⟨l,rfl,h2⟩:=vals_str rr;exact⟨(t,tk) :: l,rfl,by rw[<-h2];rfl⟩
def rJoin(K:PySem.W.Frag):V->List V->Hp->VK->Prop:=λ x vs H Q=>∃sep q ts,x=.str sep∧vs=[.ref q]∧i6 K H q (ts.map V.str)∧JoinOk sep ts=true∧Q (.str (Txt.join sep ts)) H
theorem mt_join:MtR X "str.join" (rJoin X.K):=by intro pins s σ H x vs v us Q I rx rv h;obtain⟨sep,q,ts,rfl,rfl,hq,dO,k⟩:=h;obtain⟨t,rfl⟩:=rx;obtain⟨u,rfl,ru⟩:=rv.one;cases ru;obtain⟨aM,r,pl,hz⟩:=I.list hq;obtain⟨l,rfl,hl⟩:=vals_str r;exact SC.join pl.isList hl dO λ t' c=>⟨.str (Txt.join sep ts),H,I.tok c,⟨t',rfl⟩,k⟩
def mkS(cs:List Nat):Str:=⟨cs.toArray⟩
theorem dens_texts{K : PySem.W.Frag}{H : Hp}: ∀{xs : List Z.D}{ts : List (List Nat)}{vs : List V}, Z.jx xs = some ts -> ax K H xs vs -> vs = (ts.map mkS).map V.str
 | [],ts,vs,e,h=>by cases e;simp only[ax]at h;subst h;rfl
 | x :: xs,ts,vs,e,h=>by
  cases x with
  | str c =>
   have e':(Z.jx xs).map (c :: ·)=some ts:=e;cases q:Z.jx xs with
   | none=>rw[q]at e';cases e'
   | some ts' =>rw[q]at e';cases e';simp only[ax]at h;obtain⟨v,r,rfl,hv,ht⟩:=h;simp only[Den]at hv;rw[hv,dens_texts q ht];rfl
  | non=>cases e
  | bl _=>cases e
  | int _=>cases e
  | tup _=>cases e
  | lst _=>cases e
  | dct _ _=>cases e
theorem mkS_len(cs:List Nat):(mkS cs).length=cs.length:=by simp[mkS,Str.length]
theorem mkS_app(a b:List Nat):mkS a++mkS b=mkS (a++b):=by show(⟨a.toArray++b.toArray⟩:Str)=_;simp[mkS]
theorem join_mk(sep:List Nat):∀ts:List (List Nat),Txt.join (mkS sep) (ts.map mkS)=mkS (Z.kU sep ts):=by
 intro ts;show Builtin.Str.glued _ _=_;rw[StrLaws.glued_eq_join]
 induction ts with
 | nil=>rfl
 | cons x ts ih =>
  cases ts with
  | nil=>rfl
  | cons y r =>show mkS x++mkS sep++Str.join (mkS sep) ((y :: r).map mkS)=_;rw[ih,mkS_app,mkS_app];rfl
theorem join_ok{sep:List Nat}{ts:List (List Nat)}(h:(ts.map List.length).sum+ts.length*sep.length≤16777216):JoinOk (mkS sep) (ts.map mkS)=true:=by
 unfold JoinOk;rw[StrLaws.joinTotal];have e:(ts.map mkS).map (·.length)=ts.map List.length:=by rw[List.map_map];exact List.map_congr_left λ x _=>mkS_len x
 rw[e,List.length_map,mkS_len];simp only[Builtin.Str.tooLong,Bool.not_eq_true',decide_eq_false_iff_not,gt_iff_lt,Nat.not_lt];rw[sizeLine_eq];exact h
theorem de_join{p1 p2:Pos}(ho:DE X o fa)(hb:DW X b fb)
  (hbase:attributeBase o "join" X.env (eval o X.env)=eval o X.env:=by rfl)
  (hfew:((backTo p2 (starEach (b :: []) X.env)).all (λ x=>!x.1)&&(backToKw p2 (keywordEach [] X.env)).all (λ x=>x.1.isSome)
   && decide ((b :: []).length+([]:List Keyword).length+(if([]:List Keyword).isEmpty then 0 else 1) < 30))=true:=by rfl)
  (hline:(p1.endLine==p2.line)=true:=by rfl) (hs1:starEach (b :: []) X.env=(false,eval b X.env) :: starEach [] X.env:=by rfl) (hplain:(backTo p2 (starEach [] X.env)).any (·.1)=false:=by rfl) :
  DE X (.Call (.Attribute o "join" p1) [b] [] p2) (Z.eB Z.oJoin fa fb) :=
 PE.imp (pe_bm PySem.F.plainAttrs_str PySem.F.slot_str_join PySem.F.type_str_join mt_join ho (a! hb cQ hs1) hbase hfew hline hs1 hplain) λ σ H Q ⟨ρ,d,r,e,k⟩=>by obtain⟨x,ea,e⟩:=Z.Res.ao e;obtain⟨y,eb,e⟩:=Z.Res.ao e;obtain⟨sep,xs,ts,rfl,rfl,et,hl,rfl⟩:=Z.oJoin_ok e;refine⟨ρ,_,r,ea,λ v H1 s1 d1=>?_⟩;simp only[Den]at d1;subst d1;refine⟨rfl,ρ,_,r.up s1,eb,λ u H2 s2 d2=>?_⟩;obtain⟨q,vs,rfl,hq,t⟩:=d2.lst;rw[dens_texts et t]at hq;refine⟨mkS sep,q,ts.map mkS,rfl,rfl,hq,join_ok hl,?_⟩;rw[join_mk];exact k _ H2 (s1.trans s2) iW
theorem occ_one(x : Str)(c : Nat)(lim : Nat): ∀(n lo : Nat)(st : Array Nat × Nat), st.2 ≤ lo -> st.1.size + n ≤ lim -> lo + n = x.length + 1 ->
  (forIn (List.range' lo n) st (StrLaws.occBody x ⟨#[c]⟩ x.length lim)).run.fst.size=st.1.size+(x.cps.toList.drop lo).count c:=by
 intro n
 induction n with
 | zero =>intro lo st h1 h2 h3;have:x.cps.toList.drop lo=[]:=List.drop_eq_nil_of_le (by simp;show x.length≤lo;lia);simp[this]
 | succ n ih =>
  intro lo st h1 h2 h3;rw[List.range'_succ,List.forIn_cons];by_cases hlo:lo < x.length
  ·have hlo':lo < x.cps.toList.length:=by rw[Array.length_toList];exact hlo
   have hsub:Builtin.Str.subAt x ⟨#[c]⟩ lo=decide (x.cps.toList[lo]=c):=by
    have so:=StrLaws.subAt_one x c lo;rw[Bool.eq_iff_iff,decide_eq_true_eq];constructor
    ·intro h;have:=so.mp ⟨by show lo+1≤x.length;lia,h⟩;rw[List.getElem?_eq_getElem hlo']at this;exact Option.some.inj this
    ·intro h;exact(so.mpr (by rw[List.getElem?_eq_getElem hlo',h])).2
   rw[List.drop_eq_getElem_cons hlo'];by_cases hc:x.cps.toList[lo]=c
   ·have hcond:((st.1.size < lim∧st.2≤lo)∧lo+(⟨#[c]⟩:Str).length≤x.length)∧Builtin.Str.subAt x ⟨#[c]⟩ lo=true:=⟨⟨⟨by lia,h1⟩,by show lo+1≤x.length;lia⟩,by rw[hsub];simp[hc]⟩
    have e:StrLaws.occBody x ⟨#[c]⟩ x.length lim lo st=pure (ForInStep.yield (st.1.push lo,lo+1)):=by unfold StrLaws.occBody;rw[if_pos hcond];rfl
    rw[e];have:=ih (lo+1) (st.1.push lo,lo+1) (Nat.le_refl _) (by simp;lia) (by lia);simp only[pure_bind];rw[this,hc,List.count_cons_self];simp only[Array.size_push];lia
   ·have hcond:¬(((st.1.size < lim∧st.2≤lo)∧lo+(⟨#[c]⟩:Str).length≤x.length)∧Builtin.Str.subAt x ⟨#[c]⟩ lo=true):=λ z=>by rw[hsub]at z;exact hc (of_decide_eq_true z.2)
    have e:StrLaws.occBody x ⟨#[c]⟩ x.length lim lo st=pure (ForInStep.yield (st.1,st.2)):=by unfold StrLaws.occBody;rw[if_neg hcond]
    rw[e];have:=ih (lo+1) (st.1,st.2) (by simp;lia) (by simp;lia) (by lia);simp only[pure_bind];rw[this,List.count_cons_of_ne hc]
  ·have hcond:¬(((st.1.size < lim∧st.2≤lo)∧lo+(⟨#[c]⟩:Str).length≤x.length)∧Builtin.Str.subAt x ⟨#[c]⟩ lo=true):=λ z=>hlo (by have:=z.1.2;change lo+1≤x.length at this;lia);have e:StrLaws.occBody x ⟨#[c]⟩ x.length lim lo st=pure (ForInStep.yield (st.1,st.2)):=by unfold StrLaws.occBody;rw[if_neg hcond]
   rw[e];have:=ih (lo+1) (st.1,st.2) (by simp;lia) (by simp;lia) (by lia);simp only[pure_bind];rw[this];have h5:x.cps.toList.drop lo=[]:=List.drop_eq_nil_of_le (by simp;show x.length≤lo;lia);have h6:x.cps.toList.drop (lo+1)=[]:=List.drop_eq_nil_of_le (by simp;show x.length≤lo+1;lia);rw[h5,h6]
theorem occ_count(t:List Nat)(c:Nat):(Builtin.Str.occurrences (mkS t) ⟨#[c]⟩ 0 (mkS t).length ((mkS t).length+1)).length=t.count c:=by rw[StrLaws.occ_eq];have:=occ_one (mkS t) c ((mkS t).length+1) ((mkS t).length+1) 0 (#[],0) (Nat.le_refl _) (by simp) (by lia);simpa[mkS]using this
def rCntS:V->List V->Hp->VK->Prop:=λ x vs H Q=>∃t c,x=.str (mkS t)∧vs=[.str ⟨#[c]⟩]∧Q (.int ((t.count c:Nat):Int)) H
theorem mt_cntS:MtR X "str.count" rCntS:=by intro pins s σ H x vs v us Q I rx rv h;obtain⟨t,c,rfl,rfl,k⟩:=h;obtain⟨tk,rfl⟩:=rx;obtain⟨u,rfl,ru⟩:=rv.one;obtain⟨tk2,rfl⟩:=ru;refine call_gives F.slot_str_count (typeIs_str _ _ _) F.entry_str_count (F.args_str_count_2 _ _) (gives_str_count _ _ tk tk2) ?_;rw[occ_count];exact⟨.int _,H,I.tok _,⟨_,rfl⟩,k⟩
theorem de_cntS{p1 p2:Pos}(ho:DW X o fa)(hb:DW X b fb)
  (hbase:attributeBase o "count" X.env (eval o X.env)=eval o X.env:=by rfl)
  (hfew:((backTo p2 (starEach (b :: []) X.env)).all (λ x=>!x.1)&&(backToKw p2 (keywordEach [] X.env)).all (λ x=>x.1.isSome)
   && decide ((b :: []).length+([]:List Keyword).length+(if([]:List Keyword).isEmpty then 0 else 1) < 30))=true:=by rfl)
  (hline:(p1.endLine==p2.line)=true:=by rfl) (hs1:starEach (b :: []) X.env=(false,eval b X.env) :: starEach [] X.env:=by rfl) (hplain:(backTo p2 (starEach [] X.env)).any (·.1)=false:=by rfl) :
  DE X (.Call (.Attribute o "count" p1) [b] [] p2) (Z.eB Z.oCntS fa fb) :=
 PE.imp (pe_bm PySem.F.plainAttrs_str PySem.F.slot_str_count PySem.F.type_str_count mt_cntS ho (a! hb cQ hs1) hbase hfew hline hs1 hplain) λ σ H Q ⟨ρ,d,r,e,k⟩=>by obtain⟨x,ea,e⟩:=Z.Res.ao e;obtain⟨y,eb,e⟩:=Z.Res.ao e;obtain⟨t,c,rfl,rfl,rfl⟩:=Z.oCntS_ok e;refine⟨ρ,_,r,ea,λ v H1 s1 d1=>?_⟩;have d1':=d1.str;subst d1';refine⟨rfl,ρ,_,r.up s1,eb,λ u H2 s2 d2=>?_⟩;have d2':=d2.str;subst d2';exact⟨t,c,rfl,rfl,k _ H2 (s1.trans s2) cV⟩
end
end ZS
namespace ZQ
open PySem PySem.Spec PyProof.Rows L2 ZS
section
variable {X:Cx}{tg o e a b:Expr}{es:List Expr}{pos:Pos}{fa fb:Z.EF}{H0:Hp}
theorem dg_seq{x1 n:Nat}{is:List Nat}(hc:X.calm=true)(h:QGs X H0 es is)(hl:is.length=n)(hn:(assignEach es X.env).length=n:=by rfl)(hst:(assignEach es X.env).findIdx? (·.1)=none:=by rfl):QG X H0 (.Tuple es x1 pos) (Z.gSeq is):=⟨ZS.dg_seq hc h.p hl hn hst⟩
theorem de_join{p1 p2:Pos}(ho:QE X o fa)(hb:QW X b fb)
  (hbase:attributeBase o "join" X.env (eval o X.env)=eval o X.env:=by rfl)
  (hfew:((backTo p2 (starEach (b :: []) X.env)).all (λ x=>!x.1)&&(backToKw p2 (keywordEach [] X.env)).all (λ x=>x.1.isSome)
   && decide ((b :: []).length+([]:List Keyword).length+(if([]:List Keyword).isEmpty then 0 else 1) < 30))=true:=by rfl)
  (hline:(p1.endLine==p2.line)=true:=by rfl) (hs1:starEach (b :: []) X.env=(false,eval b X.env) :: starEach [] X.env:=by rfl) (hplain:(backTo p2 (starEach [] X.env)).any (·.1)=false:=by rfl) :
  QE X (.Call (.Attribute o "join" p1) [b] [] p2) (Z.eB Z.oJoin fa fb):=⟨ZS.de_join ho.p hb.p hbase hfew hline hs1 hplain⟩
theorem de_cntS{p1 p2:Pos}(ho:QW X o fa)(hb:QW X b fb)
  (hbase:attributeBase o "count" X.env (eval o X.env)=eval o X.env:=by rfl)
  (hfew:((backTo p2 (starEach (b :: []) X.env)).all (λ x=>!x.1)&&(backToKw p2 (keywordEach [] X.env)).all (λ x=>x.1.isSome)
   && decide ((b :: []).length+([]:List Keyword).length+(if([]:List Keyword).isEmpty then 0 else 1) < 30))=true:=by rfl)
  (hline:(p1.endLine==p2.line)=true:=by rfl) (hs1:starEach (b :: []) X.env=(false,eval b X.env) :: starEach [] X.env:=by rfl) (hplain:(backTo p2 (starEach [] X.env)).any (·.1)=false:=by rfl) :
  QE X (.Call (.Attribute o "count" p1) [b] [] p2) (Z.eB Z.oCntS fa fb):=⟨ZS.de_cntS ho.p hb.p hbase hfew hline hs1 hplain⟩
end
end ZQ
namespace ZS
open PySem PySem.Spec PyProof.Rows L2
section
variable {prog:Program}{w:World}{A:Around}{E:Value->Shared->Prop}{s:Shared}
theorem adjust_rev(n:Nat):Builtin.Slice.sliceAdjust none none (-1) (n:Int)=((n:Int)-1,-1):=by
 unfold Builtin.Slice.sliceAdjust;have h1:((-1:Int) < 0):=by lia
 simp only[h1,if_true]
theorem places_rev(n:Nat):Builtin.Slice.slicePlaces ((n:Int)-1) (-1) (-1)=n:=by
 unfold Builtin.Slice.slicePlaces;have h1:¬((-1:Int) > 0):=by lia
 simp only[h1,if_false,Int.neg_neg,Int.ediv_one];split<;>lia
theorem sliceApplied_rev{sl:Addr}{uk:Tok}{n:Nat}{Q:Int×Int×Nat->Shared->Prop}(hs:s.heap.IsSliceOf sl .none .none (.int (-1) uk))
  (h:Q ((n:Int)-1,-1,n) s):wpAny (model prog w) A (Builtin.Slice.sliceApplied (.ref sl) (pure (n:Int))) Q E s:=by
 obtain⟨os,hos,hcs,hds⟩:=id hs;unfold Builtin.Slice.sliceApplied Builtin.Slice.sliceFields;refine wpAny_bind (wpAny_bind (wpAny_field hos hds (x:=.none) rfl (wpAny_bind (wpAny_field hos hds (x:=.none) rfl (wpAny_bind (wpAny_field hos hds (x:=.int (-1) uk) rfl (wpAny_pure ?_)))))));refine wpAny_bind (slicePart_int ?_);show wpAny _ _ (if((-1:Int)==0)=true then _ else _) _ _ s;rw[if_neg (by decide)];refine wpAny_bind (slicePart_none (wpAny_bind (slicePart_none (wpAny_bind (wpAny_pure ?_)))));show wpAny _ _ (match Builtin.Slice.sliceAdjust none none (-1) (n:Int)with | (lo,hi)=>pure (lo,(-1:Int),Builtin.Slice.slicePlaces lo hi (-1))) _ _ s;rw[adjust_rev n];show wpAny _ _ (pure ((n:Int)-1,(-1:Int),Builtin.Slice.slicePlaces ((n:Int)-1) (-1) (-1))) _ _ s;rw[places_rev];exact wpAny_pure h
theorem pick_rev(xs : Array Value): ((List.range xs.size).filterMap λ(m : Nat) => xs[(((xs.size : Nat) : Int) - 1 + (m : Int) * (-1)).toNat]?).toArray = xs.toList.reverse.toArray := by
 congr 1
 apply List.ext_getElem?;intro i;have key:∀(l:List Nat),(∀m∈l,m < xs.size)->(l.filterMap λ(m:Nat)=>xs[(((xs.size:Nat):Int)-1+(m:Int)*(-1)).toNat]?)=l.map λ m=>xs.toList.reverse[m]?.getD .none:=by
  intro l
  induction l with
  | nil=>intro _;rfl
  | cons m l ih =>
   intro hl;have hm:=hl m List.mem_cons_self;have e1:(((xs.size:Nat):Int)-1+(m:Int)*(-1)).toNat=xs.size-1-m:=by lia
   have e2:xs[xs.size-1-m]?=some (xs[xs.size-1-m]'(by lia)):=Array.getElem?_eq_getElem (by lia);have e3:xs.toList.reverse[m]?=some (xs[xs.size-1-m]'(by lia)):=by rw[List.getElem?_reverse (by simpa using hm)];simp only[Array.length_toList,Array.getElem?_toList];exact e2
   rw[List.filterMap_cons,e1,e2,List.map_cons,e3,ih λ k hk=>hl k (List.mem_cons_of_mem _ hk)];rfl
 rw[key _ (λ m hm=>List.mem_range.mp hm),List.getElem?_map];by_cases hi:i < xs.size
 ·rw[List.getElem?_range hi];have:i < xs.toList.reverse.length:=by simpa using hi
  show some (xs.toList.reverse[i]?.getD Value.none)=_;rw[List.getElem?_eq_getElem this];rfl
 ·rw[List.getElem?_eq_none (by simpa using hi),List.getElem?_eq_none (by simpa using hi)];rfl
theorem nj{t sl:Addr}{items:Array Value}{uk:Tok}{Q:Value->Shared->Prop}(ht:IsTup s.heap t items)(hs:s.heap.IsSliceOf sl .none .none (.int (-1) uk))
  (h:Q (.ref s.heap.objs.size) { s with heap:=s.heap.push { cls:=.type "tuple",data:=.seq items.toList.reverse.toArray } })
  (hsz:items.size≤sizeLine):wpAny (model prog w) A (getItem (.ref t) (.ref sl)) Q E s:=by
 have ni:sizeOk (.seq items.toList.reverse.toArray):=by show items.toList.reverse.toArray.size≤sizeLine;simpa using hsz
 obtain⟨os,hos,hcs,hds⟩:=id hs;have hTs:s.TypeIs (.ref sl) "slice" := ⟨os,hos,hcs⟩
 unfold getItem
 try with_reducible refine wpAny_holding ?_
 first | refine wpAny_bind (wpAny_pure ?_) | skip
 refine wpAny_bind (wpAny_sequenceKey ht.typeIs (by decide) ?_);refine wpAny_bind (wpAny_callSpecial?_slot (name:=Str.ofString "__getitem__") ht.typeIs PyProof.Rows.slot_tuple_getitem
  (wpAny_call_entry PyProof.Rows.slot_tuple_getitem ht.typeIs entry_tuple_getitem ?_ (args_tuple_getitem _ _)))
 show wpAny _ _ (Builtin.Tuple.tupleItemsOf (.ref t) >>= _) _ _ s;refine wpAny_bind (tupleItemsOf_ ht ?_);refine wpAny_bind (wpAny_typeOf hTs ?_);rw[if_pos (by decide)];refine wpAny_bind (sliceApplied_rev hs ?_);have hno:¬(((((items.size:Nat):Int)-1)==0&&(-1:Int)==1&&items.size==items.size)=true):=by simp
 show wpAny _ _ (if((((items.size:Nat):Int)-1)==0&&(-1:Int)==1&&items.size==items.size)=true then _ else _) _ _ s;rw[if_neg hno,pick_rev]
 first
  | exact wpAny_bind (m:=Builtin.Tuple.tupleExact _) (wpAny_newObj_type (wpAny_pure ⟨_,rfl,wpAny_pure h⟩) ni)
  | exact wpAny_bind (m:=Builtin.Tuple.tupleExact _) (wpAny_newObj_type (wpAny_bind (wpAny_pure (wpAny_pure ⟨_,rfl,wpAny_pure h⟩))) ni)
  | exact wpAny_bind (wpAny_bind (m:=Builtin.Tuple.tupleExact _) (wpAny_newObj_type (wpAny_pure (wpAny_pure ⟨_,rfl,wpAny_pure h⟩)) ni))
  | exact wpAny_bind (wpAny_bind (m:=Builtin.Tuple.tupleExact _) (wpAny_newObj_type (wpAny_pure ⟨_,rfl,wpAny_pure h⟩) ni))
end
section
variable {X:Cx}{e st:Expr}{te:TE}{pos p2:Pos}{fa:Z.EF}
theorem rev_str(x:Str)(u:Tok):Txt.sliceBy x none none (-1,u)=⟨x.cps.toList.reverse.toArray⟩:=by
 have h:=step_rev_list x u;have e:x.cps.toList.reverse=(List.range x.length).map λ k=>x.cps.getD (x.length-1-k) 0:=by
  apply List.ext_getElem?;intro i;rw[List.getElem?_map];by_cases hi:i < x.cps.size
  ·have hi':i < x.length:=hi;rw[List.getElem?_range hi',List.getElem?_reverse (by simpa using hi)];simp only[Array.length_toList,Array.getElem?_toList,Option.map_some];have hx:x.length=x.cps.size:=rfl;rw[hx];have h2:x.cps.size-1-i < x.cps.size:=by lia
   rw[Array.getElem?_eq_getElem h2];simp[Array.getD,h2]
  ·have hi':¬i < x.length:=hi;rw[List.getElem?_eq_none (by simpa using hi),List.getElem?_eq_none (by simpa using hi')];rfl
 rw[<-e]at h;generalize Txt.sliceBy x none none (-1,u)=y at h;obtain⟨c⟩:=y;have h':c.toList=x.cps.toList.reverse:=h;rw[<-h']
theorem vals_rev:∀{xs:List V}{us:List Value},Vals xs us->Vals xs.reverse us.reverse
 | [],_,h=>by cases h;exact .nil
 | x :: xs,us,h=>by
  cases h with
  | cons r rr =>rw[List.reverse_cons,List.reverse_cons];exact(vals_rev rr).append (.cons r .nil)
def rRev(K:PySem.W.Frag):V->Hp->VK->Prop:=λ x H Q=>(∃a xs,x=.ref a∧k? K H a xs∧∀p,H p=none->Q (.ref p) (upd H p (.tup xs.reverse)))∨(∃z,x=.str z∧z.length≤sizeLine∧Q (.str ⟨z.cps.toList.reverse.toArray⟩) H)
theorem pe_rev(he : PE X e te)(hs : PO X (some st) (tPart (tC (.int (-1)))))(hsub : ∀v u, subscripted (.Slice none none (some st) p2) false v u = operate [v, u] (getItem v u)): PE X (.Subscript e (.Slice none none (some st) p2) pos) (λ σ H Q => te σ H λ x H1 => rRev X.K x H1 Q) := by
 intro pins s σ H Q I h;refine Subscript_ (du (he pins s σ H _ I h) λ v s1 ⟨x,H1,I1,r1,q1⟩=>?_);refine wpAny_Slice ?_;rw[evalPart_none];refine wpAny_pure (wpAny_pure ?_);refine du (hs pins s1 σ H1 (λ o H'=>o=some (-1)∧H'=H1) I1 ⟨-1,rfl,rfl,rfl⟩) λ vs s2 ⟨o,H2,I2,pl,e1,e2⟩=>?_;subst e1;subst e2;cases pl with
 | int _ uk =>
  have I4:Inv X pins σ H2 { s2 with heap:=s2.heap.push { cls:=.type "slice",data:=.fields #[.none,.none,.int (-1) uk] } }:=I2.kept (t':=s2.toks) λ b ob q=>Heap.get?_push_of_some _ q;show wpAny (model X.prog X.w) X.A (subscriptTail e (.Slice none none (some st) p2) v (.ref s2.heap.objs.size)) (EP X pins σ Q) X.xe { s2 with heap:=s2.heap.push { cls:=.type "slice",data:=.fields #[.none,.none,.int (-1) uk] } };rcases q1 with⟨a,xs,rfl,hx,q⟩ | ⟨z,rfl,hz,q⟩
  ·cases r1;obtain⟨aM,r,ht,hz⟩:=I4.tuple hx;have hlen:aM.toArray.size=xs.length:=by rw[List.size_toArray];exact r.length.symm
   refine tail_any (ops:=[.ref a,.ref s2.heap.objs.size]) ht.typeIs PyProof.Rows.slot_tuple_getitem.lookup ?_ (hsub _ _);refine nj ht (Heap.IsSliceOf.new ..) ?_ (by rw[hlen];exact hz);refine⟨.ref _,_,I4.laid (t':=s2.toks) (o:=.tup xs.reverse) (λ b ob q=>Heap.get?_push_of_some _ q) (Nat.le_refl _) ?_,rfl,q _ (I4.dO.fresh (Nat.le_refl _))⟩;refine⟨by rw[List.length_reverse];exact hz,aM.reverse,?_,?_⟩
   ·exact vals_rev r
   ·have:=IsTup.new (h:=s2.heap.push { cls:=.type "slice",data:=.fields #[.none,.none,.int (-1) uk] }) aM.reverse.toArray;simpa using this
  ·obtain⟨tk,rfl⟩:=r1;refine tail_any (ops:=[.str z tk,.ref s2.heap.objs.size]) (typeIs_str _ z tk) F.slot_str_getitem.lookup ?_ (hsub _ _);refine wpAny_getItem_str_slice (l:=none) (u:=none) (st:=some (-1,uk)) ⟨_,Heap.get?_push_size _ rfl,rfl,rfl⟩ rfl ?_;refine post_val_or_str ⟨?_,λ t' c=>?_⟩
   ·exact Nat.le_trans (Txt.sliceBy_le z _ _ (-1,uk) (by show(-1:Int)≠0;decide)) hz
   ·show EP X pins σ Q (.str (Txt.sliceBy z none none (-1,uk)) t') _;rw[rev_str];exact⟨.str ⟨z.cps.toList.reverse.toArray⟩,H2,I4.tok c,⟨t',rfl⟩,q⟩
theorem revD_up{K:PySem.W.Frag}{H:Hp}:∀{ds:List Z.D}{vs:List V},ax K H ds vs->ax K H ds.reverse vs.reverse
 | [],vs,h=>by simp only[ax]at h;subst h;exact ax.nil
 | d :: ds,vs,h=>by simp only[ax]at h;obtain⟨v,r,rfl,h1,h2⟩:=h;rw[List.reverse_cons,List.reverse_cons];exact(revD_up h2).append (ax.cons h1 ax.nil)
theorem de_rev{j p3 p4}(ha:DW X e fa):DE X (.Subscript e (.Slice none none (some (.UnaryOp .USub (.Constant (.int 1) j p3) p4)) p2) pos) (Z.eU Z.oRev fa):=by
 have hs:PO X (some (.UnaryOp .USub (.Constant (.int 1) j p3) p4)) (tPart (tC (.int (-1)))):=po_some (te:=tC (.int (-1))) (PE.imp (pe_un un_neg pe_int) λ σ H Q h=>⟨1,rfl,h⟩);refine PE.imp (pe_rev ha hs (λ _ _=>by with_unfolding_all rfl)) λ σ H Q ⟨ρ,d,r,e,k⟩=>?_;obtain⟨x,ea,e⟩:=Z.Res.ao e;refine⟨ρ,x,r,ea,λ v H1 s1 d1=>?_⟩;unfold Z.oRev at e;split at e
 ·rename_i xs;cases e;obtain⟨q,vs,rfl,hq,t⟩:=d1.tup;refine .inl ⟨q,vs,rfl,hq,λ p hp=>?_⟩;have s2:aD H1 (upd H1 p (.tup vs.reverse)):=bG hp;exact k _ _ (s1.trans s2) (fT (k?.of aX) ((revD_up t).up s2))
 ·rename_i cs;obtain⟨hl,e⟩:=Z.iB e;cases e;have d1':=d1.str;subst d1';refine .inr ⟨_,rfl,?_,?_⟩
  ·show cs.toArray.size≤sizeLine;rw[List.size_toArray,sizeLine_eq];exact hl
  ·have:(⟨cs.toArray.toList.reverse.toArray⟩:Str)=⟨cs.reverse.toArray⟩:=by simp
   rw[this];exact k _ H1 s1 iW
 ·cases e
end
end ZS
namespace ZQ
open PySem PySem.Spec PyProof.Rows L2 ZS
section
variable {X:Cx}{e:Expr}{pos p2:Pos}{fa:Z.EF}
theorem de_rev{j p3 p4}(ha:QW X e fa):QE X (.Subscript e (.Slice none none (some (.UnaryOp .USub (.Constant (.int 1) j p3) p4)) p2) pos) (Z.eU Z.oRev fa):=⟨ZS.de_rev ha.p⟩
end
end ZQ
noncomputable section
namespace Z
def sBad(_:Env):Res Fl:=.bad
@[simp] theorem sBad_a(ρ:Env):sBad ρ=.bad:=rfl
def eBad(_:Env):Res D:=.bad
@[simp] theorem eBad_a(ρ:Env):eBad ρ=.bad:=rfl
def withN(f:List D->Res D)(ds:List D):Res D:=f (ds++[.non])
@[simp] theorem withN_a(f:List D->Res D)(ds:List D):withN f ds=f (ds++[.non]):=rfl
end Z
end
namespace ZS
open PySem PySem.Spec PyProof.Rows L2
structure FunD(K:PySem.W.Frag)(x qual:Str)(st:Stmt)(f:Addr)(fd:FuncData):Prop where
 ex:∃(oc:Value)(od:Option Addr)(dV kV doc pm:Value)(an:Option Addr)(bT ct:Value)(osl:Array (Option Value)),
  fd=PySem.W.fnOf x qual (cB st) (bp st) (aj st) dV kV doc pm an bT ct∧K.lookup f=some ⟨oc,od,.func fd,osl⟩∧PySem.W.codeIn K bT qual=true
 kp:PySem.W.keepIn K (.ref f)=true
section
variable {P:Program}{w:World}{K:PySem.W.Frag}{mg:Str->Option Value}{base:Heap}
structure DefD(K:PySem.W.Frag)(mg:Str->Option Value)(x:Str)(st:Stmt)(ps:List Str):Prop where
 ex:∃f fd,FunD K x x st f fd∧mg x=some (.ref f)∧Binds K fd ps []∧Binds K fd ps [.none]
structure CalD(P:Program)(w:World)(K:PySem.W.Frag)(mg:Str->Option Value)(base:Heap)(x:Str)(k:Nat)(ps:List Str)(m:List Z.D->Z.Res Z.D):Prop where
 ex:∃g fd,k_ P w K mg base CX0 k g fd ps (spZ K m)∧mg x=some (.ref g)∧PySem.W.keepIn K (.ref g)=true∧Binds K fd ps []∧Binds K fd ps [.none]
theorem defD_mk{x:Str}{st:Stmt}{ps:List Str}{f t:Addr}{oc:Value}{od an:Option Addr}{osl:Array (Option Value)}{kV doc pm bT ct tc:Value}{td:Option Addr}{tn:Nat}{tsl:Array (Option Value)}
  (l:K.lookup f=some ⟨oc,od,.func (PySem.W.fnOf x x (cB st) (bp st) (aj st) (.ref t) kV doc pm an bT ct),osl⟩)
  (c:PySem.W.codeIn K bT x=true) (k:PySem.W.keepIn K (.ref f)=true) (lt:K.lookup t=some ⟨tc,td,.seq #[.none] tn,tsl⟩) (hm:mg x=some (.ref f))
  (h1:∀us:List Value,us.length=ps.length->∃kk:Option (Array Value)->Sem (List (Str×Value)),bindArgs (PySem.W.fnOf x x (cB st) (bp st) (aj st) (.ref t) kV doc pm an bT ct) ⟨us,[]⟩=seqItems? (.ref t) >>= kk∧kk (some #[.none])=pure (ps.zip us))
  (h2:∀us:List Value,us.length+1=ps.length->∃kk:Option (Array Value)->Sem (List (Str×Value)),bindArgs (PySem.W.fnOf x x (cB st) (bp st) (aj st) (.ref t) kV doc pm an bT ct) ⟨us,[]⟩=seqItems? (.ref t) >>= kk∧kk (some #[.none])=pure (ps.zip (us++[.none]))):DefD K mg x st ps:=by
 refine⟨f,_,⟨⟨oc,od,.ref t,kV,doc,pm,an,bT,ct,osl,rfl,l,c⟩,k⟩,hm,λ s us hK hl=>?_,λ s us hK hl=>?_⟩
 ·rw[List.append_nil]at hl ⊢;obtain⟨kk,e1,e2⟩:=h1 us hl;exact BindsTo.of_defaults (T:=t) (items:=#[.none]) rfl (hK t _ lt) rfl e1 e2
 ·obtain⟨kk,e1,e2⟩:=h2 us (by simpa using hl);exact BindsTo.of_defaults (T:=t) (items:=#[.none]) rfl (hK t _ lt) rfl e1 e2
end
section
variable {X:Cx}{e:Expr}{es:List Expr}{pos:Pos}
end
end ZS
namespace ZQ
open PySem PySem.Spec PyProof.Rows L2 ZS
section
variable {X:Cx}{e:Expr}{es:List Expr}{pos:Pos}{H0:Hp}{st:Stmt}{sts:List Stmt}
end
end ZQ
namespace PySem
open Sem (wp)
open Builtin
end PySem
namespace ZS
open PySem PySem.Spec PyProof.Rows L2
section
variable {X:Cx}{a b:Expr}{pos:Pos}{fa fb:Z.EF}
end
end ZS
namespace ZQ
open PySem PySem.Spec PyProof.Rows L2 ZS
section
variable {X:Cx}{a b:Expr}{pos:Pos}{fa fb:Z.EF}
end
end ZQ
noncomputable section
namespace Z
def cutC(c:Nat):List Nat->List (List Nat)
 | []=>[[]]
 | x :: r=>if x=c then[] :: cutC c r else match cutC c r with
  | []=>[[x]]
  | p :: ps=>(x :: p) :: ps
def splK:D->D->Res (List D)
 | .str cs,.str [c]=>guard (cs.length+2≤line) (.ok ((cutC c cs).map .str))
 | _,_=>.bad
def lSplit(a b:EF)(ρ:Env):Res (List D):=(a ρ).bind λ x=>(b ρ).bind λ y=>splK x y
def tlD:D->D->Res (List D)
 | .tup xs,.lst ys=>.ok (gR xs ys)
 | _,_=>.bad
def iZipL(a b:EF)(ρ:Env):Res (List D):=(a ρ).bind λ x=>(b ρ).bind λ y=>tlD x y
@[simp] theorem iZipL_a(a b:EF)(ρ:Env):iZipL a b ρ=(a ρ).bind λ x=>(b ρ).bind λ y=>tlD x y:=rfl
@[simp] theorem tlD_a(xs ys:List D):tlD (.tup xs) (.lst ys)=.ok (gR xs ys):=rfl
@[simp] theorem lSplit_a(a b:EF)(ρ:Env):lSplit a b ρ=(a ρ).bind λ x=>(b ρ).bind λ y=>splK x y:=rfl
end Z
end
namespace ZS
open PySem PySem.Spec PyProof.Rows L2
section
variable {prog:Program}{w:World}{A:Around}{E:Value->Shared->Prop}{s:Shared}{x y:Str}{t u:Tok}{Q:Value->Shared->Prop}
end
section
variable {X:Cx}{o a b:Expr}{pos p p2:Pos}{fa fb:Z.EF}{elts:List Expr}{x1:Nat}
theorem meets_zipTL(l1 l2:Addr)(xs ys:Array Value):Meets (Builtin.«zip.__new__» ⟨[.type "zip",.ref l1,.ref l2],[]⟩) (λ _ R s=>s.heap.IsTuple l1 xs∧s.heap.IsList l2 ys∧R (.ok (.ret (.ref (s.heap.objs.size+4)))) { s with heap:=zh "tuple_iterator" "list_iterator" s.heap l1 l2 }) :=
 .of_wp λ prog w A R s h=>by
  obtain⟨hp,gs,dr,tk,os⟩:=s;obtain⟨hl1,hl2,h⟩:=h;have hsub:=sub_zip;have q1:Heap.IsTuple (Shared.heap ⟨hp,gs,dr,tk,os⟩) l1 xs:=hl1;have q2:Heap.IsList (Shared.heap ⟨hp.push { cls:=.type "tuple_iterator",data:=.fields #[.ref l1,.int 0 0] },gs,dr,tk,os⟩) l2 ys:=Heap.IsList.push hl2 _
  wp_walk using wpAny_pyIter_tuple q1,wpAny_pyIter_list q2
  simp only[zh,Heap.size_push]at h ⊢;exact⟨_,rfl,h⟩
end
end ZS
namespace ZQ
open PySem PySem.Spec PyProof.Rows L2 ZS
section
variable {X:Cx}{o a b:Expr}{pos p p2:Pos}{fa fb:Z.EF}{elts:List Expr}{x1:Nat}
end
end ZQ
noncomputable section
namespace Z
def signsD(cs:List Nat):List D:=cs.map λ c=>.str [c]
def lsK:D->Res (List D)
 | .str cs=>guard (cs.length≤line) (.ok (signsD cs))
 | _=>.bad
def lOfS(a:EF)(ρ:Env):Res (List D):=(a ρ).bind lsK
@[simp] theorem lOfS_a(a:EF)(ρ:Env):lOfS a ρ=(a ρ).bind lsK:=rfl
@[simp] theorem lsK_a(cs:List Nat):lsK (.str cs)=guard (cs.length≤line) (.ok (signsD cs)):=rfl
def oTupS(x:D):Res D:=(lsK x).map D.tup
@[simp] theorem oTupS_a(cs:List Nat):oTupS (.str cs)=guard (cs.length≤line) (.ok (.tup (signsD cs))):=by unfold oTupS;rw[lsK_a];unfold guard;split<;>rfl
end Z
end
namespace ZS
open PySem PySem.Spec PyProof.Rows L2
section
variable {prog:Program}{w:World}{A:Around}{E:Value->Shared->Prop}{s:Shared}{R:Result->Shared->Prop}{x:Str}{t:Tok}
end
section
variable {X:Cx}{a b e:Expr}{pos p2:Pos}{fa fb:Z.EF}
end
end ZS
namespace ZQ
open PySem PySem.Spec PyProof.Rows L2 ZS
section
variable {X:Cx}{a b e:Expr}{pos p2:Pos}{fa fb:Z.EF}
end
end ZQ
namespace PySem
namespace F
end F
namespace F
end F
def Heap.IsRvd(h:Heap)(a t:Addr)(i:Int):Prop:=∃o,h.get? a=some o∧o.cls=.type "reversed" ∧ o.data=.fields #[.ref t,rawInt i]
theorem Heap.IsRvd.typeIs{s:Shared}{a l:Addr}{i:Int}(x:s.heap.IsRvd a l i):s.TypeIs (.ref a) "reversed" := let ⟨o,ho,hc,_⟩:=x;⟨o,ho,hc⟩
theorem Heap.IsRvd.at{h h':Heap}{a l:Addr}{i:Int}(x:h.IsRvd a l i)(e:∀o,h.get? a=some o->h'.get? a=some o):h'.IsRvd a l i:=let ⟨o,ho,r⟩:=x;⟨o,e _ ho,r⟩
section
variable {prog:Program}{w:World}{A:Around}{E:Value->Shared->Prop}{s:Shared}
end
end PySem
noncomputable section
namespace Z
def rvK:D->Res (List D)
 | .tup xs=>.ok xs.reverse
 | .lst xs=>.ok xs.reverse
 | _=>.bad
def lRevd(a:EF)(ρ:Env):Res (List D):=(a ρ).bind rvK
@[simp] theorem lRevd_a(a:EF)(ρ:Env):lRevd a ρ=(a ρ).bind rvK:=rfl
@[simp] theorem rvK_tup(xs:List D):rvK (.tup xs)=.ok xs.reverse:=rfl
@[simp] theorem rvK_lst(xs:List D):rvK (.lst xs)=.ok xs.reverse:=rfl
end Z
end
namespace PySem
section
variable {prog:Program}{w:World}{A:Around}{s:Shared}{R:Result->Shared->Prop}
variable {I:Addr}{fp wr:List Addr}{G:Array GenState->Array GenState->Prop}{n:Nat}{P:Nat->Value->Prop}{St:Nat->Shared->Prop}
end
section
variable {prog:Program}{w:World}{A:Around}{E:Value->Shared->Prop}{s:Shared}{I t:Addr}{items:Array Value}{Q:Value->Shared->Prop}
end
end PySem
namespace ZS
open PySem PySem.Spec PyProof.Rows L2
section
variable {X:Cx}{a:Expr}{pos p p1 p2:Pos}{fa:Z.EF}
end
end ZS
namespace ZQ
open PySem PySem.Spec PyProof.Rows L2 ZS
section
variable {X:Cx}{a:Expr}{pos p p1 p2:Pos}{fa:Z.EF}
end
end ZQ
noncomputable section
namespace Z
def zbK(x:D):Option (Option L)->Res (List D)
 | some (some (.bor ys))=>match x with
  | .tup xs=>.ok (gR xs ys)
  | _=>.bad
 | some (some (.val (.tup ys)))=>match x with
  | .tup xs=>.ok (gR xs ys)
  | _=>.bad
 | _=>.bad
def iZipB(a:EF)(i:Nat)(ρ:Env):Res (List D):=(a ρ).bind λ x=>zbK x ρ[i]?
@[simp] theorem iZipB_a(a:EF)(i:Nat)(ρ:Env):iZipB a i ρ=(a ρ).bind λ x=>zbK x ρ[i]?:=rfl
@[simp] theorem zbK_bor(xs ys:List D):zbK (.tup xs) (some (some (.bor ys)))=.ok (gR xs ys):=rfl
@[simp] theorem zbK_tup(xs ys:List D):zbK (.tup xs) (some (some (.val (.tup ys))))=.ok (gR xs ys):=rfl
theorem zbK_ok{x:D}{o:Option (Option L)}{ds:List D}(h:zbK x o=.ok ds):∃xs ys,x=.tup xs∧(o=some (some (.bor ys))∨o=some (some (.val (.tup ys))))∧ds=gR xs ys:=by
 unfold zbK at h;split at h
 ·split at h
  ·cases h;exact⟨_,_,rfl,.inl rfl,rfl⟩
  ·cases h
 ·split at h
  ·cases h;exact⟨_,_,rfl,.inr rfl,rfl⟩
  ·cases h
 ·cases h
end Z
end
namespace ZS
open PySem PySem.Spec PyProof.Rows L2
theorem bd1{fd:FuncData}{ps:List Str}(h:∀a0:Value,bindArgs fd ⟨[a0],[]⟩=pure (ps.zip [a0])):∀us:List Value,us.length=1->bindArgs fd ⟨us,[]⟩=pure (ps.zip us)
 | [a0],_=>h a0
theorem bd2{fd:FuncData}{ps:List Str}(h:∀a0 a1:Value,bindArgs fd ⟨[a0,a1],[]⟩=pure (ps.zip [a0,a1])):∀us:List Value,us.length=2->bindArgs fd ⟨us,[]⟩=pure (ps.zip us)
 | [a0,a1],_=>h a0 a1
theorem bd3{fd:FuncData}{ps:List Str}(h:∀a0 a1 a2:Value,bindArgs fd ⟨[a0,a1,a2],[]⟩=pure (ps.zip [a0,a1,a2])):∀us:List Value,us.length=3->bindArgs fd ⟨us,[]⟩=pure (ps.zip us)
 | [a0,a1,a2],_=>h a0 a1 a2
theorem bd4{fd:FuncData}{ps:List Str}(h:∀a0 a1 a2 a3:Value,bindArgs fd ⟨[a0,a1,a2,a3],[]⟩=pure (ps.zip [a0,a1,a2,a3])):∀us:List Value,us.length=4->bindArgs fd ⟨us,[]⟩=pure (ps.zip us)
 | [a0,a1,a2,a3],_=>h a0 a1 a2 a3
theorem bd5{fd:FuncData}{ps:List Str}(h:∀a0 a1 a2 a3 a4:Value,bindArgs fd ⟨[a0,a1,a2,a3,a4],[]⟩=pure (ps.zip [a0,a1,a2,a3,a4])):∀us:List Value,us.length=5->bindArgs fd ⟨us,[]⟩=pure (ps.zip us)
 | [a0,a1,a2,a3,a4],_=>h a0 a1 a2 a3 a4
def StbK(H0 H1:Hp):Hp->Prop:=λ H2=>i5 H1 H2∧aD H0 H2
def tZk(K:PySem.W.Frag)(H0:Hp)(f:Z.LF):TI:=λ σ H R=>∃ρ ds,RS K H0 H σ ρ∧f ρ=.ok ds∧∀J H',aD H H'->ItZ K J (StbK H0 H') ds->R J H'
abbrev DK(X:Cx)(H0:Hp)(tg e:Expr)(f:Z.LF):Prop:=PI X tg e (tZk X.K H0 f)
theorem Gives.imp{K:PySem.W.Frag}{J:Inn}{S S':Hp->Prop}{ds:List Z.D}(h:Gives K J S ds)(k:∀H,S' H->S H):Gives K J S' ds :=
 ⟨λ i d H1 s=>h.at_ i d H1 (k _ s),λ H1 s=>h.end_ H1 (k _ s)⟩
theorem gives_bor{K:PySem.W.Frag}{H0 H1:Hp}{q:Addr}{vs:List V}{ds:List Z.D}(h:i6 K H0 q vs)(t:ax K H0 ds vs):Gives K (innL K q vs) (StbK H0 H1) ds :=
 ⟨λ i d H2 s hi=>by obtain⟨y,hy,dy⟩:=t.get hi;refine⟨⟨y,s.2.seq h,hy⟩,λ y' hy'=>?_⟩;have:=hy'.2;rw[hy]at this;cases this;exact dy.up s.2,λ H2 s=>⟨s.2.seq h,t.length⟩⟩
section
variable {X:Cx}{H0:Hp}{tg a b:Expr}{pos p p2:Pos}{fa:Z.EF}{elts:List Expr}{x1:Nat}{g:Z.SF}
theorem ds_forK{it : Z.LF}{G : Z.GF}{iter : Expr}{body : List Stmt}(hp : PassesOwn (model X.prog X.w) X.A X.env X.xe)(hc : X.calm = true)(hi : DK X H0 tg iter it)(hg : DG X H0 tg G)(hb : DSs X H0 body g)
  (hs:∀x,foldedSetIterable iter X.env x=pure x:=by intro _;rfl):DS X H0 (.For tg iter body [] pos) (Z.gJ it G g):=PS.imp (ps_for hp hc hi hg hb hs) λ D σ H ⟨ρ,fl,rs,e,k⟩=>by
 obtain⟨ds,ei,e⟩:=Z.Res.ao e;refine⟨ρ,ds,rs,ei,λ J H1 s1 z=>?_⟩;refine⟨λ i m σ' H'=>m=ds.length-i∧i≤ds.length∧∃ρ',RS X.K H0 H' σ' ρ'∧i5 H1 H'∧Z.eX G g (ds.drop i) ρ'=.ok fl,⟨ds.length,by simp,Nat.zero_le _,ρ,rs.up s1,i5.refl H1,by simpa using e⟩,?_⟩;rintro i m σ2 H2 ⟨rfl,hil,ρ2,r2,s2,e2⟩;by_cases kj:i < ds.length
 ·obtain⟨d,hd⟩:∃d,ds[i]?=some d:=⟨ds[i],by simp[kj]⟩
  have hdrop:ds.drop i=d :: ds.drop (i+1):=by
   rw[List.drop_eq_getElem_cons kj];have:ds[i]=d:=by have:=List.getElem?_eq_getElem kj;rw[this]at hd;exact Option.some.inj hd
   rw[this]
  rw[hdrop]at e2;unfold Z.eX at e2;obtain⟨ρ3,eg,e2⟩:=Z.Res.ao e2;obtain⟨f3,eb,e2⟩:=Z.Res.ao e2;refine .inr ⟨z.go i d H2 ⟨s2,r2.same⟩ hd,λ σ' H'=>∃ρ',RS X.K H0 H' σ' ρ'∧i5 H1 H'∧Z.eX G g (ds.drop (i+1)) ρ'=.ok fl,λ σ' H' w=>⟨_,by lia,rfl,kj,w⟩,λ x H3 y=>?_⟩;obtain⟨sy,dx⟩:=z.yld i d H2 H3 x ⟨s2,r2.same⟩ hd y;replace s2:=s2.trans (stb sy);refine⟨ρ2,d,ρ3,r2.up sy,dx,eg,λ σ4 H4 s4' r4=>⟨ρ3,f3,r4,eb,?_⟩⟩;have s4:=stb s4';cases f3 with
  | nx ρ5=>exact λ σ5 H5 s5 r5=>⟨ρ5,r5,(s2.trans s4).trans s5,e2⟩
  | ct ρ5=>exact λ σ5 H5 s5 r5=>⟨ρ5,r5,(s2.trans s4).trans s5,e2⟩
  | bk ρ5 =>cases e2;exact λ σ5 H5 s5 r5=>k σ5 H5 ((stb s1).trans ((s2.trans s4).trans s5)) r5
  | rt d5 =>cases e2;exact k
 ·have:i=ds.length:=by lia
  subst this;rw[List.drop_length]at e2;cases e2;exact .inl ⟨z.stop H2 ⟨s2,r2.same⟩,k σ2 H2 ((stb s1).trans s2) r2⟩
theorem dk_zipB{i:Nat}(hg:Gl X "zip")(hm:X.mg "zip" = none)(ha:DE X a fa)(hb:PE X b (lD i))(hs:starEach [a,b] X.env=[(false,eval a X.env),(false,eval b X.env)]:=by rfl)(hs2:starEach [b] X.env=[(false,eval b X.env)]:=by rfl)
  (h1:starEach (a :: [b]) X.env=(false,eval a X.env) :: starEach [b] X.env:=by rfl) (h2:starEach (b :: []) X.env=(false,eval b X.env) :: starEach [] X.env:=by rfl):DK X H0 (.Tuple elts x1 p2) (.Call (.Name "zip" p) [a,b] [] pos) (Z.iZipB fa i):=by
 intro pins s σ H R I w;obtain⟨ρ,ds,r,e,k⟩:=w;obtain⟨d1,ea,e⟩:=Z.Res.ao e;obtain⟨xs,ys,rfl,ho,rfl⟩:=Z.zbK_ok e;obtain⟨v2,hv2,kv⟩:∃v2,σ[i]?=some (some v2)∧(aZ X.K H0 (.lst ys) v2∨Den X.K H (.tup ys) v2):=by
  rcases ho with ho | ho
  ·obtain⟨v,h1,h2⟩:=r.nR i ys ho;exact⟨v,h1,.inl h2⟩
  ·obtain⟨v,h1,h2⟩:=r.re.get i _ ho;exact⟨v,h1,.inr h2⟩
 refine Call_ (l? I hg hm (by kernel_rfl:bootBuiltins "zip" = some (.type "zip")) (PyProof.Rows.callWith_type1 (du ((a! ha (a! hb cQ h2) h1) pos pins s σ H (λ vs H1=>∃v,vs=[v,v2]∧aD H H1∧Den X.K H1 (.tup xs) v) I ⟨ρ,_,r.re,ea,λ v H1 s1 q1=>⟨v2,hv2,v,rfl,s1,q1⟩⟩) λ us s1 ⟨vs,H1,I1,r1,q1⟩=>?_) (by rw[hs,hs2]) (by rw[hs2];rfl)));obtain⟨v,rfl,sm,hd1⟩:=q1;obtain⟨u1,u2,rfl,ru1,ru2⟩:=vals2 r1;obtain⟨q,vs,rfl,hq,t⟩:=aZ.tup (.inl hd1);cases ru1;obtain⟨aM,rv,pt,hz⟩:=I1.tuple hq;rcases kv with kv | kv
 ·obtain⟨q2,vs2,rfl,hq2,t2⟩:=kv.lst;cases ru2;have hq2':i6 X.K H1 q2 vs2:=(r.same.trans sm).seq hq2;obtain⟨dq,rv2,pt2,_⟩:=I1.list hq2';obtain⟨f1,f2,f3,f4,f5,f6⟩:=my "tuple_iterator" "list_iterator" s1.heap q q2;refine callType_new F.called_zip (by decide) (F.typeCall_zip_2 _ _) (F.newCall_zip_2 _ _) (λ obj=>F.args_object_init_3 obj _ _) F.entry_zip_new (meets_zipTL q q2 aM.toArray dq.toArray) ⟨pt,pt2.isList,⟨_,f1,rfl⟩,wpAny_pyIter_zip f1 ?_⟩;exact⟨_,[s1.heap.objs.size+4,s1.heap.objs.size+2,s1.heap.objs.size+3,s1.heap.objs.size,s1.heap.objs.size+1],_,ItP (innT X.K q vs) (innL X.K q2 vs2),H1,rfl,I1.kept (t':=s1.toks) f6,mD jB src_lst (nd_five _),⟨f1,f2,⟨_,_,f3⟩,⟨_,f4,rfl,rfl⟩,⟨_,f5,rfl,rfl⟩⟩,fp_five I1,k _ H1 sm (itz_zip ((il hq t).imp λ _ h=>h.1) (gives_bor hq2 t2))⟩
 ·obtain⟨q2,vs2,rfl,hq2,t2⟩:=aZ.tup (.inl (kv.up sm));cases ru2;obtain⟨dq,rv2,pt2,_⟩:=I1.tuple hq2;obtain⟨f1,f2,f3,f4,f5,f6⟩:=my "tuple_iterator" "tuple_iterator" s1.heap q q2;refine callType_new F.called_zip (by decide) (F.typeCall_zip_2 _ _) (F.newCall_zip_2 _ _) (λ obj=>F.args_object_init_3 obj _ _) F.entry_zip_new (meets_zipTT q q2 aM.toArray dq.toArray) ⟨pt,pt2,⟨_,f1,rfl⟩,wpAny_pyIter_zip f1 ?_⟩;exact⟨_,[s1.heap.objs.size+4,s1.heap.objs.size+2,s1.heap.objs.size+3,s1.heap.objs.size,s1.heap.objs.size+1],_,ItP (innT X.K q vs) (innT X.K q2 vs2),H1,rfl,I1.kept (t':=s1.toks) f6,mD jB jB (nd_five _),⟨f1,f2,⟨_,_,f3⟩,⟨_,f4,rfl,rfl⟩,⟨_,f5,rfl,rfl⟩⟩,fp_five I1,k _ H1 sm (itz_zip ((il hq t).imp λ _ h=>h.1) ((il hq2 t2).imp λ _ h=>h.1))⟩
end
end ZS
namespace ZQ
open PySem PySem.Spec PyProof.Rows L2 ZS
structure QK(X:Cx)(H0:Hp)(tg e:Expr)(f:Z.LF):Prop where p:DK X H0 tg e f
section
variable {X:Cx}{H0:Hp}{tg a b:Expr}{pos p p2:Pos}{fa:Z.EF}{elts:List Expr}{x1:Nat}{g:Z.SF}
theorem ds_forK{it:Z.LF}{G:Z.GF}{iter:Expr}{body:List Stmt}(hp:PassesOwn (model X.prog X.w) X.A X.env X.xe)(hc:X.calm=true)(hi:QK X H0 tg iter it)(hg:QG X H0 tg G)(hb:QSs X H0 body g)(hs:∀x,foldedSetIterable iter X.env x=pure x:=by intro _;rfl):QS X H0 (.For tg iter body [] pos) (Z.gJ it G g):=⟨ZS.ds_forK (hp:=hp) (hc:=hc) (hi:=hi.p) (hg:=hg.p) (hb:=hb.p) (hs:=hs)⟩
theorem dk_zipB{i:Nat}(hg:Gl X "zip")(hm:X.mg "zip" = none)(ha:QE X a fa)(hb:PE X b (lD i))(hs:starEach [a,b] X.env=[(false,eval a X.env),(false,eval b X.env)]:=by rfl)(hs2:starEach [b] X.env=[(false,eval b X.env)]:=by rfl)
  (h1:starEach (a :: [b]) X.env=(false,eval a X.env) :: starEach [b] X.env:=by rfl) (h2:starEach (b :: []) X.env=(false,eval b X.env) :: starEach [] X.env:=by rfl):QK X H0 (.Tuple elts x1 p2) (.Call (.Name "zip" p) [a,b] [] pos) (Z.iZipB fa i):=⟨ZS.dk_zipB hg hm ha.p hb hs hs2 h1 h2⟩
end
end ZQ
noncomputable section
namespace Z
def intsOf:List D->Option (List Int)
 | []=>some []
 | d :: r=>match d,intsOf r with
  | .int i,some is=>some (i :: is)
  | _,_=>none
def keyOf:D->Option (List Int)
 | .tup ds=>intsOf ds
 | _=>none
def putD(ks:List (List Int))(k:List Int):List (List Int):=if k∈ks then ks else ks++[k]
def sDic(i:Nat)(ρ:Env):Res Fl:=.ok (.nx (ρ.set i (some (.lU []))))
def dputK(i:Nat)(ρ:Env)(k:Option (List Int))(o:Option (Option L)):Res Fl:=match k,o with
 | some k,some (some (.dc (.inl ks)))=>guard (ks.length < line) (.ok (.nx (ρ.set i (some (.lU (putD ks k))))))
 | _,_=>.bad
def mN(i:Nat)(e:EF)(ρ:Env):Res Fl:=(e ρ).bind λ d=>dputK i ρ (keyOf d) ρ[i]?
def dfrzK(i:Nat)(ρ:Env)(o:Option (Option L)):Env:=match o with
 | some (some (.dc (.inl ks)))=>ρ.set i (some (.fdc ks))
 | _=>ρ
def sDFrz(i:Nat)(a:SF)(ρ:Env):Res Fl:=a (dfrzK i ρ ρ[i]?)
def dinK(k:Option (List Int))(o:Option (Option L)):Res Bool:=match k,o with
 | some k,some (some (.fdc ks))=>.ok (decide (k∈ks))
 | _,_=>.bad
def tInD(e:EF)(i:Nat)(ρ:Env):Res Bool:=(e ρ).bind λ d=>dinK (keyOf d) ρ[i]?
def tNinD(e:EF)(i:Nat)(ρ:Env):Res Bool:=(e ρ).bind λ d=>(dinK (keyOf d) ρ[i]?).bind λ b=>.ok (!b)
theorem intsOf_ok:∀{ds:List D}{k:List Int},intsOf ds=some k->ds=k.map D.int
 | [],k,h=>by cases h;rfl
 | d :: r,k,h=>by
  unfold intsOf at h;split at h
  ·rename_i i is e;cases h;rw[intsOf_ok e];rfl
  ·cases h
theorem keyOf_ok{d:D}{k:List Int}(h:keyOf d=some k):d=.tup (k.map D.int):=by
 cases d with
 | tup ds=>rw[intsOf_ok (show intsOf ds=some k from h)]
 | _=>cases h
theorem dputK_ok{i:Nat}{ρ:Env}{k:Option (List Int)}{o:Option (Option L)}{fl:Fl}(h:dputK i ρ k o=.ok fl):∃k' ks,k=some k'∧o=some (some (.lU ks))∧ks.length < line∧fl=.nx (ρ.set i (some (.lU (putD ks k')))):=by
 unfold dputK at h;split at h
 ·rename_i k' ks;obtain⟨h1,h2⟩:=iB h;cases h2;exact⟨k',ks,rfl,rfl,h1,rfl⟩
 ·cases h
theorem dinK_ok{k:Option (List Int)}{o:Option (Option L)}{b:Bool}(h:dinK k o=.ok b):∃k' ks,k=some k'∧o=some (some (.fdc ks))∧b=decide (k'∈ks):=by
 unfold dinK at h;split at h
 ·rename_i k' ks;cases h;exact⟨k',ks,rfl,rfl,rfl⟩
 ·cases h
@[simp] theorem sDic_a(i:Nat)(ρ:Env):sDic i ρ=.ok (.nx (ρ.set i (some (.lU [])))):=rfl
@[simp] theorem sDPut_a(i:Nat)(e:EF)(ρ:Env):mN i e ρ=(e ρ).bind λ d=>dputK i ρ (keyOf d) ρ[i]?:=rfl
@[simp] theorem dputK_a(i:Nat)(ρ:Env)(k:List Int)(ks:List (List Int)):dputK i ρ (some k) (some (some (.lU ks)))=guard (ks.length < line) (.ok (.nx (ρ.set i (some (.lU (putD ks k)))))):=rfl
@[simp] theorem sDFrz_a(i:Nat)(a:SF)(ρ:Env):sDFrz i a ρ=a (dfrzK i ρ ρ[i]?):=rfl
@[simp] theorem dfrzK_a(i:Nat)(ρ:Env)(ks:List (List Int)):dfrzK i ρ (some (some (.lU ks)))=ρ.set i (some (.fdc ks)):=rfl
@[simp] theorem tInD_a(e:EF)(i:Nat)(ρ:Env):tInD e i ρ=(e ρ).bind λ d=>dinK (keyOf d) ρ[i]?:=rfl
@[simp] theorem tNinD_a(e:EF)(i:Nat)(ρ:Env):tNinD e i ρ=(e ρ).bind λ d=>(dinK (keyOf d) ρ[i]?).bind λ b=>.ok (!b):=rfl
@[simp] theorem dinK_a(k:List Int)(ks:List (List Int)):dinK (some k) (some (some (.fdc ks)))=.ok (decide (k∈ks)):=rfl
def lstK:D->Res (List D)
 | .lst xs=>.ok xs
 | _=>.bad
def lVal(a:EF)(ρ:Env):Res (List D):=(a ρ).bind lstK
@[simp] theorem lVal_a(a:EF)(ρ:Env):lVal a ρ=(a ρ).bind lstK:=rfl
@[simp] theorem lstK_a(xs:List D):lstK (.lst xs)=.ok xs:=rfl
end Z
namespace ZS
open PySem PySem.Spec PyProof.Rows L2
section
variable {X:Cx}{pins:List (Addr×Obj)}{σ:St}{H:Hp}{s:Shared}
theorem dens_int{K:PySem.W.Frag}:∀{k:List Int}{vs:List V},ax K H (k.map Z.D.int) vs->vs=k.map V.int
 | [],vs,h=>by simpa only[List.map_nil,ax]using h
 | i :: k,vs,h=>by simp only[List.map_cons,ax,Den]at h;obtain⟨v,r,rfl,rfl,t⟩:=h;rw[dens_int t];rfl
theorem items_int{P:Program}{w:World}:∀{k:List Int}{aM:List Value},Vals (k.map V.int) aM->PySem.ItemsAre (intKind P w) k aM
 | [],_,.nil=>.nil
 | i :: k,_,.cons r t=>.cons (by obtain⟨t,rfl⟩:=r;simp[intKind,Value.isInt]) (items_int t)
theorem key_at(I:Inv X pins σ H s){k:List Int}{b:Addr}(h:Den X.K H (.tup (k.map .int)) (.ref b)):(tupleKind (intKind X.prog X.w)).is s.heap k b:=by simp only[Den]at h;obtain⟨a,vs,e,hq,t⟩:=h;cases e;rw[dens_int t]at hq;obtain⟨aM,r,⟨o,h1,h2,n,h3⟩,_⟩:=I.tuple hq;exact⟨o,aM.toArray,n,h1,h2,h3,by simpa using items_int r⟩
theorem keys_at(I:Inv X pins σ H s):∀{xs:List (List Int×Addr×Value)},g? X.K H (xs.map (·.1)) (xs.map (·.2.1))->∀x∈xs,(tupleKind (intKind X.prog X.w)).is s.heap x.1 x.2.1
 | [],_,x,hx=>nomatch hx
 | y :: ys,.cons h t,x,hx=>by
  rcases List.mem_cons.mp hx with rfl | hx
  ·exact key_at I h
  ·exact keys_at I t x hx
theorem DicAt.mono{a:Addr}{ks:List (List Int)}{as:List Addr}{h1 h2:Heap}(h:DicAt a ks as h1)(k:∀o,h1.get? a=some o->h2.get? a=some o):DicAt a ks as h2:=by obtain⟨z,hd,xs,o,es,ep,e1,e2,e3,e4⟩:=h;exact⟨z,hd,xs,o,es,ep,e1,e2,k _ e3,e4⟩
theorem dic_of(I:Inv X pins σ H s){a:Addr}{ks:List (List Int)}{as:List Addr}(e:Rd H a (DicO a ks as))(t:g? X.K H ks as):ks.length≤sizeLine∧(a==sysModules)=false ∧
  ∃xs:List (List Int×Addr×Value),xs.map (·.1)=ks∧xs.map (·.2.1)=as∧s.heap.DictOfH (tupleKind (intKind X.prog X.w)) a xs:=by
 obtain⟨⟨z,hd,xs,o,es,ep,h1,h2,h3,h4,h5,h6,h7⟩,_,_⟩:=(show f7 X.prog X.w H s.heap a (DicO a ks as)from e.ok I.dO)
 subst h1 h2;exact⟨z,hd,xs,rfl,rfl,o,es,ep,h3,h4,h5,h6,keys_at I t,h7⟩
theorem at_mem{xs:List (List Int×Addr×Value)}{k:List Int}:(atKey xs k).isSome=decide (k∈xs.map (·.1)):=by
 induction xs with
 | nil=>rfl
 | cons x xs ih =>
  unfold atKey at ih ⊢;by_cases e:x.1=k
  ·simp[List.find?_cons,e]
  ·rw[List.find?_cons,decide_eq_false e];rw[ih];simp[Ne.symm e]
theorem put_fst(k:List Int)(v:Value)(xs:List (List Int×Addr×Value)):(xs.map (putAt k v)).map (·.1)=xs.map (·.1)∧(xs.map (putAt k v)).map (·.2.1)=xs.map (·.2.1):=by
 induction xs with
 | nil=>exact⟨rfl,rfl⟩
 | cons x xs ih =>simp only[List.map_cons,ih.1,ih.2];unfold putAt;split<;>exact⟨rfl,rfl⟩
theorem stored_keys{K:PySem.W.Frag}{xs:List (List Int×Addr×Value)}{k:List Int}{b:Addr}{v:Value}(t:g? K H (xs.map (·.1)) (xs.map (·.2.1)))(hk:Den K H (.tup (k.map .int)) (.ref b)):
  (storedH xs k b v).map (·.1)=Z.putD (xs.map (·.1)) k∧g? K H ((storedH xs k b v).map (·.1)) ((storedH xs k b v).map (·.2.1)):=by
 unfold storedH;rw[at_mem];by_cases e:k∈xs.map (·.1)
 ·rw[decide_eq_true e,if_pos rfl,(put_fst k v xs).1,(put_fst k v xs).2];exact⟨by unfold Z.putD;rw[if_pos e],t⟩
 ·rw[decide_eq_false e,if_neg (λ z=>nomatch z),List.map_append,List.map_append];exact⟨by unfold Z.putD;rw[if_neg e];rfl,Paired.snoc t hk⟩
theorem dic_big(I:Inv X pins σ H s):sysModules < s.heap.objs.size:=by have h:mainGlobals < s.heap.objs.size:=(I.mod.glob.keeps I.bk).lt;exact Nat.lt_trans (by decide) h
end
theorem RS.upq{K : PySem.W.Frag}{H0 H : Hp}{σ : St}{ρ : Z.Env}{i : Nat}{q : Addr}{ks : Z.DK}{as : List Addr}{u : HO}{l : Z.L}(h : RS K H0 H σ ρ)(ei : ρ[i]? = some (some (.dc ks)))(si : σ[i]? = some (some (.ref q)))
  (hq:H q=some (DcO q ks as)) (hl:RL K (upd H q u) l (.ref q)) (n1:∀xs,l≠.own xs) (n2:∀xs,l≠.bor xs):RS K H0 (upd H q u) σ (ρ.set i (some l)):=by
 have st:i5 H (upd H q u):=stb_upd hq (λ _=>dcO_tup) (λ _ _=>dcO_frz);have h0:H0 q=none:=h.lU.2 i ks q ei si;have hs:aD H0 (upd H q u):=λ b u e=>by rw[aK (bH e h0)];exact h.same b u e
 have old:∀{j:Nat}{ls:Z.DK},(ρ.set i (some l))[j]?=some (some (.dc ls))->∃ls',ρ[j]?=some (some (.dc ls')):=λ {j ls} e=>by
  rcases aA e with⟨rfl,_,_⟩ | ⟨_,e⟩
  ·exact⟨ks,ei⟩
  ·exact⟨ls,e⟩
 refine⟨hs,⟨by simp[h.re.len],λ j l' e=>?_,λ j k xs' ys p e1 e2 e3 e4=>?_⟩,λ j xs' p e1 e2=>?_,λ j xs' e1=>?_,⟨λ j k ks1 ks2 a e1 e2 e3 e4=>?_,λ j ks1 p e1 e2=>?_⟩⟩
 ·rcases aA e with⟨rfl,_,e⟩ | ⟨hj,e⟩
  ·cases e;exact⟨.ref q,si,hl⟩
  ·obtain⟨v,e1,r⟩:=h.re.get j l' e;refine⟨v,e1,?_⟩;cases l' with
   | val d=>exact Den.ups (show Den K H d v from r) st
   | own zs =>
    obtain⟨q',ws,rfl,hV,t'⟩:=r;have:q'≠q:=by rintro rfl;rw[hq]at hV;exact dcO_lst (Option.some.inj hV)
    exact⟨q',ws,rfl,by rw[aK this];exact hV,t'.ups st⟩
   | bor zs =>obtain⟨v',e2,r2⟩:=h.nR j zs e;rw[e1]at e2;cases e2;exact r2.up hs
   | dc ls =>
    obtain⟨q',as',rfl,hV,t'⟩:=r;have:q'≠q:=by rintro rfl;exact hj (h.lU.1 i j ks ls q' ei e si e1)
    exact⟨q',as',rfl,by rw[aK this];exact hV,t'.ups st⟩
   | fdc ls =>obtain⟨q',o',as',rfl,hV,t'⟩:=r;exact⟨q',o',as',rfl,st.fh _ _ _ hV,t'.ups st⟩
   | idc ps =>obtain⟨q',o',rfl,hV⟩:=r;exact⟨q',o',rfl,st.fh _ _ _ hV⟩
   | exc c =>obtain⟨q',o',u',C',rfl,hV,r1,r2,r3⟩:=r;exact⟨q',o',u',C',rfl,st.fh _ _ _ hV,r1,r2,r3.ups st⟩
 ·rcases aA e1 with⟨_,_,e⟩ | ⟨_,e1⟩
  ·exact absurd (Option.some.inj e) (n1 _)
  ·rcases aA e2 with⟨_,_,e⟩ | ⟨_,e2⟩
   ·exact absurd (Option.some.inj e) (n1 _)
   ·exact h.re.sep j k _ _ p e1 e2 e3 e4
 ·rcases aA e1 with⟨_,_,e⟩ | ⟨_,e1⟩
  ·exact absurd (Option.some.inj e) (n1 _)
  ·exact h.fresh j xs' p e1 e2
 ·rcases aA e1 with⟨_,_,e⟩ | ⟨_,e1⟩
  ·exact absurd (Option.some.inj e) (n2 _)
  ·exact h.nR j xs' e1
 ·obtain⟨_,o1⟩:=old e1;obtain⟨_,o2⟩:=old e2;exact h.lU.1 j k _ _ a o1 o2 e3 e4
 ·obtain⟨_,o1⟩:=old e1;exact h.lU.2 j _ p o1 e2
theorem RS.setG{K : PySem.W.Frag}{H0 H H' : Hp}{σ : St}{ρ : Z.Env}{i : Nat}{q : Addr}{kd : Z.DK}{as : List Addr}(h : RS K H0 H σ ρ)(hq : H q = none)(sm : aD H H')(hV : H' q = some (DcO q kd as))(hk : DcK K H' kd as): RS K H0 H' (σ.set i (some (.ref q))) (ρ.set i (some (.dc kd))) := by
 have getσ:∀(j:Nat),i≠j->(σ.set i (some (V.ref q)))[j]?=σ[j]?:=λ j hj=>List.getElem?_set_ne hj;have h':=h.up sm;have nq:∀(j:Nat)(ks:Z.DK),ρ[j]?=some (some (.dc ks))->σ[j]?≠some (some (.ref q)):=λ j ks e z=>by obtain⟨v,e1,q',as,rfl,h2,_⟩:=h.re.get j _ e;rw[z]at e1;cases e1;rw[hq]at h2;cases h2
 refine⟨h'.same,⟨by simp[h.re.len],λ j l e=>?_,λ j k xs ys p e1 e2 e3 e4=>?_⟩,λ j xs p e1 e2=>?_,λ j xs e1=>?_,⟨λ j k ks1 ks2 a e1 e2 e3 e4=>?_,λ j ks1 p e1 e2=>?_⟩⟩
 ·rcases aA e with⟨rfl,hl,e⟩ | ⟨hj,e⟩
  ·cases e;exact⟨.ref q,List.getElem?_set_self (by rw[<-h.re.len];exact hl),q,as,rfl,hV,hk⟩
  ·rw[getσ j hj];exact h'.re.get j l e
 ·rcases aA e1 with⟨_,_,e⟩ | ⟨hj,e1⟩
  ·cases e
  ·rcases aA e2 with⟨_,_,e⟩ | ⟨hk,e2⟩
   ·cases e
   ·rw[getσ j hj]at e3;rw[getσ k hk]at e4;exact h.re.sep j k xs ys p e1 e2 e3 e4
 ·rcases aA e1 with⟨_,_,e⟩ | ⟨hj,e1⟩
  ·cases e
  ·rw[getσ j hj]at e2;exact h.fresh j xs p e1 e2
 ·rcases aA e1 with⟨_,_,e⟩ | ⟨hj,e1⟩
  ·cases e
  ·rw[getσ j hj];exact h.nR j xs e1
 ·rcases aA e1 with⟨rfl,hl,_⟩ | ⟨hj,e1⟩
  ·rcases aA e2 with⟨rfl,_,_⟩ | ⟨hk,e2⟩
   ·rfl
   ·rw[List.getElem?_set_self (by rw[<-h.re.len];exact hl)]at e3;cases e3;rw[getσ k hk]at e4;exact absurd e4 (nq k _ e2)
  ·rcases aA e2 with⟨rfl,hl,_⟩ | ⟨hk,e2⟩
   ·rw[List.getElem?_set_self (by rw[<-h.re.len];exact hl)]at e4;cases e4;rw[getσ j hj]at e3;exact absurd e3 (nq j _ e1)
   ·rw[getσ j hj]at e3;rw[getσ k hk]at e4;exact h.lU.1 j k _ _ a e1 e2 e3 e4
 ·rcases aA e1 with⟨rfl,hl,_⟩ | ⟨hj,e1⟩
  ·rw[List.getElem?_set_self (by rw[<-h.re.len];exact hl)]at e2;cases e2;exact h.same.free hq
  ·rw[getσ j hj]at e2;exact h.lU.2 j _ p e1 e2
theorem RS.setD{K:PySem.W.Frag}{H0 H:Hp}{σ:St}{ρ:Z.Env}{i:Nat}{q:Addr}(h:RS K H0 H σ ρ)(hq:H q=none):RS K H0 (upd H q (DicO q [] [])) (σ.set i (some (.ref q))) (ρ.set i (some (.lU []))) :=
 h.setG (kd:=.inl []) (as:=[]) hq (bG hq) aX (show g? _ _ [] []from .nil)
section
variable {X:Cx}{a:Expr}{pos:Pos}{H0:Hp}{sts:List Stmt}{g:Z.SF}{fa:Z.EF}
def tNewD:TE:=λ _ H Q=>∀p,H p=none->Q (.ref p) (upd H p (DicO p [] []))
theorem pe_newD:PE X (.Dict [] [] pos) tNewD:=λ pins s σ H Q I h =>
 wpAny_Dict_empty ⟨.ref s.heap.objs.size,_,I.laid (a:=s.heap.objs.size) (o:=DicO s.heap.objs.size [] []) (t':=s.toks) (λ _ _ q=>Heap.get?_push_of_some _ q) (Nat.le_refl _)
  ⟨⟨Nat.zero_le _,beq_eq_false_iff_ne.mpr (Ne.symm (Nat.ne_of_lt (dic_big I))),[],_,#[],0,rfl,rfl,Heap.get?_push_size _ rfl,⟨rfl,rfl,rfl⟩,rfl,rfl,List.nodup_nil⟩,⟨_,Heap.get?_push_size _ rfl⟩,λ _ _=>DicAt.mono⟩,rfl,h _ (I.dO.fresh (Nat.le_refl _))⟩
theorem ds_dic{i:Nat}{x:Str}{pos' p:Pos}(hN:X.N.Nodup)(hi:X.N[i]?=some x)(hx:Loc X.env.scope x)(hs:swapsWith (.Dict [] [] p) (some (.Name x pos')) pos.line X.env=pure false:=by rfl)(hf:X.fn x=true∨X.env.scope.names.lookup x=some .local:=by first | exact .inl rfl | exact .inr rfl | assumption):
  DS X H0 (.Assign [.Name x pos'] (.Dict [] [] p) pos) (Z.sDic i):=PS.imp (ps_set hN hi hx pe_newD hs hf) λ D σ H ⟨ρ,fl,rs,e,k⟩=>by
 cases e;exact λ q hq=>k _ _ (stb (bG hq)) (rs.setD hq)
theorem inv_freezeD{pins : List (Addr × Obj)}{σ : St}{H : Hp}{s : Shared}{p : Addr}{φ : Heap -> Prop}(I : Inv X pins σ H s)(h : H p = some (.ext φ)): ∃o, Inv X pins σ (upd H p (.fh o (.ext φ))) s := by
 obtain⟨hφ,⟨o,ho⟩,hm⟩:=(show f7 X.prog X.w H s.heap p (.ext φ)from I.dO p _ h)
 refine⟨o,I.un (H':=upd H p (.fh o (.ext φ))) (h':=s.heap) (t':=s.toks) ?_ ?_⟩
 ·have ne:∀b,H b=none->b≠p:=λ b e q=>by rw[q,h]at e;cases e
  refine⟨λ b o q _ _ _=>q,λ b o q _ _ _=>⟨o.slots,q⟩,λ b o q e _=>by rw[aK (ne b e)];exact e,λ b o q _=>⟨o,q⟩,λ b ys e=>?_,λ b o u e=>?_,λ b u pr e=>?_⟩
  ·have:b≠p:=by rintro rfl;rw[h]at e;cases e
   rw[aK this];exact e
  ·have:b≠p:=by rintro rfl;rw[h]at e;cases e
   rw[aK this];exact e
  ·have:b≠p:=by rintro rfl;rw[h]at e;cases e;exact pr
   rw[aK this];exact e
 ·intro b u e;by_cases hb:b=p
  ·subst hb;rw[aX]at e;cases e;exact⟨ho,hφ,⟨o,ho⟩,hm⟩
  ·rw[aK hb]at e;refine(I.dO b u e).stay (λ c w _ q=>q) (λ c q=>?_) (λ c ys q=>?_) λ c v pr q=>?_
   ·have:c≠p:=by rintro rfl;rw[h]at q;cases q
    rw[aK this];exact q
   ·have:c≠p:=by rintro rfl;rw[h]at q;cases q
    rw[aK this];exact q
   ·have:c≠p:=by rintro rfl;rw[h]at q;cases q;exact pr
    rw[aK this];exact q
theorem nE{i:Nat}(h:DSs X H0 sts g):DSs X H0 sts (Z.sDFrz i g):=by
 intro pins s σ H D I w;obtain⟨ρ,fl,rs,e,k⟩:=w;unfold Z.sDFrz Z.dfrzK at e;split at e
 ·rename_i ks ei;obtain⟨v,si,q,as,rfl,hq,t⟩:=rs.re.get i _ ei;obtain⟨o,I2⟩:=inv_freezeD I hq;have st:i5 H (upd H q (.fh o (DicO q ks as))):=stb_upd hq (λ _ z=>nomatch z) (λ _ _ z=>nomatch z);exact h pins s σ _ D I2 ⟨_,fl,rs.upq ei si hq (l:=.fdc ks) ⟨q,o,as,rfl,aX,t.ups st⟩ (λ _ z=>nomatch z) (λ _ z=>nomatch z),e,k.up st⟩
 ·exact h pins s σ H D I ⟨ρ,fl,rs,e,k⟩
theorem ds_dput(hu:X.A.units+64 < cLine){i:Nat}{o kx:Expr}{p1 p2:Pos}{b:Bool}{j:Nat}{fk:Z.EF}(ho:PE X o (lD i))(hk:DE X kx fk)(hs:swapsWith (.Constant (.bool b) j p2) (some (.Subscript o kx p1)) pos.line X.env=pure false:=by rfl):
  DS X H0 (.Assign [.Subscript o kx p1] (.Constant (.bool b) j p2) pos) (Z.mN i fk):=by
 intro pins s σ H D I w;obtain⟨ρ,fl,rs,e,k⟩:=w;obtain⟨d,ek,e⟩:=Z.Res.ao e;obtain⟨k',ks,e1,e2,hl,rfl⟩:=Z.dputK_ok e;have:=Z.keyOf_ok e1;subst this;obtain⟨v,si,q,as,rfl,hq,t⟩:=rs.re.get i _ e2;refine wpAny_Assign_Subscript (du (pe_bl pins s σ H (λ v H1=>v=.bl b∧H1=H) I ⟨rfl,rfl⟩) ?_) hs;rintro r s1 ⟨v1,H1,I1,rv,rfl,rfl⟩;refine du (ho pins s1 σ H1 (λ v H2=>v=.ref q∧H2=H1) I1 ⟨_,si,rfl,rfl⟩) ?_;rintro u s2 ⟨v2,H2,I2,ru,rfl,rfl⟩;obtain rfl:u=Value.ref q:=ru;refine du (hk pins s2 σ H2 (λ v H3=>aD H2 H3∧Den X.K H3 (.tup (k'.map .int)) v) I2 ⟨ρ,_,rs.re,ek,λ v H3 s3 dv=>⟨s3,dv⟩⟩) ?_;rintro u s3 ⟨v3,H3,I3,ru,sm,dv⟩;obtain⟨b3,rfl⟩:∃b3,v3=.ref b3:=by have dv':=dv;simp only[Den]at dv';obtain⟨b3,_,e,_⟩:=dv';exact⟨b3,e⟩
 obtain rfl:u=Value.ref b3:=ru;have hq3:=sm _ _ hq;have t3:=t.ups (stb sm);obtain⟨z,hd,xs,x1,x2,dd⟩:=dic_of I3 (.inl hq3) t3;subst x1 x2;have hz:xs.length≤sizeLine:=by simpa using z
 refine wpAny_setItem_heap (hsz:=hz) (tupleKind_room_in1 (by lia)) (key_at I3 dv) dd λ h' dd' hh=>?_;obtain⟨sk,tk⟩:=stored_keys (v:=r) t3 dv;obtain⟨o',es,ep,g1,g2,g3,g4,_,g5⟩:=dd';have hll:(Z.putD (xs.map (·.1)) k').length≤sizeLine:=by
  have:(Z.putD (xs.map (·.1)) k').length≤(xs.map (·.1)).length+1:=by unfold Z.putD;split<;>simp
  rw[sizeLine_eq];have hl':(xs.map (·.1)).length < 16777216:=hl;lia
 have st:i5 H3 (upd H3 q (DicO q (Z.putD (xs.map (·.1)) k') ((storedH xs k' b3 r).map (·.2.1)))):=stb_upd hq3 (λ _ z=>nomatch z) (λ _ _ z=>nomatch z);refine⟨σ,_,I3.write (x:=q) (e:=q) (o:=DicO q (Z.putD (xs.map (·.1)) k') ((storedH xs k' b3 r).map (·.2.1))) (by rw[hq3];exact True.intro) (.inl rfl) (λ b u hb z=>(hh.2 b hb).trans z) ⟨o',g1⟩ ⟨⟨hll,hd,_,o',es,ep,sk,rfl,g1,g2,g3,g4,by rw[<-sk];exact g5⟩,⟨o',g1⟩,λ _ _=>DicAt.mono⟩,?_⟩;refine k σ _ ((stb sm).trans st) ((rs.up sm).upq e2 si hq3 (l:=.lU _) ⟨q,_,rfl,aX,?_⟩ (λ _ z=>nomatch z) (λ _ z=>nomatch z));rw[sk]at tk;exact tk.ups st
theorem in_dic{i:Nat}{o:Expr}{op:CmpOp}{n:Bool->Bool}(ha:DE X a fa)(ho:PE X o (lD i))
  (rule:∀ {H:Hp} {pins:List (Addr×Obj)} {σ:St} {s:Shared} {k:List Int} {b q:Addr} {xs:List (List Int×Addr×Value)} {Q:Value->Shared->Prop},Inv X pins σ H s->(tupleKind (intKind X.prog X.w)).is s.heap k b->(q==sysModules)=false->s.heap.DictOfH (tupleKind (intKind X.prog X.w)) q xs ->
   (∀s',Inv X pins σ H s'->Q (.bool (n (atKey xs k).isSome)) s')->wpAny (model X.prog X.w) X.A (compareOp op (.ref b) (.ref q)) Q X.xe s) :
  PC X op a o (λ σ H Q=>∃ρ b,RE X.K H σ ρ∧((fa ρ).bind λ d=>(Z.dinK (Z.keyOf d) ρ[i]?).bind λ b=>.ok (n b))=.ok b∧∀H',aD H H'->Q (.bl b) H'):=by
 intro pins s σ H Q I w;obtain⟨ρ,b,r,e,k⟩:=w;obtain⟨d,ea,e⟩:=Z.Res.ao e;obtain⟨b',e1,e⟩:=Z.Res.ao e;cases e;obtain⟨k',ks,ek,eo,rfl⟩:=Z.dinK_ok e1;have:=Z.keyOf_ok ek;subst this;obtain⟨v,si,q,o',as,rfl,hq,t⟩:=r.get i _ eo;refine du (ha pins s σ H (λ v H1=>aD H H1∧Den X.K H1 (.tup (k'.map .int)) v) I ⟨ρ,_,r,ea,λ v H1 s1 dv=>⟨s1,dv⟩⟩) ?_;rintro u s1 ⟨v1,H1,I1,ru,sm,dv⟩;obtain⟨b3,rfl⟩:∃b3,v1=.ref b3:=by have dv':=dv;simp only[Den]at dv';obtain⟨b3,_,e,_⟩:=dv';exact⟨b3,e⟩
 obtain rfl:u=Value.ref b3:=ru;refine du (ho pins s1 σ H1 (λ v H2=>v=.ref q∧H2=H1) I1 ⟨_,si,rfl,rfl⟩) ?_;rintro u s2 ⟨v2,H2,I2,ru,rfl,rfl⟩;obtain rfl:u=Value.ref q:=ru;obtain⟨z,hd,xs,x1,x2,dd⟩:=dic_of I2 (.inr ⟨o',sm _ _ hq⟩) (t.ups (stb sm));subst x1 x2;exact rule I2 (key_at I2 dv) hd dd λ s' I'=>⟨.bl _,H2,I',by rw[at_mem];rfl,k H2 sm⟩
theorem dt_ninD(hu:X.A.units+64 < cLine){i:Nat}{o:Expr}(ha:DE X a fa)(ho:PE X o (lD i))(hm:behindInMarks .NotIn o=false):DT X (.Compare a [.NotIn] [o] pos) (Z.tNinD fa i) :=
 PT.imp (pt_cmp (in_dic (n:=λ b=>!b) ha ho λ I hk hd dd h=>wpAny_notIn_heap (tupleKind_room_in1 (by lia)) hk hd dd (h _ (I.tok _))) hm) λ σ H Q ⟨ρ,b,r,e,k⟩=>⟨ρ,b,r,e,λ H' s=>⟨b,rfl,k H' s⟩⟩
end
end ZS
namespace ZQ
open PySem PySem.Spec PyProof.Rows L2 ZS
section
variable {X:Cx}{a:Expr}{pos:Pos}{H0:Hp}{sts:List Stmt}{g:Z.SF}{fa:Z.EF}
theorem ds_dic{i:Nat}{x:Str}{pos' p:Pos}(hN:X.N.Nodup)(hi:X.N[i]?=some x)(hx:Loc X.env.scope x)(hs:swapsWith (.Dict [] [] p) (some (.Name x pos')) pos.line X.env=pure false:=by rfl)(hf:X.fn x=true∨X.env.scope.names.lookup x=some .local:=by first | exact .inl rfl | exact .inr rfl | assumption):
  QS X H0 (.Assign [.Name x pos'] (.Dict [] [] p) pos) (Z.sDic i):=⟨ZS.ds_dic hN hi hx hs hf⟩
theorem nE{i:Nat}(h:QSs X H0 sts g):QSs X H0 sts (Z.sDFrz i g):=⟨ZS.nE h.p⟩
theorem ds_dput(hu:X.A.units+64 < cLine){i:Nat}{o kx:Expr}{p1 p2:Pos}{b:Bool}{j:Nat}{fk:Z.EF}(ho:PE X o (lD i))(hk:QE X kx fk)(hs:swapsWith (.Constant (.bool b) j p2) (some (.Subscript o kx p1)) pos.line X.env=pure false:=by rfl):
  QS X H0 (.Assign [.Subscript o kx p1] (.Constant (.bool b) j p2) pos) (Z.mN i fk):=⟨ZS.ds_dput hu ho hk.p hs⟩
theorem dt_ninD(hu:X.A.units+64 < cLine){i:Nat}{o:Expr}(ha:QE X a fa)(ho:PE X o (lD i))(hm:behindInMarks .NotIn o=false:=by with_unfolding_all rfl):QT X (.Compare a [.NotIn] [o] pos) (Z.tNinD fa i):=⟨ZS.dt_ninD hu ha.p ho hm⟩
end
end ZQ
namespace ZS
open PySem PySem.Spec PyProof.Rows L2
section
variable {X:Cx}{a:Expr}{pos:Pos}{fa:Z.EF}
end
end ZS
namespace ZQ
open PySem PySem.Spec PyProof.Rows L2 ZS
section
variable {X:Cx}{a:Expr}{pos:Pos}{fa:Z.EF}{H0:Hp}
end
end ZQ
noncomputable section
namespace Z
def popK(i j:Nat)(ρ:Env)(d:D)(o:Option (Option L)):Res Fl:=match d,o with
 | .int k,some (some (.own xs))=>guard (0≤k∧xs.length≤line) (match xs[k.toNat]? with
  | some y=>.ok (.nx ((ρ.set j (some (.own (xs.eraseIdx k.toNat)))).set i (some (.val y))))
  | none=>.bad)
 | _,_=>.bad
def sPop(i j:Nat)(e:EF)(ρ:Env):Res Fl:=(e ρ).bind λ d=>popK i j ρ d ρ[j]?
@[simp] theorem sPop_a(i j:Nat)(e:EF)(ρ:Env):sPop i j e ρ=(e ρ).bind λ d=>popK i j ρ d ρ[j]?:=rfl
end Z
namespace ZS
open PySem PySem.Spec PyProof.Rows L2
section
variable {X:Cx}{H0:Hp}{pos:Pos}
end
end ZS
namespace ZQ
open PySem PySem.Spec PyProof.Rows L2 ZS
section
variable {X:Cx}{H0:Hp}{pos:Pos}
end
end ZQ
noncomputable section
namespace Z
def jo(a b:Int×Int):Bool:=decide (a.1 < b.1∨a.1=b.1∧a.2 < b.2)
def leB(a b:Int×Int):Bool:=!jo b a
def eM(ps:List (Int×Int)):List (Int×Int):=ps.mergeSort leB
theorem leB_iff{a b:Int×Int}:leB a b=true↔¬(b.1 < a.1∨b.1=a.1∧b.2 < a.2):=by unfold leB jo;rw[Bool.not_eq_true',decide_eq_false_iff_not]
theorem ng{a b:Int×Int}(h1:leB a b=true)(h2:leB b a=true):a=b:=by
 rw[leB_iff]at h1 h2;have e1:a.1=b.1:=by lia
 have e2:a.2=b.2:=by lia
 exact Prod.ext e1 e2
theorem mE(ps:List (Int×Int)):(eM ps).Pairwise λ a b=>leB a b=true :=
 List.pairwise_mergeSort (λ a b c h1 h2=>by rw[leB_iff]at *;lia) (λ a b=>by rw[Bool.or_eq_true,leB_iff,leB_iff];lia) ps
theorem ft(ps:List (Int×Int)):(eM ps).Perm ps:=List.mergeSort_perm ps leB
theorem kr{ps qs:List (Int×Int)}(h:qs.Perm ps)(u:qs.Pairwise λ a b=>leB a b=true):eM ps=qs :=
 List.Perm.eq_of_pairwise (λ a b _ _ h1 h2=>ng h1 h2) (mE ps) u ((ft ps).trans h.symm)
abbrev prD(p:Int×Int):D:=.tup [.int p.1,.int p.2]
def prsOf:List D->Option (List (Int×Int))
 | []=>some []
 | d :: r=>match d,prsOf r with
  | .tup [.int k,.int v],some ps=>some ((k,v) :: ps)
  | _,_=>none
def sortK:D->Res (List D)
 | .lst ds=>match prsOf ds with
  | some ps=>guard (ps.length < 64) (.ok ((eM ps).map prD))
  | none=>.bad
 | _=>.bad
def lSortP(a:EF)(ρ:Env):Res (List D):=(a ρ).bind sortK
theorem prsOf_ok:∀{ds:List D}{ps:List (Int×Int)},prsOf ds=some ps->ds=ps.map prD
 | [],ps,h=>by cases h;rfl
 | d :: r,ps,h=>by
  unfold prsOf at h;split at h
  ·rename_i k v qs e;cases h;rw[prsOf_ok e];rfl
  ·cases h
theorem prsOf_map:∀(ps:List (Int×Int)),prsOf (ps.map prD)=some ps
 | []=>rfl
 | p :: ps=>by rw[List.map_cons];unfold prsOf;rw[prsOf_map ps]
theorem sortK_ok{d:D}{ds:List D}(h:sortK d=.ok ds):∃ps:List (Int×Int),d=.lst (ps.map prD)∧ps.length < 64∧ds=(eM ps).map prD:=by
 cases d with
 | lst xs =>
  unfold sortK at h;simp only at h;split at h
  ·rename_i ps e;obtain⟨h1,h2⟩:=iB h;cases h2;exact⟨ps,by rw[prsOf_ok e],h1,rfl⟩
  ·cases h
 | _=>cases h
@[simp] theorem lSortP_a(a:EF)(ρ:Env):lSortP a ρ=(a ρ).bind sortK:=rfl
theorem sortK_a{ps:List (Int×Int)}(h:ps.length < 64):sortK (.lst (ps.map prD))=.ok ((eM ps).map prD):=by unfold sortK;simp only[prsOf_map];exact guard_pos h
end Z
namespace iD
open PySem PySem.W PyProof.Rows
def run{α:Type}(o:Nat->Nat->Bool):KasT α->α
 | .ret a=>a
 | .ask i j k=>run o (k (o i j))
theorem run_bind{α β:Type}(o:Nat->Nat->Bool)(f:α->KasT β):∀t:KasT α,run o (t.bind f)=run o (f (run o t))
 | .ret _=>rfl
 | .ask i j k=>run_bind o f (k (o i j))
section
variable (key:Nat->Int)
abbrev od(i j:Nat):Bool:=decide (key i < key j)
def K(p:Array Nat)(i:Nat):Int:=key (p.getD i 0)
def Up(p:Array Nat)(n:Nat):Prop:=∀i,i+1 < n->K key p i≤K key p (i+1)
def Down(p:Array Nat)(n:Nat):Prop:=∀i,i+1 < n->K key p (i+1)≤K key p i
variable {key}
theorem Up.le{p:Array Nat}{n:Nat}(h:Up key p n){i j:Nat}(hij:i≤j)(hj:j < n):K key p i≤K key p j:=by
 induction j with
 | zero =>
  have : i = 0 := by lia
  subst this;exact Int.le_refl _
 | succ j ih =>
  by_cases e:i=j+1
  ·subst e;exact Int.le_refl _
  ·exact Int.le_trans (ih (by lia) (by lia)) (h j hj)
theorem Down.le{p:Array Nat}{n:Nat}(h:Down key p n){i j:Nat}(hij:i≤j)(hj:j < n):K key p j≤K key p i:=by
 induction j with
 | zero =>
  have : i = 0 := by lia
  subst this;exact Int.le_refl _
 | succ j ih =>
  by_cases e:i=j+1
  ·subst e;exact Int.le_refl _
  ·exact Int.le_trans (h j hj) (ih (by lia) (by lia))
theorem asc_run(p : Array Nat): ∀(f n : Nat), 1 ≤ n -> Up key p n -> n ≤ run (od key) (kas_asc p f n) ∧ run (od key) (kas_asc p f n) ≤ n + f ∧ Up key p (run (od key) (kas_asc p f n))
 | 0,n,_,h=>⟨Nat.le_refl _,Nat.le_refl _,h⟩
 | f + 1, n, h1, h => by
  have e:run (od key) (kas_asc p (f+1) n)=run (od key) (if od key (p.getD n 0) (p.getD (n-1) 0)=true then .ret n else kas_asc p f (n+1)):=rfl;rw[e];by_cases c:od key (p.getD n 0) (p.getD (n-1) 0)=true
  ·rw[if_pos c];exact⟨Nat.le_refl _,Nat.le_add_right _ _,h⟩
  ·rw[if_neg c];have hc:K key p (n-1)≤K key p n:=by
    have:¬key (p.getD n 0) < key (p.getD (n-1) 0):=by simpa[od]using c
    exact Int.not_lt.mp this
   obtain⟨a1,a2,a3⟩:=asc_run p f (n+1) (by lia) (λ i hi=>by
    by_cases e:i+1 < n
    ·exact h i e
    ·have:i=n-1:=by lia
     subst this;rw[show n-1+1=n by lia];exact hc)
   exact⟨by lia,by lia,a3⟩
theorem K_rev{p:Array Nat}{i j:Nat}(hj:j≤p.size)(k:Nat):K key (kas_rev p i j) k=if i≤k∧k < j then K key p (i+j-1-k)else K key p k:=by
 unfold K kas_rev;have h:=getElem?_mirror_all (xs:=p) (i:=i) hj k;have g:∀(q:Array Nat)(m:Nat),q.getD m 0=(q[m]?).getD 0:=λ q m=>by rw[Array.getD_eq_getD_getElem?]
 rw[g,h];split
 ·rw[<-g]
 ·rw[<-g]
theorem rev_size(p:Array Nat)(i j:Nat):(kas_rev p i j).size=p.size:=mirror_size _ _ _ _
theorem fL(p:Array Nat)(i j:Nat):(kas_rev p i j).Perm p:=mirror_perm _ _ _ _
theorem rev_down{p:Array Nat}{n:Nat}(hn:n≤p.size)(h:Down key p n):Up key (kas_rev p 0 n) n:=λ i hi=>by rw[K_rev hn,K_rev hn,if_pos (by lia),if_pos (by lia)];have:=h (n-2-i) (by lia);rw[show n-2-i+1=0+n-1-i by lia]at this;rw[show 0+n-1-(i+1)=n-2-i by lia];exact this
theorem rev_eq{p:Array Nat}{i j:Nat}(hj:j≤p.size)(h:∀k,i≤k->k < j->K key p k=K key p (j-1))(k:Nat):K key (kas_rev p i j) k=K key p k:=by
 rw[K_rev hj];split
 ·rename_i c;rw[h _ (by lia) (by lia),h k (by lia) (by lia)]
 ·rfl
def Eqs(key:Nat->Int)(p:Array Nat)(n q:Nat):Prop:=q+1≤n∧∀k,n-(q+1)≤k->k < n->K key p k=K key p (n-1)
theorem nJ: ∀(f : Nat)(p : Array Nat)(n q : Nat), 1 ≤ n -> n + f ≤ p.size -> Down key p n -> Eqs key p n q -> ∀r, run (od key) (kas_desc f p n q) = r -> r.1.Perm p ∧ n ≤ r.2.1 ∧ r.2.1 ≤ n + f ∧ Down key r.1 r.2.1 ∧ Eqs key r.1 r.2.1 r.2.2
 | 0,p,n,q,h1,hs,hd,he,r,e=>by subst e;exact⟨Array.Perm.refl _,Nat.le_refl _,Nat.le_refl _,hd,he⟩
 | f + 1, p, n, q, h1, hs, hd, he, r, e => by
  have ex:run (od key) (kas_desc (f+1) p n q)=run (od key) (if od key (p.getD n 0) (p.getD (n-1) 0)=true then(if q > 0 then kas_desc f (kas_rev p (n-(q+1)) n) (n+1) 0 else kas_desc f p (n+1) 0)
    else .ask (p.getD (n-1) 0) (p.getD n 0) λ d=>if d=true then .ret (p,n,q)else kas_desc f p (n+1) (q+1)):=rfl
  rw[ex]at e;have grow:∀p':Array Nat,(∀k,K key p' k=K key p k)->K key p n≤K key p (n-1)->Down key p' (n+1):=λ p' hk hc i hi=>by
   rw[hk,hk];by_cases c:i+1 < n
   ·exact hd i c
   ·have:i=n-1:=by lia
    subst this;rw[show n-1+1=n by lia];exact hc
  by_cases c:od key (p.getD n 0) (p.getD (n-1) 0)=true
  ·rw[if_pos c]at e;have hc:K key p n < K key p (n-1):=by simpa[od,K]using c
   have e0:∀p':Array Nat,Eqs key p' (n+1) 0:=λ p'=>⟨by lia,λ k a b=>by rw[show k=n+1-1 by lia]⟩
   by_cases cq:q > 0
   ·rw[if_pos cq]at e;have hk:=rev_eq (key:=key) (p:=p) (i:=n-(q+1)) (j:=n) (by lia) he.2;obtain⟨a1,a2,a3,a4,a5⟩:=nJ f (kas_rev p (n-(q+1)) n) (n+1) 0 (by lia) (by rw[rev_size];lia) (grow _ hk (Int.le_of_lt hc)) (e0 _) r e;exact⟨a1.trans (fL _ _ _),by lia,by lia,a4,a5⟩
   ·rw[if_neg cq]at e;obtain⟨a1,a2,a3,a4,a5⟩:=nJ f p (n+1) 0 (by lia) (by lia) (grow _ (λ _=>rfl) (Int.le_of_lt hc)) (e0 _) r e;exact⟨a1,by lia,by lia,a4,a5⟩
  ·rw[if_neg c]at e;have hc:K key p (n-1)≤K key p n:=by
    have:¬key (p.getD n 0) < key (p.getD (n-1) 0):=by simpa[od]using c
    exact Int.not_lt.mp this
   have ex2:run (od key) (.ask (p.getD (n-1) 0) (p.getD n 0) λ d=>if d=true then .ret (p,n,q)else kas_desc f p (n+1) (q+1))=run (od key) (if od key (p.getD (n-1) 0) (p.getD n 0)=true then .ret (p,n,q)else kas_desc f p (n+1) (q+1)):=rfl;rw[ex2]at e;by_cases d:od key (p.getD (n-1) 0) (p.getD n 0)=true
   ·rw[if_pos d]at e;subst e;exact⟨Array.Perm.refl _,Nat.le_refl _,by show n≤_;lia,hd,he⟩
   ·rw[if_neg d]at e;have hd2:K key p n≤K key p (n-1):=by
     have:¬key (p.getD (n-1) 0) < key (p.getD n 0):=by simpa[od]using d
     exact Int.not_lt.mp this
    have heq:K key p n=K key p (n-1):=Int.le_antisymm hd2 hc;obtain⟨a1,a2,a3,a4,a5⟩:=nJ f p (n+1) (q+1) (by lia) (by lia) (grow _ (λ _=>rfl) hd2) ⟨by have:=he.1;lia,λ k b1 b2=>by
     rw[show n+1-1=n by lia,heq];by_cases hk:k=n
     ·subst hk;exact heq
     ·exact he.2 k (by lia) (by lia)⟩ r e
    exact⟨a1,by lia,by lia,a4,a5⟩
theorem asc_stop(p:Array Nat):∀(f n:Nat),run (od key) (kas_asc p f n) < n+f->K key p (run (od key) (kas_asc p f n)) < K key p (run (od key) (kas_asc p f n)-1)
 | 0,n,h=>absurd h (Nat.lt_irrefl _)
 | f+1,n,h=>by
  have e:run (od key) (kas_asc p (f+1) n)=run (od key) (if od key (p.getD n 0) (p.getD (n-1) 0)=true then .ret n else kas_asc p f (n+1)):=rfl;rw[e]at h ⊢;by_cases c:od key (p.getD n 0) (p.getD (n-1) 0)=true
  ·rw[if_pos c];show K key p n < K key p (n-1);simpa[od,K]using c
  ·rw[if_neg c]at h ⊢;exact asc_stop p f (n+1) (by lia)
theorem tail3_run{p:Array Nat}{n nrem:Nat}(h1:1≤n)(hn:n≤nrem)(hs:nrem≤p.size)(hd:Down key p n):∀r,run (od key) (kas_tail3 n nrem p)=r->r.2.Perm p∧1≤r.1∧r.1≤nrem∧Up key r.2 r.1:=by intro r e;unfold kas_tail3 at e;rw[run_bind]at e;subst e;obtain⟨a1,a2,a3⟩:=asc_run (key:=key) (kas_rev p 0 n) (nrem-n) n h1 (rev_down (by lia) hd);exact⟨fL _ _ _,by show 1≤run _ _;lia,by show run _ _≤_;lia,a3⟩
theorem nL{p:Array Nat}{n nrem:Nat}(h1:1≤n)(hn:n < nrem)(hs:nrem≤p.size)(hd:Down key p (n+1)):∀r,run (od key) (kas_descPart n nrem p)=r->r.2.Perm p∧1≤r.1∧r.1≤nrem∧Up key r.2 r.1:=by
 intro r e;unfold kas_descPart at e;rw[run_bind]at e;obtain⟨a1,a2,a3,a4,a5⟩:=nJ (key:=key) (nrem-(n+1)) p (n+1) 0 (by lia) (by lia) hd ⟨by lia,λ k b1 b2=>by rw[show k=n+1-1 by lia]⟩ _ rfl;have hsz:∀{a b:Array Nat},a.Perm b->a.size=b.size:=λ h=>h.size_eq;generalize run (od key) (kas_desc (nrem-(n+1)) p (n+1) 0)=t at e a1 a2 a3 a4 a5;have ht:=hsz a1;by_cases c:t.2.2 > 0
 ·rw[if_pos c]at e;have hk:=rev_eq (key:=key) (p:=t.1) (i:=t.2.1-(t.2.2+1)) (j:=t.2.1) (by lia) a5.2;obtain⟨b1,b2,b3,b4⟩:=tail3_run (key:=key) (p:=kas_rev t.1 (t.2.1-(t.2.2+1)) t.2.1) (n:=t.2.1) (nrem:=nrem) (by lia) (by lia) (by rw[rev_size];lia) (λ i hi=>by rw[hk,hk];exact a4 i hi) r e;exact⟨(b1.trans (fL _ _ _)).trans a1,b2,b3,b4⟩
 ·rw[if_neg c]at e;obtain⟨b1,b2,b3,b4⟩:=tail3_run (key:=key) (p:=t.1) (n:=t.2.1) (nrem:=nrem) (by lia) (by lia) (by lia) a4 r e;exact⟨b1.trans a1,b2,b3,b4⟩
theorem count_run{p : Array Nat}{nrem : Nat}(h1 : 1 ≤ nrem)(hs : nrem ≤ p.size): ∀r, run (od key) (kas_count nrem p) = r -> r.2.Perm p ∧ 1 ≤ r.1 ∧ r.1 ≤ nrem ∧ Up key r.2 r.1 := by
 intro r e;unfold kas_count at e;rw[run_bind]at e;obtain⟨a1,a2,a3⟩:=asc_run (key:=key) p (nrem-1) 1 (Nat.le_refl _) (λ i hi=>by lia);have a4:=asc_stop (key:=key) p (nrem-1) 1;generalize run (od key) (kas_asc p (nrem-1) 1)=n at e a1 a2 a3 a4;by_cases c:(n==nrem)=true
 ·rw[if_pos c]at e;subst e;exact⟨Array.Perm.refl _,a1,by show n≤_;lia,a3⟩
 ·rw [if_neg c] at e;have hne:n≠nrem:=λ z=>c (by simp[z]);have kj:=a4 (by lia);by_cases c2:n > 1
  ·rw [if_pos c2] at e;have ex:run (od key) (.ask (p.getD 0 0) (p.getD (n-1) 0) λ c=>if c=true then .ret (n,p)else kas_descPart n nrem (kas_rev p 0 n))=run (od key) (if od key (p.getD 0 0) (p.getD (n-1) 0)=true then .ret (n,p)else kas_descPart n nrem (kas_rev p 0 n)):=rfl;rw[ex]at e;by_cases d:od key (p.getD 0 0) (p.getD (n-1) 0)=true
   ·rw[if_pos d]at e;subst e;exact⟨Array.Perm.refl _,a1,by show n≤_;lia,a3⟩
   ·rw[if_neg d]at e;have h0:K key p (n-1)≤K key p 0:=by
     have:¬key (p.getD 0 0) < key (p.getD (n-1) 0):=by simpa[od]using d
     exact Int.not_lt.mp this
    have alleq:∀k,0≤k->k < n->K key p k=K key p (n-1):=λ k _ hk =>Int.le_antisymm (a3.le (by lia) (by lia)) (Int.le_trans h0 (a3.le (Nat.zero_le _) hk))
    have hk:=rev_eq (key:=key) (p:=p) (i:=0) (j:=n) (by lia) alleq;obtain⟨b1,b2,b3,b4⟩:=nL (key:=key) (p:=kas_rev p 0 n) (n:=n) (nrem:=nrem) a1 (by lia) (by rw[rev_size];lia) (λ i hi=>by
     rw[hk,hk];by_cases ci:i+1 < n
     ·rw[alleq i (by lia) (by lia),alleq (i+1) (by lia) ci];exact Int.le_refl _
     ·have:i=n-1:=by lia
      subst this;rw[show n-1+1=n by lia];exact Int.le_of_lt kj) r e
    exact⟨b1.trans (fL _ _ _),b2,b3,b4⟩
  ·rw[if_neg c2]at e;have:n=1:=by lia
   subst this;exact nL (key:=key) (p:=p) (n:=1) (nrem:=nrem) (Nat.le_refl _) (by lia) hs (λ i hi=>by
    have:i=0:=by lia
    subst this;exact Int.le_of_lt kj) r e
theorem place_run(p : Array Nat)(k : Nat)(hu : Up key p k): ∀(f l r : Nat), l ≤ r -> r ≤ k -> r - l ≤ f -> (∀i, i < l -> K key p i ≤ K key p k) -> (∀i, r ≤ i -> i < k -> K key p k < K key p i) ->
  run (od key) (kas_place p k f l r)≤k∧(∀i,i < run (od key) (kas_place p k f l r)->K key p i≤K key p k)∧(∀i,run (od key) (kas_place p k f l r)≤i->i < k->K key p k < K key p i)
 | 0,l,r,h1,h2,h3,h4,h5=>by
  have:l=r:=by lia
  subst this;exact⟨h2,h4,h5⟩
 | f + 1, l, r, h1, h2, h3, h4, h5 => by
  have e:run (od key) (kas_place p k (f+1) l r)=run (od key) (if l≥r then .ret l else .ask (p.getD k 0) (p.getD ((l+r) / 2) 0) λ c=>if c=true then kas_place p k f l ((l+r) / 2)else kas_place p k f ((l+r) / 2+1) r):=rfl;rw[e];by_cases c:l≥r
  ·rw[if_pos c];have:l=r:=by lia
   subst this;exact⟨h2,h4,h5⟩
  ·rw[if_neg c];have ex:run (od key) (.ask (p.getD k 0) (p.getD ((l+r) / 2) 0) λ c=>if c=true then kas_place p k f l ((l+r) / 2)else kas_place p k f ((l+r) / 2+1) r)=run (od key) (if od key (p.getD k 0) (p.getD ((l+r) / 2) 0)=true then kas_place p k f l ((l+r) / 2)else kas_place p k f ((l+r) / 2+1) r):=rfl;rw[ex];by_cases d:od key (p.getD k 0) (p.getD ((l+r) / 2) 0)=true
   ·rw[if_pos d];have hd:K key p k < K key p ((l+r) / 2):=by simpa[od,K]using d
    exact place_run p k hu f l ((l+r) / 2) (by lia) (by lia) (by lia) h4 (λ i hi hk=>Int.lt_of_lt_of_le hd (hu.le hi hk))
   ·rw[if_neg d];have hd:K key p ((l+r) / 2)≤K key p k:=by
     have:¬key (p.getD k 0) < key (p.getD ((l+r) / 2) 0):=by simpa[od]using d
     exact Int.not_lt.mp this
    exact place_run p k hu f ((l+r) / 2+1) r (by lia) h2 (by lia) (λ i hi=>Int.le_trans (hu.le (by lia) (by lia)) hd) h5
theorem K_bubble{p:Array Nat}{src d:Nat}(hs:src < p.size)(hd:d≤src)(k:Nat):K key (bubble p src d) k=if k=src-d then K key p src else if src-d < k∧k≤src then K key p (k-1)else K key p k:=by
 have h:=getElem?_bubble hs d hd k;have g:∀(q:Array Nat)(m:Nat),q.getD m 0=(q[m]?).getD 0:=λ q m=>by rw[Array.getD_eq_getD_getElem?]
 unfold K;rw[g,h];by_cases c1:k=src-d
 ·rw[if_pos c1,if_pos c1,g]
 ·rw[if_neg c1,if_neg c1];by_cases c2:src-d < k∧k≤src
  ·rw[if_pos c2,if_pos c2,g]
  ·rw[if_neg c2,if_neg c2,g]
theorem bin_run: ∀(f : Nat)(p : Array Nat)(k : Nat), k + f ≤ p.size -> Up key p k -> ∀r, run (od key) (kas_bin f p k) = r -> r.Perm p ∧ Up key r (k + f)
 | 0,p,k,hs,hu,r,e=>by subst e;exact⟨Array.Perm.refl _,hu⟩
 | f + 1, p, k, hs, hu, r, e => by
  have ex:run (od key) (kas_bin (f+1) p k)=run (od key) ((kas_place p k k 0 k).bind λ l=>kas_bin f (bubble p k (k-l)) (k+1)):=rfl;rw[ex,run_bind]at e;obtain⟨a1,a2,a3⟩:=place_run (key:=key) p k hu k 0 k (Nat.zero_le _) (Nat.le_refl _) (by lia) (λ i hi=>absurd hi (Nat.not_lt_zero _)) (λ i h1 h2=>absurd h2 (by lia));generalize run (od key) (kas_place p k k 0 k)=l at e a1 a2 a3;have hb:=λ m=>K_bubble (key:=key) (p:=p) (src:=k) (d:=k-l) (by lia) (by lia) m;rw[show k-(k-l)=l by lia]at hb;obtain⟨b1,b2⟩:=bin_run f (bubble p k (k-l)) (k+1) (by rw[bubble_size];lia) (λ i hi=>by
   rw[hb,hb];by_cases c1:i+1=l
   ·rw[if_neg (by lia),if_neg (by lia),if_pos c1];exact a2 i (by lia)
   ·by_cases c2:i=l
    ·rw[if_pos c2,if_neg c1,if_pos (by lia),show i+1-1=i by lia];exact Int.le_of_lt (a3 i (by lia) (by lia))
    ·by_cases c3:i < l
     ·rw[if_neg c2,if_neg (by lia),if_neg c1,if_neg (by lia)];exact hu i (by lia)
     ·rw[if_neg c2,if_pos (by lia),if_neg c1,if_pos (by lia),show i+1-1=i-1+1 by lia];exact hu (i-1) (by lia)) r e
  exact⟨b1.trans (bubble_perm _ _ _),by rw[show k+(f+1)=k+1+f by lia];exact b2⟩
theorem sort_run{n:Nat}(h1:1≤n):(run (od key) (kas_sort n)).Perm (List.range n).toArray∧Up key (run (od key) (kas_sort n)) n:=by
 have hsz:(List.range n).toArray.size=n:=by simp
 unfold kas_sort;rw[run_bind];obtain⟨a1,a2,a3,a4⟩:=count_run (key:=key) (p:=(List.range n).toArray) (nrem:=n) h1 (by rw[hsz];exact Nat.le_refl _) _ rfl;generalize run (od key) (kas_count n (List.range n).toArray)=r at a1 a2 a3 a4;have hs2:r.2.size=n:=by rw[a1.size_eq,hsz]
 by_cases c:r.1 < n
 ·rw[if_pos c,show max r.1 1=r.1 by lia];obtain⟨b1,b2⟩:=bin_run (key:=key) (n-r.1) r.2 r.1 (by lia) a4 _ rfl;exact⟨b1.trans a1,by rw[show r.1+(n-r.1)=n by lia]at b2;exact b2⟩
 ·rw[if_neg c];have:r.1=n:=by lia
  exact⟨a1,by rw[<-this];exact a4⟩
end
end iD
namespace iD
open PySem PySem.W PyProof.Rows
def Ask{α:Type}(n:Nat)(P:α->Prop):KasT α->Prop
 | .ret a=>P a
 | .ask i j k=>i < n∧j < n∧∀b,Ask n P (k b)
theorem Ask.bind{α β:Type}{n:Nat}{P:α->Prop}{Q:β->Prop}{f:α->KasT β}:∀{t:KasT α},Ask n P t->(∀a,P a->Ask n Q (f a))->Ask n Q (t.bind f)
 | .ret a,h,k=>k a h
 | .ask i j c,h,k=>⟨h.1,h.2.1,λ b=>Ask.bind (h.2.2 b) k⟩
theorem Ask.mono{α:Type}{n:Nat}{P Q:α->Prop}:∀{t:KasT α},Ask n P t->(∀a,P a->Q a)->Ask n Q t
 | .ret a,h,k=>k a h
 | .ask i j c,h,k=>⟨h.1,h.2.1,λ b=>Ask.mono (h.2.2 b) k⟩
theorem wp_run{α:Type}{ask:Nat->Nat->(Bool->Shared->Prop)->Shared->Prop}{o:Nat->Nat->Bool}{n:Nat}{P:α->Prop}{G:α->Shared->Prop}{s:Shared}(h:∀i j C,i < n->j < n->C (o i j) s->ask i j C s):
  ∀t:KasT α,Ask n P t->G (run o t) s->t.kasWp ask G s
 | .ret a,_,g=>g
 | .ask i j k,q,g=>h i j _ q.1 q.2.1 (wp_run h (k (o i j)) (q.2.2 _) g)
def In(n:Nat)(p:Array Nat):Prop:=0 < n∧∀x∈p,x < n
theorem In.at{n:Nat}{p:Array Nat}(h:In n p)(i:Nat):p.getD i 0 < n:=by
 rw[Array.getD_eq_getD_getElem?];cases e:p[i]? with
 | none=>exact h.1
 | some x=>exact h.2 x (Array.mem_of_getElem? e)
theorem In.perm{n:Nat}{p q:Array Nat}(h:In n p)(e:q.Perm p):In n q:=⟨h.1,λ x hx=>h.2 x (e.mem_iff.mp hx)⟩
theorem asc_ask{n:Nat}{p:Array Nat}(h:In n p):∀(f k:Nat),Ask n (λ _=>True) (kas_asc p f k)
 | 0,k=>trivial
 | f+1,k=>⟨h.at _,h.at _,λ b=>by
  cases b
  ·exact asc_ask h f (k+1)
  ·trivial⟩
theorem nK{n:Nat}:∀(f:Nat)(p:Array Nat)(k q:Nat),In n p->Ask n (λ r:Array Nat×Nat×Nat=>In n r.1) (kas_desc f p k q)
 | 0,p,k,q,h=>h
 | f+1,p,k,q,h=>⟨h.at _,h.at _,λ b=>by
  cases b
  ·refine⟨h.at _,h.at _,λ d=>?_⟩;cases d
   ·exact nK f p (k+1) (q+1) h
   ·exact h
  ·show Ask n _ (if q > 0 then kas_desc f (kas_rev p (k-(q+1)) k) (k+1) 0 else kas_desc f p (k+1) 0);split
   ·exact nK f _ (k+1) 0 (h.perm (fL _ _ _))
   ·exact nK f p (k+1) 0 h⟩
theorem tail3_ask{n:Nat}{p:Array Nat}(h:In n p)(k m:Nat):Ask n (λ r:Nat×Array Nat=>In n r.2) (kas_tail3 k m p) :=
 (asc_ask (h.perm (fL _ _ _)) _ _).bind λ _ _=>h.perm (fL _ _ _)
theorem nM{n:Nat}{p:Array Nat}(h:In n p)(k m:Nat):Ask n (λ r:Nat×Array Nat=>In n r.2) (kas_descPart k m p) :=
 (nK _ p _ _ h).bind λ r hr=>by
  split
  ·exact tail3_ask (hr.perm (fL _ _ _)) _ _
  ·exact tail3_ask hr _ _
theorem count_ask{n : Nat}{p : Array Nat}(h : In n p)(m : Nat): Ask n (λ r : Nat × Array Nat => In n r.2) (kas_count m p) :=
 (asc_ask h _ _).bind λ k _=>by
  split
  ·exact h
  ·split
   ·refine⟨h.at _,h.at _,λ b=>?_⟩;cases b
    ·exact nM (h.perm (fL _ _ _)) _ _
    ·exact h
   ·exact nM h _ _
theorem place_ask{n:Nat}{p:Array Nat}(h:In n p)(k:Nat):∀(f l r:Nat),Ask n (λ _=>True) (kas_place p k f l r)
 | 0,_,_=>trivial
 | f+1,l,r=>by
  show Ask n _ (if l≥r then .ret l else .ask (p.getD k 0) (p.getD ((l+r) / 2) 0) λ c=>if c=true then kas_place p k f l ((l+r) / 2)else kas_place p k f ((l+r) / 2+1) r);split
  ·trivial
  ·refine⟨h.at _,h.at _,λ b=>?_⟩;cases b
   ·exact place_ask h k f _ _
   ·exact place_ask h k f _ _
theorem bin_ask{n:Nat}:∀(f:Nat)(p:Array Nat)(k:Nat),In n p->Ask n (λ _=>True) (kas_bin f p k)
 | 0,_,_,_=>trivial
 | f+1,p,k,h=>(place_ask h k _ _ _).bind λ l _=>bin_ask f _ _ (h.perm (bubble_perm _ _ _))
theorem sort_ask{n:Nat}(h1:1≤n):Ask n (λ _=>True) (kas_sort n) :=
 (count_ask (p:=(List.range n).toArray) ⟨h1,λ x hx=>by simpa using hx⟩ n).bind λ r hr=>by
  split
  ·exact bin_ask _ _ _ hr
  ·trivial
end iD
namespace iD
open PySem PySem.W PyProof.Rows
open _root_.Z (jo leB eM leB_iff ng mE ft kr)
section
variable {prog:Program}{w:World}{A:Around}{E:Value->Shared->Prop}{s:Shared}
theorem lt_pair{x y : Addr}{ox oy : Obj}{a b : Int × Int}{t1 u1 t2 u2 : Tok}{n k : Nat}{Q : Bool -> Shared -> Prop}(hx : s.heap.get? x = some ox)(dx : ox.data = .seq #[.int a.1 t1, .int a.2 u1] n)(hy : s.heap.get? y = some oy)(dy : oy.data = .seq #[.int b.1 t2, .int b.2 u2] k)
  (h:Q (jo a b) s):wpAny (model prog w) A (keyLt' (tuples' true) (.ref x) (.ref y)) Q E s:=by
 refine kat_lt hx dx hy dy ?_;show KatLex prog w A true _ Q [(.int a.1 t1,.int b.1 t2),(.int a.2 u1,.int b.2 u2)] 0 s;refine kat_cons (wpAny_eqBool_int ?_);by_cases c1:a.1=b.1
 ·rw[show(a.1==b.1)=true by simpa using c1];refine kat_yes (kat_cons (wpAny_eqBool_int ?_));by_cases c2:a.2=b.2
  ·rw[show(a.2==b.2)=true by simpa using c2];refine kat_yes (kat_nil ?_);have:jo a b=decide ((#[Value.int a.1 t1,Value.int a.2 u1]).size < (#[Value.int b.1 t2,Value.int b.2 u2]).size):=by unfold jo;simp[c1,c2]
   rw[<-this];exact h
  ·rw[show(a.2==b.2)=false by simpa using c2];refine kat_no (kat_one _ _ ?_);have:jo a b=decide (a.2 < b.2):=by unfold jo;simp[c1]
   rw[this]at h;exact PyProof.Rows.lt_int (show PySem.W.BoolBack Q (.bool (decide (a.2 < b.2))) s from h)
 ·rw[show(a.1==b.1)=false by simpa using c1];refine kat_no (oneLt_int ?_);have:jo a b=decide (a.1 < b.1):=by unfold jo;simp[c1]
  rw[<-this];exact h
def jg(h:Heap)(v:Value)(p:Int×Int):Prop:=∃a o t u n,v=.ref a∧h.get? a=some o∧o.cls=.type "tuple" ∧ o.data=.seq #[.int p.1 t,.int p.2 u] n
inductive bB (h:Heap):List Value->List (Int×Int)->Prop
 | nil:bB h [] []
 | cons {v:Value}{p:Int×Int}{vs:List Value}{ps:List (Int×Int)}:jg h v p->bB h vs ps->bB h (v :: vs) (p :: ps)
theorem bB.len{h:Heap}{vs:List Value}{ps:List (Int×Int)}(x:bB h vs ps):vs.length=ps.length:=by
 induction x with
 | nil=>rfl
 | cons _ _ ih=>simp[ih]
theorem bB.at{h:Heap}{vs:List Value}{ps:List (Int×Int)}(x:bB h vs ps):∀i,i < vs.length->jg h (vs.getD i .none) (ps.getD i (0,0)):=by
 induction x with
 | nil=>exact λ i hi=>absurd hi (Nat.not_lt_zero _)
 | cons q _ ih =>
  intro i hi;cases i with
  | zero=>exact q
  | succ i=>simpa using ih i (by simpa using hi)
theorem bB.kept{h h':Heap}(k:∀a o,h.get? a=some o->o.cls=.type "tuple" -> h'.get? a=some o){vs:List Value}{ps:List (Int×Int)}(x:bB h vs ps):bB h' vs ps:=by
 induction x with
 | nil=>exact .nil
 | cons q _ ih =>obtain⟨a,o,t,u,n,h1,h2,h3,h4⟩:=q;exact .cons ⟨a,o,t,u,n,h1,k a o h2 h3,h3,h4⟩ ih
theorem bB.firsts{h:Heap}{vs:List Value}{ps:List (Int×Int)}(x:bB h vs ps):∃fs:List Value,KatTups h vs fs∧fs.length=vs.length∧∀v∈fs,∃i t,v=.int i t:=by
 induction x with
 | nil=>exact⟨[],trivial,rfl,λ v hv=>nomatch hv⟩
 | cons q _ ih =>
  obtain⟨fs,f1,f2,f3⟩:=ih;obtain⟨a,o,t,u,n,rfl,h2,h3,h4⟩:=q;refine⟨.int _ t :: fs,KatTups.cons h2 h3 h4 rfl f1,by simp[f2],λ v hv=>?_⟩;rcases List.mem_cons.mp hv with rfl | hv
  ·exact⟨_,_,rfl⟩
  ·exact f3 v hv
def big(ps:List (Int×Int)):Int:=1+2*(ps.map λ p=>(p.2.natAbs:Int)).sum
theorem abs_le{ps:List (Int×Int)}{p:Int×Int}(h:p∈ps):(p.2.natAbs:Int)≤(ps.map λ p=>(p.2.natAbs:Int)).sum:=by
 induction ps with
 | nil=>cases h
 | cons q ps ih =>
  have h0:(0:Int)≤(ps.map λ p=>(p.2.natAbs:Int)).sum:=by
   clear ih h
   induction ps with
   | nil=>exact Int.le_refl _
   | cons q ps ih=>rw[List.map_cons,List.sum_cons];lia
  rw[List.map_cons,List.sum_cons];rcases List.mem_cons.mp h with rfl | h
  ·lia
  ·have:=ih h;lia
def rank(ps:List (Int×Int))(p:Int×Int):Int:=p.1*big ps+p.2
theorem rank_lt{ps:List (Int×Int)}{a b:Int×Int}(ha:a∈ps)(hb:b∈ps):jo a b=decide (rank ps a < rank ps b):=by
 have h1:=abs_le ha;have h2:=abs_le hb;unfold jo;rw[Bool.eq_iff_iff,decide_eq_true_eq,decide_eq_true_eq];unfold rank big;generalize (ps.map λ p=>(p.2.natAbs:Int)).sum=S at h1 h2;have hS:0≤S:=by lia
 rcases Int.lt_trichotomy a.1 b.1 with c | c | c
 ·have:(a.1+1)*(1+2*S)≤b.1*(1+2*S):=Int.mul_le_mul_of_nonneg_right (by lia) (by lia);rw[Int.add_mul]at this;constructor
  ·intro _;lia
  ·intro _;exact .inl c
 ·rw[c];constructor
  ·rintro(z | ⟨_,z⟩)<;>lia
  ·intro z;exact .inr ⟨rfl,by lia⟩
 ·have:(b.1+1)*(1+2*S)≤a.1*(1+2*S):=Int.mul_le_mul_of_nonneg_right (by lia) (by lia);rw[Int.add_mul]at this;constructor
  ·rintro(z | ⟨z,_⟩)<;>lia
  ·intro _;lia
end
end iD
namespace iD
open PySem PySem.W PyProof.Rows
section
variable {prog:Program}{w:World}{A:Around}{E:Value->Shared->Prop}{s:Shared}
structure Ord(ps:List (Int×Int))(q:List Nat):Prop where
 perm:q.Perm (List.range ps.length)
 up:(q.map λ i=>rank ps (ps.getD i (0,0))).Pairwise (·≤·)
theorem Ord.of{ps:List (Int×Int)}(h:1≤ps.length):Ord ps (run (od λ i=>rank ps (ps.getD i (0,0))) (kas_sort ps.length)).toList:=by
 obtain⟨h1,h2⟩:=sort_run (key:=λ i=>rank ps (ps.getD i (0,0))) h;generalize run (od λ i=>rank ps (ps.getD i (0,0))) (kas_sort ps.length)=r at h1 h2;have hsz:r.size=ps.length:=by rw[h1.size_eq];simp
 refine⟨by simpa using h1.toList,?_⟩;rw[List.pairwise_iff_getElem];intro i j hi hj hij;have g:∀k (hk:k < (r.toList.map λ i=>rank ps (ps.getD i (0,0))).length),(r.toList.map λ i=>rank ps (ps.getD i (0,0)))[k]=K (λ i=>rank ps (ps.getD i (0,0))) r k:=λ k hk=>by
  have hk':k < r.size:=by simpa using hk
  unfold K;rw[List.getElem_map,Array.getElem_toList,Array.getD_eq_getD_getElem?,Array.getElem?_eq_getElem hk'];rfl
 rw[g,g];exact h2.le (Nat.le_of_lt hij) (by rw[<-hsz];simpa using hj)
theorem ask_pairs{vs:List Value}{ps:List (Int×Int)}(x:bB s.heap vs ps):∀(i j:Nat)(C:Bool->Shared->Prop),i < vs.length->j < vs.length->C (od (λ i=>rank ps (ps.getD i (0,0))) i j) s->kas_ask prog w A (tuples' true) vs i j C s:=by
 intro i j C hi hj h;obtain⟨a,o,t,u,n,e1,g1,_,g2⟩:=x.at i hi;obtain⟨b,o',t',u',n',e2,k1,_,k2⟩:=x.at j hj;unfold kas_ask;rw[e1,e2];refine lt_pair g1 g2 k1 k2 ?_;have mem:∀m,m < vs.length->ps.getD m (0,0)∈ps:=λ m hm=>by rw[x.len]at hm;rw[List.getD_eq_getElem?_getD,List.getElem?_eq_getElem hm];exact List.getElem_mem hm
 rw[rank_lt (mem i hi) (mem j hj)];exact h
theorem sort_pairs{a:Addr}{vs:List Value}{ps:List (Int×Int)}{n:Nat}{P:PySem.Fin->Shared->Prop}(ho:s.heap.get? a=some (seqObj "list" vs.toArray n))(x:bB s.heap vs ps)(h2:2≤vs.length)(h64:vs.length < 64)
  (h:∀q:List Nat,Ord ps q->P (.done (.ret .none)) { s with heap:=sortedHeap s.heap a vs (q.map λ i=>vs.getD i .none).toArray }) :
  wpAny (model prog w) A (Builtin.«list.sort» ⟨[.ref a],[]⟩) P E s:=by
 have lt:a < s.heap.objs.size:=Heap.lt_size ho;obtain⟨c,gc⟩:∃c,(s.heap.update a (Obj.mapSeq λ _=>#[])).get? a=some (seqObj "list" #[] c):=⟨_,get?_update_seq ho (λ _=>#[])⟩
 have len:vs.toArray.size=vs.length:=by simp
 have line:vs.length≤sizeLine:=by rw[sizeLine_eq];lia
 rw[list_sort_plain];apply wpAny_bind;refine listItems_at ho rfl ?_;apply wpAny_bind;refine listUpdate_at (hsz2:=Nat.zero_le _) (hsz:=by rw[len];exact line) ho rfl ?_;apply wpAny_bind;refine seqEpoch_at gc rfl ?_;apply wpAny_bind;refine wpAny_newTuple ?_ (by simpa using line);apply wpAny_bind;refine wpAny_newList ?_ (Nat.zero_le _);apply wpAny_holding;have g6:(((s.heap.update a (Obj.mapSeq λ _=>#[])).push (seqObj "tuple" vs.toArray 0)).push (seqObj "list" #[] 0)).get? a=some (seqObj "list" #[] c) :=
  Heap.get?_push_of_some _ (Heap.get?_push_of_some _ gc)
 have x2:bB (((s.heap.update a (Obj.mapSeq λ _=>#[])).push (seqObj "tuple" vs.toArray 0)).push (seqObj "list" #[] 0)) vs ps:=x.kept λ b o e cl=>by
  have ne:b≠a:=by rintro rfl;rw[ho]at e;cases e;exact absurd (show Value.type "list" = .type "tuple" from cl) (by decide)
  exact Heap.get?_push_of_some _ (Heap.get?_push_of_some _ (by rw[Heap.get?_update_ne _ _ _ _ ne];exact e))
 show wpAny (model prog w) A _ P E { s with heap:=(((s.heap.update a (Obj.mapSeq λ _=>#[])).push (seqObj "tuple" vs.toArray 0)).push (seqObj "list" #[] 0)) };generalize eH:((s.heap.update a (Obj.mapSeq λ _=>#[])).push (seqObj "tuple" vs.toArray 0)).push (seqObj "list" #[] 0)=H2 at g6 x2;dsimp only;have n2:¬vs.toArray.size < 2:=by rw[len];lia
 rw[if_neg n2,if_neg n2];obtain⟨fs,f1,f2,f3⟩:=x2.firsts;apply wpAny_bind;refine kat_kind (T:=.type "int") f1 (by lia) (λ v hv=>?_) rfl ?_
 ·obtain⟨i,t,rfl⟩:=f3 v hv;exact Looks.of_pure rfl
 have hw:=wp_run (ask:=kas_ask prog w A (tuples' true) vs) (s:={ s with heap:=H2 }) (G:=λ p s'=>s'={ s with heap:=H2 }∧p=run (od λ i=>rank ps (ps.getD i (0,0))) (kas_sort vs.length)) (ask_pairs x2) (kas_sort vs.length) (sort_ask (by lia)) ⟨rfl,rfl⟩;apply wpAny_bind;refine wpAny_mono (kat_run (κ:=tuples' true) (ks:=vs) (vs:=vs) (Q:=λ aL s'=>s'={ s with heap:=H2 }∧failedOf aL=none∧(arrOf aL).map (·.2)=((run (od λ i=>rank ps (ps.getD i (0,0))) (kas_sort vs.length)).toList.map λ i=>vs.getD i .none).toArray) rfl h2 h64 (λ p aL s' a1 a2 a3 a4=>?_) hw) ?_ λ _ _ e=>e
 ·obtain⟨rfl,rfl⟩:=a4;exact⟨rfl,a3,kat_snds rfl a2⟩
 ·rintro⟨⟨⟩,aL⟩ s' ⟨rfl,hf,ha⟩;dsimp only;rw[ha,hf];have hO:=Ord.of (ps:=ps) (by rw[<-x.len];lia);rw[<-x.len]at hO;have fin:=h _ hO;unfold sortedHeap at fin;rw[eH]at fin;have hol:((run (od λ i=>rank ps (ps.getD i (0,0))) (kas_sort vs.length)).toList.map λ i=>vs.getD i .none).length≤sizeLine+1:=by rw[List.length_map,hO.perm.length_eq,List.length_range,<-x.len];lia
  generalize ((run (od λ i=>rank ps (ps.getD i (0,0))) (kas_sort vs.length)).toList.map λ i=>vs.getD i .none)=out at fin hol ⊢;apply wpAny_bind;refine seqEpoch_at g6 rfl ?_;apply wpAny_bind;refine listUpdate_at (hsz2:=by simpa using hol) (hsz:=Nat.zero_le _) g6 rfl ?_;simp only[bne_self_eq_false,Bool.false_eq_true,if_false];exact wpAny_pure fin
theorem sorted_pairs{l:Addr}{vs:List Value}{ps:List (Int×Int)}{Q:Value->Shared->Prop}(hl:s.heap.IsList l vs.toArray)(x:bB s.heap vs ps)(h2:2≤vs.length)(h64:vs.length < 64)
  (h:∀q:List Nat,Ord ps q->Q (.ref (s.heap.objs.size+1)) { s with heap:=sortedAll s.heap vs (q.map λ i=>vs.getD i .none).toArray }) :
  wpAny (model prog w) A (call (.builtin "sorted") [.ref l]) Q E s:=by
 have line:vs.length≤sizeLine:=by rw[sizeLine_eq];lia
 refine Calls.call_function_entry kind_sorted plain_sorted entry_sorted (args_sorted1 (.ref l)) ?_
 delta Builtin.«sorted»
 refine wpAny_bind (wpAny_pure ?_);apply wpAny_bind;refine collect_list hl ?_ (by simpa using line);apply wpAny_bind;refine wpAny_newList ?_ (by simpa using line);have sz:((s.heap.push (seqObj "list" #[] 0)).update s.heap.objs.size (Obj.mapSeq (·++vs.toArray))).objs.size=s.heap.objs.size+1:=by rw[Heap.size_update,size_push']
 have gL:(((s.heap.push (seqObj "list" #[] 0)).update s.heap.objs.size (Obj.mapSeq (·++vs.toArray))).push (seqObj "list" vs.toArray 0)).get? (s.heap.objs.size+1)=some (seqObj "list" vs.toArray 0):=sz▸Heap.get?_push_size _ rfl;have x1:bB (((s.heap.push (seqObj "list" #[] 0)).update s.heap.objs.size (Obj.mapSeq (·++vs.toArray))).push (seqObj "list" vs.toArray 0)) vs ps:=x.kept λ b o e _=>by have lt:b < s.heap.objs.size:=Heap.lt_size e;exact Heap.get?_push_of_some _ (by rw[Heap.get?_update_ne _ _ _ _ (Nat.ne_of_lt lt)];exact Heap.get?_push_of_some _ e)
 show wpAny _ _ _ _ _ { s with heap:=(((s.heap.push (seqObj "list" #[] 0)).update s.heap.objs.size (Obj.mapSeq (·++vs.toArray))).push (seqObj "list" vs.toArray 0)) };rw[sz];apply wpAny_bind;refine wpAny_holding (wpAny_call_entry slot_list_sort ⟨_,gL,rfl⟩ entry_list_sort (sort_pairs gL x1 h2 h64 λ q hq=>⟨_,rfl,?_⟩) (args_list_sort _));exact wpAny_pure ⟨_,rfl,h q hq⟩
end
end iD
namespace iD
open PySem PySem.W PyProof.Rows
open _root_.Z (jo leB eM leB_iff ng mE ft kr)
theorem range_getD(ps:List (Int×Int)):(List.range ps.length).map (λ i=>ps.getD i (0,0))=ps:=by
 apply List.ext_getElem
 ·simp
 ·intro i h1 h2;simp[h2]
theorem Ord.eq{ps:List (Int×Int)}{q:List Nat}(h:Ord ps q):q.map (λ i=>ps.getD i (0,0))=eM ps:=by
 have hp:(q.map λ i=>ps.getD i (0,0)).Perm ps:=by have:=h.perm.map λ i=>ps.getD i (0,0);rwa [range_getD]at this
 refine(kr hp ?_).symm;have hu:=h.up;rw[show(q.map λ i=>rank ps (ps.getD i (0,0)))=(q.map λ i=>ps.getD i (0,0)).map (rank ps)by rw[List.map_map];rfl,List.pairwise_map]at hu;refine hu.imp_of_mem λ {a b} ha hb hab=>?_;unfold leB;rw[rank_lt (hp.mem_iff.mp hb) (hp.mem_iff.mp ha)];simp;exact hab
section
variable {prog:Program}{w:World}{A:Around}{E:Value->Shared->Prop}{s:Shared}
theorem sort_small{a:Addr}{vs:List Value}{n:Nat}{P:PySem.Fin->Shared->Prop}(ho:s.heap.get? a=some (seqObj "list" vs.toArray n))(h2:vs.length < 2)
  (h:P (.done (.ret .none)) { s with heap:=sortedHeap s.heap a vs vs.toArray }):wpAny (model prog w) A (Builtin.«list.sort» ⟨[.ref a],[]⟩) P E s:=by
 obtain⟨c,gc⟩:∃c,(s.heap.update a (Obj.mapSeq λ _=>#[])).get? a=some (seqObj "list" #[] c):=⟨_,get?_update_seq ho (λ _=>#[])⟩
 have len:vs.toArray.size=vs.length:=by simp
 have line:vs.length≤sizeLine:=by rw[sizeLine_eq];lia
 rw[list_sort_plain];apply wpAny_bind;refine listItems_at ho rfl ?_;apply wpAny_bind;refine listUpdate_at (hsz2:=Nat.zero_le _) (hsz:=by rw[len];exact line) ho rfl ?_;apply wpAny_bind;refine seqEpoch_at gc rfl ?_;apply wpAny_bind;refine wpAny_newTuple ?_ (by simpa using line);apply wpAny_bind;refine wpAny_newList ?_ (Nat.zero_le _);apply wpAny_holding;have g6:(((s.heap.update a (Obj.mapSeq λ _=>#[])).push (seqObj "tuple" vs.toArray 0)).push (seqObj "list" #[] 0)).get? a=some (seqObj "list" #[] c) :=
  Heap.get?_push_of_some _ (Heap.get?_push_of_some _ gc)
 show wpAny (model prog w) A _ P E { s with heap:=(((s.heap.update a (Obj.mapSeq λ _=>#[])).push (seqObj "tuple" vs.toArray 0)).push (seqObj "list" #[] 0)) };unfold sortedHeap at h;generalize ((s.heap.update a (Obj.mapSeq λ _=>#[])).push (seqObj "tuple" vs.toArray 0)).push (seqObj "list" #[] 0)=H2 at g6 h;dsimp only;have n2:vs.toArray.size < 2:=by rw[len];lia
 rw[if_pos n2,if_pos n2];refine wpAny_bind (wpAny_pure ?_);rw[StateT.run_pure];refine wpAny_bind (wpAny_pure ?_);dsimp only;have ha:(arrOf (SortSt.mk' general' (vs.toArray.zip vs.toArray) #[] 7 none)).map (·.2)=vs.toArray:=by
  show(vs.toArray.zip vs.toArray).map (·.2)=vs.toArray
  match vs,h2 with
  | [],_=>simp
  | [v],_=>simp
 rw[ha];apply wpAny_bind;refine seqEpoch_at g6 rfl ?_;apply wpAny_bind;refine listUpdate_at (hsz2:=by rw[len];lia) (hsz:=Nat.zero_le _) g6 rfl ?_;simp only[bne_self_eq_false,Bool.false_eq_true,if_false];exact wpAny_pure h
theorem Ord.small{ps:List (Int×Int)}(h:ps.length < 2):Ord ps (List.range ps.length):=⟨List.Perm.refl _,by
 match ps,h with
 | [],_=>exact .nil
 | [p],_=>exact List.pairwise_singleton _ _⟩
theorem sorted_any{l:Addr}{vs:List Value}{ps:List (Int×Int)}{Q:Value->Shared->Prop}(hl:s.heap.IsList l vs.toArray)(x:bB s.heap vs ps)(h64:vs.length < 64)
  (h:∀q:List Nat,Ord ps q->Q (.ref (s.heap.objs.size+1)) { s with heap:=sortedAll s.heap vs (q.map λ i=>vs.getD i .none).toArray }) :
  wpAny (model prog w) A (call (.builtin "sorted") [.ref l]) Q E s:=by
 by_cases h2:2≤vs.length
 ·exact sorted_pairs hl x h2 h64 h
 have line:vs.length≤sizeLine:=by rw[sizeLine_eq];lia
 have fin:=h _ (Ord.small (by rw[<-x.len];lia));rw[<-x.len,show(List.range vs.length).map (λ i=>vs.getD i Value.none)=vs by
  apply List.ext_getElem
  ·simp
  ·intro i h1 h2;simp[h2]]at fin
 refine Calls.call_function_entry kind_sorted plain_sorted entry_sorted (args_sorted1 (.ref l)) ?_
 delta Builtin.«sorted»
 refine wpAny_bind (wpAny_pure ?_);apply wpAny_bind;refine collect_list hl ?_ (by simpa using line);apply wpAny_bind;refine wpAny_newList ?_ (by simpa using line);have sz:((s.heap.push (seqObj "list" #[] 0)).update s.heap.objs.size (Obj.mapSeq (·++vs.toArray))).objs.size=s.heap.objs.size+1:=by rw[Heap.size_update,size_push']
 have gL:(((s.heap.push (seqObj "list" #[] 0)).update s.heap.objs.size (Obj.mapSeq (·++vs.toArray))).push (seqObj "list" vs.toArray 0)).get? (s.heap.objs.size+1)=some (seqObj "list" vs.toArray 0):=sz▸Heap.get?_push_size _ rfl;show wpAny _ _ _ _ _ { s with heap:=(((s.heap.push (seqObj "list" #[] 0)).update s.heap.objs.size (Obj.mapSeq (·++vs.toArray))).push (seqObj "list" vs.toArray 0)) };rw[sz];apply wpAny_bind;refine wpAny_holding (wpAny_call_entry slot_list_sort ⟨_,gL,rfl⟩ entry_list_sort (sort_small gL (by lia) ⟨_,rfl,?_⟩) (args_list_sort _));exact wpAny_pure ⟨_,rfl,fin⟩
end
end iD
namespace ZS
open PySem PySem.Spec PyProof.Rows L2
section
variable {X:Cx}{pins:List (Addr×Obj)}{σ:St}{H:Hp}{s:Shared}{a:Expr}{pos:Pos}{fa:Z.EF}
theorem prs_on(I : Inv X pins σ H s): ∀{ps : List (Int × Int)}{vs : List V}{aM : List Value}, ax X.K H (ps.map Z.prD) vs -> Vals vs aM -> iD.bB s.heap aM ps
 | [],vs,aM,d,v=>by simp only[List.map_nil,ax]at d;subst d;cases v;exact .nil
 | p :: ps,vs,aM,d,v=>by
  simp only[List.map_cons,ax]at d;obtain⟨x,r,rfl,dx,t⟩:=d;cases v with
  | cons rx rt =>
   rename_i u us;refine .cons ?_ (prs_on I t rt);simp only[Z.prD,Den,ax]at dx;obtain⟨b,ws,rfl,hq,w1,r1,rfl,rfl,w2,r2,rfl,rfl,rfl⟩:=dx;obtain⟨dq,rv,⟨o,g1,g2,n,g3⟩,_⟩:=I.tuple hq;obtain rfl:u=Value.ref b:=rx;cases rv with
   | cons q1 rv =>
    cases rv with
    | cons q2 rv =>cases rv;obtain⟨t1,rfl⟩:=q1;obtain⟨t2,rfl⟩:=q2;exact⟨b,o,t1,t2,n,rfl,g1,g2,by simpa using g3⟩
theorem vals_pick{vs:List V}{aM:List Value}(r:Vals vs aM):∀q:List Nat,(∀i∈q,i < vs.length)->Vals (q.map λ i=>vs.getD i .non) (q.map λ i=>aM.getD i .none)
 | [],_=>.nil
 | i :: q,h=>by have hi:i < vs.length:=h i (List.mem_cons_self);obtain⟨u,hu,ru⟩:=r.get (List.getElem?_eq_getElem hi);refine .cons ?_ (vals_pick r q λ j hj=>h j (List.mem_cons_of_mem _ hj));show RelV (vs.getD i .non) (aM.getD i .none);rw[List.getD_eq_getElem?_getD,List.getElem?_eq_getElem hi,List.getD_eq_getElem?_getD,hu];exact ru
theorem dens_pick{ds:List Z.D}{vs:List V}(t:ax X.K H ds vs):∀q:List Nat,(∀i∈q,i < ds.length)->ax X.K H (q.map λ i=>ds.getD i .non) (q.map λ i=>vs.getD i .non)
 | [],_=>ax.nil
 | i :: q,h=>by have hi:i < ds.length:=h i (List.mem_cons_self);obtain⟨v,hv,dv⟩:=ax.get t (List.getElem?_eq_getElem hi);refine ax.cons ?_ (dens_pick t q λ j hj=>h j (List.mem_cons_of_mem _ hj));show Den X.K H (ds.getD i .non) (vs.getD i .non);rw[List.getD_eq_getElem?_getD,List.getElem?_eq_getElem hi,List.getD_eq_getElem?_getD,hv];exact dv
theorem call_sortP:iG X (.builtin "sorted") (λ xs H Q=>∃p vs ps,xs=[.ref p]∧i6 X.K H p vs∧ax X.K H (ps.map Z.prD) vs∧ps.length < 64∧∀l ws,H l=none->ax X.K H ((Z.eM ps).map Z.prD) ws->Q (.ref l) (upd H l (.lst ws))):=by
 intro pins s σ H xs us Q I r h;obtain⟨p,vs,ps,rfl,hq,t,hl,q⟩:=h;obtain⟨u,rfl,rx⟩:=vals1 r;cases rx;obtain⟨aM,rv,pl,hz⟩:=I.list hq;have len:=t.length;rw[List.length_map]at len;have len2:=rv.length;refine iD.sorted_any (vs:=aM) (ps:=ps) pl.isList (prs_on I t rv) (by lia) λ o ho=>?_;have hm:∀i∈o,i < ps.length:=λ i hi=>by simpa using ho.perm.mem_iff.mp hi
 obtain⟨c,gc⟩:=sortedAll_at s.heap aM (o.map λ i=>aM.getD i .none).toArray;have hol:(o.map λ i=>vs.getD i .non).length≤sizeLine:=by rw[List.length_map,ho.perm.length_eq,List.length_range,sizeLine_eq];lia
 have d2:ax X.K H ((Z.eM ps).map Z.prD) (o.map λ i=>vs.getD i .non):=by
  have:=dens_pick t o (λ i hi=>by rw[List.length_map];exact hm i hi);rw[<-ho.eq];rw[List.map_map];have e:(o.map λ i=>(ps.map Z.prD).getD i .non)=o.map (Z.prD∘λ i=>ps.getD i (0,0)):=List.map_congr_left λ i hi=>by have:=hm i hi;simp[List.getD_eq_getElem?_getD,List.getElem?_eq_getElem this]
  rw[<-e];exact this
 refine⟨.ref (s.heap.objs.size+1),_,I.laid (a:=s.heap.objs.size+1) (o:=.lst (o.map λ i=>vs.getD i .non)) (t':=s.toks) (λ b u e=>sortedAll_old e) (Nat.le_succ _) ⟨hol,_,c,vals_pick rv o (λ i hi=>by rw[len];exact hm i hi),gc⟩,rfl,q _ _ (I.dO.fresh (Nat.le_succ _)) d2⟩
theorem dl_sortP{x:Str}{p1:Pos}(hg:Gl X x)(hm:X.mg x=none)(hv:bootBuiltins x=some (.builtin "sorted"))(ha:DW X a fa)(hn:x ≠ "__name__" := by decide +kernel)(hdb:(x==("__debug__" : Str))=false:=by decide +kernel)
  (he:starEach (a :: []) X.env=(false,eval a X.env) :: starEach [] X.env:=by rfl) (hpl:(backTo pos (starEach [] X.env)).any (·.1)=false:=by rfl):DL X (.Call (.Name x p1) [a] [] pos) (Z.lSortP fa) :=
 PE.imp (jn call_sortP hg hm hv (a! ha cQ he) hn hdb he hpl) λ σ H Q ⟨ρ,d,r,e,k⟩=>by obtain⟨x,ea,e⟩:=Z.Res.ao e;obtain⟨ps,rfl,hl,rfl⟩:=Z.sortK_ok e;refine⟨ρ,_,r,ea,λ v H1 s1 d1=>?_⟩;obtain⟨q,vs,rfl,hq,t⟩:=d1.lst;refine⟨q,vs,ps,rfl,hq,t,hl,λ l ws hl2 dw=>?_⟩;have s2:aD H1 (upd H1 l (.lst ws)):=bG hl2;exact k l _ _ (s1.trans s2) (s1.free hl2) aX (dw.up s2)
end
end ZS
namespace ZQ
open PySem PySem.Spec PyProof.Rows L2 ZS
theorem dl_sortP{X:Cx}{a:Expr}{pos:Pos}{fa:Z.EF}{x:Str}{p1:Pos}(hg:Gl X x)(hm:X.mg x=none)(hv:bootBuiltins x=some (.builtin "sorted"))(ha:QW X a fa)(hn:x ≠ "__name__" := by decide +kernel)(hdb:(x==("__debug__" : Str))=false:=by decide +kernel)
  (he:starEach (a :: []) X.env=(false,eval a X.env) :: starEach [] X.env:=by rfl) (hpl:(backTo pos (starEach [] X.env)).any (·.1)=false:=by rfl):QL X (.Call (.Name x p1) [a] [] pos) (Z.lSortP fa):=⟨ZS.dl_sortP hg hm hv ha.p hn hdb he hpl⟩
end ZQ
noncomputable section
namespace Z
def zip3D:List D->List D->List D->List D
 | a :: as,b :: bs,c :: cs=>.tup [a,b,c] :: zip3D as bs cs
 | _,_,_=>[]
def iZip3(a b c:EF)(ρ:Env):Res (List D):=(a ρ).bind λ x=>(b ρ).bind λ y=>(c ρ).bind λ u=>(tupD x).bind λ xs=>(tupD y).bind λ ys=>(tupD u).bind λ us=>guard (xs.length=ys.length∧xs.length=us.length) (.ok (zip3D xs ys us))
@[simp] theorem iZip3_a(a b c:EF)(ρ:Env):iZip3 a b c ρ=(a ρ).bind λ x=>(b ρ).bind λ y=>(c ρ).bind λ u=>(tupD x).bind λ xs=>(tupD y).bind λ ys=>(tupD u).bind λ us=>guard (xs.length=ys.length∧xs.length=us.length) (.ok (zip3D xs ys us)):=rfl
end Z
namespace ZS
open PySem PySem.Spec PyProof.Rows L2
structure Far3(z TI TO i1 i2 i3:Addr)(f1 f2 f3:List Addr):Prop where
 ne:[z,TI,TO,i1,i2,i3].Nodup
 a1:z∉f1∧TO∉f1∧i2∉f1∧i3∉f1
 a2:z∉f2∧TO∉f2∧i1∉f2∧i3∉f2
 a3:z∉f3∧TO∉f3∧i1∉f3∧i2∉f3
section
variable {prog:Program}{w:World}{A:Around}{E:Value->Shared->Prop}{s:Shared}
end
end ZS
namespace ZS
open PySem PySem.Spec PyProof.Rows L2
end ZS
namespace ZS
open PySem PySem.Spec PyProof.Rows L2
section
variable {X:Cx}{a b c:Expr}{pos p p2:Pos}{fa fb fc:Z.EF}{elts:List Expr}{x1:Nat}
end
end ZS
namespace ZQ
open PySem PySem.Spec PyProof.Rows L2 ZS
end ZQ
noncomputable section
namespace Z
def oAddI:D->D->Res D
 | .int a,.int b=>.ok (.int (a+b))
 | _,_=>.bad
@[simp] theorem oAddI_int(a b:Int):oAddI (.int a) (.int b)=.ok (.int (a+b)):=rfl
def oIsB(c:Bool):D->Res D
 | .bl b=>.ok (.bl (b==c))
 | _=>.bad
@[simp] theorem oIsB_bl(c b:Bool):oIsB c (.bl b)=.ok (.bl (b==c)):=rfl
def oNotB(c:Bool):D->Res D
 | .bl b=>.ok (.bl (b != c))
 | _=>.bad
@[simp] theorem oNotB_bl(c b:Bool):oNotB c (.bl b)=.ok (.bl (b != c)):=rfl
def intsL:List D->Option (List Int)
 | []=>some []
 | .int i :: r=>(intsL r).map (i :: ·)
 | _ :: _=>none
@[simp] theorem intsL_map:∀ns:List Int,intsL (ns.map .int)=some ns
 | []=>rfl
 | n :: ns=>by show(intsL (ns.map .int)).map (n :: ·)=_;rw[intsL_map ns];rfl
end Z
end
noncomputable section
namespace Z
end Z
end
namespace ZS
open PySem PySem.Spec PyProof.Rows L2
section
variable {X:Cx}{H0:Hp}{pos:Pos}
end
end ZS
namespace ZQ
open PySem PySem.Spec PyProof.Rows L2 ZS
section
variable {X:Cx}{H0:Hp}{pos:Pos}
end
end ZQ
namespace ZMx
open PySem PySem.Spec PyProof.Rows
section
variable {prog:Program}{w:World}{A:Around}{R:Result->Shared->Prop}{I S:Addr}{fp wr:List Addr}{n:Nat}{P:Nat->Value->Prop}{St:Nat->Heap->Prop}
abbrev two(b:Value)(c:Nat):Obj:={ cls:=.type "list",data:=.seq #[b,b] c }
abbrev lp(I S:Addr)(kw:List (Str×Value)):Code:=.builtin "max.loop" ⟨[.ref I,.none,.ref S],kw⟩
theorem nm:(toString "max" ++ toString ".loop" : String) = "max.loop" := by decide
theorem go(W:Walks prog w A.in1 I fp wr n P St){bt:Nat->Nat->Bool}(hc:CmpOf prog w A.in1 .Gt P bt)(out:S∉fp)(kw:List (Str×Value)):
  ∀(k j:Nat)(s:Shared)(b:Value)(c:Nat),n=j+1+k->St (j+1) s.heap->P (argBest bt j) b->s.heap.get? S=some (two b c) ->
   (∀v h' tk,P (argBest bt (n-1)) v->(∀a o,a≠S->a∉wr->s.heap.get? a=some o->h'.get? a=some o)->R (.ok (.ret v)) { s with heap:=h',toks:=tk }) ->
   codeAny (model prog w) A (lp I S kw) R s:=by
 have ow:S∉wr:=λ z=>out (W.sub S z);have oth:∀{h:Heap}{a:Addr}{o:Obj}(f:Obj->Obj),a≠S->h.get? a=some o->(h.update S f).get? a=some o:=λ f ne e=>(Heap.get?_update_other _ _ (Ne.symm ne)).trans e;intro k
 induction k with
 | zero =>intro j s b c hn st pb gS fin;refine codeAny_builtin PySem.F.entry_max_loop ?_;rw[Around.under_plainId PySem.F.plain_max_loop (⟨[.ref I,.none,.ref S],kw⟩)];show wpAny (model prog w) A.in1 (seqItems? (.ref S) >>= _) _ _ s;refine wpAny_bind (wpAny_seqItems gS rfl (wpAny_bind (wpAny_tryCatch (W.done s _ _ (by rw[hn];exact st) λ h1 t1 k1=>?_))));have g1:=k1 S _ ow gS;show wpAny (model prog w) A.in1 (updateSeq S (λ _=>#[]) >>= _) _ _ _;refine wpAny_bind (wpAny_updateSeq g1 rfl (wpAny_bind (wpAny_letGo (wpAny_pure ?_))));refine fin b _ t1 (by rw[hn];exact pb) λ a o ne nw e=>oth _ ne (k1 a o nw e)
 | succ k ih =>
  intro j s b c hn st pb gS fin;refine codeAny_builtin PySem.F.entry_max_loop ?_;rw[Around.under_plainId PySem.F.plain_max_loop (⟨[.ref I,.none,.ref S],kw⟩)];show wpAny (model prog w) A.in1 (seqItems? (.ref S) >>= _) _ _ s;refine wpAny_bind (wpAny_seqItems gS rfl (wpAny_bind (wpAny_tryCatch (W.item (j+1) s _ _ (by lia) st λ v h1 t1 pv lx k1=>?_))));have g1:=k1 S _ ow gS;refine wpAny_bind (wpAny_pure ?_);show wpAny (model prog w) A.in1 (tryCatch (holding [v,v] (richCompare .Gt v b >>= _)) _ >>= _) _ _ _;refine wpAny_bind (wpAny_tryCatch (wpAny_holding (wpAny_bind (hc (j+1) (argBest bt j) v b _ _ _ pv pb (wpAny_bind (wpAny_holding (wpAny_truthy_bool (wpAny_bind (wpAny_letGo (wpAny_pure ?_))))))))));have stay:∀(f:Obj->Obj),St (j+1+1) (h1.update S f):=λ f=>W.frame _ _ _ lx λ a ha o e=>oth f (λ z=>out (z▸ha)) e;cases q:bt (j+1) (argBest bt j)with
  | true =>simp only[if_true];refine wpAny_bind (wpAny_updateSeq g1 rfl (wpAny_bind (wpAny_letGo ?_)));rw[nm];refine wpAny_pure ⟨plainId_quiet PySem.F.plain_max_loop _,ih (j+1) _ v _ (by lia) (stay _) (by simp only[argBest,q,if_true];exact pv) (Heap.get?_update_self _ g1 rfl) λ v' h2 t2 pv' k2=>?_⟩;exact fin v' h2 t2 pv' λ a o ne nw e=>k2 a o ne nw (oth _ ne (k1 a o nw e))
  | false =>simp only[Bool.false_eq_true,if_false];refine wpAny_bind (wpAny_letGo ?_);rw[nm];refine wpAny_pure ⟨plainId_quiet PySem.F.plain_max_loop _,ih (j+1) _ b c (by lia) lx (by simp only[argBest,q,Bool.false_eq_true,if_false];exact pb) g1 λ v' h2 t2 pv' k2=>?_⟩;exact fin v' h2 t2 pv' λ a o ne nw e=>k2 a o ne nw (k1 a o nw e)
theorem first(W:Walks prog w A.in1 I fp wr n P St){bt:Nat->Nat->Bool}(hc:CmpOf prog w A.in1 .Gt P bt)(out:S∉fp){x:Str}{d:Value}{s:Shared}{c:Nat}(st:St 0 s.heap)(gS:s.heap.get? S=some { cls:=.type "list",data:=.seq #[] c })
  (none_:n=0->∀h' tk,(∀a o,a≠S->a∉wr->s.heap.get? a=some o->h'.get? a=some o)->R (.ok (.ret d)) { s with heap:=h',toks:=tk })
  (fin:0 < n->∀v h' tk,P (argBest bt (n-1)) v->(∀a o,a≠S->a∉wr->s.heap.get? a=some o->h'.get? a=some o)->R (.ok (.ret v)) { s with heap:=h',toks:=tk }) :
  codeAny (model prog w) A (lp I S [(x,d)]) R s:=by
 have ow:S∉wr:=λ z=>out (W.sub S z);have oth:∀{h:Heap}{a:Addr}{o:Obj}(f:Obj->Obj),a≠S->h.get? a=some o->(h.update S f).get? a=some o:=λ f ne e=>(Heap.get?_update_other _ _ (Ne.symm ne)).trans e;refine codeAny_builtin PySem.F.entry_max_loop ?_;rw[Around.under_plainId PySem.F.plain_max_loop (⟨[.ref I,.none,.ref S],[(x,d)]⟩)];show wpAny (model prog w) A.in1 (seqItems? (.ref S) >>= _) _ _ s;by_cases h0:n=0
 ·subst h0;refine wpAny_bind (wpAny_seqItems gS rfl (wpAny_bind (wpAny_tryCatch (W.done s _ _ st λ h1 t1 k1=>?_))));refine wpAny_bind (wpAny_rule (wpAny_pure ?_));exact none_ rfl h1 t1 λ a o _ nw e=>k1 a o nw e
 ·have hp:0 < n:=Nat.pos_of_ne_zero h0;refine wpAny_bind (wpAny_seqItems gS rfl (wpAny_bind (wpAny_tryCatch (W.item 0 s _ _ hp st λ v h1 t1 pv lx k1=>?_))));have g1:=k1 S _ ow gS;refine wpAny_bind (wpAny_pure ?_);refine wpAny_bind (wpAny_updateSeq g1 rfl ?_);rw[nm];refine wpAny_pure ⟨plainId_quiet PySem.F.plain_max_loop _,go W hc out [(x,d)] (n-1) 0 _ v _ (by lia) (W.frame _ _ _ lx λ a ha o e=>oth _ (λ z=>out (z▸ha)) e) pv (Heap.get?_update_self _ g1 rfl) λ v' h2 t2 pv' k2=>?_⟩;exact fin hp v' h2 t2 pv' λ a o ne nw e=>k2 a o ne nw (oth _ ne (k1 a o nw e))
theorem args(a d:Value):argsOk "max" ⟨[a],[(Str.ofString "default",d)]⟩:=by unfold argsOk;kernel_rfl
theorem binds(d:Value):Builtin.Builtins.bindParams "max" ["key", "default"] 0 ⟨[],[(Str.ofString "default",d)]⟩=pure [none,some d]:=by kernel_rfl
theorem call{x d:Value}{Q:Value->Shared->Prop}{E:Value->Shared->Prop}{s:Shared}
  (h:wpAny (model prog w) A.in1 (pyIter x) (λ it s2=>∃ I fp wr n P St bt,it=.ref I∧Walks prog w A.in1 I fp wr n P St∧St 0 s2.heap∧(∀ b∈fp,b < s2.heap.objs.size)∧CmpOf prog w A.in1 .Gt P bt ∧
   (n=0->∀h' tk,(∀a o,a∉wr->s2.heap.get? a=some o->h'.get? a=some o)->Q d { s2 with heap:=h',toks:=tk }) ∧
   (0 < n->∀v h' tk,P (argBest bt (n-1)) v->(∀a o,a∉wr->s2.heap.get? a=some o->h'.get? a=some o)->Q v { s2 with heap:=h',toks:=tk })) E s) :
  wpAny (model prog w) A (PySem.call (.builtin "max") [x] [(Str.ofString "default",d)]) Q E s:=by
 refine kmk_tree PySem.F.kind_max PySem.F.plain_max PySem.F.entry_max (args x d) ?_;show wpAny (model prog w) A.in1 (Builtin.Builtins.bindParams "max" ["key", "default"] 0 ⟨[],[(Str.ofString "default",d)]⟩ >>= _) _ _ s;rw[binds];refine wpAny_bind (wpAny_pure (wpAny_bind (wpAny_pure (wpAny_bind (wpAny_mono h (λ it s2 q=>?_) λ _ _ e=>e)))));obtain⟨I,fp,wr,n,P,St,bt,rfl,W,st,lt,hc,q0,q1⟩:=q;refine wpAny_bind (wpAny_newObj_type ?_);have out:s2.heap.objs.size∉fp:=λ z=>Nat.lt_irrefl _ (lt _ z);have keep:∀{h':Heap},(∀a o,a≠s2.heap.objs.size->a∉wr->(s2.heap.push { cls:=.type "list",data:=.seq #[] }).get? a=some o->h'.get? a=some o)->∀a o,a∉wr->s2.heap.get? a=some o->h'.get? a=some o :=
  λ k a o nw e=>k a o (Nat.ne_of_lt (Heap.lt_size e)) nw (Heap.get?_push_of_some _ e)
 rw[nm];refine wpAny_pure ⟨plainId_quiet PySem.F.plain_max_loop _,first W hc out (W.frame _ _ _ st λ a _ o e=>Heap.get?_push_of_some _ e) (Heap.get?_push_size _ rfl) (λ z h' tk k=>q0 z h' tk (keep k)) λ z v h' tk pv k=>q1 z v h' tk pv (keep k)⟩
end
end ZMx
namespace ZMx
open PySem PySem.Spec PyProof.Rows
section
variable {prog:Program}{w:World}{A:Around}{R:Result->Shared->Prop}{I S:Addr}{fp wr:List Addr}{n:Nat}{P:Nat->Value->Prop}{St:Nat->Heap->Prop}
end
end ZMx
namespace ZS
open PySem PySem.Spec PyProof.Rows L2
section
variable {X:Cx}{a c:Expr}{fa fc:Z.EF}{pos:Pos}
end
end ZS
namespace ZQ
open PySem PySem.Spec PyProof.Rows L2 ZS
section
variable {X:Cx}{a c:Expr}{fa fc:Z.EF}{pos:Pos}
end
end ZQ
namespace ZS
open PySem PySem.Spec PyProof.Rows L2
section
variable {X:Cx}{a c:Expr}{fa fc:Z.EF}{pos:Pos}
end
end ZS
namespace ZQ
open PySem PySem.Spec PyProof.Rows L2 ZS
section
variable {X:Cx}{a c:Expr}{fa fc:Z.EF}{pos:Pos}
end
end ZQ
noncomputable section
namespace Z
end Z
end
noncomputable section
namespace Z
end Z
end
namespace ZS
open PySem PySem.Spec PyProof.Rows L2 PySem.W
section
variable {X:Cx}{pins:List (Addr×Obj)}{σ:St}{H:Hp}{s:Shared}
theorem Off.nofs{C:Addr}(o:Off X pins H C)(ok:X.Ok):C∉X.fs:=λ hb=>by obtain⟨_,ob,ho,_⟩:=ok.funs.mem hb;exact absurd (Nat.lt_of_lt_of_le (Heap.lt_size ho) o.new) (Nat.lt_irrefl _)
theorem Off.up{H':Hp}{C:Addr}(o:Off X pins H C)(h:H' C=none):Off X pins H' C:=⟨h,o.loc,o.new,o.cell,o.pin⟩
theorem Off.fresh{C:Addr}(I:Inv X pins σ H s)(hC:s.heap.objs.size≤C){H':Hp}(h:H' C=none):Off X pins H' C where
 free:=h
 loc:=Nat.ne_of_gt (Nat.lt_of_lt_of_le I.lt hC)
 new:=Nat.le_trans I.sz hC
 cell:=λ x c e=>by obtain⟨v,o,ho,_⟩:=I.cell x c e;exact Nat.ne_of_lt (Nat.lt_of_lt_of_le (Heap.lt_size ho) hC)
 pin:=λ p hp=>Nat.ne_of_lt (Nat.lt_of_lt_of_le (Heap.lt_size (I.pin p hp).1) hC)
structure LamAt(X:Cx)(pins:List (Addr×Obj))(q:Str)(params:Arguments)(body:Expr)(scope:Scope)(cl:List (Str×Addr))(H:Hp)(s:Shared)(f c':Addr)(pm ctv:Value):Prop where
 off:Off X pins H f
 obj:s.heap.get? f=some (kla_obj "<lambda>" q params body scope cl pm c' ctv)
 code:H c'=some (.cod q)
end
section
variable {X:Cx}{pins:List (Addr×Obj)}{σ:St}{H:Hp}{s:Shared}{N':List Str}{is:List Nat}{scope:Scope}{body:Expr}{params:Arguments}{q:Str}{cl:List (Str×Addr)}{f c':Addr}{pm ctv:Value}{ρ:Z.Env}{fe:Z.EF}{x:Str}
end
end ZS
namespace ZS
open PySem PySem.Spec PyProof.Rows L2 PySem.W
abbrev held(b:Value)(k:Value)(c:Nat):Obj:={ cls:=.type "list",data:=.seq #[b,k] c }
structure KLp(X:Cx)(pins:List (Addr×Obj))(σ:St)(H₀:Hp)(l I S:Addr)(vs:List V)(H:Hp)(s:Shared)(j i:Nat)(kb:Int):Prop where
 inv:Inv X pins σ H s
 sm:aD H₀ H
 it:s.heap.IsListIter I l j
 offI:Off X pins H I
 offS:Off X pins H S
 best:∃b v tb c,vs[i]?=some v∧RelV v b∧s.heap.get? S=some (held b (.int kb tb) c)
section
variable {X:Cx}{pins:List (Addr×Obj)}{σ:St}{H₀ H:Hp}{s:Shared}{l I S f:Addr}{vs:List V}{j i:Nat}{kb:Int}{kw:List (Str×Value)}
structure Stay(X:Cx)(pins:List (Addr×Obj))(σ:St)(f:Addr)(St:Hp->Shared->Prop):Prop where
 off:∀H s,St H s->Off X pins H f
 un:∀H H' s s',Inv X pins σ H s->St H s->aD H H'->H' f=none->(∀o,s.heap.get? f=some o->s'.heap.get? f=some o)->St H' s'
end
section
variable {X:Cx}{pins:List (Addr×Obj)}{σ:St}{H₀:Hp}{l I S f:Addr}{vs:List V}{kw:List (Str×Value)}{St:Hp->Shared->Prop}{e:Z.D->Z.Res Int}{ds:List Z.D}{r:Z.D}{R:Result->Shared->Prop}
end
section
variable {X:Cx}{pins:List (Addr×Obj)}{σ:St}{H₀:Hp}{l I S f:Addr}{vs:List V}{kw:List (Str×Value)}{St:Hp->Shared->Prop}{e:Z.D->Z.Res Int}{ds:List Z.D}{r:Z.D}{R:Result->Shared->Prop}
end
section
variable {X:Cx}{pins:List (Addr×Obj)}{σ:St}{H₀:Hp}{l I S f:Addr}{vs:List V}{kw:List (Str×Value)}{St:Hp->Shared->Prop}{e:Z.D->Z.Res Int}{ds:List Z.D}{r:Z.D}{R:Result->Shared->Prop}
end
end ZS
namespace ZS
open PySem PySem.Spec PyProof.Rows L2 PySem.W
section
variable {X:Cx}{pins:List (Addr×Obj)}{σ:St}{H:Hp}{s:Shared}{l f:Addr}{vs:List V}{St:Hp->Shared->Prop}{e:Z.D->Z.Res Int}{ds:List Z.D}{r:Z.D}{Q:VK}
end
section
variable {X:Cx}{a body:Expr}{fa fe:Z.EF}{pos:Pos}{N':List Str}{is:List Nat}{scope:Scope}{params:Arguments}
end
section
variable {X:Cx}{pins:List (Addr×Obj)}{σ:St}{H:Hp}{s:Shared}{l f:Addr}{vs:List V}{St:Hp->Shared->Prop}{e:Z.D->Z.Res Int}{ds:List Z.D}{r:Z.D}{Q:VK}
end
section
variable {X:Cx}{a body:Expr}{fa fe:Z.EF}{pos:Pos}{N':List Str}{is:List Nat}{scope:Scope}{params:Arguments}
end
end ZS
namespace ZS
open PySem PySem.Spec PyProof.Rows L2 PySem.W
section
variable {P:Program}{w:World}{K:PySem.W.Frag}{mg:Str->Option Value}{base:Heap}
end
end ZS
namespace ZQ
open PySem PySem.Spec PyProof.Rows L2 PySem.W ZS
section
variable {X:Cx}{a body:Expr}{fa fe:Z.EF}{pos:Pos}{N':List Str}{is:List Nat}{scope:Scope}{params:Arguments}
end
end ZQ
namespace ZS
open PySem PySem.Spec PyProof.Rows L2 PySem.W
def cC(K:Frag)(n:Str)(st:Stmt):Prop:=∃(f:Addr)(od an:Option Addr)(sl:Array (Option Value))(oc kV dc pm cd ct:Value),nsIn K mainGlobals n=some (some (.ref f))∧K.lookup f=some ⟨oc,od,.func (fnOf n n (cB st) (bp st) (aj st) .none kV dc pm an cd ct),sl⟩∧codeIn K cd n=true∧keepIn K (.ref f)=true
def DefKD(K:Frag)(n:Str)(st:Stmt):Prop:=∃(f t:Addr)(od an td:Option Addr)(sl ts:Array (Option Value))(tn:Nat)(oc kV dc pm cd ct tc:Value),nsIn K mainGlobals n=some (some (.ref f))∧K.lookup f=some ⟨oc,od,.func (fnOf n n (cB st) (bp st) (aj st) (.ref t) kV dc pm an cd ct),sl⟩∧codeIn K cd n=true∧keepIn K (.ref f)=true∧K.lookup t=some ⟨tc,td,.seq #[.none] tn,ts⟩
def DefKL(K:Frag)(n:Str)(st:Stmt):Prop:=cC K n st∧∃c p,tabIn K n=some (c,p)
section
variable {K:Frag}{n:Str}{st:Stmt}{h:Heap}{mg:Str->Option Value}{ps:List Str}
theorem cC.mk'{f:Addr}{od an:Option Addr}{sl:Array (Option Value)}{oc kV dc pm cd ct:Value}(a:nsIn K mainGlobals n=some (some (.ref f)))(l:K.lookup f=some ⟨oc,od,.func (fnOf n n (cB st) (bp st) (aj st) .none kV dc pm an cd ct),sl⟩)(c:codeIn K cd n=true)(k:keepIn K (.ref f)=true):cC K n st:=⟨f,od,an,sl,oc,kV,dc,pm,cd,ct,a,l,c,k⟩
theorem DefKD.mk'{f t:Addr}{od an td:Option Addr}{sl ts:Array (Option Value)}{tn:Nat}{oc kV dc pm cd ct tc:Value}(a:nsIn K mainGlobals n=some (some (.ref f)))(l:K.lookup f=some ⟨oc,od,.func (fnOf n n (cB st) (bp st) (aj st) (.ref t) kV dc pm an cd ct),sl⟩)(c:codeIn K cd n=true)(k:keepIn K (.ref f)=true)(q:K.lookup t=some ⟨tc,td,.seq #[.none] tn,ts⟩):DefKD K n st:=⟨f,t,od,an,td,sl,ts,tn,oc,kV,dc,pm,cd,ct,tc,a,l,c,k,q⟩
theorem DefKL.mk'{f cc pp:Addr}{od an td:Option Addr}{sl ts:Array (Option Value)}{tv:Array Value}{oc kV dc pm ct to:Value}(a:nsIn K mainGlobals n=some (some (.ref f)))(l:K.lookup f=some ⟨oc,od,.func (fnOf n n (cB st) (bp st) (aj st) .none kV dc pm an (.ref cc) ct),sl⟩)(c:codeIn K (.ref cc) n=true)(k:keepIn K (.ref f)=true)(tl:K.lookup cc=some ⟨to,td,.fields tv,ts⟩)(tp:tv[11]?=some (.ref pp)):DefKL K n st:=⟨⟨f,od,an,sl,oc,kV,dc,pm,.ref cc,ct,a,l,c,k⟩,cc,pp,tab_some a l rfl tl tp⟩
theorem cC.df(d:cC K n st)(X:K.In h)(G:h.Ns mainGlobals mg)(hb:∀(kV doc pm:Value)(an:Option Addr)(bT ct:Value)(us:List Value),us.length=ps.length->bindArgs (fnOf n n (cB st) (bp st) (aj st) .none kV doc pm an bT ct) ⟨us,[]⟩=pure (ps.zip us)):Def K mg n st ps:=by obtain⟨f,od,an,sl,oc,kV,dc,pm,cd,ct,a,l,c,k⟩:=d;have F:=fun_mk (st:=st) l c k;exact⟨f,_,F,mg_of X G a,F.binds hb⟩
theorem DefKD.df(d:DefKD K n st)(X:K.In h)(G:h.Ns mainGlobals mg)
  (h1:∀(t:Addr)(kV doc pm:Value)(an:Option Addr)(bT ct:Value)(us:List Value),us.length=ps.length->∃kk:Option (Array Value)->Sem (List (Str×Value)),bindArgs (fnOf n n (cB st) (bp st) (aj st) (.ref t) kV doc pm an bT ct) ⟨us,[]⟩=seqItems? (.ref t) >>= kk∧kk (some #[.none])=pure (ps.zip us))
  (h2:∀(t:Addr)(kV doc pm:Value)(an:Option Addr)(bT ct:Value)(us:List Value),us.length+1=ps.length->∃kk:Option (Array Value)->Sem (List (Str×Value)),bindArgs (fnOf n n (cB st) (bp st) (aj st) (.ref t) kV doc pm an bT ct) ⟨us,[]⟩=seqItems? (.ref t) >>= kk∧kk (some #[.none])=pure (ps.zip (us++[.none]))):DefD K mg n st ps:=by
 obtain⟨f,t,od,an,td,sl,ts,tn,oc,kV,dc,pm,cd,ct,tc,a,l,c,k,q⟩:=d;exact defD_mk l c k q (mg_of X G a) (h1 t kV dc pm an cd ct) (h2 t kV dc pm an cd ct)
theorem cC.law(d:cC K n st)(X:K.In h)(G:h.Ns mainGlobals mg){fa:Addr}(hfa:mg n=some (.ref fa)){x:Str}(hb:∀(kV doc pm:Value)(an:Option Addr)(bT ct:Value)(s:Shared)(v:Value),BindsTo s (fnOf n n (cB st) (bp st) (aj st) .none kV doc pm an bT ct) ⟨[v],[]⟩ [(x,v)]):∃fd:FuncData,(∀(s:Shared)(v:Value),BindsTo s fd ⟨[v],[]⟩ [(x,v)])∧Fun K n n st fa fd:=by obtain⟨f,od,an,sl,oc,kV,dc,pm,cd,ct,a,l,c,k⟩:=d;have e:=hfa.symm.trans (mg_of X G a);cases e;exact⟨_,hb kV dc pm an cd ct,fun_mk (st:=st) l c k⟩
end
end ZS
namespace ZQ
open PySem PySem.Spec L2
def locB(sc:Scope)(x:Str):Bool:=match sc.names.lookup x with
 | some .local=>true
 | some .cell=>true
 | _=>false
theorem lo{sc:Scope}{x:Str}(h:locB sc x=true):Loc sc x:=by
 unfold locB at h;split at h
 ·rename_i e;exact .inl e
 ·rename_i e;exact .inr e
 ·cases h
end ZQ
namespace ZS
open PySem PySem.Spec PyProof.Rows L2
section
open PySem.SeqAt
open PySem.AutoSeq1 (wpAny_loadPart')
open PySem.MeetsSeq PySem.MeetsSeq2 PySem.MeetsSeq3
end
section
open PySem.SeqAt
open PySem.AutoSeq1 (wpAny_loadPart')
open PySem.MeetsSeq PySem.MeetsSeq2 PySem.MeetsSeq3
end
section
variable {X:Cx}
end
end ZS
namespace ZS
open PySem PySem.Spec PyProof.Rows L2 PySem.W
structure KL0(X:Cx)(pins:List (Addr×Obj))(σ:St)(H:Hp)(l I S:Addr)(s:Shared)(j:Nat)(db:Z.D):Prop where
 inv:Inv X pins σ H s
 it:s.heap.IsListIter I l j
 offI:Off X pins H I
 offS:Off X pins H S
 best:∃b v c,Den X.K H db v∧RelV v b∧s.heap.get? S=some (held b b c)
section
variable {X:Cx}{pins:List (Addr×Obj)}{σ:St}{H:Hp}{l I S:Addr}{vs:List V}{kw:List (Str×Value)}{ds:List Z.D}{r:Z.D}{R:Result->Shared->Prop}
end
section
variable {X:Cx}{a c:Expr}{fa fc:Z.EF}{pos:Pos}
end
end ZS
namespace ZQ
open PySem PySem.Spec PyProof.Rows L2 ZS
section
variable {X:Cx}{a c:Expr}{fa fc:Z.EF}{pos:Pos}
end
end ZQ
namespace ZTim
open PySem PySem.W PyProof.Rows
abbrev SM:=StateT SortSt Sem
def gal:Bool->Keyed->Array Keyed->Nat->Nat->Nat->SM (Option Nat):=sortPriv% PySem.Builtin.gallop
def galT(far:Nat→SM (Option Bool))(n l0 r0:Nat):SM (Option Nat):=do
 let mut lo:=l0
 let mut hi:=r0
 for _ in [0:n] do
  if lo≥hi then break
  let m:=lo+(hi-lo) / 2
  let some mr ←far m | return none
  if mr then lo:=m+1 else hi:=m
 return some hi
def galL(far:Nat->SM (Option Bool))(t:Bool->Bool)(d:Nat->Nat)(n mx:Nat):SM (Option (Option Nat)×Nat×Nat) :=
 forIn [0:n] ((none,0,1):Option (Option Nat)×Nat×Nat) λ _ c =>
  if c.2.2≥mx then pure (ForInStep.done (none,c.2.1,c.2.2))else do
   let z ←far (d c.2.2)
   match z with
   | some b=>if t b=true then pure (ForInStep.done (none,c.2.1,c.2.2))else pure (ForInStep.yield (none,c.2.2,2*c.2.2+1))
   | _=>pure (ForInStep.done (some none,c.2.1,c.2.2))
theorem gal_eq(lf : Bool)(ky : Keyed)(ar : Array Keyed)(b0 n h0 : Nat): gal lf ky ar b0 n h0 = (do
  let far (i:Nat):SM (Option Bool):=do
   let x ←elem' ar (b0+i)
   if lf then lt' x ky else return (←lt' ky x).map (!·)
  let mut l0:=0
  let mut of:=1
  let mut lo:=0
  let mut hi:=0
  let some rt ←far h0 | return none
  if rt then
   let mx:=n-h0
   for _ in [0:n] do
    if of≥mx then break
    let some mr ←far (h0+of) | return none
    if !mr then break
    l0:=of
    of:=2*of+1
   lo:=h0+l0+1
   hi:=h0+min of mx
  else
   let mx:=h0+1
   for _ in [0:n] do
    if of≥mx then break
    let some fd ←far (h0-of) | return none
    if fd then break
    l0:=of
    of:=2*of+1
   lo:=h0+1-min of mx
   hi:=h0-l0
  for _ in [0:n] do
   if lo≥hi then break
   let m:=lo+(hi-lo) / 2
   let some mr ←far m | return none
   if mr then lo:=m+1 else hi:=m
  return some hi):=rfl
def el(xs:Array Keyed)(i:Nat):Keyed:=xs.getD i (Value.none,Value.none)
section
variable {prog:Program}{w:World}{A:Around}{E:Value->Shared->Prop}{s:Shared}{key:Keyed->Int}{κ:SortKind}{G:Keyed->Prop}{st:SortSt}
def Cm(prog:Program)(w:World)(A:Around)(s:Shared)(key:Keyed->Int)(κ:SortKind)(G:Keyed->Prop):Prop :=
 ∀x y,G x->G y->∀Q:Bool->Shared->Prop,Q (decide (key x < key y)) s->wpAny (model prog w) A (keyLt' κ x.1 y.1) Q (λ _ _=>False) s
theorem lt_ok(C:Cm prog w A s key κ G){x y:Keyed}{Q:Option Bool->SortSt->Prop}(hk:kindOf st=κ)(gx:G x)(gy:G y)(h:Q (some (decide (key x < key y))) st):wpS (model prog w) A E s (lt' x y) Q st:=by rw[lt'_eq];refine wpS_bind (wpS_get ?_);rw[hk];refine wpS_bind (wpS_lift (wpAny_attempt (wpAny_mono (C x y gx gy (λ b s'=>b=decide (key x < key y)∧s'=s) ⟨rfl,rfl⟩) (λ b s' hb=>?_) λ _ _ hF=>hF.elim)));obtain⟨rfl,rfl⟩:=hb;exact⟨rfl,wpS_pure h⟩
theorem d!{xs:Array Keyed}{i:Nat}{Q:Keyed->SortSt->Prop}(hi:i < xs.size)(h:Q (el xs i) st):wpS (model prog w) A E s (elem' xs i) Q st:=by
 rw[elem'_eq,getElem?_pos xs i hi];have e:el xs i=xs[i]:=by simp[el,Array.getD,hi]
 rw[e]at h;exact wpS_pure h
variable {far:Nat->SM (Option Bool)}{P:Nat->Bool}{n:Nat}
theorem galT_ok{lo hi : Nat}{Q : Option Nat -> SortSt -> Prop}(hP : ∀i, i < n -> ∀Q : Option Bool -> SortSt -> Prop, Q (some (P i)) st -> wpS (model prog w) A E s (far i) Q st)(anti : ∀i j, i ≤ j -> j < n -> P j = true -> P i = true)
  (h1:lo≤hi) (h2:hi≤n) (hl:∀i,i < lo->P i=true) (hh:∀i,hi≤i->i < n->P i=false)
  (h:∀k,k≤n->(∀i,i < k->P i=true)->(∀i,k≤i->i < n->P i=false)->Q (some k) st):wpS (model prog w) A E s (galT far n lo hi) Q st:=by
 unfold galT;refine wpS_bind (wpS_mono (wpS_forRange (I:=λ x c aL=>aL=st∧∃l r,c=(none,l,r)∧l≤r∧r≤n∧r-l≤n-x∧(∀i,i < l->P i=true)∧(∀i,r≤i->i < n->P i=false))
  (Q:=λ c aL=>aL=st∧∃l r,c=(none,l,r)∧r≤n∧(∀i,i < r->P i=true)∧(∀i,r≤i->i < n->P i=false)) ?_ ?_ ⟨rfl,lo,hi,rfl,h1,h2,by lia,hl,hh⟩) ?_)
 ·rintro x c aL _ hx ⟨rfl,l,r,rfl,a1,a2,a3,a4,a5⟩;dsimp only;by_cases g:l≥r
  ·rw[if_pos g];have:l=r:=by lia
   subst this;exact wpS_pure ⟨rfl,l,l,rfl,a2,a4,a5⟩
  ·rw[if_neg g];refine wpS_bind (hP _ (by lia) _ ?_);dsimp only;cases e:P (l+(r-l) / 2)
   ·rw[if_neg (by simp)];exact wpS_pure ⟨rfl,l,_,rfl,by lia,by lia,by lia,a4,λ i b1 b2=>by
     cases c:P i
     ·rfl
     ·rw[anti _ i b1 b2 c]at e;cases e⟩
   ·rw[if_pos rfl];exact wpS_pure ⟨rfl,_,r,rfl,by lia,a2,by lia,λ i b1=>anti i _ (by lia) (by lia) e,a5⟩
 ·rintro c aL ⟨rfl,l,r,rfl,a1,a2,a3,a4,a5⟩;have:l=r:=by lia
  subst this;exact⟨rfl,l,l,rfl,a2,a4,a5⟩
 ·rintro c aL ⟨rfl,l,r,rfl,a2,a4,a5⟩;exact wpS_pure (h r a2 a4 a5)
theorem galL_up{h0 : Nat}{Q : Option (Option Nat) × Nat × Nat -> SortSt -> Prop}(hP : ∀i, i < n -> ∀Q : Option Bool -> SortSt -> Prop, Q (some (P i)) st -> wpS (model prog w) A E s (far i) Q st)(hn : h0 < n)(h00 : P h0 = true)
  (h:∀l o,l < o->l < n-h0->P (h0+l)=true->(o < n-h0->P (h0+o)=false)->Q (none,l,o) st):wpS (model prog w) A E s (galL far (λ b=>!b) (λ o=>h0+o) n (n-h0)) Q st:=by
 unfold galL;refine wpS_forRange (I:=λ x c aL=>aL=st∧∃l o,c=(none,l,o)∧l < o∧l < n-h0∧x+1≤o∧P (h0+l)=true) ?_ ?_ ⟨rfl,0,1,rfl,by lia,by lia,by lia,h00⟩
 ·rintro x c aL _ hx ⟨rfl,l,o,rfl,a1,a2,a3,a4⟩;dsimp only;by_cases g:o≥n-h0
  ·rw[if_pos g];exact wpS_pure (h l o a1 a2 a4 λ q=>by lia)
  ·rw[if_neg g];refine wpS_bind (hP _ (by lia) _ ?_);dsimp only;cases e:P (h0+o)
   ·rw[if_pos (by simp)];exact wpS_pure (h l o a1 a2 a4 λ _=>e)
   ·rw[if_neg (by simp)];exact wpS_pure ⟨rfl,o,_,rfl,by lia,by lia,by lia,e⟩
 ·rintro c aL ⟨rfl,l,o,rfl,a1,a2,a3,a4⟩;exact h l o a1 a2 a4 λ q=>by lia
theorem galL_dn{h0 : Nat}{Q : Option (Option Nat) × Nat × Nat -> SortSt -> Prop}(hP : ∀i, i < n -> ∀Q : Option Bool -> SortSt -> Prop, Q (some (P i)) st -> wpS (model prog w) A E s (far i) Q st)(hn : h0 < n)(h00 : P h0 = false)
  (h:∀l o,l < o->l < h0+1->P (h0-l)=false->(o < h0+1->P (h0-o)=true)->Q (none,l,o) st):wpS (model prog w) A E s (galL far (λ b=>b) (λ o=>h0-o) n (h0+1)) Q st:=by
 unfold galL;refine wpS_forRange (I:=λ x c aL=>aL=st∧∃l o,c=(none,l,o)∧l < o∧l < h0+1∧x+1≤o∧P (h0-l)=false) ?_ ?_ ⟨rfl,0,1,rfl,by lia,by lia,by lia,h00⟩
 ·rintro x c aL _ hx ⟨rfl,l,o,rfl,a1,a2,a3,a4⟩;dsimp only;by_cases g:o≥h0+1
  ·rw[if_pos g];exact wpS_pure (h l o a1 a2 a4 λ q=>by lia)
  ·rw[if_neg g];refine wpS_bind (hP _ (by lia) _ ?_);dsimp only;cases e:P (h0-o)
   ·rw[if_neg (by simp)];exact wpS_pure ⟨rfl,o,_,rfl,by lia,by lia,by lia,e⟩
   ·rw[if_pos (by simp)];exact wpS_pure (h l o a1 a2 a4 λ _=>e)
 ·rintro c aL ⟨rfl,l,o,rfl,a1,a2,a3,a4⟩;exact h l o a1 a2 a4 λ q=>by lia
theorem gal_ok(C:Cm prog w A s key κ G){lf:Bool}{ky:Keyed}{ar:Array Keyed}{b0 h0:Nat}{Q:Option Nat->SortSt->Prop}(hk:kindOf st=κ)(gk:G ky)(ga:∀i,i < n->G (el ar (b0+i)))(hs:b0+n≤ar.size)(hn:h0 < n)
  (hp:∀i,i < n->P i=if lf=true then decide (key (el ar (b0+i)) < key ky)else !decide (key ky < key (el ar (b0+i)))) (up:∀i j,i≤j->j < n->key (el ar (b0+i))≤key (el ar (b0+j)))
  (h:∀k,k≤n->(∀i,i < k->P i=true)->(∀i,k≤i->i < n->P i=false)->Q (some k) st):wpS (model prog w) A E s (gal lf ky ar b0 n h0) Q st:=by
 rw[gal_eq];have anti:∀i j,i≤j->j < n->P j=true->P i=true:=λ i j a b c=>by have u:=up i j a b;rw[hp i (by lia)];rw[hp j b]at c;generalize key (el ar (b0+i))=u1 at u ⊢;generalize key (el ar (b0+j))=u2 at u c;cases lf<;>simp at c ⊢<;>lia
 have hP:∀i,i < n->∀Q:Option Bool->SortSt->Prop,Q (some (P i)) st->wpS (model prog w) A E s (do
   let x ←elem' ar (b0+i)
   if lf=true then lt' x ky else return (←lt' ky x).map (!·)) Q st:=λ i hi Q q=>by
  refine wpS_bind (d! (by lia) ?_);rw[hp i hi]at q;cases lf
  ·rw[if_neg (by simp)]at q ⊢;refine wpS_bind (lt_ok C hk gk (ga i hi) (wpS_pure q))
  ·rw[if_pos rfl]at q ⊢;exact lt_ok C hk (ga i hi) gk q
 dsimp only;refine wpS_bind (hP h0 hn _ ?_);dsimp only;cases e:P h0
 ·rw[if_neg (by simp)];refine wpS_bind (wpS_mono (galL_dn hP hn e (Q:=λ c aL=>aL=st∧∃l o,c=(none,l,o)∧l < o∧l < h0+1∧P (h0-l)=false∧(o < h0+1->P (h0-o)=true)) λ l o a1 a2 a3 a4=>⟨rfl,l,o,rfl,a1,a2,a3,a4⟩) ?_);rintro c aL ⟨rfl,l,o,rfl,a1,a2,a3,a4⟩;refine galT_ok (lo:=h0+1-min o (h0+1)) (hi:=h0-l) hP anti (by lia) (by lia) (λ i hi=>?_) (λ i b1 b2=>?_) h
  ·exact anti i (h0-o) (by lia) (by lia) (a4 (by lia))
  ·cases c:P i
   ·rfl
   ·rw[anti _ i b1 b2 c]at a3;cases a3
 ·rw[if_pos rfl];refine wpS_bind (wpS_mono (galL_up hP hn e (Q:=λ c aL=>aL=st∧∃l o,c=(none,l,o)∧l < o∧l < n-h0∧P (h0+l)=true∧(o < n-h0->P (h0+o)=false)) λ l o a1 a2 a3 a4=>⟨rfl,l,o,rfl,a1,a2,a3,a4⟩) ?_);rintro c aL ⟨rfl,l,o,rfl,a1,a2,a3,a4⟩;refine galT_ok (lo:=h0+l+1) (hi:=h0+min o (n-h0)) hP anti (by lia) (by lia) (λ i hi=>anti i (h0+l) (by lia) (by lia) a3) (λ i b1 b2=>?_) h;cases c:P i
  ·rfl
  ·have:=a4 (by lia);rw[anti (h0+o) i (by lia) b2 c]at this;cases this
end
end ZTim
namespace ZTim
open PySem PySem.W PyProof.Rows
def Up(f:Keyed->Int)(l:List Keyed):Prop:=l.Pairwise λ a b=>f a≤f b
structure LI(f:Keyed->Int)(tot out rx ry:List Keyed):Prop where
 perm:(out++(rx++ry)).Perm tot
 up:Up f out
 bx:∀o∈out,∀z∈rx,f o≤f z
 bz:∀o∈out,∀z∈ry,f o≤f z
 ux:Up f rx
 uy:Up f ry
section
variable {f:Keyed->Int}{tot out rx ry xs ys:List Keyed}
theorem LI.symm(h:LI f tot out rx ry):LI f tot out ry rx:=⟨(List.perm_append_comm.append_left out).trans h.perm,h.up,h.bz,h.bx,h.uy,h.ux⟩
theorem LI.tx(h:LI f tot out (xs++rx) ry)(k:∀x∈xs,∀z∈ry,f x≤f z):LI f tot (out++xs) rx ry:=by
 obtain⟨u1,u2,u3⟩:=List.pairwise_append.mp h.ux;refine⟨by have:=h.perm;simpa[List.append_assoc]using this,List.pairwise_append.mpr ⟨h.up,u1,λ o ho z hz=>h.bx o ho z (List.mem_append_left _ hz)⟩,λ o ho z hz=>?_,λ o ho z hz=>?_,u2,h.uy⟩
 ·rcases List.mem_append.mp ho with ho | ho
  ·exact h.bx o ho z (List.mem_append_right _ hz)
  ·exact u3 o ho z hz
 ·rcases List.mem_append.mp ho with ho | ho
  ·exact h.bz o ho z hz
  ·exact k o ho z hz
theorem LI.ty(h:LI f tot out rx (ys++ry))(k:∀y∈ys,∀z∈rx,f y≤f z):LI f tot (out++ys) rx ry:=(LI.tx h.symm k).symm
theorem LI.fin(h:LI f tot out rx []):Up f (out++rx)∧(out++rx).Perm tot:=⟨List.pairwise_append.mpr ⟨h.up,h.ux,h.bx⟩,by have:=h.perm;simpa using this⟩
theorem LI.last{l:Keyed}(h:LI f tot out [l] ry)(k:∀y∈ry,f y≤f l):Up f (out++ry++[l])∧(out++ry++[l]).Perm tot :=
 LI.fin (LI.ty (ys:=ry) (ry:=[]) (by simpa using h) λ y hy z hz=>by obtain rfl:=List.mem_singleton.mp hz;exact k y hy)
end
theorem drop_el{X:Array Keyed}{i:Nat}(hi:i < X.size):X.toList.drop i=el X i :: X.toList.drop (i+1):=by
 rw[List.drop_eq_getElem_cons (by simpa using hi)]
 congr 1
 simp[el,Array.getD,hi]
theorem take_el{X:Array Keyed}{i:Nat}(hi:i < X.size):(X.toList.take (i+1)).reverse=el X i :: (X.toList.take i).reverse:=by
 rw[List.take_succ_eq_append_getElem (by simpa using hi),List.reverse_append]
 congr 1
 simp[el,Array.getD,hi]
theorem cm{X:Array Keyed}{i:Nat}{z:Keyed}(h:z∈X.toList.drop i):∃j,i≤j∧j < X.size∧z=el X j:=by
 obtain⟨j,hj,rfl⟩:=List.mem_iff_getElem.mp h;rw[List.length_drop,Array.length_toList]at hj;have:i+j < X.size:=by lia
 exact⟨i+j,by lia,this,by simp[el,Array.getD,this]⟩
theorem dU{X:Array Keyed}{i:Nat}{z:Keyed}(h:z∈X.toList.take i):∃j,j < i∧j < X.size∧z=el X j:=by
 obtain⟨j,hj,rfl⟩:=List.mem_iff_getElem.mp h;rw[List.length_take,Array.length_toList]at hj;have:j < X.size:=by lia
 exact⟨j,by lia,this,by simp[el,Array.getD,this]⟩
theorem jq(X:Array Keyed)(i:Nat):(X.extract i X.size).toList=X.toList.drop i:=by rw[Array.toList_extract,List.extract_eq_take_drop,List.take_of_length_le (by simp)]
structure MP(key:Keyed->Int)(G:Keyed->Prop)(X Y:Array Keyed):Prop where
 gx:∀i,i < X.size->G (el X i)
 gy:∀i,i < Y.size->G (el Y i)
 ux:∀i j,i≤j->j < X.size->key (el X i)≤key (el X j)
 uy:∀i j,i≤j->j < Y.size->key (el Y i)≤key (el Y j)
 last:∀i,i < Y.size->key (el Y i)≤key (el X (X.size-1))
 first:∀i,i < X.size->key (el Y 0)≤key (el X i)
 x0:0 < X.size
 y0:0 < Y.size
def Rs(key:Keyed->Int)(X Y M:Array Keyed):Prop:=Up key M.toList∧M.toList.Perm (X.toList++Y.toList)
section
variable {key:Keyed->Int}{G:Keyed->Prop}{X Y out:Array Keyed}{ia ib na nb k:Nat}
theorem up_of(h:∀i j,i≤j->j < X.size->key (el X i)≤key (el X j)):Up key X.toList:=by
 unfold Up;rw[List.pairwise_iff_getElem];intro i j hi hj hij;have:=h i j (Nat.le_of_lt hij) (by simpa using hj);have hi':i < X.size:=by simpa using hi
 have hj':j < X.size:=by simpa using hj
 simpa[el,Array.getD,hi',hj']using this
abbrev L(key:Keyed->Int)(X Y out:Array Keyed)(ia ib:Nat):Prop:=LI key (X.toList++Y.toList) out.toList (X.toList.drop ia) (Y.toList.drop ib)
theorem MP.start(p:MP key G X Y):L key X Y #[el Y 0] 0 1:=by
 have h:L key X Y #[] 0 0:=⟨by simp,List.Pairwise.nil,(λ o ho=>nomatch ho),(λ o ho=>nomatch ho),by simpa using up_of p.ux,by simpa using up_of p.uy⟩
 unfold L at h;rw[drop_el p.y0]at h;exact LI.ty (ys:=[el Y 0]) h λ y hy z hz=>by obtain rfl:=List.mem_singleton.mp hy;obtain⟨j,_,hj,rfl⟩:=cm hz;exact p.first j hj
theorem L.bs(p:MP key G X Y)(h:L key X Y out ia ib)(hk:ib+k≤Y.size)(c:∀i,i < k->key (el Y (ib+i))≤key (el X ia)):L key X Y (out++Y.extract ib (ib+k)) ia (ib+k):=by
 have e:Y.toList.drop ib=(Y.toList.drop ib).take k++Y.toList.drop (ib+k):=by rw[<-List.drop_drop,List.take_append_drop]
 unfold L at h ⊢;rw[e]at h;have:=LI.ty h λ y hy z hz=>by
  obtain⟨j,h1,h2,rfl⟩:=cm hz;obtain⟨i,hi,rfl⟩:=List.mem_iff_getElem.mp hy;have hi':i < k∧ib+i < Y.size:=by rw[List.length_take,List.length_drop,Array.length_toList]at hi;lia
  have e2:((Y.toList.drop ib).take k)[i]=el Y (ib+i):=by simp[el,Array.getD,hi'.2]
  rw[e2];exact Int.le_trans (c i hi'.1) (p.ux ia j h1 h2)
 simpa[List.take_drop]using this
theorem L.as(p:MP key G X Y)(h:L key X Y out ia ib)(hk:ia+k≤X.size)(c:∀i,i < k->key (el X (ia+i))≤key (el Y ib)):L key X Y (out++X.extract ia (ia+k)) (ia+k) ib:=by
 have e:X.toList.drop ia=(X.toList.drop ia).take k++X.toList.drop (ia+k):=by rw[<-List.drop_drop,List.take_append_drop]
 unfold L at h ⊢;rw[e]at h;have:=LI.tx h λ y hy z hz=>by
  obtain⟨j,h1,h2,rfl⟩:=cm hz;obtain⟨i,hi,rfl⟩:=List.mem_iff_getElem.mp hy;have hi':i < k∧ia+i < X.size:=by rw[List.length_take,List.length_drop,Array.length_toList]at hi;lia
  have e2:((X.toList.drop ia).take k)[i]=el X (ia+i):=by simp[el,Array.getD,hi'.2]
  rw[e2];exact Int.le_trans (c i hi'.1) (p.uy ib j h1 h2)
 simpa[List.take_drop]using this
theorem L.b(p:MP key G X Y)(h:L key X Y out ia ib)(hk:ib < Y.size)(c:key (el Y ib)≤key (el X ia)):L key X Y (out.push (el Y ib)) ia (ib+1):=by
 unfold L at h ⊢;rw[drop_el hk]at h;have:=LI.ty (ys:=[el Y ib]) h λ y hy z hz=>by obtain rfl:=List.mem_singleton.mp hy;obtain⟨j,h1,h2,rfl⟩:=cm hz;exact Int.le_trans c (p.ux ia j h1 h2)
 simpa using this
theorem L.a(p:MP key G X Y)(h:L key X Y out ia ib)(hk:ia < X.size)(c:key (el X ia)≤key (el Y ib)):L key X Y (out.push (el X ia)) (ia+1) ib:=by
 unfold L at h ⊢;rw[drop_el hk]at h;have:=LI.tx (xs:=[el X ia]) h λ y hy z hz=>by obtain rfl:=List.mem_singleton.mp hy;obtain⟨j,h1,h2,rfl⟩:=cm hz;exact Int.le_trans c (p.uy ib j h1 h2)
 simpa using this
theorem L.endB(h:L key X Y out ia Y.size):Rs key X Y (out++X.extract ia X.size++Y.extract Y.size Y.size):=by unfold L at h;rw[show Y.toList.drop Y.size=[]by simp]at h;have:=h.fin;unfold Rs;rw[Array.toList_append,Array.toList_append,jq,jq,show Y.toList.drop Y.size=[]by simp,List.append_nil];exact this
theorem L.endA(h:L key X Y out X.size ib):Rs key X Y (out++X.extract X.size X.size++Y.extract ib Y.size):=by unfold L at h;rw[show X.toList.drop X.size=[]by simp]at h;have:=h.symm.fin;unfold Rs;rw[Array.toList_append,Array.toList_append,jq,jq,show X.toList.drop X.size=[]by simp,List.append_nil];exact this
theorem L.lastA(p:MP key G X Y)(h:L key X Y out ia ib)(e:ia+1=X.size):Rs key X Y (out++Y.extract ib Y.size++X.extract ia X.size):=by
 have d:X.toList.drop ia=[el X ia]:=by rw[drop_el (by lia),e];simp
 unfold L at h;rw[d]at h;have:=h.last λ y hy=>by obtain⟨j,h1,h2,rfl⟩:=cm hy;rw[show ia=X.size-1 by lia];exact p.last j h2
 unfold Rs;rw[Array.toList_append,Array.toList_append,jq,jq,d];exact this
abbrev R(key:Keyed->Int)(X Y out:Array Keyed)(na nb:Nat):Prop:=LI (λ x=>- key x) (X.toList++Y.toList) out.toList (X.toList.take na).reverse (Y.toList.take nb).reverse
theorem dn_of(h:∀i j,i≤j->j < X.size->key (el X i)≤key (el X j)):Up (λ x=>- key x) X.toList.reverse:=by have:=up_of h;unfold Up at this ⊢;rw[List.pairwise_reverse];exact this.imp λ h=>by lia
theorem MP.startR(p:MP key G X Y):R key X Y #[el X (X.size-1)] (X.size-1) Y.size:=by
 have h:R key X Y #[] X.size Y.size:=⟨by
  have h1:(X.toList.take X.size).reverse.Perm X.toList:=by rw[List.take_of_length_le (by simp)];exact List.reverse_perm _
  have h2:(Y.toList.take Y.size).reverse.Perm Y.toList:=by rw[List.take_of_length_le (by simp)];exact List.reverse_perm _
  simpa using h1.append h2,List.Pairwise.nil,(λ o ho=>nomatch ho),(λ o ho=>nomatch ho),by rw[List.take_of_length_le (by simp)];exact dn_of p.ux,by rw[List.take_of_length_le (by simp)];exact dn_of p.uy⟩
 have x0:=p.x0;have e:=take_el (X:=X) (i:=X.size-1) (by lia);rw[show X.size-1+1=X.size by lia]at e;unfold R at h;rw[e]at h;exact LI.tx (xs:=[el X (X.size-1)]) h λ y hy z hz=>by obtain rfl:=List.mem_singleton.mp hy;obtain⟨j,_,hj,rfl⟩:=dU (List.mem_reverse.mp hz);have:=p.last j hj;show-_≤- _;lia
theorem R.a(p:MP key G X Y)(h:R key X Y out (na+1) (nb+1))(ha:na < X.size)(hb:nb < Y.size)(c:key (el Y nb)≤key (el X na)):R key X Y (out.push (el X na)) na (nb+1):=by
 unfold R at h ⊢;rw[take_el ha]at h;have:=LI.tx (xs:=[el X na]) h λ y hy z hz=>by obtain rfl:=List.mem_singleton.mp hy;obtain⟨j,h1,h2,rfl⟩:=dU (List.mem_reverse.mp hz);have:=p.uy j nb (by lia) hb;show-_≤- _;lia
 simpa using this
theorem R.b(p:MP key G X Y)(h:R key X Y out (na+1) (nb+1))(ha:na < X.size)(hb:nb < Y.size)(c:key (el X na)≤key (el Y nb)):R key X Y (out.push (el Y nb)) (na+1) nb:=by
 unfold R at h ⊢;rw[take_el hb]at h;have:=LI.ty (ys:=[el Y nb]) h λ y hy z hz=>by obtain rfl:=List.mem_singleton.mp hy;obtain⟨j,h1,h2,rfl⟩:=dU (List.mem_reverse.mp hz);have:=p.ux j na (by lia) ha;show-_≤- _;lia
 simpa using this
theorem take_split(l:List Keyed)(h:k≤na):(l.take na).reverse=((l.take na).drop k).reverse++(l.take k).reverse:=by
 rw[<-List.reverse_append]
 congr 1
 have:=List.take_append_drop k (l.take na);rw[List.take_take,Nat.min_eq_left h]at this;exact this.symm
theorem mem_mid{z:Keyed}(h:z∈((X.toList.take na).drop k).reverse):∃j,k≤j∧j < na∧j < X.size∧z=el X j:=by
 obtain⟨j,hj,rfl⟩:=List.mem_iff_getElem.mp (List.mem_reverse.mp h);rw[List.length_drop,List.length_take,Array.length_toList]at hj;have:k+j < X.size:=by lia
 exact⟨k+j,by lia,by lia,this,by simp[el,Array.getD,this]⟩
theorem ext_rev(X:Array Keyed):((X.extract k na).reverse).toList=((X.toList.take na).drop k).reverse:=by simp[List.drop_take]
theorem R.as(p:MP key G X Y)(h:R key X Y out na (nb+1))(hk:k≤na)(hb:nb < Y.size)(c:∀i,k≤i->i < na->key (el Y nb)≤key (el X i)):R key X Y (out++(X.extract k na).reverse) k (nb+1):=by
 unfold R at h ⊢;rw[take_split X.toList hk]at h;have:=LI.tx h λ y hy z hz=>by obtain⟨i,i1,i2,i3,rfl⟩:=mem_mid hy;obtain⟨j,h1,h2,rfl⟩:=dU (List.mem_reverse.mp hz);have:=p.uy j nb (by lia) hb;have:=c i i1 i2;show-_≤- _;lia
 rw[Array.toList_append,ext_rev];exact this
theorem R.bs(p:MP key G X Y)(h:R key X Y out (na+1) nb)(hk:k≤nb)(ha:na < X.size)(c:∀i,k≤i->i < nb->key (el X na)≤key (el Y i)):R key X Y (out++(Y.extract k nb).reverse) (na+1) k:=by
 unfold R at h ⊢;rw[take_split Y.toList hk]at h;have:=LI.ty h λ y hy z hz=>by obtain⟨i,i1,i2,i3,rfl⟩:=mem_mid hy;obtain⟨j,h1,h2,rfl⟩:=dU (List.mem_reverse.mp hz);have:=p.ux j na (by lia) ha;have:=c i i1 i2;show-_≤- _;lia
 rw[Array.toList_append,ext_rev];exact this
theorem rs_rev{M:Array Keyed}{l:List Keyed}(e:M.toList.reverse=l)(h:Up (λ x=>- key x) l∧l.Perm (X.toList++Y.toList)):Rs key X Y M:=by subst e;refine⟨?_,(List.reverse_perm _).symm.trans h.2⟩;have:=h.1;unfold Up at this ⊢;rw[List.pairwise_reverse]at this;exact this.imp λ h=>by lia
theorem R.endA(h:R key X Y out 0 nb):Rs key X Y (X.extract 0 0++Y.extract 0 nb++out.reverse):=by unfold R at h;rw[show(X.toList.take 0).reverse=[]by simp]at h;exact rs_rev (by simp) h.symm.fin
theorem R.endB(h:R key X Y out na 0):Rs key X Y (X.extract 0 na++Y.extract 0 0++out.reverse):=by unfold R at h;rw[show(Y.toList.take 0).reverse=[]by simp]at h;exact rs_rev (by simp) h.fin
theorem R.firstB(p:MP key G X Y)(h:R key X Y out na 1):Rs key X Y (Y.extract 0 1++X.extract 0 na++out.reverse):=by
 unfold R at h;have e:=take_el (X:=Y) (i:=0) p.y0;rw[show(Y.toList.take (0+1)).reverse=(Y.toList.take 1).reverse from rfl,show(Y.toList.take 0).reverse=[]by simp]at e;rw[e]at h;refine rs_rev ?_ (h.symm.last λ y hy=>?_)
 ·have e2:(Y.extract 0 1).toList.reverse=[el Y 0]:=by simpa using e
  simp only[Array.toList_append,List.reverse_append,Array.toList_reverse,List.reverse_reverse,e2];simp
 ·obtain⟨j,h1,h2,rfl⟩:=dU (List.mem_reverse.mp hy);have:=p.first j h2;show-_≤- _;lia
end
end ZTim
namespace ZTim
open PySem PySem.W PyProof.Rows
def setG:Nat->SM Unit:=sortPriv% PySem.Builtin.setMinGallop
theorem setG_eq(g:Nat):setG g=modify λ t=>SortSt.mk' (kindOf t) (arrOf t) (pendingOf t) g (failedOf t):=rfl
def mLo:Array Keyed->Array Keyed->SM (Array Keyed):=sortPriv% PySem.Builtin.mergeLo
theorem mLo_eq: ∃z, ∀X Y : Array Keyed, mLo X Y = (do
  rule "list.sort.merge-lo"
  let all:=X.size+Y.size
  let dn (o:Array Keyed) (i j:Nat):=o++X.extract i X.size++Y.extract j Y.size
  let la (o:Array Keyed) (i j:Nat):=o++Y.extract j Y.size++X.extract i X.size
  let mut o:Array Keyed:=#[←elem' Y 0]
  let mut i:=0
  let mut j:=1
  if j==Y.size then return dn o i j
  if i+1==X.size then return la o i j
  let mut mg:=gallopOf (←get)
  for _ in [0:all] do
   let mut ac:=0
   let mut bc:=0
   for _ in [0:all] do
    let some bw ←lt' (←elem' Y j) (←elem' X i) | return dn o i j
    if bw then
     o:=o.push (←elem' Y j);j:=j+1;bc:=bc+1;ac:=0
     if j==Y.size then return dn o i j
     if bc≥mg then break
    else
     o:=o.push (←elem' X i);i:=i+1;ac:=ac+1;bc:=0
     if i+1==X.size then return la o i j
     if ac≥mg then break
   rule "list.sort.gallop"
   mg:=mg+1
   for _ in [0:all] do
    if mg > 1 then mg:=mg-1
    setG mg
    let some k ←gal false (←elem' Y j) X i (X.size-i) 0 | return dn o i j
    ac:=k
    if k > 0 then
     o:=o++X.extract i (i+k);i:=i+k
     if i+1==X.size then return la o i j
     if i==X.size then return dn o i j
    o:=o.push (←elem' Y j);j:=j+1
    if j==Y.size then return dn o i j
    let some k ←gal true (←elem' X i) Y j (Y.size-j) 0 | return dn o i j
    bc:=k
    if k > 0 then
     o:=o++Y.extract j (j+k);j:=j+k
     if j==Y.size then return dn o i j
    o:=o.push (←elem' X i);i:=i+1
    if i+1==X.size then return la o i j
    if ac < 7&&bc < 7 then break
   mg:=mg+1
   setG mg
  unsupported z):=⟨_,fun _ _=>rfl⟩
structure Sg(st aL:SortSt):Prop where
 kind:kindOf aL=kindOf st
 arr:arrOf aL=arrOf st
 pend:pendingOf aL=pendingOf st
 fail:failedOf aL=failedOf st
theorem Sg.rfl{st:SortSt}:Sg st st:=⟨_root_.rfl,_root_.rfl,_root_.rfl,_root_.rfl⟩
theorem Sg.set{st aL:SortSt}(h:Sg st aL)(g:Nat):Sg st (SortSt.mk' (kindOf aL) (arrOf aL) (pendingOf aL) g (failedOf aL)):=⟨h.kind,h.arr,h.pend,h.fail⟩
abbrev Ty:=Option (Array Keyed)×Array Keyed×Nat×Nat×Nat×Nat×Nat
def tA(X Y o:Array Keyed)(i j mg ac bc:Nat):SM (ForInStep Ty):=do
 let x ←elem' X i
 if i+1+1==X.size then return ForInStep.done (some (o.push x++Y.extract j Y.size++X.extract (i+1) X.size),o.push x,i+1,j,mg,ac,bc)
 if ac < 7&&bc < 7 then return ForInStep.done (none,o.push x,i+1,j,mg,ac,bc)
 return ForInStep.yield (none,o.push x,i+1,j,mg,ac,bc)
def tB(X Y o:Array Keyed)(i j mg ac bc:Nat):SM (ForInStep Ty):=do
 let y ←elem' Y j
 if j+1==Y.size then return ForInStep.done (some (o.push y++X.extract i X.size++Y.extract (j+1) Y.size),o.push y,i,j+1,mg,ac,bc)
 let some k ←gal true (←elem' X i) Y (j+1) (Y.size-(j+1)) 0 | return ForInStep.done (some (o.push y++X.extract i X.size++Y.extract (j+1) Y.size),o.push y,i,j+1,mg,ac,bc)
 if k > 0 then
  if j+1+k==Y.size then return ForInStep.done (some (o.push y++Y.extract (j+1) (j+1+k)++X.extract i X.size++Y.extract (j+1+k) Y.size),o.push y++Y.extract (j+1) (j+1+k),i,j+1+k,mg,ac,k)
  tA X Y (o.push y++Y.extract (j+1) (j+1+k)) i (j+1+k) mg ac k
 else tA X Y (o.push y) i (j+1) mg ac k
def tC(X Y o:Array Keyed)(i j mg ac bc:Nat):SM (ForInStep Ty):=do
 setG mg
 let some k ←gal false (←elem' Y j) X i (X.size-i) 0 | return ForInStep.done (some (o++X.extract i X.size++Y.extract j Y.size),o,i,j,mg,ac,bc)
 if k > 0 then
  if i+k+1==X.size then return ForInStep.done (some (o++X.extract i (i+k)++Y.extract j Y.size++X.extract (i+k) X.size),o++X.extract i (i+k),i+k,j,mg,k,bc)
  if i+k==X.size then return ForInStep.done (some (o++X.extract i (i+k)++X.extract (i+k) X.size++Y.extract j Y.size),o++X.extract i (i+k),i+k,j,mg,k,bc)
  tB X Y (o++X.extract i (i+k)) (i+k) j mg k bc
 else tB X Y o i j mg k bc
def IL(key:Keyed->Int)(X Y:Array Keyed)(n:Nat)(st:SortSt)(c:Ty)(cH:SortSt):Prop:=Sg st cH∧∃o i j mg ac bc,c=(none,o,i,j,mg,ac,bc)∧L key X Y o i j∧i+1 < X.size∧j < Y.size∧n≤i+j
def QL(key:Keyed->Int)(X Y:Array Keyed)(n:Nat)(st:SortSt)(c:Ty)(cH:SortSt):Prop:=(Sg st cH∧∃M r,c=(some M,r)∧Rs key X Y M)∨IL key X Y n st c cH
def Ps(key:Keyed->Int)(X Y:Array Keyed)(n:Nat)(st:SortSt)(r:ForInStep Ty)(cH:SortSt):Prop:=match r with
 | .done c=>QL key X Y n st c cH
 | .yield c=>IL key X Y n st c cH
section
variable {prog:Program}{w:World}{A:Around}{E:Value->Shared->Prop}{s:Shared}{key:Keyed->Int}{κ:SortKind}{G:Keyed->Prop}{st:SortSt}{X Y:Array Keyed}
theorem setG_ok{g:Nat}{Q:Unit->SortSt->Prop}(h:Q () (SortSt.mk' (kindOf st) (arrOf st) (pendingOf st) g (failedOf st))):wpS (model prog w) A E s (setG g) Q st:=by rw[setG_eq];exact wpS_modify h
theorem galX(C:Cm prog w A s key κ G)(p:MP key G X Y){i j n:Nat}{Q:Option Nat->SortSt->Prop}(hk:kindOf st=κ)(hi:i < X.size)(hj:j < Y.size)(h:∀k,i+k≤X.size->(∀t,t < k->key (el X (i+t))≤key (el Y j))->(∀t,k≤t->i+t < X.size->key (el Y j)≤key (el X (i+t)))->Q (some k) st):
  wpS (model prog w) A E s (gal false (el Y j) X i (X.size-i) 0) Q st :=
 gal_ok (P:=λ t=>!decide (key (el Y j) < key (el X (i+t)))) C hk (p.gy j hj) (λ t ht=>p.gx _ (by lia)) (by lia) (by lia) (λ t ht=>by rw[if_neg (by simp)]) (λ a b c d=>p.ux _ _ (by lia) (by lia)) λ k h1 h2 h3 =>h k (by lia) (λ t ht=>by have:=h2 t ht;simp at this;exact this) λ t h4 h5=>by have:=h3 t h4 (by lia);simp at this;exact Int.le_of_lt this
theorem galY(C:Cm prog w A s key κ G)(p:MP key G X Y){i j n:Nat}{Q:Option Nat->SortSt->Prop}(hk:kindOf st=κ)(hi:i < X.size)(hj:j < Y.size)(h:∀k,j+k≤Y.size->(∀t,t < k->key (el Y (j+t))≤key (el X i))->(∀t,k≤t->j+t < Y.size->key (el X i)≤key (el Y (j+t)))->Q (some k) st):
  wpS (model prog w) A E s (gal true (el X i) Y j (Y.size-j) 0) Q st :=
 gal_ok (P:=λ t=>decide (key (el Y (j+t)) < key (el X i))) C hk (p.gx i hi) (λ t ht=>p.gy _ (by lia)) (by lia) (by lia) (λ t ht=>by rw[if_pos rfl]) (λ a b c d=>p.uy _ _ (by lia) (by lia)) λ k h1 h2 h3 =>h k (by lia) (λ t ht=>by have:=h2 t ht;simp at this;exact Int.le_of_lt this) λ t h4 h5=>by have:=h3 t h4 (by lia);simp at this;exact this
theorem tA_ok(p:MP key G X Y){cH:SortSt}{o:Array Keyed}{i j mg ac bc n:Nat}(sg:Sg st cH)(l:L key X Y o i j)(a1:i+1 < X.size)(a2:j < Y.size)(c:key (el X i)≤key (el Y j))(hn:n≤i+j):wpS (model prog w) A E s (tA X Y o i j mg ac bc) (Ps key X Y n st) cH:=by
 refine wpS_bind (d! (by lia) ?_);have l1:=l.a p (by lia) c;by_cases e:(i+1+1==X.size)=true
 ·rw[if_pos e];exact wpS_pure (.inl ⟨sg,_,_,rfl,l1.lastA p (by simpa using e)⟩)
 ·rw[if_neg e];have e':i+1+1≠X.size:=by simpa using e
  split
  ·exact wpS_pure (.inr ⟨sg,_,_,_,_,_,_,rfl,l1,by lia,a2,by lia⟩)
  ·exact wpS_pure ⟨sg,_,_,_,_,_,_,rfl,l1,by lia,a2,by lia⟩
theorem tB_ok(C:Cm prog w A s key κ G)(p:MP key G X Y)(hk:kindOf st=κ){cH:SortSt}{o:Array Keyed}{i j mg ac bc n:Nat}(sg:Sg st cH)(l:L key X Y o i j)(a1:i+1 < X.size)(a2:j < Y.size)(c:key (el Y j)≤key (el X i))(hn:n≤i+j):wpS (model prog w) A E s (tB X Y o i j mg ac bc) (Ps key X Y n st) cH:=by
 refine wpS_bind (d! a2 ?_);have l1:=l.b p a2 c;by_cases e:(j+1==Y.size)=true
 ·rw[if_pos e];have e':j+1=Y.size:=by simpa using e
  rw[e']at l1;exact wpS_pure (.inl ⟨sg,_,_,rfl,by rw[e'];exact l1.endB⟩)
 rw[if_neg e];have e':j+1≠Y.size:=by simpa using e
 refine wpS_bind (d! (by lia) (wpS_bind (galY C p (n:=n) (sg.kind.trans hk) (by lia) (by lia) λ k b1 b2 b3=>?_)));dsimp only;by_cases k0:k > 0
 ·rw[if_pos k0];have l2:=l1.bs p b1 b2;by_cases e2:(j+1+k==Y.size)=true
  ·rw[if_pos e2];have e3:j+1+k=Y.size:=by simpa using e2
   rw[e3]at l2;exact wpS_pure (.inl ⟨sg,_,_,rfl,by rw[e3];exact l2.endB⟩)
  ·rw[if_neg e2];have e3:j+1+k≠Y.size:=by simpa using e2
   exact tA_ok p sg l2 a1 (by lia) (b3 k (Nat.le_refl _) (by lia)) (by lia)
 ·rw[if_neg k0];have:k=0:=by lia
  subst this;exact tA_ok p sg l1 a1 (by lia) (b3 0 (Nat.le_refl _) (by lia)) (by lia)
theorem tC_ok(C:Cm prog w A s key κ G)(p:MP key G X Y)(hk:kindOf st=κ){cH:SortSt}{o:Array Keyed}{i j mg ac bc n:Nat}(sg:Sg st cH)(l:L key X Y o i j)(a1:i+1 < X.size)(a2:j < Y.size)(hn:n≤i+j):wpS (model prog w) A E s (tC X Y o i j mg ac bc) (Ps key X Y n st) cH:=by
 refine wpS_bind (setG_ok ?_);have sg:=sg.set mg;refine wpS_bind (d! a2 (wpS_bind (galX C p (n:=n) (sg.kind.trans hk) (by lia) a2 λ k b1 b2 b3=>?_)));dsimp only;by_cases k0:k > 0
 ·rw[if_pos k0];have l2:=l.as p b1 b2;by_cases e2:(i+k+1==X.size)=true
  ·rw[if_pos e2];exact wpS_pure (.inl ⟨sg,_,_,rfl,l2.lastA p (by simpa using e2)⟩)
  rw[if_neg e2];by_cases e3:(i+k==X.size)=true
  ·rw[if_pos e3];have e4:i+k=X.size:=by simpa using e3
   rw[e4]at l2;exact wpS_pure (.inl ⟨sg,_,_,rfl,by rw[e4];exact l2.endA⟩)
  rw[if_neg e3];have e2':i+k+1≠X.size:=by simpa using e2
  have e3':i+k≠X.size:=by simpa using e3
  exact tB_ok C p hk sg l2 (by lia) a2 (b3 k (Nat.le_refl _) (by lia)) (by lia)
 ·rw[if_neg k0];have:k=0:=by lia
  subst this;exact tB_ok C p hk sg l a1 a2 (b3 0 (Nat.le_refl _) (by lia)) (by lia)
theorem mLo_ok(C:Cm prog w A s key κ G)(p:MP key G X Y){Q:Array Keyed->SortSt->Prop}(hk:kindOf st=κ)(h:∀M aL,Sg st aL->Rs key X Y M->Q M aL):wpS (model prog w) A E s (mLo X Y) Q st:=by
 have x0:=p.x0;have y0:=p.y0;obtain⟨z,ez⟩:=mLo_eq;rw[ez];refine wpS_bind (wpS_lift (wpAny_rule ⟨rfl,?_⟩));refine wpS_bind (d! y0 ?_);have l0:=p.start;dsimp only;by_cases c1:(1==Y.size)=true
 ·rw[if_pos c1];have e:1=Y.size:=by simpa using c1
  rw[e]at l0 ⊢;exact wpS_pure (h _ _ .rfl l0.endB)
 rw[if_neg c1];by_cases c2:(0+1==X.size)=true
 ·rw[if_pos c2];exact wpS_pure (h _ _ .rfl (l0.lastA p (by simpa using c2)))
 rw[if_neg c2];have c1':1≠Y.size:=by simpa using c1
 have c2':1≠X.size:=by simpa using c2
 refine wpS_bind (wpS_get ?_);refine wpS_bind (wpS_mono (wpS_forRange (I:=λ x c aL=>Sg st aL∧∃o i j mg,c=(none,o,i,j,mg)∧L key X Y o i j∧i+1 < X.size∧j < Y.size∧x+1≤i+j)
  (Q:=λ c aL=>Sg st aL∧∃M r,c=(some M,r)∧Rs key X Y M) ?_ ?_ ⟨.rfl,_,_,_,_,rfl,l0,by lia,by lia,by lia⟩) ?_)
 rotate_left
 ·rintro c aL ⟨_,o,i,j,mg,rfl,_,a1,a2,a3⟩;exfalso;lia
 ·rintro c aL ⟨g,M,r,rfl,hM⟩;exact wpS_pure (h M aL g hM)
 rintro x c aL _ hx ⟨sg,o,i,j,mg,rfl,l,a1,a2,a3⟩;dsimp only;have all0:0 < X.size+Y.size:=by lia
 refine wpS_bind (wpS_mono (wpS_forRange (I:=λ y c lx=>lx=aL∧∃o i j ac bc,c=(none,o,i,j,ac,bc)∧L key X Y o i j∧i+1 < X.size∧j < Y.size∧x+y+1≤i+j)
  (Q:=λ c lx=>lx=aL∧((∃M r,c=(some M,r)∧Rs key X Y M)∨∃o i j ac bc,c=(none,o,i,j,ac,bc)∧L key X Y o i j∧i+1 < X.size∧j < Y.size∧x+2≤i+j)) ?_ ?_ ⟨rfl,o,i,j,0,0,rfl,l,a1,a2,by lia⟩) ?_)
 ·rintro y c lx _ hy ⟨rfl,o,i,j,ac,bc,rfl,l,a1,a2,a3⟩;dsimp only;refine wpS_bind (d! a2 (wpS_bind (d! (by lia) (wpS_bind (lt_ok C (sg.kind.trans hk) (p.gy j a2) (p.gx i (by lia)) ?_)))));dsimp only;by_cases d:key (el Y j) < key (el X i)
  ·rw[if_pos (by simpa using d)];refine wpS_bind (d! a2 ?_);have l1:=l.b p a2 (Int.le_of_lt d);by_cases e:(j+1==Y.size)=true
   ·rw[if_pos e];have e':j+1=Y.size:=by simpa using e
    rw[e']at l1;exact wpS_pure ⟨rfl,.inl ⟨_,_,rfl,by rw[e'];exact l1.endB⟩⟩
   ·rw[if_neg e];have e':j+1≠Y.size:=by simpa using e
    split
    ·exact wpS_pure ⟨rfl,.inr ⟨_,_,_,_,_,rfl,l1,a1,by lia,by lia⟩⟩
    ·exact wpS_pure ⟨rfl,_,_,_,_,_,rfl,l1,a1,by lia,by lia⟩
  ·rw[if_neg (by simpa using d)];refine wpS_bind (d! (by lia) ?_);have l1:=l.a p (by lia) (Int.not_lt.mp d);by_cases e:(i+1+1==X.size)=true
   ·rw[if_pos e];exact wpS_pure ⟨rfl,.inl ⟨_,_,rfl,l1.lastA p (by simpa using e)⟩⟩
   ·rw[if_neg e];have e':i+1+1≠X.size:=by simpa using e
    split
    ·exact wpS_pure ⟨rfl,.inr ⟨_,_,_,_,_,rfl,l1,by lia,a2,by lia⟩⟩
    ·exact wpS_pure ⟨rfl,_,_,_,_,_,rfl,l1,by lia,a2,by lia⟩
 ·rintro c lx ⟨rfl,o,i,j,ac,bc,rfl,l,a1,a2,a3⟩;exact⟨rfl,.inr ⟨_,_,_,_,_,rfl,l,a1,a2,by lia⟩⟩
 rintro c lx ⟨rfl,⟨M,r,rfl,hM⟩ | ⟨o,i,j,ac,bc,rfl,l,a1,a2,a3⟩⟩
 ·exact wpS_pure ⟨sg,M,_,rfl,hM⟩
 dsimp only;refine wpS_bind (wpS_lift (wpAny_rule ⟨rfl,?_⟩));refine wpS_bind (wpS_mono (wpS_forRange (I:=λ _=>IL key X Y (x+2) st) (Q:=QL key X Y (x+2) st) ?_ (λ c cH h=>.inr h) ⟨sg,o,i,j,_,ac,bc,rfl,l,a1,a2,a3⟩) ?_)
 ·rintro y c cH _ hy ⟨sg2,o,i,j,mg,ac,bc,rfl,l,a1,a2,a3⟩;refine wpS_mono (Q:=Ps key X Y (x+2) st) ?_ λ r lu h=>by cases r<;>exact h
  show wpS _ _ _ _ (if mg > 1 then tC X Y o i j (mg-1) ac bc else tC X Y o i j mg ac bc) _ _;by_cases g:mg > 1
  ·rw[if_pos g];exact tC_ok C p hk sg2 l a1 a2 a3
  ·rw[if_neg g];exact tC_ok C p hk sg2 l a1 a2 a3
 ·rintro c cH (⟨sg2,M,r,rfl,hM⟩ | ⟨sg2,o,i,j,mg,ac,bc,rfl,l,a1,a2,a3⟩)
  ·exact wpS_pure ⟨sg2,M,_,rfl,hM⟩
  ·exact wpS_bind (setG_ok (wpS_pure ⟨sg2.set _,_,_,_,_,rfl,l,a1,a2,by lia⟩))
end
end ZTim
namespace ZTim
open PySem PySem.W PyProof.Rows
def mHi:Array Keyed->Array Keyed->SM (Array Keyed):=sortPriv% PySem.Builtin.mergeHi
theorem mHi_eq: ∃z, ∀X Y : Array Keyed, mHi X Y = (do
  rule "list.sort.merge-hi"
  let all:=X.size+Y.size
  let dn (o:Array Keyed) (i j:Nat):=X.extract 0 i++Y.extract 0 j++o.reverse
  let fb (o:Array Keyed) (i j:Nat):=Y.extract 0 j++X.extract 0 i++o.reverse
  let mut i:=X.size-1
  let mut j:=Y.size
  let mut o:Array Keyed:=#[←elem' X i]
  if i==0 then return dn o i j
  if j==1 then return fb o i j
  let mut mg:=gallopOf (←get)
  for _ in [0:all] do
   let mut ac:=0
   let mut bc:=0
   for _ in [0:all] do
    let some aw ←lt' (←elem' Y (j-1)) (←elem' X (i-1)) | return dn o i j
    if aw then
     i:=i-1;o:=o.push (←elem' X i);ac:=ac+1;bc:=0
     if i==0 then return dn o i j
     if ac≥mg then break
    else
     j:=j-1;o:=o.push (←elem' Y j);bc:=bc+1;ac:=0
     if j==1 then return fb o i j
     if bc≥mg then break
   rule "list.sort.gallop"
   mg:=mg+1
   for _ in [0:all] do
    if mg > 1 then mg:=mg-1
    setG mg
    let some t ←gal false (←elem' Y (j-1)) X 0 i (i-1) | return dn o i j
    let k:=i-t
    ac:=k
    if k > 0 then
     o:=o++(X.extract t i).reverse;i:=t
     if i==0 then return dn o i j
    j:=j-1;o:=o.push (←elem' Y j)
    if j==1 then return fb o i j
    let some t ←gal true (←elem' X (i-1)) Y 0 j (j-1) | return dn o i j
    let k:=j-t
    bc:=k
    if k > 0 then
     o:=o++(Y.extract t j).reverse;j:=t
     if j==1 then return fb o i j
     if j==0 then return dn o i j
    i:=i-1;o:=o.push (←elem' X i)
    if i==0 then return dn o i j
    if ac < 7&&bc < 7 then break
   mg:=mg+1
   setG mg
  unsupported z):=⟨_,fun _ _=>rfl⟩
abbrev Tz:=Option (Array Keyed)×Nat×Nat×Array Keyed×Nat×Nat×Nat
def uA(X Y o:Array Keyed)(i j mg ac bc:Nat):SM (ForInStep Tz):=do
 let x ←elem' X (i-1)
 if i-1==0 then return ForInStep.done (some (X.extract 0 (i-1)++Y.extract 0 j++(o.push x).reverse),i-1,j,o.push x,mg,ac,bc)
 if ac < 7&&bc < 7 then return ForInStep.done (none,i-1,j,o.push x,mg,ac,bc)
 return ForInStep.yield (none,i-1,j,o.push x,mg,ac,bc)
def uB(X Y o:Array Keyed)(i j mg ac bc:Nat):SM (ForInStep Tz):=do
 let y ←elem' Y (j-1)
 if j-1==1 then return ForInStep.done (some (Y.extract 0 (j-1)++X.extract 0 i++(o.push y).reverse),i,j-1,o.push y,mg,ac,bc)
 let some t ←gal true (←elem' X (i-1)) Y 0 (j-1) (j-1-1) | return ForInStep.done (some (X.extract 0 i++Y.extract 0 (j-1)++(o.push y).reverse),i,j-1,o.push y,mg,ac,bc)
 if j-1-t > 0 then
  if t==1 then return ForInStep.done (some (Y.extract 0 t++X.extract 0 i++(o.push y++(Y.extract t (j-1)).reverse).reverse),i,t,o.push y++(Y.extract t (j-1)).reverse,mg,ac,j-1-t)
  if t==0 then return ForInStep.done (some (X.extract 0 i++Y.extract 0 t++(o.push y++(Y.extract t (j-1)).reverse).reverse),i,t,o.push y++(Y.extract t (j-1)).reverse,mg,ac,j-1-t)
  uA X Y (o.push y++(Y.extract t (j-1)).reverse) i t mg ac (j-1-t)
 else uA X Y (o.push y) i (j-1) mg ac (j-1-t)
def uC(X Y o:Array Keyed)(i j mg ac bc:Nat):SM (ForInStep Tz):=do
 setG mg
 let some t ←gal false (←elem' Y (j-1)) X 0 i (i-1) | return ForInStep.done (some (X.extract 0 i++Y.extract 0 j++o.reverse),i,j,o,mg,ac,bc)
 if i-t > 0 then
  if t==0 then return ForInStep.done (some (X.extract 0 t++Y.extract 0 j++(o++(X.extract t i).reverse).reverse),t,j,o++(X.extract t i).reverse,mg,i-t,bc)
  uB X Y (o++(X.extract t i).reverse) t j mg (i-t) bc
 else uB X Y o i j mg (i-t) bc
def IR(key:Keyed->Int)(X Y:Array Keyed)(n:Nat)(st:SortSt)(c:Tz)(cH:SortSt):Prop:=Sg st cH∧∃o i j mg ac bc,c=(none,i,j,o,mg,ac,bc)∧R key X Y o i j∧0 < i∧i≤X.size∧1 < j∧j≤Y.size∧n+i+j≤X.size+Y.size
def QR(key:Keyed->Int)(X Y:Array Keyed)(n:Nat)(st:SortSt)(c:Tz)(cH:SortSt):Prop:=(Sg st cH∧∃M r,c=(some M,r)∧Rs key X Y M)∨IR key X Y n st c cH
def Pr(key:Keyed->Int)(X Y:Array Keyed)(n:Nat)(st:SortSt)(r:ForInStep Tz)(cH:SortSt):Prop:=match r with
 | .done c=>QR key X Y n st c cH
 | .yield c=>IR key X Y n st c cH
section
variable {prog:Program}{w:World}{A:Around}{E:Value->Shared->Prop}{s:Shared}{key:Keyed->Int}{κ:SortKind}{G:Keyed->Prop}{st:SortSt}{X Y o:Array Keyed}
theorem R.a1(p:MP key G X Y){i j:Nat}(h:R key X Y o i j)(i0:0 < i)(i1:i≤X.size)(j0:0 < j)(j1:j≤Y.size)(c:key (el Y (j-1))≤key (el X (i-1))):R key X Y (o.push (el X (i-1))) (i-1) j:=by
 obtain⟨a,rfl⟩:∃a,i=a+1:=⟨i-1,by lia⟩
 obtain⟨b,rfl⟩:∃b,j=b+1:=⟨j-1,by lia⟩
 exact R.a p h i1 j1 c
theorem R.b1(p:MP key G X Y){i j:Nat}(h:R key X Y o i j)(i0:0 < i)(i1:i≤X.size)(j0:0 < j)(j1:j≤Y.size)(c:key (el X (i-1))≤key (el Y (j-1))):R key X Y (o.push (el Y (j-1))) i (j-1):=by
 obtain⟨a,rfl⟩:∃a,i=a+1:=⟨i-1,by lia⟩
 obtain⟨b,rfl⟩:∃b,j=b+1:=⟨j-1,by lia⟩
 exact R.b p h i1 j1 c
theorem R.as1(p:MP key G X Y){i j t:Nat}(h:R key X Y o i j)(ht:t≤i)(j0:0 < j)(j1:j≤Y.size)(c:∀a,t≤a->a < i->key (el Y (j-1))≤key (el X a)):R key X Y (o++(X.extract t i).reverse) t j:=by
 obtain⟨b,rfl⟩:∃b,j=b+1:=⟨j-1,by lia⟩
 exact R.as p h ht j1 c
theorem R.bs1(p:MP key G X Y){i j t:Nat}(h:R key X Y o i j)(ht:t≤j)(i0:0 < i)(i1:i≤X.size)(c:∀a,t≤a->a < j->key (el X (i-1))≤key (el Y a)):R key X Y (o++(Y.extract t j).reverse) i t:=by
 obtain⟨b,rfl⟩:∃b,i=b+1:=⟨i-1,by lia⟩
 exact R.bs p h ht i1 c
theorem galX1(C:Cm prog w A s key κ G)(p:MP key G X Y){i j:Nat}{Q:Option Nat->SortSt->Prop}(hk:kindOf st=κ)(i0:0 < i)(hi:i≤X.size)(hj:j < Y.size)(h:∀k,k≤i->(∀t,t < k->key (el X t)≤key (el Y j))->(∀t,k≤t->t < i->key (el Y j)≤key (el X t))->Q (some k) st):
  wpS (model prog w) A E s (gal false (el Y j) X 0 i (i-1)) Q st :=
 gal_ok (P:=λ t=>!decide (key (el Y j) < key (el X (0+t)))) C hk (p.gy j hj) (λ t ht=>p.gx _ (by lia)) (by lia) (by lia) (λ t ht=>by rw[if_neg (by simp)]) (λ a b c d=>p.ux _ _ (by lia) (by lia)) λ k h1 h2 h3 =>h k (by lia) (λ t ht=>by have:=h2 t ht;simp at this;exact this) λ t h4 h5=>by have:=h3 t h4 (by lia);simp at this;exact Int.le_of_lt this
theorem galY1(C:Cm prog w A s key κ G)(p:MP key G X Y){i j:Nat}{Q:Option Nat->SortSt->Prop}(hk:kindOf st=κ)(hi:i < X.size)(j0:0 < j)(hj:j≤Y.size)(h:∀k,k≤j->(∀t,t < k->key (el Y t)≤key (el X i))->(∀t,k≤t->t < j->key (el X i)≤key (el Y t))->Q (some k) st):
  wpS (model prog w) A E s (gal true (el X i) Y 0 j (j-1)) Q st :=
 gal_ok (P:=λ t=>decide (key (el Y (0+t)) < key (el X i))) C hk (p.gx i hi) (λ t ht=>p.gy _ (by lia)) (by lia) (by lia) (λ t ht=>by rw[if_pos rfl]) (λ a b c d=>p.uy _ _ (by lia) (by lia)) λ k h1 h2 h3 =>h k (by lia) (λ t ht=>by have:=h2 t ht;simp at this;exact Int.le_of_lt this) λ t h4 h5=>by have:=h3 t h4 (by lia);simp at this;exact this
theorem uA_ok(p:MP key G X Y){cH:SortSt}{i j mg ac bc n:Nat}(sg:Sg st cH)(l:R key X Y o i j)(i0:0 < i)(i1:i≤X.size)(j0:1 < j)(j1:j≤Y.size)(c:key (el Y (j-1))≤key (el X (i-1)))(hn:n+i+j≤X.size+Y.size):wpS (model prog w) A E s (uA X Y o i j mg ac bc) (Pr key X Y n st) cH:=by
 refine wpS_bind (d! (by lia) ?_);have l1:=l.a1 p i0 i1 (by lia) j1 c;by_cases e:(i-1==0)=true
 ·rw[if_pos e];have e':i-1=0:=by simpa using e
  rw[e']at l1;exact wpS_pure (.inl ⟨sg,_,_,rfl,by rw[e'];exact l1.endA⟩)
 ·rw[if_neg e];have e':i-1≠0:=λ z=>e (by rw[z];rfl);split
  ·exact wpS_pure (.inr ⟨sg,_,_,_,_,_,_,rfl,l1,by lia,by lia,j0,j1,by lia⟩)
  ·exact wpS_pure ⟨sg,_,_,_,_,_,_,rfl,l1,by lia,by lia,j0,j1,by lia⟩
theorem uB_ok(C:Cm prog w A s key κ G)(p:MP key G X Y)(hk:kindOf st=κ){cH:SortSt}{i j mg ac bc n:Nat}(sg:Sg st cH)(l:R key X Y o i j)(i0:0 < i)(i1:i≤X.size)(j0:1 < j)(j1:j≤Y.size)(c:key (el X (i-1))≤key (el Y (j-1)))(hn:n+i+j≤X.size+Y.size):wpS (model prog w) A E s (uB X Y o i j mg ac bc) (Pr key X Y n st) cH:=by
 refine wpS_bind (d! (by lia) ?_);have l1:=l.b1 p i0 i1 (by lia) j1 c;by_cases e:(j-1==1)=true
 ·rw[if_pos e];have e':j-1=1:=by simpa using e
  rw[e']at l1;exact wpS_pure (.inl ⟨sg,_,_,rfl,by rw[e'];exact l1.firstB p⟩)
 rw[if_neg e];have e':j-1≠1:=λ z=>e (by rw[z];rfl);refine wpS_bind (d! (by lia) (wpS_bind (galY1 C p (sg.kind.trans hk) (by lia) (by lia) (by lia) λ t b1 b2 b3=>?_)));dsimp only;by_cases k0:j-1-t > 0
 ·rw[if_pos k0];have l2:=l1.bs1 p b1 i0 i1 b3;by_cases e2:(t==1)=true
  ·rw[if_pos e2];have e3:t=1:=by simpa using e2
   subst e3;exact wpS_pure (.inl ⟨sg,_,_,rfl,l2.firstB p⟩)
  rw[if_neg e2];have e3:t≠1:=λ z=>e2 (by rw[z];rfl);by_cases e4:(t==0)=true
  ·rw[if_pos e4];have e5:t=0:=by simpa using e4
   subst e5;exact wpS_pure (.inl ⟨sg,_,_,rfl,l2.endB⟩)
  rw[if_neg e4];have e5:t≠0:=λ z=>e4 (by rw[z];rfl);exact uA_ok p sg l2 i0 i1 (by lia) (by lia) (b2 (t-1) (by lia)) (by lia)
 ·rw[if_neg k0];have:t=j-1:=by lia
  subst this;exact uA_ok p sg l1 i0 i1 (by lia) (by lia) (b2 (j-1-1) (by lia)) (by lia)
theorem uC_ok(C:Cm prog w A s key κ G)(p:MP key G X Y)(hk:kindOf st=κ){cH:SortSt}{i j mg ac bc n:Nat}(sg:Sg st cH)(l:R key X Y o i j)(i0:0 < i)(i1:i≤X.size)(j0:1 < j)(j1:j≤Y.size)(hn:n+i+j≤X.size+Y.size):wpS (model prog w) A E s (uC X Y o i j mg ac bc) (Pr key X Y n st) cH:=by
 refine wpS_bind (setG_ok ?_);have sg:=sg.set mg;refine wpS_bind (d! (by lia) (wpS_bind (galX1 C p (sg.kind.trans hk) i0 i1 (by lia) λ t b1 b2 b3=>?_)));dsimp only;by_cases k0:i-t > 0
 ·rw[if_pos k0];have l2:=l.as1 p b1 (by lia) j1 b3;by_cases e4:(t==0)=true
  ·rw[if_pos e4];have e5:t=0:=by simpa using e4
   subst e5;exact wpS_pure (.inl ⟨sg,_,_,rfl,l2.endA⟩)
  rw[if_neg e4];have e5:t≠0:=λ z=>e4 (by rw[z];rfl);exact uB_ok C p hk sg l2 (by lia) (by lia) j0 j1 (b2 (t-1) (by lia)) (by lia)
 ·rw[if_neg k0];have:t=i:=by lia
  subst this;exact uB_ok C p hk sg l i0 i1 j0 j1 (b2 (t-1) (by lia)) hn
theorem mHi_ok(C:Cm prog w A s key κ G)(p:MP key G X Y){Q:Array Keyed->SortSt->Prop}(hk:kindOf st=κ)(h:∀M aL,Sg st aL->Rs key X Y M->Q M aL):wpS (model prog w) A E s (mHi X Y) Q st:=by
 have x0:=p.x0;have y0:=p.y0;obtain⟨z,ez⟩:=mHi_eq;rw[ez];refine wpS_bind (wpS_lift (wpAny_rule ⟨rfl,?_⟩));refine wpS_bind (d! (by lia) ?_);have l0:=p.startR;dsimp only;by_cases c1:(X.size-1==0)=true
 ·rw[if_pos c1];have e:X.size-1=0:=by simpa using c1
  rw[e]at l0 ⊢;exact wpS_pure (h _ _ .rfl l0.endA)
 rw[if_neg c1];have c1':X.size-1≠0:=λ z=>c1 (by rw[z];rfl);by_cases c2:(Y.size==1)=true
 ·rw[if_pos c2];have e:Y.size=1:=by simpa using c2
  rw[e]at l0 ⊢;exact wpS_pure (h _ _ .rfl (l0.firstB p))
 rw[if_neg c2];have c2':Y.size≠1:=by simpa using c2
 refine wpS_bind (wpS_get ?_);refine wpS_bind (wpS_mono (wpS_forRange (I:=λ x c aL=>Sg st aL∧∃o i j mg,c=(none,i,j,o,mg)∧R key X Y o i j∧0 < i∧i≤X.size∧1 < j∧j≤Y.size∧x+1+i+j≤X.size+Y.size)
  (Q:=λ c aL=>Sg st aL∧∃M r,c=(some M,r)∧Rs key X Y M) ?_ ?_ ⟨.rfl,_,_,_,_,rfl,l0,by lia,by lia,by lia,by lia,by lia⟩) ?_)
 rotate_left
 ·rintro c aL ⟨_,o,i,j,mg,rfl,_,a1,a2,a3,a4,a5⟩;exfalso;lia
 ·rintro c aL ⟨g,M,r,rfl,hM⟩;exact wpS_pure (h M aL g hM)
 rintro x c aL _ hx ⟨sg,o,i,j,mg,rfl,l,a1,a2,a3,a4,a5⟩;dsimp only;have all0:0 < X.size+Y.size:=by lia
 refine wpS_bind (wpS_mono (wpS_forRange (I:=λ y c lx=>lx=aL∧∃o i j ac bc,c=(none,i,j,o,ac,bc)∧R key X Y o i j∧0 < i∧i≤X.size∧1 < j∧j≤Y.size∧x+y+1+i+j≤X.size+Y.size)
  (Q:=λ c lx=>lx=aL∧((∃M r,c=(some M,r)∧Rs key X Y M)∨∃o i j ac bc,c=(none,i,j,o,ac,bc)∧R key X Y o i j∧0 < i∧i≤X.size∧1 < j∧j≤Y.size∧x+2+i+j≤X.size+Y.size)) ?_ ?_ ⟨rfl,o,i,j,0,0,rfl,l,a1,a2,a3,a4,by lia⟩) ?_)
 ·rintro y c lx _ hy ⟨rfl,o,i,j,ac,bc,rfl,l,a1,a2,a3,a4,a5⟩;dsimp only;refine wpS_bind (d! (by lia) (wpS_bind (d! (by lia) (wpS_bind (lt_ok C (sg.kind.trans hk) (p.gy (j-1) (by lia)) (p.gx (i-1) (by lia)) ?_)))));dsimp only;by_cases d:key (el Y (j-1)) < key (el X (i-1))
  ·rw[if_pos (by simpa using d)];refine wpS_bind (d! (by lia) ?_);have l1:=l.a1 p a1 a2 (by lia) a4 (Int.le_of_lt d);by_cases e:(i-1==0)=true
   ·rw[if_pos e];have e':i-1=0:=by simpa using e
    rw[e']at l1;exact wpS_pure ⟨rfl,.inl ⟨_,_,rfl,by rw[e'];exact l1.endA⟩⟩
   ·rw[if_neg e];have e':i-1≠0:=λ z=>e (by rw[z];rfl);split
    ·exact wpS_pure ⟨rfl,.inr ⟨_,_,_,_,_,rfl,l1,by lia,by lia,a3,a4,by lia⟩⟩
    ·exact wpS_pure ⟨rfl,_,_,_,_,_,rfl,l1,by lia,by lia,a3,a4,by lia⟩
  ·rw[if_neg (by simpa using d)];refine wpS_bind (d! (by lia) ?_);have l1:=l.b1 p a1 a2 (by lia) a4 (Int.not_lt.mp d);by_cases e:(j-1==1)=true
   ·rw[if_pos e];have e':j-1=1:=by simpa using e
    rw[e']at l1;exact wpS_pure ⟨rfl,.inl ⟨_,_,rfl,by rw[e'];exact l1.firstB p⟩⟩
   ·rw[if_neg e];have e':j-1≠1:=λ z=>e (by rw[z];rfl);split
    ·exact wpS_pure ⟨rfl,.inr ⟨_,_,_,_,_,rfl,l1,a1,a2,by lia,by lia,by lia⟩⟩
    ·exact wpS_pure ⟨rfl,_,_,_,_,_,rfl,l1,a1,a2,by lia,by lia,by lia⟩
 ·rintro c lx ⟨rfl,o,i,j,ac,bc,rfl,l,a1,a2,a3,a4,a5⟩;exact⟨rfl,.inr ⟨_,_,_,_,_,rfl,l,a1,a2,a3,a4,by lia⟩⟩
 rintro c lx ⟨rfl,⟨M,r,rfl,hM⟩ | ⟨o,i,j,ac,bc,rfl,l,a1,a2,a3,a4,a5⟩⟩
 ·exact wpS_pure ⟨sg,M,_,rfl,hM⟩
 dsimp only;refine wpS_bind (wpS_lift (wpAny_rule ⟨rfl,?_⟩));refine wpS_bind (wpS_mono (wpS_forRange (I:=λ _=>IR key X Y (x+2) st) (Q:=QR key X Y (x+2) st) ?_ (λ c cH h=>.inr h) ⟨sg,o,i,j,_,ac,bc,rfl,l,a1,a2,a3,a4,a5⟩) ?_)
 ·rintro y c cH _ hy ⟨sg2,o,i,j,mg,ac,bc,rfl,l,a1,a2,a3,a4,a5⟩;refine wpS_mono (Q:=Pr key X Y (x+2) st) ?_ λ r lu h=>by cases r<;>exact h
  show wpS _ _ _ _ (if mg > 1 then uC X Y o i j (mg-1) ac bc else uC X Y o i j mg ac bc) _ _;by_cases g:mg > 1
  ·rw[if_pos g];exact uC_ok C p hk sg2 l a1 a2 a3 a4 a5
  ·rw[if_neg g];exact uC_ok C p hk sg2 l a1 a2 a3 a4 a5
 ·rintro c cH (⟨sg2,M,r,rfl,hM⟩ | ⟨sg2,o,i,j,mg,ac,bc,rfl,l,a1,a2,a3,a4,a5⟩)
  ·exact wpS_pure ⟨sg2,M,_,rfl,hM⟩
  ·exact wpS_bind (setG_ok (wpS_pure ⟨sg2.set _,_,_,_,_,rfl,l,a1,a2,a3,a4,by lia⟩))
end
end ZTim
namespace ZTim
open PySem PySem.W PyProof.Rows
structure Kp(lo:Nat)(st aL:SortSt):Prop where
 kind:kindOf aL=kindOf st
 pend:pendingOf aL=pendingOf st
 fail:failedOf aL=failedOf st
 perm:(arrOf aL).Perm (arrOf st)
 low:∀i,i < lo->el (arrOf aL) i=el (arrOf st) i
theorem Kp.rfl{lo:Nat}{st:SortSt}:Kp lo st st:=⟨_root_.rfl,_root_.rfl,_root_.rfl,Array.Perm.refl _,λ _ _=>_root_.rfl⟩
theorem Kp.trans{lo:Nat}{a b c:SortSt}(h:Kp lo a b)(k:Kp lo b c):Kp lo a c:=⟨k.kind.trans h.kind,k.pend.trans h.pend,k.fail.trans h.fail,k.perm.trans h.perm,λ i hi=>(k.low i hi).trans (h.low i hi)⟩
theorem Kp.size{lo:Nat}{a b:SortSt}(h:Kp lo a b):(arrOf b).size=(arrOf a).size:=h.perm.size_eq
theorem jR{xs:Array Keyed}(i:Nat):el xs i=(xs[i]?).getD (Value.none,Value.none):=by unfold el;rw[Array.getD_eq_getD_getElem?]
theorem lB{xs:Array Keyed}{i j:Nat}(hj:j≤xs.size)(k:Nat):el (mirror xs i j ((j-i) / 2)) k=if i≤k∧k < j then el xs (i+j-1-k)else el xs k:=by
 rw[jR,getElem?_mirror_all hj];split
 ·rw[jR]
 ·rw[jR]
theorem el_bubble{xs:Array Keyed}{src d:Nat}(hs:src < xs.size)(hd:d≤src)(k:Nat):el (bubble xs src d) k=if k=src-d then el xs src else if src-d < k∧k≤src then el xs (k-1)else el xs k:=by
 rw[jR,getElem?_bubble hs d hd];split
 ·rw[jR]
 ·split
  ·rw[jR]
  ·rw[jR]
section
variable {prog:Program}{w:World}{A:Around}{E:Value->Shared->Prop}{s:Shared}{key:Keyed->Int}{κ:SortKind}{G:Keyed->Prop}{st:SortSt}
def Us(key:Keyed->Int)(xs:Array Keyed)(lo hi:Nat):Prop:=∀i j,lo≤i->i≤j->j < hi->key (el xs i)≤key (el xs j)
def Ds(key:Keyed->Int)(xs:Array Keyed)(lo hi:Nat):Prop:=∀i j,lo≤i->i≤j->j < hi->key (el xs j)≤key (el xs i)
def Gd(G:Keyed->Prop)(xs:Array Keyed):Prop:=∀i,i < xs.size->G (el xs i)
theorem Gd.perm{xs ys:Array Keyed}(h:Gd G xs)(p:ys.Perm xs):Gd G ys:=λ i hi=>by
 have e:el ys i=ys[i]:=by simp[el,Array.getD,hi]
 have m:ys[i]∈xs:=p.mem_iff.mp (Array.getElem_mem hi);obtain⟨j,hj,q⟩:=Array.mem_iff_getElem.mp m;have:=h j hj;rw[show el xs j=xs[j]by simp[el,Array.getD,hj],q,<-e]at this;exact this
theorem lz(C:Cm prog w A s key κ G){i j:Nat}{Q:Option Bool->SortSt->Prop}(hk:kindOf st=κ)(g:Gd G (arrOf st))(hi:i < (arrOf st).size)(hj:j < (arrOf st).size)(h:Q (some (decide (key (el (arrOf st) i) < key (el (arrOf st) j)))) st):wpS (model prog w) A E s (ltAt' i j) Q st:=by rw[ltAt'_eq];exact wpS_bind (wpS_get (wpS_bind (d! hi (wpS_bind (d! hj (lt_ok C hk (g i hi) (g j hj) h))))))
theorem rev_ok{i j:Nat}{Q:Unit->SortSt->Prop}(h:Q () (setArr st (mirror (arrOf st) i j ((j-i) / 2)))):wpS (model prog w) A E s (reverseSlice' i j) Q st:=by rw[reverseSlice'_eq];exact wpS_modify h
theorem Kp.mirror{lo i j:Nat}{a b:SortSt}(h:Kp lo a b)(hi:lo≤i)(hj:j≤(arrOf b).size):Kp lo a (setArr b (mirror (arrOf b) i j ((j-i) / 2))) :=
 h.trans ⟨_root_.rfl,_root_.rfl,_root_.rfl,mirror_perm _ _ _ _,λ k hk=>by show el (PyProof.Rows.mirror (arrOf b) i j ((j-i) / 2)) k=_;rw[lB hj,if_neg (by lia)]⟩
def cT(lo nrem n0:Nat):SM (Option Nat):=do
 reverseSlice' lo (lo+n0)
 let mut n:=n0
 for _ in [n0:nrem] do
  let some sm ←ltAt' (lo+n) (lo+n-1) | return none
  if sm then break
  n:=n+1
 return some n
def cD(z:String)(lo nrem n0:Nat):SM (Option Nat):=do
 rule z
 let mut n:=n0+1;let mut q:=0
 for _ in [n0+1:nrem] do
  let some sm ←ltAt' (lo+n) (lo+n-1) | return none
  if sm then
   if q > 0 then reverseSlice' (lo+n-(q+1)) (lo+n)
   q:=0
  else
   let some lg ←ltAt' (lo+n-1) (lo+n) | return none
   if lg then break
   q:=q+1
  n:=n+1
 if q > 0 then
  reverseSlice' (lo+n-(q+1)) (lo+n)
  cT lo nrem n
 else cT lo nrem n
def Fd(key:Keyed->Int)(lo nrem:Nat)(st:SortSt)(r:Option Nat)(aL:SortSt):Prop:=∃n,r=some n∧1≤n∧n≤nrem∧Kp lo st aL∧Us key (arrOf aL) lo (lo+n)
theorem up_more{xs:Array Keyed}{lo hi:Nat}(h:Us key xs lo hi)(c:¬key (el xs hi) < key (el xs (hi-1))):Us key xs lo (hi+1):=λ i j h1 h2 h3=>by
 by_cases e:j < hi
 ·exact h i j h1 h2 e
 ·have:j=hi:=by lia
  subst this;by_cases e2:i=j
  ·subst e2;exact Int.le_refl _
  ·exact Int.le_trans (h i (j-1) h1 (by lia) (by lia)) (Int.not_lt.mp c)
theorem cT_ok(C:Cm prog w A s key κ G){st0:SortSt}{lo nrem n0:Nat}(hk:kindOf st0=κ)(g:Gd G (arrOf st0))(kp:Kp lo st0 st)(hs:lo+nrem≤(arrOf st0).size)(n1:1≤n0)(n2:n0≤nrem)(d:Ds key (arrOf st) lo (lo+n0)):wpS (model prog w) A E s (cT lo nrem n0) (Fd key lo nrem st0) st:=by
 have sz:=kp.size;refine wpS_bind (rev_ok ?_);have kp2:=kp.mirror (i:=lo) (j:=lo+n0) (Nat.le_refl _) (by lia);have u0:Us key (arrOf (setArr st (mirror (arrOf st) lo (lo+n0) ((lo+n0-lo) / 2)))) lo (lo+n0):=λ i j h1 h2 h3=>by show key (el (mirror (arrOf st) lo (lo+n0) ((lo+n0-lo) / 2)) i)≤key (el (mirror (arrOf st) lo (lo+n0) ((lo+n0-lo) / 2)) j);rw[lB (by lia),lB (by lia),if_pos (by lia),if_pos (by lia)];exact d _ _ (by lia) (by lia) (by lia)
 generalize setArr st (mirror (arrOf st) lo (lo+n0) ((lo+n0-lo) / 2))=lx at kp2 u0;have sz1:=kp2.size;refine wpS_bind (wpS_mono (wpS_forRange (I:=λ x c aL=>aL=lx∧c=(none,x)∧Us key (arrOf lx) lo (lo+x)) (Q:=λ c aL=>aL=lx∧∃n,c=(none,n)∧1≤n∧n≤nrem∧Us key (arrOf lx) lo (lo+n)) ?_ ?_ ⟨rfl,rfl,u0⟩) ?_)
 ·rintro x c aL h1 h2 ⟨rfl,rfl,u⟩;dsimp only;refine wpS_bind (lz C (kp2.kind.trans hk) (g.perm kp2.perm) (by lia) (by lia) ?_);dsimp only;by_cases c:key (el (arrOf aL) (lo+x)) < key (el (arrOf aL) (lo+x-1))
  ·rw[if_pos (by simpa using c)];exact wpS_pure ⟨rfl,x,rfl,by lia,by lia,u⟩
  ·rw[if_neg (by simpa using c)];exact wpS_pure ⟨rfl,rfl,up_more u c⟩
 ·rintro c aL ⟨rfl,rfl,u⟩;rw[show max n0 nrem=nrem by lia]at u ⊢;exact⟨rfl,nrem,rfl,by lia,Nat.le_refl _,u⟩
 ·rintro c aL ⟨rfl,n,rfl,h1,h2,u⟩;exact wpS_pure ⟨n,rfl,h1,h2,kp2,u⟩
def Es(key:Keyed->Int)(xs:Array Keyed)(hi q:Nat):Prop:=∀i,hi-(q+1)≤i->i < hi->key (el xs i)=key (el xs (hi-1))
theorem mir_eq{xs:Array Keyed}{hi q:Nat}(hs:hi≤xs.size)(e:Es key xs hi q)(k:Nat):key (el (mirror xs (hi-(q+1)) hi ((hi-(hi-(q+1))) / 2)) k)=key (el xs k):=by
 rw[lB hs];split
 ·rw[e _ (by lia) (by lia),e k (by lia) (by lia)]
 ·rfl
theorem nF{xs ys:Array Keyed}{lo hi:Nat}(h:Ds key xs lo hi)(e:∀k,key (el ys k)=key (el xs k))(c:key (el xs hi)≤key (el xs (hi-1))):Ds key ys lo (hi+1):=λ i j h1 h2 h3=>by
 rw[e,e];by_cases f:j < hi
 ·exact h i j h1 h2 f
 ·have:j=hi:=by lia
  subst this;by_cases e2:i=j
  ·subst e2;exact Int.le_refl _
  ·exact Int.le_trans c (h i (j-1) h1 (by lia) (by lia))
theorem cD_ok(C : Cm prog w A s key κ G){z : String}{st0 : SortSt}{lo nrem n0 : Nat}(hk : kindOf st0 = κ)(g : Gd G (arrOf st0))(kp : Kp lo st0 st)(hs : lo + nrem ≤ (arrOf st0).size)(n2 : n0 + 1 ≤ nrem)(d : Ds key (arrOf st) lo (lo + (n0 + 1))): wpS (model prog w) A E s (cD z lo nrem n0) (Fd key lo nrem st0) st := by
 refine wpS_bind (wpS_lift (wpAny_rule ⟨rfl,?_⟩));refine wpS_bind (wpS_mono (wpS_forRange (I:=λ x c aL=>∃q,c=(none,x,q)∧Kp lo st0 aL∧Ds key (arrOf aL) lo (lo+x)∧q+1≤x∧Es key (arrOf aL) (lo+x) q)
  (Q:=λ c aL=>∃x q,c=(none,x,q)∧n0+1≤x∧x≤nrem∧Kp lo st0 aL∧Ds key (arrOf aL) lo (lo+x)∧q+1≤x∧Es key (arrOf aL) (lo+x) q) ?_ ?_ ⟨0,rfl,kp,d,by lia,λ i a b=>by rw[show i=lo+(n0+1)-1 by lia]⟩) ?_)
 ·rintro x c aL h1 h2 ⟨q,rfl,kp,d,hq,e⟩;have sz:=kp.size;dsimp only;refine wpS_bind (lz C (kp.kind.trans hk) (g.perm kp.perm) (by lia) (by lia) ?_);dsimp only;by_cases c:key (el (arrOf aL) (lo+x)) < key (el (arrOf aL) (lo+x-1))
  ·rw[if_pos (by simpa using c)];by_cases q0:q > 0
   ·rw[if_pos q0];have me:=mir_eq (hi:=lo+x) (q:=q) (by lia) e;exact wpS_bind (rev_ok (wpS_pure ⟨0,rfl,kp.mirror (by lia) (by lia),nF d me (Int.le_of_lt c),by lia,λ i a b=>by rw[show i=lo+(x+1)-1 by lia]⟩))
   ·rw[if_neg q0];exact wpS_pure ⟨0,rfl,kp,nF d (λ _=>rfl) (Int.le_of_lt c),by lia,λ i a b=>by rw[show i=lo+(x+1)-1 by lia]⟩
  ·rw[if_neg (by simpa using c)];refine wpS_bind (lz C (kp.kind.trans hk) (g.perm kp.perm) (by lia) (by lia) ?_);dsimp only;by_cases c2:key (el (arrOf aL) (lo+x-1)) < key (el (arrOf aL) (lo+x))
   ·rw[if_pos (by simpa using c2)];exact wpS_pure ⟨x,q,rfl,h1,by lia,kp,d,hq,e⟩
   ·rw[if_neg (by simpa using c2)];have eq:key (el (arrOf aL) (lo+x))=key (el (arrOf aL) (lo+x-1)):=Int.le_antisymm (Int.not_lt.mp c2) (Int.not_lt.mp c);refine wpS_pure ⟨q+1,rfl,kp,nF d (λ _=>rfl) (Int.not_lt.mp c2),by lia,λ i a b=>?_⟩;rw[show lo+(x+1)-1=lo+x by lia,eq];by_cases z:i=lo+x
    ·subst z;exact eq
    ·exact e i (by lia) (by lia)
 ·rintro c aL ⟨q,rfl,kp,d,hq,e⟩;rw[show max (n0+1) nrem=nrem by lia]at d hq e ⊢;exact⟨nrem,q,rfl,n2,Nat.le_refl _,kp,d,hq,e⟩
 ·rintro c aL ⟨x,q,rfl,h1,h2,kp,d,hq,e⟩;have sz:=kp.size;dsimp only;by_cases q0:q > 0
  ·rw[if_pos q0];have me:=mir_eq (hi:=lo+x) (q:=q) (by lia) e;exact wpS_bind (rev_ok (cT_ok C hk g (kp.mirror (by lia) (by lia)) hs (by lia) h2 λ i j a b c=>by show key (el (mirror _ _ _ _) j)≤key (el (mirror _ _ _ _) i);rw[me,me];exact d i j a b c))
  ·rw[if_neg q0];exact cT_ok C hk g kp hs (by lia) h2 d
theorem count_ok(C : Cm prog w A s key κ G){lo nrem : Nat}(hk : kindOf st = κ)(g : Gd G (arrOf st))(hs : lo + nrem ≤ (arrOf st).size)(n1 : 1 ≤ nrem): wpS (model prog w) A E s (countRun' lo nrem) (Fd key lo nrem st) st := by
 rw[countRun'_eq];refine wpS_bind (wpS_mono (wpS_forRange (I:=λ x c aL=>aL=st∧c=(none,x)∧Us key (arrOf st) lo (lo+x))
  (Q:=λ c aL=>aL=st∧∃n,c=(none,n)∧1≤n∧n≤nrem∧Us key (arrOf st) lo (lo+n)∧(n=nrem∨key (el (arrOf st) (lo+n)) < key (el (arrOf st) (lo+n-1)))) ?_ ?_ ⟨rfl,rfl,λ i j a b c=>by rw[show i=j by lia];exact Int.le_refl _⟩) ?_)
 ·rintro x c aL h1 h2 ⟨rfl,rfl,u⟩;dsimp only;refine wpS_bind (lz C hk g (by lia) (by lia) ?_);dsimp only;by_cases c:key (el (arrOf aL) (lo+x)) < key (el (arrOf aL) (lo+x-1))
  ·rw[if_pos (by simpa using c)];exact wpS_pure ⟨rfl,x,rfl,by lia,by lia,u,.inr c⟩
  ·rw[if_neg (by simpa using c)];exact wpS_pure ⟨rfl,rfl,up_more u c⟩
 ·rintro c aL ⟨rfl,rfl,u⟩;rw[show max 1 nrem=nrem by lia]at u ⊢;exact⟨rfl,nrem,rfl,by lia,Nat.le_refl _,u,.inl rfl⟩
 rintro c aL ⟨rfl,n,rfl,h1,h2,u,hor⟩;dsimp only;by_cases e:(n==nrem)=true
 ·rw[if_pos e];exact wpS_pure ⟨n,rfl,h1,h2,.rfl,u⟩
 rw[if_neg e];have e':n≠nrem:=by simpa using e
 have lt:=hor.resolve_left e';by_cases n2:n > 1
 ·rw[if_pos n2];refine wpS_bind (lz C hk g (by lia) (by lia) ?_);dsimp only;by_cases c:key (el (arrOf aL) lo) < key (el (arrOf aL) (lo+n-1))
  ·rw[if_pos (by simpa using c)];exact wpS_pure ⟨n,rfl,h1,h2,.rfl,u⟩
  ·rw[if_neg (by simpa using c)];have c':=Int.not_lt.mp c;have es:Es key (arrOf aL) (lo+n) (n-1):=λ i a b=>Int.le_antisymm (u i (lo+n-1) (by lia) (by lia) (by lia)) (Int.le_trans c' (u lo i (Nat.le_refl _) (by lia) (by lia)));have me:=mir_eq (hi:=lo+n) (q:=n-1) (by lia) es;rw[show lo+n-(n-1+1)=lo by lia]at me;refine wpS_bind (rev_ok (cD_ok (n0:=n) C hk g (Kp.rfl.mirror (Nat.le_refl _) (by lia)) hs (by lia) ?_));have d0:Ds key (arrOf aL) lo (lo+n):=λ i j a b c=>by rw[es i (by lia) (by lia),es j (by lia) (by lia)];exact Int.le_refl _
   exact nF d0 me (Int.le_of_lt lt)
 ·rw[if_neg n2];have:n=1:=by lia
  subst this;exact cD_ok (n0:=1) C hk g .rfl hs (by lia) (nF (xs:=arrOf aL) (λ i j a b c=>by rw[show i=j by lia];exact Int.le_refl _) (λ _=>rfl) (Int.le_of_lt lt))
end
end ZTim
namespace ZTim
open PySem PySem.W PyProof.Rows
section
variable {prog:Program}{w:World}{A:Around}{E:Value->Shared->Prop}{s:Shared}{key:Keyed->Int}{κ:SortKind}{G:Keyed->Prop}{st:SortSt}
theorem bin_ok(C : Cm prog w A s key κ G){lo n ok : Nat}{Q : Bool -> SortSt -> Prop}(hk : kindOf st = κ)(g : Gd G (arrOf st))(hs : lo + n ≤ (arrOf st).size)(h1 : 1 ≤ ok)(h2 : ok ≤ n)(u : Us key (arrOf st) lo (lo + ok))(h : ∀aL, Kp lo st aL -> Us key (arrOf aL) lo (lo + n) -> Q true aL): wpS (model prog w) A E s (binarySort' lo n ok) Q st := by
 rw[binarySort'_eq];refine wpS_bind (wpS_mono (wpS_forRange (I:=λ k c aL=>c=(none,())∧Kp lo st aL∧Us key (arrOf aL) lo (lo+k)) (Q:=λ c aL=>c=(none,())∧Kp lo st aL∧Us key (arrOf aL) lo (lo+n)) ?_ ?_ ⟨rfl,.rfl,by rw[show max ok 1=ok by lia];exact u⟩) ?_);rotate_left
 ·rintro c aL ⟨rfl,kp,u⟩;rw[show max (max ok 1) n=n by lia]at u;exact⟨rfl,kp,u⟩
 ·rintro c aL ⟨rfl,kp,u⟩;exact wpS_pure (h aL kp u)
 rintro k c aL a1 a2 ⟨rfl,kp,u⟩;have sz:=kp.size;refine wpS_bind (wpS_mono (wpS_forRange (I:=λ x c jA=>jA=aL∧∃l r,c=(none,l,r)∧l≤r∧r≤k∧r-l≤k-x∧(∀i,i < l->key (el (arrOf aL) (lo+i))≤key (el (arrOf aL) (lo+k)))∧(∀i,r≤i->i < k->key (el (arrOf aL) (lo+k))≤key (el (arrOf aL) (lo+i))))
  (Q:=λ c jA=>jA=aL∧∃l r,c=(none,l,r)∧l≤k∧(∀i,i < l->key (el (arrOf aL) (lo+i))≤key (el (arrOf aL) (lo+k)))∧(∀i,l≤i->i < k->key (el (arrOf aL) (lo+k))≤key (el (arrOf aL) (lo+i)))) ?_ ?_ ⟨rfl,0,k,rfl,by lia,by lia,by lia,λ i hi=>by lia,λ i b1 b2=>by lia⟩) ?_)
 ·rintro x c jA _ hx ⟨rfl,l,r,rfl,b1,b2,b3,b4,b5⟩;dsimp only;by_cases c:l≥r
  ·rw[if_pos c];have:l=r:=by lia
   subst this;exact wpS_pure ⟨rfl,l,l,rfl,b2,b4,b5⟩
  ·rw[if_neg c];refine wpS_bind (lz C (kp.kind.trans hk) (g.perm kp.perm) (by lia) (by lia) ?_);dsimp only;by_cases d:key (el (arrOf jA) (lo+k)) < key (el (arrOf jA) (lo+(l+r) / 2))
   ·rw[if_pos (by simpa using d)];exact wpS_pure ⟨rfl,l,_,rfl,by lia,by lia,by lia,b4,λ i c1 c2=>Int.le_trans (Int.le_of_lt d) (u _ _ (by lia) (by lia) (by lia))⟩
   ·rw[if_neg (by simpa using d)];exact wpS_pure ⟨rfl,_,r,rfl,by lia,by lia,by lia,λ i c1=>Int.le_trans (u _ _ (by lia) (by lia) (by lia)) (Int.not_lt.mp d),b5⟩
 ·rintro c jA ⟨rfl,l,r,rfl,b1,b2,b3,b4,b5⟩;have:l=r:=by lia
  subst this;exact⟨rfl,l,l,rfl,b2,b4,b5⟩
 rintro c jA ⟨rfl,l,r,rfl,b1,b4,b5⟩;show wpS _ _ _ _ (do moveDown' (lo+k) (lo+l);pure (ForInStep.yield (none,()))) _ _;rw[moveDown'_eq];have bu:∀i,el (bubble (arrOf jA) (lo+k) (lo+k-(lo+l))) i=if i=lo+l then el (arrOf jA) (lo+k)else if lo+l < i∧i≤lo+k then el (arrOf jA) (i-1)else el (arrOf jA) i:=λ i=>by rw[el_bubble (by lia) (by lia),show lo+k-(lo+k-(lo+l))=lo+l by lia]
 refine wpS_bind (wpS_modify (wpS_pure ⟨rfl,kp.trans ⟨rfl,rfl,rfl,bubble_perm _ _ _,λ i hi=>?_⟩,λ i j c1 c2 c3=>?_⟩))
 ·show el (bubble (arrOf jA) (lo+k) (lo+k-(lo+l))) i=_;rw[bu,if_neg (by lia),if_neg (by lia)]
 ·show key (el (bubble (arrOf jA) (lo+k) (lo+k-(lo+l))) i)≤key (el (bubble (arrOf jA) (lo+k) (lo+k-(lo+l))) j);rw[bu,bu];have f4:∀a,lo≤a->a < lo+l->key (el (arrOf jA) a)≤key (el (arrOf jA) (lo+k)):=λ a z1 z2=>by have:=b4 (a-lo) (by lia);rwa [show lo+(a-lo)=a by lia]at this
  have f5:∀a,lo+l≤a->a < lo+k->key (el (arrOf jA) (lo+k))≤key (el (arrOf jA) a):=λ a z1 z2=>by have:=b5 (a-lo) (by lia) (by lia);rwa [show lo+(a-lo)=a by lia]at this
  repeat' split
  all_goals first
   | (exfalso;lia)
   | exact Int.le_refl _
   | exact f4 _ (by lia) (by lia)
   | exact f5 _ (by lia) (by lia)
   | exact u _ _ (by lia) (by lia) (by lia)
theorem wr_list(a:Nat):∀(M:List Keyed)(k:Nat)(P Z S:List Keyed)(xs:Array Keyed),xs.toList=P++(Z++S)->Z.length=M.length->P.length=a+k ->
  ((M.zipIdx k).foldl (λ b (q:Keyed×Nat)=>b.setIfInBounds (a+q.2) q.1) xs).toList=P++(M++S)
 | [],k,P,Z,S,xs,e,hl,hp=>by obtain rfl:Z=[]:=List.length_eq_zero_iff.mp hl;simpa using e
 | m :: M,k,P,[],S,xs,e,hl,hp=>by simp at hl
 | m :: M,k,P,z :: Z,S,xs,e,hl,hp=>by
  rw[List.zipIdx_cons,List.foldl_cons];have:=wr_list a M (k+1) (P++[m]) Z S (xs.setIfInBounds (a+k) m) (by rw[Array.toList_setIfInBounds,e,<-hp,List.set_append_right _ _ (Nat.le_refl _),Nat.sub_self];simp) (by simpa using hl) (by simp;lia)
  simpa using this
theorem el_ext{xs:Array Keyed}{i j k:Nat}(h:k+i < j)(hj:j≤xs.size):el (xs.extract k j) i=el xs (k+i):=by rw[jR,jR,Array.getElem?_extract];rw[if_pos (by lia)]
theorem mAt_eq:∃z,∀n,mergeAt' n=(do
  let t ←get
  let (some (a1,n1,p1),some (a2,n2,_)):=((pendingOf t)[n]?,(pendingOf t)[n+1]?) | unsupported z
  set (setPending t (((pendingOf t).setIfInBounds n (a1,n1+n2,p1)).eraseIdxIfInBounds (n+1)))
  let some k ←gal false (←elem' (arrOf t) a2) (arrOf t) a1 n1 0 | return false
  let (a3,n3):=(a1+k,n1-k)
  if n3==0 then return true
  let some n4 ←gal true (←elem' (arrOf t) (a3+n3-1)) (arrOf t) a2 n2 (n2-1) | return false
  if n4==0 then return true
  let x:=(arrOf t).extract a3 a2
  let y:=(arrOf t).extract a2 (a2+n4)
  let m ←if n3≤n4 then mLo x y else mHi x y
  modify fun t=>setArr t (m.toList.zipIdx.foldl (fun b (q,j)=>b.setIfInBounds (a3+j) q) (arrOf t))
  return (failedOf (←get)).isNone):=⟨_,fun _=>rfl⟩
theorem set_ok{cH:SortSt}{Q:PUnit->SortSt->Prop}(h:Q ⟨⟩ cH):wpS (model prog w) A E s (set cH:SM PUnit) Q st:=by unfold wpS;rw[StateT.run_set];exact wpAny_pure ⟨rfl,h⟩
structure Out(key:Keyed->Int)(st aL:SortSt):Prop where
 fail:failedOf aL=failedOf st
 perm:(arrOf aL).Perm (arrOf st)
 up:Up key (arrOf aL).toList
theorem mAt_ok(C:Cm prog w A s key κ G){n1 n2 pw:Nat}{Q:Bool->SortSt->Prop}(hk:kindOf st=κ)(hf:failedOf st=none)(g:Gd G (arrOf st))(hp:pendingOf st=#[(0,n1,pw),(n1,n2,0)])(hs:n1+n2=(arrOf st).size)(p1:0 < n1)(p2:0 < n2)(u1:Us key (arrOf st) 0 n1)(u2:Us key (arrOf st) n1 (n1+n2))
  (h:∀aL,Out key st aL->pendingOf aL=#[(0,n1+n2,pw)]->Q true aL):wpS (model prog w) A E s (mergeAt' 0) Q st:=by
 obtain⟨z,ez⟩:=mAt_eq;rw[ez];refine wpS_bind (wpS_get ?_);have q0:(pendingOf st)[0]?=some (0,n1,pw):=by rw[hp];rfl
 have q1:(pendingOf st)[0+1]?=some (n1,n2,0):=by rw[hp];rfl
 rw[q0,q1];dsimp only;refine wpS_bind (set_ok ?_);have q2:((pendingOf st).setIfInBounds 0 (0,n1+n2,pw)).eraseIdxIfInBounds (0+1)=#[(0,n1+n2,pw)]:=by rw[hp];simp[Array.eraseIdxIfInBounds,Array.eraseIdx]
 rw[q2];have fin:∀xs:Array Keyed,xs=arrOf st->Us key xs 0 (n1+n2)->Up key xs.toList:=λ xs e u=>by subst e;exact up_of λ i j a b=>u i j (Nat.zero_le _) a (by lia)
 refine wpS_bind (d! (by lia) (wpS_bind (gal_ok (P:=λ t=>!decide (key (el (arrOf st) n1) < key (el (arrOf st) (0+t)))) C hk (g n1 (by lia)) (λ t ht=>g _ (by lia)) (by lia) p1 (λ t ht=>by rw[if_neg (by simp)]) (λ a b c d=>u1 _ _ (by lia) (by lia) (by lia)) λ k k1 k2 k3=>?_)));dsimp only;have k2':∀t,t < k->key (el (arrOf st) t)≤key (el (arrOf st) n1):=λ t ht=>by have:=k2 t ht;simp at this;exact this
 have k3':∀t,k≤t->t < n1->key (el (arrOf st) n1)≤key (el (arrOf st) t):=λ t ht ht2=>by have:=k3 t ht ht2;simp at this;exact Int.le_of_lt this
 clear k2 k3;by_cases c1:(n1-k==0)=true
 ·rw[if_pos c1];have c1':n1-k=0:=by simpa using c1
  refine wpS_pure (h _ ⟨rfl,Array.Perm.refl _,fin _ rfl λ i j a b c=>?_⟩ rfl);by_cases j1:j < n1
  ·exact u1 i j a b j1
  ·by_cases i1:i < n1
   ·exact Int.le_trans (k2' i (by lia)) (u2 n1 j (by lia) (by lia) (by lia))
   ·exact u2 i j (by lia) b c
 rw[if_neg c1];have c1':n1-k≠0:=by simpa using c1
 rw[show 0+k+(n1-k)-1=n1-1 by lia];refine wpS_bind (d! (by lia) (wpS_bind (gal_ok (P:=λ t=>decide (key (el (arrOf st) (n1+t)) < key (el (arrOf st) (n1-1)))) C hk (g (n1-1) (by lia)) (λ t ht=>g _ (by lia)) (by lia) (by lia) (λ t ht=>by rw[if_pos rfl]) (λ a b c d=>u2 _ _ (by lia) (by lia) (by lia)) λ m m1 m2 m3=>?_)));dsimp only;have m2':∀t,n1≤t->t < n1+m->key (el (arrOf st) t)≤key (el (arrOf st) (n1-1)):=λ t ht ht2=>by have:=m2 (t-n1) (by lia);rw[show n1+(t-n1)=t by lia]at this;simp at this;exact Int.le_of_lt this
 have m3':∀t,n1+m≤t->t < n1+n2->key (el (arrOf st) (n1-1))≤key (el (arrOf st) t):=λ t ht ht2=>by have:=m3 (t-n1) (by lia) (by lia);rw[show n1+(t-n1)=t by lia]at this;simp at this;exact this
 clear m2 m3;by_cases c2:(m==0)=true
 ·rw[if_pos c2];have c2':m=0:=by simpa using c2
  refine wpS_pure (h _ ⟨rfl,Array.Perm.refl _,fin _ rfl λ i j a b c=>?_⟩ rfl);by_cases j1:j < n1
  ·exact u1 i j a b j1
  ·by_cases i1:i < n1
   ·exact Int.le_trans (u1 i (n1-1) a (by lia) (by lia)) (m3' j (by lia) (by lia))
   ·exact u2 i j (by lia) b c
 rw[if_neg c2];have c2':m≠0:=by simpa using c2
 rw[Nat.zero_add];have sx:((arrOf st).extract k n1).size=n1-k:=by rw[Array.size_extract];lia
 have sy:((arrOf st).extract n1 (n1+m)).size=m:=by rw[Array.size_extract];lia
 have ex:∀i,i < n1-k->el ((arrOf st).extract k n1) i=el (arrOf st) (k+i):=λ i hi=>el_ext (by lia) (by lia);have ey:∀i,i < m->el ((arrOf st).extract n1 (n1+m)) i=el (arrOf st) (n1+i):=λ i hi=>el_ext (by lia) (by lia);have mp:MP key G ((arrOf st).extract k n1) ((arrOf st).extract n1 (n1+m)):=by
  constructor
  ·intro i hi;rw[sx]at hi;rw[ex i hi];exact g _ (by lia)
  ·intro i hi;rw[sy]at hi;rw[ey i hi];exact g _ (by lia)
  ·intro i j hij hj;rw[sx]at hj;rw[ex i (by lia),ex j hj];exact u1 _ _ (by lia) (by lia) (by lia)
  ·intro i j hij hj;rw[sy]at hj;rw[ey i (by lia),ey j hj];exact u2 _ _ (by lia) (by lia) (by lia)
  ·intro i hi;rw[sy]at hi;rw[sx,ey i hi,ex _ (by lia),show k+(n1-k-1)=n1-1 by lia];exact m2' _ (by lia) (by lia)
  ·intro i hi;rw[sx]at hi;rw[ex i hi,ey 0 (by lia)];exact k3' _ (by lia) (by lia)
  ·rw[sx];lia
  ·rw[sy];lia
 suffices jp:∀M aL,Sg (setPending st #[(0,n1+n2,pw)]) aL->Rs key ((arrOf st).extract k n1) ((arrOf st).extract n1 (n1+m)) M->wpS (model prog w) A E s (do
   modify λ t=>setArr t (M.toList.zipIdx.foldl (λ b (q,j)=>b.setIfInBounds (k+j) q) (arrOf t))
   return (failedOf (←get)).isNone:SM Bool) Q aL by
  by_cases c3:n1-k≤m
  ·rw[if_pos c3];exact wpS_bind (mLo_ok C mp hk jp)
  ·rw[if_neg c3];exact wpS_bind (mHi_ok C mp hk jp)
 rintro M aL sg ⟨up,pm⟩;refine wpS_bind (wpS_modify (wpS_bind (wpS_get ?_)));have split:(arrOf st).toList=(arrOf st).toList.take k++((((arrOf st).extract k n1).toList++((arrOf st).extract n1 (n1+m)).toList)++(arrOf st).toList.drop (n1+m)):=by simp only[Array.toList_extract,List.extract_eq_take_drop];have e1:=List.take_append_drop k (arrOf st).toList;have e2:=List.take_append_drop (n1-k) ((arrOf st).toList.drop k);have e3:=List.take_append_drop m ((arrOf st).toList.drop n1);rw[List.drop_drop,show k+(n1-k)=n1 by lia]at e2;rw[List.drop_drop]at e3;rw[show n1+m-n1=m by lia,List.append_assoc,e3,e2,e1]
 have wl:=wr_list k M.toList 0 ((arrOf st).toList.take k) _ ((arrOf st).toList.drop (n1+m)) (arrOf st) split pm.length_eq.symm (by simp;lia);have ea:arrOf aL=arrOf st:=sg.arr;refine wpS_pure ?_;have hfn:failedOf aL=none:=sg.fail.trans hf;have hQ:=h (setArr aL (M.toList.zipIdx.foldl (λ b (q:Keyed×Nat)=>b.setIfInBounds (k+q.2) q.1) (arrOf aL))) ⟨sg.fail,?_,?_⟩ sg.pend
 ·have e:(failedOf (setArr aL (M.toList.zipIdx.foldl (λ b (q:Keyed×Nat)=>b.setIfInBounds (k+q.2) q.1) (arrOf aL)))).isNone=true:=by show(failedOf aL).isNone=true;rw[hfn];rfl
  show Q (failedOf (setArr aL (M.toList.zipIdx.foldl (λ b (q:Keyed×Nat)=>b.setIfInBounds (k+q.2) q.1) (arrOf aL)))).isNone (setArr aL (M.toList.zipIdx.foldl (λ b (q:Keyed×Nat)=>b.setIfInBounds (k+q.2) q.1) (arrOf aL)));rw[e];exact hQ
 ·show(M.toList.zipIdx.foldl (λ b (q:Keyed×Nat)=>b.setIfInBounds (k+q.2) q.1) (arrOf aL)).Perm (arrOf st);rw[ea,Array.perm_iff_toList_perm,wl]
  conv=>rhs;rw[split]
  exact(pm.append_right _).append_left _
 ·show Up key (M.toList.zipIdx.foldl (λ b (q:Keyed×Nat)=>b.setIfInBounds (k+q.2) q.1) (arrOf aL)).toList;rw[ea,wl];have uw:∀i j,i≤j->j < (arrOf st).size->i < k∨n1+m≤j->key (el (arrOf st) i)≤key (el (arrOf st) j):=λ i j a b c=>by
   by_cases j1:j < n1
   ·exact u1 i j (Nat.zero_le _) a j1
   ·by_cases i1:i < n1
    ·rcases c with c | c
     ·exact Int.le_trans (k2' i c) (u2 n1 j (by lia) (by lia) (by lia))
     ·exact Int.le_trans (u1 i (n1-1) (Nat.zero_le _) (by lia) (by lia)) (m3' j c (by lia))
    ·exact u2 i j (by lia) a (by lia)
  have memM:∀z∈M.toList,∃j,k≤j∧j < n1+m∧z=el (arrOf st) j:=λ z hz=>by
   rcases List.mem_append.mp (pm.mem_iff.mp hz)with hz | hz
   ·have:=cm (X:=(arrOf st).extract k n1) (i:=0) (by simpa using hz);obtain⟨j,_,h2,rfl⟩:=this;rw[sx]at h2;exact⟨k+j,by lia,by lia,ex j h2⟩
   ·have:=cm (X:=(arrOf st).extract n1 (n1+m)) (i:=0) (by simpa using hz);obtain⟨j,_,h2,rfl⟩:=this;rw[sy]at h2;exact⟨n1+j,by lia,by lia,ey j h2⟩
  refine List.pairwise_append.mpr ⟨?_,List.pairwise_append.mpr ⟨up,?_,λ a ha b hb=>?_⟩,λ a ha b hb=>?_⟩
  ·rw[List.pairwise_iff_getElem];intro i j hi hj hij;rw[List.length_take,Array.length_toList]at hi hj;have hi':i < k∧i < (arrOf st).size:=by lia
   have hj':j < k∧j < (arrOf st).size:=by lia
   have:=uw i j (by lia) hj'.2 (.inl hi'.1);simpa[el,Array.getD,hi'.2,hj'.2]using this
  ·rw[List.pairwise_iff_getElem];intro i j hi hj hij;rw[List.length_drop,Array.length_toList]at hi hj;have hi':n1+m+i < (arrOf st).size:=by lia
   have hj':n1+m+j < (arrOf st).size:=by lia
   have:=uw (n1+m+i) (n1+m+j) (by lia) hj' (.inr (by lia));simpa[el,Array.getD,hi',hj']using this
  ·obtain⟨i,i1,i2,rfl⟩:=memM a ha;obtain⟨j,j1,j2,rfl⟩:=cm hb;exact uw i j (by lia) j2 (.inr j1)
  ·obtain⟨i,i1,i2,rfl⟩:=dU ha;rcases List.mem_append.mp hb with hb | hb
   ·obtain⟨j,j1,j2,rfl⟩:=memM b hb;exact uw i j (by lia) (by lia) (.inl i1)
   ·obtain⟨j,j1,j2,rfl⟩:=cm hb;exact uw i j (by lia) j2 (.inl i1)
structure One(key:Keyed->Int)(st aL:SortSt):Prop where
 out:Out key st aL
 pend:(pendingOf aL).size=1
def Two(key:Keyed->Int)(κ:SortKind)(st aL:SortSt):Prop:=∃n1 n2 pw,kindOf aL=κ∧failedOf aL=none∧(arrOf aL).Perm (arrOf st)∧pendingOf aL=#[(0,n1,pw),(n1,n2,0)]∧n1+n2=(arrOf st).size∧0 < n1∧0 < n2∧Us key (arrOf aL) 0 n1∧Us key (arrOf aL) n1 (n1+n2)
def Run1(key:Keyed->Int)(κ:SortKind)(m n:Nat)(st aL:SortSt):Prop:=kindOf aL=κ∧failedOf aL=none∧(arrOf aL).Perm (arrOf st)∧pendingOf aL=#[(0,n,0)]∧m≤n∧Us key (arrOf aL) 0 n
theorem runs_ok(C : Cm prog w A s key κ G){Q : Unit -> SortSt -> Prop}(hk : kindOf st = κ)(hf : failedOf st = none)(g : Gd G (arrOf st))(hp : pendingOf st = #[])(h64 : 64 ≤ (arrOf st).size)(h128 : (arrOf st).size < 128)(h : ∀aL, Out key st aL -> Q () aL): wpS (model prog w) A E s sortRuns' Q st := by
 rw[sortRuns'_eq];refine wpS_bind (wpS_get ?_);generalize hn:(arrOf st).size=N at h64 h128;have mr:∃m,minRun' N N 0=m∧N≤2*m∧m < N:=by
  obtain⟨f,rfl⟩:∃f,N=f+1+1:=⟨N-2,by lia⟩
  refine⟨_,rfl,?_⟩;rw[minRun'_succ,if_neg (by lia),minRun'_succ,if_pos (by lia)];lia
 obtain⟨m,em,m1,m2⟩:=mr;dsimp only;rw[em];refine wpS_bind (wpS_mono (wpS_forRange (I:=λ x c aL=>(x=0∧c=(none,0)∧aL=st)∨(x=1∧∃n,c=(none,n)∧n < N∧Run1 key κ m n st aL)∨(1≤x∧c=(none,N)∧(One key st aL∨Two key κ st aL)))
  (Q:=λ c aL=>c=(none,N)∧(One key st aL∨Two key κ st aL)) ?_ ?_ (.inl ⟨rfl,rfl,rfl⟩)) ?_)
 ·rintro x c aL _ hx (⟨rfl,rfl,e⟩ | ⟨rfl,n,rfl,kj,r1⟩ | ⟨hx1,rfl,r2⟩)
  ·obtain rfl:=e.symm;dsimp only;rw[if_neg (by lia)];refine wpS_bind (wpS_mono (count_ok C (lo:=0) (nrem:=N-0) hk g (by lia) (by lia)) ?_);rintro r lx ⟨f,rfl,f1,f2,kp,u⟩;dsimp only;have put:∀cH n,Kp 0 st cH->Us key (arrOf cH) 0 (0+n)->m≤n->n≤N->(0+1=0∧((none,0+n):Option Unit×Nat)=(none,0)∧setPending cH ((pendingOf cH).push (0,n,0))=st)∨(0+1=1∧∃n',((none,0+n):Option Unit×Nat)=(none,n')∧n' < N∧Run1 key κ m n' st (setPending cH ((pendingOf cH).push (0,n,0))))∨(1≤0+1∧((none,0+n):Option Unit×Nat)=(none,N)∧(One key st (setPending cH ((pendingOf cH).push (0,n,0)))∨Two key κ st (setPending cH ((pendingOf cH).push (0,n,0))))):=λ cH n kp u a b=>by
    rw[Nat.zero_add n]at u ⊢;have sz:=kp.size;have pd:(pendingOf cH).push (0,n,0)=#[(0,n,0)]:=by rw[kp.pend,hp];rfl
    by_cases c:n < N
    ·exact .inr (.inl ⟨rfl,n,rfl,c,kp.kind.trans hk,kp.fail.trans hf,kp.perm,pd,a,u⟩)
    ·have:n=N:=by lia
     subst this;exact .inr (.inr ⟨by lia,rfl,.inl ⟨⟨kp.fail,kp.perm,up_of λ i j z1 z2=>u i j (Nat.zero_le _) z1 (by have:j < (arrOf cH).size:=z2;lia)⟩,by show((pendingOf cH).push (0,n,0)).size=1;rw[pd];rfl⟩⟩)
   have bk:∀cH:SortSt,Kp 0 st cH->(pendingOf cH).back?=none:=λ cH kp=>by rw[kp.pend,hp];rfl
   by_cases c:f < m
   ·rw[if_pos c];refine wpS_bind (wpS_lift (wpAny_rule ⟨rfl,?_⟩));rw[show min (N-0) m=m by lia];refine wpS_bind (bin_ok C (kp.kind.trans hk) (g.perm kp.perm) (by have:=kp.size;lia) f1 (by lia) u λ cH kp2 u2=>?_);rw[if_neg (by simp)];refine wpS_bind (wpS_get ?_);rw[bk cH (kp.trans kp2)];dsimp only;exact wpS_bind (wpS_modify (wpS_pure (put cH m (kp.trans kp2) u2 (Nat.le_refl _) (by lia))))
   ·rw[if_neg c];refine wpS_bind (wpS_get ?_);rw[bk lx kp];dsimp only;exact wpS_bind (wpS_modify (wpS_pure (put lx f kp u (by lia) (by lia))))
  ·obtain⟨r1,r2,r3,r4,r5,r6⟩:=r1;have szr:=r3.size_eq;dsimp only;rw[if_neg (by lia)];refine wpS_bind (wpS_mono (count_ok C (lo:=n) (nrem:=N-n) r1 (g.perm r3) (by lia) (by lia)) ?_);rintro r lx ⟨f,rfl,f1,f2,kp,u⟩;dsimp only;have low:∀cH,Kp n aL cH->Us key (arrOf cH) 0 n:=λ cH kp i j a b c=>by rw[kp.low i (by lia),kp.low j c];exact r6 i j a b c
   have bk:∀cH:SortSt,Kp n aL cH->(pendingOf cH).back?=some (0,n,0):=λ cH kp=>by rw[kp.pend,r4];rfl
   have two:∀cH pw,Kp n aL cH->Us key (arrOf cH) n (n+(N-n))->∀lu:SortSt,PyProof.Rows.kindOf lu=PyProof.Rows.kindOf cH->failedOf lu=failedOf cH->arrOf lu=arrOf cH->pendingOf lu=#[(0,n,pw),(n,N-n,0)]->Two key κ st lu:=λ cH pw kp u lu e1 e2 e3 e4 =>⟨n,N-n,pw,e1.trans (kp.kind.trans r1),e2.trans (kp.fail.trans r2),by rw[e3];exact kp.perm.trans r3,e4,by lia,by lia,by lia,by rw[e3];exact low cH kp,by rw[e3];exact u⟩
   by_cases c:f < m
   ·rw[if_pos c];refine wpS_bind (wpS_lift (wpAny_rule ⟨rfl,?_⟩));rw[show min (N-n) m=N-n by lia];refine wpS_bind (bin_ok C (kp.kind.trans r1) ((g.perm r3).perm kp.perm) (by have:=kp.size;lia) f1 f2 u λ cH kp2 u2=>?_);rw[if_neg (by simp)];refine wpS_bind (wpS_get ?_);rw[bk cH (kp.trans kp2)];dsimp only;refine wpS_bind (wpS_mono (wpS_forRange (I:=λ _ c lu=>c=(none,())∧lu=cH) (Q:=λ c lu=>c=(none,())∧lu=cH) ?_ (λ _ _ z=>z) ⟨rfl,rfl⟩) ?_)
    ·rintro y c lu _ _ ⟨rfl,rfl⟩;refine wpS_bind (wpS_get ?_);have p1:(pendingOf lu).size=1:=by rw[(kp.trans kp2).pend,r4];rfl
     rw[p1,if_neg (by lia)];exact wpS_pure ⟨rfl,rfl⟩
    ·rintro c lu ⟨rfl,rfl⟩;dsimp only;have e4:pendingOf lu=#[(0,n,0)]:=(kp.trans kp2).pend.trans r4;refine wpS_bind (wpS_modify (wpS_bind (wpS_modify (wpS_pure (.inr (.inr ⟨by lia,by rw[show n+(N-n)=N by lia],.inr (two lu (power' N (2*0+n) (2*0+n+n+(N-n)) N) (kp.trans kp2) u2 _ rfl rfl rfl ?_)⟩))))));show((pendingOf lu).modify _ _).push _=_;rw[e4];rfl
   ·rw[if_neg c];have:f=N-n:=by lia
    subst this;refine wpS_bind (wpS_get ?_);rw[bk lx kp];dsimp only;refine wpS_bind (wpS_mono (wpS_forRange (I:=λ _ c lu=>c=(none,())∧lu=lx) (Q:=λ c lu=>c=(none,())∧lu=lx) ?_ (λ _ _ z=>z) ⟨rfl,rfl⟩) ?_)
    ·rintro y c lu _ _ ⟨rfl,rfl⟩;refine wpS_bind (wpS_get ?_);have p1:(pendingOf lu).size=1:=by rw[kp.pend,r4];rfl
     rw[p1,if_neg (by lia)];exact wpS_pure ⟨rfl,rfl⟩
    ·rintro c lu ⟨rfl,rfl⟩;dsimp only;have e4:pendingOf lu=#[(0,n,0)]:=kp.pend.trans r4;refine wpS_bind (wpS_modify (wpS_bind (wpS_modify (wpS_pure (.inr (.inr ⟨by lia,by rw[show n+(N-n)=N by lia],.inr (two lu (power' N (2*0+n) (2*0+n+n+(N-n)) N) kp u _ rfl rfl rfl ?_)⟩))))));show((pendingOf lu).modify _ _).push _=_;rw[e4];rfl
  ·dsimp only;rw[if_pos (by lia)];exact wpS_pure ⟨rfl,r2⟩
 ·rintro c aL (⟨h1,_,_⟩ | ⟨h1,_⟩ | ⟨_,rfl,r2⟩)
  ·lia
  ·lia
  ·exact⟨rfl,r2⟩
 rintro c aL ⟨rfl,r2⟩;dsimp only;refine wpS_bind (wpS_mono (wpS_forRange (I:=λ x c aL=>c=(none,())∧(One key st aL∨(x=0∧Two key κ st aL))) (Q:=λ c aL=>c=(none,())∧One key st aL) ?_ ?_ ⟨rfl,r2.imp id λ h=>⟨rfl,h⟩⟩) ?_)
 ·rintro x c lx _ hx ⟨rfl,o | ⟨rfl,t⟩⟩
  ·refine wpS_bind (wpS_get ?_);rw[if_pos (by rw[o.pend];exact Nat.le_refl _)];exact wpS_pure ⟨rfl,o⟩
  ·obtain⟨n1,n2,pw,t1,t2,t3,t4,t5,t6,t7,t8,t9⟩:=t;refine wpS_bind (wpS_get ?_);have sz:(pendingOf lx).size=2:=by rw[t4];rfl
   rw[sz,if_neg (by lia)];refine wpS_bind (wpS_mono (Q:=λ b cH=>b=true∧One key st cH) ?_ ?_)
   ·show wpS _ _ _ _ (mergeAt' 0) _ _;have szs:=t3.size_eq;refine mAt_ok C t1 t2 (g.perm t3) t4 (by lia) t6 t7 t8 t9 λ cH o q=>⟨rfl,⟨o.fail.trans (t2.trans hf.symm),o.perm.trans t3,o.up⟩,by rw[q];rfl⟩
   ·rintro b cH ⟨rfl,o⟩;exact wpS_pure ⟨rfl,.inl o⟩
 ·rintro c lx ⟨rfl,o | ⟨h1,_⟩⟩
  ·exact⟨rfl,o⟩
  ·lia
 ·rintro c lx ⟨rfl,o⟩;exact wpS_pure (h _ o.out)
end
end ZTim
namespace Z
noncomputable def sortKB:D->Res (List D)
 | .lst ds=>match prsOf ds with
  | some ps=>guard (ps.length < 128) (.ok ((eM ps).map prD))
  | none=>.bad
 | _=>.bad
noncomputable def lSortB(a:EF)(ρ:Env):Res (List D):=(a ρ).bind sortKB
theorem sortKB_ok{d:D}{ds:List D}(h:sortKB d=.ok ds):∃ps:List (Int×Int),d=.lst (ps.map prD)∧ps.length < 128∧ds=(eM ps).map prD:=by
 cases d with
 | lst xs =>
  unfold sortKB at h;simp only at h;split at h
  ·rename_i ps e;obtain⟨h1,h2⟩:=iB h;cases h2;exact⟨ps,by rw[prsOf_ok e],h1,rfl⟩
  ·cases h
 | _=>cases h
@[simp] theorem lSortB_a(a:EF)(ρ:Env):lSortB a ρ=(a ρ).bind sortKB:=rfl
theorem sortKB_a{ps:List (Int×Int)}(h:ps.length < 128):sortKB (.lst (ps.map prD))=.ok ((eM ps).map prD):=by unfold sortKB;simp only[prsOf_map];exact guard_pos h
end Z
namespace ZTim
open PySem PySem.W PyProof.Rows
open _root_.Z (jo)
open iD (jg bB rank rank_lt lt_pair Ord)
section
variable {prog:Program}{w:World}{A:Around}{E:Value->Shared->Prop}{s:Shared}
theorem pair_fun{h:Heap}{v:Value}{p q:Int×Int}(a:jg h v p)(b:jg h v q):p=q:=by obtain⟨a1,o1,t1,u1,n1,e1,g1,_,d1⟩:=a;obtain⟨a2,o2,t2,u2,n2,e2,g2,_,d2⟩:=b;rw[e1]at e2;cases e2;rw[g1]at g2;cases g2;rw[d1]at d2;simp only[Data.seq.injEq]at d2;have:=d2.1;simp at this;exact Prod.ext this.1.1 this.2.1
open Classical in
noncomputable def pk(h:Heap)(ps:List (Int×Int))(x:Keyed):Int:=if e:∃p,jg h x.1 p then rank ps e.choose else 0
theorem pk_eq{h:Heap}{ps:List (Int×Int)}{x:Keyed}{p:Int×Int}(e:jg h x.1 p):pk h ps x=rank ps p:=by
 unfold pk;have f:∃p,jg h x.1 p:=⟨p,e⟩
 rw[dif_pos f,pair_fun f.choose_spec e]
theorem pairs_cm{ps:List (Int×Int)}:Cm prog w A s (pk s.heap ps) (tuples' true) (λ x=>∃p∈ps,jg s.heap x.1 p):=by rintro x y ⟨p,mp,hp⟩ ⟨q,mq,hq⟩ Q h;rw[pk_eq hp,pk_eq hq,<-rank_lt mp mq]at h;obtain⟨a,o,t,u,n,e1,g1,_,g2⟩:=hp;obtain⟨b,o',t',u',n',e2,k1,_,k2⟩:=hq;rw[e1,e2];exact lt_pair g1 g2 k1 k2 h
theorem perm_map{α β:Type}{f:α->β}{l r:List β}(h:l.Perm r):∀m:List α,r=m.map f->∃q:List α,q.Perm m∧q.map f=l:=by
 induction h with
 | nil=>exact λ m e=>⟨m,List.Perm.refl _,e.symm⟩
 | cons x _ ih =>
  intro m e;cases m with
  | nil=>cases e
  | cons y m =>simp only[List.map_cons,List.cons.injEq]at e;obtain⟨q,q1,q2⟩:=ih m e.2;exact⟨y :: q,q1.cons y,by rw[List.map_cons,q2,e.1]⟩
 | swap x y l =>
  intro m e
  match m,e with
  | a :: b :: m,e =>simp only[List.map_cons,List.cons.injEq]at e;exact⟨b :: a :: m,List.Perm.swap _ _ _,by rw[List.map_cons,List.map_cons,e.1,e.2.1,e.2.2]⟩
 | trans _ _ ih1 ih2 =>intro m e;obtain⟨q,q1,q2⟩:=ih2 m e;obtain⟨r,r1,r2⟩:=ih1 q q2.symm;exact⟨r,r1.trans q1,r2⟩
theorem run_pairs{vs : List Value}{ps : List (Int × Int)}(x : bB s.heap vs ps)(h64 : 64 ≤ vs.length)(h128 : vs.length < 128):
  wpAny (model prog w) A ((sortRuns').run (SortSt.mk' (tuples' true) (vs.toArray.zip vs.toArray) #[] 7 none)) (λ r s'=>s'=s∧failedOf r.2=none∧∃q:List Nat,Ord ps q∧(arrOf r.2).map (·.2)=(q.map λ i=>vs.getD i .none).toArray) E s:=by
 have len:=x.len;have sz:(arrOf (SortSt.mk' (tuples' true) (vs.toArray.zip vs.toArray) #[] 7 none)).size=vs.length:=by show(vs.toArray.zip vs.toArray).size=vs.length;simp
 have at_:∀i,i < vs.length->el (vs.toArray.zip vs.toArray) i=(vs.getD i .none,vs.getD i .none):=λ i hi=>by simp[el,Array.getD,hi]
 have mem:∀i,i < vs.length->ps.getD i (0,0)∈ps:=λ i hi=>by rw[List.getD_eq_getElem?_getD,List.getElem?_eq_getElem (len▸hi)];exact List.getElem_mem _
 refine runs_ok (st:=SortSt.mk' (tuples' true) (vs.toArray.zip vs.toArray) #[] 7 none) (pairs_cm (ps:=ps)) rfl rfl (λ i hi=>?_) rfl (by rw[sz];exact h64) (by rw[sz];exact h128) (Q:=λ _ aL=>failedOf aL=none∧∃q:List Nat,Ord ps q∧(arrOf aL).map (·.2)=(q.map λ i=>vs.getD i .none).toArray) λ aL o=>⟨o.fail,?_⟩
 ·rw[sz]at hi;refine⟨ps.getD i (0,0),mem i hi,?_⟩;show jg s.heap (el (vs.toArray.zip vs.toArray) i).1 _;rw[at_ i hi];exact x.at i hi
 ·have e0:(vs.toArray.zip vs.toArray).toList=(List.range vs.length).map λ i=>(vs.getD i Value.none,vs.getD i Value.none):=by
   apply List.ext_getElem
   ·simp
   ·intro i h1 h2;have:i < vs.length:=by simpa using h2
    simp[this]
  obtain⟨q,q1,q2⟩:=perm_map (Array.perm_iff_toList_perm.mp o.perm) _ e0;have lt:∀i∈q,i < vs.length:=λ i hi=>by simpa using q1.mem_iff.mp hi
  refine⟨q,⟨by rw[<-len];exact q1,?_⟩,?_⟩
  ·have u:=o.up;rw[<-q2]at u;unfold Up at u;rw[List.pairwise_map]at u ⊢;refine u.imp_of_mem λ {a b} ha hb hab=>?_;rw[pk_eq (x.at a (lt a ha)),pk_eq (x.at b (lt b hb))]at hab;exact hab
  ·apply Array.toList_inj.mp;rw[Array.toList_map,<-q2,List.map_map];rfl
end
end ZTim
namespace iD
open PySem PySem.W PyProof.Rows
open _root_.Z (jo leB eM leB_iff ng mE ft kr)
section
variable {prog:Program}{w:World}{A:Around}{E:Value->Shared->Prop}{s:Shared}
theorem sort_pairsB{a:Addr}{vs:List Value}{ps:List (Int×Int)}{n:Nat}{P:PySem.Fin->Shared->Prop}(ho:s.heap.get? a=some (seqObj "list" vs.toArray n))(x:bB s.heap vs ps)(h2:64≤vs.length)(h128:vs.length < 128)
  (h:∀q:List Nat,Ord ps q->P (.done (.ret .none)) { s with heap:=sortedHeap s.heap a vs (q.map λ i=>vs.getD i .none).toArray }) :
  wpAny (model prog w) A (Builtin.«list.sort» ⟨[.ref a],[]⟩) P E s:=by
 have lt:a < s.heap.objs.size:=Heap.lt_size ho;obtain⟨c,gc⟩:∃c,(s.heap.update a (Obj.mapSeq λ _=>#[])).get? a=some (seqObj "list" #[] c):=⟨_,get?_update_seq ho (λ _=>#[])⟩
 have len:vs.toArray.size=vs.length:=by simp
 have line:vs.length≤sizeLine:=by rw[sizeLine_eq];lia
 rw[list_sort_plain];apply wpAny_bind;refine listItems_at ho rfl ?_;apply wpAny_bind;refine listUpdate_at (hsz2:=Nat.zero_le _) (hsz:=by rw[len];exact line) ho rfl ?_;apply wpAny_bind;refine seqEpoch_at gc rfl ?_;apply wpAny_bind;refine wpAny_newTuple ?_ (by simpa using line);apply wpAny_bind;refine wpAny_newList ?_ (Nat.zero_le _);apply wpAny_holding;have g6:(((s.heap.update a (Obj.mapSeq λ _=>#[])).push (seqObj "tuple" vs.toArray 0)).push (seqObj "list" #[] 0)).get? a=some (seqObj "list" #[] c) :=
  Heap.get?_push_of_some _ (Heap.get?_push_of_some _ gc)
 have x2:bB (((s.heap.update a (Obj.mapSeq λ _=>#[])).push (seqObj "tuple" vs.toArray 0)).push (seqObj "list" #[] 0)) vs ps:=x.kept λ b o e cl=>by
  have ne:b≠a:=by rintro rfl;rw[ho]at e;cases e;exact absurd (show Value.type "list" = .type "tuple" from cl) (by decide)
  exact Heap.get?_push_of_some _ (Heap.get?_push_of_some _ (by rw[Heap.get?_update_ne _ _ _ _ ne];exact e))
 show wpAny (model prog w) A _ P E { s with heap:=(((s.heap.update a (Obj.mapSeq λ _=>#[])).push (seqObj "tuple" vs.toArray 0)).push (seqObj "list" #[] 0)) };generalize eH:((s.heap.update a (Obj.mapSeq λ _=>#[])).push (seqObj "tuple" vs.toArray 0)).push (seqObj "list" #[] 0)=H2 at g6 x2;dsimp only;have n2:¬vs.toArray.size < 2:=by rw[len];lia
 rw[if_neg n2,if_neg n2];obtain⟨fs,f1,f2,f3⟩:=x2.firsts;apply wpAny_bind;refine kat_kind (T:=.type "int") f1 (by lia) (λ v hv=>?_) rfl ?_
 ·obtain⟨i,t,rfl⟩:=f3 v hv;exact Looks.of_pure rfl
 apply wpAny_bind;refine wpAny_mono (ZTim.run_pairs (s:={ s with heap:=H2 }) x2 h2 h128) ?_ λ _ _ e=>e;rintro⟨⟨⟩,aL⟩ s' ⟨rfl,hf,q,hO,ha⟩;dsimp only at hf ha ⊢;rw[ha,hf];have fin:=h q hO;unfold sortedHeap at fin;rw[eH]at fin;have hol:(q.map λ i=>vs.getD i Value.none).length≤sizeLine+1:=by rw[List.length_map,hO.perm.length_eq,List.length_range,<-x.len];lia
 generalize (q.map λ i=>vs.getD i Value.none)=out at fin hol ⊢;apply wpAny_bind;refine seqEpoch_at g6 rfl ?_;apply wpAny_bind;refine listUpdate_at (hsz2:=by simpa using hol) (hsz:=Nat.zero_le _) g6 rfl ?_;simp only[bne_self_eq_false,Bool.false_eq_true,if_false];exact wpAny_pure fin
theorem sorted_anyB{l:Addr}{vs:List Value}{ps:List (Int×Int)}{Q:Value->Shared->Prop}(hl:s.heap.IsList l vs.toArray)(x:bB s.heap vs ps)(h128:vs.length < 128)
  (h:∀q:List Nat,Ord ps q->Q (.ref (s.heap.objs.size+1)) { s with heap:=sortedAll s.heap vs (q.map λ i=>vs.getD i .none).toArray }) :
  wpAny (model prog w) A (call (.builtin "sorted") [.ref l]) Q E s:=by
 by_cases h2:vs.length < 64
 ·exact sorted_any hl x h2 h
 have line:vs.length≤sizeLine:=by rw[sizeLine_eq];lia
 refine Calls.call_function_entry kind_sorted plain_sorted entry_sorted (args_sorted1 (.ref l)) ?_
 delta Builtin.«sorted»
 refine wpAny_bind (wpAny_pure ?_);apply wpAny_bind;refine collect_list hl ?_ (by simpa using line);apply wpAny_bind;refine wpAny_newList ?_ (by simpa using line);have sz:((s.heap.push (seqObj "list" #[] 0)).update s.heap.objs.size (Obj.mapSeq (·++vs.toArray))).objs.size=s.heap.objs.size+1:=by rw[Heap.size_update,size_push']
 have gL:(((s.heap.push (seqObj "list" #[] 0)).update s.heap.objs.size (Obj.mapSeq (·++vs.toArray))).push (seqObj "list" vs.toArray 0)).get? (s.heap.objs.size+1)=some (seqObj "list" vs.toArray 0):=sz▸Heap.get?_push_size _ rfl;have x1:bB (((s.heap.push (seqObj "list" #[] 0)).update s.heap.objs.size (Obj.mapSeq (·++vs.toArray))).push (seqObj "list" vs.toArray 0)) vs ps:=x.kept λ b o e _=>by have lt:b < s.heap.objs.size:=Heap.lt_size e;exact Heap.get?_push_of_some _ (by rw[Heap.get?_update_ne _ _ _ _ (Nat.ne_of_lt lt)];exact Heap.get?_push_of_some _ e)
 show wpAny _ _ _ _ _ { s with heap:=(((s.heap.push (seqObj "list" #[] 0)).update s.heap.objs.size (Obj.mapSeq (·++vs.toArray))).push (seqObj "list" vs.toArray 0)) };rw[sz];apply wpAny_bind;refine wpAny_holding (wpAny_call_entry slot_list_sort ⟨_,gL,rfl⟩ entry_list_sort (sort_pairsB gL x1 (by lia) h128 λ q hq=>⟨_,rfl,?_⟩) (args_list_sort _));exact wpAny_pure ⟨_,rfl,h q hq⟩
end
end iD
namespace ZS
open PySem PySem.Spec PyProof.Rows L2
section
variable {X:Cx}{pins:List (Addr×Obj)}{σ:St}{H:Hp}{s:Shared}{a:Expr}{pos:Pos}{fa:Z.EF}
theorem call_sortB:iG X (.builtin "sorted") (λ xs H Q=>∃p vs ps,xs=[.ref p]∧i6 X.K H p vs∧ax X.K H (ps.map Z.prD) vs∧ps.length < 128∧∀l ws,H l=none->ax X.K H ((Z.eM ps).map Z.prD) ws->Q (.ref l) (upd H l (.lst ws))):=by
 intro pins s σ H xs us Q I r h;obtain⟨p,vs,ps,rfl,hq,t,hl,q⟩:=h;obtain⟨u,rfl,rx⟩:=vals1 r;cases rx;obtain⟨aM,rv,pl,hz⟩:=I.list hq;have len:=t.length;rw[List.length_map]at len;have len2:=rv.length;refine iD.sorted_anyB (vs:=aM) (ps:=ps) pl.isList (prs_on I t rv) (by lia) λ o ho=>?_;have hm:∀i∈o,i < ps.length:=λ i hi=>by simpa using ho.perm.mem_iff.mp hi
 obtain⟨c,gc⟩:=sortedAll_at s.heap aM (o.map λ i=>aM.getD i .none).toArray;have hol:(o.map λ i=>vs.getD i .non).length≤sizeLine:=by rw[List.length_map,ho.perm.length_eq,List.length_range,sizeLine_eq];lia
 have d2:ax X.K H ((Z.eM ps).map Z.prD) (o.map λ i=>vs.getD i .non):=by
  have:=dens_pick t o (λ i hi=>by rw[List.length_map];exact hm i hi);rw[<-ho.eq];rw[List.map_map];have e:(o.map λ i=>(ps.map Z.prD).getD i .non)=o.map (Z.prD∘λ i=>ps.getD i (0,0)):=List.map_congr_left λ i hi=>by have:=hm i hi;simp[List.getD_eq_getElem?_getD,List.getElem?_eq_getElem this]
  rw[<-e];exact this
 refine⟨.ref (s.heap.objs.size+1),_,I.laid (a:=s.heap.objs.size+1) (o:=.lst (o.map λ i=>vs.getD i .non)) (t':=s.toks) (λ b u e=>sortedAll_old e) (Nat.le_succ _) ⟨hol,_,c,vals_pick rv o (λ i hi=>by rw[len];exact hm i hi),gc⟩,rfl,q _ _ (I.dO.fresh (Nat.le_succ _)) d2⟩
theorem nG{x:Str}{p1:Pos}(hg:Gl X x)(hm:X.mg x=none)(hv:bootBuiltins x=some (.builtin "sorted"))(ha:DW X a fa)(hn:x ≠ "__name__" := by decide +kernel)(hdb:(x==("__debug__" : Str))=false:=by decide +kernel)
  (he:starEach (a :: []) X.env=(false,eval a X.env) :: starEach [] X.env:=by rfl) (hpl:(backTo pos (starEach [] X.env)).any (·.1)=false:=by rfl):DL X (.Call (.Name x p1) [a] [] pos) (Z.lSortB fa) :=
 PE.imp (jn call_sortB hg hm hv (a! ha cQ he) hn hdb he hpl) λ σ H Q ⟨ρ,d,r,e,k⟩=>by obtain⟨x,ea,e⟩:=Z.Res.ao e;obtain⟨ps,rfl,hl,rfl⟩:=Z.sortKB_ok e;refine⟨ρ,_,r,ea,λ v H1 s1 d1=>?_⟩;obtain⟨q,vs,rfl,hq,t⟩:=d1.lst;refine⟨q,vs,ps,rfl,hq,t,hl,λ l ws hl2 dw=>?_⟩;have s2:aD H1 (upd H1 l (.lst ws)):=bG hl2;exact k l _ _ (s1.trans s2) (s1.free hl2) aX (dw.up s2)
end
end ZS
namespace ZQ
open PySem PySem.Spec PyProof.Rows L2 ZS
theorem nG{X:Cx}{a:Expr}{pos:Pos}{fa:Z.EF}{x:Str}{p1:Pos}(hg:Gl X x)(hm:X.mg x=none)(hv:bootBuiltins x=some (.builtin "sorted"))(ha:QW X a fa)(hn:x ≠ "__name__" := by decide +kernel)(hdb:(x==("__debug__" : Str))=false:=by decide +kernel)
  (he:starEach (a :: []) X.env=(false,eval a X.env) :: starEach [] X.env:=by rfl) (hpl:(backTo pos (starEach [] X.env)).any (·.1)=false:=by rfl):QL X (.Call (.Name x p1) [a] [] pos) (Z.lSortB fa):=⟨ZS.nG hg hm hv ha.p hn hdb he hpl⟩
end ZQ
noncomputable section
namespace Z
def Ok{α:Type}(r:Res α)(Q:α->Prop):Prop:=∃a,r=.ok a∧Q a
theorem Ok.intro{α:Type}{r:Res α}{Q:α->Prop}{a:α}(h:r=.ok a)(q:Q a):Ok r Q:=⟨a,h,q⟩
theorem Ok.imp{α:Type}{r:Res α}{P Q:α->Prop}(h:Ok r P)(k:∀a,P a->Q a):Ok r Q:=let ⟨a,e,p⟩:=h;⟨a,e,k a p⟩
theorem Ok.eq{α:Type}{r:Res α}{a:α}(h:Ok r λ x=>x=a):r=.ok a:=by obtain⟨x,e,rfl⟩:=h;exact e
@[simp] theorem Ok_ok{α:Type}(a:α)(Q:α->Prop):Ok (.ok a) Q↔Q a:=⟨λ⟨_,e,q⟩=>by cases e;exact q,λ q=>⟨a,rfl,q⟩⟩
@[simp] theorem Ok_bad{α:Type}(Q:α->Prop):Ok (.bad:Res α) Q↔False:=⟨λ⟨_,e,_⟩=>(by cases e),False.elim⟩
@[simp] theorem Ok_bind{α β:Type}(r:Res α)(f:α->Res β)(Q:β->Prop):Ok (r.bind f) Q↔Ok r λ a=>Ok (f a) Q:=by
 cases r with
 | ok a=>simp
 | bad=>simp
@[simp] theorem Ok_map{α β:Type}(r:Res α)(f:α->β)(Q:β->Prop):Ok (r.map f) Q↔Ok r λ a=>Q (f a):=by
 cases r with
 | ok a=>simp
 | bad=>simp
@[simp] theorem Ok_guard{α:Type}(p:Prop)(r:Res α)(Q:α->Prop):Ok (guard p r) Q↔p∧Ok r Q:=by
 constructor
 ·rintro⟨a,e,q⟩;obtain⟨h,e⟩:=iB e;exact⟨h,a,e,q⟩
 ·rintro⟨h,k⟩;rw[guard_pos h];exact k
@[simp] theorem Ok_ite{α:Type}{c:Prop}[Decidable c](r r':Res α)(Q:α->Prop):Ok (if c then r else r') Q↔if c then Ok r Q else Ok r' Q:=by split<;>rfl
abbrev v(d:D):Option L:=some (.val d)
abbrev vi(i:Int):Option L:=some (.val (.int i))
abbrev vs(cs:List Nat):Option L:=some (.val (.str cs))
abbrev ow(xs:List D):Option L:=some (.own xs)
def asW:Option (Option L)->Res D
 | some (some (.val d))=>.ok d
 | some (some (.own xs))=>.ok (.lst xs)
 | some (some (.bor xs))=>.ok (.lst xs)
 | _=>.bad
def asV:Option (Option L)->Res D
 | some (some (.val d))=>.ok d
 | _=>.bad
@[simp] theorem eW_a(i:Nat)(ρ:Env):eW i ρ=asW ρ[i]?:=by
 unfold eW asW;cases ρ[i]? with
 | none=>rfl
 | some o=>cases o with
  | none=>rfl
  | some l=>cases l<;>rfl
@[simp] theorem eV_a(i:Nat)(ρ:Env):eV i ρ=asV ρ[i]?:=by
 unfold eV asV;cases ρ[i]? with
 | none=>rfl
 | some o=>cases o with
  | none=>rfl
  | some l=>cases l<;>rfl
@[simp] theorem asW_val(d:D):asW (some (some (.val d)))=.ok d:=rfl
@[simp] theorem asW_own(xs:List D):asW (some (some (.own xs)))=.ok (.lst xs):=rfl
@[simp] theorem asW_bor(xs:List D):asW (some (some (.bor xs)))=.ok (.lst xs):=rfl
@[simp] theorem asV_val(d:D):asV (some (some (.val d)))=.ok d:=rfl
theorem bq{b:SF}{ρ:Env}{d:D}(h:Ok (b ρ) λ fl=>bU (.ok fl)=.ok d):bU (b ρ)=.ok d:=by obtain⟨fl,e,q⟩:=h;rw[e,q]
theorem l6{b:SF}{ρ:Env}{P:D->Prop}(h:Ok (b ρ) λ fl=>Ok (bU (.ok fl)) P):Ok (bU (b ρ)) P:=by obtain⟨fl,e,q⟩:=h;rw[e];exact q
@[simp] theorem sCont_a(ρ:Env):sCont ρ=.ok (.ct ρ):=rfl
@[simp] theorem sBreak_a(ρ:Env):sBreak ρ=.ok (.bk ρ):=rfl
@[simp] theorem sGet_a(e:EF)(g:GF)(ρ:Env):sGet e g ρ=(e ρ).bind λ d=>(g d ρ).bind λ ρ'=>.ok (.nx ρ'):=rfl
@[simp] theorem gTup2(i j:Nat)(a b:D)(ρ:Env):fG [i,j] (.tup [a,b]) ρ=.ok ((ρ.set i (v a)).set j (v b)):=rfl
def appK(i:Nat)(ρ:Env)(d:D):Option (Option L)->Res Fl
 | some (some (.own xs))=>guard (xs.length < line) (.ok (.nx (ρ.set i (ow (xs++[d])))))
 | _=>.bad
@[simp] theorem sAppend_a(i:Nat)(e:EF)(ρ:Env):de i e ρ=(e ρ).bind λ d=>appK i ρ d ρ[i]?:=rfl
@[simp] theorem appK_own(i:Nat)(ρ:Env)(d:D)(xs:List D):appK i ρ d (some (some (.own xs)))=guard (xs.length < line) (.ok (.nx (ρ.set i (ow (xs++[d]))))):=rfl
def extK(i:Nat)(ρ:Env)(ys:List D):Option (Option L)->Res Fl
 | some (some (.own xs))=>guard (xs.length+ys.length≤line) (.ok (.nx (ρ.set i (ow (xs++ys)))))
 | _=>.bad
@[simp] theorem sExt_a(i:Nat)(l:LF)(ρ:Env):sExt i l ρ=(l ρ).bind λ ys=>extK i ρ ys ρ[i]?:=rfl
@[simp] theorem extK_own(i:Nat)(ρ:Env)(ys xs:List D):extK i ρ ys (some (some (.own xs)))=guard (xs.length+ys.length≤line) (.ok (.nx (ρ.set i (ow (xs++ys))))):=rfl
def frzK(i:Nat)(ρ:Env):Option (Option L)->Env
 | some (some (.own xs))=>ρ.set i (v (.lst xs))
 | _=>ρ
@[simp] theorem sFrz_a(i:Nat)(a:SF)(ρ:Env):sFrz i a ρ=a (frzK i ρ ρ[i]?):=by
 unfold sFrz fh frzK;cases ρ[i]? with
 | none=>rfl
 | some o=>cases o with
  | none=>rfl
  | some l=>cases l<;>rfl
@[simp] theorem frzK_own(i:Nat)(ρ:Env)(xs:List D):frzK i ρ (some (some (.own xs)))=ρ.set i (v (.lst xs)):=rfl
@[simp] theorem frzK_val(i:Nat)(ρ:Env)(d:D):frzK i ρ (some (some (.val d)))=ρ:=rfl
@[simp] theorem frzK_none(i:Nat)(ρ:Env):frzK i ρ (some none)=ρ:=rfl
def catK:D->D->Res (List D)
 | .lst xs,.lst ys=>guard (xs.length+ys.length≤line) (.ok (xs++ys))
 | _,_=>.bad
theorem lCat_k(a b:EF)(ρ:Env):lCat a b ρ=(a ρ).bind λ x=>(b ρ).bind λ y=>catK x y:=rfl
@[simp] theorem catK_lst(xs ys:List D):catK (.lst xs) (.lst ys)=guard (xs.length+ys.length≤line) (.ok (xs++ys)):=rfl
def slK(l h:Option Int):D->Res (List D)
 | .lst xs=>.ok (cut xs l h)
 | _=>.bad
theorem lSl_k(a:EF)(lo hi:PF)(ρ:Env):lSl a lo hi ρ=(a ρ).bind λ x=>(lo ρ).bind λ l=>(hi ρ).bind λ h=>slK l h x:=rfl
@[simp] theorem slK_lst(l h:Option Int)(xs:List D):slK l h (.lst xs)=.ok (cut xs l h):=rfl
@[simp] theorem oSl_tup(xs:List D)(l h:Option Int):oSl (.tup xs) l h=.ok (.tup (cut xs l h)):=rfl
@[simp] theorem oSl_str'(cs:List Nat)(l h:Option Int):oSl (.str cs) l h=guard (cs.length≤line) (.ok (.str (cut cs l h))):=rfl
@[simp] theorem oAdd_str'(a b:List Nat):bN (.str a) (.str b)=guard (a.length+b.length≤line) (.ok (.str (a++b))):=rfl
@[simp] theorem oAdd_tup'(a b:List D):bN (.tup a) (.tup b)=guard (a.length+b.length≤line) (.ok (.tup (a++b))):=rfl
@[simp] theorem oNeg_int(a:Int):oNeg (.int a)=.ok (.int (-a)):=rfl
@[simp] theorem oIsN_non:oIsN .non=.ok (.bl true):=rfl
@[simp] theorem oIsN_tup(xs:List D):oIsN (.tup xs)=.ok (.bl false):=rfl
@[simp] theorem oNotN_non:mV .non=.ok (.bl false):=rfl
@[simp] theorem oNotN_tup(xs:List D):mV (.tup xs)=.ok (.bl true):=rfl
theorem iy(a b:Nat)(hb:b≤1000000)(ha:a < 18446744073709551616):ki (.int (a:Int)) (.int (b:Int))=.ok (.int ((a ^ b:Nat):Int)):=by
 have h:(0:Int)≤b∧(b:Int)≤1000000∧(a:Int).natAbs < 2 ^ 64:=⟨by lia,by lia,by rw[Int.natAbs_natCast];exact ha⟩
 show guard _ _=_;rw[guard_pos h,Int.toNat_natCast,Int.natCast_pow]
@[simp] theorem p10_60:ki (.int 10) (.int 60)=.ok (.int 1000000000000000000000000000000000000000000000000000000000000):=iy 10 60 (by decide) (by decide)
@[simp] theorem p10_59:ki (.int 10) (.int 59)=.ok (.int 100000000000000000000000000000000000000000000000000000000000):=iy 10 59 (by decide) (by decide)
@[simp] theorem p10_55:ki (.int 10) (.int 55)=.ok (.int 10000000000000000000000000000000000000000000000000000000):=iy 10 55 (by decide) (by decide)
@[simp] theorem p10_50:ki (.int 10) (.int 50)=.ok (.int 100000000000000000000000000000000000000000000000000):=iy 10 50 (by decide) (by decide)
@[simp] theorem p7919_9:ki (.int 7919) (.int 9)=.ok (.int 122470950010456506152021579891552879):=iy 7919 9 (by decide) (by decide)
def atK:Option D->Res D
 | some d=>.ok d
 | none=>.bad
@[simp] theorem atK_some(d:D):atK (some d)=.ok d:=rfl
theorem oIx_tup(xs:List D)(i:Int):aY (.tup xs) (.int i)=atK ((ixZ xs.length i).bind λ j=>xs[j]?):=by show(match (ixZ xs.length i).bind λ j=>xs[j]? with | some v=>Res.ok v | none=>.bad)=_;cases (ixZ xs.length i).bind λ j=>xs[j]?<;>rfl
theorem oIx_lst(xs:List D)(i:Int):aY (.lst xs) (.int i)=atK ((ixZ xs.length i).bind λ j=>xs[j]?):=by show(match (ixZ xs.length i).bind λ j=>xs[j]? with | some v=>Res.ok v | none=>.bad)=_;cases (ixZ xs.length i).bind λ j=>xs[j]?<;>rfl
theorem lS{xs:List D}{i:Int}{j:Nat}{d:D}(h:i=j)(e:xs[j]?=some d):aY (.tup xs) (.int i)=.ok d∧aY (.lst xs) (.int i)=.ok d:=by
 subst h;have hj:j < xs.length:=(List.getElem?_eq_some_iff.mp e).1;have:ixZ xs.length (j:Int)=some j:=by simp[ixZ,hj]
 rw[oIx_tup,oIx_lst,this];simp[e]
theorem ix_strAt{cs:List Nat}{i:Int}{j c:Nat}(h:i=j)(e:cs[j]?=some c)(hl:cs.length≤line):aY (.str cs) (.int i)=.ok (.str [c]):=by
 subst h;have hj:j < cs.length:=(List.getElem?_eq_some_iff.mp e).1;have:ixZ cs.length (j:Int)=some j:=by simp[ixZ,hj]
 show guard (cs.length≤line) (match (ixZ cs.length (j:Int)).bind λ j=>cs[j]? with | some c=>Res.ok (D.str [c]) | none=>.bad)=_;rw[guard_pos hl,this];simp[e]
theorem ix_some{xs:List D}{i:Int}(h0:0≤i)(h1:i < xs.length):∃d∈xs,aY (.lst xs) (.int i)=.ok d∧aY (.tup xs) (.int i)=.ok d:=by
 have hj:i.toNat < xs.length:=by lia
 refine⟨xs[i.toNat],List.getElem_mem hj,?_⟩;have:=lS (xs:=xs) (i:=i) (j:=i.toNat) (d:=xs[i.toNat]) (by lia) (List.getElem?_eq_getElem hj);exact⟨this.2,this.1⟩
def turn(I:Env->Prop)(Q:Fl->Prop):Fl->Prop
 | .nx ρ=>I ρ
 | .ct ρ=>I ρ
 | .bk ρ=>Q (.nx ρ)
 | .rt d=>Q (.rt d)
@[simp] theorem turn_nx(I:Env->Prop)(Q:Fl->Prop)(ρ:Env):turn I Q (.nx ρ)↔I ρ:=Iff.rfl
@[simp] theorem turn_ct(I:Env->Prop)(Q:Fl->Prop)(ρ:Env):turn I Q (.ct ρ)↔I ρ:=Iff.rfl
@[simp] theorem turn_bk(I:Env->Prop)(Q:Fl->Prop)(ρ:Env):turn I Q (.bk ρ)↔Q (.nx ρ):=Iff.rfl
@[simp] theorem turn_rt(I:Env->Prop)(Q:Fl->Prop)(d:D):turn I Q (.rt d)↔Q (.rt d):=Iff.rfl
theorem for_ix{g:GF}{b:SF}{Q:Fl->Prop}(I:Nat->Env->Prop):∀(ds:List D)(ρ:Env)(i:Nat),I i ρ->(∀j d ρ,ds[j]?=some d->I (i+j) ρ->Ok (g d ρ) λ ρ1=>Ok (b ρ1) (turn (I (i+j+1)) Q))->(∀ρ,I (i+ds.length) ρ->Q (.nx ρ))->Ok (eX g b ds ρ) Q
 | [],ρ,i,h,_,e=>by simpa[eX]using e ρ h
 | d :: ds,ρ,i,h,k,e=>by
  obtain⟨ρ1,e1,fl,e2,t⟩:=k 0 d ρ rfl h;have ih:=λ ρ' (h':I (i+1) ρ')=>for_ix I (g:=g) (b:=b) (Q:=Q) ds ρ' (i+1) h' (λ j x ρ hj hP=>by have:=k (j+1) x ρ (by simpa using hj) (by simpa[Nat.add_assoc,Nat.add_comm 1 j]using hP);simpa[Nat.add_assoc,Nat.add_comm 1 j]using this) (λ ρ hP=>e ρ (by simpa[Nat.add_assoc,Nat.add_comm 1]using hP))
  unfold eX;rw[e1,Res.mT,e2,Res.mT];cases fl with
  | nx ρ'=>exact ih ρ' (by simpa using t)
  | ct ρ'=>exact ih ρ' (by simpa using t)
  | bk ρ'=>simpa using t
  | rt d=>simpa using t
theorem c5{g:GF}{b:SF}{Q:Fl->Prop}(I:Nat->Env->Prop){ds:List D}{ρ:Env}(h0:I 0 ρ)(hs:∀j d ρ,ds[j]?=some d->I j ρ->Ok (g d ρ) λ ρ1=>Ok (b ρ1) (turn (I (j+1)) Q))(he:∀ρ,I ds.length ρ->Q (.nx ρ)):Ok (eX g b ds ρ) Q :=
 for_ix I ds ρ 0 h0 (λ j d ρ hd hI=>by rw[Nat.zero_add]at hI ⊢;exact hs j d ρ hd hI) (λ ρ h=>he ρ (by rwa [Nat.zero_add]at h))
theorem for_all{g:GF}{b:SF}{Q:Fl->Prop}(I:Env->Prop){ds:List D}{ρ:Env}(h0:I ρ)(hs:∀d∈ds,∀ρ,I ρ->Ok (g d ρ) λ ρ1=>Ok (b ρ1) (turn I Q))(he:∀ρ,I ρ->Q (.nx ρ)):Ok (eX g b ds ρ) Q :=
 c5 (λ _=>I) h0 (λ j d ρ hd hI=>hs d (List.mem_of_getElem? hd) ρ hI) he
theorem comp_ok{g:GF}{t:TF}{e:EF}{ρ:Env}{ds:List D}{Q:List D->Prop}(p:D->Bool)(h:D->D)(hs:∀d∈ds,Ok (g d ρ) λ ρ1=>Ok (t ρ1) λ c=>c=p d∧(p d=true->Ok (e ρ1) λ y=>y=h d))(hq:Q ((ds.filter p).map h)):Ok (dh g t e ρ ds) Q:=by refine⟨_,lV (p:=p) (h:=h) ds λ d hd=>?_,hq⟩;obtain⟨ρ1,e1,c,e2,hc,k⟩:=hs d hd;exact⟨ρ1,e1,by rw[e2,hc],λ hp=>(k hp).eq⟩
theorem comp_map{g:GF}{e:EF}{ρ:Env}{ds:List D}{Q:List D->Prop}(h:D->D)(hs:∀d∈ds,Ok (g d ρ) λ ρ1=>Ok (e ρ1) λ y=>y=h d)(hq:Q (ds.map h)):Ok (dh g eK e ρ ds) Q:=by refine⟨_,compGo_map (h:=h) ds λ d hd=>?_,hq⟩;obtain⟨ρ1,e1,k⟩:=hs d hd;rw[e1];exact k.eq
theorem bE{α:Type}(enc:α->D){g:GF}{t:TF}{e:EF}{ρ:Env}(f:α->Bool)(h:α->D):∀{xs:List α}{Q:List D->Prop},(∀x∈xs,Ok (g (enc x) ρ) λ ρ1=>Ok (t ρ1) λ c=>c=f x∧(f x=true->Ok (e ρ1) λ y=>y=h x))->Q ((xs.filter f).map h)->Ok (dh g t e ρ (xs.map enc)) Q:=by
 intro xs Q hs hq;refine⟨_,?_,hq⟩;clear hq
 induction xs with
 | nil=>rfl
 | cons x xs ih =>
  obtain⟨ρ1,e1,c,e2,hc,k⟩:=hs x List.mem_cons_self;have ih':=ih λ y hy=>hs y (List.mem_cons_of_mem _ hy);cases hf:f x with
  | true =>rw[hf]at hc;have:=(k hf).eq;simp[dh,e1,e2,hc,this,ih',hf]
  | false =>rw[hf]at hc;simp[dh,e1,e2,hc,ih',hf]
theorem allEq_map{α:Type}[DecidableEq α]{f:D->D->Option Bool}{h:α->D}(k:∀x y,f (h x) (h y)=some (decide (x=y))):∀(xs ys:List α),allEq f (xs.map h) (ys.map h)=some (decide (xs=ys))
 | [],[]=>rfl
 | [],_ :: _=>rfl
 | _ :: _,[]=>rfl
 | x :: xs,y :: ys=>by simp[allEq,k,allEq_map k xs ys]
end Z
end
set_option maxRecDepth 4000
noncomputable section
namespace KG
open Z
def nT:SF:=(bY (eOr (eB oIn (eW 0) (gN (ab (eC (.str [46])) (ab (eC (.str [61])) aC)))) (eB oEq (eW 0) (eW 1))))
def nv:List D->Res D:=fn 2 2 nT
theorem fe_takes(x0 x1:D):nv [x0,x1]=bU (nT [some (.val x0),some (.val x1)]):=dC _ _ _ _ rfl
def jV:SF:=(aI (kh 2 (bZ aC)) (aI (gJ (iRng2 (eB aY (eW 1) (eC (.int 0))) (eB bN (eB aY (eW 1) (eC (.int 0))) (eB aY (eW 0) (eC (.int 2))))) (bf 3) (sExt 2 (bP (iRng2 (eB aY (eW 1) (eC (.int 1))) (eB bN (eB aY (eW 1) (eC (.int 1))) (eB aY (eW 0) (eC (.int 1))))) 1 [3] (bf 0) eK (gN (ab (eV 1) (ab (eV 0) aC)))))) (bY (eU cR (eW 2)))))
def dY:List D->Res D:=fn 2 4 jV
theorem fe_seats_of(x0 x1:D):dY [x0,x1]=bU (jV [some (.val x0),some (.val x1),none,none]):=dC _ _ _ _ rfl
def ff:SF:=(aI (sIf (tE (eB oLt (eW 1) (eU fF (eW 0)))) (bY (eB aY (eW 0) (eW 1))) dR) (bY (eC (.int 0))))
def aS:List D->Res D:=fn 2 2 ff
theorem kW(x0 x1:D):aS [x0,x1]=bU (ff [some (.val x0),some (.val x1)]):=dC _ _ _ _ rfl
def fC:SF:=(aI (bg 2 (eB aY (eW 1) (eC (.int 0)))) (aI (bg 3 (eB aY (eW 1) (eC (.int 1)))) (aI (sIf (tAnd (tE (eChain oLe oLt (eC (.int 0)) (eW 2) (eU fF (eW 0)))) (tE (eChain oLe oLt (eC (.int 0)) (eW 3) (eU fF (eB aY (eW 0) (eC (.int 0))))))) (bY (eB aY (eB aY (eW 0) (eW 2)) (eW 3))) dR) (bY (eC .non)))))
def jP:List D->Res D:=fn 2 4 fC
theorem fe_sign_at(x0 x1:D):jP [x0,x1]=bU (fC [some (.val x0),some (.val x1),none,none]):=dC _ _ _ _ rfl
def b_fits:SF:=(aI (bg 3 (eL (bP (fv (aJ dY (ab (eV 1) (ab (eV 2) aC)))) 1 [0] (bf 0) eK (aJ jP (ab (eV 1) (ab (eV 0) aC)))))) (aI (sIf (tNot (tE (eU oAll (eL (bP (fv (eW 3)) 1 [1] (bf 0) eK (aJ nv (ab (eV 0) (ab (eB aY (eW 1) (eC (.int 3))) aC)))))))) (bY (eC (.bl false))) dR) (bY (eB oGe (eB oCount (eW 3) (eC (.str [61]))) (eB aY (eW 1) (eC (.int 4)))))))
def fn_fits:List D->Res D:=fn 3 4 b_fits
theorem fe_fits(x0 x1 x2:D):fn_fits [x0,x1,x2]=bU (b_fits [some (.val x0),some (.val x1),some (.val x2),none]):=dC _ _ _ _ rfl
def iY:SF:=(aI (kh 2 (bZ aC)) (aI (gJ (hU (eU fF (eW 0))) (bf 3) (sExt 2 (bP (hU (eU fF (eB aY (eW 0) (eW 3)))) 1 [0,1,3] (bf 0) (tE (aJ fn_fits (ab (eV 1) (ab (eV 2) (ab (gN (ab (eV 3) (ab (eV 0) aC))) aC))))) (gN (ab (eV 3) (ab (eV 0) aC)))))) (bY (eU cR (eW 2)))))
def hW:List D->Res D:=fn 2 4 iY
theorem fe_places_of(x0 x1:D):hW [x0,x1]=bU (iY [some (.val x0),some (.val x1),none,none]):=dC _ _ _ _ rfl
def jX:SF:=(aI (sIf (tOr (tE (eB oLe (eB bN (eB aY (eW 1) (eC (.int 0))) (eB aY (eW 0) (eC (.int 2)))) (eB aY (eW 3) (eC (.int 0))))) (tE (eB oLe (eB bN (eB aY (eW 3) (eC (.int 0))) (eB aY (eW 2) (eC (.int 2)))) (eB aY (eW 1) (eC (.int 0)))))) (bY (eC (.bl true))) dR) (aI (bg 4 (eB oMax (eB aY (eW 0) (eC (.int 5))) (eB aY (eW 2) (eC (.int 5))))) (bY (eOr (eB oLe (eB bN (eB bN (eB aY (eW 1) (eC (.int 1))) (eB aY (eW 0) (eC (.int 1)))) (eW 4)) (eB aY (eW 3) (eC (.int 1)))) (eB oLe (eB bN (eB bN (eB aY (eW 3) (eC (.int 1))) (eB aY (eW 2) (eC (.int 1)))) (eW 4)) (eB aY (eW 1) (eC (.int 1))))))))
def ny:List D->Res D:=fn 4 5 jX
theorem fe_apart(x0 x1 x2 x3:D):ny [x0,x1,x2,x3]=bU (jX [some (.val x0),some (.val x1),some (.val x2),some (.val x3),none]):=dC _ _ _ _ rfl
def eF:SF:=(bY (eL (bP (iZip (eV 0) (eV 1)) 2 [] (fG [0,1]) (tE (eU mV (eW 1))) (gN (ab (eV 0) (ab (eV 1) aC))))))
def cM:List D->Res D:=fn 2 2 eF
theorem nA(x0 x1:D):cM [x0,x1]=bU (eF [some (.val x0),some (.val x1)]):=dC _ _ _ _ rfl
def eG:SF:=(bY (eU oAll (eL (bP (fv (eW 2)) 2 [0,1] (fG [0,1]) eK (aJ ny (ab (eV 2) (ab (eV 3) (ab (eV 0) (ab (eV 1) aC)))))))))
def dE:List D->Res D:=fn 3 3 eG
theorem nC(x0 x1 x2:D):dE [x0,x1,x2]=bU (eG [some (.val x0),some (.val x1),some (.val x2)]):=dC _ _ _ _ rfl
end KG
end
namespace KG
open Z
abbrev Rows:=List (List Nat)
abbrev Pl:=Int×Int
structure Hall(rows:Rows)(C:Nat):Prop where
 r1:1≤rows.length
 r2:rows.length≤100
 c1:1≤C
 c2:C≤100
 len:∀x∈rows,x.length=C
structure G where
 name:List Nat
 w:Nat
 d:Nat
 kind:List Nat
 wide:Nat
 gap:Nat
 worth:D
 wishes:D
structure GOk(g:G):Prop where
 w1:1≤g.w
 w2:g.w≤13
 d1:1≤g.d
 d2:g.d≤4
 kd:g.kind.length≤1
 wd:g.wide≤100
 gp:g.gap≤100
def b?(rows:Rows):D:=.tup (rows.map .str)
def az(p:Pl):D:=.tup [.int p.1,.int p.2]
def aQ(g:G):D:=.tup [.str g.name,.int g.w,.int g.d,.str g.kind,.int g.wide,.int g.gap,g.worth,g.wishes]
def kX:Option Nat->D
 | some c=>.str [c]
 | none=>.non
@[simp] theorem p_ix0(p:Pl):aY (az p) (.int 0)=.ok (.int p.1):=rfl
@[simp] theorem p_ix1(p:Pl):aY (az p) (.int 1)=.ok (.int p.2):=rfl
@[simp] theorem g_ix0(g:G):aY (aQ g) (.int 0)=.ok (.str g.name):=rfl
@[simp] theorem g_ix1(g:G):aY (aQ g) (.int 1)=.ok (.int g.w):=rfl
@[simp] theorem g_ix2(g:G):aY (aQ g) (.int 2)=.ok (.int g.d):=rfl
@[simp] theorem g_ix3(g:G):aY (aQ g) (.int 3)=.ok (.str g.kind):=rfl
@[simp] theorem g_ix4(g:G):aY (aQ g) (.int 4)=.ok (.int g.wide):=rfl
@[simp] theorem g_ix5(g:G):aY (aQ g) (.int 5)=.ok (.int g.gap):=rfl
@[simp] theorem g_ix6(g:G):aY (aQ g) (.int 6)=.ok g.worth:=rfl
@[simp] theorem g_ix7(g:G):aY (aQ g) (.int 7)=.ok g.wishes:=rfl
@[simp] theorem h_len(rows:Rows):fF (b? rows)=.ok (.int rows.length):=by simp[b?]
@[simp] theorem tup_P(a b:Int):D.tup [.int a,.int b]=az (a,b):=rfl
theorem cA(ρ:Env)(is:List Nat):jd ρ is=is.map (lW ρ):=rfl
def captK:Option (Option L)->Option L
 | some (some (.val d))=>some (.val d)
 | some (some (.bor xs))=>some (.bor xs)
 | some (some (.fdc ks))=>some (.fdc ks)
 | _=>none
theorem bX(ρ:Env)(i:Nat):lW ρ i=captK ρ[i]?:=by
 unfold lW captK;cases ρ[i]? with
 | none=>rfl
 | some o=>cases o with
  | none=>rfl
  | some l=>cases l<;>rfl
@[simp] theorem captK_bor(xs:List D):captK (some (some (.bor xs)))=some (.bor xs):=rfl
@[simp] theorem captK_fdc(ks:List (List Int)):captK (some (some (.fdc ks)))=some (.fdc ks):=rfl
@[simp] theorem captK_val(d:D):captK (some (some (.val d)))=some (.val d):=rfl
theorem Hall.row{rows:Rows}{C:Nat}(H:Hall rows C){r:Nat}(h:r < rows.length):∃row,rows[r]?=some row∧row.length=C∧aY (b? rows) (.int r)=.ok (.str row):=by refine⟨rows[r],List.getElem?_eq_getElem h,H.len _ (List.getElem_mem h),(lS (j:=r) rfl ?_).1⟩;rw[List.getElem?_map,List.getElem?_eq_getElem h];rfl
theorem Hall.l5{rows:Rows}{C:Nat}(H:Hall rows C):∃row,row.length=C∧aY (b? rows) (.int 0)=.ok (.str row):=by obtain⟨row,_,h1,h2⟩:=H.row (r:=0) H.r1;exact⟨row,h1,h2⟩
def aN(rows:Rows)(p:Pl):Option Nat:=if 0≤p.1∧0≤p.2 then(rows[p.1.toNat]?).bind (λ r=>r[p.2.toNat]?)else none
theorem sign_in{rows:Rows}{C:Nat}(H:Hall rows C){p:Pl}(h1:0≤p.1)(h2:p.1 < rows.length)(h3:0≤p.2)(h4:p.2 < C):∃row c,aY (b? rows) (.int p.1)=.ok (.str row)∧row.length=C∧aY (.str row) (.int p.2)=.ok (.str [c])∧aN rows p=some c:=by
 obtain⟨row,e1,hl,e2⟩:=H.row (r:=p.1.toNat) (by lia);rw[Int.toNat_of_nonneg h1]at e2;have hc:p.2.toNat < row.length:=by lia
 have hl':=H.c2;refine⟨row,row[p.2.toNat],e2,hl,ix_strAt (j:=p.2.toNat) (by lia) (List.getElem?_eq_getElem hc) (by simp only[line];lia),?_⟩;simp[aN,h1,h3,e1,hc]
theorem mF{rows:Rows}{C:Nat}(H:Hall rows C){p:Pl}(h:¬(0≤p.1∧p.1 < rows.length∧0≤p.2∧p.2 < C)):aN rows p=none:=by
 unfold aN;by_cases h0:0≤p.1∧0≤p.2
 ·rw[if_pos h0];cases e:rows[p.1.toNat]? with
  | none=>rfl
  | some row =>obtain⟨h1,h2⟩:=List.getElem?_eq_some_iff.mp e;have:=H.len row (List.mem_of_getElem? e);simp only[Option.bind_some];exact List.getElem?_eq_none (by lia)
 ·rw[if_neg h0]
theorem sign_ok{rows : Rows}{C : Nat}(H : Hall rows C)(p : Pl): jP [b? rows, az p] = .ok (kX (aN rows p)) := by
 rw[fe_sign_at];refine bq ?_;obtain⟨l5,hl0,e0⟩:=H.l5;have hc2:=H.c2;have hln:C≤line:=by simp only[line];lia
 by_cases h:0≤p.1∧p.1 < rows.length∧0≤p.2∧p.2 < C
 ·obtain⟨row,c,e1,_,e2,e3⟩:=sign_in H h.1 h.2.1 h.2.2.1 h.2.2.2;simp[fC,e0,hl0,hln,h.1,h.2.1,h.2.2.1,h.2.2.2,e1,e2,e3,kX]
 ·rw [mF H h];have hr1:=H.r1;by_cases a1:0≤p.1
  ·by_cases a2:p.1 < rows.length
   ·by_cases a3:0≤p.2
    ·have a4:¬p.2 < C:=λ z=>h ⟨a1,a2,a3,z⟩;simp[fC,e0,hl0,hln,a1,a2,a3,a4,kX]
    ·simp[fC,e0,hl0,hln,a1,a2,a3,kX]
   ·simp[fC,e0,hl0,hln,a1,a2,kX]
  ·simp[fC,e0,hl0,hln,a1,kX]
def bR(kind:List Nat):Option Nat->Bool
 | some c=>decide (c=46∨c=61∨kind=[c])
 | none=>false
theorem eqD_sn(c:List Nat):km (.str c) .non=some false:=rfl
theorem eqD_ns(c:List Nat):km .non (.str c)=some false:=rfl
theorem eqD_ss(a b:List Nat):km (.str a) (.str b)=some (a==b):=rfl
theorem in2(c:Nat):oIn (.str [c]) (.tup [.str [46],.str [61]])=.ok (.bl (decide (c=46∨c=61))):=by
 simp only[oIn,ka,eqD_ss];by_cases h1:c=46
 ·subst h1;rfl
 ·by_cases h2:c=61
  ·subst h2;rfl
  ·have h1':¬46=c:=λ h=>h1 h.symm;have h2':¬61=c:=λ h=>h2 h.symm;simp[h1,h2,h1',h2']
theorem takes_ok(s : Option Nat)(k : List Nat): nv [kX s, .str k] = .ok (.bl (bR k s)) := by
 rw[fe_takes];refine bq ?_;cases s with
 | none=>simp[nT,kX,bR,line,oIn,ka,eqD_ns,eqD_sn,oEq]
 | some c =>
  simp[nT,kX,bR,line,in2];by_cases h1:c=46
  ·simp[h1]
  ·by_cases h2:c=61
   ·simp[h2]
   ·by_cases h3:k=[c]
    ·subst h3;simp[h1,h2]
    ·have h3':¬[c]=k:=λ h=>h3 h.symm;simp[h1,h2,h3,h3']
def dj(w:Nat)(r c:Int):List Pl:=(List.range w).map λ j=>(r,c+(j:Nat))
def fJ(w:Nat)(p:Pl)(n:Nat):List Pl:=(List.range n).flatMap λ i=>dj w (p.1+(i:Nat)) p.2
def seats(g:G)(p:Pl):List Pl:=fJ g.w p g.d
theorem ku(w:Nat)(p:Pl)(n:Nat):fJ w p (n+1)=fJ w p n++dj w (p.1+(n:Nat)) p.2:=by simp[fJ,List.range_succ,List.flatMap_append]
theorem rowSeats_len(w:Nat)(r c:Int):(dj w r c).length=w:=by simp[dj]
theorem jC(w:Nat)(p:Pl)(n:Nat):(fJ w p n).length=n*w:=by
 induction n with
 | zero=>simp[fJ]
 | succ n ih=>rw[ku,List.length_append,ih,rowSeats_len,Nat.succ_mul]
theorem ints_map(lo:Int)(n:Nat):da lo n=(List.range n).map λ i=>D.int (lo+(i:Nat)):=rfl
theorem ints_get{lo:Int}{n j:Nat}{d:D}(h:(da lo n)[j]?=some d):j < n∧d=.int (lo+(j:Nat)):=by
 rw[ints_map,List.getElem?_map]at h;cases q:(List.range n)[j]? with
 | none=>rw[q]at h;cases h
 | some i =>rw[q]at h;obtain⟨h1,h2⟩:=List.getElem?_eq_some_iff.mp q;rw[List.length_range]at h1;rw[List.getElem_range]at h2;subst h2;simp at h;exact⟨h1,h.symm⟩
theorem toNat_sub(a:Int)(n:Nat):(a+(n:Int)-a).toNat=n:=by lia
theorem mG{g : G}(k : GOk g)(p : Pl): dY [aQ g, az p] = .ok (.tup ((seats g p).map az)) := by
 rw[fe_seats_of];refine bq ?_;have hw:=k.w2;have hd:=k.d2;simp[jV,toNat_sub,line];refine c5 (λ i ρ=>∃x,ρ=[v (aQ g),v (az p),ow ((fJ g.w p i).map az),x]) ⟨none,rfl⟩ ?_ ?_
 ·rintro j d ρ hj ⟨x,rfl⟩;obtain⟨hj,rfl⟩:=ints_get hj;simp[bI,toNat_sub,line,cA,bX];refine⟨by lia,comp_map (λ d=>.tup [.int (p.1+(j:Nat)),d]) ?_ ?_⟩
  ·rintro d hd;obtain⟨i,hi⟩:=List.getElem?_of_mem hd;obtain⟨_,rfl⟩:=ints_get hi;simp[line]
  ·refine⟨?_,?_⟩
   ·rw[List.length_map,jC,fP];have:j*g.w≤4*13:=Nat.mul_le_mul (by lia) hw;lia
   ·simp[ku,dj,ints_map]
 ·rintro ρ ⟨x,rfl⟩;simp[seats]
def j'(rows:Rows)(s:Pl):Bool:=aN rows s==some 61
def bC(rows:Rows)(g:G)(p:Pl):Bool:=(seats g p).all (λ s=>bR g.kind (aN rows s))&&decide (g.wide≤(seats g p).countP (j' rows))
theorem cnt_wide(rows:Rows):∀(ss:List Pl),cntEq (.str [61]) (ss.map λ s=>kX (aN rows s))=some (ss.countP (j' rows))
 | []=>rfl
 | s :: ss=>by
  rw[List.map_cons,cntEq,cnt_wide rows ss,List.countP_cons];cases e:aN rows s with
  | none=>simp[kX,j',e,eqD_sn,eqD_ns]
  | some c=>simp[kX,j',e,eqD_ss]
theorem all_map{α:Type}(f:α->Bool)(xs:List α):allB (xs.map λ x=>D.bl (f x))=some (xs.all f):=by
 have:=allB_bl (xs.map f);rw[List.map_map]at this;rw[show(xs.map λ x=>D.bl (f x))=xs.map (D.bl∘f)from rfl,this]
 congr 1
 induction xs with
 | nil=>rfl
 | cons x xs ih=>simp
theorem fits_ok{rows : Rows}{C : Nat}(H : Hall rows C){g : G}(k : GOk g)(p : Pl): fn_fits [b? rows, aQ g, az p] = .ok (.bl (bC rows g p)) := by
 rw[fe_fits];refine bq ?_;have hlen:(seats g p).length≤16777216:=by rw[seats,jC];have:g.d*g.w≤4*13:=Nat.mul_le_mul k.d2 k.w2;lia
 simp[b_fits,bI,mG k,line,cA,bX,hlen];refine comp_map (λ d=>match d with | .tup [.int a,.int b]=>kX (aN rows (a,b)) | _=>.non) ?_ ?_
 ·intro d hd;obtain⟨q,_,rfl⟩:=List.mem_map.mp hd;simp[sign_ok H];rfl
 ·have e1:(List.map az (seats g p)).map (λ d=>match d with | .tup [.int a,.int b]=>kX (aN rows (a,b)) | _=>.non)=(seats g p).map λ s=>kX (aN rows s):=by rw[List.map_map];rfl
  rw[e1];simp[bI,line,hlen,cA,bX];refine comp_map (λ d=>match d with | .str [c]=>.bl (bR g.kind (some c)) | _=>.bl false) ?_ ?_
  ·intro d hd;obtain⟨q,_,rfl⟩:=List.mem_map.mp hd;simp[takes_ok];cases aN rows q<;>rfl
  ·have e2:((seats g p).map λ s=>kX (aN rows s)).map (λ d=>match d with | .str [c]=>D.bl (bR g.kind (some c)) | _=>D.bl false)=(seats g p).map λ s=>D.bl (bR g.kind (aN rows s)):=by rw[List.map_map];apply List.map_congr_left;intro s _;show(match kX (aN rows s)with | .str [c]=>D.bl (bR g.kind (some c)) | _=>D.bl false)=_;cases aN rows s<;>rfl
   rw[e2];simp only[oAll,all_map,Ok_ok];cases ha:(seats g p).all λ s=>bR g.kind (aN rows s)with
   | false=>simp[bC,ha]
   | true=>simp[bC,ha,oCount,cnt_wide]
def okS(rows:Rows)(g:G)(s:Pl):Bool:=bR g.kind (aN rows s)
theorem all_false{α:Type}{f:α->Bool}{xs:List α}{x:α}(h:x∈xs)(e:f x=false):xs.all f=false:=by rw[Bool.eq_false_iff];intro z;rw[List.all_eq_true]at z;rw[z x h]at e;cases e
theorem mem_row{w j:Nat}{r c:Int}(h:j < w):(r,c+(j:Nat))∈dj w r c:=List.mem_map.mpr ⟨j,List.mem_range.mpr h,rfl⟩
theorem mem_seats{g:G}{p:Pl}{i j:Nat}(hi:i < g.d)(hj:j < g.w):(p.1+(i:Nat),p.2+(j:Nat))∈seats g p :=
 List.mem_flatMap.mpr ⟨i,List.mem_range.mpr hi,mem_row hj⟩
theorem fits_false{rows:Rows}{g:G}{p s:Pl}(h:s∈seats g p)(e:okS rows g s=false):bC rows g p=false:=by unfold bC;have:=all_false (f:=okS rows g) h e;rw[show(seats g p).all (λ s=>bR g.kind (aN rows s))=(seats g p).all (okS rows g)from rfl,this];rfl
def ck(r C:Nat):List Pl:=(List.range C).map λ(c:Nat)=>(((r:Nat):Int),((c:Nat):Int))
def cO(n C:Nat):List Pl:=(List.range n).flatMap λ r=>ck r C
theorem gn(n C:Nat):cO (n+1) C=cO n C++ck n C:=by simp[cO,List.range_succ,List.flatMap_append]
theorem jm(r C:Nat):(ck r C).length=C:=by simp[ck]
theorem ir(n C:Nat):(cO n C).length=n*C:=by
 induction n with
 | zero=>simp[cO]
 | succ n ih=>rw[gn,List.length_append,ih,jm,Nat.succ_mul]
def places(rows:Rows)(C:Nat)(g:G):List Pl:=(cO rows.length C).filter (bC rows g)
theorem places_of_ok{rows : Rows}{C : Nat}(H : Hall rows C){g : G}(k : GOk g): hW [b? rows, aQ g] = .ok (.tup ((places rows C g).map az)) := by
 rw[fe_places_of];refine bq ?_;have hc2:=H.c2;have hr2:=H.r2;simp[iY,line];refine c5 (λ i ρ=>i≤rows.length∧∃x,ρ=[v (b? rows),v (aQ g),ow (((cO i C).filter (bC rows g)).map az),x]) ⟨Nat.zero_le _,none,rfl⟩ ?_ ?_
 ·rintro i d ρ hi ⟨_,x,rfl⟩;obtain⟨hi',rfl⟩:=ints_get hi;obtain⟨row,_,hl,e1⟩:=H.row hi';have hln:C≤16777216:=by lia
  simp[e1,hl,bI,line,cA,bX,hln];refine comp_ok (λ d=>match d with | .int c=>bC rows g ((i:Int),c) | _=>false) (λ d=>.tup [.int (i:Nat),d]) ?_ ?_
  ·intro d hd;obtain⟨c,hc⟩:=List.getElem?_of_mem hd;obtain⟨_,rfl⟩:=ints_get hc;simp[line,fits_ok H k]
  ·have e2:((da 0 C).filter (λ d=>match d with | .int c=>bC rows g ((i:Int),c) | _=>false)).map (λ d=>D.tup [.int (i:Nat),d])=((ck i C).filter (bC rows g)).map az:=by
    rw[ints_map,ck,List.filter_map,List.filter_map,List.map_map,List.map_map]
    congr 1
    ·funext c;simp
    ·congr 1;funext c;simp
   rw[e2,gn,List.filter_append,List.map_append];have h1:=List.length_filter_le (bC rows g) (cO i C);have h2:=List.length_filter_le (bC rows g) (ck i C);rw[ir]at h1;rw[jm]at h2;have h3:i*C≤100*100:=Nat.mul_le_mul (by lia) hc2;refine⟨?_,by lia,rfl⟩;rw[List.length_map];lia
 ·rintro ρ ⟨_,x,rfl⟩;simp[places]
def bK(g:G)(p:Pl)(h:G)(q:Pl):Bool:=decide (p.1+g.d≤q.1∨q.1+h.d≤p.1∨p.2+g.w+max (g.gap:Int) (h.gap:Int)≤q.2∨q.2+h.w+max (g.gap:Int) (h.gap:Int)≤p.2)
theorem apart_ok(g:G)(p:Pl)(h:G)(q:Pl):ny [aQ g,az p,aQ h,az q]=.ok (.bl (bK g p h q)):=by
 rw[fe_apart];refine bq ?_;by_cases h1:p.1+g.d≤q.1
 ·simp[jX,bK,h1]
 ·by_cases h2:q.1+h.d≤p.1
  ·simp[jX,bK,h1,h2]
  ·by_cases h3:p.2+g.w+max (g.gap:Int) h.gap≤q.2
   ·simp[jX,bK,h1,h2,h3]
   ·simp[jX,bK,h1,h2,h3]
end KG
set_option maxRecDepth 8000
namespace KG
open Z
def Bd(ns:List Int):Prop:=∀i∈ns,bits i≤2 ^ 20
theorem iX{ns:List Int}(hb:Bd ns){k:Int}(h:0≤k):∃c,aS [.lst (ns.map .int),.int k]=.ok (.int c)∧bits c≤2 ^ 20:=by
 by_cases hk:k < ns.length
 ·have hj:k.toNat < ns.length:=by lia
  have e:=(lS (xs:=ns.map D.int) (i:=k) (j:=k.toNat) (d:=.int ns[k.toNat]) (by lia) (by simp[hj])).2;refine⟨ns[k.toNat],?_,hb _ (List.getElem_mem hj)⟩;rw[kW];refine bq ?_;simp[ff,hk,e]
 ·refine⟨0,?_,by decide⟩;rw[kW];refine bq ?_;simp[ff,hk]
theorem lA(z:Int):∃q∈bO,aY (.str bO) (.int (z % 26))=.ok (.str [q]) :=
 ix_str (by lia) (by simp[bO];lia) (by decide)
theorem nc{q:Nat}(h:q∈bO):q∈signs:=(by decide:∀q∈bO,q∈signs) q h
structure HallG(rows:Rows)(C:Nat):Prop extends Hall rows C where
 r6:rows.length≤6
 c12:C≤12
 sg:∀x∈rows,∀c∈x,c∈signs
theorem hallG{rows:Rows}{C:Nat}(h1:1≤rows.length)(h2:rows.length≤6)(h3:1≤C)(h4:C≤12)(h:∀x∈rows,x.length=C∧∀c∈x,c∈signs):HallG rows C :=
 ⟨⟨h1,by lia,h3,by lia,λ x hx=>(h x hx).1⟩,h2,h4,λ x hx=>(h x hx).2⟩
def j5(C i:Nat)(rows:Rows):Prop:=rows.length=i∧∀x∈rows,x.length=C∧∀c∈x,c∈signs
def LineOk(j:Nat)(ln:List Nat):Prop:=ln.length=j∧∀c∈ln,c∈signs
theorem LineOk.nil:LineOk 0 []:=⟨rfl,λ c h=>by cases h⟩
theorem j5.nil(C:Nat):j5 C 0 []:=⟨rfl,λ c h=>by cases h⟩
theorem j5.add{C i:Nat}{rows:Rows}{ln:List Nat}(h:j5 C i rows)(hl:LineOk C ln):j5 C (i+1) (rows++[ln]) :=
 ⟨by simp [h.1],λ c hc=>by
  rcases List.mem_append.mp hc with hc | hc
  ·exact h.2 c hc
  ·rw[List.mem_singleton.mp hc];exact hl⟩
theorem gZ{z:Int}(h:0≤z):∃n:Nat,z=n:=⟨z.toNat,by lia⟩
theorem kS{xs:List D}{i:Int}{Q:D->Prop}(h0:0≤i)(h1:i < xs.length)(h:∀d∈xs,Q d):Ok (aY (.lst xs) (.int i)) Q:=by obtain⟨d,hd,e,_⟩:=ix_some h0 h1;exact⟨d,e,h d hd⟩
theorem two_at(a b:D)(p:Prop)[Decidable p]:aY (.lst [a,b]) (.int (if p then 1 else 0))=.ok (if p then b else a):=by
 by_cases h:p
 ·rw[if_pos h,if_pos h];rfl
 ·rw[if_neg h,if_neg h];rfl
end KG
namespace KG
open Z
structure GrpG(g:G):Prop extends GOk g where
 w12:g.w≤12
 d3:g.d≤3
 kl:g.kind=[]∨∃c∈bO,g.kind=[c]
 wdd:g.wide≤g.w*g.d
 g6:g.gap≤6
 wsh:∃(wt:Int)(ws:List Pl),ws.length≤6∧g.worth=.int wt∧g.wishes=.tup (ws.map az)
theorem grpG{g:G}(h1:1≤g.w)(h2:g.w≤12)(h3:1≤g.d)(h4:g.d≤3)(h5:g.kind=[]∨∃c∈bO,g.kind=[c])(h6:g.wide≤g.w*g.d)(h7:g.gap≤6)(h8:∃(wt:Int)(ws:List Pl),ws.length≤6∧g.worth=.int wt∧g.wishes=.tup (ws.map az)):GrpG g :=
 ⟨⟨h1,by lia,h3,by lia,by rcases h5 with h | ⟨c,_,h⟩<;>rw [h]<;>simp,by have:g.w*g.d≤12*3:=Nat.mul_le_mul h2 h4;lia,by lia⟩,h2,h4,h5,h6,h7,h8⟩
end KG
noncomputable section
namespace KG
open Z
@[simp] theorem isTy_bl(b:Bool):isTy .bool (.bl b)=true:=rfl
@[simp] theorem isTy_tup(xs:List D):isTy .tuple (.tup xs)=true:=rfl
@[simp] theorem isTy_P(p:Pl):isTy .tuple (az p)=true:=rfl
@[simp] theorem isTy_int(i:Int):isTy .int (.int i)=true:=rfl
@[simp] theorem isTy_intb(i:Int):isTy .bool (.int i)=false:=rfl
theorem eqP(n:Nat)(p q:Pl):iK (n+1) (az p) (az q)=some (decide (p=q)):=by
 show allEq (iK n) [.int p.1,.int p.2] [.int q.1,.int q.2]=_;have e:∀a b:Int,iK n (.int a) (.int b)=some (decide (a=b)):=λ a b=>by cases n<;>rfl
 simp only[allEq,e]
 congr 1
 rw[Bool.eq_iff_iff];simp[Prod.ext_iff]
theorem eqPs(n:Nat)(ps qs:List Pl):allEq (iK (n+1)) (ps.map az) (qs.map az)=some (decide (ps=qs)):=allEq_map (eqP n) ps qs
theorem eqIs(n:Nat)(ps qs:List Int):allEq (iK n) (ps.map D.int) (qs.map D.int)=some (decide (ps=qs)):=allEq_map (λ a b=>by cases n<;>rfl) ps qs
@[simp] theorem neP(ps qs:List Pl):oNe (.lst (ps.map az)) (.lst (qs.map az))=.ok (.bl (!decide (ps=qs))):=by have:km (.lst (ps.map az)) (.lst (qs.map az))=some (decide (ps=qs)):=eqPs 4 ps qs;unfold oNe;rw[this]
@[simp] theorem eqPl(ps qs:List Pl):oEq (.lst (ps.map az)) (.lst (qs.map az))=.ok (.bl (decide (ps=qs))):=by have:km (.lst (ps.map az)) (.lst (qs.map az))=some (decide (ps=qs)):=eqPs 4 ps qs;unfold oEq;rw[this]
@[simp] theorem eqPt(ps qs:List Pl):oEq (.tup (ps.map az)) (.tup (qs.map az))=.ok (.bl (decide (ps=qs))):=by have:km (.tup (ps.map az)) (.tup (qs.map az))=some (decide (ps=qs)):=eqPs 4 ps qs;unfold oEq;rw[this]
@[simp] theorem neI(ps qs:List Int):oNe (.lst (ps.map D.int)) (.lst (qs.map D.int))=.ok (.bl (!decide (ps=qs))):=by have:km (.lst (ps.map D.int)) (.lst (qs.map D.int))=some (decide (ps=qs)):=eqIs 5 ps qs;unfold oNe;rw[this]
theorem anyP(p:Pl):∀(qs:List Pl),ka (az p) (qs.map az)=some (decide (p∈qs))
 | []=>rfl
 | q :: qs=>by
  rw[List.map_cons,ka,anyP p qs,show km (az q) (az p)=some (decide (q=p))from eqP 5 q p];show some (decide (q=p) || decide (p∈qs))=_
  congr 1
  rw[Bool.eq_iff_iff];simp only[Bool.or_eq_true,decide_eq_true_eq,List.mem_cons];exact⟨λ h=>h.imp Eq.symm id,λ h=>h.imp Eq.symm id⟩
@[simp] theorem inPt(p:Pl)(qs:List Pl):oIn (az p) (.tup (qs.map az))=.ok (.bl (decide (p∈qs))):=by simp only[oIn,anyP]
@[simp] theorem notInPt(p:Pl)(qs:List Pl):oNotIn (az p) (.tup (qs.map az))=.ok (.bl (!decide (p∈qs))):=by simp only[oNotIn,anyP]
end KG
end
noncomputable section
namespace KG
open Z
def ltP(p q:Pl):Prop:=p.1 < q.1∨p.1=q.1∧p.2 < q.2
theorem rowPl_sorted(r C:Nat):(ck r C).Pairwise ltP:=by unfold ck;rw[List.pairwise_map];refine(List.pairwise_lt_range (n:=C)).imp ?_;intro a b h;exact .inr ⟨rfl,by show((a:Nat):Int) < (b:Nat);lia⟩
theorem mem_rowPl{r C:Nat}{p:Pl}(h:p∈ck r C):p.1=r∧0≤p.2∧p.2 < C:=by obtain⟨c,hc,rfl⟩:=List.mem_map.mp h;rw[List.mem_range]at hc;exact⟨rfl,by show(0:Int)≤(c:Nat);lia,by show((c:Nat):Int) < C;lia⟩
theorem fA{n C:Nat}{p:Pl}:p∈cO n C↔0≤p.1∧p.1 < n∧0≤p.2∧p.2 < C:=by
 constructor
 ·intro h;obtain⟨r,hr,h⟩:=List.mem_flatMap.mp h;rw[List.mem_range]at hr;obtain⟨h1,h2,h3⟩:=mem_rowPl h;exact⟨by lia,by lia,h2,h3⟩
 ·rintro⟨h1,h2,h3,h4⟩;refine List.mem_flatMap.mpr ⟨p.1.toNat,List.mem_range.mpr (by lia),List.mem_map.mpr ⟨p.2.toNat,List.mem_range.mpr (by lia),?_⟩⟩;apply Prod.ext
  ·show((p.1.toNat:Nat):Int)=p.1;lia
  ·show((p.2.toNat:Nat):Int)=p.2;lia
theorem allPl_sorted(n C:Nat):(cO n C).Pairwise ltP:=by
 induction n with
 | zero=>simp[cO]
 | succ n ih =>rw[gn,List.pairwise_append];refine⟨ih,rowPl_sorted n C,λ a ha b hb=>?_⟩;have h1:=fA.mp ha;have h2:=mem_rowPl hb;exact .inl (by lia)
theorem lP(rows:Rows)(C:Nat)(g:G):(places rows C g).Pairwise ltP:=(allPl_sorted _ _).filter _
theorem take_snoc{α:Type}{xs:List α}{i:Nat}{x:α}(h:xs[i]?=some x):xs.take (i+1)=xs.take i++[x]:=by rw[List.take_add_one,h];rfl
theorem places_len{rows:Rows}{C:Nat}(H:Hall rows C)(g:G):(places rows C g).length≤10000:=by have h1:=List.length_filter_le (bC rows g) (cO rows.length C);rw[ir]at h1;have:rows.length*C≤100*100:=Nat.mul_le_mul H.r2 H.c2;unfold places;lia
end KG
end
set_option maxRecDepth 4000
namespace KG
open Z
end KG
set_option maxRecDepth 8000
namespace KG
open Z
abbrev GP:=G×Pl
abbrev GO:=G×Option Pl
def cy:Option Pl->D
 | none=>.non
 | some p=>az p
@[simp] theorem encO_some(p:Pl):cy (some p)=az p:=rfl
@[simp] theorem encO_none:cy none=.non:=rfl
def encX(x:GP):D:=.tup [aQ x.1,az x.2]
def encY(x:GO):D:=.tup [aQ x.1,cy x.2]
theorem zip_Y:∀(xs:List GO),gR (xs.map λ x=>aQ x.1) (xs.map λ x=>cy x.2)=xs.map encY
 | []=>rfl
 | x :: xs=>by simp[gR,zip_Y xs];rfl
@[simp] theorem notN_O(o:Option Pl):mV (cy o)=.ok (.bl o.isSome):=by cases o<;>rfl
@[simp] theorem isN_O(o:Option Pl):oIsN (cy o)=.ok (.bl o.isNone):=by cases o<;>rfl
@[simp] theorem gX(x:GP)(i j:Nat)(ρ:Env):fG [i,j] (encX x) ρ=.ok ((ρ.set i (v (aQ x.1))).set j (v (az x.2))):=rfl
@[simp] theorem gY(x:GO)(i j:Nat)(ρ:Env):fG [i,j] (encY x) ρ=.ok ((ρ.set i (v (aQ x.1))).set j (v (cy x.2))):=rfl
theorem g9{α:Type}(xs:List α):xs.filter (λ _=>true)=xs:=List.filter_eq_self.mpr λ _ _=>rfl
def c_:List GO->List GP
 | []=>[]
 | (g,some p) :: xs=>(g,p) :: c_ xs
 | (_,none) :: xs=>c_ xs
theorem sit_enc:∀(xs:List GO),(xs.filter λ x=>x.2.isSome).map encY=(c_ xs).map encX
 | []=>rfl
 | (g,some p) :: xs=>by rw[List.filter_cons_of_pos (by rfl)];simp only[List.map_cons,c_,sit_enc xs];rfl
 | (g,none) :: xs=>by rw[List.filter_cons_of_neg (by simp)];simp only[c_,sit_enc xs]
theorem sit_len:∀(xs:List GO),(c_ xs).length≤xs.length
 | []=>Nat.le_refl _
 | (g,some p) :: xs=>by have:=sit_len xs;simp only[c_,List.length_cons];lia
 | (g,none) :: xs=>by have:=sit_len xs;simp only[c_,List.length_cons];lia
theorem iR:∀{xs:List GO}{y:GP},y∈c_ xs↔(y.1,some y.2)∈xs
 | [],y=>by simp[c_]
 | (g,some p) :: xs,y=>by
  simp only[c_,List.mem_cons,iR (xs:=xs),Prod.mk.injEq,Option.some.injEq];constructor
  ·rintro(rfl | h)
   ·exact .inl ⟨rfl,rfl⟩
   ·exact .inr h
  ·rintro(⟨h1,h2⟩ | h)
   ·left;rw[<-h1,<-h2]
   ·exact .inr h
 | (g,none) :: xs,y=>by simp only[c_,List.mem_cons,iR (xs:=xs),Prod.mk.injEq,reduceCtorEq,and_false,false_or]
theorem those_ok{xs:List GO}(h:xs.length≤16777216):cM [.tup (xs.map λ x=>aQ x.1),.tup (xs.map λ x=>cy x.2)]=.ok (.lst ((c_ xs).map encX)):=by
 rw[nA];refine bq ?_;simp[eF,bI,line,cA,bX,zip_Y,h];refine bE encY (λ x=>x.2.isSome) encY ?_ ?_
 ·intro x hx;simp;exact λ _=>⟨by decide,rfl⟩
 ·rw[sit_enc]
theorem oAll_map{α:Type}(f:α->Bool)(xs:List α):oAll (.lst (xs.map λ x=>D.bl (f x)))=.ok (.bl (xs.all f)):=by simp only[oAll,all_map]
theorem afa_ok(g:G)(p:Pl){xs:List GP}(h:xs.length≤16777216):dE [aQ g,az p,.lst (xs.map encX)]=.ok (.bl (xs.all λ x=>bK g p x.1 x.2)):=by
 rw[nC];refine bq ?_;simp[eG,bI,line,cA,bX,h];refine bE encX (λ _=>true) (λ x=>.bl (bK g p x.1 x.2)) ?_ ?_
 ·intro x hx;simp[apart_ok]
 ·rw[g9,oAll_map];simp
theorem cut_take{α:Type}(xs:List α){k:Nat}(h:k≤xs.length):cut xs none (some (k:Int))=xs.take k:=by
 have:¬(k:Int) < 0:=by lia
 simp[cut,cP,this]
def keepK(ss:List GP)(k:Nat):Bool:=match ss[k]? with
 | some x=>(ss.take k).all λ y=>bK x.1 x.2 y.1 y.2
 | none=>true
def keepsB(rows:Rows)(ss:List GP):Bool:=(ss.all λ x=>bC rows x.1 x.2)&&(List.range ss.length).all (keepK ss)
theorem keepsB_iff{rows:Rows}{ss:List GP}:keepsB rows ss=true↔(∀x∈ss,bC rows x.1 x.2=true)∧ss.Pairwise λ a b=>bK b.1 b.2 a.1 a.2=true:=by
 unfold keepsB;rw[Bool.and_eq_true,List.all_eq_true,List.all_eq_true,List.pairwise_iff_getElem];refine and_congr_right λ _=>?_;constructor
 ·intro h i j hi hj hij;have:=h j (List.mem_range.mpr hj);rw[keepK,List.getElem?_eq_getElem hj]at this;rw[List.all_eq_true]at this;exact this ss[i] (List.mem_iff_getElem.mpr ⟨i,by rw[List.length_take];lia,by rw[List.getElem_take]⟩)
 ·intro h k hk;rw[List.mem_range]at hk;rw[keepK,List.getElem?_eq_getElem hk];rw[List.all_eq_true];intro y hy;obtain⟨i,hi,rfl⟩:=List.mem_iff_getElem.mp hy;rw[List.length_take]at hi;rw[List.getElem_take];exact h i k (by lia) hk (by lia)
end KG
namespace KG
open Z
theorem apart_sym(g:G)(p:Pl)(h:G)(q:Pl):bK g p h q=bK h q g p:=by unfold bK;rw[decide_eq_decide,Int.max_comm (h.gap:Int)];lia
def LP(rows:Rows)(xs:List GO)(k:Nat):Prop:=∀g p,xs[k]?=some (g,some p)->bC rows g p=true∧∀j,j < k->∀g' p',xs[j]?=some (g',some p')->bK g' p' g p=true
theorem sit_pair{R:GP->GP->Prop}:∀{xs:List GO},(c_ xs).Pairwise R↔xs.Pairwise λ a b=>∀p q,a.2=some p->b.2=some q->R (a.1,p) (b.1,q)
 | []=>by simp[c_]
 | (g,some p) :: xs=>by
  simp only[c_,List.pairwise_cons,sit_pair (xs:=xs)];refine and_congr_left λ _=>?_;constructor
  ·intro h b hb p' q hp hq;cases hp;exact h (b.1,q) (iR.mpr (by simp only[<-hq];exact hb))
  ·intro h y hy;exact h _ (iR.mp hy) p y.2 rfl rfl
 | (g,none) :: xs=>by simp only[c_,List.pairwise_cons,sit_pair (xs:=xs)];exact⟨λ h=>⟨λ b hb p q hp=>(by cases hp),h⟩,λ h=>h.2⟩
theorem keeps_LP{rows:Rows}{xs:List GO}:keepsB rows (c_ xs)=true↔∀k,k < xs.length->LP rows xs k:=by
 rw[keepsB_iff,sit_pair,List.pairwise_iff_getElem];constructor
 ·rintro⟨h1,h2⟩ k hk g p e;refine⟨h1 (g,p) (iR.mpr (List.mem_of_getElem? e)),λ j hj g' p' e'=>?_⟩;have hj':j < xs.length:=by lia
  have a:=h2 j k hj' hk hj p' p;have ej:xs[j]=(g',some p'):=Option.some.inj ((List.getElem?_eq_getElem hj').symm.trans e');have ek:xs[k]=(g,some p):=Option.some.inj ((List.getElem?_eq_getElem hk).symm.trans e);rw[ej,ek]at a;rw[apart_sym];exact a rfl rfl
 ·intro h;refine⟨λ x hx=>?_,λ i j hi hj hij p q hp hq=>?_⟩
  ·obtain⟨k,e⟩:=List.getElem?_of_mem (iR.mp hx);exact(h k (List.getElem?_eq_some_iff.mp e).1 x.1 x.2 e).1
  ·have ei:xs[i]?=some (xs[i].1,some p):=by rw[List.getElem?_eq_getElem hi,<-hp]
   have ej:xs[j]?=some (xs[j].1,some q):=by rw[List.getElem?_eq_getElem hj,<-hq]
   have:=(h j hj _ _ ej).2 i hij _ _ ei;rw[apart_sym];exact this
end KG
set_option maxRecDepth 4000
noncomputable section
namespace KH
open Z KG
def h_:SF:=(bY (eU cR (eL (bP (fv (eW 0)) 1 [1,2] (bf 0) (tE (aJ KG.dE (ab (eV 1) (ab (eV 0) (ab (eV 2) aC))))) (eV 0)))))
def e!:List D->Res D:=fn 3 3 h_
theorem fe_open_among(x0 x1 x2:D):e! [x0,x1,x2]=bU (h_ [some (.val x0),some (.val x1),some (.val x2)]):=dC _ _ _ _ rfl
def ie:SF:=(aI (kh 2 (bZ aC)) (aI (gJ (fv (eV 1)) (bf 3) (aI (de 2 (eB oMod (eW 0) (eW 3))) (bg 0 (eB oDiv (eW 0) (eW 3))))) (sFrz 2 (bY (eV 2)))))
def bV:List D->Res D:=fn 2 4 ie
theorem fe_law_digits(x0 x1:D):bV [x0,x1]=bU (ie [some (.val x0),some (.val x1),none,none]):=dC _ _ _ _ rfl
end KH
end
set_option maxRecDepth 8000
namespace KH
open Z KG
def jc:Int->List Int->List Int
 | _,[]=>[]
 | c,s :: ss=>c % s :: jc (c / s) ss
def aft:Int->List Int->Int
 | c,[]=>c
 | c,s :: ss=>aft (c / s) ss
theorem digs_app:∀(c:Int)(a b:List Int),jc c (a++b)=jc c a++jc (aft c a) b
 | c,[],b=>rfl
 | c,s :: a,b=>by simp[jc,aft,digs_app (c / s) a b]
theorem aft_app:∀(c:Int)(a b:List Int),aft c (a++b)=aft (aft c a) b
 | c,[],b=>rfl
 | c,s :: a,b=>by simp[aft,aft_app (c / s) a b]
theorem nI:∀(c:Int)(a:List Int),(jc c a).length=a.length
 | c,[]=>rfl
 | c,s :: a=>by simp[jc,nI (c / s) a]
def Szs(ss:List Int):Prop:=ss.length≤100∧∀s∈ss,0 < s∧s≤1000000000000000000000000000000000000000000000000000000000000
theorem js{ss:List Int}(h:Szs ss)(c:Int):bV [.int c,.lst (ss.map .int)]=.ok (.lst ((jc c ss).map .int)):=by
 rw[fe_law_digits];refine bq ?_;simp[ie,line];refine c5 (λ i ρ=>∃x,ρ=[vi (aft c (ss.take i)),v (.lst (ss.map .int)),ow ((jc c (ss.take i)).map .int),x]) ⟨none,by simp[aft,jc]⟩ ?_ ?_
 ·rintro j d ρ hj ⟨x,rfl⟩;rw[List.getElem?_map]at hj;cases e:ss[j]? with
  | none=>rw[e]at hj;cases hj
  | some s =>
   rw[e]at hj;cases hj;obtain⟨h1,h2⟩:=h.2 s (List.mem_of_getElem? e);have hl:(jc c (ss.take j)).length < 16777216:=by rw[nI,List.length_take];have:=h.1;lia
   simp[h1,line,hl,bj h1 (by lia),take_snoc e,digs_app,aft_app,jc,aft]
 ·rintro ρ ⟨x,rfl⟩;simp
theorem digs_lt:∀(c:Int)(ss:List Int)(m:Int),(∀s∈ss,0 < s∧s≤m)->∀x∈jc c ss,0≤x∧x < m
 | c,[],m,_=>by simp[jc]
 | c,s :: ss,m,h=>by
  intro x hx;simp only[jc,List.mem_cons]at hx;rcases hx with rfl | hx
  ·obtain⟨h1,h2⟩:=h s List.mem_cons_self;have:=Int.emod_lt_of_pos c h1;exact⟨Int.emod_nonneg _ (by lia),by lia⟩
  ·exact digs_lt (c / s) ss m (λ t ht=>h t (List.mem_cons_of_mem _ ht)) x hx
theorem cut_len_at{α:Type}(xs:List α){r c:Nat}(h:(r+1)*c≤xs.length):(cut xs (some ((r:Int)*c)) (some (((r:Int)+1)*c))).length=c:=by
 have h1:((r:Int)*c)=((r*c:Nat):Int):=by push_cast;rfl
 have h2:(((r:Int)+1)*c)=(((r+1)*c:Nat):Int):=by push_cast;rfl
 rw[h1,h2];have h3:(r+1)*c=r*c+c:=Nat.succ_mul ..;have n1:¬((r*c:Nat):Int) < 0:=by lia
 have n2:¬(((r+1)*c:Nat):Int) < 0:=by lia
 have a2:min ((r+1)*c) xs.length=(r+1)*c:=Nat.min_eq_left h;have a1:min (r*c) xs.length=r*c:=Nat.min_eq_left (Nat.le_trans (Nat.mul_le_mul_right c (Nat.le_succ r)) h);simp only[cut,cP,n1,n2,if_false,Int.toNat_natCast,List.length_take,List.length_drop,a1,a2];rw[h3,Nat.add_sub_cancel_left];exact Nat.min_eq_left (Nat.le_sub_of_add_le (by rw[Nat.add_comm,<-h3];exact h))
theorem mem_cut_KH{α:Type}{xs:List α}{l h:Option Int}{x:α}(hx:x∈cut xs l h):x∈xs:=List.mem_of_mem_drop (List.mem_of_mem_take hx)
theorem cut_map{α β:Type}(f:α->β)(xs:List α)(l h:Option Int):cut (xs.map f) l h=(cut xs l h).map f:=by simp[cut,List.map_take,List.map_drop]
theorem signs_len:signs.length=29:=by decide
theorem szs_rep{n:Nat}(h:n≤100):Szs (List.replicate n 29):=⟨by simpa using h,λ s hs=>by rw[List.eq_of_mem_replicate hs];decide⟩
end KH
set_option maxRecDepth 4000
noncomputable section
namespace KM
open Z KG KH
def gP:SF:=(aI (bg 2 (eB bN (eC (.int 1)) (eB oMod (eW 0) (eC (.int 2147483646))))) (aI (kh 3 (bZ aC)) (aI (gJ (hU (eV 1)) (bf 4) (aI (bg 2 (eB oMod (eB gW (eW 2) (eC (.int 16807))) (eC (.int 2147483647)))) (de 3 (eB oMod (eB gW (eB oMod (eB gW (eB bN (eW 2) (eC (.int 7))) (eC (.int 69621))) (eC (.int 2147483629))) (eC (.int 39373))) (eC (.int 2147483587)))))) (sFrz 3 (bY (eV 3))))))
def bJ:List D->Res D:=fn 2 5 gP
theorem fe_law_mixed(x0 x1:D):bJ [x0,x1]=bU (gP [some (.val x0),some (.val x1),none,none,none]):=dC _ _ _ _ rfl
def gF:SF:=(aI (bg 1 (eC (.str bO))) (bY (eB bN (eB aY (eW 1) (eB oMod (eW 0) (eC (.int 26)))) (eB aY (eW 1) (eB oMod (eB bN (eB bN (eW 0) (eC (.int 1))) (eB oMod (eB oDiv (eW 0) (eC (.int 26))) (eC (.int 25)))) (eC (.int 26)))))))
def d7:List D->Res D:=fn 1 2 gF
theorem fe_law_letters(x0:D):d7 [x0]=bU (gF [some (.val x0),none]):=dC _ _ _ _ rfl
def gj:SF:=(aI (sGet (aJ KH.bV (ab (aJ KG.aS (ab (eV 0) (ab (eC (.int 0)) aC))) (ab (eL (bZ (ab (eC (.int 2)) (ab (eC (.int 6)) (ab (eC (.int 12)) (ab (eB ki (eC (.int 10)) (eC (.int 60))) aC)))))) aC))) (gSeq [1,2,3,4])) (aI (bg 2 (eB bN (eW 2) (eC (.int 1)))) (aI (bg 3 (eB bN (eW 3) (eC (.int 1)))) (aI (bg 5 (eC (.str signs))) (aI (bg 6 (aJ KH.bV (ab (aJ KG.aS (ab (eV 0) (ab (eC (.int 1)) aC))) (ab (eL (lRep (bZ (ab (eC (.int 29)) aC)) (eB gW (eW 2) (eW 3)))) aC)))) (aI (sIf (tE (eB oEq (eW 1) (eC (.int 0)))) (aI (bg 2 (eB aY (eL (bZ (ab (eC (.int 1)) (ab (eC (.int 2)) (ab (eC (.int 3)) (ab (eC (.int 4)) (ab (eC (.int 2)) (ab (eC (.int 6)) aC)))))))) (eB iJ (eW 2) (eC (.int 1))))) (aI (bg 3 (eB aY (eL (bZ (ab (eC (.int 1)) (ab (eC (.int 2)) (ab (eC (.int 3)) (ab (eC (.int 4)) (ab (eC (.int 5)) (ab (eC (.int 6)) (ab (eC (.int 7)) (ab (eC (.int 8)) (ab (eC (.int 3)) (ab (eC (.int 4)) (ab (eC (.int 5)) (ab (eC (.int 12)) aC)))))))))))))) (eB iJ (eW 3) (eC (.int 1))))) (aI (bg 5 (eB bN (eC (.str [46,46,61,46,35,46])) (aJ d7 (ab (eV 4) aC)))) (bg 6 (eL (bP (fv (aJ bJ (ab (aJ KG.aS (ab (eV 0) (ab (eC (.int 1)) aC))) (ab (eB gW (eW 2) (eW 3)) aC)))) 1 [] (bf 0) eK (eB oMod (eB oDiv (eW 0) (eC (.int 3))) (eC (.int 8))))))))) dR) (aI (kh 7 (bZ aC)) (aI (gJ (hU (eV 2)) (bf 8) (de 7 (eB oJoin (eC (.str [])) (eL (bP (fv (eL (lSl (eW 6) (pAt (eB gW (eW 8) (eW 3))) (pAt (eB gW (eB bN (eW 8) (eC (.int 1))) (eW 3)))))) 1 [5] (bf 0) eK (eB aY (eW 1) (eW 0))))))) (bY (eU cR (eW 7)))))))))))
def gM:List D->Res D:=fn 1 9 gj
theorem fe_law_hall(x0:D):gM [x0]=bU (gj [some (.val x0),none,none,none,none,none,none,none,none]):=dC _ _ _ _ rfl
end KM
end
set_option maxRecDepth 8000
namespace KM
open Z KG KH
theorem rows_ok_KM{sg : List Nat}{nums : List Int}{R C : Nat}(hs : sg.length ≤ 100)(hsg : ∀c ∈ sg, c ∈ signs)(hn : ∀x ∈ nums, 0 ≤ x ∧ x < sg.length)(hl : nums.length = R * C)(hR : R ≤ 6)(hC : C ≤ 12){b : SF}{Q : Fl -> Prop}
  (hb:b=de 7 (eB oJoin (eC (.str [])) (eL (bP (fv (eL (lSl (eW 6) (pAt (eB gW (eW 8) (eW 3))) (pAt (eB gW (eB bN (eW 8) (eC (.int 1))) (eW 3)))))) 1 [5] (bf 0) eK (eB aY (eW 1) (eW 0))))))
  (x0 x1 x2 x4:Option L) (hQ:∀rows x,j5 C R rows->Q (.nx [x0,x1,x2,vi C,x4,vs sg,v (.lst (nums.map .int)),ow (rows.map .str),x])) :
  Ok (eX (bf 8) b (da 0 R) [x0,x1,x2,vi C,x4,vs sg,v (.lst (nums.map .int)),ow [],none]) Q:=by
 subst hb;refine c5 (λ i ρ=>∃rows x,j5 C i rows∧ρ=[x0,x1,x2,vi C,x4,vs sg,v (.lst (nums.map .int)),ow (rows.map .str),x]) ⟨[],none,j5.nil C,rfl⟩ ?_ ?_
 ·rintro i d ρ hi ⟨rows,x,ma,rfl⟩;obtain⟨hi',rfl⟩:=ints_get hi;have q1:a_ (i:Int) (C:Int):=cI (by lia) (by lia);have q2:a_ ((i:Int)+1) (C:Int):=cI (by lia) (by lia);have hle:(i+1)*C≤nums.length:=by rw[hl];exact Nat.mul_le_mul_right C hi'
  have hcl:=cut_len_at nums hle;have hcl':(cut nums (some ((i:Int)*C)) (some (((i:Int)+1)*C))).length≤16777216:=by lia
  have hrl:rows.length < 16777216:=by rw[ma.1];lia
  simp[bI,lSl_k,q1,q2,line,cA,bX,cut_map,hcl'];generalize hns:cut nums (some ((i:Int)*C)) (some (((i:Int)+1)*C))=ns at hcl hcl';have key:∀x:Int,∃q,(0≤x∧x < sg.length)->q∈signs∧aY (.str sg) (.int x)=.ok (.str [q]):=λ x=>by
   by_cases h:0≤x∧x < sg.length
   ·obtain⟨c,hc,e⟩:=ix_str h.1 h.2 (by simp only[line];lia);exact⟨c,λ _=>⟨hsg c hc,e⟩⟩
   ·exact⟨0,λ h'=>absurd h' h⟩
  have kq:∃q:Int->Nat,∀x:Int,(0≤x∧x < sg.length)->q x∈signs∧aY (.str sg) (.int x)=.ok (.str [q x]):=⟨λ x=>(key x).choose,λ x=>(key x).choose_spec⟩
  obtain⟨q,hq⟩:=kq;have hin:∀x∈ns,0≤x∧x < sg.length:=λ x hx=>hn x (Z.mem_cut (hns▸hx));refine bE D.int (λ _=>true) (λ x=>.str [q x]) ?_ ?_
  ·intro x hx;simp[(hq x (hin x hx)).2]
  ·rw[g9];have e1:ns.map (λ x=>D.str [q x])=(ns.map λ x=>[q x]).map D.str:=by rw[List.map_map];rfl
   have e2:(ns.map λ x=>[q x]).flatten=ns.map q:=by
    clear hcl hcl' hns hin e1
    induction ns with
    | nil=>rfl
    | cons a as ih=>simp[ih]
   rw[e1,oJoin_nil (by rw[e2,List.length_map];lia),e2];simp[hrl];refine⟨rows++[ns.map q],ma.add ⟨by rw[List.length_map];exact hcl,?_⟩,by simp⟩;intro c hc;obtain⟨x,hx,rfl⟩:=List.mem_map.mp hc;exact(hq x (hin x hx)).1
 ·rintro ρ ⟨rows,x,ma,rfl⟩;rw[fP]at ma;exact hQ rows x ma
theorem m?(c:Int){n:Nat}(hn:n≤1000):∃ms:List Int,ms.length=n∧(∀m∈ms,0≤m∧m < 2147483587)∧bJ [.int c,.int n]=.ok (.lst (ms.map .int)):=by
 have q1:∀x:Int,a_ x 16807:=λ x=>gf (by decide) (by decide);have q2:∀x:Int,a_ x 69621:=λ x=>gf (by decide) (by decide);have q3:∀x:Int,a_ x 39373:=λ x=>gf (by decide) (by decide);have:Ok (bU (gP [v (.int c),v (.int n),none,none,none])) λ d=>∃ms:List Int,ms.length=n∧(∀m∈ms,0≤m∧m < 2147483587)∧d=.lst (ms.map .int):=by
  refine l6 ?_;simp[gP,line];refine c5 (λ i ρ=>∃(ms:List Int)(z:Int)(x:Option L),ms.length=i∧(∀m∈ms,0≤m∧m < 2147483587)∧ρ=[vi c,vi n,vi z,ow (ms.map .int),x]) ⟨[],_,none,rfl,by simp,rfl⟩ ?_ ?_
  ·rintro i d ρ hi ⟨ms,z,x,hl,hp,rfl⟩;obtain⟨hi',rfl⟩:=ints_get hi;have kj:ms.length < 16777216:=by lia
   simp[q1,q2,q3,line,kj];refine⟨ms++[(z*16807 % 2147483647+7)*69621 % 2147483629*39373 % 2147483587],by simp[hl],?_,by rw[List.map_append];rfl⟩;intro m hm;rcases List.mem_append.mp hm with h | h
   ·exact hp m h
   ·simp at h;rw[h];lia
  ·rintro ρ ⟨ms,z,x,hl,hp,rfl⟩;rw[fP]at hl;simp;exact⟨ms,hl,hp,rfl⟩
 rw[<-fe_law_mixed]at this;obtain⟨d,e,ms,h1,h2,rfl⟩:=this;exact⟨ms,h1,h2,e⟩
theorem letters_two(z:Int):∃a b,a∈bO∧b∈bO∧d7 [.int z]=.ok (.str [a,b]):=by obtain⟨a,ha,ea⟩:=lA z;obtain⟨b,hb,eb⟩:=lA (z+1+z / 26 % 25);refine⟨a,b,ha,hb,?_⟩;rw[fe_law_letters];refine bq ?_;simp[gF,bj,ea,eb,line]
theorem hall_ok_KM{ns : List Int}(hb : Bd ns): ∃rows C, HallG rows C ∧ gM [.lst (ns.map .int)] = .ok (b? rows) := by
 obtain⟨f,ef,hf⟩:=iX hb (k:=0) (by decide);obtain⟨c1,ec1,_⟩:=iX hb (k:=1) (by decide);have hz:Szs [2,6,12,1000000000000000000000000000000000000000000000000000000000000]:=⟨by decide,by decide⟩
 have dg0:=js hz f;simp only[List.map_cons,List.map_nil,jc]at dg0;obtain⟨R,hR⟩:=gZ (z:=f / 2 % 6+1) (by lia);obtain⟨C,hC⟩:=gZ (z:=f / 2 / 6 % 12+1) (by lia);have hR1:1≤R∧R≤6:=by lia
 have hC1:1≤C∧C≤12:=by lia
 have q1:a_ (R:Int) (C:Int):=cI (by lia) (by lia);have hrc:R*C≤100:=Nat.le_trans (Nat.mul_le_mul hR1.2 hC1.2) (by decide);obtain⟨N,hrc2,hN⟩:∃N:Nat,(R:Int)*C=(N:Int)∧N=R*C:=⟨R*C,by push_cast;rfl,rfl⟩
 rw[<-hN]at hrc;have dg:=js (szs_rep hrc) c1;rw[List.map_replicate]at dg;have hg:N≤16777216:=by lia
 obtain⟨la,lb,hla,hlb,el⟩:=letters_two (f / 2 / 6 / 12 % 1000000000000000000000000000000000000000000000000000000000000);have key:Ok (bU (gj [v (.lst (ns.map .int)),none,none,none,none,none,none,none,none])) λ d=>∃rows R C,j5 C R rows∧1≤R∧R≤6∧1≤C∧C≤12∧d=b? rows:=by
  refine l6 ?_;by_cases hm:f % 2=0
  ·simp[gj,ef,ec1,line,dg0,nu,gg,hR,hC,q1,repK_a,hrc2,hg,dg,hm];refine⟨by lia,?_⟩;refine kS (by lia) (by simp;lia) ?_;intro d hd;obtain⟨R',rfl,hR'⟩:∃R':Nat,d=.int R'∧1≤R'∧R'≤6:=by
    simp at hd;rcases hd with rfl | rfl | rfl | rfl | rfl | rfl
    all_goals first | exact⟨1,rfl,by decide⟩ | exact⟨2,rfl,by decide⟩ | exact⟨3,rfl,by decide⟩ | exact⟨4,rfl,by decide⟩ | exact⟨6,rfl,by decide⟩
   refine kS (by lia) (by simp;lia) ?_;intro d hd;obtain⟨C',rfl,hC'⟩:∃C':Nat,d=.int C'∧1≤C'∧C'≤12:=by
    simp at hd;rcases hd with rfl | rfl | rfl | rfl | rfl | rfl | rfl | rfl | rfl | rfl | rfl | rfl
    all_goals first | exact⟨1,rfl,by decide⟩ | exact⟨2,rfl,by decide⟩ | exact⟨3,rfl,by decide⟩ | exact⟨4,rfl,by decide⟩ | exact⟨5,rfl,by decide⟩ | exact⟨6,rfl,by decide⟩ | exact⟨7,rfl,by decide⟩ | exact⟨8,rfl,by decide⟩ | exact⟨12,rfl,by decide⟩
   have p1:a_ (R':Int) (C':Int):=cI (by lia) (by lia);have prc:R'*C'≤100:=Nat.le_trans (Nat.mul_le_mul hR'.2 hC'.2) (by decide);obtain⟨N',prc2,pN⟩:∃N:Nat,(R':Int)*C'=(N:Int)∧N=R'*C':=⟨R'*C',by push_cast;rfl,rfl⟩
   obtain⟨ms,hml,hmp,em⟩:=m? c1 (n:=N') (by lia);have hml':ms.length≤16777216:=by lia
   rw[el];simp[line,bI,cA,ec1,p1,prc2,em,hml'];refine bE D.int (λ _=>true) (λ x=>.int (x / 3 % 8)) (xs:=ms) (λ x hx=>?_) ?_
   ·simp[bj]
   ·rw[g9];have e1:ms.map (λ x=>D.int (x / 3 % 8))=(ms.map λ x=>x / 3 % 8).map D.int:=by rw[List.map_map];rfl
    rw[e1];obtain⟨nums,hnums⟩:∃nums,nums=ms.map λ x=>x / 3 % 8:=⟨_,rfl⟩
    rw[<-hnums];have k46:46∈signs:=by decide
    have k61:61∈signs:=by decide
    have k35:35∈signs:=by decide
    refine rows_ok_KM (sg:=[46,46,61,46,35,46,la,lb]) (nums:=nums) (R:=R') (C:=C') (by simp) (by simp[k46,k61,k35,nc hla,nc hlb]) ?_ (by simp[hnums,hml,pN]) hR'.2 hC'.2 rfl _ _ _ _ ?_
    ·intro x hx;rw[hnums]at hx;obtain⟨j,_,rfl⟩:=List.mem_map.mp hx;simp;lia
    ·intro rows x ma;simp[line];exact⟨rows,R',C',ma,hR'.1,hR'.2,hC'.1,hC'.2,rfl⟩
  ·simp[gj,ef,ec1,line,dg0,nu,gg,hR,hC,q1,repK_a,hrc2,hg,dg,hm];refine⟨by lia,?_⟩;refine rows_ok_KM (sg:=signs) (nums:=jc c1 (List.replicate N 29)) (R:=R) (C:=C) (by decide) (λ c hc=>hc) ?_ (by rw[nI,List.length_replicate];exact hN) hR1.2 hC1.2 rfl _ _ _ _ ?_
   ·intro x hx;have:=digs_lt c1 _ 29 (λ s hs=>by rw[List.eq_of_mem_replicate hs];decide) x hx;rw[signs_len];exact this
   ·intro rows x ma;simp[line];exact⟨rows,R,C,ma,hR1.1,hR1.2,hC1.1,hC1.2,rfl⟩
 obtain⟨d,e,rows,R',C',ma,r1,r2,c1',c2',rfl⟩:=key;exact⟨rows,C',hallG (by rw[ma.1];exact r1) (by rw[ma.1];exact r2) c1' c2' ma.2,by rw[fe_law_hall];exact e⟩
end KM
namespace KH
open Z KG
@[simp] theorem p10_40:ki (.int 10) (.int 40)=.ok (.int 10000000000000000000000000000000000000000):=iy 10 40 (by decide) (by decide)
@[simp] theorem p10_39:ki (.int 10) (.int 39)=.ok (.int 1000000000000000000000000000000000000000):=iy 10 39 (by decide) (by decide)
def pw2:Nat->Int
 | 0=>1
 | 1=>2
 | 2=>4
 | 3=>8
 | 4=>16
 | _=>32
end KH
namespace KH
open Z KG
end KH
namespace KH
open Z KG
theorem cut_row(row:List Nat){c w:Nat}(h:c+w≤row.length):cut row (some (c:Int)) (some ((c:Int)+w))=(row.drop c).take w:=by
 have n1:¬(c:Int) < 0:=by lia
 have n2:¬(c:Int)+w < 0:=by lia
 have e:((c:Int)+w).toNat=c+w:=by lia
 simp only[cut,cP,n1,n2,if_false,Int.toNat_natCast,e];rw[Nat.min_eq_left h,Nat.min_eq_left (by lia:c≤row.length),Nat.add_sub_cancel_left]
theorem row_signs{rows:Rows}{C:Nat}(H:Hall rows C){r c w:Nat}{row:List Nat}(hr:rows[r]?=some row)(h:c+w≤C):((row.drop c).take w).map some=(dj w (r:Int) (c:Int)).map (aN rows):=by
 have hl:=H.len row (List.mem_of_getElem? hr);apply List.ext_getElem?;intro j;simp only[List.getElem?_map,dj,List.getElem?_take,List.getElem?_drop];by_cases hj:j < w
 ·rw[if_pos hj,List.getElem?_range hj];have hc:c+j < row.length:=by lia
  rw[List.getElem?_eq_getElem hc];simp only[Option.map_some,aN];have e1:((c:Int)+(j:Int)).toNat=c+j:=by lia
  rw[if_pos ⟨by lia,by lia⟩];simp[hr,e1,hc]
 ·rw[if_neg hj,List.getElem?_eq_none (by simp;lia)];rfl
theorem badB(k : List Nat)(c : Nat): (!(c == 46) && (!(c == 61) && !([c] == k))) = !bR k (some c) := by
 by_cases h1:c=46
 ·simp[bR,h1]
 ·by_cases h2:c=61
  ·simp[bR,h2]
  ·by_cases h3:k=[c]
   ·subst h3;simp[bR]
   ·have h3':¬[c]=k:=λ h=>h3 h.symm;simp[bR,h1,h2,h3,h3']
end KH
namespace KH
open Z KG
def Good(rows:Rows)(xs:List GO):Prop:=∀(i:Nat)(g:G)(p:Pl),xs[i]?=some (g,some p)->bC rows g p=true∧∀(j:Nat)(h:G)(q:Pl),xs[j]?=some (h,some q)->j≠i->bK g p h q=true
theorem Good.sub{rows:Rows}{xs ys:List GO}(h:Good rows xs)(hs:∀(i:Nat)(g:G)(p:Pl),ys[i]?=some (g,some p)->xs[i]?=some (g,some p)):Good rows ys:=by intro i g p e;obtain⟨h1,h2⟩:=h i g p (hs i g p e);exact⟨h1,λ j hh q ej hj=>h2 j hh q (hs j hh q ej) hj⟩
theorem open_among_ok(ps:List Pl)(g:G){ss:List GP}(hp:ps.length≤10000)(hs:ss.length≤6):e! [.tup (ps.map az),aQ g,.lst (ss.map encX)]=.ok (.tup ((ps.filter λ p=>ss.all λ x=>bK g p x.1 x.2).map az)):=by
 rw[fe_open_among];refine bq ?_;have hp':ps.length≤16777216:=by lia
 simp[h_,bI,line,cA,bX,hp'];refine bE az (λ p=>ss.all λ x=>bK g p x.1 x.2) az ?_ ?_
 ·intro p hp;simp[afa_ok g p (xs:=ss) (by lia)]
 ·rfl
end KH
set_option maxRecDepth 4000
noncomputable section
namespace KN
open Z KG KH KM
def iZ:SF:=(aI (bg 4 (aJ KG.cM (ab (eV 1) (ab (eV 2) aC)))) (aI (kh 5 (bZ aC)) (aI (gJ (iEnum (eV 3)) (fG [6,7]) (sExt 5 (bP (fv (aJ KH.e! (ab (aJ KG.hW (ab (eV 0) (ab (eV 7) aC))) (ab (eV 7) (ab (eV 4) aC))))) 1 [6] (bf 0) eK (gN (ab (eV 1) (ab (eV 0) aC)))))) (sFrz 5 (bY (eV 5))))))
def fS:List D->Res D:=fn 4 8 iZ
theorem fe_all_users(x0 x1 x2 x3:D):fS [x0,x1,x2,x3]=bU (iZ [some (.val x0),some (.val x1),some (.val x2),some (.val x3),none,none,none,none]):=dC _ _ _ _ rfl
def gO:SF:=(aI (bg 2 (eC (.str bO))) (aI (bg 3 (eB bN (eC (.int 1)) (eB oMod (eW 0) (eC (.int 8))))) (aI (bg 4 (eB oMod (eB oDiv (eW 0) (eC (.int 8))) (eW 3))) (aI (bg 5 (eB aY (eL (bZ (ab (eC (.int 1)) (ab (eC (.int 3)) (ab (eC (.int 5)) (ab (eC (.int 7)) (ab (eC (.int 9)) (ab (eC (.int 11)) aC)))))))) (eB oMod (eB oDiv (eW 0) (eC (.int 64))) (eC (.int 6))))) (aI (kh 6 (bZ aC)) (aI (gJ (hU (eV 1)) (bf 7) (aI (bg 8 (eC (.str []))) (aI (gJ (hU (eV 3)) (bf 9) (aI (bg 10 (eB gW (eB gW (eW 5) (eW 7)) (eU oInt (eB oEq (eW 9) (eW 4))))) (bg 8 (eB bN (eW 8) (eB aY (eW 2) (eB oMod (eB bN (eB oDiv (eW 0) (eB bN (eC (.int 400)) (eB gW (eB gW (eC (.int 30)) (eW 9)) (eW 9)))) (eW 10)) (eC (.int 26)))))))) (de 6 (eV 8))))) (sFrz 6 (bY (eV 6)))))))))
def eA:List D->Res D:=fn 2 11 gO
theorem fe_law_names(x0 x1:D):eA [x0,x1]=bU (gO [some (.val x0),some (.val x1),none,none,none,none,none,none,none,none,none]):=dC _ _ _ _ rfl
def ju:SF:=(aI (sGet (aJ KH.bV (ab (eV 1) (ab (eL (bZ (ab (eC (.int 12)) (ab (eC (.int 3)) (ab (eC (.int 27)) (ab (eC (.int 7)) (ab (eC (.int 64)) (ab (eC (.int 37)) aC)))))))) aC))) (gSeq [2,3,4,5,6,7])) (aI (bg 8 (aJ KH.bV (ab (eB oDiv (eW 1) (eC (.int 16111872))) (ab (eL (lCat (eL (bZ (ab (eB ki (eC (.int 10)) (eC (.int 60))) aC))) (eL (lRep (bZ (ab (eB iJ (eB ki (eC (.int 10)) (eC (.int 60))) (eC (.int 1))) aC)) (eC (.int 6)))))) aC)))) (aI (bg 7 (eB oMod (eW 7) (eB bN (eB gW (eB bN (eW 2) (eC (.int 1))) (eB bN (eW 3) (eC (.int 1)))) (eC (.int 1))))) (aI (bg 4 (eB aY (eL (bZ (ab (eC (.str [])) (ab (eB aY (eC (.str bO)) (eB iJ (eW 4) (eC (.int 1)))) aC)))) (eU oInt (eB oGt (eW 4) (eC (.int 0)))))) (aI (bg 9 (eL (bP (hU (eC (.int 6))) 1 [6,8] (bf 0) (tE (eB oEq (eB oMod (eB oDiv (eW 1) (eB aY (eL (bZ (ab (eC (.int 1)) (ab (eC (.int 2)) (ab (eC (.int 4)) (ab (eC (.int 8)) (ab (eC (.int 16)) (ab (eC (.int 32)) aC)))))))) (eW 0))) (eC (.int 2))) (eC (.int 1)))) (gN (ab (eV 0) (ab (eB bN (eC (.int 1)) (eB aY (eW 2) (eB bN (eC (.int 1)) (eW 0)))) aC)))))) (bY (gN (ab (eV 0) (ab (eB bN (eW 2) (eC (.int 1))) (ab (eB bN (eW 3) (eC (.int 1))) (ab (eV 4) (ab (eV 7) (ab (eV 5) (ab (eB aY (eW 8) (eC (.int 0))) (ab (eU cR (eW 9)) aC)))))))))))))))
def jQ:List D->Res D:=fn 2 10 ju
theorem fe_law_any(x0 x1:D):jQ [x0,x1]=bU (ju [some (.val x0),some (.val x1),none,none,none,none,none,none,none,none]):=dC _ _ _ _ rfl
def gQ:SF:=(aI (bg 3 (aJ KM.bJ (ab (eV 1) (ab (eC (.int 9)) aC)))) (aI (bg 4 (eB aY (eL (bZ (ab (eC (.int 1)) (ab (eC (.int 2)) (ab (eC (.int 1)) (ab (eC (.int 3)) (ab (eC (.int 2)) (ab (eC (.int 1)) (ab (eC (.int 2)) (ab (eC (.int 4)) aC)))))))))) (eB oMod (eB oDiv (eB aY (eW 3) (eC (.int 0))) (eC (.int 5))) (eC (.int 8))))) (aI (bg 5 (eB aY (eL (bZ (ab (eC (.int 1)) (ab (eC (.int 1)) (ab (eC (.int 2)) (ab (eC (.int 1)) (ab (eC (.int 1)) (ab (eC (.int 2)) (ab (eC (.int 1)) (ab (eC (.int 3)) aC)))))))))) (eB oMod (eB oDiv (eB aY (eW 3) (eC (.int 1))) (eC (.int 5))) (eC (.int 8))))) (aI (bg 6 (eB aY (eL (bZ (ab (eC (.str [])) (ab (eC (.str [])) (ab (eB aY (eW 2) (eC (.int 0))) (ab (eB aY (eW 2) (eC (.int 1))) (ab (eC (.str [])) (ab (eB aY (eW 2) (eC (.int 0))) aC)))))))) (eB oMod (eB oDiv (eB aY (eW 3) (eC (.int 2))) (eC (.int 5))) (eC (.int 6))))) (aI (bg 7 (eB oMin (eB aY (eL (bZ (ab (eC (.int 0)) (ab (eC (.int 0)) (ab (eC (.int 1)) (ab (eC (.int 0)) (ab (eC (.int 0)) (ab (eC (.int 2)) aC)))))))) (eB oMod (eB oDiv (eB aY (eW 3) (eC (.int 3))) (eC (.int 5))) (eC (.int 6)))) (eB gW (eW 4) (eW 5)))) (aI (bg 8 (eB aY (eL (bZ (ab (eC (.int 0)) (ab (eC (.int 1)) (ab (eC (.int 0)) (ab (eC (.int 2)) (ab (eC (.int 1)) (ab (eC (.int 0)) (ab (eC (.int 0)) (ab (eC (.int 6)) aC)))))))))) (eB oMod (eB oDiv (eB aY (eW 3) (eC (.int 4))) (eC (.int 5))) (eC (.int 8))))) (aI (bg 9 (eB aY (eL (bZ (ab (eB oMod (eB oDiv (eB aY (eW 3) (eC (.int 5))) (eC (.int 5))) (eC (.int 4))) (ab (eB gW (eB aY (eW 3) (eC (.int 6))) (eB ki (eC (.int 10)) (eC (.int 50)))) aC)))) (eU oInt (eB oEq (eB oMod (eB oDiv (eB aY (eW 3) (eC (.int 5))) (eC (.int 20))) (eC (.int 6))) (eC (.int 5)))))) (aI (kh 10 (bZ aC)) (aI (gJ (hU (eC (.int 6))) (bf 11) (sIf (tE (eB oEq (eB oMod (eB oDiv (eB aY (eW 3) (eC (.int 7))) (eB bN (eC (.int 3)) (eB gW (eC (.int 2)) (eW 11)))) (eC (.int 4))) (eC (.int 1)))) (de 10 (gN (ab (eV 11) (ab (eB bN (eC (.int 1)) (eB oMod (eB oDiv (eB aY (eW 3) (eC (.int 8))) (eB bN (eC (.int 2)) (eW 11))) (eC (.int 3)))) aC)))) dR)) (bY (gN (ab (eV 0) (ab (eV 4) (ab (eV 5) (ab (eV 6) (ab (eV 7) (ab (eV 8) (ab (eV 9) (ab (eU cR (eW 10)) aC)))))))))))))))))))
def hX:List D->Res D:=fn 3 12 gQ
theorem fe_law_group(x0 x1 x2:D):hX [x0,x1,x2]=bU (gQ [some (.val x0),some (.val x1),some (.val x2),none,none,none,none,none,none,none,none,none]):=dC _ _ _ _ rfl
def fW:SF:=(aI (bg 3 (aJ KM.d7 (ab (eB oMod (eB oDiv (aJ KG.aS (ab (eV 0) (ab (eC (.int 0)) aC))) (eC (.int 144))) (eB ki (eC (.int 10)) (eC (.int 60)))) aC))) (aI (kh 4 (bZ aC)) (aI (gJ (hU (eU fF (eW 2))) (bf 5) (aI (bg 6 (aJ KG.aS (ab (eV 0) (ab (eB bN (eW 1) (eW 5)) aC)))) (sIf (tAnd (tE (eB oEq (eB oMod (aJ KG.aS (ab (eV 0) (ab (eC (.int 0)) aC))) (eC (.int 2))) (eC (.int 1)))) (tE (eB oGt (eB oMod (eW 6) (eC (.int 3))) (eC (.int 0))))) (de 4 (aJ jQ (ab (eB aY (eW 2) (eW 5)) (ab (eB oDiv (eW 6) (eC (.int 3))) aC)))) (de 4 (aJ hX (ab (eB aY (eW 2) (eW 5)) (ab (eB bN (eB oDiv (eW 6) (eC (.int 3))) (eB gW (eB gW (eC (.int 7)) (eW 5)) (eW 5))) (ab (eV 3) aC)))))))) (bY (eU cR (eW 4))))))
def cS:List D->Res D:=fn 3 7 fW
theorem fe_law_groups(x0 x1 x2:D):cS [x0,x1,x2]=bU (fW [some (.val x0),some (.val x1),some (.val x2),none,none,none,none]):=dC _ _ _ _ rfl
def ic:SF:=(aI (kh 2 (bZ aC)) (aI (gJ (hU (eB bN (eB iJ (eU fF (eW 0)) (eB aY (eW 1) (eC (.int 2)))) (eC (.int 1)))) (bf 3) (gJ (hU (eB bN (eB iJ (eU fF (eB aY (eW 0) (eC (.int 0)))) (eB aY (eW 1) (eC (.int 1)))) (eC (.int 1)))) (bf 4) (aI (bg 5 (eB oJoin (eC (.str [])) (eL (bP (fv (eSl (eW 0) (pAt (eW 3)) (pAt (eB bN (eW 3) (eB aY (eW 1) (eC (.int 2))))))) 1 [4,1] (bf 0) eK (eSl (eW 0) (pAt (eW 1)) (pAt (eB bN (eW 1) (eB aY (eW 2) (eC (.int 1)))))))))) (aI (bg 6 (eL (bP (fv (eW 5)) 1 [1] (bf 0) (tAnd (tE (eB oNotInS (eW 0) (eC (.str [46,61])))) (tE (eB oNe (eW 0) (eB aY (eW 1) (eC (.int 3)))))) (eV 0)))) (sIf (tAnd (tE (eB oEq (eW 6) (eL (bZ aC)))) (tE (eB oGe (eB oCntS (eW 5) (eC (.str [61]))) (eB aY (eW 1) (eC (.int 4)))))) (de 2 (gN (ab (eV 3) (ab (eV 4) aC)))) dR))))) (sFrz 2 (bY (eV 2)))))
def gB:List D->Res D:=fn 2 7 ic
theorem fe_law_places(x0 x1:D):gB [x0,x1]=bU (ic [some (.val x0),some (.val x1),none,none,none,none,none]):=dC _ _ _ _ rfl
def d_:SF:=(aI (sIf (tOr (tE (eB oLe (eB bN (eB aY (eW 1) (eC (.int 0))) (eB aY (eW 0) (eC (.int 2)))) (eB aY (eW 3) (eC (.int 0))))) (tE (eB oLe (eB bN (eB aY (eW 3) (eC (.int 0))) (eB aY (eW 2) (eC (.int 2)))) (eB aY (eW 1) (eC (.int 0)))))) (bY (eC (.bl true))) dR) (aI (bg 4 (eB oMax (eB aY (eW 0) (eC (.int 5))) (eB aY (eW 2) (eC (.int 5))))) (aI (sIf (tE (eB oLe (eB bN (eB bN (eB aY (eW 1) (eC (.int 1))) (eB aY (eW 0) (eC (.int 1)))) (eW 4)) (eB aY (eW 3) (eC (.int 1))))) (bY (eC (.bl true))) dR) (bY (eB oLe (eB bN (eB bN (eB aY (eW 3) (eC (.int 1))) (eB aY (eW 2) (eC (.int 1)))) (eW 4)) (eB aY (eW 1) (eC (.int 1))))))))
def hZ:List D->Res D:=fn 4 5 d_
theorem fe_law_apart(x0 x1 x2 x3:D):hZ [x0,x1,x2,x3]=bU (d_ [some (.val x0),some (.val x1),some (.val x2),some (.val x3),none]):=dC _ _ _ _ rfl
def iC:SF:=(aI (kh 4 (bZ aC)) (aI (gJ (fv (aJ gB (ab (eV 0) (ab (eV 3) aC)))) (bf 5) (aI (bg 6 (eC (.bl true))) (aI (gJ (iZipB (eV 1) 2) (fG [7,8]) (sIf (tAnd (tE (eU mV (eW 8))) (tNot (tE (aJ hZ (ab (eV 3) (ab (eV 5) (ab (eV 7) (ab (eV 8) aC)))))))) (bg 6 (eC (.bl false))) dR)) (sIf (tE (eV 6)) (de 4 (eV 5)) dR)))) (sFrz 4 (bY (eV 4)))))
def iS:List D->Res D:=fnB [false,false,true,false] 9 iC
theorem fe_law_open(x0:D)(x1:D)(x2:List D)(x3:D):iS [x0,x1,.lst x2,x3]=bU (iC [some (.val x0),some (.val x1),some (.bor x2),some (.val x3),none,none,none,none,none]):=fnB_a _ _ _ _ rfl
def e_:SF:=(aI (kh 4 (bZ aC)) (aI (gJ (hU (eU fF (eW 1))) (bf 5) (aI (bg 6 (eL (lCat (aJ iS (ab (eV 0) (ab (eV 1) (ab (eW 4) (ab (eB aY (eW 1) (eW 5)) aC))))) (eL (bZ (ab (eC .non) aC)))))) (aI (bg 7 (aJ KG.aS (ab (eV 2) (ab (eB bN (eW 3) (eW 5)) aC)))) (aI (sIf (tE (eB oEq (eB oMod (aJ KG.aS (ab (eV 2) (ab (eC (.int 0)) aC))) (eC (.int 2))) (eC (.int 0)))) (bg 7 (eB oDiv (eB aY (aJ KM.bJ (ab (eB bN (eW 7) (eB gW (eC (.int 31)) (eW 5))) (ab (eC (.int 2)) aC))) (eC (.int 1))) (eC (.int 7)))) dR) (de 4 (eB aY (eW 6) (eB oMod (eW 7) (eU fF (eW 6))))))))) (bY (eU cR (eW 4)))))
def dZ:List D->Res D:=fn 4 8 e_
theorem fe_law_seating(x0 x1 x2 x3:D):dZ [x0,x1,x2,x3]=bU (e_ [some (.val x0),some (.val x1),some (.val x2),some (.val x3),none,none,none,none]):=dC _ _ _ _ rfl
end KN
end
set_option maxRecDepth 8000
namespace KN
open Z KG KH KM
theorem names_ok{c : Int}(hc : bits c ≤ 2 ^ 20){n : Nat}(hn : n ≤ 100): ∃nms : List (List Nat), nms.length = n ∧ eA [.int c, .int n] = .ok (.lst (nms.map .str)) := by
 obtain⟨S,hS⟩:=gZ (z:=1+c % 8) (by lia);have hS1:1≤S∧S≤8:=by lia
 have hS0:(0:Int) < S:=by lia
 obtain⟨pt,hpt⟩:∃pt:Int,c / 8 % S=pt:=⟨_,rfl⟩
 have:Ok (bU (gO [v (.int c),v (.int n),none,none,none,none,none,none,none,none,none])) λ d=>∃nms:List (List Nat),nms.length=n∧d=.lst (nms.map .str):=by
  refine l6 ?_;simp[gO,bj,hS,line,hS0,hpt];refine⟨by lia,?_⟩;refine kS (by lia) (by simp;lia) ?_;intro d hd;obtain⟨st,rfl,hst⟩:∃st:Int,d=.int st∧0≤st∧st≤100:=by simp at hd;rcases hd with rfl | rfl | rfl | rfl | rfl | rfl<;>exact⟨_,rfl,by decide,by decide⟩
  refine c5 (λ i ρ=>∃(nms:List (List Nat))(x7 x8 x9 x10:Option L),nms.length=i∧ρ=[v (.int c),v (.int n),vs bO,vi S,vi pt,vi st,ow (nms.map .str),x7,x8,x9,x10]) ⟨[],none,none,none,none,rfl,rfl⟩ ?_ ?_
  ·rintro i d ρ hi ⟨nms,x7,x8,x9,x10,hl,rfl⟩;obtain⟨hi',rfl⟩:=ints_get hi;simp;refine c5 (λ j ρ=>∃(nm:List Nat)(x9 x10:Option L),nm.length=j∧ρ=[v (.int c),v (.int n),vs bO,vi S,vi pt,vi st,ow (nms.map .str),vi i,vs nm,x9,x10]) ⟨[],x9,x10,rfl,rfl⟩ ?_ ?_
   ·rintro j d ρ hj ⟨nm,x9,x10,hnl,rfl⟩;obtain⟨hj',rfl⟩:=ints_get hj;have q1:a_ st (i:Int):=cI (by lia) (by lia);have q2:∀(x:Int),a_ x 1∧a_ x 0:=λ x=>⟨gf (by decide) (by decide),gf (by decide) (by decide)⟩
    have q3:a_ 30 (j:Int):=cI (by decide) (by decide);have q4:a_ (30*(j:Int)) (j:Int):=gf (by lia) (by lia);obtain⟨m,hm,hm2⟩:∃m:Nat,30*(j:Int)*(j:Int)=(m:Int)∧m≤10000:=⟨30*j*j,by push_cast;rfl,by have:30*j*j≤30*8*8:=Nat.mul_le_mul (Nat.mul_le_mul_left _ (by lia)) (by lia);lia⟩
    have q5:h9 (400+(m:Int)):=bj (by lia) (by lia);have q6:(0:Int) < 400+(m:Int):=by lia
    have hnl':nm.length+1≤16777216:=by lia
    by_cases h:pt=(j:Int)
    ·subst h;obtain⟨a,ha,ea⟩:=lA (c / (400+(m:Int))+st*i);simp[q1,q2,q3,q4,hm,q5,q6,ea,line,hnl']
     first | exact hnl | exact⟨nm++[a],by simp[hnl],rfl⟩ | lia
    ·obtain⟨a,ha,ea⟩:=lA (c / (400+(m:Int)));have h':¬(j:Int)=pt:=λ e=>h e.symm;simp[q1,q2,q3,q4,hm,q5,q6,h',ea,line,hnl']
     first | exact hnl | exact⟨nm++[a],by simp[hnl],rfl⟩ | lia
   ·rintro ρ ⟨nm,x9,x10,hnl,rfl⟩;have hll:nms.length < 16777216:=by lia
    simp[line,hll];exact⟨nms++[nm],by simp[hl],by simp⟩
  ·rintro ρ ⟨nms,x7,x8,x9,x10,hl,rfl⟩;rw[fP]at hl;simp;exact⟨nms,hl,rfl⟩
 rw[<-fe_law_names]at this;obtain⟨d,e,nms,h1,rfl⟩:=this;exact⟨nms,h1,e⟩
theorem nine_at{α:Type}{xs:List α}(h:xs.length=9):∃a b c d e f g i j,xs=[a,b,c,d,e,f,g,i,j]:=by
 match xs,h with
 | [a,b,c,d,e,f,g,i,j],_=>exact⟨a,b,c,d,e,f,g,i,j,rfl⟩
end KN
namespace KN
open Z KG KH KM
theorem law_apart_ok_KN(g:G)(p:Pl)(h:G)(q:Pl):hZ [aQ g,az p,aQ h,az q]=.ok (.bl (bK g p h q)):=by
 rw[fe_law_apart];refine bq ?_;unfold bK;by_cases h1:p.1+g.d≤q.1
 ·simp[d_,h1]
 ·by_cases h2:q.1+h.d≤p.1
  ·simp[d_,h1,h2]
  ·by_cases h3:p.2+g.w+max (g.gap:Int) (h.gap:Int)≤q.2
   ·simp[d_,h1,h2,h3]
   ·simp[d_,h1,h2,h3]
theorem no_fit{rows:Rows}{C:Nat}(H:Hall rows C){g:G}(k:GOk g){r c:Nat}(h:(rows.length:Int) < (r:Int)+g.d∨(C:Int) < (c:Int)+g.w):bC rows g ((r:Int),(c:Int))=false:=by
 have w1:=k.w1;have d1:=k.d1;rcases h with h1 | h2
 ·refine fits_false (s:=((r:Int)+((g.d-1:Nat):Int),(c:Int)+((0:Nat):Int))) (mem_seats (p:=((r:Int),(c:Int))) (i:=g.d-1) (j:=0) (by lia) (by lia)) ?_;unfold okS;rw[mF H (by simp only;lia)];rfl
 ·refine fits_false (s:=((r:Int)+((0:Nat):Int),(c:Int)+((g.w-1:Nat):Int))) (mem_seats (p:=((r:Int),(c:Int))) (i:=0) (j:=g.w-1) (by lia) (by lia)) ?_;unfold okS;rw[mF H (by simp only;lia)];rfl
theorem row_cut(f:Pl->Bool)(r:Nat){n:Nat}:∀(m:Nat),n≤m->(∀c:Nat,n≤c->c < m->f ((r:Int),(c:Int))=false)->(ck r m).filter f=(ck r n).filter f:=by
 intro m
 induction m with
 | zero =>
  intro h _; have : n = 0 := by lia
  subst this;rfl
 | succ m ih =>
  intro h hf;by_cases e:n=m+1
  ·rw[e]
  ·have e3:ck r (m+1)=ck r m++[((r:Int),(m:Int))]:=by simp[ck,List.range_succ]
   rw[e3,List.filter_append,ih (by lia) (λ c h1 h2=>hf c h1 (by lia))];simp[hf m (by lia) (by lia)]
theorem all_cut(f : Pl -> Bool)(C : Nat){n : Nat}: ∀(m : Nat), n ≤ m -> (∀r c : Nat, n ≤ r -> r < m -> c < C -> f ((r : Int), (c : Int)) = false) -> (cO m C).filter f = (cO n C).filter f := by
 intro m
 induction m with
 | zero =>
  intro h _; have : n = 0 := by lia
  subst this;rfl
 | succ m ih =>
  intro h hf;by_cases e:n=m+1
  ·rw[e]
  ·rw[gn,List.filter_append,ih (by lia) (λ r c h1 h2=>hf r c h1 (by lia))];have:(ck m C).filter f=[]:=by rw[row_cut (n:=0) f m C (Nat.zero_le _) λ c _ h2=>hf m c (by lia) (by lia) h2];rfl
   rw[this,List.append_nil]
def seen(rows:Rows)(r c w d:Nat):List Nat:=(((rows.drop r).take d).map λ row=>(row.drop c).take w).flatten
theorem seen_succ{rows:Rows}{r c w d:Nat}{row:List Nat}(h:rows[r+d]?=some row):seen rows r c w (d+1)=seen rows r c w d++(row.drop c).take w:=by unfold seen;rw[take_snoc (x:=row) (by rw[List.getElem?_drop];exact h),List.map_append,List.flatten_append];simp
theorem lX{rows:Rows}{C:Nat}(H:Hall rows C){r c w:Nat}(hc:c+w≤C):∀(d:Nat),r+d≤rows.length->(seen rows r c w d).map some=(fJ w ((r:Int),(c:Int)) d).map (aN rows)
 | 0,_=>by simp[seen,fJ]
 | d+1,hd=>by
  obtain⟨row,er,hl,_⟩:=H.row (r:=r+d) (by lia);have rs:=row_signs H er (c:=c) (w:=w) hc;have e:((r+d:Nat):Int)=(r:Int)+(d:Nat):=by lia
  rw[e]at rs;rw[seen_succ er,List.map_append,lX H hc d (by lia),rs,ku,List.map_append]
theorem eqNil(xs:List D):oEq (.lst xs) (.lst [])=.ok (.bl xs.isEmpty):=by cases xs<;>rfl
theorem fits_seen{rows:Rows}{C:Nat}(H:Hall rows C){g:G}{r c:Nat}(hr:r+g.d≤rows.length)(hc:c+g.w≤C):bC rows g ((r:Int),(c:Int))=(((seen rows r c g.w g.d).filter λ x=>!bR g.kind (some x)).isEmpty&&decide (g.wide≤(seen rows r c g.w g.d).count 61)):=by
 have hs:=lX H hc g.d hr;generalize seen rows r c g.w g.d=sg at hs ⊢;unfold bC;have eall:(seats g ((r:Int),(c:Int))).all (λ s=>bR g.kind (aN rows s))=sg.all λ c=>bR g.kind (some c):=by
  have h1:(seats g ((r:Int),(c:Int))).all (λ s=>bR g.kind (aN rows s))=((seats g ((r:Int),(c:Int))).map (aN rows)).all (bR g.kind):=by rw[List.all_map];rfl
  rw[h1,show seats g ((r:Int),(c:Int))=fJ g.w ((r:Int),(c:Int)) g.d from rfl,<-hs,List.all_map];rfl
 have ecnt:(seats g ((r:Int),(c:Int))).countP (j' rows)=sg.count 61:=by
  have h1:(seats g ((r:Int),(c:Int))).countP (j' rows)=((seats g ((r:Int),(c:Int))).map (aN rows)).countP (λ o=>o==some 61):=by rw[List.countP_map];rfl
  rw[h1,show seats g ((r:Int),(c:Int))=fJ g.w ((r:Int),(c:Int)) g.d from rfl,<-hs,List.countP_map,List.count];refine List.countP_congr λ x _=>?_;simp
 rw[eall,ecnt]
 congr 1
 rw[Bool.eq_iff_iff,List.all_eq_true,List.isEmpty_iff,List.filter_eq_nil_iff];exact⟨λ h x hx=>by simp[h x hx],λ h x hx=>by have:=h x hx;simpa using this⟩
theorem cut_rows{rows:Rows}{r d:Nat}(h:r+d≤rows.length):cut (rows.map D.str) (some (r:Int)) (some ((r:Int)+d))=((rows.drop r).take d).map D.str:=by
 have n1:¬(r:Int) < 0:=by lia
 have n2:¬(r:Int)+d < 0:=by lia
 have e:((r:Int)+d).toNat=r+d:=by lia
 simp only[cut,cP,n1,n2,if_false,Int.toNat_natCast,e,List.length_map];rw[Nat.min_eq_left (by lia),Nat.min_eq_left (by lia),Nat.add_sub_cancel_left,List.map_take,List.map_drop]
theorem takes_in(k:List Nat)(c:Nat):(!([46,61]:List Nat).contains c&&!([c]==k))=!bR k (some c):=by
 have:=badB k c;rw[<-this];have e1:∀n:Nat,(c==n)=decide (c=n):=λ n=>by rw[Bool.eq_iff_iff];simp
 rw[e1,e1];simp[Bool.and_assoc]
theorem law_places_ok_KN{rows : Rows}{C : Nat}(H : Hall rows C){g : G}(k : GOk g): gB [b? rows, aQ g] = .ok (.lst ((places rows C g).map az)) := by
 rw[fe_law_places];refine bq ?_;have hc2:=H.c2;have hr2:=H.r2;have w1:=k.w1;have d1:=k.d1;have w2:=k.w2;have d2:=k.d2;obtain⟨l5,hl0,e0⟩:=H.l5;have hln:C≤16777216:=by lia
 have hrn:rows.length≤16777216:=by lia
 obtain⟨R',hR'⟩:∃R':Nat,((rows.length:Int)-g.d+1).toNat=R':=⟨_,rfl⟩
 obtain⟨C',hC'⟩:∃C':Nat,((C:Int)-g.w+1).toNat=C':=⟨_,rfl⟩
 simp[ic,line,hrn,hR'];refine c5 (λ i ρ=>i≤R'∧∃x y z t,ρ=[v (b? rows),v (aQ g),ow (((cO i C).filter (bC rows g)).map az),x,y,z,t]) ⟨Nat.zero_le _,none,none,none,none,rfl⟩ ?_ ?_
 ·rintro i d ρ hi ⟨_,x,y,z,t,rfl⟩;obtain⟨hi',rfl⟩:=ints_get hi;simp[e0,hl0,line,hln,hC'];refine c5 (λ j ρ=>j≤C'∧∃y z t,ρ=[v (b? rows),v (aQ g),ow (((cO i C++ck i j).filter (bC rows g)).map az),vi (i:Nat),y,z,t]) ⟨Nat.zero_le _,y,z,t,by simp[ck]⟩ ?_ ?_
  ·rintro j d ρ hj ⟨_,y,z,t,rfl⟩;obtain⟨hj',rfl⟩:=ints_get hj;have e3:ck i (j+1)=ck i j++[((i:Int),(j:Int))]:=by simp[ck,List.range_succ]
   have h1:=List.length_filter_le (bC rows g) (cO i C++ck i j);rw[List.length_append,ir,jm]at h1;have h3:i*C≤100*100:=Nat.mul_le_mul (by lia) hc2;rw[e3,<-List.append_assoc,List.filter_append (cO i C++ck i j)];generalize (cO i C++ck i j).filter (bC rows g)=fs at h1 ⊢;have hri:i+g.d≤rows.length:=by lia
   have hcj:j+g.w≤C:=by lia
   have hfs:=fits_seen H (g:=g) hri hcj;have ec:=cut_rows hri;have esl:oSl (b? rows) (some (i:Int)) (some ((i:Int)+g.d))=.ok (.tup (((rows.drop i).take g.d).map D.str)):=by show Res.ok (D.tup (cut (rows.map D.str) _ _))=_;rw[ec]
   have hsl:(seen rows i j g.w g.d).length=g.d*g.w:=by have:=congrArg List.length (lX H hcj g.d hri);simpa[jC]using this
   have hm:g.d*g.w≤4*13:=Nat.mul_le_mul d2 w2;have hdl:((rows.drop i).take g.d).length≤16777216:=by rw[List.length_take];lia
   have hdl':min g.d (rows.length-i)≤16777216:=by lia
   simp[esl,bI,cA,bX,line,hdl'];rw[<-List.map_drop,<-List.map_take];refine bE D.str (λ _=>true) (λ row=>.str ((row.drop j).take g.w)) (xs:=(rows.drop i).take g.d) (λ row ma=>?_) ?_
   ·have hrl:row.length=C:=H.len row (List.mem_of_mem_drop (List.mem_of_mem_take ma));have er:=cut_row row (c:=j) (w:=g.w) (by lia);have hrl':row.length≤16777216:=by lia
    simp[line,er,hrl']
   ·rw [g9];have e1:((rows.drop i).take g.d).map (λ row=>D.str ((row.drop j).take g.w))=(((rows.drop i).take g.d).map λ row=>(row.drop j).take g.w).map D.str:=by rw[List.map_map];rfl
    have ej:=oJoin_nil (ts:=((rows.drop i).take g.d).map λ row=>(row.drop j).take g.w) (by show(seen rows i j g.w g.d).length≤_;lia)
    rw[e1,ej];change Ok _ _;rw[show(((rows.drop i).take g.d).map λ row=>(row.drop j).take g.w).flatten=seen rows i j g.w g.d from rfl];have hsl':(seen rows i j g.w g.d).length≤16777216:=by lia
    generalize seen rows i j g.w g.d=sg at hfs hsl hsl' ⊢;simp[bI,cA,bX,line,hsl'];refine bE (λ c=>.str [c]) (λ c=>!bR g.kind (some c)) (λ c=>.str [c]) (xs:=sg) (λ x hx=>?_) ?_
    ·have:=takes_in g.kind x;have en:oNotInS (.str [x]) (.str [46,61])=.ok (.bl (!([46,61]:List Nat).contains x)):=rfl;have em:oNe (.str [x]) (.str g.kind)=.ok (.bl (!([x]==g.kind))):=rfl;rw[<-this];clear this;generalize (([46,61]:List Nat).contains x)=bb at en ⊢;generalize ([x]==g.kind)=b2 at em ⊢;cases bb<;>cases b2<;>simp[en,em]
    ·rw[eqNil,hfs];have hemp:(((sg.filter λ c=>!bR g.kind (some c)).map λ c=>D.str [c]).isEmpty)=(sg.filter λ c=>!bR g.kind (some c)).isEmpty:=by cases sg.filter λ c=>!bR g.kind (some c)<;>rfl
     rw[hemp];cases h1:(sg.filter λ c=>!bR g.kind (some c)).isEmpty with
     | false=>simp;lia
     | true =>
      rw[h1,Bool.true_and]at hfs;by_cases h2:g.wide≤sg.count 61
      ·rw[decide_eq_true h2]at hfs;simp[h2,hfs];lia
      ·simp[h2];lia
  ·rintro ρ ⟨_,y,z,t,rfl⟩;simp only[fP];simp;refine⟨by lia,?_⟩;rw[gn];have:(ck i C).filter (bC rows g)=(ck i C').filter (bC rows g):=row_cut _ i C (by lia) λ c h1 h2=>no_fit H k (.inr (by lia));rw[List.filter_append,this,List.map_append]
 ·rintro ρ ⟨_,x,y,z,t,rfl⟩;simp only[fP];simp[places];rw[all_cut (n:=R') (bC rows g) C rows.length (by lia) λ r c h1 h2 h3=>no_fit H k (.inl (by lia))]
end KN
namespace KN
open Z KG KH KM
def c4(ss:List GP)(g:G)(p:Pl):Bool:=ss.all λ y=>bK g p y.1 y.2
theorem zipY:∀(gs:List G)(os:List (Option Pl)),gR (gs.map aQ) (os.map cy)=(gs.zip os).map encY
 | [],os=>by cases os<;>rfl
 | g :: gs,[]=>rfl
 | g :: gs,o :: os=>by rw[List.map_cons,List.map_cons,gR,zipY gs os];rfl
def okY(g:G)(p:Pl)(x:GO):Bool:=match x.2 with
 | none=>true
 | some q=>bK g p x.1 q
theorem free_all(g:G)(p:Pl):∀(xs:List GO),c4 (c_ xs) g p=xs.all (okY g p)
 | []=>rfl
 | (h,none) :: xs=>by have:=free_all g p xs;simp only[c4]at this ⊢;simp[c_,okY,this]
 | (h,some q) :: xs=>by have:=free_all g p xs;simp only[c4]at this ⊢;simp[c_,okY,this]
theorem open_body{rows : Rows}{C : Nat}(H : Hall rows C){gs : List G}{os : List (Option Pl)}(hgl : gs.length ≤ 100){g : G}(kg : GOk g)(l2 : L)(hz : ∀xs, zbK (.tup xs) (some (some l2)) = .ok (gR xs (os.map cy))):
  bU (iC [v (b? rows),v (.tup (gs.map aQ)),some l2,v (aQ g),none,none,none,none,none])=.ok (.lst (((places rows C g).filter (c4 (c_ (gs.zip os)) g)).map az)):=by
 refine bq ?_;have ep:=KN.law_places_ok_KN H kg;have hpl:=places_len H g;have hz':zbK (.tup (gs.map aQ)) (some (some l2))=.ok ((gs.zip os).map encY):=by rw[hz,zipY]
 simp[iC,ep,line];refine c5 (λ i ρ=>∃x5 x6 x7 x8,ρ=[v (b? rows),v (.tup (gs.map aQ)),some l2,v (aQ g),ow ((((places rows C g).take i).filter (c4 (c_ (gs.zip os)) g)).map az),x5,x6,x7,x8]) ⟨none,none,none,none,by simp⟩ ?_ ?_
 ·rintro i d ρ hi ⟨x5,x6,x7,x8,rfl⟩;rw[List.getElem?_map]at hi;obtain⟨p,hp,rfl⟩:=Option.map_eq_some_iff.mp hi;simp[hz'];refine c5 (λ j ρ=>∃x7 x8,ρ=[v (b? rows),v (.tup (gs.map aQ)),some l2,v (aQ g),ow ((((places rows C g).take i).filter (c4 (c_ (gs.zip os)) g)).map az),v (az p),v (.bl (((gs.zip os).take j).all (okY g p))),x7,x8]) ⟨x7,x8,by simp⟩ ?_ ?_
  ·rintro j d ρ hj ⟨x7,x8,rfl⟩;rw[List.getElem?_map]at hj;obtain⟨x,hx,rfl⟩:=Option.map_eq_some_iff.mp hj;rw[take_snoc hx];obtain⟨h,o⟩:=x;have eY:encY (h,o)=.tup [aQ h,cy o]:=rfl;cases o with
   | none =>simp[eY,cy,okY]
   | some q =>
    have ea:=KN.law_apart_ok_KN g p h q;have nP:mV (az q)=.ok (.bl true):=rfl;cases hab:bK g p h q with
    | true=>simp[eY,cy,okY,ea,hab,nP]
    | false=>simp[eY,cy,okY,ea,hab,nP]
  ·rintro ρ ⟨x7,x8,rfl⟩;rw[List.length_map,List.take_length,<-free_all,take_snoc hp,List.filter_append];have hfl:=List.length_filter_le (c4 (c_ (gs.zip os)) g) ((places rows C g).take i);rw[List.length_take]at hfl;have hfl':(((places rows C g).take i).filter (c4 (c_ (gs.zip os)) g)).length < 16777216:=by lia
   cases hfr:c4 (c_ (gs.zip os)) g p with
   | true=>simp[hfr,line,hfl']
   | false=>simp[hfr]
 ·rintro ρ ⟨x5,x6,x7,x8,rfl⟩;rw[List.length_map,List.take_length];simp
theorem open_lst{rows:Rows}{C:Nat}(H:Hall rows C){gs:List G}{os:List (Option Pl)}(hgl:gs.length≤100){g:G}(kg:GOk g):iS [b? rows,.tup (gs.map aQ),.lst (os.map cy),aQ g]=.ok (.lst (((places rows C g).filter (c4 (c_ (gs.zip os)) g)).map az)):=by rw[fe_law_open];exact open_body H hgl kg (.bor (os.map cy)) λ xs=>rfl
theorem zip_take{gs:List G}:∀{xs:List GO},xs.map (·.1)=gs.take xs.length->gs.zip (xs.map (·.2))=xs:=by
 induction gs with
 | nil=>intro xs h;cases xs with
  | nil=>rfl
  | cons x xs=>simp at h
 | cons g gs ih=>intro xs h;cases xs with
  | nil=>rfl
  | cons x xs =>simp only[List.map_cons,List.length_cons,List.take_succ_cons,List.cons.injEq]at h;rw[List.map_cons,List.zip_cons_cons,ih h.2,<-h.1]
theorem seating_ok{rows : Rows}{C : Nat}(H : Hall rows C){ns : List Int}(hb : Bd ns){gs : List G}(h6 : gs.length ≤ 12)(hgs : ∀g ∈ gs, GOk g){st : Int}(hst : 0 ≤ st): ∃xs : List GO, xs.map (·.1) = gs ∧ keepsB rows (c_ xs) = true ∧ dZ [b? rows, .tup (gs.map aQ), .lst (ns.map .int), .int st] = .ok (.tup (xs.map λ x => cy x.2)) := by
 obtain⟨f,ef,hf⟩:=iX hb (k:=0) (by decide);rw[fe_law_seating];have:Ok (bU (e_ [v (b? rows),v (.tup (gs.map aQ)),v (.lst (ns.map .int)),v (.int st),none,none,none,none])) λ d=>∃xs:List GO,xs.map (·.1)=gs∧keepsB rows (c_ xs)=true∧d=.tup (xs.map λ x=>cy x.2):=by
  refine l6 ?_;have hgl:gs.length≤16777216:=by lia
  simp[e_,line,hgl];refine c5 (λ i ρ=>∃(xs:List GO)(x5 x6 x7:Option L),xs.map (·.1)=gs.take i∧(∀k,k < xs.length->LP rows xs k)∧ρ=[v (b? rows),v (.tup (gs.map aQ)),v (.lst (ns.map .int)),v (.int st),ow (xs.map λ x=>cy x.2),x5,x6,x7]) ⟨[],none,none,none,rfl,λ k hk=>absurd hk (Nat.not_lt_zero k),rfl⟩ ?_ ?_
  ·rintro k d ρ hk ⟨xs,x5,x6,x7,hxs,hLP,rfl⟩;obtain⟨hkl,rfl⟩:=ints_get hk;obtain⟨g,eg⟩:∃g,gs[k]?=some g:=⟨_,List.getElem?_eq_getElem hkl⟩
   have hxl:xs.length=k:=by have:=congrArg List.length hxs;rw[List.length_map,List.length_take]at this;lia
   have kg:=hgs g (List.mem_of_getElem? eg);have eig:aY (.tup (gs.map aQ)) (.int (k:Int))=.ok (aQ g):=(lS (j:=k) rfl (by simp[eg])).1;obtain⟨c,ec,hc⟩:=iX hb (k:=st+(k:Int)) (by lia);have ezip:gs.zip (xs.map (·.2))=xs:=zip_take (by rw[hxl];exact hxs);have eo:=open_lst H (gs:=gs) (os:=xs.map (·.2)) (by lia) kg;rw[ezip,List.map_map,show(cy∘λ x:GO=>x.2)=λ x:GO=>cy x.2 from rfl]at eo;have hpl:=places_len H g;have hop:∀p∈(places rows C g).filter (c4 (c_ xs) g),LP rows (xs++[(g,some p)]) k:=λ p hp=>by obtain⟨h1,h2⟩:=List.mem_filter.mp hp;intro g' p' e;rw[List.getElem?_append_right (by lia),hxl,Nat.sub_self]at e;cases e;refine⟨(List.mem_filter.mp h1).2,λ j hj g2 p2 e2=>?_⟩;rw[List.getElem?_append_left (by lia)]at e2;have:=List.all_eq_true.mp h2 (g2,p2) (iR.mpr (List.mem_of_getElem? e2));rw[apart_sym];exact this
   have hlen:((places rows C g).filter (c4 (c_ xs) g)).length≤10000:=Nat.le_trans (List.length_filter_le _ _) hpl;generalize (places rows C g).filter (c4 (c_ xs) g)=op at eo hop hlen;have hnone:LP rows (xs++[(g,none)]) k:=by intro g' p' e;rw[List.getElem?_append_right (by lia),hxl,Nat.sub_self]at e;cases e
   have hput:∀o:Option Pl,LP rows (xs++[(g,o)]) k->(xs++[(g,o)]).map (·.1)=gs.take (k+1)∧∀k',k' < (xs++[(g,o)]).length->LP rows (xs++[(g,o)]) k':=λ o ho=>by
    refine⟨by rw[List.map_append,hxs,take_snoc eg];rfl,λ k' hk'=>?_⟩;by_cases h:k' < xs.length
    ·intro g' p' e;rw[List.getElem?_append_left h]at e;obtain⟨h1,h2⟩:=hLP k' h g' p' e;refine⟨h1,λ j hj g2 p2 e'=>?_⟩;rw[List.getElem?_append_left (by lia)]at e';exact h2 j hj g2 p2 e'
    ·have:k'=k:=by rw[List.length_append,List.length_singleton]at hk';lia
     subst this;exact ho
   have hll:xs.length < 16777216:=by lia
   have hol:op.length+1≤16777216:=by lia
   have key:∀z:Int,∃o:Option Pl,aY (.lst (op.map az++[D.non])) (.int (z % ((op.length:Int)+1)))=.ok (cy o)∧LP rows (xs++[(g,o)]) k:=by
    intro z;have h0:(0:Int) < (op.length:Int)+1:=by lia
    obtain⟨n,hn⟩:=gZ (z:=z % ((op.length:Int)+1)) (Int.emod_nonneg _ (by lia));have hn2:=Int.emod_lt_of_pos z h0;rw[hn];by_cases kj:n < op.length
    ·obtain⟨p,ep⟩:∃p,op[n]?=some p:=⟨_,List.getElem?_eq_getElem kj⟩
     exact⟨some p,(lS (j:=n) rfl (by rw[List.getElem?_append_left (by simpa using kj),List.getElem?_map,ep];rfl)).2,hop p (List.mem_of_getElem? ep)⟩
    ·have:n=op.length:=by lia
     exact⟨none,(lS (j:=n) rfl (by rw[List.getElem?_append_right (by simp;lia)];simp[this])).2,hnone⟩
   have hp0:(0:Int) < (op.length:Int)+1:=by lia
   by_cases h2:f % 2=0
   ·have q31:a_ 31 (k:Int):=cI (by decide) (by decide);obtain⟨ms,hml,hmp,em⟩:=m? (c+31*(k:Int)) (n:=2) (by decide);obtain⟨m0,m1,rfl⟩:∃a b,ms=[a,b]:=by
     match ms,hml with
     | [a,b],_=>exact⟨a,b,rfl⟩
    replace em:KM.bJ [.int (c+31*(k:Int)),.int 2]=.ok (.lst [.int m0,.int m1]):=em;have i1:aY (.lst [.int m0,.int m1]) (.int 1)=.ok (.int m1):=rfl;obtain⟨o,eo2,ho⟩:=key (m1 / 7);simp[eig,eo,lCat_k,line,hol,ec,ef,h2,q31,em,i1,bj,hp0,eo2,hll];obtain⟨p1,p2⟩:=hput o ho;exact⟨xs++[(g,o)],p1,p2,by simp⟩
   ·obtain⟨o,eo2,ho⟩:=key c;simp[eig,eo,lCat_k,line,hol,ec,ef,h2,hp0,eo2,hll];obtain⟨p1,p2⟩:=hput o ho;exact⟨xs++[(g,o)],p1,p2,by simp⟩
  ·rintro ρ ⟨xs,x5,x6,x7,hxs,hLP,rfl⟩;rw[fP,List.take_length]at hxs;simp;exact⟨xs,hxs,keeps_LP.mpr hLP,rfl⟩
 obtain⟨d,e,xs,h1,h2,rfl⟩:=this;exact⟨xs,h1,h2,e⟩
end KN
namespace KG
open Z
theorem enum_at{ds:List D}{i:Nat}{d:D}(h:(dF 0 ds)[i]?=some d):∃x,ds[i]?=some x∧d=.tup [.int (i:Nat),x]:=by
 have key:∀(ds:List D)(k i:Nat),(dF k ds)[i]?=(ds[i]?).map λ d=>pair (.int ((k+i:Nat):Int)) d:=by
  intro ds
  induction ds with
  | nil=>intro k i;simp[dF]
  | cons d ds ih =>
   intro k i;cases i with
   | zero=>simp[dF]
   | succ i=>simp only[dF,List.getElem?_cons_succ,ih (k+1) i];rw[show k+1+i=k+(i+1)by lia]
 rw[key,Nat.zero_add]at h;cases e:ds[i]? with
 | none=>rw[e]at h;cases h
 | some x=>rw[e]at h;cases h;exact⟨x,rfl,rfl⟩
end KG
set_option maxRecDepth 4000
noncomputable section
namespace KF
open Z KG
def ig:SF:=(aI (sDic 3) (aI (gJ (fv (aJ KG.cM (ab (eV 1) (ab (eV 2) aC)))) (fG [4,5]) (gJ (fv (aJ KG.dY (ab (eV 4) (ab (eV 5) aC)))) (bf 6) (mN 3 (eV 6)))) (aI (kh 7 (bZ aC)) (sDFrz 3 (aI (gJ (iEnum (eV 0)) (fG [8,9]) (aI (bg 10 (eL (bP (iEnum (eV 9)) 2 [8] (fG [0,1]) (tE (eB oNe (eW 1) (eC (.str [35])))) (gN (ab (eV 2) (ab (eV 0) aC)))))) (sExt 7 (bP (fv (eW 10)) 1 [3] (bf 0) (tNinD (eV 0) 1) (eV 0))))) (bY (eU cR (eW 7))))))))
def gC:List D->Res D:=fn 3 11 ig
theorem fe_free_seats(x0 x1 x2:D):gC [x0,x1,x2]=bU (ig [some (.val x0),some (.val x1),some (.val x2),none,none,none,none,none,none,none,none]):=dC _ _ _ _ rfl
end KF
end
set_option maxRecDepth 8000
namespace KF
open Z KG
theorem eT{g:G}{p s:Pl}:s∈seats g p↔(p.1≤s.1∧s.1 < p.1+g.d)∧p.2≤s.2∧s.2 < p.2+g.w:=by
 unfold seats fJ dj;simp only[List.mem_flatMap,List.mem_map,List.mem_range];constructor
 ·rintro⟨i,hi,j,hj,rfl⟩;simp only;lia
 ·rintro⟨⟨h1,h2⟩,h3,h4⟩;refine⟨(s.1-p.1).toNat,by lia,(s.2-p.2).toNat,by lia,?_⟩
  ext<;>simp only<;>lia
def dQ(ss:List GP)(p:Pl):Bool:=ss.any λ x=>decide (p∈seats x.1 x.2)
def fsB(rows:Rows)(ss:List GP)(p:Pl):Bool:=(aN rows p != some 35)&&!dQ ss p
def fsL(rows:Rows)(C:Nat)(ss:List GP):List Pl:=(cO rows.length C).filter (fsB rows ss)
def nh(p:Pl):List Int:=[p.1,p.2]
@[simp] theorem keyOf_P(p:Pl):keyOf (az p)=some (nh p):=rfl
theorem keyP_inj{p q:Pl}(h:nh p=nh q):p=q:=by unfold nh at h;simp only[List.cons.injEq,and_true]at h;exact Prod.ext h.1 h.2
theorem mem_putD{ks:List (List Int)}{k k':List Int}:k∈putD ks k'↔k∈ks∨k=k':=by
 unfold putD;split
 ·rename_i h;exact⟨.inl,λ z=>z.elim id λ e=>e▸h⟩
 ·simp
theorem len_putD(ks:List (List Int))(k:List Int):(putD ks k).length≤ks.length+1:=by unfold putD;split<;>simp
def KS(ks:List (List Int))(S:Pl->Prop):Prop:=∀p:Pl,nh p∈ks↔S p
theorem KS.put{ks:List (List Int)}{S:Pl->Prop}(h:KS ks S)(q:Pl):KS (putD ks (nh q)) (λ p=>S p∨p=q):=λ p=>by rw[mem_putD,h p];exact or_congr Iff.rfl ⟨keyP_inj,λ e=>e▸rfl⟩
theorem KS.cong{ks:List (List Int)}{S T:Pl->Prop}(h:KS ks S)(e:∀p,S p↔T p):KS ks T:=λ p=>(h p).trans (e p)
theorem taken_snoc(ss:List GP)(x:GP)(p:Pl):dQ (ss++[x]) p=true↔dQ ss p=true∨p∈seats x.1 x.2:=by simp[dQ]
theorem seats_len(g:G)(p:Pl):(seats g p).length=g.d*g.w:=by unfold seats;rw[jC]
theorem enum_len(ds:List D):(dF 0 ds).length=ds.length:=by
 have:∀(k:Nat)(ds:List D),(dF k ds).length=ds.length:=by
  intro k ds
  induction ds generalizing k with
  | nil=>rfl
  | cons d ds ih=>simp[dF,ih]
 exact this 0 ds
theorem enum_rng(ds:List D):dF 0 ds=(List.range ds.length).map λ(i:Nat)=>D.tup [.int (i:Int),ds.getD i .non]:=by
 refine List.ext_getElem? λ i=>?_;cases e:(dF 0 ds)[i]? with
 | none =>have hl:=enum_len ds;have:=List.getElem?_eq_none_iff.mp e;rw[List.getElem?_eq_none (by simp;lia)]
 | some d =>obtain⟨x,hx,rfl⟩:=enum_at e;have hi:i < ds.length:=(List.getElem?_eq_some_iff.mp hx).1;rw[List.getElem?_map,List.getElem?_range hi,Option.map_some,List.getD_eq_getElem?_getD,hx];rfl
theorem neSign(c:Nat):oNe (.str [c]) (.str [35])=.ok (.bl (c != 35)):=by
 have e:km (.str [c]) (.str [35])=some ([c]==[35]):=rfl;unfold oNe;rw[e];have:(!([c]==[35]))=(c != 35):=by
  by_cases h:c=35
  ·subst h;rfl
  ·simp[h,bne]
 simp[<-this]
theorem taken_of{ks:List (List Int)}{ss:List GP}(h:KS ks λ p=>dQ ss p=true)(p:Pl):decide (nh p∈ks)=dQ ss p:=by
 have h1:nh p∈ks↔dQ ss p=true:=h p;cases e:dQ ss p with
 | true=>rw[e]at h1;simpa using h1
 | false=>rw[e]at h1;simpa using h1
theorem free_ok_KF{rows : Rows}{C : Nat}(H : Hall rows C){xs : List GO}(h6 : xs.length ≤ 6)(hg : ∀x ∈ xs, GOk x.1): gC [b? rows, .tup (xs.map λ x => aQ x.1), .tup (xs.map λ x => cy x.2)] = .ok (.tup ((fsL rows C (c_ xs)).map az)) := by
 rw[fe_free_seats];refine bq ?_;have hc2:=H.c2;have hr2:=H.r2;have hxl:xs.length≤16777216:=by lia
 have hsl:=sit_len xs;have hsg:∀x∈c_ xs,GOk x.1:=λ x hx=>hg (x.1,some x.2) (iR.mp hx);simp[ig,those_ok hxl];generalize hs:c_ xs=ss at *;refine c5 (λ i ρ=>∃ks x4 x5 x6,KS ks (λ p=>dQ (ss.take i) p=true)∧ks.length≤i*60∧ρ=[v (b? rows),v (.tup (xs.map λ x=>aQ x.1)),v (.tup (xs.map λ x=>cy x.2)),some (.lU ks),x4,x5,x6,none,none,none,none]) ⟨[],none,none,none,λ p=>by simp[dQ],by simp,rfl⟩ ?_ ?_
 ·rintro i d ρ hi ⟨ks,x4,x5,x6,hk,hkl,rfl⟩;rw[List.getElem?_map]at hi;cases hx:ss[i]? with
  | none=>rw[hx]at hi;cases hi
  | some x =>
   rw[hx]at hi;cases hi;have hil:=(List.getElem?_eq_some_iff.mp hx).1;have hgx:=hsg x (List.mem_of_getElem? hx);have hw:=hgx.w2;have hd:=hgx.d2;have hle:(seats x.1 x.2).length≤60:=by rw[seats_len];have:x.1.d*x.1.w≤4*13:=Nat.mul_le_mul (by lia) hw;lia
   simp[mG hgx];have hti:ss.take (i+1)=ss.take i++[x]:=by rw[List.take_add_one,hx];rfl
   refine c5 (λ j ρ=>∃ks x6,KS ks (λ p=>dQ (ss.take i) p=true∨p∈(seats x.1 x.2).take j)∧ks.length≤i*60+j∧ρ=[v (b? rows),v (.tup (xs.map λ x=>aQ x.1)),v (.tup (xs.map λ x=>cy x.2)),some (.lU ks),v (aQ x.1),v (az x.2),x6,none,none,none,none]) ⟨ks,x6,hk.cong λ p=>by simp,by lia,rfl⟩ ?_ ?_
   ·rintro j d ρ hj ⟨ks,x6,hk,hkl,rfl⟩;rw[List.getElem?_map]at hj;cases hq:(seats x.1 x.2)[j]? with
    | none=>rw[hq]at hj;cases hj
    | some q =>
     rw[hq]at hj;cases hj;have hjl:=(List.getElem?_eq_some_iff.mp hq).1;have hp:=len_putD ks (nh q);have kj:ks.length < 16777216:=by lia
     simp[line,kj];refine⟨(hk.put q).cong λ p=>?_,by lia⟩;rw[List.take_add_one,hq];simp[or_assoc]
   ·rintro ρ ⟨ks,x6,hk,hkl,rfl⟩;rw[List.length_map,List.take_length]at hk;rw[List.length_map]at hkl;simp;refine⟨hk.cong λ p=>?_,by lia⟩;rw[hti,taken_snoc]
 ·rintro ρ ⟨ks,x4,x5,x6,hk,hkl,rfl⟩;rw[List.length_map,List.take_length]at hk;have eH:kT (b? rows)=.ok (rows.map D.str):=rfl;simp[eH];refine c5 (λ i ρ=>∃x8 x9 x10,i≤rows.length∧ρ=[v (b? rows),v (.tup (xs.map λ x=>aQ x.1)),v (.tup (xs.map λ x=>cy x.2)),some (.fdc ks),x4,x5,x6,ow (((cO i C).filter (fsB rows ss)).map az),x8,x9,x10]) ⟨none,none,none,Nat.zero_le _,rfl⟩ ?_ ?_
  ·rintro i d ρ hi ⟨x8,x9,x10,_,rfl⟩;obtain⟨y,hy,rfl⟩:=enum_at hi;rw[List.getElem?_map]at hy;cases hr:rows[i]? with
   | none=>rw[hr]at hy;cases hy
   | some row =>
    rw[hr]at hy;cases hy;have hil:=(List.getElem?_eq_some_iff.mp hr).1;have hl:row.length=C:=H.len _ (List.mem_of_getElem? hr);have hln:C≤16777216:=by lia
    have eE:kT (.str row)=.ok (row.map λ c=>D.str [c]):=rfl;simp[bI,line,cA,bX,hl,eE,enum_len,hln];have eR:dF 0 (row.map λ c=>D.str [c])=(List.range C).map λ(j:Nat)=>D.tup [.int (j:Int),.str [row.getD j 0]]:=by
     rw[enum_rng,List.length_map,hl];refine List.map_congr_left λ j hj=>?_;have hj':j < row.length:=by rw[hl];exact List.mem_range.mp hj
     rw[List.getD_eq_getElem?_getD,List.getElem?_map,List.getD_eq_getElem?_getD,List.getElem?_eq_getElem hj'];rfl
    have sg:∀j,j < C->aN rows ((i:Int),(j:Int))=some (row.getD j 0):=λ j hj=>by
     have hj':j < row.length:=by rw[hl];exact hj
     unfold aN;rw[if_pos ⟨by simp,by simp⟩];simp[hr,List.getElem?_eq_getElem hj',List.getD_eq_getElem?_getD]
    have e1:((List.range C).filter λ j=>row.getD j 0 != 35).map (λ(j:Nat)=>az ((i:Int),(j:Int)))=((ck i C).filter λ p=>aN rows p != some 35).map az:=by
     unfold ck;rw[List.filter_map,List.map_map];have:(List.range C).filter (λ j=>row.getD j 0 != 35)=(List.range C).filter ((λ p=>aN rows p != some 35)∘λ(c:Nat)=>(((i:Nat):Int),((c:Nat):Int))):=by refine List.filter_congr λ j hj=>?_;have:=sg j (List.mem_range.mp hj);simp only[Function.comp_apply,this];simp[bne]
     rw[this];rfl
    rw[eR];refine bE (λ(j:Nat)=>D.tup [.int (j:Int),.str [row.getD j 0]]) (λ j=>row.getD j 0 != 35) (λ(j:Nat)=>az ((i:Int),(j:Int))) ?_ ?_
    ·intro j hj;simp[neSign,line,bne]
    ·rw[e1];have h2:=List.length_filter_le (λ p=>aN rows p != some 35) (ck i C);rw[jm]at h2;refine⟨by rw[List.length_map];lia,?_⟩;refine bE az (λ p=>!dQ ss p) az ?_ ?_
     ·intro p hp;simp[taken_of hk]
     ·have e2:((ck i C).filter λ p=>aN rows p != some 35).filter (λ p=>!dQ ss p)=(ck i C).filter (fsB rows ss):=by rw[List.filter_filter];refine List.filter_congr λ p _=>?_;unfold fsB;rw[Bool.and_comm]
      rw[e2];have h1:=List.length_filter_le (fsB rows ss) (cO i C);have h3:=List.length_filter_le (fsB rows ss) (ck i C);rw[ir]at h1;rw[jm]at h3;have h4:i*C≤100*100:=Nat.mul_le_mul (by lia) hc2;refine⟨by rw[List.length_map];lia,by lia,?_⟩;rw[gn,List.filter_append,List.map_append]
  ·rintro ρ ⟨x8,x9,x10,_,rfl⟩;rw[enum_len,List.length_map];simp[fsL]
end KF
namespace KU
open Z KG KH KM KN KF
abbrev KP:=Nat×Pl
def mf(x:KP):D:=.tup [.int (x.1:Int),az x.2]
def f9(rows:Rows)(C:Nat)(ss:List GP):Nat->List G->List KP
 | _,[]=>[]
 | k,g :: gs=>((places rows C g).filter (c4 ss g)).map (λ p=>(k,p))++f9 rows C ss (k+1) gs
theorem useL_snoc(rows:Rows)(C:Nat)(ss:List GP)(g:G):∀(gs:List G)(k:Nat),f9 rows C ss k (gs++[g])=f9 rows C ss k gs++((places rows C g).filter (c4 ss g)).map λ p=>(k+gs.length,p)
 | [],k=>by simp[f9]
 | h :: gs,k=>by rw[List.cons_append,f9,useL_snoc rows C ss g gs (k+1),f9,List.append_assoc];simp only[List.length_cons];rw[show k+1+gs.length=k+(gs.length+1)by lia]
theorem mz{rows:Rows}{C:Nat}(H:Hall rows C)(ss:List GP):∀(gs:List G)(k:Nat),(f9 rows C ss k gs).length≤gs.length*10000
 | [],k=>by simp[f9]
 | g :: gs,k=>by have h1:=mz H ss gs (k+1);have h2:=places_len H g;have h3:=List.length_filter_le (c4 ss g) (places rows C g);simp only[f9,List.length_append,List.length_map,List.length_cons];lia
theorem useL_mem{rows:Rows}{C:Nat}{ss:List GP}{x:KP}:∀{gs:List G}{k:Nat},x∈f9 rows C ss k gs->∃g,gs[x.1-k]?=some g∧k≤x.1
 | [],k,h=>by cases h
 | g :: gs,k,h=>by
  rcases List.mem_append.mp h with h | h
  ·obtain⟨p,_,rfl⟩:=List.mem_map.mp h;exact⟨g,by simp,Nat.le_refl _⟩
  ·obtain⟨g',e,hk⟩:=useL_mem h;refine⟨g',?_,by lia⟩;rw[show x.1-k=(x.1-(k+1))+1 by lia];exact e
@[simp] theorem encK0(x:KP):aY (mf x) (.int 0)=.ok (.int (x.1:Int)):=rfl
@[simp] theorem encK1(x:KP):aY (mf x) (.int 1)=.ok (az x.2):=rfl
@[simp] theorem gK(x:KP)(i j:Nat)(ρ:Env):fG [i,j] (mf x) ρ=.ok ((ρ.set i (v (.int (x.1:Int)))).set j (v (az x.2))):=rfl
theorem mk_K(k:Nat)(p:Pl):D.tup [.int (k:Int),az p]=mf (k,p):=rfl
theorem nU{rows : Rows}{C : Nat}(H : Hall rows C){xs : List GO}(hx : xs.length ≤ 6){gs : List G}(hg : gs.length ≤ 12)(hgs : ∀g ∈ gs, GOk g): fS [b? rows, .tup (xs.map λ x => aQ x.1), .tup (xs.map λ x => cy x.2), .tup (gs.map aQ)] = .ok (.lst ((f9 rows C (c_ xs) 0 gs).map mf)) := by
 rw[fe_all_users];refine bq ?_;have et:=those_ok (xs:=xs) (by lia);have hsl:=sit_len xs;simp[iZ,et,line];refine c5 (λ i ρ=>∃x6 x7,ρ=[v (b? rows),v (.tup (xs.map λ x=>aQ x.1)),v (.tup (xs.map λ x=>cy x.2)),v (.tup (gs.map aQ)),v (.lst ((c_ xs).map encX)),ow ((f9 rows C (c_ xs) 0 (gs.take i)).map mf),x6,x7]) ⟨none,none,by simp[f9]⟩ ?_ ?_
 ·rintro i d ρ hi ⟨x6,x7,rfl⟩;obtain⟨y,hy,rfl⟩:=enum_at hi;rw[List.getElem?_map]at hy;obtain⟨g,eg,rfl⟩:=Option.map_eq_some_iff.mp hy;have kg:=hgs g (List.mem_of_getElem? eg);have hpl:=places_len H g;have epl:=places_of_ok H kg;have eo:=open_among_ok (places rows C g) g (ss:=c_ xs) hpl (by lia);have hil:i < gs.length:=(List.getElem?_eq_some_iff.mp eg).1;have hul:=mz H (c_ xs) (gs.take i) 0;rw[List.length_take]at hul;have hfl:=List.length_filter_le (c4 (c_ xs) g) (places rows C g);rw[take_snoc eg,useL_snoc];change e! [_,_,_]=.ok (.tup (((places rows C g).filter (c4 (c_ xs) g)).map az))at eo;have hgl:(gs.take i).length=i:=by rw[List.length_take];lia
  rw[hgl,Nat.zero_add];generalize f9 rows C (c_ xs) 0 (gs.take i)=us at hul ⊢;generalize (places rows C g).filter (c4 (c_ xs) g)=ps at eo hfl ⊢;have hps:ps.length≤16777216:=by lia
  have hsum:us.length+ps.length≤16777216:=by lia
  simp[bI,epl,eo,line,cA,bX,hps];refine bE az (λ _=>true) (λ p=>mf (i,p)) (xs:=ps) (λ p _=>?_) ?_
  ·simp[line,mk_K]
  ·rw[g9];simp[hsum]
 ·rintro ρ ⟨x6,x7,rfl⟩;have:(dF 0 (gs.map aQ)).length=gs.length:=by
   have:∀(ds:List D)(k:Nat),(dF k ds).length=ds.length:=by
    intro ds
    induction ds with
    | nil=>intro k;rfl
    | cons d ds ih=>intro k;simp[dF,ih]
   rw[this,List.length_map]
  rw[this,List.take_length];simp
theorem fill(i j:Nat)(hij:i≠j):∀(ps:List Pl)(ρ:Env)(ks:List (List Int))(S:Pl->Prop),ρ[i]?=some (some (.lU ks))->j < ρ.length->KS ks S->ks.length+ps.length < 16777216 ->
  Ok (eX (bf j) (mN i (eV j)) (ps.map az) ρ) λ fl=>∃ks' x,fl=.nx ((ρ.set i (some (.lU ks'))).set j x)∧KS ks' (λ p=>S p∨p∈ps)∧ks'.length≤ks.length+ps.length
 | [],ρ,ks,S,hi,hj,hk,hl=>by
  refine⟨.nx ρ,rfl,ks,ρ[j],?_,hk.cong λ p=>by simp,by simp⟩;have e1:ρ.set i (some (.lU ks))=ρ:=by obtain⟨h,e⟩:=List.getElem?_eq_some_iff.mp hi;rw[<-e,List.set_getElem_self]
  rw[e1,List.set_getElem_self]
 | q :: ps,ρ,ks,S,hi,hj,hk,hl=>by
  simp only[List.length_cons]at hl;have hi':(ρ.set j (some (.val (az q))))[i]?=some (some (.lU ks)):=by rw[List.getElem?_set_ne (Ne.symm hij)];exact hi
  have hv:eV j (ρ.set j (some (.val (az q))))=.ok (az q):=by unfold eV;rw[List.getElem?_set_self hj]
  have hp:=len_putD ks (nh q);obtain⟨fl,e,ks',x,rfl,h1,h2⟩:=fill i j hij ps ((ρ.set j (some (.val (az q)))).set i (some (.lU (putD ks (nh q))))) (putD ks (nh q)) (λ p=>S p∨p=q) (by rw[List.getElem?_set_self];rw[List.length_set];exact(List.getElem?_eq_some_iff.mp hi).1) (by simpa using hj) (hk.put q) (by lia);refine⟨_,?_,ks',x,rfl,h1.cong λ p=>by simp[or_assoc],by simp only[List.length_cons];lia⟩;have eb:mN i (eV j) (ρ.set j (some (.val (az q))))=.ok (.nx ((ρ.set j (some (.val (az q)))).set i (some (.lU (putD ks (nh q)))))):=by show(eV j (ρ.set j (some (.val (az q))))).bind _=_;rw[hv,Res.mT,hi',keyOf_P,dputK_a,guard_pos];show ks.length < 16777216;lia
  show(eX (bf j) (mN i (eV j)) (az q :: ps.map az) ρ)=_;rw[eX];show(Res.ok (ρ.set j (some (.val (az q))))).bind _=_;rw[Res.mT,eb,Res.mT];show eX (bf j) (mN i (eV j)) (ps.map az) _=_;rw[e,List.set_set,List.set_comm _ _ (Ne.symm hij),List.set_set]
def useB(rows:Rows)(C:Nat)(ss:List GP)(p:Pl)(g:G):Bool:=((places rows C g).filter (c4 ss g)).any λ q=>decide (p∈seats g q)
def kn(rows:Rows)(C:Nat)(ss:List GP)(cs:List G)(p:Pl):Bool:=cs.any (useB rows C ss p)
theorem useL_iff{rows : Rows}{C : Nat}{ss : List GP}{x : KP}: ∀{gs : List G}{k : Nat}, x ∈ f9 rows C ss k gs ↔ ∃j g, gs[j]? = some g ∧ x.1 = k + j ∧ x.2 ∈ (places rows C g).filter (c4 ss g)
 | [],k=>by simp[f9]
 | g :: gs,k=>by
  rw[f9,List.mem_append,useL_iff];constructor
  ·rintro(h | ⟨j,g',h1,h2,h3⟩)
   ·obtain⟨p,hp,rfl⟩:=List.mem_map.mp h;exact⟨0,g,rfl,rfl,hp⟩
   ·exact⟨j+1,g',h1,by lia,h3⟩
  ·rintro⟨j,g',h1,h2,h3⟩;cases j with
   | zero =>cases h1;exact .inl (List.mem_map.mpr ⟨x.2,h3,Prod.ext (by simpa using h2.symm) rfl⟩)
   | succ j=>exact .inr ⟨j,g',h1,by lia,h3⟩
def usedK(cs:List G)(us:List KP)(p:Pl):Prop:=∃x∈us,∃g,cs[x.1]?=some g∧p∈seats g x.2
theorem usedK_nil(cs:List G)(p:Pl):¬usedK cs [] p:=by rintro⟨x,hx,_⟩;cases hx
theorem usedK_snoc{cs:List G}{us:List KP}{x:KP}{g:G}(hg:cs[x.1]?=some g)(p:Pl):usedK cs (us++[x]) p↔usedK cs us p∨p∈seats g x.2:=by
 constructor
 ·rintro⟨z,hz,h⟩;rcases List.mem_append.mp hz with hz | hz
  ·exact .inl ⟨z,hz,h⟩
  ·rw[List.mem_singleton]at hz;subst hz;obtain⟨g',hg',h⟩:=h;rw[hg]at hg';cases hg';exact .inr h
 ·rintro(⟨z,hz,h⟩ | h)
  ·exact⟨z,List.mem_append_left _ hz,h⟩
  ·exact⟨x,by simp,g,hg,h⟩
theorem used_iff{rows:Rows}{C:Nat}{ss:List GP}{cs:List G}{p:Pl}:usedK cs (f9 rows C ss 0 cs) p↔kn rows C ss cs p=true:=by
 unfold kn useB usedK;rw[List.any_eq_true];constructor
 ·rintro⟨x,hx,g,hg,hp⟩;obtain⟨j,g',h1,h2,h3⟩:=useL_iff.mp hx;rw[Nat.zero_add]at h2;subst h2;rw[hg]at h1;cases h1;exact⟨g,List.mem_of_getElem? hg,List.any_eq_true.mpr ⟨x.2,h3,decide_eq_true hp⟩⟩
 ·rintro⟨g,hg,h⟩;obtain⟨q,hq,hp⟩:=List.any_eq_true.mp h;obtain⟨j,hj⟩:=List.getElem?_of_mem hg;exact⟨(j,q),useL_iff.mpr ⟨j,g,hj,by simp,hq⟩,g,hj,of_decide_eq_true hp⟩
def fw(rows:Rows)(C:Nat)(ss:List GP)(cs:List G):List Pl:=(fsL rows C ss).filter λ p=>!kn rows C ss cs p
theorem seats_60{g:G}(k:GOk g)(p:Pl):(seats g p).length≤60:=by rw[seats_len];have hw:=k.w2;have hd:=k.d2;have:g.d*g.w≤4*13:=Nat.mul_le_mul (by lia) hw;lia
end KU
namespace KN
open Z KG KH KM
structure WsOk(ws:List Pl):Prop where
 up:ws.Pairwise λ a b=>a.1 < b.1
 lo:∀p∈ws,0≤p.1
structure GrpW(g:G):Prop extends GrpG g where
 wso:∃ws:List Pl,WsOk ws∧g.wishes=.tup (ws.map az)
theorem ws_nil:WsOk []:=⟨List.Pairwise.nil,by simp⟩
theorem ws_snoc{ws:List Pl}{j:Nat}{m:Int}(h:WsOk ws)(hb:∀p∈ws,p.1 < (j:Nat))(k:j < 6):WsOk (ws++[((j:Int),m)])∧∀p∈ws++[((j:Int),m)],p.1 < ((j+1:Nat):Int):=by
 refine⟨⟨List.pairwise_append.mpr ⟨h.up,by simp,?_⟩,?_⟩,?_⟩
 ·intro a ha b hb';rw[List.mem_singleton]at hb';subst hb';exact hb a ha
 ·intro p hp;rcases List.mem_append.mp hp with hp | hp
  ·exact h.lo p hp
  ·rw[List.mem_singleton]at hp;subst hp;exact Int.natCast_nonneg j
 ·intro p hp;rcases List.mem_append.mp hp with hp | hp
  ·have:=hb p hp;lia
  ·rw[List.mem_singleton]at hp;subst hp;show(j:Int) < _;lia
theorem ws_filt(f:D->Bool)(h:D->Pl)(hh:∀r:Int,(h (.int r)).1=r):WsOk (((da 0 6).filter f).map h):=by
 have e6:da 0 6=([0,1,2,3,4,5]:List Int).map D.int:=rfl;rw[e6];have up:(([0,1,2,3,4,5]:List Int).map D.int).Pairwise λ a b=>(h a).1 < (h b).1:=by rw[List.pairwise_map];simp only[hh];decide
 constructor
 ·rw[List.pairwise_map];exact up.filter f
 ·intro p hp;obtain⟨d,hd,rfl⟩:=List.mem_map.mp hp;obtain⟨r,hr,rfl⟩:=List.mem_map.mp (List.mem_filter.mp hd).1;rw[hh];simp only[List.mem_cons,List.not_mem_nil,or_false]at hr;lia
theorem any_okW(c:Int)(nm:List Nat):∃g,GrpW g∧jQ [.str nm,.int c]=.ok (aQ g):=by
 have dg:=js (ss:=[12,3,27,7,64,37]) ⟨by decide,by decide⟩ c;obtain⟨w,hw⟩:=gZ (z:=c % 12) (by lia);obtain⟨d,hd⟩:=gZ (z:=c / 12 % 3) (by lia);obtain⟨kd,hkd⟩:=gZ (z:=c / 12 / 3 % 27) (by lia);obtain⟨gp,hgp⟩:=gZ (z:=c / 12 / 3 / 27 % 7) (by lia);obtain⟨bt,hbt⟩:=gZ (z:=c / 12 / 3 / 27 / 7 % 64) (by lia);obtain⟨wz,hwz⟩:=gZ (z:=c / 12 / 3 / 27 / 7 / 64 % 37) (by lia);have ed:jc c [12,3,27,7,64,37]=[(w:Int),d,kd,gp,bt,wz]:=by simp only[jc,hw,hd,hkd,hgp,hbt,hwz]
 rw[ed]at dg;simp only[List.map_cons,List.map_nil]at dg;obtain⟨M,hM,hM2⟩:∃M:Nat,((w:Int)+1)*((d:Int)+1)=(M:Int)∧M=(w+1)*(d+1):=⟨(w+1)*(d+1),by push_cast;rfl,rfl⟩
 have hM3:M≤36:=by rw[hM2];exact Nat.le_trans (Nat.mul_le_mul (by lia:w+1≤12) (by lia:d+1≤3)) (by decide)
 obtain⟨wd,hwd⟩:=gZ (z:=(wz:Int) % ((M:Int)+1)) (Int.emod_nonneg _ (by lia));have hwd2:wd≤M:=by have:=Int.emod_lt_of_pos (wz:Int) (show(0:Int) < (M:Int)+1 by lia);lia
 have q1:a_ ((w:Int)+1) ((d:Int)+1):=cI (by lia) (by lia);have q3:(0:Int) < (M:Int)+1:=by lia
 have dg2:=js (ss:=[1000000000000000000000000000000000000000000000000000000000000,999999999999999999999999999999999999999999999999999999999999,999999999999999999999999999999999999999999999999999999999999,999999999999999999999999999999999999999999999999999999999999,999999999999999999999999999999999999999999999999999999999999,999999999999999999999999999999999999999999999999999999999999,999999999999999999999999999999999999999999999999999999999999]) ⟨by decide,by decide⟩ (c / 16111872);generalize hws:jc (c / 16111872) [1000000000000000000000000000000000000000000000000000000000000,999999999999999999999999999999999999999999999999999999999999,999999999999999999999999999999999999999999999999999999999999,999999999999999999999999999999999999999999999999999999999999,999999999999999999999999999999999999999999999999999999999999,999999999999999999999999999999999999999999999999999999999999,999999999999999999999999999999999999999999999999999999999999]=ws at dg2;have hl7:ws.length=7:=by rw[<-hws,nI];rfl
 simp only[List.map_cons,List.map_nil]at dg2;obtain⟨kc,hkc,ekc⟩:∃kc∈bO,aY (.str bO) (.int ((kd:Int)-1))=.ok (.str [kc]):=by
  by_cases h:kd=0
  ·subst h;exact⟨122,by decide,by simp[aY,ixZ,bO,line,guard_pos]⟩
  ·exact ix_str (by lia) (by simp[bO];lia) (by decide)
 obtain⟨kx,hkx,ekx⟩:∃kx,(kx=[]∨∃c∈bO,kx=[c])∧aY (.lst [.str [],.str [kc]]) (.int (if 0 < kd then 1 else 0))=.ok (.str kx):=by
  by_cases h:0 < kd
  ·exact⟨[kc],.inr ⟨kc,hkc,rfl⟩,by rw[if_pos h];rfl⟩
  ·exact⟨[],.inl rfl,by rw[if_neg h];rfl⟩
 rw[fe_law_any];have:Ok (bU (ju [v (.str nm),v (.int c),none,none,none,none,none,none,none,none])) λ x=>∃(wt:Int)(wl:List Pl),wl.length≤6∧WsOk wl∧x=aQ ⟨nm,w+1,d+1,kx,wd,gp,.int wt,.tup (wl.map az)⟩:=by
  refine l6 ?_;simp[ju,line,lCat_k,dg,nu,gg,bj,q1,hM,q3,hwd,repK_a,dg2,bI,cA,bX,ekc,ekx];obtain⟨e6,i0⟩:da 0 6=[.int 0,.int 1,.int 2,.int 3,.int 4,.int 5]∧∃w0,aY (.lst (ws.map .int)) (.int 0)=.ok (.int w0):=⟨rfl,by
   match ws,hl7 with
   | a :: as,_=>exact⟨a,(lS (xs:=(a :: as).map D.int) (i:=0) (j:=0) rfl rfl).2⟩⟩
  obtain⟨w0,i0⟩:=i0;refine comp_ok (λ d=>match d with | .int r=>decide ((bt:Int) / pw2 r.toNat % 2=1) | _=>false) (λ d=>match d with | .int r=>az (r,1+ws[r.toNat+1]?.getD 0) | d=>d) ?_ ?_
  ·intro d hd
   match ws,hl7 with
   | [a0,a1,a2,a3,a4,a5,a6],_ =>
    rw[e6]at hd;simp only[List.mem_cons,List.not_mem_nil,or_false]at hd;have t2:∀(a b c d e f:D),aY (.lst [a,b,c,d,e,f]) (.int 0)=.ok a∧aY (.lst [a,b,c,d,e,f]) (.int 1)=.ok b∧aY (.lst [a,b,c,d,e,f]) (.int 2)=.ok c∧aY (.lst [a,b,c,d,e,f]) (.int 3)=.ok d∧aY (.lst [a,b,c,d,e,f]) (.int 4)=.ok e∧aY (.lst [a,b,c,d,e,f]) (.int 5)=.ok f:=λ _ _ _ _ _ _=>⟨rfl,rfl,rfl,rfl,rfl,rfl⟩
    have t7:∀(o a b c d e f:D),aY (.lst [o,a,b,c,d,e,f]) (.int 1)=.ok a∧aY (.lst [o,a,b,c,d,e,f]) (.int 2)=.ok b∧aY (.lst [o,a,b,c,d,e,f]) (.int 3)=.ok c∧aY (.lst [o,a,b,c,d,e,f]) (.int 4)=.ok d∧aY (.lst [o,a,b,c,d,e,f]) (.int 5)=.ok e∧aY (.lst [o,a,b,c,d,e,f]) (.int 6)=.ok f:=λ _ _ _ _ _ _ _=>⟨rfl,rfl,rfl,rfl,rfl,rfl⟩
    rcases hd with rfl | rfl | rfl | rfl | rfl | rfl
    all_goals
     simp[line,bj,t2,t7,pw2];rw[Bool.eq_iff_iff];simp
  ·rw[i0];simp;refine⟨w0,((da 0 6).filter λ d=>match d with | .int r=>decide ((bt:Int) / pw2 r.toNat % 2=1) | _=>false).map (λ d=>match d with | .int r=>(r,1+ws[r.toNat+1]?.getD 0) | d=>(0,0)),?_,?_,?_⟩
   ·rw[List.length_map];refine Nat.le_trans (List.length_filter_le _ _) ?_;rw[fP];decide
   ·exact ws_filt _ _ (λ r=>rfl)
   ·have:∀ds:List D,(∀d∈ds,∃r,d=.int r)->ds.map (λ d=>match d with | .int r=>az (r,1+ws[r.toNat+1]?.getD 0) | d=>d)=(ds.map (λ d=>match d with | .int r=>(r,1+ws[r.toNat+1]?.getD 0) | d=>((0,0):Pl))).map az:=by intro ds h;rw[List.map_map];refine List.map_congr_left λ d hd=>?_;obtain⟨r,rfl⟩:=h d hd;rfl
    rw[this _ (λ d hd=>by obtain⟨j,hj⟩:=List.getElem?_of_mem (List.mem_filter.mp hd).1;obtain⟨_,rfl⟩:=ints_get hj;exact⟨_,rfl⟩)]
    simp[aQ]
 obtain⟨x,e,wt,ws,hws,hwo,rfl⟩:=this;exact⟨_,⟨grpG (by show 1≤w+1;lia) (by show w+1≤12;lia) (by show 1≤d+1;lia) (by show d+1≤3;lia) hkx (by show wd≤(w+1)*(d+1);lia) (by show gp≤6;lia) ⟨wt,ws,hws,rfl,rfl⟩,ws,hwo,rfl⟩,e⟩
theorem group_okW(z : Int)(nm : List Nat){a b : Nat}(ha : a ∈ bO)(hb : b ∈ bO): ∃g, GrpW g ∧ hX [.str nm, .int z, .str [a, b]] = .ok (aQ g) := by
 obtain⟨ms,hml,hmp,em⟩:=m? z (n:=9) (by decide);obtain⟨m0,m1,m2,m3,m4,m5,m6,m7,m8,rfl⟩:=nine_at hml;have i0:aY (.str [a,b]) (.int 0)=.ok (.str [a]):=ix_strAt (j:=0) rfl rfl (by simp[line]);have i1:aY (.str [a,b]) (.int 1)=.ok (.str [b]):=ix_strAt (j:=1) rfl rfl (by simp[line]);have n9:∀(a b c d e f g i j:D),aY (.lst [a,b,c,d,e,f,g,i,j]) (.int 0)=.ok a∧aY (.lst [a,b,c,d,e,f,g,i,j]) (.int 1)=.ok b∧aY (.lst [a,b,c,d,e,f,g,i,j]) (.int 2)=.ok c∧aY (.lst [a,b,c,d,e,f,g,i,j]) (.int 3)=.ok d∧aY (.lst [a,b,c,d,e,f,g,i,j]) (.int 4)=.ok e∧aY (.lst [a,b,c,d,e,f,g,i,j]) (.int 5)=.ok f∧aY (.lst [a,b,c,d,e,f,g,i,j]) (.int 6)=.ok g∧aY (.lst [a,b,c,d,e,f,g,i,j]) (.int 7)=.ok i∧aY (.lst [a,b,c,d,e,f,g,i,j]) (.int 8)=.ok j:=λ _ _ _ _ _ _ _ _ _=>⟨rfl,rfl,rfl,rfl,rfl,rfl,rfl,rfl,rfl⟩
 simp only[List.map_cons,List.map_nil]at em;replace em:KM.bJ [.int z,.int 9]=.ok (.lst [.int m0,.int m1,.int m2,.int m3,.int m4,.int m5,.int m6,.int m7,.int m8]):=em;have fin:∀(x0 x1 x2 x4 x5 x6 x7 x8 x9:Option L),Ok (eX (bf 11) (sIf (tE (eB oEq (eB oMod (eB oDiv (eB aY (eW 3) (eC (.int 7))) (eB bN (eC (.int 3)) (eB gW (eC (.int 2)) (eW 11)))) (eC (.int 4))) (eC (.int 1)))) (de 10 (gN (ab (eV 11) (ab (eB bN (eC (.int 1)) (eB oMod (eB oDiv (eB aY (eW 3) (eC (.int 8))) (eB bN (eC (.int 2)) (eW 11))) (eC (.int 3)))) aC)))) dR) (da 0 6) [x0,x1,x2,v (.lst [.int m0,.int m1,.int m2,.int m3,.int m4,.int m5,.int m6,.int m7,.int m8]),x4,x5,x6,x7,x8,x9,ow [],none]) λ fl=>∃(wl:List Pl)(x:Option L),wl.length≤6∧WsOk wl∧fl=.nx [x0,x1,x2,v (.lst [.int m0,.int m1,.int m2,.int m3,.int m4,.int m5,.int m6,.int m7,.int m8]),x4,x5,x6,x7,x8,x9,ow (wl.map az),x]:=by
  intro x0 x1 x2 x4 x5 x6 x7 x8 x9;refine c5 (λ i ρ=>∃(wl:List Pl)(x:Option L),wl.length≤i∧(WsOk wl∧∀p∈wl,p.1 < (i:Nat))∧ρ=[x0,x1,x2,v (.lst [.int m0,.int m1,.int m2,.int m3,.int m4,.int m5,.int m6,.int m7,.int m8]),x4,x5,x6,x7,x8,x9,ow (wl.map az),x]) ⟨[],none,Nat.zero_le _,⟨ws_nil,by simp⟩,rfl⟩ ?_ ?_
  ·rintro j y ρ hj ⟨wl,x,hl,⟨hw,hwb⟩,rfl⟩;obtain⟨hj',rfl⟩:=ints_get hj;have q1:a_ 2 (j:Int):=cI (by decide) (by decide);have q2:h9 (3+2*(j:Int)):=bj (by lia) (by lia);have q3:h9 (2+(j:Int)):=bj (by lia) (by lia);have hll:wl.length < 16777216:=by lia
   by_cases h:m7 / (3+2*(j:Int)) % 4=1
   ·simp[line,n9,q1,q2,q3,h,hll];exact⟨wl++[((j:Int),1+m8 / (2+(j:Int)) % 3)],by simp;lia,(by have q:=ws_snoc (m:=1+m8 / (2+(j:Int)) % 3) hw hwb (by lia);exact⟨q.1,λ a b hp=>by have:=q.2 (a,b) hp;simp only at this;lia⟩),by simp⟩
   ·simp[line,n9,q1,q2,h];exact⟨wl,by lia,⟨hw,λ a b hp=>by have:=hwb (a,b) hp;simp only at this;lia⟩,rfl⟩
  ·rintro ρ ⟨wl,x,hl,⟨hw,_⟩,rfl⟩;exact⟨wl,x,by simpa using hl,hw,rfl⟩
 rw[fe_law_group];have:Ok (bU (gQ [v (.str nm),v (.int z),v (.str [a,b]),none,none,none,none,none,none,none,none,none])) λ x=>∃g,GrpW g∧x=aQ g:=by
  refine l6 ?_;simp[gQ,bj,em,n9,line,i0,i1];refine kS (by lia) (by simp;lia) ?_;intro x hx;obtain⟨w,rfl,w1,w2⟩:∃d:Nat,x=.int d∧1≤d∧d≤12:=by
   simp at hx;rcases hx with rfl | rfl | rfl | rfl | rfl | rfl | rfl | rfl
   all_goals first | exact⟨1,rfl,by decide,by decide⟩ | exact⟨2,rfl,by decide,by decide⟩ | exact⟨3,rfl,by decide,by decide⟩ | exact⟨4,rfl,by decide,by decide⟩
  refine kS (by lia) (by simp;lia) ?_;intro x hx;obtain⟨d,rfl,d1,d2⟩:∃d:Nat,x=.int d∧1≤d∧d≤3:=by
   simp at hx;rcases hx with rfl | rfl | rfl | rfl | rfl | rfl | rfl | rfl
   all_goals first | exact⟨1,rfl,by decide,by decide⟩ | exact⟨2,rfl,by decide,by decide⟩ | exact⟨3,rfl,by decide,by decide⟩
  refine kS (by lia) (by simp;lia) ?_;intro x hx;obtain⟨kd,rfl,hkd⟩:∃kd,x=.str kd∧(kd=[]∨∃c∈bO,kd=[c]):=by
   simp at hx;rcases hx with rfl | rfl | rfl | rfl | rfl | rfl
   all_goals first | exact⟨[],rfl,.inl rfl⟩ | exact⟨_,rfl,.inr ⟨_,ha,rfl⟩⟩ | exact⟨_,rfl,.inr ⟨_,hb,rfl⟩⟩
  refine kS (by lia) (by simp;lia) ?_;intro x hx;obtain⟨wz,rfl⟩:∃wd:Nat,x=.int wd:=by
   simp at hx;rcases hx with rfl | rfl | rfl | rfl | rfl | rfl
   all_goals first | exact⟨0,rfl⟩ | exact⟨1,rfl⟩ | exact⟨2,rfl⟩
  have p1:a_ (w:Int) (d:Int):=cI (by lia) (by lia);obtain⟨wd,hwd,hwd2⟩:∃wd:Nat,min (wz:Int) ((w:Int)*d)=(wd:Int)∧wd≤w*d:=⟨min wz (w*d),by
   have hN:((w*d:Nat):Int)=(w:Int)*d:=by push_cast;rfl
   rw[<-hN];lia,Nat.min_le_right _ _⟩
  simp[p1,hwd];refine kS (by lia) (by simp;lia) ?_;intro x hx;obtain⟨gp,rfl,hgp⟩:∃gp:Nat,x=.int gp∧gp≤6:=by
   simp at hx;rcases hx with rfl | rfl | rfl | rfl | rfl | rfl | rfl | rfl
   all_goals first | exact⟨0,rfl,by decide⟩ | exact⟨1,rfl,by decide⟩ | exact⟨2,rfl,by decide⟩ | exact⟨6,rfl,by decide⟩
  have p6:a_ m6 100000000000000000000000000000000000000000000000000:=by have:=hmp m6 (by simp);exact cI (by lia) (by lia)
  refine⟨p6,?_⟩;rw[two_at];obtain⟨wt,hwt⟩:∃wt:Int,(if m5 / 20 % 6=5 then D.int (m6*100000000000000000000000000000000000000000000000000)else D.int (m5 / 5 % 4))=.int wt:=by
   by_cases h:m5 / 20 % 6=5
   ·exact⟨_,by rw[if_pos h]⟩
   ·exact⟨_,by rw[if_neg h]⟩
  rw[hwt];simp;refine(fin _ _ _ _ _ _ _ _ _).imp ?_;rintro fl ⟨wl,x,hl,hw,rfl⟩;simp[line];exact⟨⟨nm,w,d,kd,wd,gp,_,_⟩,⟨grpG w1 w2 d1 d2 hkd hwd2 hgp ⟨wt,wl,hl,rfl,rfl⟩,wl,hw,rfl⟩,rfl⟩
 obtain⟨x,e,g,hg,rfl⟩:=this;exact⟨g,hg,e⟩
theorem groups_okW{ns : List Int}(hb : Bd ns){st : Int}(hst : 0 ≤ st){nms : List (List Nat)}(hl : nms.length ≤ 12): ∃gs : List G, gs.length = nms.length ∧ (∀g ∈ gs, GrpW g) ∧ cS [.lst (ns.map .int), .int st, .lst (nms.map .str)] = .ok (.tup (gs.map aQ)) := by
 obtain⟨f,ef,hf⟩:=iX hb (k:=0) (by decide);obtain⟨la,lb,hla,hlb,el⟩:=letters_two (f / 144 % 1000000000000000000000000000000000000000000000000000000000000);have hlm:nms.length≤16777216:=by lia
 have:Ok (bU (fW [v (.lst (ns.map .int)),v (.int st),v (.lst (nms.map .str)),none,none,none,none])) λ d=>∃gs:List G,gs.length=nms.length∧(∀g∈gs,GrpW g)∧d=.tup (gs.map aQ):=by
  refine l6 ?_;simp[fW,ef,bj,el,line,hlm];refine c5 (λ i ρ=>∃(gs:List G)(x5 x6:Option L),gs.length=i∧(∀g∈gs,GrpW g)∧ρ=[v (.lst (ns.map .int)),v (.int st),v (.lst (nms.map .str)),vs [la,lb],ow (gs.map aQ),x5,x6]) ⟨[],none,none,rfl,by simp,rfl⟩ ?_ ?_
  ·rintro j d ρ hj ⟨gs,x5,x6,hgl,hg,rfl⟩;obtain⟨hj',rfl⟩:=ints_get hj;obtain⟨c,ec,_⟩:=iX hb (k:=st+(j:Int)) (by lia);obtain⟨nm,hnm⟩:∃nm,nms[j]?=some nm:=⟨_,List.getElem?_eq_getElem hj'⟩
   have en:aY (.lst (nms.map .str)) (.int (j:Int))=.ok (.str nm):=(lS (j:=j) rfl (by simp[hnm])).2;have hgl':gs.length < 16777216:=by lia
   have q1:a_ 7 (j:Int):=cI (by decide) (by decide);have q2:a_ (7*(j:Int)) (j:Int):=gf (by lia) (by lia);by_cases h:f % 2=1∧c % 3 > 0
   ·obtain⟨g,hgg,eg⟩:=any_okW (c / 3) nm;simp[ef,ec,en,bj,h.1,h.2,eg,line,hgl'];refine⟨gs++[g],by simp[hgl],?_,by simp⟩;intro y hy;rcases List.mem_append.mp hy with hy | hy
    ·exact hg y hy
    ·rw[List.mem_singleton]at hy;subst hy;exact hgg
   ·obtain⟨g,hgg,eg⟩:=KN.group_okW (c / 3+7*(j:Int)*(j:Int)) nm hla hlb;have fin:∃gs_1:List G,gs_1.length=j+1∧(∀g∈gs_1,GrpW g)∧gs.map aQ++[aQ g]=gs_1.map aQ:=by
     refine⟨gs++[g],by simp[hgl],?_,by simp⟩;intro y hy;rcases List.mem_append.mp hy with hy | hy
     ·exact hg y hy
     ·rw[List.mem_singleton]at hy;subst hy;exact hgg
    by_cases h1:f % 2=1
    ·have h2:¬0 < c % 3:=λ h2=>h ⟨h1,h2⟩;simp[ef,ec,en,bj,h1,h2,eg,line,hgl',q1,q2];exact fin
    ·simp[ef,ec,en,bj,h1,eg,line,hgl',q1,q2];exact fin
  ·rintro ρ ⟨gs,x5,x6,hgl,hg,rfl⟩;rw[fP]at hgl;simp;exact⟨gs,hgl,hg,rfl⟩
 rw[<-fe_law_groups]at this;obtain⟨d,e,gs,h1,h2,rfl⟩:=this;exact⟨gs,h1,h2,e⟩
end KN
namespace KR
open Z KG KH KM KN
def jN(C:Nat)(g:G)(p:Pl):Pl:=(p.1,C-p.2-g.w)
def cF(C:Nat)(s:Pl):Pl:=(s.1,C-1-s.2)
theorem cn{g:G}{p s:Pl}:s∈seats g p↔(p.1≤s.1∧s.1 < p.1+g.d)∧p.2≤s.2∧s.2 < p.2+g.w:=by
 unfold seats fJ dj;simp only[List.mem_flatMap,List.mem_range,List.mem_map];constructor
 ·rintro⟨i,hi,j,hj,rfl⟩;simp only;lia
 ·rintro⟨⟨h1,h2⟩,h3,h4⟩;refine⟨(s.1-p.1).toNat,by lia,(s.2-p.2).toNat,by lia,?_⟩;refine Prod.ext ?_ ?_<;>simp only<;>lia
theorem seats_lt(g:G)(p:Pl):(seats g p).Pairwise λ a b=>jo a b=true:=by
 unfold seats fJ;rw[List.pairwise_flatMap];constructor
 ·intro i hi;unfold dj;rw[List.pairwise_map];refine List.pairwise_lt_range.imp λ {a b} h=>?_;unfold jo;simp;lia
 ·refine List.pairwise_lt_range.imp λ {a b} h=>?_;intro x hx y hy;unfold dj at hx hy;obtain⟨j,_,rfl⟩:=List.mem_map.mp hx;obtain⟨k,_,rfl⟩:=List.mem_map.mp hy;unfold jo;simp;lia
theorem lex_irr{a:Pl}(h:jo a a=true):False:=by unfold jo at h;simp at h
theorem iM(g:G)(p:Pl):(seats g p).Nodup:=(seats_lt g p).imp λ {a b} h e=>by subst e;exact lex_irr h
theorem cross_inj(C:Nat){a b:Pl}(h:cF C a=cF C b):a=b:=by have h1:=congrArg Prod.fst h;have h2:=congrArg Prod.snd h;unfold cF at h1 h2;simp only at h1 h2;exact Prod.ext h1 (by lia)
theorem cross_perm(C : Nat)(g : G)(p : Pl): (seats g (jN C g p)).Perm ((seats g p).map (cF C)) := by
 rw[List.perm_ext_iff_of_nodup (iM _ _) ?_]
 ·intro s;rw[List.mem_map,cn];unfold jN;constructor
  ·rintro⟨⟨h1,h2⟩,h3,h4⟩;simp only at h1 h2 h3 h4;refine⟨cF C s,?_,?_⟩
   ·rw[cn];unfold cF;simp only;lia
   ·unfold cF;refine Prod.ext rfl ?_;simp only;lia
  ·rintro⟨t,ht,rfl⟩;rw[cn]at ht;unfold cF;simp only;lia
 ·unfold List.Nodup;rw[List.pairwise_map];exact(iM g p).imp λ {a b} h e=>h (cross_inj C e)
theorem mir_mir(C:Nat)(g:G)(p:Pl):jN C g (jN C g p)=p:=by unfold jN;refine Prod.ext rfl ?_;simp only;lia
theorem apart_mir(C:Nat)(g h:G)(p q:Pl):bK g (jN C g p) h (jN C h q)=bK g p h q:=by unfold bK jN;rw[Bool.eq_iff_iff,decide_eq_true_eq,decide_eq_true_eq];simp only;lia
abbrev mirR(rows:Rows):Rows:=rows.map List.reverse
theorem sign_mir{rows:Rows}{C:Nat}(hr:∀x∈rows,x.length=C){s:Pl}(h0:0≤s.2)(h1:s.2 < C):aN (mirR rows) (cF C s)=aN rows s:=by
 unfold aN cF;simp only;by_cases c:0≤s.1
 ·rw[if_pos ⟨c,by lia⟩,if_pos ⟨c,h0⟩,List.getElem?_map];cases e:rows[s.1.toNat]? with
  | none=>rfl
  | some r =>
   have hl:=hr r (List.mem_of_getElem? e);simp only[Option.map_some,Option.bind_some];rw[List.getElem?_reverse (by lia)]
   congr 1
   lia
 ·rw[if_neg (λ z=>c z.1),if_neg (λ z=>c z.1)]
theorem sign_some{rows:Rows}{C:Nat}(hr:∀x∈rows,x.length=C){s:Pl}{c:Nat}(h:aN rows s=some c):0≤s.2∧s.2 < C:=by
 unfold aN at h;split at h
 ·rename_i z;refine⟨z.2,?_⟩;cases e:rows[s.1.toNat]? with
  | none=>rw[e]at h;cases h
  | some r =>rw[e]at h;have h:r[s.2.toNat]?=some c:=h;have:=(List.getElem?_eq_some_iff.mp h).1;have hl:=hr r (List.mem_of_getElem? e);lia
 ·cases h
theorem fits_mir{rows:Rows}{C:Nat}(hr:∀x∈rows,x.length=C){g:G}{p:Pl}(h:bC rows g p=true):bC (mirR rows) g (jN C g p)=true:=by
 unfold bC at h ⊢;rw[Bool.and_eq_true]at h ⊢;obtain⟨h1,h2⟩:=h;rw[List.all_eq_true]at h1;have sg:∀s∈seats g p,aN (mirR rows) (cF C s)=aN rows s:=λ s hs=>by
  have:=h1 s hs;cases e:aN rows s with
  | none=>rw[e]at this;cases this
  | some c =>obtain⟨a,b⟩:=sign_some hr e;rw[<-e];exact sign_mir hr a b
 have pm:=cross_perm C g p;constructor
 ·rw[List.all_eq_true];intro s hs;obtain⟨t,ht,rfl⟩:=List.mem_map.mp (pm.mem_iff.mp hs);rw[sg t ht];exact h1 t ht
 ·rw[pm.countP_eq,List.countP_map];have:(seats g p).countP (j' (mirR rows)∘cF C)=(seats g p).countP (j' rows):=by apply List.countP_congr;intro s hs;unfold j';simp only[Function.comp];rw[sg s hs]
  rw[this];exact h2
end KR
namespace KR
open Z KG KH KM KN
def jw(R:Nat)(g:G)(p:Pl):Pl:=(R-p.1-g.d,p.2)
def bF(R:Nat)(s:Pl):Pl:=(R-1-s.1,s.2)
theorem crossT_inj(R:Nat){a b:Pl}(h:bF R a=bF R b):a=b:=by have h1:=congrArg Prod.fst h;have h2:=congrArg Prod.snd h;unfold bF at h1 h2;simp only at h1 h2;exact Prod.ext (by lia) h2
theorem crossT_perm(R : Nat)(g : G)(p : Pl): (seats g (jw R g p)).Perm ((seats g p).map (bF R)) := by
 rw[List.perm_ext_iff_of_nodup (iM _ _) ?_]
 ·intro s;rw[List.mem_map,cn];unfold jw;constructor
  ·rintro⟨⟨h1,h2⟩,h3,h4⟩;simp only at h1 h2 h3 h4;refine⟨bF R s,?_,?_⟩
   ·rw[cn];unfold bF;simp only;lia
   ·unfold bF;refine Prod.ext ?_ rfl;simp only;lia
  ·rintro⟨t,ht,rfl⟩;rw[cn]at ht;unfold bF;simp only;lia
 ·unfold List.Nodup;rw[List.pairwise_map];exact(iM g p).imp λ {a b} h e=>h (crossT_inj R e)
theorem tur_tur(R:Nat)(g:G)(p:Pl):jw R g (jw R g p)=p:=by unfold jw;refine Prod.ext ?_ rfl;simp only;lia
theorem apart_tur(R:Nat)(g h:G)(p q:Pl):bK g (jw R g p) h (jw R h q)=bK g p h q:=by unfold bK jw;rw[Bool.eq_iff_iff,decide_eq_true_eq,decide_eq_true_eq];simp only;lia
theorem sign_tur{rows:Rows}{s:Pl}(h0:0≤s.1)(h1:s.1 < rows.length):aN rows.reverse (bF rows.length s)=aN rows s:=by
 unfold aN bF;simp only;by_cases c:0≤s.2
 ·rw[if_pos ⟨by lia,c⟩,if_pos ⟨h0,c⟩,List.getElem?_reverse (by lia)]
  congr 2
  lia
 ·rw[if_neg (λ z=>c z.2),if_neg (λ z=>c z.2)]
theorem sign_row{rows:Rows}{s:Pl}{c:Nat}(h:aN rows s=some c):0≤s.1∧s.1 < rows.length:=by
 unfold aN at h;split at h
 ·rename_i z;refine⟨z.1,?_⟩;cases e:rows[s.1.toNat]? with
  | none=>rw[e]at h;cases h
  | some r =>have:=(List.getElem?_eq_some_iff.mp e).1;lia
 ·cases h
theorem fits_sign{rows:Rows}{g:G}{p:Pl}(h:bC rows g p=true){s:Pl}(hs:s∈seats g p):0≤s.1∧s.1 < rows.length:=by
 unfold bC at h;rw[Bool.and_eq_true,List.all_eq_true]at h;have:=h.1 s hs;cases e:aN rows s with
 | none=>rw[e]at this;cases this
 | some c=>exact sign_row e
theorem fits_tur{rows:Rows}{g:G}{p:Pl}(h:bC rows g p=true):bC rows.reverse g (jw rows.length g p)=true:=by
 have sg:∀s∈seats g p,aN rows.reverse (bF rows.length s)=aN rows s:=λ s hs=>by obtain⟨a,b⟩:=fits_sign h hs;exact sign_tur a b
 unfold bC at h ⊢;rw[Bool.and_eq_true]at h ⊢;obtain⟨h1,h2⟩:=h;rw[List.all_eq_true]at h1;have pm:=crossT_perm rows.length g p;constructor
 ·rw[List.all_eq_true];intro s hs;obtain⟨t,ht,rfl⟩:=List.mem_map.mp (pm.mem_iff.mp hs);rw[sg t ht];exact h1 t ht
 ·rw[pm.countP_eq,List.countP_map];have:(seats g p).countP (j' rows.reverse∘bF rows.length)=(seats g p).countP (j' rows):=by apply List.countP_congr;intro s hs;unfold j';simp only[Function.comp];rw[sg s hs]
  rw[this];exact h2
def turW(R d:Nat)(p:Pl):Pl:=(R-p.1-d,p.2)
def turWs(R d:Nat)(ws:List Pl):List Pl:=(ws.map (turW R d)).filter λ p=>decide (0≤p.1)
def turG(R:Nat)(g:G)(ws:List Pl):G:={ g with wishes:=.tup ((eM (turWs R g.d ws)).map az) }
end KR
namespace KW
open Z KG KH KM KN KF KU
def opn(rows:Rows)(C:Nat)(ss:List GP)(g:G):List Pl:=(places rows C g).filter (c4 ss g)
structure Mv(C:Nat)(rows cE:Rows)(gm:G->G)(P:G->Pl->Pl)(S:Pl->Pl):Prop where
 f1:∀g p,GOk g->bC rows g p=true->bC cE (gm g) (P g p)=true
 f2:∀g p,GOk g->bC cE (gm g) p=true->bC rows g (P g p)=true
 pp:∀g p,P g (P g p)=p
 ap:∀g p h q,bK (gm g) (P g p) (gm h) (P h q)=bK g p h q
 st:∀g q s,s∈seats (gm g) (P g q)↔S s∈seats g q
 ss:∀s,S (S s)=s
 al:∀s,s∈cO cE.length C↔S s∈cO rows.length C
 sg:∀s,s∈cO cE.length C->aN cE s=aN rows (S s)
theorem fits_in{rows:Rows}{C:Nat}(H:Hall rows C){g:G}(k:GOk g){p:Pl}(h:bC rows g p=true):p∈cO rows.length C:=by
 unfold bC at h;rw[Bool.and_eq_true,List.all_eq_true]at h;have hm:p∈seats g p:=by rw[KF.eT];have:=k.w1;have:=k.d1;lia
 have ht:=h.1 p hm;by_cases c:0≤p.1∧p.1 < rows.length∧0≤p.2∧p.2 < C
 ·exact fA.mpr c
 ·rw[mF H c]at ht;cases ht
theorem mem_opn{rows:Rows}{C:Nat}(H:Hall rows C){ss:List GP}{g:G}(k:GOk g){p:Pl}:p∈opn rows C ss g↔bC rows g p=true∧c4 ss g p=true:=by unfold opn places;rw[List.mem_filter,List.mem_filter];exact⟨λ h=>⟨h.1.2,h.2⟩,λ h=>⟨⟨fits_in H k h.1,h.1⟩,h.2⟩⟩
theorem ly{l:List Pl}(h:l.Pairwise ltP):l.Nodup:=h.imp λ {a b} hab e=>by subst e;unfold ltP at hab;lia
section
variable {C:Nat}{rows cE:Rows}{gm:G->G}{P:G->Pl->Pl}{S:Pl->Pl}
def mvS(gm:G->G)(P:G->Pl->Pl)(ss:List GP):List GP:=ss.map λ x=>(gm x.1,P x.1 x.2)
theorem free_mv(m:Mv C rows cE gm P S)(ss:List GP)(g:G)(p:Pl):c4 (mvS gm P ss) (gm g) (P g p)=c4 ss g p:=by
 unfold c4 mvS;rw[List.all_map]
 congr 1
 funext y
 exact m.ap g p y.1 y.2
theorem opn_mv(H:Hall rows C)(H':Hall cE C)(m:Mv C rows cE gm P S)(ss:List GP){g:G}(k:GOk g)(k':GOk (gm g)):(opn cE C (mvS gm P ss) (gm g)).Perm ((opn rows C ss g).map (P g)):=by
 have n1:(opn cE C (mvS gm P ss) (gm g)).Nodup:=ly ((lP _ _ _).filter _);have n2:((opn rows C ss g).map (P g)).Nodup:=by have:(opn rows C ss g).Nodup:=ly ((lP _ _ _).filter _);refine List.pairwise_map.mpr (this.imp λ {a b} hab e=>hab ?_);rw[<-m.pp g a,e,m.pp]
 refine(List.perm_ext_iff_of_nodup n1 n2).mpr λ p=>?_;rw[mem_opn H' k',List.mem_map];constructor
 ·rintro⟨h1,h2⟩;refine⟨P g p,(mem_opn H k).mpr ⟨m.f2 g p k h1,?_⟩,m.pp g p⟩;rw[<-free_mv m,m.pp];exact h2
 ·rintro⟨q,hq,rfl⟩;obtain⟨h1,h2⟩:=(mem_opn H k).mp hq;exact⟨m.f1 g q k h1,by rw[free_mv m];exact h2⟩
theorem use_mv(H:Hall rows C)(H':Hall cE C)(m:Mv C rows cE gm P S)(ss:List GP){g:G}(k:GOk g)(k':GOk (gm g))(s:Pl):useB cE C (mvS gm P ss) s (gm g)=useB rows C ss (S s) g:=by
 unfold useB;rw[show(places cE C (gm g)).filter (c4 (mvS gm P ss) (gm g))=opn cE C (mvS gm P ss) (gm g)from rfl,(opn_mv H H' m ss k k').any_eq,List.any_map];show(opn rows C ss g).any _=(opn rows C ss g).any _
 congr 1
 funext q
 show decide (s∈seats (gm g) (P g q))=decide (S s∈seats g q);rw[decide_eq_decide];exact m.st g q s
theorem used_mv(H:Hall rows C)(H':Hall cE C)(m:Mv C rows cE gm P S)(ss:List GP){cs:List G}(hc:∀g∈cs,GOk g)(hc':∀g∈cs,GOk (gm g))(s:Pl):kn cE C (mvS gm P ss) (cs.map gm) s=kn rows C ss cs (S s):=by
 unfold kn;rw[List.any_map,Bool.eq_iff_iff,List.any_eq_true,List.any_eq_true];constructor
 ·rintro⟨g,hg,h⟩;exact⟨g,hg,by rw[<-use_mv H H' m ss (hc g hg) (hc' g hg)];exact h⟩
 ·rintro⟨g,hg,h⟩;exact⟨g,hg,by show useB cE C (mvS gm P ss) s (gm g)=true;rw[use_mv H H' m ss (hc g hg) (hc' g hg)];exact h⟩
theorem taken_mv(m:Mv C rows cE gm P S)(ss:List GP)(s:Pl):dQ (mvS gm P ss) s=dQ ss (S s):=by
 unfold dQ mvS;rw[List.any_map]
 congr 1
 funext x
 show decide (s∈seats (gm x.1) (P x.1 x.2))=decide (S s∈seats x.1 x.2);rw[decide_eq_decide];exact m.st _ _ _
theorem mem_holes{ss:List GP}{cs:List G}{p:Pl}:p∈fw rows C ss cs↔p∈cO rows.length C∧((aN rows p != some 35)=true∧dQ ss p=false)∧kn rows C ss cs p=false:=by unfold fw fsL fsB;rw[List.mem_filter,List.mem_filter,Bool.and_eq_true,Bool.not_eq_true',Bool.not_eq_true'];exact⟨λ h=>⟨h.1.1,h.1.2,h.2⟩,λ h=>⟨⟨h.1,h.2.1⟩,h.2.2⟩⟩
theorem holes_lt(rows:Rows)(C:Nat)(ss:List GP)(cs:List G):(fw rows C ss cs).Pairwise ltP:=((allPl_sorted _ _).filter _).filter _
theorem holes_mv(H:Hall rows C)(H':Hall cE C)(m:Mv C rows cE gm P S)(ss:List GP){cs:List G}(hc:∀g∈cs,GOk g)(hc':∀g∈cs,GOk (gm g)):eM ((fw rows C ss cs).map S)=fw cE C (mvS gm P ss) (cs.map gm):=by
 refine kr ?_ ((holes_lt _ _ _ _).imp λ {a b} h=>by rw[leB_iff];unfold ltP at h;lia)
 have n1:(fw cE C (mvS gm P ss) (cs.map gm)).Nodup:=ly (holes_lt _ _ _ _);have n2:((fw rows C ss cs).map S).Nodup:=by have:(fw rows C ss cs).Nodup:=ly (holes_lt _ _ _ _);refine List.pairwise_map.mpr (this.imp λ {a b} hab e=>hab ?_);rw[<-m.ss a,e,m.ss]
 refine(List.perm_ext_iff_of_nodup n1 n2).mpr λ s=>?_;have key:s∈fw cE C (mvS gm P ss) (cs.map gm)↔S s∈fw rows C ss cs:=by
  rw[mem_holes,mem_holes,used_mv H H' m ss hc hc',taken_mv m,<-m.al];constructor
  ·rintro⟨h1,⟨h2,h3⟩,h4⟩;exact⟨h1,⟨by rw[<-m.sg s h1];exact h2,h3⟩,h4⟩
  ·rintro⟨h1,⟨h2,h3⟩,h4⟩;exact⟨h1,⟨by rw[m.sg s h1];exact h2,h3⟩,h4⟩
 rw[key,List.mem_map];constructor
 ·intro h;exact⟨S s,h,m.ss s⟩
 ·rintro⟨t,ht,rfl⟩;rw[m.ss];exact ht
def inB(gs:List G)(s:Pl)(x:KP):Bool:=match gs[x.1]? with
 | some g=>decide (s∈seats g x.2)
 | none=>false
def cntU(rows:Rows)(C:Nat)(ss:List GP)(s:Pl)(g:G):Nat:=(opn rows C ss g).countP λ q=>decide (s∈seats g q)
theorem use_cnt(rows:Rows)(C:Nat)(ss:List GP)(s:Pl)(fs:List G):∀(gs:List G)(k:Nat),(∀j,fs[k+j]?=gs[j]?)->(f9 rows C ss k gs).countP (inB fs s)=(gs.map (cntU rows C ss s)).sum
 | [],k,_=>rfl
 | g :: gs,k,h=>by
  have h0:=h 0;rw[Nat.add_zero]at h0;rw[f9,List.countP_append,use_cnt rows C ss s fs gs (k+1) (λ j=>by have:=h (j+1);rw[show k+1+j=k+(j+1)by lia];exact this),List.countP_map,List.map_cons,List.sum_cons]
  congr 1
  unfold cntU opn
  congr 1
  funext q
  show inB fs s (k,q)=decide (s∈seats g q);unfold inB;simp only[h0,List.getElem?_cons_zero]
theorem users_mv(H:Hall rows C)(H':Hall cE C)(m:Mv C rows cE gm P S)(ss:List GP){cs:List G}(hc:∀g∈cs,GOk g)(hc':∀g∈cs,GOk (gm g))(s:Pl):((f9 cE C (mvS gm P ss) 0 (cs.map gm)).filter (inB (cs.map gm) (S s))).length=((f9 rows C ss 0 cs).filter (inB cs s)).length:=by
 rw[<-List.countP_eq_length_filter,<-List.countP_eq_length_filter,use_cnt _ _ _ _ _ _ 0 (λ j=>by rw[Nat.zero_add]),use_cnt _ _ _ _ _ _ 0 (λ j=>by rw[Nat.zero_add]),List.map_map]
 congr 1
 refine List.map_congr_left λ g hg=>?_;show cntU cE C (mvS gm P ss) (S s) (gm g)=cntU rows C ss s g;unfold cntU;rw[(opn_mv H H' m ss (hc g hg) (hc' g hg)).countP_eq,List.countP_map]
 congr 1
 funext q
 show decide (S s∈seats (gm g) (P g q))=decide (s∈seats g q);rw[decide_eq_decide,m.st,m.ss]
end
end KW
set_option maxRecDepth 4000
noncomputable section
namespace K76
open Z KG KH KM KN KF
def b_users:SF:=(aI (bg 5 (aJ KN.fS (ab (eV 0) (ab (eV 1) (ab (eV 2) (ab (eV 3) aC)))))) (bY (eU cR (eL (bP (fv (eW 5)) 2 [4,3] (fG [0,1]) (tE (eB oIn (eW 2) (aJ KG.dY (ab (eB aY (eW 3) (eW 0)) (ab (eV 1) aC))))) (gN (ab (eV 0) (ab (eV 1) aC))))))))
def dX:List D->Res D:=fn 5 6 b_users
theorem fe_users(x0 x1 x2 x3 x4:D):dX [x0,x1,x2,x3,x4]=bU (b_users [some (.val x0),some (.val x1),some (.val x2),some (.val x3),some (.val x4),none]):=dC _ _ _ _ rfl
def b_holes:SF:=(aI (sDic 4) (aI (gJ (fv (aJ KN.fS (ab (eV 0) (ab (eV 1) (ab (eV 2) (ab (eV 3) aC)))))) (fG [5,6]) (gJ (fv (aJ KG.dY (ab (eB aY (eW 3) (eW 5)) (ab (eV 6) aC)))) (bf 7) (mN 4 (eV 7)))) (sDFrz 4 (bY (eU cR (eL (bP (fv (aJ KF.gC (ab (eV 0) (ab (eV 1) (ab (eV 2) aC))))) 1 [4] (bf 0) (tNinD (eV 0) 1) (eV 0))))))))
def fR:List D->Res D:=fn 4 8 b_holes
theorem fe_holes(x0 x1 x2 x3:D):fR [x0,x1,x2,x3]=bU (b_holes [some (.val x0),some (.val x1),some (.val x2),some (.val x3),none,none,none,none]):=dC _ _ _ _ rfl
def jW:SF:=(bY (eU cR (eL (bP (fv (eW 0)) 1 [] (bf 0) eK (eU oRev (eW 0))))))
def fB:List D->Res D:=fn 1 1 jW
theorem fe_mirrored(x0:D):fB [x0]=bU (jW [some (.val x0)]):=dC _ _ _ _ rfl
def nS:SF:=(bY (eU oRev (eW 0)))
def ip:List D->Res D:=fn 1 1 nS
theorem fe_turned(x0:D):ip [x0]=bU (nS [some (.val x0)]):=dC _ _ _ _ rfl
def c!:SF:=(aI (sIf (tE (eU oIsN (eW 2))) (bY (eC .non)) dR) (bY (gN (ab (eB aY (eW 2) (eC (.int 0))) (ab (eB iJ (eB iJ (eU fF (eB aY (eW 0) (eC (.int 0)))) (eB aY (eW 2) (eC (.int 1)))) (eB aY (eW 1) (eC (.int 1)))) aC)))))
def dD:List D->Res D:=fn 3 3 c!
theorem nB(x0 x1 x2:D):dD [x0,x1,x2]=bU (c! [some (.val x0),some (.val x1),some (.val x2)]):=dC _ _ _ _ rfl
def h!:SF:=(bY (eB iJ (eB iJ (eU fF (eW 0)) (eW 2)) (eB aY (eW 1) (eC (.int 2)))))
def eZ:List D->Res D:=fn 3 3 h!
theorem fe_turned_row(x0 x1 x2:D):eZ [x0,x1,x2]=bU (h! [some (.val x0),some (.val x1),some (.val x2)]):=dC _ _ _ _ rfl
def d?:SF:=(aI (sIf (tE (eU oIsN (eW 2))) (bY (eC .non)) dR) (bY (gN (ab (aJ eZ (ab (eV 0) (ab (eV 1) (ab (eB aY (eW 2) (eC (.int 0))) aC)))) (ab (eB aY (eW 2) (eC (.int 1))) aC)))))
def fi:List D->Res D:=fn 3 3 d?
theorem fe_turned_place(x0 x1 x2:D):fi [x0,x1,x2]=bU (d? [some (.val x0),some (.val x1),some (.val x2)]):=dC _ _ _ _ rfl
def di:SF:=(bY (eU cR (eL (bP (iZip (eV 1) (eV 2)) 2 [0] (fG [0,1]) eK (aJ dD (ab (eV 2) (ab (eV 0) (ab (eV 1) aC))))))))
def b!:List D->Res D:=fn 3 3 di
theorem lG(x0 x1 x2:D):b! [x0,x1,x2]=bU (di [some (.val x0),some (.val x1),some (.val x2)]):=dC _ _ _ _ rfl
def eD:SF:=(bY (eU cR (eL (bP (iZip (eV 1) (eV 2)) 2 [0] (fG [0,1]) eK (aJ fi (ab (eV 2) (ab (eV 0) (ab (eV 1) aC))))))))
def cL:List D->Res D:=fn 3 3 eD
theorem nz(x0 x1 x2:D):cL [x0,x1,x2]=bU (eD [some (.val x0),some (.val x1),some (.val x2)]):=dC _ _ _ _ rfl
def fV:SF:=(aI (bg 2 (eL (bP (fv (eB aY (eW 1) (eC (.int 7)))) 2 [0,1] (fG [0,1]) eK (gN (ab (aJ eZ (ab (eV 2) (ab (eV 3) (ab (eV 0) aC)))) (ab (eV 1) aC)))))) (bY (eB bN (eSl (eW 1) pNo (pAt (eC (.int 7)))) (gN (ab (eU cR (eL (lSortP (eL (bP (fv (eW 2)) 1 [] (bf 0) (tE (eB oGe (eB aY (eW 0) (eC (.int 0))) (eC (.int 0)))) (eV 0)))))) aC)))))
def fj:List D->Res D:=fn 2 3 fV
theorem fe_turned_group(x0 x1:D):fj [x0,x1]=bU (fV [some (.val x0),some (.val x1),none]):=dC _ _ _ _ rfl
def fm:SF:=(bY (eU cR (eL (bP (fv (eW 1)) 1 [0] (bf 0) eK (aJ fj (ab (eV 1) (ab (eV 0) aC)))))))
def bS:List D->Res D:=fn 2 2 fm
theorem fe_turned_groups(x0 x1:D):bS [x0,x1]=bU (fm [some (.val x0),some (.val x1)]):=dC _ _ _ _ rfl
def gG:SF:=(bY (eL (lSortB (eL (bP (fv (eW 1)) 2 [0] (fG [0,1]) eK (gN (ab (eV 0) (ab (eB iJ (eB iJ (eU fF (eB aY (eW 2) (eC (.int 0)))) (eC (.int 1))) (eW 1)) aC))))))))
def d9:List D->Res D:=fn 2 2 gG
theorem fe_law_crossed(x0 x1:D):d9 [x0,x1]=bU (gG [some (.val x0),some (.val x1)]):=dC _ _ _ _ rfl
def dI:SF:=(bY (eL (lSortB (eL (bP (fv (eW 1)) 2 [0] (fG [0,1]) eK (gN (ab (eB iJ (eB iJ (eU fF (eW 2)) (eC (.int 1))) (eW 0)) (ab (eV 1) aC))))))))
def cx:List D->Res D:=fn 2 2 dI
theorem md(x0 x1:D):cx [x0,x1]=bU (dI [some (.val x0),some (.val x1)]):=dC _ _ _ _ rfl
def b_law:SF:=(aI (bg 1 (aJ KM.gM (ab (eV 0) aC))) (aI (sGet (aJ KH.bV (ab (aJ KG.aS (ab (eV 0) (ab (eC (.int 2)) aC))) (ab (eL (bZ (ab (eC (.int 6)) (ab (eC (.int 6)) (ab (eB ki (eC (.int 10)) (eC (.int 9))) aC))))) aC))) (gSeq [2,3,4])) (aI (bg 5 (aJ KN.eA (ab (aJ KG.aS (ab (eV 0) (ab (eC (.int 3)) aC))) (ab (eC (.int 12)) aC)))) (aI (bg 6 (aJ KN.cS (ab (eV 0) (ab (eC (.int 4)) (ab (eL (lSl (eW 5) pNo (pAt (eW 2)))) aC))))) (aI (bg 7 (aJ KN.cS (ab (eV 0) (ab (eC (.int 10)) (ab (eL (lSl (eW 5) (pAt (eC (.int 6))) (pAt (eB bN (eC (.int 7)) (eW 3))))) aC))))) (aI (bg 8 (aJ KN.dZ (ab (eV 1) (ab (eV 6) (ab (eV 0) (ab (eC (.int 16)) aC)))))) (aI (bg 9 (aJ fR (ab (eV 1) (ab (eV 6) (ab (eV 8) (ab (eV 7) aC)))))) (aI (bg 10 (aJ b! (ab (eV 1) (ab (eV 6) (ab (eV 8) aC))))) (aI (sIf (tE (eB oNe (eL (lOf (aJ fR (ab (aJ fB (ab (eV 1) aC)) (ab (eV 6) (ab (eV 10) (ab (eV 7) aC))))))) (aJ d9 (ab (eV 1) (ab (eV 9) aC))))) (bY (eC (.bl false))) dR) (aI (bg 11 (aJ bS (ab (eV 1) (ab (eV 6) aC)))) (aI (bg 12 (aJ cL (ab (eV 1) (ab (eV 6) (ab (eV 8) aC))))) (aI (bg 13 (aJ bS (ab (eV 1) (ab (eV 7) aC)))) (aI (sIf (tE (eB oNe (eL (lOf (aJ fR (ab (aJ ip (ab (eV 1) aC)) (ab (eV 11) (ab (eV 12) (ab (eV 13) aC))))))) (aJ cx (ab (eV 1) (ab (eV 9) aC))))) (bY (eC (.bl false))) dR) (aI (gJ (fv (eL (lCat (eL (lSl (eW 0) (pAt (eC (.int 22))) (pAt (eC (.int 30))))) (aJ KM.bJ (ab (eV 4) (ab (eC (.int 2)) aC)))))) (bf 14) (aI (bg 15 (eB oMod (eW 14) (eU fF (eW 1)))) (aI (bg 16 (eB oMod (eB oDiv (eW 14) (eC (.int 6))) (eU fF (eB aY (eW 1) (eC (.int 0)))))) (aI (bg 17 (eU fF (aJ dX (ab (eV 1) (ab (eV 6) (ab (eV 8) (ab (eV 7) (ab (gN (ab (eV 15) (ab (eV 16) aC))) aC)))))))) (aI (sIf (tE (eB oNe (eU fF (aJ dX (ab (aJ fB (ab (eV 1) aC)) (ab (eV 6) (ab (eV 10) (ab (eV 7) (ab (gN (ab (eV 15) (ab (eB iJ (eB iJ (eU fF (eB aY (eW 1) (eC (.int 0)))) (eC (.int 1))) (eW 16)) aC))) aC))))))) (eW 17))) (bY (eC (.bl false))) dR) (sIf (tE (eB oNe (eU fF (aJ dX (ab (aJ ip (ab (eV 1) aC)) (ab (eV 11) (ab (eV 12) (ab (eV 13) (ab (gN (ab (eB iJ (eB iJ (eU fF (eW 1)) (eC (.int 1))) (eW 15)) (ab (eV 16) aC))) aC))))))) (eW 17))) (bY (eC (.bl false))) dR)))))) (bY (eC (.bl true)))))))))))))))))
def fn_law:List D->Res D:=fn 1 18 b_law
theorem fe_law(x0:D):fn_law [x0]=bU (b_law [some (.val x0),none,none,none,none,none,none,none,none,none,none,none,none,none,none,none,none,none]):=dC _ _ _ _ rfl
end K76
end
set_option maxRecDepth 8000
namespace K76
open Z KG KH KM KN KF KU KW
open KR (jN cF mirR jw bF turW turWs turG)
theorem holes_ok{rows:Rows}{C:Nat}(H:Hall rows C){xs:List GO}(hx:xs.length≤6)(hxg:∀x∈xs,GOk x.1){cs:List G}(hc:cs.length≤12)(hcs:∀g∈cs,GOk g):fR [b? rows,.tup (xs.map λ x=>aQ x.1),.tup (xs.map λ x=>cy x.2),.tup (cs.map aQ)]=.ok (.tup ((fw rows C (c_ xs) cs).map az)):=by
 rw[fe_holes];refine bq ?_;have hul:=mz H (c_ xs) cs 0;have hu:∀x∈f9 rows C (c_ xs) 0 cs,∃g,cs[x.1]?=some g:=λ x hx=>by obtain⟨g,h,_⟩:=useL_mem hx;exact⟨g,by simpa using h⟩
 have hfr:=KF.free_ok_KF H hx hxg;simp[b_holes,nU H hx hc hcs];generalize hus:f9 rows C (c_ xs) 0 cs=us at *;refine c5 (λ i ρ=>∃ks x5 x6 x7,KS ks (usedK cs (us.take i))∧ks.length≤i*60∧ρ=[v (b? rows),v (.tup (xs.map λ x=>aQ x.1)),v (.tup (xs.map λ x=>cy x.2)),v (.tup (cs.map aQ)),some (.lU ks),x5,x6,x7]) ⟨[],none,none,none,λ p=>by simpa using usedK_nil cs p,by simp,rfl⟩ ?_ ?_
 ·rintro i d ρ hi ⟨ks,x5,x6,x7,hk,hkl,rfl⟩;rw[List.getElem?_map]at hi;cases hx:us[i]? with
  | none=>rw[hx]at hi;cases hi
  | some x =>rw[hx]at hi;cases hi;have hil:=(List.getElem?_eq_some_iff.mp hx).1;obtain⟨g,hg⟩:=hu x (List.mem_of_getElem? hx);have kg:=hcs g (List.mem_of_getElem? hg);have h60:=seats_60 kg x.2;have ei:aY (.tup (cs.map aQ)) (.int (x.1:Int))=.ok (aQ g):=(lS (j:=x.1) rfl (by rw[List.getElem?_map,hg];rfl)).2;simp[ei,mG kg];refine(fill 4 7 (by decide) (seats g x.2) _ ks _ rfl (by simp) hk (by lia)).imp ?_;rintro fl ⟨ks',y,rfl,h1,h2⟩;simp;refine⟨h1.cong λ p=>?_,by lia⟩;rw[List.take_add_one,hx];exact(usedK_snoc hg p).symm
 ·rintro ρ ⟨ks,x5,x6,x7,hk,hkl,rfl⟩;rw[List.length_map,List.take_length]at hk;have hk2:∀p,decide (nh p∈ks)=kn rows C (c_ xs) cs p:=λ p=>by
   have h1:=hk p;rw[<-hus]at h1;have h2:=h1.trans used_iff;cases e:kn rows C (c_ xs) cs p with
   | true=>rw[e]at h2;simpa using h2
   | false=>rw[e]at h2;simpa using h2
  have hfl:(fsL rows C (c_ xs)).length≤16777216:=by have h1:=List.length_filter_le (fsB rows (c_ xs)) (cO rows.length C);rw[ir]at h1;have h3:rows.length*C≤100*100:=Nat.mul_le_mul H.r2 H.c2;unfold fsL;lia
  simp[hfr,bI,line,cA,bX,hfl];refine bE az (λ p=>!kn rows C (c_ xs) cs p) az ?_ ?_
  ·intro p hp;simp[hk2]
  ·have:=List.length_filter_le (λ p=>!kn rows C (c_ xs) cs p) (fsL rows C (c_ xs));rfl
theorem users_ok{rows:Rows}{C:Nat}(H:Hall rows C){xs:List GO}(hx:xs.length≤6){gs:List G}(hg:gs.length≤12)(hgs:∀g∈gs,GOk g)(s:Pl):dX [b? rows,.tup (xs.map λ x=>aQ x.1),.tup (xs.map λ x=>cy x.2),.tup (gs.map aQ),az s]=.ok (.tup (((f9 rows C (c_ xs) 0 gs).filter (inB gs s)).map mf)):=by
 rw[fe_users];refine bq ?_;have eu:=nU H hx hg hgs;have hul:=mz H (c_ xs) gs 0;have hul':(f9 rows C (c_ xs) 0 gs).length≤16777216:=by lia
 simp[b_users,eu,bI,cA,bX,line,hul'];refine bE mf (inB gs s) mf (xs:=f9 rows C (c_ xs) 0 gs) (λ x hxm=>?_) ?_
 ·obtain⟨g,eg,_⟩:=useL_mem hxm;rw[Nat.sub_zero]at eg;have ei:aY (.tup (gs.map aQ)) (.int (x.1:Int))=.ok (aQ g):=(lS (j:=x.1) rfl (by simp[eg])).1;have es:=mG (hgs g (List.mem_of_getElem? eg)) x.2;have eb:inB gs s x=decide (s∈seats g x.2):=by simp only[inB,eg]
  rw[eb];simp[ei,es,line,mk_K]
 ·simp
def plD:D->Pl
 | .tup [.int a,.int b]=>(a,b)
 | _=>(0,0)
def wsD:D->List Pl
 | .tup ds=>ds.map plD
 | _=>[]
theorem wsD_enc(ws:List Pl):wsD (.tup (ws.map az))=ws:=by show(ws.map az).map plD=ws;rw[List.map_map];have:(plD∘az)=id:=funext λ p=>rfl;rw[this,List.map_id]
theorem mir_ok{rows:Rows}(h:rows.length≤1000)(hc:∀x∈rows,x.length≤1000):fB [b? rows]=.ok (b? (rows.map List.reverse)):=by
 have hl:rows.length≤16777216:=by lia
 rw[fe_mirrored];refine bq ?_;simp[jW,b?,bI,cA,line,hl];refine bE D.str (λ _=>true) (λ x=>.str x.reverse) (xs:=rows) (λ x hx=>?_) ?_
 ·have:=hc x hx;simp[line];lia
 ·rw[g9];simp
def mirO(C:Nat)(x:GO):GO:=(x.1,x.2.map (jN C x.1))
theorem mplace_ok{rows:Rows}{C:Nat}(H:Hall rows C){g:G}(o:Option Pl):dD [b? rows,aQ g,cy o]=.ok (cy (o.map (jN C g))):=by
 obtain⟨l5,hl0,e0⟩:=H.l5;rw[nB];refine bq ?_;cases o with
 | none=>simp[c!,cy]
 | some p =>have en:oIsN (az p)=.ok (.bl false):=rfl;simp[c!,cy,en,e0,line,hl0];exact⟨by have:=H.c2;lia,rfl⟩
theorem seating_mir{rows:Rows}{C:Nat}(H:Hall rows C){xs:List GO}(hx:xs.length≤6):b! [b? rows,.tup (xs.map λ x=>aQ x.1),.tup (xs.map λ x=>cy x.2)]=.ok (.tup ((xs.map (mirO C)).map λ x=>cy x.2)):=by
 rw[lG];refine bq ?_;have hl:xs.length≤16777216:=by lia
 simp[di,zip_Y,bI,cA,bX,line,hl];refine bE encY (λ _=>true) (λ x=>cy (x.2.map (jN C x.1))) (xs:=xs) (λ x hxm=>?_) ?_
 ·have gX:∀ρ:Env,fG [0,1] (encY x) ρ=.ok ((ρ.set 0 (v (aQ x.1))).set 1 (v (cy x.2))):=λ ρ=>rfl;simp[gX,mplace_ok H]
 ·rw[g9];simp;exact λ a b _=>rfl
theorem sit_mir(C:Nat):∀xs:List GO,c_ (xs.map (mirO C))=(c_ xs).map λ x=>(x.1,jN C x.1 x.2)
 | []=>rfl
 | (g,none) :: xs=>by simpa[c_,mirO]using sit_mir C xs
 | (g,some p) :: xs=>by simpa[c_,mirO]using sit_mir C xs
theorem hall_mir{rows:Rows}{C:Nat}(H:Hall rows C):Hall (mirR rows) C:=⟨by simpa using H.r1,by simpa using H.r2,H.c1,H.c2,λ x hx=>by obtain⟨y,hy,rfl⟩:=List.mem_map.mp hx;rw[List.length_reverse];exact H.len y hy⟩
abbrev wsG(g:G):List Pl:=wsD g.wishes
def g_(R:Nat)(g:G):G:=turG R g (wsG g)
def turO(R:Nat)(x:GO):GO:=(g_ R x.1,x.2.map (jw R x.1))
theorem ws_of{g:G}(h:GrpW g):∃wt:Int,(wsG g).length≤6∧WsOk (wsG g)∧g.worth=.int wt∧g.wishes=.tup ((wsG g).map az):=by
 obtain⟨wt,ws,hl,e1,e2⟩:=h.wsh;obtain⟨ws',ho,e3⟩:=h.wso;have a:wsG g=ws:=by unfold wsG;rw[e2,wsD_enc]
 have b:wsG g=ws':=by unfold wsG;rw[e3,wsD_enc]
 exact⟨wt,by rw[a];exact hl,by rw[b];exact ho,e1,by rw[a];exact e2⟩
theorem hall_tur{rows:Rows}{C:Nat}(H:Hall rows C):Hall rows.reverse C:=⟨by simpa using H.r1,by simpa using H.r2,H.c1,H.c2,λ x hx=>H.len x (List.mem_reverse.mp hx)⟩
theorem turned_ok(rows:Rows):ip [b? rows]=.ok (b? rows.reverse):=by rw[fe_turned];refine bq ?_;simp[nS,b?]
theorem row_ok{rows:Rows}(h:rows.length≤1000)(g:G)(r:Int):eZ [b? rows,aQ g,.int r]=.ok (.int (rows.length-r-g.d)):=by rw[fe_turned_row];refine bq ?_;simp[h!,b?]
theorem place_ok{rows:Rows}(h:rows.length≤1000){g:G}(o:Option Pl):fi [b? rows,aQ g,cy o]=.ok (cy (o.map (jw rows.length g))):=by
 rw[fe_turned_place];refine bq ?_;cases o with
 | none=>simp[d?,cy]
 | some p =>have en:oIsN (az p)=.ok (.bl false):=rfl;simp[d?,cy,en,row_ok h,line];rfl
theorem seating_tur{rows:Rows}(h:rows.length≤1000){xs:List GO}(hx:xs.length≤6):cL [b? rows,.tup (xs.map λ x=>aQ x.1),.tup (xs.map λ x=>cy x.2)]=.ok (.tup ((xs.map (turO rows.length)).map λ x=>cy x.2)):=by
 rw[nz];refine bq ?_;have hl:xs.length≤16777216:=by lia
 simp[eD,zip_Y,bI,cA,bX,line,hl];refine bE encY (λ _=>true) (λ x=>cy (x.2.map (jw rows.length x.1))) (xs:=xs) (λ x hxm=>?_) ?_
 ·have gX:∀ρ:Env,fG [0,1] (encY x) ρ=.ok ((ρ.set 0 (v (aQ x.1))).set 1 (v (cy x.2))):=λ ρ=>rfl;simp[gX,place_ok h]
 ·rw[g9];simp;exact λ a b _=>rfl
theorem group_tur{rows:Rows}(h:rows.length≤1000){g:G}(k:GrpW g):fj [b? rows,aQ g]=.ok (aQ (g_ rows.length g)):=by
 obtain⟨wt,hl,ho,e1,e2⟩:=ws_of k;have hl':(wsG g).length≤16777216:=by lia
 have s7:oSl (aQ g) none (some 7)=.ok (.tup [.str g.name,.int g.w,.int g.d,.str g.kind,.int g.wide,.int g.gap,g.worth]):=rfl;have i7:aY (aQ g) (.int 7)=.ok (.tup ((wsG g).map az)):=by rw[<-e2];rfl
 rw[fe_turned_group];refine bq ?_;simp[fV,i7,s7,bI,cA,bX,line,hl'];refine bE az (λ _=>true) (λ p=>az (turW rows.length g.d p)) (xs:=wsG g) (λ p hp=>?_) ?_
 ·have gX:∀ρ:Env,fG [0,1] (az p) ρ=.ok ((ρ.set 0 (v (.int p.1))).set 1 (v (.int p.2))):=λ ρ=>rfl;simp[gX,row_ok h,line];rfl
 ·rw[g9];have em:(wsG g).map (λ p=>az (turW rows.length g.d p))=((wsG g).map (turW rows.length g.d)).map az:=by rw[List.map_map];rfl
  rw[em];generalize hq:(wsG g).map (turW rows.length g.d)=qs;have hql:qs.length≤16777216:=by rw[<-hq,List.length_map];lia
  simp[hql];refine bE az (λ p=>decide (0≤p.1)) (λ p=>prD p) (xs:=qs) (λ p hp=>?_) ?_
  ·simp
  ·have ek:=sortK_a (ps:=qs.filter λ p=>decide (0≤p.1)) (Nat.lt_of_le_of_lt (List.length_filter_le _ _) (by rw[<-hq,List.length_map];lia));rw[ek];simp[aQ,g_,turG,turWs,hq]
theorem groups_tur{rows:Rows}(h:rows.length≤1000){xs:List GO}(hx:xs.length≤6)(hg:∀x∈xs,GrpW x.1):bS [b? rows,.tup (xs.map λ x=>aQ x.1)]=.ok (.tup ((xs.map (turO rows.length)).map λ x=>aQ x.1)):=by
 rw[fe_turned_groups];refine bq ?_;have hl:xs.length≤16777216:=by lia
 simp[fm,bI,cA,bX,line,hl];refine bE (λ x:GO=>aQ x.1) (λ _=>true) (λ x=>aQ (g_ rows.length x.1)) (xs:=xs) (λ x hxm=>?_) ?_
 ·simp[group_tur h (hg x hxm)]
 ·rw[g9];simp;exact λ a b _=>rfl
theorem turG_ok{R:Nat}{g:G}(k:GrpW g):GrpG (g_ R g):=by obtain⟨wt,hl,ho,e1,e2⟩:=ws_of k;refine⟨⟨k.w1,k.w2,k.d1,k.d2,k.kd,k.wd,k.gp⟩,k.w12,k.d3,k.kl,k.wdd,k.g6,wt,eM (turWs R g.d (wsG g)),?_,e1,rfl⟩;rw[(ft _).length_eq];unfold turWs;refine Nat.le_trans (List.length_filter_le _ _) ?_;rw[List.length_map];exact hl
theorem sit_tur(R:Nat):∀xs:List GO,c_ (xs.map (turO R))=(c_ xs).map λ x=>(g_ R x.1,jw R x.1 x.2)
 | []=>rfl
 | (g,none) :: xs=>by simpa[c_,turO]using sit_tur R xs
 | (g,some p) :: xs=>by simpa[c_,turO]using sit_tur R xs
theorem mir_mv{rows:Rows}{C:Nat}(H:Hall rows C):Mv C rows (mirR rows) id (jN C) (cF C):=by
 have rr:mirR (mirR rows)=rows:=by
  unfold mirR;rw[List.map_map]
  conv=>rhs;rw[<-List.map_id rows]
  exact List.map_congr_left λ x _=>List.reverse_reverse x
 have cc:∀s:Pl,cF C (cF C s)=s:=λ s=>Prod.ext rfl (by show(C:Int)-1-(C-1-s.2)=s.2;lia);refine⟨λ g p _ h=>KR.fits_mir H.len h,λ g p _ h=>?_,λ g p=>KR.mir_mir C g p,λ g p h q=>KR.apart_mir C g h p q,λ g q s=>?_,cc,λ s=>?_,λ s hs=>?_⟩
 ·have:=KR.fits_mir (hall_mir H).len h;rw[rr]at this;exact this
 ·show s∈seats g (jN C g q)↔_;rw[KF.eT,KF.eT];unfold jN cF;simp only;constructor<;>intro h<;>lia
 ·rw[fA,fA];unfold cF mirR;rw[List.length_map];simp only;constructor<;>intro h<;>lia
 ·rw[fA]at hs;have:=KR.sign_mir H.len (s:=cF C s) (by unfold cF;simp only;lia) (by unfold cF;simp only;lia);rw[cc]at this;exact this
theorem tur_mv{rows:Rows}{C:Nat}(H:Hall rows C):Mv C rows rows.reverse (g_ rows.length) (jw rows.length) (bF rows.length):=by
 have cc:∀s:Pl,bF rows.length (bF rows.length s)=s:=λ s=>Prod.ext (by show(rows.length:Int)-1-(rows.length-1-s.1)=s.1;lia) rfl;refine⟨λ g p _ h=>KR.fits_tur h,λ g p _ h=>?_,λ g p=>KR.tur_tur _ g p,λ g p h q=>KR.apart_tur _ g h p q,λ g q s=>?_,cc,λ s=>?_,λ s hs=>?_⟩
 ·have:=KR.fits_tur (rows:=rows.reverse) (g:=g) (p:=p) h;rw[List.reverse_reverse,List.length_reverse]at this;exact this
 ·show s∈seats g (jw rows.length g q)↔_;rw[KF.eT,KF.eT];unfold jw bF;simp only;constructor<;>intro h<;>lia
 ·rw[fA,fA,List.length_reverse];unfold bF;simp only;constructor<;>intro h<;>lia
 ·rw[fA,List.length_reverse]at hs;have:=KR.sign_tur (rows:=rows) (s:=bF rows.length s) (by unfold bF;simp only;lia) (by unfold bF;simp only;lia);rw[cc]at this;exact this
theorem crossed_ok{rows:Rows}{C:Nat}(H:Hall rows C){ps:List Pl}(hp:ps.length < 128):d9 [b? rows,.tup (ps.map az)]=.ok (.lst ((eM (ps.map (cF C))).map az)):=by
 obtain⟨l5,hl0,e0⟩:=H.l5;have hl:ps.length≤16777216:=by lia
 rw[fe_law_crossed];refine bq ?_;simp[gG,bI,cA,bX,line,hl];refine bE az (λ _=>true) (λ s=>az (cF C s)) (xs:=ps) (λ s hs=>?_) ?_
 ·have gX:∀ρ:Env,fG [0,1] (az s) ρ=.ok ((ρ.set 0 (v (.int s.1))).set 1 (v (.int s.2))):=λ ρ=>rfl;simp[gX,e0,line,hl0];exact⟨by have:=H.c2;lia,rfl⟩
 ·rw[g9];have e1:ps.map (λ s=>az (cF C s))=(ps.map (cF C)).map prD:=by rw[List.map_map];rfl
  have ek:=sortKB_a (ps:=ps.map (cF C)) (by rw[List.length_map];exact hp);rw[e1,ek];simp
theorem behind_ok{rows:Rows}(hR:rows.length≤1000){ps:List Pl}(hp:ps.length < 128):cx [b? rows,.tup (ps.map az)]=.ok (.lst ((eM (ps.map (bF rows.length))).map az)):=by
 have hl:ps.length≤16777216:=by lia
 have el:fF (b? rows)=.ok (.int rows.length):=by simp[b?]
 rw[md];refine bq ?_;simp[dI,bI,cA,bX,line,hl];refine bE az (λ _=>true) (λ s=>az (bF rows.length s)) (xs:=ps) (λ s hs=>?_) ?_
 ·have gX:∀ρ:Env,fG [0,1] (az s) ρ=.ok ((ρ.set 0 (v (.int s.1))).set 1 (v (.int s.2))):=λ ρ=>rfl;simp[gX,el,line];rfl
 ·rw[g9];have e1:ps.map (λ s=>az (bF rows.length s))=(ps.map (bF rows.length)).map prD:=by rw[List.map_map];rfl
  have ek:=sortKB_a (ps:=ps.map (bF rows.length)) (by rw[List.length_map];exact hp);rw[e1,ek];simp
structure Fx(ns:List Int)(c2 c3:Int)(nms:List (List Nat))(m1:List Int)(R C:Nat)(dH dM dT tG tC tS tM tTG tTS tTC:D)(H1 H2 H3:List Pl)(F1 F2 F3:Pl->List KP):Prop where
 eh:KM.gM [.lst (ns.map .int)]=.ok dH
 ec2:KG.aS [.lst (ns.map .int),.int 2]=.ok (.int c2)
 ec3:KG.aS [.lst (ns.map .int),.int 3]=.ok (.int c3)
 dg:KH.bV [.int c2,.lst [.int 6,.int 6,.int 1000000000]]=.ok (.lst [.int (c2 % 6),.int (c2 / 6 % 6),.int (c2 / 6 / 6 % 1000000000)])
 en:KN.eA [.int c3,.int 12]=.ok (.lst (nms.map .str))
 eg:KN.cS [.lst (ns.map .int),.int 4,.lst ((cut nms none (some (c2 % 6))).map .str)]=.ok tG
 ecs:KN.cS [.lst (ns.map .int),.int 10,.lst ((cut nms (some 6) (some (7+c2 / 6 % 6))).map .str)]=.ok tC
 es:KN.dZ [dH,tG,.lst (ns.map .int),.int 16]=.ok tS
 h1:fR [dH,tG,tS,tC]=.ok (.tup (H1.map az))
 ms:b! [dH,tG,tS]=.ok tM
 mr:fB [dH]=.ok dM
 h2:fR [dM,tG,tM,tC]=.ok (.tup (H2.map az))
 x1:d9 [dH,.tup (H1.map az)]=.ok (.lst (H2.map az))
 tg:bS [dH,tG]=.ok tTG
 ts:cL [dH,tG,tS]=.ok tTS
 tc:bS [dH,tC]=.ok tTC
 tn:ip [dH]=.ok dT
 h3:fR [dT,tTG,tTS,tTC]=.ok (.tup (H3.map az))
 x2:cx [dH,.tup (H1.map az)]=.ok (.lst (H3.map az))
 em1:KM.bJ [.int (c2 / 6 / 6 % 1000000000),.int 2]=.ok (.lst (m1.map .int))
 m2:m1.length≤1000
 q2:H2.length≤16777216
 q3:H3.length≤16777216
 u1:∀s,dX [dH,tG,tS,tC,az s]=.ok (.tup ((F1 s).map mf))
 u2:∀s,dX [dM,tG,tM,tC,az s]=.ok (.tup ((F2 s).map mf))
 u3:∀s,dX [dT,tTG,tTS,tTC,az s]=.ok (.tup ((F3 s).map mf))
 um:∀s,(F2 (cF C s)).length=(F1 s).length
 ut:∀s,(F3 (bF R s)).length=(F1 s).length
 lH:fF dH=.ok (.int R)
 e0:∃l5:List Nat,l5.length=C∧aY dH (.int 0)=.ok (.str l5)
 r0:0 < R
 c0:0 < C
 cl:C≤1000
theorem facts{ns:List Int}(hb:∀i∈ns,bits i≤2 ^ 20):∃c2 c3 nms m1 R C dH dM dT tG tC tS tM tTG tTS tTC H1 H2 H3 F1 F2 F3,Fx ns c2 c3 nms m1 R C dH dM dT tG tC tS tM tTG tTS tTC H1 H2 H3 F1 F2 F3:=by
 obtain⟨rows,C,H,eh⟩:=KM.hall_ok_KM (ns:=ns) hb;obtain⟨c2,ec2,_⟩:=iX (ns:=ns) hb (k:=2) (by decide);obtain⟨c3,ec3,hc3⟩:=iX (ns:=ns) hb (k:=3) (by decide);have dg:=js (ss:=[6,6,1000000000]) ⟨by decide,by decide⟩ c2;simp only[List.map_cons,List.map_nil,jc]at dg;obtain⟨nms,hnl,en⟩:=names_ok hc3 (n:=12) (by decide);replace en:KN.eA [.int c3,.int 12]=.ok (.lst (nms.map .str)):=en;have hcl:∀l h,(cut nms l h).length≤12:=λ l h=>by unfold cut;rw[List.length_take,List.length_drop];lia
 obtain⟨gs,hgl,hgg,eg⟩:=KN.groups_okW (ns:=ns) hb (st:=4) (by decide) (nms:=cut nms none (some (c2 % 6))) (hcl _ _);obtain⟨cs,hcsl,hcg,ecs⟩:=KN.groups_okW (ns:=ns) hb (st:=10) (by decide) (nms:=cut nms (some 6) (some (7+c2 / 6 % 6))) (hcl _ _);have hg6:gs.length≤5:=by
  obtain⟨n,hn⟩:∃n:Nat,c2 % 6=(n:Int):=gZ (Int.emod_nonneg _ (by decide));have hn5:n≤5:=by have:=Int.emod_lt_of_pos c2 (show(0:Int) < 6 by decide);lia
  rw[hgl,hn,cut_take nms (Nat.le_trans hn5 (by rw[hnl];decide)),List.length_take];exact Nat.le_trans (Nat.min_le_left _ _) hn5
 have hcs6:cs.length≤6:=by
  rw[hcsl];have n1:¬7+c2 / 6 % 6 < 0:=by lia
  have n2:¬(6:Int) < 0:=by decide
  simp only[cut,cP,n1,n2,if_false,List.length_take,List.length_drop,hnl];lia
 obtain⟨xs,hxs,hkp,es⟩:=seating_ok H.toHall (ns:=ns) hb (gs:=gs) (by lia) (λ g hg=>(hgg g hg).toGOk) (st:=16) (by decide);have hxl:xs.length≤6:=by have:=congrArg List.length hxs;rw[List.length_map]at this;lia
 have hxw:∀x∈xs,GrpW x.1:=λ x hx=>hgg x.1 (by rw[<-hxs];exact List.mem_map.mpr ⟨x,hx,rfl⟩);have hxg:∀x∈xs,GOk x.1:=λ x hx=>(hxw x hx).toGOk;have hgo:∀g∈cs,GOk g:=λ g hg=>(hcg g hg).toGOk;have egs:gs.map aQ=xs.map λ x=>aQ x.1:=by rw[<-hxs,List.map_map];rfl
 rw[egs]at eg es;have ecm:∀l h,cut (nms.map D.str) l h=(cut nms l h).map D.str:=λ l h=>KH.cut_map D.str nms l h;have hr2:=H.r6;have hc2:=H.c12;have hR:rows.length≤1000:=by lia
 have Hm:=hall_mir H.toHall;have Ht:=hall_tur H.toHall
 -- the hall as it stands
 have h1:=holes_ok H.toHall (xs:=xs) hxl hxg (cs:=cs) (by lia) hgo;have u1:=λ s=>users_ok H.toHall (xs:=xs) hxl (gs:=cs) (by lia) hgo s;have hhl:(fw rows C (c_ xs) cs).length < 128:=by have h1:=List.length_filter_le (fsB rows (c_ xs)) (cO rows.length C);rw[ir]at h1;have h2:(fw rows C (c_ xs) cs).length≤(fsL rows C (c_ xs)).length:=List.length_filter_le _ _;have h3:rows.length*C≤6*12:=Nat.mul_le_mul hr2 hc2;unfold fsL at h2;lia
 -- across
 have em:(xs.map (mirO C)).map (λ x=>aQ x.1)=xs.map λ x=>aQ x.1:=by rw[List.map_map];rfl
 have sm:c_ (xs.map (mirO C))=mvS id (jN C) (c_ xs):=sit_mir C xs;have mr:=mir_ok hR (λ x hx=>by have:=H.toHall.len x hx;lia);have ms:=seating_mir H.toHall hxl;have h2:=holes_ok Hm (xs:=xs.map (mirO C)) (by simpa using hxl) (λ x hx=>by obtain⟨y,hy,rfl⟩:=List.mem_map.mp hx;exact hxg y hy) (cs:=cs) (by lia) hgo;have u2:=λ s=>users_ok Hm (xs:=xs.map (mirO C)) (by simpa using hxl) (gs:=cs) (by lia) hgo s;rw[em,sm]at h2;simp only[em,sm]at u2;have hm:=holes_mv H.toHall Hm (mir_mv H.toHall) (c_ xs) (cs:=cs) hgo hgo;have um:=λ s=>users_mv H.toHall Hm (mir_mv H.toHall) (c_ xs) (cs:=cs) hgo hgo s;rw[List.map_id]at hm;simp only[List.map_id]at um;have x1:=crossed_ok H.toHall hhl;rw[hm]at x1
 -- from behind
 have et:((xs.map (turO rows.length)).map λ x=>aQ x.1)=xs.map λ x=>aQ (g_ rows.length x.1):=by rw[List.map_map];rfl
 have st:c_ (xs.map (turO rows.length))=mvS (g_ rows.length) (jw rows.length) (c_ xs):=sit_tur _ xs;have ts:=seating_tur hR hxl;have tg:=groups_tur hR hxl hxw;have tc:=groups_tur hR (xs:=cs.map λ g=>((g,none):GO)) (by simpa using hcs6) (λ x hx=>by obtain⟨y,hy,rfl⟩:=List.mem_map.mp hx;exact hcg y hy);have ec1:((cs.map λ g=>((g,none):GO)).map λ x=>aQ x.1)=cs.map aQ:=by rw[List.map_map];rfl
 have ec2':(((cs.map λ g=>((g,none):GO)).map (turO rows.length)).map λ x=>aQ x.1)=(cs.map (g_ rows.length)).map aQ:=by rw[List.map_map,List.map_map,List.map_map];rfl
 rw[ec1,ec2']at tc;have hct:∀g∈cs.map (g_ rows.length),GOk g:=λ g hg=>by obtain⟨y,hy,rfl⟩:=List.mem_map.mp hg;exact(turG_ok (hcg y hy)).toGOk
 have hct':∀g∈cs,GOk (g_ rows.length g):=λ g hg=>(turG_ok (hcg g hg)).toGOk;have hxt:∀x∈xs.map (turO rows.length),GOk x.1:=λ x hx=>by obtain⟨y,hy,rfl⟩:=List.mem_map.mp hx;exact(turG_ok (hxw y hy)).toGOk
 have h3:=holes_ok Ht (xs:=xs.map (turO rows.length)) (by simpa using hxl) hxt (cs:=cs.map (g_ rows.length)) (by simpa using Nat.le_trans hcs6 (by decide)) hct;have u3:=λ s=>users_ok Ht (xs:=xs.map (turO rows.length)) (by simpa using hxl) (gs:=cs.map (g_ rows.length)) (by simpa using Nat.le_trans hcs6 (by decide)) hct s;rw[st]at h3;simp only[st]at u3;have ht:=holes_mv H.toHall Ht (tur_mv H.toHall) (c_ xs) (cs:=cs) hgo hct';have ut:=λ s=>users_mv H.toHall Ht (tur_mv H.toHall) (c_ xs) (cs:=cs) hgo hct' s;have x2:=behind_ok hR hhl;rw[ht]at x2;have tn:=turned_ok rows;obtain⟨m1,hm1,_,em1⟩:=m? (c2 / 6 / 6 % 1000000000) (n:=2) (by decide);replace em1:KM.bJ [.int (c2 / 6 / 6 % 1000000000),.int 2]=.ok (.lst (m1.map .int)):=em1;have q2:(fw (mirR rows) C (mvS id (jN C) (c_ xs)) cs).length≤16777216:=by rw[<-hm,(ft _).length_eq,List.length_map];lia
 have q3:(fw rows.reverse C (mvS (g_ rows.length) (jw rows.length) (c_ xs)) (cs.map (g_ rows.length))).length≤16777216:=by rw[<-ht,(ft _).length_eq,List.length_map];lia
 obtain⟨l5,hl0,e0⟩:=H.toHall.l5;have r1:=H.toHall.r1;have c1:=H.toHall.c1;have r0:(0:Int) < rows.length:=by lia
 have c0:(0:Int) < C:=by lia
 rw[et]at tg h3;simp only[et]at u3;exact⟨c2,c3,nms,m1,rows.length,C,_,_,_,_,_,_,_,_,_,_,_,_,_,_,_,_,eh,ec2,ec3,dg,en,eg,ecs,es,h1,ms,mr,h2,x1,tg,ts,tc,tn,h3,x2,em1,by lia,q2,q3,u1,u2,u3,um,ut,by simp,⟨l5,hl0,e0⟩,by lia,by lia,by lia⟩
theorem seq_ok{a b:SF}{ρ ρ1:Env}{Q:Fl->Prop}(h:Ok (a ρ) λ fl=>fl=.nx ρ1)(k:Ok (b ρ1) Q):Ok (aI a b ρ) Q:=by obtain⟨y,e1,rfl⟩:=h;simp[e1];exact k
theorem seq_ok'{a b:SF}{ρ:Env}{Q:Fl->Prop}(h:Ok (aI a b ρ) Q):Ok (aI a b ρ) Q:=h
theorem eP{i:Nat}{e:EF}{b:SF}{ρ:Env}{d:D}{Q:Fl->Prop}(h:Ok (e ρ) λ y=>y=d)(k:Ok (b (ρ.set i (some (.val d)))) Q):Ok (aI (bg i e) b ρ) Q:=by obtain⟨y,e1,rfl⟩:=h;simp[e1];exact k
theorem if_step{t:TF}{a b:SF}{ρ:Env}{Q:Fl->Prop}(h:Ok (t ρ) λ y=>y=false)(k:Ok (b ρ) Q):Ok (aI (sIf t a dR) b ρ) Q:=by obtain⟨y,e1,rfl⟩:=h;simp[e1];exact k
theorem holds(ns:List Int)(hn:ns.length≤63)(hb:∀i∈ns,bits i≤2 ^ 20):fn_law [.lst (ns.map .int)]=.ok (.bl true):=by
 obtain⟨c2,c3,nms,m1,R,C,dH,dM,dT,tG,tC,tS,tM,tTG,tTS,tTC,H1,H2,H3,F1,F2,F3,x⟩:=facts hb;obtain⟨l5,hl0,e0⟩:=x.e0;have ecm:∀l h,cut (nms.map D.str) l h=(cut nms l h).map D.str:=λ l h=>KH.cut_map D.str nms l h;have hc1:∀l h,(cut (ns.map D.int) l h).length≤63:=λ l h=>by have:=cut_len (ns.map D.int) l h;rw[List.length_map]at this;lia
 have k1:(cut (ns.map D.int) (some 22) (some 30)).length+m1.length≤16777216:=by have:=hc1 (some 22) (some 30);have:=x.m2;lia
 have ep9:ki (.int 10) (.int 9)=.ok (.int 1000000000):=guard_pos (p:=0≤(9:Int)∧(9:Int)≤1000000∧(10:Int).natAbs < 2 ^ 64) ⟨by decide,by decide,by decide⟩;have hint:∀(l h:Option Int)(ms:List Int) d,d∈cut (ns.map D.int) l h++ms.map D.int->∃z,d=.int z:=λ l h ms d hd=>by
  rcases List.mem_append.mp hd with hd | hd
  ·obtain⟨z,_,rfl⟩:=List.mem_map.mp (KH.mem_cut_KH hd);exact⟨z,rfl⟩
  ·obtain⟨z,_,rfl⟩:=List.mem_map.mp hd;exact⟨z,rfl⟩
 have l0:=x.r0;have l1:=x.c0;have l2:=x.cl;have r0:(0:Int) < R:=by lia
 have c0:(0:Int) < C:=by lia
 rw[fe_law];refine bq ?_;unfold b_law;refine eP (d:=dH) (by simp[x.eh]) ?_;refine seq_ok (ρ1:=[v (.lst (ns.map .int)),v dH,v (.int (c2 % 6)),v (.int (c2 / 6 % 6)),v (.int (c2 / 6 / 6 % 1000000000)),none,none,none,none,none,none,none,none,none,none,none,none,none]) (by simp[ep9,x.ec2,x.dg,nu,gg,line]) ?_;generalize hz:c2 / 6 / 6 % 1000000000=z3;have em1:=x.em1;rw[hz]at em1;refine eP (d:=.lst (nms.map .str)) (by simp[x.ec3,x.en]) ?_;refine eP (d:=tG) (by simp[lSl_k,ecm,x.eg]) ?_;refine eP (d:=tC) (by simp[lSl_k,ecm,x.ecs]) ?_;refine eP (d:=tS) (by simp[x.es]) ?_;refine eP (d:=.tup (H1.map az)) (by simp[x.h1]) ?_;refine eP (d:=tM) (by simp[x.ms]) ?_;refine if_step (by simp[x.mr,x.h2,x.x1,neP,x.q2,line]) ?_;refine eP (d:=tTG) (by simp[x.tg]) ?_;refine eP (d:=tTS) (by simp[x.ts]) ?_;refine eP (d:=tTC) (by simp[x.tc]) ?_;refine if_step (by simp[x.tn,x.h3,x.x2,neP,x.q3,line]) ?_;simp only[List.set_cons_zero,List.set_cons_succ];refine seq_ok' ?_;simp[lSl_k,lCat_k,em1,k1,line];refine for_all (λ ρ=>∃x14 x15 x16 x17,ρ=[v (.lst (ns.map .int)),v dH,v (.int (c2 % 6)),v (.int (c2 / 6 % 6)),v (.int z3),v (.lst (nms.map .str)),v tG,v tC,v tS,v (.tup (H1.map az)),v tM,v tTG,v tTS,v tTC,x14,x15,x16,x17]) ⟨none,none,none,none,rfl⟩ ?_ ?_
 ·rintro d hd ρ ⟨x14,x15,x16,x17,rfl⟩;obtain⟨z,rfl⟩:=hint _ _ _ d hd;have U1:=x.u1 (z % R,z / 6 % C);have U2:=x.u2 (cF C (z % R,z / 6 % C));have U3:=x.u3 (bF R (z % R,z / 6 % C));have e2:=x.um (z % R,z / 6 % C);have e3:=x.ut (z % R,z / 6 % C);have lH:=x.lH;replace U2:dX [dM,tG,tM,tC,az (z % R,(C:Int)-1-z / 6 % C)]=.ok (.tup ((F2 (cF C (z % R,z / 6 % C))).map mf)):=U2;replace U3:dX [dT,tTG,tTS,tTC,az ((R:Int)-1-z % R,z / 6 % C)]=.ok (.tup ((F3 (bF R (z % R,z / 6 % C))).map mf)):=U3;generalize F2 (cF C (z % R,z / 6 % C))=g2 at U2 e2;generalize F3 (bF R (z % R,z / 6 % C))=g3 at U3 e3;generalize F1 (z % R,z / 6 % C)=g1 at U1 e2 e3;have d6:h9 6:=bj (by decide) (by decide);have cl:C≤16777216:=by lia
  simp[lH,e0,hl0,line,l0,l1,d6,cl,U1,U2,U3,x.mr,x.tn,e2,e3]
 ·rintro ρ ⟨x14,x15,x16,x17,rfl⟩;simp
end K76
set_option maxRecDepth 100000
namespace K76
open PySem PySem.Spec PyProof.Rows L2 ZQ KG KH KM KN KF
def top(i:Nat):Stmt:=PySem.Challenge.pw_besideseats_k76_whole_holes_from_the_oth.main.body.getD i (.Pass ⟨0,0,0,0⟩)
theorem bb_all:bootBuiltins "all" = some (.builtin "all"):=by kernel_rfl
theorem bb_int:bootBuiltins "int" = some (.type "int"):=by kernel_rfl
theorem cU:bootBuiltins "len" = some (.builtin "len"):=by kernel_rfl
theorem bb_list:bootBuiltins "list" = some (.type "list"):=by kernel_rfl
theorem bb_max:bootBuiltins "max" = some (.builtin "max"):=by kernel_rfl
theorem bb_min:bootBuiltins "min" = some (.builtin "min"):=by kernel_rfl
theorem bb_sorted:bootBuiltins "sorted" = some (.builtin "sorted"):=by kernel_rfl
theorem cb:bootBuiltins "tuple" = some (.type "tuple"):=by kernel_rfl
section
variable {P:Program}{w:World}{K:PySem.W.Frag}{mg:Str->Option Value}{base:Heap}
abbrev s_sign_at:Stmt:=top 7
abbrev n_sign_at:List Str:=["hall", "seat", "row", "column"]
abbrev p_sign_at:List Str:=["hall", "seat"]
theorem sc_sign_at:aF n_sign_at p_sign_at (aj s_sign_at):=⟨rfl,rfl,rfl,by decide +kernel,rfl,by decide +kernel,by decide +kernel⟩
abbrev T_sign_at(P:Program)(w:World)(K:PySem.W.Frag)(mg:Str->Option Value)(base:Heap):Prop:=ZS.jj P w K mg base "sign_at" 1 p_sign_at (KG.jP)
theorem ok_sign_at(d:ZS.Def K mg "sign_at" s_sign_at p_sign_at)(br:mg "len" = none):T_sign_at P w K mg base :=
 dN (N:=n_sign_at) (b:=KG.fC) d sc_sign_at λ f bT A outer s H E hr=>have nd:=sc_sign_at.nd;have hu:=hr.units;(ah (aH (i:=2) nd rfl (lo rfl) (ay (ak 1) (af aa))) (ah (aH (i:=3) nd rfl (lo rfl) (ay (ak 1) (af aa))) (ah (e? (dtw (mh (nD ZS.c_le ZS.c_lt (af aa) (ak 2) (af (cz rfl br cU (ak 0)))) (jS (nD ZS.c_le ZS.c_lt (af aa) (ak 3) (af (cz rfl br cU (af (ay (ak 0) (af aa))))))))) (au (aO (ay (af (ay (ak 0) (ak 2))) (ak 3)))) b8) (au (aO de_non)))))
abbrev s_takes:Stmt:=top 9
abbrev mW:List Str:=["sign", "kind"]
theorem sc_takes:aF mW mW (aj s_takes):=⟨rfl,rfl,rfl,by decide +kernel,rfl,by decide +kernel,by decide +kernel⟩
abbrev T_takes(P:Program)(w:World)(K:PySem.W.Frag)(mg:Str->Option Value)(base:Heap):Prop:=ZS.jj P w K mg base "takes" 1 mW (KG.nv)
theorem ok_takes(d:ZS.Def K mg "takes" s_takes mW): T_takes P w K mg base :=
 dN (N:=mW) (b:=KG.nT) d sc_takes λ f bT A outer s H E hr=>have nd:=sc_takes.nd;have hu:=hr.units;(au (aO (de_or (fU (ZS.c_in hu) (ak 0) (af (cg (ag (c8 (by decide +kernel)) (ag (c8 (by decide +kernel)) ai)))) (by with_unfolding_all rfl)) (de_one (fU (ZS.c_eq hu) (ak 0) (ak 1) (bD _))))))
abbrev lY:Stmt:=top 10
abbrev n_seats_of:List Str:=["group", "place", "seats", "row"]
abbrev l7:List Str:=["group", "place"]
theorem sc_seats_of:aF n_seats_of l7 (aj lY):=⟨rfl,rfl,rfl,by decide +kernel,rfl,by decide +kernel,by decide +kernel⟩
abbrev gr(P:Program)(w:World)(K:PySem.W.Frag)(mg:Str->Option Value)(base:Heap):Prop:=ZS.jj P w K mg base "seats_of" 1 l7 (KG.dY)
theorem ok_seats_of(d:ZS.Def K mg "seats_of" lY l7)(aU:mg "range" = none)(aE:mg "tuple" = none){jz:Tok}(gE:mg "DEPTH" = some (.int 2 jz)){jy:Tok}(gD:mg "WIDTH" = some (.int 1 jy)):gr P w K mg base :=
 dN (N:=n_seats_of) (b:=KG.jV) d sc_seats_of λ f bT A outer s H E hr=>have nd:=sc_seats_of.nd;have hu:=hr.units;(ah (fx (i:=2) nd rfl (lo rfl) (aV ai)) (ah (cG PassesOwn.never rfl (dj_rng2 rfl aU (ay (ak 1) (af aa)) (aR (af (ay (ak 1) (af aa))) (af (ay (ak 0) (af (b_ rfl gE)))))) (aW (i:=3) nd rfl (lo rfl)) (au (ds_ext (i:=2) (pv 2) (bW rfl (di_j (dj_rng2 rfl aU (ay (ak 1) (af aa)) (aR (af (ay (ak 1) (af aa))) (af (ay (ak 0) (af (b_ rfl gD))))))) (N':=["column", "row"]) (n:=1) (is:=[3]) (ZS.lr.of (by kernel_rfl)) (ZS.bh (by decide)) (λ _ _ _ _ _ _=>(aW (i:=0) (show List.Nodup (["column", "row"]:List Str)by decide +kernel) rfl (lo rfl))) (λ _ _ _ _ _=>dP) (λ _ _ _ _ _=>(cg (ae (av 1) (ae (av 0) ai)))))))) (au (aO (bQ rfl aE cb (ak 2))))))
abbrev s_fits:Stmt:=top 11
abbrev n_fits:List Str:=["hall", "group", "place", "signs"]
abbrev p_fits:List Str:=["hall", "group", "place"]
theorem sc_fits:aF n_fits p_fits (aj s_fits):=⟨rfl,rfl,rfl,by decide +kernel,rfl,by decide +kernel,by decide +kernel⟩
abbrev T_fits(P:Program)(w:World)(K:PySem.W.Frag)(mg:Str->Option Value)(base:Heap):Prop:=ZS.jj P w K mg base "fits" 2 p_fits (KG.fn_fits)
theorem ok_fits(d:ZS.Def K mg "fits" s_fits p_fits)(b9:gr P w K mg base)(C_sign_at:T_sign_at P w K mg base)(C_takes:T_takes P w K mg base)(g_all:mg "all" = none){t_KIND:Tok}(c_KIND:mg "KIND" = some (.int 3 t_KIND)){t_WIDE:Tok}(c_WIDE:mg "WIDE" = some (.int 4 t_WIDE)):T_fits P w K mg base :=
 dN (N:=n_fits) (b:=KG.b_fits) d sc_fits λ f bT A outer s H E hr=>have nd:=sc_fits.nd;have hu:=hr.units;(ah (iU (i:=3) rfl nd rfl (lo rfl) (c6 (af (aq b9 (hr.mono (by decide)) rfl (ae (av 1) (ae (av 2) ai))))) (N':=["seat", "hall"]) (n:=1) (is:=[0]) (ZS.lr.of (by kernel_rfl)) (ZS.bh (by decide)) (λ _ _ _ _ _ _=>(aW (i:=0) (show List.Nodup (["seat", "hall"]:List Str)by decide +kernel) rfl (lo rfl))) (λ _ _ _ _ _=>dP) (λ _ _ _ _ _=>(aq C_sign_at (hr.mono (by decide)) rfl (ae (av 1) (ae (av 0) ai))))) (ah (e? (dt_not (dt_e (de_all rfl g_all bb_all (dJ (bW rfl (c6 (ak 3)) (N':=["sign", "group"]) (n:=1) (is:=[1]) (ZS.lr.of (by kernel_rfl)) (ZS.bh (by decide)) (λ _ _ _ _ _ _=>(aW (i:=0) (show List.Nodup (["sign", "group"]:List Str)by decide +kernel) rfl (lo rfl))) (λ _ _ _ _ _=>dP) (λ _ _ _ _ _=>(aq C_takes (hr.mono (by decide)) rfl (ae (av 0) (cN (ay (ak 1) (af (b_ rfl c_KIND))) ai))))))))) (au (aO jt)) b8) (au (aO (fU ZS.c_ge (af (de_count hu (ak 3) (af (c8 (by decide +kernel))))) (af (ay (ak 1) (af (b_ rfl c_WIDE)))) (bD _))))))
abbrev kD:Stmt:=top 12
abbrev n_places_of:List Str:=["hall", "group", "places", "row"]
abbrev kJ:List Str:=["hall", "group"]
theorem mH:aF n_places_of kJ (aj kD):=⟨rfl,rfl,rfl,by decide +kernel,rfl,by decide +kernel,by decide +kernel⟩
abbrev k7(P:Program)(w:World)(K:PySem.W.Frag)(mg:Str->Option Value)(base:Heap):Prop:=ZS.jj P w K mg base "places_of" 3 kJ (KG.hW)
theorem ok_places_of(d:ZS.Def K mg "places_of" kD kJ)(C_fits:T_fits P w K mg base)(br:mg "len" = none)(aU:mg "range" = none)(aE:mg "tuple" = none):k7 P w K mg base :=
 dN (N:=n_places_of) (b:=KG.iY) d mH λ f bT A outer s H E hr=>have nd:=mH.nd;have hu:=hr.units;(ah (fx (i:=2) nd rfl (lo rfl) (aV ai)) (ah (cG PassesOwn.never rfl (dG rfl aU (cz rfl br cU (ak 0))) (aW (i:=3) nd rfl (lo rfl)) (au (ds_ext (i:=2) (pv 2) (bW rfl (di_j (dG rfl aU (cz rfl br cU (af (ay (ak 0) (ak 3)))))) (N':=["column", "hall", "group", "row"]) (n:=1) (is:=[0,1,3]) (ZS.lr.of (by kernel_rfl)) (ZS.bh (by decide)) (λ _ _ _ _ _ _=>(aW (i:=0) (show List.Nodup (["column", "hall", "group", "row"]:List Str)by decide +kernel) rfl (lo rfl))) (λ _ _ _ _ _=>(fg (dt_e (aq C_fits (hr.mono (by decide)) rfl (ae (av 1) (ae (av 2) (iq (cg (ae (av 3) (ae (av 0) ai))) ai))))))) (λ _ _ _ _ _=>(cg (ae (av 3) (ae (av 0) ai)))))))) (au (aO (bQ rfl aE cb (ak 2))))))
abbrev s_apart:Stmt:=top 14
abbrev n_apart:List Str:=["one", "here", "other", "there", "gap"]
abbrev p_apart:List Str:=["one", "here", "other", "there"]
theorem sc_apart:aF n_apart p_apart (aj s_apart):=⟨rfl,rfl,rfl,by decide +kernel,rfl,by decide +kernel,by decide +kernel⟩
abbrev T_apart(P:Program)(w:World)(K:PySem.W.Frag)(mg:Str->Option Value)(base:Heap):Prop:=ZS.jj P w K mg base "apart" 1 p_apart (KG.ny)
theorem ok_apart(d:ZS.Def K mg "apart" s_apart p_apart)(g_max:mg "max" = none){jz:Tok}(gE:mg "DEPTH" = some (.int 2 jz)){t_GAP:Tok}(c_GAP:mg "GAP" = some (.int 5 t_GAP)){jy:Tok}(gD:mg "WIDTH" = some (.int 1 jy)):T_apart P w K mg base :=
 dN (N:=n_apart) (b:=KG.jX) d sc_apart λ f bT A outer s H E hr=>have nd:=sc_apart.nd;have hu:=hr.units;(ah (e? (dtw (dt_or (bA ZS.c_le (af (aR (af (ay (ak 1) (af aa))) (af (ay (ak 0) (af (b_ rfl gE)))))) (af (ay (ak 3) (af aa))) (bD _)) (dt_or1 (bA ZS.c_le (af (aR (af (ay (ak 3) (af aa))) (af (ay (ak 2) (af (b_ rfl gE)))))) (af (ay (ak 1) (af aa))) (bD _))))) (au (aO jt)) b8) (ah (aH (i:=4) nd rfl (lo rfl) (de_max2 rfl g_max bb_max (af (ay (ak 0) (af (b_ rfl c_GAP)))) (af (ay (ak 2) (af (b_ rfl c_GAP)))))) (au (aO (de_or (fU ZS.c_le (af (aR (af (aR (af (ay (ak 1) (af aa))) (af (ay (ak 0) (af (b_ rfl gD)))))) (ak 4))) (af (ay (ak 3) (af aa))) (bD _)) (de_one (fU ZS.c_le (af (aR (af (aR (af (ay (ak 3) (af aa))) (af (ay (ak 2) (af (b_ rfl gD)))))) (ak 4))) (af (ay (ak 1) (af aa))) (bD _))))))))
abbrev f?:Stmt:=top 15
abbrev cX:List Str:=["groups", "seating"]
theorem iO:aF cX cX (aj f?):=⟨rfl,rfl,rfl,by decide +kernel,rfl,by decide +kernel,by decide +kernel⟩
abbrev eI(P:Program)(w:World)(K:PySem.W.Frag)(mg:Str->Option Value)(base:Heap):Prop:=ZS.jj P w K mg base "those_that_sit" 1 cX (KG.cM)
theorem mR(d:ZS.Def K mg "those_that_sit" f? cX)(j_:mg "zip" = none):eI P w K mg base :=
 dN (N:=cX) (b:=KG.eF) d iO λ f bT A outer s H E hr=>have nd:=iO.nd;have hu:=hr.units;(au (aO (nN (bW rfl (di_j (dj_zip rfl j_ (av 0) (av 1))) (N':=["group", "place"]) (n:=2) (is:=[]) (ZS.lr.of (by kernel_rfl)) (ZS.ee (by decide)) (λ _ _ _ _ _ _=>(eN rfl (aB (i:=0) (show List.Nodup (["group", "place"]:List Str)by decide +kernel) rfl (lo rfl) (aB (i:=1) (show List.Nodup (["group", "place"]:List Str)by decide +kernel) rfl (lo rfl) cf)) rfl)) (λ _ _ _ _ _=>(fg (dt_notN (ak 1)))) (λ _ _ _ _ _=>(cg (ae (av 0) (ae (av 1) ai))))))))
abbrev gb:Stmt:=top 16
abbrev cZ:List Str:=["group", "place", "seated"]
theorem iQ:aF cZ cZ (aj gb):=⟨rfl,rfl,rfl,by decide +kernel,rfl,by decide +kernel,by decide +kernel⟩
abbrev gv(P:Program)(w:World)(K:PySem.W.Frag)(mg:Str->Option Value)(base:Heap):Prop:=ZS.jj P w K mg base "apart_from_all" 2 cZ (KG.dE)
theorem mU(d:ZS.Def K mg "apart_from_all" gb cZ)(C_apart:T_apart P w K mg base)(g_all:mg "all" = none):gv P w K mg base :=
 dN (N:=cZ) (b:=KG.eG) d iQ λ f bT A outer s H E hr=>have nd:=iQ.nd;have hu:=hr.units;(au (aO (de_all rfl g_all bb_all (dJ (bW rfl (c6 (ak 2)) (N':=["other", "there", "group", "place"]) (n:=2) (is:=[0,1]) (ZS.lr.of (by kernel_rfl)) (ZS.ee (by decide)) (λ _ _ _ _ _ _=>(eN rfl (aB (i:=0) (show List.Nodup (["other", "there", "group", "place"]:List Str)by decide +kernel) rfl (lo rfl) (aB (i:=1) (show List.Nodup (["other", "there", "group", "place"]:List Str)by decide +kernel) rfl (lo rfl) cf)) rfl)) (λ _ _ _ _ _=>dP) (λ _ _ _ _ _=>(aq C_apart (hr.mono (by decide)) rfl (ae (av 2) (ae (av 3) (ae (av 0) (ae (av 1) ai)))))))))))
abbrev jI:Stmt:=top 17
abbrev m9:List Str:=["hall", "groups", "seating", "taken", "group", "place", "seat", "free", "row", "signs", "seats"]
abbrev jM:List Str:=["hall", "groups", "seating"]
theorem lO:aF m9 jM (aj jI):=⟨rfl,rfl,rfl,by decide +kernel,rfl,by decide +kernel,by decide +kernel⟩
abbrev j4(P:Program)(w:World)(K:PySem.W.Frag)(mg:Str->Option Value)(base:Heap):Prop:=ZS.jj P w K mg base "free_seats" 2 jM (KF.gC)
theorem ok_free_seats(d:ZS.Def K mg "free_seats" jI jM)(b9:gr P w K mg base)(cu:eI P w K mg base)(dW:mg "enumerate" = none)(aE:mg "tuple" = none):j4 P w K mg base :=
 dN (N:=m9) (b:=KF.ig) d lO λ f bT A outer s H E hr=>have nd:=lO.nd;have hu:=hr.units;(ah (ds_dic (i:=3) nd rfl (lo rfl)) (ah (cG PassesOwn.never rfl (jT (aq cu (hr.mono (by decide)) rfl (ae (av 1) (ae (av 2) ai)))) (eN rfl (aB (i:=4) nd rfl (lo rfl) (aB (i:=5) nd rfl (lo rfl) cf)) rfl) (au (cG PassesOwn.never rfl (jT (aq b9 (hr.mono (by decide)) rfl (ae (av 4) (ae (av 5) ai)))) (aW (i:=6) nd rfl (lo rfl)) (au (ds_dput hu (i:=3) (pv 3) (av 6)))))) (ah (fx (i:=7) nd rfl (lo rfl) (aV ai)) (nE (i:=3) (ah (cG PassesOwn.never rfl (nH rfl dW (av 0)) (eN rfl (aB (i:=8) nd rfl (lo rfl) (aB (i:=9) nd rfl (lo rfl) cf)) rfl) (ah (iU (i:=10) rfl nd rfl (lo rfl) (di_j (nH rfl dW (av 9))) (N':=["column", "sign", "row"]) (n:=2) (is:=[8]) (ZS.lr.of (by kernel_rfl)) (ZS.ee (by decide)) (λ _ _ _ _ _ _=>(eN rfl (aB (i:=0) (show List.Nodup (["column", "sign", "row"]:List Str)by decide +kernel) rfl (lo rfl) (aB (i:=1) (show List.Nodup (["column", "sign", "row"]:List Str)by decide +kernel) rfl (lo rfl) cf)) rfl)) (λ _ _ _ _ _=>(fg (bA (ZS.c_ne hu) (ak 1) (af (c8 (by decide +kernel))) (bD _)))) (λ _ _ _ _ _=>(cg (ae (av 2) (ae (av 0) ai))))) (au (ds_ext (i:=7) (pv 7) (bW rfl (c6 (ak 10)) (N':=["seat", "taken"]) (n:=1) (is:=[3]) (ZS.lr.of (by kernel_rfl)) (ZS.bh (by decide)) (λ _ _ _ _ _ _=>(aW (i:=0) (show List.Nodup (["seat", "taken"]:List Str)by decide +kernel) rfl (lo rfl))) (λ _ _ _ _ _=>(fg (dt_ninD hu (av 0) (pv 1)))) (λ _ _ _ _ _=>(av 0))))))) (au (aO (bQ rfl aE cb (ak 7)))))))))
abbrev jE:Stmt:=top 19
abbrev fN:List Str:=["places", "group", "seated"]
theorem lK:aF fN fN (aj jE):=⟨rfl,rfl,rfl,by decide +kernel,rfl,by decide +kernel,by decide +kernel⟩
abbrev jY(P:Program)(w:World)(K:PySem.W.Frag)(mg:Str->Option Value)(base:Heap):Prop:=ZS.jj P w K mg base "open_among" 3 fN (KH.e!)
theorem ok_open_among(d:ZS.Def K mg "open_among" jE fN)(gA:gv P w K mg base)(aE:mg "tuple" = none):jY P w K mg base :=
 dN (N:=fN) (b:=KH.h_) d lK λ f bT A outer s H E hr=>have nd:=lK.nd;have hu:=hr.units;(au (aO (bQ rfl aE cb (dJ (bW rfl (c6 (ak 0)) (N':=["place", "group", "seated"]) (n:=1) (is:=[1,2]) (ZS.lr.of (by kernel_rfl)) (ZS.bh (by decide)) (λ _ _ _ _ _ _=>(aW (i:=0) (show List.Nodup (["place", "group", "seated"]:List Str)by decide +kernel) rfl (lo rfl))) (λ _ _ _ _ _=>(fg (dt_e (aq gA (hr.mono (by decide)) rfl (ae (av 1) (ae (av 0) (ae (av 2) ai))))))) (λ _ _ _ _ _=>(av 0)))))))
abbrev kI:Stmt:=top 21
abbrev n_all_users:List Str:=["hall", "groups", "seating", "coming", "seated", "found", "k", "group"]
abbrev kO:List Str:=["hall", "groups", "seating", "coming"]
theorem mM:aF n_all_users kO (aj kI):=⟨rfl,rfl,rfl,by decide +kernel,rfl,by decide +kernel,by decide +kernel⟩
abbrev i4(P:Program)(w:World)(K:PySem.W.Frag)(mg:Str->Option Value)(base:Heap):Prop:=ZS.jj P w K mg base "all_users" 4 kO (KN.fS)
theorem ok_all_users(d:ZS.Def K mg "all_users" kI kO)(j6:jY P w K mg base)(lh:k7 P w K mg base)(cu:eI P w K mg base)(dW:mg "enumerate" = none):i4 P w K mg base :=
 dN (N:=n_all_users) (b:=KN.iZ) d mM λ f bT A outer s H E hr=>have nd:=mM.nd;have hu:=hr.units;(ah (aH (i:=4) nd rfl (lo rfl) (aq cu (hr.mono (by decide)) rfl (ae (av 1) (ae (av 2) ai)))) (ah (fx (i:=5) nd rfl (lo rfl) (aV ai)) (ah (cG PassesOwn.never rfl (nH rfl dW (av 3)) (eN rfl (aB (i:=6) nd rfl (lo rfl) (aB (i:=7) nd rfl (lo rfl) cf)) rfl) (au (ds_ext (i:=5) (pv 5) (bW rfl (c6 (af (aq j6 (hr.mono (by decide)) rfl (b7 (aq lh (hr.mono (by decide)) rfl (ae (av 0) (ae (av 7) ai))) (ae (av 7) (ae (av 4) ai)))))) (N':=["place", "k"]) (n:=1) (is:=[6]) (ZS.lr.of (by kernel_rfl)) (ZS.bh (by decide)) (λ _ _ _ _ _ _=>(aW (i:=0) (show List.Nodup (["place", "k"]:List Str)by decide +kernel) rfl (lo rfl))) (λ _ _ _ _ _=>dP) (λ _ _ _ _ _=>(cg (ae (av 1) (ae (av 0) ai)))))))) (iT (i:=5) (au (aO (av 5)))))))
abbrev s_users:Stmt:=top 22
abbrev n_users:List Str:=["hall", "groups", "seating", "coming", "seat", "found"]
abbrev p_users:List Str:=["hall", "groups", "seating", "coming", "seat"]
theorem sc_users:aF n_users p_users (aj s_users):=⟨rfl,rfl,rfl,by decide +kernel,rfl,by decide +kernel,by decide +kernel⟩
abbrev T_users(P:Program)(w:World)(K:PySem.W.Frag)(mg:Str->Option Value)(base:Heap):Prop:=ZS.jj P w K mg base "users" 5 p_users (dX)
theorem ok_users(d:ZS.Def K mg "users" s_users p_users)(fE:i4 P w K mg base)(b9:gr P w K mg base)(aE:mg "tuple" = none):T_users P w K mg base :=
 dN (N:=n_users) (b:=b_users) d sc_users λ f bT A outer s H E hr=>have nd:=sc_users.nd;have hu:=hr.units;(ah (aH (i:=5) nd rfl (lo rfl) (aq fE (hr.mono (by decide)) rfl (ae (av 0) (ae (av 1) (ae (av 2) (ae (av 3) ai)))))) (au (aO (bQ rfl aE cb (dJ (bW rfl (c6 (ak 5)) (N':=["k", "place", "seat", "coming"]) (n:=2) (is:=[4,3]) (ZS.lr.of (by kernel_rfl)) (ZS.ee (by decide)) (λ _ _ _ _ _ _=>(eN rfl (aB (i:=0) (show List.Nodup (["k", "place", "seat", "coming"]:List Str)by decide +kernel) rfl (lo rfl) (aB (i:=1) (show List.Nodup (["k", "place", "seat", "coming"]:List Str)by decide +kernel) rfl (lo rfl) cf)) rfl)) (λ _ _ _ _ _=>(fg (bA (ZS.c_in hu) (ak 2) (af (aq b9 (hr.mono (by decide)) rfl (cN (ay (ak 3) (ak 0)) (ae (av 1) ai)))) (by with_unfolding_all rfl)))) (λ _ _ _ _ _=>(cg (ae (av 0) (ae (av 1) ai))))))))))
abbrev s_holes:Stmt:=top 23
abbrev n_holes:List Str:=["hall", "groups", "seating", "coming", "used", "k", "place", "seat"]
abbrev p_holes:List Str:=["hall", "groups", "seating", "coming"]
theorem sc_holes:aF n_holes p_holes (aj s_holes):=⟨rfl,rfl,rfl,by decide +kernel,rfl,by decide +kernel,by decide +kernel⟩
abbrev T_holes(P:Program)(w:World)(K:PySem.W.Frag)(mg:Str->Option Value)(base:Heap):Prop:=ZS.jj P w K mg base "holes" 5 p_holes (fR)
theorem ok_holes(d:ZS.Def K mg "holes" s_holes p_holes)(fE:i4 P w K mg base)(j9:j4 P w K mg base)(b9:gr P w K mg base)(aE:mg "tuple" = none):T_holes P w K mg base :=
 dN (N:=n_holes) (b:=b_holes) d sc_holes λ f bT A outer s H E hr=>have nd:=sc_holes.nd;have hu:=hr.units;(ah (ds_dic (i:=4) nd rfl (lo rfl)) (ah (cG PassesOwn.never rfl (jT (aq fE (hr.mono (by decide)) rfl (ae (av 0) (ae (av 1) (ae (av 2) (ae (av 3) ai)))))) (eN rfl (aB (i:=5) nd rfl (lo rfl) (aB (i:=6) nd rfl (lo rfl) cf)) rfl) (au (cG PassesOwn.never rfl (jT (aq b9 (hr.mono (by decide)) rfl (cN (ay (ak 3) (ak 5)) (ae (av 6) ai)))) (aW (i:=7) nd rfl (lo rfl)) (au (ds_dput hu (i:=4) (pv 4) (av 7)))))) (nE (i:=4) (au (aO (bQ rfl aE cb (dJ (bW rfl (c6 (af (aq j9 (hr.mono (by decide)) rfl (ae (av 0) (ae (av 1) (ae (av 2) ai)))))) (N':=["seat", "used"]) (n:=1) (is:=[4]) (ZS.lr.of (by kernel_rfl)) (ZS.bh (by decide)) (λ _ _ _ _ _ _=>(aW (i:=0) (show List.Nodup (["seat", "used"]:List Str)by decide +kernel) rfl (lo rfl))) (λ _ _ _ _ _=>(fg (dt_ninD hu (av 0) (pv 1)))) (λ _ _ _ _ _=>(av 0))))))))))
abbrev lZ:Stmt:=top 25
abbrev iz:List Str:=["hall"]
theorem sc_mirrored:aF iz iz (aj lZ):=⟨rfl,rfl,rfl,by decide +kernel,rfl,by decide +kernel,by decide +kernel⟩
abbrev ml(P:Program)(w:World)(K:PySem.W.Frag)(mg:Str->Option Value)(base:Heap):Prop:=ZS.jj P w K mg base "mirrored" 1 iz (fB)
theorem ok_mirrored(d:ZS.Def K mg "mirrored" lZ iz)(aE:mg "tuple" = none):ml P w K mg base :=
 dN (N:=iz) (b:=jW) d sc_mirrored λ f bT A outer s H E hr=>have nd:=sc_mirrored.nd;have hu:=hr.units;(au (aO (bQ rfl aE cb (dJ (bW rfl (c6 (ak 0)) (N':=["row"]) (n:=1) (is:=[]) (ZS.lr.of (by kernel_rfl)) (ZS.bh (by decide)) (λ _ _ _ _ _ _=>(aW (i:=0) (show List.Nodup (["row"]:List Str)by decide +kernel) rfl (lo rfl))) (λ _ _ _ _ _=>dP) (λ _ _ _ _ _=>(de_rev (ak 0))))))))
abbrev s_turned:Stmt:=top 26
abbrev kQ:List Str:=["hall"]
theorem sc_turned:aF kQ kQ (aj s_turned):=⟨rfl,rfl,rfl,by decide +kernel,rfl,by decide +kernel,by decide +kernel⟩
abbrev T_turned(P:Program)(w:World)(K:PySem.W.Frag)(mg:Str->Option Value)(base:Heap):Prop:=ZS.jj P w K mg base "turned" 1 kQ (ip)
theorem ok_turned(d:ZS.Def K mg "turned" s_turned kQ): T_turned P w K mg base :=
 dN (N:=kQ) (b:=nS) d sc_turned λ f bT A outer s H E hr=>have nd:=sc_turned.nd;have hu:=hr.units;(au (aO (de_rev (ak 0))))
abbrev f_:Stmt:=top 27
abbrev cY:List Str:=["hall", "group", "place"]
theorem iP:aF cY cY (aj f_):=⟨rfl,rfl,rfl,by decide +kernel,rfl,by decide +kernel,by decide +kernel⟩
abbrev gu(P:Program)(w:World)(K:PySem.W.Frag)(mg:Str->Option Value)(base:Heap):Prop:=ZS.jj P w K mg base "mirrored_place" 1 cY (dD)
theorem mS(d:ZS.Def K mg "mirrored_place" f_ cY)(br:mg "len" = none){jy:Tok}(gD:mg "WIDTH" = some (.int 1 jy)):gu P w K mg base :=
 dN (N:=cY) (b:=c!) d iP λ f bT A outer s H E hr=>have nd:=iP.nd;have hu:=hr.units;(ah (e? (dt_isN (ak 2)) (au (aO de_non)) b8) (au (aO (cg (cN (ay (ak 2) (af aa)) (ba (c7 (af (c7 (af (cz rfl br cU (af (ay (ak 0) (af aa))))) (af (ay (ak 2) (af aa))))) (af (ay (ak 1) (af (b_ rfl gD))))) ai))))))
abbrev jD:Stmt:=top 28
abbrev fM:List Str:=["hall", "group", "row"]
theorem lJ:aF fM fM (aj jD):=⟨rfl,rfl,rfl,by decide +kernel,rfl,by decide +kernel,by decide +kernel⟩
abbrev ij(P:Program)(w:World)(K:PySem.W.Frag)(mg:Str->Option Value)(base:Heap):Prop:=ZS.jj P w K mg base "turned_row" 1 fM (eZ)
theorem ok_turned_row(d:ZS.Def K mg "turned_row" jD fM)(br:mg "len" = none){jz:Tok}(gE:mg "DEPTH" = some (.int 2 jz)):ij P w K mg base :=
 dN (N:=fM) (b:=h!) d lJ λ f bT A outer s H E hr=>have nd:=lJ.nd;have hu:=hr.units;(au (aO (c7 (af (c7 (af (cz rfl br cU (ak 0))) (ak 2))) (af (ay (ak 1) (af (b_ rfl gE)))))))
abbrev iv:Stmt:=top 29
abbrev dS:List Str:=["hall", "group", "place"]
theorem j!:aF dS dS (aj iv):=⟨rfl,rfl,rfl,by decide +kernel,rfl,by decide +kernel,by decide +kernel⟩
abbrev iE(P:Program)(w:World)(K:PySem.W.Frag)(mg:Str->Option Value)(base:Heap):Prop:=ZS.jj P w K mg base "turned_place" 2 dS (fi)
theorem ok_turned_place(d:ZS.Def K mg "turned_place" iv dS)(eJ:ij P w K mg base):iE P w K mg base :=
 dN (N:=dS) (b:=d?) d j! λ f bT A outer s H E hr=>have nd:=j!.nd;have hu:=hr.units;(ah (e? (dt_isN (ak 2)) (au (aO de_non)) b8) (au (aO (cg (b7 (aq eJ (hr.mono (by decide)) rfl (ae (av 0) (ae (av 1) (cN (ay (ak 2) (af aa)) ai)))) (cN (ay (ak 2) (af aa)) ai))))))
abbrev fu:Stmt:=top 30
abbrev cw:List Str:=["hall", "groups", "seating"]
theorem hJ:aF cw cw (aj fu):=⟨rfl,rfl,rfl,by decide +kernel,rfl,by decide +kernel,by decide +kernel⟩
abbrev fy(P:Program)(w:World)(K:PySem.W.Frag)(mg:Str->Option Value)(base:Heap):Prop:=ZS.jj P w K mg base "mirrored_seating" 2 cw (b!)
theorem lE(d:ZS.Def K mg "mirrored_seating" fu cw)(gz:gu P w K mg base)(aE:mg "tuple" = none)(j_:mg "zip" = none):fy P w K mg base :=
 dN (N:=cw) (b:=di) d hJ λ f bT A outer s H E hr=>have nd:=hJ.nd;have hu:=hr.units;(au (aO (bQ rfl aE cb (dJ (bW rfl (di_j (dj_zip rfl j_ (av 1) (av 2))) (N':=["group", "place", "hall"]) (n:=2) (is:=[0]) (ZS.lr.of (by kernel_rfl)) (ZS.ee (by decide)) (λ _ _ _ _ _ _=>(eN rfl (aB (i:=0) (show List.Nodup (["group", "place", "hall"]:List Str)by decide +kernel) rfl (lo rfl) (aB (i:=1) (show List.Nodup (["group", "place", "hall"]:List Str)by decide +kernel) rfl (lo rfl) cf)) rfl)) (λ _ _ _ _ _=>dP) (λ _ _ _ _ _=>(aq gz (hr.mono (by decide)) rfl (ae (av 2) (ae (av 0) (ae (av 1) ai))))))))))
abbrev f':Stmt:=top 31
abbrev cW:List Str:=["hall", "groups", "seating"]
theorem iN:aF cW cW (aj f'):=⟨rfl,rfl,rfl,by decide +kernel,rfl,by decide +kernel,by decide +kernel⟩
abbrev gq(P:Program)(w:World)(K:PySem.W.Frag)(mg:Str->Option Value)(base:Heap):Prop:=ZS.jj P w K mg base "turned_seating" 3 cW (cL)
theorem mQ(d:ZS.Def K mg "turned_seating" f' cW)(iH:iE P w K mg base)(aE:mg "tuple" = none)(j_:mg "zip" = none):gq P w K mg base :=
 dN (N:=cW) (b:=eD) d iN λ f bT A outer s H E hr=>have nd:=iN.nd;have hu:=hr.units;(au (aO (bQ rfl aE cb (dJ (bW rfl (di_j (dj_zip rfl j_ (av 1) (av 2))) (N':=["group", "place", "hall"]) (n:=2) (is:=[0]) (ZS.lr.of (by kernel_rfl)) (ZS.ee (by decide)) (λ _ _ _ _ _ _=>(eN rfl (aB (i:=0) (show List.Nodup (["group", "place", "hall"]:List Str)by decide +kernel) rfl (lo rfl) (aB (i:=1) (show List.Nodup (["group", "place", "hall"]:List Str)by decide +kernel) rfl (lo rfl) cf)) rfl)) (λ _ _ _ _ _=>dP) (λ _ _ _ _ _=>(aq iH (hr.mono (by decide)) rfl (ae (av 2) (ae (av 0) (ae (av 1) ai))))))))))
abbrev iw:Stmt:=top 32
abbrev kP:List Str:=["hall", "group", "wishes"]
abbrev ix:List Str:=["hall", "group"]
theorem j?:aF kP ix (aj iw):=⟨rfl,rfl,rfl,by decide +kernel,rfl,by decide +kernel,by decide +kernel⟩
abbrev iF(P:Program)(w:World)(K:PySem.W.Frag)(mg:Str->Option Value)(base:Heap):Prop:=ZS.jj P w K mg base "turned_group" 2 ix (fj)
theorem ok_turned_group(d:ZS.Def K mg "turned_group" iw ix)(eJ:ij P w K mg base)(fQ:mg "sorted" = none)(aE:mg "tuple" = none){t_WISHES:Tok}(nQ:mg "WISHES" = some (.int 7 t_WISHES)):iF P w K mg base :=
 dN (N:=kP) (b:=fV) d j? λ f bT A outer s H E hr=>have nd:=j?.nd;have hu:=hr.units;(ah (iU (i:=2) rfl nd rfl (lo rfl) (c6 (af (ay (ak 1) (af (b_ rfl nQ))))) (N':=["row", "more", "hall", "group"]) (n:=2) (is:=[0,1]) (ZS.lr.of (by kernel_rfl)) (ZS.ee (by decide)) (λ _ _ _ _ _ _=>(eN rfl (aB (i:=0) (show List.Nodup (["row", "more", "hall", "group"]:List Str)by decide +kernel) rfl (lo rfl) (aB (i:=1) (show List.Nodup (["row", "more", "hall", "group"]:List Str)by decide +kernel) rfl (lo rfl) cf)) rfl)) (λ _ _ _ _ _=>dP) (λ _ _ _ _ _=>(cg (b7 (aq eJ (hr.mono (by decide)) rfl (ae (av 2) (ae (av 3) (ae (av 0) ai)))) (ae (av 1) ai))))) (au (aO (aR (af (kY (ak 1) dp_no (iV (af (b_ rfl nQ))))) (af (cg (b7 (bQ rfl aE cb (dJ (dl_sortP rfl fQ bb_sorted (dJ (bW rfl (c6 (ak 2)) (N':=["wish"]) (n:=1) (is:=[]) (ZS.lr.of (by kernel_rfl)) (ZS.bh (by decide)) (λ _ _ _ _ _ _=>(aW (i:=0) (show List.Nodup (["wish"]:List Str)by decide +kernel) rfl (lo rfl))) (λ _ _ _ _ _=>(fg (bA ZS.c_ge (af (ay (ak 0) (af aa))) (af aa) (bD _)))) (λ _ _ _ _ _=>(av 0))))))) ai)))))))
abbrev gU:Stmt:=top 33
abbrev dk:List Str:=["hall", "groups"]
theorem jl:aF dk dk (aj gU):=⟨rfl,rfl,rfl,by decide +kernel,rfl,by decide +kernel,by decide +kernel⟩
abbrev g!(P:Program)(w:World)(K:PySem.W.Frag)(mg:Str->Option Value)(base:Heap):Prop:=ZS.jj P w K mg base "turned_groups" 3 dk (bS)
theorem ok_turned_groups(d:ZS.Def K mg "turned_groups" gU dk)(iI:iF P w K mg base)(aE:mg "tuple" = none):g! P w K mg base :=
 dN (N:=dk) (b:=fm) d jl λ f bT A outer s H E hr=>have nd:=jl.nd;have hu:=hr.units;(au (aO (bQ rfl aE cb (dJ (bW rfl (c6 (ak 1)) (N':=["group", "hall"]) (n:=1) (is:=[0]) (ZS.lr.of (by kernel_rfl)) (ZS.bh (by decide)) (λ _ _ _ _ _ _=>(aW (i:=0) (show List.Nodup (["group", "hall"]:List Str)by decide +kernel) rfl (lo rfl))) (λ _ _ _ _ _=>dP) (λ _ _ _ _ _=>(aq iI (hr.mono (by decide)) rfl (ae (av 1) (ae (av 0) ai)))))))))
abbrev i?:Stmt:=top 35
abbrev eS:List Str:=["_law_script", "_law_k"]
theorem kC:aF eS eS (aj i?):=⟨rfl,rfl,rfl,by decide +kernel,rfl,by decide +kernel,by decide +kernel⟩
abbrev dA(P:Program)(w:World)(K:PySem.W.Frag)(mg:Str->Option Value)(base:Heap):Prop:=ZS.jj P w K mg base "_law_cell_at" 1 eS (KG.aS)
theorem ok_law_cell_at(d:ZS.Def K mg "_law_cell_at" i? eS)(br:mg "len" = none):dA P w K mg base :=
 dN (N:=eS) (b:=KG.ff) d kC λ f bT A outer s H E hr=>have nd:=kC.nd;have hu:=hr.units;(ah (e? (bA ZS.c_lt (ak 1) (af (cz rfl br cU (ak 0))) (bD _)) (au (aO (ay (ak 0) (ak 1)))) b8) (au (aO aa)))
abbrev kF:Stmt:=top 36
abbrev n_law_mixed:List Str:=["_law_cell", "_law_many", "_law_number", "_law_found", "_law_k"]
abbrev kL:List Str:=["_law_cell", "_law_many"]
theorem mJ:aF n_law_mixed kL (aj kF):=⟨rfl,rfl,rfl,by decide +kernel,rfl,by decide +kernel,by decide +kernel⟩
abbrev fD(P:Program)(w:World)(K:PySem.W.Frag)(mg:Str->Option Value)(base:Heap):Prop:=ZS.jj P w K mg base "_law_mixed" 1 kL (KM.bJ)
theorem ok_law_mixed(d:ZS.Def K mg "_law_mixed" kF kL)(aU:mg "range" = none):fD P w K mg base :=
 dN (N:=n_law_mixed) (b:=KM.gP) d mJ λ f bT A outer s H E hr=>have nd:=mJ.nd;have hu:=hr.units;(ah (aH (i:=2) nd rfl (lo rfl) (aR (af aa) (af (bo (ak 0) (af aa))))) (ah (fx (i:=3) nd rfl (lo rfl) (aV ai)) (ah (cG PassesOwn.never rfl (dG rfl aU (av 1)) (aW (i:=4) nd rfl (lo rfl)) (ah (aH (i:=2) nd rfl (lo rfl) (bo (af (c9 (ak 2) (af aa))) (af aa))) (au (jb (i:=3) (pv 3) (bo (af (c9 (af (bo (af (c9 (af (aR (ak 2) (af aa))) (af aa))) (af aa))) (af aa))) (af aa)))))) (iT (i:=3) (au (aO (av 3)))))))
abbrev jH:Stmt:=top 37
abbrev mZ:List Str:=["_law_cell", "_law_sizes", "_law_found", "_law_size"]
abbrev jL:List Str:=["_law_cell", "_law_sizes"]
theorem lN:aF mZ jL (aj jH):=⟨rfl,rfl,rfl,by decide +kernel,rfl,by decide +kernel,by decide +kernel⟩
abbrev fY(P:Program)(w:World)(K:PySem.W.Frag)(mg:Str->Option Value)(base:Heap):Prop:=ZS.jj P w K mg base "_law_digits" 1 jL (KH.bV)
theorem ok_law_digits(d:ZS.Def K mg "_law_digits" jH jL): fY P w K mg base :=
 dN (N:=mZ) (b:=KH.ie) d lN λ f bT A outer s H E hr=>have nd:=lN.nd;have hu:=hr.units;(ah (fx (i:=2) nd rfl (lo rfl) (aV ai)) (ah (cG PassesOwn.never rfl (jT (av 1)) (aW (i:=3) nd rfl (lo rfl)) (ah (jb (i:=2) (pv 2) (bo (ak 0) (ak 3))) (au (aH (i:=0) nd rfl (lo rfl) (cj (ak 0) (ak 3)))))) (iT (i:=2) (au (aO (av 2))))))
abbrev kE:Stmt:=top 38
abbrev n_law_names:List Str:=["_law_cell", "_law_many", "_law_letters_here", "_law_size", "_law_at", "_law_step", "_law_names_here", "_law_k", "_law_name", "_law_j", "_law_turn"]
abbrev kK:List Str:=["_law_cell", "_law_many"]
theorem mI:aF n_law_names kK (aj kE):=⟨rfl,rfl,rfl,by decide +kernel,rfl,by decide +kernel,by decide +kernel⟩
abbrev k8(P:Program)(w:World)(K:PySem.W.Frag)(mg:Str->Option Value)(base:Heap):Prop:=ZS.jj P w K mg base "_law_names" 1 kK (KN.eA)
theorem ok_law_names(d:ZS.Def K mg "_law_names" kE kK)(nr:mg "int" = none)(aU:mg "range" = none):k8 P w K mg base :=
 dN (N:=n_law_names) (b:=KN.gO) d mI λ f bT A outer s H E hr=>have nd:=mI.nd;have hu:=hr.units;(ah (aH (i:=2) nd rfl (lo rfl) (c8 (by decide +kernel))) (ah (aH (i:=3) nd rfl (lo rfl) (aR (af aa) (af (bo (ak 0) (af aa))))) (ah (aH (i:=4) nd rfl (lo rfl) (bo (af (cj (ak 0) (af aa))) (ak 3))) (ah (aH (i:=5) nd rfl (lo rfl) (ay (dJ (aV (ag aa (ag aa (ag aa (ag aa (ag aa (ag aa ai)))))))) (af (bo (af (cj (ak 0) (af aa))) (af aa))))) (ah (fx (i:=6) nd rfl (lo rfl) (aV ai)) (ah (cG PassesOwn.never rfl (dG rfl aU (av 1)) (aW (i:=7) nd rfl (lo rfl)) (ah (aH (i:=8) nd rfl (lo rfl) (c8 (by decide +kernel))) (ah (cG PassesOwn.never rfl (dG rfl aU (av 3)) (aW (i:=9) nd rfl (lo rfl)) (ah (aH (i:=10) nd rfl (lo rfl) (c9 (af (c9 (ak 5) (ak 7))) (af (nO rfl nr bb_int (af (fU (ZS.c_eq hu) (ak 9) (ak 4) (bD _))))))) (au (aH (i:=8) nd rfl (lo rfl) (aR (ak 8) (af (ay (ak 2) (af (bo (af (aR (af (cj (ak 0) (af (aR (af aa) (af (c9 (af (c9 (af aa) (ak 9))) (ak 9))))))) (ak 10))) (af aa)))))))))) (au (jb (i:=6) (pv 6) (av 8)))))) (iT (i:=6) (au (aO (av 6))))))))))
abbrev i':Stmt:=top 39
abbrev lR:List Str:=["_law_cell", "_law_letters_here"]
abbrev ja:List Str:=["_law_cell"]
theorem kA:aF lR ja (aj i'):=⟨rfl,rfl,rfl,by decide +kernel,rfl,by decide +kernel,by decide +kernel⟩
abbrev gH(P:Program)(w:World)(K:PySem.W.Frag)(mg:Str->Option Value)(base:Heap):Prop:=ZS.jj P w K mg base "_law_letters" 1 ja (KM.d7)
theorem ok_law_letters(d:ZS.Def K mg "_law_letters" i' ja): gH P w K mg base :=
 dN (N:=lR) (b:=KM.gF) d kA λ f bT A outer s H E hr=>have nd:=kA.nd;have hu:=hr.units;(ah (aH (i:=1) nd rfl (lo rfl) (c8 (by decide +kernel))) (au (aO (aR (af (ay (ak 1) (af (bo (ak 0) (af aa))))) (af (ay (ak 1) (af (bo (af (aR (af (aR (ak 0) (af aa))) (af (bo (af (cj (ak 0) (af aa))) (af aa))))) (af aa)))))))))
abbrev l4:Stmt:=top 40
abbrev n_law_hall:List Str:=["_law_script", "_law_way", "_law_many", "_law_columns", "_law_rest", "_law_signs", "_law_numbers", "_law_rows", "_law_r"]
abbrev l9:List Str:=["_law_script"]
theorem sc_law_hall:aF n_law_hall l9 (aj l4):=⟨rfl,rfl,rfl,by decide +kernel,rfl,by decide +kernel,by decide +kernel⟩
abbrev mn(P:Program)(w:World)(K:PySem.W.Frag)(mg:Str->Option Value)(base:Heap):Prop:=ZS.jj P w K mg base "_law_hall" 2 l9 (KM.gM)
theorem ok_law_hall(d:ZS.Def K mg "_law_hall" l4 l9)(aP:dA P w K mg base)(bL:fY P w K mg base)(dB:gH P w K mg base)(bM:fD P w K mg base)(aU:mg "range" = none)(aE:mg "tuple" = none):mn P w K mg base :=
 dN (N:=n_law_hall) (b:=KM.gj) d sc_law_hall λ f bT A outer s H E hr=>have nd:=sc_law_hall.nd;have hu:=hr.units;(ah (ds_get (aq bL (hr.mono (by decide)) rfl (b7 (aq aP (hr.mono (by decide)) rfl (ae (av 0) (ag aa ai))) (k5 (nN (aV (ag aa (ag aa (ag aa (ba (kZ (af aa) (af aa)) ai)))))) ai))) (dg_seq rfl (aB (i:=1) nd rfl (lo rfl) (aB (i:=2) nd rfl (lo rfl) (aB (i:=3) nd rfl (lo rfl) (aB (i:=4) nd rfl (lo rfl) cf)))) rfl)) (ah (aH (i:=2) nd rfl (lo rfl) (aR (ak 2) (af aa))) (ah (aH (i:=3) nd rfl (lo rfl) (aR (ak 3) (af aa))) (ah (aH (i:=5) nd rfl (lo rfl) (c8 (by decide +kernel))) (ah (aH (i:=6) nd rfl (lo rfl) (aq bL (hr.mono (by decide)) rfl (b7 (aq aP (hr.mono (by decide)) rfl (ae (av 0) (ag aa ai))) (ba (nN (dl_rep (aV (ag aa ai)) (af (c9 (ak 2) (ak 3))))) ai)))) (ah (e? (bA (ZS.c_eq hu) (ak 1) (af aa) (bD _)) (ah (aH (i:=2) nd rfl (lo rfl) (ay (dJ (aV (ag aa (ag aa (ag aa (ag aa (ag aa (ag aa ai)))))))) (af (c7 (ak 2) (af aa))))) (ah (aH (i:=3) nd rfl (lo rfl) (ay (dJ (aV (ag aa (ag aa (ag aa (ag aa (ag aa (ag aa (ag aa (ag aa (ag aa (ag aa (ag aa (ag aa ai)))))))))))))) (af (c7 (ak 3) (af aa))))) (ah (aH (i:=5) nd rfl (lo rfl) (aR (af (c8 (by decide +kernel))) (af (aq dB (hr.mono (by decide)) rfl (ae (av 4) ai))))) (au (iU (i:=6) rfl nd rfl (lo rfl) (c6 (af (aq bM (hr.mono (by decide)) rfl (b7 (aq aP (hr.mono (by decide)) rfl (ae (av 0) (ag aa ai))) (ba (c9 (ak 2) (ak 3)) ai))))) (N':=["_law_number"]) (n:=1) (is:=[]) (ZS.lr.of (by kernel_rfl)) (ZS.bh (by decide)) (λ _ _ _ _ _ _=>(aW (i:=0) (show List.Nodup (["_law_number"]:List Str)by decide +kernel) rfl (lo rfl))) (λ _ _ _ _ _=>dP) (λ _ _ _ _ _=>(bo (af (cj (ak 0) (af aa))) (af aa)))))))) b8) (ah (fx (i:=7) nd rfl (lo rfl) (aV ai)) (ah (cG PassesOwn.never rfl (dG rfl aU (av 2)) (aW (i:=8) nd rfl (lo rfl)) (au (jb (i:=7) (pv 7) (de_join (c8 (by decide +kernel)) (dJ (bW rfl (c6 (dJ (jr (ak 6) (iV (af (c9 (ak 8) (ak 3)))) (iV (af (c9 (af (aR (ak 8) (af aa))) (ak 3))))))) (N':=["_law_number", "_law_signs"]) (n:=1) (is:=[5]) (ZS.lr.of (by kernel_rfl)) (ZS.bh (by decide)) (λ _ _ _ _ _ _=>(aW (i:=0) (show List.Nodup (["_law_number", "_law_signs"]:List Str)by decide +kernel) rfl (lo rfl))) (λ _ _ _ _ _=>dP) (λ _ _ _ _ _=>(ay (ak 1) (ak 0))))))))) (au (aO (bQ rfl aE cb (ak 7))))))))))))
abbrev s_law_any:Stmt:=top 41
abbrev n_law_any:List Str:=["_law_name", "_law_cell", "_law_width", "_law_depth", "_law_kind", "_law_gap", "_law_bits", "_law_wide", "_law_sums", "_law_wishes"]
abbrev p_law_any:List Str:=["_law_name", "_law_cell"]
theorem sc_law_any:aF n_law_any p_law_any (aj s_law_any):=⟨rfl,rfl,rfl,by decide +kernel,rfl,by decide +kernel,by decide +kernel⟩
abbrev T_law_any(P:Program)(w:World)(K:PySem.W.Frag)(mg:Str->Option Value)(base:Heap):Prop:=ZS.jj P w K mg base "_law_any" 2 p_law_any (KN.jQ)
theorem ok_law_any(d:ZS.Def K mg "_law_any" s_law_any p_law_any)(bL:fY P w K mg base)(nr:mg "int" = none)(aU:mg "range" = none)(aE:mg "tuple" = none):T_law_any P w K mg base :=
 dN (N:=n_law_any) (b:=KN.ju) d sc_law_any λ f bT A outer s H E hr=>have nd:=sc_law_any.nd;have hu:=hr.units;(ah (ds_get (aq bL (hr.mono (by decide)) rfl (ae (av 1) (k5 (nN (aV (ag aa (ag aa (ag aa (ag aa (ag aa (ag aa ai)))))))) ai))) (dg_seq rfl (aB (i:=2) nd rfl (lo rfl) (aB (i:=3) nd rfl (lo rfl) (aB (i:=4) nd rfl (lo rfl) (aB (i:=5) nd rfl (lo rfl) (aB (i:=6) nd rfl (lo rfl) (aB (i:=7) nd rfl (lo rfl) cf)))))) rfl)) (ah (aH (i:=8) nd rfl (lo rfl) (aq bL (hr.mono (by decide)) rfl (ba (cj (ak 1) (af aa)) (ba (nN (dl_cat (dJ (aV (ba (kZ (af aa) (af aa)) ai))) (dJ (dl_rep (aV (ba (c7 (af (kZ (af aa) (af aa))) (af aa)) ai)) (af aa))))) ai)))) (ah (aH (i:=7) nd rfl (lo rfl) (bo (ak 7) (af (aR (af (c9 (af (aR (ak 2) (af aa))) (af (aR (ak 3) (af aa))))) (af aa))))) (ah (aH (i:=4) nd rfl (lo rfl) (ay (dJ (aV (ag (c8 (by decide +kernel)) (cN (ay (af (c8 (by decide +kernel))) (af (c7 (ak 4) (af aa)))) ai)))) (af (nO rfl nr bb_int (af (fU ZS.c_gt (ak 4) (af aa) (bD _))))))) (ah (iU (i:=9) rfl nd rfl (lo rfl) (di_j (dG rfl aU aa)) (N':=["_law_r", "_law_bits", "_law_sums"]) (n:=1) (is:=[6,8]) (ZS.lr.of (by kernel_rfl)) (ZS.bh (by decide)) (λ _ _ _ _ _ _=>(aW (i:=0) (show List.Nodup (["_law_r", "_law_bits", "_law_sums"]:List Str)by decide +kernel) rfl (lo rfl))) (λ _ _ _ _ _=>(fg (bA (ZS.c_eq hu) (af (bo (af (cj (ak 1) (af (ay (dJ (aV (ag aa (ag aa (ag aa (ag aa (ag aa (ag aa ai)))))))) (ak 0))))) (af aa))) (af aa) (bD _)))) (λ _ _ _ _ _=>(cg (ae (av 0) (ba (aR (af aa) (af (ay (ak 2) (af (aR (af aa) (ak 0)))))) ai))))) (au (aO (cg (ae (av 0) (ba (aR (ak 2) (af aa)) (ba (aR (ak 3) (af aa)) (ae (av 4) (ae (av 7) (ae (av 5) (cN (ay (ak 8) (af aa)) (b7 (bQ rfl aE cb (ak 9)) ai))))))))))))))))
abbrev kG:Stmt:=top 42
abbrev n_law_group:List Str:=["_law_name", "_law_cell", "_law_letters_here", "_law_xs", "_law_width", "_law_depth", "_law_kind", "_law_wide", "_law_gap", "_law_worth", "_law_wishes", "_law_r"]
abbrev kM:List Str:=["_law_name", "_law_cell", "_law_letters_here"]
theorem mK:aF n_law_group kM (aj kG):=⟨rfl,rfl,rfl,by decide +kernel,rfl,by decide +kernel,by decide +kernel⟩
abbrev k9(P:Program)(w:World)(K:PySem.W.Frag)(mg:Str->Option Value)(base:Heap):Prop:=ZS.jj P w K mg base "_law_group" 2 kM (KN.hX)
theorem ok_law_group(d:ZS.Def K mg "_law_group" kG kM)(bM:fD P w K mg base)(nr:mg "int" = none)(g_min:mg "min" = none)(aU:mg "range" = none)(aE:mg "tuple" = none):k9 P w K mg base :=
 dN (N:=n_law_group) (b:=KN.gQ) d mK λ f bT A outer s H E hr=>have nd:=mK.nd;have hu:=hr.units;(ah (aH (i:=3) nd rfl (lo rfl) (aq bM (hr.mono (by decide)) rfl (ae (av 1) (ag aa ai)))) (ah (aH (i:=4) nd rfl (lo rfl) (ay (dJ (aV (ag aa (ag aa (ag aa (ag aa (ag aa (ag aa (ag aa (ag aa ai)))))))))) (af (bo (af (cj (af (ay (ak 3) (af aa))) (af aa))) (af aa))))) (ah (aH (i:=5) nd rfl (lo rfl) (ay (dJ (aV (ag aa (ag aa (ag aa (ag aa (ag aa (ag aa (ag aa (ag aa ai)))))))))) (af (bo (af (cj (af (ay (ak 3) (af aa))) (af aa))) (af aa))))) (ah (aH (i:=6) nd rfl (lo rfl) (ay (dJ (aV (ag (c8 (by decide +kernel)) (ag (c8 (by decide +kernel)) (cN (ay (ak 2) (af aa)) (cN (ay (ak 2) (af aa)) (ag (c8 (by decide +kernel)) (cN (ay (ak 2) (af aa)) ai)))))))) (af (bo (af (cj (af (ay (ak 3) (af aa))) (af aa))) (af aa))))) (ah (aH (i:=7) nd rfl (lo rfl) (de_min2 rfl g_min bb_min (af (ay (dJ (aV (ag aa (ag aa (ag aa (ag aa (ag aa (ag aa ai)))))))) (af (bo (af (cj (af (ay (ak 3) (af aa))) (af aa))) (af aa))))) (af (c9 (ak 4) (ak 5))))) (ah (aH (i:=8) nd rfl (lo rfl) (ay (dJ (aV (ag aa (ag aa (ag aa (ag aa (ag aa (ag aa (ag aa (ag aa ai)))))))))) (af (bo (af (cj (af (ay (ak 3) (af aa))) (af aa))) (af aa))))) (ah (aH (i:=9) nd rfl (lo rfl) (ay (dJ (aV (ba (bo (af (cj (af (ay (ak 3) (af aa))) (af aa))) (af aa)) (ba (c9 (af (ay (ak 3) (af aa))) (af (kZ (af aa) (af aa)))) ai)))) (af (nO rfl nr bb_int (af (fU (ZS.c_eq hu) (af (bo (af (cj (af (ay (ak 3) (af aa))) (af aa))) (af aa))) (af aa) (bD _))))))) (ah (fx (i:=10) nd rfl (lo rfl) (aV ai)) (ah (cG PassesOwn.never rfl (dG rfl aU aa) (aW (i:=11) nd rfl (lo rfl)) (au (e? (bA (ZS.c_eq hu) (af (bo (af (cj (af (ay (ak 3) (af aa))) (af (aR (af aa) (af (c9 (af aa) (ak 11))))))) (af aa))) (af aa) (bD _)) (au (jb (i:=10) (pv 10) (cg (ae (av 11) (ba (aR (af aa) (af (bo (af (cj (af (ay (ak 3) (af aa))) (af (aR (af aa) (ak 11))))) (af aa)))) ai))))) b8))) (au (aO (cg (ae (av 0) (ae (av 4) (ae (av 5) (ae (av 6) (ae (av 7) (ae (av 8) (ae (av 9) (b7 (bQ rfl aE cb (ak 10)) ai))))))))))))))))))))
abbrev jG:Stmt:=top 43
abbrev mY:List Str:=["_law_script", "_law_start", "_law_names_here", "_law_letters_here", "_law_found", "_law_k", "_law_cell"]
abbrev jK:List Str:=["_law_script", "_law_start", "_law_names_here"]
theorem lM:aF mY jK (aj jG):=⟨rfl,rfl,rfl,by decide +kernel,rfl,by decide +kernel,by decide +kernel⟩
abbrev j3(P:Program)(w:World)(K:PySem.W.Frag)(mg:Str->Option Value)(base:Heap):Prop:=ZS.jj P w K mg base "_law_groups" 3 jK (KN.cS)
theorem ok_law_groups(d:ZS.Def K mg "_law_groups" jG jK)(C_law_any:T_law_any P w K mg base)(aP:dA P w K mg base)(ll:k9 P w K mg base)(dB:gH P w K mg base)(br:mg "len" = none)(aU:mg "range" = none)(aE:mg "tuple" = none):j3 P w K mg base :=
 dN (N:=mY) (b:=KN.fW) d lM λ f bT A outer s H E hr=>have nd:=lM.nd;have hu:=hr.units;(ah (aH (i:=3) nd rfl (lo rfl) (aq dB (hr.mono (by decide)) rfl (ba (bo (af (cj (af (aq aP (hr.mono (by decide)) rfl (ae (av 0) (ag aa ai)))) (af aa))) (af (kZ (af aa) (af aa)))) ai))) (ah (fx (i:=4) nd rfl (lo rfl) (aV ai)) (ah (cG PassesOwn.never rfl (dG rfl aU (cz rfl br cU (ak 2))) (aW (i:=5) nd rfl (lo rfl)) (ah (aH (i:=6) nd rfl (lo rfl) (aq aP (hr.mono (by decide)) rfl (ae (av 0) (ba (aR (ak 1) (ak 5)) ai)))) (au (e? (dtw (mh (bA (ZS.c_eq hu) (af (bo (af (aq aP (hr.mono (by decide)) rfl (ae (av 0) (ag aa ai)))) (af aa))) (af aa) (bD _)) (jS (bA ZS.c_gt (af (bo (ak 6) (af aa))) (af aa) (bD _))))) (au (jb (i:=4) (pv 4) (aq C_law_any (hr.mono (by decide)) rfl (cN (ay (ak 2) (ak 5)) (ba (cj (ak 6) (af aa)) ai))))) (au (jb (i:=4) (pv 4) (aq ll (hr.mono (by decide)) rfl (cN (ay (ak 2) (ak 5)) (ba (aR (af (cj (ak 6) (af aa))) (af (c9 (af (c9 (af aa) (ak 5))) (ak 5)))) (ae (av 3) ai)))))))))) (au (aO (bQ rfl aE cb (ak 4)))))))
abbrev jF:Stmt:=top 45
abbrev mX:List Str:=["_law_hall_here", "_law_group_here", "_law_found", "_law_r", "_law_c", "_law_signs", "_law_bad"]
abbrev jJ:List Str:=["_law_hall_here", "_law_group_here"]
theorem lL:aF mX jJ (aj jF):=⟨rfl,rfl,rfl,by decide +kernel,rfl,by decide +kernel,by decide +kernel⟩
abbrev jZ(P:Program)(w:World)(K:PySem.W.Frag)(mg:Str->Option Value)(base:Heap):Prop:=ZS.jj P w K mg base "_law_places" 1 jJ (KN.gB)
theorem ok_law_places(d:ZS.Def K mg "_law_places" jF jJ)(br:mg "len" = none)(aU:mg "range" = none):jZ P w K mg base :=
 dN (N:=mX) (b:=KN.ic) d lL λ f bT A outer s H E hr=>have nd:=lL.nd;have hu:=hr.units;(ah (fx (i:=2) nd rfl (lo rfl) (aV ai)) (ah (cG PassesOwn.never rfl (dG rfl aU (aR (af (c7 (af (cz rfl br cU (ak 0))) (af (ay (ak 1) (af aa))))) (af aa))) (aW (i:=3) nd rfl (lo rfl)) (au (cG PassesOwn.never rfl (dG rfl aU (aR (af (c7 (af (cz rfl br cU (af (ay (ak 0) (af aa))))) (af (ay (ak 1) (af aa))))) (af aa))) (aW (i:=4) nd rfl (lo rfl)) (ah (aH (i:=5) nd rfl (lo rfl) (de_join (c8 (by decide +kernel)) (dJ (bW rfl (c6 (af (kY (ak 0) (iV (ak 3)) (iV (af (aR (ak 3) (af (ay (ak 1) (af aa))))))))) (N':=["_law_row", "_law_c", "_law_group_here"]) (n:=1) (is:=[4,1]) (ZS.lr.of (by kernel_rfl)) (ZS.bh (by decide)) (λ _ _ _ _ _ _=>(aW (i:=0) (show List.Nodup (["_law_row", "_law_c", "_law_group_here"]:List Str)by decide +kernel) rfl (lo rfl))) (λ _ _ _ _ _=>dP) (λ _ _ _ _ _=>(kY (ak 0) (iV (ak 1)) (iV (af (aR (ak 1) (af (ay (ak 2) (af aa)))))))))))) (ah (iU (i:=6) rfl nd rfl (lo rfl) (c6 (ak 5)) (N':=["_law_sign", "_law_group_here"]) (n:=1) (is:=[1]) (ZS.lr.of (by kernel_rfl)) (ZS.bh (by decide)) (λ _ _ _ _ _ _=>(aW (i:=0) (show List.Nodup (["_law_sign", "_law_group_here"]:List Str)by decide +kernel) rfl (lo rfl))) (λ _ _ _ _ _=>(fg (dtw (mh (bA ZS.c_notInS (ak 0) (af (c8 (by decide +kernel))) (by with_unfolding_all rfl)) (jS (bA (ZS.c_ne hu) (ak 0) (af (ay (ak 1) (af aa))) (bD _))))))) (λ _ _ _ _ _=>(av 0))) (au (e? (dtw (mh (bA (ZS.c_eq hu) (ak 6) (dJ (aV ai)) (bD _)) (jS (bA ZS.c_ge (af (de_cntS (ak 5) (af (c8 (by decide +kernel))))) (af (ay (ak 1) (af aa))) (bD _))))) (au (jb (i:=2) (pv 2) (cg (ae (av 3) (ae (av 4) ai))))) b8))))))) (iT (i:=2) (au (aO (av 2))))))
abbrev kH:Stmt:=top 46
abbrev n_law_apart:List Str:=["_law_one", "_law_here", "_law_other", "_law_there", "_law_gap"]
abbrev kN:List Str:=["_law_one", "_law_here", "_law_other", "_law_there"]
theorem mL:aF n_law_apart kN (aj kH):=⟨rfl,rfl,rfl,by decide +kernel,rfl,by decide +kernel,by decide +kernel⟩
abbrev k!(P:Program)(w:World)(K:PySem.W.Frag)(mg:Str->Option Value)(base:Heap):Prop:=ZS.jj P w K mg base "_law_apart" 1 kN (KN.hZ)
theorem ok_law_apart(d:ZS.Def K mg "_law_apart" kH kN)(g_max:mg "max" = none):k! P w K mg base :=
 dN (N:=n_law_apart) (b:=KN.d_) d mL λ f bT A outer s H E hr=>have nd:=mL.nd;have hu:=hr.units;(ah (e? (dtw (dt_or (bA ZS.c_le (af (aR (af (ay (ak 1) (af aa))) (af (ay (ak 0) (af aa))))) (af (ay (ak 3) (af aa))) (bD _)) (dt_or1 (bA ZS.c_le (af (aR (af (ay (ak 3) (af aa))) (af (ay (ak 2) (af aa))))) (af (ay (ak 1) (af aa))) (bD _))))) (au (aO jt)) b8) (ah (aH (i:=4) nd rfl (lo rfl) (de_max2 rfl g_max bb_max (af (ay (ak 0) (af aa))) (af (ay (ak 2) (af aa))))) (ah (e? (bA ZS.c_le (af (aR (af (aR (af (ay (ak 1) (af aa))) (af (ay (ak 0) (af aa))))) (ak 4))) (af (ay (ak 3) (af aa))) (bD _)) (au (aO jt)) b8) (au (aO (fU ZS.c_le (af (aR (af (aR (af (ay (ak 3) (af aa))) (af (ay (ak 2) (af aa))))) (ak 4))) (af (ay (ak 1) (af aa))) (bD _)))))))
abbrev l3:Stmt:=top 47
abbrev n_law_open:List Str:=["_law_hall_here", "_law_groups_here", "_law_seating_here", "_law_group_here", "_law_found", "_law_place", "_law_free", "_law_other", "_law_there"]
abbrev l8:List Str:=["_law_hall_here", "_law_groups_here", "_law_seating_here", "_law_group_here"]
theorem sc_law_open:aF n_law_open l8 (aj l3):=⟨rfl,rfl,rfl,by decide +kernel,rfl,by decide +kernel,by decide +kernel⟩
abbrev mm(P:Program)(w:World)(K:PySem.W.Frag)(mg:Str->Option Value)(base:Heap):Prop:=ZS.CalB P w K mg base "_law_open" 2 l8 [false,false,true,false] (KN.iS)
theorem ok_law_open(d:ZS.Def K mg "_law_open" l3 l8)(lq:k! P w K mg base)(j8:jZ P w K mg base)(j_:mg "zip" = none):mm P w K mg base :=
 calQB rfl (N:=n_law_open) (b:=KN.iC) d sc_law_open λ f bT A outer s H E hr=>have nd:=sc_law_open.nd;have hu:=hr.units;(ah (fx (i:=4) nd rfl (lo rfl) (aV ai)) (ah (cG PassesOwn.never rfl (jT (aq j8 (hr.mono (by decide)) rfl (ae (av 0) (ae (av 3) ai)))) (aW (i:=5) nd rfl (lo rfl)) (ah (aH (i:=6) nd rfl (lo rfl) jt) (ah (ds_forK PassesOwn.never rfl (dk_zipB (i:=2) rfl j_ (av 1) (pv 2)) (eN rfl (aB (i:=7) nd rfl (lo rfl) (aB (i:=8) nd rfl (lo rfl) cf)) rfl) (au (e? (dtw (mh (dt_notN (ak 8)) (jS (dt_not (dt_e (aq lq (hr.mono (by decide)) rfl (ae (av 3) (ae (av 5) (ae (av 7) (ae (av 8) ai)))))))))) (au (aH (i:=6) nd rfl (lo rfl) jt)) b8))) (au (e? (dt_e (av 6)) (au (jb (i:=4) (pv 4) (av 5))) b8))))) (iT (i:=4) (au (aO (av 4))))))
abbrev i9:Stmt:=top 48
abbrev lQ:List Str:=["_law_hall_here", "_law_groups_here", "_law_script", "_law_start", "_law_seating_here", "_law_k", "_law_some", "_law_cell"]
abbrev i_:List Str:=["_law_hall_here", "_law_groups_here", "_law_script", "_law_start"]
theorem kz:aF lQ i_ (aj i9):=⟨rfl,rfl,rfl,by decide +kernel,rfl,by decide +kernel,by decide +kernel⟩
abbrev je(P:Program)(w:World)(K:PySem.W.Frag)(mg:Str->Option Value)(base:Heap):Prop:=ZS.jj P w K mg base "_law_seating" 3 i_ (KN.dZ)
theorem ok_law_seating(d:ZS.Def K mg "_law_seating" i9 i_)(aP:dA P w K mg base)(bM:fD P w K mg base)(mv:mm P w K mg base)(br:mg "len" = none)(aU:mg "range" = none)(aE:mg "tuple" = none):je P w K mg base :=
 dN (N:=lQ) (b:=KN.e_) d kz λ f bT A outer s H E hr=>have nd:=kz.nd;have hu:=hr.units;(ah (fx (i:=4) nd rfl (lo rfl) (aV ai)) (ah (cG PassesOwn.never rfl (dG rfl aU (cz rfl br cU (ak 1))) (aW (i:=5) nd rfl (lo rfl)) (ah (aH (i:=6) nd rfl (lo rfl) (nN (dl_cat (af (de_callB mv (hr.mono (by decide)) rfl (k4 (av 0) (k4 (av 1) (daf_lend (ak 4) (k4 (ay (ak 1) (ak 5)) daf_nil)))))) (dJ (aV (ag de_non ai)))))) (ah (aH (i:=7) nd rfl (lo rfl) (aq aP (hr.mono (by decide)) rfl (ae (av 2) (ba (aR (ak 3) (ak 5)) ai)))) (ah (e? (bA (ZS.c_eq hu) (af (bo (af (aq aP (hr.mono (by decide)) rfl (ae (av 2) (ag aa ai)))) (af aa))) (af aa) (bD _)) (au (aH (i:=7) nd rfl (lo rfl) (cj (af (ay (af (aq bM (hr.mono (by decide)) rfl (ba (aR (ak 7) (af (c9 (af aa) (ak 5)))) (ag aa ai)))) (af aa))) (af aa)))) b8) (au (jb (i:=4) (pv 4) (ay (ak 6) (af (bo (ak 7) (af (cz rfl br cU (ak 6)))))))))))) (au (aO (bQ rfl aE cb (ak 4))))))
abbrev i!:Stmt:=top 49
abbrev eQ:List Str:=["_law_hall_here", "_law_seats_here"]
theorem kB:aF eQ eQ (aj i!):=⟨rfl,rfl,rfl,by decide +kernel,rfl,by decide +kernel,by decide +kernel⟩
abbrev jf(P:Program)(w:World)(K:PySem.W.Frag)(mg:Str->Option Value)(base:Heap):Prop:=ZS.jj P w K mg base "_law_crossed" 1 eQ (d9)
theorem ok_law_crossed(d:ZS.Def K mg "_law_crossed" i! eQ)(br:mg "len" = none)(fQ:mg "sorted" = none):jf P w K mg base :=
 dN (N:=eQ) (b:=gG) d kB λ f bT A outer s H E hr=>have nd:=kB.nd;have hu:=hr.units;(au (aO (nN (nG rfl fQ bb_sorted (dJ (bW rfl (c6 (ak 1)) (N':=["_law_r", "_law_c", "_law_hall_here"]) (n:=2) (is:=[0]) (ZS.lr.of (by kernel_rfl)) (ZS.ee (by decide)) (λ _ _ _ _ _ _=>(eN rfl (aB (i:=0) (show List.Nodup (["_law_r", "_law_c", "_law_hall_here"]:List Str)by decide +kernel) rfl (lo rfl) (aB (i:=1) (show List.Nodup (["_law_r", "_law_c", "_law_hall_here"]:List Str)by decide +kernel) rfl (lo rfl) cf)) rfl)) (λ _ _ _ _ _=>dP) (λ _ _ _ _ _=>(cg (ae (av 0) (ba (c7 (af (c7 (af (cz rfl br cU (af (ay (ak 2) (af aa))))) (af aa))) (ak 1)) ai))))))))))
abbrev fK:Stmt:=top 50
abbrev cJ:List Str:=["_law_hall_here", "_law_seats_here"]
theorem iu:aF cJ cJ (aj fK):=⟨rfl,rfl,rfl,by decide +kernel,rfl,by decide +kernel,by decide +kernel⟩
abbrev fX(P:Program)(w:World)(K:PySem.W.Frag)(mg:Str->Option Value)(base:Heap):Prop:=ZS.jj P w K mg base "_law_from_behind" 1 cJ (cx)
theorem l!(d:ZS.Def K mg "_law_from_behind" fK cJ)(br:mg "len" = none)(fQ:mg "sorted" = none):fX P w K mg base :=
 dN (N:=cJ) (b:=dI) d iu λ f bT A outer s H E hr=>have nd:=iu.nd;have hu:=hr.units;(au (aO (nN (nG rfl fQ bb_sorted (dJ (bW rfl (c6 (ak 1)) (N':=["_law_r", "_law_c", "_law_hall_here"]) (n:=2) (is:=[0]) (ZS.lr.of (by kernel_rfl)) (ZS.ee (by decide)) (λ _ _ _ _ _ _=>(eN rfl (aB (i:=0) (show List.Nodup (["_law_r", "_law_c", "_law_hall_here"]:List Str)by decide +kernel) rfl (lo rfl) (aB (i:=1) (show List.Nodup (["_law_r", "_law_c", "_law_hall_here"]:List Str)by decide +kernel) rfl (lo rfl) cf)) rfl)) (λ _ _ _ _ _=>dP) (λ _ _ _ _ _=>(cg (ba (c7 (af (c7 (af (cz rfl br cU (ak 2))) (af aa))) (ak 0)) (ae (av 1) ai))))))))))
abbrev s_law:Stmt:=top 51
abbrev n_law:List Str:=["_law_script", "_law_hall_here", "_law_many", "_law_more", "_law_rest", "_law_names_here", "_law_groups_here", "_law_coming", "_law_seating_here", "_law_found", "_law_across", "_law_others", "_law_there", "_law_later", "_law_cell", "_law_row", "_law_column", "_law_due"]
abbrev p_law:List Str:=["_law_script"]
theorem sc_law:aF n_law p_law (aj s_law):=⟨rfl,rfl,rfl,by decide +kernel,rfl,by decide +kernel,by decide +kernel⟩
theorem ok_law{f:Addr}{fd:FuncData}(F:Fun K "law" "law" s_law f fd)(aP:dA P w K mg base)(ji:jf P w K mg base)(bL:fY P w K mg base)(fZ:fX P w K mg base)(ik:j3 P w K mg base)(mw:mn P w K mg base)(bM:fD P w K mg base)(lj:k8 P w K mg base)(jh:je P w K mg base)(C_holes:T_holes P w K mg base)(j7:ml P w K mg base)(fz:fy P w K mg base)(C_turned:T_turned P w K mg base)(fq:g! P w K mg base)(gw:gq P w K mg base)(C_users:T_users P w K mg base)(br:mg "len" = none)(g_list:mg "list" = none):k_ P w K mg base CX0 6 f fd p_law (ZS.spZ K fn_law) :=
 fnQ (N:=n_law) (b:=b_law) F sc_law λ bT A outer s H E hr=>have nd:=sc_law.nd;have hu:=hr.units;(ah (aH (i:=1) nd rfl (lo rfl) (aq mw (hr.mono (by decide)) rfl (ae (av 0) ai))) (ah (ds_get (aq bL (hr.mono (by decide)) rfl (b7 (aq aP (hr.mono (by decide)) rfl (ae (av 0) (ag aa ai))) (k5 (nN (aV (ag aa (ag aa (ba (kZ (af aa) (af aa)) ai))))) ai))) (dg_seq rfl (aB (i:=2) nd rfl (lo rfl) (aB (i:=3) nd rfl (lo rfl) (aB (i:=4) nd rfl (lo rfl) cf))) rfl)) (ah (aH (i:=5) nd rfl (lo rfl) (aq lj (hr.mono (by decide)) rfl (b7 (aq aP (hr.mono (by decide)) rfl (ae (av 0) (ag aa ai))) (ag aa ai)))) (ah (aH (i:=6) nd rfl (lo rfl) (aq ik (hr.mono (by decide)) rfl (ae (av 0) (ag aa (cN (nN (jr (ak 5) dp_no (iV (ak 2)))) ai))))) (ah (aH (i:=7) nd rfl (lo rfl) (aq ik (hr.mono (by decide)) rfl (ae (av 0) (ag aa (cN (nN (jr (ak 5) (iV (af aa)) (iV (af (aR (af aa) (ak 3)))))) ai))))) (ah (aH (i:=8) nd rfl (lo rfl) (aq jh (hr.mono (by decide)) rfl (ae (av 1) (ae (av 6) (ae (av 0) (ag aa ai)))))) (ah (aH (i:=9) nd rfl (lo rfl) (aq C_holes (hr.mono (by decide)) rfl (ae (av 1) (ae (av 6) (ae (av 8) (ae (av 7) ai)))))) (ah (aH (i:=10) nd rfl (lo rfl) (aq fz (hr.mono (by decide)) rfl (ae (av 1) (ae (av 6) (ae (av 8) ai))))) (ah (e? (bA (ZS.c_ne hu) (dJ (dl_list rfl g_list bb_list (af (aq C_holes (hr.mono (by decide)) rfl (b7 (aq j7 (hr.mono (by decide)) rfl (ae (av 1) ai)) (ae (av 6) (ae (av 10) (ae (av 7) ai)))))))) (af (aq ji (hr.mono (by decide)) rfl (ae (av 1) (ae (av 9) ai)))) (bD _)) (au (aO jt)) b8) (ah (aH (i:=11) nd rfl (lo rfl) (aq fq (hr.mono (by decide)) rfl (ae (av 1) (ae (av 6) ai)))) (ah (aH (i:=12) nd rfl (lo rfl) (aq gw (hr.mono (by decide)) rfl (ae (av 1) (ae (av 6) (ae (av 8) ai))))) (ah (aH (i:=13) nd rfl (lo rfl) (aq fq (hr.mono (by decide)) rfl (ae (av 1) (ae (av 7) ai)))) (ah (e? (bA (ZS.c_ne hu) (dJ (dl_list rfl g_list bb_list (af (aq C_holes (hr.mono (by decide)) rfl (b7 (aq C_turned (hr.mono (by decide)) rfl (ae (av 1) ai)) (ae (av 11) (ae (av 12) (ae (av 13) ai)))))))) (af (aq fZ (hr.mono (by decide)) rfl (ae (av 1) (ae (av 9) ai)))) (bD _)) (au (aO jt)) b8) (ah (cG PassesOwn.never rfl (jT (nN (dl_cat (dJ (jr (ak 0) (iV (af aa)) (iV (af aa)))) (af (aq bM (hr.mono (by decide)) rfl (ae (av 4) (ag aa ai))))))) (aW (i:=14) nd rfl (lo rfl)) (ah (aH (i:=15) nd rfl (lo rfl) (bo (ak 14) (af (cz rfl br cU (ak 1))))) (ah (aH (i:=16) nd rfl (lo rfl) (bo (af (cj (ak 14) (af aa))) (af (cz rfl br cU (af (ay (ak 1) (af aa))))))) (ah (aH (i:=17) nd rfl (lo rfl) (cz rfl br cU (af (aq C_users (hr.mono (by decide)) rfl (ae (av 1) (ae (av 6) (ae (av 8) (ae (av 7) (iq (cg (ae (av 15) (ae (av 16) ai))) ai))))))))) (ah (e? (bA (ZS.c_ne hu) (af (cz rfl br cU (af (aq C_users (hr.mono (by decide)) rfl (b7 (aq j7 (hr.mono (by decide)) rfl (ae (av 1) ai)) (ae (av 6) (ae (av 10) (ae (av 7) (iq (cg (ae (av 15) (ba (c7 (af (c7 (af (cz rfl br cU (af (ay (ak 1) (af aa))))) (af aa))) (ak 16)) ai))) ai))))))))) (ak 17) (bD _)) (au (aO jt)) b8) (au (e? (bA (ZS.c_ne hu) (af (cz rfl br cU (af (aq C_users (hr.mono (by decide)) rfl (b7 (aq C_turned (hr.mono (by decide)) rfl (ae (av 1) ai)) (ae (av 11) (ae (av 12) (ae (av 13) (iq (cg (ba (c7 (af (c7 (af (cz rfl br cU (ak 1))) (af aa))) (ak 15)) (ae (av 16) ai))) ai))))))))) (ak 17) (bD _)) (au (aO jt)) b8))))))) (au (aO jt))))))))))))))))
end
end K76
namespace K76
open PySem PySem.Spec PyProof.Rows L2 ZQ KG KH KM KN KF
theorem all_mk{l:PySem.W.OpenLaw}{w:World}{K:PySem.W.Frag}{h:Heap}{mg:Str->Option Value}{fa:Addr}(X:K.In h)(G:h.Ns mainGlobals mg)(hfa:mg "law" = some (.ref fa))(a0:ZS.cC K "sign_at" s_sign_at)(a1:ZS.cC K "takes" s_takes)(a2:ZS.cC K "seats_of" lY)(a3:ZS.cC K "fits" s_fits)(a4:ZS.cC K "places_of" kD)(a5:ZS.cC K "apart" s_apart)(a6:ZS.cC K "those_that_sit" f?)(a7:ZS.cC K "apart_from_all" gb)(a8:ZS.cC K "free_seats" jI)(a9:ZS.cC K "open_among" jE)(a10:ZS.cC K "all_users" kI)(a11:ZS.cC K "users" s_users)(a12:ZS.cC K "holes" s_holes)(a13:ZS.cC K "mirrored" lZ)(a14:ZS.cC K "turned" s_turned)(a15:ZS.cC K "mirrored_place" f_)(a16:ZS.cC K "turned_row" jD)(a17:ZS.cC K "turned_place" iv)(a18:ZS.cC K "mirrored_seating" fu)(a19:ZS.cC K "turned_seating" f')(a20:ZS.cC K "turned_group" iw)(a21:ZS.cC K "turned_groups" gU)(a22:ZS.cC K "_law_cell_at" i?)(a23:ZS.cC K "_law_mixed" kF)(a24:ZS.cC K "_law_digits" jH)(a25:ZS.cC K "_law_names" kE)(a26:ZS.cC K "_law_letters" i')(a27:ZS.cC K "_law_hall" l4)(a28:ZS.cC K "_law_any" s_law_any)(a29:ZS.cC K "_law_group" kG)(a30:ZS.cC K "_law_groups" jG)(a31:ZS.cC K "_law_places" jF)(a32:ZS.cC K "_law_apart" kH)(a33:ZS.cC K "_law_open" l3)(a34:ZS.cC K "_law_seating" i9)(a35:ZS.cC K "_law_crossed" i!)(a36:ZS.cC K "_law_from_behind" fK)(a37:ZS.cC K "law" s_law){jz:Tok}(v_DEPTH:PySem.W.nsIn K mainGlobals "DEPTH" = some (some (.int 2 jz))){t_GAP:Tok}(v_GAP:PySem.W.nsIn K mainGlobals "GAP" = some (some (.int 5 t_GAP))){t_KIND:Tok}(v_KIND:PySem.W.nsIn K mainGlobals "KIND" = some (some (.int 3 t_KIND))){t_WIDE:Tok}(v_WIDE:PySem.W.nsIn K mainGlobals "WIDE" = some (some (.int 4 t_WIDE))){jy:Tok}(v_WIDTH:PySem.W.nsIn K mainGlobals "WIDTH" = some (some (.int 1 jy))){t_WISHES:Tok}(v_WISHES:PySem.W.nsIn K mainGlobals "WISHES" = some (some (.int 7 t_WISHES)))(n_all:PySem.W.nsIn K mainGlobals "all" = some none)(n_enumerate:PySem.W.nsIn K mainGlobals "enumerate" = some none)(n_int:PySem.W.nsIn K mainGlobals "int" = some none)(n_len:PySem.W.nsIn K mainGlobals "len" = some none)(n_list:PySem.W.nsIn K mainGlobals "list" = some none)(n_max:PySem.W.nsIn K mainGlobals "max" = some none)(n_min:PySem.W.nsIn K mainGlobals "min" = some none)(n_range:PySem.W.nsIn K mainGlobals "range" = some none)(n_sorted:PySem.W.nsIn K mainGlobals "sorted" = some none)(n_tuple:PySem.W.nsIn K mainGlobals "tuple" = some none)(n_zip:PySem.W.nsIn K mainGlobals "zip" = some none):
  ∃fd:FuncData,(∀(s:Shared) (v:Value),BindsTo s fd ⟨[v],[]⟩ [("_law_script",v)])∧∀base:Heap,K.In base->base.Ns mainGlobals mg->k_ l.prog w K mg base CX0 6 fa fd ["_law_script"] (ZS.spZ K fn_law):=by
 have gE:=PySem.W.mg_of X G v_DEPTH;have c_GAP:=PySem.W.mg_of X G v_GAP;have c_KIND:=PySem.W.mg_of X G v_KIND;have c_WIDE:=PySem.W.mg_of X G v_WIDE;have gD:=PySem.W.mg_of X G v_WIDTH;have nQ:=PySem.W.mg_of X G v_WISHES;have g_all:=PySem.W.mg_none_of X G n_all;have dW:=PySem.W.mg_none_of X G n_enumerate;have nr:=PySem.W.mg_none_of X G n_int;have br:=PySem.W.mg_none_of X G n_len;have g_list:=PySem.W.mg_none_of X G n_list;have g_max:=PySem.W.mg_none_of X G n_max;have g_min:=PySem.W.mg_none_of X G n_min;have aU:=PySem.W.mg_none_of X G n_range;have fQ:=PySem.W.mg_none_of X G n_sorted;have aE:=PySem.W.mg_none_of X G n_tuple;have j_:=PySem.W.mg_none_of X G n_zip;obtain⟨fd,hb,F⟩:=a37.law X G hfa (x := "_law_script") λ _ _ _ _ _ _ _ _=>.of_eq rfl;refine⟨fd,hb,λ base _ _=>?_⟩;have C_sign_at:T_sign_at l.prog w K mg base:=ok_sign_at (a0.df X G λ _ _ _ _ _ _=>ZS.bd2 λ _ _=>rfl) br;have C_takes:T_takes l.prog w K mg base:=ok_takes (a1.df X G λ _ _ _ _ _ _=>ZS.bd2 λ _ _=>rfl) ;have b9:gr l.prog w K mg base:=ok_seats_of (a2.df X G λ _ _ _ _ _ _=>ZS.bd2 λ _ _=>rfl) aU aE gE gD;have C_fits:T_fits l.prog w K mg base:=ok_fits (a3.df X G λ _ _ _ _ _ _=>ZS.bd3 λ _ _ _=>rfl) b9 C_sign_at C_takes g_all c_KIND c_WIDE;have lh:k7 l.prog w K mg base:=ok_places_of (a4.df X G λ _ _ _ _ _ _=>ZS.bd2 λ _ _=>rfl) C_fits br aU aE;have C_apart:T_apart l.prog w K mg base:=ok_apart (a5.df X G λ _ _ _ _ _ _=>ZS.bd4 λ _ _ _ _=>rfl) g_max gE c_GAP gD;have cu:eI l.prog w K mg base:=mR (a6.df X G λ _ _ _ _ _ _=>ZS.bd2 λ _ _=>rfl) j_;have gA:gv l.prog w K mg base:=mU (a7.df X G λ _ _ _ _ _ _=>ZS.bd3 λ _ _ _=>rfl) C_apart g_all;have j9:j4 l.prog w K mg base:=ok_free_seats (a8.df X G λ _ _ _ _ _ _=>ZS.bd3 λ _ _ _=>rfl) b9 cu dW aE;have j6:jY l.prog w K mg base:=ok_open_among (a9.df X G λ _ _ _ _ _ _=>ZS.bd3 λ _ _ _=>rfl) gA aE;have fE:i4 l.prog w K mg base:=ok_all_users (a10.df X G λ _ _ _ _ _ _=>ZS.bd4 λ _ _ _ _=>rfl) j6 lh cu dW;have C_users:T_users l.prog w K mg base:=ok_users (a11.df X G λ _ _ _ _ _ _=>ZS.bd5 λ _ _ _ _ _=>rfl) fE b9 aE;have C_holes:T_holes l.prog w K mg base:=ok_holes (a12.df X G λ _ _ _ _ _ _=>ZS.bd4 λ _ _ _ _=>rfl) fE j9 b9 aE;have j7:ml l.prog w K mg base:=ok_mirrored (a13.df X G λ _ _ _ _ _ _=>ZS.bd1 λ _=>rfl) aE;have C_turned:T_turned l.prog w K mg base:=ok_turned (a14.df X G λ _ _ _ _ _ _=>ZS.bd1 λ _=>rfl) ;have gz:gu l.prog w K mg base:=mS (a15.df X G λ _ _ _ _ _ _=>ZS.bd3 λ _ _ _=>rfl) br gD;have eJ:ij l.prog w K mg base:=ok_turned_row (a16.df X G λ _ _ _ _ _ _=>ZS.bd3 λ _ _ _=>rfl) br gE;have iH:iE l.prog w K mg base:=ok_turned_place (a17.df X G λ _ _ _ _ _ _=>ZS.bd3 λ _ _ _=>rfl) eJ;have fz:fy l.prog w K mg base:=lE (a18.df X G λ _ _ _ _ _ _=>ZS.bd3 λ _ _ _=>rfl) gz aE j_;have gw:gq l.prog w K mg base:=mQ (a19.df X G λ _ _ _ _ _ _=>ZS.bd3 λ _ _ _=>rfl) iH aE j_;have iI:iF l.prog w K mg base:=ok_turned_group (a20.df X G λ _ _ _ _ _ _=>ZS.bd2 λ _ _=>rfl) eJ fQ aE nQ;have fq:g! l.prog w K mg base:=ok_turned_groups (a21.df X G λ _ _ _ _ _ _=>ZS.bd2 λ _ _=>rfl) iI aE;have aP:dA l.prog w K mg base:=ok_law_cell_at (a22.df X G λ _ _ _ _ _ _=>ZS.bd2 λ _ _=>rfl) br;have bM:fD l.prog w K mg base:=ok_law_mixed (a23.df X G λ _ _ _ _ _ _=>ZS.bd2 λ _ _=>rfl) aU;have bL:fY l.prog w K mg base:=ok_law_digits (a24.df X G λ _ _ _ _ _ _=>ZS.bd2 λ _ _=>rfl) ;have lj:k8 l.prog w K mg base:=ok_law_names (a25.df X G λ _ _ _ _ _ _=>ZS.bd2 λ _ _=>rfl) nr aU;have dB:gH l.prog w K mg base:=ok_law_letters (a26.df X G λ _ _ _ _ _ _=>ZS.bd1 λ _=>rfl) ;have mw:mn l.prog w K mg base:=ok_law_hall (a27.df X G λ _ _ _ _ _ _=>ZS.bd1 λ _=>rfl) aP bL dB bM aU aE;have C_law_any:T_law_any l.prog w K mg base:=ok_law_any (a28.df X G λ _ _ _ _ _ _=>ZS.bd2 λ _ _=>rfl) bL nr aU aE;have ll:k9 l.prog w K mg base:=ok_law_group (a29.df X G λ _ _ _ _ _ _=>ZS.bd3 λ _ _ _=>rfl) bM nr g_min aU aE;have ik:j3 l.prog w K mg base:=ok_law_groups (a30.df X G λ _ _ _ _ _ _=>ZS.bd3 λ _ _ _=>rfl) C_law_any aP ll dB br aU aE;have j8:jZ l.prog w K mg base:=ok_law_places (a31.df X G λ _ _ _ _ _ _=>ZS.bd2 λ _ _=>rfl) br aU;have lq:k! l.prog w K mg base:=ok_law_apart (a32.df X G λ _ _ _ _ _ _=>ZS.bd4 λ _ _ _ _=>rfl) g_max;have mv:mm l.prog w K mg base:=ok_law_open (a33.df X G λ _ _ _ _ _ _=>ZS.bd4 λ _ _ _ _=>rfl) lq j8 j_;have jh:je l.prog w K mg base:=ok_law_seating (a34.df X G λ _ _ _ _ _ _=>ZS.bd4 λ _ _ _ _=>rfl) aP bM mv br aU aE;have ji:jf l.prog w K mg base:=ok_law_crossed (a35.df X G λ _ _ _ _ _ _=>ZS.bd2 λ _ _=>rfl) br fQ;have fZ:fX l.prog w K mg base:=l! (a36.df X G λ _ _ _ _ _ _=>ZS.bd2 λ _ _=>rfl) br fQ;exact ok_law F aP ji bL fZ ik mw bM lj jh C_holes j7 fz C_turned fq gw C_users br g_list
theorem walk{l:PySem.W.OpenLaw}{q:Program}{loose:List Str}{XP:(Str->Option Value)->Heap->Prop}{YP:World->Heap->Prop}{d:DefRec}{K:Params->PySem.W.Frag}(hn:l.most=some 63)(hdf:d.params.defaults=[])
  (hY:∀(w:World)(h:Heap),YP w h->(K w.params).In h)
  (F:∀ (w:World) (mg:Str->Option Value) (fa:Addr) (h:Heap),(K w.params).In h->h.Ns mainGlobals mg->mg d.name=some (.ref fa) ->
   ∃fd:FuncData,(∀(s:Shared) (u:Value),BindsTo s fd ⟨[u],[]⟩ [("_law_script",u)])∧∀base:Heap,(K w.params).In base->base.Ns mainGlobals mg->k_ l.prog w (K w.params) mg base CX0 6 fa fd ["_law_script"] (ZS.spZ (K w.params) fn_law)) (hL:∀w:World,ZS.LamOk q (K w.params)) :
  PySem.W.WalkO q loose XP YP l.row.toRowW d [] (λ f vs=>PySem.call f vs) :=
 ZS.walk_B (n:=63) (k:=6) (x := "_law_script") (m:=fn_law) hn (by decide) hdf ⟨rfl,by decide,by decide⟩ hY F hL holds
end K76
namespace K76
open PySem PySem.Spec PyProof.Rows L2
abbrev km0:String := "besideseats.halls"
abbrev km1:String := "besideseats.places"
abbrev km2:String := "besideseats.seatings"
abbrev km3:String := "besideseats.rooms"
abbrev km4:String := "besideseats.holes"
abbrev km5:String := "besideseats.moves"
abbrev km6:String := "law_besideseats_k76_whole_holes_from_the_oth"
noncomputable def kd(P:Params)(n:String)(t:Nat)(v:Value):DictEntry:={ hash:=PyData.keyHash P (Str.ofString n),key:=.str (Str.ofString n) t,val:=v }
noncomputable def kc(n:String)(t l:Nat)(a b c d e f g h i j:Value)(u:Nat):Obj:={ cls:=.type "code",data:=.fields #[.str (Str.ofString n) t,.str (Str.ofString n) (t+1),.str (Str.ofString "/claim/cut.py") (t+2),.int l 0,a,.int 0 0,.int 0 0,b,c,.bool true,d,e,f,g,h,i,j,.int l 0,.str (Str.ofString "/claim/cut.py") u] }
noncomputable def kf(n:String)(i:Nat)(m:String)(t c:Nat)(v:Value:=.none):Obj:={ cls:=.type "function",data:=.func { name:=Str.ofString n,qualname:=Str.ofString n,params:=cB (top i),body:=.stmts (bp (top i)),scope:=aj (top i),globals:=3,closure:=[],defaults:=v,kwdefaults:=.none,pyModule:=.str (Str.ofString m) t,code:=.ref c } }
noncomputable def KK(P:Params):PySem.W.Frag:=(λ(_:Str.ofString "a" = Str.mk #[97])=>(nat_lit 3,{ cls:=.type "dict",data:=.dict #[kd P "__name__" 165 (.str (Str.ofString "law_besideseats_k76_whole_holes_from_the_oth") 364),kd P "__doc__" 166 .none,kd P "__package__" 167 .none,kd P "__loader__" 168 (.builtin "__main__.__loader__#opaque"),kd P "__spec__" 169 .none,kd P "__annotations__" 170 (.ref 6),kd P "__builtins__" 171 (.ref 4),kd P "__file__" 173 (.str (Str.ofString "/claim/cut.py") 172),kd P "__cached__" 174 .none,kd P "WIDTH" 188 (.int 1 187),kd P "DEPTH" 190 (.int 2 189),kd P "KIND" 192 (.int 3 191),kd P "WIDE" 194 (.int 4 193),kd P "GAP" 196 (.int 5 195),kd P "WISHES" 198 (.int 7 197),kd P "sign_at" 210 (.ref 21),kd P "takes" 220 (.ref 28),kd P "seats_of" 226 (.ref 33),kd P "fits" 232 (.ref 38),kd P "places_of" 238 (.ref 43),kd P "apart" 251 (.ref 50),kd P "those_that_sit" 257 (.ref 55),kd P "apart_from_all" 263 (.ref 60),kd P "free_seats" 269 (.ref 65),kd P "open_among" 277 (.ref 70),kd P "all_users" 285 (.ref 75),kd P "users" 291 (.ref 80),kd P "holes" 297 (.ref 85),kd P "mirrored" 305 (.ref 90),kd P "turned" 312 (.ref 97),kd P "mirrored_place" 321 (.ref 104),kd P "turned_row" 330 (.ref 111),kd P "turned_place" 339 (.ref 118),kd P "mirrored_seating" 345 (.ref 123),kd P "turned_seating" 351 (.ref 128),kd P "turned_group" 357 (.ref 133),kd P "turned_groups" 363 (.ref 138),kd P "_law_cell_at" 373 (.ref 145),kd P "_law_mixed" 384 (.ref 152),kd P "_law_digits" 394 (.ref 159),kd P "_law_names" 411 (.ref 166),kd P "_law_letters" 419 (.ref 173),kd P "_law_hall" 425 (.ref 178),kd P "_law_any" 431 (.ref 183),kd P "_law_group" 449 (.ref 190),kd P "_law_groups" 462 (.ref 197),kd P "_law_seats" 473 (.ref 204),kd P "_law_places" 479 (.ref 209),kd P "_law_apart" 490 (.ref 216),kd P "_law_open" 505 (.ref 223),kd P "_law_seating" 519 (.ref 230),kd P "_law_crossed" 525 (.ref 235),kd P "_law_from_behind" 531 (.ref 240),kd P "law" 555 (.ref 247)] 54 }) ::
 (nat_lit 20,kc "sign_at" 201 8 (.int 2 0) (.int 3 0) (.ref 15) (.int 181 0) (.ref 16) .none (.ref 17) (.ref 18) (.ref 19) (.int 208 0) 209) ::
 (nat_lit 21,kf "sign_at" 7 km0 199 20) ::
 (nat_lit 27,kc "takes" 213 15 (.int 2 0) (.int 3 0) (.ref 22) (.int 181 0) (.ref 23) .none (.ref 24) (.ref 25) (.ref 26) (.int 218 0) 219) ::
 (nat_lit 28,kf "takes" 9 km1 211 27) ::
 (nat_lit 32,kc "seats_of" 221 17 (.int 2 0) (.int 3 0) (.ref 29) (.int 181 0) (.ref 30) .none .none .none (.ref 31) (.int 224 0) 225) ::
 (nat_lit 33,kf "seats_of" 10 km1 211 32) ::
 (nat_lit 37,kc "fits" 227 22 (.int 3 0) (.int 3 0) (.ref 34) (.int 181 0) (.ref 35) .none .none .none (.ref 36) (.int 230 0) 231) ::
 (nat_lit 38,kf "fits" 11 km1 211 37) ::
 (nat_lit 42,kc "places_of" 233 27 (.int 2 0) (.int 3 0) (.ref 39) (.int 181 0) (.ref 40) .none .none .none (.ref 41) (.int 236 0) 237) ::
 (nat_lit 43,kf "places_of" 12 km1 211 42) ::
 (nat_lit 49,kc "apart" 241 33 (.int 4 0) (.int 3 0) (.ref 44) (.int 181 0) (.ref 45) .none (.ref 46) (.ref 47) (.ref 48) (.int 249 0) 250) ::
 (nat_lit 50,kf "apart" 14 km2 239 49) ::
 (nat_lit 54,kc "those_that_sit" 252 38 (.int 2 0) (.int 3 0) (.ref 51) (.int 181 0) (.ref 52) .none .none .none (.ref 53) (.int 255 0) 256) ::
 (nat_lit 55,kf "those_that_sit" 15 km2 239 54) ::
 (nat_lit 59,kc "apart_from_all" 258 40 (.int 3 0) (.int 3 0) (.ref 56) (.int 181 0) (.ref 57) .none .none .none (.ref 58) (.int 261 0) 262) ::
 (nat_lit 60,kf "apart_from_all" 16 km2 239 59) ::
 (nat_lit 64,kc "free_seats" 264 42 (.int 3 0) (.int 3 0) (.ref 61) (.int 181 0) (.ref 62) .none .none .none (.ref 63) (.int 267 0) 268) ::
 (nat_lit 65,kf "free_seats" 17 km2 239 64) ::
 (nat_lit 69,kc "open_among" 272 53 (.int 3 0) (.int 3 0) (.ref 66) (.int 181 0) (.ref 67) .none .none .none (.ref 68) (.int 275 0) 276) ::
 (nat_lit 70,kf "open_among" 19 km3 270 69) ::
 (nat_lit 74,kc "all_users" 280 56 (.int 4 0) (.int 3 0) (.ref 71) (.int 181 0) (.ref 72) .none .none .none (.ref 73) (.int 283 0) 284) ::
 (nat_lit 75,kf "all_users" 21 km4 278 74) ::
 (nat_lit 79,kc "users" 286 62 (.int 5 0) (.int 3 0) (.ref 76) (.int 181 0) (.ref 77) .none .none .none (.ref 78) (.int 289 0) 290) ::
 (nat_lit 80,kf "users" 22 km4 278 79) ::
 (nat_lit 84,kc "holes" 292 65 (.int 4 0) (.int 3 0) (.ref 81) (.int 181 0) (.ref 82) .none .none .none (.ref 83) (.int 295 0) 296) ::
 (nat_lit 85,kf "holes" 23 km4 278 84) ::
 (nat_lit 89,kc "mirrored" 300 72 (.int 1 0) (.int 3 0) (.ref 86) (.int 181 0) (.ref 87) .none .none .none (.ref 88) (.int 303 0) 304) ::
 (nat_lit 90,kf "mirrored" 25 km5 298 89) ::
 (nat_lit 96,kc "turned" 306 74 (.int 1 0) (.int 3 0) (.ref 91) (.int 181 0) (.ref 92) .none (.ref 93) (.ref 94) (.ref 95) (.int 310 0) 311) ::
 (nat_lit 97,kf "turned" 26 km5 298 96) ::
 (nat_lit 103,kc "mirrored_place" 313 76 (.int 3 0) (.int 3 0) (.ref 98) (.int 181 0) (.ref 99) .none (.ref 100) (.ref 101) (.ref 102) (.int 319 0) 320) ::
 (nat_lit 104,kf "mirrored_place" 27 km5 298 103) ::
 (nat_lit 110,kc "turned_row" 322 80 (.int 3 0) (.int 3 0) (.ref 105) (.int 181 0) (.ref 106) .none (.ref 107) (.ref 108) (.ref 109) (.int 328 0) 329) ::
 (nat_lit 111,kf "turned_row" 28 km5 298 110) ::
 (nat_lit 117,kc "turned_place" 331 82 (.int 3 0) (.int 3 0) (.ref 112) (.int 181 0) (.ref 113) .none (.ref 114) (.ref 115) (.ref 116) (.int 337 0) 338) ::
 (nat_lit 118,kf "turned_place" 29 km5 298 117) ::
 (nat_lit 122,kc "mirrored_seating" 340 86 (.int 3 0) (.int 3 0) (.ref 119) (.int 181 0) (.ref 120) .none .none .none (.ref 121) (.int 343 0) 344) ::
 (nat_lit 123,kf "mirrored_seating" 30 km5 298 122) ::
 (nat_lit 127,kc "turned_seating" 346 88 (.int 3 0) (.int 3 0) (.ref 124) (.int 181 0) (.ref 125) .none .none .none (.ref 126) (.int 349 0) 350) ::
 (nat_lit 128,kf "turned_seating" 31 km5 298 127) ::
 (nat_lit 132,kc "turned_group" 352 90 (.int 2 0) (.int 3 0) (.ref 129) (.int 181 0) (.ref 130) .none .none .none (.ref 131) (.int 355 0) 356) ::
 (nat_lit 133,kf "turned_group" 32 km5 298 132) ::
 (nat_lit 137,kc "turned_groups" 358 93 (.int 2 0) (.int 3 0) (.ref 134) (.int 181 0) (.ref 135) .none .none .none (.ref 136) (.int 361 0) 362) ::
 (nat_lit 138,kf "turned_groups" 33 km5 298 137) ::
 (nat_lit 144,kc "_law_cell_at" 366 96 (.int 2 0) (.int 3 0) (.ref 139) (.int 181 0) (.ref 140) .none (.ref 141) (.ref 142) (.ref 143) (.int 371 0) 372) ::
 (nat_lit 145,kf "_law_cell_at" 35 km6 364 144) ::
 (nat_lit 151,kc "_law_mixed" 374 100 (.int 2 0) (.int 3 0) (.ref 146) (.int 181 0) (.ref 147) .none (.ref 148) (.ref 149) (.ref 150) (.int 382 0) 383) ::
 (nat_lit 152,kf "_law_mixed" 36 km6 364 151) ::
 (nat_lit 158,kc "_law_digits" 385 107 (.int 2 0) (.int 3 0) (.ref 153) (.int 181 0) (.ref 154) .none (.ref 155) (.ref 156) (.ref 157) (.int 392 0) 393) ::
 (nat_lit 159,kf "_law_digits" 37 km6 364 158) ::
 (nat_lit 165,kc "_law_names" 395 113 (.int 2 0) (.int 3 0) (.ref 160) (.int 181 0) (.ref 161) .none (.ref 162) (.ref 163) (.ref 164) (.int 409 0) 410) ::
 (nat_lit 166,kf "_law_names" 38 km6 364 165) ::
 (nat_lit 172,kc "_law_letters" 412 126 (.int 1 0) (.int 3 0) (.ref 167) (.int 181 0) (.ref 168) .none (.ref 169) (.ref 170) (.ref 171) (.int 417 0) 418) ::
 (nat_lit 173,kf "_law_letters" 39 km6 364 172) ::
 (nat_lit 177,kc "_law_hall" 420 129 (.int 1 0) (.int 3 0) (.ref 174) (.int 181 0) (.ref 175) .none .none .none (.ref 176) (.int 423 0) 424) ::
 (nat_lit 178,kf "_law_hall" 40 km6 364 177) ::
 (nat_lit 182,kc "_law_any" 426 144 (.int 2 0) (.int 3 0) (.ref 179) (.int 181 0) (.ref 180) .none .none .none (.ref 181) (.int 429 0) 430) ::
 (nat_lit 183,kf "_law_any" 41 km6 364 182) ::
 (nat_lit 189,kc "_law_group" 432 151 (.int 3 0) (.int 3 0) (.ref 184) (.int 181 0) (.ref 185) .none (.ref 186) (.ref 187) (.ref 188) (.int 447 0) 448) ::
 (nat_lit 190,kf "_law_group" 42 km6 364 189) ::
 (nat_lit 196,kc "_law_groups" 450 164 (.int 3 0) (.int 3 0) (.ref 191) (.int 181 0) (.ref 192) .none (.ref 193) (.ref 194) (.ref 195) (.int 460 0) 461) ::
 (nat_lit 197,kf "_law_groups" 43 km6 364 196) ::
 (nat_lit 208,kc "_law_places" 474 180 (.int 2 0) (.int 3 0) (.ref 205) (.int 181 0) (.ref 206) .none .none .none (.ref 207) (.int 477 0) 478) ::
 (nat_lit 209,kf "_law_places" 45 km6 364 208) ::
 (nat_lit 215,kc "_law_apart" 480 189 (.int 4 0) (.int 3 0) (.ref 210) (.int 181 0) (.ref 211) .none (.ref 212) (.ref 213) (.ref 214) (.int 488 0) 489) ::
 (nat_lit 216,kf "_law_apart" 46 km6 364 215) ::
 (nat_lit 222,kc "_law_open" 491 196 (.int 4 0) (.int 3 0) (.ref 217) (.int 181 0) (.ref 218) .none (.ref 219) (.ref 220) (.ref 221) (.int 503 0) 504) ::
 (nat_lit 223,kf "_law_open" 47 km6 364 222) ::
 (nat_lit 229,kc "_law_seating" 506 206 (.int 4 0) (.int 3 0) (.ref 224) (.int 181 0) (.ref 225) .none (.ref 226) (.ref 227) (.ref 228) (.int 517 0) 518) ::
 (nat_lit 230,kf "_law_seating" 48 km6 364 229) ::
 (nat_lit 234,kc "_law_crossed" 520 215 (.int 2 0) (.int 3 0) (.ref 231) (.int 181 0) (.ref 232) .none .none .none (.ref 233) (.int 523 0) 524) ::
 (nat_lit 235,kf "_law_crossed" 49 km6 364 234) ::
 (nat_lit 239,kc "_law_from_behind" 526 217 (.int 2 0) (.int 3 0) (.ref 236) (.int 181 0) (.ref 237) .none .none .none (.ref 238) (.int 529 0) 530) ::
 (nat_lit 240,kf "_law_from_behind" 50 km6 364 239) ::
 (nat_lit 246,kc "law" 532 219 (.int 1 0) (.int 3 0) (.ref 241) (.int 181 0) (.ref 242) .none (.ref 243) (.ref 244) (.ref 245) (.int 553 0) 554) ::
 (nat_lit 247,kf "law" 51 km6 364 246) :: []) (by kernel_rfl)
def KA:List Addr:=[nat_lit 3,nat_lit 20,nat_lit 21,nat_lit 27,nat_lit 28,nat_lit 32,nat_lit 33,nat_lit 37,nat_lit 38,nat_lit 42,nat_lit 43,nat_lit 49,nat_lit 50,nat_lit 54,nat_lit 55,nat_lit 59,nat_lit 60,nat_lit 64,nat_lit 65,nat_lit 69,nat_lit 70,nat_lit 74,nat_lit 75,nat_lit 79,nat_lit 80,nat_lit 84,nat_lit 85,nat_lit 89,nat_lit 90,nat_lit 96,nat_lit 97,nat_lit 103,nat_lit 104,nat_lit 110,nat_lit 111,nat_lit 117,nat_lit 118,nat_lit 122,nat_lit 123,nat_lit 127,nat_lit 128,nat_lit 132,nat_lit 133,nat_lit 137,nat_lit 138,nat_lit 144,nat_lit 145,nat_lit 151,nat_lit 152,nat_lit 158,nat_lit 159,nat_lit 165,nat_lit 166,nat_lit 172,nat_lit 173,nat_lit 177,nat_lit 178,nat_lit 182,nat_lit 183,nat_lit 189,nat_lit 190,nat_lit 196,nat_lit 197,nat_lit 208,nat_lit 209,nat_lit 215,nat_lit 216,nat_lit 222,nat_lit 223,nat_lit 229,nat_lit 230,nat_lit 234,nat_lit 235,nat_lit 239,nat_lit 240,nat_lit 246,nat_lit 247]
end K76
namespace PySem.W.Fast
def tw17216525640811001147:Unit:=()
def tw4688938629714812998:Unit:=()
def tw11891333060589505661:Unit:=()
def tw1856088918389979047:Unit:=()
def tw8102542160463204876:Unit:=()
def tw4137787577165498258:Unit:=()
def tw3219248374447827159:Unit:=()
def tw12812161769670360907:Unit:=()
def tw455192226038288357:Unit:=()
def tw8514577027533885908:Unit:=()
def tw4304312194830207158:Unit:=()
def tw5681788196443287767:Unit:=()
def tw15290201117864491868:Unit:=()
def tw8189662414416490327:Unit:=()
end PySem.W.Fast
open PySem PySem.W PyProof.Rows
set_option maxRecDepth 100000 in
set_option maxHeartbeats 0 in
theorem PySem.Challenge.cw_besideseats_k76_whole_holes_from_the_oth_holds : PySem.Challenge.rw_besideseats_k76_whole_holes_from_the_oth.Holds := by
 w_on;o_law;o_head (PySem.W.kHook K76.KK K76.KA (λ _=>by kernel_rfl));(case hw=>w_witness2)
 k_fill
 refine K76.walk (l:=PySem.Challenge.rw_besideseats_k76_whole_holes_from_the_oth) rfl rfl (λ w h Y=>PySem.W.kIn_of Y) ?F ?L
 case L =>
  intro w;refine' ZS.lam_ok (r1:=_) (r2:=_) ?n ?h1 ?h2 ?g1 ?g2 ?ne
  (case n=>kernel_rfl)
  (case h1=>refine' ZS.tab_none ?a1;(case a1=>k_is))
  (case g1=>exact .inl rfl)
  (case h2=>refine' ZS.tab_none ?a2;(case a2=>k_is))
  (case g2=>exact .inl rfl)
  (case ne=>exact λ c P c' P' e1 e2=>by first | (cases e1;done) | (cases e2;done) | (cases e1;cases e2;decide))
 case F =>
  intro w mg fa h KX G hmg;refine' K76.all_mk KX G hmg ?a0 ?a1 ?a2 ?a3 ?a4 ?a5 ?a6 ?a7 ?a8 ?a9 ?a10 ?a11 ?a12 ?a13 ?a14 ?a15 ?a16 ?a17 ?a18 ?a19 ?a20 ?a21 ?a22 ?a23 ?a24 ?a25 ?a26 ?a27 ?a28 ?a29 ?a30 ?a31 ?a32 ?a33 ?a34 ?a35 ?a36 ?a37 ?v_DEPTH ?v_GAP ?v_KIND ?v_WIDE ?v_WIDTH ?v_WISHES ?n_all ?n_enumerate ?n_int ?n_len ?n_list ?n_max ?n_min ?n_range ?n_sorted ?n_tuple ?n_zip
  (case v_DEPTH=>k_is)
  (case v_GAP=>k_is)
  (case v_KIND=>k_is)
  (case v_WIDE=>k_is)
  (case v_WIDTH=>k_is)
  (case v_WISHES=>k_is)
  all_goals first | k_is | (refine' ZS.cC.mk' ?a ?l ?c ?k;(case a=>k_is);(case l=>k_is);(case c=>k_is);(case k=>k_is))
#print axioms PySem.Challenge.cw_besideseats_k76_whole_holes_from_the_oth_holds
