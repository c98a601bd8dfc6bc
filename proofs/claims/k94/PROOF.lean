import PyProof.Rows.All
import Wide.All
import OpenK.AllK
import Wide.FinOn
import Lean
import KE.KMinKey
import PyProof.WalkInts
import PyProof.SeqI3
import PyProof.Rows.CallKwBuiltin
import PyProof.EqAt
import PyProof.EqKinds
import PyProof.TupleCall
import KE.KLam
import PySem.Challenge.RW_besideseats_k94_whole_all_ways
set_option Elab.async false
set_option linter.all false
set_option maxRecDepth 100000
set_option genSizeOf false
set_option compiler.extract_closed false
set_option bootstrap.genMatcherCode false
namespace L2
open PySem PySem.Spec PyProof.Rows
abbrev Key:=Sum Int Str
def K2:Key->Value->Bool
  | .inl k,v=>Value.isInt k v
  | .inr x,v=>Value.isStrOf x v
def Uu(w:World):Key->Int
  | .inl k=>hashInt k
  | .inr x=>hashStr w x
theorem dA:∀{k:Key}{v:Value},K2 k v=true->(∃i t,k=Sum.inl i∧v=Value.int i t)∨(∃x t,k=Sum.inr x∧v=Value.str x t)
  | .inl i,v,h=>by obtain⟨t,e⟩:=Value.isInt_shape (k:=i) (v:=v) h;exact .inl ⟨i,t,rfl,e⟩
  | .inr x,v,h=>by obtain⟨t,e⟩:=Value.isStrOf_shape (x:=x) (v:=v) h;exact .inr ⟨x,t,rfl,e⟩
theorem Mr(a b:Int):decide ((Sum.inl a:Key)=Sum.inl b)=(a==b):=by
  by_cases e:a=b
  ·subst e;simp
  · have h:¬(Sum.inl a:Key)=Sum.inl b:=λ q=>e (Sum.inl.inj q);rw[decide_eq_false h];exact(beq_eq_false_iff_ne.mpr e).symm
theorem Mo(a b:Str):decide ((Sum.inr a:Key)=Sum.inr b)=decide (a=b):=by
  by_cases e:a=b
  ·subst e;simp
  · have h:¬(Sum.inr a:Key)=Sum.inr b:=λ q=>e (Sum.inr.inj q);rw[decide_eq_false h,decide_eq_false e]
theorem Mq(a:Int)(b:Str):decide ((Sum.inl a:Key)=Sum.inr b)=false:=decide_eq_false (λ q=>nomatch q)
theorem Mp(a:Str)(b:Int):decide ((Sum.inr a:Key)=Sum.inl b)=false:=decide_eq_false (λ q=>nomatch q)
def Dw (prog:Program) (w:World):PySem.KeyKind prog w Key where
  is:=K2
  hash:=Uu w
  inj:=λ v a b ha hb=>by
    rcases dA ha with⟨i,t,rfl,rfl⟩ | ⟨x,t,rfl,rfl⟩
    · rcases dA hb with⟨j,u,rfl,e⟩ | ⟨y,u,rfl,e⟩
      ·injection e with e1 _;rw[e1]
      ·exact nomatch e
    · rcases dA hb with⟨j,u,rfl,e⟩ | ⟨y,u,rfl,e⟩
      ·exact nomatch e
      ·injection e with e1 _;rw[e1]
  byValue:=λ k v h=>by rcases dA h with⟨i,t,rfl,rfl⟩ | ⟨x,t,rfl,rfl⟩<;>rfl
  pyHash:=λ hv h=>by
    rcases dA hv with⟨i,t,rfl,rfl⟩ | ⟨x,t,rfl,rfl⟩
    ·exact wpAny_pyHash_int h
    ·exact wpAny_pyHash_str h
  eqBool:=λ hu hv h=>by
    rcases dA hu with⟨i,t,rfl,rfl⟩ | ⟨x,t,rfl,rfl⟩
    · rcases dA hv with⟨j,u,rfl,rfl⟩ | ⟨y,u,rfl,rfl⟩
      ·rw[Mr]at h;exact wpAny_eqBool_int h
      ·rw[Mq]at h;exact SeqAt.EqAt.int_str i t y u _ _ _ _ h
    · rcases dA hv with⟨j,u,rfl,rfl⟩ | ⟨y,u,rfl,rfl⟩
      ·rw[Mp]at h;exact SeqAt.EqAt.str_int x t j u _ _ _ _ h
      ·rw[Mo]at h;exact wpAny_eqBool_str h
  «strs»:=λ k x t v h=>by
    rcases dA h with⟨i,u,rfl,e⟩ | ⟨y,u,rfl,e⟩
    ·exact nomatch e
    · injection e with e1 _
      subst e1;cases v<;>rfl
end L2
namespace L2
open PySem PySem.Spec PyProof.Rows
inductive V where
  | non | bl (b:Bool) | int (i:Int) | str (x:Str) | QX (b:Array UInt8) | Qz (b:UInt64) | ref (a:Addr) | ty (n:String)
  deriving DecidableEq
def RelV:V->Value->Prop
  | .non,u=>u=Value.none
  | .bl b,u=>u=Value.bool b
  | .int i,u=>∃t,u=Value.int i t
  | .str x,u=>∃t,u=Value.str x t
  | .QX b,u=>∃t,u=Value.bytes b t
  | .Qz b,u=>∃t,u=Value.float b t
  | .ref a,u=>u=Value.ref a
  | .ty n,u=>u=Value.type n
abbrev Vals:List V->List Value->Prop:=Paired RelV
theorem Vals.length{xs:List V}{us:List Value}(r:Vals xs us):xs.length=us.length:=Paired.length r
theorem Vals.get:∀{xs:List V}{us:List Value}{i:Nat}{x:V},Vals xs us->xs[i]?=some x->∃u,us[i]?=some u∧RelV x u
  | _,_,_,_,.nil,e=>by simp at e
  | _,_,0,_,.cons r _,e=>by simp at e;subst e;exact⟨_,rfl,r⟩
  | _,_,i+1,x,.cons _ t,e=>by obtain⟨u,h1,h2⟩:=Vals.get (i:=i) (x:=x) t (by simpa using e);exact⟨u,by simpa using h1,h2⟩
theorem Vals.set{x:V}{u:Value}(r:RelV x u):∀{xs:List V}{us:List Value}(i:Nat),Vals xs us->Vals (xs.set i x) (us.set i u)
  | _,_,_,.nil=>.nil
  | _,_,0,.cons _ t=>.cons r t
  | _,_,i+1,.cons q t=>.cons q (Vals.set r i t)
theorem Vals.append:∀{xs ys:List V}{us ws:List Value},Vals xs us->Vals ys ws->Vals (xs++ys) (us++ws)
  | _,_,_,_,.nil,s=>s
  | _,_,_,_,.cons r t,s=>.cons r (Vals.append t s)
theorem Vals.take:∀{xs:List V}{us:List Value}(n:Nat),Vals xs us->Vals (xs.take n) (us.take n)
  | _,_,0,_=>.nil
  | _,_,_+1,.nil=>.nil
  | _,_,n+1,.cons r t=>.cons r (Vals.take n t)
theorem Vals.drop:∀{xs:List V}{us:List Value}(n:Nat),Vals xs us->Vals (xs.drop n) (us.drop n)
  | _,_,0,r=>r
  | _,_,_+1,.nil=>.nil
  | _,_,n+1,.cons _ t=>Vals.drop n t
def Ra:Option V->Option Value->Prop
  | some v,some u=>RelV v u
  | none,none=>True
  | _,_=>False
def KV{κ:Type}:List (κ×V)->List (κ×Value)->Prop:=Paired λ(p:κ×V) (q:κ×Value)=>p.1=q.1∧RelV p.2 q.2
def kV:Key->V
  | .inl i=>.int i
  | .inr x=>.str x
inductive HO where
    | lst (xs:List V)
    | tup (xs:List V)
    | dK (kS:List (Key×V)) | dT (kS:List (List Key×V))
    | set (S:Int->Bool) (n:Nat)
    | ins (C dx:Addr) (fs:List (Str×V))
    | own (x:Addr)
    | xd (fs:List (Str×V))
    | met (f x:Addr)
    | TN (lo hi:Int)
    | i! (o:Obj) (u:HO)
    | HR (q:Str)
  | Ki (q:Str)
    | ext (φ:Heap->Prop)
abbrev Hp:=Addr->Option HO
def Rc:HO->Prop
  | .HR _=>True
  | .Ki _=>True
  | _=>False
def upd(H:Hp)(a:Addr)(o:HO):Hp:=λ b=>if b=a then some o else H b
theorem bV{H:Hp}{a:Addr}{o:HO}:upd H a o a=some o:=by unfold upd;rw[if_pos rfl]
theorem a!{H:Hp}{a b:Addr}{o:HO}(h:b≠a):upd H a o b=H b:=by unfold upd;rw[if_neg h]
theorem Pk{H:Hp}{a b:Addr}{o u:HO}(h:H a=some o)(h':H b=some u)(d:o≠u):a≠b:=by intro e;subst e;rw[h]at h';exact d (Option.some.inj h')
theorem cy{H:Hp}{a b:Addr}{o:HO}(h:H a=some o)(h':H b=none):a≠b:=by intro e;subst e;rw[h]at h';cases h'
section
variable (P:Program) (w:World)
def js(H:Hp)(h:Heap)(a:Addr):HO->Prop
  | .lst xs=>xs.length≤sizeLine∧∃(aY:List Value) (n:Nat),Vals xs aY∧h.get? a=some { cls:=.type "list",data:=.seq aY.toArray n }
  | .tup xs=>xs.length≤sizeLine∧∃aY:List Value,Vals xs aY∧IsTup h a aY.toArray
  | .dK kS=>kS.length≤sizeLine∧(a==sysModules)=false∧∃vs,KV kS vs∧h.DictOf (Dw P w) a vs
  | .dT kS=>kS.length≤sizeLine∧(a==sysModules)=false∧∃xs:List (List Key×Addr×Value),
      Paired (λ(p:List Key×V) (q:List Key×Addr×Value)=>p.1=q.1∧H q.2.1=some (.tup (p.1.map kV))∧RelV p.2 q.2.2) kS xs ∧
      ∃o es ep,h.get? a=some o∧o.ExactDict∧o.data=.dict es ep∧es.toList=xs.map (entryOfKey (tupleKind (Dw P w)))∧(xs.map (·.1)).Nodup
  | .set S n=>h.SetOf (intKind P w) a S n
  | .ins C dx fs=>H dx=some (.own a)∧fs.length≤1000∧dx≠a∧h.get? a=some (PySem.W.instObj C dx) ∧
      ∃mA,h.Ns1 dx mA∧(∀f,Ra (fs.lookup f) (mA f))∧PySem.Within mA (fs.map (·.1))
  | .own _=>∃o,h.get? a=some o
  | .xd fs=>∃mA,h.Ns1 a mA∧∀f,Ra (fs.lookup f) (mA f)
  | .TN lo hi=>∃t u v,h.get? a=some { cls:=.type "range",data:=.fields #[.int lo t,.int hi u,.int 1 v] }
  | .i! o u=>h.get? a=some o∧js H h a u
  | .HR q=>∃ps:Array Value,h.get? a=some { cls:=.none,data:=.fields ps }∧TriplesOk ps.toList∧∀pos cv,codeAmong pos ps.toList=some cv->∃c,cv=.ref c∧H c=some (.Ki q)
  | .Ki q=>h.CodeRec (.ref a) q
  | .met f x=>h.get? a=some (PySem.W.methodObj (.ref f) (.ref x))
  | .ext φ=>φ h∧(∃o,h.get? a=some o)∧∀h1 h2:Heap,φ h1->(∀o,h1.get? a=some o->h2.get? a=some o)->φ h2
def sZ(H:Hp)(h:Heap):Prop:=∀a o,H a=some o->js P w H h a o
end
section
variable {P:Program}{w:World}{H H':Hp}{h h':Heap}{a:Addr}{o:HO}
theorem js.lt(x:js P w H h a o):a < h.objs.size:=by
  cases o with
  | lst xs=>obtain⟨_,_,_,_,e⟩:=x;exact Heap.lt_size e
  | tup xs=>obtain⟨_,_,_,p⟩:=x;exact p.lt
  | dK kS=>obtain⟨_,_,_,_,o,_,_,e,_⟩:=x;exact Heap.lt_size e
  | dT kS=>obtain⟨_,_,_,_,o,_,_,e,_⟩:=x;exact Heap.lt_size e
  | set S n=>obtain⟨o,_,_,_,e,_⟩:=x;exact Heap.lt_size e
  | ins C dx fs=>obtain⟨_,_,_,e,_⟩:=x;exact Heap.lt_size e
  | own y=>obtain⟨_,e⟩:=x;exact Heap.lt_size e
  | xd fs=>obtain⟨_,⟨_,_,_,e,_⟩,_⟩:=x;exact Heap.lt_size e
  | TN lo hi=>obtain⟨_,_,_,e⟩:=x;exact Heap.lt_size e
  | i! ob u=>obtain⟨e,_⟩:=x;exact Heap.lt_size e
  | HR q=>obtain⟨_,e,_⟩:=x;exact Heap.lt_size e
  | Ki q=>obtain⟨_,_,_,_,e1,e2,_⟩:=x;cases e1;exact Heap.lt_size e2
  | met f y=>exact Heap.lt_size (show h.get? a=some _ from x)
  | ext φ=>obtain⟨_,⟨_,e⟩,_⟩:=x;exact Heap.lt_size e
theorem Paired.Mg{α β:Type}{F G:α->β->Prop}:∀{l₁:List α}{l₂:List β},Paired F l₁ l₂->(∀a b,F a b->G a b)->Paired G l₁ l₂
  | _,_,.nil,_=>.nil
  | _,_,.cons r t,f=>.cons (f _ _ r) (Paired.Mg t f)
theorem js.vc(x:js P w H h a o)(k:∀b u,(b=a∨H b=some (.own a))->h.get? b=some u->h'.get? b=some u)
    (ho:∀b,H b=some (.own a)->H' b=some (.own a)) (ht:∀b xs,H b=some (.tup xs)->H' b=some (.tup xs)) (hp:∀b u,Rc u->H b=some u->H' b=some u):js P w H' h' a o:=by
  induction o with
  | lst xs=>obtain⟨z,aY,n,r,e⟩:=x;exact⟨z,aY,n,r,k _ _ (.inl rfl) e⟩
  | tup xs=>obtain⟨z,aY,r,ob,e,c⟩:=x;exact⟨z,aY,r,ob,k _ _ (.inl rfl) e,c⟩
  | dK kS=>obtain⟨z,y,vs,r,ob,es,ep,e,c⟩:=x;exact⟨z,y,vs,r,ob,es,ep,k _ _ (.inl rfl) e,c⟩
  | dT kS =>obtain⟨z,y,xs,r,ob,es,ep,e,c⟩:=x;exact⟨z,y,xs,Paired.Mg r λ p q z=>⟨z.1,ht _ _ z.2.1,z.2.2⟩,ob,es,ep,k _ _ (.inl rfl) e,c⟩
  | set S n=>obtain⟨ob,es,ep,t,e,c⟩:=x;exact⟨ob,es,ep,t,k _ _ (.inl rfl) e,c⟩
  | ins C dx fs =>obtain⟨d,z,ne,e,mA,⟨od,es,ep,e2,c⟩,r⟩:=x;exact⟨ho _ d,z,ne,k _ _ (.inl rfl) e,mA,⟨od,es,ep,k _ _ (.inr d) e2,c⟩,r⟩
  | own y=>obtain⟨ob,e⟩:=x;exact⟨ob,k _ _ (.inl rfl) e⟩
  | xd fs=>obtain⟨mA,⟨od,es,ep,e,c⟩,r⟩:=x;exact⟨mA,⟨od,es,ep,k _ _ (.inl rfl) e,c⟩,r⟩
  | TN lo hi=>obtain⟨t,u,v,e⟩:=x;exact⟨t,u,v,k _ _ (.inl rfl) e⟩
  | i! ob u ih=>obtain⟨e,q⟩:=x;exact⟨k _ _ (.inl rfl) e,ih q⟩
  | HR q =>obtain⟨ps,e,t,g⟩:=x;exact⟨ps,k a _ (.inl rfl) e,t,λ pos cv r=>let ⟨c,e1,e2⟩:=g pos cv r;⟨c,e1,hp c _ trivial e2⟩⟩
  | Ki q =>obtain⟨c,oc,vs,t,e1,e2,r⟩:=x;cases e1;exact⟨a,oc,vs,t,rfl,k a _ (.inl rfl) e2,r⟩
  | met f y =>have e:h.get? a=some (PySem.W.methodObj (.ref f) (.ref y)):=x;show h'.get? a=some (PySem.W.methodObj (.ref f) (.ref y));exact k a _ (.inl rfl) e
  | ext φ=>obtain⟨p,⟨o,e⟩,st⟩:=x;exact⟨st _ _ p λ o q=>k _ _ (.inl rfl) q,⟨o,k _ _ (.inl rfl) e⟩,st⟩
theorem sZ.lt(x:sZ P w H h)(e:H a=some o):a < h.objs.size:=(x a o e).lt
theorem sZ.fresh(x:sZ P w H h)(e:h.objs.size≤a):H a=none:=by
  cases q:H a with
  | none=>rfl
  | some u=>exact absurd (Nat.lt_of_lt_of_le (x.lt q) e) (Nat.lt_irrefl _)
theorem sZ.kept(x:sZ P w H h)(k:∀b u,h.get? b=some u->h'.get? b=some u):sZ P w H h':=λ a o e =>(x a o e).vc (λ b u _ q=>k b u q) (λ _ q=>q) (λ _ _ q=>q) λ _ _ _ q=>q
theorem sZ.laid(x:sZ P w H h)(k:∀b u,h.get? b=some u->h'.get? b=some u)(hp:h.objs.size≤a)(new:js P w (upd H a o) h' a o):sZ P w (upd H a o) h':=λ b u e=>by
  have hn:=x.fresh hp;by_cases hb:b=a
  ·subst hb;rw[bV]at e;cases e;exact new
  · rw[a! hb]at e;exact(x b u e).vc (λ c v _ q=>k c v q) (λ c q=>by rw[a! (cy q hn)];exact q) (λ c xs q=>by rw[a! (cy q hn)];exact q) λ c v _ q=>by rw[a! (cy q hn)];exact q
end
def Rd(H:Hp)(a:Addr)(u:HO):Prop:=H a=some u∨∃o,H a=some (.i! o u)
theorem Rd.of{H:Hp}{a:Addr}{u:HO}(h:H a=some u):Rd H a u:=.inl h
theorem Rd.ok{P:Program}{w:World}{H:Hp}{h:Heap}{a:Addr}{u:HO}(r:Rd H a u)(x:sZ P w H h):js P w H h a u:=by
  rcases r with r | ⟨o,r⟩
  ·exact x a u r
  · obtain⟨_,q⟩:=x a _ r;exact q
def S7:Option HO->Prop
  | some (.lst _)=>True
  | some (.dK _)=>True
  | some (.dT _)=>True
  | some (.set _ _)=>True
  | some (.ins _ _ _)=>True
  | some (.ext _)=>True
  | _=>False
section
variable {P:Program}{w:World}{H:Hp}{h h':Heap}{x e:Addr}{o':HO}
theorem sZ.write (ok : sZ P w H h) (mu : S7 (H x)) (he : e = x ∨ H e = some (.own x)) (k : ∀ b u, b ≠ e -> h.get? b = some u -> h'.get? b = some u) (NS : ∃ u, h'.get? e = some u)
    (new:js P w (upd H x o') h' x o'):sZ P w (upd H x o') h':=λ b u q=>by
  have Pe:∀c y,H c=some (.own y)->c≠x:=λ c y r z=>by subst z;rw[r]at mu;exact mu
  have Ue:∀c xs,H c=some (.tup xs)->c≠x:=λ c xs r z=>by subst z;rw[r]at mu;exact mu
  have Ug:∀c u,Rc u->H c=some u->c≠x:=λ c u p r z=>by subst z;rw[r]at mu;cases u<;>first | exact p | exact mu
  by_cases hb:b=x
  ·subst hb;rw[bV]at q;cases q;exact new
  · rw[a! hb]at q;by_cases H_:b=e
    · have q':H b=some (.own x):=by
        rcases he with z | z
        ·exact absurd (H_.trans z) hb
        ·rw[H_];exact z
      rw[q]at q';cases q';obtain⟨v,hv⟩:=NS;exact⟨v,by rw[H_];exact hv⟩
    · refine(ok b u q).vc (λ c v hc r=>k c v ?_ r) (λ c r=>by rw[a! (Pe c b r)];exact r) (λ c xs r=>by rw[a! (Ue c xs r)];exact r) λ c v p r=>by rw[a! (Ug c v p r)];exact r
      rcases hc with rfl | hc
      ·exact H_
      · rintro rfl;rcases he with z | z
        ·exact Pe c b hc z
        ·rw[hc]at z;cases z;exact hb rfl
end
structure Un(fs ex:List Addr)(H H':Hp)(h h':Heap):Prop where
  keep:∀b o,h.get? b=some o->H b=none->b∉fs->b∉ex->h'.get? b=some o
  slot:∀b o,h.get? b=some o->H b=none->b∈fs->b∉ex->∃sl,h'.get? b=some { o with slots:=sl }
  free:∀b o,h.get? b=some o->H b=none->b∉ex->H' b=none
  there:∀b o,h.get? b=some o->b∉ex->∃o',h'.get? b=some o'
  yr:∀b xs,H b=some (.tup xs)->H' b=some (.tup xs)
  xq:∀b o u,H b=some (.i! o u)->H' b=some (.i! o u)
  u9:∀b u,Rc u->H b=some u->H' b=some u
section
variable {fs Vx ex Xr:List Addr}{H H1 H2:Hp}{h h1 h2 h':Heap}{a x e:Addr}{o:HO}
theorem Un.any(u:Un fs ex H H1 h h1){b:Addr}{ob:Obj}(q:h.get? b=some ob)(n:H b=none)(hx:b∉ex):∃sl,h1.get? b=some { ob with slots:=sl }:=by
  by_cases hb:b∈fs
  ·exact u.slot b ob q n hb hx
  ·exact⟨ob.slots,u.keep b ob q n hb hx⟩
theorem Un.kept(k:∀b u,h.get? b=some u->h'.get? b=some u):Un fs ex H H h h' :=
  ⟨λ b ob q _ _ _=>k b ob q,λ b ob q _ _ _=>⟨ob.slots,k b ob q⟩,λ _ _ _ n _=>n,λ b ob q _=>⟨ob,k b ob q⟩,λ _ _ q=>q,λ _ _ _ q=>q,λ _ _ _ q=>q⟩
theorem Un.refl:Un fs ex H H h h:=Un.kept λ _ _ q=>q
theorem Un.laid(k:∀b u,h.get? b=some u->h'.get? b=some u)(hp:h.objs.size≤a)(hn:H a=none):Un fs ex H (upd H a o) h h' where
  keep:=λ b u q _ _ _=>k b u q
  slot:=λ b u q _ _ _=>⟨u.slots,k b u q⟩
  free:=λ b u q n _=>by rw[a! (Nat.ne_of_lt (Nat.lt_of_lt_of_le (Heap.lt_size q) hp))];exact n
  there:=λ b u q _=>⟨u,k b u q⟩
  yr:=λ b xs q=>by rw[a! (cy q hn)];exact q
  xq:=λ b u xs q=>by rw[a! (cy q hn)];exact q
  u9:=λ b u _ q=>by rw[a! (cy q hn)];exact q
theorem Un.write(mu:S7 (H x))(he:e=x∨H e=some (.own x))(k:∀b u,b≠e->h.get? b=some u->h'.get? b=some u)(NS:∃u,h'.get? e=some u):Un fs ex H (upd H x o) h h':=by
  have hx:∀b,H b=none->b≠x:=λ b n z=>by subst z;rw[n]at mu;exact mu
  have hb:∀b,H b=none->b≠e:=λ b n z=>by
    subst z;rcases he with r | r
    ·exact hx b n r
    ·rw[n]at r;cases r
  have hm:∀b u,H b=some u->¬S7 (some u)->b≠x:=λ b u q nm z=>by subst z;rw[q]at mu;exact nm mu
  refine⟨λ b u q n _ _=>k b u (hb b n) q,λ b u q n _ _=>⟨u.slots,k b u (hb b n) q⟩,λ b u q n _=>by rw[a! (hx b n)];exact n,λ b u q _=>?_,
    λ b xs q=>by rw[a! (hm b _ q λ z=>z)];exact q,λ b u xs q=>by rw[a! (hm b _ q λ z=>z)];exact q,λ b u p q=>by rw[a! (hm b _ q λ z=>by cases u<;>first | exact p | exact z)];exact q⟩
  by_cases H_:b=e
  ·subst H_;exact NS
  ·exact⟨u,k b u H_ q⟩
theorem Un.mono(u:Un fs ex H H1 h h1)(hs:∀b∈fs,b∈Vx)(hx:∀b∈ex,b∈Xr):Un Vx Xr H H1 h h1 :=
  ⟨λ b ob q n hb he=>u.keep b ob q n (λ z=>hb (hs b z)) λ z=>he (hx b z),λ _ _ q n _ he=>u.any q n λ z=>he (hx _ z),λ b ob q n he=>u.free b ob q n λ z=>he (hx b z),λ b ob q he=>u.there b ob q λ z=>he (hx b z),u.yr,u.xq,u.u9⟩
end
def Rw(h:Heap)(H:Hp):List Addr:=(List.range h.objs.size).filter λ a=>(H a).isSome
def xn(h:Heap)(H:Hp):Heap:=PySem.W.hideAll h (Rw h H)
theorem EU(h:Heap)(H:Hp):(xn h H).objs.size=h.objs.size:=PySem.W.hideAll_size _ _
theorem G9{h:Heap}{H:Hp}{b:Addr}{o:Obj}(e:h.get? b=some o)(n:H b=none):(xn h H).get? b=some o :=
  PySem.W.hideAll_get _ e λ hm=>by have q:(H b).isSome=true:=(List.mem_filter.mp hm).2;rw[n]at q;simp at q
theorem Jk{h:Heap}{H:Hp}{b:Addr}{o:Obj}(e:(xn h H).get? b=some o):h.get? b=some o∧H b=none:=by
  have e':h.get? b=some o:=PySem.W.of_hideAll (Rw h H) e;refine⟨e',?_⟩;cases q:H b with
  | none=>rfl
  | some x =>have hm:b∈Rw h H:=List.mem_filter.mpr ⟨List.mem_range.mpr (Heap.lt_size e'),by simp[q]⟩;have z:(xn h H).get? b=none:=PySem.W.hideAll_none (Rw h H) hm;rw[z]at e;cases e
def Ks(g h:Heap)(L:Addr):List (Addr×Obj):=(List.range h.objs.size).filterMap λ a=>if a=L∨(g.get? a).isSome=true then none else(h.get? a).map λ o=>(a,o)
def rest(g h:Heap)(L d:Addr):List (Addr×Obj):=(Ks g h L).filter λ p=>decide (p.1≠d)
end L2
namespace L2
open PySem PySem.Spec PyProof.Rows
structure Mod(K:PySem.W.Frag)(mg:Str->Option Value)(base:Heap):Prop where
  Si:K.In base
  glob:base.Ns mainGlobals mg
  blt:∃mb,base.Ns builtinsNs mb∧∀x:Str,x ≠ "__name__" -> mb x=bootBuiltins x
  nolimit:base.NoLimit
def di:List Str:=["best_among", "paper_beside"]
def kJ(x:Str):Str:=x ++ ".<locals>." ++ "<lambda>"
def BMain(mg:Str->Option Value)(base:Heap):Prop:=∃bm ob,mg "__builtins__" = some (.ref bm)∧bm≠builtinsNs∧base.get? bm=some ob∧ob.cls=.type "module" ∧ ob.dict=some builtinsNs∧ob.data=.plain
def yo(K:PySem.W.Frag)(mg:Str->Option Value)(base:Heap)(H:Hp):Prop:=∀x∈di,∀c P,PySem.W.tabIn K x=some (c,P)->H P=some (.HR (kJ x))∧PySem.W.CodeHd base c P∧BMain mg base
theorem yo.up{K:PySem.W.Frag}{mg:Str->Option Value}{base:Heap}{H H':Hp}(t:yo K mg base H)(u:∀b o,Rc o->H b=some o->H' b=some o):yo K mg base H':=λ x hx c P e=>⟨u _ _ trivial (t x hx c P e).1,(t x hx c P e).2⟩
structure Cx where
  prog:Program
  w:World
  K:PySem.W.Frag
  mg:Str->Option Value
  base:Heap
  A:Around
  N:List Str
  s₀:Shared
  H₀:Hp
  env:Env
  outer:List Env
  stack:List Env
  ex:List Addr
  fn:Str->Bool
  calm:Bool
  pn:List (Addr×Obj)
  xe:Value->Shared->Prop
def DN(l:List Env):List Addr:=l.filterMap (·.frame)
abbrev Cx.fs(X:Cx):List Addr:=DN X.outer
def Ii(sc:Scope)(x:Str):Prop:=sc.names.lookup x=some .local∨sc.names.lookup x=some .cell∨sc.names.lookup x=some .free
def Loc(sc:Scope)(x:Str):Prop:=sc.names.lookup x=some .local∨sc.names.lookup x=some .cell
def Look(env:Env)(h:Heap)(m:Str->Option Value)(x:Str)(u:Value):Prop :=
  (env.kindOf x=some .local∧m x=some u)∨((env.kindOf x=some .cell∨env.kindOf x=some .free)∧∃c,env.cells.lookup x=some c∧h.IsCell c (some u))
structure Cx.Ok(X:Cx):Prop where
  mod:Mod X.K X.mg X.base
  kind:X.env.scope.kind=.function
  glob:X.env.globals=mainGlobals
  blt:X.env.builtins=builtinsNs
  above:X.s₀.heap.objs.size≤X.env.locals
  inj:∀x y c,X.env.cells.lookup x=some c->X.env.cells.lookup y=some c->x=y
  has:∀x,(X.env.kindOf x=some .cell∨X.env.kindOf x=some .free)->∃c,X.env.cells.lookup x=some c
  QV:∀x c,X.fn x=true->X.env.cells.lookup x=some c->X.s₀.heap.objs.size≤c
  hd:X.calm=true->X.A.handled=none
  frames:X.A.frames=some X.stack
  RA:X.stack=X.outer∨(X.stack=X.env :: X.outer∧X.env.frame=some X.env.locals)
  Xq:∀b∈X.ex,b≠X.env.locals∧∀x c,X.env.cells.lookup x=some c->c≠b
  bs:∀b o,X.base.get? b=some o->X.s₀.heap.get? b=some o∧X.H₀ b=none
  Ig:X.base.objs.size≤X.s₀.heap.objs.size
  EG:∀b o,X.base.get? b=some o->b∉X.ex
  J!:∀b∈X.ex,b∉X.fs
  sE:X.s₀.heap.FunFrames X.base X.outer
  MY:∀b∈X.fs,X.H₀ b=none
structure Inv(X:Cx)(pins:List (Addr×Obj))(σ:List (Option V))(H:Hp)(s:Shared):Prop where
  ok:X.Ok
  os:s.os=X.s₀.os
  bare:AllBare s.gens
  base:Un X.fs X.ex X.H₀ H X.s₀.heap s.heap
  loc:∃m,s.heap.Ns X.env.locals m∧∀(i:Nat)(x:Str)(v:V),X.N[i]?=some x->σ[i]?=some (some v)->Ii X.env.scope x->∃u,RelV v u∧Look X.env s.heap m x u
  cell:∀x c,X.env.cells.lookup x=some c->∃v,s.heap.IsCell c v
  free:H X.env.locals=none
  oq:∀x c,X.env.cells.lookup x=some c->H c=none
  pin:∀p∈X.pn++pins,s.heap.get? p.1=some p.2∧H p.1=none∧p.1≠X.env.locals∧p.1∉X.fs∧∀v,p.2.data≠.cell v
  dW:sZ X.prog X.w H s.heap
  len:σ.length=X.N.length
  tab:yo X.K X.mg X.base H
section
variable {X:Cx}{pins:List (Addr×Obj)}{σ:List (Option V)}{H H':Hp}{s:Shared}{h':Heap}
theorem Cx.Ok.Ui(ok:X.Ok){b:Addr}{o:Obj}(e:X.base.get? b=some o):b∉X.fs:=λ hb=>by have:=(ok.sE.mem hb).1;rw[e]at this;cases this
theorem Inv.bs(I:Inv X pins σ H s):∀b o,X.base.get? b=some o->s.heap.get? b=some o∧H b=none:=λ b o e =>⟨I.base.keep b o (I.ok.bs b o e).1 (I.ok.bs b o e).2 (I.ok.Ui e) (I.ok.EG b o e),I.base.free b o (I.ok.bs b o e).1 (I.ok.bs b o e).2 (I.ok.EG b o e)⟩
theorem Inv.bk(I:Inv X pins σ H s):∀b o,X.base.get? b=some o->s.heap.get? b=some o:=λ b o e=>(I.bs b o e).1
theorem Inv.mod(I:Inv X pins σ H s):Mod X.K X.mg X.base:=I.ok.mod
theorem Inv.EO(I:Inv X pins σ H s):X.K.In s.heap:=I.ok.mod.Si.keeps I.bk
theorem Inv.nolimit(I:Inv X pins σ H s):s.heap.NoLimit:=I.ok.mod.nolimit.keeps I.bk
theorem Inv.fr(I:Inv X pins σ H s):∃m,Fr X.base X.env.locals s.heap m :=
  let ⟨m,hn,_⟩:=I.loc
  ⟨m,hn,I.bk,Nat.le_trans I.ok.Ig I.ok.above⟩
theorem Inv.lt(I:Inv X pins σ H s):X.env.locals < s.heap.objs.size:=let ⟨_,hn,_⟩:=I.loc;hn.lt
theorem Inv.sz(I:Inv X pins σ H s):X.s₀.heap.objs.size≤s.heap.objs.size:=Nat.le_trans I.ok.above (Nat.le_of_lt I.lt)
theorem Inv.Ma(I:Inv X pins σ H s){a:Addr}(h:s.heap.objs.size≤a):a∉X.fs:=λ hb=>by obtain⟨_,o,ho,_⟩:=I.ok.sE.mem hb;exact absurd (Nat.lt_of_lt_of_le (Heap.lt_size ho) (Nat.le_trans I.sz h)) (Nat.lt_irrefl _)
theorem Inv.M_(I:Inv X pins σ H s):∀x c,X.env.cells.lookup x=some c->c≠X.env.locals:=λ x c e z=>by obtain⟨v,o,ho,hd⟩:=I.cell x c e;obtain⟨m,⟨o',es,ep,Cr,K?,_⟩,_⟩:=I.loc;rw[z,Cr]at ho;cases ho;rw[K?]at hd;cases hd
theorem Inv.sE(I:Inv X pins σ H s):s.heap.FunFrames X.base X.outer:=by
  have all:∀(l:List Env),(∀b∈DN l,b∈X.fs)->X.s₀.heap.FunFrames X.base l->s.heap.FunFrames X.base l:=by
    intro l
    induction l with
    | nil=>intro _ _;trivial
    | cons env r ih =>intro hs hl;obtain⟨hk,⟨L,o,hf,hn,ho,hd⟩,hr⟩:=hl;have hL:L∈X.fs:=hs L (by unfold DN;rw[List.filterMap_cons,hf];exact List.mem_cons_self);obtain⟨sl,e⟩:=I.base.slot L o ho (I.ok.MY L hL) hL λ z=>I.ok.J! L z hL;exact⟨hk,⟨L,_,hf,hn,e,hd⟩,ih (λ b hb=>hs b (by unfold DN;rw[List.filterMap_cons,hf];exact List.mem_cons_of_mem _ hb)) hr⟩
  exact all X.outer (λ _ hb=>hb) I.ok.sE
theorem Inv.stack(I:Inv X pins σ H s):s.heap.FunFrames X.base X.stack:=by
  rcases I.ok.RA with e | ⟨e,hf⟩
  ·rw[e];exact I.sE
  · rw[e];obtain⟨m,hn,_⟩:=I.loc;refine .cons (by rw[I.ok.kind];decide) hf hn ?_ I.sE;exact Heap.get?_none_of_le (Nat.le_trans I.ok.Ig I.ok.above)
theorem Inv.va(I:Inv X pins σ H s):∀b∈DN X.stack,b∈X.env.locals :: X.fs:=λ b hb=>by
  rcases I.ok.RA with e | ⟨e,hf⟩
  ·rw[e]at hb;exact List.mem_cons_of_mem _ hb
  · rw[e]at hb;unfold DN at hb;rw[List.filterMap_cons,hf]at hb;exact hb
theorem Inv.yx(I:Inv X pins σ H s):∀b∈DN X.stack,H b=none:=λ b hb=>by
  rcases List.mem_cons.mp (I.va b hb)with e | hb
  ·rw[e];exact I.free
  · obtain⟨_,o,ho,_⟩:=I.ok.sE.mem hb;exact I.base.free b o ho (I.ok.MY b hb) λ z=>I.ok.J! b z hb
theorem Inv.step{g':Array GenState}{t':Nat}{d':Drawn}{ch:List Addr}(I:Inv X pins σ H s)
    (H?:∀b∈ch,(b∈X.ex∨X.s₀.heap.objs.size≤b)∧b≠X.env.locals∧(∀x c,X.env.cells.lookup x=some c->c≠b)∧∀p∈X.pn++pins,p.1≠b)
    (keep:∀b o,b≠X.env.locals->b∉X.fs->b∉ch->s.heap.get? b=some o->H b=none->h'.get? b=some o)
    (slot:∀b o,b≠X.env.locals->b∈X.fs->b∉ch->s.heap.get? b=some o->H b=none->∃sl,h'.get? b=some { o with slots:=sl }) (free:∀b o,b∉ch->s.heap.get? b=some o->H b=none->H' b=none)
    (there:∀b o,b∉ch->s.heap.get? b=some o->∃o',h'.get? b=some o')
    (yr:∀b xs,H b=some (.tup xs)->H' b=some (.tup xs)) (xq:∀b o u,H b=some (.i! o u)->H' b=some (.i! o u)) (u9:∀b u,Rc u->H b=some u->H' b=some u)
    (ns:∀m,s.heap.Ns X.env.locals m->h'.Ns X.env.locals m) (dW:sZ X.prog X.w H' h') (hg:AllBare g') :
    Inv X pins σ H' { s with heap:=h',gens:=g',drawn:=d',toks:=t' }:=by
  have WD:∀b o,X.s₀.heap.get? b=some o->b≠X.env.locals:=λ b o e=>Nat.ne_of_lt (Nat.lt_of_lt_of_le (Heap.lt_size e) I.ok.above);have NA:∀b o,X.s₀.heap.get? b=some o->b∉X.ex->b∉ch:=λ b o e hx hb=>by
    rcases(H? b hb).1 with z | z
    ·exact hx z
    ·exact absurd (Nat.lt_of_lt_of_le (Heap.lt_size e) z) (Nat.lt_irrefl _)
  have cellK:∀x c,X.env.cells.lookup x=some c->∀v,s.heap.IsCell c v->h'.IsCell c v:=λ x c e v ⟨o,ho,hd⟩=>by
    have GA:c∉ch:=λ z=>(H? c z).2.2.1 x c e rfl;by_cases hc:c∈X.fs
    · obtain⟨sl,q⟩:=slot c o (I.M_ x c e) hc GA ho (I.oq x c e);exact⟨_,q,hd⟩
    ·exact⟨o,keep c o (I.M_ x c e) hc GA ho (I.oq x c e),hd⟩
  refine⟨I.ok,I.os,hg,⟨λ b o e n hb hx=>?_,λ b o e n hb hx=>?_,λ b o e n hx=>?_,λ b o e hx=>?_,λ b xs e=>yr b xs (I.base.yr b xs e),λ b o xs e=>xq b o xs (I.base.xq b o xs e),λ b u p e=>u9 b u p (I.base.u9 b u p e)⟩,?_,λ x c e=>?_,?_,λ x c e=>?_,λ p hp=>?_,dW,I.len,I.tab.up u9⟩
  ·exact keep b o (WD b o e) hb (NA b o e hx) (I.base.keep b o e n hb hx) (I.base.free b o e n hx)
  · obtain⟨sl,e1⟩:=I.base.slot b o e n hb hx;obtain⟨Yf,e2⟩:=slot b _ (WD b o e) hb (NA b o e hx) e1 (I.base.free b o e n hx);exact⟨Yf,e2⟩
  · obtain⟨o',e1⟩:=I.base.there b o e hx;exact free b o' (NA b o e hx) e1 (I.base.free b o e n hx)
  · obtain⟨o',e1⟩:=I.base.there b o e hx;exact there b o' (NA b o e hx) e1
  · obtain⟨m,hn,hl⟩:=I.loc;refine⟨m,ns m hn,λ i x v e1 e2 e3=>?_⟩;obtain⟨u,r,l⟩:=hl i x v e1 e2 e3;refine⟨u,r,?_⟩;rcases l with l | ⟨k,c,e,z⟩
    ·exact .inl l
    ·exact .inr ⟨k,c,e,cellK x c e _ z⟩
  · obtain⟨v,z⟩:=I.cell x c e;exact⟨v,cellK x c e v z⟩
  · obtain⟨m,⟨o,_,_,ho,_⟩,_⟩:=I.loc;exact free _ o (λ z=>(H? _ z).2.1 rfl) ho I.free
  · obtain⟨v,o,ho,hd⟩:=I.cell x c e;exact free c o (λ z=>(H? c z).2.2.1 x c e rfl) ho (I.oq x c e)
  · obtain⟨e,n,ne,nf,d⟩:=I.pin p hp;have GA:p.1∉ch:=λ z=>(H? p.1 z).2.2.2 p hp rfl;exact⟨keep p.1 p.2 ne nf GA e n,free p.1 p.2 GA e n,ne,nf,d⟩
theorem Inv.un{t':Nat}(I:Inv X pins σ H s)(u:Un X.fs [] H H' s.heap h')(dW:sZ X.prog X.w H' h'):Inv X pins σ H' { s with heap:=h',toks:=t' }:=by
  obtain⟨m,⟨o,es,ep,ho,r⟩,_⟩:=id I.loc;obtain⟨sl,hL⟩:=u.any ho I.free (by simp);exact I.step (g':=s.gens) (d':=s.drawn) (ch:=[]) (λ _ z=>nomatch z) (λ b o _ hb _ e n=>u.keep b o e n hb (by simp)) (λ b o _ hb _ e n=>u.slot b o e n hb (by simp)) (λ b o _ e n=>u.free b o e n (by simp)) (λ b o _ e=>u.there b o e (by simp)) u.yr u.xq u.u9 (λ m' hm=>by obtain⟨o',VF,VH,Cr,r'⟩:=hm;rw[ho]at Cr;cases Cr;exact⟨_,VF,VH,hL,r'⟩) dW I.bare
theorem Inv.call{g':Array GenState}{t':Nat}{d':Drawn}{ch:List Addr}(I:Inv X pins σ H s)(u:Un (DN X.stack) ch H H' s.heap h')(dW:sZ X.prog X.w H' h')(hg:AllBare g')
    (H?:∀b∈ch,(b∈X.ex∨X.s₀.heap.objs.size≤b)∧b≠X.env.locals∧(∀x c,X.env.cells.lookup x=some c->c≠b)∧∀p∈X.pn++pins,p.1≠b) :
    Inv X pins σ H' { s with heap:=h',gens:=g',drawn:=d',toks:=t' }:=by
  obtain⟨m,⟨o,es,ep,ho,r⟩,_⟩:=id I.loc;obtain⟨sl,hL⟩:=u.any ho I.free λ z=>(H? _ z).2.1 rfl;exact I.step (ch:=ch) H? (λ b o hL hb hc e n=>u.keep b o e n (λ z=>(List.mem_cons.mp (I.va b z)).elim hL hb) hc) (λ b o _ _ hc e n=>u.any e n hc) (λ b o hc e n=>u.free b o e n hc) (λ b o hc e=>u.there b o e hc) u.yr u.xq u.u9 (λ m' hm=>by obtain⟨o',VF,VH,Cr,r'⟩:=hm;rw[ho]at Cr;cases Cr;exact⟨_,VF,VH,hL,r'⟩) dW hg
theorem Inv.turned{t':Nat}{it:Addr}(I:Inv X pins σ H s)(k:∀b o,b≠it->s.heap.get? b=some o->h'.get? b=some o)(hn:H it=none)(hL:it≠X.env.locals)
    (h1:it∈X.ex∨X.s₀.heap.objs.size≤it) (h2:∀x c,X.env.cells.lookup x=some c->c≠it) (h3:∀p∈X.pn++pins,p.1≠it):Inv X pins σ H { s with heap:=h',toks:=t' }:=by
  have WC:∀b u,H b=some u->b≠it:=λ b u e z=>by rw[z,hn]at e;cases e
  refine I.step (g':=s.gens) (d':=s.drawn) (ch:=[it]) (λ b hb=>?_) (λ b o _ _ hc e _=>k b o (λ z=>hc (by simp[z])) e) (λ b o _ _ hc e _=>⟨o.slots,k b o (λ z=>hc (by simp[z])) e⟩) (λ _ _ _ _ n=>n)
    (λ b o hc e=>⟨o,k b o (λ z=>hc (by simp[z])) e⟩) (λ _ _ e=>e) (λ _ _ _ e=>e) (λ _ _ _ e=>e) (λ m hm=>?_) (λ b u e=>?_) I.bare
  · have e:b=it:=by simpa using hb
    subst e;exact⟨h1,hL,h2,h3⟩
  · obtain⟨o,es,ep,ho,r⟩:=hm;exact⟨o,es,ep,k _ o (Ne.symm hL) ho,r⟩
  · refine(I.dW b u e).vc (λ c v hc q=>k c v ?_ q) (λ _ q=>q) (λ _ _ q=>q) λ _ _ _ q=>q;rcases hc with z | z
    ·rw[z];exact WC b u e
    ·exact WC c _ z
theorem Inv.tok(I:Inv X pins σ H s)(t:Nat):Inv X pins σ H { s with toks:=t }:=I.un (h':=s.heap) (t':=t) Un.refl I.dW
theorem Inv.kept{t':Nat}(I:Inv X pins σ H s)(k:∀b u,s.heap.get? b=some u->h'.get? b=some u):Inv X pins σ H { s with heap:=h',toks:=t' }:=I.un (Un.kept k) (I.dW.kept k)
theorem Inv.laid{a:Addr}{o:HO}{t':Nat}(I:Inv X pins σ H s)(k:∀b u,s.heap.get? b=some u->h'.get? b=some u)(hp:s.heap.objs.size≤a)(new:js X.prog X.w (upd H a o) h' a o):
    Inv X pins σ (upd H a o) { s with heap:=h',toks:=t' }:=I.un (Un.laid k hp (I.dW.fresh hp)) (I.dW.laid k hp new)
theorem Inv.write{x e:Addr}{o:HO}{t':Nat}(I:Inv X pins σ H s)(mu:S7 (H x))(he:e=x∨H e=some (.own x))(k:∀b u,b≠e->s.heap.get? b=some u->h'.get? b=some u)(NS:∃u,h'.get? e=some u)
    (new:js X.prog X.w (upd H x o) h' x o):Inv X pins σ (upd H x o) { s with heap:=h',toks:=t' }:=I.un (Un.write mu he k NS) (I.dW.write mu he k NS new)
theorem Inv.Dh{vw:List (Addr×Obj)}(I:Inv X pins σ H s)(h:∀p∈vw,s.heap.get? p.1=some p.2∧H p.1=none∧p.1≠X.env.locals∧p.1∉X.fs∧∀v,p.2.data≠.cell v):Inv X vw σ H s :=
  ⟨I.ok,I.os,I.bare,I.base,I.loc,I.cell,I.free,I.oq,λ p hp=>(List.mem_append.mp hp).elim (λ z=>I.pin p (List.mem_append_left _ z)) (h p),I.dW,I.len,I.tab⟩
theorem AW{N:List Str}(hN:N.Nodup){i j:Nat}{x:Str}(a:N[i]?=some x)(b:N[j]?=some x):i=j:=by obtain⟨h1,e1⟩:=List.getElem?_eq_some_iff.mp a;obtain⟨h2,e2⟩:=List.getElem?_eq_some_iff.mp b;exact(List.getElem_inj hN).mp (e1.trans e2.symm)
theorem xM {M : Model} {A : Around} {E : Value -> Shared -> Prop} {i : Nat} {x : Str} {v : V} {u : Value} {Q : Unit -> Shared -> Prop} (I : Inv X pins σ H s) (hN : X.N.Nodup) (hi : X.N[i]? = some x) (hx : Loc X.env.scope x) (r : RelV v u)
    (h:∀s',Inv X pins (σ.set i (some v)) H s'->(∃a,Heap.SameBut a s.heap s'.heap∧(a=X.env.locals∨X.env.cells.lookup x=some a))->Q () s') (hf:X.fn x=true∨X.env.scope.names.lookup x=some .local:=by first | exact .inl rfl | exact .inr rfl | assumption):wpAny M A (storeName X.env x u) Q E s:=by
  obtain⟨m,hn,hl⟩:=id I.loc;have Vl:(X.env.scope.kind==.class || (X.env.scope.kind==.module&&X.env.locals != X.env.globals))=false:=by rw[I.ok.kind];rfl
  have W7:i < σ.length:=by rw[I.len];exact(List.getElem?_eq_some_iff.mp hi).1
  have M_:=I.M_;have tracked:∀{a:Addr}{h':Heap},(∃o,s.heap.get? a=some o∧H a=none)->Heap.SameBut a s.heap h'->sZ X.prog X.w H h':=λ {a h'} ha hs b ob e=>by
    obtain⟨_,_,ug⟩:=ha;refine(I.dW b ob e).vc (λ c w' hc q=>(hs.2 c ?_).trans q) (λ _ q=>q) (λ _ _ q=>q) λ _ _ _ q=>q;rintro rfl;rcases hc with rfl | hc
    ·rw[ug]at e;cases e
    ·rw[ug]at hc;cases hc
  rcases hx with hk | hk
  · refine wpAny_storeName_local hk hn (λ h' UX hs=>?_) Vl;obtain⟨oL,_,_,Y1,_⟩:=id hn;refine h _ ⟨I.ok,I.os,I.bare,⟨λ b o e n hb hx=>?_,λ b o e n hb hx=>?_,I.base.free,λ b o e hx=>?_,I.base.yr,I.base.xq,I.base.u9⟩,⟨_,UX,λ j y v' e1 e2 e3=>?_⟩,λ y c e=>?_,I.free,I.oq,λ p hp=>?_,tracked ⟨oL,Y1,I.free⟩ hs,by simpa using I.len,I.tab⟩ ⟨_,hs,.inl rfl⟩
    ·exact(hs.2 b (Nat.ne_of_lt (Nat.lt_of_lt_of_le (Heap.lt_size e) I.ok.above))).trans (I.base.keep b o e n hb hx)
    · obtain⟨sl,e1⟩:=I.base.slot b o e n hb hx;exact⟨sl,(hs.2 b (Nat.ne_of_lt (Nat.lt_of_lt_of_le (Heap.lt_size e) I.ok.above))).trans e1⟩
    · obtain⟨o',e1⟩:=I.base.there b o e hx;exact⟨o',(hs.2 b (Nat.ne_of_lt (Nat.lt_of_lt_of_le (Heap.lt_size e) I.ok.above))).trans e1⟩
    · by_cases hj:j=i
      · subst hj;rw[hi]at e1;cases e1;rw[List.getElem?_set_self W7]at e2;cases e2;exact⟨u,r,.inl ⟨hk,by simp⟩⟩
      · rw[List.getElem?_set_ne (Ne.symm hj)]at e2;obtain⟨u',r',q⟩:=hl j y v' e1 e2 e3;refine⟨u',r',?_⟩;rcases q with⟨k,e⟩ | ⟨k,c,e,z⟩
        · refine .inl ⟨k,?_⟩;have:y≠x:=λ e=>hj (AW hN e1 (e▸hi));simp[this,e]
        ·exact .inr ⟨k,c,e,z.sameBut hs (M_ y c e)⟩
    · obtain⟨w',z⟩:=I.cell y c e;exact⟨w',z.sameBut hs (M_ y c e)⟩
    · obtain⟨e,n,ne,nf,d⟩:=I.pin p hp;exact⟨(hs.2 p.1 ne).trans e,n,ne,nf,d⟩
  · have Qf:X.fn x=true:=by
      rcases hf with z | z
      ·exact z
      ·rw[z]at hk;cases hk
    obtain⟨c,hc⟩:=I.ok.has x (.inl hk);obtain⟨w',z⟩:=I.cell x c hc;refine wpAny_storeName_cell I.ok.kind hk hc z (λ h' Fy hs=>?_);obtain⟨oc,Sx,UQ⟩:=id z;refine h { s with heap:=h' } ⟨I.ok,I.os,I.bare,⟨λ b o e n hb hx=>?_,λ b o e n hb hx=>?_,I.base.free,λ b o e hx=>?_,I.base.yr,I.base.xq,I.base.u9⟩,⟨m,hn.sameBut hs (Ne.symm (M_ x c hc)),λ j y v' e1 e2 e3=>?_⟩,λ y c' e=>?_,I.free,I.oq,λ p hp=>?_,tracked ⟨oc,Sx,I.oq x c hc⟩ hs,by simpa using I.len,I.tab⟩ ⟨c,hs,.inr hc⟩
    ·exact(hs.2 b (Nat.ne_of_lt (Nat.lt_of_lt_of_le (Heap.lt_size e) (I.ok.QV x c Qf hc)))).trans (I.base.keep b o e n hb hx)
    · obtain⟨sl,e1⟩:=I.base.slot b o e n hb hx;exact⟨sl,(hs.2 b (Nat.ne_of_lt (Nat.lt_of_lt_of_le (Heap.lt_size e) (I.ok.QV x c Qf hc)))).trans e1⟩
    · obtain⟨o',e1⟩:=I.base.there b o e hx;exact⟨o',(hs.2 b (Nat.ne_of_lt (Nat.lt_of_lt_of_le (Heap.lt_size e) (I.ok.QV x c Qf hc)))).trans e1⟩
    · by_cases hj:j=i
      · subst hj;rw[hi]at e1;cases e1;rw[List.getElem?_set_self W7]at e2;cases e2;exact⟨u,r,.inr ⟨.inl hk,c,hc,Fy⟩⟩
      · rw[List.getElem?_set_ne (Ne.symm hj)]at e2;obtain⟨u',r',q⟩:=hl j y v' e1 e2 e3;refine⟨u',r',?_⟩;rcases q with q | ⟨k,c',e,z'⟩
        ·exact .inl q
        · refine .inr ⟨k,c',e,z'.sameBut hs ?_⟩;rintro rfl;exact hj (AW hN e1 (I.ok.inj _ _ _ e hc▸hi))
    · by_cases SH:c'=c
      ·subst SH;exact⟨_,Fy⟩
      · obtain⟨w2,z2⟩:=I.cell y c' e;exact⟨w2,z2.sameBut hs SH⟩
    · obtain⟨e,n,ne,nf,d⟩:=I.pin p hp;refine⟨(hs.2 p.1 ?_).trans e,n,ne,nf,d⟩;intro q;rw[q,Sx]at e;have q':oc=p.2:=Option.some.inj e;exact d w' (by rw[<-q'];exact UQ)
theorem u_{M:Model}{A:Around}{E:Value->Shared->Prop}{i:Nat}{x:Str}{v:V}{u:Value}{Q:Unit->Shared->Prop}(I:Inv X pins σ H s)(hN:X.N.Nodup)(hi:X.N[i]?=some x)(hx:Loc X.env.scope x)(r:RelV v u)
    (h:∀s',Inv X pins (σ.set i (some v)) H s'->Q () s') (hf:X.fn x=true∨X.env.scope.names.lookup x=some .local:=by first | exact .inl rfl | exact .inr rfl | assumption):wpAny M A (storeName X.env x u) Q E s :=
  xM I hN hi hx r (λ s' I' _=>h s' I') hf
theorem Inv.Lc{s':Shared}{ch:List Addr}(I:Inv X pins σ H s)(ho:s'.os=s.os)(u:Un (DN X.stack) ch H H' s.heap s'.heap)(dW:sZ X.prog X.w H' s'.heap)(hg:AllBare s'.gens)
    (H?:∀b∈ch,(b∈X.ex∨X.s₀.heap.objs.size≤b)∧b≠X.env.locals∧(∀x c,X.env.cells.lookup x=some c->c≠b)∧∀p∈X.pn++pins,p.1≠b):Inv X pins σ H' s':=by
  obtain⟨h',g',d',t',o'⟩:=s';have e:o'=s.os:=ho;subst e;exact I.call (g':=g') (t':=t') (d':=d') u dW hg H?
end
abbrev XK:=Value->Option Addr->Hp->Prop
abbrev St:=List (Option V)
abbrev VK:=V->Hp->Prop
abbrev TE:=St->Hp->VK->Prop
abbrev TT:=St->Hp->(Bool->Hp->Prop)->Prop
abbrev TA:=St->Hp->(List V->Hp->Prop)->Prop
structure Ends where
  nx:St->Hp->Prop
  rt:VK
  bk:St->Hp->Prop:=λ _ _=>False
  ct:St->Hp->Prop:=λ _ _=>False
abbrev TS:=Ends->St->Hp->Prop
def EP(X:Cx)(pins:List (Addr×Obj))(σ:St)(Q:VK)(u:Value)(s':Shared):Prop:=∃v H',Inv X pins σ H' s'∧RelV v u∧Q v H'
def TP(X:Cx)(pins:List (Addr×Obj))(σ:St)(Q:Bool->Hp->Prop)(b:Bool)(s':Shared):Prop:=∃H',Inv X pins σ H' s'∧Q b H'
def AP(X:Cx)(pins:List (Addr×Obj))(σ:St)(Q:List V->Hp->Prop)(us:List Value)(s':Shared):Prop:=∃vs H',Inv X pins σ H' s'∧Vals vs us∧Q vs H'
def SP(X:Cx)(pins:List (Addr×Obj))(D:Ends)(f:Flow)(s':Shared):Prop :=
  match f with
  | .next=>∃σ' H',Inv X pins σ' H' s'∧D.nx σ' H'
  | .brk=>∃σ' H',Inv X pins σ' H' s'∧D.bk σ' H'
  | .cont=>∃σ' H',Inv X pins σ' H' s'∧D.ct σ' H'
  | .ret u=>∃v σ' H',Inv X pins σ' H' s'∧RelV v u∧D.rt v H'
def PE(X:Cx)(e:Expr)(t:TE):Prop :=
  ∀(pins:List (Addr×Obj))(s:Shared)(σ:St)(H:Hp)(Q:VK),Inv X pins σ H s->t σ H Q->wpAny (model X.prog X.w) X.A (eval e X.env) (EP X pins σ Q) X.xe s
def PT(X:Cx)(e:Expr)(t:TT):Prop :=
  ∀(pins:List (Addr×Obj))(s:Shared)(σ:St)(H:Hp)(Q:Bool->Hp->Prop),Inv X pins σ H s->t σ H Q->wpAny (model X.prog X.w) X.A (isTrue e X.env (eval e X.env)) (TP X pins σ Q) X.xe s
def PW(X:Cx)(e:Expr)(t:TT):Prop :=
  ∀(whole:Sem Value)(pins:List (Addr×Obj))(s:Shared)(σ:St)(H:Hp)(Q:Bool->Hp->Prop),Inv X pins σ H s->t σ H Q->wpAny (model X.prog X.w) X.A (isTrue e X.env whole) (TP X pins σ Q) X.xe s
theorem PW.pt{X:Cx}{e:Expr}{t:TT}(h:PW X e t):PT X e t:=h _
def PA(X:Cx)(es:List Expr)(t:TA):Prop :=
  ∀(pos:Pos)(pins:List (Addr×Obj))(s:Shared)(σ:St)(H:Hp)(Q:List V->Hp->Prop),Inv X pins σ H s->t σ H Q->wpAny (model X.prog X.w) X.A (spliced (backTo pos (starEach es X.env))) (AP X pins σ Q) X.xe s
def PS(X:Cx)(st:Stmt)(t:TS):Prop :=
  ∀(pins:List (Addr×Obj))(s:Shared)(σ:St)(H:Hp)(D:Ends),Inv X pins σ H s->t D σ H->wpAny (model X.prog X.w) X.A (exec st X.env) (SP X pins D) X.xe s
def yp(X:Cx)(st:List Stmt)(t:TS):Prop :=
  ∀(pins:List (Addr×Obj))(s:Shared)(σ:St)(H:Hp)(D:Ends),Inv X pins σ H s->t D σ H->wpAny (model X.prog X.w) X.A (execs st X.env) (SP X pins D) X.xe s
theorem d!{α:Type}{t:Sem α}{Q Q':α->Shared->Prop}{M:Model}{A:Around}{E:Value->Shared->Prop}{s:Shared}(h:wpAny M A t Q E s)(hQ:∀a s,Q a s->Q' a s):wpAny M A t Q' E s:=wpAny_mono h hQ λ _ _ x=>x
end L2
namespace L2
open PySem PySem.Spec PyProof.Rows
section
variable {X:Cx}
def yu(i:Nat):TE:=λ σ H Q=>∃v,σ[i]?=some (some v)∧Q v H
def tC(v:V):TE:=λ _ H Q=>Q v H
theorem B5{i:Nat}{x:Str}{pos:Pos}(hN:X.N[i]?=some x)(hv:Ii X.env.scope x)(hd:(x==("__debug__" : Str))=false:=by decide)(hcd:(x==("__classdict__" : Str))=false:=by decide):PE X (.Name x pos) (yu i):=by
  intro pins s σ H Q I h;obtain⟨v,e,h⟩:=h;obtain⟨m,hn,hl⟩:=I.loc;obtain⟨u,r,l⟩:=hl i x v hN e hv;have fin:EP X pins σ Q u s:=⟨v,H,I,r,h⟩
  rcases l with⟨hk,hm⟩ | ⟨hk,c,hc,uh⟩
  ·exact wpAny_Name (wpAny_loadName_local I.ok.kind hk hn hm fin) hd
  · rcases hk with hk | hk
    ·exact wpAny_Name (wpAny_loadName_cell I.ok.kind hk hc uh fin) hd
    ·exact wpAny_Name (wpAny_loadName_free I.ok.kind hk hc uh fin hcd) hd
theorem LW{i j pos}:PE X (.Constant (.int i) j pos) (tC (.int i)):=λ _ _ _ H _ I h=>wpAny_Constant_int ⟨.int i,H,I.tok _,⟨_,rfl⟩,h⟩
theorem Gh{b j pos}:PE X (.Constant (.bool b) j pos) (tC (.bl b)):=λ _ _ _ H _ I h=>Constant_bool ⟨.bl b,H,I,rfl,h⟩
theorem vA{j pos}:PE X (.Constant .none j pos) (tC .non):=λ _ _ _ H _ I h=>Constant_none ⟨.non,H,I,rfl,h⟩
theorem LR{x j pos}:PE X (.Constant (.str x) j pos) (tC (.str x)):=λ _ _ _ H _ I h=>Calls.Constant_str ⟨.str x,H,I.tok _,⟨_,rfl⟩,h⟩
def Gl(X:Cx)(x:Str):Prop:=X.env.kindOf x=some .globalImplicit
theorem Dz{E:Value->Shared->Prop}{pins:List (Addr×Obj)}{s:Shared}{σ:St}{H:Hp}{x:Str}{u:Value}{pos:Pos}{Q:Value->Shared->Prop}(I:Inv X pins σ H s)(hg:Gl X x)(hm:X.mg x=some u)(h:Q u s)
    (hd:(x==("__debug__" : Str))=false:=by decide):wpAny (model X.prog X.w) X.A (eval (.Name x pos) X.env) Q E s :=
  Calls.Name_function_global I.ok.kind hg (Calls.loadGlobal_global (by rw[I.ok.glob];exact I.mod.glob.keeps I.bk) hm h) hd
theorem mw{E:Value->Shared->Prop}{pins:List (Addr×Obj)}{s:Shared}{σ:St}{H:Hp}{x:Str}{u:Value}{pos:Pos}{Q:Value->Shared->Prop}(I:Inv X pins σ H s)(hg:Gl X x)(hm:X.mg x=none)(hv:bootBuiltins x=some u)(h:Q u s)
    (hn:x ≠ "__name__" := by decide) (hd:(x==("__debug__" : Str))=false:=by decide):wpAny (model X.prog X.w) X.A (eval (.Name x pos) X.env) Q E s:=by
  obtain⟨mb,h1,h2⟩:=I.mod.blt;exact Calls.Name_function_global I.ok.kind hg (Calls.loadGlobal_builtin (by rw[I.ok.glob];exact I.mod.glob.keeps I.bk) hm (by rw[I.ok.blt];exact h1.keeps I.bk) ((h2 x hn).trans hv) h) hd
theorem IZ{x:Str}{v:V}{u:Value}{pos:Pos}(hg:Gl X x)(hm:X.mg x=some u)(r:RelV v u)(hd:(x==("__debug__" : Str))=false:=by decide):PE X (.Name x pos) (tC v) :=
  λ _ _ _ H _ I h=>Dz I hg hm ⟨v,H,I,r,h⟩ hd
theorem I!{x:Str}{v:V}{u:Value}{pos:Pos}(hg:Gl X x)(hm:X.mg x=none)(hv:bootBuiltins x=some u)(r:RelV v u)(hn:x ≠ "__name__" := by decide)(hd:(x==("__debug__" : Str))=false:=by decide):PE X (.Name x pos) (tC v) :=
  λ _ _ _ H _ I h=>mw I hg hm hv ⟨v,H,I,r,h⟩ hn hd
variable {a b:Expr}{ta tb:TE}{pos:Pos}
def tB(t:TE):TT:=λ σ H Q=>t σ H λ x H1=>∃c,x=.bl c∧Q c H1
theorem LJ{e:Expr}{t:TE}(h:PE X e t)(he:∀whole,isTrue e X.env whole=(do let v ←whole;standAt e.pos;holding [v] (truthy v)):=by intro _;rfl):PT X e (tB t):=by intro pins s σ H Q I hw;refine isTrue_plain (d! (h pins s σ H _ I hw) λ v s1 ⟨x,H1,I1,r1,q1⟩=>?_) (he _);obtain⟨d,rfl,q⟩:=q1;cases r1;exact wpAny_truthy_bool ⟨H1,I1,q⟩
variable {tA Rz:TT}{rest:List Expr}
def l6(t u:TT):TT:=λ σ H Q=>t σ H λ c H1=>if c=true then u σ H1 Q else Q false H1
def yv(t u:TT):TT:=λ σ H Q=>t σ H λ c H1=>if c=true then Q true H1 else u σ H1 Q
def nA(t:TT):TT:=λ σ H Q=>t σ H λ c H1=>Q (!c) H1
theorem pw_and1(ha:PT X a tA):PW X (.BoolOp .And [a] pos) tA:=by
  intro wh pins s σ H Q I h;refine isTrue_and (d! (ha pins s σ H Q I h) λ c s1 e=>?_);cases c with
  | true=>exact isTrue_and_nil e
  | false=>exact e
theorem pw_or1(ha:PT X a tA):PW X (.BoolOp .Or [a] pos) tA:=by
  intro wh pins s σ H Q I h;refine isTrue_or (d! (ha pins s σ H Q I h) λ c s1 e=>?_);cases c with
  | false=>exact isTrue_or_nil e
  | true=>exact e
theorem pw_and(ha:PT X a tA)(hb:PW X (.BoolOp .And (b :: rest) pos) Rz):PW X (.BoolOp .And (a :: b :: rest) pos) (l6 tA Rz):=by
  intro wh pins s σ H Q I h;refine isTrue_and (d! (ha pins s σ H _ I h) λ c s1 ⟨H1,I1,q1⟩=>?_);cases c with
  | true=>exact hb wh pins s1 σ H1 Q I1 q1
  | false=>exact⟨H1,I1,q1⟩
theorem pw_or(ha:PT X a tA)(hb:PW X (.BoolOp .Or (b :: rest) pos) Rz):PW X (.BoolOp .Or (a :: b :: rest) pos) (yv tA Rz):=by
  intro wh pins s σ H Q I h;refine isTrue_or (d! (ha pins s σ H _ I h) λ c s1 ⟨H1,I1,q1⟩=>?_);cases c with
  | true=>exact⟨H1,I1,q1⟩
  | false=>exact hb wh pins s1 σ H1 Q I1 q1
theorem LK(ha:PT X a tA):PT X (.UnaryOp .Not a pos) (nA tA):=by intro pins s σ H Q I h;exact isTrue_not (ha pins s σ H (λ c H1=>Q (!c) H1) I h)
def Oc(ta tb:TE):TE:=λ σ H Q=>ta σ H λ x H1=>∃c,x=.bl c∧if c=true then tb σ H1 Q else Q (.bl false) H1
def Tf(ta tb:TE):TE:=λ σ H Q=>ta σ H λ x H1=>∃c,x=.bl c∧if c=true then Q (.bl true) H1 else tb σ H1 Q
def N!(ta:TE):TE:=λ σ H Q=>ta σ H λ x H1=>∃c,x=.bl c∧Q (.bl (!c)) H1
theorem LS{op}{t:TE}(h:PE X a t):PE X (.BoolOp op [a] pos) t:=λ pins s σ H Q I hw=>BoolOp_one (h pins s σ H Q I hw)
theorem LX(ha:PE X a ta)(hb:PE X (.BoolOp .And (b :: rest) pos) tb):PE X (.BoolOp .And (a :: b :: rest) pos) (Oc ta tb):=by
  intro pins s σ H Q I h;refine BoolOp_and (d! (ha pins s σ H _ I h) λ v s1 ⟨x,H1,I1,r1,q1⟩=>?_);obtain⟨c,rfl,q1⟩:=q1;cases r1;refine wpAny_truthy_bool ?_;cases c with
  | true=>exact hb pins s1 σ H1 Q I1 q1
  | false=>exact⟨.bl false,H1,I1,rfl,q1⟩
theorem OM(ha:PE X a ta)(hb:PE X (.BoolOp .Or (b :: rest) pos) tb):PE X (.BoolOp .Or (a :: b :: rest) pos) (Tf ta tb):=by
  intro pins s σ H Q I h;refine BoolOp_or (d! (ha pins s σ H _ I h) λ v s1 ⟨x,H1,I1,r1,q1⟩=>?_);obtain⟨c,rfl,q1⟩:=q1;cases r1;refine wpAny_truthy_bool ?_;cases c with
  | false=>exact hb pins s1 σ H1 Q I1 q1
  | true=>exact⟨.bl true,H1,I1,rfl,q1⟩
theorem LU(ha:PE X a ta):PE X (.UnaryOp .Not a pos) (N! ta):=by intro pins s σ H Q I h;refine UnaryOp_ (d! (ha pins s σ H _ I h) λ v s1 ⟨x,H1,I1,r1,q1⟩=>?_);obtain⟨c,rfl,q1⟩:=q1;cases r1;exact not_of (wpAny_truthy_bool ⟨.bl (!c),H1,I1,rfl,q1⟩)
def X!(t:TT)(ta tb:TE):TE:=λ σ H Q=>t σ H λ c H1=>if c=true then ta σ H1 Q else tb σ H1 Q
theorem Gf{c:Expr}(hc:PT X c tA)(ha:PE X a ta)(hb:PE X b tb):PE X (.IfExp c a b pos) (X! tA ta tb):=by
  intro pins s σ H Q I h;refine wpAny_IfExp (d! (hc pins s σ H _ I h) λ d s1 ⟨H1,I1,q1⟩=>?_);cases d with
  | true=>exact ha pins s1 σ H1 Q I1 q1
  | false=>exact hb pins s1 σ H1 Q I1 q1
end
end L2
namespace L2
open PySem PySem.Spec PyProof.Rows
def i? (K:PySem.W.Frag) (H:Hp) (a:Addr) (xs:List V):Prop :=
  Rd H a (.lst xs) ∨
    ∃(o:Obj) (aY:Array Value) (n:Nat),K.lookup a=some o∧o.cls=.type "list" ∧ o.dict=none∧o.data=.seq aY n∧aY.size≤sizeLine∧Vals xs aY.toList
def oH (K:PySem.W.Frag) (H:Hp) (a:Addr) (xs:List V):Prop :=
  Rd H a (.tup xs) ∨
    ∃(o:Obj) (aY:Array Value) (n:Nat),K.lookup a=some o∧o.cls=.type "tuple" ∧ o.data=.seq aY n∧aY.size≤sizeLine∧Vals xs aY.toList
def V2:Value->Option V
  | .none=>some .non
  | .bool b=>some (.bl b)
  | .int i _=>some (.int i)
  | .str x _=>some (.str x)
  | .bytes b _=>some (.QX b)
  | .float b _=>some (.Qz b)
  | .ref a=>some (.ref a)
  | .type n=>some (.ty n)
  | _=>none
theorem RelV.abs{x:V}{u:Value}(r:RelV x u):V2 u=some x:=by
  cases x with
  | non=>cases r;rfl
  | bl _=>cases r;rfl
  | int _=>obtain⟨t,rfl⟩:=r;rfl
  | str _=>obtain⟨t,rfl⟩:=r;rfl
  | QX _=>obtain⟨t,rfl⟩:=r;rfl
  | Qz _=>obtain⟨t,rfl⟩:=r;rfl
  | ref _=>cases r;rfl
  | ty _=>cases r;rfl
theorem RelV.inj{x y:V}{u:Value}(r:RelV x u)(q:RelV y u):x=y:=Option.some.inj (r.abs.symm.trans q.abs)
theorem Vals.inj:∀{xs ys:List V}{us:List Value},Vals xs us->Vals ys us->xs=ys
  | _,_,_,.nil,.nil=>rfl
  | _,_,_,.cons r t,.cons r' t'=>by rw[r.inj r',Vals.inj t t']
section
variable {X:Cx}{pins:List (Addr×Obj)}{σ:St}{H:Hp}{s:Shared}{a:Addr}{xs ys:List V}
theorem i?.of{K:PySem.W.Frag}(h:H a=some (.lst xs)):i? K H a xs:=.inl (.inl h)
theorem oH.of{K:PySem.W.Frag}(h:H a=some (.tup xs)):oH K H a xs:=.inl (.inl h)
theorem Inv.list(I:Inv X pins σ H s)(h:i? X.K H a xs):∃aY:List Value,Vals xs aY∧PlainL s.heap a aY.toArray∧xs.length≤sizeLine:=by
  rcases h with h | ⟨o,aY,n,hk,hc,hd,hs,hz,r⟩
  · obtain⟨z,aY,n,r,e⟩:=h.ok I.dW;exact⟨aY,r,⟨_,n,e,rfl,rfl,rfl⟩,z⟩
  · refine⟨aY.toList,r,⟨o,n,I.EO a o hk,hc,hd,by simpa using hs⟩,?_⟩;have e:=r.length;simp only[Array.length_toList]at e;lia
theorem Inv.tuple(I:Inv X pins σ H s)(h:oH X.K H a xs):∃aY:List Value,Vals xs aY∧IsTup s.heap a aY.toArray∧xs.length≤sizeLine:=by
  rcases h with h | ⟨o,aY,n,hk,hc,hs,hz,r⟩
  · obtain⟨z,aY,r,p⟩:=h.ok I.dW;exact⟨aY,r,p,z⟩
  · refine⟨aY.toList,r,⟨o,I.EO a o hk,hc,n,by simpa using hs⟩,?_⟩;have e:=r.length;simp only[Array.length_toList]at e;lia
theorem Inv.rf(I:Inv X pins σ H s)(h:i? X.K H a xs)(h':i? X.K H a ys):xs=ys:=by
  obtain⟨aY,r,⟨o,n,e,_,_,d⟩,_⟩:=I.list h;obtain⟨its',r',⟨o',n',e',_,_,d'⟩,_⟩:=I.list h';rw[e]at e';cases e';rw[d]at d';injection d' with d1 _
  have:aY=its':=by simpa using congrArg Array.toList d1
  subst this;exact r.inj r'
theorem Inv.rQ(I:Inv X pins σ H s)(h:oH X.K H a xs)(h':oH X.K H a ys):xs=ys:=by
  obtain⟨aY,r,⟨o,e,_,n,d⟩,_⟩:=I.tuple h;obtain⟨its',r',⟨o',e',_,n',d'⟩,_⟩:=I.tuple h';rw[e]at e';cases e';rw[d]at d';injection d' with d1 _
  have:aY=its':=by simpa using congrArg Array.toList d1
  subst this;exact r.inj r'
end
abbrev Cx.wish(X:Cx)(E:Value->Shared->Prop):Cx:={ X with xe:=E }
abbrev Cx.z8(X:Cx):Cx:=X.wish λ _ _=>False
theorem Cx.Ok.wish{X:Cx}(ok:X.Ok)(E:Value->Shared->Prop):(X.wish E).Ok :=
  ⟨ok.mod,ok.kind,ok.glob,ok.blt,ok.above,ok.inj,ok.has,ok.QV,ok.hd,ok.frames,ok.RA,ok.Xq,ok.bs,ok.Ig,ok.EG,ok.J!,ok.sE,ok.MY⟩
theorem Cx.Ok.nG{X:Cx}{E:Value->Shared->Prop}(ok:(X.wish E).Ok):X.Ok :=
  ⟨ok.mod,ok.kind,ok.glob,ok.blt,ok.above,ok.inj,ok.has,ok.QV,ok.hd,ok.frames,ok.RA,ok.Xq,ok.bs,ok.Ig,ok.EG,ok.J!,ok.sE,ok.MY⟩
section
variable {X:Cx}{pins:List (Addr×Obj)}{σ:St}{H:Hp}{s:Shared}{E:Value->Shared->Prop}
theorem Inv.wish(I:Inv X pins σ H s)(E:Value->Shared->Prop):Inv (X.wish E) pins σ H s:=⟨I.ok.wish E,I.os,I.bare,I.base,I.loc,I.cell,I.free,I.oq,I.pin,I.dW,I.len,I.tab⟩
theorem Inv.nG(I:Inv (X.wish E) pins σ H s):Inv X pins σ H s:=⟨I.ok.nG,I.os,I.bare,I.base,I.loc,I.cell,I.free,I.oq,I.pin,I.dW,I.len,I.tab⟩
theorem SP.nG{D:Ends}{f:Flow}{s':Shared}(h:SP (X.wish E) pins D f s'):SP X pins D f s':=by
  cases f with
  | next=>obtain⟨σ',H',I,q⟩:=h;exact⟨σ',H',I.nG,q⟩
  | brk=>obtain⟨σ',H',I,q⟩:=h;exact⟨σ',H',I.nG,q⟩
  | cont=>obtain⟨σ',H',I,q⟩:=h;exact⟨σ',H',I.nG,q⟩
  | ret u=>obtain⟨v,σ',H',I,r,q⟩:=h;exact⟨v,σ',H',I.nG,r,q⟩
theorem yp.z8{st:List Stmt}{t:TS}(h:yp X.z8 st t):yp X st t:=λ pins s σ H D I hw =>wpAny_mono (h pins s σ H D (I.wish _) hw) (λ _ _ q=>q.nG) λ _ _ z=>False.elim z
end
section
variable {X:Cx}{st:Stmt}{rest:List Stmt}{t u:TS}{e:Expr}{te:TE}{pos:Pos}
def N?:TS:=λ D σ H=>D.nx σ H
def Td(t u:TS):TS:=λ D σ H=>t { D with nx:=u D } σ H
theorem IQ:yp X [] N?:=λ _ _ σ H _ I h=>wpAny_execs_nil ⟨σ,H,I,h⟩
theorem F!(h1:PS X st t)(h2:yp X rest u):yp X (st :: rest) (Td t u):=by
  intro pins s σ H D I h;refine wpAny_execs_cons (d! (h1 pins s σ H { D with nx:=u D } I h) λ f s1 q=>?_);cases f with
  | next =>obtain⟨σ',H',I',q⟩:=q;exact h2 pins s1 σ' H' D I' q
  | ret v=>exact q
  | brk=>exact q
  | cont=>exact q
theorem IP(h1:PS X st t):yp X [st] t:=by
  intro pins s σ H D I h;refine wpAny_execs_cons (d! (h1 pins s σ H D I h) λ f s1 q=>?_);cases f with
  | next=>exact wpAny_execs_nil q
  | ret v=>exact q
  | brk=>exact q
  | cont=>exact q
theorem Inv.quiet{pins:List (Addr×Obj)}{σ:St}{H:Hp}{s:Shared}(I:Inv X pins σ H s):interactive X.env=false:=by simp[interactive,I.ok.kind]
def N_(te:TE):TS:=λ D σ H=>te σ H λ _ H1=>D.nx σ H1
theorem Dg(he:PE X e te)(hs:swapsWith e none pos.line X.env=pure false:=by rfl):PS X (.Expr e pos) (N_ te):=by intro pins s σ H D I h;exact wpAny_Expr_any (d! (he pins s σ H _ I h) λ v s1 ⟨x,H1,I1,r1,q1⟩=>⟨σ,H1,I1,q1⟩) I.quiet hs
def Te(te:TE):TS:=λ D σ H=>te σ H D.rt
theorem LL(he:PE X e te):PS X (.Return (some e) pos) (Te te):=by intro pins s σ H D I h;exact wpAny_Return_some (d! (he pins s σ H _ I h) λ v s1 ⟨x,H1,I1,r1,q1⟩=>⟨x,σ,H1,I1,r1,q1⟩)
def Ti(c:TT)(t u:TS):TS:=λ D σ H=>c σ H λ b H1=>if b=true then t D σ H1 else u D σ H1
theorem OK{c:Expr}{a b:List Stmt}{tc:TT}(hc:PT X c tc)(ha:yp X a t)(hb:yp X b u):PS X (.If c a b pos) (Ti tc t u):=by
  intro pins s σ H D I h;refine wpAny_If (d! (hc pins s σ H _ I h) λ d s1 ⟨H1,I1,q1⟩=>?_);cases d with
  | true=>exact ha pins s1 σ H1 D I1 q1
  | false=>exact hb pins s1 σ H1 D I1 q1
end
abbrev TG:=V->St->Hp->(St->Hp->Prop)->Prop
abbrev HI:=List V->St->Hp->(St->Hp->Prop)->Prop
def PG (X:Cx) (target:Expr) (t:TG):Prop :=
  ∀ (pins:List (Addr×Obj)) (s:Shared) (σ:St) (H:Hp) (v:V) (u:Value) (Q:St->Hp->Prop),Inv X pins σ H s->RelV v u->t v σ H Q ->
    wpAny (model X.prog X.w) X.A (assign target X.env u) (λ _ s'=>∃σ' H',Inv X pins σ' H' s'∧Q σ' H') X.xe s
def HK (X:Cx) (ts:List Expr) (t:HI):Prop :=
  ∀ (pins:List (Addr×Obj)) (s:Shared) (σ:St) (H:Hp) (vs:List V) (us:List Value) (Q:St->Hp->Prop),Inv X pins σ H s->Vals vs us->t vs σ H Q ->
    wpAny (model X.prog X.w) X.A (assignInOrder ((assignEach ts X.env).map (·.2)) us) (λ _ s'=>∃σ' H',Inv X pins σ' H' s'∧Q σ' H') X.xe s
abbrev V5:=V->V->Hp->VK->Prop
def PIp (X:Cx) (op:Operator) (t:V5):Prop :=
  ∀ (pins:List (Addr×Obj)) (s:Shared) (σ:St) (H:Hp) (x y:V) (v u:Value) (Q:VK),Inv X pins σ H s->RelV x v->RelV y u->t x y H Q ->
    wpAny (model X.prog X.w) X.A (inplaceOp op v u) (EP X pins σ Q) X.xe s
section
variable {X:Cx}{pos:Pos}
def bA(i:Nat):TG:=λ v σ H Q=>Q (σ.set i (some v)) H
theorem Di{i:Nat}{x:Str}(hN:X.N.Nodup)(hi:X.N[i]?=some x)(hx:Loc X.env.scope x)(hf:X.fn x=true∨X.env.scope.names.lookup x=some .local:=by first | exact .inl rfl | exact .inr rfl | assumption):PG X (.Name x pos) (bA i):=by intro pins s σ H v u Q I r h;exact wpAny_assign_Name (u_ I hN hi hx r (λ s' I'=>⟨_,H,I',h⟩) hf)
def Vv:HI:=λ vs σ H Q=>vs=[]∧Q σ H
def Qv(t:TG)(u:HI):HI:=λ vs σ H Q=>∃v r,vs=v :: r∧t v σ H λ σ' H'=>u r σ' H' Q
theorem IY:HK X [] Vv:=by intro pins s σ H vs us Q I r h;obtain⟨e,h⟩:=h;subst e;cases r;exact assignInOrder_nil ⟨σ,H,I,h⟩
theorem Gd{e:Expr}{es:List Expr}{t:TG}{u:HI}(h1:PG X e t)(h2:HK X es u)
    (hs:(assignEach (e :: es) X.env).map (·.2)=assign e X.env :: (assignEach es X.env).map (·.2):=by rfl):HK X (e :: es) (Qv t u):=by
  intro pins s σ H vs us Q I r h;obtain⟨v,vr,e1,h⟩:=h;subst e1;cases r with
  | cons r rr =>rw[hs];refine assignInOrder_cons (d! (h1 pins s σ H _ _ _ I r h) λ _ s1 ⟨σ1,H1,I1,q1⟩=>?_);exact h2 pins s1 σ1 H1 _ _ Q I1 rr q1
def ka(K:PySem.W.Frag)(n:Nat)(t:HI):TG:=λ v σ H Q=>∃a xs,v=.ref a∧oH K H a xs∧xs.length=n∧t xs σ H Q
theorem Ge{es:List Expr}{k:Nat}{t:HI}{n:Nat}(hc:X.calm=true)(h:HK X es t)
    (hn:(assignEach es X.env).length=n:=by rfl) (hst:(assignEach es X.env).findIdx? (·.1)=none:=by rfl):PG X (.Tuple es k pos) (ka X.K n t):=by
  intro pins s σ H v u Q I r hw;obtain⟨a,xs,e1,hq,hl,hw⟩:=hw;subst e1;cases r;obtain⟨aY,rv,ht,hz⟩:=I.tuple hq;refine assign_Tuple_tuple (I.ok.hd hc) ht (by simp[hn,<-hl,rv.length]) hst λ h' hx=>?_;have I1:Inv X pins σ H { s with heap:=h' }:=I.kept (t':=s.toks) λ b o e=>hx b o (Nat.ne_of_lt (Heap.lt_size e)) e;exact h pins _ σ H xs _ Q I1 (by simpa using rv) hw
def Ob(te:TE)(g:TG):TS:=λ D σ H=>te σ H λ x H1=>g x σ H1 D.nx
theorem LO{tg e:Expr}{te:TE}{g:TG}(he:PE X e te)(hg:PG X tg g)(hs:swapsWithSole [tg] e pos.line X.env=pure false:=by rfl)(hw:swappedStores [tg] e X.env=pure none:=by rfl)
    (h1:(assignEach [tg] X.env).map (·.2)=[assign tg X.env]:=by rfl):PS X (.Assign [tg] e pos) (Ob te g):=by
  intro pins s σ H D I h;refine wpAny_Assign_stores (d! (he pins s σ H _ I h) λ v s1 ⟨x,H1,I1,r1,q1⟩=>?_) hs hw;rw[h1];exact d! (hg pins s1 σ H1 x v _ I1 r1 q1) λ _ s2 q=>q
theorem F?{i:Nat}{x:Str}{e:Expr}{te:TE}{pos':Pos}(hN:X.N.Nodup)(hi:X.N[i]?=some x)(hx:Loc X.env.scope x)(he:PE X e te)(hs:swapsWith e (some (.Name x pos')) pos.line X.env=pure false:=by rfl)(hf:X.fn x=true∨X.env.scope.names.lookup x=some .local:=by first | exact .inl rfl | exact .inr rfl | assumption):
    PS X (.Assign [.Name x pos'] e pos) (Ob te (bA i)):=by
  intro pins s σ H D I h;refine wpAny_Assign_Name (d! (he pins s σ H _ I h) λ v s1 ⟨y,H1,I1,r1,q1⟩=>?_) hs;exact u_ I1 hN hi hx r1 (λ s2 I2=>⟨_,H1,I2,q1⟩) hf
def To(i:Nat)(te:TE)(ti:V5):TS:=λ D σ H=>∃x,σ[i]?=some (some x)∧te σ H λ y H1=>ti x y H1 λ z H2=>D.nx (σ.set i (some z)) H2
theorem LN {i : Nat} {x : Str} {e : Expr} {te : TE} {op : Operator} {ti : V5} {pos' : Pos} (hN : X.N.Nodup) (hi : X.N[i]? = some x) (hx : Loc X.env.scope x) (he : PE X e te) (ho : PIp X op ti) (hf : X.fn x = true ∨ X.env.scope.names.lookup x = some .local := by first | exact .inl rfl | exact .inr rfl | assumption) :
    PS X (.AugAssign (.Name x pos') op e pos) (To i te ti):=by
  intro pins s σ H D I h;obtain⟨v,e1,h⟩:=h;obtain⟨m,hn,hl⟩:=I.loc;have XU:Ii X.env.scope x:=by rcases hx with k | k;exact .inl k;exact .inr (.inl k)
  obtain⟨u,r,l⟩:=hl i x v hi e1 XU;refine wpAny_AugAssign_Name ?_;have go:wpAny (model X.prog X.w) X.A (eval e X.env) (λ w s₂=>wpAny (model X.prog X.w) X.A (inplaceOp op u w) (λ r s₃=>wpAny (model X.prog X.w) X.A (storeName X.env x r) (λ _=>SP X pins D .next) X.xe s₃) X.xe s₂) X.xe s:=by refine d! (he pins s σ H _ I h) λ w s1 ⟨y,H1,I1,r1,q1⟩=>?_;refine d! (ho pins s1 σ H1 v y u w _ I1 r r1 q1) λ z s2 ⟨zv,H2,I2,r2,q2⟩=>?_;exact u_ I2 hN hi hx r2 (λ s3 I3=>⟨_,H2,I3,q2⟩) hf
  rcases l with⟨hk,hm⟩ | ⟨hk,c,hc,uh⟩
  ·exact wpAny_loadName_local I.ok.kind hk hn hm go
  · rcases hk with hk | hk
    ·exact wpAny_loadName_cell I.ok.kind hk hc uh go
    · rcases hx with k | k
      · have:X.env.scope.names.lookup x=some .free:=hk;rw[k]at this;cases this
      · have:X.env.scope.names.lookup x=some .free:=hk;rw[k]at this;cases this
end
section
variable {X:Cx}{pos:Pos}
end
structure It where
  go:Nat->Hp->Prop
  Fq:Nat->Hp->V->Hp->Prop
  stop:Nat->Hp->Prop
def s?(X:Cx)(pins:List (Addr×Obj))(H:Hp)(b:Addr):Prop :=
  H b=none∧b≠X.env.locals∧b∉X.fs∧(b∈X.ex∨X.s₀.heap.objs.size≤b)∧(∀x c,X.env.cells.lookup x=some c->c≠b)∧∀p∈X.pn++pins,p.1≠b
theorem Inv.xr{X:Cx}{pins:List (Addr×Obj)}{σ:St}{H H':Hp}{s:Shared}{b:Addr}(I:Inv X pins σ H s)(hb:s.heap.objs.size≤b)(hn:H' b=none):s? X pins H' b:=by
  refine⟨hn,Nat.ne_of_gt (Nat.lt_of_lt_of_le I.lt hb),I.Ma hb,.inr (Nat.le_trans I.sz hb),λ x c e z=>?_,λ p hp z=>?_⟩
  · obtain⟨v,q⟩:=I.cell x c e;exact absurd (Nat.lt_of_lt_of_le q.lt (by rw[z];exact hb)) (Nat.lt_irrefl _)
  ·exact absurd (Nat.lt_of_lt_of_le (Heap.lt_size (I.pin p hp).1) (by rw[z];exact hb)) (Nat.lt_irrefl _)
structure Turn(P:Program)(w:World)(K:PySem.W.Frag)(tg:Expr)(J:It)(fp:List Addr)(it:Addr)(tn:Nat->Heap->Prop):Prop where
  mem:it∈fp
  obj:∀i h,tn i h->∀b∈fp,∃o,h.get? b=some o∧∀v,o.data≠.cell v
  keep:∀i h h',tn i h->(∀b∈fp,∀o,h.get? b=some o->h'.get? b=some o)->tn i h'
  item:∀(X:Cx),X.prog=P->X.w=w->X.K=K->X.calm=true->∀(i:Nat)(pins:List (Addr×Obj))(s:Shared)(σ:St)(H:Hp)(E:Value->Shared->Prop),Inv X pins σ H s->(∀b∈fp,s? X pins H b)->tn i s.heap->J.go i H ->
    wpAny (model P w) X.A (pyNext (.ref it)) (λ r s1=>∃u,r=some u ∧
      wpAny (model P w) X.A (letOwnedTupleGo tg (.ref it) u) (λ _ s2=>∃x H',Inv X pins σ H' s2∧RelV x u∧J.Fq i H x H'∧tn (i+1) s2.heap∧∀b∈fp,H' b=none) E s1) E s
  done:∀(X:Cx),X.prog=P->X.w=w->X.K=K->X.calm=true->∀(i:Nat)(pins:List (Addr×Obj))(s:Shared)(σ:St)(H:Hp)(E:Value->Shared->Prop),Inv X pins σ H s->(∀b∈fp,s? X pins H b)->tn i s.heap->J.stop i H ->
    wpAny (model P w) X.A (pyNext (.ref it)) (λ r s1=>r=none∧Inv X pins σ H s1) E s
  self:∀(A:Around)(i:Nat)(s:Shared)(Q:Value->Shared->Prop)(E:Value->Shared->Prop),tn i s.heap->Q (.ref it) s->wpAny (model P w) A (pyIter (.ref it)) Q E s
abbrev TI:=St->Hp->(It->Hp->Prop)->Prop
def S5(X:Cx)(pins:List (Addr×Obj))(σ:St)(tg:Expr)(R:It->Hp->Prop)(Ux:Value)(s2:Shared):Prop :=
  ∃(it:Addr)(fp:List Addr)(tn:Nat->Heap->Prop)(J:It)(H':Hp),Ux=.ref it∧Inv X pins σ H' s2∧Turn X.prog X.w X.K tg J fp it tn∧tn 0 s2.heap∧(∀b∈fp,s? X pins H' b)∧R J H'
def PI (X:Cx) (tg iter:Expr) (wi:TI):Prop :=
  ∀ (pins:List (Addr×Obj)) (s:Shared) (σ:St) (H:Hp) (R:It->Hp->Prop),Inv X pins σ H s->wi σ H R ->
    wpAny (model X.prog X.w) X.A (eval iter X.env) (λ v s1=>wpAny (model X.prog X.w) X.A (pyIter v) (S5 X pins σ tg R) X.xe s1) X.xe s
theorem A! {M : Model} {A : Around} {E : Value -> Shared -> Prop} {s : Shared} {tg : Expr} {it : Addr} {u : Value} {o : Obj} {n : String} {vs : Array Value} {Q : Unit -> Shared -> Prop} (ho : s.heap.get? it = some o) (hc : o.cls = .type n) (hd : o.data = .fields vs)
    (hn:["enumerate", "zip", "dict_itemiterator", "dict_reverseitemiterator", "odict_iterator", "itertools.zip_longest", "itertools.pairwise"].contains n=false) (hQ:Q () s):wpAny M A (letOwnedTupleGo tg (.ref it) u) Q E s:=by
  unfold letOwnedTupleGo;cases tg <;> first
    | exact wpAny_pure hQ
    | (cases u<;>first
        | exact wpAny_pure hQ
        | (refine wpAny_bind (wpAny_load ho ?_)
           rw[hc,hd];show wpAny M A (if(["enumerate", "zip", "dict_itemiterator", "dict_reverseitemiterator", "odict_iterator", "itertools.zip_longest", "itertools.pairwise"].contains n&&vs[0]?==some (rawInt _))=true then _ else _) Q E s;rw[if_neg (by intro h;rw[hn,Bool.false_and]at h;cases h)];exact wpAny_pure hQ))
def XN(K:PySem.W.Frag)(a:Addr):It :=
  ⟨λ i H=>∃xs x,i? K H a xs∧xs[i]?=some x,λ i H x H'=>H'=H∧∀xs,i? K H a xs->xs[i]?=some x,λ i H=>∃xs,i? K H a xs∧xs.length≤i⟩
def XJ(K:PySem.W.Frag)(a:Addr):It :=
  ⟨λ i H=>∃xs x,oH K H a xs∧xs[i]?=some x,λ i H x H'=>H'=H∧∀xs,oH K H a xs->xs[i]?=some x,λ i H=>∃xs,oH K H a xs∧xs.length≤i⟩
def Lj(lo:Int)(n:Nat):It:=⟨λ i _=>i < n,λ i H x H'=>H'=H∧x=.int (lo+i),λ i _=>n≤i⟩
theorem Ec{P:Program}{w:World}{K:PySem.W.Frag}{tg:Expr}(a it:Addr):Turn P w K tg (XN K a) [it] it (λ i h=>h.IsListIter it a i) where
  mem:=by simp
  obj:=λ i h st b hb=>by
    have e:b=it:=by simpa using hb
    subst e;obtain⟨o,e,c,d⟩:=st;exact⟨o,e,λ v z=>by rw[d]at z;cases z⟩
  keep:=λ i h h' st k=>st.at λ o e=>k it (by simp) o e
  item:=by intro X hP hw hK hc i pins s σ H E I hf st hg;subst hP hw hK;obtain⟨xs,x,hq,hx⟩:=hg;obtain⟨aY,rv,p,hz⟩:=I.list hq;obtain⟨u,hu,ru⟩:=rv.get hx;obtain⟨f0,f1,f2,f3,f4,f5⟩:=hf it (by simp);refine wpAny_pyNext_list_item st p.isList (x:=u) (by simpa using hu) λ h' Ah sb=>?_;have I1:Inv X pins σ H { s with heap:=h' }:=I.turned (t':=s.toks) (λ b o hb e=>(sb.2 b hb).trans e) f0 f1 f3 f4 f5;obtain⟨o,e,c,d⟩:=id Ah;exact⟨u,rfl,A! (s:={ s with heap:=h' }) e c d (by decide) ⟨x,H,I1,ru,⟨rfl,λ ys hy=>by rw[I.rf hy hq];exact hx⟩,Ah,λ b hb=>(hf b hb).1⟩⟩
  done:=by intro X hP hw hK hc i pins s σ H E I hf st hg;subst hP hw hK;obtain⟨xs,hq,hx⟩:=hg;obtain⟨aY,rv,p,hz⟩:=I.list hq;obtain⟨f0,f1,f2,f3,f4,f5⟩:=hf it (by simp);have hl:=rv.length;exact wpAny_pyNext_list_end (I.ok.hd hc) st p.isList (by simp;lia) λ h' eb=>⟨rfl,I.turned (t':=s.toks) (λ b o hb e=>eb b o hb e) f0 f1 f3 f4 f5⟩
  self:=λ _ _ _ _ _ st h=>wpAny_pyIter_listiter st h
theorem BN{P:Program}{w:World}{K:PySem.W.Frag}{tg:Expr}(a it:Addr):Turn P w K tg (XJ K a) [it] it (λ i h=>h.IsTupleIter it a i) where
  mem:=by simp
  obj:=λ i h st b hb=>by
    have e:b=it:=by simpa using hb
    subst e;obtain⟨o,e,c,d⟩:=st;exact⟨o,e,λ v z=>by rw[d]at z;cases z⟩
  keep:=λ i h h' st k=>st.at λ o e=>k it (by simp) o e
  item:=by intro X hP hw hK hc i pins s σ H E I hf st hg;subst hP hw hK;obtain⟨xs,x,hq,hx⟩:=hg;obtain⟨aY,rv,p,hz⟩:=I.tuple hq;obtain⟨u,hu,ru⟩:=rv.get hx;obtain⟨f0,f1,f2,f3,f4,f5⟩:=hf it (by simp);refine wpAny_pyNext_tuple_item st (show s.heap.IsTuple a aY.toArray from p) (x:=u) (by simpa using hu) λ h' Ah sb=>?_;have I1:Inv X pins σ H { s with heap:=h' }:=I.turned (t':=s.toks) (λ b o hb e=>(sb.2 b hb).trans e) f0 f1 f3 f4 f5;obtain⟨o,e,c,d⟩:=id Ah;exact⟨u,rfl,A! (s:={ s with heap:=h' }) e c d (by decide) ⟨x,H,I1,ru,⟨rfl,λ ys hy=>by rw[I.rQ hy hq];exact hx⟩,Ah,λ b hb=>(hf b hb).1⟩⟩
  done:=by intro X hP hw hK hc i pins s σ H E I hf st hg;subst hP hw hK;obtain⟨xs,hq,hx⟩:=hg;obtain⟨aY,rv,p,hz⟩:=I.tuple hq;obtain⟨f0,f1,f2,f3,f4,f5⟩:=hf it (by simp);have hl:=rv.length;exact wpAny_pyNext_tuple_end (I.ok.hd hc) st (show s.heap.IsTuple a aY.toArray from p) (by simp;lia) λ h' eb=>⟨rfl,I.turned (t':=s.toks) (λ b o hb e=>eb b o hb e) f0 f1 f3 f4 f5⟩
  self:=λ _ _ _ _ _ st h=>wpAny_pyIter_tupleiter st h
theorem BO{P:Program}{w:World}{K:PySem.W.Frag}{tg:Expr}(it:Addr)(lo:Int)(n:Nat):Turn P w K tg (Lj lo n) [it] it (λ i h=>IsRangeIter h it (lo+(i:Nat)*1) ((n:Int)-(i:Nat)) 1) where
  mem:=by simp
  obj:=λ i h st b hb=>by
    have e:b=it:=by simpa using hb
    subst e;exact⟨_,st,λ v z=>by have z':Data.fields _=Data.cell v:=z;cases z'⟩
  keep:=λ i h h' st k=>k it (by simp) _ st
  item:=by intro X hP hw hK hc i pins s σ H E I hf st hg;subst hP hw hK;obtain⟨f0,f1,f2,f3,f4,f5⟩:=hf it (by simp);have W:=Walks.range (prog:=X.prog) (w:=X.w) (I.ok.hd hc) it lo 1 n;refine W.item i s _ _ hg st λ v h' tk hv Ah kk=>?_;obtain⟨t,rfl⟩:=hv;have I1:Inv X pins σ H { s with heap:=h',toks:=tk }:=I.turned (λ b o hb e=>kk b o (by simpa using hb) e) f0 f1 f3 f4 f5;refine⟨_,rfl,A! (s:={ s with heap:=h',toks:=tk }) (n := "range_iterator") Ah rfl rfl (by decide) ⟨.int (lo+i),H,I1,⟨t,?_⟩,⟨rfl,rfl⟩,Ah,λ b hb=>(hf b hb).1⟩⟩;rw[Int.mul_one]
  done:=by intro X hP hw hK hc i pins s σ H E I hf st hg;subst hP hw hK;obtain⟨f0,f1,f2,f3,f4,f5⟩:=hf it (by simp);exact wpAny_pyNext_range_end (I.ok.hd hc) st (by have:n≤i:=hg;lia) λ h' eb=>⟨rfl,I.turned (t':=s.toks) (λ b o hb e=>eb b o hb e) f0 f1 f3 f4 f5⟩
  self:=λ _ _ _ _ _ st h=>wpAny_pyIter_rangeiter st h
end L2
namespace L2
open PySem PySem.Spec PyProof.Rows
section
variable {X:Cx}{tg:Expr}
def eZ(ta:TA):TI:=λ σ H R=>ta σ H λ vs H1=>∃j:Int,vs=[.int j]∧-(2 ^ 62)≤j∧j < 2 ^ 62∧R (Lj 0 j.toNat) H1
def v7(ta:TA):TI:=λ σ H R=>ta σ H λ vs H1=>∃i j:Int,vs=[.int i,.int j]∧(-(2 ^ 62)≤i∧i < 2 ^ 62∧-(2 ^ 62)≤j∧j < 2 ^ 62)∧R (Lj i (j-i).toNat) H1
def Tj(wi:TI)(g:TG)(tb:TS):TS:=λ D σ H=>wi σ H λ J H1=>∃W:Nat->Nat->St->Hp->Prop,(∃m,W 0 m σ H1)∧∀i m σ H,W i m σ H ->
  (J.stop i H∧D.nx σ H)∨(J.go i H∧∃N:St->Hp->Prop,(∀σ' H',N σ' H'->∃m',m' < m∧W (i+1) m' σ' H')∧∀x H',J.Fq i H x H'->g x σ H' λ σ2 H2=>tb { D with nx:=N,ct:=N,bk:=D.nx } σ2 H2)
def vv(fp:List Addr)(h:Heap):List (Addr×Obj):=fp.filterMap λ b=>(h.get? b).map λ o=>(b,o)
theorem mv{fp:List Addr}{h:Heap}{b:Addr}{o:Obj}(hb:b∈fp)(e:h.get? b=some o):(b,o)∈vv fp h:=List.mem_filterMap.mpr ⟨b,hb,by rw[e];rfl⟩
theorem Es{fp:List Addr}{h:Heap}{p:Addr×Obj}(hp:p∈vv fp h):p.1∈fp∧h.get? p.1=some p.2:=by
  obtain⟨b,hb,e⟩:=List.mem_filterMap.mp hp;cases q:h.get? b with
  | none=>rw[q]at e;cases e
  | some o =>rw[q]at e;have e':(b,o)=p:=Option.some.inj e;subst e';exact⟨hb,q⟩
theorem Inv.pinned{pins:List (Addr×Obj)}{σ:St}{H:Hp}{s:Shared}{fp:List Addr}(I:Inv X pins σ H s)(hf:∀b∈fp,s? X pins H b)(ho:∀b∈fp,∃o,s.heap.get? b=some o∧∀v,o.data≠.cell v):Inv X (pins++vv fp s.heap) σ H s :=
  I.Dh λ p hp=>(List.mem_append.mp hp).elim (λ z=>I.pin p (List.mem_append_right _ z)) λ z=>by obtain⟨hb,e⟩:=Es z;obtain⟨f0,f1,f2,_⟩:=hf p.1 hb;obtain⟨o,e',d⟩:=ho p.1 hb;rw[e]at e';cases e';exact⟨e,f0,f1,f2,d⟩
theorem Inv.qJ{pins pl:List (Addr×Obj)}{σ:St}{H:Hp}{s:Shared}(I:Inv X (pins++pl) σ H s):Inv X pins σ H s:=I.Dh λ p hp=>I.pin p (List.mem_append_right _ (List.mem_append_left _ hp))
theorem LM{iter:Expr}{body:List Stmt}{wi:TI}{g:TG}{tb:TS}{pos:Pos}(hp:PassesOwn (model X.prog X.w) X.A X.env X.xe)(hc:X.calm=true)(hi:PI X tg iter wi)(hg:PG X tg g)(hb:yp X body tb)
    (hs:∀x,foldedSetIterable iter X.env x=pure x:=by intro _;rfl):PS X (.For tg iter body [] pos) (Tj wi g tb):=by
  intro pins s σ H D I h;refine wpAny_For (d! (hi pins s σ H _ I h) λ v s1 h1=>d! h1 λ Ux s2 h2=>?_) hs;obtain⟨it,fp,tn,J,H2,e,I2,T,Ee,f2,W,⟨m0,w0⟩,turn⟩:=h2;subst e
  -- S! stays true of Lv Cp objects through Lv loop
  have BY:∀{H':Hp},(∀b∈fp,H' b=none)->∀b∈fp,s? X pins H' b:=λ hn b hb=>⟨hn b hb,(f2 b hb).2⟩
  refine codeAny_forLoop_any (λ n s'=>∃i σ' H',Inv X pins σ' H' s'∧tn i s'.heap∧(∀b∈fp,H' b=none)∧W i n σ' H') ?_ m0 ⟨0,σ,H2,I2,Ee,λ b hb=>(f2 b hb).1,w0⟩;rintro n s3 ⟨i,σ3,H3,I3,FP,Qy,w3⟩;rcases turn i n σ3 H3 w3 with⟨stop,qn⟩ | ⟨go,N,hN,step⟩
  · refine wpAny_passesOwn hp (d! (T.done X rfl rfl rfl hc i pins s3 σ3 H3 X.xe I3 (BY Qy) FP stop) λ r s4 ⟨hr,I4⟩=>?_);subst hr;exact wpAny_execs_nil ⟨σ3,H3,I4,qn⟩
  · refine wpAny_passesOwn hp (d! (T.item X rfl rfl rfl hc i pins s3 σ3 H3 X.xe I3 (BY Qy) FP go) λ r s4 ⟨u,hr,h4⟩=>?_);subst hr;refine wpAny_passesOwn hp (d! h4 λ _ s5 ⟨x,H5,I5,r5,y5,yy,Vy⟩=>?_);have V_:=I5.pinned (BY Vy) (T.obj _ _ yy);refine wpAny_passesOwn hp (d! (hg _ s5 σ3 H5 x u _ V_ r5 (step x H5 y5)) λ _ s6 ⟨σ6,H6,I6,q6⟩=>?_);refine wpAny_passesOwn hp (d! (hb _ s6 σ6 H6 _ I6 q6) λ f s7 q7=>?_);have again:∀{σ7:St}{H7:Hp},Inv X (pins++vv fp s5.heap) σ7 H7 s7->N σ7 H7->∃m,m < n∧∃i σ' H',Inv X pins σ' H' s7∧tn i s7.heap∧(∀b∈fp,H' b=none)∧W i m σ' H':=λ {σ7 H7} I7 n7=>by obtain⟨m',hm,w7⟩:=hN σ7 H7 n7;refine⟨m',hm,i+1,σ7,H7,I7.qJ,T.keep _ _ _ yy λ b hb o e=>(I7.pin (b,o) (List.mem_append_right _ (List.mem_append_right _ (mv hb e)))).1,λ b hb=>?_,w7⟩;obtain⟨o,e,d⟩:=T.obj _ _ yy b hb;exact(I7.pin (b,o) (List.mem_append_right _ (List.mem_append_right _ (mv hb e)))).2.1
    cases f with
    | next=>obtain⟨σ7,H7,I7,n7⟩:=q7;exact again I7 n7
    | cont=>obtain⟨σ7,H7,I7,n7⟩:=q7;exact again I7 n7
    | brk=>obtain⟨σ7,H7,I7,q7⟩:=q7;exact⟨σ7,H7,I7.qJ,q7⟩
    | ret v=>obtain⟨x7,σ7,H7,I7,r7,q7⟩:=q7;exact⟨x7,σ7,H7,I7.qJ,r7,q7⟩
end
end L2
namespace L2
open PySem PySem.Spec PyProof.Rows
abbrev R2:=V->V->Hp->VK->Prop
def kI (X:Cx) (f:Value->Value->Sem Value) (r:R2):Prop :=
  ∀ (pins:List (Addr×Obj)) (s:Shared) (σ:St) (H:Hp) (x y:V) (v u:Value) (Q:VK),Inv X pins σ H s->RelV x v->RelV y u->r x y H Q ->
    wpAny (model X.prog X.w) X.A (f v u) (EP X pins σ Q) X.xe s
def V4 (X:Cx) (f:Value->Sem Value) (r:V->Hp->VK->Prop):Prop :=
  ∀ (pins:List (Addr×Obj)) (s:Shared) (σ:St) (H:Hp) (x:V) (v:Value) (Q:VK),Inv X pins σ H s->RelV x v->r x H Q ->
    wpAny (model X.prog X.w) X.A (f v) (EP X pins σ Q) X.xe s
def kF (X:Cx) (f:Value) (r:List V->Hp->VK->Prop):Prop :=
  ∀ (pins:List (Addr×Obj)) (s:Shared) (σ:St) (H:Hp) (xs:List V) (us:List Value) (Q:VK),Inv X pins σ H s->Vals xs us->r xs H Q ->
    wpAny (model X.prog X.w) X.A (call f us) (EP X pins σ Q) X.xe s
def Iw(r:R2)(ta tb:TE):TE:=λ σ H Q=>ta σ H λ x H1=>tb σ H1 λ y H2=>r x y H2 Q
def X9(r:V->Hp->VK->Prop)(ta:TE):TE:=λ σ H Q=>ta σ H λ x H1=>r x H1 Q
def rI(C:Int->Int->Prop)(g:Int->Int->V):R2:=λ x y H Q=>∃i j,x=.int i∧y=.int j∧C i j∧Q (g i j) H
def F9(g:Int->Int->V):R2:=λ x y H Q=>∃i j,x=.int i∧y=.int j∧Q (g i j) H
def rU(g:Int->V):V->Hp->VK->Prop:=λ x H Q=>∃i,x=.int i∧Q (g i) H
section
variable {X:Cx}{a b c:Expr}{ta tb tc:TE}{pos:Pos}
theorem Ng(ha:PE X a ta)(hb:PE X b tb){pins:List (Addr×Obj)}{s:Shared}{σ:St}{H:Hp}{R:V->V->Hp->Prop}(I:Inv X pins σ H s)
    (h:ta σ H λ x H1=>tb σ H1 λ y H2=>R x y H2){Q:Value->Shared->Prop}{f:Value->Value->Sem Value}
    (hf:∀v u s2 x y H2,Inv X pins σ H2 s2->RelV x v->RelV y u->R x y H2->wpAny (model X.prog X.w) X.A (f v u) Q X.xe s2) :
    wpAny (model X.prog X.w) X.A (eval a X.env) (λ v s₁=>wpAny (model X.prog X.w) X.A (eval b X.env) (λ u s₂=>wpAny (model X.prog X.w) X.A (f v u) Q X.xe s₂) X.xe s₁) X.xe s:=by
  refine d! (ha pins s σ H _ I h) λ v s1 ⟨x,H1,I1,r1,q1⟩=>?_;refine d! (hb pins s1 σ H1 _ I1 q1) λ u s2 ⟨y,H2,I2,r2,q2⟩=>?_;exact hf v u s2 x y H2 I2 r1 r2 q2
theorem Dj{op:Operator}{r:R2}(ho:kI X (binaryOp op) r)(ha:PE X a ta)(hb:PE X b tb):PE X (.BinOp a op b pos) (Iw r ta tb):=by intro pins s σ H Q I h;exact wpAny_BinOp (Ng ha hb I h λ v u s2 x y H2 I2 rx ry q=>ho pins s2 σ H2 x y v u Q I2 rx ry q)
theorem OL{op:UnaryOp}{r:V->Hp->VK->Prop}(ho:V4 X (unaryOp op) r)(ha:PE X a ta):PE X (.UnaryOp op a pos) (X9 r ta):=by intro pins s σ H Q I h;exact UnaryOp_ (d! (ha pins s σ H _ I h) λ v s1 ⟨x,H1,I1,r1,q1⟩=>ho pins s1 σ H1 x v Q I1 r1 q1)
theorem OT{f:Value->Value->Sem Value}{C:Int->Int->Prop}{g:Int->Int->Int}
    (rule:∀(i j:Int)(t u:Tok)(s:Shared)(Q:Value->Shared->Prop)(E:Value->Shared->Prop),C i j->Q (.int (g i j) s.toks) { s with toks:=s.toks+1 }->wpAny (model X.prog X.w) X.A (f (.int i t) (.int j u)) Q E s) :
    kI X f (rI C λ i j=>.int (g i j)):=by
  intro pins s σ H x y v u Q I rx ry h;obtain⟨i,j,rfl,rfl,hc,q⟩:=h;obtain⟨t,rfl⟩:=rx;obtain⟨t',rfl⟩:=ry;exact rule i j t t' s _ _ hc ⟨.int (g i j),H,I.tok _,⟨_,rfl⟩,q⟩
theorem L7{f:Value->Value->Sem Value}{g:Int->Int->Int}
    (rule:∀(i j:Int)(t u:Tok)(s:Shared)(Q:Value->Shared->Prop)(E:Value->Shared->Prop),Q (.int (g i j) s.toks) { s with toks:=s.toks+1 }->wpAny (model X.prog X.w) X.A (f (.int i t) (.int j u)) Q E s) :
    kI X f (F9 λ i j=>.int (g i j)):=by
  intro pins s σ H x y v u Q I rx ry h;obtain⟨i,j,rfl,rfl,q⟩:=h;obtain⟨t,rfl⟩:=rx;obtain⟨t',rfl⟩:=ry;exact rule i j t t' s _ _ ⟨.int (g i j),H,I.tok _,⟨_,rfl⟩,q⟩
theorem Jh{f:Value->Value->Sem Value}{g:Int->Int->Bool}
    (rule:∀(i j:Int)(t u:Tok)(s:Shared)(Q:Value->Shared->Prop)(E:Value->Shared->Prop),Q (.bool (g i j)) s->wpAny (model X.prog X.w) X.A (f (.int i t) (.int j u)) Q E s) :
    kI X f (F9 λ i j=>.bl (g i j)):=by
  intro pins s σ H x y v u Q I rx ry h;obtain⟨i,j,rfl,rfl,q⟩:=h;obtain⟨t,rfl⟩:=rx;obtain⟨t',rfl⟩:=ry;exact rule i j t t' s _ _ ⟨.bl (g i j),H,I,rfl,q⟩
def Wc(i j:Int):Prop:=0≤j∧j≤1000000∧i.natAbs < 2 ^ 64
def Ri(i j:Int):Prop:=(-(2 ^ 64) < i∧i < 2 ^ 64)∨(-(2 ^ 64) < j∧j < 2 ^ 64)
theorem Ri.ok{i j:Int}(h:Ri i j):IntMulOk i j:=by
  rcases h with⟨h1,h2⟩ | ⟨h1,h2⟩
  ·exact .of_left (intBits_le_64 h1 h2)
  ·exact .of_right (intBits_le_64 h1 h2)
theorem L6:kI X (binaryOp .Add) (F9 λ i j=>.int (i+j)):=L7 λ _ _ _ _ _ _ _ q=>add_int q
theorem LZ:kI X (binaryOp .Sub) (F9 λ i j=>.int (i-j)):=L7 λ _ _ _ _ _ _ _ q=>sub_int q
theorem L3:kI X (binaryOp .Mod) (rI (λ _ j=>0 < j) λ i j=>.int (i % j)):=OT λ i j _ _ _ _ _ hc q=>by have h1:(0:Int) < j:=hc;exact mod_int' (by lia) (by rw[Int.fmod_eq_emod_of_nonneg i (by lia)];exact q)
theorem L1:kI X (binaryOp .Pow) (rI Wc λ i j=>.int (i ^ j.toNat)):=OT λ _ _ _ _ _ _ _ hc q=>pow_int_small hc.1 hc.2.1 hc.2.2 q
theorem JP:kI X (inplaceOp .Add) (F9 λ i j=>.int (i+j)):=L7 λ _ _ _ _ _ _ _ q=>iadd_int q
theorem XW{f:Value->Sem Value}{g:Int->Int}
    (rule:∀(i:Int)(t:Tok)(s:Shared)(Q:Value->Shared->Prop)(E:Value->Shared->Prop),Q (.int (g i) s.toks) { s with toks:=s.toks+1 }->wpAny (model X.prog X.w) X.A (f (.int i t)) Q E s) :
    V4 X f (rU λ i=>.int (g i)):=by
  intro pins s σ H x v Q I rx h;obtain⟨i,rfl,q⟩:=h;obtain⟨t,rfl⟩:=rx;exact rule i t s _ _ ⟨.int (g i),H,I.tok _,⟨_,rfl⟩,q⟩
theorem Lq:V4 X (unaryOp .USub) (rU λ i=>.int (-i)):=XW λ _ _ _ _ _ q=>neg_int q
end
section
variable {X:Cx}{a b c:Expr}{ta tb tc:TE}{pos:Pos}
theorem Cz{pins:List (Addr×Obj)}{σ:St}{H:Hp}{s:Shared}{Q:VK}{k k':Bool}(I:Inv X pins σ H s)(q:Q (.bl k) H)(e:k=k'):EP X pins σ Q (.bool k') s:=by subst e;exact⟨.bl k,H,I,rfl,q⟩
theorem OP:kI X (compareOp .Lt) (F9 λ i j=>.bl (decide (i < j))):=Jh λ _ _ _ _ _ _ _ q=>lt_int q
theorem OQ:kI X (compareOp .LtE) (F9 λ i j=>.bl (decide (i≤j))):=Jh λ _ _ _ _ _ _ _ q=>le_int q
theorem OR:kI X (compareOp .Gt) (F9 λ i j=>.bl (decide (j < i))):=Jh λ _ _ _ _ _ _ _ q=>gt_int q
theorem OS:kI X (compareOp .GtE) (F9 λ i j=>.bl (decide (j≤i))):=Jh λ _ _ _ _ _ _ _ q=>ge_int q
theorem Gk:kI X (compareOp .Is) (λ x y H Q=>y=.non∧Q (.bl (decide (x=.non))) H):=by
  intro pins s σ H x y v u Q I rx ry h;obtain⟨rfl,q⟩:=h;cases ry;refine is_none_gen (Cz I q ?_);cases x<;>first
    | (cases rx;rfl)
    | (obtain⟨t,rfl⟩:=rx;rfl)
theorem Dl:kI X (compareOp .IsNot) (λ x y H Q=>y=.non∧Q (.bl (!decide (x=.non))) H):=by
  intro pins s σ H x y v u Q I rx ry h;obtain⟨rfl,q⟩:=h;cases ry;refine isnot_none_gen (Cz I q ?_);cases x<;>first
    | (cases rx;rfl)
    | (obtain⟨t,rfl⟩:=rx;rfl)
theorem kI.or{f:Value->Value->Sem Value}{r r':R2}(h:kI X f r)(h':kI X f r'):kI X f (λ x y H Q=>r x y H Q∨r' x y H Q):=by
  intro pins s σ H x y v u Q I rx ry q;rcases q with q | q
  ·exact h pins s σ H x y v u Q I rx ry q
  ·exact h' pins s σ H x y v u Q I rx ry q
theorem aS(b:Expr){op:CmpOp}(h:op≠.In:=by decide)(h2:op≠.NotIn:=by decide):behindInMarks op b=false:=by
  have e1:(op==CmpOp.In)=false:=by cases op<;>first | rfl | exact absurd rfl h
  have e2:(op==CmpOp.NotIn)=false:=by cases op<;>first | rfl | exact absurd rfl h2
  cases b<;>simp[behindInMarks,e1,e2]
theorem uQ{op:CmpOp}{r:R2}(ho:kI X (compareOp op) r)(ha:PE X a ta)(hb:PE X b tb)(hm:behindInMarks op b=false):PE X (.Compare a [op] [b] pos) (Iw r ta tb):=by intro pins s σ H Q I h;exact wpAny_Compare1 (Ng ha hb I h λ v u s2 x y H2 I2 rx ry q=>ho pins s2 σ H2 x y v u Q I2 rx ry q) hm
def FN(t:TE):TT:=λ σ H Q=>t σ H λ x H'=>∃k,x=.bl k∧Q k H'
theorem uP{op:CmpOp}{r:R2}(ho:kI X (compareOp op) r)(ha:PE X a ta)(hb:PE X b tb)(hm:behindInMarks op b=false):PT X (.Compare a [op] [b] pos) (FN (Iw r ta tb)):=by
  intro pins s σ H Q I h;refine wpAny_isTrue_Compare1 (d! (ha pins s σ H _ I h) λ v s1 ⟨x,H1,I1,r1,q1⟩=>d! (hb pins s1 σ H1 _ I1 q1) λ u s2 ⟨y,H2,I2,r2,q2⟩ =>d! (ho pins s2 σ H2 x y v u _ I2 r1 r2 q2) λ c s3 ⟨z,H3,I3,r3,k,e,q3⟩=>?_) hm
  subst e;cases r3;exact wpAny_truthy_bool ⟨H3,I3,q3⟩
def BX(r r':R2)(ta tb tc:TE):TE:=λ σ H Q=>ta σ H λ x H1=>tb σ H1 λ y H2=>r x y H2 λ z H3=>∃k,z=.bl k ∧
  (if k=true then tc σ H3 λ w' H4=>r' y w' H4 Q else Q (.bl false) H3)
theorem Gg{op uz:CmpOp}{r r':R2}(ho:kI X (compareOp op) r)(Cr:kI X (compareOp uz) r')(ha:PE X a ta)(hb:PE X b tb)(hc:PE X c tc)
    (hm:lastMarks [op,uz] [b,c]=false:=by with_unfolding_all rfl):PE X (.Compare a [op,uz] [b,c] pos) (BX r r' ta tb tc):=by
  intro pins s σ H Q I h;refine Compare_chain (d! (ha pins s σ H _ I h) λ v s1 ⟨x,H1,I1,r1,q1⟩=>chain_link (d! (hb pins s1 σ H1 _ I1 q1) λ u s2 ⟨y,H2,I2,r2,q2⟩ =>d! (ho pins s2 σ H2 x y v u _ I2 r1 r2 q2) λ d s3 ⟨z,H3,I3,r3,k,e,q3⟩=>?_)) hm
  subst e;cases r3;refine wpAny_truthy_bool ?_;cases k with
  | false=>exact ite_ff ⟨.bl false,H3,I3,rfl,q3⟩
  | true=>exact ite_tt (chain_last (d! (hc pins s3 σ H3 _ I3 q3) λ w' s4 ⟨z',H4,I4,r4,q4⟩=>Cr pins s4 σ H4 y z' u w' Q I4 r2 r4 q4))
theorem F'{op uz:CmpOp}{r r':R2}(ho:kI X (compareOp op) r)(Cr:kI X (compareOp uz) r')(ha:PE X a ta)(hb:PE X b tb)(hc:PE X c tc)
    (hm:lastMarks [op,uz] [b,c]=false:=by with_unfolding_all rfl):PT X (.Compare a [op,uz] [b,c] pos) (FN (BX r r' ta tb tc)):=by
  intro pins s σ H Q I h;refine isTrue_chain (d! (ha pins s σ H _ I h) λ v s1 ⟨x,H1,I1,r1,q1⟩=>test_link (d! (hb pins s1 σ H1 _ I1 q1) λ u s2 ⟨y,H2,I2,r2,q2⟩ =>d! (ho pins s2 σ H2 x y v u _ I2 r1 r2 q2) λ d s3 ⟨z,H3,I3,r3,k,e,q3⟩=>?_)) hm
  subst e;cases r3;refine wpAny_truthy_bool ?_;cases k with
  | false =>obtain⟨k',e',q'⟩:=q3;cases e';exact ite_ff ⟨H3,I3,q'⟩
  | true =>refine ite_tt (test_last (d! (hc pins s3 σ H3 _ I3 q3) λ w' s4 ⟨z',H4,I4,r4,q4⟩=>d! (Cr pins s4 σ H4 y z' u w' _ I4 r2 r4 q4) λ d' s5 ⟨z2,H5,I5,r5,k2,e2,q5⟩=>?_));subst e2;cases r5;exact wpAny_truthy_bool ⟨H5,I5,q5⟩
theorem yV:(sizeLine:Nat) < 2 ^ 63:=by rw[sizeLine_eq];decide
theorem B8:kI X (binaryOp .Add) (λ x y H Q=>∃i j,x=.str i∧y=.str j∧i.length+j.length≤sizeLine∧Q (.str (i++j)) H):=by intro pins s σ H x y v u Q I rx ry h;obtain⟨i,j,rfl,rfl,hz,q⟩:=h;obtain⟨t,rfl⟩:=rx;obtain⟨t',rfl⟩:=ry;exact add_str (λ t' tk=>⟨.str (i++j),H,I.tok _,⟨_,rfl⟩,q⟩) hz
theorem vals1{x:V}{us:List Value}(r:Vals [x] us):∃u,us=[u]∧RelV x u:=by
  cases r with
  | cons r1 r2=>cases r2;exact⟨_,rfl,r1⟩
theorem vals2{x y:V}{us:List Value}(r:Vals [x,y] us):∃u w',us=[u,w']∧RelV x u∧RelV y w':=by
  cases r with
  | cons r1 r2 =>
    cases r2 with
    | cons r3 r4=>cases r4;exact⟨_,_,rfl,r1,r3⟩
theorem Fc(hc:X.calm=true):kF X (.builtin "max") (λ xs H Q=>∃i j,xs=[.int i,.int j]∧Q (.int (if j > i then j else i)) H):=by
  intro pins s σ H xs us Q I r h;obtain⟨i,j,rfl,q⟩:=h;obtain⟨u,w',rfl,⟨t,rfl⟩,⟨t',rfl⟩⟩:=vals2 r;refine max_two_ints (I.ok.hd hc) λ h' tk k=>⟨_,H,I.kept k,?_,q⟩
  by_cases hj:j > i
  ·rw[if_pos hj,if_pos hj];exact⟨_,rfl⟩
  ·rw[if_neg hj,if_neg hj];exact⟨_,rfl⟩
theorem Fe:kF X (.type "int") (λ xs H Q=>(∃i,xs=[.int i]∧Q (.int i) H)∨∃k,xs=[.bl k]∧Q (.int (if k then 1 else 0)) H):=by
  intro pins s σ H xs us Q I r h;rcases h with⟨i,rfl,q⟩ | ⟨k,rfl,q⟩
  · obtain⟨u,rfl,t,rfl⟩:=vals1 r;exact call_int_int ⟨.int i,H,I,⟨_,rfl⟩,q⟩
  · obtain⟨u,rfl,r1⟩:=vals1 r;cases r1;exact call_int_bool ⟨.int (if k then 1 else 0),H,I.tok _,⟨_,rfl⟩,q⟩
def V!(K:PySem.W.Frag)(x:V)(H:Hp)(n:Nat):Prop :=
  match x with
  | .str y=>y.length≤sizeLine∧n=y.length
  | .QX y=>y.size≤sizeLine∧n=y.size
  | .ref p=>(∃xs,i? K H p xs∧n=xs.length)∨∃xs,oH K H p xs∧n=xs.length
  | _=>False
theorem Hz:kF X (.builtin "len") (λ xs H Q=>∃x n,xs=[x]∧V! X.K x H n∧Q (.int n) H):=by
  intro pins s σ H xs us Q I r h;obtain⟨x,n,rfl,e,q⟩:=h;obtain⟨u,rfl,rx⟩:=vals1 r;have hl:=yV;have hs:sizeLine=16777216:=sizeLine_eq;cases x with
  | str y =>obtain⟨t,rfl⟩:=rx;obtain⟨hy,e'⟩:y.length≤sizeLine∧n=y.length:=e;subst e';exact len_str (by lia) ⟨.int _,H,I.tok _,⟨_,rfl⟩,q⟩
  | QX y =>obtain⟨t,rfl⟩:=rx;obtain⟨hy,e'⟩:y.size≤sizeLine∧n=y.size:=e;subst e';exact PySem.W.len_bytes (by lia) ⟨.int _,H,I.tok _,⟨_,rfl⟩,q⟩
  | ref p =>
    cases rx;have e':(∃xs,i? X.K H p xs∧n=xs.length)∨∃xs,oH X.K H p xs∧n=xs.length:=e;rcases e' with⟨xs,hx,e'⟩ | ⟨xs,hx,e'⟩
    · subst e';obtain⟨aY,r',pl,hz⟩:=I.list hx;have hlen:=r'.length;exact Calls.call_len_list pl.isList (by simp only[List.size_toArray];lia) ⟨.int xs.length,H,I.tok _,⟨_,by simp only[List.size_toArray];rw[hlen]⟩,q⟩
    · subst e';obtain⟨aY,r',pl,hz⟩:=I.tuple hx;have hlen:=r'.length;exact len_tuple pl (by simp only[List.size_toArray];lia) ⟨.int xs.length,H,I.tok _,⟨_,by simp only[List.size_toArray];rw[hlen]⟩,q⟩
  | _=>exact(show False from e).elim
end
end L2
namespace L2
open PySem PySem.Spec PyProof.Rows
structure ObjM(h:Heap)(x dx C:Addr)(mA:Str->Option Value):Prop where
  obj:h.get? x=some (PySem.W.instObj C dx)
  ns:h.Ns1 dx mA
  ne:dx≠x
section
variable {prog:Program}{w:World}{A:Around}{E:Value->Shared->Prop}{s:Shared}{K:PySem.W.Frag}{x dx C f:Addr}{mA:Str->Option Value}{name:Str}{v:Value}
end
section
variable {P:Program}{w:World}{H H':Hp}{h h':Heap}{a C dx:Addr}{fs Vx:List (Str×V)}
end
structure Wb(K:PySem.W.Frag)(C:Addr):Prop where
  pg:PySem.W.plainGet K C Str.empty=true
  hd:PySem.W.hasDictIn K C=true
  po:PySem.W.plainOver K C=true
  sa:PySem.W.findIn K (.ref C) "__setattr__" = some (some (.builtin "object.__setattr__"))
theorem Wb.get{K:PySem.W.Frag}{C:Addr}(c:Wb K C)(f:Str):PySem.W.plainGet K C f=true:=c.pg
structure Con(K:PySem.W.Frag)(C:Addr)(f:Str)(v:V)(u:Value):Prop where
  at_:PySem.W.findIn K (.ref C) f=some (some u)
  rel:RelV v u
  get:PySem.W.specialIn K u "__get__" = some none
  cp:PySem.W.copiedNames.contains f=false
structure Meth(K:PySem.W.Frag)(C:Addr)(m:Str)(f:Addr):Prop where
  at_:PySem.W.findIn K (.ref C) m=some (some (.ref f))
  fn:PySem.W.isFn K (.ref f)=true
  kp:PySem.W.keepIn K (.ref f)=true
section
variable {X:Cx}{pins:List (Addr×Obj)}{σ:St}{H:Hp}{s:Shared}{a C dx:Addr}{fs:List (Str×V)}{f:Str}{v:V}{A:Around}{E:Value->Shared->Prop}
end
section
variable {X:Cx}{o e value:Expr}{f:Str}{pos pos' X0:Pos}{ta tv:TE}
end
section
variable {X:Cx}{pins:List (Addr×Obj)}{σ:St}{H:Hp}{s:Shared}{A:Around}{E:Value->Shared->Prop}{Q:Value->Shared->Prop}{c:Value}{b:Bool}
inductive wU (K:PySem.W.Frag) (H:Hp):V->Value->Prop where
  | non:wU K H .non (.type "NoneType")
  | bl (x:Bool):wU K H (.bl x) (.type "bool")
  | int (i:Int):wU K H (.int i) (.type "int")
  | str (x:Str):wU K H (.str x) (.type "str")
  | Qz (x:UInt64):wU K H (.Qz x) (.type "float")
  | lst {a:Addr}{xs:List V}(e:H a=some (.lst xs)):wU K H (.ref a) (.type "list")
  | i! {a:Addr}{o:Obj}{xs:List V}(e:H a=some (.i! o (.lst xs))):wU K H (.ref a) (.type "list")
  | tup {a:Addr}{xs:List V}(e:H a=some (.tup xs)):wU K H (.ref a) (.type "tuple")
  | dK {a:Addr}{kS:List (Key×V)}(e:H a=some (.dK kS)):wU K H (.ref a) (.type "dict")
  | dT {a:Addr}{kS:List (List Key×V)}(e:H a=some (.dT kS)):wU K H (.ref a) (.type "dict")
  | ins {a C dx:Addr}{fs:List (Str×V)}(e:H a=some (.ins C dx fs)) (cl:Wb K C) (ha:PySem.W.findIn K (.ref C) "__class__" = some (some (.builtin "object.__class__")))
      (hn:PySem.W.specialIn K (.builtin "object.__class__") "__get__" = some (some (.builtin "getset_descriptor.__get__"))) (htk:PySem.W.takesIn K (.builtin "object.__class__")=some true)
      (hm:PySem.W.mroIn K C (.type "object")=some true):wU K H (.ref a) (.ref C)
end
end L2
namespace L2
open PySem PySem.Spec PyProof.Rows
structure eM(k:Nat)(A:Around):Prop where
  hd:A.handled=none
  dp:A.depth+3*k+5 < recursionLimit
  un:A.units+16*k+200 < cLine
theorem eM.mono{j k:Nat}{A:Around}(r:eM k A)(h:j≤k):eM j A:=⟨r.hd,by have:=r.dp;lia,by have:=r.un;lia⟩
theorem eM.deeper{k:Nat}{A:Around}(r:eM (k+1) A)(env:Env):eM k (A.deeper env) :=
  ⟨r.hd,by have:=r.dp;show A.depth+1+3*k+5 < _;lia,by have:=r.un;show A.units+3+16*k+200 < _;lia⟩
theorem eM.in1{k:Nat}{A:Around}(r:eM (k+1) A):eM k A.in1 :=
  ⟨r.hd,by have:=r.dp;show A.depth+3*k+5 < _;lia,by have:=r.un;show A.units+1+16*k+200 < _;lia⟩
theorem eM.depth{k:Nat}{A:Around}(r:eM k A):A.depth < recursionLimit:=by have:=r.dp;lia
theorem eM.units{k:Nat}{A:Around}(r:eM k A):A.units+64 < cLine:=by have:=r.un;lia
def Lx:TA:=λ _ H Q=>Q [] H
def FO(ta:TE)(tr:TA):TA:=λ σ H Q=>ta σ H λ x H1=>tr σ H1 λ xs H2=>Q (x :: xs) H2
section
variable {X:Cx}{e:Expr}{es:List Expr}{te:TE}{t:TA}{pos:Pos}
theorem dJ:PA X [] Lx:=λ _ _ _ _ H Q I h=>Calls.spliced_nil ⟨[],H,I,.nil,h⟩
theorem b9(ha:PE X e te)(hr:PA X es t)(hs:starEach (e :: es) X.env=(false,eval e X.env) :: starEach es X.env:=by rfl):PA X (e :: es) (FO te t):=by intro pos pins s σ H Q I h;rw[hs];show wpAny _ _ (spliced ((false,eval e X.env) :: backTo pos (starEach es X.env))) _ _ s;refine Calls.spliced_cons (d! (ha pins s σ H _ I h) λ u s1 ⟨x,H1,I1,r1,q1⟩=>?_);exact d! (hr pos pins s1 σ H1 _ I1 q1) λ us s2 ⟨xs,H2,I2,r2,q2⟩=>⟨x :: xs,H2,I2,.cons r1 r2,q2⟩
def Tc(t:TA):TE:=λ σ H Q=>t σ H λ xs H1=>xs.length≤sizeLine∧∀p,H1 p=none->Q (.ref p) (upd H1 p (.tup xs))
def Th(t:TA):TE:=λ σ H Q=>t σ H λ xs H1=>xs.length≤sizeLine∧∀p,H1 p=none->Q (.ref p) (upd H1 p (.lst xs))
theorem LQ{x1}(h:PA X es t):PE X (.Tuple es x1 pos) (Tc t):=by intro pins s σ H Q I hq;refine wpAny_Tuple_spliced (d! (h pos pins s σ H _ I hq) λ us s1 ⟨xs,H1,I1,r,z,q⟩=>⟨by rw[<-r.length];exact z,?_⟩);have hf:H1 s1.heap.objs.size=none:=I1.dW.fresh (Nat.le_refl _);refine⟨.ref s1.heap.objs.size,upd H1 s1.heap.objs.size (.tup xs),I1.laid (t':=s1.toks) (λ b u e=>Heap.get?_push_of_some _ e) (Nat.le_refl _) ?_,rfl,q _ hf⟩;exact⟨z,us,r,⟨_,Heap.get?_push_size _ rfl,rfl,_,rfl⟩⟩
theorem LV(h:PA X es t):PE X (.List es pos) (Th t):=by intro pins s σ H Q I hq;refine wpAny_List_spliced (d! (h pos pins s σ H _ I hq) λ us s1 ⟨xs,H1,I1,r,z,q⟩=>⟨by rw[<-r.length];exact z,?_⟩);have hf:H1 s1.heap.objs.size=none:=I1.dW.fresh (Nat.le_refl _);refine⟨.ref s1.heap.objs.size,upd H1 s1.heap.objs.size (.lst xs),I1.laid (t':=s1.toks) (λ b u e=>Heap.get?_push_of_some _ e) (Nat.le_refl _) ?_,rfl,q _ hf⟩;exact⟨z,us,0,r,Heap.get?_push_size _ rfl⟩
end
abbrev Sp:=List V->Hp->VK->XK->Prop
abbrev HN:=List Env->Hp->Shared->XK->Value->Shared->Prop
structure C3(P:Program)(w:World)(K:PySem.W.Frag)(mg:Str->Option Value)(base:Heap)(A:Around)(outer:List Env)(s:Shared)(H:Hp):Prop where
  frames:A.frames=some outer
  mod:Mod K mg base
  bs:∀b o,base.get? b=some o->s.heap.get? b=some o∧H b=none
  Ig:base.objs.size≤s.heap.objs.size
  sE:s.heap.FunFrames base outer
  MY:∀b∈DN outer,H b=none
  dW:sZ P w H s.heap
  bare:AllBare s.gens
  tab:yo K mg base H
def CE(outer:List Env)(P:Program)(w:World)(H:Hp)(s:Shared)(Q:VK)(u:Value)(s':Shared):Prop :=
  ∃v H',s'.os=s.os∧AllBare s'.gens∧Un (DN outer) [] H H' s.heap s'.heap∧sZ P w H' s'.heap∧RelV v u∧Q v H'
def CR(CX:HN)(outer:List Env)(P:Program)(w:World)(H:Hp)(s:Shared)(Q:VK)(E:XK)(r:Result)(s':Shared):Prop :=
  match r with
  | .ok (.ret u)=>CE outer P w H s Q u s'
  | .ok _=>False
  | .error e=>CX outer H s E e s'
structure nE(P:Program)(w:World)(K:PySem.W.Frag)(mg:Str->Option Value)(base:Heap)(CX:HN)(k:Nat)(f:Addr)(fd:FuncData)(ps:List Str)(sp:Sp):Prop where
  len:∀vs H Q E,sp vs H Q E->vs.length=ps.length
  run:∀(A:Around)(outer:List Env)(s:Shared)(H:Hp)(args:Args)(us:List Value)(vs:List V)(Q:VK)(E:XK),eM k A->C3 P w K mg base A outer s H->BindsTo s fd args (ps.zip us)->Vals vs us->sp vs H Q E ->
    codeAny (model P w) A (.call (.ref f) args) (CR CX outer P w H s Q E) s
theorem C3.in1{P:Program}{w:World}{K:PySem.W.Frag}{mg:Str->Option Value}{base:Heap}{A:Around}{outer:List Env}{s:Shared}{H:Hp}(e:C3 P w K mg base A outer s H):
    C3 P w K mg base A.in1 outer s H:=⟨e.frames,e.mod,e.bs,e.Ig,e.sE,e.MY,e.dW,e.bare,e.tab⟩
section
variable {X:Cx}{pins:List (Addr×Obj)}{σ:St}{H:Hp}{s s':Shared}
theorem Inv.VI(I:Inv X pins σ H s):C3 X.prog X.w X.K X.mg X.base X.A X.stack s H :=
  ⟨I.ok.frames,I.ok.mod,I.bs,Nat.le_trans I.ok.Ig I.sz,I.stack,I.yx,I.dW,I.bare,I.tab⟩
theorem Inv.after{Q:VK}{u:Value}(I:Inv X pins σ H s)(h:CE X.stack X.prog X.w H s Q u s'):EP X pins σ Q u s':=by obtain⟨v,H',os,bare,un,dW,r,q⟩:=h;obtain⟨hh,g,d,t,T?⟩:=s';obtain rfl:T?=s.os:=os;exact⟨v,H',I.call (h':=hh) (g':=g) (d':=d) (t':=t) (ch:=[]) un dW bare (λ b z=>absurd z (by simp)),r,q⟩
end
def Oa(sp:Sp)(La:List V)(E:XK)(t:TA):TE:=λ σ H Q=>t σ H λ vs H1=>sp (vs++La) H1 Q E
def Binds(K:PySem.W.Frag)(fd:FuncData)(ps:List Str)(ds:List Value):Prop :=
  ∀(s:Shared)(us:List Value),K.In s.heap->(us++ds).length=ps.length->BindsTo s fd ⟨us,[]⟩ (ps.zip (us++ds))
theorem Binds.all{K:PySem.W.Frag}{fd:FuncData}{ps:List Str}(h:∀us:List Value,us.length=ps.length->bindArgs fd ⟨us,[]⟩=pure (ps.zip us)):Binds K fd ps []:=λ s us _ hl=>by rw[List.append_nil]at hl ⊢;exact .of_eq (h us hl)
def Passes(CX:HN)(X:Cx)(E:XK):Prop:=∀(pins:List (Addr×Obj))(σ:St)(H:Hp)(s:Shared)(e:Value)(s':Shared),Inv X pins σ H s->CX X.stack H s E e s'->X.xe e s'
section
variable {X:Cx}{CX:HN}{k:Nat}{f C:Addr}{fd:FuncData}{ps:List Str}{sp:Sp}{La:List V}{ds:List Value}{E:XK}{x m:Str}{p pos apos:Pos}{e o:Expr}{es:List Expr}{ta:TE}{t:TA}
theorem LC{pins:List (Addr×Obj)}{σ:St}{H:Hp}{s:Shared}{Q:VK}{us:List Value}{vs:List V}(F:nE X.prog X.w X.K X.mg X.base CX k f fd ps sp)(hr:eM k X.A)(hb:Binds X.K fd ps ds)(hd:Vals La ds)(hx:Passes CX X E)
    (I:Inv X pins σ H s) (r:Vals vs us) (h:sp (vs++La) H Q E):wpAny (model X.prog X.w) X.A (call (.ref f) us) (EP X pins σ Q) X.xe s:=by
  have r2:Vals (vs++La) (us++ds):=r.append hd;have hl:(us++ds).length=ps.length:=by rw[<-r2.length];exact F.len _ _ _ _ h
  refine wpAny_call (codeAny_mono (F.run X.A X.stack s H ⟨us,[]⟩ (us++ds) (vs++La) Q E hr I.VI (hb s us I.EO hl) r2 h) λ r s' hq=>?_);cases r with
  | error e=>exact hx pins σ H s e s' I hq
  | ok fl =>
    cases fl with
    | ret u=>exact I.after hq
    | next=>exact False.elim hq
    | brk=>exact False.elim hq
    | cont=>exact False.elim hq
theorem I0(F:nE X.prog X.w X.K X.mg X.base CX k f fd ps sp)(hr:eM k X.A)(hg:Gl X x)(hm:X.mg x=some (.ref f))(hk:PySem.W.keepIn X.K (.ref f)=true)(hb:Binds X.K fd ps ds)(hd:Vals La ds)(hx:Passes CX X E)
    (ha:PA X (e :: es) t) (hdb:(x==("__debug__" : Str))=false:=by decide) (he:starEach (e :: es) X.env=(false,eval e X.env) :: starEach es X.env:=by rfl) (hpl:(backTo pos (starEach es X.env)).any (·.1)=false:=by rfl) :
    PE X (.Call (.Name x p) (e :: es) [] pos) (Oa sp La E t):=by
  intro pins s σ H Q I h;refine wpAny_Call_Name_kw (Dz I hg hm ?_ hdb);refine PySem.W.callWith_K (h₀:=X.base) I.ok.mod.Si hk (d! (ha pos pins s σ H _ I h) λ us s1 ⟨vs,H1,I1,r,q⟩=>⟨I1.EO,?_⟩) he hpl;exact LC F hr hb hd hx I1 r q
structure Mk(K:PySem.W.Frag)(C f:Addr):Prop where
  makes:PySem.W.makesIn K C=true
  init:PySem.W.findIn K (.ref C) "__init__" = some (some (.ref f))
  fn:PySem.W.isFn K (.ref f)=true
  kp:PySem.W.keepIn K (.ref C)=true
end
section
variable {X:Cx}{CX:HN}{k:Nat}{f C:Addr}{fd:FuncData}{ps ks:List Str}{sp:Sp}{E:XK}{x m:Str}{p pos apos Yz:Pos}{e o:Expr}{es:List Expr}{kws:List Keyword}{te ta:TE}{t tk:TA}{nm:Option Str}
structure V?(K:PySem.W.Frag)(fd:FuncData)(ps ks:List Str)(g:List Value->List Value->List Value)(gV:List V->List V->List V):Prop where
  to:∀(s:Shared)(us ws:List Value),K.In s.heap->(g us ws).length=ps.length->BindsTo s fd ⟨us,ks.zip ws⟩ (ps.zip (g us ws))
  rel:∀{vs:List V}{us:List Value}{zs:List V}{ws:List Value},Vals vs us->Vals zs ws->Vals (gV vs zs) (g us ws)
variable {g:List Value->List Value->List Value}{gV:List V->List V->List V}
end
structure aA(N P:List Str)(sc:Scope):Prop where
  kind:sc.kind=.function
  co:sc.isCoroutine=false
  gen:sc.isGenerator=false
  nd:N.Nodup
  pre:N.take P.length=P
  par:∀x∈P,sc.names.lookup x=some .local∨sc.names.lookup x=some .cell
  Mb:∀y∈sc.names,y.2≠.free
theorem yj{kindOf:Str->Option NameKind}{x:Str}:∀{binds:List (Str×Value)}{m:Str->Option Value},(∀v,(x,v)∉binds)->bindL kindOf binds m x=m x
  | [],_,_=>rfl
  | (n,v) :: r,m,h=>by
    unfold bindL;rw[yj λ w hw=>h w (List.mem_cons_of_mem _ hw)];split
    · have:x≠n:=by rintro rfl;exact h v List.mem_cons_self
      simp[this]
    ·rfl
theorem yl{kindOf:Str->Option NameKind}{x:Str}:∀{binds:List (Str×Value)}{m:Str->Option Value},(∀v,(x,v)∉binds)->bindC kindOf binds m x=m x
  | [],_,_=>rfl
  | (n,v) :: r,m,h=>by
    unfold bindC;rw[yl λ w hw=>h w (List.mem_cons_of_mem _ hw)];split
    ·rfl
    · have:x≠n:=by rintro rfl;exact h v List.mem_cons_self
      simp[this]
theorem yk{kindOf:Str->Option NameKind}{x:Str}{v:Value}:∀{P:List Str}{vs:List Value}{i:Nat}{m:Str->Option Value},P.Nodup->P[i]?=some x->vs[i]?=some v->kindOf x=some .local ->
    bindL kindOf (P.zip vs) m x=some v
  | [],_,_,_,_,h,_,_=>by simp at h
  | _ :: _,[],_,_,_,_,h,_=>by simp at h
  | p :: P,w :: vs,0,m,nd,h1,h2,hk=>by simp at h1 h2;subst h1;subst h2;show bindL kindOf ((p,w) :: P.zip vs) m p=_;unfold bindL;rw[yj λ v hv=>(List.nodup_cons.mp nd).1 (List.of_mem_zip hv).1,if_pos hk];simp
  | p :: P,w :: vs,i+1,m,nd,h1,h2,hk=>by show bindL kindOf ((p,w) :: P.zip vs) m x=_;unfold bindL;exact yk (i:=i) (List.nodup_cons.mp nd).2 (by simpa using h1) (by simpa using h2) hk
theorem ym{kindOf:Str->Option NameKind}{x:Str}{v:Value}:∀{P:List Str}{vs:List Value}{i:Nat}{m:Str->Option Value},P.Nodup->P[i]?=some x->vs[i]?=some v->kindOf x≠some .local ->
    bindC kindOf (P.zip vs) m x=some v
  | [],_,_,_,_,h,_,_=>by simp at h
  | _ :: _,[],_,_,_,_,h,_=>by simp at h
  | p :: P,w :: vs,0,m,nd,h1,h2,hk=>by simp at h1 h2;subst h1;subst h2;show bindC kindOf ((p,w) :: P.zip vs) m p=_;unfold bindC;rw[yl λ v hv=>(List.nodup_cons.mp nd).1 (List.of_mem_zip hv).1,if_neg hk];simp
  | p :: P,w :: vs,i+1,m,nd,h1,h2,hk=>by show bindC kindOf ((p,w) :: P.zip vs) m x=_;unfold bindC;exact ym (i:=i) (List.nodup_cons.mp nd).2 (by simpa using h1) (by simpa using h2) hk
def start(N:List Str)(vs:List V):St:=vs.map some++List.replicate (N.length-vs.length) none
def nD(CX:HN)(P:Program)(w:World)(K:PySem.W.Frag)(mg:Str->Option Value)(base:Heap)(N:List Str)(qual:Str)(scope:Scope)(f:Addr)(cd:Value)(A:Around)(outer:List Env)(s:Shared)(H:Hp)(E:XK):Cx where
  prog:=P
  w:=w
  K:=K
  mg:=mg
  base:=base
  A:=A.deeper (envOfC qual scope s.heap.objs.size f cd)
  N:=N
  s₀:=s
  H₀:=H
  env:=envOfC qual scope s.heap.objs.size f cd
  outer:=outer
  stack:=envOfC qual scope s.heap.objs.size f cd :: outer
  ex:=[]
  calm:=true
  fn:=λ _=>true
  pn:=[]
  xe:=λ e s'=>wpAny (model P w) (A.deeper (envOfC qual scope s.heap.objs.size f cd)) (leaving (envOfC qual scope s.heap.objs.size f cd) e) (λ _ RM=>CX outer H s E e RM) (λ e' RM=>CX outer H s E e' RM) s'
theorem By{sc:Scope}{n:Nat}{x:Str}(h:sc.names.lookup x=some .cell):∃c,(cellsFrom n sc.names []).lookup x=some c:=by have q:=PySem.W.cellsFrom_some sc.names n [] (.inl h);exact Option.isSome_iff_exists.mp q
theorem ER {CX : HN} {P : Program} {w : World} {K : PySem.W.Frag} {mg : Str -> Option Value} {base : Heap} {N ps : List Str} {qual : Str} {scope : Scope} {f : Addr} {cd : Value} {A : Around} {outer : List Env} {s s1 : Shared} {H : Hp} {E : XK} {us : List Value} {vs : List V}
    (S:aA N ps scope) (hd:A.handled=none) (e0:C3 P w K mg base A outer s H) (hl:vs.length=ps.length) (r:Vals vs us)
    (x:InCallC s s.heap.objs.size (bindL (envOfC qual scope s.heap.objs.size f cd).kindOf (ps.zip us) λ _=>none) (cellsFrom (s.heap.objs.size+1) scope.names []) (bindC (envOfC qual scope s.heap.objs.size f cd).kindOf (ps.zip us) λ _=>none) s1) :
    Inv (nD CX P w K mg base N qual scope f cd A outer s H E) [] (start N vs) H s1:=by
  have hpl:ps.length≤N.length:=by have:=congrArg List.length S.pre;rw[List.length_take]at this;lia
  obtain⟨h1,tk,rfl,hk⟩:=x.done;have Mc:∀b:Addr,b∉(nD CX P w K mg base N qual scope f cd A outer s H E).ex:=λ b z=>absurd (show b∈([]:List Addr)from z) (by simp);refine⟨⟨e0.mod,S.kind,rfl,rfl,Nat.le_refl _,λ y z c h1 h2=>?_,λ y hy=>?_,λ y c _ h=>?_,λ _=>hd,Around.frames_deeper e0.frames,.inr ⟨rfl,rfl⟩,λ b z=>absurd z (Mc b),e0.bs,e0.Ig,λ b _ _=>Mc b,λ b z=>absurd z (Mc b),e0.sE,e0.MY⟩,
    rfl,e0.bare,Un.kept hk,⟨_,x.toInCall.ns,λ i y v h1 h2 h3=>?_⟩,λ y c h=>⟨_,x.cell y c h⟩,e0.dW.fresh (Nat.le_refl _),λ y c h=>?_,λ p hp=>absurd (show p∈([]:List (Addr×Obj))from hp) (by simp),e0.dW.kept hk,?_,e0.tab⟩
  ·exact name_of_addr x.apart (PySem.mem_of_lookup h1) (PySem.mem_of_lookup h2)
  · have hy:scope.names.lookup y=some .cell∨scope.names.lookup y=some .free:=hy;rcases hy with hy | hy
    ·exact By hy
    ·exact absurd rfl (S.Mb _ (PySem.mem_of_lookup hy))
  ·exact Nat.le_of_lt (x.above y c (PySem.mem_of_lookup h))
  · have hi:i < vs.length:=by
      unfold start at h2;by_cases hi:i < vs.length
      ·exact hi
      · rw[List.getElem?_append_right (by simpa using hi)]at h2;rw[List.getElem?_replicate]at h2;split at h2<;>cases h2
    have ha:vs[i]?=some v:=by
      unfold start at h2;rw[List.getElem?_append_left (by simpa using hi),List.getElem?_map]at h2;cases e:vs[i]? with
      | none=>rw[e]at h2;cases h2
      | some a=>rw[e]at h2;cases h2;rfl
    obtain⟨u,hu,rv⟩:=r.get ha;have hp:ps[i]?=some y:=by rw[<-S.pre,List.getElem?_take_of_lt (by lia)];exact h1
    have WE:ps.Nodup:=by rw[<-S.pre];exact S.nd.sublist (List.take_sublist _ _)
    refine⟨u,rv,?_⟩;rcases S.par y (List.mem_of_getElem? hp)with k | k
    ·exact .inl ⟨k,yk WE hp hu k⟩
    · obtain⟨c,e⟩:=By (n:=s.heap.objs.size+1) k;refine .inr ⟨.inl k,c,e,?_⟩;have q:=x.cell y c e;rw[ym WE hp hu (by show scope.names.lookup y≠_;rw[k];decide)]at q;exact q
  ·exact e0.dW.fresh (Nat.le_of_lt (x.above y c (PySem.mem_of_lookup h)))
  · unfold start;show _=N.length;rw[List.length_append,List.length_map,List.length_replicate];lia
theorem Hh{CX:HN}{P:Program}{w:World}{K:PySem.W.Frag}{mg:Str->Option Value}{base:Heap}{k:Nat}{f:Addr}{name qual:Str}{params:Arguments}{body:List Stmt}{scope:Scope}{dV kV doc pm bP ct oc:Value}{an od:Option Addr}
    {BL:Array (Option Value)}{N ps:List Str}{sp:Sp}(lk:K.lookup f=some ⟨oc,od,.func (PySem.W.fnOf name qual params body scope dV kV doc pm an bP ct),BL⟩) (hcd:PySem.W.codeIn K bP qual=true) (S:aA N ps scope)
    (len:∀vs H Q E,sp vs H Q E->vs.length=ps.length)
    (A9:∀(A:Around)(outer:List Env)(s:Shared)(H:Hp)(vs:List V)(Q:VK)(E:XK),eM k (A.deeper (envOfC qual scope s.heap.objs.size f bP))->sp vs H Q E ->
      ∃t,yp (nD CX P w K mg base N qual scope f bP A outer s H E) body t∧t { nx:=λ _ H'=>Q .non H',rt:=Q } (start N vs) H) :
    nE P w K mg base CX (k+1) f (PySem.W.fnOf name qual params body scope dV kV doc pm an bP ct) ps sp:=by
  refine⟨len,λ A outer s H args us vs Q E hr e0 hb r K5=>?_⟩;have hl:=len _ _ _ _ K5;have KX:K.In s.heap:=e0.mod.Si.keeps λ b o e=>(e0.bs b o e).1;have lim:s.heap.NoLimit:=e0.mod.nolimit.keeps λ b o e=>(e0.bs b o e).1;have P8:∀y∈ps.zip us,scope.names.lookup y.1=some .local∨(scope.names.lookup y.1=some .cell∧((cellsFrom (s.heap.objs.size+1) scope.names []).lookup y.1).isSome=true):=λ⟨n,v⟩ hy=>by
    rcases S.par n (List.of_mem_zip hy).1 with q | q
    ·exact .inl q
    ·exact .inr ⟨q,PySem.W.cellsFrom_some _ _ _ (.inl q)⟩
  refine codeAny_call_function hr.depth (KX _ _ lk) rfl S.co S.gen rfl (PySem.W.codeRec_of KX hcd) (hb _ _ _ _ ?_);refine wpAny_newFunctionEnv_cells S.kind P8 λ env he s1 x=>?_;subst he;refine⟨lim.keeps x.toInCall.keep,codeAny_func ?_⟩;obtain⟨t,ht,hq⟩:=A9 A outer s H vs Q E (hr.deeper _) K5;have I:Inv (nD CX P w K mg base N qual scope f bP A outer s H E) [] (start N vs) H s1:=ER S hr.hd e0 hl r x;refine wpAny_mono (ht [] s1 (start N vs) H _ I hq) (λ fl s' hs=>?_) λ e s' hs=>hs;have fin:∀{σ':St}{H':Hp}{v:V}{u:Value},Inv (nD CX P w K mg base N qual scope f bP A outer s H E) [] σ' H' s'->RelV v u->Q v H'->CE outer P w H s Q u s' :=
    λ {σ' H' v u} J rv q=>⟨v,H',J.os,J.bare,J.base,J.dW,rv,q⟩
  cases fl with
  | ret u =>obtain⟨v,σ',H',J,rv,q⟩:=hs;exact fin J rv q
  | next =>obtain⟨σ',H',J,q⟩:=hs;exact fin (v:=V.non) (u:=Value.none) J rfl q
  | brk =>obtain⟨_,_,_,q⟩:=hs;exact False.elim q
  | cont =>obtain⟨_,_,_,q⟩:=hs;exact False.elim q
end L2
namespace L2
open PySem PySem.Spec PyProof.Rows
section
variable {X:Cx}{x:Str}{p pos:Pos}{e:Expr}{es:List Expr}{t:TA}{id T:String}{r:List V->Hp->VK->Prop}
def Wq(r:List V->Hp->VK->Prop)(t:TA):TE:=λ σ H Q=>t σ H λ vs H1=>r vs H1 Q
theorem jW(hc:kF X (.builtin id) r)(hg:Gl X x)(hm:X.mg x=none)(hv:bootBuiltins x=some (.builtin id))(ha:PA X (e :: es) t)(hn:x ≠ "__name__" := by decide)(hdb:(x==("__debug__" : Str))=false:=by decide)
    (he:starEach (e :: es) X.env=(false,eval e X.env) :: starEach es X.env:=by rfl) (hpl:(backTo pos (starEach es X.env)).any (·.1)=false:=by rfl):PE X (.Call (.Name x p) (e :: es) [] pos) (Wq r t):=by
  intro pins s σ H Q I h;refine wpAny_Call_Name_kw (mw I hg hm hv ?_ hn hdb);exact PyProof.Rows.callWith_builtin1 (d! (ha pos pins s σ H _ I h) λ us s1 ⟨vs,H1,I1,r1,q1⟩=>hc pins s1 σ H1 vs us Q I1 r1 q1) he hpl
theorem xP(hc:kF X (.type T) r)(hg:Gl X x)(hm:X.mg x=none)(hv:bootBuiltins x=some (.type T))(ha:PA X (e :: es) t)(hn:x ≠ "__name__" := by decide)(hdb:(x==("__debug__" : Str))=false:=by decide)
    (he:starEach (e :: es) X.env=(false,eval e X.env) :: starEach es X.env:=by rfl) (hpl:(backTo pos (starEach es X.env)).any (·.1)=false:=by rfl):PE X (.Call (.Name x p) (e :: es) [] pos) (Wq r t):=by
  intro pins s σ H Q I h;refine wpAny_Call_Name_kw (mw I hg hm hv ?_ hn hdb);exact PyProof.Rows.callWith_type1 (d! (ha pos pins s σ H _ I h) λ us s1 ⟨vs,H1,I1,r1,q1⟩=>hc pins s1 σ H1 vs us Q I1 r1 q1) he hpl
end
end L2
namespace HT
open PySem PyProof.Rows
section
open PySem.SeqAt
open PySem.AutoSeq1 (wpAny_loadPart')
open PySem.MeetsSeq PySem.MeetsSeq2 PySem.MeetsSeq3
end
section
variable {prog:Program}{w:World}{A:Around}{E:Value->Shared->Prop}{s:Shared}
theorem Km{t b:Addr}{vs ws:List Value}{Q:Value->Shared->Prop}(ht:IsTup s.heap t vs.toArray)(hb:IsTup s.heap b ws.toArray)(hv:vs≠[])
    (h1:ws=[]->Q (.ref t) s) (h2:ws≠[]->Q (.ref s.heap.objs.size) { s with heap:=s.heap.push { cls:=.type "tuple",data:=.seq (vs++ws).toArray } })
    (H!:vs.length+ws.length≤sizeLine):wpAny (model prog w) A (binaryOp .Add (.ref t) (.ref b)) Q E s:=by
  obtain⟨⟨cls,dd,data,sl⟩,ho,hc,n,hd⟩:=id ht;obtain⟨⟨Nb,Ie,data2,HU⟩,Cq,wc,n2,hd2⟩:=id hb;simp only at hc hd wc hd2;subst hc hd wc hd2;have e:vs.toArray++ws.toArray=(vs++ws).toArray:=by simp
  by_cases hw:ws=[]
  · exact concat_meets ⟨_,ho,rfl⟩ ⟨_,Cq,rfl⟩ noFill_tuple_add seq_tuple_add PySem.F.slot_tuple_add PySem.F.entry_tuple_add (PySem.F.args_tuple_add_2 _ _)
      (tuple_addW1 t b vs.toArray ws.toArray n n2 dd Ie sl HU (by simpa using hv) (by simp[hw])) ⟨ho,Cq,h1 hw⟩
  · refine concat_meets ⟨_,ho,rfl⟩ ⟨_,Cq,rfl⟩ noFill_tuple_add seq_tuple_add PySem.F.slot_tuple_add PySem.F.entry_tuple_add (PySem.F.args_tuple_add_2 _ _)
      (tuple_addW2 t b vs.toArray ws.toArray n n2 dd Ie sl HU (by simpa using hv) (by simpa using hw) (by rw[List.size_toArray,List.size_toArray];exact H!)) ⟨ho,Cq,?_⟩
    rw[e];exact h2 hw
def dP(n d:Nat):Option Int->Nat
  | none=>d
  | some v=>if v < 0 then(v+(n:Int)).toNat else min v.toNat n
theorem yF(n d:Nat)(hd:d≤n)(o:Option Int):dP n d o≤n:=by
  cases o with
  | none=>exact hd
  | some v =>
    show(if v < 0 then(v+(n:Int)).toNat else min v.toNat n)≤n;by_cases hv:v < 0
    ·rw[if_pos hv];lia
    ·rw[if_neg hv];exact Nat.min_le_right _ _
theorem DZ(v:Int)(n d:Nat):(if v < 0 then max (v+(n:Int)) 0 else min v (n:Int))=((dP n d (some v):Nat):Int):=by
  show(if v < 0 then max (v+(n:Int)) 0 else min v (n:Int))=(((if v < 0 then(v+(n:Int)).toNat else min v.toNat n):Nat):Int)
  by_cases hv:v < 0
  ·simp only[if_pos hv];lia
  ·simp only[if_neg hv];lia
theorem C0(lo hi:Option Int)(n:Nat):Builtin.Slice.sliceAdjust lo hi 1 (n:Int)=(((dP n 0 lo:Nat):Int),((dP n n hi:Nat):Int)):=by
  have h1:¬((1:Int) < 0):=by lia
  unfold Builtin.Slice.sliceAdjust;simp only[h1,if_false];refine Prod.ext ?_ ?_
  · cases lo with
    | none=>rfl
    | some v=>exact DZ v n 0
  · cases hi with
    | none=>rfl
    | some v=>exact DZ v n n
theorem B4(i j:Nat):Builtin.Slice.slicePlaces (i:Int) (j:Int) 1=j-i:=by
  unfold Builtin.Slice.slicePlaces;have h1:(1:Int) > 0:=by lia
  simp only[h1,if_true,Int.ediv_one];split<;>lia
theorem ve{v:Value}{o:Option Int}{Q:Option Int->Shared->Prop}(p:IsPart v o)(h:Q o s):wpAny (model prog w) A (Builtin.Slice.slicePartIndex v) Q E s:=by
  cases p with
  | none=>exact slicePart_none h
  | int i t=>exact slicePart_int h
theorem lI{sl:Addr}{vl vu:Value}{lo hi:Option Int}{n:Nat}{Q:Int×Int×Nat->Shared->Prop}(hs:s.heap.IsSliceOf sl vl vu .none)(pl:IsPart vl lo)(pu:IsPart vu hi)
    (h:Q (((dP n 0 lo:Nat):Int),1,dP n n hi-dP n 0 lo) s):wpAny (model prog w) A (Builtin.Slice.sliceApplied (.ref sl) (pure (n:Int))) Q E s:=by
  obtain⟨os,MH,Cu,Qj⟩:=id hs;unfold Builtin.Slice.sliceApplied Builtin.Slice.sliceFields;refine wpAny_bind (wpAny_bind (wpAny_field MH Qj (x:=vl) rfl (wpAny_bind (wpAny_field MH Qj (x:=vu) rfl (wpAny_bind (wpAny_field MH Qj (x:=.none) rfl (wpAny_pure ?_)))))));refine wpAny_bind (slicePart_none ?_);show wpAny _ _ (if((1:Int)==0)=true then _ else _) _ _ s;rw[if_neg (by decide)];refine wpAny_bind (ve pl (wpAny_bind (ve pu (wpAny_bind (wpAny_pure ?_)))));show wpAny _ _ (match Builtin.Slice.sliceAdjust lo hi 1 (n:Int)with | (lo,hi)=>pure (lo,(1:Int),Builtin.Slice.slicePlaces lo hi 1)) _ _ s;rw[C0 lo hi n];show wpAny _ _ (pure (((dP n 0 lo:Nat):Int),(1:Int),Builtin.Slice.slicePlaces ((dP n 0 lo:Nat):Int) ((dP n n hi:Nat):Int) 1)) _ _ s;rw[B4];exact wpAny_pure h
theorem Gb(xs:Array Value)(i k:Nat):((List.range k).filterMap λ(m:Nat)=>xs[((i:Int)+(m:Int)*1).toNat]?).toArray=((xs.toList.drop i).take k).toArray:=by
  have e:(λ(m:Nat)=>xs[((i:Int)+(m:Int)*1).toNat]?)=λ m=>xs[i+m]?:=by
    funext m
    have:((i:Int)+(m:Int)*1).toNat=i+m:=by lia
    rw[this]
  rw[e];have:=pick_run xs i k;rw[List.filterMap_map]at this;have e2:((λ x=>xs[x]?)∘λ x=>i+x)=λ m=>xs[i+m]?:=rfl;rw[e2]at this;rw[this]
theorem ro{t sl:Addr}{items:Array Value}{vl vu:Value}{lo hi:Option Int}{Q:Value->Shared->Prop}(ht:IsTup s.heap t items)(hs:s.heap.IsSliceOf sl vl vu .none)(pl:IsPart vl lo)(pu:IsPart vu hi)
    (hw:¬(dP items.size 0 lo=0∧dP items.size items.size hi=items.size))
    (h:Q (.ref s.heap.objs.size) { s with heap:=s.heap.push { cls:=.type "tuple",data:=.seq ((items.toList.drop (dP items.size 0 lo)).take (dP items.size items.size hi-dP items.size 0 lo)).toArray } })
    (H!:items.size≤sizeLine):wpAny (model prog w) A (getItem (.ref t) (.ref sl)) Q E s:=by
  have DH:sizeOk (.seq ((items.toList.drop (dP items.size 0 lo)).take (dP items.size items.size hi-dP items.size 0 lo)).toArray):=by show((items.toList.drop (dP items.size 0 lo)).take (dP items.size items.size hi-dP items.size 0 lo)).toArray.size≤sizeLine;rw[List.size_toArray,List.length_take,List.length_drop,Array.length_toList];lia
  have hj:dP items.size items.size hi≤items.size:=yF _ _ (Nat.le_refl _) hi;obtain⟨os,MH,Cu,Qj⟩:=id hs;have Vp:s.TypeIs (.ref sl) "slice" := ⟨os,MH,Cu⟩
  unfold getItem
  try with_reducible refine wpAny_holding ?_
  first | refine wpAny_bind (wpAny_pure ?_) | skip
  refine wpAny_bind (wpAny_sequenceKey ht.typeIs (by decide) ?_);refine wpAny_bind (wpAny_callSpecial?_slot (name:=Str.ofString "__getitem__") ht.typeIs PyProof.Rows.slot_tuple_getitem
    (wpAny_call_entry PyProof.Rows.slot_tuple_getitem ht.typeIs entry_tuple_getitem ?_ (args_tuple_getitem _ _)))
  show wpAny _ _ (Builtin.Tuple.tupleItemsOf (.ref t) >>= _) _ _ s;refine wpAny_bind (tupleItemsOf_ ht ?_);refine wpAny_bind (wpAny_typeOf Vp ?_);rw[if_pos (by decide)];refine wpAny_bind (lI hs pl pu ?_);have K7:¬((((dP items.size 0 lo:Nat):Int)==0&&(1:Int)==1&&(dP items.size items.size hi-dP items.size 0 lo)==items.size)=true):=by intro q;rw[Bool.and_eq_true,Bool.and_eq_true]at q;have q1:((dP items.size 0 lo:Nat):Int)=0:=eq_of_beq q.1.1;have q2:dP items.size items.size hi-dP items.size 0 lo=items.size:=eq_of_beq q.2;exact hw ⟨by lia,by lia⟩
  show wpAny _ _ (if(((dP items.size 0 lo:Nat):Int)==0&&(1:Int)==1&&(dP items.size items.size hi-dP items.size 0 lo)==items.size)=true then _ else _) _ _ s;rw[if_neg K7,Gb]
  first
    | exact wpAny_bind (m:=Builtin.Tuple.tupleExact _) (wpAny_newObj_type (wpAny_pure ⟨_,rfl,wpAny_pure h⟩) DH)
    | exact wpAny_bind (m:=Builtin.Tuple.tupleExact _) (wpAny_newObj_type (wpAny_bind (wpAny_pure (wpAny_pure ⟨_,rfl,wpAny_pure h⟩))) DH)
    | exact wpAny_bind (wpAny_bind (m:=Builtin.Tuple.tupleExact _) (wpAny_newObj_type (wpAny_pure (wpAny_pure ⟨_,rfl,wpAny_pure h⟩)) DH))
    | exact wpAny_bind (wpAny_bind (m:=Builtin.Tuple.tupleExact _) (wpAny_newObj_type (wpAny_pure ⟨_,rfl,wpAny_pure h⟩) DH))
end
end HT
namespace L2
open PySem PySem.Spec PyProof.Rows
abbrev TO:=St->Hp->(Option Int->Hp->Prop)->Prop
def PO (X:Cx) (e:Option Expr) (t:TO):Prop :=
  ∀ (pins:List (Addr×Obj)) (s:Shared) (σ:St) (H:Hp) (Q:Option Int->Hp->Prop),Inv X pins σ H s->t σ H Q ->
    wpAny (model X.prog X.w) X.A (evalPart e X.env) (λ u s'=>∃o H',Inv X pins σ H' s'∧IsPart u o∧Q o H') X.xe s
def Iy:TO:=λ _ H Q=>Q none H
def N9(t:TE):TO:=λ σ H Q=>t σ H λ x H1=>∃i,x=.int i∧Q (some i) H1
section
variable {X:Cx}{e:Expr}{te:TE}{lo hi:Option Expr}{tl th:TO}{pos p2:Pos}
theorem IV:PO X none Iy:=by intro pins s σ H Q I h;rw[evalPart_none];exact wpAny_pure ⟨none,H,I,.none,h⟩
theorem IU(h:PE X e te):PO X (some e) (N9 te):=by intro pins s σ H Q I hw;rw[evalPart_some];refine d! (h pins s σ H _ I hw) λ u s1 ⟨x,H1,I1,r1,q1⟩=>?_;obtain⟨i,rfl,q⟩:=q1;obtain⟨t,rfl⟩:=r1;exact⟨some i,H1,I1,.int i t,q⟩
def Ku (X:Cx) (r:V->Option Int->Option Int->Hp->VK->Prop):Prop :=
  ∀ (pins:List (Addr×Obj)) (s:Shared) (σ:St) (H:Hp) (x:V) (v vl vu:Value) (lo hi:Option Int) (sl:Addr) (Q:VK),Inv X pins σ H s->RelV x v->s.heap.IsSliceOf sl vl vu .none->IsPart vl lo->IsPart vu hi->r x lo hi H Q ->
    ∃T id,typeLookup (.type T) "__getitem__" = pure (some (.builtin id))∧s.TypeIs v T∧wpAny (model X.prog X.w) X.A (getItem v (.ref sl)) (EP X pins σ Q) X.xe s
theorem Ku.or{r r':V->Option Int->Option Int->Hp->VK->Prop}(h:Ku X r)(h':Ku X r'):Ku X (λ x lo hi H Q=>r x lo hi H Q∨r' x lo hi H Q):=by
  intro pins s σ H x v vl vu lo hi sl Q I rx hs pl pu q;rcases q with q | q
  ·exact h pins s σ H x v vl vu lo hi sl Q I rx hs pl pu q
  ·exact h' pins s σ H x v vl vu lo hi sl Q I rx hs pl pu q
def X'(r:V->Option Int->Option Int->Hp->VK->Prop)(te:TE)(tl th:TO):TE:=λ σ H Q=>te σ H λ x H1=>tl σ H1 λ l H2=>th σ H2 λ u H3=>r x l u H3 Q
theorem As{r:V->Option Int->Option Int->Hp->VK->Prop}(hr:Ku X r)(he:PE X e te)(hl:PO X lo tl)(hu:PO X hi th):PE X (.Subscript e (.Slice lo hi none p2) pos) (X' r te tl th):=by intro pins s σ H Q I h;refine Subscript_ (d! (he pins s σ H _ I h) λ v s1 ⟨x,H1,I1,r1,q1⟩=>?_);refine wpAny_Slice (d! (hl pins s1 σ H1 _ I1 q1) λ vl s2 ⟨l,H2,I2,pl,q2⟩=>d! (hu pins s2 σ H2 _ I2 q2) λ vu s3 ⟨u,H3,I3,pu,q3⟩=>?_);rw[evalPart_none];refine wpAny_pure ?_;have I4:Inv X pins σ H3 { s3 with heap:=s3.heap.push { cls:=.type "slice",data:=.fields #[vl,vu,.none] } }:=I3.kept (t':=s3.toks) λ b ob q=>Heap.get?_push_of_some _ q;obtain⟨T,id,hT,ht,hg⟩:=hr pins { s3 with heap:=s3.heap.push { cls:=.type "slice",data:=.fields #[vl,vu,.none] } } σ H3 x v vl vu l u s3.heap.objs.size Q I4 r1 (Heap.IsSliceOf.new ..) pl pu q3;show wpAny (model X.prog X.w) X.A (subscriptTail e (.Slice lo hi none p2) v (.ref s3.heap.objs.size)) (EP X pins σ Q) X.xe { s3 with heap:=s3.heap.push { cls:=.type "slice",data:=.fields #[vl,vu,.none] } };exact tail_any (ops:=[.ref s3.heap.objs.size,v]) ht hT hg (by with_unfolding_all rfl)
def uL(xs:List V)(lo hi:Option Int):List V:=(xs.drop (HT.dP xs.length 0 lo)).take (HT.dP xs.length xs.length hi-HT.dP xs.length 0 lo)
theorem um(xs:List V)(lo hi:Option Int):(uL xs lo hi).length≤xs.length:=by unfold uL;rw[List.length_take,List.length_drop];lia
def TY(K:PySem.W.Frag):V->Option Int->Option Int->Hp->VK->Prop:=λ x lo hi H Q=>∃a xs,x=.ref a∧oH K H a xs ∧
  ¬(HT.dP xs.length 0 lo=0∧HT.dP xs.length xs.length hi=xs.length)∧∀p,H p=none->Q (.ref p) (upd H p (.tup (uL xs lo hi)))
theorem Ly:Ku X (TY X.K):=by
  intro pins s σ H x v vl vu lo hi sl Q I rx hs pl pu h;obtain⟨a,xs,rfl,hx,hw,q⟩:=h;cases rx;obtain⟨aY,r,ht,hz⟩:=I.tuple hx;have hlen:aY.toArray.size=xs.length:=by rw[List.size_toArray];exact r.length.symm
  refine⟨"tuple",_,PyProof.Rows.slot_tuple_getitem.lookup,ht.typeIs,?_⟩;refine HT.ro ht hs pl pu (by rw[hlen];exact hw) ?_ (by rw[hlen];exact hz);rw[hlen];refine⟨.ref s.heap.objs.size,_,I.laid (t':=s.toks) (o:=.tup (uL xs lo hi)) (λ b ob q=>Heap.get?_push_of_some _ q) (Nat.le_refl _) ?_,rfl,q _ (I.dW.fresh (Nat.le_refl _))⟩;exact⟨Nat.le_trans (um xs lo hi) hz,_,(r.drop (HT.dP xs.length 0 lo)).take (HT.dP xs.length xs.length hi-HT.dP xs.length 0 lo),IsTup.new _ _⟩
def OI(K:PySem.W.Frag):R2:=λ x y H Q=>∃a b xs ys,x=.ref a∧y=.ref b∧oH K H a xs∧oH K H b ys∧xs≠[]∧xs.length+ys.length≤sizeLine ∧
  (ys=[]->Q (.ref a) H)∧(ys≠[]->∀p,H p=none->Q (.ref p) (upd H p (.tup (xs++ys))))
theorem Vals.uS{xs:List V}{us:List Value}(r:Vals xs us):us=[]↔xs=[]:=by
  cases r with
  | nil=>simp
  | cons _ _=>simp
theorem Jf:kI X (binaryOp .Add) (OI X.K):=by intro pins s σ H x y v u Q I rx ry h;obtain⟨a,b,xs,ys,rfl,rfl,ha,hb,hx,hz,q1,q2⟩:=h;cases rx;cases ry;obtain⟨aY,r1,p1,_⟩:=I.tuple ha;obtain⟨e?,r2,p2,_⟩:=I.tuple hb;refine HT.Km p1 p2 (λ z=>hx (r1.uS.mp z)) (λ z=>⟨.ref a,H,I,rfl,q1 (r2.uS.mp z)⟩) (λ z=>?_) (by rw[<-r1.length,<-r2.length];exact hz);refine⟨.ref s.heap.objs.size,_,I.laid (t':=s.toks) (o:=.tup (xs++ys)) (λ b ob q=>Heap.get?_push_of_some _ q) (Nat.le_refl _) ?_,rfl,q2 (λ w=>z (r2.uS.mpr w)) _ (I.dW.fresh (Nat.le_refl _))⟩;exact⟨by rw[List.length_append];exact hz,_,r1.append r2,IsTup.new _ _⟩
end
end L2
namespace L2
open PySem PySem.Spec PyProof.Rows
def Px(n:Nat)(i:Int):Option Nat:=if 0≤i then(if i < n then some i.toNat else none)else if -(n:Int)≤i then some (i+n).toNat else none
def Ni{α:Type}(xs:List α)(i:Int):Option α:=(Px xs.length i).bind λ j=>xs[j]?
theorem JJ{n:Nat}{i:Int}{j:Nat}(h:Px n i=some j):seqIndex? i n=some j∧j < n∧-(n:Int)≤i∧i < n:=by
  unfold Px at h;by_cases h0:0≤i
  · rw[if_pos h0]at h;by_cases h1:i < n
    · rw[if_pos h1]at h;have e:i.toNat=j:=Option.some.inj h;exact⟨by rw[seqIndex_of h0 h1,e],by lia,by lia,h1⟩
    ·rw[if_neg h1]at h;cases h
  · rw[if_neg h0]at h;by_cases h1:-(n:Int)≤i
    · rw[if_pos h1]at h;have e:(i+n).toNat=j:=Option.some.inj h;exact⟨by rw[seqIndex_neg (by lia) h1,e],by lia,h1,by lia⟩
    ·rw[if_neg h1]at h;cases h
theorem zR{α:Type}{xs:List α}{i:Int}{v:α}(h:Ni xs i=some v):∃j,seqIndex? i xs.length=some j∧xs[j]?=some v∧j < xs.length∧-(xs.length:Int)≤i∧i < xs.length:=by
  unfold Ni at h;cases e:Px xs.length i with
  | none=>rw[e]at h;cases h
  | some j =>rw[e]at h;obtain⟨h1,h2,h3,h4⟩:=JJ e;exact⟨j,h1,h,h2,h3,h4⟩
def zX(b:Expr):Prop:=∀o i,subscripted b false o i=operate [o,i] (getItem o i)
def Ky (X:Cx) (r:R2):Prop :=
  ∀ (value slice:Expr) (pins:List (Addr×Obj)) (s:Shared) (σ:St) (H:Hp) (x y:V) (v u:Value) (Q:VK),Inv X pins σ H s->RelV x v->RelV y u->r x y H Q ->
    subscripted slice false v u=operate [v,u] (getItem v u)->wpAny (model X.prog X.w) X.A (subscriptTail value slice v u) (EP X pins σ Q) X.xe s
def Kx (X:Cx) (id:String) (r:V->List V->Hp->VK->Prop):Prop :=
  ∀ (pins:List (Addr×Obj)) (s:Shared) (σ:St) (H:Hp) (x:V) (xs:List V) (v:Value) (us:List Value) (Q:VK),Inv X pins σ H s->RelV x v->Vals xs us->r x xs H Q ->
    wpAny (model X.prog X.w) X.A (call (.builtin id) (v :: us)) (EP X pins σ Q) X.xe s
section
variable {X:Cx}{a b:Expr}{ta tb:TE}{pos:Pos}
theorem Ky.or{r r':R2}(h:Ky X r)(h':Ky X r'):Ky X (λ x y H Q=>r x y H Q∨r' x y H Q):=by
  intro value slice pins s σ H x y v u Q I rx ry q hs;rcases q with q | q
  ·exact h value slice pins s σ H x y v u Q I rx ry q hs
  ·exact h' value slice pins s σ H x y v u Q I rx ry q hs
theorem Kx.or{id:String}{r r':V->List V->Hp->VK->Prop}(h:Kx X id r)(h':Kx X id r'):Kx X id (λ x xs H Q=>r x xs H Q∨r' x xs H Q):=by
  intro pins s σ H x xs v us Q I rx rs q;rcases q with q | q
  ·exact h pins s σ H x xs v us Q I rx rs q
  ·exact h' pins s σ H x xs v us Q I rx rs q
theorem ON{r:R2}(hr:Ky X r)(ha:PE X a ta)(hb:PE X b tb)(hs:zX b):PE X (.Subscript a b pos) (Iw r ta tb):=by intro pins s σ H Q I h;exact Subscript_ (Ng ha hb I h λ v u s2 x y H2 I2 rx ry q=>hr a b pins s2 σ H2 x y v u Q I2 rx ry q (hs _ _))
def OF(K:PySem.W.Frag):R2:=λ x y H Q=>∃p xs i v,x=.ref p∧y=.int i∧i? K H p xs∧Ni xs i=some v∧Q v H
def OD(K:PySem.W.Frag):R2:=λ x y H Q=>∃p xs i v,x=.ref p∧y=.int i∧oH K H p xs∧Ni xs i=some v∧Q v H
def OE:R2:=λ x y H Q=>∃z i c,x=.str z∧y=.int i∧z.length≤sizeLine∧Ni z.cps.toList i=some c∧Q (.str ⟨#[c]⟩) H
theorem JI:Ky X (OF X.K):=by
  intro value slice pins s σ H x y v u Q I rx ry h hs;obtain⟨p,xs,i,z,rfl,rfl,hq,he,q⟩:=h;cases rx;obtain⟨t,rfl⟩:=ry;obtain⟨aY,r,pl,hz⟩:=I.list hq;obtain⟨j,h1,h2,h3,h4,h5⟩:=zR he;obtain⟨w,ew,TM⟩:=r.get h2;have hl:=r.length;have hn:=yV;have fin:EP X pins σ Q w s:=⟨z,H,I,TM,q⟩
  by_cases h0:0≤i
  · have hj:i.toNat=j:=by rw[seqIndex_of h0 h5]at h1;exact Option.some.inj h1
    exact item_listR pl.isList h0 (by lia) (by rw[hj];simpa using ew) fin hs
  · have hj:(i+(aY.toArray.size:Int)).toNat=j:=by rw[seqIndex_neg (by lia) h4]at h1;rw[List.size_toArray,<-hl];exact Option.some.inj h1
    exact subscriptTail_builtinR (x:=w) pl.isList.typeIs slot_list_getitem.lookup
      (wpAny_getItem_list_neg (Q:=λ r s'=>r=w∧EP X pins σ Q r s') pl.isList (by lia) (by rw[List.size_toArray]<;>lia) (by lia) (by rw[hj];simpa using ew) ⟨rfl,fin⟩) hs
theorem Ms:Ky X (OD X.K):=by
  intro value slice pins s σ H x y v u Q I rx ry h hs;obtain⟨p,xs,i,z,rfl,rfl,hq,he,q⟩:=h;cases rx;obtain⟨t,rfl⟩:=ry;obtain⟨aY,r,pl,hz⟩:=I.tuple hq;obtain⟨j,h1,h2,h3,h4,h5⟩:=zR he;obtain⟨w,ew,TM⟩:=r.get h2;have hl:=r.length;have hn:=yV;have fin:EP X pins σ Q w s:=⟨z,H,I,TM,q⟩
  exact subscriptTail_builtinR (x:=w) pl.typeIs slot_tuple_getitem.lookup
    (getItem_tuple (j:=j) (Q:=λ r s'=>r=w∧EP X pins σ Q r s') pl (by lia) (by lia) (by rw[List.size_toArray,<-hl];exact h1) (by simpa using ew) ⟨rfl,fin⟩) hs
theorem yX:Ky X OE:=by
  intro value slice pins s σ H x y v u Q I rx ry h hs;obtain⟨z,i,c,rfl,rfl,hz,he,q⟩:=h;obtain⟨t,rfl⟩:=rx;obtain⟨t',rfl⟩:=ry;obtain⟨j,h1,h2,h3,h4,h5⟩:=zR he;have hl:z.cps.toList.length=z.length:=by simp[Str.length]
  rw[hl]at h1 h4 h5;have hn:=yV;exact tail_any (typeIs_str s z t) slot_str_getitem.lookup (getItem_str (c:=c) (by have e1:decide (i < -(2 ^ 63:Int))=false:=decide_eq_false (by lia);have e2:decide (i≥2 ^ 63)=false:=decide_eq_false (by lia);rw[e1,e2,Bool.or_false]) (by rw[h1];simpa using h2) ⟨.str ⟨#[c]⟩,H,I.tok _,⟨_,rfl⟩,q⟩) hs
def Yr(K:PySem.W.Frag):R2:=λ x y H Q=>OF K x y H Q∨OD K x y H Q∨OE x y H Q
theorem Mt:Ky X (Yr X.K):=JI.or (Ms.or yX)
theorem yA(lo hi:Option Int)(n:Nat):(sliceBounds lo hi none n).1=((HT.dP n 0 lo:Nat):Int)∧(sliceBounds lo hi none n).2.1=((HT.dP n n hi:Nat):Int)∧(sliceBounds lo hi none n).2.2=1:=by
  refine⟨?_,?_,rfl⟩
  · cases lo with
    | none=>simp[sliceBounds,HT.dP]
    | some i =>
      simp only[sliceBounds,HT.dP,Option.getD_none,show(1:Int) > 0 by decide,if_true];by_cases h:i < 0
      ·simp only[h,if_true]<;>lia
      ·simp only[h,if_false]<;>lia
  · cases hi with
    | none=>simp[sliceBounds,HT.dP]
    | some i =>
      simp only[sliceBounds,HT.dP,Option.getD_none,show(1:Int) > 0 by decide,if_true];by_cases h:i < 0
      ·simp only[h,if_true]<;>lia
      ·simp only[h,if_false]<;>lia
theorem w9(aY:List Value)(lo hi:Option Int):slicePick aY.toArray lo hi none=((aY.drop (HT.dP aY.length 0 lo)).take (HT.dP aY.length aY.length hi-HT.dP aY.length 0 lo)).toArray:=by obtain⟨h1,h2,h3⟩:=yA lo hi aY.toArray.size;unfold slicePick;rw[h1,h2,h3];simp only[sliceRange_one,pick_run,List.size_toArray]<;>rfl
def T3(K:PySem.W.Frag):V->Option Int->Option Int->Hp->VK->Prop:=λ x lo hi H Q=>∃a xs,x=.ref a∧i? K H a xs∧∀p,H p=none->Q (.ref p) (upd H p (.lst (uL xs lo hi)))
theorem IG:Ku X (T3 X.K):=by intro pins s σ H x v vl vu lo hi sl Q I rx hs pl pu h;obtain⟨a,xs,rfl,hx,q⟩:=h;cases rx;obtain⟨aY,r,ht,hz⟩:=I.list hx;have hlen:=r.length;refine⟨"list",_,slot_list_getitem.lookup,ht.isList.typeIs,?_⟩;refine wpAny_getItem_list_slice ht.isList hs pl pu .none (by simp) ?_ (by rw[List.size_toArray]<;>lia);rw[w9,<-hlen];refine⟨.ref s.heap.objs.size,_,I.laid (t':=s.toks) (o:=.lst (uL xs lo hi)) (λ b ob q=>Heap.get?_push_of_some _ q) (Nat.le_refl _) ?_,rfl,q _ (I.dW.fresh (Nat.le_refl _))⟩;exact⟨Nat.le_trans (um xs lo hi) hz,_,0,(r.drop (HT.dP xs.length 0 lo)).take (HT.dP xs.length xs.length hi-HT.dP xs.length 0 lo),Heap.get?_push_size _ rfl⟩
theorem kF.or{f:Value}{r r':List V->Hp->VK->Prop}(h:kF X f r)(h':kF X f r'):kF X f (λ xs H Q=>r xs H Q∨r' xs H Q):=by
  intro pins s σ H xs us Q I rs q;rcases q with q | q
  ·exact h pins s σ H xs us Q I rs q
  ·exact h' pins s σ H xs us Q I rs q
theorem xD:kF X (.type "tuple") (λ xs H Q=>∃p ys,xs=[.ref p]∧((i? X.K H p ys∧∀l,H l=none->Q (.ref l) (upd H l (.tup ys)))∨(oH X.K H p ys∧Q (.ref p) H))):=by
  intro pins s σ H xs us Q I r h;obtain⟨p,ys,rfl,h⟩:=h;obtain⟨u,rfl,rx⟩:=vals1 r;cases rx;rcases h with⟨hq,q⟩ | ⟨hq,q⟩
  · obtain⟨aY,r',pl,hz⟩:=I.list hq;have hlen:=r'.length;refine call_tuple_list pl.isList (λ h' kp=>?_) (by simp only[List.size_toArray]<;>lia);have I1:Inv X pins σ H { s with heap:=h' }:=I.kept (t':=s.toks) kp;have I2:Inv X pins σ (upd H h'.objs.size (.tup ys)) { s with heap:=h'.push { cls:=.type "tuple",data:=.seq aY.toArray } } :=
      I1.laid (t':=s.toks) (λ b o e=>Heap.get?_push_of_some _ e) (Nat.le_refl _) (show js X.prog X.w _ _ _ (.tup ys)from⟨hz,aY,r',IsTup.new _ _⟩)
    exact⟨.ref h'.objs.size,_,I2,rfl,q _ (I1.dW.fresh (Nat.le_refl _))⟩
  · obtain⟨aY,r',pl,hz⟩:=I.tuple hq;exact call_tuple_same pl ⟨.ref p,H,I,rfl,q⟩
def Wj(K:PySem.W.Frag)(T:String)(x:V)(H:Hp):Prop:=match x with
  | .str _=>T = "str"
  | .int _=>T = "int"
  | .ref p=>(T = "list" ∧ ∃xs,i? K H p xs)∨(T = "tuple" ∧ ∃o,K.lookup p=some o∧o.cls=.type "tuple" ∧ o.dict=none) ∨
      (T = "dict" ∧ ((∃kS,H p=some (.dK kS))∨∃kS,H p=some (.dT kS)))∨(T = "set" ∧ ∃S n,H p=some (.set S n))
  | _=>False
theorem Lr {pins : List (Addr × Obj)} {σ : St} {H : Hp} {s : Shared} {T : String} {x : V} {v : Value} (I : Inv X pins σ H s) (r : RelV x v) (ty : Wj X.K T x H) :
    s.TypeIs v T∧∀a,v=.ref a->∃ob,s.heap.get? a=some ob∧ob.dict=none:=by
  cases x with
  | str z =>obtain⟨t,rfl⟩:=r;cases (show T = "str" from ty);exact⟨typeIs_str s z t,λ _ e=>nomatch e⟩
  | int i =>obtain⟨t,rfl⟩:=r;cases (show T = "int" from ty);exact⟨typeIs_int s i t,λ _ e=>nomatch e⟩
  | ref p =>
    cases r;rcases ty with⟨rfl,xs,hq⟩ | ⟨rfl,o,hk,hc,hd⟩ | ⟨rfl,hk⟩ | ⟨rfl,S,n,hk⟩
    · obtain⟨aY,_,pl,_⟩:=I.list hq;refine⟨pl.isList.typeIs,λ a e=>?_⟩;cases e;obtain⟨o,n,e,c,hd,_⟩:=pl;exact⟨o,e,hd⟩
    · refine⟨⟨o,I.EO p o hk,hc⟩,λ a e=>?_⟩;cases e;exact⟨o,I.EO _ o hk,hd⟩
    · have z:∃o,s.heap.get? p=some o∧o.ExactDict:=by
        rcases hk with⟨kS,hk⟩ | ⟨kS,hk⟩
        · obtain⟨_,_,_,_,o,_,_,e,ex,_⟩:=I.dW p _ hk;exact⟨o,e,ex⟩
        · obtain⟨_,_,_,_,o,_,_,e,ex,_⟩:=I.dW p _ hk;exact⟨o,e,ex⟩
      obtain⟨o,e,ex⟩:=z;refine⟨⟨o,e,ex.1⟩,λ a e2=>?_⟩;cases e2;exact⟨o,e,ex.2.1⟩
    · obtain⟨o,_,_,_,e,ex,_⟩:=I.dW p _ hk;refine⟨⟨o,e,ex.1⟩,λ a e2=>?_⟩;cases e2;exact⟨o,e,ex.2.1⟩
  | _=>exact False.elim ty
def Tn(K:PySem.W.Frag)(T:String)(r:V->List V->Hp->VK->Prop)(to:TE)(t:TA):TE:=λ σ H Q=>to σ H λ x H1=>Wj K T x H1∧t σ H1 λ xs H2=>r x xs H2 Q
variable {o e:Expr}{es:List Expr}{to:TE}{t:TA}{name:Str}{apos CS:Pos}{T id:String}{r:V->List V->Hp->VK->Prop}
theorem Au(pa:PlainAttrs T)(slot:Slot T name id)(YO:typeOf (.builtin id)=pure (.type "method_descriptor"))(hm:Kx X id r)(ho:PE X o to)(ha:PA X (e :: es) t)
    (hbase:attributeBase o name X.env (eval o X.env)=eval o X.env:=by rfl)
    (hfew:((backTo CS (starEach (e :: es) X.env)).all (λ x=>!x.1)&&(backToKw CS (keywordEach [] X.env)).all (λ x=>x.1.isSome)
      && decide ((e :: es).length+([]:List Keyword).length+(if([]:List Keyword).isEmpty then 0 else 1) < 30))=true:=by rfl)
    (hline:(apos.endLine==CS.line)=true:=by rfl) (hs:starEach (e :: es) X.env=(false,eval e X.env) :: starEach es X.env:=by rfl) (hplain:(backTo CS (starEach es X.env)).any (·.1)=false:=by rfl) :
    PE X (.Call (.Attribute o name apos) (e :: es) [] CS) (Tn X.K T r to t):=by
  intro pins s σ H Q I h;refine wpAny_Call_method_late hbase hfew hline rfl (d! (ho pins s σ H _ I h) λ v s1 ⟨x,H1,I1,r1,ty,q1⟩=>?_);obtain⟨h1,h2⟩:=Lr I1 r1 ty;refine⟨T,id,pa,slot,YO,h1,h2,?_⟩;have hA:=ha CS pins s1 σ H1 _ I1 q1;rw[hs]at hA ⊢;refine Calls.callWith_builtin (by show(false || (backTo CS (starEach es X.env)).any (·.1))=false;rw[hplain]<;>rfl) (Calls.evalArgs_plain ?_);exact d! hA λ us s2 ⟨vs,H2,I2,r2,q2⟩=>hm pins s2 σ H2 x vs v us Q I2 r1 r2 q2
/- xs.append(e),list.index on a GH tuple .. are Kx facts of 06m -/
end
end L2
namespace L2
open PySem PySem.Spec PyProof.Rows
def XH (X:Cx) (id:String) (r:V->List V->Hp->VK->Prop):Prop :=
  ∀ (pins:List (Addr×Obj)) (s:Shared) (σ:St) (H:Hp) (x:V) (xs:List V) (v:Value) (us:List Value) (Q:VK),Inv X pins σ H s->RelV x v->Vals xs us->r x xs H Q ->
    wpAny (model X.prog X.w) X.A (call (.builtin id) (v :: us)) (EP X pins σ Q) X.xe s
theorem Vals.one:∀{x:V}{us:List Value},Vals [x] us->∃u,us=[u]∧RelV x u
  | _,_,.cons r .nil=>⟨_,rfl,r⟩
theorem Vals.zero:∀{us:List Value},Vals [] us->us=[]
  | _,.nil=>rfl
theorem Vals.reverse{xs:List V}{us:List Value}(h:Vals xs us):Vals xs.reverse us.reverse:=by
  induction h with
  | nil=>exact .nil
  | cons r t ih=>rw[List.reverse_cons,List.reverse_cons];exact Vals.append ih (.cons r .nil)
theorem Vals.rep{xs:List V}{us:List Value}(h:Vals xs us):∀k:Nat,Vals (List.replicate k xs).flatten (List.replicate k us).flatten
  | 0=>.nil
  | k+1=>by rw[List.replicate_succ,List.replicate_succ,List.flatten_cons,List.flatten_cons];exact Vals.append h (Vals.rep h k)
theorem foldl_rep(aY:List Value):∀(k:Nat)(acc:List Value),
    List.foldl (λ x1 x2=>x1++x2) acc.toArray (List.replicate k aY.toArray)=(acc++(List.replicate k aY).flatten).toArray
  | 0,acc=>by simp
  | k+1,acc=>by
    have e:acc.toArray++aY.toArray=(acc++aY).toArray:=by simp
    have e2:(acc++aY)++(List.replicate k aY).flatten=acc++(List.replicate (k+1) aY).flatten:=by rw[List.replicate_succ,List.flatten_cons,List.append_assoc]
    rw[<-e2,<-foldl_rep aY k (acc++aY),<-e,List.replicate_succ,List.foldl_cons]
section
variable {X:Cx}{pins:List (Addr×Obj)}{σ:St}{H:Hp}{s:Shared}{l b:Addr}{xs ys zs:List V}
theorem Inv.Pn{aY its':List Value}{n:Nat}{f:Array Value->Array Value}{t':Nat}(I:Inv X pins σ H s)(hH:H l=some (.lst xs))
    (e:s.heap.get? l=some { cls:=.type "list",data:=.seq aY.toArray n }) (hf:f aY.toArray=its'.toArray) (hv:Vals ys its') (hz:ys.length≤sizeLine) :
    Inv X pins σ (upd H l (.lst ys)) { s with heap:=s.heap.update l (Obj.mapSeq f),toks:=t' }:=by
  have q:=PySem.IsL.update e f;rw[hf]at q;refine I.write (x:=l) (e:=l) (by rw[hH];exact trivial) (.inl rfl) (λ b' u hb hu=>(Heap.get?_update_other s.heap (Obj.mapSeq f) (Ne.symm hb)).trans hu) ⟨_,q⟩ ?_;exact⟨hz,its',_,hv,q⟩
theorem Inv.Pq{aY:List Value}{t':Nat}(I:Inv X pins σ H s)(hv:Vals ys aY)(hz:ys.length≤sizeLine):
    Inv X pins σ (upd H s.heap.objs.size (.lst ys)) { s with heap:=s.heap.push { cls:=.type "list",data:=.seq aY.toArray },toks:=t' } :=
  I.laid (λ _ _ q=>Heap.get?_push_of_some _ q) (Nat.le_refl _) ⟨hz,aY,0,hv,Heap.get?_push_size _ rfl⟩
theorem Inv.fresh(I:Inv X pins σ H s):H s.heap.objs.size=none:=I.dW.fresh (Nat.le_refl _)
theorem Inv.Jx(I:Inv X pins σ H s)(hH:H l=some (.lst xs)):xs.length≤sizeLine∧∃(aY:List Value) (n:Nat),Vals xs aY∧xs.length=aY.length∧s.heap.get? l=some { cls:=.type "list",data:=.seq aY.toArray n }:=by obtain⟨z,aY,n,r,e⟩:=I.dW l _ hH;exact⟨z,aY,n,r,r.length,e⟩
theorem AV{n:Nat}(h:n≤sizeLine):Builtin.List.listTooLong n=false:=by unfold Builtin.List.listTooLong;exact decide_eq_false (by lia)
end
section
variable {X:Cx}
def Df:V->List V->Hp->VK->Prop:=λ x vs H Q=>∃l xs y,x=.ref l∧vs=[y]∧H l=some (.lst xs)∧xs.length < sizeLine∧Q .non (upd H l (.lst (xs++[y])))
theorem xZ:XH X "list.append" Df:=by intro pins s σ H x vs v us Q I rx rv h;obtain⟨l,xs,y,rfl,rfl,hH,hz,q⟩:=h;cases rx;obtain⟨u,rfl,ru⟩:=rv.one;obtain⟨z,aY,n,r,hl,e⟩:=I.Jx hH;refine call_meets F.slot_list_append ⟨_,e,rfl⟩ F.entry_list_append (F.args_list_append_2 _ _) (PySem.list_append l aY.toArray n u (by rw[List.size_toArray];lia)) ⟨e,?_⟩;refine⟨.non,_,I.Pn (its':=aY++[u]) hH e (by simp) (r.append (.cons ru .nil)) ?_,rfl,q⟩;rw[List.length_append,List.length_singleton];lia
def De:V->List V->Hp->VK->Prop:=λ x vs H Q=>∃l b xs zs,x=.ref l∧vs=[.ref b]∧H l=some (.lst xs)∧H b=some (.lst zs)∧xs.length+zs.length≤sizeLine∧Q .non (upd H l (.lst (xs++zs)))
theorem EJ:XH X "list.extend" De:=by
  intro pins s σ H x vs v us Q I rx rv h;obtain⟨l,b,xs,zs,rfl,rfl,hH,hB,hz,q⟩:=h;cases rx;obtain⟨u,rfl,ru⟩:=rv.one;cases ru;obtain⟨z,aY,n,r,hl,e⟩:=I.Jx hH;obtain⟨z2,e?,n2,r2,MM,e2⟩:=I.Jx hB;have H!:aY.toArray.size+e?.toArray.size≤sizeLine:=by rw[List.size_toArray,List.size_toArray];lia
  have G7:¬(!aY.toArray.isEmpty&&Builtin.List.listTooLong (aY.toArray.size+e?.toArray.size))=true:=by rw[AV H!,Bool.and_false];exact Bool.false_ne_true
  refine call_meets F.slot_list_extend ⟨_,e,rfl⟩ F.entry_list_extend (F.args_list_extend_2 _ _)
    (AutoSeq1.list_extend_list_list_0 l aY.toArray n b e?.toArray n2 G7 (by rw[List.size_toArray];lia) (by lia)) ⟨e,e2,?_⟩
  refine⟨.non,_,I.Pn (its':=aY++e?) hH e (by simp) (r.append r2) ?_,rfl,q⟩;rw[List.length_append];lia
def T4:R2:=λ x y H Q=>∃l k xs,x=.ref l∧y=.int k∧H l=some (.lst xs)∧-(2 ^ 63)≤k∧k < 2 ^ 63∧xs.length*k.toNat≤sizeLine ∧
  ∀p,H p=none->Q (.ref p) (upd H p (.lst (List.replicate k.toNat xs).flatten))
theorem len_rep{α:Type}(xs:List α)(k:Nat):(List.replicate k xs).flatten.length=k*xs.length:=by
  induction k with
  | zero=>simp
  | succ k ih=>rw[List.replicate_succ,List.flatten_cons,List.length_append,ih,Nat.succ_mul,Nat.add_comm]
theorem L0:kI X (binaryOp .Mult) T4:=by
  intro pins s σ H x y v u Q I rx ry h;obtain⟨l,k,xs,rfl,rfl,hH,h1,h2,hz,q⟩:=h;cases rx;obtain⟨t,rfl⟩:=ry;obtain⟨z,aY,n,r,hl,e⟩:=I.Jx hH;have hlen:aY.toArray.size*k.toNat≤sizeLine:=by rw[List.size_toArray,<-hl];exact hz
  have Vm:¬aY.toArray.size*k.toNat > (2 ^ 63-1) / 8:=by
    have:(sizeLine:Nat)≤(2 ^ 63-1) / 8:=by decide
    lia
  have Vd:¬(!Builtin.List.listFitsIndex k)=true:=by rw[fitsIndex_both h1 h2];exact Bool.false_ne_true
  have G7:¬Builtin.List.listTooLong (aY.toArray.size*k.toNat)=true:=by rw[AV hlen];exact Bool.false_ne_true
  have UT:List.foldl (λ x1 x2=>x1++x2) #[] (List.replicate (if aY.toArray.isEmpty=true then 0 else k.toNat) aY.toArray)=(List.replicate k.toNat aY).flatten.toArray:=by
    have f0:∀m:Nat,List.foldl (λ x1 x2=>x1++x2) #[] (List.replicate m aY.toArray)=(List.replicate m aY).flatten.toArray:=λ m=>by have:=foldl_rep aY m [];rw[List.nil_append]at this;exact this
    rw[f0];cases aY with
    | nil=>simp
    | cons a r'=>rw[if_neg (by simp)]
  refine wpAny_binaryOp_repeat_ref (T := "list") (U := "int") (by decide) ⟨_,e,rfl⟩ (λ s'=>typeIs_int s' k t) noFill_list_mul F.fills_int_mul F.slot_int_rmul repeat_list F.slot_int_index.lookup
    (call_meets F.slot_int_rmul (typeIs_int s k t) F.entry_int_rmul (F.args_int_rmul_2 _ _) (int___rmul___int_list k t l aY.toArray n)
      ⟨e,rfl,⟨_,e,rfl⟩,call_meets F.slot_list_mul ⟨_,e,rfl⟩ F.entry_list_mul (F.args_list_mul_2 _ _) (AutoListH.list___mul___list_int_3 l aY.toArray n k t Vd Vm G7) ⟨e,?_⟩⟩)
  rw[UT];exact⟨.ref _,_,I.Pq (t':=s.toks) (r.rep k.toNat) (by rw[len_rep,Nat.mul_comm];exact hz),rfl,q _ I.fresh⟩
end
section
variable {prog:Program}{w:World}{A:Around}{E:Value->Shared->Prop}{s:Shared}
set_option maxRecDepth 100000 in
end
section
variable {X:Cx}
end
end L2
namespace Wd
open PySem PySem.W PySem.Calls PyProof.Rows
theorem uF{P:Params}{h:Heap}:∀(ns:List Int)(vs:List Value),WellAll P h vs (ns.map WData.int)->IntsAre vs ns:=by
  intro ns
  induction ns with
  | nil =>intro vs w;rw[List.map_nil]at w;cases w;exact .nil
  | cons n ns ih =>
    intro vs w;rw[List.map_cons]at w;cases w with
    | cons a b =>cases a;exact .cons _ _ (ih _ b)
theorem Ei{l:OpenLaw}{n:Nat}(hn:l.most=some n){P:Params}{h:Heap}{args:List WData}{vals:List Value}
    (JT:l.row.toRowW.claim.pre args=true) (UE:WellAll P h vals args) :
    ∃a vs ns,vals=[Value.ref a]∧args=[WData.list (ns.map WData.int)]∧h.get? a=some { cls:=.type "list",data:=.seq vs.toArray }∧IntsAre vs ns∧ns.length≤n:=by
  have YT:WShape.hasAll [] args [.list .int]=true:=(pre_splitW JT).1;have hc:l.pre.holds [] { args:=args }=true:=(pre_splitW JT).2;obtain⟨d,r,rfl,h1,h2⟩:=hasAllW_cons YT;obtain rfl:=hasAllW_nil h2;obtain⟨xs,rfl,h3⟩:=hasW_list h1;obtain⟨ns,rfl⟩:=items_int h3;have hlen:ns.length≤n:=by
    unfold OpenLaw.pre at hc;have h4:(WTm.not (.lt (.lit (.int (n:Int))) (.len (.arg 0)))).holds [] { args:=[.list (ns.map .int)] }=true:=by have h4:=(holds_andW hc).1;rw[hn]at h4;exact h4
    have h5:=condW_of h4 (w_not (w_lt w_lit (w_len_list (w_arg rfl))));rw[List.length_map]at h5;refine Nat.le_of_not_lt λ q=>?_;have q':(n:Int) < ((ns.length:Nat):Int):=by lia
    first
      | (rw[decide_eq_true q']at h5;exact absurd h5 (by decide))
      | (simp at h5;lia)
  cases UE with
  | cons w1 w2 =>
    cases w2;cases w1 with
    | list ho hall=>exact⟨_,_,ns,rfl,rfl,ho,uF ns _ hall,hlen⟩
theorem Em(l:OpenLaw)(args:List WData):l.row.toRowW.claim.post args (.bool true) args=true :=
  postW_of (r:=l.row.toRowW) (X:=(true==true))
    (show WShape.has [] (.bool true) .bool=true by first | rfl | decide | simp[WShape.has,WShape.arms,WShape.armsAll])
    (show(WTm.eq .res (.lit (.bool true))).value [] { args:=args,res:=some (.bool true),after:=args }=some (.bool (true==true))from w_eq_bool (w_res rfl) w_lit) rfl
section
variable {prog:Program}{w:World}{A:Around}{E:Value->Shared->Prop}{s:Shared}{K:Frag}
end
end Wd
namespace L2
open PySem PySem.Spec PyProof.Rows
theorem xJ:∀{vs:List Value}{ns:List Int},IntsAre vs ns->Vals (ns.map V.int) vs
  | _,_,.nil=>.nil
  | _,_,.cons n t h=>.cons ⟨t,rfl⟩ (xJ h)
def Kw(H:Hp):Prop:=∀b,H b=none∨(∃o xs,H b=some (.i! o (.lst xs)))∨∃q,H b=some (.HR q)
def TabAt(K:PySem.W.Frag)(x:Str)(b:Addr):Prop:=x∈di∧∃c,PySem.W.tabIn K x=some (c,b)
theorem Jz{K:PySem.W.Frag}(one:∀x y c P c' ,x∈di->y∈di->PySem.W.tabIn K x=some (c,P)->PySem.W.tabIn K y=some (c',P)->x=y){x y:Str}{b:Addr}(h:TabAt K x b)(g:TabAt K y b):x=y:=by obtain⟨h1,c,h2⟩:=h;obtain⟨g1,d,g2⟩:=g;exact one x y c b d h1 g1 h2 g2
open Classical in
noncomputable def BU(K:PySem.W.Frag)(a:Addr)(u:HO)(s:Bool):Hp:=λ b=>if h:∃x,TabAt K x b then some (.HR (kJ h.choose))else if s=true∧b=a then some u else none
theorem GN {P : Program} {w : World} {K : PySem.W.Frag} {mg mb : Str -> Option Value} {CX : HN} {k : Nat} {fa a : Addr} {fd : FuncData} {x : Str} {sp : Sp} {s₁ : Shared} {vs : List Value} {ns : List Int}
    (KX:K.In s₁.heap) (Fu:s₁.heap.Ns mainGlobals mg) (hb:s₁.heap.Ns builtinsNs mb) (Zi:∀x:Str,x ≠ "__name__" -> mb x=bootBuiltins x) (U3:s₁.heap.NoLimit) (hg:s₁.gens=#[])
    (ha:s₁.heap.get? a=some { cls:=.type "list",data:=.seq vs.toArray }) (hi:IntsAre vs ns) (hl:ns.length≤sizeLine) (hr:eM k callerA)
    (F:∀base:Heap,K.In base->base.Ns mainGlobals mg->nE P w K mg base CX k fa fd [x] sp) (oj:∀(s:Shared)(u:Value),BindsTo s fd ⟨[u],[]⟩ [(x,u)])
    (K5:∀H:Hp,Kw H->i? K H a (ns.map V.int)->sp [.ref a] H (λ v _=>v=.bl true) λ _ _ _=>False)
    (Zv:∀H e s',CX [] H s₁ (λ _ _ _=>False) e s'->False)
    (one:∀x y c P c' ,x∈di->y∈di->PySem.W.tabIn K x=some (c,P)->PySem.W.tabIn K y=some (c',P)->x=y)
    (tab:∀x∈di,∀c P,PySem.W.tabIn K x=some (c,P)->(PySem.W.CodeHd s₁.heap c P∧s₁.heap.get? P=some (PySem.W.tabObj #[]))∧s₁.heap.TableAt c P #[]) (bm:BMain mg s₁.heap) (Yu:PySem.W.noTabs K=true) :
    codeAny (model P w) callerA (.call (.ref fa) ⟨[.ref a],[]⟩) (λ r s'=>r=.ok (.ret (.bool true))∧OldK s₁.heap s'.heap∧s'.os=s₁.os∧AllBare s'.gens) s₁:=by
  have rv:=xJ hi;have Up:=hi.length;have Iu:∀{b:Addr}{y:Str},TabAt K y b->s₁.heap.get? b=some (PySem.W.tabObj #[]):=λ {b y} ⟨h1,c,h2⟩=>(tab y h1 c b h2).1.2;have KS:∀{b:Addr}{o:Obj},s₁.heap.get? b=some o->o≠PySem.W.tabObj #[]->¬∃y,TabAt K y b:=λ {b o} e n ⟨y,h⟩=>by have:=Iu h;rw[e]at this;exact n (Option.some.inj this)
  have XG:∀{b:Addr}{u:HO}{q:Bool}{y:Str},TabAt K y b->BU K a u q b=some (.HR (kJ y)):=λ {b u q y} h=>by
    have hh:∃x,TabAt K x b:=⟨y,h⟩
    unfold BU;rw[dif_pos hh];rw[Jz one hh.choose_spec h]
  have at2:∀{b:Addr}{u:HO}{q:Bool},(¬∃y,TabAt K y b)->BU K a u q b=if q=true∧b=a then some u else none:=λ {b u q} h=>by unfold BU;rw[dif_neg h]
  -- from an abstract heap in Wg nothing but Lv Lz and Lv tables may be tracked
  have core:∀(u:HO)(q:Bool),(∃o xs,u=.i! o (.lst xs))->i? K (BU K a u q) a (ns.map V.int)->(q=true->js P w (BU K a u q) s₁.heap a u)->(q=true->K.lookup a=none) ->
      codeAny (model P w) callerA (.call (.ref fa) ⟨[.ref a],[]⟩) (λ r s'=>r=.ok (.ret (.bool true))∧OldK s₁.heap s'.heap∧s'.os=s₁.os∧AllBare s'.gens) s₁:=by
    intro u q hu hS WZ hK;generalize Vq:BU K a u q=H at hS WZ;have na:¬∃y,TabAt K y a:=KS ha λ z=>by cases z
    have of:∀{b:Addr}{v:HO},H b=some v->(∃y,TabAt K y b∧v=.HR (kJ y))∨(q=true∧b=a∧v=u):=λ {b v} e=>by
      by_cases hb:∃y,TabAt K y b
      · obtain⟨y,hy⟩:=hb;rw[<-Vq,XG hy]at e;cases e;exact .inl ⟨y,hy,rfl⟩
      · rw[<-Vq,at2 hb]at e;split at e
        · rename_i hc;cases e;exact .inr ⟨hc.1,hc.2,rfl⟩
        ·cases e
    have dW:sZ P w H s₁.heap:=λ b v e=>by
      rcases of e with⟨y,hy,rfl⟩ | ⟨hq,rfl,rfl⟩
      ·exact⟨#[],Iu hy,trivial,λ pos cv z=>nomatch z⟩
      ·exact WZ hq
    have hO:Kw H:=λ b=>by
      cases e:H b with
      | none=>exact .inl rfl
      | some v =>
        rcases of e with⟨y,_,rfl⟩ | ⟨_,_,rfl⟩
        ·exact .inr (.inr ⟨_,rfl⟩)
        · obtain⟨o,xs,rfl⟩:=hu;exact .inr (.inl ⟨o,xs,rfl⟩)
    have uZ:∀{b:Addr}{o:Obj},s₁.heap.get? b=some o->H b=none->(xn s₁.heap H).get? b=some o:=λ e n=>G9 e n;have Mc:∀{b:Addr}{o:Obj},s₁.heap.get? b=some o->(∀xs n,o.data≠.seq xs n)->(∀xs,o.data≠.fields xs∨o.cls≠.none)->H b=none:=λ {b o} e d d2=>by
      cases r:H b with
      | none=>rfl
      | some v =>
        rcases of r with⟨y,hy,_⟩ | ⟨_,Vo,_⟩
        · rw[Iu hy]at e;cases e;rcases d2 #[]with z | z
          ·exact absurd rfl z
          ·exact absurd rfl z
        · rw[Vo,ha]at e;cases e;exact absurd rfl (d _ _)
    have R_:∀{b:Addr}{m:Str->Option Value},s₁.heap.Ns b m->(xn s₁.heap H).Ns b m:=λ {b m} ⟨o,es,ep,e,d,r⟩=>⟨o,es,ep,uZ e (Mc e (λ xs n z=>by rw[d]at z;cases z) λ xs=>.inl λ z=>by rw[d]at z;cases z),d,r⟩
    have Xa:K.In (xn s₁.heap H):=λ b o e=>uZ (KX b o e) (by
      cases r:H b with
      | none=>rfl
      | some v =>
        rcases of r with⟨y,hy,_⟩ | ⟨hq,Vo,_⟩
        · have e2:=KX b o e;rw[Iu hy]at e2;cases e2;have h2:=List.all_eq_true.mp Yu _ (PySem.W.mem_of_lookupK e);exact absurd (show false=true from h2) Bool.false_ne_true
        ·rw[Vo,hK hq]at e;cases e)
    have hM:Mod K mg (xn s₁.heap H):=⟨Xa,R_ Fu,⟨mb,R_ hb,Zi⟩,let ⟨mc,h1,h2⟩:=U3;⟨mc,R_ h1,h2⟩⟩
    have hT:yo K mg (xn s₁.heap H) H:=λ y hy c p e=>by obtain⟨⟨⟨o,vs,file,tf,flags,tg,YE,text,tt,e1,e2,e3,r⟩,_⟩,_⟩:=tab y hy c p e;obtain⟨bmA,ob,b1,b2,b3,b4,b5,b6⟩:=bm;refine⟨by rw[<-Vq];exact XG ⟨hy,c,e⟩,⟨o,vs,file,tf,flags,tg,YE,text,tt,uZ e1 (Mc e1 (λ xs n z=>by rw[e3]at z;cases z) λ xs=>.inr λ z=>by rw[e2]at z;cases z),e2,e3,r⟩,bmA,ob,b1,b2,uZ b3 (Mc b3 (λ xs n z=>by rw[b6]at z;cases z) λ xs=>.inr λ z=>by rw[b4]at z;cases z),b4,b5,b6⟩
    have e0:C3 P w K mg (xn s₁.heap H) callerA [] s₁ H:=⟨rfl,hM,λ b o e=>Jk e,Nat.le_of_eq (EU _ _),trivial,λ b hb=>absurd (show b∈([]:List Addr)from hb) (by simp),dW,.of_eq hg,hT⟩
    refine codeAny_mono ((F _ Xa (R_ Fu)).run callerA [] s₁ H ⟨[.ref a],[]⟩ [.ref a] [.ref a] _ _ hr e0 (oj s₁ (.ref a)) (.cons rfl .nil) (K5 H hO hS)) λ r s' h=>?_;cases r with
    | error e=>exact(Zv H e s' h).elim
    | ok fl =>
      cases fl with
      | next=>exact False.elim h
      | brk=>exact False.elim h
      | cont=>exact False.elim h
      | ret u' =>
        obtain⟨v,H',os,bare,un,P6,r',q'⟩:=h;have q':v=.bl true:=q';subst q';obtain rfl:u'=Value.bool true:=r';refine⟨rfl,⟨λ b o e=>?_,λ b o e=>un.there b o e (by simp)⟩,os,bare⟩;cases r:H b with
        | none=>exact .inl (un.keep b o e r (by intro z;exact absurd (show b∈([]:List Addr)from z) (by simp)) (by simp))
        | some v =>
          rcases of r with⟨y,hy,rfl⟩ | ⟨_,_,rfl⟩
          · have r2:=un.u9 b (.HR (kJ y)) trivial r;obtain⟨ps,g1,_⟩:=P6 b _ r2;obtain⟨h1,c,h2⟩:=hy;have tb:=(tab y h1 c b h2).2;have e3:o={ cls:=.none,data:=.fields #[] }:=Option.some.inj (e.symm.trans tb.2);subst e3;exact .inr (.inl ⟨tb.isCodeTable,rfl,#[],ps,rfl,by rw[g1];simp⟩)
          · obtain⟨ob,xs,rfl⟩:=hu;have z2:=un.xq b ob _ r;obtain⟨e1,_⟩:=dW b _ r;obtain⟨e2,_⟩:=P6 b _ z2;rw[e]at e1;cases e1;exact .inl e2
  have na:¬∃y,TabAt K y a:=KS ha λ z=>by cases z
  cases hk:K.lookup a with
  | some o =>
    -- Lv Lz is one of Lv GH own objects
    have e:=KX a o hk;rw[ha]at e;cases e;exact core (.i! { cls:=.type "list",data:=.seq vs.toArray } (.lst [])) false ⟨_,_,rfl⟩ (.inr ⟨_,vs.toArray,_,hk,rfl,rfl,rfl,by rw[List.size_toArray,Up];exact hl,by simpa using rv⟩) (λ z=>nomatch z) λ z=>nomatch z
  | none =>refine core (.i! { cls:=.type "list",data:=.seq vs.toArray } (.lst (ns.map V.int))) true ⟨_,_,rfl⟩ (.inl (.inr ⟨{ cls:=.type "list",data:=.seq vs.toArray },by rw[at2 na];exact if_pos ⟨rfl,rfl⟩⟩)) (λ _=>⟨ha,by rw[List.length_map];exact hl,vs,_,rv,ha⟩) λ _=>hk
end L2
namespace L2
open PySem PySem.Spec PyProof.Rows
def dm(s:Stmt):Arguments:=match s with
  | .FunctionDef _ a _ _ _ _ _ _ _ _=>a
  | _=>{ posonlyargs:=[],args:=[],vararg:=none,kwonlyargs:=[],kw_defaults:=[],kwarg:=none,defaults:=[] }
def bO(s:Stmt):List Stmt:=match s with
  | .FunctionDef _ _ b _ _ _ _ _ _ _=>b
  | _=>[]
def au(s:Stmt):Scope:=match s with
  | .FunctionDef _ _ _ _ _ _ sc _ _ _=>sc
  | _=>{ kind:=.function,names:=[],isGenerator:=false,isCoroutine:=false }
abbrev tI:HN:=λ _ _ _ _ _ _=>False
abbrev E0:XK:=λ _ _ _=>False
theorem OO{X:Cx}:Passes tI X E0:=λ _ _ _ _ _ _ _ h=>h.elim
structure HM(K:PySem.W.Frag)(x qual:Str)(st:Stmt)(f:Addr)(fd:FuncData):Prop where
  ex:∃(oc:Value)(od:Option Addr)(kV doc pm:Value)(an:Option Addr)(bP ct:Value)(BL:Array (Option Value)),
    fd=PySem.W.fnOf x qual (dm st) (bO st) (au st) .none kV doc pm an bP ct∧K.lookup f=some ⟨oc,od,.func fd,BL⟩∧PySem.W.codeIn K bP qual=true
  kp:PySem.W.keepIn K (.ref f)=true
section
variable {P:Program}{w:World}{K:PySem.W.Frag}{mg:Str->Option Value}{base:Heap}
theorem HM.ok{x qual:Str}{st:Stmt}{f:Addr}{fd:FuncData}{N ps:List Str}{k:Nat}{sp:Sp}(F:HM K x qual st f fd)(S:aA N ps (au st))(len:∀vs H Q E,sp vs H Q E->vs.length=ps.length)
    (A9:∀(bP:Value)(A:Around)(outer:List Env)(s:Shared)(H:Hp)(vs:List V)(Q:VK)(E:XK),eM k (A.deeper (envOfC qual (au st) s.heap.objs.size f bP))->sp vs H Q E ->
      ∃t,yp (nD tI P w K mg base N qual (au st) f bP A outer s H E).z8 (bO st) t∧t { nx:=λ _ H'=>Q .non H',rt:=Q } (start N vs) H):nE P w K mg base tI (k+1) f fd ps sp:=by
  obtain⟨oc,od,kV,doc,pm,an,bP,ct,BL,rfl,lk,hcd⟩:=F.ex;refine Hh lk hcd S len λ A outer s H vs Q E hr K5=>?_;obtain⟨t,h,q⟩:=A9 bP A outer s H vs Q E hr K5;exact⟨t,h.z8,q⟩
theorem HM.binds{x qual:Str}{st:Stmt}{f:Addr}{fd:FuncData}{ps:List Str}(F:HM K x qual st f fd)
    (h:∀(kV doc pm:Value)(an:Option Addr)(bP ct:Value)(us:List Value),us.length=ps.length->bindArgs (PySem.W.fnOf x qual (dm st) (bO st) (au st) .none kV doc pm an bP ct) ⟨us,[]⟩=pure (ps.zip us)):Binds K fd ps []:=by
  obtain⟨oc,od,kV,doc,pm,an,bP,ct,BL,rfl,lk,hcd⟩:=F.ex;exact .all (h kV doc pm an bP ct)
theorem He{x qual:Str}{st:Stmt}{f:Addr}{oc:Value}{od an:Option Addr}{BL:Array (Option Value)}{kV doc pm bP ct:Value}(l:K.lookup f=some ⟨oc,od,.func (PySem.W.fnOf x qual (dm st) (bO st) (au st) .none kV doc pm an bP ct),BL⟩)
    (c:PySem.W.codeIn K bP qual=true) (k:PySem.W.keepIn K (.ref f)=true):HM K x qual st f (PySem.W.fnOf x qual (dm st) (bO st) (au st) .none kV doc pm an bP ct):=⟨⟨oc,od,kV,doc,pm,an,bP,ct,BL,rfl,l,c⟩,k⟩
end
section
variable {X:Cx}
theorem pv(i:Nat){x:Str}{pos:Pos}(hN:X.N[i]?=some x:=by rfl)(hv:Ii X.env.scope x:=by first | exact Or.inl rfl | exact Or.inr (Or.inl rfl) | exact Or.inr (Or.inr rfl))(hd:(x==("__debug__" : Str))=false:=by decide)
    (hcd:(x==("__classdict__" : Str))=false:=by decide):PE X (.Name x pos) (yu i):=B5 hN hv hd hcd
end
def aI(H H':Hp):Prop:=∀b o,H b=some o->H' b=some o
theorem aI.refl(H:Hp):aI H H:=λ _ _ h=>h
theorem aI.trans{H H1 H2:Hp}(a:aI H H1)(b:aI H1 H2):aI H H2:=λ c o h=>b c o (a c o h)
theorem aI.free{H H':Hp}(e:aI H H'){l:Addr}(h:H' l=Option.none):H l=Option.none:=by
  cases q:H l with
  | none=>rfl
  | some o =>rw[e l o q]at h;cases h
theorem aI.seq{K:PySem.W.Frag}{H H':Hp}{a:Addr}{xs:List V}(e:aI H H')(h:i? K H a xs):i? K H' a xs:=by
  rcases h with(h | ⟨o,h⟩) | h
  ·exact .inl (.inl (e _ _ h))
  ·exact .inl (.inr ⟨o,e _ _ h⟩)
  ·exact .inr h
end L2
set_option genSizeOf true
noncomputable section
namespace Z
inductive D where
 | non
 | bl (b:Bool)
 | int (i:Int)
 | str (cs:List Nat)
 | tup (xs:List D)
 | lst (xs:List D)
 | dct (ks:List (Sum Int (List Nat))) (vs:List D)
inductive Res (α:Type) where
 | ok (a:α)
 | bad
namespace Res
def bind{α β:Type}(r:Res α)(f:α->Res β):Res β :=
 match r with
 | ok a=>f a
 | bad=>bad
@[simp] theorem uR{α β:Type}(a:α)(f:α->Res β):(Res.ok a).bind f=f a:=rfl
@[simp] theorem Q4{α β:Type}(f:α->Res β):(Res.bad:Res α).bind f=bad:=rfl
def map{α β:Type}(f:α->β)(r:Res α):Res β :=
 match r with
 | ok a=>ok (f a)
 | bad=>bad
@[simp] theorem Um{α β:Type}(a:α)(f:α->β):(Res.ok a).map f=ok (f a):=rfl
@[simp] theorem Sb{α β:Type}(f:α->β):(Res.bad:Res α).map f=bad:=rfl
theorem az{α β:Type}{r:Res α}{f:α->Res β}{b:β}(h:r.bind f=ok b):∃a,r=ok a∧f a=ok b:=by
 cases r with
 | ok a=>exact⟨a,rfl,h⟩
 | bad=>cases h
end Res
open Classical in
def guard{α:Type}(p:Prop)(r:Res α):Res α:=if p then r else .bad
@[simp] theorem guard_true{α:Type}(r:Res α):guard True r=r:=by unfold guard;exact if_pos trivial
theorem guard_pos{α:Type}{p:Prop}{r:Res α}(h:p):guard p r=r:=by unfold guard;exact if_pos h
theorem rn{α:Type}{p:Prop}{r:Res α}{a:α}(h:guard p r=.ok a):p∧r=.ok a:=by
 unfold guard at h;split at h
 ·rename_i q;exact⟨q,h⟩
 ·cases h
inductive L where
 | val (d:D)
 | own (xs:List D)
 | bor (xs:List D)
 | uK (ks:List (List Int))
 | Hm (ks:List (List Int))
 | PJ (ps:List (Int×Int))
abbrev Env:=List (Option L)
abbrev EF:=Env->Res D
abbrev LF:=Env->Res (List D)
abbrev TF:=Env->Res Bool
abbrev AF:=Env->Res (List D)
inductive Fl where
 | nx (ρ:Env)
 | rt (d:D)
 | bk (ρ:Env)
 | ct (ρ:Env)
abbrev SF:=Env->Res Fl
abbrev GF:=D->Env->Res Env
abbrev line:Nat:=16777216
def eC(d:D)(_:Env):Res D:=.ok d
def eV(i:Nat)(ρ:Env):Res D:=match ρ[i]? with
 | some (some (.val d))=>.ok d
 | _=>.bad
def eW(i:Nat)(ρ:Env):Res D:=match ρ[i]? with
 | some (some (.val d))=>.ok d
 | some (some (.own xs))=>.ok (.lst xs)
 | some (some (.bor xs))=>.ok (.lst xs)
 | _=>.bad
def eB(op:D->D->Res D)(a b:EF)(ρ:Env):Res D:=(a ρ).bind λ x=>(b ρ).bind λ y=>op x y
def eU(op:D->Res D)(a:EF)(ρ:Env):Res D:=(a ρ).bind op
def wA(a b:EF)(ρ:Env):Res D:=(a ρ).bind λ x=>match x with
 | .bl c=>if c then b ρ else .ok (.bl false)
 | _=>.bad
def NW(a b:EF)(ρ:Env):Res D:=(a ρ).bind λ x=>match x with
 | .bl c=>if c then .ok (.bl true)else b ρ
 | _=>.bad
def J?(a:EF)(ρ:Env):Res D:=(a ρ).bind λ x=>match x with
 | .bl c=>.ok (.bl !c)
 | _=>.bad
def mC(op uz:D->D->Res D)(a b c:EF)(ρ:Env):Res D:=(a ρ).bind λ x=>(b ρ).bind λ y=>(op x y).bind λ z=>match z with
 | .bl k=>if k then(c ρ).bind λ w=>uz y w else .ok (.bl false)
 | _=>.bad
def M6(t:TF)(a b:EF)(ρ:Env):Res D:=(t ρ).bind λ c=>if c then a ρ else b ρ
def eL(l:LF)(ρ:Env):Res D:=(l ρ).map D.lst
def ax(_:Env):Res (List D):=.ok []
def aa(a:EF)(r:AF)(ρ:Env):Res (List D):=(a ρ).bind λ x=>(r ρ).bind λ xs=>.ok (x :: xs)
def bX(as:AF)(ρ:Env):Res (List D):=(as ρ).bind λ xs=>guard (xs.length≤line) (.ok xs)
def fM(as:AF)(ρ:Env):Res D:=(as ρ).bind λ xs=>guard (xs.length≤line) (.ok (.tup xs))
def aw(f:List D->Res D)(as:AF)(ρ:Env):Res D:=(as ρ).bind f
def tE(a:EF)(ρ:Env):Res Bool:=(a ρ).bind λ x=>match x with
 | .bl c=>.ok c
 | _=>.bad
def l6(a b:TF)(ρ:Env):Res Bool:=(a ρ).bind λ c=>if c then b ρ else .ok false
def yv(a b:TF)(ρ:Env):Res Bool:=(a ρ).bind λ c=>if c then .ok true else b ρ
def nA(a:TF)(ρ:Env):Res Bool:=(a ρ).bind λ c=>.ok !c
def bits(a:Int):Nat:=if a=0 then 0 else a.natAbs.log2+1
def bj:D->D->Res D
 | .int a,.int b=>.ok (.int (a+b))
 | .str a,.str b=>guard (a.length+b.length≤line) (.ok (.str (a++b)))
 | .tup a,.tup b=>guard (a.length+b.length≤line) (.ok (.tup (a++b)))
 | _,_=>.bad
def AN:D->D->Res D
 | .int a,.int b=>.ok (.int (a-b))
 | _,_=>.bad
def bI(a b:Int):Prop:=((-18446744073709551616 < a∧a < 18446744073709551616)∨(-18446744073709551616 < b∧b < 18446744073709551616)∨(bits a≤16777216∧bits b≤16777216))
def gy:D->D->Res D
 | .int a,.int b=>guard (bI a b) (.ok (.int (a*b)))
 | _,_=>.bad
def mE(b:Int):Prop:=0 < b∧b < 1809251394333065553493296640760748560207343510400633813116524750123642650624
def oDiv:D->D->Res D
 | .int a,.int b=>guard (mE b) (.ok (.int (a / b)))
 | _,_=>.bad
def oMod:D->D->Res D
 | .int a,.int b=>guard (0 < b) (.ok (.int (a % b)))
 | _,_=>.bad
def T_:D->D->Res D
 | .int a,.int b=>guard (0≤b) (.ok (.int (a / 2 ^ b.toNat)))
 | _,_=>.bad
def n!:D->D->Res D
 | .int a,.int b=>guard (0≤b∧b≤1000000∧a.natAbs < 2 ^ 64) (.ok (.int (a ^ b.toNat)))
 | _,_=>.bad
def Gs:D->Res D
 | .int a=>.ok (.int (-a))
 | _=>.bad
def Jw:List Nat->List Nat->Bool
 | [],[]=>false
 | [],_ :: _=>true
 | _ :: _,[]=>false
 | a :: as,b :: bs=>if a < b then true else if a=b then Jw as bs else false
def oLt:D->D->Res D
 | .int a,.int b=>.ok (.bl (decide (a < b)))
 | _,_=>.bad
def oLe:D->D->Res D
 | .int a,.int b=>.ok (.bl (decide (a≤b)))
 | .str a,.str b=>.ok (.bl (!(Jw b a)))
 | _,_=>.bad
def z7:D->D->Res D
 | .int a,.int b=>.ok (.bl (decide (b < a)))
 | _,_=>.bad
def L_:D->D->Res D
 | .int a,.int b=>.ok (.bl (decide (b≤a)))
 | _,_=>.bad
def FA:D->D->Option Bool
 | .non,.non=>some true
 | .bl a,.bl b=>some (a==b)
 | .bl a,.int b=>some ((if a then 1 else 0)==b)
 | .int a,.bl b=>some (a==(if b then 1 else 0))
 | .int a,.int b=>some (a==b)
 | .str a,.str b=>some (a==b)
 | .non,.bl _=>some false
 | .non,.int _=>some false
 | .non,.str _=>some false
 | .bl _,.non=>some false
 | .bl _,.str _=>some false
 | .int _,.non=>some false
 | .int _,.str _=>some false
 | .str _,.non=>some false
 | .str _,.bl _=>some false
 | .str _,.int _=>some false
 | _,_=>none
def allEq(f:D->D->Option Bool):List D->List D->Option Bool
 | [],[]=>some true
 | [],_ :: _=>some false
 | _ :: _,[]=>some false
 | a :: as,b :: bs=>match f a b,allEq f as bs with
  | some x,some y=>some (x&&y)
  | _,_=>none
def dC:Nat->D->D->Option Bool
 | n+1,.tup a,.tup b=>allEq (dC n) a b
 | n+1,.lst a,.lst b=>allEq (dC n) a b
 | _,.tup _,.lst _=>some false
 | _,.lst _,.tup _=>some false
 | _,.tup _,.non=>some false
 | _,.tup _,.bl _=>some false
 | _,.tup _,.int _=>some false
 | _,.tup _,.str _=>some false
 | _,.non,.tup _=>some false
 | _,.bl _,.tup _=>some false
 | _,.int _,.tup _=>some false
 | _,.str _,.tup _=>some false
 | _,.lst _,.non=>some false
 | _,.lst _,.bl _=>some false
 | _,.lst _,.int _=>some false
 | _,.lst _,.str _=>some false
 | _,.non,.lst _=>some false
 | _,.bl _,.lst _=>some false
 | _,.int _,.lst _=>some false
 | _,.str _,.lst _=>some false
 | _,x,y=>FA x y
def lF:D->D->Option Bool:=dC 6
def oEq(a b:D):Res D:=match lF a b with
 | some x=>.ok (.bl x)
 | none=>.bad
def qH(a b:D):Res D:=match lF a b with
 | some x=>.ok (.bl !x)
 | none=>.bad
def ly:D->Res D
 | .non=>.ok (.bl true)
 | _=>.ok (.bl false)
def eH:D->Res D
 | .non=>.ok (.bl false)
 | _=>.ok (.bl true)
def fI(x:D):List D->Option Bool
 | []=>some false
 | y :: r=>match lF y x,fI x r with
  | some a,some b=>some (a || b)
  | _,_=>none
def EB:D->D->Res D
 | x,.tup ys=>match fI x ys with
  | some b=>.ok (.bl b)
  | none=>.bad
 | x,.lst ys=>match fI x ys with
  | some b=>.ok (.bl b)
  | none=>.bad
 | _,_=>.bad
def iw:D->D->Res D
 | x,.tup ys=>match fI x ys with
  | some b=>.ok (.bl !b)
  | none=>.bad
 | x,.lst ys=>match fI x ys with
  | some b=>.ok (.bl !b)
  | none=>.bad
 | _,_=>.bad
def cM:D->Res D
 | .str t=>guard (t.length≤line) (.ok (.int t.length))
 | .tup xs=>.ok (.int xs.length)
 | .lst xs=>.ok (.int xs.length)
 | _=>.bad
inductive Ty where
 | bool | int | str | tuple | list | dict
def nC:Ty->D->Bool
 | .bool,.bl _=>true
 | .int,.bl _=>true
 | .int,.int _=>true
 | .str,.str _=>true
 | .tuple,.tup _=>true
 | .list,.lst _=>true
 | .dict,.dct _ _=>true
 | _,_=>false
def t?(t:Ty)(x:D):Res D:=.ok (.bl (nC t x))
def yb(n:Nat)(i:Int):Option Nat:=if 0≤i then(if i < n then some i.toNat else none)else if -(n:Int)≤i then some (i+n).toNat else none
def bc:D->D->Res D
 | .tup xs,.int i=>match (yb xs.length i).bind λ j=>xs[j]? with
  | some v=>.ok v
  | none=>.bad
 | .lst xs,.int i=>match (yb xs.length i).bind λ j=>xs[j]? with
  | some v=>.ok v
  | none=>.bad
 | .str cs,.int i=>guard (cs.length≤line) (match (yb cs.length i).bind λ j=>cs[j]? with
  | some c=>.ok (.str [c])
  | none=>.bad)
 | _,_=>.bad
def dP(n d:Nat):Option Int->Nat
 | none=>d
 | some i=>if i < 0 then(i+n).toNat else min i.toNat n
def cut{α:Type}(xs:List α)(lo hi:Option Int):List α:=(xs.drop (dP xs.length 0 lo)).take (dP xs.length xs.length hi-dP xs.length 0 lo)
abbrev PF:=Env->Res (Option Int)
def HX(_:Env):Res (Option Int):=.ok none
def BK(a:EF)(ρ:Env):Res (Option Int):=(a ρ).bind λ x=>match x with
 | .int i=>.ok (some i)
 | _=>.bad
def Nu:D->Option Int->Option Int->Res D
 | .str cs,lo,hi=>guard (cs.length≤line) (.ok (.str (cut cs lo hi)))
 | .tup xs,lo,hi=>.ok (.tup (cut xs lo hi))
 | _,_,_=>.bad
def Ic(a:EF)(lo hi:PF)(ρ:Env):Res D:=(a ρ).bind λ x=>(lo ρ).bind λ l=>(hi ρ).bind λ h=>Nu x l h
def K0(a:EF)(lo hi:PF)(ρ:Env):Res (List D):=(a ρ).bind λ x=>(lo ρ).bind λ l=>(hi ρ).bind λ h=>match x with
 | .lst xs=>.ok (cut xs l h)
 | _=>.bad
def GR(a b:EF)(ρ:Env):Res (List D):=(a ρ).bind λ x=>(b ρ).bind λ y=>match x,y with
 | .lst xs,.lst ys=>guard (xs.length+ys.length≤line) (.ok (xs++ys))
 | _,_=>.bad
def allB:List D->Option Bool
 | []=>some true
 | .bl b :: r=>(allB r).map (b&&·)
 | _ :: _=>none
def xl:D->Res D
 | .lst xs=>match allB xs with
  | some b=>.ok (.bl b)
  | none=>.bad
 | _=>.bad
def ri:D->Res (List D)
 | .tup xs=>.ok xs
 | .lst xs=>.ok xs
 | .str cs=>.ok (cs.map λ c=>.str [c])
 | _=>.bad
def eY(a:EF)(ρ:Env):Res (List D):=(a ρ).bind ri
def dq(lo:Int)(n:Nat):List D:=(List.range n).map λ i=>D.int (lo+(i:Nat))
def eZ(a:EF)(ρ:Env):Res (List D):=(a ρ).bind λ x=>match x with
 | .int j=>.ok (dq 0 j.toNat)
 | _=>.bad
def v7(a b:EF)(ρ:Env):Res (List D):=(a ρ).bind λ x=>(b ρ).bind λ y=>match x,y with
 | .int i,.int j=>.ok (dq i (j-i).toNat)
 | _,_=>.bad
def bA(i:Nat)(d:D)(ρ:Env):Res Env:=.ok (ρ.set i (some (.val d)))
def kh:List Nat->List D->Env->Res Env
 | [],[],ρ=>.ok ρ
 | i :: is,d :: ds,ρ=>kh is ds (ρ.set i (some (.val d)))
 | _,_,_=>.bad
def ka(is:List Nat)(d:D)(ρ:Env):Res Env:=match d with
 | .tup ds=>kh is ds ρ
 | _=>.bad
def pG(ρ:Env)(i:Nat):Option L:=match ρ[i]? with
 | some (some (.val d))=>some (.val d)
 | some (some (.bor xs))=>some (.bor xs)
 | some (some (.Hm ks))=>some (.Hm ks)
 | _=>none
def jm(ρ:Env)(is:List Nat):Env:=is.map (pG ρ)
def eD(g:GF)(t:TF)(e:EF)(ρ:Env):List D->Res (List D)
 | []=>.ok []
 | d :: r=>(g d ρ).bind λ ρ1=>(t ρ1).bind λ c=>if c then(e ρ1).bind λ y=>(eD g t e ρ r).bind λ ys=>.ok (y :: ys)else eD g t e ρ r
def cf(it:LF)(n:Nat)(is:List Nat)(g:GF)(t:TF)(e:EF)(ρ:Env):Res (List D):=(it ρ).bind λ ds=>guard (ds.length≤line) (eD g t e (List.replicate n none++jm ρ is) ds)
def dR(_:Env):Res Bool:=.ok true
def bF(ρ:Env):Res Fl:=.ok (.nx ρ)
def aB(a b:SF)(ρ:Env):Res Fl:=(a ρ).bind λ fl=>match fl with
 | .nx ρ'=>b ρ'
 | o=>.ok o
def aM(i:Nat)(e:EF)(ρ:Env):Res Fl:=(e ρ).bind λ d=>.ok (.nx (ρ.set i (some (.val d))))
def nB(i:Nat)(e:LF)(ρ:Env):Res Fl:=(e ρ).bind λ xs=>.ok (.nx (ρ.set i (some (.own xs))))
def Ao(e:EF)(g:GF)(ρ:Env):Res Fl:=(e ρ).bind λ d=>(g d ρ).bind λ ρ'=>.ok (.nx ρ')
def gi(t:TF)(a b:SF)(ρ:Env):Res Fl:=(t ρ).bind λ c=>if c then a ρ else b ρ
def a_(e:EF)(ρ:Env):Res Fl:=(e ρ).bind λ d=>.ok (.rt d)
def Oq(_:Env):Res Fl:=.ok (.rt .non)
def LB(ρ:Env):Res Fl:=.ok (.bk ρ)
def Ou(ρ:Env):Res Fl:=.ok (.ct ρ)
def i!(i:Nat)(ρ:Env):Env:=match ρ[i]? with
 | some (some (.own xs))=>ρ.set i (some (.val (.lst xs)))
 | _=>ρ
def w!(i:Nat)(a:SF)(ρ:Env):Res Fl:=a (i! i ρ)
def cH(i:Nat)(e:EF)(ρ:Env):Res Fl:=(e ρ).bind λ d=>match ρ[i]? with
 | some (some (.own xs))=>guard (xs.length < line) (.ok (.nx (ρ.set i (some (.own (xs++[d]))))))
 | _=>.bad
def jr(g:GF)(b:SF):List D->Env->Res Fl
 | [],ρ=>.ok (.nx ρ)
 | d :: r,ρ=>(g d ρ).bind λ ρ1=>(b ρ1).bind λ fl=>match fl with
  | .nx ρ'=>jr g b r ρ'
  | .ct ρ'=>jr g b r ρ'
  | .bk ρ'=>.ok (.nx ρ')
  | .rt d=>.ok (.rt d)
def fN(it:LF)(g:GF)(b:SF)(ρ:Env):Res Fl:=(it ρ).bind λ ds=>jr g b ds ρ
def start(n:Nat)(ds:List D):Env:=ds.map (λ d=>some (.val d))++List.replicate (n-ds.length) none
def fn(ps n:Nat)(b:SF)(ds:List D):Res D:=if ds.length=ps then(match b (start n ds)with
 | .ok (.rt d)=>.ok d
 | .ok (.nx _)=>.ok .non
 | _=>.bad)else .bad
end Z
end
set_option genSizeOf false
noncomputable section
namespace Z
@[simp] theorem ZX(d:D)(ρ:Env):eC d ρ=.ok d:=rfl
@[simp] theorem ZY(o:D->D->Res D)(a b:EF)(ρ:Env):eB o a b ρ=(a ρ).bind λ x=>(b ρ).bind λ y=>o x y:=rfl
@[simp] theorem ZV(o:D->Res D)(a:EF)(ρ:Env):eU o a ρ=(a ρ).bind o:=rfl
@[simp] theorem ZW(l:LF)(ρ:Env):eL l ρ=(l ρ).map D.lst:=rfl
@[simp] theorem V3(ρ:Env):ax ρ=.ok []:=rfl
@[simp] theorem S3(a:EF)(r:AF)(ρ:Env):aa a r ρ=(a ρ).bind λ x=>(r ρ).bind λ xs=>.ok (x :: xs):=rfl
@[simp] theorem SS(f:List D->Res D)(as:AF)(ρ:Env):aw f as ρ=(as ρ).bind f:=rfl
@[simp] theorem RJ(ρ:Env):bF ρ=.ok (.nx ρ):=rfl
@[simp] theorem Tv(i:Nat)(e:EF)(ρ:Env):aM i e ρ=(e ρ).bind λ d=>.ok (.nx (ρ.set i (some (.val d)))):=rfl
@[simp] theorem Tz(i:Nat)(e:LF)(ρ:Env):nB i e ρ=(e ρ).bind λ d=>.ok (.nx (ρ.set i (some (.own d)))):=rfl
@[simp] theorem Tx(e:EF)(ρ:Env):a_ e ρ=(e ρ).bind λ d=>.ok (.rt d):=rfl
@[simp] theorem RI(ρ:Env):Oq ρ=.ok (.rt .non):=rfl
@[simp] theorem Ot(t:TF)(a b:SF)(ρ:Env):gi t a b ρ=(t ρ).bind λ c=>if c then a ρ else b ρ:=rfl
@[simp] theorem XA(t:TF)(a b:EF)(ρ:Env):M6 t a b ρ=(t ρ).bind λ c=>if c then a ρ else b ρ:=rfl
@[simp] theorem TH(it:LF)(g:GF)(b:SF)(ρ:Env):fN it g b ρ=(it ρ).bind λ ds=>jr g b ds ρ:=rfl
def FX(b:SF):Fl->Res Fl
 | .nx ρ'=>b ρ'
 | o=>.ok o
@[simp] theorem Tw(a b:SF)(ρ:Env):aB a b ρ=(a ρ).bind (FX b):=rfl
@[simp] theorem RF(b:SF)(ρ:Env):FX b (.nx ρ)=b ρ:=rfl
@[simp] theorem RD(b:SF)(d:D):FX b (.rt d)=.ok (.rt d):=rfl
@[simp] theorem RH(b:SF)(ρ:Env):FX b (.bk ρ)=.ok (.bk ρ):=rfl
@[simp] theorem RG(b:SF)(ρ:Env):FX b (.ct ρ)=.ok (.ct ρ):=rfl
def N7:D->Res Bool
 | .bl c=>.ok c
 | _=>.bad
@[simp] theorem X_(a:EF)(ρ:Env):tE a ρ=(a ρ).bind N7:=rfl
@[simp] theorem Rv(c:Bool):N7 (.bl c)=.ok c:=rfl
@[simp] theorem Ry(ρ:Env):dR ρ=.ok true:=rfl
@[simp] theorem Tp(a b:TF)(ρ:Env):l6 a b ρ=(a ρ).bind λ c=>if c then b ρ else .ok false:=rfl
@[simp] theorem Wo(a b:TF)(ρ:Env):yv a b ρ=(a ρ).bind λ c=>if c then .ok true else b ρ:=rfl
@[simp] theorem Tg(a:TF)(ρ:Env):nA a ρ=(a ρ).bind λ c=>.ok !c:=rfl
def BB(f:Bool->Res D):D->Res D
 | .bl c=>f c
 | _=>.bad
@[simp] theorem QZ(f:Bool->Res D)(c:Bool):BB f (.bl c)=f c:=rfl
@[simp] theorem VW(a b:EF)(ρ:Env):wA a b ρ=(a ρ).bind (BB λ c=>if c then b ρ else .ok (.bl false)):=rfl
@[simp] theorem Xz(a b:EF)(ρ:Env):NW a b ρ=(a ρ).bind (BB λ c=>if c then .ok (.bl true)else b ρ):=rfl
@[simp] theorem VT(a:EF)(ρ:Env):J? a ρ=(a ρ).bind (BB λ c=>.ok (.bl !c)):=rfl
@[simp] theorem QO(o o':D->D->Res D)(a b c:EF)(ρ:Env):mC o o' a b c ρ=(a ρ).bind λ x=>(b ρ).bind λ y=>(o x y).bind (BB λ k=>if k then(c ρ).bind λ w=>o' y w else .ok (.bl false)):=rfl
@[simp] theorem Pd(a b:Int):bj (.int a) (.int b)=.ok (.int (a+b)):=rfl
theorem AR(a b:List D)(h:a.length+b.length≤line):bj (.tup a) (.tup b)=.ok (.tup (a++b)):=by simp[bj,h]
@[simp] theorem OV(a b:Int):AN (.int a) (.int b)=.ok (.int (a-b)):=rfl
@[simp] theorem O5(a b:Int):gy (.int a) (.int b)=guard (bI a b) (.ok (.int (a*b))):=rfl
@[simp] theorem Pc(a b:Int):oDiv (.int a) (.int b)=guard (mE b) (.ok (.int (a / b))):=rfl
@[simp] theorem O6(a b:Int):oMod (.int a) (.int b)=guard (0 < b) (.ok (.int (a % b))):=rfl
@[simp] theorem OX(a b:Int):T_ (.int a) (.int b)=guard (0≤b) (.ok (.int (a / 2 ^ b.toNat))):=rfl
@[simp] theorem R0(a b:Int):oLt (.int a) (.int b)=.ok (.bl (decide (a < b))):=rfl
@[simp] theorem R3(a b:Int):oLe (.int a) (.int b)=.ok (.bl (decide (a≤b))):=rfl
@[simp] theorem R1(a b:List Nat):oLe (.str a) (.str b)=.ok (.bl (!(Jw b a))):=rfl
@[simp] theorem R7(a b:Int):z7 (.int a) (.int b)=.ok (.bl (decide (b < a))):=rfl
@[simp] theorem R8(a b:Int):L_ (.int a) (.int b)=.ok (.bl (decide (b≤a))):=rfl
@[simp] theorem R!(a b:Int):oEq (.int a) (.int b)=.ok (.bl (a==b)):=rfl
@[simp] theorem Ud(a b:Bool):oEq (.bl a) (.bl b)=.ok (.bl (a==b)):=rfl
@[simp] theorem R9(a b:List Nat):oEq (.str a) (.str b)=.ok (.bl (a==b)):=rfl
@[simp] theorem RZ(a b:Int):qH (.int a) (.int b)=.ok (.bl (!(a==b))):=rfl
@[simp] theorem Ua(a b:Bool):qH (.bl a) (.bl b)=.ok (.bl (!(a==b))):=rfl
@[simp] theorem RY(a b:List Nat):qH (.str a) (.str b)=.ok (.bl (!(a==b))):=rfl
@[simp] theorem O'(a:List Nat):cM (.str a)=guard (a.length≤line) (.ok (.int a.length)):=rfl
@[simp] theorem O9(a:List D):cM (.tup a)=.ok (.int a.length):=rfl
@[simp] theorem O!(a:List D):cM (.lst a)=.ok (.int a.length):=rfl
@[simp] theorem R4(t:Ty)(x:D):t? t x=.ok (.bl (nC t x)):=rfl
@[simp] theorem Wz(ρ:Env):HX ρ=.ok none:=rfl
def PH:D->Res (Option Int)
 | .int i=>.ok (some i)
 | _=>.bad
@[simp] theorem PD(i:Int):PH (.int i)=.ok (some i):=rfl
@[simp] theorem WA(a:EF)(ρ:Env):BK a ρ=(a ρ).bind PH:=rfl
@[simp] theorem Xy(a:EF)(lo hi:PF)(ρ:Env):Ic a lo hi ρ=(a ρ).bind λ x=>(lo ρ).bind λ l=>(hi ρ).bind λ h=>Nu x l h:=rfl
@[simp] theorem UA(a:EF)(ρ:Env):eY a ρ=(a ρ).bind ri:=rfl
def KL:D->Res (List D)
 | .int j=>.ok (dq 0 j.toNat)
 | _=>.bad
@[simp] theorem Sq(a:EF)(ρ:Env):eZ a ρ=(a ρ).bind KL:=rfl
@[simp] theorem Nr(j:Int):KL (.int j)=.ok (dq 0 j.toNat):=rfl
def KJ:D->D->Res (List D)
 | .int i,.int j=>.ok (dq i (j-i).toNat)
 | _,_=>.bad
@[simp] theorem So(a b:EF)(ρ:Env):v7 a b ρ=(a ρ).bind λ x=>(b ρ).bind λ y=>KJ x y:=rfl
@[simp] theorem Nq(i j:Int):KJ (.int i) (.int j)=.ok (dq i (j-i).toNat):=rfl
@[simp] theorem NF(xs:List D):ri (.tup xs)=.ok xs:=rfl
@[simp] theorem NH(xs:List D):ri (.lst xs)=.ok xs:=rfl
@[simp] theorem NG(cs:List Nat):ri (.str cs)=.ok (cs.map λ c=>.str [c]):=rfl
@[simp] theorem SQ(i:Nat)(d:D)(ρ:Env):bA i d ρ=.ok (ρ.set i (some (.val d))):=rfl
theorem bY(it:LF)(n:Nat)(is:List Nat)(g:GF)(t:TF)(e:EF)(ρ:Env):cf it n is g t e ρ=(it ρ).bind λ ds=>guard (ds.length≤line) (eD g t e (List.replicate n none++jm ρ is) ds):=rfl
@[simp] theorem Sf(as:AF)(ρ:Env):bX as ρ=(as ρ).bind λ xs=>guard (xs.length≤line) (.ok xs):=rfl
@[simp] theorem VS(as:AF)(ρ:Env):fM as ρ=(as ρ).bind λ xs=>guard (xs.length≤line) (.ok (.tup xs)):=rfl
def bJ:Res Fl->Res D
 | .ok (.rt d)=>.ok d
 | .ok (.nx _)=>.ok .non
 | _=>.bad
@[simp] theorem RR(d:D):bJ (.ok (.rt d))=.ok d:=rfl
@[simp] theorem RT(ρ:Env):bJ (.ok (.nx ρ))=.ok .non:=rfl
theorem cg(ps n:Nat)(b:SF)(ds:List D)(h:ds.length=ps):fn ps n b ds=bJ (b (start n ds)):=by
 unfold fn;rw[if_pos h];cases b (start n ds)with
 | bad=>rfl
 | ok f=>cases f<;>rfl
theorem cG{a b:Int}(h1:-18446744073709551616 < a)(h2:a < 18446744073709551616):bI a b:=by unfold bI;exact .inl ⟨h1,h2⟩
theorem iz{a b:Int}(h1:-18446744073709551616 < b)(h2:b < 18446744073709551616):bI a b:=by unfold bI;exact .inr (.inl ⟨h1,h2⟩)
theorem bW{b:Int}(h0:0 < b)(h:b < 1809251394333065553493296640760748560207343510400633813116524750123642650624):mE b:=by exact⟨h0,h⟩
theorem yX{cs:List Nat}{i:Int}(h0:0≤i)(h1:i < cs.length)(hl:cs.length≤line):∃c∈cs,bc (.str cs) (.int i)=.ok (.str [c]):=by
 have hj:i.toNat < cs.length:=by lia
 refine⟨cs[i.toNat],List.getElem_mem hj,?_⟩;simp[bc,hl,yb,h0,h1,hj]
@[simp] theorem gR(lo:Int)(n:Nat):(dq lo n).length=n:=by simp[dq]
theorem uY{α:Type}(xs:List α)(lo hi:Option Int):(cut xs lo hi).length≤xs.length:=by unfold cut;rw[List.length_take,List.length_drop];lia
@[simp] theorem WJ(xs:List D)(a:EF)(lo hi:PF)(ρ:Env)(h:a ρ=.ok (.lst xs)):K0 a lo hi ρ=(lo ρ).bind λ l=>(hi ρ).bind λ h=>.ok (cut xs l h):=by unfold K0;rw[h];rfl
theorem wK{g:GF}{e:EF}{ρ:Env}{h:D->D}:∀(ds:List D),(∀d∈ds,(g d ρ).bind e=.ok (h d))->eD g dR e ρ ds=.ok (ds.map h)
 | [],_=>rfl
 | d :: ds,k=>by have h1:=k d List.mem_cons_self;have h2:=wK ds (λ x hx=>k x (List.mem_cons_of_mem _ hx));obtain⟨ρ1,e1,e2⟩:=Res.az h1;simp[eD,e1,dR,e2,h2]
theorem pF{g:GF}{t:TF}{e:EF}{ρ:Env}{p:D->Bool}{h:D->D}:∀(ds:List D),(∀d∈ds,∃ρ1,g d ρ=.ok ρ1∧t ρ1=.ok (p d)∧(p d=true->e ρ1=.ok (h d)))->eD g t e ρ ds=.ok ((ds.filter p).map h)
 | [],_=>rfl
 | d :: ds,k=>by
  obtain⟨ρ1,e1,e2,e3⟩:=k d List.mem_cons_self;have h2:=pF ds (λ x hx=>k x (List.mem_cons_of_mem _ hx));cases hp:p d with
  | true=>simp[eD,e1,e2,hp,e3 hp,h2]
  | false=>simp[eD,e1,e2,hp,h2]
theorem D7:∀(bs:List Bool),allB (bs.map D.bl)=some (bs.all id)
 | []=>rfl
 | b :: bs=>by simp[allB,D7 bs]
@[simp high] theorem gt0{α:Type _}(a:α)(l:List α):(a :: l)[0]?=some a:=rfl
@[simp high] theorem gtS{α:Type _}(a:α)(l:List α)(n:Nat):(a :: l)[n+1]?=l[n]?:=rfl
@[simp high] theorem Of{α:Type _}(a x:α)(l:List α):(a :: l).set 0 x=x :: l:=rfl
@[simp high] theorem stS{α:Type _}(a x:α)(l:List α)(n:Nat):(a :: l).set (n+1) x=a :: l.set n x:=rfl
end Z
end
set_option maxHeartbeats 4000000
namespace ZS
open PySem PySem.Spec PyProof.Rows L2
abbrev St:=L2.St
def EN:Sum Int (List Nat)->Key
 | .inl i=>.inl i
 | .inr cs=>.inr ⟨cs.toArray⟩
def Lm(K:PySem.W.Frag)(H:Hp)(a:Addr)(xs:List V):Prop :=
 (∃ o,H a=some (.i! o (.lst xs))) ∨
  ∃(o:Obj) (aY:Array Value) (n:Nat),K.lookup a=some o∧o.cls=.type "list" ∧ o.dict=none∧o.data=.seq aY n∧aY.size≤sizeLine∧Vals xs aY.toList
theorem Lm.sq{K:PySem.W.Frag}{H:Hp}{a:Addr}{xs:List V}(h:Lm K H a xs):i? K H a xs:=by
 rcases h with⟨o,h⟩ | h
 ·exact .inl (.inr ⟨o,h⟩)
 ·exact .inr h
structure oG(H H':Hp):Prop where
 tup:∀a xs,H a=some (.tup xs)->H' a=some (.tup xs)
 i!:∀a o u,H a=some (.i! o u)->H' a=some (.i! o u)
theorem oG.refl(H:Hp):oG H H:=⟨λ _ _ h=>h,λ _ _ _ h=>h⟩
theorem oG.trans{H H1 H2:Hp}(a:oG H H1)(b:oG H1 H2):oG H H2:=⟨λ c xs h=>b.tup c xs (a.tup c xs h),λ c o u h=>b.i! c o u (a.i! c o u h)⟩
theorem w4{H H':Hp}(s:aI H H'):oG H H':=⟨λ _ _ h=>s _ _ h,λ _ _ _ h=>s _ _ h⟩
theorem IC{H:Hp}{p:Addr}{o u:HO}(h:H p=some o)(n1:∀xs,o≠.tup xs)(n2:∀ob x,o≠.i! ob x):oG H (upd H p u) :=
 ⟨λ a xs e=>by rw[a! (by rintro rfl;rw[h]at e;exact n1 xs (Option.some.inj e))];exact e,λ a ob x e=>by rw[a! (by rintro rfl;rw[h]at e;exact n2 ob x (Option.some.inj e))];exact e⟩
theorem kM{H:Hp}{p:Addr}{xs:List V}{u:HO}(h:H p=some (.lst xs)):oG H (upd H p u):=IC h (λ _ z=>nomatch z) (λ _ _ z=>nomatch z)
theorem Lm.mono{K:PySem.W.Frag}{H H':Hp}{a:Addr}{xs:List V}(e:oG H H')(h:Lm K H a xs):Lm K H' a xs:=by
 rcases h with⟨o,h⟩ | h
 ·exact .inl ⟨o,e.i! _ _ _ h⟩
 ·exact .inr h
theorem iR{K:PySem.W.Frag}{H H':Hp}{a:Addr}{xs:List V}(e:oG H H')(h:oH K H a xs):oH K H' a xs:=by
 rcases h with(h | ⟨o,h⟩) | h
 ·exact .inl (.inl (e.tup _ _ h))
 ·exact .inl (.inr ⟨o,e.i! _ _ _ h⟩)
 ·exact .inr h
mutual
def Den(K:PySem.W.Frag)(H:Hp):Z.D->V->Prop
 | .non,v=>v=.non
 | .bl b,v=>v=.bl b
 | .int i,v=>v=.int i
 | .str cs,v=>v=.str ⟨cs.toArray⟩
 | .tup ds,v=>∃a vs,v=.ref a∧oH K H a vs∧aG K H ds vs
 | .lst ds,v=>∃a vs,v=.ref a∧Lm K H a vs∧aG K H ds vs
 | .dct ks ds,v=>∃a o kS,v=.ref a∧H a=some (.i! o (.dK kS))∧kS.map (·.1)=ks.map EN∧aG K H ds (kS.map (·.2))
def aG(K:PySem.W.Frag)(H:Hp):List Z.D->List V->Prop
 | [],vs=>vs=[]
 | d :: ds,vs=>∃v r,vs=v :: r∧Den K H d v∧aG K H ds r
end
section
variable {K:PySem.W.Frag}{H H':Hp}
mutual
theorem Den.mono(e:oG H H'):∀(d:Z.D)(v:V),Den K H d v->Den K H' d v
 | .non,v,h=>by simp only[Den]at h ⊢;exact h
 | .bl b,v,h=>by simp only[Den]at h ⊢;exact h
 | .int i,v,h=>by simp only[Den]at h ⊢;exact h
 | .str cs,v,h=>by simp only[Den]at h ⊢;exact h
 | .tup ds,v,h=>by simp only[Den]at h ⊢;obtain⟨a,vs,e1,q,r⟩:=h;exact⟨a,vs,e1,iR e q,aG.mono e ds vs r⟩
 | .lst ds,v,h=>by simp only[Den]at h ⊢;obtain⟨a,vs,e1,q,r⟩:=h;exact⟨a,vs,e1,q.mono e,aG.mono e ds vs r⟩
 | .dct ks ds,v,h=>by simp only[Den]at h ⊢;obtain⟨a,o,kS,e1,q,k,r⟩:=h;exact⟨a,o,kS,e1,e.i! _ _ _ q,k,aG.mono e ds _ r⟩
theorem aG.mono(e:oG H H'):∀(ds:List Z.D)(vs:List V),aG K H ds vs->aG K H' ds vs
 | [],vs,h=>by simp only[aG]at h ⊢;exact h
 | d :: ds,vs,h=>by simp only[aG]at h ⊢;obtain⟨v,r,e1,q,t⟩:=h;exact⟨v,r,e1,Den.mono e d v q,aG.mono e ds r t⟩
end
theorem Den.up{d:Z.D}{v:V}(h:Den K H d v)(e:aI H H'):Den K H' d v:=Den.mono (w4 e) d v h
theorem Den.ups{d:Z.D}{v:V}(h:Den K H d v)(e:oG H H'):Den K H' d v:=Den.mono e d v h
theorem aG.ups{ds:List Z.D}{vs:List V}(h:aG K H ds vs)(e:oG H H'):aG K H' ds vs:=aG.mono e ds vs h
theorem aG.up{ds:List Z.D}{vs:List V}(h:aG K H ds vs)(e:aI H H'):aG K H' ds vs:=aG.mono (w4 e) ds vs h
theorem aG.nil:aG K H [] []:=by simp only[aG]
theorem aG.cons{d:Z.D}{ds:List Z.D}{v:V}{vs:List V}(h:Den K H d v)(t:aG K H ds vs):aG K H (d :: ds) (v :: vs):=by simp only[aG];exact⟨v,vs,rfl,h,t⟩
theorem aG.length:∀{ds:List Z.D}{vs:List V},aG K H ds vs->vs.length=ds.length
 | [],vs,h=>by simp only[aG]at h;subst h;rfl
 | d :: ds,vs,h=>by simp only[aG]at h;obtain⟨v,r,rfl,_,t⟩:=h;simp[aG.length t]
theorem aG.get:∀{ds:List Z.D}{vs:List V}{i:Nat}{d:Z.D},aG K H ds vs->ds[i]?=some d->∃v,vs[i]?=some v∧Den K H d v
 | [],_,_,_,_,e=>by simp at e
 | x :: ds,vs,0,d,h,e=>by simp only[aG]at h;obtain⟨v,r,rfl,q,_⟩:=h;simp at e;subst e;exact⟨v,rfl,q⟩
 | x :: ds,vs,i+1,d,h,e=>by simp only[aG]at h;obtain⟨v,r,rfl,_,t⟩:=h;obtain⟨u,h1,h2⟩:=aG.get (i:=i) t (by simpa using e);exact⟨u,by simpa using h1,h2⟩
theorem aG.append:∀{ds es:List Z.D}{vs us:List V},aG K H ds vs->aG K H es us->aG K H (ds++es) (vs++us)
 | [],_,_,_,h,g=>by simp only[aG]at h;subst h;exact g
 | d :: ds,es,vs,us,h,g=>by simp only[aG]at h;obtain⟨v,r,rfl,q,t⟩:=h;exact aG.cons q (aG.append t g)
theorem aG.drop:∀{ds:List Z.D}{vs:List V}(n:Nat),aG K H ds vs->aG K H (ds.drop n) (vs.drop n)
 | _,_,0,h=>by simpa using h
 | [],vs,_+1,h=>by simp only[aG]at h;subst h;simpa using aG.nil
 | d :: ds,vs,n+1,h=>by simp only[aG]at h;obtain⟨v,r,rfl,q,t⟩:=h;simpa using aG.drop n t
theorem aG.take:∀{ds:List Z.D}{vs:List V}(n:Nat),aG K H ds vs->aG K H (ds.take n) (vs.take n)
 | _,_,0,h=>by simpa using aG.nil
 | [],vs,_+1,h=>by simp only[aG]at h;subst h;simpa using aG.nil
 | d :: ds,vs,n+1,h=>by simp only[aG]at h;obtain⟨v,r,rfl,q,t⟩:=h;simpa using aG.cons q (aG.take n t)
theorem aG.dq:∀(ns:List Int),aG K H (ns.map Z.D.int) (ns.map V.int)
 | []=>aG.nil
 | n :: ns=>aG.cons (by simp only[Den]) (aG.dq ns)
def bQ(K:PySem.W.Frag)(H:Hp)(d:Z.D)(v:V):Prop:=Den K H d v∨∃ds a vs,d=.lst ds∧v=.ref a∧H a=some (.lst vs)∧aG K H ds vs
theorem bQ.up{d:Z.D}{v:V}(h:bQ K H d v)(e:aI H H'):bQ K H' d v:=by
 rcases h with h | ⟨ds,a,vs,e1,e2,q,t⟩
 ·exact .inl (h.up e)
 ·exact .inr ⟨ds,a,vs,e1,e2,e _ _ q,t.up e⟩
theorem bQ.rR{d:Z.D}{v:V}(h:bQ K H d v)(n:∀ds,d≠.lst ds):Den K H d v:=by
 rcases h with h | ⟨ds,a,vs,e1,_⟩
 ·exact h
 ·exact absurd e1 (n ds)
theorem bQ.non{v:V}(h:bQ K H .non v):v=.non:=by have:=h.rR (λ _ z=>nomatch z);simpa only[Den]using this
theorem bQ.bl{b:Bool}{v:V}(h:bQ K H (.bl b) v):v=.bl b:=by have:=h.rR (λ _ z=>nomatch z);simpa only[Den]using this
theorem bQ.int{i:Int}{v:V}(h:bQ K H (.int i) v):v=.int i:=by have:=h.rR (λ _ z=>nomatch z);simpa only[Den]using this
theorem bQ.str{cs:List Nat}{v:V}(h:bQ K H (.str cs) v):v=.str ⟨cs.toArray⟩:=by have:=h.rR (λ _ z=>nomatch z);simpa only[Den]using this
theorem bQ.tup{ds:List Z.D}{v:V}(h:bQ K H (.tup ds) v):∃a vs,v=.ref a∧oH K H a vs∧aG K H ds vs:=by have:=h.rR (λ _ z=>nomatch z);simpa only[Den]using this
theorem bQ.lst{ds:List Z.D}{v:V}(h:bQ K H (.lst ds) v):∃a vs,v=.ref a∧i? K H a vs∧aG K H ds vs:=by
 rcases h with h | ⟨es,a,vs,e1,e2,q,t⟩
 ·simp only[Den]at h;obtain⟨a,vs,e,q,t⟩:=h;exact⟨a,vs,e,q.sq,t⟩
 ·cases e1;exact⟨a,vs,e2,.inl (.inl q),t⟩
theorem bQ.dct{ks:List (Sum Int (List Nat))}{ds:List Z.D}{v:V}(h:bQ K H (.dct ks ds) v):∃a o kS,v=.ref a∧H a=some (.i! o (.dK kS))∧kS.map (·.1)=ks.map EN∧aG K H ds (kS.map (·.2)):=by have:=h.rR (λ _ z=>nomatch z);simpa only[Den]using this
theorem rM:Den K H .non .non:=by simp only[Den]
theorem dt{b:Bool}:Den K H (.bl b) (.bl b):=by simp only[Den]
theorem c7{i:Int}:Den K H (.int i) (.int i):=by simp only[Den]
theorem oY{cs:List Nat}:Den K H (.str cs) (.str ⟨cs.toArray⟩):=by simp only[Den]
theorem g!{ds:List Z.D}{a:Addr}{vs:List V}(h:oH K H a vs)(t:aG K H ds vs):Den K H (.tup ds) (.ref a):=by simp only[Den];exact⟨a,vs,rfl,h,t⟩
theorem zu{ds:List Z.D}{a:Addr}{vs:List V}(h:Lm K H a vs)(t:aG K H ds vs):Den K H (.lst ds) (.ref a):=by simp only[Den];exact⟨a,vs,rfl,h,t⟩
end
def VJ(x:List Int×Addr×Value):DictEntry:={ hash:=reduceHash (Builtin.Tuple.tupleHashOf (x.1.map hashInt)),key:=.ref x.2.1,val:=x.2.2 }
def Rh(a:Addr)(ks:List (List Int))(as:List Addr)(h:Heap):Prop:=ks.length≤sizeLine∧(a==sysModules)=false∧∃(xs:List (List Int×Addr×Value))(o:Obj)(es:Array DictEntry)(ep:Nat),xs.map (·.1)=ks∧xs.map (·.2.1)=as∧h.get? a=some o∧o.ExactDict∧o.data=.dict es ep∧es.toList=xs.map VJ∧ks.Nodup
abbrev Rg(a:Addr)(ks:List (List Int))(as:List Addr):HO:=.ext (Rh a ks as)
def wY(K:PySem.W.Frag)(H:Hp)(ks:List (List Int))(as:List Addr):Prop:=Paired (λ(k:List Int) (b:Addr)=>Den K H (.tup (k.map .int)) (.ref b)) ks as
def Yy(ps:List (Int×Int)):List (Key×V):=ps.map λ p=>(Sum.inl p.1,V.int p.2)
def RL(K:PySem.W.Frag)(H:Hp):Z.L->V->Prop
 | .val d,v=>Den K H d v
 | .own ds,v=>∃a vs,v=.ref a∧H a=some (.lst vs)∧aG K H ds vs
 | .bor ds,v=>bQ K H (.lst ds) v
 | .uK ks,v=>∃a as,v=.ref a∧H a=some (Rg a ks as)∧wY K H ks as
 | .Hm ks,v=>∃a o as,v=.ref a∧H a=some (.i! o (Rg a ks as))∧wY K H ks as
 | .PJ ps,v=>∃a o,v=.ref a∧H a=some (.i! o (.dK (Yy ps)))
theorem wY.ups{K:PySem.W.Frag}{H H':Hp}{ks:List (List Int)}{as:List Addr}(h:wY K H ks as)(e:oG H H'):wY K H' ks as:=Paired.Mg h λ _ _ d=>Den.ups d e
structure RE(K:PySem.W.Frag)(H:Hp)(σ:St)(ρ:Z.Env):Prop where
 len:ρ.length=σ.length
 get:∀(i:Nat)(l:Z.L),ρ[i]?=some (some l)->∃v,σ[i]?=some (some v)∧RL K H l v
 sep:∀(i j:Nat)(xs ys:List Z.D)(a:Addr),ρ[i]?=some (some (.own xs))->ρ[j]?=some (some (.own ys))->σ[i]?=some (some (.ref a))->σ[j]?=some (some (.ref a))->i=j
section
variable {K:PySem.W.Frag}{H H':Hp}{σ:St}{ρ:Z.Env}
theorem RL.up{l:Z.L}{v:V}(h:RL K H l v)(e:aI H H'):RL K H' l v:=by
 cases l with
 | val d=>exact Den.up (show Den K H d v from h) e
 | own ds =>obtain⟨a,vs,e1,q,t⟩:=h;exact⟨a,vs,e1,e _ _ q,t.up e⟩
 | bor ds=>exact bQ.up (show bQ K H (.lst ds) v from h) e
 | uK ks =>obtain⟨a,as,e1,q,t⟩:=h;exact⟨a,as,e1,e _ _ q,t.ups (w4 e)⟩
 | Hm ks =>obtain⟨a,o,as,e1,q,t⟩:=h;exact⟨a,o,as,e1,e _ _ q,t.ups (w4 e)⟩
 | PJ ps =>obtain⟨a,o,e1,q⟩:=h;exact⟨a,o,e1,e _ _ q⟩
theorem RE.up(h:RE K H σ ρ)(e:aI H H'):RE K H' σ ρ :=
 ⟨h.len,λ i l q=>let ⟨v,h1,h2⟩:=h.get i l q;⟨v,h1,h2.up e⟩,h.sep⟩
theorem dQ{a:Addr}{o:HO}(h:H a=none):aI H (upd H a o):=λ b u e=>by rw[a! (cy e h)];exact e
end
def tZ(K:PySem.W.Frag)(f:Z.EF):TE:=λ σ H Q=>∃ρ d,RE K H σ ρ∧f ρ=.ok d∧∀v H',aI H H'->Den K H' d v->Q v H'
def HS(K:PySem.W.Frag)(f:Z.EF):TE:=λ σ H Q=>∃ρ d,RE K H σ ρ∧f ρ=.ok d∧∀v H',aI H H'->bQ K H' d v->Q v H'
def Wn(K:PySem.W.Frag)(f:Z.LF):TE:=λ σ H Q=>∃ρ ds,RE K H σ ρ∧f ρ=.ok ds∧∀a vs H',aI H H'->H a=none->H' a=some (.lst vs)->aG K H' ds vs->Q (.ref a) H'
def N8(K:PySem.W.Frag)(f:Z.TF):TT:=λ σ H Q=>∃ρ b,RE K H σ ρ∧f ρ=.ok b∧∀H',aI H H'->Q b H'
def X8(K:PySem.W.Frag)(f:Z.AF):TA:=λ σ H Q=>∃ρ ds,RE K H σ ρ∧f ρ=.ok ds∧∀vs H',aI H H'->aG K H' ds vs->Q vs H'
def X4(K:PySem.W.Frag)(f:Z.PF):TO:=λ σ H Q=>∃ρ o,RE K H σ ρ∧f ρ=.ok o∧∀H',aI H H'->Q o H'
abbrev DE(X:Cx)(e:Expr)(f:Z.EF):Prop:=PE X e (tZ X.K f)
abbrev DW(X:Cx)(e:Expr)(f:Z.EF):Prop:=PE X e (HS X.K f)
abbrev DL(X:Cx)(e:Expr)(f:Z.LF):Prop:=PE X e (Wn X.K f)
abbrev DT(X:Cx)(e:Expr)(f:Z.TF):Prop:=PT X e (N8 X.K f)
abbrev Ln(X:Cx)(e:Expr)(f:Z.TF):Prop:=PW X e (N8 X.K f)
abbrev DA(X:Cx)(es:List Expr)(f:Z.AF):Prop:=PA X es (X8 X.K f)
abbrev DP(X:Cx)(e:Option Expr)(f:Z.PF):Prop:=PO X e (X4 X.K f)
section
variable {X:Cx}{e a b c:Expr}{es:List Expr}{pos:Pos}{f fa fb fc:Z.EF}
theorem PE.imp{t t':TE}(h:PE X e t)(k:∀σ H Q,t' σ H Q->t σ H Q):PE X e t':=λ pins s σ H Q I w=>h pins s σ H Q I (k σ H Q w)
theorem PT.imp{t t':TT}(h:PT X e t)(k:∀σ H Q,t' σ H Q->t σ H Q):PT X e t':=λ pins s σ H Q I w=>h pins s σ H Q I (k σ H Q w)
theorem PW.imp{t t':TT}(h:PW X e t)(k:∀σ H Q,t' σ H Q->t σ H Q):PW X e t':=λ whole pins s σ H Q I w=>h whole pins s σ H Q I (k σ H Q w)
theorem PA.imp{t t':TA}(h:PA X es t)(k:∀σ H Q,t' σ H Q->t σ H Q):PA X es t':=λ p pins s σ H Q I w=>h p pins s σ H Q I (k σ H Q w)
theorem PO.imp{o:Option Expr}{t t':TO}(h:PO X o t)(k:∀σ H Q,t' σ H Q->t σ H Q):PO X o t':=λ pins s σ H Q I w=>h pins s σ H Q I (k σ H Q w)
theorem Hw{v:V}{d:Z.D}(h:PE X e (tC v))(hd:∀H,Den X.K H d v):DE X e (Z.eC d):=PE.imp h λ σ H Q ⟨ρ,d',_,e,k⟩=>by have e':Z.Res.ok d=Z.Res.ok d':=e;cases e';exact k v H (aI.refl H) (hd H)
theorem ae{i:Int}{j}:DE X (.Constant (.int i) j pos) (Z.eC (.int i)):=Hw LW λ _=>c7
theorem dE{x:Bool}{j}:DE X (.Constant (.bool x) j pos) (Z.eC (.bl x)):=Hw Gh λ _=>dt
theorem mF{j}:DE X (.Constant .none j pos) (Z.eC .non):=Hw vA λ _=>rM
theorem aV{x:Str}{cs:List Nat}{j}(h:x=⟨cs.toArray⟩):DE X (.Constant (.str x) j pos) (Z.eC (.str cs)):=by subst h;exact Hw LR λ _=>oY
theorem QM{i:Nat}{ρ:Z.Env}{d:Z.D}(h:Z.eV i ρ=.ok d):ρ[i]?=some (some (.val d)):=by
 unfold Z.eV at h;split at h
 ·rename_i d' q;cases h;exact q
 ·cases h
theorem QH{i:Nat}{ρ:Z.Env}{d:Z.D}(h:Z.eW i ρ=.ok d):ρ[i]?=some (some (.val d))∨(∃xs,ρ[i]?=some (some (.own xs))∧d=.lst xs)∨∃xs,ρ[i]?=some (some (.bor xs))∧d=.lst xs:=by
 unfold Z.eW at h;split at h
 ·rename_i d' q;cases h;exact .inl q
 ·rename_i xs q;cases h;exact .inr (.inl ⟨xs,q,rfl⟩)
 ·rename_i xs q;cases h;exact .inr (.inr ⟨xs,q,rfl⟩)
 ·cases h
theorem M'{i:Nat}(h:PE X e (yu i)):DE X e (Z.eV i):=PE.imp h λ σ H Q ⟨ρ,d,r,e,k⟩=>by obtain⟨v,h1,h2⟩:=r.get i _ (QM e);exact⟨v,h1,k v H (aI.refl H) h2⟩
theorem M7{i:Nat}(h:PE X e (yu i)):DW X e (Z.eW i):=PE.imp h λ σ H Q ⟨ρ,d,r,e,k⟩=>by
 rcases QH e with q | ⟨xs,q,rfl⟩ | ⟨xs,q,rfl⟩
 rotate_left;rotate_left
 ·obtain⟨v,h1,h2⟩:=r.get i _ q;exact⟨v,h1,k v H (aI.refl H) h2⟩
 ·obtain⟨v,h1,h2⟩:=r.get i _ q;exact⟨v,h1,k v H (aI.refl H) (.inl h2)⟩
 ·obtain⟨v,h1,a,vs,rfl,h2,h3⟩:=r.get i _ q;exact⟨_,h1,k _ H (aI.refl H) (.inr ⟨xs,a,vs,rfl,rfl,h2,h3⟩)⟩
theorem ao(i:Nat){x:Str}(hN:X.N[i]?=some x:=by rfl)(hv:Ii X.env.scope x:=by first | exact Or.inl rfl | exact Or.inr (Or.inl rfl) | exact Or.inr (Or.inr rfl))(hd:(x==("__debug__" : Str))=false:=by decide +kernel)
  (hcd:(x==("__classdict__" : Str))=false:=by decide +kernel):DE X (.Name x pos) (Z.eV i):=M' (B5 hN hv hd hcd)
theorem av(i:Nat){x:Str}(hN:X.N[i]?=some x:=by rfl)(hv:Ii X.env.scope x:=by first | exact Or.inl rfl | exact Or.inr (Or.inl rfl) | exact Or.inr (Or.inr rfl))(hd:(x==("__debug__" : Str))=false:=by decide +kernel)
  (hcd:(x==("__classdict__" : Str))=false:=by decide +kernel):DW X (.Name x pos) (Z.eW i):=M7 (B5 hN hv hd hcd)
theorem Ke{x:Str}{u:Value}{v:V}{d:Z.D}(hg:Gl X x)(hm:X.mg x=some u)(r:RelV v u)(hd:∀H,Den X.K H d v)(hb:(x==("__debug__" : Str))=false:=by decide +kernel):DE X (.Name x pos) (Z.eC d) :=
 Hw (IZ hg hm r hb) hd
theorem ah(h:DE X e f):DW X e f:=PE.imp h λ σ H Q ⟨ρ,d,r,e,k⟩=>⟨ρ,d,r,e,λ v H' s q=>k v H' s (.inl q)⟩
theorem fV{l:Z.LF}(h:DL X e l):DW X e (Z.eL l):=PE.imp h λ σ H Q ⟨ρ,d,r,e,k⟩=>by
 unfold Z.eL at e;cases q:l ρ with
 | bad=>rw[q]at e;cases e
 | ok ds =>rw[q]at e;cases e;exact⟨ρ,ds,r,q,λ a vs H' s hn h1 h2=>k _ H' s (.inr ⟨ds,a,vs,rfl,rfl,h1,h2⟩)⟩
theorem qc{pins : List (Addr × Obj)}{σ : St}{H : Hp}{s : Shared}{p : Addr}{xs : List V}(I : Inv X pins σ H s)(h : H p = some (.lst xs)): ∃o, Inv X pins σ (upd H p (.i! o (.lst xs))) s := by
 obtain⟨z,aY,n,r,ho⟩:=I.dW p _ h;refine⟨_,I.un (H':=upd H p (.i! { cls:=.type "list",data:=.seq aY.toArray n } (.lst xs))) (h':=s.heap) (t':=s.toks) ?_ ?_⟩
 ·have ne:∀b,H b=none->b≠p:=λ b e q=>by rw[q,h]at e;cases e
  refine⟨λ b o q _ _ _=>q,λ b o q _ _ _=>⟨o.slots,q⟩,λ b o q e _=>by rw[a! (ne b e)];exact e,λ b o q _=>⟨o,q⟩,λ b ys e=>?_,λ b o u e=>?_,λ b u pr e=>?_⟩
  ·have:b≠p:=by rintro rfl;rw[h]at e;cases e
   rw[a! this];exact e
  ·have:b≠p:=by rintro rfl;rw[h]at e;cases e
   rw[a! this];exact e
  ·have:b≠p:=by rintro rfl;rw[h]at e;cases e;exact pr
   rw[a! this];exact e
 ·intro b u e;by_cases hb:b=p
  ·subst hb;rw[bV]at e;cases e;exact⟨ho,z,aY,n,r,ho⟩
  ·rw[a! hb]at e;refine(I.dW b u e).vc (λ c w _ q=>q) (λ c q=>?_) (λ c ys q=>?_) λ c v pr q=>?_
   ·have:c≠p:=by rintro rfl;rw[h]at q;cases q
    rw[a! this];exact q
   ·have:c≠p:=by rintro rfl;rw[h]at q;cases q
    rw[a! this];exact q
   ·have:c≠p:=by rintro rfl;rw[h]at q;cases q;exact pr
    rw[a! this];exact q
theorem F0{H H1:Hp}{p:Addr}{o:Obj}{xs:List V}(s:aI H H1)(hn:H p=none):aI H (upd H1 p (.i! o (.lst xs))):=λ b u e=>by rw[a! (cy e hn)];exact s b u e
theorem qh{l:Z.LF}(h:DL X e l):DE X e (Z.eL l):=by
 intro pins s σ H Q I w;obtain⟨ρ,d,r,e,k⟩:=w;unfold Z.eL at e;cases q:l ρ with
 | bad=>rw[q]at e;cases e
 | ok ds =>rw[q]at e;cases e;refine d! (h pins s σ H (λ v H1=>∃a vs,v=.ref a∧aI H H1∧H a=none∧H1 a=some (.lst vs)∧aG X.K H1 ds vs) I ⟨ρ,ds,r,q,λ a vs H1 s1 hn h1 h2=>⟨a,vs,rfl,s1,hn,h1,h2⟩⟩) ?_;rintro u s' ⟨v,H1,I1,rv,a,vs,rfl,s1,hn,h1,h2⟩;obtain⟨o,I2⟩:=qc I1 h1;exact⟨_,_,I2,rv,k _ _ (F0 s1 hn) (zu (.inl ⟨o,bV⟩) (h2.ups (kM h1)))⟩
def D'(K:PySem.W.Frag)(r:R2)(o:Z.D->Z.D->Z.Res Z.D):Prop:=∀(x y:V)(dx dy d:Z.D)(H:Hp)(Q:VK),bQ K H dx x->bQ K H dy y->o dx dy=.ok d->(∀v H',aI H H'->Den K H' d v->Q v H')->r x y H Q
theorem two{r:R2}{o:Z.D->Z.D->Z.Res Z.D}(hz:D' X.K r o):∀σ H Q,tZ X.K (Z.eB o fa fb) σ H Q->Iw r (HS X.K fa) (HS X.K fb) σ H Q:=by rintro σ H Q ⟨ρ,d,re,e,k⟩;obtain⟨x,ea,e⟩:=Z.Res.az e;obtain⟨y,eb,e⟩:=Z.Res.az e;exact⟨ρ,x,re,ea,λ v H1 s1 d1=>⟨ρ,y,re.up s1,eb,λ u H2 s2 d2=>hz _ _ _ _ _ H2 Q (d1.up s2) d2 e λ w H' s3 dw=>k w H' ((s1.trans s2).trans s3) dw⟩⟩
theorem yh{op:Operator}{r:R2}{o:Z.D->Z.D->Z.Res Z.D}(hr:kI X (binaryOp op) r)(hz:D' X.K r o)(ha:DW X a fa)(hb:DW X b fb):DE X (.BinOp a op b pos) (Z.eB o fa fb) :=
 PE.imp (Dj hr ha hb) (two hz)
theorem D'.or{K:PySem.W.Frag}{r r':R2}{o:Z.D->Z.D->Z.Res Z.D}(h:∀(x y:V)(dx dy d:Z.D)(H:Hp)(Q:VK),bQ K H dx x->bQ K H dy y->o dx dy=.ok d->(∀v H',aI H H'->Den K H' d v->Q v H')->r x y H Q∨r' x y H Q):D' K (λ x y H Q=>r x y H Q∨r' x y H Q) o:=h
theorem qX{K:PySem.W.Frag}{C:Int->Int->Prop}{g:Int->Int->Int}{o:Z.D->Z.D->Z.Res Z.D}(h:∀dx dy d,o dx dy=.ok d->∃i j,dx=.int i∧dy=.int j∧C i j∧d=.int (g i j)):D' K (rI C λ i j=>.int (g i j)) o:=by intro x y dx dy d H Q h1 h2 e k;obtain⟨i,j,rfl,rfl,hc,rfl⟩:=h _ _ _ e;exact⟨i,j,h1.int,h2.int,hc,k _ H (aI.refl H) c7⟩
theorem n8{K:PySem.W.Frag}{g:Int->Int->V}{gd:Int->Int->Z.D}{o:Z.D->Z.D->Z.Res Z.D}(h:∀dx dy d,o dx dy=.ok d->∃i j,dx=.int i∧dy=.int j∧d=gd i j)(hg:∀i j H,Den K H (gd i j) (g i j)):D' K (F9 g) o:=by intro x y dx dy d H Q h1 h2 e k;obtain⟨i,j,rfl,rfl,rfl⟩:=h _ _ _ e;exact⟨i,j,h1.int,h2.int,k _ H (aI.refl H) (hg i j H)⟩
theorem sM(ha:DW X a fa)(hb:DW X b fb):DE X (.BinOp a .Sub b pos) (Z.eB Z.AN fa fb):=yh LZ (n8 (gd:=λ i j=>.int (i-j)) (λ dx dy d e=>by
 unfold Z.AN at e;split at e
 ·cases e;exact⟨_,_,rfl,rfl,rfl⟩
 ·cases e) λ _ _ _=>c7) ha hb
def HP(i j:Int):Prop:=IntMulOk i j
theorem Jc:kI X (binaryOp .Mult) (rI HP λ i j=>.int (i*j)):=OT λ _ _ _ _ _ _ _ hc q=>mul_int q hc
theorem Kp(i:Int):Z.bits i=Builtin.Int.intBits i:=by
 unfold Z.bits Builtin.Int.intBits;by_cases h:i=0
 ·subst h;simp
 ·first
   | (simp[h];done)
   | (rw[if_neg h];simp[h];done)
theorem vS{i j:Int}(h:Z.bI i j):IntMulOk i j:=by
 unfold Z.bI at h;rcases h with h | h | ⟨h1,h2⟩
 ·exact IntMulOk.of_left (intBits_le_64 (by lia) (by lia))
 ·exact IntMulOk.of_right (intBits_le_64 (by lia) (by lia))
 ·rw[Kp]at h1 h2;exact mulOk_of_bits h1 h2 (by decide)
theorem dZ(ha:DW X a fa)(hb:DW X b fb):DE X (.BinOp a .Mult b pos) (Z.eB Z.gy fa fb):=yh Jc (qX λ dx dy d e=>by
 unfold Z.gy at e;split at e
 ·unfold Z.guard at e;split at e
  ·rename_i h;cases e;exact⟨_,_,rfl,rfl,vS h,rfl⟩
  ·cases e
 ·cases e) ha hb
def Rj(_ j:Int):Prop:=Z.mE j
theorem CK{j:Int}(h:Z.mE j):0 < j∧j.natAbs.log2 < 9000:=by
 have h0:=h.1;have h1:=h.2;have hn:j.natAbs≠0:=by lia
 have h2:j.natAbs < 2 ^ 250:=by
  have:(2:Nat) ^ 250=1809251394333065553493296640760748560207343510400633813116524750123642650624:=by decide
  lia
 have:=(Nat.log2_lt hn).mpr h2;exact⟨h0,by lia⟩
theorem Jd:kI X (binaryOp .FloorDiv) (rI Rj λ i j=>.int (i / j)):=OT λ i j _ _ _ _ _ hc q=>by obtain⟨h0,h1⟩:=CK hc;have e:i.fdiv j=i / j:=Int.fdiv_eq_ediv_of_nonneg i (Int.le_of_lt h0);exact floordiv_int (Int.ne_of_gt h0) (by rw[e];exact q) (.inl (PyProof.noPylong_of_log2 h1))
theorem cK(ha:DW X a fa)(hb:DW X b fb):DE X (.BinOp a .FloorDiv b pos) (Z.eB Z.oDiv fa fb):=yh Jd (qX λ dx dy d e=>by
 unfold Z.oDiv at e;split at e
 ·unfold Z.guard at e;split at e
  ·rename_i h;cases e;exact⟨_,_,rfl,rfl,h,rfl⟩
  ·cases e
 ·cases e) ha hb
theorem bR(ha:DW X a fa)(hb:DW X b fb):DE X (.BinOp a .Mod b pos) (Z.eB Z.oMod fa fb):=yh L3 (qX λ dx dy d e=>by
 unfold Z.oMod at e;split at e
 ·unfold Z.guard at e;split at e
  ·rename_i h;cases e;exact⟨_,_,rfl,rfl,h,rfl⟩
  ·cases e
 ·cases e) ha hb
theorem qg(ha:DW X a fa)(hb:DW X b fb):DE X (.BinOp a .Pow b pos) (Z.eB Z.n! fa fb):=yh L1 (qX λ dx dy d e=>by
 unfold Z.n! at e;split at e
 ·unfold Z.guard at e;split at e
  ·rename_i h;cases e;exact⟨_,_,rfl,rfl,h,rfl⟩
  ·cases e
 ·cases e) ha hb
def OH(K:PySem.W.Frag):R2:=λ x y H Q=>∃a b xs ys,x=.ref a∧y=.ref b∧oH K H a xs∧oH K H b ys∧xs.length+ys.length≤sizeLine ∧
 (xs=[]->Q (.ref b) H)∧(ys=[]->Q (.ref a) H)∧(∀p,H p=none->Q (.ref p) (upd H p (.tup (xs++ys))))
theorem Je:kI X (binaryOp .Add) (OH X.K):=by
 intro pins s σ H x y v u Q I rx ry h;obtain⟨p,q,xs,ys,rfl,rfl,hp,hq,hz,q0,q1,q2⟩:=h;by_cases hx:xs=[]
 ·cases rx;cases ry;obtain⟨aY,r1,ht,_⟩:=I.tuple hp;obtain⟨e?,r2,hb,_⟩:=I.tuple hq;obtain⟨⟨cls,dd,data,sl⟩,ho,hc,n,hd⟩:=id ht;obtain⟨⟨Nb,Ie,data2,HU⟩,Cq,wc,n2,hd2⟩:=id hb;simp only at hc hd wc hd2;subst hc hd wc hd2;have e0:aY=[]:=r1.uS.mpr hx;exact concat_meets ⟨_,ho,rfl⟩ ⟨_,Cq,rfl⟩ noFill_tuple_add seq_tuple_add PySem.F.slot_tuple_add PySem.F.entry_tuple_add (PySem.F.args_tuple_add_2 _ _)
   (tuple_addW0 p q aY.toArray e?.toArray n n2 dd Ie sl HU (by simp[e0])) ⟨ho,Cq,⟨.ref q,H,I,rfl,q0 hx⟩⟩
 ·exact Jf pins s σ H _ _ v u Q I rx ry ⟨p,q,xs,ys,rfl,rfl,hp,hq,hx,hz,q1,λ _=>q2⟩
theorem IA(a b:List Nat):(⟨a.toArray⟩:Str)++(⟨b.toArray⟩:Str)=⟨(a++b).toArray⟩:=by show(⟨a.toArray++b.toArray⟩:Str)=_;simp
theorem aH(ha : DW X a fa)(hb : DW X b fb): DE X (.BinOp a .Add b pos) (Z.eB Z.bj fa fb) := yh (L6.or (B8.or Je)) (λ x y dx dy d H Q h1 h2 e k => by
 unfold Z.bj at e;split at e
 ·cases e;exact .inl ⟨_,_,h1.int,h2.int,k _ H (aI.refl H) c7⟩
 ·unfold Z.guard at e;split at e
  ·rename_i as bs h;cases e;refine .inr (.inl ⟨_,_,h1.str,h2.str,?_,?_⟩)
   ·show as.toArray.size+bs.toArray.size≤sizeLine;rw[sizeLine_eq];simpa using h
   ·rw[IA];exact k _ H (aI.refl H) oY
  ·cases e
 ·unfold Z.guard at e;split at e
  ·rename_i as bs h;cases e;obtain⟨p,xs,rfl,hp,t1⟩:=h1.tup;obtain⟨q,ys,rfl,hq,t2⟩:=h2.tup;refine .inr (.inr ⟨p,q,xs,ys,rfl,rfl,hp,hq,?_,?_,?_,?_⟩)
   ·rw[t1.length,t2.length,sizeLine_eq];exact h
   ·rintro rfl;have:as=[]:=List.eq_nil_of_length_eq_zero (by rw[<-t1.length];rfl);subst this;exact k _ H (aI.refl H) (g! hq t2)
   ·rintro rfl;have:bs=[]:=List.eq_nil_of_length_eq_zero (by rw[<-t2.length];rfl);subst this;rw[List.append_nil]at k;exact k _ H (aI.refl H) (g! hp t1)
   ·intro z hn;have s1:aI H (upd H z (.tup (xs++ys))):=dQ hn;exact k _ _ s1 (g! (.inl (.inl bV)) ((t1.append t2).up s1))
  ·cases e
 ·cases e) ha hb
theorem CM(ha:DW X a fa):DE X (.UnaryOp .USub a pos) (Z.eU Z.Gs fa):=PE.imp (OL Lq ha) λ σ H Q ⟨ρ,d,r,e,k⟩=>by
 obtain⟨x,ea,e⟩:=Z.Res.az e;refine⟨ρ,x,r,ea,λ v H1 s1 d1=>?_⟩;unfold Z.Gs at e;split at e
 ·cases e;exact⟨_,d1.int,k _ H1 s1 c7⟩
 ·cases e
end
end ZS
namespace ZS
section
open PySem Builtin Builtin.Str
theorem A2(t:List Nat):(⟨t.toArray⟩:Str).length=t.length:=by simp[Str.length]
theorem D0(n d:Nat)(i:Int):max 0 (min (if i < 0 then i+(n:Int)else i) (n:Int))=((Z.dP n d (some i):Nat):Int):=by
 show max 0 (min (if i < 0 then i+(n:Int)else i) (n:Int))=(((if i < 0 then(i+(n:Int)).toNat else min i.toNat n):Nat):Int)
 by_cases h:i < 0
 ·simp only[if_pos h];lia
 ·simp only[if_neg h];lia
theorem Ye(a b:Nat):sliceRange (a:Int) (b:Int) 1=(List.range (b-a)).map (λ k=>a+k):=by
 unfold sliceRange;simp only[show(1:Int) > 0 by decide,if_true];have e:(if(a:Int) < (b:Int)then((b:Int)-(a:Int)+1-1) / 1 else 0).toNat=b-a:=by
  split
  ·rw[Int.ediv_one];lia
  ·lia
 rw[e];apply List.map_congr_left;intro k _;lia
theorem idxs(lo hi:Option Int)(n:Nat):strSliceIndices lo hi 1 n=(List.range (Z.dP n n hi-Z.dP n 0 lo)).map (λ k=>Z.dP n 0 lo+k):=by
 unfold strSliceIndices;simp only[show(1:Int) > 0 by decide,if_true];rw[<-Ye];cases lo with
 | none =>
  cases hi with
  | none=>rfl
  | some j=>simp only[D0 n n j];rfl
 | some i =>
  cases hi with
  | none=>simp only[D0 n 0 i];rfl
  | some j=>simp only[D0 n 0 i,D0 n n j]
theorem yF(n d:Nat)(hd:d≤n)(o:Option Int):Z.dP n d o≤n:=by
 cases o with
 | none=>exact hd
 | some v =>show(if v < 0 then(v+(n:Int)).toNat else min v.toNat n)≤n;split<;>lia
theorem pick(cs:List Nat):∀(k a:Nat),a+k≤cs.length->((List.range k).map (λ j=>a+j)).filterMap (λ i=>cs.toArray[i]?)=(cs.drop a).take k:=by
 intro k
 induction k with
 | zero=>intro a _;simp
 | succ k ih =>
  intro a h;rw[List.range_succ,List.map_append,List.filterMap_append,ih a (by lia)];have l4:a+k < cs.length:=by lia
  rw[List.take_succ];simp[l4]
theorem Od(cs:List Nat)(lo hi:Option Int):Txt.slice ⟨cs.toArray⟩ lo hi=⟨(Z.cut cs lo hi).toArray⟩:=by
 unfold Txt.slice;rw[A2,idxs];have h1:=yF cs.length cs.length (Nat.le_refl _) hi;have h0:=yF cs.length 0 (Nat.zero_le _) lo;have hp:((List.range (Z.dP cs.length cs.length hi-Z.dP cs.length 0 lo)).map (λ k=>Z.dP cs.length 0 lo+k)).filterMap (λ i=>cs.toArray[i]?)=Z.cut cs lo hi:=by unfold Z.cut;exact pick cs _ _ (by lia)
 split
 ·rename_i hh;have hlen:(List.range (Z.dP cs.length cs.length hi-Z.dP cs.length 0 lo)).length=cs.length:=by simp only[beq_self_eq_true,Bool.true_and,beq_iff_eq,List.length_map]at hh;exact hh
  rw[List.length_range]at hlen;unfold Z.cut;have e0:Z.dP cs.length 0 lo=0:=by lia
  have e1:Z.dP cs.length cs.length hi-Z.dP cs.length 0 lo=cs.length:=by lia
  rw[e1,e0];simp
 ·rw[hp]
end
open PySem PySem.Spec PyProof.Rows L2
section
variable {X:Cx}{e a b c:Expr}{es:List Expr}{pos p:Pos}{f fa fb fc:Z.EF}
theorem M!{op:CmpOp}{r:R2}{o:Z.D->Z.D->Z.Res Z.D}(hr:kI X (compareOp op) r)(hz:D' X.K r o)(ha:DW X a fa)(hb:DW X b fb)(hm:behindInMarks op b=false):DE X (.Compare a [op] [b] pos) (Z.eB o fa fb) :=
 PE.imp (uQ hr ha hb hm) (two hz)
theorem Bq{t:TE}(h:PT X e (FN t))(k:∀σ H Q,tZ X.K f σ H Q->t σ H Q):DT X e (Z.tE f):=PT.imp h λ σ H Q ⟨ρ,b,r,e,q⟩=>by
 obtain⟨x,ea,e⟩:=Z.Res.az e;refine k σ H _ ⟨ρ,x,r,ea,λ v H' s d=>?_⟩;split at e
 ·cases e;simp only[Den]at d;exact⟨_,d,q H' s⟩
 ·cases e
theorem M8{op:CmpOp}{r:R2}{o:Z.D->Z.D->Z.Res Z.D}(hr:kI X (compareOp op) r)(hz:D' X.K r o)(ha:DW X a fa)(hb:DW X b fb)(hm:behindInMarks op b=false):DT X (.Compare a [op] [b] pos) (Z.tE (Z.eB o fa fb)) :=
 Bq (uP hr ha hb hm) (two hz)
structure yq(X:Cx)(op:CmpOp)(o:Z.D->Z.D->Z.Res Z.D):Prop where
 ex:∃r,kI X (compareOp op) r∧D' X.K r o
theorem eA{op:CmpOp}{o:Z.D->Z.D->Z.Res Z.D}(h:yq X op o)(ha:DW X a fa)(hb:DW X b fb)(hm:behindInMarks op b=false):DE X (.Compare a [op] [b] pos) (Z.eB o fa fb) :=
 let ⟨_,hr,hz⟩:=h.ex;M! hr hz ha hb hm
theorem aR{op:CmpOp}{o:Z.D->Z.D->Z.Res Z.D}(h:yq X op o)(ha:DW X a fa)(hb:DW X b fb)(hm:behindInMarks op b=false):DT X (.Compare a [op] [b] pos) (Z.tE (Z.eB o fa fb)) :=
 let ⟨_,hr,hz⟩:=h.ex;M8 hr hz ha hb hm
theorem yi{r r':R2}{o o':Z.D->Z.D->Z.Res Z.D}(hz:D' X.K r o)(PR:D' X.K r' o'):∀σ H Q,tZ X.K (Z.mC o o' fa fb fc) σ H Q->BX r r' (HS X.K fa) (HS X.K fb) (HS X.K fc) σ H Q:=by
 rintro σ H Q ⟨ρ,d,re,e,k⟩;obtain⟨x,ea,e⟩:=Z.Res.az e;obtain⟨y,eb,e⟩:=Z.Res.az e;obtain⟨z,eo,e⟩:=Z.Res.az e;refine⟨ρ,x,re,ea,λ v H1 s1 d1=>⟨ρ,y,re.up s1,eb,λ u H2 s2 d2=>hz _ _ _ _ _ H2 _ (d1.up s2) d2 eo λ w H3 s3 dw=>?_⟩⟩;have HV:aI H H3:=(s1.trans s2).trans s3;split at e
 ·rename_i q;simp only[Den]at dw;refine⟨_,dw,?_⟩;cases q with
  | true =>simp only[if_true]at e ⊢;obtain⟨t,ec,e⟩:=Z.Res.az e;exact⟨ρ,t,re.up HV,ec,λ v' H4 s4 d4=>PR _ _ _ _ _ H4 Q ((d2.up s3).up s4) d4 e λ w' H5 s5 Z2=>k w' H5 ((HV.trans s4).trans s5) Z2⟩
  | false =>simp only[Bool.false_eq_true,if_false]at e ⊢;cases e;exact k _ H3 HV dt
 ·cases e
theorem wJ{op uz:CmpOp}{o o':Z.D->Z.D->Z.Res Z.D}(h:yq X op o)(h':yq X uz o')(ha:DW X a fa)(hb:DW X b fb)(hc:DW X c fc)
  (hm:lastMarks [op,uz] [b,c]=false:=by with_unfolding_all rfl):DE X (.Compare a [op,uz] [b,c] pos) (Z.mC o o' fa fb fc) :=
 let ⟨_,hr,hz⟩:=h.ex;let ⟨_,UL,PR⟩:=h'.ex;PE.imp (Gg hr UL ha hb hc hm) (yi hz PR)
theorem rH{op uz:CmpOp}{o o':Z.D->Z.D->Z.Res Z.D}(h:yq X op o)(h':yq X uz o')(ha:DW X a fa)(hb:DW X b fb)(hc:DW X c fc)
  (hm:lastMarks [op,uz] [b,c]=false:=by with_unfolding_all rfl):DT X (.Compare a [op,uz] [b,c] pos) (Z.tE (Z.mC o o' fa fb fc)) :=
 let ⟨_,hr,hz⟩:=h.ex;let ⟨_,UL,PR⟩:=h'.ex;Bq (F' hr UL ha hb hc hm) (yi hz PR)
theorem Kn:yq X .Lt Z.oLt:=⟨_,OP,n8 (gd:=λ i j=>.bl (decide (i < j))) (λ dx dy d e=>by
 unfold Z.oLt at e;split at e
 ·cases e;exact⟨_,_,rfl,rfl,rfl⟩
 ·cases e) λ _ _ _=>dt⟩
theorem zL:yq X .Gt Z.z7:=⟨_,OR,n8 (gd:=λ i j=>.bl (decide (j < i))) (λ dx dy d e=>by
 unfold Z.z7 at e;split at e
 ·cases e;exact⟨_,_,rfl,rfl,rfl⟩
 ·cases e) λ _ _ _=>dt⟩
theorem Nd:yq X .GtE Z.L_:=⟨_,OS,n8 (gd:=λ i j=>.bl (decide (j≤i))) (λ dx dy d e=>by
 unfold Z.L_ at e;split at e
 ·cases e;exact⟨_,_,rfl,rfl,rfl⟩
 ·cases e) λ _ _ _=>dt⟩
theorem Ep:kI X (compareOp .LtE) (λ x y H Q=>∃i j,x=.str i∧y=.str j∧Q (.bl (!decide (j.cps.toList < i.cps.toList))) H):=by intro pins s σ H x y v u Q I rx ry h;obtain⟨i,j,rfl,rfl,q⟩:=h;obtain⟨t,rfl⟩:=rx;obtain⟨t',rfl⟩:=ry;exact PySem.P.le_str (Cz I q rfl)
theorem GK:∀(a b:List Nat),Z.Jw a b=decide (a < b)
 | [],[]=>by simp[Z.Jw]
 | [],_ :: _=>by simp[Z.Jw]
 | _ :: _,[]=>by simp[Z.Jw]
 | a :: as,b :: bs=>by
  unfold Z.Jw;rw[GK as bs];by_cases h:a < b
  ·simp[h,List.cons_lt_cons_iff]
  ·by_cases h2:a=b
   ·subst h2;simp[List.cons_lt_cons_iff]
   ·simp[h,h2,List.cons_lt_cons_iff]
theorem qj:yq X .LtE Z.oLe:=⟨_,OQ.or Ep,λ x y dx dy d H Q h1 h2 e k=>by
 unfold Z.oLe at e;split at e
 ·cases e;exact .inl ⟨_,_,h1.int,h2.int,k _ H (aI.refl H) dt⟩
 ·cases e;refine .inr ⟨_,_,h1.str,h2.str,?_⟩;rename_i as bs;have q:=k (.bl (!Z.Jw bs as)) H (aI.refl H) dt;rw[GK]at q;exact q
 ·cases e⟩
def PB:Z.D->Bool
 | .non=>true
 | _=>false
theorem Gz{K:PySem.W.Frag}{H:Hp}{d:Z.D}{v:V}(h:bQ K H d v):decide (v=.non)=PB d:=by
 cases d with
 | non=>rw[h.non];rfl
 | bl b=>rw[h.bl];rfl
 | int i=>rw[h.int];rfl
 | str cs=>rw[h.str];rfl
 | tup ds=>obtain⟨a,vs,rfl,_⟩:=h.tup;rfl
 | lst ds=>obtain⟨a,vs,rfl,_⟩:=h.lst;rfl
 | dct ks ds=>obtain⟨a,o,kS,rfl,_⟩:=h.dct;rfl
theorem DF:∀σ H Q,tZ X.K (Z.eU Z.ly fa) σ H Q->Iw (λ x y H Q=>y=.non∧Q (.bl (decide (x=.non))) H) (HS X.K fa) (tC .non) σ H Q:=by rintro σ H Q ⟨ρ,d,r,e,k⟩;obtain⟨x,ea,e⟩:=Z.Res.az e;refine⟨ρ,x,r,ea,λ v H1 s1 d1=>⟨rfl,?_⟩⟩;rw[Gz d1];cases x<;>(cases e;exact k _ H1 s1 dt)
theorem AU:∀σ H Q,tZ X.K (Z.eU Z.eH fa) σ H Q->Iw (λ x y H Q=>y=.non∧Q (.bl (!decide (x=.non))) H) (HS X.K fa) (tC .non) σ H Q:=by rintro σ H Q ⟨ρ,d,r,e,k⟩;obtain⟨x,ea,e⟩:=Z.Res.az e;refine⟨ρ,x,r,ea,λ v H1 s1 d1=>⟨rfl,?_⟩⟩;rw[Gz d1];cases x<;>(cases e;exact k _ H1 s1 dt)
theorem CN{j pos'}(ha:DW X a fa):DE X (.Compare a [.Is] [.Constant .none j pos'] pos) (Z.eU Z.ly fa):=PE.imp (uQ Gk ha vA (aS _)) DF
theorem zy{j pos'}(ha:DW X a fa):DE X (.Compare a [.IsNot] [.Constant .none j pos'] pos) (Z.eU Z.eH fa):=PE.imp (uQ Dl ha vA (aS _)) AU
theorem oz{j pos'}(ha:DW X a fa):DT X (.Compare a [.Is] [.Constant .none j pos'] pos) (Z.tE (Z.eU Z.ly fa)):=Bq (uP Gk ha vA (aS _)) DF
theorem jx{j pos'}(ha:DW X a fa):DT X (.Compare a [.IsNot] [.Constant .none j pos'] pos) (Z.tE (Z.eU Z.eH fa)):=Bq (uP Dl ha vA (aS _)) AU
theorem iB{op}(h:DE X a fa):DE X (.BoolOp op [a] pos) fa:=LS h
theorem lA{rest:List Expr}(ha:DE X a fa)(hb:DE X (.BoolOp .And (b :: rest) pos) fb):DE X (.BoolOp .And (a :: b :: rest) pos) (Z.wA fa fb):=PE.imp (LX ha hb) λ σ H Q ⟨ρ,d,r,e,k⟩=>by
 obtain⟨x,ea,e⟩:=Z.Res.az e;refine⟨ρ,x,r,ea,λ v H1 s1 d1=>?_⟩;split at e
 ·rename_i q;simp only[Den]at d1;refine⟨q,d1,?_⟩;cases q with
  | true =>simp only[if_true]at e ⊢;exact⟨ρ,d,r.up s1,e,λ w H' s2 dw=>k w H' (s1.trans s2) dw⟩
  | false =>simp only[Bool.false_eq_true,if_false]at e ⊢;cases e;exact k _ H1 s1 dt
 ·cases e
theorem Bt{rest:List Expr}(ha:DE X a fa)(hb:DE X (.BoolOp .Or (b :: rest) pos) fb):DE X (.BoolOp .Or (a :: b :: rest) pos) (Z.NW fa fb):=PE.imp (OM ha hb) λ σ H Q ⟨ρ,d,r,e,k⟩=>by
 obtain⟨x,ea,e⟩:=Z.Res.az e;refine⟨ρ,x,r,ea,λ v H1 s1 d1=>?_⟩;split at e
 ·rename_i q;simp only[Den]at d1;refine⟨q,d1,?_⟩;cases q with
  | false =>simp only[Bool.false_eq_true,if_false]at e ⊢;exact⟨ρ,d,r.up s1,e,λ w H' s2 dw=>k w H' (s1.trans s2) dw⟩
  | true =>simp only[if_true]at e ⊢;cases e;exact k _ H1 s1 dt
 ·cases e
theorem CL(ha:DE X a fa):DE X (.UnaryOp .Not a pos) (Z.J? fa):=PE.imp (LU ha) λ σ H Q ⟨ρ,d,r,e,k⟩=>by
 obtain⟨x,ea,e⟩:=Z.Res.az e;refine⟨ρ,x,r,ea,λ v H1 s1 d1=>?_⟩;split at e
 ·simp only[Den]at d1;cases e;exact⟨_,d1,k _ H1 s1 dt⟩
 ·cases e
theorem Lw:∀σ H (Q:Bool->Hp->Prop),N8 X.K (Z.tE f) σ H Q->tB (tZ X.K f) σ H Q:=by
 rintro σ H Q ⟨ρ,b,r,e,q⟩;obtain⟨x,ea,e⟩:=Z.Res.az e;refine⟨ρ,x,r,ea,λ v H' s d=>?_⟩;split at e
 ·cases e;simp only[Den]at d;exact⟨_,d,q H' s⟩
 ·cases e
theorem ku(h:DE X e f)(he:∀whole,isTrue e X.env whole=(do let v ←whole;standAt e.pos;holding [v] (truthy v)):=by intro _;rfl):DT X e (Z.tE f):=PT.imp (LJ h he) Lw
theorem gW{t:Z.TF}(h:DT X a t):DT X (.UnaryOp .Not a pos) (Z.nA t):=PT.imp (LK h) λ σ H Q ⟨ρ,b,r,e,q⟩=>by obtain⟨x,ea,e⟩:=Z.Res.az e;cases e;exact⟨ρ,x,r,ea,λ H' s=>q H' s⟩
theorem jy{t:Z.TF}(h:DT X a t):Ln X (.BoolOp .And [a] pos) t:=pw_and1 h
theorem jk{t:Z.TF}(h:DT X a t):Ln X (.BoolOp .Or [a] pos) t:=pw_or1 h
theorem kv{t u:Z.TF}{rest:List Expr}(ha:DT X a t)(hb:Ln X (.BoolOp .And (b :: rest) pos) u):Ln X (.BoolOp .And (a :: b :: rest) pos) (Z.l6 t u):=PW.imp (pw_and ha hb) λ σ H Q ⟨ρ,d,r,e,k⟩=>by
 obtain⟨x,ea,e⟩:=Z.Res.az e;refine⟨ρ,x,r,ea,λ H1 s1=>?_⟩;cases x with
 | true =>simp only[if_true]at e ⊢;exact⟨ρ,d,r.up s1,e,λ H' s2=>k H' (s1.trans s2)⟩
 | false =>simp only[Bool.false_eq_true,if_false]at e ⊢;cases e;exact k H1 s1
theorem kY{t u:Z.TF}{rest:List Expr}(ha:DT X a t)(hb:Ln X (.BoolOp .Or (b :: rest) pos) u):Ln X (.BoolOp .Or (a :: b :: rest) pos) (Z.yv t u):=PW.imp (pw_or ha hb) λ σ H Q ⟨ρ,d,r,e,k⟩=>by
 obtain⟨x,ea,e⟩:=Z.Res.az e;refine⟨ρ,x,r,ea,λ H1 s1=>?_⟩;cases x with
 | false =>simp only[Bool.false_eq_true,if_false]at e ⊢;exact⟨ρ,d,r.up s1,e,λ H' s2=>k H' (s1.trans s2)⟩
 | true =>simp only[if_true]at e ⊢;cases e;exact k H1 s1
theorem zo{t:Z.TF}(h:Ln X e t):DT X e t:=h.pt
theorem lV{t:Z.TF}(hc:DT X c t)(ha:DE X a fa)(hb:DE X b fb):DE X (.IfExp c a b pos) (Z.M6 t fa fb):=PE.imp (Gf hc ha hb) λ σ H Q ⟨ρ,d,r,e,k⟩=>by
 obtain⟨x,ea,e⟩:=Z.Res.az e;refine⟨ρ,x,r,ea,λ H1 s1=>?_⟩;cases x with
 | true =>simp only[if_true]at e ⊢;exact⟨ρ,d,r.up s1,e,λ w H' s2 dw=>k w H' (s1.trans s2) dw⟩
 | false =>simp only[Bool.false_eq_true,if_false]at e ⊢;exact⟨ρ,d,r.up s1,e,λ w H' s2 dw=>k w H' (s1.trans s2) dw⟩
theorem ak:DA X [] Z.ax:=PA.imp dJ λ σ H Q ⟨ρ,ds,r,e,k⟩=>by cases e;exact k [] H (aI.refl H) aG.nil
theorem kZ{g:Z.AF}(ha:DE X e f)(hr:DA X es g)(hs:starEach (e :: es) X.env=(false,eval e X.env) :: starEach es X.env:=by rfl):DA X (e :: es) (Z.aa f g):=PA.imp (b9 ha hr hs) λ σ H Q ⟨ρ,ds,r,e,k⟩=>by obtain⟨x,ea,e⟩:=Z.Res.az e;obtain⟨xs,eb,e⟩:=Z.Res.az e;cases e;exact⟨ρ,x,r,ea,λ v H1 s1 d1=>⟨ρ,xs,r.up s1,eb,λ vs H2 s2 d2=>k _ H2 (s1.trans s2) (aG.cons (d1.up s2) d2)⟩⟩
theorem cJ{x1}{g:Z.AF}(h:DA X es g):DE X (.Tuple es x1 pos) (Z.fM g):=PE.imp (LQ h) λ σ H Q ⟨ρ,d,r,e,k⟩=>by
 obtain⟨xs,ea,e⟩:=Z.Res.az e;unfold Z.guard at e;split at e
 ·rename_i hl;cases e;refine⟨ρ,xs,r,ea,λ vs H1 s1 d1=>⟨by rw[d1.length,sizeLine_eq];exact hl,λ q hq=>?_⟩⟩;have s2:aI H1 (upd H1 q (.tup vs)):=dQ hq;exact k _ _ (s1.trans s2) (g! (.inl (.inl bV)) (d1.up s2))
 ·cases e
theorem bu{g:Z.AF}(h:DA X es g):DL X (.List es pos) (Z.bX g):=PE.imp (LV h) λ σ H Q ⟨ρ,d,r,e,k⟩=>by
 obtain⟨xs,ea,e⟩:=Z.Res.az e;unfold Z.guard at e;split at e
 ·rename_i hl;cases e;refine⟨ρ,_,r,ea,λ vs H1 s1 d1=>⟨by rw[d1.length,sizeLine_eq];exact hl,λ q hq=>?_⟩⟩;have s2:aI H1 (upd H1 q (.lst vs)):=dQ hq;exact k q vs _ (s1.trans s2) (s1.free hq) bV (d1.up s2)
 ·cases e
end
end ZS
namespace ZS
open PySem PySem.Spec PyProof.Rows L2
def Ls:Z.Ty->String
 | .bool => "bool" | .int => "int" | .str => "str" | .tuple => "tuple" | .list => "list" | .dict => "dict"
def XX:Z.D->String
 | .non => "NoneType" | .bl _ => "bool" | .int _ => "int" | .str _ => "str" | .tup _ => "tuple" | .lst _ => "list" | .dct _ _ => "dict"
theorem JD(K:PySem.W.Frag)(t:Z.Ty)(d:Z.D):PySem.W.kitOne K (.type (XX d)) (.type (Ls t))=some (Z.nC t d):=by cases t<;>cases d<;>kernel_rfl
section
variable {X:Cx}{e a b c:Expr}{es:List Expr}{pos p:Pos}{f fa fb fc:Z.EF}
theorem GY{pins:List (Addr×Obj)}{σ:St}{H:Hp}{s:Shared}{A:Around}{E:Value->Shared->Prop}{Q:Value->Shared->Prop}{d:Z.D}{v:V}{u:Value}(t:Z.Ty)(I:Inv X pins σ H s)(hd:bQ X.K H d v)(r:RelV v u)
  (h:∀tk,Q (.bool (Z.nC t d)) { s with toks:=tk }):wpAny (model X.prog X.w) A (call (.builtin "isinstance") [u,.type (Ls t)]) Q E s:=by
 have e:=JD X.K t d;cases d with
 | non=>rw[hd.non]at r;cases (show u=Value.none from r);exact PySem.W.kia_one PySem.W.kitx_none I.EO True.intro e (λ z=>nomatch z) h
 | bl y=>rw[hd.bl]at r;cases (show u=Value.bool y from r);exact PySem.W.kia_one PySem.W.kitx_bool I.EO True.intro e (λ z=>nomatch z) h
 | int i=>rw[hd.int]at r;obtain⟨t',q⟩:=(show ∃t,u=Value.int i t from r);cases q;exact PySem.W.kia_one PySem.W.kitx_int I.EO True.intro e (λ z=>nomatch z) h
 | str cs=>rw[hd.str]at r;obtain⟨t',q⟩:=(show ∃t,u=Value.str ⟨cs.toArray⟩ t from r);cases q;exact PySem.W.kia_one PySem.W.kitx_str I.EO True.intro e (λ z=>nomatch z) h
 | tup ds =>obtain⟨a,vs,rfl,hq,_⟩:=hd.tup;cases (show u=Value.ref a from r);obtain⟨aY,_,⟨o,h1,h2,_⟩,_⟩:=I.tuple hq;exact PySem.W.kia_one PySem.W.kitx_tuple I.EO ⟨o,h1,h2⟩ e (λ z=>nomatch z) h
 | lst ds =>obtain⟨a,vs,rfl,hq,_⟩:=hd.lst;cases (show u=Value.ref a from r);obtain⟨aY,_,⟨o,n,h1,h2,_⟩,_⟩:=I.list hq;exact PySem.W.kia_one PySem.W.kitx_list I.EO ⟨o,h1,h2⟩ e (λ z=>nomatch z) h
 | dct ks ds =>
  obtain⟨a,o,kS,rfl,hq,_⟩:=hd.dct;cases (show u=Value.ref a from r);obtain⟨_,_,_,_,_,o',es,ep,h1,h2,_⟩:=(show js X.prog X.w H s.heap a (.i! o (.dK kS))from I.dW a _ hq)
  exact PySem.W.kia_one PySem.W.kitx_dict I.EO ⟨o',h1,h2.1⟩ e (λ z=>nomatch z) h
theorem iC(t:Z.Ty){x y:Str}{p1 p2:Pos}(hg:Gl X x)(hm:X.mg x=none)(hv:bootBuiltins x=some (.builtin "isinstance"))(hg2:Gl X y)(hm2:X.mg y=none)(hv2:bootBuiltins y=some (.type (Ls t)))(ha:DW X a fa)
  (hn:x ≠ "__name__" := by decide +kernel) (hdb:(x==("__debug__" : Str))=false:=by decide +kernel) (hn2:y ≠ "__name__" := by decide +kernel) (hdb2:(y==("__debug__" : Str))=false:=by decide +kernel)
  (he:starEach (a :: [.Name y p2]) X.env=(false,eval a X.env) :: starEach [.Name y p2] X.env:=by rfl) (hpl:(backTo pos (starEach [.Name y p2] X.env)).any (·.1)=false:=by rfl) (he2:starEach ((.Name y p2) :: []) X.env=(false,eval (.Name y p2) X.env) :: starEach [] X.env:=by rfl) :
  DE X (.Call (.Name x p1) [a,.Name y p2] [] pos) (Z.eU (Z.t? t) fa):=by
 have hc:kF X (.builtin "isinstance") (λ xs H Q=>∃v d,xs=[v,.ty (Ls t)]∧bQ X.K H d v∧Q (.bl (Z.nC t d)) H):=by intro pins s σ H xs us Q I r h;obtain⟨v,d,rfl,hd,q⟩:=h;obtain⟨u,w',rfl,r1,r2⟩:=vals2 r;cases (show w'=Value.type (Ls t)from r2);exact GY t I hd r1 λ tk=>⟨.bl _,H,I.tok _,rfl,q⟩
 refine PE.imp (jW hc hg hm hv (b9 ha (b9 (I! (v:=.ty (Ls t)) hg2 hm2 hv2 rfl hn2 hdb2) dJ he2) he) hn hdb he hpl) λ σ H Q ⟨ρ,d,r,e,k⟩=>?_;obtain⟨x,ea,e⟩:=Z.Res.az e;cases e;exact⟨ρ,x,r,ea,λ v H1 s1 d1=>⟨v,x,rfl,d1,k _ H1 s1 dt⟩⟩
theorem bU{x : Str}{p1 : Pos}(hg : Gl X x)(hm : X.mg x = none)(hv : bootBuiltins x = some (.builtin "len"))(ha : DW X a fa)(hn : x ≠ "__name__" := by decide +kernel)(hdb : (x == ("__debug__" : Str)) = false := by decide +kernel)
  (he:starEach (a :: []) X.env=(false,eval a X.env) :: starEach [] X.env:=by rfl) (hpl:(backTo pos (starEach [] X.env)).any (·.1)=false:=by rfl):DE X (.Call (.Name x p1) [a] [] pos) (Z.eU Z.cM fa) :=
 PE.imp (jW Hz hg hm hv (b9 ha dJ he) hn hdb he hpl) λ σ H Q ⟨ρ,d,r,e,k⟩=>by
  obtain⟨x,ea,e⟩:=Z.Res.az e;refine⟨ρ,x,r,ea,λ v H1 s1 d1=>?_⟩;unfold Z.cM at e;split at e
  ·unfold Z.guard at e;split at e
   ·rename_i cs hl;cases e;rw[d1.str];refine⟨_,cs.length,rfl,⟨?_,?_⟩,k _ H1 s1 c7⟩
    ·show cs.toArray.size≤sizeLine;rw[sizeLine_eq];simpa using hl
    ·show cs.length=cs.toArray.size;simp
   ·cases e
  ·cases e;obtain⟨q,vs,rfl,hq,t⟩:=d1.tup;refine⟨_,_,rfl,.inr ⟨vs,hq,rfl⟩,?_⟩;rw[t.length];exact k _ H1 s1 c7
  ·cases e;obtain⟨q,vs,rfl,hq,t⟩:=d1.lst;refine⟨_,_,rfl,.inl ⟨vs,hq,rfl⟩,?_⟩;rw[t.length];exact k _ H1 s1 c7
  ·cases e
theorem Mu(n:Nat)(i:Int):Z.yb n i=Px n i:=rfl
theorem XF{K:PySem.W.Frag}{H:Hp}{ds:List Z.D}{vs:List V}{i:Int}{d:Z.D}(t:aG K H ds vs)(h:((Z.yb ds.length i).bind λ j=>ds[j]?)=some d):∃v,Ni vs i=some v∧Den K H d v:=by
 unfold Ni;rw[t.length,<-Mu];cases q:Z.yb ds.length i with
 | none=>rw[q]at h;cases h
 | some j =>rw[q]at h;exact t.get h
theorem aE(ha : DW X a fa)(hb : DW X b fb)(hs : zX b := by intro _ _; rfl): DE X (.Subscript a b pos) (Z.eB Z.bc fa fb) := PE.imp (ON Mt ha hb hs) (two λ x y dx dy d H Q h1 h2 e k => by
 unfold Z.bc at e;split at e
 ·obtain⟨q,vs,rfl,hq,t⟩:=h1.tup;split at e
  ·rename_i v hv;cases e;obtain⟨w,e1,dw⟩:=XF t hv;exact .inr (.inl ⟨q,vs,_,w,rfl,h2.int,hq,e1,k w H (aI.refl H) dw⟩)
  ·cases e
 ·obtain⟨q,vs,rfl,hq,t⟩:=h1.lst;split at e
  ·rename_i v hv;cases e;obtain⟨w,e1,dw⟩:=XF t hv;exact .inl ⟨q,vs,_,w,rfl,h2.int,hq,e1,k w H (aI.refl H) dw⟩
  ·cases e
 ·unfold Z.guard at e;split at e
  ·rename_i cs i hl;split at e
   ·rename_i c hc;cases e;refine .inr (.inr ⟨_,_,c,h1.str,h2.int,?_,?_,?_⟩)
    ·show cs.toArray.size≤sizeLine;rw[sizeLine_eq];simpa using hl
    ·exact hc
    ·exact k _ H (aI.refl H) (oY (cs:=[c]))
   ·cases e
  ·cases e
 ·cases e)
theorem uk:DP X none Z.HX:=PO.imp IV λ σ H Q ⟨ρ,o,r,e,k⟩=>by cases e;exact k H (aI.refl H)
theorem nv(h:DW X e f):DP X (some e) (Z.BK f):=PO.imp (IU h) λ σ H Q ⟨ρ,o,r,e,k⟩=>by
 obtain⟨x,ea,e⟩:=Z.Res.az e;refine⟨ρ,x,r,ea,λ v H1 s1 d1=>?_⟩;split at e
 ·cases e;exact⟨_,d1.int,k H1 s1⟩
 ·cases e
theorem r8(n d:Nat)(o:Option Int):Z.dP n d o=HT.dP n d o:=by cases o<;>rfl
theorem CQ{ds:List Z.D}{vs:List V}{K:PySem.W.Frag}{H:Hp}(t:aG K H ds vs)(lo hi:Option Int):aG K H (Z.cut ds lo hi) (uL vs lo hi):=by unfold Z.cut uL;rw[r8,r8,t.length];exact(t.drop _).take _
theorem E!{α:Type}{xs:List α}{lo hi:Option Int}(h1:HT.dP xs.length 0 lo=0)(h2:HT.dP xs.length xs.length hi=xs.length):Z.cut xs lo hi=xs:=by unfold Z.cut;rw[r8,r8,h1,h2];simp
def TX(K:PySem.W.Frag):V->Option Int->Option Int->Hp->VK->Prop:=λ x lo hi H Q=>∃a xs,x=.ref a∧oH K H a xs∧(uL xs lo hi=xs->Q (.ref a) H)∧∀p,H p=none->Q (.ref p) (upd H p (.tup (uL xs lo hi)))
theorem o9{prog:Program}{w:World}{A:Around}{E:Value->Shared->Prop}{s:Shared}{t sl:Addr}{items:Array Value}{vl vu:Value}{lo hi:Option Int}{Q:Value->Shared->Prop}(ht:IsTup s.heap t items)(hs:s.heap.IsSliceOf sl vl vu .none)(pl:IsPart vl lo)(pu:IsPart vu hi)
  (hw:HT.dP items.size 0 lo=0∧HT.dP items.size items.size hi=items.size)
  (h:Q (.ref t) s):wpAny (model prog w) A (getItem (.ref t) (.ref sl)) Q E s:=by
 obtain⟨os,MH,Cu,Qj⟩:=id hs;have Vp:s.TypeIs (.ref sl) "slice" := ⟨os,MH,Cu⟩
 unfold getItem
 try with_reducible refine wpAny_holding ?_
 first | refine wpAny_bind (wpAny_pure ?_) | skip
 refine wpAny_bind (wpAny_sequenceKey ht.typeIs (by decide) ?_);refine wpAny_bind (wpAny_callSpecial?_slot (name:=Str.ofString "__getitem__") ht.typeIs PyProof.Rows.slot_tuple_getitem
  (wpAny_call_entry PyProof.Rows.slot_tuple_getitem ht.typeIs entry_tuple_getitem ?_ (args_tuple_getitem _ _)))
 show wpAny _ _ (Builtin.Tuple.tupleItemsOf (.ref t) >>= _) _ _ s;refine wpAny_bind (tupleItemsOf_ ht ?_);refine wpAny_bind (wpAny_typeOf Vp ?_);rw[if_pos (by decide)];refine wpAny_bind (HT.lI hs pl pu ?_);have UD:(((HT.dP items.size 0 lo:Nat):Int)==0&&(1:Int)==1&&(HT.dP items.size items.size hi-HT.dP items.size 0 lo)==items.size)=true:=by rw[hw.1,hw.2];simp
 show wpAny _ _ (if(((HT.dP items.size 0 lo:Nat):Int)==0&&(1:Int)==1&&(HT.dP items.size items.size hi-HT.dP items.size 0 lo)==items.size)=true then _ else _) _ _ s;rw[if_pos UD];refine wpAny_bind ?_;unfold Builtin.Tuple.tupleIsExact;refine wpAny_bind (wpAny_typeOf ht.typeIs ?_);refine wpAny_pure ?_;rw[if_pos (beq_self_eq_true _)];refine wpAny_bind (wpAny_rule ?_);exact wpAny_pure ⟨.ref t,rfl,wpAny_pure h⟩
theorem IE:Ku X (TX X.K):=by
 intro pins s σ H x v vl vu lo hi sl Q I rx hs pl pu h;obtain⟨a,xs,rfl,hx,q1,q2⟩:=h;by_cases hw:HT.dP xs.length 0 lo=0∧HT.dP xs.length xs.length hi=xs.length
 ·cases rx;obtain⟨aY,r,ht,hz⟩:=I.tuple hx;have hlen:aY.toArray.size=xs.length:=by rw[List.size_toArray];exact r.length.symm
  refine⟨"tuple",_,PyProof.Rows.slot_tuple_getitem.lookup,ht.typeIs,?_⟩;refine o9 ht hs pl pu (by rw[hlen];exact hw) ⟨.ref a,H,I,rfl,q1 ?_⟩;have:=E! (xs:=xs) hw.1 hw.2;unfold Z.cut at this;rw[r8,r8]at this;exact this
 ·exact Ly pins s σ H _ v vl vu lo hi sl Q I rx hs pl pu ⟨a,xs,rfl,hx,hw,q2⟩
def TZ:V->Option Int->Option Int->Hp->VK->Prop:=λ x lo hi H Q=>∃z,x=.str z∧z.length≤sizeLine∧Q (.str (Txt.slice z lo hi)) H
theorem Gi{v:Value}{o:Option Int}(h:IsPart v o):∃q:Option (Int×Tok),v=partValue q∧q.map (·.1)=o:=by
 cases h with
 | none=>exact⟨none,rfl,rfl⟩
 | int i t=>exact⟨some (i,t),rfl,rfl⟩
theorem IF:Ku X TZ:=by intro pins s σ H x v vl vu lo hi sl Q I rx hs pl pu h;obtain⟨z,rfl,hz,q⟩:=h;obtain⟨t,rfl⟩:=rx;obtain⟨ql,rfl,rfl⟩:=Gi pl;obtain⟨qu,rfl,rfl⟩:=Gi pu;refine⟨"str",_,F.slot_str_getitem.lookup,typeIs_str _ _ _,?_⟩;refine wpAny_getItem_str_slice (l:=ql) (u:=qu) (st:=none) hs rfl ?_;refine post_val_or_str ⟨Nat.le_trans (Txt.slice_le z _ _) hz,λ t' k=>⟨.str _,H,I.tok _,⟨t',rfl⟩,q⟩⟩
theorem i4{lo hi : Option Expr}{gl gh : Z.PF}{p2 : Pos}(ha : DW X a fa)(hl : DP X lo gl)(hh : DP X hi gh): DE X (.Subscript a (.Slice lo hi none p2) pos) (Z.Ic fa gl gh) :=
 PE.imp (As (IF.or IE) ha hl hh) λ σ H Q ⟨ρ,d,r,e,k⟩=>by
  obtain⟨x,ea,e⟩:=Z.Res.az e;obtain⟨l,el,e⟩:=Z.Res.az e;obtain⟨h,eh,e⟩:=Z.Res.az e;refine⟨ρ,x,r,ea,λ v H1 s1 d1=>⟨ρ,l,r.up s1,el,λ H2 s2=>⟨ρ,h,(r.up s1).up s2,eh,λ H3 s3=>?_⟩⟩⟩;have HV:aI H H3:=(s1.trans s2).trans s3;have d3:=(d1.up s2).up s3;unfold Z.Nu at e;split at e
  ·unfold Z.guard at e;split at e
   ·rename_i cs _ _ hl;cases e;refine .inl ⟨_,d3.str,?_,?_⟩
    ·show cs.toArray.size≤sizeLine;rw[sizeLine_eq];simpa using hl
    ·rw[Od];exact k _ H3 HV oY
   ·cases e
  ·cases e;obtain⟨q,vs,rfl,hq,t⟩:=d3.tup;refine .inr ⟨q,vs,rfl,hq,λ hw=>?_,λ z hz=>?_⟩
   ·have:=CQ t l h;rw[hw]at this;exact k _ H3 HV (g! hq this)
   ·have s4:aI H3 (upd H3 z (.tup (uL vs l h))):=dQ hz;exact k _ _ (HV.trans s4) (g! (.inl (.inl bV)) ((CQ t l h).up s4))
  ·cases e
theorem rJ{lo hi:Option Expr}{gl gh:Z.PF}{p2:Pos}(ha:DW X a fa)(hl:DP X lo gl)(hh:DP X hi gh):DL X (.Subscript a (.Slice lo hi none p2) pos) (Z.K0 fa gl gh) :=
 PE.imp (As IG ha hl hh) λ σ H Q ⟨ρ,d,r,e,k⟩=>by
  obtain⟨x,ea,e⟩:=Z.Res.az e;obtain⟨l,el,e⟩:=Z.Res.az e;obtain⟨h,eh,e⟩:=Z.Res.az e;refine⟨ρ,x,r,ea,λ v H1 s1 d1=>⟨ρ,l,r.up s1,el,λ H2 s2=>⟨ρ,h,(r.up s1).up s2,eh,λ H3 s3=>?_⟩⟩⟩;have HV:aI H H3:=(s1.trans s2).trans s3;have d3:=(d1.up s2).up s3;split at e
  ·cases e;obtain⟨q,vs,rfl,hq,t⟩:=d3.lst;refine⟨q,vs,rfl,hq,λ z hz=>?_⟩;have s4:aI H3 (upd H3 z (.lst (uL vs l h))):=dQ hz;exact k z _ _ (HV.trans s4) (HV.free hz) bV ((CQ t l h).up s4)
  ·cases e
def OJ(K:PySem.W.Frag):R2:=λ x y H Q=>∃l b xs zs,x=.ref l∧y=.ref b∧i? K H l xs∧i? K H b zs∧xs.length+zs.length≤sizeLine∧∀p,H p=none->Q (.ref p) (upd H p (.lst (xs++zs)))
theorem Jg:kI X (binaryOp .Add) (OJ X.K):=by
 intro pins s σ H x y v u Q I rx ry h;obtain⟨l,b,xs,zs,rfl,rfl,hH,hB,hz,q⟩:=h;cases rx;cases ry;obtain⟨aY,r,pl,_⟩:=I.list hH;obtain⟨e?,r2,Ys,_⟩:=I.list hB;have hl:=r.length;have MM:=r2.length;obtain⟨⟨cls,dd,data,sl⟩,ho,hc,n,hd⟩:=id pl.isList;obtain⟨⟨Nb,Ie,data2,HU⟩,Cq,wc,n2,hd2⟩:=id Ys.isList;simp only at hc hd wc hd2;subst hc hd wc hd2;have ea:aY.toArray++e?.toArray=(aY++e?).toArray:=by simp
 refine concat_meets ⟨_,ho,rfl⟩ ⟨_,Cq,rfl⟩ noFill_list_add seq_list_add PySem.F.slot_list_add PySem.F.entry_list_add (PySem.F.args_list_add_2 _ _) (list_addW l b aY.toArray e?.toArray n n2 dd Ie sl HU (by simp only[List.size_toArray];lia)) ⟨ho,Cq,?_⟩;rw[ea];exact⟨.ref _,_,I.Pq (t':=s.toks) (r.append r2) (by rw[List.length_append];lia),rfl,q _ I.fresh⟩
theorem zr(ha:DW X a fa)(hb:DW X b fb):DL X (.BinOp a .Add b pos) (Z.GR fa fb):=PE.imp (Dj Jg ha hb) λ σ H Q ⟨ρ,d,r,e,k⟩=>by
 obtain⟨x,ea,e⟩:=Z.Res.az e;obtain⟨y,eb,e⟩:=Z.Res.az e;refine⟨ρ,x,r,ea,λ v H1 s1 d1=>⟨ρ,y,r.up s1,eb,λ u H2 s2 d2=>?_⟩⟩;have Ow:=s1.trans s2;split at e
 ·unfold Z.guard at e;split at e
  ·rename_i xs ys hl;cases e;obtain⟨q,vs,rfl,hq,t⟩:=(d1.up s2).lst;obtain⟨q',Io,rfl,rk,t'⟩:=d2.lst;refine⟨q,q',vs,Io,rfl,rfl,hq,rk,by rw[t.length,t'.length,sizeLine_eq];exact hl,λ z hz=>?_⟩;have s3:aI H2 (upd H2 z (.lst (vs++Io))):=dQ hz;exact k z _ _ (Ow.trans s3) (Ow.free hz) bV ((t.append t').up s3)
  ·cases e
 ·cases e
def z6(K:PySem.W.Frag)(m:List Z.D->Z.Res Z.D):Sp:=λ vs H Q _=>∃ds d,aG K H ds vs∧m ds=.ok d∧∀v H',aI H H'->Den K H' d v->Q v H'
theorem Kf{k:Nat}{g:Addr}{fd:FuncData}{ps:List Str}{x:Str}{m:List Z.D->Z.Res Z.D}{ar:Z.AF}{p1:Pos}(F:nE X.prog X.w X.K X.mg X.base tI k g fd ps (z6 X.K m))(hr:eM k X.A)(hg:Gl X x)(hm:X.mg x=some (.ref g))(hk:PySem.W.keepIn X.K (.ref g)=true)(hb:Binds X.K fd ps [])
  (ha:DA X (e :: es) ar) (hdb:(x==("__debug__" : Str))=false:=by decide +kernel) (he:starEach (e :: es) X.env=(false,eval e X.env) :: starEach es X.env:=by rfl) (hpl:(backTo pos (starEach es X.env)).any (·.1)=false:=by rfl) :
  DE X (.Call (.Name x p1) (e :: es) [] pos) (Z.aw m ar) :=
 PE.imp (I0 F hr hg hm hk hb .nil OO ha hdb he hpl) λ σ H Q ⟨ρ,d,r,e,k⟩=>by obtain⟨ds,ea,e⟩:=Z.Res.az e;refine⟨ρ,ds,r,ea,λ vs H1 s1 d1=>?_⟩;show z6 X.K m (vs++[]) H1 Q E0;rw[List.append_nil];exact⟨ds,d,d1,e,λ v H' s2 dv=>k v H' (s1.trans s2) dv⟩
end
end ZS
namespace ZS
open PySem PySem.Spec PyProof.Rows L2
structure D?(K:PySem.W.Frag)(J:It)(S:Hp->Prop)(ds:List Z.D):Prop where
 go:∀(i:Nat)(d:Z.D)(H1:Hp),S H1->ds[i]?=some d->J.go i H1
 Fq:∀(i:Nat)(d:Z.D)(H1 H2:Hp)(x:V),S H1->ds[i]?=some d->J.Fq i H1 x H2->aI H1 H2∧Den K H2 d x
 stop:∀(H1:Hp),S H1->J.stop ds.length H1
def X7(K:PySem.W.Frag)(f:Z.LF):TI:=λ σ H R=>∃ρ ds,RE K H σ ρ∧f ρ=.ok ds∧∀J H',aI H H'->D? K J (aI H') ds->R J H'
def X6(K:PySem.W.Frag)(f:Z.LF):TI:=λ σ H R=>∃ρ ds,RE K H σ ρ∧f ρ=.ok ds∧∀J H',aI H H'->D? K J (oG H') ds->R J H'
abbrev DI(X:Cx)(tg e:Expr)(f:Z.LF):Prop:=PI X tg e (X7 X.K f)
abbrev DJ(X:Cx)(tg e:Expr)(f:Z.LF):Prop:=PI X tg e (X6 X.K f)
section
variable {X:Cx}{tg e a b:Expr}{es:List Expr}{pos p:Pos}{f fa fb:Z.EF}
theorem PI.imp{t t':TI}(h:PI X tg e t)(k:∀σ H R,t' σ H R->t σ H R):PI X tg e t':=λ pins s σ H R I w=>h pins s σ H R I (k σ H R w)
theorem D?.imp{K:PySem.W.Frag}{J:It}{S S':Hp->Prop}{ds:List Z.D}(h:D? K J S ds)(k:∀H,S' H->S H):D? K J S' ds :=
 ⟨λ i d H1 s=>h.go i d H1 (k _ s),λ i d H1 H2 x s=>h.Fq i d H1 H2 x (k _ s),λ H1 s=>h.stop H1 (k _ s)⟩
theorem wD{g:Z.LF}(h:DJ X tg e g):DI X tg e g:=PI.imp h λ σ H R ⟨ρ,ds,r,e,k⟩=>⟨ρ,ds,r,e,λ J H' s z=>k J H' s (z.imp λ _ q=>w4 q)⟩
theorem JK{K:PySem.W.Frag}{H:Hp}{q:Addr}{vs:List V}{ds:List Z.D}(h:oH K H q vs)(t:aG K H ds vs):D? K (XJ K q) (oG H) ds where
 go:=λ i d H1 s hi=>by obtain⟨v,h1,_⟩:=t.get hi;exact⟨vs,v,iR s h,h1⟩
 Fq:=λ i d H1 H2 x s hi y=>by obtain⟨e,y⟩:=y;obtain⟨v,h1,h2⟩:=t.get hi;have:=y vs (iR s h);rw[h1]at this;cases this;subst e;exact⟨aI.refl _,h2.ups s⟩
 stop:=λ H1 s=>⟨vs,iR s h,by rw[t.length];exact Nat.le_refl _⟩
theorem JM{K:PySem.W.Frag}{H:Hp}{q:Addr}{vs:List V}{ds:List Z.D}{S:Hp->Prop}(h:∀H1,S H1->i? K H1 q vs)(t:∀H1,S H1->aG K H1 ds vs)(t0:aG K H ds vs):D? K (XN K q) S ds where
 go:=λ i d H1 s hi=>by obtain⟨v,h1,_⟩:=t0.get hi;exact⟨vs,v,h H1 s,h1⟩
 Fq:=λ i d H1 H2 x s hi y=>by obtain⟨e,y⟩:=y;obtain⟨v,h1,h2⟩:=(t H1 s).get hi;have:=y vs (h H1 s);rw[h1]at this;cases this;subst e;exact⟨aI.refl _,h2⟩
 stop:=λ H1 s=>⟨vs,h H1 s,by rw[t0.length];exact Nat.le_refl _⟩
theorem ints_get(lo:Int)(n i:Nat)(d:Z.D)(h:(Z.dq lo n)[i]?=some d):i < n∧d=.int (lo+i):=by
 unfold Z.dq at h;rw[List.getElem?_map]at h;cases q:(List.range n)[i]? with
 | none=>rw[q]at h;cases h
 | some j =>rw[q]at h;cases h;obtain⟨h1,h2⟩:=List.getElem?_eq_some_iff.mp q;rw[List.length_range]at h1;rw[List.getElem_range]at h2;subst h2;exact⟨h1,rfl⟩
theorem DD{K:PySem.W.Frag}{S:Hp->Prop}(lo:Int)(n:Nat):D? K (Lj lo n) S (Z.dq lo n) where
 go:=λ i d H1 s hi=>(ints_get lo n i d hi).1
 Fq:=λ i d H1 H2 x s hi y=>by obtain⟨e,y⟩:=y;obtain⟨_,rfl⟩:=ints_get lo n i d hi;subst e;rw[y];exact⟨aI.refl _,c7⟩
 stop:=λ H1 s=>by show n≤(Z.dq lo n).length;unfold Z.dq;rw[List.length_map,List.length_range];exact Nat.le_refl _
theorem Eb{P:Program}{w:World}{K:PySem.W.Frag}{tg:Expr}(it:Addr)(lo:Int)(n:Nat):Turn P w K tg (Lj lo n) [it] it (λ i h=>IsLongIter h it (lo+(i:Nat)*1) ((n:Int)-(i:Nat)) 1) where
 mem:=by simp
 obj:=λ i h st b hb=>by
  have e:b=it:=by simpa using hb
  subst e;exact⟨_,st,λ v z=>by have z':Data.fields _=Data.cell v:=z;cases z'⟩
 keep:=λ i h h' st k=>k it (by simp) _ st
 item:=by intro X hP hw hK hc i pins s σ H E I hf st hg;subst hP hw hK;obtain⟨f0,f1,f2,f3,f4,f5⟩:=hf it (by simp);have W:=Walks.longrange (prog:=X.prog) (w:=X.w) (I.ok.hd hc) it lo 1 n;refine W.item i s _ _ hg st λ v h' tk hv Ah kk=>?_;obtain⟨t,rfl⟩:=hv;have I1:Inv X pins σ H { s with heap:=h',toks:=tk }:=I.turned (λ b o hb e=>kk b o (by simpa using hb) e) f0 f1 f3 f4 f5;refine⟨_,rfl,A! (s:={ s with heap:=h',toks:=tk }) (n := "longrange_iterator") Ah rfl rfl (by decide) ⟨.int (lo+i),H,I1,⟨t,?_⟩,⟨rfl,rfl⟩,Ah,λ b hb=>(hf b hb).1⟩⟩;rw[Int.mul_one]
 done:=by intro X hP hw hK hc i pins s σ H E I hf st hg;subst hP hw hK;obtain⟨f0,f1,f2,f3,f4,f5⟩:=hf it (by simp);exact wpAny_pyNext_long_end (I.ok.hd hc) st (by have:n≤i:=hg;lia) λ h' eb=>⟨rfl,I.turned (t':=s.toks) (λ b o hb e=>eb b o hb e) f0 f1 f3 f4 f5⟩
 self:=λ _ _ _ _ _ st h=>wpAny_pyIter_longiter st h
theorem range_any{pins:List (Addr×Obj)}{σ:St}{H:Hp}{s:Shared}{R:It->Hp->Prop}{E:Value->Shared->Prop}{lo hi:Int}{t u v:Tok}{tk:Nat}(I:Inv X pins σ H s)
  (q:R (Lj lo (hi-lo).toNat) H):wpAny (model X.prog X.w) X.A (pyIter (.ref s.heap.objs.size)) (S5 X pins σ tg R) E { s with heap:=s.heap.push { cls:=.type "range",data:=.fields #[.int lo t,.int hi u,.int 1 v] },toks:=tk }:=by
 have I1:Inv X pins σ H { s with heap:=s.heap.push { cls:=.type "range",data:=.fields #[.int lo t,.int hi u,.int 1 v] },toks:=tk }:=I.kept λ b o e=>Heap.get?_push_of_some _ e;have e1:lo+((0:Nat):Int)*1=lo:=by simp
 have e2:(((hi-lo).toNat:Nat):Int)-((0:Nat):Int)=Builtin.Range.rangeSize lo hi 1:=by rw[rangeSize_one];split<;>lia
 cases hs:Builtin.Range.small lo hi 1 with
 | true =>
  refine wpAny_pyIter_range (IsRange.new ..) hs ?_;refine⟨(s.heap.push { cls:=.type "range",data:=.fields #[.int lo t,.int hi u,.int 1 v] }).objs.size,[(s.heap.push { cls:=.type "range",data:=.fields #[.int lo t,.int hi u,.int 1 v] }).objs.size],_,_,H,rfl,
   I1.kept (t':=tk) λ b o e=>Heap.get?_push_of_some _ e,BO _ lo (hi-lo).toNat,?_,λ b hb=>?_,q⟩
  ·show IsRangeIter _ _ (lo+((0:Nat):Int)*1) ((((hi-lo).toNat:Nat):Int)-((0:Nat):Int)) 1;rw[e1,e2];exact Heap.get?_push_size _ rfl
  ·have e:b=(s.heap.push { cls:=.type "range",data:=.fields #[.int lo t,.int hi u,.int 1 v] }).objs.size:=by simpa using hb
   subst e;exact I1.xr (Nat.le_refl _) (I1.dW.fresh (Nat.le_refl _))
 | false =>
  refine wpAny_pyIter_longrange (IsRange.new ..) hs ?_;refine⟨(s.heap.push { cls:=.type "range",data:=.fields #[.int lo t,.int hi u,.int 1 v] }).objs.size,[(s.heap.push { cls:=.type "range",data:=.fields #[.int lo t,.int hi u,.int 1 v] }).objs.size],_,_,H,rfl,
   I1.kept (t':=tk) λ b o e=>Heap.get?_push_of_some _ e,Eb _ lo (hi-lo).toNat,?_,λ b hb=>?_,q⟩
  ·show IsLongIter _ _ (lo+((0:Nat):Int)*1) ((((hi-lo).toNat:Nat):Int)-((0:Nat):Int)) 1;rw[e1,e2];exact Heap.get?_push_size _ rfl
  ·have e:b=(s.heap.push { cls:=.type "range",data:=.fields #[.int lo t,.int hi u,.int 1 v] }).objs.size:=by simpa using hb
   subst e;exact I1.xr (Nat.le_refl _) (I1.dW.fresh (Nat.le_refl _))
def Q?(ta:TA):TI:=λ σ H R=>ta σ H λ vs H1=>∃j:Int,vs=[.int j]∧R (Lj 0 j.toNat) H1
def Q!(ta:TA):TI:=λ σ H R=>ta σ H λ vs H1=>∃i j:Int,vs=[.int i,.int j]∧R (Lj i (j-i).toNat) H1
theorem IX{a:Expr}{ta:TA}{p pos:Pos}(hg:Gl X "range")(hm:X.mg "range" = none)(ha:PA X [a] ta)(hs:starEach [a] X.env=[(false,eval a X.env)]:=by rfl):PI X tg (.Call (.Name "range" p) [a] [] pos) (Q? ta):=by
 intro pins s σ H R I h;refine Call_ (mw I hg hm boot_range (PyProof.Rows.callWith_type1 (d! (ha pos pins s σ H _ I h) λ us s1 ⟨vs,H1,I1,r1,q1⟩=>?_) hs rfl));obtain⟨j,e,q⟩:=q1;subst e;cases r1 with
 | cons r rr =>cases rr;obtain⟨t,rfl⟩:=r;exact call_range_1 (range_any I1 (by simpa using q))
theorem IW{a b:Expr}{ta:TA}{p pos:Pos}(hg:Gl X "range")(hm:X.mg "range" = none)(ha:PA X [a,b] ta)(hs:starEach [a,b] X.env=[(false,eval a X.env),(false,eval b X.env)]:=by rfl)(hs2:starEach [b] X.env=[(false,eval b X.env)]:=by rfl):
  PI X tg (.Call (.Name "range" p) [a,b] [] pos) (Q! ta):=by
 intro pins s σ H R I h;refine Call_ (mw I hg hm boot_range (PyProof.Rows.callWith_type1 (d! (ha pos pins s σ H _ I h) λ us s1 ⟨vs,H1,I1,r1,q1⟩=>?_) (by rw[hs,hs2]) (by rw[hs2];rfl)));obtain⟨i,j,e,q⟩:=q1;subst e;cases r1 with
 | cons r rr =>
  cases rr with
  | cons r' rr =>cases rr;obtain⟨t,rfl⟩:=r;obtain⟨t',rfl⟩:=r';exact call_range_2 (range_any I1 q)
theorem cX(hg:Gl X "range")(hm:X.mg "range" = none)(ha:DE X a fa)(hs:starEach [a] X.env=[(false,eval a X.env)]:=by rfl)(hs1:starEach (a :: []) X.env=(false,eval a X.env) :: starEach [] X.env:=by rfl):DJ X tg (.Call (.Name "range" p) [a] [] pos) (Z.eZ fa) :=
 PI.imp (IX hg hm (b9 ha dJ hs1) hs) λ σ H R ⟨ρ,ds,r,e,k⟩=>by
  obtain⟨x,ea,e⟩:=Z.Res.az e;refine⟨ρ,x,r,ea,λ v H1 s1 d1=>?_⟩;split at e
  ·rename_i j;cases e;simp only[Den]at d1;exact⟨j,by rw[d1],k _ H1 s1 (DD 0 j.toNat)⟩
  ·cases e
theorem rK(hg : Gl X "range")(hm : X.mg "range" = none)(ha : DE X a fa)(hb : DE X b fb)(hs : starEach [a, b] X.env = [(false, eval a X.env), (false, eval b X.env)] := by rfl)(hs2 : starEach [b] X.env = [(false, eval b X.env)] := by rfl)
  (h1:starEach (a :: [b]) X.env=(false,eval a X.env) :: starEach [b] X.env:=by rfl) (h2:starEach (b :: []) X.env=(false,eval b X.env) :: starEach [] X.env:=by rfl):DJ X tg (.Call (.Name "range" p) [a,b] [] pos) (Z.v7 fa fb) :=
 PI.imp (IW hg hm (b9 ha (b9 hb dJ h2) h1) hs hs2) λ σ H R ⟨ρ,ds,r,e,k⟩=>by
  obtain⟨x,ea,e⟩:=Z.Res.az e;obtain⟨y,eb,e⟩:=Z.Res.az e;obtain⟨i,j,rfl,rfl,rfl⟩:∃i j,x=.int i∧y=.int j∧ds=Z.dq i (j-i).toNat:=by
   split at e
   ·cases e;exact⟨_,_,rfl,rfl,rfl⟩
   ·cases e
  refine⟨ρ,_,r,ea,λ v H1 s1 d1=>⟨ρ,_,r.up s1,eb,λ u H2 s2 d2=>?_⟩⟩;simp only[Den]at d1 d2;exact⟨i,j,by rw[d1,d2],k _ H2 (s1.trans s2) (DD i (j-i).toNat)⟩
def XM(z:Str):It:=⟨λ i _=>i < z.cps.size,λ i H x H'=>H'=H∧∃c,z.cps[i]?=some c∧x=.str ⟨#[c]⟩,λ i _=>i=z.cps.size⟩
theorem FJ{P:Program}{w:World}{K:PySem.W.Frag}(z:Str)(it:Addr)(n:String)(hn:["enumerate", "zip", "dict_itemiterator", "dict_reverseitemiterator", "odict_iterator", "itertools.zip_longest", "itertools.pairwise"].contains n=false)(t:Tok)
  (W:∀A:Around,A.handled=none->Walks P w A it [it] [it] z.cps.size (SignAt z) (λ i h=>h.IsStrIter it n z t i)) (self:∀(A:Around)(i:Nat)(s:Shared)(Q:Value->Shared->Prop)(E:Value->Shared->Prop),s.heap.IsStrIter it n z t i->Q (.ref it) s->wpAny (model P w) A (pyIter (.ref it)) Q E s) :
  Turn P w K tg (XM z) [it] it (λ i h=>h.IsStrIter it n z t i) where
 mem:=by simp
 obj:=λ i h st b hb=>by
  have e:b=it:=by simpa using hb
  subst e;obtain⟨o,e,c,d⟩:=st;exact⟨o,e,λ v z=>by rw[d]at z;cases z⟩
 keep:=λ i h h' st k=>by obtain⟨o,e,c,d⟩:=st;exact⟨o,k it (by simp) o e,c,d⟩
 item:=by intro X hP hw hK hc i pins s σ H E I hf st hg;subst hP hw hK;obtain⟨f0,f1,f2,f3,f4,f5⟩:=hf it (by simp);refine(W X.A (I.ok.hd hc)).item i s _ _ hg st λ v h' tk hv Ah kk=>?_;obtain⟨c,u,SH,rfl⟩:=hv;have I1:Inv X pins σ H { s with heap:=h',toks:=tk }:=I.turned (λ b o hb e=>kk b o (by simpa using hb) e) f0 f1 f3 f4 f5;obtain⟨o,e,c',d⟩:=id Ah;exact⟨_,rfl,A! (s:={ s with heap:=h',toks:=tk }) e c' d hn ⟨.str ⟨#[c]⟩,H,I1,⟨u,rfl⟩,⟨rfl,c,SH,rfl⟩,Ah,λ b hb=>(hf b hb).1⟩⟩
 done:=by intro X hP hw hK hc i pins s σ H E I hf st hg;subst hP hw hK;obtain⟨f0,f1,f2,f3,f4,f5⟩:=hf it (by simp);have Zc:i=z.cps.size:=hg;subst Zc;exact(W X.A (I.ok.hd hc)).done s _ _ st λ h' tk kk=>⟨rfl,I.turned (λ b o hb e=>kk b o (by simpa using hb) e) f0 f1 f3 f4 f5⟩
 self:=self
theorem JL{K:PySem.W.Frag}{S:Hp->Prop}(cs:List Nat):D? K (XM ⟨cs.toArray⟩) S (cs.map λ c=>.str [c]) where
 go:=λ i d H1 s hi=>by show i < cs.toArray.size;obtain⟨h1,_⟩:=List.getElem?_eq_some_iff.mp hi;simpa using h1
 Fq:=λ i d H1 H2 x s hi y=>by
  obtain⟨e,c,hc,rfl⟩:=y;have Fy:cs[i]?=some c:=by simpa using hc
  rw[List.getElem?_map,Fy]at hi;cases hi;subst e;exact⟨aI.refl _,oY (cs:=[c])⟩
 stop:=λ H1 s=>by show(cs.map λ c=>Z.D.str [c]).length=cs.toArray.size;simp
theorem FW{pins : List (Addr × Obj)}{σ : St}{H : Hp}{s : Shared}{R : It -> Hp -> Prop}{E : Value -> Shared -> Prop}{d : Z.D}{v : V}{u : Value}{ds : List Z.D}{S : Hp -> Prop}(I : Inv X pins σ H s)(rv : RelV v u)(hd : bQ X.K H d v)(hi : Z.ri d = .ok ds)
  (hS:∀H1,S H1->oG H H1) (hL:∀es q vs,d=.lst es->v=.ref q->i? X.K H q vs->∀H1,S H1->i? X.K H1 q vs)
  (k:∀J,D? X.K J S ds->R J H):wpAny (model X.prog X.w) X.A (pyIter u) (S5 X pins σ tg R) E s:=by
 unfold Z.ri at hi;split at hi
 ·cases hi;obtain⟨q,vs,rfl,hq,t⟩:=hd.tup;cases rv;obtain⟨aY,r',pl,hz⟩:=I.tuple hq;refine wpAny_pyIter_tuple (show s.heap.IsTuple q aY.toArray from pl) ?_;refine⟨s.heap.objs.size,[s.heap.objs.size],_,_,H,rfl,I.kept (t':=s.toks) λ b o e=>Heap.get?_push_of_some _ e,BN q _,⟨_,Heap.get?_push_size _ rfl,rfl,rfl⟩,λ b hb=>?_,k _ ((JK hq t).imp hS)⟩;have e:b=s.heap.objs.size:=by simpa using hb
  subst e;exact I.xr (Nat.le_refl _) (I.dW.fresh (Nat.le_refl _))
 ·cases hi;obtain⟨q,vs,rfl,hq,t⟩:=hd.lst;cases rv;obtain⟨aY,r',pl,hz⟩:=I.list hq;refine wpAny_pyIter_list pl.isList ?_;refine⟨s.heap.objs.size,[s.heap.objs.size],_,_,H,rfl,I.kept (t':=s.toks) λ b o e=>Heap.get?_push_of_some _ e,Ec q _,⟨_,Heap.get?_push_size _ rfl,rfl,rfl⟩,λ b hb=>?_,
   k _ (JM (λ H1 s1=>hL _ q vs rfl rfl hq H1 s1) (λ H1 s1=>t.ups (hS H1 s1)) t)⟩
  have e:b=s.heap.objs.size:=by simpa using hb
  subst e;exact I.xr (Nat.le_refl _) (I.dW.fresh (Nat.le_refl _))
 ·cases hi;rename_i cs;rw[hd.str]at rv;obtain⟨t,rfl⟩:=rv;have fin:∀(n:String) (hn:["enumerate", "zip", "dict_itemiterator", "dict_reverseitemiterator", "odict_iterator", "itertools.zip_longest", "itertools.pairwise"].contains n=false)
    (W:∀A:Around,A.handled=none->Walks X.prog X.w A s.heap.objs.size [s.heap.objs.size] [s.heap.objs.size] (⟨cs.toArray⟩:Str).cps.size (SignAt ⟨cs.toArray⟩) (λ i h=>h.IsStrIter s.heap.objs.size n ⟨cs.toArray⟩ t i))
    (self:∀(A:Around)(i:Nat)(s':Shared)(Q:Value->Shared->Prop)(E:Value->Shared->Prop),s'.heap.IsStrIter s.heap.objs.size n ⟨cs.toArray⟩ t i->Q (.ref s.heap.objs.size) s'->wpAny (model X.prog X.w) A (pyIter (.ref s.heap.objs.size)) Q E s'),
    S5 X pins σ tg R (.ref s.heap.objs.size) { s with heap:=s.heap.push { cls:=.type n,data:=.fields #[.str ⟨cs.toArray⟩ t,.int 0 0] } }:=by
   intro n hn W self;refine⟨s.heap.objs.size,[s.heap.objs.size],_,_,H,rfl,I.kept (t':=s.toks) λ b o e=>Heap.get?_push_of_some _ e,FJ ⟨cs.toArray⟩ _ n hn t W self,⟨_,Heap.get?_push_size _ rfl,rfl,rfl⟩,λ b hb=>?_,k _ (JL cs)⟩;have e:b=s.heap.objs.size:=by simpa using hb
   subst e;exact I.xr (Nat.le_refl _) (I.dW.fresh (Nat.le_refl _))
  cases ha:(⟨cs.toArray⟩:Str).cps.all (· < 128)
  ·exact wpAny_pyIter_wide ha (fin "str_iterator" (by decide) (λ A' hA=>Walks.strWide hA _ _ t) λ _ _ _ _ _ st hQ=>wpAny_pyIter_striter_wide st hQ)
  ·exact wpAny_pyIter_ascii ha (fin "str_ascii_iterator" (by decide) (λ A' hA=>Walks.strAscii hA _ _ t) λ _ _ _ _ _ st hQ=>wpAny_pyIter_striter_ascii st hQ)
 ·cases hi
theorem eu(ha:DW X a fa):DI X tg a (Z.eY fa):=by intro pins s σ H R I w;obtain⟨ρ,ds,r,e,k⟩:=w;obtain⟨d,ea,e⟩:=Z.Res.az e;refine d! (ha pins s σ H (λ v H1=>aI H H1∧bQ X.K H1 d v) I ⟨ρ,d,r,ea,λ v H1 s1 d1=>⟨s1,d1⟩⟩) ?_;rintro u s1 ⟨v,H1,I1,rv,sm,hd⟩;exact FW (S:=aI H1) I1 rv hd e (λ _ q=>w4 q) (λ _ _ _ _ _ hq H2 s2=>s2.seq hq) λ J z=>k J H1 sm z
theorem jl(ha:DE X a fa):DJ X tg a (Z.eY fa):=by intro pins s σ H R I w;obtain⟨ρ,ds,r,e,k⟩:=w;obtain⟨d,ea,e⟩:=Z.Res.az e;refine d! (ha pins s σ H (λ v H1=>aI H H1∧Den X.K H1 d v) I ⟨ρ,d,r,ea,λ v H1 s1 d1=>⟨s1,d1⟩⟩) ?_;rintro u s1 ⟨v,H1,I1,rv,sm,hd⟩;refine FW (S:=oG H1) I1 rv (.inl hd) e (λ _ q=>q) (λ es q vs e1 e2 hq H2 s2=>?_) λ J z=>k J H1 sm z;subst e1;simp only[Den]at hd;obtain⟨q',Io,e3,hz,_⟩:=hd;rw[e2]at e3;cases e3;rw[I1.rf hq hz.sq];exact(hz.mono s2).sq
def nz(H0:Hp)(σ:St)(ρ:Z.Env):Prop:=(∀(i j:Nat)(ks ls:List (List Int))(a:Addr),ρ[i]?=some (some (.uK ks))->ρ[j]?=some (some (.uK ls))->σ[i]?=some (some (.ref a))->σ[j]?=some (some (.ref a))->i=j) ∧
 ∀(i:Nat)(ks:List (List Int))(q:Addr),ρ[i]?=some (some (.uK ks))->σ[i]?=some (some (.ref q))->H0 q=none
theorem nz.non{H0:Hp}{σ:St}{ρ:Z.Env}(h:∀(i:Nat)(ks:List (List Int)),ρ[i]?≠some (some (.uK ks))):nz H0 σ ρ:=⟨λ i _ ks _ _ e=>absurd e (h i ks),λ i ks _ e=>absurd e (h i ks)⟩
structure RS(K:PySem.W.Frag)(H0 H:Hp)(σ:St)(ρ:Z.Env):Prop where
 same:aI H0 H
 re:RE K H σ ρ
 fresh:∀(i:Nat)(xs:List Z.D)(q:Addr),ρ[i]?=some (some (.own xs))->σ[i]?=some (some (.ref q))->H0 q=none
 xE:∀(i:Nat)(xs:List Z.D),ρ[i]?=some (some (.bor xs))->∃v,σ[i]?=some (some v)∧bQ K H0 (.lst xs) v
 uK:nz H0 σ ρ
def SR(K:PySem.W.Frag)(H0 H:Hp)(D:Ends):Z.Fl->Prop
 | .nx ρ'=>∀σ' H',oG H H'->RS K H0 H' σ' ρ'->D.nx σ' H'
 | .rt d=>∀v H',aI H0 H'->Den K H' d v->D.rt v H'
 | .bk ρ'=>∀σ' H',oG H H'->RS K H0 H' σ' ρ'->D.bk σ' H'
 | .ct ρ'=>∀σ' H',oG H H'->RS K H0 H' σ' ρ'->D.ct σ' H'
def tS(K:PySem.W.Frag)(H0:Hp)(g:Z.SF):TS:=λ D σ H=>∃ρ fl,RS K H0 H σ ρ∧g ρ=.ok fl∧SR K H0 H D fl
abbrev DS(X:Cx)(H0:Hp)(st:Stmt)(g:Z.SF):Prop:=PS X st (tS X.K H0 g)
abbrev BI(X:Cx)(H0:Hp)(st:List Stmt)(g:Z.SF):Prop:=yp X st (tS X.K H0 g)
theorem PS.imp{st:Stmt}{t t':TS}(h:PS X st t)(k:∀D σ H,t' D σ H->t D σ H):PS X st t':=λ pins s σ H D I w=>h pins s σ H D I (k D σ H w)
theorem yp.imp{st:List Stmt}{t t':TS}(h:yp X st t)(k:∀D σ H,t' D σ H->t D σ H):yp X st t':=λ pins s σ H D I w=>h pins s σ H D I (k D σ H w)
theorem RS.up{K:PySem.W.Frag}{H0 H H':Hp}{σ:St}{ρ:Z.Env}(h:RS K H0 H σ ρ)(e:aI H H'):RS K H0 H' σ ρ:=⟨h.same.trans e,h.re.up e,h.fresh,h.xE,h.uK⟩
theorem SR.up{K:PySem.W.Frag}{H0 H H1:Hp}{D:Ends}{fl:Z.Fl}(h:SR K H0 H D fl)(e:oG H H1):SR K H0 H1 D fl:=by
 cases fl with
 | nx ρ'=>exact λ σ' H' s r=>h σ' H' (e.trans s) r
 | rt d=>exact h
 | bk ρ'=>exact λ σ' H' s r=>h σ' H' (e.trans s) r
 | ct ρ'=>exact λ σ' H' s r=>h σ' H' (e.trans s) r
theorem bL{α:Type}{l:List (Option α)}{i j:Nat}{x:Option α}{y:α}(h:(l.set i x)[j]?=some (some y)):(i=j∧i < l.length∧x=some y)∨(i≠j∧l[j]?=some (some y)):=by
 by_cases K9:i=j
 ·subst K9;by_cases hl:i < l.length
  ·rw[List.getElem?_set_self hl]at h;exact .inl ⟨rfl,hl,Option.some.inj h⟩
  ·rw[List.getElem?_eq_none (by simpa using hl)]at h;cases h
 ·rw[List.getElem?_set_ne K9]at h;exact .inr ⟨K9,h⟩
theorem nz.set{H0:Hp}{σ:St}{ρ:Z.Env}{i:Nat}{v:V}{l:Z.L}(h:nz H0 σ ρ)(n:∀ks,l≠.uK ks):nz H0 (σ.set i (some v)) (ρ.set i (some l)):=by
 have get:∀(j:Nat)(ks:List (List Int)),(ρ.set i (some l))[j]?=some (some (.uK ks))->ρ[j]?=some (some (.uK ks))∧(σ.set i (some v))[j]?=σ[j]?:=λ j ks e=>by
  rcases bL e with⟨_,_,e⟩ | ⟨hj,e⟩
  ·exact absurd (Option.some.inj e) (n ks)
  ·exact⟨e,List.getElem?_set_ne hj⟩
 exact⟨λ j k ks ls a e1 e2 e3 e4=>h.1 j k ks ls a (get j ks e1).1 (get k ls e2).1 (by rw[<-(get j ks e1).2];exact e3) (by rw[<-(get k ls e2).2];exact e4),λ j ks q e1 e2=>h.2 j ks q (get j ks e1).1 (by rw[<-(get j ks e1).2];exact e2)⟩
theorem nz.Oi{H0:Hp}{σ:St}{ρ:Z.Env}{i:Nat}{l:Z.L}(h:nz H0 σ ρ)(n:∀ks,l≠.uK ks):nz H0 σ (ρ.set i (some l)):=by
 have get:∀(j:Nat)(ks:List (List Int)),(ρ.set i (some l))[j]?=some (some (.uK ks))->ρ[j]?=some (some (.uK ks)):=λ j ks e=>by
  rcases bL e with⟨_,_,e⟩ | ⟨hj,e⟩
  ·exact absurd (Option.some.inj e) (n ks)
  ·exact e
 exact⟨λ j k ks ls a e1 e2 e3 e4=>h.1 j k ks ls a (get j ks e1) (get k ls e2) e3 e4,λ j ks q e1 e2=>h.2 j ks q (get j ks e1) e2⟩
theorem RS.IJ{K : PySem.W.Frag}{H0 H : Hp}{σ : St}{ρ : Z.Env}{i : Nat}{d : Z.D}{v : V}(h : RS K H0 H σ ρ)(hd : Den K H d v): RS K H0 H (σ.set i (some v)) (ρ.set i (some (.val d))) := by
 have getσ:∀(j:Nat),i≠j->(σ.set i (some v))[j]?=σ[j]?:=λ j hj=>List.getElem?_set_ne hj;refine⟨h.same,⟨by simp[h.re.len],λ j l e=>?_,λ j k xs ys q e1 e2 e3 e4=>?_⟩,λ j xs q e1 e2=>?_,λ j xs e1=>?_,h.uK.set λ _ z=>nomatch z⟩
 ·rcases bL e with⟨rfl,hl,e⟩ | ⟨hj,e⟩
  ·cases e;exact⟨v,List.getElem?_set_self (by rw[<-h.re.len];exact hl),hd⟩
  ·rw[getσ j hj];exact h.re.get j l e
 ·rcases bL e1 with⟨_,_,e⟩ | ⟨hj,e1⟩
  ·cases e
  ·rcases bL e2 with⟨_,_,e⟩ | ⟨hk,e2⟩
   ·cases e
   ·rw[getσ j hj]at e3;rw[getσ k hk]at e4;exact h.re.sep j k xs ys q e1 e2 e3 e4
 ·rcases bL e1 with⟨_,_,e⟩ | ⟨hj,e1⟩
  ·cases e
  ·rw[getσ j hj]at e2;exact h.fresh j xs q e1 e2
 ·rcases bL e1 with⟨_,_,e⟩ | ⟨hj,e1⟩
  ·cases e
  ·rw[getσ j hj];exact h.xE j xs e1
theorem RS.Oj{K : PySem.W.Frag}{H0 H : Hp}{σ : St}{ρ : Z.Env}{i : Nat}{ds : List Z.D}{q : Addr}{vs : List V}(h : RS K H0 H σ ρ)(hq : H q = some (.lst vs))(t : aG K H ds vs)(h0 : H0 q = none)
  (nq:∀(j:Nat)(xs:List Z.D),j≠i->ρ[j]?=some (some (.own xs))->σ[j]?≠some (some (.ref q))):RS K H0 H (σ.set i (some (.ref q))) (ρ.set i (some (.own ds))):=by
 have getσ:∀(j:Nat),i≠j->(σ.set i (some (V.ref q)))[j]?=σ[j]?:=λ j hj=>List.getElem?_set_ne hj;refine⟨h.same,⟨by simp[h.re.len],λ j l e=>?_,λ j k xs ys p e1 e2 e3 e4=>?_⟩,λ j xs p e1 e2=>?_,λ j xs e1=>?_,h.uK.set λ _ z=>nomatch z⟩
 ·rcases bL e with⟨rfl,hl,e⟩ | ⟨hj,e⟩
  ·cases e;exact⟨.ref q,List.getElem?_set_self (by rw[<-h.re.len];exact hl),q,vs,rfl,hq,t⟩
  ·rw[getσ j hj];exact h.re.get j l e
 ·rcases bL e1 with⟨rfl,hl,_⟩ | ⟨hj,e1⟩
  ·rcases bL e2 with⟨rfl,_,_⟩ | ⟨hk,e2⟩
   ·rfl
   ·rw[List.getElem?_set_self (by rw[<-h.re.len];exact hl)]at e3;cases e3;rw[getσ k hk]at e4;exact absurd e4 (nq k ys (Ne.symm hk) e2)
  ·rcases bL e2 with⟨rfl,hl,_⟩ | ⟨hk,e2⟩
   ·rw[List.getElem?_set_self (by rw[<-h.re.len];exact hl)]at e4;cases e4;rw[getσ j hj]at e3;exact absurd e3 (nq j xs (Ne.symm hj) e1)
   ·rw[getσ j hj]at e3;rw[getσ k hk]at e4;exact h.re.sep j k xs ys p e1 e2 e3 e4
 ·rcases bL e1 with⟨rfl,hl,_⟩ | ⟨hj,e1⟩
  ·rw[List.getElem?_set_self (by rw[<-h.re.len];exact hl)]at e2;cases e2;exact h0
  ·rw[getσ j hj]at e2;exact h.fresh j xs p e1 e2
 ·rcases bL e1 with⟨_,_,e⟩ | ⟨hj,e1⟩
  ·cases e
  ·rw[getσ j hj];exact h.xE j xs e1
theorem RS.chg{K : PySem.W.Frag}{H0 H : Hp}{σ : St}{ρ : Z.Env}{i : Nat}{xs ds : List Z.D}{q : Addr}{us vs : List V}(h : RS K H0 H σ ρ)(ei : ρ[i]? = some (some (.own xs)))(si : σ[i]? = some (some (.ref q)))(hq : H q = some (.lst us))(t : aG K H ds vs):
  RS K H0 (upd H q (.lst vs)) σ (ρ.set i (some (.own ds))):=by
 have st:oG H (upd H q (.lst vs)):=kM hq;have h0:H0 q=none:=h.fresh i xs q ei si;have hs:aI H0 (upd H q (.lst vs)):=λ b u e=>by rw[a! (cy e h0)];exact h.same b u e
 refine⟨hs,⟨by simp[h.re.len],λ j l e=>?_,λ j k Il ys p e1 e2 e3 e4=>?_⟩,λ j Il p e1 e2=>?_,λ j Il e1=>?_,h.uK.Oi λ _ z=>nomatch z⟩
 ·rcases bL e with⟨rfl,hl,e⟩ | ⟨hj,e⟩
  ·cases e;exact⟨.ref q,si,q,vs,rfl,bV,t.ups st⟩
  ·obtain⟨v,e1,r⟩:=h.re.get j l e;refine⟨v,e1,?_⟩;cases l with
   | val d=>exact Den.ups (show Den K H d v from r) st
   | own zs =>
    obtain⟨q',ws,rfl,rk,t'⟩:=r;have:q'≠q:=by rintro rfl;exact hj (h.re.sep i j xs zs q' ei e si e1)
    exact⟨q',ws,rfl,by rw[a! this];exact rk,t'.ups st⟩
   | bor zs =>obtain⟨v',e2,r2⟩:=h.xE j zs e;rw[e1]at e2;cases e2;exact r2.up hs
   | uK ks =>
    obtain⟨q',as,rfl,rk,t'⟩:=r;have:q'≠q:=by rintro rfl;rw[hq]at rk;cases rk
    exact⟨q',as,rfl,by rw[a! this];exact rk,t'.ups st⟩
   | Hm ks =>obtain⟨q',o',as,rfl,rk,t'⟩:=r;exact⟨q',o',as,rfl,st.i! _ _ _ rk,t'.ups st⟩
   | PJ ps =>obtain⟨q',o',rfl,rk⟩:=r;exact⟨q',o',rfl,st.i! _ _ _ rk⟩
 ·have old:∀{j:Nat}{zs:List Z.D},(ρ.set i (some (Z.L.own ds)))[j]?=some (some (.own zs))->∃XO,ρ[j]?=some (some (.own XO)):=λ {j zs} e=>by
   rcases bL e with⟨rfl,_,_⟩ | ⟨_,e⟩
   ·exact⟨xs,ei⟩
   ·exact⟨zs,e⟩
  obtain⟨_,o1⟩:=old e1;obtain⟨_,o2⟩:=old e2;exact h.re.sep j k _ _ p o1 o2 e3 e4
 ·rcases bL e1 with⟨rfl,_,_⟩ | ⟨_,e1⟩
  ·exact h.fresh i xs p ei e2
  ·exact h.fresh j Il p e1 e2
 ·rcases bL e1 with⟨_,_,e⟩ | ⟨_,e1⟩
  ·cases e
  ·exact h.xE j Il e1
theorem RS.i!{K : PySem.W.Frag}{H0 H : Hp}{σ : St}{ρ : Z.Env}{i : Nat}{xs : List Z.D}{q : Addr}{us : List V}{o : Obj}(h : RS K H0 H σ ρ)(ei : ρ[i]? = some (some (.own xs)))(si : σ[i]? = some (some (.ref q)))(hq : H q = some (.lst us))(t : aG K H xs us):
  RS K H0 (upd H q (.i! o (.lst us))) σ (ρ.set i (some (.val (.lst xs)))):=by
 have st:oG H (upd H q (.i! o (.lst us))):=kM hq;have h0:H0 q=none:=h.fresh i xs q ei si;have hs:aI H0 (upd H q (.i! o (.lst us))):=λ b u e=>by rw[a! (cy e h0)];exact h.same b u e
 refine⟨hs,⟨by simp[h.re.len],λ j l e=>?_,λ j k Il ys p e1 e2 e3 e4=>?_⟩,λ j Il p e1 e2=>?_,λ j Il e1=>?_,h.uK.Oi λ _ z=>nomatch z⟩
 ·rcases bL e with⟨rfl,hl,e⟩ | ⟨hj,e⟩
  ·cases e;exact⟨.ref q,si,zu (.inl ⟨o,bV⟩) (t.ups st)⟩
  ·obtain⟨v,e1,r⟩:=h.re.get j l e;refine⟨v,e1,?_⟩;cases l with
   | val d=>exact Den.ups (show Den K H d v from r) st
   | own zs =>
    obtain⟨q',ws,rfl,rk,t'⟩:=r;have:q'≠q:=by rintro rfl;exact hj (h.re.sep i j xs zs q' ei e si e1)
    exact⟨q',ws,rfl,by rw[a! this];exact rk,t'.ups st⟩
   | bor zs =>obtain⟨v',e2,r2⟩:=h.xE j zs e;rw[e1]at e2;cases e2;exact r2.up hs
   | uK ks =>
    obtain⟨q',as,rfl,rk,t'⟩:=r;have:q'≠q:=by rintro rfl;rw[hq]at rk;cases rk
    exact⟨q',as,rfl,by rw[a! this];exact rk,t'.ups st⟩
   | Hm ks =>obtain⟨q',o',as,rfl,rk,t'⟩:=r;exact⟨q',o',as,rfl,st.i! _ _ _ rk,t'.ups st⟩
   | PJ ps =>obtain⟨q',o',rfl,rk⟩:=r;exact⟨q',o',rfl,st.i! _ _ _ rk⟩
 ·rcases bL e1 with⟨_,_,e⟩ | ⟨_,e1⟩
  ·cases e
  ·rcases bL e2 with⟨_,_,e⟩ | ⟨_,e2⟩
   ·cases e
   ·exact h.re.sep j k _ _ p e1 e2 e3 e4
 ·rcases bL e1 with⟨_,_,e⟩ | ⟨_,e1⟩
  ·cases e
  ·exact h.fresh j Il p e1 e2
 ·rcases bL e1 with⟨_,_,e⟩ | ⟨_,e1⟩
  ·cases e
  ·exact h.xE j Il e1
variable {H0:Hp}{st:Stmt}{Ed:List Stmt}{g u:Z.SF}
theorem aP:BI X H0 [] Z.bF:=yp.imp IQ λ D σ H ⟨ρ,fl,rs,e,k⟩=>by cases e;exact k σ H (oG.refl H) rs
theorem aq(h:DS X H0 st g):BI X H0 [st] g:=IP h
theorem ag(h1:DS X H0 st g)(h2:BI X H0 Ed u):BI X H0 (st :: Ed) (Z.aB g u):=yp.imp (F! h1 h2) λ D σ H ⟨ρ,fl,rs,e,k⟩=>by
 obtain⟨f1,e1,e⟩:=Z.Res.az e;refine⟨ρ,f1,rs,e1,?_⟩;cases f1 with
 | nx ρ'=>exact λ σ' H' s r=>⟨ρ',fl,r,e,k.up s⟩
 | rt d=>cases e;exact k
 | bk ρ'=>cases e;exact k
 | ct ρ'=>cases e;exact k
theorem aD(h:DE X a fa):DS X H0 (.Return (some a) pos) (Z.a_ fa):=PS.imp (LL h) λ D σ H ⟨ρ,fl,rs,e,k⟩=>by obtain⟨d,ea,e⟩:=Z.Res.az e;cases e;exact⟨ρ,d,rs.re,ea,λ v H' s dv=>k v H' (rs.same.trans s) dv⟩
theorem bN{c:Expr}{b1 b2:List Stmt}{t:Z.TF}(hc:DT X c t)(h1:BI X H0 b1 g)(h2:BI X H0 b2 u):DS X H0 (.If c b1 b2 pos) (Z.gi t g u):=PS.imp (OK hc h1 h2) λ D σ H ⟨ρ,fl,rs,e,k⟩=>by
 obtain⟨x,ea,e⟩:=Z.Res.az e;refine⟨ρ,x,rs.re,ea,λ H1 s1=>?_⟩;cases x with
 | true =>simp only[if_true]at e ⊢;exact⟨ρ,fl,rs.up s1,e,k.up (w4 s1)⟩
 | false =>simp only[Bool.false_eq_true,if_false]at e ⊢;exact⟨ρ,fl,rs.up s1,e,k.up (w4 s1)⟩
theorem aC{i:Nat}{x:Str}{pos':Pos}(hN:X.N.Nodup)(hi:X.N[i]?=some x)(hx:Loc X.env.scope x)(he:DE X a fa)(hs:swapsWith a (some (.Name x pos')) pos.line X.env=pure false:=by rfl)(hf:X.fn x=true∨X.env.scope.names.lookup x=some .local:=by first | exact .inl rfl | exact .inr rfl | assumption):
  DS X H0 (.Assign [.Name x pos'] a pos) (Z.aM i fa):=PS.imp (F? hN hi hx he hs hf) λ D σ H ⟨ρ,fl,rs,e,k⟩=>by
 obtain⟨d,ea,e⟩:=Z.Res.az e;cases e;exact⟨ρ,d,rs.re,ea,λ v H' s dv=>k _ H' (w4 s) ((rs.up s).IJ dv)⟩
theorem RS.WB{K:PySem.W.Frag}{H1 H:Hp}{σ:St}{ρ:Z.Env}{q:Addr}(h:RS K H1 H σ ρ)(hq:H q=none)(j:Nat)(xs:List Z.D)(e:ρ[j]?=some (some (.own xs))):σ[j]?≠some (some (.ref q)):=λ z=>by obtain⟨v,e1,q',vs,rfl,h2,_⟩:=h.re.get j _ e;rw[z]at e1;cases e1;rw[hq]at h2;cases h2
theorem gZ{i:Nat}{x:Str}{pos':Pos}{l:Z.LF}(hN:X.N.Nodup)(hi:X.N[i]?=some x)(hx:Loc X.env.scope x)(he:DL X a l)(hs:swapsWith a (some (.Name x pos')) pos.line X.env=pure false:=by rfl)(hf:X.fn x=true∨X.env.scope.names.lookup x=some .local:=by first | exact .inl rfl | exact .inr rfl | assumption):
  DS X H0 (.Assign [.Name x pos'] a pos) (Z.nB i l):=PS.imp (F? hN hi hx he hs hf) λ D σ H ⟨ρ,fl,rs,e,k⟩=>by
 obtain⟨d,ea,e⟩:=Z.Res.az e;cases e;refine⟨ρ,d,rs.re,ea,λ q vs H' s hn h1 t=>k _ H' (w4 s) ((rs.up s).Oj h1 t (rs.same.free hn) λ j xs _ e=>?_)⟩;exact rs.WB hn j xs e
def tG(K:PySem.W.Frag)(H0:Hp)(g:Z.GF):TG:=λ v σ H Q=>∃ρ d ρ',RS K H0 H σ ρ∧Den K H d v∧g d ρ=.ok ρ'∧∀σ' H',aI H H'->RS K H0 H' σ' ρ'->Q σ' H'
def X?(K:PySem.W.Frag)(H0:Hp)(is:List Nat):HI:=λ vs σ H Q=>∃ρ ds ρ',RS K H0 H σ ρ∧aG K H ds vs∧Z.kh is ds ρ=.ok ρ'∧∀σ' H',aI H H'->RS K H0 H' σ' ρ'->Q σ' H'
abbrev DG(X:Cx)(H0:Hp)(tg:Expr)(g:Z.GF):Prop:=PG X tg (tG X.K H0 g)
abbrev N2(X:Cx)(H0:Hp)(Ta:List Expr)(is:List Nat):Prop:=HK X Ta (X? X.K H0 is)
theorem PG.imp{t t':TG}(h:PG X tg t)(k:∀v σ H Q,t' v σ H Q->t v σ H Q):PG X tg t':=λ pins s σ H v u Q I r w=>h pins s σ H v u Q I r (k v σ H Q w)
theorem HK.imp{t t':HI}(h:HK X es t)(k:∀v σ H Q,t' v σ H Q->t v σ H Q):HK X es t':=λ pins s σ H v u Q I r w=>h pins s σ H v u Q I r (k v σ H Q w)
theorem aU{i:Nat}{x:Str}(hN:X.N.Nodup)(hi:X.N[i]?=some x)(hx:Loc X.env.scope x)(hf:X.fn x=true∨X.env.scope.names.lookup x=some .local:=by first | exact .inl rfl | exact .inr rfl | assumption):DG X H0 (.Name x pos) (Z.bA i) :=
 PG.imp (Di hN hi hx hf) λ v σ H Q ⟨ρ,d,ρ',rs,hd,e,k⟩=>by cases e;exact k _ H (aI.refl H) (rs.IJ hd)
theorem e!:N2 X H0 [] []:=HK.imp IY λ vs σ H Q ⟨ρ,ds,ρ',rs,hd,e,k⟩=>by
 cases ds with
 | nil =>simp only[aG]at hd;cases e;exact⟨hd,k σ H (aI.refl H) rs⟩
 | cons d ds=>cases e
theorem bb{i:Nat}{is:List Nat}{x:Str}(hN:X.N.Nodup)(hi:X.N[i]?=some x)(hx:Loc X.env.scope x)(h2:N2 X H0 es is)(hs:(assignEach ((.Name x pos) :: es) X.env).map (·.2)=assign (.Name x pos) X.env :: (assignEach es X.env).map (·.2):=by rfl)
  (hf:X.fn x=true∨X.env.scope.names.lookup x=some .local:=by first | exact .inl rfl | exact .inr rfl | assumption):N2 X H0 (.Name x pos :: es) (i :: is) :=
 HK.imp (Gd (Di hN hi hx hf) h2 hs) λ vs σ H Q ⟨ρ,ds,ρ',rs,hd,e,k⟩=>by
  cases ds with
  | nil=>cases e
  | cons d ds =>simp only[aG]at hd;obtain⟨v,r,rfl,h1,h2⟩:=hd;exact⟨v,r,rfl,ρ.set i (some (.val d)),ds,ρ',rs.IJ h1,h2,e,k⟩
theorem kz{x1 n : Nat}{is : List Nat}(hc : X.calm = true)(h : N2 X H0 es is)(hl : is.length = n)(hn : (assignEach es X.env).length = n := by rfl)(hst : (assignEach es X.env).findIdx? (·.1) = none := by rfl): DG X H0 (.Tuple es x1 pos) (Z.ka is) :=
 PG.imp (Ge hc h hn hst) λ v σ H Q ⟨ρ,d,ρ',rs,hd,e,k⟩=>by
  unfold Z.ka at e;split at e
  ·rename_i ds;obtain⟨q,vs,rfl,hq,t⟩:=bQ.tup (.inl hd);have hlen:∀(is:List Nat)(ds:List Z.D)(ρ ρ':Z.Env),Z.kh is ds ρ=.ok ρ'->ds.length=is.length:=by
    intro is
    induction is with
    | nil=>intro ds ρ ρ' e;cases ds with
     | nil=>rfl
     | cons d ds=>cases e
    | cons i is ih=>intro ds ρ ρ' e;cases ds with
     | nil=>cases e
     | cons d ds=>simp[ih ds _ _ e]
   exact⟨q,vs,rfl,hq,by rw[t.length,hlen is ds ρ ρ' e];exact hl,ρ,ds,ρ',rs,t,e,k⟩
  ·cases e
theorem wB{g:Z.GF}(he:DE X a fa)(hg:DG X H0 tg g)(hs:swapsWithSole [tg] a pos.line X.env=pure false:=by rfl)(hw:swappedStores [tg] a X.env=pure none:=by rfl)
  (h1:(assignEach [tg] X.env).map (·.2)=[assign tg X.env]:=by rfl):DS X H0 (.Assign [tg] a pos) (Z.Ao fa g):=PS.imp (LO he hg hs hw h1) λ D σ H ⟨ρ,fl,rs,e,k⟩=>by
 obtain⟨d,ea,e⟩:=Z.Res.az e;obtain⟨ρ',eb,e⟩:=Z.Res.az e;cases e;exact⟨ρ,d,rs.re,ea,λ v H' s dv=>⟨ρ,d,ρ',rs.up s,dv,eb,λ σ2 H2 s2 r2=>k σ2 H2 ((w4 s).trans (w4 s2)) r2⟩⟩
theorem cD{it : Z.LF}{G : Z.GF}{iter : Expr}{body : List Stmt}(hp : PassesOwn (model X.prog X.w) X.A X.env X.xe)(hc : X.calm = true)(hi : DJ X tg iter it)(hg : DG X H0 tg G)(hb : BI X H0 body g)
  (hs:∀x,foldedSetIterable iter X.env x=pure x:=by intro _;rfl):DS X H0 (.For tg iter body [] pos) (Z.fN it G g):=PS.imp (LM hp hc hi hg hb hs) λ D σ H ⟨ρ,fl,rs,e,k⟩=>by
 obtain⟨ds,ei,e⟩:=Z.Res.az e;refine⟨ρ,ds,rs.re,ei,λ J H1 s1 z=>?_⟩;refine⟨λ i m σ' H'=>m=ds.length-i∧i≤ds.length∧∃ρ',RS X.K H0 H' σ' ρ'∧oG H1 H'∧Z.jr G g (ds.drop i) ρ'=.ok fl,⟨ds.length,by simp,Nat.zero_le _,ρ,rs.up s1,oG.refl H1,by simpa using e⟩,?_⟩;rintro i m σ2 H2 ⟨rfl,JW,ρ2,r2,s2,e2⟩;by_cases l4:i < ds.length
 ·obtain⟨d,hd⟩:∃d,ds[i]?=some d:=⟨ds[i],by simp[l4]⟩
  have rl:ds.drop i=d :: ds.drop (i+1):=by
   rw[List.drop_eq_getElem_cons l4];have:ds[i]=d:=by have:=List.getElem?_eq_getElem l4;rw[this]at hd;exact Option.some.inj hd
   rw[this]
  rw[rl]at e2;unfold Z.jr at e2;obtain⟨ρ3,eg,e2⟩:=Z.Res.az e2;obtain⟨f3,eb,e2⟩:=Z.Res.az e2;refine .inr ⟨z.go i d H2 s2 hd,λ σ' H'=>∃ρ',RS X.K H0 H' σ' ρ'∧oG H1 H'∧Z.jr G g (ds.drop (i+1)) ρ'=.ok fl,λ σ' H' w=>⟨_,by lia,rfl,l4,w⟩,λ x H3 y=>?_⟩;obtain⟨sy,dx⟩:=z.Fq i d H2 H3 x s2 hd y;replace s2:=s2.trans (w4 sy);refine⟨ρ2,d,ρ3,r2.up sy,dx,eg,λ σ4 H4 Yg r4=>⟨ρ3,f3,r4,eb,?_⟩⟩;have s4:=w4 Yg;cases f3 with
  | nx ρ5=>exact λ σ5 H5 s5 r5=>⟨ρ5,r5,(s2.trans s4).trans s5,e2⟩
  | ct ρ5=>exact λ σ5 H5 s5 r5=>⟨ρ5,r5,(s2.trans s4).trans s5,e2⟩
  | bk ρ5 =>cases e2;exact λ σ5 H5 s5 r5=>k σ5 H5 ((w4 s1).trans ((s2.trans s4).trans s5)) r5
  | rt d5 =>cases e2;exact k
 ·have:i=ds.length:=by lia
  subst this;rw[List.drop_length]at e2;cases e2;exact .inl ⟨z.stop H2 s2,k σ2 H2 ((w4 s1).trans s2) r2⟩
theorem mD{i:Nat}(h:BI X H0 Ed g):BI X H0 Ed (Z.w! i g):=by
 intro pins s σ H D I w;obtain⟨ρ,fl,rs,e,k⟩:=w;unfold Z.w! Z.i! at e;split at e
 ·rename_i xs ei;obtain⟨v,si,q,us,rfl,hq,t⟩:=rs.re.get i _ ei;obtain⟨o,I2⟩:=qc I hq;exact h pins s σ _ D I2 ⟨_,fl,rs.i! ei si hq t,e,k.up (kM hq)⟩
 ·exact h pins s σ H D I ⟨ρ,fl,rs,e,k⟩
theorem E9{i:Nat}{o:Expr}{p1 p2:Pos}(ho:PE X o (yu i))(ha:DE X a fa)(hs:swapsWith (.Call (.Attribute o "append" p1) [a] [] p2) none pos.line X.env=pure false:=by rfl)(hs1:starEach (a :: []) X.env=(false,eval a X.env) :: starEach [] X.env:=by rfl)
  (Vn:PE X (.Call (.Attribute o "append" p1) [a] [] p2) (Tn X.K "list" Df (yu i) (FO (tZ X.K fa) Lx))) :
  DS X H0 (.Expr (.Call (.Attribute o "append" p1) [a] [] p2) pos) (Z.cH i fa):=PS.imp (Dg Vn hs) λ D σ H ⟨ρ,fl,rs,e,k⟩=>by
 obtain⟨d,ea,e⟩:=Z.Res.az e;split at e
 ·rename_i xs ei;unfold Z.guard at e;split at e
  ·rename_i hl;cases e;obtain⟨v,si,q,us,rfl,hq,t⟩:=rs.re.get i _ ei;refine⟨.ref q,si,.inl ⟨rfl,us,i?.of hq⟩,ρ,d,rs.re,ea,λ v' H1 s1 dv=>?_⟩;have JR:H1 q=some (.lst us):=s1 _ _ hq;refine⟨q,us,v',rfl,rfl,JR,by rw[t.length,sizeLine_eq];exact hl,?_⟩;exact k σ _ ((w4 s1).trans (kM JR)) ((rs.up s1).chg ei si JR ((t.up s1).append (aG.cons dv aG.nil)))
  ·cases e
 ·cases e
end
end ZS
namespace ZS
open PySem PySem.Spec PyProof.Rows L2
theorem qi{env : Env}: ∀(names : List (Str × NameKind))(acc : List (Str × Addr)), (∀y ∈ names, y.2 = .free -> ∃c, env.cells.lookup y.1 = some c) -> (∀x c, acc.lookup x = some c -> env.cells.lookup x = some c) ->
  ∃cl,(forIn names acc λ(x:Str×NameKind) (cs:List (Str×Addr))=>(if(x.2==NameKind.free)=true then do let c ←cellOf env x.1;pure (ForInStep.yield ((x.1,c) :: cs))else pure (ForInStep.yield cs):Sem (ForInStep (List (Str×Addr)))))=pure cl ∧
   (∀x c,cl.lookup x=some c->env.cells.lookup x=some c)∧(∀x,(acc.lookup x).isSome=true->(cl.lookup x).isSome=true)∧(∀y∈names,y.2=.free->(cl.lookup y.1).isSome=true)
 | [],acc,_,ha=>⟨acc,rfl,ha,λ _ h=>h,λ y hy=>by cases hy⟩
 | (n, k) :: r, acc, hn, ha => by
  by_cases hk:k=.free
  ·subst hk;obtain⟨c,hc⟩:=hn (n,.free) List.mem_cons_self rfl;have Zm:∀x d,((n,c) :: acc).lookup x=some d->env.cells.lookup x=some d:=λ x d e=>by
    rw[List.lookup_cons]at e;split at e
    ·rename_i q;cases e;rw[beq_iff_eq.mp q];exact hc
    ·exact ha x d e
   obtain⟨cl,e,h1,h2,h3⟩:=qi r ((n,c) :: acc) (λ y hy=>hn y (List.mem_cons_of_mem _ hy)) Zm;have self:(cl.lookup n).isSome=true:=h2 n (by rw[List.lookup_cons_self];rfl);refine⟨cl,?_,h1,λ x hx=>h2 x ?_,λ y hy hf=>?_⟩
   ·rw[List.forIn_cons];simp only[beq_self_eq_true,if_true];have:cellOf env n=pure c:=by unfold cellOf;rw[hc]
    rw[this];exact e
   ·rw[List.lookup_cons];split
    ·rfl
    ·exact hx
   ·rcases List.mem_cons.mp hy with rfl | hy
    ·exact self
    ·exact h3 y hy hf
  ·obtain⟨cl,e,h1,h2,h3⟩:=qi r acc (λ y hy=>hn y (List.mem_cons_of_mem _ hy)) ha;have hb:(k==NameKind.free)=false:=by simpa using hk
   refine⟨cl,?_,h1,h2,λ y hy hf=>?_⟩
   ·rw[List.forIn_cons];simp only[hb,Bool.false_eq_true,if_false];exact e
   ·rcases List.mem_cons.mp hy with rfl | hy
    ·exact absurd hf hk
    ·exact h3 y hy hf
theorem lB{env:Env}{scope:Scope}(hn:∀y∈scope.names,y.2=.free->∃c,env.cells.lookup y.1=some c):
  ∃cl,closureFor scope env=pure cl∧(∀x c,cl.lookup x=some c->env.cells.lookup x=some c)∧(∀y∈scope.names,y.2=.free->(cl.lookup y.1).isSome=true):=by
 obtain⟨cl,e,h1,_,h3⟩:=qi (env:=env) scope.names [] hn (λ x c e=>by cases e);refine⟨cl,?_,h1,h3⟩;unfold closureFor
 first
  | exact e
  | (simp only[bind_pure];exact e)
  | (rw[show _=_ from e];rfl)
theorem j?{env : Env}{x : Str}: ∀(names : List (Str × NameKind)), (names.map λ(n, k) => if(k == NameKind.free && env.scope.kind == .function && env.kindOf n == some .cell) = true then(n, NameKind.cell)else(n, k)).lookup x = (names.lookup x).map λ k => if(k == NameKind.free && env.scope.kind == .function && env.kindOf x == some .cell) = true then NameKind.cell else k
 | []=>rfl
 | (n, k) :: r => by
  have ih:=@j? env x r;show List.lookup x ((if(k==NameKind.free&&env.scope.kind==.function&&env.kindOf n==some .cell)=true then(n,NameKind.cell)else(n,k)) :: _)=_;by_cases hx:x=n
  ·subst hx;by_cases hc:(k==NameKind.free&&env.scope.kind==.function&&env.kindOf x==some .cell)=true
   ·rw[if_pos hc,List.lookup_cons_self,List.lookup_cons_self,Option.map_some,if_pos hc]
   ·rw[if_neg hc,List.lookup_cons_self,List.lookup_cons_self,Option.map_some,if_neg hc]
  ·have hb:(x==n)=false:=by simpa using hx
   by_cases hc:(k==NameKind.free&&env.scope.kind==.function&&env.kindOf n==some .cell)=true
   ·rw[if_pos hc,List.lookup_cons,List.lookup_cons,hb];exact ih
   ·rw[if_neg hc,List.lookup_cons,List.lookup_cons,hb];exact ih
abbrev o3(X:Cx)(N':List Str)(scope:Scope)(cl:List (Str×Addr))(C:Addr)(fp:List Addr)(s₂:Shared)(H₂:Hp):Cx :=
 { prog:=X.prog,w:=X.w,K:=X.K,mg:=X.mg,base:=X.base,A:=X.A,N:=N',s₀:=s₂,H₀:=H₂,env:=compEnvC scope cl C X.env,outer:=X.stack,stack:=X.stack,ex:=fp,fn:=λ _=>false,calm:=X.calm,pn:=[],xe:=λ _ _=>False }
structure lE(N N':List Str)(n:Nat)(is:List Nat)(sc KP:Scope):Prop where
 kind:sc.kind=.function
 cell:∀y∈sc.names,y.2≠.cell
 loc:∀y∈sc.names,y.2=.local->sc.names.lookup y.1=some .local
 free:∀y∈sc.names,y.2=.free->KP.names.lookup y.1=some .cell∨KP.names.lookup y.1=some .free
 len:N'.length=n+is.length
 XD:∀(j i:Nat),is[j]?=some i->∃x,N'[n+j]?=some x∧N[i]?=some x∧sc.names.lookup x=some .free
 own:∀(j:Nat),j < n->∃x,N'[j]?=some x∧sc.names.lookup x=some .local
section
variable {X:Cx}{tg e a b elt iter:Expr}{ifs:List Expr}{pos:Pos}{N':List Str}{n:Nat}{is:List Nat}{scope:Scope}
def pY(σ:St)(n:Nat)(is:List Nat):St:=List.replicate n none++is.map λ i=>(σ[i]?).join
theorem gv(n:Nat)(is:List Nat)(ρ:Z.Env)(i:Nat)(xs:List Z.D):(List.replicate n none++Z.jm ρ is:Z.Env)[i]?≠some (some (.own xs)):=by
 intro e;by_cases hi:i < n
 ·rw[List.getElem?_append_left (by simpa using hi),List.getElem?_replicate]at e;split at e<;>cases e
 ·rw[List.getElem?_append_right (by simpa using hi)]at e;unfold Z.jm at e;rw[List.getElem?_map]at e;cases q:is[i-(List.replicate n (none:Option Z.L)).length]? with
  | none=>rw[q]at e;cases e
  | some j =>rw[q]at e;have e':Z.pG ρ j=some (.own xs):=Option.some.inj e;unfold Z.pG at e';split at e'<;>cases e'
theorem sP(n:Nat)(is:List Nat)(ρ:Z.Env)(i:Nat)(ks:List (List Int)):(List.replicate n none++Z.jm ρ is:Z.Env)[i]?≠some (some (.uK ks)):=by
 intro e;by_cases hi:i < n
 ·rw[List.getElem?_append_left (by simpa using hi),List.getElem?_replicate]at e;split at e<;>cases e
 ·rw[List.getElem?_append_right (by simpa using hi)]at e;unfold Z.jm at e;rw[List.getElem?_map]at e;cases q:is[i-(List.replicate n (none:Option Z.L)).length]? with
  | none=>rw[q]at e;cases e
  | some j =>rw[q]at e;have e':Z.pG ρ j=some (.uK ks):=Option.some.inj e;unfold Z.pG at e';split at e'<;>cases e'
theorem F8{K : PySem.W.Frag}{H H' : Hp}{σ : St}{ρ : Z.Env}(h : RE K H σ ρ)(s : aI H H'): RS K H H' (pY σ n is) (List.replicate n none ++ Z.jm ρ is) := by
 have key:∀(i:Nat)(l:Z.L),(List.replicate n none++Z.jm ρ is:Z.Env)[i]?=some (some l)->∃v,(pY σ n is)[i]?=some (some v)∧RL K H l v:=?_;refine⟨s,⟨by simp[pY,Z.jm],λ i l e=>let ⟨v,h1,h2⟩:=key i l e;⟨v,h1,h2.up s⟩,λ i j xs ys q e1=>absurd e1 (gv n is ρ i xs)⟩,λ i xs q e1=>absurd e1 (gv n is ρ i xs),λ i xs e1=>key i _ e1,nz.non (sP n is ρ)⟩;intro i l e;by_cases hi:i < n
 ·rw[List.getElem?_append_left (by simpa using hi),List.getElem?_replicate]at e;split at e<;>cases e
 ·rw[List.getElem?_append_right (by simpa using hi)]at e;unfold pY;rw[List.getElem?_append_right (by simpa using hi)];simp only[List.length_replicate]at e ⊢;unfold Z.jm at e;rw[List.getElem?_map]at e ⊢;cases q:is[i-n]? with
  | none=>rw[q]at e;cases e
  | some j =>
   rw[q]at e;have e':Z.pG ρ j=some l:=Option.some.inj e;unfold Z.pG at e';split at e'
   ·rename_i d hd;cases e';obtain⟨v,h1,h2⟩:=h.get j _ hd;refine⟨v,?_,h2⟩;simp[h1]
   ·rename_i d hd;cases e';obtain⟨v,h1,h2⟩:=h.get j _ hd;refine⟨v,?_,h2⟩;simp[h1]
   ·rename_i d hd;cases e';obtain⟨v,h1,h2⟩:=h.get j _ hd;refine⟨v,?_,h2⟩;simp[h1]
   ·cases e'
theorem o!{prog:Program}{w:World}{A:Around}{R:Result->Shared->Prop}{s:Shared}{elt target iter:Expr}{ifs:List Expr}{scope:Scope}{pos:Pos}{it acc:Value}{env:Env}(I:Nat->Shared->Prop)
  (turn : ∀ n s, I n s -> wpAny (model prog w) A (pyNext it) (λ r s₁ => match r with
   | none=>R (.ok .next) s₁
   | some v=>wpAny (model prog w) A (letOwnedTupleGo target it v) (λ _ s₁=>wpAny (model prog w) A (assign target env v) (λ _ s₂ =>
     wpAny (model prog w) A (forIn ifs true λ c r=>if r=true then do let ok ←isTrue c env (eval c env);pure (ForInStep.yield ok)else pure (ForInStep.yield r)) (λ ok s₃ =>
      if ok=true then wpAny (model prog w) A (eval elt env) (λ x s₄ =>wpAny (model prog w) A (call (.builtin "list.append") [acc,x]) (λ _ s₅=>∃m,m < n∧I m s₅) (λ _ _=>False) s₄) (λ _ _=>False) s₃
      else ∃m,m < n∧I m s₃) (λ _ _=>False) s₂) (λ _ _=>False) s₁) (λ _ _=>False) s₁) (λ _ _=>False) s)
  (n:Nat) (h:I n s) :
  codeAny (model prog w) A (.compLoop (.ListComp elt [⟨target,iter,ifs,0⟩] scope pos) 0 it acc env) R s:=by
 refine codeAny_loop rfl I (λ n s hI=>?_) n h;show wpAny _ A ((compTurn (.ListComp elt [⟨target,iter,ifs,0⟩] scope pos) 0 it acc env).onRaise (λ x=>do noteFrame x env;theTreesLotGoes x)) _ _ s;refine wpAny_noted ?_;rw[compTurn_list];refine wpAny_bind (wpAny_standAt (wpAny_bind (wpAny_mono (turn n s hI) (λ r s₁ h₁=>?_) λ _ _ h'=>h'.elim)));cases r with
 | none=>exact wpAny_pure h₁
 | some v =>
  refine wpAny_bind (wpAny_mono h₁ (λ _ s₁ h₁=>?_) λ _ _ h'=>h'.elim);refine wpAny_bind (wpAny_mono h₁ (λ _ s₂ h₂=>wpAny_bind (wpAny_mono h₂ (λ ok s₃ h₃=>?_) λ _ _ h'=>h'.elim)) λ _ _ h'=>h'.elim);cases ok with
  | false=>exact wpAny_pure ⟨rfl,h₃⟩
  | true =>exact wpAny_bind (wpAny_bind (wpAny_mono h₃ (λ x s₄ h₄=>wpAny_bind (wpAny_mono h₄ (λ _ s₅ h₅=>wpAny_pure (wpAny_pure ⟨rfl,h₅⟩)) λ _ _ h'=>h'.elim)) λ _ _ h'=>h'.elim))
structure Off(X:Cx)(pins:List (Addr×Obj))(H:Hp)(C:Addr):Prop where
 free:H C=none
 loc:C≠X.env.locals
 new:X.s₀.heap.objs.size≤C
 cell:∀x c,X.env.cells.lookup x=some c->c≠C
 pin:∀p∈X.pn++pins,p.1≠C
theorem Off.inv{pins:List (Addr×Obj)}{σ:St}{H:Hp}{s:Shared}{C:Addr}{h':Heap}(o:Off X pins H C)(I:Inv X pins σ H s)(hs:Heap.SameBut C s.heap h'):Inv X pins σ H { s with heap:=h' } :=
 I.turned (t':=s.toks) (λ b ob hb e=>(hs.2 b hb).trans e) o.free o.loc (.inr o.new) o.cell o.pin
def S4(X:Cx)(pins:List (Addr×Obj))(σ:St)(H₂:Hp)(ys:List Z.D)(acc:Value)(C:Addr)(s':Shared):Prop :=
 ∃D H' vs m,acc=.ref D∧s'.heap.Ns C m∧Inv X pins σ H' s'∧Off X pins H' C∧H₂ D=none∧aI H₂ H'∧H' D=some (.lst vs)∧aG X.K H' ys vs
theorem Hy{it : Addr}{fp : List Addr}{tn : Nat -> Heap -> Prop}{J : It}{pins : List (Addr × Obj)}{σ : St}{ρ : Z.Env}{H₂ : Hp}{s₂ : Shared}{E : Value -> Shared -> Prop}{cl : List (Str × Addr)}{G : Z.GF}{t : Z.TF}{fe : Z.EF}{ds ys : List Z.D}
  (hcalm:X.calm=true) (B:lE X.N N' n is scope X.env.scope) (I2:Inv X pins σ H₂ s₂) (T:Turn X.prog X.w X.K tg J fp it tn) (Of:tn 0 s₂.heap) (fo:∀b∈fp,s? X pins H₂ b) (z:D? X.K J (aI H₂) ds) (re:RE X.K H₂ σ ρ)
  (kK:∀x c,cl.lookup x=some c->X.env.cells.lookup x=some c) (wb:∀y∈scope.names,y.2=.free->(cl.lookup y.1).isSome=true)
  (hG:∀d ρ ρ1,G d ρ=.ok ρ1->ρ1.length=ρ.length∧∀i,n≤i->ρ1[i]?=ρ[i]?)
  (hg:∀C s H H0,DG (o3 X N' scope cl C fp s H) H0 tg G)
  (ht:∀ (C:Addr) (s s':Shared) (H:Hp) (vw:List (Addr×Obj)) (σ':St) (H':Hp) (Q:Bool->Hp->Prop),Inv (o3 X N' scope cl C fp s H) vw σ' H' s'->N8 X.K t σ' H' Q ->
   wpAny (model X.prog X.w) X.A (forIn ifs true λ c r=>if r=true then do let ok ←isTrue c (compEnvC scope cl C X.env) (eval c (compEnvC scope cl C X.env));pure (ForInStep.yield ok)else pure (ForInStep.yield r)) (TP (o3 X N' scope cl C fp s H) vw σ' Q) (λ _ _=>False) s')
  (he:∀C s H,DE (o3 X N' scope cl C fp s H) elt fe) (hlen:ds.length≤Z.line) (ZO:Z.eD G t fe (List.replicate n none++Z.jm ρ is) ds=.ok ys) :
  wpAny (model X.prog X.w) X.A (newList []) (λ acc s₃=>wpAny (model X.prog X.w) X.A (newFunctionEnv scope X.env.globals cl [] X.env.qual none .none (some X.env)) (λ Kl s₄ =>codeAny (model X.prog X.w) X.A (.compStart (.ListComp elt [⟨tg,iter,ifs,0⟩] scope pos) 0 (.ref it) acc { Kl with scope:=relabel scope X.env }) (λ r s'=>r=.ok .next∧S4 X pins σ H₂ ys acc Kl.locals s') s₄) E s₃) E s₂:=by
 refine wpAny_newObj_type (wpAny_newFunctionEnv B.cell (by intro y hy;simp at hy) (λ h₁ JV G4=>?_) B.kind);dsimp only at JV G4 ⊢;generalize Cw:s₂.heap.push { cls:=.type "list",dict:=none,data:=.seq ([]:List Value).toArray }=HH at JV G4 ⊢;have hC:HH.objs.size=s₂.heap.objs.size+1:=by rw[<-Cw,Heap.size_push]
 have SK:s₂.heap.objs.size≠HH.objs.size:=by rw[hC];exact Nat.ne_of_lt (Nat.lt_succ_self _)
 have below:∀b,b < s₂.heap.objs.size->b≠HH.objs.size∧b≠s₂.heap.objs.size:=λ b hb=>⟨by rw[hC];exact Nat.ne_of_lt (Nat.lt_succ_of_lt hb),Nat.ne_of_lt hb⟩
 have old:∀b o,s₂.heap.get? b=some o->h₁.get? b=some o:=λ b o e=>G4.extBut b o (below b (Heap.lt_size e)).1 (Heap.get?_push_of_some _ (Cw▸Heap.get?_push_of_some _ e));have Qo:h₁.get? s₂.heap.objs.size=some { cls:=.type "list",data:=.seq ([]:List Value).toArray }:=G4.extBut _ _ SK (Heap.get?_push_of_some _ (Cw▸Heap.get?_push_size _ rfl));have Zz:∀b∈fp,∃o,s₂.heap.get? b=some o∧∀v,o.data≠.cell v:=T.obj 0 _ Of;have MZ:∀b∈fp,b < s₂.heap.objs.size:=λ b hb=>let ⟨_,e,_⟩:=Zz b hb;Heap.lt_size e;generalize hD:s₂.heap.objs.size=D at SK below old Qo hC ⊢;generalize hCC:HH.objs.size=C at JV G4 SK below hC ⊢;have Ia:H₂ D=none:=I2.dW.fresh (by rw[hD];exact Nat.le_refl _);have Zt:H₂ C=none:=I2.dW.fresh (by rw[hD,hC];exact Nat.le_succ _)
 -- Lv SU context is in order
 have ok : (o3 X N' scope cl C fp s₂ H₂).Ok := by
  refine⟨I2.ok.mod,B.kind,I2.ok.glob,I2.ok.blt,by show s₂.heap.objs.size≤C;rw[hD,hC];exact Nat.le_succ _,λ x y c e1 e2=>I2.ok.inj x y c (kK x c e1) (kK y c e2),λ x hx=>?_,λ x c hf=>(by cases hf),I2.ok.hd,I2.ok.frames,.inl rfl,
   λ b hb=>⟨(below b (by rw[<-hD];exact MZ b hb)).1,λ x c e=>(fo b hb).2.2.2.2.1 x c (kK x c e)⟩,I2.bs,Nat.le_trans I2.ok.Ig I2.sz,λ b o e hb=>?_,λ b hb z=>?_,I2.stack,I2.yx⟩
  ·have JQ:(relabel scope X.env).names.lookup x=some .cell∨(relabel scope X.env).names.lookup x=some .free:=hx;have e:=j? (env:=X.env) (x:=x) scope.names;have e':(relabel scope X.env).names.lookup x=_:=e;rw[e']at JQ;cases q:scope.names.lookup x with
   | none=>rw[q]at JQ;rcases JQ with h | h<;>cases h
   | some k =>
    have hm:=PySem.mem_of_lookup q;have hk:k=.free:=by
     rw[q]at JQ;simp only[Option.map_some]at JQ;by_cases hc:(k==NameKind.free&&X.env.scope.kind==.function&&X.env.kindOf x==some .cell)=true
     ·rw[Bool.and_eq_true,Bool.and_eq_true]at hc;exact beq_iff_eq.mp hc.1.1
     ·rw[if_neg hc]at JQ;rcases JQ with h | h
      ·exact absurd (Option.some.inj h) (B.cell _ hm)
      ·exact Option.some.inj h
    subst hk;exact Option.isSome_iff_exists.mp (wb _ hm rfl)
  ·rcases(fo b hb).2.2.2.1 with q | q
   ·exact I2.ok.EG b o e q
   ·exact absurd (Nat.lt_of_lt_of_le (Heap.lt_size (I2.ok.bs b o e).1) q) (Nat.lt_irrefl _)
  ·rcases List.mem_cons.mp (I2.va b z)with q | q
   ·exact(fo b hb).2.1 q
   ·exact(fo b hb).2.2.1 q
 have Hd:sZ X.prog X.w (upd H₂ D (.lst [])) h₁:=I2.dW.laid old (by rw[hD];exact Nat.le_refl _) ⟨Nat.zero_le _,[],_,.nil,Qo⟩;have ne2:∀b,b < s₂.heap.objs.size->b≠D:=λ b hb=>by rw[<-hD];exact Nat.ne_of_lt hb
 have wM:∀x c,X.env.cells.lookup x=some c->c < s₂.heap.objs.size∧∀v,s₂.heap.IsCell c v->h₁.IsCell c v:=λ x c e=>by obtain⟨v,o,ho,hd⟩:=I2.cell x c e;exact⟨Heap.lt_size ho,λ v' ⟨o',Cr,K?⟩=>⟨o',old c o' Cr,K?⟩⟩
 have I4 : Inv (o3 X N' scope cl C fp s₂ H₂) [] (pY σ n is) (upd H₂ D (.lst [])) { s₂ with heap := h₁, toks := s₂.toks + ([] : List (Str × Value)).length } := by
  refine⟨ok,rfl,I2.bare,Un.laid old (by rw[hD];exact Nat.le_refl _) Ia,⟨_,JV,λ i x v e1 e2 e3=>?_⟩,λ x c e=>?_,by show upd H₂ D (.lst []) C=none;rw[a! (Ne.symm SK)];exact Zt,λ x c e=>?_,λ p hp=>absurd (show p∈([]:List (Addr×Obj))from hp) (by simp),Hd,by simp[pY,B.len],I2.tab.up λ b u _ e=>by rw[a! (cy e Ia)];exact e⟩
  ·unfold pY at e2;by_cases hi:i < n
   ·rw[List.getElem?_append_left (by simpa using hi),List.getElem?_replicate]at e2;split at e2<;>cases e2
   ·rw [List.getElem?_append_right (by simpa using hi),List.getElem?_map] at e2;simp only[List.length_replicate]at e2;cases q:is[i-n]? with
    | none=>rw[q]at e2;cases e2
    | some j =>
     rw[q]at e2;simp only[Option.map_some]at e2;obtain⟨x',c1,c2,c3⟩:=B.XD (i-n) j q;have G8:n+(i-n)=i:=by lia
     rw[G8]at c1;have FD:N'[i]?=some x:=e1;rw[c1]at FD;cases FD;have hσ:σ[j]?=some (some v):=by
      cases r:σ[j]? with
      | none=>rw[r]at e2;cases e2
      | some y =>
       rw[r]at e2;have:y=some v:=by simpa using e2
       rw[this]
     obtain⟨m,hn,hl⟩:=I2.loc;have hm:=PySem.mem_of_lookup c3;have hk:=B.free _ hm rfl;have MA:Ii X.env.scope x:=by
      rcases hk with k | k
      ·exact .inr (.inl k)
      ·exact .inr (.inr k)
     obtain⟨u,ru,lk⟩:=hl j x v c2 hσ MA;refine⟨u,ru,?_⟩;rcases lk with⟨k1,_⟩ | ⟨k1,c,hc,uh⟩
     ·have JF:X.env.scope.names.lookup x=some .local:=k1;rcases hk with k | k
      ·rw[k]at JF;cases JF
      ·rw[k]at JF;cases JF
     ·obtain⟨c',Fy⟩:=Option.isSome_iff_exists.mp (wb _ hm rfl);have:c'=c:=by have:=kK x c' Fy;rw[hc]at this;exact(Option.some.inj this).symm
      subst this;refine .inr ⟨?_,c',Fy,(wM x c' hc).2 _ uh⟩;show(relabel scope X.env).names.lookup x=some .cell∨(relabel scope X.env).names.lookup x=some .free;have e:=j? (env:=X.env) (x:=x) scope.names;have e':(relabel scope X.env).names.lookup x=_:=e;rw[e',c3];simp only[Option.map_some];split
      ·exact .inl rfl
      ·exact .inr rfl
  ·obtain⟨v,hv⟩:=I2.cell x c (kK x c e);exact⟨v,(wM x c (kK x c e)).2 v hv⟩
  ·have l4:=(wM x c (kK x c e)).1;rw[a! (ne2 c l4)];exact I2.oq x c (kK x c e)
 have Yp:RS X.K H₂ (upd H₂ D (.lst [])) (pY σ n is) (List.replicate n none++Z.jm ρ is):=F8 re (dQ Ia);have Wr:tn 0 h₁:=T.keep 0 _ _ Of λ b hb o e=>old b o e;have Zy:∀b∈fp,(upd H₂ D (.lst [])) b=none:=λ b hb=>by rw[a! (ne2 b (MZ b hb))];exact(fo b hb).1
 -- S! stays true of Lv Cp objects
 have BY:∀{H':Hp},(∀b∈fp,H' b=none)->∀b∈fp,s? (o3 X N' scope cl C fp s₂ H₂) [] H' b:=λ hn b hb=>by
  refine⟨hn b hb,(below b (by rw[<-hD];exact MZ b hb)).1,?_,.inl hb,λ x c e=>(fo b hb).2.2.2.2.1 x c (kK x c e),λ p hp=>absurd (show p∈([]:List (Addr×Obj))from hp) (by simp)⟩;intro q;rcases List.mem_cons.mp (I2.va b q)with q | q
  ·exact(fo b hb).2.1 q
  ·exact(fo b hb).2.2.1 q
 have loop : codeAny (model X.prog X.w) X.A (.compLoop (.ListComp elt [⟨tg, iter, ifs, 0⟩] scope pos) 0 (.ref it) (.ref D) (compEnvC scope cl C X.env)) (λ r s' => r = .ok .next ∧ S4 X pins σ H₂ ys (.ref D) C s')
   { s₂ with heap:=h₁,toks:=s₂.toks+([]:List (Str×Value)).length }:=by
  refine o! (λ m s'=>∃i σ' H' vs zs,m=ds.length+1-i∧i≤ds.length∧vs.length≤i∧Inv (o3 X N' scope cl C fp s₂ H₂) [] σ' H' s'∧tn i s'.heap∧(∀b∈fp,H' b=none)∧H' D=some (.lst vs)∧aI H₂ H' ∧
   RS X.K H₂ H' σ' (List.replicate n none++Z.jm ρ is)∧(∃rest,Z.eD G t fe (List.replicate n none++Z.jm ρ is) (ds.drop i)=.ok rest∧zs++rest=ys)∧aG X.K H' zs vs) ?_ (ds.length+1)
   ⟨0,pY σ n is,_,[],[],rfl,Nat.zero_le _,Nat.le_refl _,I4,Wr,Zy,bV,dQ Ia,Yp,⟨ys,by simpa using ZO,rfl⟩,aG.nil⟩
  ·rintro m s' ⟨i,σ3,H3,vs,zs,rfl,JW,YL,I3,FP,Qy,SM,Fs,TR,⟨rest,er,ez⟩,dz⟩;by_cases l4:i < ds.length
   ·obtain⟨d,hd⟩:∃d,ds[i]?=some d:=⟨ds[i],by simp[l4]⟩
    have rl:ds.drop i=d :: ds.drop (i+1):=by
     rw[List.drop_eq_getElem_cons l4];have:ds[i]=d:=by have:=List.getElem?_eq_getElem l4;rw[this]at hd;exact Option.some.inj hd
     rw[this]
    rw[rl]at er;unfold Z.eD at er;obtain⟨ρ1,eg,er⟩:=Z.Res.az er;obtain⟨c1,ec,er⟩:=Z.Res.az er;refine d! (T.item (o3 X N' scope cl C fp s₂ H₂) rfl rfl rfl hcalm i [] s' σ3 H3 (λ _ _=>False) I3 (BY Qy) FP (z.go i d H3 Fs hd)) λ r s4 ⟨u,hr,h4⟩=>?_;subst hr;refine d! h4 λ _ s5 ⟨x,H5,I5,r5,y5,yy,Vy⟩=>?_;obtain⟨sy,dx⟩:=z.Fq i d H3 H5 x Fs hd y5;replace TR:=TR.up sy;replace Fs:=Fs.trans sy;replace SM:=sy _ _ SM;replace dz:=dz.up sy;have V_:=I5.pinned (BY Vy) (T.obj _ _ yy);have Yo:RS X.K H₂ H5 σ3 (List.replicate n none++Z.jm ρ is):=TR;refine d! (hg C s₂ H₂ H₂ _ s5 σ3 H5 x u (λ σ6 H6=>aI H5 H6∧RS X.K H₂ H6 σ6 ρ1) V_ r5 ⟨_,d,ρ1,Yo,dx,eg,λ σ' H' s' r'=>⟨s',r'⟩⟩) λ _ s6 ⟨σ6,H6,I6,Yd,RQ⟩=>?_;refine d! (ht C s₂ s6 H₂ _ σ6 H6 (λ b H7=>b=c1∧aI H6 H7) I6 ⟨ρ1,c1,RQ.re,ec,λ H7 s7=>⟨rfl,s7⟩⟩) λ ok s7 ⟨H7,I7,e7,Tt⟩=>?_;subst e7;have FQ:aI H5 H7:=Yd.trans Tt;have TQ:RE X.K H7 σ6 ρ1:=RQ.re.up Tt;have Wv:∀{H9:Hp},aI H7 H9->RS X.K H₂ H9 σ6 (List.replicate n none++Z.jm ρ is):=λ {H9} s9=>by
     obtain⟨gl,gk⟩:=hG d _ ρ1 eg;refine⟨(RQ.same.trans Tt).trans s9,⟨by rw[<-gl];exact TQ.len,λ j l e=>?_,λ j k xs ys q e1=>absurd e1 (gv n is ρ j xs)⟩,λ j xs q e1=>absurd e1 (gv n is ρ j xs),λ j xs e=>?_,nz.non (sP n is ρ)⟩;rotate_left
     ·by_cases hj:n≤j
      ·rw[<-gk j hj]at e;exact RQ.xE j xs e
      ·rw[List.getElem?_append_left (by simp;lia),List.getElem?_replicate]at e;split at e<;>cases e
     by_cases hj:n≤j
     ·rw[<-gk j hj]at e;exact(TQ.up s9).get j l e
     ·rw[List.getElem?_append_left (by simp;lia),List.getElem?_replicate]at e;split at e<;>cases e
    have fin:∀{H9:Hp}{s9:Shared}(N5:List V) (Rk:List Z.D),Inv (o3 X N' scope cl C fp s₂ H₂) ([]++vv fp s5.heap) σ6 H9 s9->H9 D=some (.lst N5)->N5.length≤i+1->aI H₂ H9->RS X.K H₂ H9 σ6 (List.replicate n none++Z.jm ρ is) ->
      (∃ rest,Z.eD G t fe (List.replicate n none++Z.jm ρ is) (ds.drop (i+1))=.ok rest∧Rk++rest=ys)->aG X.K H9 Rk N5->∃ m,m < ds.length+1-i∧∃ i σ' H' vs zs,m=ds.length+1-i∧i≤ds.length∧vs.length≤i∧Inv (o3 X N' scope cl C fp s₂ H₂) [] σ' H' s9∧tn i s9.heap∧(∀ b∈fp,H' b=none)∧H' D=some (.lst vs)∧aI H₂ H' ∧
       RS X.K H₂ H' σ' (List.replicate n none++Z.jm ρ is)∧(∃rest,Z.eD G t fe (List.replicate n none++Z.jm ρ is) (ds.drop i)=.ok rest∧zs++rest=ys)∧aG X.K H' zs vs:=by
     intro H9 s9 N5 Rk I9 Zs YM Oh Yq ZH Z0;refine⟨ds.length+1-(i+1),by lia,i+1,σ6,H9,N5,Rk,rfl,l4,YM,I9.qJ,T.keep _ _ _ yy λ b hb o e=>(I9.pin (b,o) (List.mem_append_right _ (List.mem_append_right _ (mv hb e)))).1,λ b hb=>?_,Zs,Oh,Yq,ZH,Z0⟩;obtain⟨o,e,_⟩:=T.obj _ _ yy b hb;exact(I9.pin (b,o) (List.mem_append_right _ (List.mem_append_right _ (mv hb e)))).2.1
    have Xd:H7 D=some (.lst vs):=FQ _ _ SM;cases ok with
    | false =>simp only[Bool.false_eq_true,if_false]at er ⊢;exact fin vs zs I7 Xd (Nat.le_succ_of_le YL) (Fs.trans FQ) (Wv (aI.refl _)) ⟨rest,er,ez⟩ (dz.up FQ)
    | true =>
     simp only[if_true]at er ⊢;obtain⟨y,ey,er⟩:=Z.Res.az er;obtain⟨Oy,ZI,er⟩:=Z.Res.az er;cases er;refine d! (he C s₂ H₂ _ s7 σ6 H7 (λ v H8=>aI H7 H8∧Den X.K H8 y v) I7 ⟨ρ1,y,TQ,ey,λ v H8 s8 d8=>⟨s8,d8⟩⟩) λ u8 s8 ⟨v8,H8,I8,Yl,RB,dy⟩=>?_;have Xc:H8 D=some (.lst vs):=RB _ _ Xd;have Tu:aI H₂ H8:=(Fs.trans FQ).trans RB;refine d! (xZ (X:=o3 X N' scope cl C fp s₂ H₂) _ s8 σ6 H8 (.ref D) [v8] (.ref D) [u8] (λ v H9=>v=.non∧H9=upd H8 D (.lst (vs++[v8]))) I8 rfl (.cons Yl .nil) ⟨D,vs,v8,rfl,rfl,Xc,?_,rfl,rfl⟩) λ _ s9 ⟨v9,H9,I9,_,_,e9⟩=>?_
     ·rw[sizeLine_eq];have:Z.line=16777216:=rfl;lia
     subst e9;have Oe:oG H8 (upd H8 D (.lst (vs++[v8]))):=kM Xc;have Oh:aI H₂ (upd H8 D (.lst (vs++[v8]))):=λ b o e=>by rw[a! (cy e Ia)];exact Tu b o e
     have Oz:=Wv RB;refine fin (vs++[v8]) (zs++[y]) I9 bV (by simp;lia) Oh ⟨Oh,⟨Oz.re.len,λ j l e=>?_,λ j k xs ys q e1=>absurd e1 (gv n is ρ j xs)⟩,λ j xs q e1=>absurd e1 (gv n is ρ j xs),Oz.xE,Oz.uK⟩ ⟨Oy,ZI,by rw[List.append_assoc];exact ez⟩ ((((dz.up FQ).up RB).append (aG.cons dy aG.nil)).ups Oe);obtain⟨v,h1,h2⟩:=Oz.re.get j l e;refine⟨v,h1,?_⟩;cases l with
     | val dd=>exact Den.ups (show Den X.K H8 dd v from h2) Oe
     | own xs=>exact absurd e (gv n is ρ j xs)
     | bor xs =>obtain⟨v',h3,h4⟩:=Oz.xE j xs e;rw[h1]at h3;cases h3;exact h4.up Oh
     | uK ks=>exact absurd e (sP n is ρ j ks)
     | Hm ks =>obtain⟨q',o',as,rfl,rk,t'⟩:=h2;exact⟨q',o',as,rfl,Oe.i! _ _ _ rk,t'.ups Oe⟩
     | PJ ps =>obtain⟨q',o',rfl,rk⟩:=h2;exact⟨q',o',rfl,Oe.i! _ _ _ rk⟩
   ·have:i=ds.length:=by lia
    subst this;rw[List.drop_length]at er;cases er;rw[List.append_nil]at ez;subst ez;refine d! (T.done (o3 X N' scope cl C fp s₂ H₂) rfl rfl rfl hcalm _ [] s' σ3 H3 (λ _ _=>False) I3 (BY Qy) FP (z.stop H3 Fs)) λ r s4 ⟨hr,J4⟩=>?_;subst hr;obtain⟨m',UX,_⟩:=J4.loc;have NA:∀b o,s₂.heap.get? b=some o->b≠C:=λ b o e=>(below b (by rw[<-hD];exact Heap.lt_size e)).1;have I9:Inv X pins σ H3 s4:=I2.Lc (s':=s4) J4.os J4.base J4.dW J4.bare λ b hb=>⟨(fo b hb).2.2.2.1,(fo b hb).2.1,(fo b hb).2.2.2.2.1,(fo b hb).2.2.2.2.2⟩
    have Tr:s₂.heap.objs.size≤C:=by rw[hD,hC];exact Nat.le_succ _
    refine⟨rfl,D,H3,vs,m',rfl,UX,I9,⟨J4.free,?_,Nat.le_trans I2.sz Tr,λ x c e=>?_,λ p hp=>?_⟩,Ia,Fs,SM,dz⟩
    ·exact Nat.ne_of_gt (Nat.lt_of_lt_of_le I2.lt Tr)
    ·exact Nat.ne_of_lt (Nat.lt_of_lt_of_le (wM x c e).1 Tr)
    ·exact NA p.1 p.2 (I2.pin p hp).1
 have hst:codeAny (model X.prog X.w) X.A (.compStart (.ListComp elt [⟨tg,iter,ifs,0⟩] scope pos) 0 (.ref it) (.ref D) (compEnvC scope cl C X.env)) (λ r s'=>r=.ok .next∧S4 X pins σ H₂ ys (.ref D) C s')
   { s₂ with heap:=h₁,toks:=s₂.toks+([]:List (Str×Value)).length }:=codeAny_compStart_list loop (T.self _ 0 _ _ _ Wr loop)
 exact hst
theorem bz{k:Nat}(h:k < n)(d:Z.D)(ρ ρ1:Z.Env)(e:Z.bA k d ρ=.ok ρ1):ρ1.length=ρ.length∧∀i,n≤i->ρ1[i]?=ρ[i]?:=by cases e;exact⟨by simp,λ i hi=>List.getElem?_set_ne (by lia)⟩
theorem ui:∀(ks:List Nat),(∀k∈ks,k < n)->∀(ds:List Z.D)(ρ ρ1:Z.Env),Z.kh ks ds ρ=.ok ρ1->ρ1.length=ρ.length∧∀i,n≤i->ρ1[i]?=ρ[i]?
 | [],_,[],ρ,ρ1,e=>by cases e;exact⟨rfl,λ _ _=>rfl⟩
 | [],_,_ :: _,_,_,e=>by cases e
 | _ :: _,_,[],_,_,e=>by cases e
 | k :: ks,h,d :: ds,ρ,ρ1,e=>by obtain⟨h1,h2⟩:=ui ks (λ k hk=>h k (List.mem_cons_of_mem _ hk)) ds _ ρ1 e;refine⟨by rw[h1];simp,λ i hi=>?_⟩;rw[h2 i hi];have:=h k List.mem_cons_self;exact List.getElem?_set_ne (by lia)
theorem oT{ks:List Nat}(h:∀k∈ks,k < n)(d:Z.D)(ρ ρ1:Z.Env)(e:Z.ka ks d ρ=.ok ρ1):ρ1.length=ρ.length∧∀i,n≤i->ρ1[i]?=ρ[i]?:=by
 unfold Z.ka at e;split at e
 ·exact ui ks h _ ρ ρ1 e
 ·cases e
def Lh(X:Cx)(ifs:List Expr)(t:Z.TF):Prop:=∀(pins:List (Addr×Obj))(s:Shared)(σ:St)(H:Hp)(Q:Bool->Hp->Prop),Inv X pins σ H s->N8 X.K t σ H Q ->
 wpAny (model X.prog X.w) X.A (forIn ifs true λ c r=>if r=true then do let ok ←isTrue c X.env (eval c X.env);pure (ForInStep.yield ok)else pure (ForInStep.yield r)) (TP X pins σ Q) X.xe s
theorem d9:Lh X [] Z.dR:=λ pins s σ H Q I ⟨ρ,b,r,e,k⟩=>by cases e;exact wpAny_tests_nil ⟨H,I,k H (aI.refl H)⟩
theorem gC{c:Expr}{t:Z.TF}(h:DT X c t):Lh X [c] t:=λ pins s σ H Q I w=>wpAny_tests_one (h pins s σ H Q I w)
theorem Bv{it:Z.LF}{G:Z.GF}{t:Z.TF}{fe:Z.EF}{pins:List (Addr×Obj)}{σ:St}{H:Hp}{s:Shared}{ρ:Z.Env}{ys:List Z.D}{use:Option (Value->Sem Unit)}{Q:Value->Shared->Prop}{ps:Pos}(hcalm:X.calm=true)(hi:DI X tg iter it)(B:lE X.N N' n is scope X.env.scope)
  (hG:∀d ρ ρ1,G d ρ=.ok ρ1->ρ1.length=ρ.length∧∀i,n≤i->ρ1[i]?=ρ[i]?)
  (hg:∀cl C fp s H H0,DG (o3 X N' scope cl C fp s H) H0 tg G) (ht:∀cl C fp s H,Lh (o3 X N' scope cl C fp s H) ifs t) (he:∀cl C fp s H,DE (o3 X N' scope cl C fp s H) elt fe)
  (hs:∀x,foldedSetIterable iter X.env x=pure x)
  (I:Inv X pins σ H s) (re:RE X.K H σ ρ) (ec:Z.cf it n is G t fe ρ=.ok ys)
  (fin:∀acc C s' H₂,aI H H₂->S4 X pins σ H₂ ys acc C s'->compPost (model X.prog X.w) X.A X.xe use Q acc C (.ok .next) s') :
  wpAny (model X.prog X.w) X.A (comprehension (.ListComp elt [⟨tg,iter,ifs,0⟩] scope pos) scope X.env ps (newList []) false (eval iter X.env) use) Q X.xe s:=by
 obtain⟨ds,ei,ec⟩:=Z.Res.az ec;unfold Z.guard at ec;split at ec
 ·rename_i hlen;have ug:∀y∈scope.names,y.2=.free->∃c,X.env.cells.lookup y.1=some c:=λ y hy hf=>I.ok.has y.1 (B.free y hy hf);obtain⟨cl,xo,kK,wb⟩:=lB ug;refine wpAny_comprehension_free (use:=use) rfl hs xo B.kind B.loc ?_;refine d! (hi pins s σ H (λ J H₂=>aI H H₂∧D? X.K J (aI H₂) ds) I ⟨ρ,ds,re,ei,λ J H' s' z=>⟨s',z⟩⟩) λ x s₁ h₁=>?_;refine d! h₁ λ Ux s₂ ⟨it',fp,tn,J,H₂,e2,I2,T,Of,fo,sm,z⟩=>?_;subst e2;refine d! (Hy (iter:=iter) (pos:=pos) (cl:=cl) hcalm B I2 T Of fo z (re.up sm) kK wb hG (λ C s H H0=>hg cl C fp s H H0) (λ C s s' H' vw σ' N1 Q' I' w=>ht cl C fp s H' vw s' σ' N1 Q' I' w) (λ C s H=>he cl C fp s H) hlen ec) λ acc s₃ h₃=>?_;refine d! h₃ λ Kl s₄ h₄=>codeAny_mono h₄ λ r s' ⟨er,OA⟩=>?_;subst er;exact fin acc Kl.locals s' H₂ sm OA
 ·cases ec
theorem cW{it:Z.LF}{G:Z.GF}{t:Z.TF}{fe:Z.EF}(hcalm:X.calm=true)(hi:DI X tg iter it)(B:lE X.N N' n is scope X.env.scope)(hG:∀d ρ ρ1,G d ρ=.ok ρ1->ρ1.length=ρ.length∧∀i,n≤i->ρ1[i]?=ρ[i]?)
  (hg:∀cl C fp s H H0,DG (o3 X N' scope cl C fp s H) H0 tg G) (ht:∀cl C fp s H,Lh (o3 X N' scope cl C fp s H) ifs t) (he:∀cl C fp s H,DE (o3 X N' scope cl C fp s H) elt fe)
  (hs:∀x,foldedSetIterable iter X.env x=pure x:=by intro _;rfl):DL X (.ListComp elt [⟨tg,iter,ifs,0⟩] scope pos) (Z.cf it n is G t fe):=by
 intro pins s σ H Q I w;obtain⟨ρ,ys,re,e,k⟩:=w;rw[eval_ListComp];refine Bv (use:=none) hcalm hi B hG hg ht he hs I re e λ acc C s' H₂ sm OA=>?_;obtain⟨D,H',vs,m,rfl,Fu,I',off,Ia,Nn,hD,dz⟩:=OA;exact⟨m,Fu,λ h' NM=>⟨.ref D,H',off.inv I' NM,rfl,k D vs H' (sm.trans Nn) (sm.free Ia) hD dz⟩⟩
theorem Hx{it:Z.LF}{G:Z.GF}{t:Z.TF}{fe:Z.EF}{i:Nat}{x:Str}{px uw:Pos}{D:Ends}{pins:List (Addr×Obj)}{σ:St}{H:Hp}{s:Shared}{ρ:Z.Env}{ys:List Z.D}(hcalm:X.calm=true)(hN:X.N.Nodup)(hix:X.N[i]?=some x)(hx:Loc X.env.scope x)
  (hsw:swapsWith (.ListComp elt [⟨tg,iter,ifs,0⟩] scope pos) (some (.Name x px)) uw.line X.env=pure true) (hi:DI X tg iter it) (B:lE X.N N' n is scope X.env.scope) (hG:∀d ρ ρ1,G d ρ=.ok ρ1->ρ1.length=ρ.length∧∀i,n≤i->ρ1[i]?=ρ[i]?)
  (hg:∀cl C fp s H H0,DG (o3 X N' scope cl C fp s H) H0 tg G) (ht:∀cl C fp s H,Lh (o3 X N' scope cl C fp s H) ifs t) (he:∀cl C fp s H,DE (o3 X N' scope cl C fp s H) elt fe)
  (hs:∀x,foldedSetIterable iter X.env x=pure x) (hf:X.fn x=true∨X.env.scope.names.lookup x=some .local) (I:Inv X pins σ H s) (re:RE X.K H σ ρ) (e:Z.cf it n is G t fe ρ=.ok ys)
  (k:∀q vs H',aI H H'->H q=none->H' q=some (.lst vs)->aG X.K H' ys vs->∃N1,(∀s',Inv X pins (σ.set i (some (.ref q))) H' s'->Inv X pins (σ.set i (some (.ref q))) N1 s')∧D.nx (σ.set i (some (.ref q))) N1) :
  wpAny (model X.prog X.w) X.A (exec (.Assign [.Name x px] (.ListComp elt [⟨tg,iter,ifs,0⟩] scope pos) uw) X.env) (SP X pins D) X.xe s:=by
 rw[exec_Assign_Name_used _ _ _ _ hsw];refine wpAny_bind (wpAny_standAt (wpAny_bind ?_));show wpAny _ X.A (do let _ ←comprehension (.ListComp elt [⟨tg,iter,ifs,0⟩] scope pos) scope X.env _ (newList []) false (eval iter X.env) (some (assign (.Name x px) X.env))) _ _ s;refine wpAny_bind (wpAny_mono (Bv (use:=some (assign (.Name x px) X.env)) (Q:=λ _ s'=>SP X pins D .next s') hcalm hi B hG hg ht he hs I re e λ acc C s' H₂ sm OA=>?_) (λ _ s' hq=>wpAny_pure (wpAny_pure hq)) λ _ _ e=>e);obtain⟨q,H',vs,m,rfl,Fu,I',off,Ia,Nn,hD,dz⟩:=OA;obtain⟨N1,hI,Y3⟩:=k q vs H' (sm.trans Nn) (sm.free Ia) hD dz;refine wpAny_assign_Name (xM I' hN hix hx (v:=.ref q) rfl (λ RM I'' ⟨a,sb,ha⟩=>?_) hf);have Zu:C≠a:=by
  rcases ha with rfl | ha
  ·exact off.loc
  ·exact λ z=>off.cell x a ha z.symm
 refine⟨m,Fu.sameBut sb Zu,λ h' NM=>⟨_,N1,?_,Y3⟩⟩;exact hI _ (off.inv I'' NM)
theorem Ka{H0:Hp}{it:Z.LF}{G:Z.GF}{t:Z.TF}{fe:Z.EF}{i:Nat}{x:Str}{px uw:Pos}(hcalm:X.calm=true)(hN:X.N.Nodup)(hix:X.N[i]?=some x)(hx:Loc X.env.scope x)
  (hi:DI X tg iter it) (B:lE X.N N' n is scope X.env.scope) (hG:∀d ρ ρ1,G d ρ=.ok ρ1->ρ1.length=ρ.length∧∀i,n≤i->ρ1[i]?=ρ[i]?)
  (hg:∀cl C fp s H H0,DG (o3 X N' scope cl C fp s H) H0 tg G) (ht:∀cl C fp s H,Lh (o3 X N' scope cl C fp s H) ifs t) (he:∀cl C fp s H,DE (o3 X N' scope cl C fp s H) elt fe)
  (hsw:swapsWith (.ListComp elt [⟨tg,iter,ifs,0⟩] scope pos) (some (.Name x px)) uw.line X.env=pure true:=by rfl)
  (hs:∀x,foldedSetIterable iter X.env x=pure x:=by intro _;rfl) (hf:X.fn x=true∨X.env.scope.names.lookup x=some .local:=by first | exact .inl rfl | exact .inr rfl | assumption) :
  DS X H0 (.Assign [.Name x px] (.ListComp elt [⟨tg,iter,ifs,0⟩] scope pos) uw) (Z.nB i (Z.cf it n is G t fe)):=by
 intro pins s σ H D I w;obtain⟨ρ,fl,rs,e,k⟩:=w;obtain⟨ys,ey,e⟩:=Z.Res.az e;cases e;refine Hx hcalm hN hix hx hsw hi B hG hg ht he hs hf I rs.re ey λ q vs H' s' hn h1 t'=>⟨H',λ _ j=>j,?_⟩
 exact k _ H' (w4 s') ((rs.up s').Oj h1 t' (rs.same.free hn) λ j xs _ e=>rs.WB hn j xs e)
theorem iM{H0 : Hp}{it : Z.LF}{G : Z.GF}{t : Z.TF}{fe : Z.EF}{i : Nat}{x : Str}{px uw : Pos}(hcalm : X.calm = true)(hN : X.N.Nodup)(hix : X.N[i]? = some x)(hx : Loc X.env.scope x)
  (hi:DI X tg iter it) (B:lE X.N N' n is scope X.env.scope) (hG:∀d ρ ρ1,G d ρ=.ok ρ1->ρ1.length=ρ.length∧∀i,n≤i->ρ1[i]?=ρ[i]?)
  (hg:∀cl C fp s H H0,DG (o3 X N' scope cl C fp s H) H0 tg G) (ht:∀cl C fp s H,Lh (o3 X N' scope cl C fp s H) ifs t) (he:∀cl C fp s H,DE (o3 X N' scope cl C fp s H) elt fe)
  (hsw:swapsWith (.ListComp elt [⟨tg,iter,ifs,0⟩] scope pos) (some (.Name x px)) uw.line X.env=pure true:=by rfl)
  (hs:∀x,foldedSetIterable iter X.env x=pure x:=by intro _;rfl) (hf:X.fn x=true∨X.env.scope.names.lookup x=some .local:=by first | exact .inl rfl | exact .inr rfl | assumption) :
  DS X H0 (.Assign [.Name x px] (.ListComp elt [⟨tg,iter,ifs,0⟩] scope pos) uw) (Z.aM i (Z.eL (Z.cf it n is G t fe))):=by
 have h1:DS X H0 (.Assign [.Name x px] (.ListComp elt [⟨tg,iter,ifs,0⟩] scope pos) uw) (Z.nB i (Z.cf it n is G t fe)):=Ka hcalm hN hix hx hi B hG hg ht he hsw hs hf;intro pins s σ H D I w;obtain⟨ρ,fl,rs,e,k⟩:=w;obtain⟨d,ed,e⟩:=Z.Res.az e;cases e;unfold Z.eL at ed;cases ey:Z.cf it n is G t fe ρ with
 | bad=>rw[ey]at ed;cases ed
 | ok ys =>
  rw[ey]at ed;cases ed;refine d! (h1 pins s σ H { D with nx:=λ σ' H'=>oG H H'∧RS X.K H0 H' σ' (ρ.set i (some (.own ys))) } I ⟨ρ,.nx (ρ.set i (some (.own ys))),rs,by show(Z.cf it n is G t fe ρ).bind _=_;rw[ey];rfl,λ σ' H' s' r'=>⟨s',r'⟩⟩) λ ZD s' h=>?_;cases ZD with
  | next =>
   obtain⟨σ',H',I',Ah,HW⟩:=h;by_cases hl:i < ρ.length
   ·have ei:(ρ.set i (some (Z.L.own ys)))[i]?=some (some (.own ys)):=List.getElem?_set_self hl;obtain⟨v,si,q,us,rfl,hq,t'⟩:=HW.re.get i _ ei;obtain⟨o,I2⟩:=qc I' hq;have r2:=HW.i! (o:=o) ei si hq t';rw[List.set_set]at r2;exact⟨σ',_,I2,k σ' _ (Ah.trans (kM hq)) r2⟩
   ·have e0:ρ.set i (some (Z.L.own ys))=ρ:=List.set_eq_of_length_le (by lia);have e1:ρ.set i (some (Z.L.val (.lst ys)))=ρ:=List.set_eq_of_length_le (by lia);rw[e0]at HW;have k':=k;rw[e1]at k';exact⟨σ',H',I',k' σ' H' Ah HW⟩
  | brk=>exact h
  | cont=>exact h
  | ret u=>exact h
end
section
variable {P:Program}{w:World}{K:PySem.W.Frag}{mg:Str->Option Value}{base:Heap}
theorem rS{N:List Str}{vs:List V}{ds:List Z.D}{H:Hp}(t:aG K H ds vs)(hl:vs.length≤N.length):RS K H H (L2.start N vs) (Z.start N.length ds):=by
 have KU:∀(i:Nat)(xs:List Z.D),(Z.start N.length ds)[i]?≠some (some (.own xs)):=by
  intro i xs e;unfold Z.start at e;by_cases hi:i < ds.length
  ·rw[List.getElem?_append_left (by simpa using hi),List.getElem?_map]at e;cases q:ds[i]? with
   | none=>rw[q]at e;cases e
   | some d=>rw[q]at e;cases e
  ·rw[List.getElem?_append_right (by simpa using hi),List.getElem?_replicate]at e;split at e<;>cases e
 have Pj:∀(i:Nat)(xs:List Z.D),(Z.start N.length ds)[i]?≠some (some (.bor xs)):=by
  intro i xs e;unfold Z.start at e;by_cases hi:i < ds.length
  ·rw[List.getElem?_append_left (by simpa using hi),List.getElem?_map]at e;cases q:ds[i]? with
   | none=>rw[q]at e;cases e
   | some d=>rw[q]at e;cases e
  ·rw[List.getElem?_append_right (by simpa using hi),List.getElem?_replicate]at e;split at e<;>cases e
 have Ph:∀(i:Nat)(ks:List (List Int)),(Z.start N.length ds)[i]?≠some (some (.uK ks)):=by
  intro i ks e;unfold Z.start at e;by_cases hi:i < ds.length
  ·rw[List.getElem?_append_left (by simpa using hi),List.getElem?_map]at e;cases q:ds[i]? with
   | none=>rw[q]at e;cases e
   | some d=>rw[q]at e;cases e
  ·rw[List.getElem?_append_right (by simpa using hi),List.getElem?_replicate]at e;split at e<;>cases e
 have hlen:=t.length;refine⟨aI.refl H,⟨?_,λ i l e=>?_,λ i j xs ys q e1=>absurd e1 (KU i xs)⟩,λ i xs q e1=>absurd e1 (KU i xs),λ i xs e1=>absurd e1 (Pj i xs),nz.non Ph⟩
 ·unfold Z.start L2.start;simp;lia
 ·unfold Z.start at e;by_cases hi:i < ds.length
  ·rw[List.getElem?_append_left (by simpa using hi),List.getElem?_map]at e;cases q:ds[i]? with
   | none=>rw[q]at e;cases e
   | some d =>rw[q]at e;cases e;obtain⟨v,h1,h2⟩:=t.get q;refine⟨v,?_,h2⟩;unfold L2.start;rw[List.getElem?_append_left (by simp;lia),List.getElem?_map,h1];rfl
  ·rw[List.getElem?_append_right (by simpa using hi),List.getElem?_replicate]at e;split at e<;>cases e
theorem Xo{x qual:Str}{st:Stmt}{f:Addr}{fd:FuncData}{N ps:List Str}{k:Nat}{b:Z.SF}(F:HM K x qual st f fd)(S:aA N ps (au st))
  (hb:∀ (bP:Value) (A:Around) (outer:List Env) (s:Shared) (H:Hp) (E:XK),eM k (A.deeper (envOfC qual (au st) s.heap.objs.size f bP)) ->
   BI (nD tI P w K mg base N qual (au st) f bP A outer s H E).z8 H (bO st) b):nE P w K mg base tI (k+1) f fd ps (z6 K (Z.fn ps.length N.length b)):=by
 have hlen:∀(vs:List V)(H:Hp)(Q:VK)(E:XK),z6 K (Z.fn ps.length N.length b) vs H Q E->vs.length=ps.length:=λ vs H Q E ⟨ds,d,t,e,_⟩=>by
  unfold Z.fn at e;split at e
  ·rename_i h;rw[t.length];exact h
  ·cases e
 refine F.ok S hlen (λ bP A outer s H vs Q E hr h=>⟨_,hb bP A outer s H E hr,?_⟩);have hl:=hlen vs H Q E h;obtain⟨ds,d,t,e,k⟩:=h;have hpl:ps.length≤N.length:=by have:=congrArg List.length S.pre;rw[List.length_take]at this;lia
 have rs:RS K H H (L2.start N vs) (Z.start N.length ds):=rS t (by lia);unfold Z.fn at e;split at e
 ·cases eb:b (Z.start N.length ds)with
  | bad=>rw[eb]at e;cases e
  | ok fl =>
   rw[eb]at e;refine⟨_,fl,rs,eb,?_⟩;cases fl with
   | rt d'=>cases e;exact λ v H' s' dv=>k v H' s' dv
   | nx ρ'=>cases e;exact λ σ' H' _ HW=>k .non H' HW.same rM
   | bk ρ'=>cases e
   | ct ρ'=>cases e
 ·cases e
end
end ZS
namespace ZS
open PySem PySem.Spec PyProof.Rows L2
def Le(N N':List Str)(n:Nat)(is:List Nat)(sc KP:Scope):Bool :=
 (sc.kind==.function)&&sc.names.all (λ y=>y.2 != .cell)&&sc.names.all (λ y=>y.2 != .local || sc.names.lookup y.1==some .local) &&
 sc.names.all (λ y=>y.2 != .free || KP.names.lookup y.1==some .cell || KP.names.lookup y.1==some .free)&&(N'.length==n+is.length) &&
 (List.range is.length).all (λ j=>match is[j]?,N'[n+j]? with
  | some i,some x=>N[i]?==some x&&sc.names.lookup x==some .free
  | _,_=>false) &&
 (List.range n).all (λ j=>match N'[j]? with
  | some x=>sc.names.lookup x==some .local
  | none=>false)
theorem lE.of{N N':List Str}{n:Nat}{is:List Nat}{sc KP:Scope}(h:Le N N' n is sc KP=true):lE N N' n is sc KP:=by
 unfold Le at h;simp only[Bool.and_eq_true,List.all_eq_true,beq_iff_eq,Bool.or_eq_true,bne_iff_ne,ne_eq,List.mem_range]at h;obtain⟨⟨⟨⟨⟨⟨h1,h2⟩,h3⟩,h4⟩,h5⟩,h6⟩,h7⟩:=h;refine⟨h1,h2,λ y hy e=>?_,λ y hy e=>?_,h5,λ j i e=>?_,λ j hj=>?_⟩
 ·rcases h3 y hy with q | q
  ·exact absurd e q
  ·exact q
 ·rcases h4 y hy with(q | q) | q
  ·exact absurd e q
  ·exact .inl q
  ·exact .inr q
 ·have hj:j < is.length:=(List.getElem?_eq_some_iff.mp e).1;have q:=h6 j hj;rw[e]at q;cases r:N'[n+j]? with
  | none=>rw[r]at q;cases q
  | some x =>rw[r]at q;simp only[Bool.and_eq_true,beq_iff_eq]at q;exact⟨x,rfl,q.1,q.2⟩
 ·have q:=h7 j hj;cases r:N'[j]? with
  | none=>rw[r]at q;cases q
  | some x =>rw[r]at q;exact⟨x,rfl,beq_iff_eq.mp q⟩
structure Def(K:PySem.W.Frag)(mg:Str->Option Value)(x:Str)(st:Stmt)(ps:List Str):Prop where
 ex:∃f fd,HM K x x st f fd∧mg x=some (.ref f)∧Binds K fd ps []
structure fK(P:Program)(w:World)(K:PySem.W.Frag)(mg:Str->Option Value)(base:Heap)(x:Str)(k:Nat)(ps:List Str)(m:List Z.D->Z.Res Z.D):Prop where
 ex:∃g fd,nE P w K mg base tI k g fd ps (z6 K m)∧mg x=some (.ref g)∧PySem.W.keepIn K (.ref g)=true∧Binds K fd ps []
theorem fK.mk'{P:Program}{w:World}{K:PySem.W.Frag}{mg:Str->Option Value}{base:Heap}{x:Str}{k:Nat}{st:Stmt}{N ps:List Str}{b:Z.SF}(d:Def K mg x st ps)(S:aA N ps (au st))
  (hb:∀ (f:Addr) (bP:Value) (A:Around) (outer:List Env) (s:Shared) (H:Hp) (E:XK),eM k (A.deeper (envOfC x (au st) s.heap.objs.size f bP)) ->
   BI (nD tI P w K mg base N x (au st) f bP A outer s H E).z8 H (bO st) b):fK P w K mg base x (k+1) ps (Z.fn ps.length N.length b):=by
 obtain⟨f,fd,F,hm,EX⟩:=d.ex;exact⟨f,fd,Xo F S (hb f),hm,F.kp,EX⟩
section
variable {X:Cx}{e:Expr}{es:List Expr}{pos:Pos}
theorem aj{k:Nat}{ps:List Str}{x:Str}{m:List Z.D->Z.Res Z.D}{ar:Z.AF}{p1:Pos}(C:fK X.prog X.w X.K X.mg X.base x k ps m)(hr:eM k X.A)(hg:Gl X x)
  (ha:DA X (e :: es) ar) (hdb:(x==("__debug__" : Str))=false:=by decide +kernel) (he:starEach (e :: es) X.env=(false,eval e X.env) :: starEach es X.env:=by rfl) (hpl:(backTo pos (starEach es X.env)).any (·.1)=false:=by rfl) :
  DE X (.Call (.Name x p1) (e :: es) [] pos) (Z.aw m ar) :=
 let ⟨_,_,F,hm,hk,hb⟩:=C.ex;Kf F hr hg hm hk hb ha hdb he hpl
end
theorem dk{X:Cx}{pos:Pos}{x:Str}{i:Int}{t:Tok}(hg:Gl X x)(hm:X.mg x=some (.int i t))(hb:(x==("__debug__" : Str))=false:=by decide +kernel):DE X (.Name x pos) (Z.eC (.int i)) :=
 Ke (v:=.int i) hg hm ⟨t,rfl⟩ (λ _=>c7) hb
theorem B0{K:PySem.W.Frag}{H:Hp}{a:Addr}{ns:List Int}(hO:Kw H)(h:i? K H a (ns.map V.int)):Den K H (.lst (ns.map Z.D.int)) (.ref a):=by
 refine zu ?_ (aG.dq ns);rcases h with(h | ⟨o,h⟩) | h
 ·rcases hO a with z | ⟨o,xs,z⟩ | ⟨q,z⟩
  ·rw[h]at z;cases z
  ·rw[h]at z;cases z
  ·rw[h]at z;cases z
 ·exact .inl ⟨o,h⟩
 ·exact .inr h
theorem Mi{K:PySem.W.Frag}{H:Hp}{a:Addr}{ns:List Int}{m:List Z.D->Z.Res Z.D}(hO:Kw H)(h:i? K H a (ns.map V.int))(e:m [.lst (ns.map .int)]=.ok (.bl true)):z6 K m [.ref a] H (λ v _=>v=.bl true) λ _ _ _=>False :=
 ⟨_,_,aG.cons (B0 hO h) aG.nil,e,λ v H' _ d=>by simpa only[Den]using d⟩
end ZS
namespace ZS
open PySem PySem.Spec PyProof.Rows L2
section
variable {X:Cx}{e a b:Expr}{pos:Pos}{f fa fb:Z.EF}
theorem Ae(x y:List Nat):((⟨x.toArray⟩:Str)==(⟨y.toArray⟩:Str))=(x==y):=by
 rw[Bool.eq_iff_iff,beq_iff_eq,beq_iff_eq];constructor
 ·intro h;injection h with h;simpa using h
 ·rintro rfl;rfl
theorem qV{A:Around}{s:Shared}{K:PySem.W.Frag}{H:Hp}{d1 d2:Z.D}{v1 v2:V}{u1 u2:Value}{k:Bool}(h:Z.FA d1 d2=some k)(h1:bQ K H d1 v1)(h2:bQ K H d2 v2)(r1:RelV v1 u1)(r2:RelV v2 u2):SeqAt.RcAt A s u1 u2 k∧SeqAt.EqAt A s u1 u2 k∧SeqAt.RcNeAt A s u1 u2 (!k):=by
 unfold Z.FA at h;split at h
 ·cases h;rw[h1.non]at r1;rw[h2.non]at r2;cases r1;cases r2;exact⟨SeqAt.RcAt.none_none,SeqAt.EqAt.same _,SeqAt.RcNeAt.none_none⟩
 ·cases h;rw[h1.bl]at r1;rw[h2.bl]at r2;cases r1;cases r2;exact⟨SeqAt.RcAt.bool_bool _ _,SeqAt.EqAt.bool_bool _ _,SeqAt.RcNeAt.bool_bool _ _⟩
 ·cases h;rw[h1.bl]at r1;rw[h2.int]at r2;cases r1;obtain⟨t,rfl⟩:=r2;exact⟨SeqAt.RcAt.bool_int _ _ _,SeqAt.EqAt.bool_int _ _ _,SeqAt.RcNeAt.bool_int _ _ _⟩
 ·cases h;rw[h1.int]at r1;rw[h2.bl]at r2;cases r2;obtain⟨t,rfl⟩:=r1;exact⟨SeqAt.RcAt.int_bool _ _ _,SeqAt.EqAt.int_bool _ _ _,SeqAt.RcNeAt.int_bool _ _ _⟩
 ·cases h;rw[h1.int]at r1;rw[h2.int]at r2;obtain⟨t,rfl⟩:=r1;obtain⟨t',rfl⟩:=r2;exact⟨SeqAt.RcAt.int_int _ _ _ _,SeqAt.EqAt.int_int _ _ _ _,SeqAt.RcNeAt.int_int _ _ _ _⟩
 ·cases h;rw[h1.str]at r1;rw[h2.str]at r2;obtain⟨t,rfl⟩:=r1;obtain⟨t',rfl⟩:=r2;rw[<-Ae];exact⟨SeqAt.RcAt.str_str _ _ _ _,SeqAt.EqAt.str_str _ _ _ _,SeqAt.RcNeAt.str_str _ _ _ _⟩
 ·cases h;rw[h1.non]at r1;rw[h2.bl]at r2;cases r1;cases r2;exact⟨SeqAt.RcAt.none_bool _,SeqAt.EqAt.none_bool _,SeqAt.RcNeAt.none_bool _⟩
 ·cases h;rw[h1.non]at r1;rw[h2.int]at r2;cases r1;obtain⟨t,rfl⟩:=r2;exact⟨SeqAt.RcAt.none_int _ _,SeqAt.EqAt.none_int _ _,SeqAt.RcNeAt.none_int _ _⟩
 ·cases h;rw[h1.non]at r1;rw[h2.str]at r2;cases r1;obtain⟨t,rfl⟩:=r2;exact⟨SeqAt.RcAt.none_str _ _,SeqAt.EqAt.none_str _ _,SeqAt.RcNeAt.none_str _ _⟩
 ·cases h;rw[h1.bl]at r1;rw[h2.non]at r2;cases r1;cases r2;exact⟨SeqAt.RcAt.bool_none _,SeqAt.EqAt.bool_none _,SeqAt.RcNeAt.bool_none _⟩
 ·cases h;rw[h1.bl]at r1;rw[h2.str]at r2;cases r1;obtain⟨t,rfl⟩:=r2;exact⟨SeqAt.RcAt.bool_str _ _ _,SeqAt.EqAt.bool_str _ _ _,SeqAt.RcNeAt.bool_str _ _ _⟩
 ·cases h;rw[h1.int]at r1;rw[h2.non]at r2;cases r2;obtain⟨t,rfl⟩:=r1;exact⟨SeqAt.RcAt.int_none _ _,SeqAt.EqAt.int_none _ _,SeqAt.RcNeAt.int_none _ _⟩
 ·cases h;rw[h1.int]at r1;rw[h2.str]at r2;obtain⟨t,rfl⟩:=r1;obtain⟨t',rfl⟩:=r2;exact⟨SeqAt.RcAt.int_str _ _ _ _,SeqAt.EqAt.int_str _ _ _ _,SeqAt.RcNeAt.int_str _ _ _ _⟩
 ·cases h;rw[h1.str]at r1;rw[h2.non]at r2;cases r2;obtain⟨t,rfl⟩:=r1;exact⟨SeqAt.RcAt.str_none _ _,SeqAt.EqAt.str_none _ _,SeqAt.RcNeAt.str_none _ _⟩
 ·cases h;rw[h1.str]at r1;rw[h2.bl]at r2;cases r2;obtain⟨t,rfl⟩:=r1;exact⟨SeqAt.RcAt.str_bool _ _ _,SeqAt.EqAt.str_bool _ _ _,SeqAt.RcNeAt.str_bool _ _ _⟩
 ·cases h;rw[h1.str]at r1;rw[h2.int]at r2;obtain⟨t,rfl⟩:=r1;obtain⟨t',rfl⟩:=r2;exact⟨SeqAt.RcAt.str_int _ _ _ _,SeqAt.EqAt.str_int _ _ _ _,SeqAt.RcNeAt.str_int _ _ _ _⟩
 ·cases h
def w5(g:Z.D->Z.D->Option Bool)(as bs:List Z.D)(j:Nat):Bool:=match as[j]?,bs[j]? with
 | some x,some y=>(g x y).getD false
 | _,_=>true
theorem lZ{g : Z.D -> Z.D -> Option Bool}: ∀{as bs : List Z.D}{k : Bool}, Z.allEq g as bs = some k -> k = ((List.range (min as.length bs.length)).all (w5 g as bs) && as.length == bs.length) ∧ ∀(j : Nat) x y, as[j]? = some x -> bs[j]? = some y -> g x y = some (w5 g as bs j)
 | [],[],k,h=>by cases h;exact⟨rfl,λ j x y e=>by simp at e⟩
 | [],_ :: _,k,h=>by cases h;exact⟨by simp,λ j x y e=>by simp at e⟩
 | _ :: _,[],k,h=>by cases h;exact⟨by simp,λ j x y _ e=>by simp at e⟩
 | a :: as,b :: bs,k,h=>by
  unfold Z.allEq at h;split at h
  ·rename_i p q e1 e2;cases h;obtain⟨h1,h2⟩:=lZ e2;refine⟨?_,λ j x y ex ey=>?_⟩
   ·have:min (a :: as).length (b :: bs).length=min as.length bs.length+1:=by simp only[List.length_cons];lia
    rw[this,List.range_succ_eq_map,List.all_cons,List.all_map,h1];have e0:w5 g (a :: as) (b :: bs) 0=p:=by simp[w5,e1]
    have es:(w5 g (a :: as) (b :: bs)∘Nat.succ)=w5 g as bs:=by funext j;simp[w5]
    have el:((a :: as).length==(b :: bs).length)=(as.length==bs.length):=by rw[Bool.eq_iff_iff];simp
    rw[e0,es,el,Bool.and_assoc]
   ·cases j with
    | zero=>simp at ex ey;subst ex ey;simp[w5,e1]
    | succ j =>have:=h2 j x y (by simpa using ex) (by simpa using ey);simpa[w5]using this
  ·cases h
theorem vY{pins:List (Addr×Obj)}{σ:St}{H:Hp}{s:Shared}(I:Inv X pins σ H s)(n:Nat){A:Around}(hu:A.units+n < cLine)
  (ih:∀{A:Around}{d1 d2:Z.D}{v1 v2:V}{u1 u2:Value}{k:Bool},A.units+n < cLine->Z.dC n d1 d2=some k->bQ X.K H d1 v1->bQ X.K H d2 v2->RelV v1 u1->RelV v2 u2->SeqAt.RcAt A s u1 u2 k∧SeqAt.EqAt A s u1 u2 k∧SeqAt.RcNeAt A s u1 u2 (!k))
  {as bs:List Z.D}{vs ws:List V}{aY e?:List Value}{k:Bool}(hk:Z.allEq (Z.dC n) as bs=some k) (ta:aG X.K H as vs) (tb:aG X.K H bs ws) (ra:Vals vs aY) (rb:Vals ws e?) :
   ∀j (h1:j < aY.toArray.size) (h2:j < e?.toArray.size),SeqAt.EqAt A s aY.toArray[j] e?.toArray[j] (w5 (Z.dC n) as bs j):=by
  intro j P? P!;have la:=ta.length;have lb:=tb.length;have OB:=ra.length;have RU:=rb.length;simp only[List.size_toArray]at P? P!;obtain⟨x,ex⟩:∃x,as[j]?=some x:=⟨as[j]'(by lia),List.getElem?_eq_getElem (by lia)⟩
  obtain⟨y,ey⟩:∃y,bs[j]?=some y:=⟨bs[j]'(by lia),List.getElem?_eq_getElem (by lia)⟩
  obtain⟨vx,QD,dx⟩:=ta.get ex;obtain⟨vy,Ib,dy⟩:=tb.get ey;obtain⟨ux,VD,rx⟩:=ra.get QD;obtain⟨uy,VC,ry⟩:=rb.get Ib;have e1:aY.toArray[j]=ux:=by have:=List.getElem?_eq_getElem P?;rw[VD]at this;simpa using(Option.some.inj this).symm
  have e2:e?.toArray[j]=uy:=by have:=List.getElem?_eq_getElem P!;rw[VC]at this;simpa using(Option.some.inj this).symm
  rw[e1,e2];exact(ih hu ((lZ hk).2 j x y ex ey) (.inl dx) (.inl dy) rx ry).2.1
theorem bE{K:PySem.W.Frag}{H:Hp}{d1 d2:Z.D}{v:V}{k:Bool}(h:Z.FA d1 d2=some k)(h1:bQ K H d1 v)(h2:bQ K H d2 v):k=true:=by
 unfold Z.FA at h;split at h<;>first
  | (cases h;rfl)
  | (cases h;done)
  | (have e:=h1.bl.symm.trans h2.bl;cases h;injection e with e;subst e;simp)
  | (have e:=h1.int.symm.trans h2.int;cases h;injection e with e;subst e;simp)
  | (have e:=h1.str.symm.trans h2.str;cases h;injection e with e;rw[<-Ae,e];simp)
  | (have e:=h1.bl.symm.trans h2.int;cases e)
  | (have e:=h1.int.symm.trans h2.bl;cases e)
  | (have e:=h1.non.symm.trans h2.bl;cases e)
  | (have e:=h1.non.symm.trans h2.int;cases e)
  | (have e:=h1.non.symm.trans h2.str;cases e)
  | (have e:=h1.bl.symm.trans h2.non;cases e)
  | (have e:=h1.bl.symm.trans h2.str;cases e)
  | (have e:=h1.int.symm.trans h2.non;cases e)
  | (have e:=h1.int.symm.trans h2.str;cases e)
  | (have e:=h1.str.symm.trans h2.non;cases e)
  | (have e:=h1.str.symm.trans h2.bl;cases e)
  | (have e:=h1.str.symm.trans h2.int;cases e)
theorem vX{K:PySem.W.Frag}{H:Hp}{n:Nat}(ih:∀{d1 d2:Z.D}{v:V}{k:Bool},Z.dC n d1 d2=some k->bQ K H d1 v->bQ K H d2 v->k=true){as bs:List Z.D}{vs:List V}{k:Bool}(h:Z.allEq (Z.dC n) as bs=some k)(ta:aG K H as vs)(tb:aG K H bs vs):k=true:=by
 obtain⟨h1,h2⟩:=lZ h;have la:=ta.length;have lb:=tb.length;rw[h1,show(as.length==bs.length)=true by simp;lia,Bool.and_true,List.all_eq_true];intro j hj;rw[List.mem_range]at hj;obtain⟨x,ex⟩:∃x,as[j]?=some x:=⟨as[j]'(by lia),List.getElem?_eq_getElem (by lia)⟩
 obtain⟨y,ey⟩:∃y,bs[j]?=some y:=⟨bs[j]'(by lia),List.getElem?_eq_getElem (by lia)⟩
 obtain⟨vx,QD,dx⟩:=ta.get ex;obtain⟨vy,Ib,dy⟩:=tb.get ey;rw[QD]at Ib;cases Ib;exact ih (h2 j x y ex ey) (.inl dx) (.inl dy)
theorem yJ{pins:List (Addr×Obj)}{σ:St}{H:Hp}{s:Shared}{a:Addr}{xs ys:List V}(I:Inv X pins σ H s)(h:oH X.K H a xs)(h':i? X.K H a ys):False:=by obtain⟨aY,r,⟨o,e,c,n,d⟩,_⟩:=I.tuple h;obtain⟨its',r',⟨o',n',e',c',_⟩,_⟩:=I.list h';rw[e]at e';cases e';rw[c]at c';injection c' with z;exact absurd z (by decide)
def sq:Z.D->Bool
 | .tup _=>true
 | .lst _=>true
 | _=>false
def dc:Z.D->Bool
 | .dct _ _=>true
 | _=>false
theorem aT(n:Nat){d1 d2:Z.D}(h:(sq d1=false∧sq d2=false)∨dc d1=true∨dc d2=true):Z.dC n d1 d2=Z.FA d1 d2:=by cases d1<;>cases d2<;>cases n<;>first | rfl | (simp[sq,dc]at h)
theorem E6{pins : List (Addr × Obj)}{σ : St}{H : Hp}{s : Shared}(I : Inv X pins σ H s)(n : Nat)(ih : ∀m, m < n -> ∀{d1 d2 : Z.D}{v : V}{k : Bool}, Z.dC m d1 d2 = some k -> bQ X.K H d1 v -> bQ X.K H d2 v -> k = true){d1 d2 : Z.D}{v : V}{k : Bool}(h : Z.dC n d1 d2 = some k)(h1 : bQ X.K H d1 v)(h2 : bQ X.K H d2 v): k = true := by
  cases d1<;>cases d2
  case non.non=>exact bE ((aT n (.inl ⟨rfl,rfl⟩)).symm.trans h) h1 h2
  case non.bl=>exact bE ((aT n (.inl ⟨rfl,rfl⟩)).symm.trans h) h1 h2
  case non.int=>exact bE ((aT n (.inl ⟨rfl,rfl⟩)).symm.trans h) h1 h2
  case non.str=>exact bE ((aT n (.inl ⟨rfl,rfl⟩)).symm.trans h) h1 h2
  case non.tup=>obtain⟨_,_,e,_⟩:=h2.tup;rw[e]at h1;cases h1.non
  case non.lst=>obtain⟨_,_,e,_⟩:=h2.lst;rw[e]at h1;cases h1.non
  case non.dct=>exact bE ((aT n (.inl ⟨rfl,rfl⟩)).symm.trans h) h1 h2
  case bl.non=>exact bE ((aT n (.inl ⟨rfl,rfl⟩)).symm.trans h) h1 h2
  case bl.bl=>exact bE ((aT n (.inl ⟨rfl,rfl⟩)).symm.trans h) h1 h2
  case bl.int=>exact bE ((aT n (.inl ⟨rfl,rfl⟩)).symm.trans h) h1 h2
  case bl.str=>exact bE ((aT n (.inl ⟨rfl,rfl⟩)).symm.trans h) h1 h2
  case bl.tup=>obtain⟨_,_,e,_⟩:=h2.tup;rw[e]at h1;cases h1.bl
  case bl.lst=>obtain⟨_,_,e,_⟩:=h2.lst;rw[e]at h1;cases h1.bl
  case bl.dct=>exact bE ((aT n (.inl ⟨rfl,rfl⟩)).symm.trans h) h1 h2
  case int.non=>exact bE ((aT n (.inl ⟨rfl,rfl⟩)).symm.trans h) h1 h2
  case int.bl=>exact bE ((aT n (.inl ⟨rfl,rfl⟩)).symm.trans h) h1 h2
  case int.int=>exact bE ((aT n (.inl ⟨rfl,rfl⟩)).symm.trans h) h1 h2
  case int.str=>exact bE ((aT n (.inl ⟨rfl,rfl⟩)).symm.trans h) h1 h2
  case int.tup=>obtain⟨_,_,e,_⟩:=h2.tup;rw[e]at h1;cases h1.int
  case int.lst=>obtain⟨_,_,e,_⟩:=h2.lst;rw[e]at h1;cases h1.int
  case int.dct=>exact bE ((aT n (.inl ⟨rfl,rfl⟩)).symm.trans h) h1 h2
  case str.non=>exact bE ((aT n (.inl ⟨rfl,rfl⟩)).symm.trans h) h1 h2
  case str.bl=>exact bE ((aT n (.inl ⟨rfl,rfl⟩)).symm.trans h) h1 h2
  case str.int=>exact bE ((aT n (.inl ⟨rfl,rfl⟩)).symm.trans h) h1 h2
  case str.str=>exact bE ((aT n (.inl ⟨rfl,rfl⟩)).symm.trans h) h1 h2
  case str.tup=>obtain⟨_,_,e,_⟩:=h2.tup;rw[e]at h1;cases h1.str
  case str.lst=>obtain⟨_,_,e,_⟩:=h2.lst;rw[e]at h1;cases h1.str
  case str.dct=>exact bE ((aT n (.inl ⟨rfl,rfl⟩)).symm.trans h) h1 h2
  case tup.non=>obtain⟨_,_,e,_⟩:=h1.tup;rw[e]at h2;cases h2.non
  case tup.bl=>obtain⟨_,_,e,_⟩:=h1.tup;rw[e]at h2;cases h2.bl
  case tup.int=>obtain⟨_,_,e,_⟩:=h1.tup;rw[e]at h2;cases h2.int
  case tup.str=>obtain⟨_,_,e,_⟩:=h1.tup;rw[e]at h2;cases h2.str
  case tup.tup =>
   cases n with
   | zero=>cases h
   | succ n =>obtain⟨_,_,e,q,ta⟩:=h1.tup;obtain⟨_,_,e',q',tb⟩:=h2.tup;rw[e]at e';cases e';have:=I.rQ q q';subst this;exact vX (ih n (Nat.lt_succ_self n)) h ta tb
  case tup.lst=>obtain⟨_,_,e,q,_⟩:=h1.tup;obtain⟨_,_,e',q',_⟩:=h2.lst;rw[e]at e';cases e';exact(yJ I q q').elim
  case tup.dct=>exact bE ((aT n (.inr (.inr rfl))).symm.trans h) h1 h2
  case lst.non=>obtain⟨_,_,e,_⟩:=h1.lst;rw[e]at h2;cases h2.non
  case lst.bl=>obtain⟨_,_,e,_⟩:=h1.lst;rw[e]at h2;cases h2.bl
  case lst.int=>obtain⟨_,_,e,_⟩:=h1.lst;rw[e]at h2;cases h2.int
  case lst.str=>obtain⟨_,_,e,_⟩:=h1.lst;rw[e]at h2;cases h2.str
  case lst.tup=>obtain⟨_,_,e,q,_⟩:=h1.lst;obtain⟨_,_,e',q',_⟩:=h2.tup;rw[e]at e';cases e';exact(yJ I q' q).elim
  case lst.lst =>
   cases n with
   | zero=>cases h
   | succ n =>obtain⟨_,_,e,q,ta⟩:=h1.lst;obtain⟨_,_,e',q',tb⟩:=h2.lst;rw[e]at e';cases e';have:=I.rf q q';subst this;exact vX (ih n (Nat.lt_succ_self n)) h ta tb
  case lst.dct=>exact bE ((aT n (.inr (.inr rfl))).symm.trans h) h1 h2
  case dct.non=>exact bE ((aT n (.inl ⟨rfl,rfl⟩)).symm.trans h) h1 h2
  case dct.bl=>exact bE ((aT n (.inl ⟨rfl,rfl⟩)).symm.trans h) h1 h2
  case dct.int=>exact bE ((aT n (.inl ⟨rfl,rfl⟩)).symm.trans h) h1 h2
  case dct.str=>exact bE ((aT n (.inl ⟨rfl,rfl⟩)).symm.trans h) h1 h2
  case dct.tup=>exact bE ((aT n (.inr (.inl rfl))).symm.trans h) h1 h2
  case dct.lst=>exact bE ((aT n (.inr (.inl rfl))).symm.trans h) h1 h2
  case dct.dct=>exact bE ((aT n (.inl ⟨rfl,rfl⟩)).symm.trans h) h1 h2
theorem Bo{pins:List (Addr×Obj)}{σ:St}{H:Hp}{s:Shared}(I:Inv X pins σ H s)(n:Nat):∀{d1 d2:Z.D}{v:V}{k:Bool},Z.dC n d1 d2=some k->bQ X.K H d1 v->bQ X.K H d2 v->k=true:=by
 induction n using Nat.strongRecOn with
 | _ n ih=>exact E6 I n ih
theorem TV{pins:List (Addr×Obj)}{σ:St}{H:Hp}{s:Shared}(I:Inv X pins σ H s)(n:Nat)(ih:∀m,m < n->∀{A:Around}{d1 d2:Z.D}{v1 v2:V}{u1 u2:Value}{k:Bool},A.units+m < cLine->Z.dC m d1 d2=some k->bQ X.K H d1 v1->bQ X.K H d2 v2->RelV v1 u1->RelV v2 u2->SeqAt.RcAt A s u1 u2 k∧SeqAt.EqAt A s u1 u2 k∧SeqAt.RcNeAt A s u1 u2 (!k)){A:Around}{d1 d2:Z.D}{v1 v2:V}{u1 u2:Value}{k:Bool}(hu:A.units+n < cLine)(h:Z.dC n d1 d2=some k)(h1:bQ X.K H d1 v1)(h2:bQ X.K H d2 v2)(r1:RelV v1 u1)(r2:RelV v2 u2):
  SeqAt.RcAt A s u1 u2 k∧SeqAt.EqAt A s u1 u2 k∧SeqAt.RcNeAt A s u1 u2 (!k):=by
  have gA:A.units < cLine:=by lia
  have w8:∀{ds:List Z.D}{v:V}{u:Value},bQ X.K H (.tup ds) v->RelV v u->∃q aY,u=.ref q∧s.heap.IsTuple q aY:=λ hd rv=>by obtain⟨q,vs,rfl,hq,_⟩:=hd.tup;cases rv;obtain⟨aY,_,p,_⟩:=I.tuple hq;exact⟨q,aY.toArray,rfl,p⟩
  have xm:∀{ds:List Z.D}{v:V}{u:Value},bQ X.K H (.lst ds) v->RelV v u->∃q aY,u=.ref q∧s.heap.IsList q aY:=λ hd rv=>by obtain⟨q,vs,rfl,hq,_⟩:=hd.lst;cases rv;obtain⟨aY,_,p,_⟩:=I.list hq;exact⟨q,aY.toArray,rfl,p.isList⟩
  cases d1<;>cases d2
  case non.non=>exact qV ((aT n (.inl ⟨rfl,rfl⟩)).symm.trans h) h1 h2 r1 r2
  case non.bl=>exact qV ((aT n (.inl ⟨rfl,rfl⟩)).symm.trans h) h1 h2 r1 r2
  case non.int=>exact qV ((aT n (.inl ⟨rfl,rfl⟩)).symm.trans h) h1 h2 r1 r2
  case non.str=>exact qV ((aT n (.inl ⟨rfl,rfl⟩)).symm.trans h) h1 h2 r1 r2
  case non.tup =>
   obtain rfl:k=false:=by cases n<;>cases h<;>rfl
   rw[h1.non]at r1;cases r1;obtain⟨q2,e?,rfl,p2⟩:=w8 h2 r2;exact⟨SeqAt.RcAt.none_tuple p2 gA,SeqAt.EqAt.none_tuple p2 gA,SeqAt.RcNeAt.none_tuple p2 gA⟩
  case non.lst =>
   obtain rfl:k=false:=by cases n<;>cases h<;>rfl
   rw[h1.non]at r1;cases r1;obtain⟨q2,e?,rfl,p2⟩:=xm h2 r2;exact⟨SeqAt.RcAt.none_list p2 gA,SeqAt.EqAt.none_list p2 gA,SeqAt.RcNeAt.none_list p2 gA⟩
  case non.dct=>exact qV ((aT n (.inl ⟨rfl,rfl⟩)).symm.trans h) h1 h2 r1 r2
  case bl.non=>exact qV ((aT n (.inl ⟨rfl,rfl⟩)).symm.trans h) h1 h2 r1 r2
  case bl.bl=>exact qV ((aT n (.inl ⟨rfl,rfl⟩)).symm.trans h) h1 h2 r1 r2
  case bl.int=>exact qV ((aT n (.inl ⟨rfl,rfl⟩)).symm.trans h) h1 h2 r1 r2
  case bl.str=>exact qV ((aT n (.inl ⟨rfl,rfl⟩)).symm.trans h) h1 h2 r1 r2
  case bl.tup =>
   obtain rfl:k=false:=by cases n<;>cases h<;>rfl
   rw[h1.bl]at r1;cases r1;obtain⟨q2,e?,rfl,p2⟩:=w8 h2 r2;exact⟨SeqAt.RcAt.bool_tuple _ p2 gA,SeqAt.EqAt.bool_tuple _ p2 gA,SeqAt.RcNeAt.bool_tuple _ p2 gA⟩
  case bl.lst =>
   obtain rfl:k=false:=by cases n<;>cases h<;>rfl
   rw[h1.bl]at r1;cases r1;obtain⟨q2,e?,rfl,p2⟩:=xm h2 r2;exact⟨SeqAt.RcAt.bool_list _ p2 gA,SeqAt.EqAt.bool_list _ p2 gA,SeqAt.RcNeAt.bool_list _ p2 gA⟩
  case bl.dct=>exact qV ((aT n (.inl ⟨rfl,rfl⟩)).symm.trans h) h1 h2 r1 r2
  case int.non=>exact qV ((aT n (.inl ⟨rfl,rfl⟩)).symm.trans h) h1 h2 r1 r2
  case int.bl=>exact qV ((aT n (.inl ⟨rfl,rfl⟩)).symm.trans h) h1 h2 r1 r2
  case int.int=>exact qV ((aT n (.inl ⟨rfl,rfl⟩)).symm.trans h) h1 h2 r1 r2
  case int.str=>exact qV ((aT n (.inl ⟨rfl,rfl⟩)).symm.trans h) h1 h2 r1 r2
  case int.tup =>
   obtain rfl:k=false:=by cases n<;>cases h<;>rfl
   rw[h1.int]at r1;obtain⟨t1,rfl⟩:=r1;obtain⟨q2,e?,rfl,p2⟩:=w8 h2 r2;exact⟨SeqAt.RcAt.int_tuple _ _ p2 gA,SeqAt.EqAt.int_tuple _ _ p2 gA,SeqAt.RcNeAt.int_tuple _ _ p2 gA⟩
  case int.lst =>
   obtain rfl:k=false:=by cases n<;>cases h<;>rfl
   rw[h1.int]at r1;obtain⟨t1,rfl⟩:=r1;obtain⟨q2,e?,rfl,p2⟩:=xm h2 r2;exact⟨SeqAt.RcAt.int_list _ _ p2 gA,SeqAt.EqAt.int_list _ _ p2 gA,SeqAt.RcNeAt.int_list _ _ p2 gA⟩
  case int.dct=>exact qV ((aT n (.inl ⟨rfl,rfl⟩)).symm.trans h) h1 h2 r1 r2
  case str.non=>exact qV ((aT n (.inl ⟨rfl,rfl⟩)).symm.trans h) h1 h2 r1 r2
  case str.bl=>exact qV ((aT n (.inl ⟨rfl,rfl⟩)).symm.trans h) h1 h2 r1 r2
  case str.int=>exact qV ((aT n (.inl ⟨rfl,rfl⟩)).symm.trans h) h1 h2 r1 r2
  case str.str=>exact qV ((aT n (.inl ⟨rfl,rfl⟩)).symm.trans h) h1 h2 r1 r2
  case str.tup =>
   obtain rfl:k=false:=by cases n<;>cases h<;>rfl
   rw[h1.str]at r1;obtain⟨t1,rfl⟩:=r1;obtain⟨q2,e?,rfl,p2⟩:=w8 h2 r2;exact⟨SeqAt.RcAt.str_tuple _ _ p2 gA,SeqAt.EqAt.str_tuple _ _ p2 gA,SeqAt.RcNeAt.str_tuple _ _ p2 gA⟩
  case str.lst =>
   obtain rfl:k=false:=by cases n<;>cases h<;>rfl
   rw[h1.str]at r1;obtain⟨t1,rfl⟩:=r1;obtain⟨q2,e?,rfl,p2⟩:=xm h2 r2;exact⟨SeqAt.RcAt.str_list _ _ p2 gA,SeqAt.EqAt.str_list _ _ p2 gA,SeqAt.RcNeAt.str_list _ _ p2 gA⟩
  case str.dct=>exact qV ((aT n (.inl ⟨rfl,rfl⟩)).symm.trans h) h1 h2 r1 r2
  case tup.non =>
   obtain rfl:k=false:=by cases n<;>cases h<;>rfl
   obtain⟨q1,yZ,rfl,p1⟩:=w8 h1 r1;rw[h2.non]at r2;cases r2;exact⟨SeqAt.RcAt.tuple_none p1 gA,SeqAt.EqAt.tuple_none p1 gA,SeqAt.RcNeAt.tuple_none p1 gA⟩
  case tup.bl =>
   obtain rfl:k=false:=by cases n<;>cases h<;>rfl
   obtain⟨q1,yZ,rfl,p1⟩:=w8 h1 r1;rw[h2.bl]at r2;cases r2;exact⟨SeqAt.RcAt.tuple_bool _ p1 gA,SeqAt.EqAt.tuple_bool _ p1 gA,SeqAt.RcNeAt.tuple_bool _ p1 gA⟩
  case tup.int =>
   obtain rfl:k=false:=by cases n<;>cases h<;>rfl
   obtain⟨q1,yZ,rfl,p1⟩:=w8 h1 r1;rw[h2.int]at r2;obtain⟨t2,rfl⟩:=r2;exact⟨SeqAt.RcAt.tuple_int _ _ p1 gA,SeqAt.EqAt.tuple_int _ _ p1 gA,SeqAt.RcNeAt.tuple_int _ _ p1 gA⟩
  case tup.str =>
   obtain rfl:k=false:=by cases n<;>cases h<;>rfl
   obtain⟨q1,yZ,rfl,p1⟩:=w8 h1 r1;rw[h2.str]at r2;obtain⟨t2,rfl⟩:=r2;exact⟨SeqAt.RcAt.tuple_str _ _ p1 gA,SeqAt.EqAt.tuple_str _ _ p1 gA,SeqAt.RcNeAt.tuple_str _ _ p1 gA⟩
  case tup.lst =>
   obtain rfl:k=false:=by cases n<;>cases h<;>rfl
   obtain⟨q1,yZ,rfl,p1⟩:=w8 h1 r1;obtain⟨q2,e?,rfl,p2⟩:=xm h2 r2;exact⟨SeqAt.RcAt.tuple_list p1 p2 gA,SeqAt.EqAt.tuple_list p1 p2 gA,SeqAt.RcNeAt.tuple_list p1 p2 gA⟩
  case tup.dct=>exact qV ((aT n (.inr (.inr rfl))).symm.trans h) h1 h2 r1 r2
  case lst.non =>
   obtain rfl:k=false:=by cases n<;>cases h<;>rfl
   obtain⟨q1,yZ,rfl,p1⟩:=xm h1 r1;rw[h2.non]at r2;cases r2;exact⟨SeqAt.RcAt.list_none p1 gA,SeqAt.EqAt.list_none p1 gA,SeqAt.RcNeAt.list_none p1 gA⟩
  case lst.bl =>
   obtain rfl:k=false:=by cases n<;>cases h<;>rfl
   obtain⟨q1,yZ,rfl,p1⟩:=xm h1 r1;rw[h2.bl]at r2;cases r2;exact⟨SeqAt.RcAt.list_bool _ p1 gA,SeqAt.EqAt.list_bool _ p1 gA,SeqAt.RcNeAt.list_bool _ p1 gA⟩
  case lst.int =>
   obtain rfl:k=false:=by cases n<;>cases h<;>rfl
   obtain⟨q1,yZ,rfl,p1⟩:=xm h1 r1;rw[h2.int]at r2;obtain⟨t2,rfl⟩:=r2;exact⟨SeqAt.RcAt.list_int _ _ p1 gA,SeqAt.EqAt.list_int _ _ p1 gA,SeqAt.RcNeAt.list_int _ _ p1 gA⟩
  case lst.str =>
   obtain rfl:k=false:=by cases n<;>cases h<;>rfl
   obtain⟨q1,yZ,rfl,p1⟩:=xm h1 r1;rw[h2.str]at r2;obtain⟨t2,rfl⟩:=r2;exact⟨SeqAt.RcAt.list_str _ _ p1 gA,SeqAt.EqAt.list_str _ _ p1 gA,SeqAt.RcNeAt.list_str _ _ p1 gA⟩
  case lst.tup =>
   obtain rfl:k=false:=by cases n<;>cases h<;>rfl
   obtain⟨q1,yZ,rfl,p1⟩:=xm h1 r1;obtain⟨q2,e?,rfl,p2⟩:=w8 h2 r2;exact⟨SeqAt.RcAt.list_tuple p1 p2 gA,SeqAt.EqAt.list_tuple p1 p2 gA,SeqAt.RcNeAt.list_tuple p1 p2 gA⟩
  case lst.dct=>exact qV ((aT n (.inr (.inr rfl))).symm.trans h) h1 h2 r1 r2
  case dct.non=>exact qV ((aT n (.inl ⟨rfl,rfl⟩)).symm.trans h) h1 h2 r1 r2
  case dct.bl=>exact qV ((aT n (.inl ⟨rfl,rfl⟩)).symm.trans h) h1 h2 r1 r2
  case dct.int=>exact qV ((aT n (.inl ⟨rfl,rfl⟩)).symm.trans h) h1 h2 r1 r2
  case dct.str=>exact qV ((aT n (.inl ⟨rfl,rfl⟩)).symm.trans h) h1 h2 r1 r2
  case dct.tup=>exact qV ((aT n (.inr (.inl rfl))).symm.trans h) h1 h2 r1 r2
  case dct.lst=>exact qV ((aT n (.inr (.inl rfl))).symm.trans h) h1 h2 r1 r2
  case dct.dct=>exact qV ((aT n (.inl ⟨rfl,rfl⟩)).symm.trans h) h1 h2 r1 r2
  case tup.tup as bs =>
   cases n with
   | zero=>cases h
   | succ n =>
    have hk:Z.allEq (Z.dC n) as bs=some k:=h;have hs:=λ(z:v1=v2)=>Bo I (n+1) (d1:=.tup as) (d2:=.tup bs) (v:=v1) h h1 (z▸h2);obtain⟨q,vs,rfl,hq,ta⟩:=h1.tup;obtain⟨q',ws,rfl,rk,tb⟩:=h2.tup;cases r1;cases r2;obtain⟨aY,ra,pa,_⟩:=I.tuple hq;obtain⟨e?,rb,pb,_⟩:=I.tuple rk;have hi:=vY I n (A:=A.in1) (show A.units+1+n < cLine by lia) (ih n (Nat.lt_succ_self n)) hk ta tb ra rb;have e:=(lZ hk).1;have la:=ta.length;have lb:=tb.length;have OB:=ra.length;have RU:=rb.length;have t1:=SeqAt.RcAt.tuples (s:=s) (A:=A) (show s.heap.IsTuple q aY.toArray from pa) (show s.heap.IsTuple q' e?.toArray from pb) gA hi;have t2:=SeqAt.RcNeAt.tuples (s:=s) (A:=A) (show s.heap.IsTuple q aY.toArray from pa) (show s.heap.IsTuple q' e?.toArray from pb) gA hi;simp only[List.size_toArray]at t1 t2;rw[<-OB,<-RU,la,lb,<-e]at t1 t2;refine⟨t1,?_,t2⟩;by_cases P0:q=q'
    ·subst P0;rw[hs rfl];exact SeqAt.EqAt.same _
    ·exact SeqAt.EqAt.of_refs P0 t1
  case lst.lst as bs =>
   cases n with
   | zero=>cases h
   | succ n =>
    have hk:Z.allEq (Z.dC n) as bs=some k:=h;have hs:=λ(z:v1=v2)=>Bo I (n+1) (d1:=.lst as) (d2:=.lst bs) (v:=v1) h h1 (z▸h2);obtain⟨q,vs,rfl,hq,ta⟩:=h1.lst;obtain⟨q',ws,rfl,rk,tb⟩:=h2.lst;cases r1;cases r2;obtain⟨aY,ra,pa,_⟩:=I.list hq;obtain⟨e?,rb,pb,_⟩:=I.list rk;have e:=(lZ hk).1;have la:=ta.length;have lb:=tb.length;have OB:=ra.length;have RU:=rb.length;have t:SeqAt.RcAt A s (.ref q) (.ref q') k∧SeqAt.RcNeAt A s (.ref q) (.ref q') (!k):=by
     by_cases hlen:as.length=bs.length
     ·have hi:=vY I n (A:=A.in1) (show A.units+1+n < cLine by lia) (ih n (Nat.lt_succ_self n)) hk ta tb ra rb;have t1:=SeqAt.RcAt.lists (s:=s) (A:=A) pa.isList pb.isList (by simp only[List.size_toArray];lia) gA hi;have t2:=SeqAt.RcNeAt.lists (s:=s) (A:=A) pa.isList pb.isList (by simp only[List.size_toArray];lia) gA hi;simp only[List.size_toArray]at t1 t2;rw[<-OB,la]at t1 t2;rw[hlen,Nat.min_self,beq_self_eq_true,Bool.and_true,<-hlen]at e;rw[<-e]at t1 t2;exact⟨t1,t2⟩
     ·have:(as.length==bs.length)=false:=by simpa using hlen
      rw[this,Bool.and_false]at e;subst e;exact⟨SeqAt.RcAt.lists_lengths pa.isList pb.isList (by simp only[List.size_toArray,bne_iff_ne,ne_eq];lia) gA,SeqAt.RcNeAt.lists_lengths pa.isList pb.isList (by simp only[List.size_toArray,bne_iff_ne,ne_eq];lia) gA⟩
    refine⟨t.1,?_,t.2⟩;by_cases P0:q=q'
    ·subst P0;rw[hs rfl];exact SeqAt.EqAt.same _
    ·exact SeqAt.EqAt.of_refs P0 t.1
theorem Nt{pins:List (Addr×Obj)}{σ:St}{H:Hp}{s:Shared}(I:Inv X pins σ H s)(n:Nat):∀{A:Around}{d1 d2:Z.D}{v1 v2:V}{u1 u2:Value}{k:Bool},A.units+n < cLine->Z.dC n d1 d2=some k->bQ X.K H d1 v1->bQ X.K H d2 v2->RelV v1 u1->RelV v2 u2->SeqAt.RcAt A s u1 u2 k∧SeqAt.EqAt A s u1 u2 k∧SeqAt.RcNeAt A s u1 u2 (!k):=by
 induction n using Nat.strongRecOn with
 | _ n ih=>exact TV I n ih
theorem qk(hu:X.A.units+64 < cLine):yq X .Eq Z.oEq:=by
 have ho:kI X (compareOp .Eq) (λ x y H Q=>∃d1 d2 k,bQ X.K H d1 x∧bQ X.K H d2 y∧Z.lF d1 d2=some k∧Q (.bl k) H):=by intro pins s σ H x y v u Q I rx ry h;obtain⟨d1,d2,k,h1,h2,e,q⟩:=h;exact(Nt I 6 (A:=X.A) (by lia) e h1 h2 rx ry).1 X.prog X.w X.xe _ ⟨.bl k,H,I,rfl,q⟩
 exact⟨_,ho,λ x y dx dy d H Q h1 h2 e k=>by
  unfold Z.oEq at e;split at e
  ·rename_i z hz;cases e;exact⟨dx,dy,z,h1,h2,hz,k _ H (aI.refl H) dt⟩
  ·cases e⟩
theorem uM(hu:X.A.units+64 < cLine):yq X .NotEq Z.qH:=by
 have ho:kI X (compareOp .NotEq) (λ x y H Q=>∃d1 d2 k,bQ X.K H d1 x∧bQ X.K H d2 y∧Z.lF d1 d2=some k∧Q (.bl (!k)) H):=by intro pins s σ H x y v u Q I rx ry h;obtain⟨d1,d2,k,h1,h2,e,q⟩:=h;exact(Nt I 6 (A:=X.A) (by lia) e h1 h2 rx ry).2.2 X.prog X.w X.xe _ ⟨.bl (!k),H,I,rfl,q⟩
 exact⟨_,ho,λ x y dx dy d H Q h1 h2 e k=>by
  unfold Z.qH at e;split at e
  ·rename_i z hz;cases e;exact⟨dx,dy,z,h1,h2,hz,k _ H (aI.refl H) dt⟩
  ·cases e⟩
theorem GU:∀{a b:Sum Int (List Nat)},EN a=EN b->a=b
 | .inl a,.inl b,h=>by injection h with h;rw[h]
 | .inl _,.inr _,h=>by cases h
 | .inr _,.inl _,h=>by cases h
 | .inr a,.inr b,h=>by
  injection h with h
  injection h with h
  have:a=b:=by simpa using congrArg Array.toList h
  rw[this]
theorem ya:∀{a b:List (Sum Int (List Nat))},a.map EN=b.map EN->a=b
 | [],[],_=>rfl
 | [],_ :: _,h=>by cases h
 | _ :: _,[],h=>by cases h
 | a :: as,b :: bs,h=>by simp only[List.map_cons,List.cons.injEq]at h;rw[GU h.1,ya h.2]
theorem DY{pins:List (Addr×Obj)}{σ:St}{H:Hp}{s:Shared}{a:Addr}{o:Obj}{kS:List (Key×V)}(I:Inv X pins σ H s)(hq:H a=some (.i! o (.dK kS))):∃o',s.heap.get? a=some o'∧o'.cls=.type "dict" := by
 obtain⟨_,_,_,_,_,o',es,ep,h1,h2,_⟩:=(show js X.prog X.w H s.heap a (.i! o (.dK kS))from I.dW a _ hq)
 exact⟨o',h1,h2.1⟩
theorem F6{pins:List (Addr×Obj)}{σ:St}{H:Hp}{s:Shared}{a:Addr}{xs:List V}{o:Obj}{kS:List (Key×V)}(I:Inv X pins σ H s)(h:oH X.K H a xs)(h':H a=some (.i! o (.dK kS))):False:=by obtain⟨aY,r,⟨o1,e,c,n,d⟩,_⟩:=I.tuple h;obtain⟨o2,e',c'⟩:=DY I h';rw[e]at e';cases e';rw[c]at c';injection c' with z;exact absurd z (by decide)
theorem F7{pins:List (Addr×Obj)}{σ:St}{H:Hp}{s:Shared}{a:Addr}{xs:List V}{o:Obj}{kS:List (Key×V)}(I:Inv X pins σ H s)(h:i? X.K H a xs)(h':H a=some (.i! o (.dK kS))):False:=by obtain⟨aY,r,⟨o1,n,e,c,_⟩,_⟩:=I.list h;obtain⟨o2,e',c'⟩:=DY I h';rw[e]at e';cases e';rw[c]at c';injection c' with z;exact absurd z (by decide)
mutual
theorem Den.inj{pins:List (Addr×Obj)}{σ:St}{H:Hp}{s:Shared}(I:Inv X pins σ H s):∀(d1 d2:Z.D)(v:V),Den X.K H d1 v->Den X.K H d2 v->d1=d2
 | .non,d2,v,h1,h2=>by
  simp only[Den]at h1;subst h1;cases d2<;>simp only[Den]at h2<;>first | rfl | (cases h2;done) | skip
  case tup=>obtain⟨_,_,e,_⟩:=h2;cases e
  case lst=>obtain⟨_,_,e,_⟩:=h2;cases e
  case dct=>obtain⟨_,_,_,e,_⟩:=h2;cases e
 | .bl b,d2,v,h1,h2=>by
  simp only[Den]at h1;subst h1;cases d2<;>simp only[Den]at h2<;>first | (injection h2 with h2;rw[h2]) | (cases h2;done) | skip
  case tup=>obtain⟨_,_,e,_⟩:=h2;cases e
  case lst=>obtain⟨_,_,e,_⟩:=h2;cases e
  case dct=>obtain⟨_,_,_,e,_⟩:=h2;cases e
 | .int i,d2,v,h1,h2=>by
  simp only[Den]at h1;subst h1;cases d2<;>simp only[Den]at h2<;>first | (injection h2 with h2;rw[h2]) | (cases h2;done) | skip
  case tup=>obtain⟨_,_,e,_⟩:=h2;cases e
  case lst=>obtain⟨_,_,e,_⟩:=h2;cases e
  case dct=>obtain⟨_,_,_,e,_⟩:=h2;cases e
 | .str cs,d2,v,h1,h2=>by
  simp only[Den]at h1;subst h1;cases d2<;>simp only[Den]at h2<;>first | (injection h2 with h2;injection h2 with h2;have:=congrArg Array.toList h2;simp at this;rw[this]) | (cases h2;done) | skip
  case tup=>obtain⟨_,_,e,_⟩:=h2;cases e
  case lst=>obtain⟨_,_,e,_⟩:=h2;cases e
  case dct=>obtain⟨_,_,_,e,_⟩:=h2;cases e
 | .tup ds,d2,v,h1,h2=>by
  simp only[Den]at h1;obtain⟨a,vs,rfl,q,t⟩:=h1;cases d2<;>simp only[Den]at h2
  case tup es =>obtain⟨a',Io,e,q',t'⟩:=h2;cases e;rw[I.rQ q' q]at t';rw[aG.inj I ds es vs t t']
  case lst es=>obtain⟨a',Io,e,q',t'⟩:=h2;cases e;exact(yJ I q q'.sq).elim
  case dct ks es=>obtain⟨a',o,kS,e,q',_⟩:=h2;cases e;exact(F6 I q q').elim
  all_goals cases h2
 | .lst ds,d2,v,h1,h2=>by
  simp only[Den]at h1;obtain⟨a,vs,rfl,q,t⟩:=h1;cases d2<;>simp only[Den]at h2
  case lst es =>obtain⟨a',Io,e,q',t'⟩:=h2;cases e;rw[I.rf q'.sq q.sq]at t';rw[aG.inj I ds es vs t t']
  case tup es=>obtain⟨a',Io,e,q',t'⟩:=h2;cases e;exact(yJ I q' q.sq).elim
  case dct ks es=>obtain⟨a',o,kS,e,q',_⟩:=h2;cases e;exact(F7 I q.sq q').elim
  all_goals cases h2
 | .dct ks ds,d2,v,h1,h2=>by
  simp only[Den]at h1;obtain⟨a,o,kS,rfl,q,hk,t⟩:=h1;cases d2<;>simp only[Den]at h2
  case lst es=>obtain⟨a',Io,e,q',t'⟩:=h2;cases e;exact(F7 I q'.sq q).elim
  case tup es=>obtain⟨a',Io,e,q',t'⟩:=h2;cases e;exact(F6 I q' q).elim
  case dct ks' es =>obtain⟨a',o',Yx,e,q',P9,t'⟩:=h2;cases e;rw[q]at q';cases q';rw[aG.inj I ds es _ t t',ya (hk.symm.trans P9)]
  all_goals cases h2
theorem aG.inj{pins:List (Addr×Obj)}{σ:St}{H:Hp}{s:Shared}(I:Inv X pins σ H s):∀(d1 d2:List Z.D)(v:List V),aG X.K H d1 v->aG X.K H d2 v->d1=d2
 | [],d2,v,h1,h2=>by
  simp only[aG]at h1;subst h1;cases d2 with
  | nil=>rfl
  | cons d ds=>simp only[aG]at h2;obtain⟨_,_,e,_⟩:=h2;cases e
 | d :: ds,d2,v,h1,h2=>by
  simp only[aG]at h1;obtain⟨u,r,rfl,q,t⟩:=h1;cases d2 with
  | nil=>simp only[aG]at h2;cases h2
  | cons d' Z3 =>simp only[aG]at h2;obtain⟨u',r',e,q',t'⟩:=h2;cases e;rw[Den.inj I d d' u q q',aG.inj I ds Z3 r t t']
end
theorem wR{x:Z.D}:∀{ys:List Z.D}{k:Bool},Z.fI x ys=some k->k=ys.any (λ y=>(Z.lF y x).getD false)∧∀y∈ys,Z.lF y x=some ((Z.lF y x).getD false)
 | [],k,h=>by cases h;exact⟨rfl,λ y hy=>by cases hy⟩
 | y :: ys,k,h=>by
  unfold Z.fI at h;split at h
  ·rename_i a b ea eb;cases h;obtain⟨h1,h2⟩:=wR eb;refine⟨by rw[List.any_cons,ea,h1];rfl,λ z hz=>?_⟩;rcases List.mem_cons.mp hz with rfl | hz
   ·rw[ea];rfl
   ·exact h2 z hz
  ·cases h
theorem y6{pins : List (Addr × Obj)}{σ : St}{H : Hp}{s : Shared}(I : Inv X pins σ H s){A : Around}(hu : A.units + 60 < cLine){x : Z.D}{v : V}{u : Value}(hx : bQ X.K H x v)(rx : RelV v u): ∀{ys : List Z.D}{vs : List V}{us : List Value}, aG X.K H ys vs -> Vals vs us -> (∀y ∈ ys, Z.lF y x = some ((Z.lF y x).getD false)) ->
  ∃e:Value->Bool,(∀w∈us,SeqAt.EqAt A s w u (e w))∧us.any e=ys.any (λ y=>(Z.lF y x).getD false):=by
 intro ys vs us;have key:∀{ys:List Z.D}{vs:List V}{us:List Value},aG X.K H ys vs->Vals vs us->(∀y∈ys,Z.lF y x=some ((Z.lF y x).getD false))->(∀w∈us,∃b,SeqAt.EqAt A s w u b)∧∀e:Value->Bool,(∀w∈us,∀y vy,Den X.K H y vy->RelV vy w->y∈ys->e w=(Z.lF y x).getD false)->us.any e=ys.any (λ y=>(Z.lF y x).getD false):=by
  intro ys
  induction ys with
  | nil=>intro vs us t r _;simp only[aG]at t;subst t;cases r;exact⟨λ w hw=>(by cases hw),λ _ _=>rfl⟩
  | cons y ys ih =>
   intro vs us t r hh;simp only[aG]at t;obtain⟨vy,vr,rfl,dy,tr⟩:=t;cases r with
   | cons ry rr =>
    obtain⟨h1,h2⟩:=ih tr rr (λ z hz=>hh z (List.mem_cons_of_mem _ hz));refine⟨λ w hw=>?_,λ e he=>?_⟩
    ·rcases List.mem_cons.mp hw with rfl | hw
     ·exact⟨_,(Nt I 6 (A:=A) (by lia) (hh y List.mem_cons_self) (.inl dy) hx ry rx).2.1⟩
     ·exact h1 w hw
    ·rw[List.any_cons,List.any_cons,he _ List.mem_cons_self y vy dy ry List.mem_cons_self,h2 e λ w hw z vz dz rz hz=>he w (List.mem_cons_of_mem _ hw) z vz dz rz (List.mem_cons_of_mem _ hz)]
 intro t r hh
 classical
 let e:Value->Bool:=λ w=>if h:∃y vy,Den X.K H y vy∧RelV vy w∧y∈ys then(Z.lF h.choose x).getD false else false
 have he:∀w y vy,Den X.K H y vy->RelV vy w->y∈ys->e w=(Z.lF y x).getD false:=by
  intro w y vy dy ry hy;have hex:∃y vy,Den X.K H y vy∧RelV vy w∧y∈ys:=⟨y,vy,dy,ry,hy⟩
  show(if h:_ then _ else _)=_;rw[dif_pos hex];obtain⟨S?,VX,TL,G2⟩:=hex.choose_spec;have ev:S?=vy:=TL.inj ry;subst ev;rw[Den.inj I _ _ _ VX dy]
 refine⟨e,λ w hw=>?_,(key t r hh).2 e λ w hw y vy dy ry hy=>he w y vy dy ry hy⟩;obtain⟨j,hj,ej⟩:=List.getElem_of_mem hw;have hl:=r.length;have ht:=t.length;obtain⟨y,ey⟩:∃y,ys[j]?=some y:=⟨ys[j]'(by lia),List.getElem?_eq_getElem (by lia)⟩
 obtain⟨vy,Ib,dy⟩:=t.get ey;obtain⟨u',VE,Ox⟩:=r.get Ib;have:u'=w:=by have:=List.getElem?_eq_getElem hj;rw[VE,ej]at this;exact Option.some.inj this
 subst this;have hy:y∈ys:=List.mem_of_getElem? ey;rw[he _ y vy dy Ox hy];exact(Nt I 6 (A:=A) (by lia) (hh y hy) (.inl dy) hx Ox rx).2.1
theorem L5(hu:X.A.units+64 < cLine):kI X (compareOp .In) (λ x y H Q=>∃d ys q vs k,bQ X.K H d x∧y=.ref q∧(i? X.K H q vs∨oH X.K H q vs)∧aG X.K H ys vs∧Z.fI d ys=some k∧Q (.bl k) H):=by
 intro pins s σ H x y v u Q I rx ry h;obtain⟨d,ys,q,vs,k,hd,rfl,hq,t,e,k'⟩:=h;cases ry;obtain⟨e1,e2⟩:=wR e;subst e1;rcases hq with hq | hq
 ·obtain⟨aY,r,pl,hz⟩:=I.list hq;obtain⟨f,hf,EV⟩:=y6 I (A:=X.A.in1) (show X.A.units+1+60 < cLine by lia) hd rx t r e2;refine SeqAt.in_listAt f pl.isList (λ w hw=>hf w (by simpa using hw)) ⟨.bl _,H,I,rfl,?_⟩;rw[show aY.toArray.any f=aY.any f by simp,EV];exact k'
 ·obtain⟨aY,r,pl,hz⟩:=I.tuple hq;obtain⟨f,hf,EV⟩:=y6 I (A:=X.A.in1) (show X.A.units+1+60 < cLine by lia) hd rx t r e2;refine SeqAt.in_tupleAt f pl (λ w hw=>hf w (by simpa using hw)) ⟨.bl _,H,I,rfl,?_⟩;rw[show aY.toArray.any f=aY.any f by simp,EV];exact k'
theorem Eo(hu:X.A.units+64 < cLine):kI X (compareOp .NotIn) (λ x y H Q=>∃d ys q vs k,bQ X.K H d x∧y=.ref q∧(i? X.K H q vs∨oH X.K H q vs)∧aG X.K H ys vs∧Z.fI d ys=some k∧Q (.bl (!k)) H):=by
 intro pins s σ H x y v u Q I rx ry h;obtain⟨d,ys,q,vs,k,hd,rfl,hq,t,e,k'⟩:=h;cases ry;obtain⟨e1,e2⟩:=wR e;subst e1;rcases hq with hq | hq
 ·obtain⟨aY,r,pl,hz⟩:=I.list hq;obtain⟨f,hf,EV⟩:=y6 I (A:=X.A.in1) (show X.A.units+1+60 < cLine by lia) hd rx t r e2;refine SeqAt.notIn_listAt f pl.isList (λ w hw=>hf w (by simpa using hw)) ⟨.bl _,H,I,rfl,?_⟩;rw[show aY.toArray.any f=aY.any f by simp,EV];exact k'
 ·obtain⟨aY,r,pl,hz⟩:=I.tuple hq;obtain⟨f,hf,EV⟩:=y6 I (A:=X.A.in1) (show X.A.units+1+60 < cLine by lia) hd rx t r e2;refine SeqAt.notIn_tupleAt f pl (λ w hw=>hf w (by simpa using hw)) ⟨.bl _,H,I,rfl,?_⟩;rw[show aY.toArray.any f=aY.any f by simp,EV];exact k'
theorem Nc(hu:X.A.units+64 < cLine):yq X .In Z.EB:=⟨_,L5 hu,λ x y dx dy d H Q h1 h2 e k=>by
 unfold Z.EB at e;split at e
 ·split at e
  ·rename_i b hb;cases e;obtain⟨q,vs,rfl,hq,t⟩:=h2.tup;exact⟨dx,_,q,vs,b,h1,rfl,.inr hq,t,hb,k _ H (aI.refl H) dt⟩
  ·cases e
 ·split at e
  ·rename_i b hb;cases e;obtain⟨q,vs,rfl,hq,t⟩:=h2.lst;exact⟨dx,_,q,vs,b,h1,rfl,.inl hq,t,hb,k _ H (aI.refl H) dt⟩
  ·cases e
 ·cases e⟩
theorem zK(hu:X.A.units+64 < cLine):yq X .NotIn Z.iw:=⟨_,Eo hu,λ x y dx dy d H Q h1 h2 e k=>by
 unfold Z.iw at e;split at e
 ·split at e
  ·rename_i b hb;cases e;obtain⟨q,vs,rfl,hq,t⟩:=h2.tup;exact⟨dx,_,q,vs,b,h1,rfl,.inr hq,t,hb,k _ H (aI.refl H) dt⟩
  ·cases e
 ·split at e
  ·rename_i b hb;cases e;obtain⟨q,vs,rfl,hq,t⟩:=h2.lst;exact⟨dx,_,q,vs,b,h1,rfl,.inl hq,t,hb,k _ H (aI.refl H) dt⟩
  ·cases e
 ·cases e⟩
theorem D6: ∀{xs : List Z.D}{k : Bool}, Z.allB xs = some k -> ∃bs : List Bool, xs = bs.map Z.D.bl ∧ k = bs.all id
 | [],k,h=>by cases h;exact⟨[],rfl,rfl⟩
 | x :: xs,k,h=>by
  cases x with
  | bl b =>
   have h':(Z.allB xs).map (b&&·)=some k:=h;cases q:Z.allB xs with
   | none=>rw[q]at h';cases h'
   | some k' =>rw[q]at h';cases h';obtain⟨bs,rfl,rfl⟩:=D6 q;exact⟨b :: bs,rfl,rfl⟩
  | non=>cases h
  | int _=>cases h
  | str _=>cases h
  | tup _=>cases h
  | lst _=>cases h
  | dct _ _=>cases h
theorem Bs{K:PySem.W.Frag}{H:Hp}:∀{bs:List Bool}{vs:List V},aG K H (bs.map Z.D.bl) vs->vs=bs.map V.bl
 | [],vs,h=>by simp only[List.map_nil,aG]at h;subst h;rfl
 | b :: bs,vs,h=>by simp only[List.map_cons,aG]at h;obtain⟨v,r,rfl,hv,ht⟩:=h;simp only[Den]at hv;rw[hv,Bs ht];rfl
theorem all_range(bs:List Bool):((List.range bs.length).all λ i=>bs[i]?.getD true)=bs.all id:=by
 induction bs with
 | nil=>rfl
 | cons b bs ih =>
  rw[List.length_cons,List.range_succ_eq_map,List.all_cons,List.all_map,List.all_cons];have:((λ i=>((b :: bs)[i]?).getD true)∘Nat.succ)=λ i=>bs[i]?.getD true:=by funext i;simp
  rw[this,ih];simp
theorem Ff(hc:X.calm=true):kF X (.builtin "all") (λ xs H Q=>∃(q:Addr) (bs:List Bool),xs=[.ref q]∧i? X.K H q (bs.map V.bl)∧Q (.bl (bs.all id)) H):=by
 intro pins s σ H xs us Q I r h;obtain⟨q,bs,rfl,hq,k⟩:=h;obtain⟨u,rfl,ru⟩:=vals1 r;cases ru;obtain⟨aY,rv,pl,hz⟩:=I.list hq;have hl:=rv.length;rw[List.length_map]at hl;have l4:q < s.heap.objs.size:=by obtain⟨_,e,_⟩:=pl.isList;exact Heap.lt_size e
 have hh:X.A.in1.handled=none:=I.ok.hd hc;refine call_all_walk (wpAny_pyIter_list pl.isList ?_);refine⟨s.heap.objs.size,[s.heap.objs.size,q],[s.heap.objs.size],aY.toArray.size,_,_,λ i=>bs[i]?.getD true,rfl,Walks.list hh s.heap.objs.size q (Nat.ne_of_lt l4) aY.toArray,⟨⟨_,Heap.get?_push_size _ rfl,rfl,rfl⟩,pl.isList.push _⟩,?_,λ h' tk hk=>?_⟩
 ·intro i v s' Q' E' hv hQ;have hi:aY[i]?=some v:=by simpa using hv
  obtain⟨Qb,_⟩:=List.getElem?_eq_some_iff.mp hi;have hb:(bs.map V.bl)[i]?=some (V.bl (bs[i]'(by lia))):=by rw[List.getElem?_map,List.getElem?_eq_getElem (by lia)];rfl
  obtain⟨u,hu,ru⟩:=rv.get hb;rw[hi]at hu;cases hu;cases ru;refine wpAny_truthy_bool ?_;have:bs[i]?.getD true=bs[i]'(by lia):=by rw[List.getElem?_eq_getElem (by lia)];rfl
  rw[<-this];exact hQ
 ·have I1:Inv X pins σ H { s with heap:=s.heap.push { cls:=.type "list_iterator",data:=.fields #[.ref q,.int 0 0] } }:=I.kept (t':=s.toks) λ b o e=>Heap.get?_push_of_some _ e;obtain⟨f0,f1,f2,f3,f4,f5⟩:=I.xr (H':=H) (Nat.le_refl s.heap.objs.size) I.fresh;have I2:=I1.turned (h':=h') (t':=tk) (it:=s.heap.objs.size) (λ b o hb e=>hk b o (by simpa using hb) e) f0 f1 f3 f4 f5;refine⟨.bl _,H,I2,rfl,?_⟩;have e:(List.range aY.toArray.size).all (λ i=>bs[i]?.getD true)=bs.all id:=by rw[List.size_toArray,<-hl,all_range]
  rw[e];exact k
theorem sN{x : Str}{p1 : Pos}(hg : Gl X x)(hm : X.mg x = none)(hv : bootBuiltins x = some (.builtin "all"))(ha : DW X a fa)(hc : X.calm = true := by rfl)(hn : x ≠ "__name__" := by decide +kernel)(hdb : (x == ("__debug__" : Str)) = false := by decide +kernel)
  (he:starEach (a :: []) X.env=(false,eval a X.env) :: starEach [] X.env:=by rfl) (hpl:(backTo pos (starEach [] X.env)).any (·.1)=false:=by rfl):DE X (.Call (.Name x p1) [a] [] pos) (Z.eU Z.xl fa) :=
 PE.imp (jW (Ff hc) hg hm hv (b9 ha dJ he) hn hdb he hpl) λ σ H Q ⟨ρ,d,r,e,k⟩=>by
  obtain⟨x,ea,e⟩:=Z.Res.az e;refine⟨ρ,x,r,ea,λ v H1 s1 d1=>?_⟩;unfold Z.xl at e;split at e
  ·split at e
   ·rename_i xs k' hk;cases e;obtain⟨bs,rfl,rfl⟩:=D6 hk;obtain⟨q,vs,rfl,hq,t⟩:=d1.lst;rw[Bs t]at hq;exact⟨q,bs,rfl,hq,k _ H1 s1 dt⟩
   ·cases e
  ·cases e
end
section
variable {X:Cx}{es:List Expr}{f:Z.EF}{g:Z.AF}
theorem ai{v j p}(ha:DE X (.Constant v j p) f)(hr:DA X es g):DA X ((.Constant v j p) :: es) (Z.aa f g):=kZ ha hr rfl
theorem ab{x p}(ha:DE X (.Name x p) f)(hr:DA X es g):DA X ((.Name x p) :: es) (Z.aa f g):=kZ ha hr rfl
theorem lW{xs j p}(ha:DE X (.Tuple xs j p) f)(hr:DA X es g):DA X ((.Tuple xs j p) :: es) (Z.aa f g):=kZ ha hr rfl
theorem oA{xs p}(ha:DE X (.List xs p) f)(hr:DA X es g):DA X ((.List xs p) :: es) (Z.aa f g):=kZ ha hr rfl
theorem cI{x o y p}(ha:DE X (.BinOp x o y p) f)(hr:DA X es g):DA X ((.BinOp x o y p) :: es) (Z.aa f g):=kZ ha hr rfl
theorem bg{x xs ks p}(ha:DE X (.Call x xs ks p) f)(hr:DA X es g):DA X ((.Call x xs ks p) :: es) (Z.aa f g):=kZ ha hr rfl
theorem b!{x y p}(ha:DE X (.Subscript x y p) f)(hr:DA X es g):DA X ((.Subscript x y p) :: es) (Z.aa f g):=kZ ha hr rfl
theorem zH{x os ys p}(ha:DE X (.Compare x os ys p) f)(hr:DA X es g):DA X ((.Compare x os ys p) :: es) (Z.aa f g):=kZ ha hr rfl
end
end ZS
namespace ZQ
open PySem PySem.Spec PyProof.Rows L2 ZS
abbrev St:=L2.St
structure QE(X:Cx)(e:Expr)(f:Z.EF):Prop where p:DE X e f
structure QW(X:Cx)(e:Expr)(f:Z.EF):Prop where p:DW X e f
structure QL(X:Cx)(e:Expr)(f:Z.LF):Prop where p:DL X e f
structure QT(X:Cx)(e:Expr)(f:Z.TF):Prop where p:DT X e f
structure Nl(X:Cx)(e:Expr)(f:Z.TF):Prop where p:Ln X e f
structure QA(X:Cx)(es:List Expr)(f:Z.AF):Prop where p:DA X es f
structure QP(X:Cx)(e:Option Expr)(f:Z.PF):Prop where p:DP X e f
structure QI(X:Cx)(tg e:Expr)(f:Z.LF):Prop where p:DI X tg e f
structure QJ(X:Cx)(tg e:Expr)(f:Z.LF):Prop where p:DJ X tg e f
structure QS(X:Cx)(H0:Hp)(st:Stmt)(g:Z.SF):Prop where p:DS X H0 st g
structure D9(X:Cx)(H0:Hp)(st:List Stmt)(g:Z.SF):Prop where p:BI X H0 st g
structure QG(X:Cx)(H0:Hp)(tg:Expr)(g:Z.GF):Prop where p:DG X H0 tg g
structure Rb(X:Cx)(H0:Hp)(Ta:List Expr)(is:List Nat):Prop where p:N2 X H0 Ta is
structure Kv(X:Cx)(ifs:List Expr)(t:Z.TF):Prop where p:Lh X ifs t
section
variable {X:Cx}{tg e a b c elt iter:Expr}{es ifs:List Expr}{pos p:Pos}{f fa fb fc:Z.EF}{g u:Z.SF}{H0:Hp}{st:Stmt}{Ed:List Stmt}{N':List Str}{n:Nat}{is:List Nat}{scope:Scope}
theorem ae{i:Int}{j}:QE X (.Constant (.int i) j pos) (Z.eC (.int i)):=⟨ZS.ae ⟩
theorem dE{x:Bool}{j}:QE X (.Constant (.bool x) j pos) (Z.eC (.bl x)):=⟨ZS.dE ⟩
theorem mF{j}:QE X (.Constant .none j pos) (Z.eC .non):=⟨ZS.mF ⟩
theorem aV{x:Str}{cs:List Nat}{j}(h:x=⟨cs.toArray⟩):QE X (.Constant (.str x) j pos) (Z.eC (.str cs)):=⟨ZS.aV (h:=h)⟩
theorem ao(i:Nat){x:Str}(hN:X.N[i]?=some x:=by rfl)(hv:Ii X.env.scope x:=by first | exact Or.inl rfl | exact Or.inr (Or.inl rfl) | exact Or.inr (Or.inr rfl))(hd:(x==("__debug__" : Str))=false:=by decide +kernel)(hcd:(x==("__classdict__" : Str))=false:=by decide +kernel):QE X (.Name x pos) (Z.eV i):=⟨ZS.ao (i:=i) (hN:=hN) (hv:=hv) (hd:=hd) (hcd:=hcd)⟩
theorem av(i:Nat){x:Str}(hN:X.N[i]?=some x:=by rfl)(hv:Ii X.env.scope x:=by first | exact Or.inl rfl | exact Or.inr (Or.inl rfl) | exact Or.inr (Or.inr rfl))(hd:(x==("__debug__" : Str))=false:=by decide +kernel)(hcd:(x==("__classdict__" : Str))=false:=by decide +kernel):QW X (.Name x pos) (Z.eW i):=⟨ZS.av (i:=i) (hN:=hN) (hv:=hv) (hd:=hd) (hcd:=hcd)⟩
theorem dk{X:Cx}{pos:Pos}{x:Str}{i:Int}{t:Tok}(hg:Gl X x)(hm:X.mg x=some (.int i t))(hb:(x==("__debug__" : Str))=false:=by decide +kernel):QE X (.Name x pos) (Z.eC (.int i)):=⟨ZS.dk (hg:=hg) (hm:=hm) (hb:=hb)⟩
theorem ah(h:QE X e f):QW X e f:=⟨ZS.ah (h:=h.p)⟩
theorem fV{l:Z.LF}(h:QL X e l):QW X e (Z.eL l):=⟨ZS.fV (h:=h.p)⟩
theorem qh{l:Z.LF}(h:QL X e l):QE X e (Z.eL l):=⟨ZS.qh (h:=h.p)⟩
theorem sM(ha:QW X a fa)(hb:QW X b fb):QE X (.BinOp a .Sub b pos) (Z.eB Z.AN fa fb):=⟨ZS.sM (ha:=ha.p) (hb:=hb.p)⟩
theorem dZ(ha:QW X a fa)(hb:QW X b fb):QE X (.BinOp a .Mult b pos) (Z.eB Z.gy fa fb):=⟨ZS.dZ (ha:=ha.p) (hb:=hb.p)⟩
theorem cK(ha:QW X a fa)(hb:QW X b fb):QE X (.BinOp a .FloorDiv b pos) (Z.eB Z.oDiv fa fb):=⟨ZS.cK (ha:=ha.p) (hb:=hb.p)⟩
theorem bR(ha:QW X a fa)(hb:QW X b fb):QE X (.BinOp a .Mod b pos) (Z.eB Z.oMod fa fb):=⟨ZS.bR (ha:=ha.p) (hb:=hb.p)⟩
theorem qg(ha:QW X a fa)(hb:QW X b fb):QE X (.BinOp a .Pow b pos) (Z.eB Z.n! fa fb):=⟨ZS.qg (ha:=ha.p) (hb:=hb.p)⟩
theorem aH(ha:QW X a fa)(hb:QW X b fb):QE X (.BinOp a .Add b pos) (Z.eB Z.bj fa fb):=⟨ZS.aH (ha:=ha.p) (hb:=hb.p)⟩
theorem CM(ha:QW X a fa):QE X (.UnaryOp .USub a pos) (Z.eU Z.Gs fa):=⟨ZS.CM (ha:=ha.p)⟩
theorem eA{op:CmpOp}{o:Z.D->Z.D->Z.Res Z.D}(h:yq X op o)(ha:QW X a fa)(hb:QW X b fb)(hm:behindInMarks op b=false):QE X (.Compare a [op] [b] pos) (Z.eB o fa fb):=⟨ZS.eA (h:=h) (ha:=ha.p) (hb:=hb.p) (hm:=hm)⟩
theorem aR{op:CmpOp}{o:Z.D->Z.D->Z.Res Z.D}(h:yq X op o)(ha:QW X a fa)(hb:QW X b fb)(hm:behindInMarks op b=false):QT X (.Compare a [op] [b] pos) (Z.tE (Z.eB o fa fb)):=⟨ZS.aR (h:=h) (ha:=ha.p) (hb:=hb.p) (hm:=hm)⟩
theorem wJ{op uz:CmpOp}{o o':Z.D->Z.D->Z.Res Z.D}(h:yq X op o)(h':yq X uz o')(ha:QW X a fa)(hb:QW X b fb)(hc:QW X c fc)(hm:lastMarks [op,uz] [b,c]=false:=by with_unfolding_all rfl):QE X (.Compare a [op,uz] [b,c] pos) (Z.mC o o' fa fb fc):=⟨ZS.wJ (h:=h) (h':=h') (ha:=ha.p) (hb:=hb.p) (hc:=hc.p) (hm:=hm)⟩
theorem rH{op uz:CmpOp}{o o':Z.D->Z.D->Z.Res Z.D}(h:yq X op o)(h':yq X uz o')(ha:QW X a fa)(hb:QW X b fb)(hc:QW X c fc)(hm:lastMarks [op,uz] [b,c]=false:=by with_unfolding_all rfl):QT X (.Compare a [op,uz] [b,c] pos) (Z.tE (Z.mC o o' fa fb fc)):=⟨ZS.rH (h:=h) (h':=h') (ha:=ha.p) (hb:=hb.p) (hc:=hc.p) (hm:=hm)⟩
theorem CN{j pos'}(ha:QW X a fa):QE X (.Compare a [.Is] [.Constant .none j pos'] pos) (Z.eU Z.ly fa):=⟨ZS.CN (ha:=ha.p)⟩
theorem zy{j pos'}(ha:QW X a fa):QE X (.Compare a [.IsNot] [.Constant .none j pos'] pos) (Z.eU Z.eH fa):=⟨ZS.zy (ha:=ha.p)⟩
theorem oz{j pos'}(ha:QW X a fa):QT X (.Compare a [.Is] [.Constant .none j pos'] pos) (Z.tE (Z.eU Z.ly fa)):=⟨ZS.oz (ha:=ha.p)⟩
theorem jx{j pos'}(ha:QW X a fa):QT X (.Compare a [.IsNot] [.Constant .none j pos'] pos) (Z.tE (Z.eU Z.eH fa)):=⟨ZS.jx (ha:=ha.p)⟩
theorem iB{op}(h:QE X a fa):QE X (.BoolOp op [a] pos) fa:=⟨ZS.iB (h:=h.p)⟩
theorem lA{rest:List Expr}(ha:QE X a fa)(hb:QE X (.BoolOp .And (b :: rest) pos) fb):QE X (.BoolOp .And (a :: b :: rest) pos) (Z.wA fa fb):=⟨ZS.lA (ha:=ha.p) (hb:=hb.p)⟩
theorem Bt{rest:List Expr}(ha:QE X a fa)(hb:QE X (.BoolOp .Or (b :: rest) pos) fb):QE X (.BoolOp .Or (a :: b :: rest) pos) (Z.NW fa fb):=⟨ZS.Bt (ha:=ha.p) (hb:=hb.p)⟩
theorem CL(ha:QE X a fa):QE X (.UnaryOp .Not a pos) (Z.J? fa):=⟨ZS.CL (ha:=ha.p)⟩
theorem ku(h:QE X e f)(he:∀whole,isTrue e X.env whole=(do let v ←whole;standAt e.pos;holding [v] (truthy v)):=by intro _;rfl):QT X e (Z.tE f):=⟨ZS.ku (h:=h.p) (he:=he)⟩
theorem gW{t:Z.TF}(h:QT X a t):QT X (.UnaryOp .Not a pos) (Z.nA t):=⟨ZS.gW (h:=h.p)⟩
theorem jy{t:Z.TF}(h:QT X a t):Nl X (.BoolOp .And [a] pos) t:=⟨ZS.jy (h:=h.p)⟩
theorem jk{t:Z.TF}(h:QT X a t):Nl X (.BoolOp .Or [a] pos) t:=⟨ZS.jk (h:=h.p)⟩
theorem kv{t u:Z.TF}{rest:List Expr}(ha:QT X a t)(hb:Nl X (.BoolOp .And (b :: rest) pos) u):Nl X (.BoolOp .And (a :: b :: rest) pos) (Z.l6 t u):=⟨ZS.kv (ha:=ha.p) (hb:=hb.p)⟩
theorem kY{t u:Z.TF}{rest:List Expr}(ha:QT X a t)(hb:Nl X (.BoolOp .Or (b :: rest) pos) u):Nl X (.BoolOp .Or (a :: b :: rest) pos) (Z.yv t u):=⟨ZS.kY (ha:=ha.p) (hb:=hb.p)⟩
theorem zo{t:Z.TF}(h:Nl X e t):QT X e t:=⟨ZS.zo (h:=h.p)⟩
theorem lV{t:Z.TF}(hc:QT X c t)(ha:QE X a fa)(hb:QE X b fb):QE X (.IfExp c a b pos) (Z.M6 t fa fb):=⟨ZS.lV (hc:=hc.p) (ha:=ha.p) (hb:=hb.p)⟩
theorem ak: QA X [] Z.ax:=⟨ZS.ak ⟩
theorem ai{g:Z.AF}{v j p}(ha:QE X (.Constant v j p) f)(hr:QA X es g):QA X ((.Constant v j p) :: es) (Z.aa f g):=⟨ZS.ai (ha:=ha.p) (hr:=hr.p)⟩
theorem ab{g:Z.AF}{x p}(ha:QE X (.Name x p) f)(hr:QA X es g):QA X ((.Name x p) :: es) (Z.aa f g):=⟨ZS.ab (ha:=ha.p) (hr:=hr.p)⟩
theorem lW{g:Z.AF}{xs j p}(ha:QE X (.Tuple xs j p) f)(hr:QA X es g):QA X ((.Tuple xs j p) :: es) (Z.aa f g):=⟨ZS.lW (ha:=ha.p) (hr:=hr.p)⟩
theorem oA{g:Z.AF}{xs p}(ha:QE X (.List xs p) f)(hr:QA X es g):QA X ((.List xs p) :: es) (Z.aa f g):=⟨ZS.oA (ha:=ha.p) (hr:=hr.p)⟩
theorem cI{g:Z.AF}{x o y p}(ha:QE X (.BinOp x o y p) f)(hr:QA X es g):QA X ((.BinOp x o y p) :: es) (Z.aa f g):=⟨ZS.cI (ha:=ha.p) (hr:=hr.p)⟩
theorem bg{g:Z.AF}{x xs ks p}(ha:QE X (.Call x xs ks p) f)(hr:QA X es g):QA X ((.Call x xs ks p) :: es) (Z.aa f g):=⟨ZS.bg (ha:=ha.p) (hr:=hr.p)⟩
theorem b!{g:Z.AF}{x y p}(ha:QE X (.Subscript x y p) f)(hr:QA X es g):QA X ((.Subscript x y p) :: es) (Z.aa f g):=⟨ZS.b! (ha:=ha.p) (hr:=hr.p)⟩
theorem zH{g:Z.AF}{x os ys p}(ha:QE X (.Compare x os ys p) f)(hr:QA X es g):QA X ((.Compare x os ys p) :: es) (Z.aa f g):=⟨ZS.zH (ha:=ha.p) (hr:=hr.p)⟩
theorem cJ{x1}{g:Z.AF}(h:QA X es g):QE X (.Tuple es x1 pos) (Z.fM g):=⟨ZS.cJ (h:=h.p)⟩
theorem bu{g:Z.AF}(h:QA X es g):QL X (.List es pos) (Z.bX g):=⟨ZS.bu (h:=h.p)⟩
theorem iC(t:Z.Ty){x y:Str}{p1 p2:Pos}(hg:Gl X x)(hm:X.mg x=none)(hv:bootBuiltins x=some (.builtin "isinstance"))(hg2:Gl X y)(hm2:X.mg y=none)(hv2:bootBuiltins y=some (.type (Ls t)))(ha:QW X a fa)(hn:x ≠ "__name__" := by decide +kernel)(hdb:(x==("__debug__" : Str))=false:=by decide +kernel)(hn2:y ≠ "__name__" := by decide +kernel)(hdb2:(y==("__debug__" : Str))=false:=by decide +kernel)(he:starEach (a :: [.Name y p2]) X.env=(false,eval a X.env) :: starEach [.Name y p2] X.env:=by rfl)(hpl:(backTo pos (starEach [.Name y p2] X.env)).any (·.1)=false:=by rfl)(he2:starEach ((.Name y p2) :: []) X.env=(false,eval (.Name y p2) X.env) :: starEach [] X.env:=by rfl):QE X (.Call (.Name x p1) [a,.Name y p2] [] pos) (Z.eU (Z.t? t) fa):=⟨ZS.iC (t:=t) (hg:=hg) (hm:=hm) (hv:=hv) (hg2:=hg2) (hm2:=hm2) (hv2:=hv2) (ha:=ha.p) (hn:=hn) (hdb:=hdb) (hn2:=hn2) (hdb2:=hdb2) (he:=he) (hpl:=hpl) (he2:=he2)⟩
theorem bU{x:Str}{p1:Pos}(hg:Gl X x)(hm:X.mg x=none)(hv:bootBuiltins x=some (.builtin "len"))(ha:QW X a fa)(hn:x ≠ "__name__" := by decide +kernel)(hdb:(x==("__debug__" : Str))=false:=by decide +kernel)(he:starEach (a :: []) X.env=(false,eval a X.env) :: starEach [] X.env:=by rfl)(hpl:(backTo pos (starEach [] X.env)).any (·.1)=false:=by rfl):QE X (.Call (.Name x p1) [a] [] pos) (Z.eU Z.cM fa):=⟨ZS.bU (hg:=hg) (hm:=hm) (hv:=hv) (ha:=ha.p) (hn:=hn) (hdb:=hdb) (he:=he) (hpl:=hpl)⟩
theorem aE(ha:QW X a fa)(hb:QW X b fb)(hs:zX b:=by intro _ _;rfl):QE X (.Subscript a b pos) (Z.eB Z.bc fa fb):=⟨ZS.aE (ha:=ha.p) (hb:=hb.p) (hs:=hs)⟩
theorem uk: QP X none Z.HX:=⟨ZS.uk ⟩
theorem nv(h:QW X e f):QP X (some e) (Z.BK f):=⟨ZS.nv (h:=h.p)⟩
theorem i4{lo hi:Option Expr}{gl gh:Z.PF}{p2:Pos}(ha:QW X a fa)(hl:QP X lo gl)(hh:QP X hi gh):QE X (.Subscript a (.Slice lo hi none p2) pos) (Z.Ic fa gl gh):=⟨ZS.i4 (ha:=ha.p) (hl:=hl.p) (hh:=hh.p)⟩
theorem rJ{lo hi:Option Expr}{gl gh:Z.PF}{p2:Pos}(ha:QW X a fa)(hl:QP X lo gl)(hh:QP X hi gh):QL X (.Subscript a (.Slice lo hi none p2) pos) (Z.K0 fa gl gh):=⟨ZS.rJ (ha:=ha.p) (hl:=hl.p) (hh:=hh.p)⟩
theorem zr(ha:QW X a fa)(hb:QW X b fb):QL X (.BinOp a .Add b pos) (Z.GR fa fb):=⟨ZS.zr (ha:=ha.p) (hb:=hb.p)⟩
theorem aj{k:Nat}{ps:List Str}{x:Str}{m:List Z.D->Z.Res Z.D}{ar:Z.AF}{p1:Pos}(C:fK X.prog X.w X.K X.mg X.base x k ps m)(hr:eM k X.A)(hg:Gl X x)(ha:QA X (e :: es) ar)(hdb:(x==("__debug__" : Str))=false:=by decide +kernel)(he:starEach (e :: es) X.env=(false,eval e X.env) :: starEach es X.env:=by rfl)(hpl:(backTo pos (starEach es X.env)).any (·.1)=false:=by rfl):QE X (.Call (.Name x p1) (e :: es) [] pos) (Z.aw m ar):=⟨ZS.aj (C:=C) (hr:=hr) (hg:=hg) (ha:=ha.p) (hdb:=hdb) (he:=he) (hpl:=hpl)⟩
theorem wD{g:Z.LF}(h:QJ X tg e g):QI X tg e g:=⟨ZS.wD (h:=h.p)⟩
theorem cX(hg:Gl X "range")(hm:X.mg "range" = none)(ha:QE X a fa)(hs:starEach [a] X.env=[(false,eval a X.env)]:=by rfl)(hs1:starEach (a :: []) X.env=(false,eval a X.env) :: starEach [] X.env:=by rfl):QJ X tg (.Call (.Name "range" p) [a] [] pos) (Z.eZ fa):=⟨ZS.cX (hg:=hg) (hm:=hm) (ha:=ha.p) (hs:=hs) (hs1:=hs1)⟩
theorem rK(hg:Gl X "range")(hm:X.mg "range" = none)(ha:QE X a fa)(hb:QE X b fb)(hs:starEach [a,b] X.env=[(false,eval a X.env),(false,eval b X.env)]:=by rfl)(hs2:starEach [b] X.env=[(false,eval b X.env)]:=by rfl)(h1:starEach (a :: [b]) X.env=(false,eval a X.env) :: starEach [b] X.env:=by rfl)(h2:starEach (b :: []) X.env=(false,eval b X.env) :: starEach [] X.env:=by rfl):QJ X tg (.Call (.Name "range" p) [a,b] [] pos) (Z.v7 fa fb):=⟨ZS.rK (hg:=hg) (hm:=hm) (ha:=ha.p) (hb:=hb.p) (hs:=hs) (hs2:=hs2) (h1:=h1) (h2:=h2)⟩
theorem eu(ha:QW X a fa):QI X tg a (Z.eY fa):=⟨ZS.eu (ha:=ha.p)⟩
theorem jl(ha:QE X a fa):QJ X tg a (Z.eY fa):=⟨ZS.jl (ha:=ha.p)⟩
theorem aP: D9 X H0 [] Z.bF:=⟨ZS.aP ⟩
theorem aq(h:QS X H0 st g):D9 X H0 [st] g:=⟨ZS.aq (h:=h.p)⟩
theorem ag(h1:QS X H0 st g)(h2:D9 X H0 Ed u):D9 X H0 (st :: Ed) (Z.aB g u):=⟨ZS.ag (h1:=h1.p) (h2:=h2.p)⟩
theorem aD(h:QE X a fa):QS X H0 (.Return (some a) pos) (Z.a_ fa):=⟨ZS.aD (h:=h.p)⟩
theorem bN{c:Expr}{b1 b2:List Stmt}{t:Z.TF}(hc:QT X c t)(h1:D9 X H0 b1 g)(h2:D9 X H0 b2 u):QS X H0 (.If c b1 b2 pos) (Z.gi t g u):=⟨ZS.bN (hc:=hc.p) (h1:=h1.p) (h2:=h2.p)⟩
theorem aC{i:Nat}{x:Str}{pos':Pos}(hN:X.N.Nodup)(hi:X.N[i]?=some x)(hx:Loc X.env.scope x)(he:QE X a fa)(hs:swapsWith a (some (.Name x pos')) pos.line X.env=pure false:=by rfl)(hf:X.fn x=true∨X.env.scope.names.lookup x=some .local:=by first | exact .inl rfl | exact .inr rfl | assumption):QS X H0 (.Assign [.Name x pos'] a pos) (Z.aM i fa):=⟨ZS.aC (hN:=hN) (hi:=hi) (hx:=hx) (he:=he.p) (hs:=hs) (hf:=hf)⟩
theorem gZ{i:Nat}{x:Str}{pos':Pos}{l:Z.LF}(hN:X.N.Nodup)(hi:X.N[i]?=some x)(hx:Loc X.env.scope x)(he:QL X a l)(hs:swapsWith a (some (.Name x pos')) pos.line X.env=pure false:=by rfl)(hf:X.fn x=true∨X.env.scope.names.lookup x=some .local:=by first | exact .inl rfl | exact .inr rfl | assumption):QS X H0 (.Assign [.Name x pos'] a pos) (Z.nB i l):=⟨ZS.gZ (hN:=hN) (hi:=hi) (hx:=hx) (he:=he.p) (hs:=hs) (hf:=hf)⟩
theorem aU{i:Nat}{x:Str}(hN:X.N.Nodup)(hi:X.N[i]?=some x)(hx:Loc X.env.scope x)(hf:X.fn x=true∨X.env.scope.names.lookup x=some .local:=by first | exact .inl rfl | exact .inr rfl | assumption):QG X H0 (.Name x pos) (Z.bA i):=⟨ZS.aU (hN:=hN) (hi:=hi) (hx:=hx) (hf:=hf)⟩
theorem e!: Rb X H0 [] []:=⟨ZS.e! ⟩
theorem bb{i:Nat}{is:List Nat}{x:Str}(hN:X.N.Nodup)(hi:X.N[i]?=some x)(hx:Loc X.env.scope x)(h2:Rb X H0 es is)(hs:(assignEach ((.Name x pos) :: es) X.env).map (·.2)=assign (.Name x pos) X.env :: (assignEach es X.env).map (·.2):=by rfl)(hf:X.fn x=true∨X.env.scope.names.lookup x=some .local:=by first | exact .inl rfl | exact .inr rfl | assumption):Rb X H0 (.Name x pos :: es) (i :: is):=⟨ZS.bb (hN:=hN) (hi:=hi) (hx:=hx) (h2:=h2.p) (hs:=hs) (hf:=hf)⟩
theorem kz{x1 n:Nat}{is:List Nat}(hc:X.calm=true)(h:Rb X H0 es is)(hl:is.length=n)(hn:(assignEach es X.env).length=n:=by rfl)(hst:(assignEach es X.env).findIdx? (·.1)=none:=by rfl):QG X H0 (.Tuple es x1 pos) (Z.ka is):=⟨ZS.kz (hc:=hc) (h:=h.p) (hl:=hl) (hn:=hn) (hst:=hst)⟩
theorem wB{g:Z.GF}(he:QE X a fa)(hg:QG X H0 tg g)(hs:swapsWithSole [tg] a pos.line X.env=pure false:=by rfl)(hw:swappedStores [tg] a X.env=pure none:=by rfl)(h1:(assignEach [tg] X.env).map (·.2)=[assign tg X.env]:=by rfl):QS X H0 (.Assign [tg] a pos) (Z.Ao fa g):=⟨ZS.wB (he:=he.p) (hg:=hg.p) (hs:=hs) (hw:=hw) (h1:=h1)⟩
theorem cD{it:Z.LF}{G:Z.GF}{iter:Expr}{body:List Stmt}(hp:PassesOwn (model X.prog X.w) X.A X.env X.xe)(hc:X.calm=true)(hi:QJ X tg iter it)(hg:QG X H0 tg G)(hb:D9 X H0 body g)(hs:∀x,foldedSetIterable iter X.env x=pure x:=by intro _;rfl):QS X H0 (.For tg iter body [] pos) (Z.fN it G g):=⟨ZS.cD (hp:=hp) (hc:=hc) (hi:=hi.p) (hg:=hg.p) (hb:=hb.p) (hs:=hs)⟩
theorem mD{i:Nat}(h:D9 X H0 Ed g):D9 X H0 Ed (Z.w! i g):=⟨ZS.mD (h:=h.p)⟩
theorem cW{it:Z.LF}{G:Z.GF}{t:Z.TF}{fe:Z.EF}(hcalm:X.calm=true)(hi:QI X tg iter it)(B:lE X.N N' n is scope X.env.scope)(hG:∀d ρ ρ1,G d ρ=.ok ρ1->ρ1.length=ρ.length∧∀i,n≤i->ρ1[i]?=ρ[i]?)(hg:∀cl C fp s H H0,QG (o3 X N' scope cl C fp s H) H0 tg G)(ht:∀cl C fp s H,Kv (o3 X N' scope cl C fp s H) ifs t)(he:∀cl C fp s H,QE (o3 X N' scope cl C fp s H) elt fe)(hs:∀x,foldedSetIterable iter X.env x=pure x:=by intro _;rfl):QL X (.ListComp elt [⟨tg,iter,ifs,0⟩] scope pos) (Z.cf it n is G t fe):=⟨ZS.cW (hcalm:=hcalm) (hi:=hi.p) (B:=B) (hG:=hG) (hg:=λ y0 y1 y2 y3 y4 y5=>(hg y0 y1 y2 y3 y4 y5).p) (ht:=λ y0 y1 y2 y3 y4=>(ht y0 y1 y2 y3 y4).p) (he:=λ y0 y1 y2 y3 y4=>(he y0 y1 y2 y3 y4).p) (hs:=hs)⟩
theorem iM{H0:Hp}{it:Z.LF}{G:Z.GF}{t:Z.TF}{fe:Z.EF}{i:Nat}{x:Str}{px uw:Pos}(hcalm:X.calm=true)(hN:X.N.Nodup)(hix:X.N[i]?=some x)(hx:Loc X.env.scope x)(hi:QI X tg iter it)(B:lE X.N N' n is scope X.env.scope)(hG:∀d ρ ρ1,G d ρ=.ok ρ1->ρ1.length=ρ.length∧∀i,n≤i->ρ1[i]?=ρ[i]?)(hg:∀cl C fp s H H0,QG (o3 X N' scope cl C fp s H) H0 tg G)(ht:∀cl C fp s H,Kv (o3 X N' scope cl C fp s H) ifs t)(he:∀cl C fp s H,QE (o3 X N' scope cl C fp s H) elt fe)(hsw:swapsWith (.ListComp elt [⟨tg,iter,ifs,0⟩] scope pos) (some (.Name x px)) uw.line X.env=pure true:=by rfl)(hs:∀x,foldedSetIterable iter X.env x=pure x:=by intro _;rfl)(hf:X.fn x=true∨X.env.scope.names.lookup x=some .local:=by first | exact .inl rfl | exact .inr rfl | assumption):QS X H0 (.Assign [.Name x px] (.ListComp elt [⟨tg,iter,ifs,0⟩] scope pos) uw) (Z.aM i (Z.eL (Z.cf it n is G t fe))):=⟨ZS.iM (hcalm:=hcalm) (hN:=hN) (hix:=hix) (hx:=hx) (hi:=hi.p) (B:=B) (hG:=hG) (hg:=λ y0 y1 y2 y3 y4 y5=>(hg y0 y1 y2 y3 y4 y5).p) (ht:=λ y0 y1 y2 y3 y4=>(ht y0 y1 y2 y3 y4).p) (he:=λ y0 y1 y2 y3 y4=>(he y0 y1 y2 y3 y4).p) (hsw:=hsw) (hs:=hs) (hf:=hf)⟩
theorem d9: Kv X [] Z.dR:=⟨ZS.d9 ⟩
theorem gC{c:Expr}{t:Z.TF}(h:QT X c t):Kv X [c] t:=⟨ZS.gC (h:=h.p)⟩
theorem sN{x:Str}{p1:Pos}(hg:Gl X x)(hm:X.mg x=none)(hv:bootBuiltins x=some (.builtin "all"))(ha:QW X a fa)(hc:X.calm=true:=by rfl)(hn:x ≠ "__name__" := by decide +kernel)(hdb:(x==("__debug__" : Str))=false:=by decide +kernel)(he:starEach (a :: []) X.env=(false,eval a X.env) :: starEach [] X.env:=by rfl)(hpl:(backTo pos (starEach [] X.env)).any (·.1)=false:=by rfl):QE X (.Call (.Name x p1) [a] [] pos) (Z.eU Z.xl fa):=⟨ZS.sN (hg:=hg) (hm:=hm) (hv:=hv) (ha:=ha.p) (hc:=hc) (hn:=hn) (hdb:=hdb) (he:=he) (hpl:=hpl)⟩
theorem cL{P:Program}{w:World}{K:PySem.W.Frag}{mg:Str->Option Value}{base:Heap}{x:Str}{k:Nat}{st:Stmt}{N ps:List Str}{b:Z.SF}(d:ZS.Def K mg x st ps)(S:aA N ps (au st))
  (hb:∀ (f:Addr) (bP:Value) (A:Around) (outer:List PySem.Env) (s:Shared) (H:Hp) (E:XK),eM k (A.deeper (envOfC x (au st) s.heap.objs.size f bP)) ->
   D9 (nD tI P w K mg base N x (au st) f bP A outer s H E).z8 H (bO st) b):ZS.fK P w K mg base x (k+1) ps (Z.fn ps.length N.length b) :=
 ZS.fK.mk' d S λ f bP A outer s H E hr=>(hb f bP A outer s H E hr).p
theorem ZC{P:Program}{w:World}{K:PySem.W.Frag}{mg:Str->Option Value}{base:Heap}{x qual:Str}{st:Stmt}{f:Addr}{fd:FuncData}{N ps:List Str}{k:Nat}{b:Z.SF}(F:HM K x qual st f fd)(S:aA N ps (au st))
  (hb:∀ (bP:Value) (A:Around) (outer:List PySem.Env) (s:Shared) (H:Hp) (E:XK),eM k (A.deeper (envOfC qual (au st) s.heap.objs.size f bP)) ->
   D9 (nD tI P w K mg base N qual (au st) f bP A outer s H E).z8 H (bO st) b):nE P w K mg base tI (k+1) f fd ps (ZS.z6 K (Z.fn ps.length N.length b)) :=
 ZS.Xo F S λ bP A outer s H E hr=>(hb bP A outer s H E hr).p
end
end ZQ
noncomputable section
namespace Z
def dM:D->Res D
 | .lst xs=>.ok (.tup xs)
 | .tup xs=>.ok (.tup xs)
 | _=>.bad
@[simp] theorem L'(xs:List D):dM (.lst xs)=.ok (.tup xs):=rfl
@[simp] theorem L9(xs:List D):dM (.tup xs)=.ok (.tup xs):=rfl
def L?:D->D->Res D
 | .int i,.int j=>.ok (.bl (decide (0≤i∧i < j)))
 | _,_=>.bad
@[simp] theorem L!(i j:Int):L? (.int i) (.int j)=.ok (.bl (decide (0≤i∧i < j))):=rfl
def Ex:D->D->Res D
 | .int i,.int j=>.ok (.bl (!decide (0≤i∧i < j)))
 | _,_=>.bad
@[simp] theorem HY(i j:Int):Ex (.int i) (.int j)=.ok (.bl (!decide (0≤i∧i < j))):=rfl
def cN:List Nat:=[97,98,99,100,101,102,103,104,105,106,107,108,109,110,111,112,113,114,115,116,117,118,119,120,121,122]
def signs:List Nat:=[46,61,35,97,98,99,100,101,102,103,104,105,106,107,108,109,110,111,112,113,114,115,116,117,118,119,120,121,122]
def Ey:D->D->Res D
 | .int i,.int j=>.ok (.int (max i j))
 | _,_=>.bad
@[simp] theorem O8(i j:Int):Ey (.int i) (.int j)=.ok (.int (max i j)):=rfl
def Ub:D->D->Res D
 | .int i,.int j=>.ok (.int (min i j))
 | _,_=>.bad
@[simp] theorem O7(i j:Int):Ub (.int i) (.int j)=.ok (.int (min i j)):=rfl
def AQ:D->Res D
 | .int i=>.ok (.int i)
 | .bl b=>.ok (.int (if b then 1 else 0))
 | _=>.bad
@[simp] theorem Pa(i:Int):AQ (.int i)=.ok (.int i):=rfl
@[simp] theorem R6(b:Bool):AQ (.bl b)=.ok (.int (if b then 1 else 0)):=rfl
def Yw(a:EF)(ρ:Env):Res (List D):=(a ρ).bind λ x=>match x with
 | .lst xs=>.ok xs
 | .tup xs=>.ok xs
 | _=>.bad
def GL:D->Res (List D)
 | .lst xs=>.ok xs
 | .tup xs=>.ok xs
 | _=>.bad
@[simp] theorem WK(a:EF)(ρ:Env):Yw a ρ=(a ρ).bind GL:=rfl
@[simp] theorem NC(xs:List D):GL (.lst xs)=.ok xs:=rfl
@[simp] theorem NB(xs:List D):GL (.tup xs)=.ok xs:=rfl
def wL(x:D):List D->Option Nat
 | []=>some 0
 | y :: r=>match lF y x,wL x r with
  | some a,some b=>some (b+(if a then 1 else 0))
  | _,_=>none
def vJ:D->D->Res D
 | .lst ys,x=>match wL x ys with
  | some n=>.ok (.int n)
  | none=>.bad
 | _,_=>.bad
def Ad:List D->Option Int
 | []=>some 0
 | .int i :: r=>(Ad r).map (i+·)
 | _ :: _=>none
def Eu:D->Res D
 | .lst xs=>match Ad xs with
  | some i=>.ok (.int i)
  | none=>.bad
 | _=>.bad
theorem xK:∀(ns:List Int),Ad (ns.map D.int)=some ns.sum
 | []=>rfl
 | n :: ns=>by simp[Ad,xK ns]
def Ej(i:Nat)(l:LF)(ρ:Env):Res Fl:=(l ρ).bind λ ys=>match ρ[i]? with
 | some (some (.own xs))=>guard (xs.length+ys.length≤line) (.ok (.nx (ρ.set i (some (.own (xs++ys))))))
 | _=>.bad
def pair(a b:D):D:=.tup [a,b]
def Ht(k:Nat):List D->List D
 | []=>[]
 | d :: ds=>pair (.int k) d :: Ht (k+1) ds
def e_:List D->List D->List D
 | a :: as,b :: bs=>pair a b :: e_ as bs
 | _,_=>[]
def PN(a:EF)(ρ:Env):Res (List D):=(a ρ).bind λ x=>(ri x).bind λ ds=>.ok (Ht 0 ds)
@[simp] theorem Sr(a:EF)(ρ:Env):PN a ρ=(a ρ).bind λ x=>(ri x).bind λ ds=>.ok (Ht 0 ds):=rfl
def IK:D->Res (List D)
 | .tup xs=>.ok xs
 | .lst xs=>.ok xs
 | _=>.bad
@[simp] theorem Ol(xs:List D):IK (.tup xs)=.ok xs:=rfl
@[simp] theorem Om(xs:List D):IK (.lst xs)=.ok xs:=rfl
def Lu:D->Res (List D)
 | .tup xs=>.ok xs
 | _=>.bad
@[simp] theorem N6(xs:List D):Lu (.tup xs)=.ok xs:=rfl
def A5(a b:EF)(ρ:Env):Res (List D):=(a ρ).bind λ x=>(b ρ).bind λ y=>(IK x).bind λ xs=>(Lu y).bind λ ys=>.ok (e_ xs ys)
@[simp] theorem Uz(a b:EF)(ρ:Env):A5 a b ρ=(a ρ).bind λ x=>(b ρ).bind λ y=>(IK x).bind λ xs=>(Lu y).bind λ ys=>.ok (e_ xs ys):=rfl
end Z
end
namespace ZS
open PySem PySem.Spec PyProof.Rows L2
section
variable {X:Cx}{e a b:Expr}{es:List Expr}{pos p:Pos}{f fa fb:Z.EF}
theorem dD{x:Str}{p1:Pos}(hg:Gl X x)(hm:X.mg x=none)(hv:bootBuiltins x=some (.type "tuple"))(ha:DW X a fa)(hn:x ≠ "__name__" := by decide +kernel)(hdb:(x==("__debug__" : Str))=false:=by decide +kernel)
  (he:starEach (a :: []) X.env=(false,eval a X.env) :: starEach [] X.env:=by rfl) (hpl:(backTo pos (starEach [] X.env)).any (·.1)=false:=by rfl):DE X (.Call (.Name x p1) [a] [] pos) (Z.eU Z.dM fa) :=
 PE.imp (xP xD hg hm hv (b9 ha dJ he) hn hdb he hpl) λ σ H Q ⟨ρ,d,r,e,k⟩=>by
  obtain⟨x,ea,e⟩:=Z.Res.az e;refine⟨ρ,x,r,ea,λ v H1 s1 d1=>?_⟩;unfold Z.dM at e;split at e
  ·cases e;obtain⟨q,vs,rfl,hq,t⟩:=d1.lst;refine⟨q,vs,rfl,.inl ⟨hq,λ l hl=>?_⟩⟩;have s2:aI H1 (upd H1 l (.tup vs)):=dQ hl;exact k _ _ (s1.trans s2) (g! (.inl (.inl bV)) (t.up s2))
  ·cases e;obtain⟨q,vs,rfl,hq,t⟩:=d1.tup;exact⟨q,vs,rfl,.inr ⟨hq,k _ H1 s1 (g! hq t)⟩⟩
  ·cases e
end
end ZS
namespace ZQ
open PySem PySem.Spec PyProof.Rows L2 ZS
section
variable {X:Cx}{tg e a b c:Expr}{es:List Expr}{pos p:Pos}{f fa fb fc:Z.EF}{H0:Hp}
theorem dD{x:Str}{p1:Pos}(hg:Gl X x)(hm:X.mg x=none)(hv:bootBuiltins x=some (.type "tuple"))(ha:QW X a fa)(hn:x ≠ "__name__" := by decide +kernel)(hdb:(x==("__debug__" : Str))=false:=by decide +kernel)(he:starEach (a :: []) X.env=(false,eval a X.env) :: starEach [] X.env:=by rfl)(hpl:(backTo pos (starEach [] X.env)).any (·.1)=false:=by rfl):QE X (.Call (.Name x p1) [a] [] pos) (Z.eU Z.dM fa):=⟨ZS.dD (hg:=hg) (hm:=hm) (hv:=hv) (ha:=ha.p) (hn:=hn) (hdb:=hdb) (he:=he) (hpl:=hpl)⟩
theorem g9{i:Nat}{o:Expr}{p1 p2:Pos}(ho:PE X o (yu i))(ha:QE X a fa)(hs:swapsWith (.Call (.Attribute o "append" p1) [a] [] p2) none pos.line X.env=pure false:=by rfl)(hs1:starEach (a :: []) X.env=(false,eval a X.env) :: starEach [] X.env:=by rfl)
  (hbase:attributeBase o "append" X.env (eval o X.env)=eval o X.env:=by rfl)
  (hfew:((backTo p2 (starEach (a :: []) X.env)).all (λ x=>!x.1)&&(backToKw p2 (keywordEach [] X.env)).all (λ x=>x.1.isSome)
   && decide ((a :: []).length+([]:List Keyword).length+(if([]:List Keyword).isEmpty then 0 else 1) < 30))=true:=by rfl)
  (hline:(p1.endLine==p2.line)=true:=by rfl) (hplain:(backTo p2 (starEach [] X.env)).any (·.1)=false:=by rfl) :
  QS X H0 (.Expr (.Call (.Attribute o "append" p1) [a] [] p2) pos) (Z.cH i fa) :=
 ⟨ZS.E9 ho ha.p hs hs1 (Au PySem.F.plainAttrs_list PySem.F.slot_list_append PySem.F.type_list_append xZ ho (b9 ha.p dJ hs1) hbase hfew hline hs1 hplain)⟩
end
end ZQ
namespace ZS
open PySem PySem.Spec PyProof.Rows L2
section
variable {X:Cx}{e a b:Expr}{es:List Expr}{pos p:Pos}{f fa fb:Z.EF}
theorem Mf(i j:Int):(if j > i then j else i)=max i j:=by split<;>lia
theorem uX{x:Str}{p1:Pos}(hg:Gl X x)(hm:X.mg x=none)(hv:bootBuiltins x=some (.builtin "max"))(ha:DW X a fa)(hb:DW X b fb)(hc:X.calm=true:=by rfl)(hn:x ≠ "__name__" := by decide +kernel)(hdb:(x==("__debug__" : Str))=false:=by decide +kernel)
  (he:starEach (a :: [b]) X.env=(false,eval a X.env) :: starEach [b] X.env:=by rfl) (he2:starEach (b :: []) X.env=(false,eval b X.env) :: starEach [] X.env:=by rfl) (hpl:(backTo pos (starEach [b] X.env)).any (·.1)=false:=by rfl):DE X (.Call (.Name x p1) [a,b] [] pos) (Z.eB Z.Ey fa fb) :=
 PE.imp (jW (Fc hc) hg hm hv (b9 ha (b9 hb dJ he2) he) hn hdb he hpl) λ σ H Q ⟨ρ,d,r,e,k⟩=>by
  obtain⟨x,ea,e⟩:=Z.Res.az e;obtain⟨y,eb,e⟩:=Z.Res.az e;refine⟨ρ,x,r,ea,λ v H1 s1 d1=>⟨ρ,y,r.up s1,eb,λ u H2 s2 d2=>?_⟩⟩;obtain⟨i,j,rfl,rfl,rfl⟩:∃i j,x=.int i∧y=.int j∧d=.int (max i j):=by
   unfold Z.Ey at e;split at e
   ·cases e;exact⟨_,_,rfl,rfl,rfl⟩
   ·cases e
  refine⟨i,j,by rw[d1.int,d2.int],?_⟩;rw[Mf];exact k _ H2 (s1.trans s2) c7
theorem zF{x:Str}{p1:Pos}(hg:Gl X x)(hm:X.mg x=none)(hv:bootBuiltins x=some (.type "int"))(ha:DW X a fa)(hn:x ≠ "__name__" := by decide +kernel)(hdb:(x==("__debug__" : Str))=false:=by decide +kernel)
  (he:starEach (a :: []) X.env=(false,eval a X.env) :: starEach [] X.env:=by rfl) (hpl:(backTo pos (starEach [] X.env)).any (·.1)=false:=by rfl):DE X (.Call (.Name x p1) [a] [] pos) (Z.eU Z.AQ fa) :=
 PE.imp (xP Fe hg hm hv (b9 ha dJ he) hn hdb he hpl) λ σ H Q ⟨ρ,d,r,e,k⟩=>by
  obtain⟨x,ea,e⟩:=Z.Res.az e;refine⟨ρ,x,r,ea,λ v H1 s1 d1=>?_⟩;unfold Z.AQ at e;split at e
  ·cases e;exact .inl ⟨_,by rw[d1.int],k _ H1 s1 c7⟩
  ·cases e;exact .inr ⟨_,by rw[d1.bl],k _ H1 s1 c7⟩
  ·cases e
theorem E8{i:Nat}{o:Expr}{p1 p2:Pos}{l:Z.LF}{H0:Hp}(hs:swapsWith (.Call (.Attribute o "extend" p1) [a] [] p2) none pos.line X.env=pure false:=by rfl)
  (Vn:PE X (.Call (.Attribute o "extend" p1) [a] [] p2) (Tn X.K "list" De (yu i) (FO (Wn X.K l) Lx))) :
  DS X H0 (.Expr (.Call (.Attribute o "extend" p1) [a] [] p2) pos) (Z.Ej i l):=PS.imp (Dg Vn hs) λ D σ H ⟨ρ,fl,rs,e,k⟩=>by
 obtain⟨ys,ea,e⟩:=Z.Res.az e;split at e
 ·rename_i xs ei;unfold Z.guard at e;split at e
  ·rename_i hl;cases e;obtain⟨v,si,q,us,rfl,hq,t⟩:=rs.re.get i _ ei;refine⟨.ref q,si,.inl ⟨rfl,us,i?.of hq⟩,ρ,ys,rs.re,ea,λ c vs H1 s1 hn hc tc=>?_⟩;have JR:H1 q=some (.lst us):=s1 _ _ hq;refine⟨q,c,us,vs,rfl,rfl,JR,hc,by rw[t.length,tc.length,sizeLine_eq];exact hl,?_⟩;exact k σ _ ((w4 s1).trans (kM JR)) ((rs.up s1).chg ei si JR ((t.up s1).append tc))
  ·cases e
 ·cases e
theorem Bx{x:Z.D}:∀{ys:List Z.D}{k:Nat},Z.wL x ys=some k->k=ys.countP (λ y=>(Z.lF y x).getD false)∧∀y∈ys,Z.lF y x=some ((Z.lF y x).getD false)
 | [],k,h=>by cases h;exact⟨rfl,λ y hy=>by cases hy⟩
 | y :: ys,k,h=>by
  unfold Z.wL at h;split at h
  ·rename_i a b ea eb;cases h;obtain⟨h1,h2⟩:=Bx eb;refine⟨by rw[List.countP_cons,ea,h1];rfl,λ z hz=>?_⟩;rcases List.mem_cons.mp hz with rfl | hz
   ·rw[ea];rfl
   ·exact h2 z hz
  ·cases h
theorem Kj{pins:List (Addr×Obj)}{σ:St}{H:Hp}{s:Shared}(I:Inv X pins σ H s){A:Around}(hu:A.units+60 < cLine){x:Z.D}{v:V}{u:Value}(hx:bQ X.K H x v)(rx:RelV v u){ys:List Z.D}{vs:List V}{us:List Value}(t:aG X.K H ys vs)(r:Vals vs us)(hh:∀y∈ys,Z.lF y x=some ((Z.lF y x).getD false)):
  ∃e:Value->Bool,(∀w∈us,SeqAt.EqAt A s w u (e w))∧us.countP e=ys.countP (λ y=>(Z.lF y x).getD false):=by
 classical
 let e:Value->Bool:=λ w=>if h:∃y vy,Den X.K H y vy∧RelV vy w∧y∈ys then(Z.lF h.choose x).getD false else false
 have he:∀w y vy,Den X.K H y vy->RelV vy w->y∈ys->e w=(Z.lF y x).getD false:=by
  intro w y vy dy ry hy;have hex:∃y vy,Den X.K H y vy∧RelV vy w∧y∈ys:=⟨y,vy,dy,ry,hy⟩
  show(if h:_ then _ else _)=_;rw[dif_pos hex];obtain⟨S?,VX,TL,G2⟩:=hex.choose_spec;have ev:S?=vy:=TL.inj ry;subst ev;rw[Den.inj I _ _ _ VX dy]
 have cnt:∀{zs:List Z.D}{vs:List V}{us:List Value},aG X.K H zs vs->Vals vs us->(∀z∈zs,z∈ys)->us.countP e=zs.countP (λ y=>(Z.lF y x).getD false):=by
  intro zs
  induction zs with
  | nil=>intro vs us t r _;simp only[aG]at t;subst t;cases r;rfl
  | cons z zs ih =>
   intro vs us t r hm;simp only[aG]at t;obtain⟨vy,vr,rfl,dy,tr⟩:=t;cases r with
   | cons ry rr=>rw[List.countP_cons,List.countP_cons,ih tr rr (λ w hw=>hm w (List.mem_cons_of_mem _ hw)),he _ z vy dy ry (hm z List.mem_cons_self)]
 refine⟨e,λ w hw=>?_,cnt t r λ _ h=>h⟩;obtain⟨j,hj,ej⟩:=List.getElem_of_mem hw;have hl:=r.length;have ht:=t.length;obtain⟨y,ey⟩:∃y,ys[j]?=some y:=⟨ys[j]'(by lia),List.getElem?_eq_getElem (by lia)⟩
 obtain⟨vy,Ib,dy⟩:=t.get ey;obtain⟨u',VE,Ox⟩:=r.get Ib;have:u'=w:=by have:=List.getElem?_eq_getElem hj;rw[VE,ej]at this;exact Option.some.inj this
 subst this;have hy:y∈ys:=List.mem_of_getElem? ey;rw[he _ y vy dy Ox hy];exact(Nt I 6 (A:=A) (by lia) (hh y hy) (.inl dy) hx Ox rx).2.1
def LG(K:PySem.W.Frag):V->List V->Hp->VK->Prop:=λ x vs H Q=>∃d ys q us v k,x=.ref q∧vs=[v]∧i? K H q us∧aG K H ys us∧bQ K H d v∧Z.wL d ys=some k∧Q (.int k) H
theorem GG(hu:X.A.units+64 < cLine):Kx X "list.count" (LG X.K):=by intro pins s σ H x vs v us Q I rx rv h;obtain⟨d,ys,q,us',v',k,rfl,rfl,hq,t,hd,e,k'⟩:=h;cases rx;obtain⟨u,rfl,ru⟩:=rv.one;obtain⟨e1,e2⟩:=Bx e;subst e1;obtain⟨aY,r,pl,hz⟩:=I.list hq;obtain⟨f,hf,EV⟩:=Kj I (A:=X.A.in1) (show X.A.units+1+60 < cLine by lia) hd ru t r e2;obtain⟨⟨cls,dd,data,sl⟩,ho,hc,n,K?⟩:=id pl.isList;simp only at hc K?;subst hc K?;refine call_meets F.slot_list_count ⟨_,ho,rfl⟩ F.entry_list_count (F.args_list_count_2 _ _) (SeqAt.list_countAt q aY.toArray n dd sl u f) ⟨ho,λ w hw=>hf w (by simpa using hw),?_⟩;refine⟨.int _,H,I.tok _,⟨_,rfl⟩,?_⟩;show Q (.int ((aY.countP f:Nat):Int)) H;rw[EV];exact k'
theorem wI{o : Expr}{p1 p2 : Pos}(hu : X.A.units + 64 < cLine)(ho : DW X o fa)(hb : DW X b fb)
  (hbase:attributeBase o "count" X.env (eval o X.env)=eval o X.env:=by rfl)
  (hfew:((backTo p2 (starEach (b :: []) X.env)).all (λ x=>!x.1)&&(backToKw p2 (keywordEach [] X.env)).all (λ x=>x.1.isSome)
   && decide ((b :: []).length+([]:List Keyword).length+(if([]:List Keyword).isEmpty then 0 else 1) < 30))=true:=by rfl)
  (hline:(p1.endLine==p2.line)=true:=by rfl) (hs1:starEach (b :: []) X.env=(false,eval b X.env) :: starEach [] X.env:=by rfl) (hplain:(backTo p2 (starEach [] X.env)).any (·.1)=false:=by rfl) :
  DE X (.Call (.Attribute o "count" p1) [b] [] p2) (Z.eB Z.vJ fa fb) :=
 PE.imp (Au PySem.F.plainAttrs_list PySem.F.slot_list_count PySem.F.type_list_count (GG hu) ho (b9 hb dJ hs1) hbase hfew hline hs1 hplain) λ σ H Q ⟨ρ,d,r,e,k⟩=>by
  obtain⟨x,ea,e⟩:=Z.Res.az e;obtain⟨y,eb,e⟩:=Z.Res.az e;refine⟨ρ,x,r,ea,λ v H1 s1 d1=>?_⟩;unfold Z.vJ at e;split at e
  ·rename_i ys _;split at e
   ·rename_i n hn;cases e;obtain⟨q,vs,rfl,hq,t⟩:=d1.lst;refine⟨.inl ⟨rfl,vs,hq⟩,ρ,y,r.up s1,eb,λ u H2 s2 d2=>?_⟩;exact⟨y,ys,q,vs,u,n,rfl,rfl,s2.seq hq,t.up s2,d2,hn,k _ H2 (s1.trans s2) c7⟩
   ·cases e
  ·cases e
theorem C9: ∀{xs : List Z.D}{k : Int}, Z.Ad xs = some k -> ∃ns : List Int, xs = ns.map Z.D.int ∧ k = ns.sum
 | [],k,h=>by cases h;exact⟨[],rfl,rfl⟩
 | x :: xs,k,h=>by
  cases x with
  | int b =>
   have h':(Z.Ad xs).map (b+·)=some k:=h;cases q:Z.Ad xs with
   | none=>rw[q]at h';cases h'
   | some k' =>rw[q]at h';cases h';obtain⟨bs,rfl,rfl⟩:=C9 q;exact⟨b :: bs,rfl,rfl⟩
  | non=>cases h
  | bl _=>cases h
  | str _=>cases h
  | tup _=>cases h
  | lst _=>cases h
  | dct _ _=>cases h
theorem oX{K:PySem.W.Frag}{H:Hp}:∀{ns:List Int}{vs:List V},aG K H (ns.map Z.D.int) vs->vs=ns.map V.int
 | [],vs,h=>by simp only[List.map_nil,aG]at h;subst h;rfl
 | b :: bs,vs,h=>by simp only[List.map_cons,aG]at h;obtain⟨v,r,rfl,hv,ht⟩:=h;simp only[Den]at hv;rw[hv,oX ht];rfl
theorem IS(ns : List Int): preSum (λ i => ns[i]?.getD 0) ns.length = ns.sum := by
 have key:∀k,k≤ns.length->preSum (λ i=>ns[i]?.getD 0) k=(ns.take k).sum:=by
  intro k
  induction k with
  | zero=>intro _;simp[preSum]
  | succ k ih =>
   intro hk;have e:preSum (λ i=>ns[i]?.getD 0) (k+1)=preSum (λ i=>ns[i]?.getD 0) k+ns[k]?.getD 0:=rfl;have UH:∀(xs ys:List Int),(xs++ys).sum=xs.sum+ys.sum:=λ xs ys=>by
    induction xs with
    | nil=>simp
    | cons x xs ih=>simp only[List.cons_append,List.sum_cons,ih];lia
   rw[e,ih (by lia),List.take_add_one,UH,List.getElem?_eq_getElem (show k < ns.length by lia)];simp
 have:=key ns.length (Nat.le_refl _);rwa [List.take_length]at this
theorem E_(hc:X.calm=true):kF X (.builtin "sum") (λ xs H Q=>∃(q:Addr) (ns:List Int),xs=[.ref q]∧i? X.K H q (ns.map V.int)∧Q (.int ns.sum) H):=by
 intro pins s σ H xs us Q I r h;obtain⟨q,ns,rfl,hq,k⟩:=h;obtain⟨u,rfl,ru⟩:=vals1 r;cases ru;obtain⟨aY,rv,pl,hz⟩:=I.list hq;have hl:=rv.length;rw[List.length_map]at hl;have l4:q < s.heap.objs.size:=by obtain⟨_,e,_⟩:=pl.isList;exact Heap.lt_size e
 have hh:X.A.in1.handled=none:=I.ok.hd hc;refine call_sum_walkG (wpAny_pyIter_list pl.isList ?_);refine⟨s.heap.objs.size,[s.heap.objs.size,q],[s.heap.objs.size],aY.toArray.size,_,_,λ i=>ns[i]?.getD 0,rfl,Walks.list hh s.heap.objs.size q (Nat.ne_of_lt l4) aY.toArray,⟨⟨_,Heap.get?_push_size _ rfl,rfl,rfl⟩,pl.isList.push _⟩,?_,?_,λ h' tk t' hk=>?_⟩
 ·intro b hb;show b < (s.heap.push _).objs.size;rw[Heap.size_push];rcases List.mem_cons.mp hb with rfl | hb
  ·exact Nat.lt_succ_self _
  ·rw[List.mem_singleton.mp hb];exact Nat.lt_succ_of_lt l4
 ·intro i v hv;have hi:aY[i]?=some v:=by simpa using hv
  obtain⟨Qb,_⟩:=List.getElem?_eq_some_iff.mp hi;have hb:(ns.map V.int)[i]?=some (V.int (ns[i]'(by lia))):=by rw[List.getElem?_map,List.getElem?_eq_getElem (by lia)];rfl
  obtain⟨u,hu,ru⟩:=rv.get hb;rw[hi]at hu;cases hu;obtain⟨t,rfl⟩:=ru;exact⟨t,by show Value.int _ t=Value.int (ns[i]?.getD 0) t;rw[List.getElem?_eq_getElem (by lia)];rfl⟩
 ·have I1:Inv X pins σ H { s with heap:=s.heap.push { cls:=.type "list_iterator",data:=.fields #[.ref q,.int 0 0] } }:=I.kept (t':=s.toks) λ b o e=>Heap.get?_push_of_some _ e;obtain⟨f0,f1,f2,f3,f4,f5⟩:=I.xr (H':=H) (Nat.le_refl s.heap.objs.size) I.fresh;have I2:=I1.turned (h':=h') (t':=tk) (it:=s.heap.objs.size) (λ b o hb e=>hk b o (by simpa using hb) e) f0 f1 f3 f4 f5;refine⟨.int _,H,I2,⟨t',rfl⟩,?_⟩;rw[List.size_toArray,<-hl,IS];exact k
theorem zw{x : Str}{p1 : Pos}(hg : Gl X x)(hm : X.mg x = none)(hv : bootBuiltins x = some (.builtin "sum"))(ha : DW X a fa)(hc : X.calm = true := by rfl)(hn : x ≠ "__name__" := by decide +kernel)(hdb : (x == ("__debug__" : Str)) = false := by decide +kernel)
  (he:starEach (a :: []) X.env=(false,eval a X.env) :: starEach [] X.env:=by rfl) (hpl:(backTo pos (starEach [] X.env)).any (·.1)=false:=by rfl):DE X (.Call (.Name x p1) [a] [] pos) (Z.eU Z.Eu fa) :=
 PE.imp (jW (E_ hc) hg hm hv (b9 ha dJ he) hn hdb he hpl) λ σ H Q ⟨ρ,d,r,e,k⟩=>by
  obtain⟨x,ea,e⟩:=Z.Res.az e;refine⟨ρ,x,r,ea,λ v H1 s1 d1=>?_⟩;unfold Z.Eu at e;split at e
  ·split at e
   ·rename_i xs k' hk;cases e;obtain⟨bs,rfl,rfl⟩:=C9 hk;obtain⟨q,vs,rfl,hq,t⟩:=d1.lst;rw[oX t]at hq;exact⟨q,bs,rfl,hq,k _ H1 s1 c7⟩
   ·cases e
  ·cases e
end
end ZS
namespace ZQ
open PySem PySem.Spec PyProof.Rows L2 ZS
section
variable {X:Cx}{tg e a b c:Expr}{es:List Expr}{pos p:Pos}{f fa fb fc:Z.EF}{H0:Hp}
theorem uX{x:Str}{p1:Pos}(hg:Gl X x)(hm:X.mg x=none)(hv:bootBuiltins x=some (.builtin "max"))(ha:QW X a fa)(hb:QW X b fb)(hc:X.calm=true:=by rfl)(hn:x ≠ "__name__" := by decide +kernel)(hdb:(x==("__debug__" : Str))=false:=by decide +kernel)(he:starEach (a :: [b]) X.env=(false,eval a X.env) :: starEach [b] X.env:=by rfl)(he2:starEach (b :: []) X.env=(false,eval b X.env) :: starEach [] X.env:=by rfl)(hpl:(backTo pos (starEach [b] X.env)).any (·.1)=false:=by rfl):QE X (.Call (.Name x p1) [a,b] [] pos) (Z.eB Z.Ey fa fb):=⟨ZS.uX (hg:=hg) (hm:=hm) (hv:=hv) (ha:=ha.p) (hb:=hb.p) (hc:=hc) (hn:=hn) (hdb:=hdb) (he:=he) (he2:=he2) (hpl:=hpl)⟩
theorem zF{x:Str}{p1:Pos}(hg:Gl X x)(hm:X.mg x=none)(hv:bootBuiltins x=some (.type "int"))(ha:QW X a fa)(hn:x ≠ "__name__" := by decide +kernel)(hdb:(x==("__debug__" : Str))=false:=by decide +kernel)(he:starEach (a :: []) X.env=(false,eval a X.env) :: starEach [] X.env:=by rfl)(hpl:(backTo pos (starEach [] X.env)).any (·.1)=false:=by rfl):QE X (.Call (.Name x p1) [a] [] pos) (Z.eU Z.AQ fa):=⟨ZS.zF (hg:=hg) (hm:=hm) (hv:=hv) (ha:=ha.p) (hn:=hn) (hdb:=hdb) (he:=he) (hpl:=hpl)⟩
theorem wI{o:Expr}{p1 p2:Pos}(hu:X.A.units+64 < cLine)(ho:QW X o fa)(hb:QW X b fb)(hbase:attributeBase o "count" X.env (eval o X.env)=eval o X.env:=by rfl)(hfew:((backTo p2 (starEach (b :: []) X.env)).all (λ x=>!x.1)&&(backToKw p2 (keywordEach [] X.env)).all (λ x=>x.1.isSome)
   && decide ((b :: []).length+([]:List Keyword).length+(if([]:List Keyword).isEmpty then 0 else 1) < 30))=true:=by rfl) (hline:(p1.endLine==p2.line)=true:=by rfl) (hs1:starEach (b :: []) X.env=(false,eval b X.env) :: starEach [] X.env:=by rfl) (hplain:(backTo p2 (starEach [] X.env)).any (·.1)=false:=by rfl):QE X (.Call (.Attribute o "count" p1) [b] [] p2) (Z.eB Z.vJ fa fb):=⟨ZS.wI (hu:=hu) (ho:=ho.p) (hb:=hb.p) (hbase:=hbase) (hfew:=hfew) (hline:=hline) (hs1:=hs1) (hplain:=hplain)⟩
theorem zw{x:Str}{p1:Pos}(hg:Gl X x)(hm:X.mg x=none)(hv:bootBuiltins x=some (.builtin "sum"))(ha:QW X a fa)(hc:X.calm=true:=by rfl)(hn:x ≠ "__name__" := by decide +kernel)(hdb:(x==("__debug__" : Str))=false:=by decide +kernel)(he:starEach (a :: []) X.env=(false,eval a X.env) :: starEach [] X.env:=by rfl)(hpl:(backTo pos (starEach [] X.env)).any (·.1)=false:=by rfl):QE X (.Call (.Name x p1) [a] [] pos) (Z.eU Z.Eu fa):=⟨ZS.zw (hg:=hg) (hm:=hm) (hv:=hv) (ha:=ha.p) (hc:=hc) (hn:=hn) (hdb:=hdb) (he:=he) (hpl:=hpl)⟩
theorem CJ{i:Nat}{o:Expr}{p1 p2:Pos}{l:Z.LF}(ho:PE X o (yu i))(ha:QL X a l)(hs:swapsWith (.Call (.Attribute o "extend" p1) [a] [] p2) none pos.line X.env=pure false:=by rfl)(hs1:starEach (a :: []) X.env=(false,eval a X.env) :: starEach [] X.env:=by rfl)
  (hbase:attributeBase o "extend" X.env (eval o X.env)=eval o X.env:=by rfl)
  (hfew:((backTo p2 (starEach (a :: []) X.env)).all (λ x=>!x.1)&&(backToKw p2 (keywordEach [] X.env)).all (λ x=>x.1.isSome)
   && decide ((a :: []).length+([]:List Keyword).length+(if([]:List Keyword).isEmpty then 0 else 1) < 30))=true:=by rfl)
  (hline:(p1.endLine==p2.line)=true:=by rfl) (hplain:(backTo p2 (starEach [] X.env)).any (·.1)=false:=by rfl) :
  QS X H0 (.Expr (.Call (.Attribute o "extend" p1) [a] [] p2) pos) (Z.Ej i l) :=
 ⟨ZS.E8 hs (Au PySem.F.plainAttrs_list PySem.F.slot_list_extend PySem.F.type_list_extend EJ ho (b9 ha.p dJ hs1) hbase hfew hline hs1 hplain)⟩
end
end ZQ
namespace ZS
open PySem PySem.Spec PyProof.Rows L2 PySem.W
theorem tM{i:Int}:∀{ns:List Int},i∈ns->WData.weight (.int i)≤WData.weightAll (ns.map WData.int)
 | [],h=>by cases h
 | n :: ns,h=>by
  rcases List.mem_cons.mp h with rfl | h
  ·simp only[List.map_cons,WData.weightAll];lia
  ·have:=tM h;simp only[List.map_cons,WData.weightAll];lia
theorem BC{ns:List Int}(h:WData.layableAll [WData.list (ns.map WData.int)]=true):∀i∈ns,Z.bits i≤2 ^ 20:=by
 intro i hi;have h1:WData.layable (.list (ns.map WData.int))=true:=List.all_eq_true.mp h _ List.mem_cons_self;unfold WData.layable at h1;rw[Bool.and_eq_true]at h1;have h2:WData.weight (.list (ns.map WData.int))≤2 ^ 20:=of_decide_eq_true h1.2;have h3:WData.weight (.list (ns.map WData.int))=WData.weightAll (ns.map WData.int):=by simp only[WData.weight]
 have h4:=tM hi;have h5:WData.weight (.int i)=Z.bits i:=by
  simp only[WData.weight];unfold Z.bits;by_cases hz:i=0
  ·subst hz;rfl
  ·rw[if_neg hz,if_neg (by simpa using hz)]
 lia
def HL(q:Program)(K:Frag):Prop:=noTabs K=true∧(∀x∈di,∀c P,tabIn K x=some (c,P)->∃d,(recsOf q).find? (λ e=>e.name==x)=some d) ∧
 ∀x y c P c',x∈di->y∈di->tabIn K x=some (c,P)->tabIn K y=some (c',P)->x=y
theorem u!{K:Frag}{x:Str}{f c p:Addr}{o1 o2:Value}{d1 d2:Option Addr}{s1 s2:Array (Option Value)}{fd:FuncData}{vs:Array Value}(h:nsIn K mainGlobals x=some (some (.ref f)))(h2:K.lookup f=some ⟨o1,d1,.func fd,s1⟩)(h3:fd.code=.ref c)
  (h4:K.lookup c=some ⟨o2,d2,.fields vs,s2⟩) (h5:vs[11]?=some (.ref p)):tabIn K x=some (c,p):=by
 unfold tabIn;rw[h];dsimp only;rw[h2];dsimp only;rw[h3];dsimp only;rw[h4];dsimp only;rw[h5]
theorem gQ{p:Str->Prop}(h1:p "best_among")(h2:p "paper_beside"):∀x∈di,p x:=by
 intro x hx;unfold di at hx;rcases List.mem_cons.mp hx with rfl | hx
 ·exact h1
 ·rw[List.mem_singleton.mp hx];exact h2
theorem Mj{q:Program}{K:Frag}{r1 r2:Option (Addr×Addr)}(n:noTabs K=true)(h1:tabIn K "best_among" = r1)(h2:tabIn K "paper_beside" = r2)(g1:r1=none∨((recsOf q).find? (λ e=>e.name==Str.ofString "best_among")).isSome=true)(g2:r2=none∨((recsOf q).find? (λ e=>e.name==Str.ofString "paper_beside")).isSome=true)
  (ne:∀c P c' P',r1=some (c,P)->r2=some (c',P')->P≠P'):HL q K:=by
 refine⟨n,gQ (λ c P e=>?_) (λ c P e=>?_),λ x y c P c' hx hy=>?_⟩
 ·rcases g1 with z | z
  ·rw[h1,z]at e;cases e
  ·exact Option.isSome_iff_exists.mp z
 ·rcases g2 with z | z
  ·rw[h2,z]at e;cases e
  ·exact Option.isSome_iff_exists.mp z
 ·refine gQ (p:=λ x=>tabIn K x=some (c,P)->tabIn K y=some (c',P)->x=y) (λ e1=>?_) (λ e1=>?_) x hx
  ·refine gQ (p:=λ y=>tabIn K y=some (c',P) -> "best_among" = y) (λ _=>rfl) (λ e2=>?_) y hy;exact absurd rfl (ne c P c' P (h1.symm.trans e1) (h2.symm.trans e2))
  ·refine gQ (p:=λ y=>tabIn K y=some (c',P) -> "paper_beside" = y) (λ e2=>?_) (λ _=>rfl) y hy;exact absurd rfl (ne c' P c P (h1.symm.trans e2) (h2.symm.trans e1))
theorem Lp{l : OpenLaw}{n k : Nat}{q : Program}{loose : List Str}{XP : (Str -> Option Value) -> Heap -> Prop}{YP : World -> Heap -> Prop}{d : DefRec}{K : Params -> Frag}{m : List Z.D -> Z.Res Z.D}{x : Str}
  (hn:l.most=some n) (hn2:n≤sizeLine) (Vi:d.params.defaults=[]) (hr:eM k callerA)
  (hY:∀(w:World)(h:Heap),YP w h->(K w.params).In h)
  (F:∀ (w:World) (mg:Str->Option Value) (fa:Addr) (h:Heap),(K w.params).In h->h.Ns mainGlobals mg->mg d.name=some (.ref fa) ->
   ∃fd:FuncData,(∀(s:Shared)(u:Value),BindsTo s fd ⟨[u],[]⟩ [(x,u)]) ∧
    ∀base:Heap,(K w.params).In base->base.Ns mainGlobals mg->nE l.prog w (K w.params) mg base tI k fa fd [x] (z6 (K w.params) m)) (hL:∀w:World,HL q (K w.params))
  (hold:∀ns:List Int,ns.length≤n->(∀i∈ns,Z.bits i≤2 ^ 20)->m [.lst (ns.map .int)]=.ok (.bl true)) :
  WalkO q loose XP YP l.row.toRowW d [] (λ f vs=>PySem.call f vs):=by
 intro w s₀ s₁ mg mb G Y fa o pm cd doc dV kV ho hd hcd hD UZ hg args vals as JT U4 hrd UE U1;cases Dflts.none hD Vi;cases Dflts.noKw hD;obtain⟨a,vs,ns,rfl,rfl,UR,hints,hlen⟩:=Wd.Ei hn JT UE;have KX:=hY w _ Y;obtain⟨fd,hb,hF⟩:=F w mg fa _ KX G.T.g UZ;have C:=GN KX G.T.g G.T.b G.T.builtins G.T.nolimit hg UR hints (Nat.le_trans hlen hn2) hr hF hb (λ H hO hS=>Mi hO hS (hold ns hlen (BC U4))) (λ H e s' z=>z)
  (hL w).2.2 (λ y hy c p e=>let ⟨d,hd⟩:=(hL w).2.1 y hy c p e;let T:=tab_of G.T KX hd e;⟨T,T.1.tab T.2⟩) G.T.bmain (hL w).1
 refine enter_call (codeAny_mono C λ r s' hq=>?_);obtain⟨rfl,h2,h3,h4⟩:=hq;exact⟨.inl ⟨.bool true,.bool true,[],rfl,λ _=>rfl,.bool true,Wd.Em l _,λ _=>⟨List.Pairwise.nil,λ _ hm=>(nomatch hm)⟩⟩,h2,h3,h4⟩
end ZS
namespace ZS
open PySem PySem.Spec PyProof.Rows L2
section
variable {prog:Program}{w:World}{A:Around}{E:Value->Shared->Prop}{s:Shared}
theorem Cd{it t:Addr}{i:Nat}{items:Array Value}{x:Value}{Q:Value->Shared->Prop}(hit:s.heap.IsTupleIter it t i)(ht:s.heap.IsTuple t items)(hx:items[i]?=some x)
  (hQ:∀h',h'.IsTupleIter it t (i+1)->Heap.SameBut it s.heap h'->Q x { s with heap:=h' }):wpAny (model prog w) A (Builtin.SmallTypes.nextOf (.ref it)) Q E s:=by
 obtain⟨ob,K6,xo,JY⟩:=id hit;obtain⟨ot,JU,_,nt,Qi⟩:=ht;unfold Builtin.SmallTypes.nextOf;refine wpAny_bind (wpAny_callSpecial?_slot (name:=Str.ofString "__next__") hit.typeIs F.slot_tuple_iterator_next (wpAny_call_entry F.slot_tuple_iterator_next hit.typeIs F.entry_tuple_iterator_next ?_ (F.args_tuple_iterator_next_1 _)));show wpAny _ _ (field (.ref it) 0 >>= _) _ _ _;refine wpAny_bind (wpAny_field K6 JY (x:=.ref t) rfl ?_);show wpAny _ _ (if(Value.ref t==Value.none)=true then _ else _) _ _ _;have K7:¬(Value.ref t==Value.none)=true:=Bool.false_ne_true;rw[if_neg K7];show wpAny _ _ (field (.ref it) 1 >>= _) _ _ _;refine wpAny_bind (wpAny_field K6 JY (x:=.int i 0) rfl ?_);show wpAny _ _ (seqItems? (.ref t) >>= _) _ _ _;refine wpAny_bind (wpAny_seqItems JU Qi ?_);simp only[Int.toNat_natCast,hx];refine wpAny_bind (wpAny_setField K6 JY (by simp) (wpAny_pure ⟨x,rfl,wpAny_pure (hQ _ ⟨_,Heap.get?_update_self _ K6 (Obj.isFreed_of_fields (Obj.data_mapFields JY _)),(Obj.cls_mapFields ..).trans xo,?_⟩ (Heap.SameBut.update ..))⟩));rw[Obj.data_mapFields JY];simp[rawInt]
theorem EH{it t:Addr}{i:Nat}{items:Array Value}{Q:Value->Shared->Prop}(hh:A.handled=none)(hit:s.heap.IsTupleIter it t i)(ht:s.heap.IsTuple t items)(hx:items[i]?=none)
  (hE:∀h' e,Heap.ExtBut it s.heap h'->(∃o,h'.get? e=some o∧o.cls=.type "StopIteration")->E (.ref e) { s with heap:=h' }):wpAny (model prog w) A (Builtin.SmallTypes.nextOf (.ref it)) Q E s:=by
 obtain⟨ob,K6,xo,JY⟩:=id hit;obtain⟨ot,JU,_,nt,Qi⟩:=ht;unfold Builtin.SmallTypes.nextOf;refine wpAny_bind (wpAny_callSpecial?_slot (name:=Str.ofString "__next__") hit.typeIs F.slot_tuple_iterator_next (wpAny_call_entry F.slot_tuple_iterator_next hit.typeIs F.entry_tuple_iterator_next ?_ (F.args_tuple_iterator_next_1 _)));show wpAny _ _ (field (.ref it) 0 >>= _) _ _ _;refine wpAny_bind (wpAny_field K6 JY (x:=.ref t) rfl ?_);show wpAny _ _ (if(Value.ref t==Value.none)=true then _ else _) _ _ _;have K7:¬(Value.ref t==Value.none)=true:=Bool.false_ne_true;rw[if_neg K7];show wpAny _ _ (field (.ref it) 1 >>= _) _ _ _;refine wpAny_bind (wpAny_field K6 JY (x:=.int i 0) rfl ?_);show wpAny _ _ (seqItems? (.ref t) >>= _) _ _ _;refine wpAny_bind (wpAny_seqItems JU Qi ?_);simp only[Int.toNat_natCast,hx];refine wpAny_bind (wpAny_rule (wpAny_bind (wpAny_setField K6 JY (by simp) ?_)));show wpAny _ _ (newExc (.type "StopIteration") [] >>= _) _ _ _;refine wpAny_bind ?_;simp only[newExc,newTuple];refine wpAny_bind (wpAny_newObj_type ?_ (by size_fits));refine wpAny_bind (m:=firstArgMember _ _) (wpAny_of_eq (a:=Value.none) (by first | rfl | (simp only[firstArgMember];rfl)) ?_);refine wpAny_newObj_type ?_ (by size_fits);simp only[raiseNew];refine wpAny_bind (wpAny_handled ?_)
 first | rw[show A.in1.handled=none from hh] | rw[hh]
 exact wpAny_bind (wpAny_pure (wpAny_throw (hE _ _ (((Heap.SameBut.update ..).extBut.push _).push _) ⟨_,Heap.get?_push_size _ rfl,rfl⟩)))
end
theorem M9{prog:Program}{w:World}{A:Around}(hh:A.handled=none)(it t:Addr)(uV:t≠it)(items:Array Value):
  Draws prog w A it [it,t] items.size (λ i v=>items[i]?=some v) (λ i h=>h.IsTupleIter it t i∧h.IsTuple t items) where
 live:=λ _ _ st=>let ⟨o,ho,_⟩:=st.1;⟨o,ho⟩
 frame:=λ _ _ _ st hk=>by obtain⟨⟨o,e,r⟩,⟨o2,e2,r2⟩⟩:=st;exact⟨⟨o,hk it (by simp) o e,r⟩,⟨o2,hk t (by simp) o2 e2,r2⟩⟩
 item:=λ i s Q E hi st hQ=>by refine Cd st.1 st.2 (x:=items[i]) (by simp[hi]) λ h' U! NM=>?_;exact hQ _ h' s.toks (by simp[hi]) ⟨U!,st.2.extBut NM.extBut uV⟩ NM
 done:=λ s Q E st hE=>EH hh st.1 st.2 (by simp) hE
theorem Iq{X:Cx}{pins:List (Addr×Obj)}{σ:St}{H:Hp}{s:Shared}{h':Heap}{t':Nat}{ch:List Addr}(I:Inv X pins σ H s)(k:∀b o,b∉ch->s.heap.get? b=some o->h'.get? b=some o)(hf:∀b∈ch,s? X pins H b):Inv X pins σ H { s with heap:=h',toks:=t' }:=by
 have GA:∀b u,H b=some u->b∉ch:=λ b u e hb=>by rw[(hf b hb).1]at e;cases e
 refine I.step (g':=s.gens) (d':=s.drawn) (ch:=ch) (λ b hb=>?_) (λ b o _ _ hc e _=>k b o hc e) (λ b o _ _ hc e _=>⟨o.slots,k b o hc e⟩) (λ _ _ _ _ n=>n)
  (λ b o hc e=>⟨o,k b o hc e⟩) (λ _ _ e=>e) (λ _ _ _ e=>e) (λ _ _ _ e=>e) (λ m hm=>?_) (λ b u e=>?_) I.bare
 ·obtain⟨f0,f1,f2,f3,f4,f5⟩:=hf b hb;exact⟨f3,f1,f4,f5⟩
 ·obtain⟨o,es,ep,ho,r⟩:=hm;exact⟨o,es,ep,k _ o (λ hb=>(hf _ hb).2.1 rfl) ho,r⟩
 ·refine(I.dW b u e).vc (λ c v hc q=>k c v ?_ q) (λ _ q=>q) (λ _ _ q=>q) λ _ _ _ q=>q;rcases hc with z | z
  ·rw[z];exact GA b u e
  ·exact GA c _ z
theorem Ip{X : Cx}{pins : List (Addr × Obj)}{σ : St}{H : Hp}{s : Shared}{h' : Heap}{t' : Nat}{ch : List Addr}{T : Addr}{xs : List V}{us : List Value}(I : Inv X pins σ H s)(k : ∀b o, b ∉ ch -> s.heap.get? b = some o -> h'.get? b = some o)(hf : ∀b ∈ ch, s? X pins H b)
  (hT:s.heap.objs.size≤T) (Zp:h'.IsTuple T us.toArray) (r:Vals xs us) (hz:xs.length≤sizeLine):Inv X pins σ (upd H T (.tup xs)) { s with heap:=h',toks:=t' }:=by
 have hn:H T=none:=I.dW.fresh hT;have GA:∀b u,H b=some u->b∉ch:=λ b u e hb=>by rw[(hf b hb).1]at e;cases e
 have up:∀b u,H b=some u->upd H T (.tup xs) b=some u:=λ b u e=>by rw[a! (cy e hn)];exact e
 have lt:∀b o,s.heap.get? b=some o->b≠T:=λ b o e z=>by rw[z]at e;exact absurd (Heap.lt_size e) (Nat.not_lt.mpr hT)
 refine I.step (g':=s.gens) (d':=s.drawn) (ch:=ch) (λ b hb=>?_) (λ b o _ _ hc e _=>k b o hc e) (λ b o _ _ hc e _=>⟨o.slots,k b o hc e⟩) (λ b o _ e n=>by rw[a! (lt b o e)];exact n)
  (λ b o hc e=>⟨o,k b o hc e⟩) (λ b ys e=>up b _ e) (λ b o u e=>up b _ e) (λ b u _ e=>up b _ e) (λ m hm=>?_) (λ b u e=>?_) I.bare
 ·obtain⟨f0,f1,f2,f3,f4,f5⟩:=hf b hb;exact⟨f3,f1,f4,f5⟩
 ·obtain⟨o,es,ep,ho,q⟩:=hm;exact⟨o,es,ep,k _ o (λ hb=>(hf _ hb).2.1 rfl) ho,q⟩
 ·by_cases hb:b=T
  ·subst hb;rw[bV]at e;cases e;exact⟨hz,us,r,Zp⟩
  ·rw[a! hb]at e;refine(I.dW b u e).vc (λ c v hc q=>k c v ?_ q) (λ c q=>?_) (λ c ys q=>up c _ q) λ c v _ q=>up c _ q
   ·rcases hc with z | z
    ·rw[z];exact GA b u e
    ·exact GA c _ z
   ·exact up c _ q
end ZS
namespace ZS
open PySem PySem.Spec PyProof.Rows L2
structure Lk where
 at_:Nat->Hp->V->Prop
 end_:Nat->Hp->Prop
structure Src(P:Program)(w:World)(K:PySem.W.Frag)(J:Lk)(it:Addr)(G1:Nat->Heap->Prop):Prop where
 obj:∀i h,G1 i h->∃o,h.get? it=some o∧(∀v,o.data≠.cell v)∧o.cls≠.type "enumerate" ∧ o.cls≠.type "zip" ∧ o.cls≠.type "tuple"
 keep:∀i h h',G1 i h->(∀o,h.get? it=some o->h'.get? it=some o)->G1 i h'
 draw:∀(X:Cx),X.prog=P->X.w=w->X.K=K->X.calm=true->∀(i:Nat)(pins:List (Addr×Obj))(s:Shared)(σ:St)(H:Hp),Inv X pins σ H s->G1 i s.heap->((∃y,J.at_ i H y)∨J.end_ i H) ->
  ∃(fp:List Addr) (n:Nat) (Pv:Nat->Value->Prop) (S:Nat->Heap->Prop),Draws P w X.A.in1 it fp n Pv S∧S i s.heap∧it∈fp∧(∀b∈fp,b=it∨∃o,s.heap.get? b=some o∧o.cls≠.type "enumerate" ∧ o.cls≠.type "zip" ∧ (H b=none->∃o',K.lookup b=some o')) ∧
   ((∃y,J.at_ i H y)->i < n∧∀u,Pv i u->∃y,RelV y u∧J.at_ i H y)∧(J.end_ i H->i=n)∧∀j h,S j h->G1 j h
def G0(K:PySem.W.Frag)(t:Addr)(vs:List V):Lk:=⟨λ i H y=>oH K H t vs∧vs[i]?=some y,λ i H=>oH K H t vs∧vs.length=i⟩
def Mv(K:PySem.W.Frag)(t:Addr)(vs:List V):Lk:=⟨λ i H y=>i? K H t vs∧vs[i]?=some y,λ i H=>i? K H t vs∧vs.length=i⟩
theorem yz{P : Program}{w : World}{K : PySem.W.Frag}{t it : Addr}{xs : List V}: Src P w K (G0 K t xs) it (λ i h => h.IsTupleIter it t i) where
 obj:=λ i h st=>by obtain⟨o,e,c,d⟩:=st;exact⟨o,e,λ v z=>(by rw[d]at z;cases z),by rw[c];decide,by rw[c];decide,by rw[c];decide⟩
 keep:=λ i h h' st k=>let ⟨o,e,r⟩:=st;⟨o,k o e,r⟩
 draw:=by
  intro X hP hw hK hc i pins s σ H I st hg;subst hP hw hK;have hq:oH X.K H t xs:=by rcases hg with⟨y,h,_⟩ | ⟨h,_⟩<;>exact h
  obtain⟨aY,r,p,hz⟩:=I.tuple hq;obtain⟨ot,JU,MT,nt,Qi⟩:=id p;obtain⟨oi,P7,Qk,Zf⟩:=id st;have uV:t≠it:=by rintro rfl;rw[JU]at P7;cases P7;rw[MT]at Qk;injection Qk with z;exact absurd z (by decide)
  refine⟨[it,t],aY.toArray.size,_,_,M9 (A:=X.A.in1) (I.ok.hd hc) it t uV aY.toArray,⟨st,p⟩,by simp,λ b hb=>?_,λ⟨y,_,PU⟩=>?_,λ⟨_,hl⟩=>?_,λ j h q=>q.1⟩
  ·rcases List.mem_cons.mp hb with rfl | hb
   ·exact .inl rfl
   ·rw[List.mem_singleton]at hb;subst hb;refine .inr ⟨ot,JU,by rw[MT];decide,by rw[MT];decide,λ hn=>?_⟩;rcases hq with(z | ⟨o,z⟩) | ⟨o,_,_,z,_⟩
    ·rw[hn]at z;cases z
    ·rw[hn]at z;cases z
    ·exact⟨o,z⟩
  ·obtain⟨u,hu,ru⟩:=r.get PU;refine⟨by rw[List.size_toArray];exact(List.getElem?_eq_some_iff.mp hu).1,λ u' NL=>⟨y,?_,hq,PU⟩⟩;have:aY[i]?=some u':=by simpa using NL
   rw[hu]at this;cases this;exact ru
  ·rw[List.size_toArray,<-r.length,hl]
theorem ID{P : Program}{w : World}{K : PySem.W.Frag}{t it : Addr}{xs : List V}: Src P w K (Mv K t xs) it (λ i h => h.IsListIter it t i) where
 obj:=λ i h st=>by obtain⟨o,e,c,d⟩:=st;exact⟨o,e,λ v z=>(by rw[d]at z;cases z),by rw[c];decide,by rw[c];decide,by rw[c];decide⟩
 keep:=λ i h h' st k=>let ⟨o,e,r⟩:=st;⟨o,k o e,r⟩
 draw:=by
  intro X hP hw hK hc i pins s σ H I st hg;subst hP hw hK;have hq:i? X.K H t xs:=by rcases hg with⟨y,h,_⟩ | ⟨h,_⟩<;>exact h
  obtain⟨aY,r,p,hz⟩:=I.list hq;obtain⟨ot,JU,MT,nt,Qi⟩:=id p.isList;obtain⟨oi,P7,Qk,Zf⟩:=id st;have uV:t≠it:=by rintro rfl;rw[JU]at P7;cases P7;rw[MT]at Qk;injection Qk with z;exact absurd z (by decide)
  refine⟨[it,t],aY.toArray.size,_,_,Draws.list (A:=X.A.in1) (I.ok.hd hc) it t uV aY.toArray,⟨st,p.isList⟩,by simp,λ b hb=>?_,λ⟨y,_,PU⟩=>?_,λ⟨_,hl⟩=>?_,λ j h q=>q.1⟩
  ·rcases List.mem_cons.mp hb with rfl | hb
   ·exact .inl rfl
   ·rw[List.mem_singleton]at hb;subst hb;refine .inr ⟨ot,JU,by rw[MT];decide,by rw[MT];decide,λ hn=>?_⟩;rcases hq with(z | ⟨o,z⟩) | ⟨o,_,_,z,_⟩
    ·rw[hn]at z;cases z
    ·rw[hn]at z;cases z
    ·exact⟨o,z⟩
  ·obtain⟨u,hu,ru⟩:=r.get PU;refine⟨by rw[List.size_toArray];exact(List.getElem?_eq_some_iff.mp hu).1,λ u' NL=>⟨y,?_,hq,PU⟩⟩;have:aY[i]?=some u':=by simpa using NL
   rw[hu]at this;cases this;exact ru
  ·rw[List.size_toArray,<-r.length,hl]
section
variable {X:Cx}{a b:Expr}{pos p p2:Pos}{fa fb:Z.EF}{elts:List Expr}{x1:Nat}
end
end ZS
namespace ZS
open PySem PySem.Spec PyProof.Rows L2
structure Wa(z TI TO i1 i2:Addr)(f1 f2:List Addr):Prop where
 ne:[z,TI,TO,i1,i2].Nodup
 a1:z∉f1∧TO∉f1∧i2∉f1
 a2:z∉f2∧TO∉f2∧i1∉f2
section
variable {prog:Program}{w:World}{A:Around}{E:Value->Shared->Prop}{s:Shared}
theorem D_{z TI TO i1 i2:Addr}{f1 f2:List Addr}{n1 n2 k:Nat}{P1 P2:Nat->Value->Prop}{S1 S2:Nat->Heap->Prop}{a b:Value}{Q:Value->Shared->Prop}(F:Wa z TI TO i1 i2 f1 f2)(D1:Draws prog w A i1 f1 n1 P1 S1)(D2:Draws prog w A i2 f2 n2 P2 S2)
  (hz:IsZip s.heap z TI TO .none) (EY:IsPair s.heap TI (.ref i1) (.ref i2)) (Fz:IsPair s.heap TO a b) (h1:S1 k s.heap) (h2:S2 k s.heap) (K8:k < n1) (W5:k < n2)
  (hQ:∀x y h' tk,P1 k x->P2 k y->IsZip h' z TI TO (rawInt s.heap.objs.size)->IsPair h' TO x y->S1 (k+1) h'->S2 (k+1) h'->IsPair h' s.heap.objs.size x y->(∀c o,c∉[z,TO,i1,i2]->s.heap.get? c=some o->h'.get? c=some o)->Q (.ref s.heap.objs.size) { s with heap:=h',toks:=tk }) :
  wpAny (model prog w) A (Builtin.«zip.__next__» ⟨[.ref z],[]⟩) (λ fin s'=>∃v,fin=.done (.ret v)∧Q v s') E s:=by
 have ne:=F.ne;simp only[List.nodup_cons,List.mem_cons,List.not_mem_nil,or_false,not_or,List.nodup_nil,and_true,not_false_eq_true]at ne;obtain⟨⟨N3,HQ,KI,Lo⟩,⟨TITO,TIi1,TIi2⟩,⟨TOi1,TOi2⟩,i12⟩:=ne;obtain⟨Rm,Nk,PQ⟩:=F.a1;obtain⟨Rl,Kt,Mw⟩:=F.a2;obtain⟨hp,gs,dr,Wm,os⟩:=s;show wpAny _ _ (field (.ref z) 2 >>= _) _ _ _;refine wpAny_bind (wpAny_field hz rfl (x:=.bool false) rfl ?_);show wpAny _ _ (field (.ref z) 3 >>= _) _ _ _;refine wpAny_bind (wpAny_field hz rfl (x:=.ref TI) rfl (wpAny_bind (wpAny_seqItems EY rfl ?_)));show wpAny _ _ (Builtin.SmallTypes.ownedTupleIsFree (.ref z) >>= _) _ _ _;refine wpAny_bind ?_;unfold Builtin.SmallTypes.ownedTupleIsFree;refine wpAny_bind (wpAny_field hz rfl (x:=.none) rfl (wpAny_pure ?_));simp only[if_true];refine wpAny_bind (wpAny_rule (wpAny_bind (wpAny_field hz rfl (x:=.ref TO) rfl (wpAny_bind (wpAny_setField_rec hz (by simp) λ g1 K4 e1=>?_)))));have K4:IsZip g1 z TI TO .ellipsis:=K4;have e1:Heap.SameBut z hp g1:=e1;refine wpAny_bind ?_;simp only[List.zipIdx_cons,List.zipIdx_nil,List.forIn_cons,List.forIn_nil];refine wpAny_bind (wpAny_bind (wpAny_onRaise ?_));show wpAny _ _ (Builtin.SmallTypes.nextOf (.ref i1) >>= _) _ _ _;refine wpAny_bind (D1.item k _ _ _ K8 (D1.frame k hp g1 h1 λ c hc o q=>e1.extBut c o (λ y=>Rm (y▸hc)) q) λ x g2 t2 hx Xe e2=>wpAny_pure ?_);have e2:Heap.SameBut i1 g1 g2:=e2;have G?:IsPair g2 TO a b:=e2.extBut _ _ TOi1 (e1.extBut _ _ (Ne.symm HQ) Fz);refine wpAny_bind (wpAny_seqItems G? rfl (wpAny_bind (wpAny_updateSeq_pair G? λ g3 J0 e3=>?_)));have J0:IsPair g3 TO x b:=J0;have e3:Heap.SameBut TO g2 g3:=e3;refine wpAny_bind (wpAny_letGo (wpAny_pure ?_));refine wpAny_bind (wpAny_bind (wpAny_onRaise ?_));show wpAny _ _ (Builtin.SmallTypes.nextOf (.ref i2) >>= _) _ _ _;have Vs:S2 k g3:=D2.frame k hp g3 h2 λ c hc o q=>e3.extBut c o (λ y=>Kt (y▸hc)) (e2.extBut c o (λ y=>Mw (y▸hc)) (e1.extBut c o (λ y=>Rl (y▸hc)) q));refine wpAny_bind (D2.item k _ _ _ W5 Vs λ y g4 t4 hy Zw e4=>wpAny_pure ?_);have e4:Heap.SameBut i2 g3 g4:=e4;have Qp:IsPair g4 TO x b:=e4.extBut _ _ TOi2 J0;refine wpAny_bind (wpAny_seqItems Qp rfl (wpAny_bind (wpAny_updateSeq_pair Qp λ g5 JZ e5=>?_)));have JZ:IsPair g5 TO x y:=JZ;have e5:Heap.SameBut TO g4 g5:=e5;refine wpAny_bind (wpAny_letGo (wpAny_pure (wpAny_pure ?_)));refine wpAny_bind (wpAny_seqItems JZ rfl (wpAny_bind (wpAny_newTuple ?_)));have H!:g5.objs.size=hp.objs.size:=by rw[e5.1,e4.1,e3.1,e2.1,e1.1]
 have WS:IsZip g5 z TI TO .ellipsis:=e5.extBut _ _ HQ (e4.extBut _ _ Lo (e3.extBut _ _ HQ (e2.extBut _ _ KI K4)));have NK:z < g5.objs.size:=Heap.lt_size WS;show wpAny _ _ (Builtin.SmallTypes.ownedTupleHandOut (.ref z) (.ref g5.objs.size) >>= _) _ _ _;refine wpAny_bind ?_;unfold Builtin.SmallTypes.ownedTupleHandOut;have YH:IsZip (g5.push { cls:=.type "tuple",data:=.seq #[x,y] }) z TI TO .ellipsis:=Heap.get?_push_of_some _ WS;refine wpAny_bind (wpAny_setField_rec YH (by simp) λ g7 UB e7=>?_);have UB:IsZip g7 z TI TO (rawInt g5.objs.size):=UB;refine wpAny_setField_rec UB (by simp) λ g8 Ss e8=>?_;have Ss:IsZip g8 z TI TO (rawInt g5.objs.size):=Ss;have up:∀c o,c≠z->g5.get? c=some o->g8.get? c=some o:=λ c o h q=>e8.extBut _ _ h (e7.extBut _ _ h (Heap.get?_push_of_some _ q));have W?:IsPair g8 g5.objs.size x y:=e8.extBut _ _ (Nat.ne_of_gt NK) (e7.extBut _ _ (Nat.ne_of_gt NK) (Heap.get?_push_size _ rfl));have s1:S1 (k+1) g8:=D1.frame _ g2 g8 Xe λ c hc o q=>up c o (λ y=>Rm (y▸hc)) (e5.extBut c o (λ y=>Nk (y▸hc)) (e4.extBut c o (λ y=>PQ (y▸hc)) (e3.extBut c o (λ y=>Nk (y▸hc)) q)));have s2:S2 (k+1) g8:=D2.frame _ g4 g8 Zw λ c hc o q=>up c o (λ y=>Rl (y▸hc)) (e5.extBut c o (λ y=>Kt (y▸hc)) q);have kp:∀c o,c∉[z,TO,i1,i2]->hp.get? c=some o->g8.get? c=some o:=λ c o hc q=>by simp only[List.mem_cons,List.not_mem_nil,or_false,not_or]at hc;exact up c o hc.1 (e5.extBut _ _ hc.2.1 (e4.extBut _ _ hc.2.2.2 (e3.extBut _ _ hc.2.1 (e2.extBut _ _ hc.2.2.1 (e1.extBut _ _ hc.1 q)))))
 rw[H!]at Ss W?;refine wpAny_pure ⟨_,rfl,?_⟩;show Q (.ref g5.objs.size) _;rw[H!];exact hQ x y g8 t4 hx hy Ss (up _ _ (Ne.symm HQ) JZ) s1 s2 W? kp
theorem FF{z TI TO i1 i2:Addr}{f1 f2:List Addr}{n1 n2 k:Nat}{P1 P2:Nat->Value->Prop}{S1 S2:Nat->Heap->Prop}{a b:Value}{Q:Fin->Shared->Prop}(F:Wa z TI TO i1 i2 f1 f2)(D1:Draws prog w A i1 f1 n1 P1 S1)(D2:Draws prog w A i2 f2 n2 P2 S2)
  (hz:IsZip s.heap z TI TO .none) (EY:IsPair s.heap TI (.ref i1) (.ref i2)) (Fz:IsPair s.heap TO a b) (h1:S1 k s.heap) (h2:S2 k s.heap) (Vh:k=n1∨(k < n1∧k=n2))
  (hE:∀h' e tk,(∀c o,c∉[z,TO,i1,i2]->s.heap.get? c=some o->h'.get? c=some o)->(∃o,h'.get? e=some o∧o.cls=.type "StopIteration")->E (.ref e) { s with heap:=h',toks:=tk }) :
  wpAny (model prog w) A (Builtin.«zip.__next__» ⟨[.ref z],[]⟩) Q E s:=by
 have ne:=F.ne;simp only[List.nodup_cons,List.mem_cons,List.not_mem_nil,or_false,not_or,List.nodup_nil,and_true,not_false_eq_true]at ne;obtain⟨⟨N3,HQ,KI,Lo⟩,⟨TITO,TIi1,TIi2⟩,⟨TOi1,TOi2⟩,i12⟩:=ne;obtain⟨Rm,Nk,PQ⟩:=F.a1;obtain⟨Rl,Kt,Mw⟩:=F.a2;obtain⟨hp,gs,dr,Wm,os⟩:=s;show wpAny _ _ (field (.ref z) 2 >>= _) _ _ _;refine wpAny_bind (wpAny_field hz rfl (x:=.bool false) rfl ?_);show wpAny _ _ (field (.ref z) 3 >>= _) _ _ _;refine wpAny_bind (wpAny_field hz rfl (x:=.ref TI) rfl (wpAny_bind (wpAny_seqItems EY rfl ?_)));show wpAny _ _ (Builtin.SmallTypes.ownedTupleIsFree (.ref z) >>= _) _ _ _;refine wpAny_bind ?_;unfold Builtin.SmallTypes.ownedTupleIsFree;refine wpAny_bind (wpAny_field hz rfl (x:=.none) rfl (wpAny_pure ?_));simp only[if_true];refine wpAny_bind (wpAny_rule (wpAny_bind (wpAny_field hz rfl (x:=.ref TO) rfl (wpAny_bind (wpAny_setField_rec hz (by simp) λ g1 K4 e1=>?_)))));have K4:IsZip g1 z TI TO .ellipsis:=K4;have e1:Heap.SameBut z hp g1:=e1;refine wpAny_bind ?_;simp only[List.zipIdx_cons,List.zipIdx_nil,List.forIn_cons,List.forIn_nil];refine wpAny_bind (wpAny_bind (wpAny_onRaise ?_));show wpAny _ _ (Builtin.SmallTypes.nextOf (.ref i1) >>= _) _ _ _;have Xf:S1 k g1:=D1.frame k hp g1 h1 λ c hc o q=>e1.extBut c o (λ y=>Rm (y▸hc)) q;rcases Vh with rfl | ⟨K8,rfl⟩
 ·refine wpAny_bind (D1.done _ _ _ Xf λ g2 e e2 he=>?_);obtain⟨oe,MI,Ql⟩:=he;have e2:Heap.ExtBut i1 g1 g2:=e2;have My:IsZip g2 z TI TO .ellipsis:=e2 _ _ KI K4;have Vg:e≠z:=λ q=>by subst q;rw[My]at MI;cases MI;simp at Ql
  refine wpAny_setField_rec My (by simp) λ g3 _ e3=>hE g3 e Wm (λ c o hc q=>?_) ⟨oe,e3.extBut _ _ Vg MI,Ql⟩;simp only[List.mem_cons,List.not_mem_nil,or_false,not_or]at hc;exact e3.extBut _ _ hc.1 (e2 _ _ hc.2.2.1 (e1.extBut _ _ hc.1 q))
 ·refine wpAny_bind (D1.item k _ _ _ K8 Xf λ x g2 t2 hx Xe e2=>wpAny_pure ?_);have e2:Heap.SameBut i1 g1 g2:=e2;have G?:IsPair g2 TO a b:=e2.extBut _ _ TOi1 (e1.extBut _ _ (Ne.symm HQ) Fz);refine wpAny_bind (wpAny_seqItems G? rfl (wpAny_bind (wpAny_updateSeq_pair G? λ g3 J0 e3=>?_)));have e3:Heap.SameBut TO g2 g3:=e3;refine wpAny_bind (wpAny_letGo (wpAny_pure ?_));refine wpAny_bind (wpAny_bind (wpAny_onRaise ?_));show wpAny _ _ (Builtin.SmallTypes.nextOf (.ref i2) >>= _) _ _ _;have Vs:S2 k g3:=D2.frame k hp g3 h2 λ c hc o q=>e3.extBut c o (λ y=>Kt (y▸hc)) (e2.extBut c o (λ y=>Mw (y▸hc)) (e1.extBut c o (λ y=>Rl (y▸hc)) q));refine wpAny_bind (D2.done _ _ _ Vs λ g4 e e4 he=>?_);obtain⟨oe,MI,Ql⟩:=he;have e4:Heap.ExtBut i2 g3 g4:=e4;have WT:IsZip g4 z TI TO .ellipsis:=e4 _ _ Lo (e3.extBut _ _ HQ (e2.extBut _ _ KI K4));have Vg:e≠z:=λ q=>by subst q;rw[WT]at MI;cases MI;simp at Ql
  refine wpAny_setField_rec WT (by simp) λ g5 _ e5=>hE g5 e t2 (λ c o hc q=>?_) ⟨oe,e5.extBut _ _ Vg MI,Ql⟩;simp only[List.mem_cons,List.not_mem_nil,or_false,not_or]at hc;exact e5.extBut _ _ hc.1 (e4 _ _ hc.2.2.2 (e3.extBut _ _ hc.2.1 (e2.extBut _ _ hc.2.2.1 (e1.extBut _ _ hc.1 q))))
end
end ZS
namespace ZS
open PySem PySem.Spec PyProof.Rows L2
def S8(J1 J2:Lk):It:=⟨λ i H=>(∃y,J1.at_ i H y)∧∃y,J2.at_ i H y,
 λ i H x H'=>∃T y1 y2,H T=none∧x=.ref T∧H'=upd H T (.tup [y1,y2])∧J1.at_ i H y1∧J2.at_ i H y2,
 λ i H=>(J1.end_ i H∧((∃y,J2.at_ i H y)∨J2.end_ i H))∨((∃y,J1.at_ i H y)∧J2.end_ i H)⟩
theorem Pf{X:Cx}{pins:List (Addr×Obj)}{σ:St}{H:Hp}{s:Shared}{b:Addr}{o:Obj}(I:Inv X pins σ H s)(f:s? X pins H b)(h:X.K.lookup b=some o):False:=by
 have hb:=I.ok.mod.Si b o h;rcases f.2.2.2.1 with z | z
 ·exact I.ok.EG b o hb z
 ·exact absurd (Heap.lt_size (I.ok.bs b o hb).1) (Nat.not_lt.mpr z)
def X2(z TI TO i1 i2:Addr)(n1 n2:Nat->Heap->Prop)(i:Nat)(h:Heap):Prop:=IsZip h z TI TO .none∧IsPair h TI (.ref i1) (.ref i2)∧(∃a b,IsPair h TO a b)∧n1 i h∧n2 i h
theorem Av{h:Heap}{T:Addr}{a b:Value}(p:IsPair h T a b):∃o,h.get? T=some o∧∀v,o.data≠.cell v :=
 ⟨_,p,λ v z=>by have z':Data.seq _ _=Data.cell v:=z;cases z'⟩
theorem Ac{P : Program}{w : World}{K : PySem.W.Frag}{J1 J2 : Lk}{z TI TO i1 i2 : Addr}{n1 n2 : Nat -> Heap -> Prop}{elts : List Expr}{x1 : Nat}{pos : Pos}(S1 : Src P w K J1 i1 n1)(S2 : Src P w K J2 i2 n2)(nd : [z, TI, TO, i1, i2].Nodup):
  Turn P w K (.Tuple elts x1 pos) (S8 J1 J2) [z,TI,TO,i1,i2] z (X2 z TI TO i1 i2 n1 n2):=by
 have Xp:∀{X:Cx}{pins:List (Addr×Obj)}{σ:St}{H:Hp}{s:Shared}{f1 f2:List Addr},X.K=K->Inv X pins σ H s->(∀b∈[z,TI,TO,i1,i2],s? X pins H b) ->
   (∀b∈f1,b=i1∨∃o,s.heap.get? b=some o∧o.cls≠.type "enumerate" ∧ o.cls≠.type "zip" ∧ (H b=none->∃o',K.lookup b=some o')) ->
   (∀b∈f2,b=i2∨∃o,s.heap.get? b=some o∧o.cls≠.type "enumerate" ∧ o.cls≠.type "zip" ∧ (H b=none->∃o',K.lookup b=some o'))->Wa z TI TO i1 i2 f1 f2:=by
  intro X pins σ H s f1 f2 hK I hf g1 g2;subst hK;have Pm:=nd;simp only[List.nodup_cons,List.mem_cons,List.not_mem_nil,or_false,not_or,List.nodup_nil,and_true,not_false_eq_true]at Pm;obtain⟨⟨N3,HQ,KI,Lo⟩,⟨TITO,TIi1,TIi2⟩,⟨TOi1,TOi2⟩,i12⟩:=Pm;have Uk:∀b,b∈[z,TI,TO,i1,i2]->b≠i1->b∉f1:=λ b hb uV hm=>by
   rcases g1 b hm with q | ⟨o,_,_,_,q⟩
   ·exact uV q
   ·obtain⟨o',h'⟩:=q (hf b hb).1;exact Pf I (hf b hb) h'
  have Uj:∀b,b∈[z,TI,TO,i1,i2]->b≠i2->b∉f2:=λ b hb uV hm=>by
   rcases g2 b hm with q | ⟨o,_,_,_,q⟩
   ·exact uV q
   ·obtain⟨o',h'⟩:=q (hf b hb).1;exact Pf I (hf b hb) h'
  exact⟨nd,⟨Uk z (by simp) KI,Uk TO (by simp) TOi1,Uk i2 (by simp) (Ne.symm i12)⟩,⟨Uj z (by simp) Lo,Uj TO (by simp) TOi2,Uj i1 (by simp) i12⟩⟩
 refine⟨by simp,λ i h st b hb=>?_,λ i h h' st k=>?_,?_,?_,λ A i s Q E st hQ=>wpAny_pyIter_zip st.1 hQ⟩
 ·obtain⟨hz,EY,⟨a,b',Fz⟩,h1,h2⟩:=st;simp only[List.mem_cons,List.not_mem_nil,or_false]at hb;rcases hb with rfl | rfl | rfl | rfl | rfl
  ·exact⟨_,hz,λ v z=>by have z':Data.fields _=Data.cell v:=z;cases z'⟩
  ·exact Av EY
  ·exact Av Fz
  ·obtain⟨o,q,r,_⟩:=S1.obj i h h1;exact⟨o,q,r⟩
  ·obtain⟨o,q,r,_⟩:=S2.obj i h h2;exact⟨o,q,r⟩
 ·obtain⟨hz,EY,⟨a,b',Fz⟩,h1,h2⟩:=st;exact⟨k z (by simp) _ hz,k TI (by simp) _ EY,⟨a,b',k TO (by simp) _ Fz⟩,S1.keep i h h' h1 λ o q=>k i1 (by simp) o q,S2.keep i h h' h2 λ o q=>k i2 (by simp) o q⟩
 ·intro X hP hw hK hc i pins s σ H E I hf st hg;obtain⟨hz,EY,⟨a,b',Fz⟩,h1,h2⟩:=st;obtain⟨f1,m1,P1,T1,D1,hs1,_,MS,MV,_,Qa⟩:=S1.draw X hP hw hK hc i pins s σ H I h1 (.inl hg.1);obtain⟨f2,m2,P2,T2,D2,hs2,_,MR,Qm,_,P_⟩:=S2.draw X hP hw hK hc i pins s σ H I h2 (.inl hg.2);obtain⟨Qb,A7⟩:=MV hg.1;obtain⟨SD,hv2⟩:=Qm hg.2;have FR:=Xp hK I hf MS MR;subst hP hw hK;have hT:s.TypeIs (.ref z) "zip" := ⟨_,hz,rfl⟩
  unfold pyNext;refine wpAny_bind (wpAny_attempt (wpAny_callSpecial?_slot (name:=Str.ofString "__next__") hT F.slot_zip_next (wpAny_call_entry F.slot_zip_next hT F.entry_zip_next (D_ FR D1 D2 hz EY Fz hs1 hs2 Qb SD λ x y h' tk px py z' X1 Yi Yh tt kp=>wpAny_pure ?_) (F.args_zip_next_1 _))));refine⟨_,rfl,?_⟩;obtain⟨y1,r1,a1⟩:=A7 x px;obtain⟨y2,r2,a2⟩:=hv2 y py;have lt:∀{c o},s.heap.get? c=some o->c≠s.heap.objs.size:=λ q=>Nat.ne_of_lt (Heap.lt_size q);have Zo:H s.heap.objs.size=none:=I.fresh;have Zn:s.heap.objs.size≠z:=(lt hz).symm;refine wpAny_letOwnedTupleGo_zip z' λ EZ My ES=>?_;have Pm:=nd;simp only[List.nodup_cons,List.mem_cons,List.not_mem_nil,or_false,not_or,List.nodup_nil,and_true,not_false_eq_true]at Pm;obtain⟨⟨N3,HQ,KI,Lo⟩,⟨TITO,TIi1,TIi2⟩,⟨TOi1,TOi2⟩,i12⟩:=Pm;have XY:EZ.IsTuple s.heap.objs.size [x,y].toArray:=⟨_,ES.extBut _ _ Zn tt,rfl,_,rfl⟩
  have I2:Inv X pins σ (upd H s.heap.objs.size (.tup [y1,y2])) { s with heap:=EZ,toks:=tk } :=
   Ip (ch:=[z,TO,i1,i2]) I (λ b o hb q=>ES.extBut b o (λ e=>hb (by simp[e])) (kp b o hb q)) (λ b hb=>hf b (by simp only[List.mem_cons,List.not_mem_nil,or_false]at hb ⊢;rcases hb with e | e | e | e<;>simp[e])) (Nat.le_refl _) XY (.cons r1 (.cons r2 .nil)) (by show 2≤sizeLine;decide)
  have k1:n1 (i+1) EZ:=S1.keep _ _ _ (Qa _ _ Yi) λ o q=>ES.extBut i1 o (Ne.symm KI) q;have k2:n2 (i+1) EZ:=S2.keep _ _ _ (P_ _ _ Yh) λ o q=>ES.extBut i2 o (Ne.symm Lo) q;have YC:IsPair EZ TI (.ref i1) (.ref i2):=ES.extBut _ _ (Ne.symm N3) (kp TI _ (by simp only[List.mem_cons,List.not_mem_nil,or_false,not_or];exact⟨Ne.symm N3,TITO,TIi1,TIi2⟩) EY);refine⟨.ref _,_,I2,rfl,⟨_,y1,y2,Zo,rfl,rfl,a1,a2⟩,⟨My,YC,⟨x,y,ES.extBut _ _ (Ne.symm HQ) X1⟩,k1,k2⟩,λ b hb=>?_⟩;have Zj:b≠s.heap.objs.size:=by
   simp only[List.mem_cons,List.not_mem_nil,or_false]at hb;rcases hb with rfl | rfl | rfl | rfl | rfl
   ·exact lt hz
   ·exact lt EY
   ·exact lt Fz
   ·obtain⟨o,q,_⟩:=S1.obj i _ h1;exact lt q
   ·obtain⟨o,q,_⟩:=S2.obj i _ h2;exact lt q
  rw[a! Zj];exact(hf b hb).1
 ·intro X hP hw hK hc i pins s σ H E I hf st hg;obtain⟨hz,EY,⟨a,b',Fz⟩,h1,h2⟩:=st;have g1:(∃y,J1.at_ i H y)∨J1.end_ i H:=by
   rcases hg with⟨q,_⟩ | ⟨q,_⟩
   ·exact .inr q
   ·exact .inl q
  have g2:(∃y,J2.at_ i H y)∨J2.end_ i H:=by
   rcases hg with⟨_,q⟩ | ⟨_,q⟩
   ·exact q
   ·exact .inr q
  obtain⟨f1,m1,P1,T1,D1,hs1,_,MS,MV,Qh,Qa⟩:=S1.draw X hP hw hK hc i pins s σ H I h1 g1;obtain⟨f2,m2,P2,T2,D2,hs2,_,MR,Qm,Qg,P_⟩:=S2.draw X hP hw hK hc i pins s σ H I h2 g2;have FR:=Xp hK I hf MS MR;have he:i=m1∨(i < m1∧i=m2):=by
   rcases hg with⟨q,_⟩ | ⟨q,q2⟩
   ·exact .inl (Qh q)
   ·exact .inr ⟨(MV q).1,Qg q2⟩
  subst hP hw hK;have hT:s.TypeIs (.ref z) "zip" := ⟨_,hz,rfl⟩
  unfold pyNext;refine wpAny_bind (wpAny_attempt (wpAny_callSpecial?_slot (name:=Str.ofString "__next__") hT F.slot_zip_next (wpAny_call_entry F.slot_zip_next hT F.entry_zip_next (FF FR D1 D2 hz EY Fz hs1 hs2 he λ h' e tk kp hx=>?_) (F.args_zip_next_1 _))));obtain⟨o,ho,G'⟩:=hx;refine wpAny_bind (wpAny_isInstance (T := "StopIteration") (b:=true) ⟨o,ho,G'⟩ isSubtype_stop (wpAny_pure ⟨rfl,?_⟩));exact Iq (ch:=[z,TO,i1,i2]) I kp λ b hb=>hf b (by simp only[List.mem_cons,List.not_mem_nil,or_false]at hb ⊢;rcases hb with e | e | e | e<;>simp[e])
abbrev zh(T1 T2:String)(h:Heap)(l1 l2:Addr):Heap:=((((h.push { cls:=.type T1,data:=.fields #[.ref l1,.int 0 0] }).push { cls:=.type T2,data:=.fields #[.ref l2,.int 0 0] }).push { cls:=.type "tuple",data:=.seq #[.ref h.objs.size,.ref (h.objs.size+1)] }).push { cls:=.type "tuple",data:=.seq #[.none,.none] }).push
 { cls:=.type "zip",data:=.fields #[.none,.bool false,.bool false,.ref (h.objs.size+2),.ref (h.objs.size+3)] }
theorem A0(l1 l2:Addr)(xs ys:Array Value):Meets (Builtin.«zip.__new__» ⟨[.type "zip",.ref l1,.ref l2],[]⟩) (λ _ R s=>s.heap.IsTuple l1 xs∧s.heap.IsTuple l2 ys∧R (.ok (.ret (.ref (s.heap.objs.size+4)))) { s with heap:=zh "tuple_iterator" "tuple_iterator" s.heap l1 l2 }) :=
 .of_wp λ prog w A R s h=>by
  obtain⟨hp,gs,dr,tk,os⟩:=s;obtain⟨U7,MM,h⟩:=h;have v?:=sub_zip;have q1:Heap.IsTuple (Shared.heap ⟨hp,gs,dr,tk,os⟩) l1 xs:=U7;have q2:Heap.IsTuple (Shared.heap ⟨hp.push { cls:=.type "tuple_iterator",data:=.fields #[.ref l1,.int 0 0] },gs,dr,tk,os⟩) l2 ys:=Heap.IsTuple.push MM _
  wp_walk using wpAny_pyIter_tuple q1,wpAny_pyIter_tuple q2
  simp only[zh,Heap.size_push]at h ⊢;exact⟨_,rfl,h⟩
theorem A1(l1 l2:Addr)(xs ys:Array Value):Meets (Builtin.«zip.__new__» ⟨[.type "zip",.ref l1,.ref l2],[]⟩) (λ _ R s=>s.heap.IsList l1 xs∧s.heap.IsTuple l2 ys∧R (.ok (.ret (.ref (s.heap.objs.size+4)))) { s with heap:=zh "list_iterator" "tuple_iterator" s.heap l1 l2 }) :=
 .of_wp λ prog w A R s h=>by
  obtain⟨hp,gs,dr,tk,os⟩:=s;obtain⟨U7,MM,h⟩:=h;have v?:=sub_zip;have q1:Heap.IsList (Shared.heap ⟨hp,gs,dr,tk,os⟩) l1 xs:=U7;have q2:Heap.IsTuple (Shared.heap ⟨hp.push { cls:=.type "list_iterator",data:=.fields #[.ref l1,.int 0 0] },gs,dr,tk,os⟩) l2 ys:=Heap.IsTuple.push MM _
  wp_walk using wpAny_pyIter_list q1,wpAny_pyIter_tuple q2
  simp only[zh,Heap.size_push]at h ⊢;exact⟨_,rfl,h⟩
theorem z?(T1 T2:String)(h:Heap)(l1 l2:Addr):IsZip (zh T1 T2 h l1 l2) (h.objs.size+4) (h.objs.size+2) (h.objs.size+3) .none∧IsPair (zh T1 T2 h l1 l2) (h.objs.size+2) (.ref h.objs.size) (.ref (h.objs.size+1))∧IsPair (zh T1 T2 h l1 l2) (h.objs.size+3) .none .none ∧
  (zh T1 T2 h l1 l2).get? h.objs.size=some { cls:=.type T1,data:=.fields #[.ref l1,.int 0 0] }∧(zh T1 T2 h l1 l2).get? (h.objs.size+1)=some { cls:=.type T2,data:=.fields #[.ref l2,.int 0 0] }∧∀c o,h.get? c=some o->(zh T1 T2 h l1 l2).get? c=some o:=by
 have z1:(h.push { cls:=.type T1,data:=.fields #[.ref l1,.int 0 0] }).objs.size=h.objs.size+1:=Heap.size_push ..;have z2:((h.push { cls:=.type T1,data:=.fields #[.ref l1,.int 0 0] }).push { cls:=.type T2,data:=.fields #[.ref l2,.int 0 0] }).objs.size=h.objs.size+2:=by rw[Heap.size_push,z1]
 have z3:(((h.push { cls:=.type T1,data:=.fields #[.ref l1,.int 0 0] }).push { cls:=.type T2,data:=.fields #[.ref l2,.int 0 0] }).push { cls:=.type "tuple",data:=.seq #[.ref h.objs.size,.ref (h.objs.size+1)] }).objs.size=h.objs.size+3:=by rw[Heap.size_push,z2]
 have z4:((((h.push { cls:=.type T1,data:=.fields #[.ref l1,.int 0 0] }).push { cls:=.type T2,data:=.fields #[.ref l2,.int 0 0] }).push { cls:=.type "tuple",data:=.seq #[.ref h.objs.size,.ref (h.objs.size+1)] }).push { cls:=.type "tuple",data:=.seq #[.none,.none] }).objs.size=h.objs.size+4:=by rw[Heap.size_push,z3]
 refine⟨?_,?_,?_,?_,?_,λ c o q=>?_⟩
 ·show Heap.get? _ _=_;rw[<-z4];exact Heap.get?_push_size _ rfl
 ·show Heap.get? _ _=_;rw[<-z2];exact Heap.get?_push_of_some _ (Heap.get?_push_of_some _ (Heap.get?_push_size _ rfl))
 ·show Heap.get? _ _=_;rw[<-z3];exact Heap.get?_push_of_some _ (Heap.get?_push_size _ rfl)
 ·exact Heap.get?_push_of_some _ (Heap.get?_push_of_some _ (Heap.get?_push_of_some _ (Heap.get?_push_of_some _ (Heap.get?_push_size _ rfl))))
 ·show Heap.get? _ _=_;rw[<-z1];exact Heap.get?_push_of_some _ (Heap.get?_push_of_some _ (Heap.get?_push_of_some _ (Heap.get?_push_size _ rfl)))
 ·exact Heap.get?_push_of_some _ (Heap.get?_push_of_some _ (Heap.get?_push_of_some _ (Heap.get?_push_of_some _ (Heap.get?_push_of_some _ q))))
theorem u4:∀(xs ys:List Z.D)(i:Nat),(Z.e_ xs ys)[i]?=(xs[i]?).bind λ x=>(ys[i]?).map λ y=>Z.pair x y
 | [],ys,i=>by cases ys<;>simp[Z.e_]
 | x :: xs,[],i=>by simp[Z.e_]
 | x :: xs,y :: ys,0=>by simp[Z.e_]
 | x :: xs,y :: ys,i+1=>by simp[Z.e_,u4 xs ys i]
theorem z!:∀(xs ys:List Z.D),(Z.e_ xs ys).length=min xs.length ys.length
 | [],ys=>by cases ys<;>simp[Z.e_]
 | x :: xs,[]=>by simp[Z.e_]
 | x :: xs,y :: ys=>by simp[Z.e_,z! xs ys]
structure Gives(K:PySem.W.Frag)(J:Lk)(S:Hp->Prop)(ds:List Z.D):Prop where
 at_:∀(i:Nat) d H1,S H1->ds[i]?=some d->(∃y,J.at_ i H1 y)∧∀y,J.at_ i H1 y->Den K H1 d y
 end_:∀H1,S H1->J.end_ ds.length H1
theorem DC{K : PySem.W.Frag}{J1 J2 : Lk}{S : Hp -> Prop}{xs ys : List Z.D}(g1 : Gives K J1 S xs)(g2 : Gives K J2 S ys): D? K (S8 J1 J2) S (Z.e_ xs ys) where
 go:=λ i d H1 s hi=>by
  rw[u4]at hi;cases q:xs[i]? with
  | none=>rw[q]at hi;cases hi
  | some x =>
   rw[q]at hi;cases q2:ys[i]? with
   | none=>simp[q2]at hi
   | some y=>exact⟨(g1.at_ i x H1 s q).1,(g2.at_ i y H1 s q2).1⟩
 Fq:=λ i d H1 H2 x s hi y=>by
  obtain⟨T,y1,y2,hT,rfl,rfl,a1,a2⟩:=y;rw[u4]at hi;cases q:xs[i]? with
  | none=>rw[q]at hi;cases hi
  | some x =>
   rw[q]at hi;cases q2:ys[i]? with
   | none=>simp[q2]at hi
   | some y =>simp only[q2,Option.bind_some,Option.map_some,Option.some.injEq]at hi;subst hi;have sm:aI H1 (upd H1 T (.tup [y1,y2])):=dQ hT;exact⟨sm,g! (.inl (.inl bV)) (aG.cons (((g1.at_ i x H1 s q).2 y1 a1).up sm) (aG.cons (((g2.at_ i y H1 s q2).2 y2 a2).up sm) aG.nil))⟩
 stop:=λ H1 s=>by
  rw[z!];have e1:=g1.end_ H1 s;have e2:=g2.end_ H1 s;rcases Nat.lt_trichotomy xs.length ys.length with h | h | h
  ·rw[Nat.min_eq_left (Nat.le_of_lt h)];exact .inl ⟨e1,.inl (g2.at_ xs.length _ H1 s (List.getElem?_eq_getElem h)).1⟩
  ·rw[Nat.min_eq_left (Nat.le_of_eq h)];rw[<-h]at e2;exact .inl ⟨e1,.inr e2⟩
  ·rw[Nat.min_eq_right (Nat.le_of_lt h)];exact .inr ⟨(g1.at_ ys.length _ H1 s (List.getElem?_eq_getElem h)).1,e2⟩
theorem sD{K:PySem.W.Frag}{H:Hp}{q:Addr}{vs:List V}{ds:List Z.D}(h:oH K H q vs)(t:aG K H ds vs):Gives K (G0 K q vs) (oG H) ds :=
 ⟨λ i d H1 s hi=>by obtain⟨y,hy,dy⟩:=t.get hi;refine⟨⟨y,iR s h,hy⟩,λ y' G2=>?_⟩;have:=G2.2;rw[hy]at this;cases this;exact dy.ups s,λ H1 s=>⟨iR s h,t.length⟩⟩
theorem E2{K:PySem.W.Frag}{H:Hp}{q:Addr}{vs:List V}{ds:List Z.D}(h:Lm K H q vs)(t:aG K H ds vs):Gives K (Mv K q vs) (oG H) ds :=
 ⟨λ i d H1 s hi=>by obtain⟨y,hy,dy⟩:=t.get hi;refine⟨⟨y,(h.mono s).sq,hy⟩,λ y' G2=>?_⟩;have:=G2.2;rw[hy]at this;cases this;exact dy.ups s,λ H1 s=>⟨(h.mono s).sq,t.length⟩⟩
section
variable {X:Cx}{a b:Expr}{pos p p2:Pos}{fa fb:Z.EF}{elts:List Expr}{x1:Nat}
theorem DO{pins:List (Addr×Obj)}{σ:St}{H:Hp}{s:Shared}(I:Inv X pins σ H s):∀b∈[s.heap.objs.size+4,s.heap.objs.size+2,s.heap.objs.size+3,s.heap.objs.size,s.heap.objs.size+1],s? X pins H b:=λ b hb=>by
 have h:s.heap.objs.size≤b:=by simp only[List.mem_cons,List.not_mem_nil,or_false]at hb;lia
 exact I.xr h (I.dW.fresh h)
theorem Dp(n:Nat):[n+4,n+2,n+3,n,n+1].Nodup:=by simp only[List.nodup_cons,List.mem_cons,List.not_mem_nil,or_false,not_or,List.nodup_nil,and_true,not_false_eq_true];lia
theorem qf(hg:Gl X "zip")(hm:X.mg "zip" = none)(ha:DE X a fa)(hb:DE X b fb)(hs:starEach [a,b] X.env=[(false,eval a X.env),(false,eval b X.env)]:=by rfl)(hs2:starEach [b] X.env=[(false,eval b X.env)]:=by rfl)
  (h1:starEach (a :: [b]) X.env=(false,eval a X.env) :: starEach [b] X.env:=by rfl) (h2:starEach (b :: []) X.env=(false,eval b X.env) :: starEach [] X.env:=by rfl):DJ X (.Tuple elts x1 p2) (.Call (.Name "zip" p) [a,b] [] pos) (Z.A5 fa fb):=by
 intro pins s σ H R I w;obtain⟨ρ,ds,r,e,k⟩:=w;obtain⟨d1,ea,e⟩:=Z.Res.az e;obtain⟨d2,eb,e⟩:=Z.Res.az e;obtain⟨xs,ex,e⟩:=Z.Res.az e;obtain⟨ys,ey,e⟩:=Z.Res.az e;cases e;refine Call_ (mw I hg hm (by kernel_rfl:bootBuiltins "zip" = some (.type "zip")) (PyProof.Rows.callWith_type1 (d! ((b9 ha (b9 hb dJ h2) h1) pos pins s σ H (λ vs H1=>∃v u,vs=[v,u]∧aI H H1∧Den X.K H1 d1 v∧Den X.K H1 d2 u) I ⟨ρ,d1,r,ea,λ v H1 s1 q1=>⟨ρ,d2,r.up s1,eb,λ u H2 s2 q2=>⟨v,u,rfl,s1.trans s2,q1.up s2,q2⟩⟩⟩) λ us s1 ⟨vs,H1,I1,r1,q1⟩=>?_) (by rw[hs,hs2]) (by rw[hs2];rfl)));obtain⟨v,u,rfl,sm,Vk,hd2⟩:=q1;obtain⟨u1,u2,rfl,Wu,Yn⟩:=vals2 r1;have Vj:∃S9,d2=.tup S9∧S9=ys:=by
  cases d2 with
  | tup S9=>cases ey;exact⟨_,rfl,rfl⟩
  | non=>cases ey
  | bl _=>cases ey
  | int _=>cases ey
  | str _=>cases ey
  | lst _=>cases ey
  | dct _ _=>cases ey
 obtain⟨_,rfl,rfl⟩:=Vj;obtain⟨q2,Wi,rfl,UM,t2⟩:=bQ.tup (.inl hd2);cases Yn;obtain⟨e?,rv2,Ww,_⟩:=I1.tuple UM;cases d1 with
 | tup XQ =>cases ex;obtain⟨q,vs,rfl,hq,t⟩:=bQ.tup (.inl Vk);cases Wu;obtain⟨aY,rv,pt,hz⟩:=I1.tuple hq;obtain⟨f1,f2,f3,f4,f5,f6⟩:=z? "tuple_iterator" "tuple_iterator" s1.heap q q2;refine callType_new F.called_zip (by decide) (F.typeCall_zip_2 _ _) (F.newCall_zip_2 _ _) (λ obj=>F.args_object_init_3 obj _ _) F.entry_zip_new (A0 q q2 aY.toArray e?.toArray) ⟨pt,Ww,⟨_,f1,rfl⟩,wpAny_pyIter_zip f1 ?_⟩;exact⟨_,[s1.heap.objs.size+4,s1.heap.objs.size+2,s1.heap.objs.size+3,s1.heap.objs.size,s1.heap.objs.size+1],_,S8 (G0 X.K q vs) (G0 X.K q2 Wi),H1,rfl,I1.kept (t':=s1.toks) f6,Ac yz yz (Dp _),⟨f1,f2,⟨_,_,f3⟩,⟨_,f4,rfl,rfl⟩,⟨_,f5,rfl,rfl⟩⟩,DO I1,k _ H1 sm (DC (sD hq t) (sD UM t2))⟩
 | lst XQ =>cases ex;simp only[Den]at Vk;obtain⟨q,vs,rfl,hq,t⟩:=Vk;cases Wu;obtain⟨aY,rv,pt,hz⟩:=I1.list hq.sq;obtain⟨f1,f2,f3,f4,f5,f6⟩:=z? "list_iterator" "tuple_iterator" s1.heap q q2;refine callType_new F.called_zip (by decide) (F.typeCall_zip_2 _ _) (F.newCall_zip_2 _ _) (λ obj=>F.args_object_init_3 obj _ _) F.entry_zip_new (A1 q q2 aY.toArray e?.toArray) ⟨pt.isList,Ww,⟨_,f1,rfl⟩,wpAny_pyIter_zip f1 ?_⟩;exact⟨_,[s1.heap.objs.size+4,s1.heap.objs.size+2,s1.heap.objs.size+3,s1.heap.objs.size,s1.heap.objs.size+1],_,S8 (Mv X.K q vs) (G0 X.K q2 Wi),H1,rfl,I1.kept (t':=s1.toks) f6,Ac ID yz (Dp _),⟨f1,f2,⟨_,_,f3⟩,⟨_,f4,rfl,rfl⟩,⟨_,f5,rfl,rfl⟩⟩,DO I1,k _ H1 sm (DC (E2 hq t) (sD UM t2))⟩
 | non=>cases ex
 | bl _=>cases ex
 | int _=>cases ex
 | str _=>cases ex
 | dct _ _=>cases ex
end
end ZS
namespace ZQ
open PySem PySem.Spec PyProof.Rows L2 ZS
section
variable {X:Cx}{a b:Expr}{pos p p2:Pos}{fa fb:Z.EF}{elts:List Expr}{x1:Nat}
theorem qf(hg:Gl X "zip")(hm:X.mg "zip" = none)(ha:QE X a fa)(hb:QE X b fb)(hs:starEach [a,b] X.env=[(false,eval a X.env),(false,eval b X.env)]:=by rfl)(hs2:starEach [b] X.env=[(false,eval b X.env)]:=by rfl)
  (h1:starEach (a :: [b]) X.env=(false,eval a X.env) :: starEach [b] X.env:=by rfl) (h2:starEach (b :: []) X.env=(false,eval b X.env) :: starEach [] X.env:=by rfl):QJ X (.Tuple elts x1 p2) (.Call (.Name "zip" p) [a,b] [] pos) (Z.A5 fa fb) :=
 ⟨ZS.qf hg hm ha.p hb.p hs hs2 h1 h2⟩
end
end ZQ
noncomputable section
namespace Z
end Z
end
namespace ZS
open PySem PySem.Spec PyProof.Rows L2
end ZS
namespace ZQ
open PySem PySem.Spec PyProof.Rows L2 ZS
end ZQ
noncomputable section
namespace Z
def PC(hi:Int)(n:Nat):List D:=(List.range n).map λ i=>D.int (hi-(i:Nat))
def Lb:D->D->D->Res (List D)
 | .int i,.int j,.int k=>guard (k=-1∧-1000000000≤i∧i≤1000000000∧-1000000000≤j∧j≤1000000000) (.ok (PC i (i-j).toNat))
 | _,_,_=>.bad
def PM(a b c:EF)(ρ:Env):Res (List D):=(a ρ).bind λ x=>(b ρ).bind λ y=>(c ρ).bind λ z=>Lb x y z
@[simp] theorem Sn(a b c:EF)(ρ:Env):PM a b c ρ=(a ρ).bind λ x=>(b ρ).bind λ y=>(c ρ).bind λ z=>Lb x y z:=rfl
def F4:D->D->Res (List D)
 | .lst [d],.int n=>guard (0≤n∧n≤16777216) (.ok (List.replicate n.toNat d))
 | _,_=>.bad
theorem F3(d:D)(n:Int):F4 (.lst [d]) (.int n)=guard (0≤n∧n≤16777216) (.ok (List.replicate n.toNat d)):=rfl
theorem IM{x y:D}{ds:List D}(h:F4 x y=.ok ds):∃d n,x=.lst [d]∧y=.int n∧0≤n∧n≤16777216∧ds=List.replicate n.toNat d:=by
 unfold F4 at h;split at h
 ·obtain⟨⟨h1,h2⟩,e⟩:=rn h;cases e;exact⟨_,_,rfl,rfl,h1,h2,rfl⟩
 ·cases h
def GQ(a:LF)(b:EF)(ρ:Env):Res (List D):=(a ρ).bind λ xs=>(b ρ).bind λ y=>F4 (.lst xs) y
@[simp] theorem Uq(a:LF)(b:EF)(ρ:Env):GQ a b ρ=(a ρ).bind λ xs=>(b ρ).bind λ y=>F4 (.lst xs) y:=rfl
def q8:D->Res D
 | .bl b=>.ok (.bl (!b))
 | _=>.bad
@[simp] theorem O1(b:Bool):q8 (.bl b)=.ok (.bl (!b)):=rfl
end Z
end
namespace ZS
open PySem PySem.Spec PyProof.Rows L2
section
variable {X:Cx}{tg:Expr}
variable {a b c:Expr}{p pos:Pos}{fa fb fc:Z.EF}
theorem wH{K:PySem.W.Frag}{H:Hp}{d:Z.D}{w:V}(h:Den K H d w):∀n,aG K H (List.replicate n d) (List.replicate n w)
 | 0=>aG.nil
 | n+1=>aG.cons h (wH h n)
theorem A_{w:V}:∀n:Nat,(List.replicate n [w]).flatten=List.replicate n w
 | 0=>rfl
 | n+1=>by rw[List.replicate_succ,List.flatten_cons,A_ n];rfl
theorem zq{la:Z.LF}(ha:DL X a la)(hb:DW X b fb):DL X (.BinOp a .Mult b pos) (Z.GQ la fb):=PE.imp (Dj L2.L0 ha hb) λ σ H Q ⟨ρ,ds,r,e,k⟩=>by
 obtain⟨xs,ea,e⟩:=Z.Res.az e;obtain⟨y,eb,e⟩:=Z.Res.az e;obtain⟨d,n,hx,rfl,h0,h1,rfl⟩:=Z.IM e;cases hx;refine⟨ρ,[d],r,ea,λ l vs H1 s1 hn hv t=>⟨ρ,_,r.up s1,eb,λ u H2 s2 d2=>?_⟩⟩;simp only[aG]at t;obtain⟨w,r',rfl,dw,rfl⟩:=t;refine⟨l,n,[w],rfl,d2.int,s2 _ _ hv,by lia,by lia,?_,λ z hz=>?_⟩
 ·rw[sizeLine_eq];simp;lia
 ·rw[A_];have Ow:=s1.trans s2;have s3:aI H2 (upd H2 z (.lst (List.replicate n.toNat w))):=dQ hz;exact k z _ _ (Ow.trans s3) (Ow.free hz) bV (wH ((dw.up s2).up s3) _)
theorem Jb:kI X (compareOp .IsNot) (λ x y H Q=>∃b,x=.bl b∧y=.bl true∧Q (.bl (!b)) H):=by intro pins s σ H x y v u Q I rx ry h;obtain⟨b,rfl,rfl,q⟩:=h;cases rx;cases ry;refine wpAny_isNot_plain rfl ⟨.bl (!b),H,I,?_,q⟩;cases b<;>rfl
theorem Gy:∀σ H Q,tZ X.K (Z.eU Z.q8 fa) σ H Q->Iw (λ x y H Q=>∃b,x=.bl b∧y=.bl true∧Q (.bl (!b)) H) (HS X.K fa) (tC (.bl true)) σ H Q:=by
 rintro σ H Q ⟨ρ,d,r,e,k⟩;obtain⟨x,ea,e⟩:=Z.Res.az e;refine⟨ρ,x,r,ea,λ v H1 s1 d1=>?_⟩;cases x with
 | bl b=>cases e;exact⟨b,d1.bl,rfl,k _ H1 s1 dt⟩
 | _=>cases e
theorem uW{j pos'}(ha:DW X a fa):DT X (.Compare a [.IsNot] [.Constant (.bool true) j pos'] pos) (Z.tE (Z.eU Z.q8 fa)):=Bq (uP Jb ha Gh (aS _)) Gy
end
end ZS
namespace ZQ
open PySem PySem.Spec PyProof.Rows L2 ZS
section
variable {X:Cx}{tg a b c:Expr}{p pos:Pos}{fa fb fc:Z.EF}{la:Z.LF}
theorem zq(ha:QL X a la)(hb:QW X b fb):QL X (.BinOp a .Mult b pos) (Z.GQ la fb):=⟨ZS.zq ha.p hb.p⟩
theorem uW{j pos'}(ha:QW X a fa):QT X (.Compare a [.IsNot] [.Constant (.bool true) j pos'] pos) (Z.tE (Z.eU Z.q8 fa)):=⟨ZS.uW (ha:=ha.p)⟩
end
end ZQ
noncomputable section
namespace Z
def l5:List D->Option (List (List Nat))
 | []=>some []
 | .str c :: r=>(l5 r).map (c :: ·)
 | _ :: _=>none
def oo(sep:List Nat):List (List Nat)->List Nat
 | []=>[]
 | [x]=>x
 | x :: y :: r=>x++sep++oo sep (y :: r)
def vI:D->D->Res D
 | .str sep,.lst xs=>match l5 xs with
  | some ts=>guard ((ts.map List.length).sum+ts.length*sep.length≤line) (.ok (.str (oo sep ts)))
  | none=>.bad
 | _,_=>.bad
theorem Gw{x y d:D}(h:vI x y=.ok d):∃sep xs ts,x=.str sep∧y=.lst xs∧l5 xs=some ts∧(ts.map List.length).sum+ts.length*sep.length≤16777216∧d=.str (oo sep ts):=by
 unfold vI at h;split at h
 ·split at h
  ·rename_i hs;obtain⟨h1,e⟩:=rn h;cases e;exact⟨_,_,_,rfl,rfl,hs,h1,rfl⟩
  ·cases h
 ·cases h
theorem u7:∀ts:List (List Nat),l5 (ts.map D.str)=some ts
 | []=>rfl
 | t :: ts=>by simp[l5,u7 ts]
theorem yc:∀ts:List (List Nat),oo [] ts=ts.flatten
 | []=>rfl
 | [x]=>by simp[oo]
 | x :: y :: r=>by rw[oo,yc (y :: r)];simp
theorem Ez{ts:List (List Nat)}(h:ts.flatten.length≤16777216):vI (.str []) (.lst (ts.map D.str))=.ok (.str ts.flatten):=by show(match l5 (ts.map D.str)with | some ts=>guard ((ts.map List.length).sum+ts.length*0≤line) (Res.ok (D.str (oo [] ts))) | none=>Res.bad)=_;rw[u7];simp only[yc];rw[guard_pos];rw[List.length_flatten]at h;simpa using h
def xS:D->D->Res D
 | .str t,.str [c]=>.ok (.int (t.count c))
 | _,_=>.bad
@[simp] theorem R?(t:List Nat)(c:Nat):xS (.str t) (.str [c])=.ok (.int (t.count c)):=rfl
theorem Gx{x y d:D}(h:xS x y=.ok d):∃t c,x=.str t∧y=.str [c]∧d=.int (t.count c):=by
 unfold xS at h;split at h
 ·cases h;exact⟨_,_,rfl,rfl,rfl⟩
 ·cases h
def O0:D->Res D
 | .tup xs=>.ok (.tup xs.reverse)
 | .str cs=>guard (cs.length≤line) (.ok (.str cs.reverse))
 | _=>.bad
@[simp] theorem OY(xs:List D):O0 (.tup xs)=.ok (.tup xs.reverse):=rfl
@[simp] theorem OZ(cs:List Nat):O0 (.str cs)=guard (cs.length≤line) (.ok (.str cs.reverse)):=rfl
def xp(is:List Nat)(d:D)(ρ:Env):Res Env:=match d with
 | .tup ds=>kh is ds ρ
 | .lst ds=>kh is ds ρ
 | _=>.bad
theorem A?(is:List Nat)(ds:List D)(ρ:Env):xp is (.lst ds) ρ=kh is ds ρ:=rfl
end Z
end
namespace ZS
open PySem PySem.Spec PyProof.Rows L2
def Fp(K:PySem.W.Frag)(H:Hp)(b:Bool)(d:Z.D)(v:V):Prop:=if b=true then bQ K H d v else Den K H d v
def l3(K:PySem.W.Frag)(H:Hp):List Bool->List Z.D->List V->Prop
 | [],[],vs=>vs=[]
 | b :: bs,d :: ds,vs=>∃v r,vs=v :: r∧Fp K H b d v∧l3 K H bs ds r
 | _,_,_=>False
theorem Fp.up{K:PySem.W.Frag}{H H':Hp}{b:Bool}{d:Z.D}{v:V}(h:Fp K H b d v)(e:aI H H'):Fp K H' b d v:=by
 unfold Fp at h ⊢;cases b with
 | true=>exact bQ.up (show bQ K H d v from h) e
 | false=>exact Den.up (show Den K H d v from h) e
theorem l3.up{K:PySem.W.Frag}{H H':Hp}(e:aI H H'):∀{bs:List Bool}{ds:List Z.D}{vs:List V},l3 K H bs ds vs->l3 K H' bs ds vs
 | [],[],_,h=>h
 | [],_ :: _,_,h=>h.elim
 | _ :: _,[],_,h=>h.elim
 | b :: bs,d :: ds,_,⟨v,r,e1,h1,h2⟩=>⟨v,r,e1,h1.up e,l3.up e h2⟩
theorem l3.length{K:PySem.W.Frag}{H:Hp}:∀{bs:List Bool}{ds:List Z.D}{vs:List V},l3 K H bs ds vs->vs.length=ds.length∧ds.length=bs.length
 | [],[],vs,h=>by have:vs=[]:=h;subst this;exact⟨rfl,rfl⟩
 | [],_ :: _,_,h=>h.elim
 | _ :: _,[],_,h=>h.elim
 | b :: bs,d :: ds,_,⟨v,r,e1,h1,h2⟩=>by have:=l3.length h2;subst e1;simp[this.1,this.2]
theorem l3.get{K:PySem.W.Frag}{H:Hp}:∀{bs:List Bool}{ds:List Z.D}{vs:List V}{i:Nat}{b:Bool}{d:Z.D},l3 K H bs ds vs->bs[i]?=some b->ds[i]?=some d->∃v,vs[i]?=some v∧Fp K H b d v
 | [],[],_,_,_,_,_,e,_=>by simp at e
 | [],_ :: _,_,_,_,_,h,_,_=>h.elim
 | _ :: _,[],_,_,_,_,h,_,_=>h.elim
 | b :: bs,d :: ds,_,0,b',d',⟨v,r,e1,h1,h2⟩,eb,ed=>by simp at eb ed;subst e1;subst eb;subst ed;exact⟨v,rfl,h1⟩
 | b :: bs,d :: ds,_,i+1,b',d',⟨v,r,e1,h1,h2⟩,eb,ed=>by subst e1;obtain⟨u,q1,q2⟩:=l3.get (i:=i) h2 (by simpa using eb) (by simpa using ed);exact⟨u,by simpa using q1,q2⟩
def Tb(K:PySem.W.Frag)(bs:List Bool)(f:Z.AF):TA:=λ σ H Q=>∃ρ ds,RE K H σ ρ∧f ρ=.ok ds∧∀vs H',aI H H'->l3 K H' bs ds vs->Q vs H'
abbrev DAF(X:Cx)(es:List Expr)(bs:List Bool)(f:Z.AF):Prop:=PA X es (Tb X.K bs f)
section
variable {X:Cx}{e:Expr}{es:List Expr}{pos:Pos}{f:Z.EF}
def Ts(K:PySem.W.Frag)(bs:List Bool)(m:List Z.D->Z.Res Z.D):Sp:=λ vs H Q _=>∃ds d,l3 K H bs ds vs∧m ds=.ok d∧∀v H',aI H H'->Den K H' d v->Q v H'
end
section
variable {P:Program}{w:World}{K:PySem.W.Frag}{mg:Str->Option Value}{base:Heap}
structure CalB(P:Program)(w:World)(K:PySem.W.Frag)(mg:Str->Option Value)(base:Heap)(x:Str)(k:Nat)(ps:List Str)(bs:List Bool)(m:List Z.D->Z.Res Z.D):Prop where
 ex:∃g fd,nE P w K mg base tI k g fd ps (Ts K bs m)∧mg x=some (.ref g)∧PySem.W.keepIn K (.ref g)=true∧Binds K fd ps []
end
section
variable {X:Cx}{e:Expr}{es:List Expr}{pos:Pos}
end
end ZS
namespace ZQ
open PySem PySem.Spec PyProof.Rows L2 ZS
structure QAF(X:Cx)(es:List Expr)(bs:List Bool)(f:Z.AF):Prop where p:DAF X es bs f
section
variable {X:Cx}{e:Expr}{es:List Expr}{pos:Pos}{f:Z.EF}
end
end ZQ
namespace ZS
open PySem PySem.Spec PyProof.Rows L2
section
variable {prog:Program}{w:World}{A:Around}{E:Value->Shared->Prop}{s:Shared}
theorem wC{it l:Addr}{items:Array Value}(uV:l≠it):∀(n i:Nat)(s:Shared)(Q:List Value->Shared->Prop),s.heap.IsListIter it l i->s.heap.IsList l items->i+n≤items.size ->
  (∀h',h'.IsListIter it l (i+n)->Heap.SameBut it s.heap h'->Q ((items.toList.drop i).take n) { s with heap:=h' })->wpAny (model prog w) A (draw (.ref it) n) Q E s
 | 0,i,s,Q,hit,_,_,hQ=>by show wpAny _ _ (pure []) Q E s;exact wpAny_pure (by simpa using hQ s.heap hit (Heap.SameBut.refl ..))
 | n+1,i,s,Q,hit,ht,hle,hQ=>by
  have l4:i < items.size:=by lia
  show wpAny _ _ (pyNext (.ref it) >>= _) Q E s;refine wpAny_bind (wpAny_pyNext_list_item hit ht (x:=items[i]) (by simp[l4]) λ h₁ MO PX=>?_);refine wpAny_bind (wpAny_holding (wC uV n (i+1) _ _ MO (ht.extBut PX.extBut uV) (by lia) λ h₂ U' YS=>wpAny_pure ?_));have hd:items.toList.drop i=items[i] :: items.toList.drop (i+1):=by simp[List.drop_eq_getElem_cons,l4]
  have:=hQ h₂ (by rw[show i+(n+1)=i+1+n by lia];exact U') (PX.trans YS);rw[hd,List.take_succ_cons]at this;exact this
theorem qK{t:Addr}{items:Array Value}{Q:List Value->Shared->Prop}(hh:A.handled=none)(ht:s.heap.IsList t items)
  (hQ:∀h',Heap.ExtBut s.heap.objs.size s.heap h'->Q items.toList { s with heap:=h' }):wpAny (model prog w) A (unpackItems (.ref t) items.size none) Q E s:=by
 have l4:t≠s.heap.objs.size:=by obtain⟨o,ho,_⟩:=ht;exact Nat.ne_of_lt (Heap.lt_size ho)
 unfold unpackItems;refine wpAny_bind ?_
 ·unfold notIterableAtAll;refine wpAny_bind (wpAny_specialOf ht.typeIs slot_list_iter.lookup ?_);refine wpAny_pure ?_;simp only[Bool.false_eq_true,if_false];refine wpAny_bind (wpAny_holding (wpAny_pyIter_list ht ?_));refine wpAny_bind (wpAny_holding (wC l4 items.size 0 _ _ ⟨_,Heap.get?_push_size _ rfl,rfl,rfl⟩ (ht.push _) (by lia) λ h₁ MO PX=>?_));have hall:List.take items.size (List.drop 0 items.toList)=items.toList:=by rw[List.drop_zero];exact List.take_of_length_le (by simp)
  rw[hall];rw[if_neg (by simp)];have YN:h₁.IsList t items:=(ht.push _).extBut PX.extBut l4;refine wpAny_bind (wpAny_holding (wpAny_pyNext_list_end hh MO YN (by simp) λ h₂ Ze=>?_));simp only[Option.isSome_none,Bool.false_eq_true,if_false];refine wpAny_pure (hQ h₂ λ b o hb e=>Ze b o hb (PX.extBut b o hb (Heap.get?_push_of_some _ e)))
theorem qm{env:Env}{elts:List Expr}{x1}{pos:Pos}{t:Addr}{items:Array Value}{Q:Unit->Shared->Prop}(hh:A.handled=none)(ht:s.heap.IsList t items)
  (hn:(assignEach elts env).length=items.size) (PY:(assignEach elts env).findIdx? (·.1)=none)
  (h:∀h',Heap.ExtBut s.heap.objs.size s.heap h'->wpAny (model prog w) A (assignInOrder ((assignEach elts env).map (·.2)) items.toList) Q E { s with heap:=h' }) :
  wpAny (model prog w) A (assign (.Tuple elts x1 pos) env (.ref t)) Q E s:=by
 rw[assign_Tuple];refine wpAny_bind (wpAny_standAt ?_);unfold unpack;rw[hn,PY];exact wpAny_bind (wpAny_holding (qK hh ht h))
end
section
variable {X:Cx}{tg o e a b:Expr}{es:List Expr}{pos:Pos}{fa fb:Z.EF}{H0:Hp}
def Qt(K:PySem.W.Frag)(n:Nat)(t:HI):TG:=λ v σ H Q=>∃a xs,v=.ref a∧i? K H a xs∧xs.length=n∧t xs σ H Q
theorem LP{es:List Expr}{k:Nat}{t:HI}{n:Nat}(hc:X.calm=true)(h:HK X es t)
  (hn:(assignEach es X.env).length=n:=by rfl) (hst:(assignEach es X.env).findIdx? (·.1)=none:=by rfl):PG X (.Tuple es k pos) (Qt X.K n t):=by
 intro pins s σ H v u Q I r hw;obtain⟨a,xs,e1,hq,hl,hw⟩:=hw;subst e1;cases r;obtain⟨aY,rv,ht,hz⟩:=I.list hq;refine qm (I.ok.hd hc) ht.isList (by simp[hn,<-hl,rv.length]) hst λ h' hx=>?_;have I1:Inv X pins σ H { s with heap:=h' }:=I.kept (t':=s.toks) λ b o e=>hx b o (Nat.ne_of_lt (Heap.lt_size e)) e;exact h pins _ σ H xs _ Q I1 (by simpa using rv) hw
theorem wj:∀(is:List Nat)(ds:List Z.D)(ρ ρ':Z.Env),Z.kh is ds ρ=.ok ρ'->ds.length=is.length:=by
 intro is
 induction is with
 | nil=>intro ds ρ ρ' e;cases ds with
  | nil=>rfl
  | cons d ds=>cases e
 | cons i is ih=>intro ds ρ ρ' e;cases ds with
  | nil=>cases e
  | cons d ds=>simp[ih ds _ _ e]
theorem wF{x1 n:Nat}{is:List Nat}(hc:X.calm=true)(h:N2 X H0 es is)(hl:is.length=n)(hn:(assignEach es X.env).length=n:=by rfl)(hst:(assignEach es X.env).findIdx? (·.1)=none:=by rfl):DG X H0 (.Tuple es x1 pos) (Z.xp is):=by
 intro pins s σ H v u Q I r hw;obtain⟨ρ,d,ρ',rs,hd,e,k⟩:=hw;unfold Z.xp at e;split at e
 ·rename_i ds;obtain⟨q,vs,rfl,hq,t⟩:=bQ.tup (.inl hd);exact Ge hc h hn hst pins s σ H _ u Q I r ⟨q,vs,rfl,hq,by rw[t.length,wj is ds ρ ρ' e];exact hl,ρ,ds,ρ',rs,t,e,k⟩
 ·rename_i ds;obtain⟨q,vs,rfl,hq,t⟩:=bQ.lst (.inl hd);exact LP hc h hn hst pins s σ H _ u Q I r ⟨q,vs,rfl,hq,by rw[t.length,wj is ds ρ ρ' e];exact hl,ρ,ds,ρ',rs,t,e,k⟩
 ·cases e
theorem Ab:∀{ts:List Str}{aY:List Value},Vals (ts.map V.str) aY->∃l:List (Str×Tok),strValues l=aY∧l.map (·.1)=ts
 | [],aY,h=>by cases h;exact⟨[],rfl,rfl⟩
 | t :: ts,aY,h=>by
  cases h with
  | cons r rr =>obtain⟨tk,rfl⟩:=r;obtain⟨l,rfl,h2⟩:=Ab rr;exact⟨(t,tk) :: l,rfl,by rw[<-h2];rfl⟩
def rJoin(K:PySem.W.Frag):V->List V->Hp->VK->Prop:=λ x vs H Q=>∃sep q ts,x=.str sep∧vs=[.ref q]∧i? K H q (ts.map V.str)∧JoinOk sep ts=true∧Q (.str (Txt.join sep ts)) H
theorem Jq:Kx X "str.join" (rJoin X.K):=by intro pins s σ H x vs v us Q I rx rv h;obtain⟨sep,q,ts,rfl,rfl,hq,dW,k⟩:=h;obtain⟨t,rfl⟩:=rx;obtain⟨u,rfl,ru⟩:=rv.one;cases ru;obtain⟨aY,r,pl,hz⟩:=I.list hq;obtain⟨l,rfl,hl⟩:=Ab r;exact SC.join pl.isList hl dW λ t' c=>⟨.str (Txt.join sep ts),H,I.tok c,⟨t',rfl⟩,k⟩
def su(cs:List Nat):Str:=⟨cs.toArray⟩
theorem wG{K : PySem.W.Frag}{H : Hp}: ∀{xs : List Z.D}{ts : List (List Nat)}{vs : List V}, Z.l5 xs = some ts -> aG K H xs vs -> vs = (ts.map su).map V.str
 | [],ts,vs,e,h=>by cases e;simp only[aG]at h;subst h;rfl
 | x :: xs,ts,vs,e,h=>by
  cases x with
  | str c =>
   have e':(Z.l5 xs).map (c :: ·)=some ts:=e;cases q:Z.l5 xs with
   | none=>rw[q]at e';cases e'
   | some ts' =>rw[q]at e';cases e';simp only[aG]at h;obtain⟨v,r,rfl,hv,ht⟩:=h;simp only[Den]at hv;rw[hv,wG q ht];rfl
  | non=>cases e
  | bl _=>cases e
  | int _=>cases e
  | tup _=>cases e
  | lst _=>cases e
  | dct _ _=>cases e
theorem Du(cs:List Nat):(su cs).length=cs.length:=by simp[su,Str.length]
theorem Dv(a b:List Nat):su a++su b=su (a++b):=by show(⟨a.toArray++b.toArray⟩:Str)=_;simp[su]
theorem JH(sep:List Nat):∀ts:List (List Nat),Txt.join (su sep) (ts.map su)=su (Z.oo sep ts):=by
 intro ts;show Builtin.Str.glued _ _=_;rw[StrLaws.glued_eq_join]
 induction ts with
 | nil=>rfl
 | cons x ts ih =>
  cases ts with
  | nil=>rfl
  | cons y r =>show su x++su sep++Str.join (su sep) ((y :: r).map su)=_;rw[ih,Dv,Dv];rfl
theorem JG{sep:List Nat}{ts:List (List Nat)}(h:(ts.map List.length).sum+ts.length*sep.length≤16777216):JoinOk (su sep) (ts.map su)=true:=by
 unfold JoinOk;rw[StrLaws.joinTotal];have e:(ts.map su).map (·.length)=ts.map List.length:=by rw[List.map_map];exact List.map_congr_left λ x _=>Du x
 rw[e,List.length_map,Du];simp only[Builtin.Str.tooLong,Bool.not_eq_true',decide_eq_false_iff_not,gt_iff_lt,Nat.not_lt];rw[sizeLine_eq];exact h
theorem zE{p1 p2:Pos}(ho:DE X o fa)(hb:DW X b fb)
  (hbase:attributeBase o "join" X.env (eval o X.env)=eval o X.env:=by rfl)
  (hfew:((backTo p2 (starEach (b :: []) X.env)).all (λ x=>!x.1)&&(backToKw p2 (keywordEach [] X.env)).all (λ x=>x.1.isSome)
   && decide ((b :: []).length+([]:List Keyword).length+(if([]:List Keyword).isEmpty then 0 else 1) < 30))=true:=by rfl)
  (hline:(p1.endLine==p2.line)=true:=by rfl) (hs1:starEach (b :: []) X.env=(false,eval b X.env) :: starEach [] X.env:=by rfl) (hplain:(backTo p2 (starEach [] X.env)).any (·.1)=false:=by rfl) :
  DE X (.Call (.Attribute o "join" p1) [b] [] p2) (Z.eB Z.vI fa fb) :=
 PE.imp (Au PySem.F.plainAttrs_str PySem.F.slot_str_join PySem.F.type_str_join Jq ho (b9 hb dJ hs1) hbase hfew hline hs1 hplain) λ σ H Q ⟨ρ,d,r,e,k⟩=>by obtain⟨x,ea,e⟩:=Z.Res.az e;obtain⟨y,eb,e⟩:=Z.Res.az e;obtain⟨sep,xs,ts,rfl,rfl,et,hl,rfl⟩:=Z.Gw e;refine⟨ρ,_,r,ea,λ v H1 s1 d1=>?_⟩;simp only[Den]at d1;subst d1;refine⟨rfl,ρ,_,r.up s1,eb,λ u H2 s2 d2=>?_⟩;obtain⟨q,vs,rfl,hq,t⟩:=d2.lst;rw[wG et t]at hq;refine⟨su sep,q,ts.map su,rfl,rfl,hq,JG hl,?_⟩;rw[JH];exact k _ H2 (s1.trans s2) oY
theorem Jl(x : Str)(c : Nat)(lim : Nat): ∀(n lo : Nat)(st : Array Nat × Nat), st.2 ≤ lo -> st.1.size + n ≤ lim -> lo + n = x.length + 1 ->
  (forIn (List.range' lo n) st (StrLaws.occBody x ⟨#[c]⟩ x.length lim)).run.fst.size=st.1.size+(x.cps.toList.drop lo).count c:=by
 intro n
 induction n with
 | zero =>intro lo st h1 h2 h3;have:x.cps.toList.drop lo=[]:=List.drop_eq_nil_of_le (by simp;show x.length≤lo;lia);simp[this]
 | succ n ih =>
  intro lo st h1 h2 h3;rw[List.range'_succ,List.forIn_cons];by_cases U1:lo < x.length
  ·have MK:lo < x.cps.toList.length:=by rw[Array.length_toList];exact U1
   have v?:Builtin.Str.subAt x ⟨#[c]⟩ lo=decide (x.cps.toList[lo]=c):=by
    have so:=StrLaws.subAt_one x c lo;rw[Bool.eq_iff_iff,decide_eq_true_eq];constructor
    ·intro h;have:=so.mp ⟨by show lo+1≤x.length;lia,h⟩;rw[List.getElem?_eq_getElem MK]at this;exact Option.some.inj this
    ·intro h;exact(so.mpr (by rw[List.getElem?_eq_getElem MK,h])).2
   rw[List.drop_eq_getElem_cons MK];by_cases hc:x.cps.toList[lo]=c
   ·have A8:((st.1.size < lim∧st.2≤lo)∧lo+(⟨#[c]⟩:Str).length≤x.length)∧Builtin.Str.subAt x ⟨#[c]⟩ lo=true:=⟨⟨⟨by lia,h1⟩,by show lo+1≤x.length;lia⟩,by rw[v?];simp[hc]⟩
    have e:StrLaws.occBody x ⟨#[c]⟩ x.length lim lo st=pure (ForInStep.yield (st.1.push lo,lo+1)):=by unfold StrLaws.occBody;rw[if_pos A8];rfl
    rw[e];have:=ih (lo+1) (st.1.push lo,lo+1) (Nat.le_refl _) (by simp;lia) (by lia);simp only[pure_bind];rw[this,hc,List.count_cons_self];simp only[Array.size_push];lia
   ·have A8:¬(((st.1.size < lim∧st.2≤lo)∧lo+(⟨#[c]⟩:Str).length≤x.length)∧Builtin.Str.subAt x ⟨#[c]⟩ lo=true):=λ z=>by rw[v?]at z;exact hc (of_decide_eq_true z.2)
    have e:StrLaws.occBody x ⟨#[c]⟩ x.length lim lo st=pure (ForInStep.yield (st.1,st.2)):=by unfold StrLaws.occBody;rw[if_neg A8]
    rw[e];have:=ih (lo+1) (st.1,st.2) (by simp;lia) (by simp;lia) (by lia);simp only[pure_bind];rw[this,List.count_cons_of_ne hc]
  ·have A8:¬(((st.1.size < lim∧st.2≤lo)∧lo+(⟨#[c]⟩:Str).length≤x.length)∧Builtin.Str.subAt x ⟨#[c]⟩ lo=true):=λ z=>U1 (by have:=z.1.2;change lo+1≤x.length at this;lia);have e:StrLaws.occBody x ⟨#[c]⟩ x.length lim lo st=pure (ForInStep.yield (st.1,st.2)):=by unfold StrLaws.occBody;rw[if_neg A8]
   rw[e];have:=ih (lo+1) (st.1,st.2) (by simp;lia) (by simp;lia) (by lia);simp only[pure_bind];rw[this];have h5:x.cps.toList.drop lo=[]:=List.drop_eq_nil_of_le (by simp;show x.length≤lo;lia);have h6:x.cps.toList.drop (lo+1)=[]:=List.drop_eq_nil_of_le (by simp;show x.length≤lo+1;lia);rw[h5,h6]
theorem Et(t:List Nat)(c:Nat):(Builtin.Str.occurrences (su t) ⟨#[c]⟩ 0 (su t).length ((su t).length+1)).length=t.count c:=by rw[StrLaws.occ_eq];have:=Jl (su t) c ((su t).length+1) ((su t).length+1) 0 (#[],0) (Nat.le_refl _) (by simp) (by lia);simpa[su]using this
def OG:V->List V->Hp->VK->Prop:=λ x vs H Q=>∃t c,x=.str (su t)∧vs=[.str ⟨#[c]⟩]∧Q (.int ((t.count c:Nat):Int)) H
theorem Jr:Kx X "str.count" OG:=by intro pins s σ H x vs v us Q I rx rv h;obtain⟨t,c,rfl,rfl,k⟩:=h;obtain⟨tk,rfl⟩:=rx;obtain⟨u,rfl,ru⟩:=rv.one;obtain⟨X3,rfl⟩:=ru;refine call_gives F.slot_str_count (typeIs_str _ _ _) F.entry_str_count (F.args_str_count_2 _ _) (gives_str_count _ _ tk X3) ?_;rw[Et];exact⟨.int _,H,I.tok _,⟨_,rfl⟩,k⟩
theorem zG{p1 p2:Pos}(ho:DW X o fa)(hb:DW X b fb)
  (hbase:attributeBase o "count" X.env (eval o X.env)=eval o X.env:=by rfl)
  (hfew:((backTo p2 (starEach (b :: []) X.env)).all (λ x=>!x.1)&&(backToKw p2 (keywordEach [] X.env)).all (λ x=>x.1.isSome)
   && decide ((b :: []).length+([]:List Keyword).length+(if([]:List Keyword).isEmpty then 0 else 1) < 30))=true:=by rfl)
  (hline:(p1.endLine==p2.line)=true:=by rfl) (hs1:starEach (b :: []) X.env=(false,eval b X.env) :: starEach [] X.env:=by rfl) (hplain:(backTo p2 (starEach [] X.env)).any (·.1)=false:=by rfl) :
  DE X (.Call (.Attribute o "count" p1) [b] [] p2) (Z.eB Z.xS fa fb) :=
 PE.imp (Au PySem.F.plainAttrs_str PySem.F.slot_str_count PySem.F.type_str_count Jr ho (b9 hb dJ hs1) hbase hfew hline hs1 hplain) λ σ H Q ⟨ρ,d,r,e,k⟩=>by obtain⟨x,ea,e⟩:=Z.Res.az e;obtain⟨y,eb,e⟩:=Z.Res.az e;obtain⟨t,c,rfl,rfl,rfl⟩:=Z.Gx e;refine⟨ρ,_,r,ea,λ v H1 s1 d1=>?_⟩;have d1':=d1.str;subst d1';refine⟨rfl,ρ,_,r.up s1,eb,λ u H2 s2 d2=>?_⟩;have d2':=d2.str;subst d2';exact⟨t,c,rfl,rfl,k _ H2 (s1.trans s2) c7⟩
end
end ZS
namespace ZQ
open PySem PySem.Spec PyProof.Rows L2 ZS
section
variable {X:Cx}{tg o e a b:Expr}{es:List Expr}{pos:Pos}{fa fb:Z.EF}{H0:Hp}
theorem wF{x1 n:Nat}{is:List Nat}(hc:X.calm=true)(h:Rb X H0 es is)(hl:is.length=n)(hn:(assignEach es X.env).length=n:=by rfl)(hst:(assignEach es X.env).findIdx? (·.1)=none:=by rfl):QG X H0 (.Tuple es x1 pos) (Z.xp is):=⟨ZS.wF hc h.p hl hn hst⟩
theorem zE{p1 p2:Pos}(ho:QE X o fa)(hb:QW X b fb)
  (hbase:attributeBase o "join" X.env (eval o X.env)=eval o X.env:=by rfl)
  (hfew:((backTo p2 (starEach (b :: []) X.env)).all (λ x=>!x.1)&&(backToKw p2 (keywordEach [] X.env)).all (λ x=>x.1.isSome)
   && decide ((b :: []).length+([]:List Keyword).length+(if([]:List Keyword).isEmpty then 0 else 1) < 30))=true:=by rfl)
  (hline:(p1.endLine==p2.line)=true:=by rfl) (hs1:starEach (b :: []) X.env=(false,eval b X.env) :: starEach [] X.env:=by rfl) (hplain:(backTo p2 (starEach [] X.env)).any (·.1)=false:=by rfl) :
  QE X (.Call (.Attribute o "join" p1) [b] [] p2) (Z.eB Z.vI fa fb):=⟨ZS.zE ho.p hb.p hbase hfew hline hs1 hplain⟩
theorem zG{p1 p2:Pos}(ho:QW X o fa)(hb:QW X b fb)
  (hbase:attributeBase o "count" X.env (eval o X.env)=eval o X.env:=by rfl)
  (hfew:((backTo p2 (starEach (b :: []) X.env)).all (λ x=>!x.1)&&(backToKw p2 (keywordEach [] X.env)).all (λ x=>x.1.isSome)
   && decide ((b :: []).length+([]:List Keyword).length+(if([]:List Keyword).isEmpty then 0 else 1) < 30))=true:=by rfl)
  (hline:(p1.endLine==p2.line)=true:=by rfl) (hs1:starEach (b :: []) X.env=(false,eval b X.env) :: starEach [] X.env:=by rfl) (hplain:(backTo p2 (starEach [] X.env)).any (·.1)=false:=by rfl) :
  QE X (.Call (.Attribute o "count" p1) [b] [] p2) (Z.eB Z.xS fa fb):=⟨ZS.zG ho.p hb.p hbase hfew hline hs1 hplain⟩
end
end ZQ
namespace ZS
open PySem PySem.Spec PyProof.Rows L2
section
variable {prog:Program}{w:World}{A:Around}{E:Value->Shared->Prop}{s:Shared}
end
section
variable {X:Cx}{e st:Expr}{te:TE}{pos p2:Pos}{fa:Z.EF}
end
end ZS
namespace ZQ
open PySem PySem.Spec PyProof.Rows L2 ZS
section
variable {X:Cx}{e:Expr}{pos p2:Pos}{fa:Z.EF}
end
end ZQ
noncomputable section
namespace Z
def vt(_:Env):Res Fl:=.bad
@[simp] theorem TK(ρ:Env):vt ρ=.bad:=rfl
def VV(_:Env):Res D:=.bad
@[simp] theorem VU(ρ:Env):VV ρ=.bad:=rfl
def AO:D->D->Res D
 | .tup [d],.int n=>guard (0≤n∧n≤1000000) (.ok (.tup (List.replicate n.toNat d)))
 | _,_=>.bad
theorem Gr{x y d:D}(h:AO x y=.ok d):∃e n,x=.tup [e]∧y=.int n∧0≤n∧n≤1000000∧d=.tup (List.replicate n.toNat e):=by
 unfold AO at h;split at h
 ·obtain⟨⟨h0,h1⟩,e⟩:=rn h;cases e;exact⟨_,_,rfl,rfl,h0,h1,rfl⟩
 ·cases h
def N4(f:List D->Res D)(ds:List D):Res D:=f (ds++[.non])
@[simp] theorem Rq(f:List D->Res D)(ds:List D):N4 f ds=f (ds++[.non]):=rfl
end Z
end
namespace ZS
open PySem PySem.Spec PyProof.Rows L2
theorem zp{X:Cx}{H0:Hp}{st:Stmt}:DS X H0 st Z.vt:=λ _ _ _ _ _ _ ⟨_,_,_,e,_⟩=>nomatch e
theorem oV{X:Cx}{H0:Hp}{Ed:List Stmt}:BI X H0 Ed Z.vt:=λ _ _ _ _ _ _ ⟨_,_,_,e,_⟩=>nomatch e
theorem zJ{P:Program}{w:World}{K:PySem.W.Frag}{mg:Str->Option Value}{base:Heap}{x:Str}{k:Nat}{ps:List Str}{m:List Z.D->Z.Res Z.D}(C:fK P w K mg base x k ps m)(hm:∀ds d,m ds≠.ok d:=by intro ds d h;unfold Z.fn at h;split at h<;>cases h):fK P w K mg base x k ps (λ _=>.bad):=by
 obtain⟨g,fd,F,h⟩:=C.ex;have:z6 K m=z6 K λ _=>.bad:=by
  funext vs H Q E
  refine propext ⟨λ⟨ds,d,_,e,_⟩=>absurd e (hm ds d),λ⟨ds,d,_,e,_⟩=>nomatch e⟩
 rw[this]at F;exact⟨g,fd,F,h⟩
structure Kz(K:PySem.W.Frag)(x qual:Str)(st:Stmt)(f:Addr)(fd:FuncData):Prop where
 ex:∃(oc:Value)(od:Option Addr)(dV kV doc pm:Value)(an:Option Addr)(bP ct:Value)(BL:Array (Option Value)),
  fd=PySem.W.fnOf x qual (dm st) (bO st) (au st) dV kV doc pm an bP ct∧K.lookup f=some ⟨oc,od,.func fd,BL⟩∧PySem.W.codeIn K bP qual=true
 kp:PySem.W.keepIn K (.ref f)=true
section
variable {P:Program}{w:World}{K:PySem.W.Frag}{mg:Str->Option Value}{base:Heap}
theorem Kz.ok{x qual:Str}{st:Stmt}{f:Addr}{fd:FuncData}{N ps:List Str}{k:Nat}{sp:Sp}(F:Kz K x qual st f fd)(S:aA N ps (au st))(len:∀vs H Q E,sp vs H Q E->vs.length=ps.length)
  (A9:∀ (bP:Value) (A:Around) (outer:List Env) (s:Shared) (H:Hp) (vs:List V) (Q:VK) (E:XK),eM k (A.deeper (envOfC qual (au st) s.heap.objs.size f bP))->sp vs H Q E ->
   ∃t,yp (nD tI P w K mg base N qual (au st) f bP A outer s H E).z8 (bO st) t∧t { nx:=λ _ H'=>Q .non H',rt:=Q } (start N vs) H):nE P w K mg base tI (k+1) f fd ps sp:=by
 obtain⟨oc,od,dV,kV,doc,pm,an,bP,ct,BL,rfl,lk,hcd⟩:=F.ex;refine Hh lk hcd S len λ A outer s H vs Q E hr K5=>?_;obtain⟨t,h,q⟩:=A9 bP A outer s H vs Q E hr K5;exact⟨t,h.z8,q⟩
theorem VA{x qual:Str}{st:Stmt}{f:Addr}{fd:FuncData}{N ps:List Str}{k:Nat}{b:Z.SF}(F:Kz K x qual st f fd)(S:aA N ps (au st))
  (hb:∀ (bP:Value) (A:Around) (outer:List Env) (s:Shared) (H:Hp) (E:XK),eM k (A.deeper (envOfC qual (au st) s.heap.objs.size f bP)) ->
   BI (nD tI P w K mg base N qual (au st) f bP A outer s H E).z8 H (bO st) b):nE P w K mg base tI (k+1) f fd ps (z6 K (Z.fn ps.length N.length b)):=by
 have hlen:∀(vs:List V)(H:Hp)(Q:VK)(E:XK),z6 K (Z.fn ps.length N.length b) vs H Q E->vs.length=ps.length:=λ vs H Q E ⟨ds,d,t,e,_⟩=>by
  unfold Z.fn at e;split at e
  ·rename_i h;rw[t.length];exact h
  ·cases e
 refine F.ok S hlen (λ bP A outer s H vs Q E hr h=>⟨_,hb bP A outer s H E hr,?_⟩);have hl:=hlen vs H Q E h;obtain⟨ds,d,t,e,k⟩:=h;have hpl:ps.length≤N.length:=by have:=congrArg List.length S.pre;rw[List.length_take]at this;lia
 have rs:RS K H H (L2.start N vs) (Z.start N.length ds):=rS t (by lia);unfold Z.fn at e;split at e
 ·cases eb:b (Z.start N.length ds)with
  | bad=>rw[eb]at e;cases e
  | ok fl =>
   rw[eb]at e;refine⟨_,fl,rs,eb,?_⟩;cases fl with
   | rt d'=>cases e;exact λ v H' s' dv=>k v H' s' dv
   | nx ρ'=>cases e;exact λ σ' H' _ HW=>k .non H' HW.same rM
   | bk ρ'=>cases e
   | ct ρ'=>cases e
 ·cases e
structure s_(K:PySem.W.Frag)(mg:Str->Option Value)(x:Str)(st:Stmt)(ps:List Str):Prop where
 ex:∃f fd,Kz K x x st f fd∧mg x=some (.ref f)∧Binds K fd ps []∧Binds K fd ps [.none]
structure qy(P:Program)(w:World)(K:PySem.W.Frag)(mg:Str->Option Value)(base:Heap)(x:Str)(k:Nat)(ps:List Str)(m:List Z.D->Z.Res Z.D):Prop where
 ex:∃g fd,nE P w K mg base tI k g fd ps (z6 K m)∧mg x=some (.ref g)∧PySem.W.keepIn K (.ref g)=true∧Binds K fd ps []∧Binds K fd ps [.none]
theorem qy.full{x:Str}{k:Nat}{ps:List Str}{m:List Z.D->Z.Res Z.D}(C:qy P w K mg base x k ps m):fK P w K mg base x k ps m :=
 let ⟨g,fd,h1,h2,h3,h4,_⟩:=C.ex;⟨g,fd,h1,h2,h3,h4⟩
theorem qy.mk'{x:Str}{k:Nat}{st:Stmt}{N ps:List Str}{b:Z.SF}(d:s_ K mg x st ps)(S:aA N ps (au st))
  (hb:∀ (f:Addr) (bP:Value) (A:Around) (outer:List Env) (s:Shared) (H:Hp) (E:XK),eM k (A.deeper (envOfC x (au st) s.heap.objs.size f bP)) ->
   BI (nD tI P w K mg base N x (au st) f bP A outer s H E).z8 H (bO st) b):qy P w K mg base x (k+1) ps (Z.fn ps.length N.length b):=by
 obtain⟨f,fd,F,hm,EX,Zl⟩:=d.ex;exact⟨f,fd,VA F S (hb f),hm,F.kp,EX,Zl⟩
theorem Kd{x:Str}{st:Stmt}{ps:List Str}{f t:Addr}{oc:Value}{od an:Option Addr}{BL:Array (Option Value)}{kV doc pm bP ct tc:Value}{td:Option Addr}{tn:Nat}{XZ:Array (Option Value)}
  (l:K.lookup f=some ⟨oc,od,.func (PySem.W.fnOf x x (dm st) (bO st) (au st) (.ref t) kV doc pm an bP ct),BL⟩)
  (c:PySem.W.codeIn K bP x=true) (k:PySem.W.keepIn K (.ref f)=true) (lt:K.lookup t=some ⟨tc,td,.seq #[.none] tn,XZ⟩) (hm:mg x=some (.ref f))
  (h1:∀us:List Value,us.length=ps.length->∃kk:Option (Array Value)->Sem (List (Str×Value)),bindArgs (PySem.W.fnOf x x (dm st) (bO st) (au st) (.ref t) kV doc pm an bP ct) ⟨us,[]⟩=seqItems? (.ref t) >>= kk∧kk (some #[.none])=pure (ps.zip us))
  (h2:∀us:List Value,us.length+1=ps.length->∃kk:Option (Array Value)->Sem (List (Str×Value)),bindArgs (PySem.W.fnOf x x (dm st) (bO st) (au st) (.ref t) kV doc pm an bP ct) ⟨us,[]⟩=seqItems? (.ref t) >>= kk∧kk (some #[.none])=pure (ps.zip (us++[.none]))):s_ K mg x st ps:=by
 refine⟨f,_,⟨⟨oc,od,.ref t,kV,doc,pm,an,bP,ct,BL,rfl,l,c⟩,k⟩,hm,λ s us hK hl=>?_,λ s us hK hl=>?_⟩
 ·rw[List.append_nil]at hl ⊢;obtain⟨kk,e1,e2⟩:=h1 us hl;exact BindsTo.of_defaults (T:=t) (items:=#[.none]) rfl (hK t _ lt) rfl e1 e2
 ·obtain⟨kk,e1,e2⟩:=h2 us (by simpa using hl);exact BindsTo.of_defaults (T:=t) (items:=#[.none]) rfl (hK t _ lt) rfl e1 e2
end
section
variable {X:Cx}{e:Expr}{es:List Expr}{pos:Pos}
end
end ZS
namespace ZQ
open PySem PySem.Spec PyProof.Rows L2 ZS
section
variable {X:Cx}{e:Expr}{es:List Expr}{pos:Pos}{H0:Hp}{st:Stmt}{Ed:List Stmt}
theorem zp:QS X H0 st Z.vt:=⟨ZS.zp⟩
theorem oV:D9 X H0 Ed Z.vt:=⟨ZS.oV⟩
theorem rN{P:Program}{w:World}{K:PySem.W.Frag}{mg:Str->Option Value}{base:Heap}{x:Str}{k:Nat}{st:Stmt}{N ps:List Str}{b:Z.SF}(d:ZS.s_ K mg x st ps)(S:aA N ps (au st))
  (hb:∀ (f:Addr) (bP:Value) (A:Around) (outer:List PySem.Env) (s:Shared) (H:Hp) (E:XK),eM k (A.deeper (envOfC x (au st) s.heap.objs.size f bP)) ->
   D9 (nD tI P w K mg base N x (au st) f bP A outer s H E).z8 H (bO st) b):ZS.qy P w K mg base x (k+1) ps (Z.fn ps.length N.length b) :=
 ZS.qy.mk' d S λ f bP A outer s H E hr=>(hb f bP A outer s H E hr).p
end
end ZQ
namespace PySem
open Sem (wp)
open Builtin
theorem sr:fillsNumberSlot (.type "tuple") "mul" = pure false :=
 fillsNumberSlot_seq (id := "tuple.__mul__") (r:=some (.builtin "tuple.__rmul__")) F.slot_tuple_mul.lookup (by decide +kernel) F.slot_tuple_rmul.lookup (by decide +kernel)
theorem yI:seqRepeat? (.type "tuple")=pure (some (.builtin "tuple.__mul__")):=by unfold seqRepeat?;rw[seqSlot_of (T := "tuple") (name := "__mul__") (id := "tuple.__mul__") F.slot_tuple_mul.lookup (by decide +kernel),seqSlot_of (T := "tuple") (name := "__rmul__") (id := "tuple.__rmul__") F.slot_tuple_rmul.lookup (by decide +kernel)];rfl
theorem my(a:Int)(t:Tok)(l:Addr)(items:Array Value)(n:Nat)(dd:Option Addr)(sl:Array (Option Value)):
  Meets (Builtin.«int.__rmul__» ⟨[.int a t,.ref l],[]⟩) (λ _ R s=>s.heap.get? l=some { cls:=.type "tuple",dict:=dd,data:=.seq items n,slots:=sl }∧R (.ok (.ret Value.notImplemented)) s) :=
 .of_wp λ prog w A R s h=>by obtain⟨hp,g,d,tk,os⟩:=s;obtain⟨hl,h⟩:=h;wp_walk;exact⟨_,rfl,h⟩
theorem uv(a:Int)(t:Tok)(l:Addr)(x:Value)(n:Nat)(dd:Option Addr)(sl:Array (Option Value))(h0:a=0):
  Meets (Builtin.«tuple.__mul__» ⟨[.ref l,.int a t],[]⟩) (λ _ R s=>s.heap.get? l=some { cls:=.type "tuple",dict:=dd,data:=.seq #[x] n,slots:=sl }∧R (.ok (.ret (.ref s.heap.objs.size))) { s with heap:=s.heap.push { cls:=.type "tuple",data:=.seq #[] } }) :=
 .of_wp λ prog w A R s h=>by
  obtain⟨hp,g,d,tk,os⟩:=s;obtain⟨hl,h⟩:=h;subst h0
  wp_walk
  exact⟨_,rfl,h⟩
theorem uu(a:Int)(t:Tok)(l:Addr)(x:Value)(n:Nat)(dd:Option Addr)(sl:Array (Option Value))(h0:a=1):
  Meets (Builtin.«tuple.__mul__» ⟨[.ref l,.int a t],[]⟩) (λ _ R s=>s.heap.get? l=some { cls:=.type "tuple",dict:=dd,data:=.seq #[x] n,slots:=sl }∧R (.ok (.ret (.ref l))) s) :=
 .of_wp λ prog w A R s h=>by
  obtain⟨hp,g,d,tk,os⟩:=s;obtain⟨hl,h⟩:=h;subst h0
  wp_walk
  exact⟨_,rfl,h⟩
theorem ur(a:Int)(t:Tok)(l:Addr)(x:Value)(n:Nat)(dd:Option Addr)(sl:Array (Option Value))(h1:¬(decide (a < -(2 ^ 63)) || decide (a≥2 ^ 63))=true)(h2:¬((#[x]:Array Value).isEmpty || a==1)=true)(h3:¬(decide (a≤0) || (#[x]:Array Value).isEmpty)=true)(h4:¬((#[x]:Array Value).size:Int)*a > (2 ^ 63-1) / 8)(h5:¬Tuple.tupleTooMany (((#[x]:Array Value).size:Int)*a)=true)(h6:((List.replicate a.toNat #[x]).foldl (·++·) #[]).size≤sizeLine):
  Meets (Builtin.«tuple.__mul__» ⟨[.ref l,.int a t],[]⟩) (λ _ R s=>s.heap.get? l=some { cls:=.type "tuple",dict:=dd,data:=.seq #[x] n,slots:=sl }∧R (.ok (.ret (.ref s.heap.objs.size))) { s with heap:=s.heap.push { cls:=.type "tuple",data:=.seq ((List.replicate a.toNat #[x]).foldl (·++·) #[]) } }) :=
 .of_wp λ prog w A R s h=>by
  obtain⟨hp,g,d,tk,os⟩:=s;obtain⟨hl,h⟩:=h
  wp_walk
  refine wpAny_ite_false (by simpa using h1) ?_
  wp_walk
  refine wpAny_ite_false (by simpa using h2) ?_
  wp_walk
  refine wpAny_ite_false (by simpa using h3) ?_
  wp_walk
  refine wpAny_ite_false (decide_eq_false h4) ?_
  wp_walk
  refine wpAny_ite_false (by simpa using h5) ?_
  wp_walk
  exact⟨_,rfl,h⟩
end PySem
namespace ZS
open PySem PySem.Spec PyProof.Rows L2
section
variable {X:Cx}{a b:Expr}{pos:Pos}{fa fb:Z.EF}
def OC(K:PySem.W.Frag):R2:=λ x y H Q=>∃l k w,x=.ref l∧y=.int k∧oH K H l [w]∧0≤k∧k≤1000000∧(k=1->Q (.ref l) H)∧(k≠1->∀p,H p=none->Q (.ref p) (upd H p (.tup (List.replicate k.toNat w))))
theorem yf(v:Value):∀(k:Nat)(acc:Array Value),List.foldl (λ x1 x2=>x1++x2) acc (List.replicate k #[v])=acc++(List.replicate k v).toArray
 | 0,acc=>by simp
 | k+1,acc=>by rw[List.replicate_succ,List.foldl_cons,yf v k,List.replicate_succ];apply Array.toList_inj.mp;simp
theorem xI{w:V}{u:Value}(r:RelV w u):∀k:Nat,Vals (List.replicate k w) (List.replicate k u)
 | 0=>.nil
 | k+1=>.cons r (xI r k)
theorem Ja: kI X (binaryOp .Mult) (OC X.K) := by
 intro pins s σ H x y v u Q I rx ry h;obtain⟨l,k,w,rfl,rfl,hq,h0,h1,q1,q2⟩:=h;cases rx;obtain⟨t,rfl⟩:=ry;obtain⟨aY,r,ht,hz⟩:=I.tuple hq;obtain⟨x,rfl,rx⟩:=vals1 r;obtain⟨⟨cls,dd,data,sl⟩,ho,hc,n,hd⟩:=id ht;simp only at hc hd;subst hc hd;have e:s.heap.get? l=some { cls:=.type "tuple",dict:=dd,data:=.seq #[x] n,slots:=sl }:=ho;refine wpAny_binaryOp_repeat_ref (T := "tuple") (U := "int") (by decide) ⟨_,e,rfl⟩ (λ s'=>typeIs_int s' k t) sr F.fills_int_mul F.slot_int_rmul yI F.slot_int_index.lookup
  (call_meets F.slot_int_rmul (typeIs_int s k t) F.entry_int_rmul (F.args_int_rmul_2 _ _) (my k t l #[x] n dd sl) ⟨e,rfl,⟨_,e,rfl⟩,?_⟩)
 by_cases K8:k=1
 ·exact call_meets F.slot_tuple_mul ⟨_,e,rfl⟩ F.entry_tuple_mul (F.args_tuple_mul_2 _ _) (uu k t l x n dd sl K8) ⟨e,⟨.ref l,H,I,rfl,q1 K8⟩⟩
 ·by_cases W6:k=0
  ·refine call_meets F.slot_tuple_mul ⟨_,e,rfl⟩ F.entry_tuple_mul (F.args_tuple_mul_2 _ _) (uv k t l x n dd sl W6) ⟨e,?_⟩;have q:=q2 K8 _ (I.dW.fresh (Nat.le_refl s.heap.objs.size));rw[W6]at q;refine⟨.ref _,_,I.laid (t':=s.toks) (o:=.tup []) (λ b ob z=>Heap.get?_push_of_some _ z) (Nat.le_refl _) ?_,rfl,q⟩;exact⟨Nat.zero_le _,[],.nil,IsTup.new _ _⟩
  ·have W5:2≤k:=by lia
   have hf:=yf x k.toNat #[];rw[Array.empty_append]at hf;have hs:(1000000:Nat)≤sizeLine:=by decide
   refine call_meets F.slot_tuple_mul ⟨_,e,rfl⟩ F.entry_tuple_mul (F.args_tuple_mul_2 _ _) (ur k t l x n dd sl ?_ ?_ ?_ ?_ ?_ ?_) ⟨e,?_⟩
   ·simp;lia
   ·simp;lia
   ·simp;lia
   ·show ¬((1:Nat):Int)*k > (2 ^ 63-1) / 8;lia
   ·show ¬(decide (((1:Nat):Int)*k > (sizeLine:Int)))=true;rw[decide_eq_true_eq];have:((1000000:Nat):Int)≤(sizeLine:Int):=Int.ofNat_le.mpr hs;generalize (sizeLine:Int)=z at this ⊢;lia
   ·rw[hf,List.size_toArray,List.length_replicate];lia
   ·rw[hf];refine⟨.ref _,_,I.laid (t':=s.toks) (o:=.tup (List.replicate k.toNat w)) (λ b ob z=>Heap.get?_push_of_some _ z) (Nat.le_refl _) ?_,rfl,q2 K8 _ (I.dW.fresh (Nat.le_refl _))⟩;exact⟨by rw[List.length_replicate];lia,_,xI rx k.toNat,IsTup.new _ _⟩
theorem zx(ha:DW X a fa)(hb:DW X b fb):DE X (.BinOp a .Mult b pos) (Z.eB Z.AO fa fb):=PE.imp (Dj Ja ha hb) λ σ H Q ⟨ρ,d,r,e,k⟩=>by
 obtain⟨x,ea,e⟩:=Z.Res.az e;obtain⟨y,eb,e⟩:=Z.Res.az e;obtain⟨d0,n,rfl,rfl,h0,h1,rfl⟩:=Z.Gr e;refine⟨ρ,_,r,ea,λ v H1 s1 d1=>⟨ρ,_,r.up s1,eb,λ u H2 s2 d2=>?_⟩⟩;obtain⟨q,vs,rfl,hq,t⟩:=d1.tup;simp only[aG]at t;obtain⟨w,r',rfl,dw,rfl⟩:=t;refine⟨q,n,w,rfl,d2.int,?_,h0,h1,λ hn=>?_,λ hn p hp=>?_⟩
 ·exact iR (w4 s2) hq
 ·subst hn;exact k _ H2 (s1.trans s2) (g! (iR (w4 s2) hq) (aG.cons (dw.up s2) aG.nil))
 ·have s3:aI H2 (upd H2 p (.tup (List.replicate n.toNat w))):=dQ hp;exact k _ _ ((s1.trans s2).trans s3) (g! (oH.of bV) (wH ((dw.up s2).up s3) _))
end
end ZS
namespace ZQ
open PySem PySem.Spec PyProof.Rows L2 ZS
section
variable {X:Cx}{a b:Expr}{pos:Pos}{fa fb:Z.EF}
theorem zx(ha:QW X a fa)(hb:QW X b fb):QE X (.BinOp a .Mult b pos) (Z.eB Z.AO fa fb):=⟨ZS.zx ha.p hb.p⟩
end
end ZQ
noncomputable section
namespace Z
def M?(c:Nat):List Nat->List (List Nat)
 | []=>[[]]
 | x :: r=>if x=c then[] :: M? c r else match M? c r with
  | []=>[[x]]
  | p :: ps=>(x :: p) :: ps
def Og:D->D->Res (List D)
 | .str cs,.str [c]=>guard (cs.length+2≤line) (.ok ((M? c cs).map .str))
 | _,_=>.bad
def Ml(a b:EF)(ρ:Env):Res (List D):=(a ρ).bind λ x=>(b ρ).bind λ y=>Og x y
def S_:D->D->Res (List D)
 | .tup xs,.lst ys=>.ok (e_ xs ys)
 | _,_=>.bad
def PK(a b:EF)(ρ:Env):Res (List D):=(a ρ).bind λ x=>(b ρ).bind λ y=>S_ x y
@[simp] theorem Sl(a b:EF)(ρ:Env):PK a b ρ=(a ρ).bind λ x=>(b ρ).bind λ y=>S_ x y:=rfl
@[simp] theorem Wl(xs ys:List D):S_ (.tup xs) (.lst ys)=.ok (e_ xs ys):=rfl
@[simp] theorem Pt(a b:EF)(ρ:Env):Ml a b ρ=(a ρ).bind λ x=>(b ρ).bind λ y=>Og x y:=rfl
end Z
end
namespace ZS
open PySem PySem.Spec PyProof.Rows L2
section
variable {prog:Program}{w:World}{A:Around}{E:Value->Shared->Prop}{s:Shared}{x y:Str}{t u:Tok}{Q:Value->Shared->Prop}
end
section
variable {X:Cx}{o a b:Expr}{pos p p2:Pos}{fa fb:Z.EF}{elts:List Expr}{x1:Nat}
end
end ZS
namespace ZQ
open PySem PySem.Spec PyProof.Rows L2 ZS
section
variable {X:Cx}{o a b:Expr}{pos p p2:Pos}{fa fb:Z.EF}{elts:List Expr}{x1:Nat}
end
end ZQ
noncomputable section
namespace Z
def BZ(cs:List Nat):List D:=cs.map λ c=>.str [c]
def Sd:D->Res (List D)
 | .str cs=>guard (cs.length≤line) (.ok (BZ cs))
 | _=>.bad
def Us(a:EF)(ρ:Env):Res (List D):=(a ρ).bind Sd
@[simp] theorem Ur(a:EF)(ρ:Env):Us a ρ=(a ρ).bind Sd:=rfl
@[simp] theorem Po(cs:List Nat):Sd (.str cs)=guard (cs.length≤line) (.ok (BZ cs)):=rfl
def KQ(x:D):Res D:=(Sd x).map D.tup
@[simp] theorem RW(cs:List Nat):KQ (.str cs)=guard (cs.length≤line) (.ok (.tup (BZ cs))):=by unfold KQ;rw[Po];unfold guard;split<;>rfl
end Z
end
namespace ZS
open PySem PySem.Spec PyProof.Rows L2
section
variable {prog:Program}{w:World}{A:Around}{E:Value->Shared->Prop}{s:Shared}{R:Result->Shared->Prop}{x:Str}{t:Tok}
end
section
variable {X:Cx}{a b e:Expr}{pos p2:Pos}{fa fb:Z.EF}
end
end ZS
namespace ZQ
open PySem PySem.Spec PyProof.Rows L2 ZS
section
variable {X:Cx}{a b e:Expr}{pos p2:Pos}{fa fb:Z.EF}
end
end ZQ
namespace PySem
namespace F
end F
namespace F
end F
def Heap.BH(h:Heap)(a t:Addr)(i:Int):Prop:=∃o,h.get? a=some o∧o.cls=.type "reversed" ∧ o.data=.fields #[.ref t,rawInt i]
theorem Heap.BH.typeIs{s:Shared}{a l:Addr}{i:Int}(x:s.heap.BH a l i):s.TypeIs (.ref a) "reversed" := let ⟨o,ho,hc,_⟩:=x;⟨o,ho,hc⟩
theorem Heap.BH.at{h h':Heap}{a l:Addr}{i:Int}(x:h.BH a l i)(e:∀o,h.get? a=some o->h'.get? a=some o):h'.BH a l i:=let ⟨o,ho,r⟩:=x;⟨o,e _ ho,r⟩
section
variable {prog:Program}{w:World}{A:Around}{E:Value->Shared->Prop}{s:Shared}
end
end PySem
noncomputable section
namespace Z
def RP:D->Res (List D)
 | .tup xs=>.ok xs.reverse
 | .lst xs=>.ok xs.reverse
 | _=>.bad
def Pu(a:EF)(ρ:Env):Res (List D):=(a ρ).bind RP
@[simp] theorem Se(a:EF)(ρ:Env):Pu a ρ=(a ρ).bind RP:=rfl
@[simp] theorem RN(xs:List D):RP (.tup xs)=.ok xs.reverse:=rfl
@[simp] theorem RO(xs:List D):RP (.lst xs)=.ok xs.reverse:=rfl
end Z
end
namespace PySem
section
variable {prog:Program}{w:World}{A:Around}{s:Shared}{R:Result->Shared->Prop}
variable {I:Addr}{fp wr:List Addr}{G:Array GenState->Array GenState->Prop}{n:Nat}{P:Nat->Value->Prop}{St:Nat->Shared->Prop}
end
section
variable {prog:Program}{w:World}{A:Around}{E:Value->Shared->Prop}{s:Shared}{I t:Addr}{items:Array Value}{Q:Value->Shared->Prop}
end
end PySem
namespace ZS
open PySem PySem.Spec PyProof.Rows L2
section
variable {X:Cx}{a:Expr}{pos p p1 p2:Pos}{fa:Z.EF}
end
end ZS
namespace ZQ
open PySem PySem.Spec PyProof.Rows L2 ZS
section
variable {X:Cx}{a:Expr}{pos p p1 p2:Pos}{fa:Z.EF}
end
end ZQ
noncomputable section
namespace Z
def Rp(x:D):Option (Option L)->Res (List D)
 | some (some (.bor ys))=>match x with
  | .tup xs=>.ok (e_ xs ys)
  | _=>.bad
 | some (some (.val (.tup ys)))=>match x with
  | .tup xs=>.ok (e_ xs ys)
  | _=>.bad
 | _=>.bad
def PL(a:EF)(i:Nat)(ρ:Env):Res (List D):=(a ρ).bind λ x=>Rp x ρ[i]?
@[simp] theorem Sm(a:EF)(i:Nat)(ρ:Env):PL a i ρ=(a ρ).bind λ x=>Rp x ρ[i]?:=rfl
@[simp] theorem Ro(xs ys:List D):Rp (.tup xs) (some (some (.bor ys)))=.ok (e_ xs ys):=rfl
@[simp] theorem Rn(xs ys:List D):Rp (.tup xs) (some (some (.val (.tup ys))))=.ok (e_ xs ys):=rfl
end Z
end
namespace ZS
open PySem PySem.Spec PyProof.Rows L2
theorem VZ{fd:FuncData}{ps:List Str}(h:∀a0:Value,bindArgs fd ⟨[a0],[]⟩=pure (ps.zip [a0])):∀us:List Value,us.length=1->bindArgs fd ⟨us,[]⟩=pure (ps.zip us)
 | [a0],_=>h a0
theorem yn{fd:FuncData}{ps:List Str}(h:∀a0 a1:Value,bindArgs fd ⟨[a0,a1],[]⟩=pure (ps.zip [a0,a1])):∀us:List Value,us.length=2->bindArgs fd ⟨us,[]⟩=pure (ps.zip us)
 | [a0,a1],_=>h a0 a1
theorem CZ{fd:FuncData}{ps:List Str}(h:∀a0 a1 a2:Value,bindArgs fd ⟨[a0,a1,a2],[]⟩=pure (ps.zip [a0,a1,a2])):∀us:List Value,us.length=3->bindArgs fd ⟨us,[]⟩=pure (ps.zip us)
 | [a0,a1,a2],_=>h a0 a1 a2
theorem FE{fd:FuncData}{ps:List Str}(h:∀a0 a1 a2 a3:Value,bindArgs fd ⟨[a0,a1,a2,a3],[]⟩=pure (ps.zip [a0,a1,a2,a3])):∀us:List Value,us.length=4->bindArgs fd ⟨us,[]⟩=pure (ps.zip us)
 | [a0,a1,a2,a3],_=>h a0 a1 a2 a3
theorem XE{fd:FuncData}{ps:List Str}(h:∀a0 a1 a2 a3 a4:Value,bindArgs fd ⟨[a0,a1,a2,a3,a4],[]⟩=pure (ps.zip [a0,a1,a2,a3,a4])):∀us:List Value,us.length=5->bindArgs fd ⟨us,[]⟩=pure (ps.zip us)
 | [a0,a1,a2,a3,a4],_=>h a0 a1 a2 a3 a4
theorem bd6{fd:FuncData}{ps:List Str}(h:∀a0 a1 a2 a3 a4 a5:Value,bindArgs fd ⟨[a0,a1,a2,a3,a4,a5],[]⟩=pure (ps.zip [a0,a1,a2,a3,a4,a5])):∀us:List Value,us.length=6->bindArgs fd ⟨us,[]⟩=pure (ps.zip us)
 | [a0,a1,a2,a3,a4,a5],_=>h a0 a1 a2 a3 a4 a5
def V7(H0 H1:Hp):Hp->Prop:=λ H2=>oG H1 H2∧aI H0 H2
def X5(K:PySem.W.Frag)(H0:Hp)(f:Z.LF):TI:=λ σ H R=>∃ρ ds,RS K H0 H σ ρ∧f ρ=.ok ds∧∀J H',aI H H'->D? K J (V7 H0 H') ds->R J H'
abbrev DK(X:Cx)(H0:Hp)(tg e:Expr)(f:Z.LF):Prop:=PI X tg e (X5 X.K H0 f)
theorem Gives.imp{K:PySem.W.Frag}{J:Lk}{S S':Hp->Prop}{ds:List Z.D}(h:Gives K J S ds)(k:∀H,S' H->S H):Gives K J S' ds :=
 ⟨λ i d H1 s=>h.at_ i d H1 (k _ s),λ H1 s=>h.end_ H1 (k _ s)⟩
section
variable {X:Cx}{H0:Hp}{tg a b:Expr}{pos p p2:Pos}{fa:Z.EF}{elts:List Expr}{x1:Nat}{g:Z.SF}
end
end ZS
namespace ZQ
open PySem PySem.Spec PyProof.Rows L2 ZS
structure QK(X:Cx)(H0:Hp)(tg e:Expr)(f:Z.LF):Prop where p:DK X H0 tg e f
section
variable {X:Cx}{H0:Hp}{tg a b:Expr}{pos p p2:Pos}{fa:Z.EF}{elts:List Expr}{x1:Nat}{g:Z.SF}
end
end ZQ
noncomputable section
namespace Z
def AS:D->D->Res D
 | .int a,.int b=>.ok (.int (a+b))
 | _,_=>.bad
@[simp] theorem Nz(a b:Int):AS (.int a) (.int b)=.ok (.int (a+b)):=rfl
def EA(c:Bool):D->Res D
 | .bl b=>.ok (.bl (b==c))
 | _=>.bad
@[simp] theorem R5(c b:Bool):EA c (.bl b)=.ok (.bl (b==c)):=rfl
def O3(c:Bool):D->Res D
 | .bl b=>.ok (.bl (b != c))
 | _=>.bad
@[simp] theorem O2(c b:Bool):O3 c (.bl b)=.ok (.bl (b != c)):=rfl
def v3:List D->Option (List Int)
 | []=>some []
 | .int i :: r=>(v3 r).map (i :: ·)
 | _ :: _=>none
theorem vZ:∀{ds:List D}{ns:List Int},v3 ds=some ns->ds=ns.map .int
 | [],ns,h=>by cases h;rfl
 | d :: r,ns,h=>by
  cases d with
  | int i =>obtain⟨ms,e,rfl⟩:=Option.map_eq_some_iff.mp (show(v3 r).map (i :: ·)=some ns from h);rw[vZ e];rfl
  | non=>cases h
  | bl _=>cases h
  | str _=>cases h
  | tup _=>cases h
  | lst _=>cases h
  | dct _ _=>cases h
@[simp] theorem sA:∀ns:List Int,v3 (ns.map .int)=some ns
 | []=>rfl
 | n :: ns=>by show(v3 (ns.map .int)).map (n :: ·)=_;rw[sA ns];rfl
def EI(k:Int):List Int->Int
 | []=>k
 | n :: ns=>ns.foldl max n
theorem fold_max: ∀(ns : List Int)(n : Int), n ≤ ns.foldl max n ∧ (∀m ∈ ns, m ≤ ns.foldl max n) ∧ (ns.foldl max n = n ∨ ns.foldl max n ∈ ns)
 | [],n=>⟨Int.le_refl _,by simp,.inl rfl⟩
 | m :: ns,n=>by
  obtain⟨a,b,c⟩:=fold_max ns (max n m);rw[List.foldl_cons];refine⟨by lia,λ x hx=>?_,?_⟩
  ·rcases List.mem_cons.mp hx with rfl | hx
   ·lia
   ·exact b x hx
  ·rcases c with c | c
   ·rw[c];by_cases h:n≤m
    ·rw[show max n m=m by lia];exact .inr List.mem_cons_self
    ·rw[show max n m=n by lia];exact .inl rfl
   ·exact .inr (List.mem_cons_of_mem _ c)
theorem Cf{k M:Int}{ns:List Int}(h:M∈ns)(g:∀m∈ns,m≤M):EI k ns=M:=by
 cases ns with
 | nil=>cases h
 | cons n ns =>
  obtain⟨a,b,c⟩:=fold_max ns n;show ns.foldl max n=M;have h1:M≤ns.foldl max n:=by
   rcases List.mem_cons.mp h with rfl | h
   ·exact a
   ·exact b M h
  have h2:ns.foldl max n≤M:=by
   rcases c with c | c
   ·rw[c];exact g n List.mem_cons_self
   ·exact g _ (List.mem_cons_of_mem _ c)
  lia
def vH:D->D->Res D
 | .lst ds,.int k=>match v3 ds with
  | some ns=>.ok (.int (EI k ns))
  | none=>.bad
 | _,_=>.bad
theorem Jm(k:Int)(ns:List Int):vH (.lst (ns.map .int)) (.int k)=.ok (.int (EI k ns)):=by unfold vH;simp only[sA]
theorem Gu{x y d:D}(h:vH x y=.ok d):∃ns k,x=.lst (ns.map .int)∧y=.int k∧d=.int (EI k ns):=by
 unfold vH at h;split at h
 ·split at h
  ·rename_i ns e;cases h;exact⟨ns,_,by rw[vZ e],rfl,rfl⟩
  ·cases h
 ·cases h
end Z
end
noncomputable section
namespace Z
def t!:D->Res D
 | .lst ds=>match v3 ds with
  | some (n :: ns)=>.ok (.int (ns.foldl max n))
  | _=>.bad
 | _=>.bad
theorem Jn(n:Int)(ns:List Int):t! (.lst ((n :: ns).map .int))=.ok (.int (ns.foldl max n)):=by unfold t!;simp only[sA]
theorem Gv{x d:D}(h:t! x=.ok d):∃n ns,x=.lst ((n :: ns).map .int)∧d=.int (EI 0 (n :: ns)):=by
 unfold t! at h;split at h
 ·split at h
  ·rename_i n ns e;cases h;exact⟨n,ns,by rw[vZ e],rfl⟩
  ·cases h
 ·cases h
end Z
end
namespace ZS
open PySem PySem.Spec PyProof.Rows L2
section
variable {X:Cx}{H0:Hp}{pos:Pos}
theorem QN{i:Nat}{ρ:Z.Env}{d:Z.D}(h:Z.eV i ρ=.ok d):ρ[i]?=some (some (.val d)):=by
 unfold Z.eV at h;split at h
 ·rename_i e;cases h;exact e
 ·cases h
theorem Hv{i:Nat}{x:Str}{a:Expr}{fa:Z.EF}{pos':Pos}{op:Operator}{r:R2}{o:Z.D->Z.D->Z.Res Z.D}(hN:X.N.Nodup)(hi:X.N[i]?=some x)(hx:Loc X.env.scope x)(hr:kI X (inplaceOp op) r)(hz:D' X.K r o)(he:DE X a fa)(hf:X.fn x=true∨X.env.scope.names.lookup x=some .local):
  DS X H0 (.AugAssign (.Name x pos') op a pos) (Z.aM i (Z.eB o (Z.eV i) fa)):=PS.imp (LN hN hi hx he hr hf) λ D σ H ⟨ρ,fl,rs,e,k⟩=>by
 obtain⟨d,ea,e⟩:=Z.Res.az e;cases e;obtain⟨dx,e1,ea⟩:=Z.Res.az ea;obtain⟨dy,e2,ea⟩:=Z.Res.az ea;obtain⟨v,si,dv⟩:=rs.re.get i _ (QN e1);refine⟨v,si,ρ,dy,rs.re,e2,λ y H1 s1 Z1=>?_⟩;exact hz v y dx dy d H1 _ (.inl (Den.up dv s1)) (.inl Z1) ea λ z H2 s2 dz=>k _ H2 (w4 (s1.trans s2)) ((rs.up (s1.trans s2)).IJ dz)
theorem GZ:kI X (inplaceOp .Mult) (rI HP λ i j=>.int (i*j)):=OT λ _ _ _ _ _ _ _ hc q=>imul_int q hc
theorem LY{K:PySem.W.Frag}:D' K (rI HP λ i j=>.int (i*j)) Z.gy:=qX λ dx dy d e=>by
 unfold Z.gy at e;split at e
 ·unfold Z.guard at e;split at e
  ·rename_i h;cases e;exact⟨_,_,rfl,rfl,vS h,rfl⟩
  ·cases e
 ·cases e
theorem I?{K:PySem.W.Frag}:D' K (F9 λ i j=>.int (i+j)) Z.AS:=n8 (gd:=λ i j=>.int (i+j)) (λ dx dy d e=>by
 unfold Z.AS at e;split at e
 ·cases e;exact⟨_,_,rfl,rfl,rfl⟩
 ·cases e) λ _ _ _=>c7
end
end ZS
namespace ZQ
open PySem PySem.Spec PyProof.Rows L2 ZS
section
variable {X:Cx}{H0:Hp}{pos:Pos}
theorem Kb{i:Nat}{x:Str}{a:Expr}{fa:Z.EF}{pos':Pos}(hN:X.N.Nodup)(hi:X.N[i]?=some x)(hx:Loc X.env.scope x)(he:QE X a fa)(hf:X.fn x=true∨X.env.scope.names.lookup x=some .local:=by first | exact .inl rfl | exact .inr rfl | assumption):
  QS X H0 (.AugAssign (.Name x pos') .Mult a pos) (Z.aM i (Z.eB Z.gy (Z.eV i) fa)):=⟨ZS.Hv hN hi hx GZ LY he.p hf⟩
theorem Kc{i:Nat}{x:Str}{a:Expr}{fa:Z.EF}{pos':Pos}(hN:X.N.Nodup)(hi:X.N[i]?=some x)(hx:Loc X.env.scope x)(he:QE X a fa)(hf:X.fn x=true∨X.env.scope.names.lookup x=some .local:=by first | exact .inl rfl | exact .inr rfl | assumption):
  QS X H0 (.AugAssign (.Name x pos') .Add a pos) (Z.aM i (Z.eB Z.AS (Z.eV i) fa)):=⟨ZS.Hv hN hi hx JP I? he.p hf⟩
end
end ZQ
namespace Q_
open PySem PySem.Spec PyProof.Rows
section
variable {prog:Program}{w:World}{A:Around}{R:Result->Shared->Prop}{I S:Addr}{fp wr:List Addr}{n:Nat}{P:Nat->Value->Prop}{St:Nat->Heap->Prop}
abbrev two(b:Value)(c:Nat):Obj:={ cls:=.type "list",data:=.seq #[b,b] c }
abbrev lp(I S:Addr)(kw:List (Str×Value)):Code:=.builtin "max.loop" ⟨[.ref I,.none,.ref S],kw⟩
theorem nm:(toString "max" ++ toString ".loop" : String) = "max.loop" := by decide
theorem go(W:Walks prog w A.in1 I fp wr n P St){bt:Nat->Nat->Bool}(hc:CmpOf prog w A.in1 .Gt P bt)(out:S∉fp)(kw:List (Str×Value)):
  ∀(k j:Nat)(s:Shared)(b:Value)(c:Nat),n=j+1+k->St (j+1) s.heap->P (argBest bt j) b->s.heap.get? S=some (two b c) ->
   (∀v h' tk,P (argBest bt (n-1)) v->(∀a o,a≠S->a∉wr->s.heap.get? a=some o->h'.get? a=some o)->R (.ok (.ret v)) { s with heap:=h',toks:=tk }) ->
   codeAny (model prog w) A (lp I S kw) R s:=by
 have ow:S∉wr:=λ z=>out (W.sub S z);have I_:∀{h:Heap}{a:Addr}{o:Obj}(f:Obj->Obj),a≠S->h.get? a=some o->(h.update S f).get? a=some o:=λ f ne e=>(Heap.get?_update_other _ _ (Ne.symm ne)).trans e;intro k
 induction k with
 | zero =>intro j s b c hn st pb gS fin;refine codeAny_builtin PySem.F.entry_max_loop ?_;rw[Around.under_plainId PySem.F.plain_max_loop (⟨[.ref I,.none,.ref S],kw⟩)];show wpAny (model prog w) A.in1 (seqItems? (.ref S) >>= _) _ _ s;refine wpAny_bind (wpAny_seqItems gS rfl (wpAny_bind (wpAny_tryCatch (W.done s _ _ (by rw[hn];exact st) λ h1 t1 k1=>?_))));have g1:=k1 S _ ow gS;show wpAny (model prog w) A.in1 (updateSeq S (λ _=>#[]) >>= _) _ _ _;refine wpAny_bind (wpAny_updateSeq g1 rfl (wpAny_bind (wpAny_letGo (wpAny_pure ?_))));refine fin b _ t1 (by rw[hn];exact pb) λ a o ne nw e=>I_ _ ne (k1 a o nw e)
 | succ k ih =>
  intro j s b c hn st pb gS fin;refine codeAny_builtin PySem.F.entry_max_loop ?_;rw[Around.under_plainId PySem.F.plain_max_loop (⟨[.ref I,.none,.ref S],kw⟩)];show wpAny (model prog w) A.in1 (seqItems? (.ref S) >>= _) _ _ s;refine wpAny_bind (wpAny_seqItems gS rfl (wpAny_bind (wpAny_tryCatch (W.item (j+1) s _ _ (by lia) st λ v h1 t1 pv z5 k1=>?_))));have g1:=k1 S _ ow gS;refine wpAny_bind (wpAny_pure ?_);show wpAny (model prog w) A.in1 (tryCatch (holding [v,v] (richCompare .Gt v b >>= _)) _ >>= _) _ _ _;refine wpAny_bind (wpAny_tryCatch (wpAny_holding (wpAny_bind (hc (j+1) (argBest bt j) v b _ _ _ pv pb (wpAny_bind (wpAny_holding (wpAny_truthy_bool (wpAny_bind (wpAny_letGo (wpAny_pure ?_))))))))));have vc:∀(f:Obj->Obj),St (j+1+1) (h1.update S f):=λ f=>W.frame _ _ _ z5 λ a ha o e=>I_ f (λ z=>out (z▸ha)) e;cases q:bt (j+1) (argBest bt j)with
  | true =>simp only[if_true];refine wpAny_bind (wpAny_updateSeq g1 rfl (wpAny_bind (wpAny_letGo ?_)));rw[nm];refine wpAny_pure ⟨plainId_quiet PySem.F.plain_max_loop _,ih (j+1) _ v _ (by lia) (vc _) (by simp only[argBest,q,if_true];exact pv) (Heap.get?_update_self _ g1 rfl) λ v' h2 t2 LI k2=>?_⟩;exact fin v' h2 t2 LI λ a o ne nw e=>k2 a o ne nw (I_ _ ne (k1 a o nw e))
  | false =>simp only[Bool.false_eq_true,if_false];refine wpAny_bind (wpAny_letGo ?_);rw[nm];refine wpAny_pure ⟨plainId_quiet PySem.F.plain_max_loop _,ih (j+1) _ b c (by lia) z5 (by simp only[argBest,q,Bool.false_eq_true,if_false];exact pb) g1 λ v' h2 t2 LI k2=>?_⟩;exact fin v' h2 t2 LI λ a o ne nw e=>k2 a o ne nw (k1 a o nw e)
theorem first(W:Walks prog w A.in1 I fp wr n P St){bt:Nat->Nat->Bool}(hc:CmpOf prog w A.in1 .Gt P bt)(out:S∉fp){x:Str}{d:Value}{s:Shared}{c:Nat}(st:St 0 s.heap)(gS:s.heap.get? S=some { cls:=.type "list",data:=.seq #[] c })
  (none_:n=0->∀h' tk,(∀a o,a≠S->a∉wr->s.heap.get? a=some o->h'.get? a=some o)->R (.ok (.ret d)) { s with heap:=h',toks:=tk })
  (fin:0 < n->∀v h' tk,P (argBest bt (n-1)) v->(∀a o,a≠S->a∉wr->s.heap.get? a=some o->h'.get? a=some o)->R (.ok (.ret v)) { s with heap:=h',toks:=tk }) :
  codeAny (model prog w) A (lp I S [(x,d)]) R s:=by
 have ow:S∉wr:=λ z=>out (W.sub S z);have I_:∀{h:Heap}{a:Addr}{o:Obj}(f:Obj->Obj),a≠S->h.get? a=some o->(h.update S f).get? a=some o:=λ f ne e=>(Heap.get?_update_other _ _ (Ne.symm ne)).trans e;refine codeAny_builtin PySem.F.entry_max_loop ?_;rw[Around.under_plainId PySem.F.plain_max_loop (⟨[.ref I,.none,.ref S],[(x,d)]⟩)];show wpAny (model prog w) A.in1 (seqItems? (.ref S) >>= _) _ _ s;by_cases h0:n=0
 ·subst h0;refine wpAny_bind (wpAny_seqItems gS rfl (wpAny_bind (wpAny_tryCatch (W.done s _ _ st λ h1 t1 k1=>?_))));refine wpAny_bind (wpAny_rule (wpAny_pure ?_));exact none_ rfl h1 t1 λ a o _ nw e=>k1 a o nw e
 ·have hp:0 < n:=Nat.pos_of_ne_zero h0;refine wpAny_bind (wpAny_seqItems gS rfl (wpAny_bind (wpAny_tryCatch (W.item 0 s _ _ hp st λ v h1 t1 pv z5 k1=>?_))));have g1:=k1 S _ ow gS;refine wpAny_bind (wpAny_pure ?_);refine wpAny_bind (wpAny_updateSeq g1 rfl ?_);rw[nm];refine wpAny_pure ⟨plainId_quiet PySem.F.plain_max_loop _,go W hc out [(x,d)] (n-1) 0 _ v _ (by lia) (W.frame _ _ _ z5 λ a ha o e=>I_ _ (λ z=>out (z▸ha)) e) pv (Heap.get?_update_self _ g1 rfl) λ v' h2 t2 LI k2=>?_⟩;exact fin hp v' h2 t2 LI λ a o ne nw e=>k2 a o ne nw (I_ _ ne (k1 a o nw e))
theorem args(a d:Value):argsOk "max" ⟨[a],[(Str.ofString "default",d)]⟩:=by unfold argsOk;kernel_rfl
theorem binds(d:Value):Builtin.Builtins.bindParams "max" ["key", "default"] 0 ⟨[],[(Str.ofString "default",d)]⟩=pure [none,some d]:=by kernel_rfl
theorem call{x d:Value}{Q:Value->Shared->Prop}{E:Value->Shared->Prop}{s:Shared}
  (h:wpAny (model prog w) A.in1 (pyIter x) (λ it s2=>∃ I fp wr n P St bt,it=.ref I∧Walks prog w A.in1 I fp wr n P St∧St 0 s2.heap∧(∀ b∈fp,b < s2.heap.objs.size)∧CmpOf prog w A.in1 .Gt P bt ∧
   (n=0->∀h' tk,(∀a o,a∉wr->s2.heap.get? a=some o->h'.get? a=some o)->Q d { s2 with heap:=h',toks:=tk }) ∧
   (0 < n->∀v h' tk,P (argBest bt (n-1)) v->(∀a o,a∉wr->s2.heap.get? a=some o->h'.get? a=some o)->Q v { s2 with heap:=h',toks:=tk })) E s) :
  wpAny (model prog w) A (PySem.call (.builtin "max") [x] [(Str.ofString "default",d)]) Q E s:=by
 refine kmk_tree PySem.F.kind_max PySem.F.plain_max PySem.F.entry_max (args x d) ?_;show wpAny (model prog w) A.in1 (Builtin.Builtins.bindParams "max" ["key", "default"] 0 ⟨[],[(Str.ofString "default",d)]⟩ >>= _) _ _ s;rw[binds];refine wpAny_bind (wpAny_pure (wpAny_bind (wpAny_pure (wpAny_bind (wpAny_mono h (λ it s2 q=>?_) λ _ _ e=>e)))));obtain⟨I,fp,wr,n,P,St,bt,rfl,W,st,lt,hc,q0,q1⟩:=q;refine wpAny_bind (wpAny_newObj_type ?_);have out:s2.heap.objs.size∉fp:=λ z=>Nat.lt_irrefl _ (lt _ z);have keep:∀{h':Heap},(∀a o,a≠s2.heap.objs.size->a∉wr->(s2.heap.push { cls:=.type "list",data:=.seq #[] }).get? a=some o->h'.get? a=some o)->∀a o,a∉wr->s2.heap.get? a=some o->h'.get? a=some o :=
  λ k a o nw e=>k a o (Nat.ne_of_lt (Heap.lt_size e)) nw (Heap.get?_push_of_some _ e)
 rw[nm];refine wpAny_pure ⟨plainId_quiet PySem.F.plain_max_loop _,first W hc out (W.frame _ _ _ st λ a _ o e=>Heap.get?_push_of_some _ e) (Heap.get?_push_size _ rfl) (λ z h' tk k=>q0 z h' tk (keep k)) λ z v h' tk pv k=>q1 z v h' tk pv (keep k)⟩
end
end Q_
namespace Q_
open PySem PySem.Spec PyProof.Rows
section
variable {prog:Program}{w:World}{A:Around}{R:Result->Shared->Prop}{I S:Addr}{fp wr:List Addr}{n:Nat}{P:Nat->Value->Prop}{St:Nat->Heap->Prop}
theorem M0(W:Walks prog w A.in1 I fp wr n P St){bt:Nat->Nat->Bool}(hc:CmpOf prog w A.in1 .Gt P bt)(out:S∉fp){s:Shared}{c:Nat}(hp:0 < n)(st:St 0 s.heap)(gS:s.heap.get? S=some { cls:=.type "list",data:=.seq #[] c })
  (fin:∀v h' tk,P (argBest bt (n-1)) v->(∀a o,a≠S->a∉wr->s.heap.get? a=some o->h'.get? a=some o)->R (.ok (.ret v)) { s with heap:=h',toks:=tk }) :
  codeAny (model prog w) A (lp I S []) R s:=by
 have ow:S∉wr:=λ z=>out (W.sub S z);have I_:∀{h:Heap}{a:Addr}{o:Obj}(f:Obj->Obj),a≠S->h.get? a=some o->(h.update S f).get? a=some o:=λ f ne e=>(Heap.get?_update_other _ _ (Ne.symm ne)).trans e;refine codeAny_builtin PySem.F.entry_max_loop ?_;rw[Around.under_plainId PySem.F.plain_max_loop (⟨[.ref I,.none,.ref S],[]⟩)];show wpAny (model prog w) A.in1 (seqItems? (.ref S) >>= _) _ _ s;refine wpAny_bind (wpAny_seqItems gS rfl (wpAny_bind (wpAny_tryCatch (W.item 0 s _ _ hp st λ v h1 t1 pv z5 k1=>?_))));have g1:=k1 S _ ow gS;refine wpAny_bind (wpAny_pure ?_);refine wpAny_bind (wpAny_updateSeq g1 rfl ?_);rw[nm];refine wpAny_pure ⟨plainId_quiet PySem.F.plain_max_loop _,go W hc out [] (n-1) 0 _ v _ (by lia) (W.frame _ _ _ z5 λ a ha o e=>I_ _ (λ z=>out (z▸ha)) e) pv (Heap.get?_update_self _ g1 rfl) λ v' h2 t2 LI k2=>?_⟩;exact fin v' h2 t2 LI λ a o ne nw e=>k2 a o ne nw (I_ _ ne (k1 a o nw e))
theorem Q7(a:Value):argsOk "max" ⟨[a],[]⟩:=by unfold argsOk;kernel_rfl
theorem Nf:Builtin.Builtins.bindParams "max" ["key", "default"] 0 ⟨[],[]⟩=pure [none,none]:=by kernel_rfl
theorem QU{x:Value}{Q:Value->Shared->Prop}{E:Value->Shared->Prop}{s:Shared}
  (h:wpAny (model prog w) A.in1 (pyIter x) (λ it s2=>∃ I fp wr n P St bt,it=.ref I∧Walks prog w A.in1 I fp wr n P St∧St 0 s2.heap∧(∀ b∈fp,b < s2.heap.objs.size)∧CmpOf prog w A.in1 .Gt P bt∧0 < n ∧
   (∀v h' tk,P (argBest bt (n-1)) v->(∀a o,a∉wr->s2.heap.get? a=some o->h'.get? a=some o)->Q v { s2 with heap:=h',toks:=tk })) E s) :
  wpAny (model prog w) A (PySem.call (.builtin "max") [x] []) Q E s:=by
 refine kmk_tree PySem.F.kind_max PySem.F.plain_max PySem.F.entry_max (Q7 x) ?_;show wpAny (model prog w) A.in1 (Builtin.Builtins.bindParams "max" ["key", "default"] 0 ⟨[],[]⟩ >>= _) _ _ s;rw[Nf];refine wpAny_bind (wpAny_pure (wpAny_bind (wpAny_pure (wpAny_bind (wpAny_mono h (λ it s2 q=>?_) λ _ _ e=>e)))));obtain⟨I,fp,wr,n,P,St,bt,rfl,W,st,lt,hc,hp,q1⟩:=q;refine wpAny_bind (wpAny_newObj_type ?_);have out:s2.heap.objs.size∉fp:=λ z=>Nat.lt_irrefl _ (lt _ z);have keep:∀{h':Heap},(∀a o,a≠s2.heap.objs.size->a∉wr->(s2.heap.push { cls:=.type "list",data:=.seq #[] }).get? a=some o->h'.get? a=some o)->∀a o,a∉wr->s2.heap.get? a=some o->h'.get? a=some o :=
  λ k a o nw e=>k a o (Nat.ne_of_lt (Heap.lt_size e)) nw (Heap.get?_push_of_some _ e)
 rw[nm];refine wpAny_pure ⟨plainId_quiet PySem.F.plain_max_loop _,M0 W hc out hp (W.frame _ _ _ st λ a _ o e=>Heap.get?_push_of_some _ e) (Heap.get?_push_size _ rfl) λ v h' tk pv k=>q1 v h' tk pv (keep k)⟩
end
end Q_
namespace ZS
open PySem PySem.Spec PyProof.Rows L2
section
variable {X:Cx}{a c:Expr}{fa fc:Z.EF}{pos:Pos}
theorem Jt(hcalm:X.calm=true){pins:List (Addr×Obj)}{s:Shared}{σ:St}{H:Hp}{q:Addr}{ns:List Int}{k:Int}{t:Tok}{Q:VK}(I:Inv X pins σ H s)(hq:i? X.K H q (ns.map V.int))(w:Q (.int (Z.EI k ns)) H):
  wpAny (model X.prog X.w) X.A (call (.builtin "max") [.ref q] [(Str.ofString "default",.int k t)]) (EP X pins σ Q) X.xe s:=by
 obtain⟨aY,rv,pl,hz⟩:=I.list hq;have hl:=rv.length;rw[List.length_map]at hl;have l4:q < s.heap.objs.size:=by obtain⟨_,e,_⟩:=pl.isList;exact Heap.lt_size e
 have hh:X.A.in1.handled=none:=I.ok.hd hcalm;have item:∀(i:Nat) v,aY.toArray[i]?=some v->∃u,v=Value.int (ns[i]?.getD 0) u:=by
  intro i v hv;have hi:aY[i]?=some v:=by simpa using hv
  obtain⟨Qb,_⟩:=List.getElem?_eq_some_iff.mp hi;have hb:(ns.map V.int)[i]?=some (V.int (ns[i]'(by lia))):=by rw[List.getElem?_map,List.getElem?_eq_getElem (by lia)];rfl
  obtain⟨u,hu,ru⟩:=rv.get hb;rw[hi]at hu;cases hu;obtain⟨u,rfl⟩:=ru;exact⟨u,by rw[List.getElem?_eq_getElem (by lia)];rfl⟩
 have I1:Inv X pins σ H { s with heap:=s.heap.push { cls:=.type "list_iterator",data:=.fields #[.ref q,.int 0 0] } }:=I.kept (t':=s.toks) λ b o e=>Heap.get?_push_of_some _ e;obtain⟨f0,f1,f2,f3,f4,f5⟩:=I.xr (H':=H) (Nat.le_refl s.heap.objs.size) I.fresh;have I2:∀(h':Heap) (tk:Nat),(∀b o,b∉[s.heap.objs.size]->(s.heap.push { cls:=.type "list_iterator",data:=.fields #[.ref q,.int 0 0] }).get? b=some o->h'.get? b=some o)->Inv X pins σ H { s with heap:=h',toks:=tk }:=λ h' tk hk=>by have z:=I1.turned (h':=h') (t':=tk) (it:=s.heap.objs.size) (λ b o hb e=>hk b o (by simpa using hb) e) f0 f1 f3 f4 f5;exact z
 refine Q_.call (wpAny_pyIter_list pl.isList ?_);refine⟨s.heap.objs.size,[s.heap.objs.size,q],[s.heap.objs.size],aY.toArray.size,_,_,λ i j=>decide (ns[i]?.getD 0 > ns[j]?.getD 0),rfl,Walks.list hh s.heap.objs.size q (Nat.ne_of_lt l4) aY.toArray,⟨⟨_,Heap.get?_push_size _ rfl,rfl,rfl⟩,pl.isList.push _⟩,?_,CmpOf.ints_gt (λ i=>ns[i]?.getD 0) item,λ h0 h' tk hk=>?_,λ hp v h' tk hv hk=>?_⟩
 ·intro b hb;show b < (s.heap.push _).objs.size;rw[Heap.size_push];rcases List.mem_cons.mp hb with rfl | hb
  ·exact Nat.lt_succ_self _
  ·rw[List.mem_singleton.mp hb];exact Nat.lt_succ_of_lt l4
 ·refine⟨.int k,H,I2 h' tk hk,⟨t,rfl⟩,?_⟩;have:ns=[]:=by rw[List.size_toArray]at h0;exact List.length_eq_zero_iff.mp (by lia)
  subst this;exact w
 ·obtain⟨u,rfl⟩:=item _ _ hv;obtain⟨b1,b2⟩:=argBest_gt (λ i=>ns[i]?.getD 0) (aY.toArray.size-1);rw[List.size_toArray]at hp;have hM:ns[argBest (λ i j=>decide (ns[i]?.getD 0 > ns[j]?.getD 0)) (aY.toArray.size-1)]?.getD 0=Z.EI k ns:=by
   refine(Z.Cf ?_ λ m hm=>?_).symm
   ·rw[List.size_toArray]at b1 ⊢;rw[List.getElem?_eq_getElem (by lia)];exact List.getElem_mem _
   ·obtain⟨j,hj,rfl⟩:=List.getElem_of_mem hm;have:=b2 j (by rw[List.size_toArray];lia);rw[List.getElem?_eq_getElem hj]at this;exact this
  refine⟨.int (Z.EI k ns),H,I2 h' tk hk,⟨u,by rw[hM]⟩,w⟩
theorem zC{x:Str}{p1 kp:Pos}(hg:Gl X x)(hm:X.mg x=none)(hv:bootBuiltins x=some (.builtin "max"))(ha:DW X a fa)(hb:DE X c fc)(hc:X.calm=true:=by rfl)(hn:x ≠ "__name__" := by decide +kernel)(hdb:(x==("__debug__" : Str))=false:=by decide +kernel)
  (he:starEach (a :: []) X.env=(false,eval a X.env) :: starEach [] X.env:=by rfl) (G!:backTo pos (starEach (a :: []) X.env)=(false,eval a X.env) :: backTo pos (starEach [] X.env):=by rfl) (hpl:(backTo pos (starEach (a :: []) X.env)).any (·.1)=false:=by rfl) :
  DE X (.Call (.Name x p1) [a] [⟨some (Str.ofString "default"),c,kp⟩] pos) (Z.eB Z.vH fa fc):=by
 intro pins s σ H Q I h;obtain⟨ρ,d,r,e,k⟩:=h;obtain⟨dx,ea,e⟩:=Z.Res.az e;obtain⟨dy,eb,e⟩:=Z.Res.az e;obtain⟨ns,n,rfl,rfl,rfl⟩:=Z.Gu e;refine wpAny_Call_Name_kw (mw I hg hm hv ?_ hn hdb);refine callWith_kw ?_ G! hpl;refine d! (b9 ha dJ he pos pins s σ H (λ vs H1=>∃v,vs=[v]∧aI H H1∧bQ X.K H1 (.lst (ns.map .int)) v) I ⟨ρ,_,r,ea,λ v H1 s1 d1=>⟨v,rfl,s1,d1⟩⟩) λ us s1 ⟨vs,H1,I1,r1,q1⟩=>?_;obtain⟨v,rfl,sm,d1⟩:=q1;obtain⟨u,rfl,ru⟩:=vals1 r1;refine kws_cons (d! (hb pins s1 σ H1 (λ y H2=>aI H1 H2∧y=.int n) I1 ⟨ρ,_,r.up sm,eb,λ y H2 s2 dy=>⟨s2,by simpa only[Den]using dy⟩⟩) λ w s2 ⟨y,H2,I2,r2,q2⟩=>kws_nil ?_);obtain⟨C!,rfl⟩:=q2;obtain⟨t,rfl⟩:=r2;obtain⟨q,vs,rfl,hq,tt⟩:=(d1.up C!).lst;rw[oX tt]at hq;cases ru;exact Jt hc I2 hq (k _ H2 (sm.trans C!) c7)
theorem L4(c:Bool):kI X (compareOp .Is) (λ x y H Q=>∃b,x=.bl b∧y=.bl c∧Q (.bl (b==c)) H):=by intro pins s σ H x y v u Q I rx ry h;obtain⟨b,rfl,rfl,q⟩:=h;cases rx;cases ry;refine wpAny_is_plain rfl ⟨.bl (b==c),H,I,?_,q⟩;cases b<;>cases c<;>rfl
theorem JO{a:Expr}(c:Bool):∀σ H Q,tZ X.K (Z.eU (Z.EA c) fa) σ H Q->Iw (λ x y H Q=>∃b,x=.bl b∧y=.bl c∧Q (.bl (b==c)) H) (HS X.K fa) (tC (.bl c)) σ H Q:=by
 rintro σ H Q ⟨ρ,d,r,e,k⟩;obtain⟨x,ea,e⟩:=Z.Res.az e;refine⟨ρ,x,r,ea,λ v H1 s1 d1=>?_⟩;cases x with
 | bl b=>cases e;exact⟨b,d1.bl,rfl,k _ H1 s1 dt⟩
 | _=>cases e
theorem CO{c:Bool}{j pos'}(ha:DW X a fa):DE X (.Compare a [.Is] [.Constant (.bool c) j pos'] pos) (Z.eU (Z.EA c) fa):=PE.imp (uQ (L4 c) ha Gh (aS _)) (JO (a:=a) c)
end
end ZS
namespace ZQ
open PySem PySem.Spec PyProof.Rows L2 ZS
section
variable {X:Cx}{a c:Expr}{fa fc:Z.EF}{pos:Pos}
theorem zC{x:Str}{p1 kp:Pos}(hg:Gl X x)(hm:X.mg x=none)(hv:bootBuiltins x=some (.builtin "max"))(ha:QW X a fa)(hb:QE X c fc)(hc:X.calm=true:=by rfl)(hn:x ≠ "__name__" := by decide +kernel)(hdb:(x==("__debug__" : Str))=false:=by decide +kernel)
  (he:starEach (a :: []) X.env=(false,eval a X.env) :: starEach [] X.env:=by rfl) (G!:backTo pos (starEach (a :: []) X.env)=(false,eval a X.env) :: backTo pos (starEach [] X.env):=by rfl) (hpl:(backTo pos (starEach (a :: []) X.env)).any (·.1)=false:=by rfl) :
  QE X (.Call (.Name x p1) [a] [⟨some (Str.ofString "default"),c,kp⟩] pos) (Z.eB Z.vH fa fc):=⟨ZS.zC hg hm hv ha.p hb.p hc hn hdb he G! hpl⟩
theorem CO{c:Bool}{j pos'}(ha:QW X a fa):QE X (.Compare a [.Is] [.Constant (.bool c) j pos'] pos) (Z.eU (Z.EA c) fa):=⟨ZS.CO (ha:=ha.p)⟩
end
end ZQ
namespace ZS
open PySem PySem.Spec PyProof.Rows L2
section
variable {X:Cx}{a c:Expr}{fa fc:Z.EF}{pos:Pos}
theorem Fd(hcalm : X.calm = true): kF X (.builtin "max") (λ xs H Q => ∃(q : Addr) (ns : List Int), xs = [.ref q] ∧ i? X.K H q (ns.map V.int) ∧ ns ≠ [] ∧ Q (.int (Z.EI 0 ns)) H) := by
 intro pins s σ H xs us Q I r h;obtain⟨q,ns,rfl,hq,uV,w⟩:=h;obtain⟨u,rfl,ru⟩:=vals1 r;cases ru;obtain⟨aY,rv,pl,hz⟩:=I.list hq;have hl:=rv.length;rw[List.length_map]at hl;have l4:q < s.heap.objs.size:=by obtain⟨_,e,_⟩:=pl.isList;exact Heap.lt_size e
 have hh:X.A.in1.handled=none:=I.ok.hd hcalm;have Fu:0 < ns.length:=List.length_pos_iff.mpr uV;have item:∀(i:Nat) v,aY.toArray[i]?=some v->∃u,v=Value.int (ns[i]?.getD 0) u:=by
  intro i v hv;have hi:aY[i]?=some v:=by simpa using hv
  obtain⟨Qb,_⟩:=List.getElem?_eq_some_iff.mp hi;have hb:(ns.map V.int)[i]?=some (V.int (ns[i]'(by lia))):=by rw[List.getElem?_map,List.getElem?_eq_getElem (by lia)];rfl
  obtain⟨u,hu,ru⟩:=rv.get hb;rw[hi]at hu;cases hu;obtain⟨u,rfl⟩:=ru;exact⟨u,by rw[List.getElem?_eq_getElem (by lia)];rfl⟩
 have I1:Inv X pins σ H { s with heap:=s.heap.push { cls:=.type "list_iterator",data:=.fields #[.ref q,.int 0 0] } }:=I.kept (t':=s.toks) λ b o e=>Heap.get?_push_of_some _ e;obtain⟨f0,f1,f2,f3,f4,f5⟩:=I.xr (H':=H) (Nat.le_refl s.heap.objs.size) I.fresh;have I2:∀(h':Heap) (tk:Nat),(∀b o,b∉[s.heap.objs.size]->(s.heap.push { cls:=.type "list_iterator",data:=.fields #[.ref q,.int 0 0] }).get? b=some o->h'.get? b=some o)->Inv X pins σ H { s with heap:=h',toks:=tk }:=λ h' tk hk=>by have z:=I1.turned (h':=h') (t':=tk) (it:=s.heap.objs.size) (λ b o hb e=>hk b o (by simpa using hb) e) f0 f1 f3 f4 f5;exact z
 refine Q_.QU (wpAny_pyIter_list pl.isList ?_);refine⟨s.heap.objs.size,[s.heap.objs.size,q],[s.heap.objs.size],aY.toArray.size,_,_,λ i j=>decide (ns[i]?.getD 0 > ns[j]?.getD 0),rfl,Walks.list hh s.heap.objs.size q (Nat.ne_of_lt l4) aY.toArray,⟨⟨_,Heap.get?_push_size _ rfl,rfl,rfl⟩,pl.isList.push _⟩,?_,CmpOf.ints_gt (λ i=>ns[i]?.getD 0) item,by rw[List.size_toArray];lia,λ v h' tk hv hk=>?_⟩
 ·intro b hb;show b < (s.heap.push _).objs.size;rw[Heap.size_push];rcases List.mem_cons.mp hb with rfl | hb
  ·exact Nat.lt_succ_self _
  ·rw[List.mem_singleton.mp hb];exact Nat.lt_succ_of_lt l4
 ·obtain⟨u,rfl⟩:=item _ _ hv;obtain⟨b1,b2⟩:=argBest_gt (λ i=>ns[i]?.getD 0) (aY.toArray.size-1);have hM:ns[argBest (λ i j=>decide (ns[i]?.getD 0 > ns[j]?.getD 0)) (aY.toArray.size-1)]?.getD 0=Z.EI 0 ns:=by
   refine(Z.Cf ?_ λ m hm=>?_).symm
   ·rw[List.size_toArray]at b1 ⊢;rw[List.getElem?_eq_getElem (by lia)];exact List.getElem_mem _
   ·obtain⟨j,hj,rfl⟩:=List.getElem_of_mem hm;have:=b2 j (by rw[List.size_toArray];lia);rw[List.getElem?_eq_getElem hj]at this;exact this
  refine⟨.int (Z.EI 0 ns),H,I2 h' tk hk,⟨u,by rw[hM]⟩,w⟩
theorem zD{x:Str}{p1:Pos}(hg:Gl X x)(hm:X.mg x=none)(hv:bootBuiltins x=some (.builtin "max"))(ha:DW X a fa)(hc:X.calm=true:=by rfl)(hn:x ≠ "__name__" := by decide +kernel)(hdb:(x==("__debug__" : Str))=false:=by decide +kernel)
  (he:starEach (a :: []) X.env=(false,eval a X.env) :: starEach [] X.env:=by rfl) (hpl:(backTo pos (starEach [] X.env)).any (·.1)=false:=by rfl):DE X (.Call (.Name x p1) [a] [] pos) (Z.eU Z.t! fa) :=
 PE.imp (jW (Fd hc) hg hm hv (b9 ha dJ he) hn hdb he hpl) λ σ H Q ⟨ρ,d,r,e,k⟩=>by obtain⟨x,ea,e⟩:=Z.Res.az e;refine⟨ρ,x,r,ea,λ v H1 s1 d1=>?_⟩;obtain⟨n,ns,rfl,rfl⟩:=Z.Gv e;obtain⟨q,vs,rfl,hq,t⟩:=d1.lst;rw[oX t]at hq;exact⟨q,n :: ns,rfl,hq,by simp,k _ H1 s1 c7⟩
end
end ZS
namespace ZQ
open PySem PySem.Spec PyProof.Rows L2 ZS
section
variable {X:Cx}{a c:Expr}{fa fc:Z.EF}{pos:Pos}
theorem zD{x:Str}{p1:Pos}(hg:Gl X x)(hm:X.mg x=none)(hv:bootBuiltins x=some (.builtin "max"))(ha:QW X a fa)(hc:X.calm=true:=by rfl)(hn:x ≠ "__name__" := by decide +kernel)(hdb:(x==("__debug__" : Str))=false:=by decide +kernel)(he:starEach (a :: []) X.env=(false,eval a X.env) :: starEach [] X.env:=by rfl)(hpl:(backTo pos (starEach [] X.env)).any (·.1)=false:=by rfl):QE X (.Call (.Name x p1) [a] [] pos) (Z.eU Z.t! fa):=⟨ZS.zD (hg:=hg) (hm:=hm) (hv:=hv) (ha:=ha.p) (hc:=hc) (hn:=hn) (hdb:=hdb) (he:=he) (hpl:=hpl)⟩
end
end ZQ
noncomputable section
namespace Z
def uE(e:EF)(ρ:Env)(d:D):Res Int:=(e (some (.val d) :: ρ)).bind λ y=>match y with
 | .int k=>.ok k
 | _=>.bad
theorem JE{e:EF}{ρ:Env}{d:D}{k:Int}(h:uE e ρ d=.ok k):e (some (.val d) :: ρ)=.ok (.int k):=by
 unfold uE at h;obtain⟨y,e1,e2⟩:=Res.az h;split at e2
 ·cases e2;exact e1
 ·cases e2
theorem GV{e:EF}{ρ:Env}{d:D}{k:Int}(h:e (some (.val d) :: ρ)=.ok (.int k)):uE e ρ d=.ok k:=by unfold uE;rw[h];rfl
def Ko(mx:Bool)(k kb:Int):Bool:=if mx=true then decide (k > kb)else decide (k < kb)
def Ha(mx:Bool)(e:D->Res Int)(b:D)(kb:Int):List D->Res D
 | []=>.ok b
 | d :: r=>(e d).bind λ k=>if Ko mx k kb=true then Ha mx e d k r else Ha mx e b kb r
def pickK(mx:Bool)(z:Res D)(e:D->Res Int):List D->Res D
 | []=>z
 | d :: r=>(e d).bind λ k=>Ha mx e d k r
def zm(mx:Bool)(z:Res D)(a:EF)(is:List Nat)(e:EF)(ρ:Env):Res D:=(a ρ).bind λ x=>match x with
 | .lst ds=>pickK mx z (uE e (jm ρ is)) ds
 | _=>.bad
end Z
end
noncomputable section
namespace Z
def zI(le:Bool)(eq lt:D->D->Option Bool):List D->List D->Option Bool
 | [],[]=>some le
 | [],_ :: _=>some true
 | _ :: _,[]=>some false
 | a :: as,b :: bs=>match eq a b with
  | some true=>zI le eq lt as bs
  | some false=>lt a b
  | none=>none
def k3(le:Bool):Nat->D->D->Option Bool
 | _,.int a,.int b=>some (if le then decide (a≤b)else decide (a < b))
 | n+1,.tup as,.tup bs=>match allEq (dC n) as bs with
  | some _=>zI le (dC n) (k3 le n) as bs
  | none=>none
 | _,_,_=>none
def y_(b:D):List D->Res D
 | []=>.ok b
 | d :: r=>match k3 false 6 d b with
  | some true=>y_ d r
  | some false=>y_ b r
  | none=>.bad
def xR:D->Res D
 | .lst (d :: r)=>y_ d r
 | _=>.bad
end Z
end
namespace ZS
open PySem PySem.Spec PyProof.Rows L2 PySem.W
section
variable {X:Cx}{pins:List (Addr×Obj)}{σ:St}{H:Hp}{s:Shared}
theorem Off.Ma{C:Addr}(o:Off X pins H C)(ok:X.Ok):C∉X.fs:=λ hb=>by obtain⟨_,ob,ho,_⟩:=ok.sE.mem hb;exact absurd (Nat.lt_of_lt_of_le (Heap.lt_size ho) o.new) (Nat.lt_irrefl _)
theorem Off.Pg{C:Addr}(o:Off X pins H C)(I:Inv X pins σ H s):C∉DN X.stack:=λ hb=>by
 rcases List.mem_cons.mp (I.va C hb)with z | z
 ·exact o.loc z
 ·exact o.Ma I.ok z
theorem Off.up{H':Hp}{C:Addr}(o:Off X pins H C)(h:H' C=none):Off X pins H' C:=⟨h,o.loc,o.new,o.cell,o.pin⟩
theorem Off.fresh{C:Addr}(I:Inv X pins σ H s)(hC:s.heap.objs.size≤C){H':Hp}(h:H' C=none):Off X pins H' C where
 free:=h
 loc:=Nat.ne_of_gt (Nat.lt_of_lt_of_le I.lt hC)
 new:=Nat.le_trans I.sz hC
 cell:=λ x c e=>by obtain⟨v,o,ho,_⟩:=I.cell x c e;exact Nat.ne_of_lt (Nat.lt_of_lt_of_le (Heap.lt_size ho) hC)
 pin:=λ p hp=>Nat.ne_of_lt (Nat.lt_of_lt_of_le (Heap.lt_size (I.pin p hp).1) hC)
theorem E?{pos q:Pos}{c cv:Value}(l:List Value)(h:TriplesOk l)(e:codeAmong q (l++[rawInt pos.line,rawInt pos.col,c])=some cv):codeAmong q l=some cv∨cv=c:=by
 fun_induction TriplesOk l with
 | case1 =>
  simp only[List.nil_append,codeAmong,rawInt]at e;split at e
  ·cases e;exact .inr rfl
  ·cases e
 | case2 a t b u x rest ih =>
  simp only[List.cons_append,codeAmong]at e ⊢;split at e
  ·rename_i hc;rw[if_pos hc];exact .inl e
  ·rename_i hc;rw[if_neg hc];exact ih h e
 | case3 l h1 h2=>exact h.elim
structure D!(X:Cx)(pins:List (Addr×Obj))(q:Str)(params:Arguments)(body:Expr)(scope:Scope)(cl:List (Str×Addr))(H:Hp)(s:Shared)(f c':Addr)(pm sO:Value):Prop where
 off:Off X pins H f
 obj:s.heap.get? f=some (kla_obj "<lambda>" q params body scope cl pm c' sO)
 code:H c'=some (.Ki q)
theorem A3{x:Str}{c P:Addr}{params:Arguments}{body:Expr}{scope:Scope}{pos:Pos}{cl:List (Str×Addr)}(hx:x∈di)(ht:tabIn X.K x=some (c,P))(K_:X.env.code=.ref c)(hq:X.env.qual ++ "<lambda>" = kJ x)
  (y?:defaultsOf params X.env=([],[])) (xo:closureFor scope X.env=pure cl) (I:Inv X pins σ H s) :
  wpAny (model X.prog X.w) X.A (eval (.Lambda params body scope pos) X.env) (λ r s'=>∃f c' pm sO H',r=.ref f∧Inv X pins σ H' s'∧aI H H'∧D! X pins (kJ x) params body scope cl H' s' f c' pm sO) X.xe s:=by
 refine kla_eval y? ?_;rw[hq];obtain⟨hT,hC,bm,ob,b1,b2,b3,b4,b5,b6⟩:=I.tab x hx c P ht;obtain⟨ps,g,Rx,am⟩:=I.dW P _ hT;have SE:s.heap.Ns mainGlobals X.mg:=I.mod.glob.keeps I.bk;have Lf:∀b o,X.base.get? b=some o->b≠P:=λ b o e z=>by have:=(I.bs b o e).2;rw[z,hT]at this;cases this
 have Za:mainGlobals≠P:=by obtain⟨o,es,ep,e,_⟩:=I.mod.glob;exact Lf _ _ e
 have Zk:bm≠mainGlobals:=λ z=>by obtain⟨o,es,ep,e,hd,_⟩:=I.mod.glob;rw[z,e]at b3;cases b3;rw[hd]at b6;cases b6
 have hB:s.heap.BuiltinsAt X.mg P:=⟨bm,ob,b1,b2,Zk,Lf _ _ b3,I.bk _ _ b3,b4,b5,b6⟩
 cases hf:codeAmong pos ps.toList with
 | some cv =>obtain⟨c',rfl,Fy⟩:=am pos cv hf;refine kla_makeFunctionHit (mg:=X.mg) xo I.ok.glob SE K_ (hC.keeps I.bk) g Rx hf hB λ sO h' tk hk H!=>?_;have I':Inv X pins σ H { s with heap:=h'.push (kla_obj "<lambda>" (kJ x) params body scope cl ((X.mg "__name__").getD .none) c' sO),toks:=tk }:=I.kept λ b u e=>Heap.get?_push_of_some _ (hk b u e);exact⟨_,c',_,sO,H,rfl,I',aI.refl H,⟨Off.fresh I H! (I.dW.fresh H!),Heap.get?_push_size _ rfl,Fy⟩⟩
 | none =>
  refine kla_makeFunction (mg:=X.mg) xo I.ok.glob SE K_ (hC.keeps I.bk) g Rx hf Za hB λ c' sO h' tk JQ JX l4 ME YR=>?_;have hn:H c'=none:=I.dW.fresh JX;have kp:∀b o,b≠P->s.heap.get? b=some o->(h'.push (kla_obj "<lambda>" (kJ x) params body scope cl ((X.mg "__name__").getD .none) c' sO)).get? b=some o:=λ b o hb e=>Heap.get?_push_of_some _ (JQ b o hb e);have Ul:∀b,H b=none->b≠P:=λ b e z=>by rw[z,hT]at e;cases e
  have Md:∀b u,H b=some u->b≠c':=λ b u e=>cy e hn;have Yv:∀b o,s.heap.get? b=some o->b≠c':=λ b o e=>Nat.ne_of_lt (Nat.lt_of_lt_of_le (Heap.lt_size e) JX);have hP:(h'.push (kla_obj "<lambda>" (kJ x) params body scope cl ((X.mg "__name__").getD .none) c' sO)).get? P=some (tabObj (ps++#[rawInt pos.line,rawInt pos.col,.ref c'])):=Heap.get?_push_of_some _ YR;have un:Un X.fs [] H (upd H c' (.Ki (kJ x))) s.heap (h'.push (kla_obj "<lambda>" (kJ x) params body scope cl ((X.mg "__name__").getD .none) c' sO)):=by
   refine⟨λ b o e n _ _=>kp b o (Ul b n) e,λ b o e n _ _=>⟨o.slots,kp b o (Ul b n) e⟩,λ b o e n _=>by rw[a! (Yv b o e)];exact n,λ b o e _=>?_,λ b xs e=>by rw[a! (Md _ _ e)];exact e,λ b o u e=>by rw[a! (Md _ _ e)];exact e,λ b u _ e=>by rw[a! (Md _ _ e)];exact e⟩;by_cases hb:b=P
   ·exact⟨_,hb▸hP⟩
   ·exact⟨o,kp b o hb e⟩
  have dW:sZ X.prog X.w (upd H c' (.Ki (kJ x))) (h'.push (kla_obj "<lambda>" (kJ x) params body scope cl ((X.mg "__name__").getD .none) c' sO)):=λ b u e=>by
   by_cases hb:b=c'
   ·subst hb;rw[bV]at e;cases e;obtain⟨c2,oc,vs,t,e2,Sx,r⟩:=ME;cases e2;exact⟨_,oc,vs,t,rfl,Heap.get?_push_of_some _ Sx,r⟩
   ·rw[a! hb]at e;by_cases W':b=P
    ·subst W';rw[hT]at e;cases e;refine⟨_,hP,by rw[Array.toList_append];exact TriplesOk_snoc _ _ _ _ Rx,λ p cv e2=>?_⟩;rw[Array.toList_append]at e2;rcases E? _ Rx e2 with z | rfl
     ·obtain⟨c2,e3,e4⟩:=am p cv z;exact⟨c2,e3,by rw[a! (Md _ _ e4)];exact e4⟩
     ·exact⟨c',rfl,bV⟩
    ·refine(I.dW b u e).vc (λ b2 v hc q=>kp b2 v ?_ q) (λ b2 q=>by rw[a! (Md _ _ q)];exact q) (λ b2 xs q=>by rw[a! (Md _ _ q)];exact q) λ b2 v _ q=>by rw[a! (Md _ _ q)];exact q
     rcases hc with rfl | hc
     ·exact W'
     ·exact Pk hc hT (λ z=>nomatch z)
  have Qf:(upd H c' (.Ki (kJ x))) h'.objs.size=none:=by rw[a! (Nat.ne_of_gt l4)];exact I.dW.fresh (Nat.le_of_lt (Nat.lt_of_le_of_lt JX l4))
  exact⟨_,c',_,sO,_,rfl,I.un (t':=tk) un dW,dQ hn,⟨Off.fresh I (Nat.le_of_lt (Nat.lt_of_le_of_lt JX l4)) Qf,Heap.get?_push_size _ rfl,bV⟩⟩
end
abbrev Ck(X:Cx)(N':List Str)(q:Str)(scope:Scope)(cl:List (Str×Addr))(f c':Addr)(s₂:Shared)(H₂:Hp):Cx :=
 { prog:=X.prog,w:=X.w,K:=X.K,mg:=X.mg,base:=X.base,A:=X.A.in1.deeper (envX q scope s₂.heap.objs.size f (.ref c') cl),N:=N',s₀:=s₂,H₀:=H₂,env:=envX q scope s₂.heap.objs.size f (.ref c') cl,outer:=X.stack,stack:=envX q scope s₂.heap.objs.size f (.ref c') cl :: X.stack,ex:=[],fn:=λ _=>false,calm:=true,pn:=[],xe:=λ _ _=>False }
section
variable {X:Cx}{pins:List (Addr×Obj)}{σ:St}{H:Hp}{s:Shared}{N':List Str}{is:List Nat}{scope:Scope}{body:Expr}{params:Arguments}{q:Str}{cl:List (Str×Addr)}{f c':Addr}{pm sO:Value}{ρ:Z.Env}{fe:Z.EF}{x:Str}
theorem LD{K:PySem.W.Frag}{d:Z.D}{v:V}(h:RE K H σ ρ)(hd:Den K H d v):RE K H (some v :: pY σ 0 is) (some (.val d) :: Z.jm ρ is):=by
 have R:=F8 (n:=0) (is:=is) h (aI.refl H);refine⟨by simp[pY,Z.jm],λ i l e=>?_,λ i j xs ys a e1=>?_⟩
 ·cases i with
  | zero =>simp only[List.getElem?_cons_zero,Option.some.injEq]at e;subst e;exact⟨v,rfl,hd⟩
  | succ i =>obtain⟨u,h1,h2⟩:=R.re.get i l (by simpa using e);exact⟨u,by simpa using h1,h2⟩
 ·cases i with
  | zero=>simp at e1
  | succ i=>exact absurd (by simpa using e1) (gv 0 is ρ i xs)
theorem A4{u : Value}{v : V}{d : Z.D}{k : Int}(hcalm : X.calm = true)(rj : X.A.in1.depth < recursionLimit)(B : lE X.N N' 1 is scope X.env.scope)(HZ : N'[0]? = some x)(y! : scope.isGenerator = false)(G' : scope.isCoroutine = false)
  (oj:∀u,bindArgs (kla_fn "<lambda>" q params body scope cl pm (.ref c') sO) ⟨[u],[]⟩=pure [(x,u)])
  (kK:∀x c,cl.lookup x=some c->X.env.cells.lookup x=some c) (wb:∀y∈scope.names,y.2=.free->(cl.lookup y.1).isSome=true)
  (he:∀cl f c' s H,DE (Ck X N' q scope cl f c' s H) body fe)
  (L:D! X pins q params body scope cl H s f c' pm sO) (I:Inv X pins σ H s){E:Value->Shared->Prop}(re:RE X.K H σ ρ) (rv:RelV v u) (dv:Den X.K H d v) (ek:Z.uE fe (Z.jm ρ is) d=.ok k) :
  wpAny (model X.prog X.w) X.A.in1 (call (.ref f) [u]) (λ r s'=>∃t H',r=.int k t∧aI H H'∧Un (DN X.stack) [] H H' s.heap s'.heap∧sZ X.prog X.w H' s'.heap∧AllBare s'.gens∧s'.os=s.os) E s:=by
 have ME:s.heap.CodeRec (.ref c') q:=I.dW c' _ L.code;obtain⟨x0,WW,PV⟩:=B.own 0 (Nat.zero_lt_one);rw[HZ]at WW;cases WW;refine wpAny_call (kla_callFunE rj L.obj rfl G' y! rfl ME ?_);rw[oj];refine wpAny_pure (wpAny_newFunctionEnv B.cell (λ y hy=>by rw[List.mem_singleton.mp hy];exact PV) (λ h₁ Fu W0=>⟨I.nolimit.fresh _ W0,?_⟩) B.kind);show codeAny _ _ (.expr body (envX q scope s.heap.objs.size f (.ref c') cl)) _ _;have old:∀b o,s.heap.get? b=some o->h₁.get? b=some o:=λ b o e=>W0.extBut b o (Nat.ne_of_lt (Heap.lt_size e)) (Heap.get?_push_of_some _ e);have MQ:H s.heap.objs.size=none:=I.dW.fresh (Nat.le_refl _);have ok:(Ck X N' q scope cl f c' s H).Ok:=by
  refine⟨I.ok.mod,B.kind,rfl,rfl,Nat.le_refl _,λ x y c e1 e2=>I.ok.inj x y c (kK x c e1) (kK y c e2),λ y hy=>?_,λ y c hf=>(by cases hf),λ _=>I.ok.hd hcalm,Around.frames_deeper I.ok.frames,.inr ⟨rfl,rfl⟩,
   λ b hb=>absurd (show b∈([]:List Addr)from hb) (by simp),I.bs,Nat.le_trans I.ok.Ig I.sz,λ b o _ hb=>absurd (show b∈([]:List Addr)from hb) (by simp),λ b hb=>absurd (show b∈([]:List Addr)from hb) (by simp),I.stack,I.yx⟩
  have G2:scope.names.lookup y=some .cell∨scope.names.lookup y=some .free:=hy;rcases G2 with z | z
  ·exact absurd rfl (B.cell _ (PySem.mem_of_lookup z))
  ·exact Option.isSome_iff_exists.mp (wb _ (PySem.mem_of_lookup z) rfl)
 have wM:∀x c,X.env.cells.lookup x=some c->c < s.heap.objs.size∧∀v,s.heap.IsCell c v->h₁.IsCell c v:=λ x c e=>by obtain⟨v,o,ho,hd⟩:=I.cell x c e;exact⟨Heap.lt_size ho,λ v' ⟨o',Cr,K?⟩=>⟨o',old c o' Cr,K?⟩⟩
 have I4 : Inv (Ck X N' q scope cl f c' s H) [] (some v :: pY σ 0 is) H { s with heap := h₁, toks := s.toks + [(x, u)].length } := by
  refine⟨ok,rfl,I.bare,Un.kept old,⟨_,Fu,λ i y w e1 e2 e3=>?_⟩,λ y c e=>?_,MQ,λ y c e=>I.oq y c (kK y c e),λ p hp=>absurd (show p∈([]:List (Addr×Obj))from hp) (by simp),I.dW.kept old,?_,I.tab⟩
  ·cases i with
   | zero =>have FD:N'[0]?=some y:=e1;rw[HZ]at FD;cases FD;simp only[List.getElem?_cons_zero,Option.some.injEq]at e2;subst e2;refine⟨u,rv,.inl ⟨PV,?_⟩⟩;simp
   | succ i =>
    have FC:(pY σ 0 is)[i]?=some (some w):=by simpa using e2
    unfold pY at FC;simp only[List.replicate_zero,List.nil_append,List.getElem?_map]at FC;cases r:is[i]? with
    | none=>rw[r]at FC;cases FC
    | some j =>
     rw[r]at FC;simp only[Option.map_some]at FC;obtain⟨x',c1,c2,c3⟩:=B.XD i j r;have FD:N'[i+1]?=some y:=e1;rw[show i+1=1+i from Nat.add_comm _ _,c1]at FD;cases FD;have hσ:σ[j]?=some (some w):=by
      cases r2:σ[j]? with
      | none=>rw[r2]at FC;cases FC
      | some z =>
       rw[r2]at FC;have:z=some w:=by simpa using FC
       rw[this]
     obtain⟨m,hn,hl⟩:=I.loc;have hm:=PySem.mem_of_lookup c3;have hk:=B.free _ hm rfl;have MA:Ii X.env.scope y:=by
      rcases hk with k | k
      ·exact .inr (.inl k)
      ·exact .inr (.inr k)
     obtain⟨u',ru,lk⟩:=hl j y w c2 hσ MA;refine⟨u',ru,?_⟩;rcases lk with⟨k1,_⟩ | ⟨k1,c,hc,uh⟩
     ·have JF:X.env.scope.names.lookup y=some .local:=k1;rcases hk with k | k
      ·rw[k]at JF;cases JF
      ·rw[k]at JF;cases JF
     ·obtain⟨N0,Fy⟩:=Option.isSome_iff_exists.mp (wb _ hm rfl);have:N0=c:=by have:=kK y N0 Fy;rw[hc]at this;exact(Option.some.inj this).symm
      subst this;exact .inr ⟨.inr c3,N0,Fy,(wM y N0 hc).2 _ uh⟩
  ·obtain⟨v',hv⟩:=I.cell y c (kK y c e);exact⟨v',(wM y c (kK y c e)).2 v' hv⟩
  ·have:=B.len;simp[pY,this,Nat.add_comm]
 refine kla_codeExpr (wpAny_mono (he cl f c' s H [] _ _ H (λ v' H'=>aI H H'∧v'=.int k) I4 ⟨_,_,LD re dv,Z.JE ek,λ v' H' s' d'=>⟨s',by simpa only[Den]using d'⟩⟩) (λ r s' hq=>?_) λ e s' hq=>hq.elim);obtain⟨v',H',J,Ym,sm,rfl⟩:=hq;obtain⟨t,rfl⟩:=Ym;exact⟨t,H',rfl,sm,J.base,J.dW,J.bare,J.os⟩
end
end ZS
namespace ZS
open PySem PySem.Spec PyProof.Rows L2 PySem.W
abbrev held(b:Value)(k:Value)(c:Nat):Obj:={ cls:=.type "list",data:=.seq #[b,k] c }
structure XI(X:Cx)(pins:List (Addr×Obj))(σ:St)(H₀:Hp)(l I S:Addr)(vs:List V)(H:Hp)(s:Shared)(j i:Nat)(kb:Int):Prop where
 inv:Inv X pins σ H s
 sm:aI H₀ H
 it:s.heap.IsListIter I l j
 vG:Off X pins H I
 jg:Off X pins H S
 best:∃b v tb c,vs[i]?=some v∧RelV v b∧s.heap.get? S=some (held b (.int kb tb) c)
section
variable {X:Cx}{pins:List (Addr×Obj)}{σ:St}{H₀ H:Hp}{s:Shared}{l I S f:Addr}{vs:List V}{j i:Nat}{kb:Int}{kw:List (Str×Value)}
theorem lS{Q:Option Value->Shared->Prop}{E:Value->Shared->Prop}(hcalm:X.calm=true)(I1:Inv X pins σ H s)(hq:i? X.K H l vs)(it:s.heap.IsListIter I l j)(oI:Off X pins H I)(hj:j < vs.length)
  (h:∀u v h' tk,vs[j]?=some v->RelV v u->Inv X pins σ H { s with heap:=h',toks:=tk }->h'.IsListIter I l (j+1)->(∀b o,b≠I->s.heap.get? b=some o->h'.get? b=some o)->Q (some u) { s with heap:=h',toks:=tk }) :
  wpAny (model X.prog X.w) X.A.in1 (pyNext (.ref I)) Q E s:=by
 obtain⟨aY,rv,pl,hz⟩:=I1.list hq;have hl:=rv.length;have hh:X.A.in1.handled=none:=I1.ok.hd hcalm;have uV:l≠I:=by rintro rfl;obtain⟨o,e,hc,_⟩:=pl.isList;obtain⟨o2,e2,wc,_⟩:=it;rw[e]at e2;cases e2;rw[hc]at wc;exact absurd (Value.type.inj wc) (by decide)
 have W:=Walks.list (prog:=X.prog) (w:=X.w) (A:=X.A.in1) hh I l uV aY.toArray;refine W.item j s Q E (by rw[List.size_toArray,<-hl];exact hj) ⟨it,pl.isList⟩ λ u h' tk pv st k1=>?_;have hv:aY[j]?=some u:=by simpa using pv
 obtain⟨v,hv2⟩:∃v,vs[j]?=some v:=⟨vs[j],by simp[hj]⟩
 obtain⟨u',NL,Yk⟩:=rv.get hv2;rw[hv]at NL;cases NL;have kp:∀b o,b≠I->s.heap.get? b=some o->h'.get? b=some o:=λ b o hb e=>k1 b o (by simpa using hb) e;exact h u v h' tk hv2 Yk (I1.turned kp oI.free oI.loc (.inr oI.new) oI.cell oI.pin) st.1 kp
theorem rh{Q:Option Value->Shared->Prop}{E:Value->Shared->Prop}(hcalm:X.calm=true)(I1:Inv X pins σ H s)(hq:i? X.K H l vs)(it:s.heap.IsListIter I l j)(oI:Off X pins H I)(hj:j=vs.length)
  (h:∀h' tk,Inv X pins σ H { s with heap:=h',toks:=tk }->(∀b o,b≠I->s.heap.get? b=some o->h'.get? b=some o)->Q none { s with heap:=h',toks:=tk }) :
  wpAny (model X.prog X.w) X.A.in1 (pyNext (.ref I)) Q E s:=by
 obtain⟨aY,rv,pl,hz⟩:=I1.list hq;have hl:=rv.length;have hh:X.A.in1.handled=none:=I1.ok.hd hcalm;have uV:l≠I:=by rintro rfl;obtain⟨o,e,hc,_⟩:=pl.isList;obtain⟨o2,e2,wc,_⟩:=it;rw[e]at e2;cases e2;rw[hc]at wc;exact absurd (Value.type.inj wc) (by decide)
 have W:=Walks.list (prog:=X.prog) (w:=X.w) (A:=X.A.in1) hh I l uV aY.toArray;refine W.done s Q E ⟨by rw[List.size_toArray,<-hl,<-hj];exact it,pl.isList⟩ λ h' tk k1=>?_;have kp:∀b o,b≠I->s.heap.get? b=some o->h'.get? b=some o:=λ b o hb e=>k1 b o (by simpa using hb) e;exact h h' tk (I1.turned kp oI.free oI.loc (.inr oI.new) oI.cell oI.pin) kp
def BG(X:Cx)(pins:List (Addr×Obj))(σ:St)(H₀:Hp)(f:Addr)(St:Hp->Shared->Prop)(e:Z.D->Z.Res Int):Prop :=
 ∀(H:Hp)(s:Shared)(u:Value)(v:V)(d:Z.D)(k:Int),Inv X pins σ H s->aI H₀ H->St H s->RelV v u->Den X.K H d v->e d=.ok k ->
  wpAny (model X.prog X.w) X.A.in1 (call (.ref f) [u]) (λ r s'=>∃t H',r=.int k t∧aI H H'∧Un (DN X.stack) [] H H' s.heap s'.heap∧sZ X.prog X.w H' s'.heap∧AllBare s'.gens∧s'.os=s.os) (λ _ _=>False) s
structure HJ(X:Cx)(pins:List (Addr×Obj))(σ:St)(f:Addr)(St:Hp->Shared->Prop):Prop where
 off:∀H s,St H s->Off X pins H f
 un:∀H H' s s',Inv X pins σ H s->St H s->aI H H'->H' f=none->(∀o,s.heap.get? f=some o->s'.heap.get? f=some o)->St H' s'
end
section
variable {X:Cx}{pins:List (Addr×Obj)}{σ:St}{H₀:Hp}{l I S f:Addr}{vs:List V}{kw:List (Str×Value)}{St:Hp->Shared->Prop}{e:Z.D->Z.Res Int}{ds:List Z.D}{r:Z.D}{R:Result->Shared->Prop}
theorem FI{k kb:Int}{t tb:Tok}{A:Around}{Q E:Value->Shared->Prop}{s:Shared}{prog:Program}{w:World}(h:Q (.bool (decide (k > kb))) s):wpAny (model prog w) A (richCompare .Gt (.int k t) (.int kb tb)) Q E s :=
 CmpOf.ints_gt (prog:=prog) (w:=w) (A:=A) (P:=λ i v=>∃t,v=.int (if i=0 then k else kb) t) (λ i=>if i=0 then k else kb) (λ i v h=>h) 0 1 _ _ _ _ _ ⟨t,rfl⟩ ⟨tb,rfl⟩ h
theorem Ea{k kb:Int}{t tb:Tok}{A:Around}{Q E:Value->Shared->Prop}{s:Shared}{prog:Program}{w:World}(h:Q (.bool (decide (k < kb))) s):wpAny (model prog w) A (richCompare .Lt (.int k t) (.int kb tb)) Q E s :=
 CmpOf.ints_lt (prog:=prog) (w:=w) (A:=A) (P:=λ i v=>∃t,v=.int (if i=0 then k else kb) t) (λ i=>if i=0 then k else kb) (λ i v h=>h) 0 1 _ _ _ _ _ ⟨t,rfl⟩ ⟨tb,rfl⟩ h
theorem uU{H:Hp}{s:Shared}{u:Value}{v:V}{d:Z.D}{k:Int}{Q:Value->Shared->Prop}{E:Value->Shared->Prop}(KO:BG X pins σ H₀ f St e)(SY:HJ X pins σ f St)(Iv:Inv X pins σ H s)(sm:aI H₀ H)(st:St H s)(rv:RelV v u)(dv:Den X.K H d v)(ek:e d=.ok k)
  (oI:Off X pins H I) (oS:Off X pins H S){oi os:Obj}(gI:s.heap.get? I=some oi) (gS:s.heap.get? S=some os) (gf:∃o,s.heap.get? f=some o)
  (h:∀t H' s',Inv X pins σ H' s'->aI H H'->St H' s'->Off X pins H' I->Off X pins H' S->s'.heap.get? I=some oi->s'.heap.get? S=some os->(∃o,s'.heap.get? f=some o)->Q (.int k t) s') :
  wpAny (model X.prog X.w) X.A.in1 (call (.ref f) [u]) Q E s:=by
 refine wpAny_mono (KO H s u v d k Iv sm st rv dv ek) (λ x s' hq=>?_) λ _ _ z=>z.elim;obtain⟨t,H',rfl,Nn,un,dW,bare,T?⟩:=hq;have Iv':Inv X pins σ H' s':=Iv.Lc (s':=s') T? un dW bare λ b hb=>absurd hb (by simp);have of:=SY.off H s st;have kp:∀{b:Addr}{o:Obj},Off X pins H b->s.heap.get? b=some o->s'.heap.get? b=some o∧H' b=none:=λ {b o} ob e=>⟨un.keep b o e ob.free (ob.Pg Iv) (by simp),un.free b o e ob.free (by simp)⟩
 obtain⟨fo,gf⟩:=gf;exact h t H' s' Iv' Nn (SY.un H H' s s' Iv st Nn (kp of gf).2 λ o e=>(kp of e).1) (oI.up (kp oI gI).2) (oS.up (kp oS gS).2) (kp oI gI).1 (kp oS gS).1 ⟨fo,(kp of gf).1⟩
end
section
variable {X:Cx}{pins:List (Addr×Obj)}{σ:St}{H₀:Hp}{l I S f:Addr}{vs:List V}{kw:List (Str×Value)}{St:Hp->Shared->Prop}{e:Z.D->Z.Res Int}{ds:List Z.D}{r:Z.D}{R:Result->Shared->Prop}
theorem Cn(hcalm : X.calm = true)(KO : BG X pins σ H₀ f St e)(SY : HJ X pins σ f St)(rm : S ≠ I)(Ct : f ≠ I)(Cs : f ≠ S)(hl : i? X.K H₀ l vs)(dn : aG X.K H₀ ds vs)
  (fin:∀H s u v,Inv X pins σ H s->aI H₀ H->RelV v u->Den X.K H r v->R (.ok (.ret u)) s) :
  ∀(n j i:Nat)(H:Hp)(s:Shared)(kb:Int)(db:Z.D),ds.length=j+n->ds[i]?=some db->Z.Ha true e db kb (ds.drop j)=.ok r->XI X pins σ H₀ l I S vs H s j i kb->St H s->(∃o,s.heap.get? f=some o) ->
   codeAny (model X.prog X.w) X.A (.builtin "max.loop" ⟨[.ref I,.ref f,.ref S],kw⟩) R s:=by
 have nm:(toString "max" ++ toString ".loop" : String) = "max.loop" := by decide
 have hlen:=dn.length;intro n
 induction n with
 | zero =>
  intro j i H s kb db hn hdb eg L st gf;obtain⟨b,v,tb,c,hv,rb,gS⟩:=L.best;refine codeAny_builtin PySem.F.entry_max_loop ?_;rw[Around.under_plainId PySem.F.plain_max_loop _];show wpAny (model X.prog X.w) X.A.in1 (seqItems? (.ref S) >>= _) _ _ s;refine wpAny_bind (wpAny_seqItems gS rfl (wpAny_bind (wpAny_tryCatch (rh hcalm L.inv (L.sm.seq hl) L.it L.vG (by lia) λ h1 t1 I1 k1=>?_))));have g1:=k1 S _ rm gS;show wpAny (model X.prog X.w) X.A.in1 (updateSeq S (λ _=>#[]) >>= _) _ _ _;refine wpAny_bind (wpAny_updateSeq g1 rfl (wpAny_bind (wpAny_letGo (wpAny_pure ?_))));have hr:db=r:=by rw[List.drop_eq_nil_of_le (by lia)]at eg;unfold Z.Ha at eg;cases eg;rfl
  subst hr;obtain⟨v',v!,dv⟩:=dn.get hdb;rw[hv]at v!;cases v!;exact fin H _ b v (I1.turned (t':=t1) (λ b o hb e=>(Heap.get?_update_other _ _ (Ne.symm hb)).trans e) L.jg.free L.jg.loc (.inr L.jg.new) L.jg.cell L.jg.pin) L.sm rb (dv.up L.sm)
 | succ n ih =>
  intro j i H s kb db hn hdb eg L st gf;obtain⟨b,v,tb,c,hv,rb,gS⟩:=L.best;have hj:j < ds.length:=by lia
  obtain⟨dj,EW⟩:∃d,ds[j]?=some d:=⟨ds[j],by simp[hj]⟩
  have rl:ds.drop j=dj :: ds.drop (j+1):=by
   rw[List.drop_eq_getElem_cons hj];have:ds[j]=dj:=by have:=List.getElem?_eq_getElem hj;rw[this]at EW;exact Option.some.inj EW
   rw[this]
  rw[rl]at eg;unfold Z.Ha at eg;obtain⟨k,ek,eg⟩:=Z.Res.az eg;refine codeAny_builtin PySem.F.entry_max_loop ?_;rw[Around.under_plainId PySem.F.plain_max_loop _];show wpAny (model X.prog X.w) X.A.in1 (seqItems? (.ref S) >>= _) _ _ s;refine wpAny_bind (wpAny_seqItems gS rfl (wpAny_bind (wpAny_tryCatch (lS hcalm L.inv (L.sm.seq hl) L.it L.vG (by lia) λ u v1 h1 t1 A7 BJ I1 NI k1=>?_))));have g1:=k1 S _ rm gS;obtain⟨oI,gI,rI⟩:=id NI;obtain⟨of,gf⟩:=gf;have J5:=k1 f _ Ct gf;obtain⟨v',v!,dv⟩:=dn.get EW;rw[A7]at v!;cases v!;have z5:St H { s with heap:=h1,toks:=t1 }:=SY.un H H s _ L.inv st (aI.refl H) (SY.off H s st).free λ o e=>k1 f o Ct e;show wpAny (model X.prog X.w) X.A.in1 (tryCatch (holding [u] (call (.ref f) [u])) _ >>= _) _ _ _;refine wpAny_bind (wpAny_tryCatch (wpAny_holding (uU KO SY I1 L.sm z5 BJ (dv.up L.sm) ek L.vG L.jg gI g1 ⟨of,J5⟩ λ t2 H2 s2 I2 C! Ee Pb Cc Hc MX Qq=>?_)));show wpAny (model X.prog X.w) X.A.in1 (tryCatch (holding [u,.int k t2] (richCompare .Gt (.int k t2) (.int kb tb) >>= _)) _ >>= _) _ _ _;refine wpAny_bind (wpAny_tryCatch (wpAny_holding (wpAny_bind (FI (wpAny_bind (wpAny_holding (wpAny_truthy_bool (wpAny_bind (wpAny_letGo (wpAny_pure ?_))))))))));have FU:=L.sm.trans C!;have JN:s2.heap.IsListIter I l (j+1):=⟨oI,Hc,rI⟩
  by_cases hb:k > kb
  ·simp only[hb,decide_true,if_true];refine wpAny_bind (wpAny_updateSeq MX rfl (wpAny_bind (wpAny_letGo ?_)));rw[nm];rw[if_pos (by unfold Z.Ko;simpa using hb)]at eg;have kp:∀b o,b≠S->s2.heap.get? b=some o->(s2.heap.update S (Obj.mapSeq λ _=>#[u,.int k t2])).get? b=some o:=λ b o hb e=>(Heap.get?_update_other _ _ (Ne.symm hb)).trans e;have I3:=I2.turned (t':=s2.toks) kp Cc.free Cc.loc (.inr Cc.new) Cc.cell Cc.pin;refine wpAny_pure ⟨plainId_quiet PySem.F.plain_max_loop _,ih (j+1) j H2 _ k dj (by lia) EW eg ⟨I3,FU,⟨oI,kp I _ (Ne.symm rm) Hc,rI⟩,Pb,Cc,u,v1,t2,_,A7,BJ,Heap.get?_update_self _ MX rfl⟩ (SY.un H2 H2 s2 _ I2 Ee (aI.refl H2) (SY.off H2 s2 Ee).free λ o e=>kp f o Cs e) (let ⟨o,e⟩:=Qq;⟨o,kp f o Cs e⟩)⟩
  ·simp only[hb,decide_false,Bool.false_eq_true,if_false];refine wpAny_bind (wpAny_letGo ?_);rw[nm];rw[if_neg (by unfold Z.Ko;simpa using hb)]at eg;exact wpAny_pure ⟨plainId_quiet PySem.F.plain_max_loop _,ih (j+1) i H2 s2 kb db (by lia) hdb eg ⟨I2,FU,JN,Pb,Cc,b,v,tb,c,hv,rb,MX⟩ Ee Qq⟩
end
section
variable {X:Cx}{pins:List (Addr×Obj)}{σ:St}{H₀:Hp}{l I S f:Addr}{vs:List V}{kw:List (Str×Value)}{St:Hp->Shared->Prop}{e:Z.D->Z.Res Int}{ds:List Z.D}{r:Z.D}{R:Result->Shared->Prop}
theorem Cm(hcalm : X.calm = true)(KO : BG X pins σ H₀ f St e)(SY : HJ X pins σ f St)(rm : S ≠ I)(Ct : f ≠ I)(Cs : f ≠ S)(hl : i? X.K H₀ l vs)(dn : aG X.K H₀ ds vs)
  (fin:∀H s u v,Inv X pins σ H s->aI H₀ H->RelV v u->Den X.K H r v->R (.ok (.ret u)) s) :
  ∀(n j i:Nat)(H:Hp)(s:Shared)(kb:Int)(db:Z.D),ds.length=j+n->ds[i]?=some db->Z.Ha false e db kb (ds.drop j)=.ok r->XI X pins σ H₀ l I S vs H s j i kb->St H s->(∃o,s.heap.get? f=some o) ->
   codeAny (model X.prog X.w) X.A (.builtin "min.loop" ⟨[.ref I,.ref f,.ref S],kw⟩) R s:=by
 have nm:(toString "min" ++ toString ".loop" : String) = "min.loop" := by decide
 have hlen:=dn.length;intro n
 induction n with
 | zero =>
  intro j i H s kb db hn hdb eg L st gf;obtain⟨b,v,tb,c,hv,rb,gS⟩:=L.best;refine codeAny_builtin PySem.F.entry_min_loop ?_;rw[Around.under_plainId PySem.F.plain_min_loop _];show wpAny (model X.prog X.w) X.A.in1 (seqItems? (.ref S) >>= _) _ _ s;refine wpAny_bind (wpAny_seqItems gS rfl (wpAny_bind (wpAny_tryCatch (rh hcalm L.inv (L.sm.seq hl) L.it L.vG (by lia) λ h1 t1 I1 k1=>?_))));have g1:=k1 S _ rm gS;show wpAny (model X.prog X.w) X.A.in1 (updateSeq S (λ _=>#[]) >>= _) _ _ _;refine wpAny_bind (wpAny_updateSeq g1 rfl (wpAny_bind (wpAny_letGo (wpAny_pure ?_))));have hr:db=r:=by rw[List.drop_eq_nil_of_le (by lia)]at eg;unfold Z.Ha at eg;cases eg;rfl
  subst hr;obtain⟨v',v!,dv⟩:=dn.get hdb;rw[hv]at v!;cases v!;exact fin H _ b v (I1.turned (t':=t1) (λ b o hb e=>(Heap.get?_update_other _ _ (Ne.symm hb)).trans e) L.jg.free L.jg.loc (.inr L.jg.new) L.jg.cell L.jg.pin) L.sm rb (dv.up L.sm)
 | succ n ih =>
  intro j i H s kb db hn hdb eg L st gf;obtain⟨b,v,tb,c,hv,rb,gS⟩:=L.best;have hj:j < ds.length:=by lia
  obtain⟨dj,EW⟩:∃d,ds[j]?=some d:=⟨ds[j],by simp[hj]⟩
  have rl:ds.drop j=dj :: ds.drop (j+1):=by
   rw[List.drop_eq_getElem_cons hj];have:ds[j]=dj:=by have:=List.getElem?_eq_getElem hj;rw[this]at EW;exact Option.some.inj EW
   rw[this]
  rw[rl]at eg;unfold Z.Ha at eg;obtain⟨k,ek,eg⟩:=Z.Res.az eg;refine codeAny_builtin PySem.F.entry_min_loop ?_;rw[Around.under_plainId PySem.F.plain_min_loop _];show wpAny (model X.prog X.w) X.A.in1 (seqItems? (.ref S) >>= _) _ _ s;refine wpAny_bind (wpAny_seqItems gS rfl (wpAny_bind (wpAny_tryCatch (lS hcalm L.inv (L.sm.seq hl) L.it L.vG (by lia) λ u v1 h1 t1 A7 BJ I1 NI k1=>?_))));have g1:=k1 S _ rm gS;obtain⟨oI,gI,rI⟩:=id NI;obtain⟨of,gf⟩:=gf;have J5:=k1 f _ Ct gf;obtain⟨v',v!,dv⟩:=dn.get EW;rw[A7]at v!;cases v!;have z5:St H { s with heap:=h1,toks:=t1 }:=SY.un H H s _ L.inv st (aI.refl H) (SY.off H s st).free λ o e=>k1 f o Ct e;show wpAny (model X.prog X.w) X.A.in1 (tryCatch (holding [u] (call (.ref f) [u])) _ >>= _) _ _ _;refine wpAny_bind (wpAny_tryCatch (wpAny_holding (uU KO SY I1 L.sm z5 BJ (dv.up L.sm) ek L.vG L.jg gI g1 ⟨of,J5⟩ λ t2 H2 s2 I2 C! Ee Pb Cc Hc MX Qq=>?_)));show wpAny (model X.prog X.w) X.A.in1 (tryCatch (holding [u,.int k t2] (richCompare .Lt (.int k t2) (.int kb tb) >>= _)) _ >>= _) _ _ _;refine wpAny_bind (wpAny_tryCatch (wpAny_holding (wpAny_bind (Ea (wpAny_bind (wpAny_holding (wpAny_truthy_bool (wpAny_bind (wpAny_letGo (wpAny_pure ?_))))))))));have FU:=L.sm.trans C!;have JN:s2.heap.IsListIter I l (j+1):=⟨oI,Hc,rI⟩
  by_cases hb:k < kb
  ·simp only[hb,decide_true,if_true];refine wpAny_bind (wpAny_updateSeq MX rfl (wpAny_bind (wpAny_letGo ?_)));rw[nm];rw[if_pos (by unfold Z.Ko;simpa using hb)]at eg;have kp:∀b o,b≠S->s2.heap.get? b=some o->(s2.heap.update S (Obj.mapSeq λ _=>#[u,.int k t2])).get? b=some o:=λ b o hb e=>(Heap.get?_update_other _ _ (Ne.symm hb)).trans e;have I3:=I2.turned (t':=s2.toks) kp Cc.free Cc.loc (.inr Cc.new) Cc.cell Cc.pin;refine wpAny_pure ⟨plainId_quiet PySem.F.plain_min_loop _,ih (j+1) j H2 _ k dj (by lia) EW eg ⟨I3,FU,⟨oI,kp I _ (Ne.symm rm) Hc,rI⟩,Pb,Cc,u,v1,t2,_,A7,BJ,Heap.get?_update_self _ MX rfl⟩ (SY.un H2 H2 s2 _ I2 Ee (aI.refl H2) (SY.off H2 s2 Ee).free λ o e=>kp f o Cs e) (let ⟨o,e⟩:=Qq;⟨o,kp f o Cs e⟩)⟩
  ·simp only[hb,decide_false,Bool.false_eq_true,if_false];refine wpAny_bind (wpAny_letGo ?_);rw[nm];rw[if_neg (by unfold Z.Ko;simpa using hb)]at eg;exact wpAny_pure ⟨plainId_quiet PySem.F.plain_min_loop _,ih (j+1) i H2 s2 kb db (by lia) hdb eg ⟨I2,FU,JN,Pb,Cc,b,v,tb,c,hv,rb,MX⟩ Ee Qq⟩
end
end ZS
namespace ZS
open PySem PySem.Spec PyProof.Rows L2 PySem.W
def wX(X:Cx)(nm:Str):Prop:=∃c P,nm∈di∧tabIn X.K nm=some (c,P)∧X.env.code=.ref c∧X.env.qual ++ "<lambda>" = kJ nm
theorem Fh(a k:Value):argsOk "max" ⟨[a],[(Str.ofString "key",k),(Str.ofString "default",.none)]⟩:=by unfold argsOk;kernel_rfl
theorem CW(k:Value):Builtin.Builtins.bindParams "max" ["key", "default"] 0 ⟨[],[(Str.ofString "key",k),(Str.ofString "default",.none)]⟩=pure [some k,some .none]:=by kernel_rfl
section
variable {X:Cx}{pins:List (Addr×Obj)}{σ:St}{H:Hp}{s:Shared}{l f:Addr}{vs:List V}{St:Hp->Shared->Prop}{e:Z.D->Z.Res Int}{ds:List Z.D}{r:Z.D}{Q:VK}
theorem J'(hcalm:X.calm=true)(KO:BG X pins σ H f St e)(SY:HJ X pins σ f St)(Iv:Inv X pins σ H s)(st:St H s)(gf:∃o,s.heap.get? f=some o)(hl:i? X.K H l vs)(dn:aG X.K H ds vs)(ek:Z.pickK true (.ok .non) e ds=.ok r)
  (k:∀v H',aI H H'->Den X.K H' r v->Q v H'):wpAny (model X.prog X.w) X.A (call (.builtin "max") [.ref l] ([(Str.ofString "key",.ref f),(Str.ofString "default",.none)])) (EP X pins σ Q) X.xe s:=by
 have nm:(toString "max" ++ toString ".loop" : String) = "max.loop" := by decide
 have hlen:=dn.length;obtain⟨fo,gf⟩:=gf;obtain⟨aY,rv,pl,hz⟩:=Iv.list hl;refine kmk_tree PySem.F.kind_max PySem.F.plain_max PySem.F.entry_max (Fh _ _) ?_;show wpAny (model X.prog X.w) X.A.in1 (Builtin.Builtins.bindParams "max" ["key", "default"] 0 ⟨[],[(Str.ofString "key",.ref f),(Str.ofString "default",.none)]⟩ >>= _) _ _ s;rw[CW];refine wpAny_bind (wpAny_pure (wpAny_bind (wpAny_pure (wpAny_bind (wpAny_pyIter_list pl.isList ?_)))));refine wpAny_bind (wpAny_newObj_type ?_);rw[nm];generalize Cw:s.heap.push { cls:=.type "list_iterator",data:=.fields #[.ref l,.int 0 0] }=HH;have hS:HH.objs.size=s.heap.objs.size+1:=by rw[<-Cw,Heap.size_push]
 have Qu:HH.get? s.heap.objs.size=some { cls:=.type "list_iterator",data:=.fields #[.ref l,.int 0 0] }:=by rw[<-Cw];exact Heap.get?_push_size _ rfl
 have JB:∀b o,s.heap.get? b=some o->(HH.push { cls:=.type "list",data:=.seq ([]:List Value).toArray }).get? b=some o:=λ b o e=>Heap.get?_push_of_some _ (by rw[<-Cw];exact Heap.get?_push_of_some _ e);have I1:Inv X pins σ H { s with heap:=HH.push { cls:=.type "list",data:=.seq ([]:List Value).toArray } }:=Iv.kept (t':=s.toks) JB;have oI:Off X pins H s.heap.objs.size:=Off.fresh Iv (Nat.le_refl _) (Iv.dW.fresh (Nat.le_refl _));have oS:Off X pins H HH.objs.size:=Off.fresh Iv (by rw[hS];exact Nat.le_succ _) (Iv.dW.fresh (by rw[hS];exact Nat.le_succ _));have rm:HH.objs.size≠s.heap.objs.size:=by rw[hS];exact Nat.ne_of_gt (Nat.lt_succ_self _)
 have Ct:f≠s.heap.objs.size:=Nat.ne_of_lt (Heap.lt_size gf);have Cs:f≠HH.objs.size:=by rw[hS];exact Nat.ne_of_lt (Nat.lt_succ_of_lt (Heap.lt_size gf))
 have gS:(HH.push { cls:=.type "list",data:=.seq ([]:List Value).toArray }).get? HH.objs.size=some { cls:=.type "list",data:=.seq ([]:List Value).toArray }:=Heap.get?_push_size _ rfl;have gI:(HH.push { cls:=.type "list",data:=.seq ([]:List Value).toArray }).get? s.heap.objs.size=some { cls:=.type "list_iterator",data:=.fields #[.ref l,.int 0 0] }:=Heap.get?_push_of_some _ Qu;have z5:St H { s with heap:=HH.push { cls:=.type "list",data:=.seq ([]:List Value).toArray } }:=SY.un H H s _ Iv st (aI.refl H) (SY.off H s st).free λ o e=>JB f o e;have J5:=JB f fo gf;generalize W_:HH.objs.size=S at oS rm Cs gS;generalize Xb:s.heap.objs.size=I at oI rm Ct gI;generalize hs1:({ s with heap:=HH.push { cls:=.type "list",data:=.seq ([]:List Value).toArray } }:Shared)=s1 at I1 z5;have e1:HH.push { cls:=.type "list",data:=.seq ([]:List Value).toArray }=s1.heap:=by rw[<-hs1]
 rw[e1]at gS gI J5;refine wpAny_pure ⟨plainId_quiet PySem.F.plain_max_loop _,?_⟩;refine codeAny_builtin PySem.F.entry_max_loop ?_;rw[Around.under_plainId PySem.F.plain_max_loop _];show wpAny (model X.prog X.w) X.A.in1 (seqItems? (.ref S) >>= _) _ _ _;cases ds with
 | nil =>refine wpAny_bind (wpAny_seqItems gS rfl (wpAny_bind (wpAny_tryCatch (rh (j:=0) hcalm I1 hl ⟨_,gI,rfl,rfl⟩ oI (by simp at hlen;simp[hlen]) λ h1 t1 I2 k1=>?_))));refine wpAny_bind (wpAny_rule (wpAny_pure ?_));cases ek;exact⟨.non,H,I2,rfl,k .non H (aI.refl H) rM⟩
 | cons d0 dr =>unfold Z.pickK at ek;obtain⟨k0,VM,ek⟩:=Z.Res.az ek;refine wpAny_bind (wpAny_seqItems gS rfl (wpAny_bind (wpAny_tryCatch (lS (j:=0) hcalm I1 hl ⟨_,gI,rfl,rfl⟩ oI (by simp at hlen;lia) λ u v1 h1 t1 A7 BJ I2 JN k1=>?_))));have g1:=k1 S _ rm gS;obtain⟨oi,Hc,rI⟩:=id JN;obtain⟨v',v!,dv⟩:=dn.get (i:=0) (d:=d0) rfl;rw[A7]at v!;cases v!;have Ee:St H { s1 with heap:=h1,toks:=t1 }:=SY.un H H s1 _ I1 z5 (aI.refl H) (SY.off H s1 z5).free λ o e=>k1 f o Ct e;show wpAny (model X.prog X.w) X.A.in1 (tryCatch (holding [u] (call (.ref f) [u])) _ >>= _) _ _ _;refine wpAny_bind (wpAny_tryCatch (wpAny_holding (uU KO SY I2 (aI.refl H) Ee BJ dv VM oI oS Hc g1 ⟨fo,k1 f _ Ct J5⟩ λ t3 H3 s3 I3 Fs FP Uc Ew Vw Qs Vu=>?_)));show wpAny (model X.prog X.w) X.A.in1 (updateSeq S (λ _=>#[u,.int k0 t3]) >>= _) _ _ _;refine wpAny_bind (wpAny_updateSeq Qs rfl ?_);rw[nm];have kp:∀b o,b≠S->s3.heap.get? b=some o->(s3.heap.update S (Obj.mapSeq λ _=>#[u,.int k0 t3])).get? b=some o:=λ b o hb e=>(Heap.get?_update_other _ _ (Ne.symm hb)).trans e;have I4:=I3.turned (t':=s3.toks) kp Ew.free Ew.loc (.inr Ew.new) Ew.cell Ew.pin;exact wpAny_pure ⟨plainId_quiet PySem.F.plain_max_loop _,Cn hcalm KO SY rm Ct Cs hl dn (λ H5 s5 u5 v5 I5 FT IL J_=>⟨v5,H5,I5,IL,k v5 H5 FT J_⟩) dr.length 1 0 H3 _ k0 d0 (by simp;lia) rfl ek ⟨I4,Fs,⟨oi,kp _ _ (Ne.symm rm) Vw,rI⟩,Uc,Ew,u,v1,t3,_,A7,BJ,Heap.get?_update_self _ Qs rfl⟩ (SY.un H3 H3 s3 _ I3 FP (aI.refl H3) (SY.off H3 s3 FP).free λ o e=>kp f o Cs e) (let ⟨o,e⟩:=Vu;⟨o,kp f o Cs e⟩)⟩
end
section
variable {X:Cx}{a body:Expr}{fa fe:Z.EF}{pos:Pos}{N':List Str}{is:List Nat}{scope:Scope}{params:Arguments}
theorem zB{x nm y:Str}{p1 kp Ut lp cp:Pos}{jj:Nat}(hL:wX X nm)(rj:X.A.in1.depth < recursionLimit)(hg:Gl X x)(hm:X.mg x=none)(hv:bootBuiltins x=some (.builtin "max"))(ha:DW X a fa)
  (B:lE X.N N' 1 is scope X.env.scope) (HZ:N'[0]?=some y) (he:∀cl f c' s H,DE (Ck X N' (kJ nm) scope cl f c' s H) body fe)
  (oj:∀(q:Str) (cl:List (Str×Addr)) (pm:Value) (c':Addr) (sO u:Value),bindArgs (kla_fn "<lambda>" q params body scope cl pm (.ref c') sO) ⟨[u],[]⟩=pure [(y,u)])
  (y?:defaultsOf params X.env=([],[]):=by rfl) (y!:scope.isGenerator=false:=by rfl) (G':scope.isCoroutine=false:=by rfl)
  (hc:X.calm=true:=by rfl) (hn:x ≠ "__name__" := by decide +kernel) (hdb:(x==("__debug__" : Str))=false:=by decide +kernel)
  (MD:starEach (a :: []) X.env=(false,eval a X.env) :: starEach [] X.env:=by rfl) (G!:backTo pos (starEach (a :: []) X.env)=(false,eval a X.env) :: backTo pos (starEach [] X.env):=by rfl) (hpl:(backTo pos (starEach (a :: []) X.env)).any (·.1)=false:=by rfl) :
  DE X (.Call (.Name x p1) [a] [⟨some (Str.ofString "key"),.Lambda params body scope lp,kp⟩,⟨some (Str.ofString "default"),.Constant .none jj cp,Ut⟩] pos) (Z.zm true (.ok .non) fa is fe):=by
 intro pins s σ H Q I h;obtain⟨ρ,d,r,e,k⟩:=h;obtain⟨dx,ea,e⟩:=Z.Res.az e;obtain⟨c,P,h1,h2,h3,h4⟩:=hL;split at e
 ·rename_i ds;refine wpAny_Call_Name_kw (mw I hg hm hv ?_ hn hdb);refine callWith_kw ?_ G! hpl;refine d! (b9 ha dJ MD pos pins s σ H (λ vs H1=>∃v,vs=[v]∧aI H H1∧bQ X.K H1 (.lst ds) v) I ⟨ρ,_,r,ea,λ v H1 s1 d1=>⟨v,rfl,s1,d1⟩⟩) λ us s1 ⟨vs,H1,I1,r1,q1⟩=>?_;obtain⟨v,rfl,sm,d1⟩:=q1;obtain⟨u,rfl,ru⟩:=vals1 r1;have ug:∀y∈scope.names,y.2=.free->∃c,X.env.cells.lookup y.1=some c:=λ y hy hf=>I1.ok.has y.1 (B.free y hy hf);obtain⟨cl,xo,kK,wb⟩:=lB ug;refine kws_cons (d! (A3 h1 h2 h3 h4 y? xo I1) λ w s2 ⟨f,c',pm,sO,H2,ew,I2,C!,LA⟩=>?_);subst ew;refine kws_cons (Constant_none (kws_nil ?_));obtain⟨q,vs,rfl,hq,tt⟩:=(d1.up C!).lst;cases ru;have TU:RE X.K H2 σ ρ:=(r.up sm).up C!;refine J' (St:=λ H s=>D! X pins (kJ nm) params body scope cl H s f c' pm sO) hc (λ H5 s5 u5 v5 d5 k5 I5 FT yy IL J_ VL=>?_) ⟨λ _ _ st=>st.off,λ H5 H6 s5 s6 I5 yy FT Vf US=>⟨yy.off.up Vf,US _ yy.obj,FT _ _ yy.code⟩⟩ I2 LA ⟨_,LA.obj⟩ hq tt e λ v' H' s' d'=>k v' H' ((sm.trans C!).trans s') d';exact A4 (x:=y) hc rj B HZ y! G' (λ u=>oj _ _ _ _ _ u) kK wb he yy I5 (TU.up FT) IL J_ VL
 ·cases e
end
theorem Fg(a k:Value):argsOk "min" ⟨[a],[(Str.ofString "key",k)]⟩:=by unfold argsOk;kernel_rfl
theorem CV(k:Value):Builtin.Builtins.bindParams "min" ["key", "default"] 0 ⟨[],[(Str.ofString "key",k)]⟩=pure [some k,none]:=by kernel_rfl
section
variable {X:Cx}{pins:List (Addr×Obj)}{σ:St}{H:Hp}{s:Shared}{l f:Addr}{vs:List V}{St:Hp->Shared->Prop}{e:Z.D->Z.Res Int}{ds:List Z.D}{r:Z.D}{Q:VK}
theorem J9(hcalm:X.calm=true)(KO:BG X pins σ H f St e)(SY:HJ X pins σ f St)(Iv:Inv X pins σ H s)(st:St H s)(gf:∃o,s.heap.get? f=some o)(hl:i? X.K H l vs)(dn:aG X.K H ds vs)(ek:Z.pickK false .bad e ds=.ok r)
  (k:∀v H',aI H H'->Den X.K H' r v->Q v H'):wpAny (model X.prog X.w) X.A (call (.builtin "min") [.ref l] ([(Str.ofString "key",.ref f)])) (EP X pins σ Q) X.xe s:=by
 have nm:(toString "min" ++ toString ".loop" : String) = "min.loop" := by decide
 have hlen:=dn.length;obtain⟨fo,gf⟩:=gf;obtain⟨aY,rv,pl,hz⟩:=Iv.list hl;refine kmk_tree PySem.F.kind_min PySem.F.plain_min PySem.F.entry_min (Fg _ _) ?_;show wpAny (model X.prog X.w) X.A.in1 (Builtin.Builtins.bindParams "min" ["key", "default"] 0 ⟨[],[(Str.ofString "key",.ref f)]⟩ >>= _) _ _ s;rw[CV];refine wpAny_bind (wpAny_pure (wpAny_bind (wpAny_pure (wpAny_bind (wpAny_pyIter_list pl.isList ?_)))));refine wpAny_bind (wpAny_newObj_type ?_);rw[nm];generalize Cw:s.heap.push { cls:=.type "list_iterator",data:=.fields #[.ref l,.int 0 0] }=HH;have hS:HH.objs.size=s.heap.objs.size+1:=by rw[<-Cw,Heap.size_push]
 have Qu:HH.get? s.heap.objs.size=some { cls:=.type "list_iterator",data:=.fields #[.ref l,.int 0 0] }:=by rw[<-Cw];exact Heap.get?_push_size _ rfl
 have JB:∀b o,s.heap.get? b=some o->(HH.push { cls:=.type "list",data:=.seq ([]:List Value).toArray }).get? b=some o:=λ b o e=>Heap.get?_push_of_some _ (by rw[<-Cw];exact Heap.get?_push_of_some _ e);have I1:Inv X pins σ H { s with heap:=HH.push { cls:=.type "list",data:=.seq ([]:List Value).toArray } }:=Iv.kept (t':=s.toks) JB;have oI:Off X pins H s.heap.objs.size:=Off.fresh Iv (Nat.le_refl _) (Iv.dW.fresh (Nat.le_refl _));have oS:Off X pins H HH.objs.size:=Off.fresh Iv (by rw[hS];exact Nat.le_succ _) (Iv.dW.fresh (by rw[hS];exact Nat.le_succ _));have rm:HH.objs.size≠s.heap.objs.size:=by rw[hS];exact Nat.ne_of_gt (Nat.lt_succ_self _)
 have Ct:f≠s.heap.objs.size:=Nat.ne_of_lt (Heap.lt_size gf);have Cs:f≠HH.objs.size:=by rw[hS];exact Nat.ne_of_lt (Nat.lt_succ_of_lt (Heap.lt_size gf))
 have gS:(HH.push { cls:=.type "list",data:=.seq ([]:List Value).toArray }).get? HH.objs.size=some { cls:=.type "list",data:=.seq ([]:List Value).toArray }:=Heap.get?_push_size _ rfl;have gI:(HH.push { cls:=.type "list",data:=.seq ([]:List Value).toArray }).get? s.heap.objs.size=some { cls:=.type "list_iterator",data:=.fields #[.ref l,.int 0 0] }:=Heap.get?_push_of_some _ Qu;have z5:St H { s with heap:=HH.push { cls:=.type "list",data:=.seq ([]:List Value).toArray } }:=SY.un H H s _ Iv st (aI.refl H) (SY.off H s st).free λ o e=>JB f o e;have J5:=JB f fo gf;generalize W_:HH.objs.size=S at oS rm Cs gS;generalize Xb:s.heap.objs.size=I at oI rm Ct gI;generalize hs1:({ s with heap:=HH.push { cls:=.type "list",data:=.seq ([]:List Value).toArray } }:Shared)=s1 at I1 z5;have e1:HH.push { cls:=.type "list",data:=.seq ([]:List Value).toArray }=s1.heap:=by rw[<-hs1]
 rw[e1]at gS gI J5;refine wpAny_pure ⟨plainId_quiet PySem.F.plain_min_loop _,?_⟩;refine codeAny_builtin PySem.F.entry_min_loop ?_;rw[Around.under_plainId PySem.F.plain_min_loop _];show wpAny (model X.prog X.w) X.A.in1 (seqItems? (.ref S) >>= _) _ _ _;cases ds with
 | nil =>cases ek
 | cons d0 dr =>unfold Z.pickK at ek;obtain⟨k0,VM,ek⟩:=Z.Res.az ek;refine wpAny_bind (wpAny_seqItems gS rfl (wpAny_bind (wpAny_tryCatch (lS (j:=0) hcalm I1 hl ⟨_,gI,rfl,rfl⟩ oI (by simp at hlen;lia) λ u v1 h1 t1 A7 BJ I2 JN k1=>?_))));have g1:=k1 S _ rm gS;obtain⟨oi,Hc,rI⟩:=id JN;obtain⟨v',v!,dv⟩:=dn.get (i:=0) (d:=d0) rfl;rw[A7]at v!;cases v!;have Ee:St H { s1 with heap:=h1,toks:=t1 }:=SY.un H H s1 _ I1 z5 (aI.refl H) (SY.off H s1 z5).free λ o e=>k1 f o Ct e;show wpAny (model X.prog X.w) X.A.in1 (tryCatch (holding [u] (call (.ref f) [u])) _ >>= _) _ _ _;refine wpAny_bind (wpAny_tryCatch (wpAny_holding (uU KO SY I2 (aI.refl H) Ee BJ dv VM oI oS Hc g1 ⟨fo,k1 f _ Ct J5⟩ λ t3 H3 s3 I3 Fs FP Uc Ew Vw Qs Vu=>?_)));show wpAny (model X.prog X.w) X.A.in1 (updateSeq S (λ _=>#[u,.int k0 t3]) >>= _) _ _ _;refine wpAny_bind (wpAny_updateSeq Qs rfl ?_);rw[nm];have kp:∀b o,b≠S->s3.heap.get? b=some o->(s3.heap.update S (Obj.mapSeq λ _=>#[u,.int k0 t3])).get? b=some o:=λ b o hb e=>(Heap.get?_update_other _ _ (Ne.symm hb)).trans e;have I4:=I3.turned (t':=s3.toks) kp Ew.free Ew.loc (.inr Ew.new) Ew.cell Ew.pin;exact wpAny_pure ⟨plainId_quiet PySem.F.plain_min_loop _,Cm hcalm KO SY rm Ct Cs hl dn (λ H5 s5 u5 v5 I5 FT IL J_=>⟨v5,H5,I5,IL,k v5 H5 FT J_⟩) dr.length 1 0 H3 _ k0 d0 (by simp;lia) rfl ek ⟨I4,Fs,⟨oi,kp _ _ (Ne.symm rm) Vw,rI⟩,Uc,Ew,u,v1,t3,_,A7,BJ,Heap.get?_update_self _ Qs rfl⟩ (SY.un H3 H3 s3 _ I3 FP (aI.refl H3) (SY.off H3 s3 FP).free λ o e=>kp f o Cs e) (let ⟨o,e⟩:=Vu;⟨o,kp f o Cs e⟩)⟩
end
section
variable {X:Cx}{a body:Expr}{fa fe:Z.EF}{pos:Pos}{N':List Str}{is:List Nat}{scope:Scope}{params:Arguments}
theorem zz{x nm y:Str}{p1 kp lp:Pos}(hL:wX X nm)(rj:X.A.in1.depth < recursionLimit)(hg:Gl X x)(hm:X.mg x=none)(hv:bootBuiltins x=some (.builtin "min"))(ha:DW X a fa)
  (B:lE X.N N' 1 is scope X.env.scope) (HZ:N'[0]?=some y) (he:∀cl f c' s H,DE (Ck X N' (kJ nm) scope cl f c' s H) body fe)
  (oj:∀(q:Str) (cl:List (Str×Addr)) (pm:Value) (c':Addr) (sO u:Value),bindArgs (kla_fn "<lambda>" q params body scope cl pm (.ref c') sO) ⟨[u],[]⟩=pure [(y,u)])
  (y?:defaultsOf params X.env=([],[]):=by rfl) (y!:scope.isGenerator=false:=by rfl) (G':scope.isCoroutine=false:=by rfl)
  (hc:X.calm=true:=by rfl) (hn:x ≠ "__name__" := by decide +kernel) (hdb:(x==("__debug__" : Str))=false:=by decide +kernel)
  (MD:starEach (a :: []) X.env=(false,eval a X.env) :: starEach [] X.env:=by rfl) (G!:backTo pos (starEach (a :: []) X.env)=(false,eval a X.env) :: backTo pos (starEach [] X.env):=by rfl) (hpl:(backTo pos (starEach (a :: []) X.env)).any (·.1)=false:=by rfl) :
  DE X (.Call (.Name x p1) [a] [⟨some (Str.ofString "key"),.Lambda params body scope lp,kp⟩] pos) (Z.zm false .bad fa is fe):=by
 intro pins s σ H Q I h;obtain⟨ρ,d,r,e,k⟩:=h;obtain⟨dx,ea,e⟩:=Z.Res.az e;obtain⟨c,P,h1,h2,h3,h4⟩:=hL;split at e
 ·rename_i ds;refine wpAny_Call_Name_kw (mw I hg hm hv ?_ hn hdb);refine callWith_kw ?_ G! hpl;refine d! (b9 ha dJ MD pos pins s σ H (λ vs H1=>∃v,vs=[v]∧aI H H1∧bQ X.K H1 (.lst ds) v) I ⟨ρ,_,r,ea,λ v H1 s1 d1=>⟨v,rfl,s1,d1⟩⟩) λ us s1 ⟨vs,H1,I1,r1,q1⟩=>?_;obtain⟨v,rfl,sm,d1⟩:=q1;obtain⟨u,rfl,ru⟩:=vals1 r1;have ug:∀y∈scope.names,y.2=.free->∃c,X.env.cells.lookup y.1=some c:=λ y hy hf=>I1.ok.has y.1 (B.free y hy hf);obtain⟨cl,xo,kK,wb⟩:=lB ug;refine kws_cons (d! (A3 h1 h2 h3 h4 y? xo I1) λ w s2 ⟨f,c',pm,sO,H2,ew,I2,C!,LA⟩=>?_);subst ew;refine kws_nil ?_;obtain⟨q,vs,rfl,hq,tt⟩:=(d1.up C!).lst;cases ru;have TU:RE X.K H2 σ ρ:=(r.up sm).up C!;refine J9 (St:=λ H s=>D! X pins (kJ nm) params body scope cl H s f c' pm sO) hc (λ H5 s5 u5 v5 d5 k5 I5 FT yy IL J_ VL=>?_) ⟨λ _ _ st=>st.off,λ H5 H6 s5 s6 I5 yy FT Vf US=>⟨yy.off.up Vf,US _ yy.obj,FT _ _ yy.code⟩⟩ I2 LA ⟨_,LA.obj⟩ hq tt e λ v' H' s' d'=>k v' H' ((sm.trans C!).trans s') d';exact A4 (x:=y) hc rj B HZ y! G' (λ u=>oj _ _ _ _ _ u) kK wb he yy I5 (TU.up FT) IL J_ VL
 ·cases e
end
end ZS
namespace ZS
open PySem PySem.Spec PyProof.Rows L2 PySem.W
theorem Ap{k:Nat}{A:Around}(r:eM (k+2) A)(env:PySem.Env):eM k (A.in1.deeper env):=(eM.in1 r).deeper env
theorem F2{k:Nat}{A:Around}(r:eM k A):A.in1.depth < recursionLimit:=r.depth
def Fn(K:Frag)(mg:Str->Option Value)(x:Str):Prop:=∃c P,tabIn K x=some (c,P)∧∀f fd oc od sl,mg x=some (.ref f)->K.lookup f=some ⟨oc,od,.func fd,sl⟩->fd.code=.ref c
theorem JA{K:Frag}{mg:Str->Option Value}{h:Heap}{x:Str}{c P:Addr}(X:K.In h)(G:h.Ns mainGlobals mg)(t:tabIn K x=some (c,P)):Fn K mg x:=⟨c,P,t,λ f fd oc od sl hm hl=>law_code X G t hm (X _ _ hl) rfl⟩
def Nm(K:Frag)(x:Str)(bP:Value):Prop:=∃c P,bP=.ref c∧tabIn K x=some (c,P)
theorem DB{CX:HN}{P:Program}{w:World}{K:Frag}{mg:Str->Option Value}{base:Heap}{N:List Str}{x:Str}{scope:Scope}{f:Addr}{cd:Value}{A:Around}{outer:List PySem.Env}{s:Shared}{H:Hp}{E:XK}(h:Nm K x cd)(hx:x∈di):
  wX (nD CX P w K mg base N x scope f cd A outer s H E).z8 x:=by
 obtain⟨c,p,e,t⟩:=h;exact⟨c,p,hx,t,e,rfl⟩
section
variable {P:Program}{w:World}{K:PySem.W.Frag}{mg:Str->Option Value}{base:Heap}
theorem Vz{x qual:Str}{st:Stmt}{f:Addr}{fd:FuncData}{N ps:List Str}{k:Nat}{b:Z.SF}(F:HM K x qual st f fd)(S:aA N ps (au st))
  (hb:∀ (A:Around) (outer:List PySem.Env) (s:Shared) (H:Hp) (E:XK),eM k (A.deeper (envOfC qual (au st) s.heap.objs.size f fd.code)) ->
   BI (nD tI P w K mg base N qual (au st) f fd.code A outer s H E).z8 H (bO st) b):nE P w K mg base tI (k+1) f fd ps (z6 K (Z.fn ps.length N.length b)):=by
 have hlen:∀(vs:List V)(H:Hp)(Q:VK)(E:XK),z6 K (Z.fn ps.length N.length b) vs H Q E->vs.length=ps.length:=λ vs H Q E ⟨ds,d,t,e,_⟩=>by
  unfold Z.fn at e;split at e
  ·rename_i h;rw[t.length];exact h
  ·cases e
 obtain⟨oc,od,kV,doc,pm,an,bP,ct,BL,rfl,lk,hcd⟩:=F.ex;refine Hh lk hcd S hlen λ A outer s H vs Q E hr h=>?_;refine⟨_,yp.z8 (hb A outer s H E hr),?_⟩;have hl:=hlen vs H Q E h;obtain⟨ds,d,t,e,k⟩:=h;have hpl:ps.length≤N.length:=by have:=congrArg List.length S.pre;rw[List.length_take]at this;lia
 have rs:RS K H H (L2.start N vs) (Z.start N.length ds):=rS t (by lia);unfold Z.fn at e;split at e
 ·cases eb:b (Z.start N.length ds)with
  | bad=>rw[eb]at e;cases e
  | ok fl =>
   rw[eb]at e;refine⟨_,fl,rs,eb,?_⟩;cases fl with
   | rt d'=>cases e;exact λ v H' s' dv=>k v H' s' dv
   | nx ρ'=>cases e;exact λ σ' H' _ HW=>k .non H' HW.same rM
   | bk ρ'=>cases e
   | ct ρ'=>cases e
 ·cases e
theorem VY{x:Str}{k:Nat}{st:Stmt}{N ps:List Str}{b:Z.SF}(d:Def K mg x st ps)(S:aA N ps (au st))(L:Fn K mg x)
  (hb:∀ (f:Addr) (bP:Value) (A:Around) (outer:List PySem.Env) (s:Shared) (H:Hp) (E:XK),Nm K x bP->eM k (A.deeper (envOfC x (au st) s.heap.objs.size f bP)) ->
   BI (nD tI P w K mg base N x (au st) f bP A outer s H E).z8 H (bO st) b):fK P w K mg base x (k+1) ps (Z.fn ps.length N.length b):=by
 obtain⟨f,fd,F,hm,EX⟩:=d.ex;obtain⟨c,p,t,hc⟩:=L;have Zd:fd.code=.ref c:=by obtain⟨oc,od,kV,doc,pm,an,bP,ct,BL,e,lk,hcd⟩:=F.ex;exact hc f fd _ _ _ hm lk
 exact⟨f,fd,Vz F S λ A outer s H E hr=>hb f fd.code A outer s H E ⟨c,p,Zd,t⟩ hr,hm,F.kp,EX⟩
end
end ZS
namespace ZQ
open PySem PySem.Spec PyProof.Rows L2 PySem.W ZS
section
variable {X:Cx}{a body:Expr}{fa fe:Z.EF}{pos:Pos}{N':List Str}{is:List Nat}{scope:Scope}{params:Arguments}
theorem zB{x nm y:Str}{p1 kp Ut lp cp:Pos}{jj:Nat}(hL:wX X nm)(rj:X.A.in1.depth < recursionLimit)(hg:Gl X x)(hm:X.mg x=none)(hv:bootBuiltins x=some (.builtin "max"))(ha:QW X a fa)
  (B:lE X.N N' 1 is scope X.env.scope) (HZ:N'[0]?=some y) (he:∀cl f c' s H,QE (Ck X N' (kJ nm) scope cl f c' s H) body fe)
  (oj:∀(q:Str) (cl:List (Str×Addr)) (pm:Value) (c':Addr) (sO u:Value),bindArgs (kla_fn "<lambda>" q params body scope cl pm (.ref c') sO) ⟨[u],[]⟩=pure [(y,u)])
  (y?:defaultsOf params X.env=([],[]):=by rfl) (y!:scope.isGenerator=false:=by rfl) (G':scope.isCoroutine=false:=by rfl)
  (hc:X.calm=true:=by rfl) (hn:x ≠ "__name__" := by decide +kernel) (hdb:(x==("__debug__" : Str))=false:=by decide +kernel)
  (MD:starEach (a :: []) X.env=(false,eval a X.env) :: starEach [] X.env:=by rfl) (G!:backTo pos (starEach (a :: []) X.env)=(false,eval a X.env) :: backTo pos (starEach [] X.env):=by rfl) (hpl:(backTo pos (starEach (a :: []) X.env)).any (·.1)=false:=by rfl) :
  QE X (.Call (.Name x p1) [a] [⟨some (Str.ofString "key"),.Lambda params body scope lp,kp⟩,⟨some (Str.ofString "default"),.Constant .none jj cp,Ut⟩] pos) (Z.zm true (.ok .non) fa is fe) :=
 ⟨ZS.zB hL rj hg hm hv ha.p B HZ (λ cl f c' s H=>(he cl f c' s H).p) oj y? y! G' hc hn hdb MD G! hpl⟩
theorem zz{x nm y:Str}{p1 kp lp:Pos}(hL:wX X nm)(rj:X.A.in1.depth < recursionLimit)(hg:Gl X x)(hm:X.mg x=none)(hv:bootBuiltins x=some (.builtin "min"))(ha:QW X a fa)
  (B:lE X.N N' 1 is scope X.env.scope) (HZ:N'[0]?=some y) (he:∀cl f c' s H,QE (Ck X N' (kJ nm) scope cl f c' s H) body fe)
  (oj:∀(q:Str) (cl:List (Str×Addr)) (pm:Value) (c':Addr) (sO u:Value),bindArgs (kla_fn "<lambda>" q params body scope cl pm (.ref c') sO) ⟨[u],[]⟩=pure [(y,u)])
  (y?:defaultsOf params X.env=([],[]):=by rfl) (y!:scope.isGenerator=false:=by rfl) (G':scope.isCoroutine=false:=by rfl)
  (hc:X.calm=true:=by rfl) (hn:x ≠ "__name__" := by decide +kernel) (hdb:(x==("__debug__" : Str))=false:=by decide +kernel)
  (MD:starEach (a :: []) X.env=(false,eval a X.env) :: starEach [] X.env:=by rfl) (G!:backTo pos (starEach (a :: []) X.env)=(false,eval a X.env) :: backTo pos (starEach [] X.env):=by rfl) (hpl:(backTo pos (starEach (a :: []) X.env)).any (·.1)=false:=by rfl) :
  QE X (.Call (.Name x p1) [a] [⟨some (Str.ofString "key"),.Lambda params body scope lp,kp⟩] pos) (Z.zm false .bad fa is fe) :=
 ⟨ZS.zz hL rj hg hm hv ha.p B HZ (λ cl f c' s H=>(he cl f c' s H).p) oj y? y! G' hc hn hdb MD G! hpl⟩
end
theorem Ld{P:Program}{w:World}{K:PySem.W.Frag}{mg:Str->Option Value}{base:Heap}{x:Str}{k:Nat}{st:Stmt}{N ps:List Str}{b:Z.SF}(d:ZS.Def K mg x st ps)(S:aA N ps (au st))(L:ZS.Fn K mg x)
  (hb:∀ (f:Addr) (bP:Value) (A:Around) (outer:List PySem.Env) (s:Shared) (H:Hp) (E:XK),ZS.Nm K x bP->eM k (A.deeper (envOfC x (au st) s.heap.objs.size f bP)) ->
   D9 (nD tI P w K mg base N x (au st) f bP A outer s H E).z8 H (bO st) b):ZS.fK P w K mg base x (k+1) ps (Z.fn ps.length N.length b) :=
 ZS.VY d S L λ f bP A outer s H E hl hr=>(hb f bP A outer s H E hl hr).p
end ZQ
namespace ZS
open PySem PySem.Spec PyProof.Rows L2 PySem.W
def cw(K:Frag)(n:Str)(st:Stmt):Prop:=∃(f:Addr)(od an:Option Addr)(sl:Array (Option Value))(oc kV dc pm cd ct:Value),nsIn K mainGlobals n=some (some (.ref f))∧K.lookup f=some ⟨oc,od,.func (fnOf n n (dm st) (bO st) (au st) .none kV dc pm an cd ct),sl⟩∧codeIn K cd n=true∧keepIn K (.ref f)=true
def fJ(K:Frag)(n:Str)(st:Stmt):Prop:=∃(f t:Addr)(od an td:Option Addr)(sl ts:Array (Option Value))(tn:Nat)(oc kV dc pm cd ct tc:Value),nsIn K mainGlobals n=some (some (.ref f))∧K.lookup f=some ⟨oc,od,.func (fnOf n n (dm st) (bO st) (au st) (.ref t) kV dc pm an cd ct),sl⟩∧codeIn K cd n=true∧keepIn K (.ref f)=true∧K.lookup t=some ⟨tc,td,.seq #[.none] tn,ts⟩
def uq(K:Frag)(n:Str)(st:Stmt):Prop:=cw K n st∧∃c p,tabIn K n=some (c,p)
section
variable {K:Frag}{n:Str}{st:Stmt}{h:Heap}{mg:Str->Option Value}{ps:List Str}
theorem cw.mk'{f:Addr}{od an:Option Addr}{sl:Array (Option Value)}{oc kV dc pm cd ct:Value}(a:nsIn K mainGlobals n=some (some (.ref f)))(l:K.lookup f=some ⟨oc,od,.func (fnOf n n (dm st) (bO st) (au st) .none kV dc pm an cd ct),sl⟩)(c:codeIn K cd n=true)(k:keepIn K (.ref f)=true):cw K n st:=⟨f,od,an,sl,oc,kV,dc,pm,cd,ct,a,l,c,k⟩
theorem fJ.mk'{f t:Addr}{od an td:Option Addr}{sl ts:Array (Option Value)}{tn:Nat}{oc kV dc pm cd ct tc:Value}(a:nsIn K mainGlobals n=some (some (.ref f)))(l:K.lookup f=some ⟨oc,od,.func (fnOf n n (dm st) (bO st) (au st) (.ref t) kV dc pm an cd ct),sl⟩)(c:codeIn K cd n=true)(k:keepIn K (.ref f)=true)(q:K.lookup t=some ⟨tc,td,.seq #[.none] tn,ts⟩):fJ K n st:=⟨f,t,od,an,td,sl,ts,tn,oc,kV,dc,pm,cd,ct,tc,a,l,c,k,q⟩
theorem uq.mk'{f cc pp:Addr}{od an td:Option Addr}{sl ts:Array (Option Value)}{tv:Array Value}{oc kV dc pm ct to:Value}(a:nsIn K mainGlobals n=some (some (.ref f)))(l:K.lookup f=some ⟨oc,od,.func (fnOf n n (dm st) (bO st) (au st) .none kV dc pm an (.ref cc) ct),sl⟩)(c:codeIn K (.ref cc) n=true)(k:keepIn K (.ref f)=true)(tl:K.lookup cc=some ⟨to,td,.fields tv,ts⟩)(tp:tv[11]?=some (.ref pp)):uq K n st:=⟨⟨f,od,an,sl,oc,kV,dc,pm,.ref cc,ct,a,l,c,k⟩,cc,pp,u! a l rfl tl tp⟩
theorem cw.df(d:cw K n st)(X:K.In h)(G:h.Ns mainGlobals mg)(hb:∀(kV doc pm:Value)(an:Option Addr)(bP ct:Value)(us:List Value),us.length=ps.length->bindArgs (fnOf n n (dm st) (bO st) (au st) .none kV doc pm an bP ct) ⟨us,[]⟩=pure (ps.zip us)):Def K mg n st ps:=by obtain⟨f,od,an,sl,oc,kV,dc,pm,cd,ct,a,l,c,k⟩:=d;have F:=He (st:=st) l c k;exact⟨f,_,F,mg_of X G a,F.binds hb⟩
theorem fJ.df(d:fJ K n st)(X:K.In h)(G:h.Ns mainGlobals mg)
  (h1:∀(t:Addr)(kV doc pm:Value)(an:Option Addr)(bP ct:Value)(us:List Value),us.length=ps.length->∃kk:Option (Array Value)->Sem (List (Str×Value)),bindArgs (fnOf n n (dm st) (bO st) (au st) (.ref t) kV doc pm an bP ct) ⟨us,[]⟩=seqItems? (.ref t) >>= kk∧kk (some #[.none])=pure (ps.zip us))
  (h2:∀(t:Addr)(kV doc pm:Value)(an:Option Addr)(bP ct:Value)(us:List Value),us.length+1=ps.length->∃kk:Option (Array Value)->Sem (List (Str×Value)),bindArgs (fnOf n n (dm st) (bO st) (au st) (.ref t) kV doc pm an bP ct) ⟨us,[]⟩=seqItems? (.ref t) >>= kk∧kk (some #[.none])=pure (ps.zip (us++[.none]))):s_ K mg n st ps:=by
 obtain⟨f,t,od,an,td,sl,ts,tn,oc,kV,dc,pm,cd,ct,tc,a,l,c,k,q⟩:=d;exact Kd l c k q (mg_of X G a) (h1 t kV dc pm an cd ct) (h2 t kV dc pm an cd ct)
theorem cw.law(d:cw K n st)(X:K.In h)(G:h.Ns mainGlobals mg){fa:Addr}(EV:mg n=some (.ref fa)){x:Str}(hb:∀(kV doc pm:Value)(an:Option Addr)(bP ct:Value)(s:Shared)(v:Value),BindsTo s (fnOf n n (dm st) (bO st) (au st) .none kV doc pm an bP ct) ⟨[v],[]⟩ [(x,v)]):∃fd:FuncData,(∀(s:Shared)(v:Value),BindsTo s fd ⟨[v],[]⟩ [(x,v)])∧HM K n n st fa fd:=by obtain⟨f,od,an,sl,oc,kV,dc,pm,cd,ct,a,l,c,k⟩:=d;have e:=EV.symm.trans (mg_of X G a);cases e;exact⟨_,hb kV dc pm an cd ct,He (st:=st) l c k⟩
theorem uq.lam(d:uq K n st)(X:K.In h)(G:h.Ns mainGlobals mg):Fn K mg n:=let ⟨c,p,t⟩:=d.2;JA X G t
end
end ZS
namespace ZQ
open PySem PySem.Spec L2
def Pp(sc:Scope)(x:Str):Bool:=match sc.names.lookup x with
 | some .local=>true
 | some .cell=>true
 | _=>false
theorem lo{sc:Scope}{x:Str}(h:Pp sc x=true):Loc sc x:=by
 unfold Pp at h;split at h
 ·rename_i e;exact .inl e
 ·rename_i e;exact .inr e
 ·cases h
end ZQ
namespace ZS
open PySem PySem.Spec PyProof.Rows L2
def C1(op:CmpOp)(A:Around)(s:Shared)(u v:Value)(k:Bool):Prop:=∀(prog:Program)(w:World)(E Q:Value->Shared->Prop),Q (.bool k) s->wpAny (model prog w) A (richCompare op u v) Q E s
def pZ(e lt:Nat->Bool)(fin:Bool):List Nat->Bool
 | []=>fin
 | i :: r=>if e i=true then pZ e lt fin r else lt i
section
open PySem.SeqAt
open PySem.AutoSeq1 (wpAny_loadPart')
open PySem.MeetsSeq PySem.MeetsSeq2 PySem.MeetsSeq3
theorem BP(l b : Addr)(items cq : Array Value)(n n2 : Nat)(dd Ie : Option Addr)(sl HU : Array (Option Value))(e lt : Nat -> Bool):
  Meets (Builtin.«tuple.__lt__» ⟨[.ref l,.ref b],[]⟩)
   (λ A R s=>s.heap.get? l=some { cls:=.type "tuple",dict:=dd,data:=.seq items n,slots:=sl }∧s.heap.get? b=some { cls:=.type "tuple",dict:=Ie,data:=.seq cq n2,slots:=HU } ∧
    (∀j (h1:j < items.size) (h2:j < cq.size),EqAt A.in1 s items[j] cq[j] (e j))∧(∀j (h1:j < items.size) (h2:j < cq.size),e j=false->(∀i,i < j->e i=true)->C1 .Lt A.in1 s items[j] cq[j] (lt j)) ∧
    R (.ok (.ret (.bool (pZ e lt (decide (items.size < cq.size)) (List.range (min items.size cq.size)))))) s) :=
 .of_wp λ prog w A R s h=>by
  obtain⟨hp,g,d,tk,os⟩:=s;obtain⟨hl,hb,he,hc,h⟩:=h;have f2:=AutoSeq1.sub_tuple_tuple;have hZ:(items.toList.zip cq.toList).length=min items.size cq.size:=by simp
  wp_walk using wpAny_loadPart' hl,wpAny_loadPart' hb,wpAny_forIn_list _ (λ rest b s'=>b.1=none∧s'=⟨hp,g,d,tk,os⟩∧∃i,rest=(items.toList.zip cq.toList).drop i∧(∀k,k < i->e k=true) ∧
   R (.ok (.ret (.bool (pZ e lt (decide (items.size < cq.size)) ((List.range (min items.size cq.size)).drop i))))) ⟨hp,g,d,tk,os⟩) _
  case turn =>
   rintro⟨y,x⟩ rest b s' ⟨EX,rfl,i,hz,H_,hR⟩;have l4:i < (items.toList.zip cq.toList).length:=by
    rcases Nat.lt_or_ge i (items.toList.zip cq.toList).length with h' | h'
    ·exact h'
    ·rw[List.drop_of_length_le h']at hz;cases hz
   have hm:i < min items.size cq.size:=hZ▸l4;have h1:i < items.size:=Nat.lt_of_lt_of_le hm (Nat.min_le_left _ _);have h2:i < cq.size:=Nat.lt_of_lt_of_le hm (Nat.min_le_right _ _);rw[List.drop_eq_getElem_cons l4]at hz;injection hz with WU PZ
   have hy:y=items[i]:=by have:=congrArg Prod.fst WU;simpa using this
   have hx:x=cq[i]:=by have:=congrArg Prod.snd WU;simpa using this
   subst hy hx;have hd:(List.range (min items.size cq.size)).drop i=i :: (List.range (min items.size cq.size)).drop (i+1):=by simp[List.drop_eq_getElem_cons,hm]
   rw[hd]at hR;unfold pZ at hR;refine wpAny_bind (he i h1 h2 prog w _ _ ?_);cases hy:e i with
   | true =>
    rw[hy,if_pos rfl]at hR
    wp_walk
    exact⟨rfl,rfl,i+1,PZ,λ k hk=>by
     rcases Nat.lt_or_ge k i with z | z
     ·exact H_ k z
     ·rw[show k=i by lia];exact hy,hR⟩
   | false =>
    rw[hy,if_neg (by decide)]at hR;have YV:=λ E Q hq=>hc i h1 h2 hy H_ prog w E Q hq
    wp_walk using YV
    exact⟨_,rfl,by simpa using hR⟩
  case fin =>
   rintro⟨b1,b2⟩ s' ⟨EX,rfl,i,hz,_,hR⟩;simp only at EX;subst EX;have JX:min items.size cq.size≤i:=by
    rcases Nat.lt_or_ge i (items.toList.zip cq.toList).length with h' | h'
    ·rw[List.drop_eq_getElem_cons h']at hz;cases hz
    ·exact hZ▸h'
   rw[List.drop_of_length_le (by simpa using JX)]at hR;unfold pZ at hR
   wp_walk
   exact⟨_,rfl,by simpa[Builtin.Tuple.tupleCompareSizes]using hR⟩
  case h =>exact⟨rfl,rfl,0,rfl,λ k hk=>absurd hk (Nat.not_lt_zero _),by simpa using h⟩
end
theorem C1.EK{A:Around}{s:Shared}{l b:Addr}{items cq:Array Value}{e lt:Nat->Bool}(hl:s.heap.IsTuple l items)(hb:s.heap.IsTuple b cq)(hu:A.units < cLine)
  (he:∀j (h1:j < items.size) (h2:j < cq.size),SeqAt.EqAt A.in1 s items[j] cq[j] (e j)) (hc:∀j (h1:j < items.size) (h2:j < cq.size),e j=false->(∀i,i < j->e i=true)->C1 .Lt A.in1 s items[j] cq[j] (lt j)) :
  C1 .Lt A s (.ref l) (.ref b) (pZ e lt (decide (items.size < cq.size)) (List.range (min items.size cq.size))):=λ prog w E Q h=>by
 obtain⟨⟨cls,dd,data,sl⟩,ho,W9,n,hd⟩:=id hl;obtain⟨⟨Nb,Ie,data2,HU⟩,Cq,wc,n2,hd2⟩:=id hb;simp only at W9 hd wc hd2;subst W9 hd wc hd2;exact richCompare_meets_room (op:=.Lt) ⟨_,ho,rfl⟩ ⟨_,Cq,rfl⟩ F.slot_tuple_lt F.entry_tuple_lt (F.args_tuple_lt_2 _ _) (BP l b items cq n n2 dd Ie sl HU e lt)
  ⟨ho,Cq,he,hc,show Value.bool _≠Value.notImplemented∧Q (.bool _) s from⟨(λ x=>nomatch x),h⟩⟩ hu
section
open PySem.SeqAt
open PySem.AutoSeq1 (wpAny_loadPart')
open PySem.MeetsSeq PySem.MeetsSeq2 PySem.MeetsSeq3
end
section
variable {X:Cx}
def ltAt(f:Z.D->Z.D->Option Bool)(as bs:List Z.D)(j:Nat):Bool:=match as[j]?,bs[j]? with
 | some x,some y=>(f x y).getD false
 | _,_=>false
theorem B3(e lt:Nat->Bool)(fin:Bool):∀(n k:Nat),pZ e lt fin ((List.range n).map (·+(k+1)))=pZ (λ j=>e (j+1)) (λ j=>lt (j+1)) fin ((List.range n).map (·+k)):=by
 intro n k;generalize List.range n=l
 induction l with
 | nil=>rfl
 | cons i l ih =>simp only[List.map_cons,pZ];rw[ih];rfl
theorem Aq{le : Bool}{eq lt : Z.D -> Z.D -> Option Bool}: ∀{as bs : List Z.D}{k : Bool}, Z.zI le eq lt as bs = some k -> (∀(j : Nat)(x y : Z.D), as[j]? = some x -> bs[j]? = some y -> ∃z, eq x y = some z) ->
  pZ (w5 eq as bs) (ltAt lt as bs) (if le then decide (as.length≤bs.length)else decide (as.length < bs.length)) (List.range (min as.length bs.length))=k ∧
   ∀(j:Nat)(x y:Z.D),as[j]?=some x->bs[j]?=some y->w5 eq as bs j=false->(∀i,i < j->w5 eq as bs i=true)->∃z,lt x y=some z∧ltAt lt as bs j=z
 | [],[],k,h,_=>by cases h;cases le<;>simp[pZ]
 | [],b :: bs,k,h,_=>by cases h;cases le<;>simp[pZ]
 | a :: as,[],k,h,_=>by cases h;cases le<;>simp[pZ]
 | a :: as,b :: bs,k,h,hc=>by
  obtain⟨z,hz⟩:=hc 0 a b rfl rfl;have UY:min (a :: as).length (b :: bs).length=min as.length bs.length+1:=by simp only[List.length_cons];lia
  have Ve:(if le then decide ((a :: as).length≤(b :: bs).length)else decide ((a :: as).length < (b :: bs).length))=if le then decide (as.length≤bs.length)else decide (as.length < bs.length):=by cases le<;>simp
  have e0:w5 eq (a :: as) (b :: bs) 0=z:=by simp[w5,hz]
  have es:∀j,w5 eq (a :: as) (b :: bs) (j+1)=w5 eq as bs j:=λ j=>by simp[w5]
  have ls:∀j,ltAt lt (a :: as) (b :: bs) (j+1)=ltAt lt as bs j:=λ j=>by simp[ltAt]
  have hr:List.range (min as.length bs.length+1)=0 :: (List.range (min as.length bs.length)).map (·+1):=by rw[List.range_succ_eq_map]
  rw[UY,Ve,hr];unfold Z.zI at h;rw[hz]at h;cases z with
  | true =>
   obtain⟨h1,h2⟩:=Aq (as:=as) (bs:=bs) h λ j x y ex ey=>hc (j+1) x y (by simpa using ex) (by simpa using ey);refine⟨?_,λ j x y ex ey ef eb=>?_⟩
   ·unfold pZ;rw[e0,if_pos rfl];have:=B3 (w5 eq (a :: as) (b :: bs)) (ltAt lt (a :: as) (b :: bs)) (if le then decide (as.length≤bs.length)else decide (as.length < bs.length)) (min as.length bs.length) 0;rw[Nat.zero_add]at this;rw[this,show(λ j=>w5 eq (a :: as) (b :: bs) (j+1))=w5 eq as bs from funext es,show(λ j=>ltAt lt (a :: as) (b :: bs) (j+1))=ltAt lt as bs from funext ls];simpa using h1
   ·cases j with
    | zero=>rw[e0]at ef;cases ef
    | succ j =>rw[ls];exact h2 j x y (by simpa using ex) (by simpa using ey) (by rw[<-es];exact ef) λ i hi=>by rw[<-es];exact eb (i+1) (by lia)
  | false =>
   refine⟨?_,λ j x y ex ey ef eb=>?_⟩
   ·unfold pZ;rw[e0,if_neg (by decide)];simp[ltAt,h]
   ·cases j with
    | zero =>simp at ex ey;subst ex ey;exact⟨k,h,by simp[ltAt,h]⟩
    | succ j =>have:=eb 0 (by lia);rw[e0]at this;cases this
theorem Uo{pins : List (Addr × Obj)}{σ : St}{H : Hp}{s : Shared}(I : Inv X pins σ H s): ∀(n : Nat){A : Around}{d1 d2 : Z.D}{v1 v2 : V}{u1 u2 : Value}{k : Bool}, A.units + 2 * n + 2 < cLine -> Z.k3 false n d1 d2 = some k -> Den X.K H d1 v1 -> Den X.K H d2 v2 -> RelV v1 u1 -> RelV v2 u2 -> C1 .Lt A s u1 u2 k := by
 intro n
 induction n with
 | zero =>
  intro A d1 d2 v1 v2 u1 u2 k hu h h1 h2 r1 r2;unfold Z.k3 at h;split at h
  ·rename_i a b;cases h;simp only[Den]at h1 h2;subst h1 h2;obtain⟨t1,rfl⟩:=r1;obtain⟨t2,rfl⟩:=r2;intro prog w E Q hq;exact(PyProof.Rows.lt_int hq:wpAny (model prog w) A (compareOp .Lt (.int a t1) (.int b t2)) Q E s)
  ·rename_i e;cases e
  ·cases h
 | succ n ih =>
  intro A d1 d2 v1 v2 u1 u2 k hu h h1 h2 r1 r2;unfold Z.k3 at h;split at h
  ·rename_i a b;cases h;simp only[Den]at h1 h2;subst h1 h2;obtain⟨t1,rfl⟩:=r1;obtain⟨t2,rfl⟩:=r2;intro prog w E Q hq;exact(PyProof.Rows.lt_int hq:wpAny (model prog w) A (compareOp .Lt (.int a t1) (.int b t2)) Q E s)
  ·rename_i m as bs e;cases e;split at h
   ·rename_i kk hall;simp only[Den]at h1 h2;obtain⟨p1,vs,rfl,q1,t1⟩:=h1;obtain⟨p2,ws,rfl,q2,t2⟩:=h2;cases r1;cases r2;obtain⟨aY,ra,l1,_⟩:=I.tuple q1;obtain⟨e?,rb,l2,_⟩:=I.tuple q2;have la:=t1.length;have lb:=t2.length;have OB:=ra.length;have RU:=rb.length;have all:=(lZ hall).2;obtain⟨e1,e2⟩:=Aq h λ j x y ex ey=>⟨_,all j x y ex ey⟩
    have Yc:aY.toArray.size=as.length:=by rw[List.size_toArray];lia
    have Yb:e?.toArray.size=bs.length:=by rw[List.size_toArray];lia
    have hit:=vY I n (A:=A.in1) (by show A.units+1+n < cLine;lia) (λ hu=>Nt I n hu) hall t1 t2 ra rb;have R:=C1.EK (A:=A) (s:=s) (e:=w5 (Z.dC n) as bs) (lt:=ltAt (Z.k3 false n) as bs) l1 l2 (by lia) hit (λ j P? P! ef eb=>by
     simp only[List.size_toArray]at P? P!;obtain⟨x,ex⟩:∃x,as[j]?=some x:=⟨as[j]'(by lia),List.getElem?_eq_getElem (by lia)⟩
     obtain⟨y,ey⟩:∃y,bs[j]?=some y:=⟨bs[j]'(by lia),List.getElem?_eq_getElem (by lia)⟩
     obtain⟨vx,QD,dx⟩:=t1.get ex;obtain⟨vy,Ib,dy⟩:=t2.get ey;obtain⟨ux,VD,rx⟩:=ra.get QD;obtain⟨uy,VC,ry⟩:=rb.get Ib;have FD:aY.toArray[j]=ux:=by have:=List.getElem?_eq_getElem P?;rw[VD]at this;simpa using(Option.some.inj this).symm
     have FC:e?.toArray[j]=uy:=by have:=List.getElem?_eq_getElem P!;rw[VC]at this;simpa using(Option.some.inj this).symm
     rw[FD,FC];obtain⟨z,hz,My⟩:=e2 j x y ex ey ef eb;rw[My];exact ih (by show A.units+1+2*n+2 < cLine;lia) hz dx dy rx ry)
    rw[Yc,Yb]at R;simp only[Bool.false_eq_true,if_false]at e1;rw[e1]at R;exact R
   ·cases h
  ·cases h
end
end ZS
namespace ZS
open PySem PySem.Spec PyProof.Rows L2 PySem.W
structure KL0(X:Cx)(pins:List (Addr×Obj))(σ:St)(H:Hp)(l I S:Addr)(s:Shared)(j:Nat)(db:Z.D):Prop where
 inv:Inv X pins σ H s
 it:s.heap.IsListIter I l j
 vG:Off X pins H I
 jg:Off X pins H S
 best:∃b v c,Den X.K H db v∧RelV v b∧s.heap.get? S=some (held b b c)
section
variable {X:Cx}{pins:List (Addr×Obj)}{σ:St}{H:Hp}{l I S:Addr}{vs:List V}{kw:List (Str×Value)}{ds:List Z.D}{r:Z.D}{R:Result->Shared->Prop}
theorem Mn(hcalm : X.calm = true)(hu : X.A.units + 64 < cLine)(rm : S ≠ I)(hl : i? X.K H l vs)(dn : aG X.K H ds vs)
  (fin:∀s u v,Inv X pins σ H s->RelV v u->Den X.K H r v->R (.ok (.ret u)) s) :
  ∀(n j:Nat)(s:Shared)(db:Z.D),ds.length=j+n->Z.y_ db (ds.drop j)=.ok r->KL0 X pins σ H l I S s j db ->
   codeAny (model X.prog X.w) X.A (.builtin "min.loop" ⟨[.ref I,.none,.ref S],kw⟩) R s:=by
 have nm:(toString "min" ++ toString ".loop" : String) = "min.loop" := by decide
 have hlen:=dn.length;intro n
 induction n with
 | zero =>
  intro j s db hn eg L;obtain⟨b,v,c,dv,rb,gS⟩:=L.best;refine codeAny_builtin PySem.F.entry_min_loop ?_;rw[Around.under_plainId PySem.F.plain_min_loop _];show wpAny (model X.prog X.w) X.A.in1 (seqItems? (.ref S) >>= _) _ _ s;refine wpAny_bind (wpAny_seqItems gS rfl (wpAny_bind (wpAny_tryCatch (rh hcalm L.inv hl L.it L.vG (by lia) λ h1 t1 I1 k1=>?_))));have g1:=k1 S _ rm gS;show wpAny (model X.prog X.w) X.A.in1 (updateSeq S (λ _=>#[]) >>= _) _ _ _;refine wpAny_bind (wpAny_updateSeq g1 rfl (wpAny_bind (wpAny_letGo (wpAny_pure ?_))));have hr:db=r:=by rw[List.drop_eq_nil_of_le (by lia)]at eg;unfold Z.y_ at eg;cases eg;rfl
  subst hr;exact fin _ b v (I1.turned (t':=t1) (λ b o hb e=>(Heap.get?_update_other _ _ (Ne.symm hb)).trans e) L.jg.free L.jg.loc (.inr L.jg.new) L.jg.cell L.jg.pin) rb dv
 | succ n ih =>
  intro j s db hn eg L;obtain⟨b,v,c,dv,rb,gS⟩:=L.best;have hj:j < ds.length:=by lia
  obtain⟨dj,EW⟩:∃d,ds[j]?=some d:=⟨ds[j],by simp[hj]⟩
  have rl:ds.drop j=dj :: ds.drop (j+1):=by
   rw[List.drop_eq_getElem_cons hj];have:ds[j]=dj:=by have:=List.getElem?_eq_getElem hj;rw[this]at EW;exact Option.some.inj EW
   rw[this]
  rw[rl]at eg;unfold Z.y_ at eg;refine codeAny_builtin PySem.F.entry_min_loop ?_;rw[Around.under_plainId PySem.F.plain_min_loop _];show wpAny (model X.prog X.w) X.A.in1 (seqItems? (.ref S) >>= _) _ _ s;refine wpAny_bind (wpAny_seqItems gS rfl (wpAny_bind (wpAny_tryCatch (lS hcalm L.inv hl L.it L.vG (by lia) λ u v1 h1 t1 A7 BJ I1 NI k1=>?_))));have g1:=k1 S _ rm gS;obtain⟨v',v!,XB⟩:=dn.get EW;rw[A7]at v!;cases v!;have cmp:∀k,Z.k3 false 6 dj db=some k->C1 .Lt X.A.in1 { s with heap:=h1,toks:=t1 } u b k:=λ k ek=>Uo I1 6 (A:=X.A.in1) (by show X.A.units+1+2*6+2 < cLine;lia) ek XB dv BJ rb;refine wpAny_bind (wpAny_pure ?_);show wpAny (model X.prog X.w) X.A.in1 (tryCatch (holding [u,u] (richCompare .Lt u b >>= _)) _ >>= _) _ _ _;split at eg
  ·rename_i ek;refine wpAny_bind (wpAny_tryCatch (wpAny_holding (wpAny_bind (cmp true ek X.prog X.w _ _ (wpAny_bind (wpAny_holding (wpAny_truthy_bool (wpAny_bind (wpAny_letGo (wpAny_pure ?_))))))))));simp only[if_true];refine wpAny_bind (wpAny_updateSeq g1 rfl (wpAny_bind (wpAny_letGo ?_)));rw[nm];have kp:∀b o,b≠S->h1.get? b=some o->(h1.update S (Obj.mapSeq λ _=>#[u,u])).get? b=some o:=λ b o hb e=>(Heap.get?_update_other _ _ (Ne.symm hb)).trans e;have I3:=I1.turned (t':=t1) kp L.jg.free L.jg.loc (.inr L.jg.new) L.jg.cell L.jg.pin;obtain⟨oI,gI,rI⟩:=id NI;exact wpAny_pure ⟨plainId_quiet PySem.F.plain_min_loop _,ih (j+1) _ dj (by lia) eg ⟨I3,⟨oI,kp I _ (Ne.symm rm) gI,rI⟩,L.vG,L.jg,u,v1,_,XB,BJ,Heap.get?_update_self _ g1 rfl⟩⟩
  ·rename_i ek;refine wpAny_bind (wpAny_tryCatch (wpAny_holding (wpAny_bind (cmp false ek X.prog X.w _ _ (wpAny_bind (wpAny_holding (wpAny_truthy_bool (wpAny_bind (wpAny_letGo (wpAny_pure ?_))))))))));simp only[Bool.false_eq_true,if_false];refine wpAny_bind (wpAny_letGo ?_);rw[nm];exact wpAny_pure ⟨plainId_quiet PySem.F.plain_min_loop _,ih (j+1) _ db (by lia) eg ⟨I1,NI,L.vG,L.jg,b,v,c,dv,rb,g1⟩⟩
  ·cases eg
theorem Fi(a:Value):argsOk "min" ⟨[a],[]⟩:=by unfold argsOk;kernel_rfl
theorem CY:Builtin.Builtins.bindParams "min" ["key", "default"] 0 ⟨[],[]⟩=pure [none,none]:=by kernel_rfl
theorem GJ{s:Shared}{Q:VK}(hcalm:X.calm=true)(hu:X.A.units+64 < cLine)(Iv:Inv X pins σ H s)(hl:i? X.K H l vs)(dn:aG X.K H ds vs)(ek:Z.xR (.lst ds)=.ok r)
  (k:∀v,Den X.K H r v->Q v H):wpAny (model X.prog X.w) X.A (call (.builtin "min") [.ref l] []) (EP X pins σ Q) X.xe s:=by
 have nm:(toString "min" ++ toString ".loop" : String) = "min.loop" := by decide
 have hlen:=dn.length;obtain⟨aY,rv,pl,hz⟩:=Iv.list hl;refine kmk_tree PySem.F.kind_min PySem.F.plain_min PySem.F.entry_min (Fi _) ?_;show wpAny (model X.prog X.w) X.A.in1 (Builtin.Builtins.bindParams "min" ["key", "default"] 0 ⟨[],[]⟩ >>= _) _ _ s;rw[CY];refine wpAny_bind (wpAny_pure (wpAny_bind (wpAny_pure (wpAny_bind (wpAny_pyIter_list pl.isList ?_)))));refine wpAny_bind (wpAny_newObj_type ?_);rw[nm];generalize Cw:s.heap.push { cls:=.type "list_iterator",data:=.fields #[.ref l,.int 0 0] }=HH;have hS:HH.objs.size=s.heap.objs.size+1:=by rw[<-Cw,Heap.size_push]
 have Qu:HH.get? s.heap.objs.size=some { cls:=.type "list_iterator",data:=.fields #[.ref l,.int 0 0] }:=by rw[<-Cw];exact Heap.get?_push_size _ rfl
 have JB:∀b o,s.heap.get? b=some o->(HH.push { cls:=.type "list",data:=.seq ([]:List Value).toArray }).get? b=some o:=λ b o e=>Heap.get?_push_of_some _ (by rw[<-Cw];exact Heap.get?_push_of_some _ e);have I1:Inv X pins σ H { s with heap:=HH.push { cls:=.type "list",data:=.seq ([]:List Value).toArray } }:=Iv.kept (t':=s.toks) JB;have oI:Off X pins H s.heap.objs.size:=Off.fresh Iv (Nat.le_refl _) (Iv.dW.fresh (Nat.le_refl _));have oS:Off X pins H HH.objs.size:=Off.fresh Iv (by rw[hS];exact Nat.le_succ _) (Iv.dW.fresh (by rw[hS];exact Nat.le_succ _));have rm:HH.objs.size≠s.heap.objs.size:=by rw[hS];exact Nat.ne_of_gt (Nat.lt_succ_self _)
 have gS:(HH.push { cls:=.type "list",data:=.seq ([]:List Value).toArray }).get? HH.objs.size=some { cls:=.type "list",data:=.seq ([]:List Value).toArray }:=Heap.get?_push_size _ rfl;have gI:(HH.push { cls:=.type "list",data:=.seq ([]:List Value).toArray }).get? s.heap.objs.size=some { cls:=.type "list_iterator",data:=.fields #[.ref l,.int 0 0] }:=Heap.get?_push_of_some _ Qu;generalize W_:HH.objs.size=S at oS rm gS;generalize Xb:s.heap.objs.size=I at oI rm gI;generalize hs1:({ s with heap:=HH.push { cls:=.type "list",data:=.seq ([]:List Value).toArray } }:Shared)=s1 at I1;have e1:HH.push { cls:=.type "list",data:=.seq ([]:List Value).toArray }=s1.heap:=by rw[<-hs1]
 rw[e1]at gS gI;refine wpAny_pure ⟨plainId_quiet PySem.F.plain_min_loop _,?_⟩;refine codeAny_builtin PySem.F.entry_min_loop ?_;rw[Around.under_plainId PySem.F.plain_min_loop _];show wpAny (model X.prog X.w) X.A.in1 (seqItems? (.ref S) >>= _) _ _ _;cases ds with
 | nil=>cases ek
 | cons d0 dr =>refine wpAny_bind (wpAny_seqItems gS rfl (wpAny_bind (wpAny_tryCatch (lS (j:=0) hcalm I1 hl ⟨_,gI,rfl,rfl⟩ oI (by simp at hlen;lia) λ u v1 h1 t1 A7 BJ I2 JN k1=>?_))));have g1:=k1 S _ rm gS;obtain⟨oi,Hc,rI⟩:=id JN;obtain⟨v',v!,dv⟩:=dn.get (i:=0) (d:=d0) rfl;rw[A7]at v!;cases v!;refine wpAny_bind (wpAny_pure ?_);refine wpAny_bind (wpAny_updateSeq g1 rfl ?_);rw[nm];have kp:∀b o,b≠S->h1.get? b=some o->(h1.update S (Obj.mapSeq λ _=>#[u,u])).get? b=some o:=λ b o hb e=>(Heap.get?_update_other _ _ (Ne.symm hb)).trans e;have I4:=I2.turned (t':=t1) kp oS.free oS.loc (.inr oS.new) oS.cell oS.pin;exact wpAny_pure ⟨plainId_quiet PySem.F.plain_min_loop _,Mn hcalm hu rm hl dn (λ s5 u5 v5 I5 IL J_=>⟨v5,H,I5,IL,k v5 J_⟩) dr.length 1 _ d0 (by simp;lia) ek ⟨I4,⟨oi,kp _ _ (Ne.symm rm) Hc,rI⟩,oI,oS,u,v1,_,dv,BJ,Heap.get?_update_self _ g1 rfl⟩⟩
end
section
variable {X:Cx}{a c:Expr}{fa fc:Z.EF}{pos:Pos}
theorem Fb(hcalm:X.calm=true)(hu:X.A.units+64 < cLine):kF X (.builtin "min") (λ xs H Q=>∃(q:Addr) (vs:List V) (ds:List Z.D) (r:Z.D),xs=[.ref q]∧i? X.K H q vs∧aG X.K H ds vs∧Z.xR (.lst ds)=.ok r∧∀v,Den X.K H r v->Q v H):=by intro pins s σ H xs us Q I r h;obtain⟨q,vs,ds,r',rfl,hq,dn,e,k⟩:=h;obtain⟨u,rfl,ru⟩:=vals1 r;cases ru;exact GJ hcalm hu I hq dn e k
theorem zA{x:Str}{p1:Pos}(hu:X.A.units+64 < cLine)(hg:Gl X x)(hm:X.mg x=none)(hv:bootBuiltins x=some (.builtin "min"))(ha:DW X a fa)(hc:X.calm=true:=by rfl)(hn:x ≠ "__name__" := by decide +kernel)(hdb:(x==("__debug__" : Str))=false:=by decide +kernel)
  (he:starEach (a :: []) X.env=(false,eval a X.env) :: starEach [] X.env:=by rfl) (hpl:(backTo pos (starEach [] X.env)).any (·.1)=false:=by rfl):DE X (.Call (.Name x p1) [a] [] pos) (Z.eU Z.xR fa) :=
 PE.imp (jW (Fb hc hu) hg hm hv (b9 ha dJ he) hn hdb he hpl) λ σ H Q ⟨ρ,d,r,e,k⟩=>by
  obtain⟨x,ea,e⟩:=Z.Res.az e;refine⟨ρ,x,r,ea,λ v H1 s1 d1=>?_⟩;cases x with
  | lst ds =>obtain⟨q,vs,rfl,hq,t⟩:=d1.lst;exact⟨q,vs,ds,d,rfl,hq,t,e,λ v dv=>k v H1 s1 dv⟩
  | _=>cases e
end
end ZS
namespace ZQ
open PySem PySem.Spec PyProof.Rows L2 ZS
section
variable {X:Cx}{a c:Expr}{fa fc:Z.EF}{pos:Pos}
theorem zA{x:Str}{p1:Pos}(hu:X.A.units+64 < cLine)(hg:Gl X x)(hm:X.mg x=none)(hv:bootBuiltins x=some (.builtin "min"))(ha:QW X a fa)(hc:X.calm=true:=by rfl)(hn:x ≠ "__name__" := by decide +kernel)(hdb:(x==("__debug__" : Str))=false:=by decide +kernel)(he:starEach (a :: []) X.env=(false,eval a X.env) :: starEach [] X.env:=by rfl)(hpl:(backTo pos (starEach [] X.env)).any (·.1)=false:=by rfl):QE X (.Call (.Name x p1) [a] [] pos) (Z.eU Z.xR fa):=⟨ZS.zA hu (hg:=hg) (hm:=hm) (hv:=hv) (ha:=ha.p) (hc:=hc) (hn:=hn) (hdb:=hdb) (he:=he) (hpl:=hpl)⟩
end
end ZQ
noncomputable section
namespace Z
def Ok{α:Type}(r:Res α)(Q:α->Prop):Prop:=∃a,r=.ok a∧Q a
theorem Ok.intro{α:Type}{r:Res α}{Q:α->Prop}{a:α}(h:r=.ok a)(q:Q a):Ok r Q:=⟨a,h,q⟩
theorem Ok.imp{α:Type}{r:Res α}{P Q:α->Prop}(h:Ok r P)(k:∀a,P a->Q a):Ok r Q:=let ⟨a,e,p⟩:=h;⟨a,e,k a p⟩
theorem Ok.eq{α:Type}{r:Res α}{a:α}(h:Ok r λ x=>x=a):r=.ok a:=by obtain⟨x,e,rfl⟩:=h;exact e
@[simp] theorem Li{α:Type}(a:α)(Q:α->Prop):Ok (.ok a) Q↔Q a:=⟨λ⟨_,e,q⟩=>by cases e;exact q,λ q=>⟨a,rfl,q⟩⟩
@[simp] theorem V'{α:Type}(Q:α->Prop):Ok (.bad:Res α) Q↔False:=⟨λ⟨_,e,_⟩=>(by cases e),False.elim⟩
@[simp] theorem S6{α β:Type}(r:Res α)(f:α->Res β)(Q:β->Prop):Ok (r.bind f) Q↔Ok r λ a=>Ok (f a) Q:=by
 cases r with
 | ok a=>simp
 | bad=>simp
@[simp] theorem V8{α β:Type}(r:Res α)(f:α->β)(Q:β->Prop):Ok (r.map f) Q↔Ok r λ a=>Q (f a):=by
 cases r with
 | ok a=>simp
 | bad=>simp
@[simp] theorem Rf{α:Type}(p:Prop)(r:Res α)(Q:α->Prop):Ok (guard p r) Q↔p∧Ok r Q:=by
 constructor
 ·rintro⟨a,e,q⟩;obtain⟨h,e⟩:=rn e;exact⟨h,a,e,q⟩
 ·rintro⟨h,k⟩;rw[guard_pos h];exact k
@[simp] theorem V9{α:Type}{c:Prop}[Decidable c](r r':Res α)(Q:α->Prop):Ok (if c then r else r') Q↔if c then Ok r Q else Ok r' Q:=by split<;>rfl
abbrev v(d:D):Option L:=some (.val d)
abbrev vi(i:Int):Option L:=some (.val (.int i))
abbrev vs(cs:List Nat):Option L:=some (.val (.str cs))
abbrev ow(xs:List D):Option L:=some (.own xs)
abbrev bo(xs:List D):Option L:=some (.bor xs)
def Q6:Option (Option L)->Res D
 | some (some (.val d))=>.ok d
 | some (some (.own xs))=>.ok (.lst xs)
 | some (some (.bor xs))=>.ok (.lst xs)
 | _=>.bad
def V1:Option (Option L)->Res D
 | some (some (.val d))=>.ok d
 | _=>.bad
@[simp] theorem ZT(i:Nat)(ρ:Env):eW i ρ=Q6 ρ[i]?:=by
 unfold eW Q6;cases ρ[i]? with
 | none=>rfl
 | some o=>cases o with
  | none=>rfl
  | some l=>cases l<;>rfl
@[simp] theorem ZU(i:Nat)(ρ:Env):eV i ρ=V1 ρ[i]?:=by
 unfold eV V1;cases ρ[i]? with
 | none=>rfl
 | some o=>cases o with
  | none=>rfl
  | some l=>cases l<;>rfl
@[simp] theorem SV(d:D):Q6 (some (some (.val d)))=.ok d:=rfl
@[simp] theorem SW(xs:List D):Q6 (some (some (.own xs)))=.ok (.lst xs):=rfl
@[simp] theorem SX(xs:List D):Q6 (some (some (.bor xs)))=.ok (.lst xs):=rfl
@[simp] theorem S0(d:D):V1 (some (some (.val d)))=.ok d:=rfl
theorem aQ{b:SF}{ρ:Env}{d:D}(h:Ok (b ρ) λ fl=>bJ (.ok fl)=.ok d):bJ (b ρ)=.ok d:=by obtain⟨fl,e,q⟩:=h;rw[e,q]
theorem lr{b:SF}{ρ:Env}{P:D->Prop}(h:Ok (b ρ) λ fl=>Ok (bJ (.ok fl)) P):Ok (bJ (b ρ)) P:=by obtain⟨fl,e,q⟩:=h;rw[e];exact q
@[simp] theorem RK(ρ:Env):Ou ρ=.ok (.ct ρ):=rfl
@[simp] theorem Ov(ρ:Env):LB ρ=.ok (.bk ρ):=rfl
@[simp] theorem TB(e:EF)(g:GF)(ρ:Env):Ao e g ρ=(e ρ).bind λ d=>(g d ρ).bind λ ρ'=>.ok (.nx ρ'):=rfl
@[simp] theorem Qr(i j:Nat)(a b:D)(ρ:Env):ka [i,j] (.tup [a,b]) ρ=.ok ((ρ.set i (v a)).set j (v b)):=rfl
def Q9(i:Nat)(ρ:Env)(d:D):Option (Option L)->Res Fl
 | some (some (.own xs))=>guard (xs.length < line) (.ok (.nx (ρ.set i (ow (xs++[d])))))
 | _=>.bad
@[simp] theorem Np(i:Nat)(e:EF)(ρ:Env):cH i e ρ=(e ρ).bind λ d=>Q9 i ρ d ρ[i]?:=rfl
@[simp] theorem Q8(i:Nat)(ρ:Env)(d:D)(xs:List D):Q9 i ρ d (some (some (.own xs)))=guard (xs.length < line) (.ok (.nx (ρ.set i (ow (xs++[d]))))):=rfl
def QC(i:Nat)(ρ:Env)(ys:List D):Option (Option L)->Res Fl
 | some (some (.own xs))=>guard (xs.length+ys.length≤line) (.ok (.nx (ρ.set i (ow (xs++ys)))))
 | _=>.bad
@[simp] theorem TJ(i:Nat)(l:LF)(ρ:Env):Ej i l ρ=(l ρ).bind λ ys=>QC i ρ ys ρ[i]?:=rfl
@[simp] theorem QB(i:Nat)(ρ:Env)(ys xs:List D):QC i ρ ys (some (some (.own xs)))=guard (xs.length+ys.length≤line) (.ok (.nx (ρ.set i (ow (xs++ys))))):=rfl
def Hf(i:Nat)(ρ:Env):Option (Option L)->Env
 | some (some (.own xs))=>ρ.set i (v (.lst xs))
 | _=>ρ
@[simp] theorem TC(i:Nat)(a:SF)(ρ:Env):w! i a ρ=a (Hf i ρ ρ[i]?):=by
 unfold w! i! Hf;cases ρ[i]? with
 | none=>rfl
 | some o=>cases o with
  | none=>rfl
  | some l=>cases l<;>rfl
@[simp] theorem Qx(i:Nat)(ρ:Env)(xs:List D):Hf i ρ (some (some (.own xs)))=ρ.set i (v (.lst xs)):=rfl
@[simp] theorem Qw(i:Nat)(ρ:Env)(d:D):Hf i ρ (some (some (.val d)))=ρ:=rfl
@[simp] theorem NT(i:Nat)(ρ:Env):Hf i ρ (some none)=ρ:=rfl
def QR:D->D->Res (List D)
 | .lst xs,.lst ys=>guard (xs.length+ys.length≤line) (.ok (xs++ys))
 | _,_=>.bad
theorem Mm(a b:EF)(ρ:Env):GR a b ρ=(a ρ).bind λ x=>(b ρ).bind λ y=>QR x y:=rfl
@[simp] theorem QQ(xs ys:List D):QR (.lst xs) (.lst ys)=guard (xs.length+ys.length≤line) (.ok (xs++ys)):=rfl
def Wt(l h:Option Int):D->Res (List D)
 | .lst xs=>.ok (cut xs l h)
 | _=>.bad
theorem KZ(a:EF)(lo hi:PF)(ρ:Env):K0 a lo hi ρ=(a ρ).bind λ x=>(lo ρ).bind λ l=>(hi ρ).bind λ h=>Wt l h x:=rfl
@[simp] theorem RC(l h:Option Int)(xs:List D):Wt l h (.lst xs)=.ok (cut xs l h):=rfl
@[simp] theorem RX(xs:List D)(l h:Option Int):Nu (.tup xs) l h=.ok (.tup (cut xs l h)):=rfl
@[simp] theorem OW(cs:List Nat)(l h:Option Int):Nu (.str cs) l h=guard (cs.length≤line) (.ok (.str (cut cs l h))):=rfl
@[simp] theorem Ny(a b:List Nat):bj (.str a) (.str b)=guard (a.length+b.length≤line) (.ok (.str (a++b))):=rfl
@[simp] theorem Nx(a b:List D):bj (.tup a) (.tup b)=guard (a.length+b.length≤line) (.ok (.tup (a++b))):=rfl
@[simp] theorem O4(a:Int):Gs (.int a)=.ok (.int (-a)):=rfl
@[simp] theorem O_:ly .non=.ok (.bl true):=rfl
@[simp] theorem O?(xs:List D):ly (.tup xs)=.ok (.bl false):=rfl
@[simp] theorem Nw:eH .non=.ok (.bl false):=rfl
@[simp] theorem Nv(xs:List D):eH (.tup xs)=.ok (.bl true):=rfl
theorem j3(a b:Nat)(hb:b≤1000000)(ha:a < 18446744073709551616):n! (.int (a:Int)) (.int (b:Int))=.ok (.int ((a ^ b:Nat):Int)):=by
 have h:(0:Int)≤b∧(b:Int)≤1000000∧(a:Int).natAbs < 2 ^ 64:=⟨by lia,by lia,by rw[Int.natAbs_natCast];exact ha⟩
 show guard _ _=_;rw[guard_pos h,Int.toNat_natCast,Int.natCast_pow]
@[simp] theorem T6:n! (.int 10) (.int 60)=.ok (.int 1000000000000000000000000000000000000000000000000000000000000):=j3 10 60 (by decide) (by decide)
@[simp] theorem T7:n! (.int 10) (.int 59)=.ok (.int 100000000000000000000000000000000000000000000000000000000000):=j3 10 59 (by decide) (by decide)
@[simp] theorem T8:n! (.int 10) (.int 55)=.ok (.int 10000000000000000000000000000000000000000000000000000000):=j3 10 55 (by decide) (by decide)
@[simp] theorem T9:n! (.int 10) (.int 50)=.ok (.int 100000000000000000000000000000000000000000000000000):=j3 10 50 (by decide) (by decide)
@[simp] theorem RV:n! (.int 7919) (.int 9)=.ok (.int 122470950010456506152021579891552879):=j3 7919 9 (by decide) (by decide)
def atK:Option D->Res D
 | some d=>.ok d
 | none=>.bad
@[simp] theorem Q5(d:D):atK (some d)=.ok d:=rfl
theorem Dm(xs:List D)(i:Int):bc (.tup xs) (.int i)=atK ((yb xs.length i).bind λ j=>xs[j]?):=by show(match (yb xs.length i).bind λ j=>xs[j]? with | some v=>Res.ok v | none=>.bad)=_;cases (yb xs.length i).bind λ j=>xs[j]?<;>rfl
theorem Jo(xs:List D)(i:Int):bc (.lst xs) (.int i)=atK ((yb xs.length i).bind λ j=>xs[j]?):=by show(match (yb xs.length i).bind λ j=>xs[j]? with | some v=>Res.ok v | none=>.bad)=_;cases (yb xs.length i).bind λ j=>xs[j]?<;>rfl
theorem eJ{xs:List D}{i:Int}{j:Nat}{d:D}(h:i=j)(e:xs[j]?=some d):bc (.tup xs) (.int i)=.ok d∧bc (.lst xs) (.int i)=.ok d:=by
 subst h;have hj:j < xs.length:=(List.getElem?_eq_some_iff.mp e).1;have:yb xs.length (j:Int)=some j:=by simp[yb,hj]
 rw[Dm,Jo,this];simp[e]
theorem vW{cs:List Nat}{i:Int}{j c:Nat}(h:i=j)(e:cs[j]?=some c)(hl:cs.length≤line):bc (.str cs) (.int i)=.ok (.str [c]):=by
 subst h;have hj:j < cs.length:=(List.getElem?_eq_some_iff.mp e).1;have:yb cs.length (j:Int)=some j:=by simp[yb,hj]
 show guard (cs.length≤line) (match (yb cs.length (j:Int)).bind λ j=>cs[j]? with | some c=>Res.ok (D.str [c]) | none=>.bad)=_;rw[guard_pos hl,this];simp[e]
theorem yY{xs:List D}{i:Int}(h0:0≤i)(h1:i < xs.length):∃d∈xs,bc (.lst xs) (.int i)=.ok d∧bc (.tup xs) (.int i)=.ok d:=by
 have hj:i.toNat < xs.length:=by lia
 refine⟨xs[i.toNat],List.getElem_mem hj,?_⟩;have:=eJ (xs:=xs) (i:=i) (j:=i.toNat) (d:=xs[i.toNat]) (by lia) (List.getElem?_eq_getElem hj);exact⟨this.2,this.1⟩
def turn(I:Env->Prop)(Q:Fl->Prop):Fl->Prop
 | .nx ρ=>I ρ
 | .ct ρ=>I ρ
 | .bk ρ=>Q (.nx ρ)
 | .rt d=>Q (.rt d)
@[simp] theorem uN(I:Env->Prop)(Q:Fl->Prop)(ρ:Env):turn I Q (.nx ρ)↔I ρ:=Iff.rfl
@[simp] theorem Rt(I:Env->Prop)(Q:Fl->Prop)(ρ:Env):turn I Q (.ct ρ)↔I ρ:=Iff.rfl
@[simp] theorem Ru(I:Env->Prop)(Q:Fl->Prop)(ρ:Env):turn I Q (.bk ρ)↔Q (.nx ρ):=Iff.rfl
@[simp] theorem Rr(I:Env->Prop)(Q:Fl->Prop)(d:D):turn I Q (.rt d)↔Q (.rt d):=Iff.rfl
theorem Hg{g:GF}{b:SF}{Q:Fl->Prop}(I:Nat->Env->Prop):∀(ds:List D)(ρ:Env)(i:Nat),I i ρ->(∀j d ρ,ds[j]?=some d->I (i+j) ρ->Ok (g d ρ) λ ρ1=>Ok (b ρ1) (turn (I (i+j+1)) Q))->(∀ρ,I (i+ds.length) ρ->Q (.nx ρ))->Ok (jr g b ds ρ) Q
 | [],ρ,i,h,_,e=>by simpa[jr]using e ρ h
 | d :: ds,ρ,i,h,k,e=>by
  obtain⟨ρ1,e1,fl,e2,t⟩:=k 0 d ρ rfl h;have ih:=λ ρ' (h':I (i+1) ρ')=>Hg I (g:=g) (b:=b) (Q:=Q) ds ρ' (i+1) h' (λ j x ρ hj hP=>by have:=k (j+1) x ρ (by simpa using hj) (by simpa[Nat.add_assoc,Nat.add_comm 1 j]using hP);simpa[Nat.add_assoc,Nat.add_comm 1 j]using this) (λ ρ hP=>e ρ (by simpa[Nat.add_assoc,Nat.add_comm 1]using hP))
  unfold jr;rw[e1,Res.uR,e2,Res.uR];cases fl with
  | nx ρ'=>exact ih ρ' (by simpa using t)
  | ct ρ'=>exact ih ρ' (by simpa using t)
  | bk ρ'=>simpa using t
  | rt d=>simpa using t
theorem cR{g:GF}{b:SF}{Q:Fl->Prop}(I:Nat->Env->Prop){ds:List D}{ρ:Env}(h0:I 0 ρ)(hs:∀j d ρ,ds[j]?=some d->I j ρ->Ok (g d ρ) λ ρ1=>Ok (b ρ1) (turn (I (j+1)) Q))(he:∀ρ,I ds.length ρ->Q (.nx ρ)):Ok (jr g b ds ρ) Q :=
 Hg I ds ρ 0 h0 (λ j d ρ hd hI=>by rw[Nat.zero_add]at hI ⊢;exact hs j d ρ hd hI) (λ ρ h=>he ρ (by rwa [Nat.zero_add]at h))
theorem J6{g:GF}{b:SF}{Q:Fl->Prop}(I:Env->Prop){ds:List D}{ρ:Env}(h0:I ρ)(hs:∀d∈ds,∀ρ,I ρ->Ok (g d ρ) λ ρ1=>Ok (b ρ1) (turn I Q))(he:∀ρ,I ρ->Q (.nx ρ)):Ok (jr g b ds ρ) Q :=
 cR (λ _=>I) h0 (λ j d ρ hd hI=>hs d (List.mem_of_getElem? hd) ρ hI) he
theorem DV{g:GF}{t:TF}{e:EF}{ρ:Env}{ds:List D}{Q:List D->Prop}(p:D->Bool)(h:D->D)(hs:∀d∈ds,Ok (g d ρ) λ ρ1=>Ok (t ρ1) λ c=>c=p d∧(p d=true->Ok (e ρ1) λ y=>y=h d))(hq:Q ((ds.filter p).map h)):Ok (eD g t e ρ ds) Q:=by refine⟨_,pF (p:=p) (h:=h) ds λ d hd=>?_,hq⟩;obtain⟨ρ1,e1,c,e2,hc,k⟩:=hs d hd;exact⟨ρ1,e1,by rw[e2,hc],λ hp=>(k hp).eq⟩
theorem comp_map{g:GF}{e:EF}{ρ:Env}{ds:List D}{Q:List D->Prop}(h:D->D)(hs:∀d∈ds,Ok (g d ρ) λ ρ1=>Ok (e ρ1) λ y=>y=h d)(hq:Q (ds.map h)):Ok (eD g dR e ρ ds) Q:=by refine⟨_,wK (h:=h) ds λ d hd=>?_,hq⟩;obtain⟨ρ1,e1,k⟩:=hs d hd;rw[e1];exact k.eq
theorem cE{α:Type}(enc:α->D){g:GF}{t:TF}{e:EF}{ρ:Env}(f:α->Bool)(h:α->D):∀{xs:List α}{Q:List D->Prop},(∀x∈xs,Ok (g (enc x) ρ) λ ρ1=>Ok (t ρ1) λ c=>c=f x∧(f x=true->Ok (e ρ1) λ y=>y=h x))->Q ((xs.filter f).map h)->Ok (eD g t e ρ (xs.map enc)) Q:=by
 intro xs Q hs hq;refine⟨_,?_,hq⟩;clear hq
 induction xs with
 | nil=>rfl
 | cons x xs ih =>
  obtain⟨ρ1,e1,c,e2,hc,k⟩:=hs x List.mem_cons_self;have WQ:=ih λ y hy=>hs y (List.mem_cons_of_mem _ hy);cases hf:f x with
  | true =>rw[hf]at hc;have:=(k hf).eq;simp[eD,e1,e2,hc,this,WQ,hf]
  | false =>rw[hf]at hc;simp[eD,e1,e2,hc,WQ,hf]
theorem sS{α:Type}[DecidableEq α]{f:D->D->Option Bool}{h:α->D}(k:∀x y,f (h x) (h y)=some (decide (x=y))):∀(xs ys:List α),allEq f (xs.map h) (ys.map h)=some (decide (xs=ys))
 | [],[]=>rfl
 | [],_ :: _=>rfl
 | _ :: _,[]=>rfl
 | x :: xs,y :: ys=>by simp[allEq,k,sS k xs ys]
end Z
end
set_option maxRecDepth 4000
noncomputable section
namespace KG
open Z
def rO:SF:=(a_ (NW (eB EB (eW 0) (fM (aa (eC (.str [46])) (aa (eC (.str [61])) ax)))) (eB oEq (eW 0) (eW 1))))
def rq:List D->Res D:=fn 2 2 rO
theorem Hj(x0 x1:D):rq [x0,x1]=bJ (rO [some (.val x0),some (.val x1)]):=cg _ _ _ _ rfl
def mM:SF:=(aB (nB 2 (bX ax)) (aB (fN (v7 (eB bc (eW 1) (eC (.int 0))) (eB bj (eB bc (eW 1) (eC (.int 0))) (eB bc (eW 0) (eC (.int 2))))) (bA 3) (Ej 2 (cf (v7 (eB bc (eW 1) (eC (.int 1))) (eB bj (eB bc (eW 1) (eC (.int 1))) (eB bc (eW 0) (eC (.int 1))))) 1 [3] (bA 0) dR (fM (aa (eV 1) (aa (eV 0) ax)))))) (a_ (eU dM (eW 2)))))
def kT:List D->Res D:=fn 2 4 mM
theorem Be(x0 x1:D):kT [x0,x1]=bJ (mM [some (.val x0),some (.val x1),none,none]):=cg _ _ _ _ rfl
def fX:SF:=(aB (gi (tE (eB oLt (eW 1) (eU cM (eW 0)))) (a_ (eB bc (eW 0) (eW 1))) bF) (a_ (eC (.int 0))))
def aL:List D->Res D:=fn 2 2 fX
theorem ov(x0 x1:D):aL [x0,x1]=bJ (fX [some (.val x0),some (.val x1)]):=cg _ _ _ _ rfl
def fj:SF:=(aB (aM 2 (eB oMod (eB gy (eB bj (eB bj (eB oMod (eW 0) (eC (.int 2147483629))) (eB gy (eB gy (eC (.int 7919)) (eW 1)) (eW 1))) (eW 1)) (eC (.int 48271))) (eC (.int 2147483647)))) (aB (aM 2 (eB oMod (eB bj (eB bj (eB gy (eW 2) (eW 2)) (eB gy (eC (.int 69621)) (eW 2))) (eW 1)) (eC (.int 2147483647)))) (a_ (eB oMod (eB bj (eB gy (eW 2) (eC (.int 39373))) (eB gy (eC (.int 11)) (eW 1))) (eC (.int 2147483587))))))
def bM:List D->Res D:=fn 2 3 fj
theorem rF(x0 x1:D):bM [x0,x1]=bJ (fj [some (.val x0),some (.val x1),none]):=cg _ _ _ _ rfl
def gw:SF:=(aB (aM 2 (eB bc (eW 1) (eC (.int 0)))) (aB (aM 3 (eB bc (eW 1) (eC (.int 1)))) (aB (gi (l6 (tE (mC oLe oLt (eC (.int 0)) (eW 2) (eU cM (eW 0)))) (tE (mC oLe oLt (eC (.int 0)) (eW 3) (eU cM (eB bc (eW 0) (eC (.int 0))))))) (a_ (eB bc (eB bc (eW 0) (eW 2)) (eW 3))) bF) (a_ (eC .non)))))
def mz:List D->Res D:=fn 2 4 gw
theorem CB(x0 x1:D):mz [x0,x1]=bJ (gw [some (.val x0),some (.val x1),none,none]):=cg _ _ _ _ rfl
def zQ:SF:=(aB (aM 3 (eL (cf (eY (aw kT (aa (eV 1) (aa (eV 2) ax)))) 1 [0] (bA 0) dR (aw mz (aa (eV 1) (aa (eV 0) ax)))))) (aB (gi (nA (tE (eU xl (eL (cf (eY (eW 3)) 1 [1] (bA 0) dR (aw rq (aa (eV 0) (aa (eB bc (eW 1) (eC (.int 3))) ax)))))))) (a_ (eC (.bl false))) bF) (a_ (eB L_ (eB vJ (eW 3) (eC (.str [61]))) (eB bc (eW 1) (eC (.int 4)))))))
def rA:List D->Res D:=fn 3 4 zQ
theorem J8(x0 x1 x2:D):rA [x0,x1,x2]=bJ (zQ [some (.val x0),some (.val x1),some (.val x2),none]):=cg _ _ _ _ rfl
def k6:SF:=(aB (nB 2 (bX ax)) (aB (fN (eZ (eU cM (eW 0))) (bA 3) (Ej 2 (cf (eZ (eU cM (eB bc (eW 0) (eW 3)))) 1 [0,1,3] (bA 0) (tE (aw rA (aa (eV 1) (aa (eV 2) (aa (fM (aa (eV 3) (aa (eV 0) ax))) ax))))) (fM (aa (eV 3) (aa (eV 0) ax)))))) (a_ (eU dM (eW 2)))))
def fx:List D->Res D:=fn 2 4 k6
theorem zf(x0 x1:D):fx [x0,x1]=bJ (k6 [some (.val x0),some (.val x1),none,none]):=cg _ _ _ _ rfl
def mT:SF:=(aB (gi (yv (tE (eB oLe (eB bj (eB bc (eW 1) (eC (.int 0))) (eB bc (eW 0) (eC (.int 2)))) (eB bc (eW 3) (eC (.int 0))))) (tE (eB oLe (eB bj (eB bc (eW 3) (eC (.int 0))) (eB bc (eW 2) (eC (.int 2)))) (eB bc (eW 1) (eC (.int 0)))))) (a_ (eC (.bl true))) bF) (aB (aM 4 (eB Ey (eB bc (eW 0) (eC (.int 5))) (eB bc (eW 2) (eC (.int 5))))) (a_ (NW (eB oLe (eB bj (eB bj (eB bc (eW 1) (eC (.int 1))) (eB bc (eW 0) (eC (.int 1)))) (eW 4)) (eB bc (eW 3) (eC (.int 1)))) (eB oLe (eB bj (eB bj (eB bc (eW 3) (eC (.int 1))) (eB bc (eW 2) (eC (.int 1)))) (eW 4)) (eB bc (eW 1) (eC (.int 1))))))))
def rB:List D->Res D:=fn 4 5 mT
theorem Hl(x0 x1 x2 x3:D):rB [x0,x1,x2,x3]=bJ (mT [some (.val x0),some (.val x1),some (.val x2),some (.val x3),none]):=cg _ _ _ _ rfl
def fy:SF:=(a_ (eL (cf (A5 (eV 0) (eV 1)) 2 [] (ka [0,1]) (tE (eU eH (eW 1))) (fM (aa (eV 0) (aa (eV 1) ax))))))
def cA:List D->Res D:=fn 2 2 fy
theorem rD(x0 x1:D):cA [x0,x1]=bJ (fy [some (.val x0),some (.val x1)]):=cg _ _ _ _ rfl
def fA:SF:=(a_ (eU xl (eL (cf (eY (eW 2)) 2 [0,1] (ka [0,1]) dR (aw rB (aa (eV 2) (aa (eV 3) (aa (eV 0) (aa (eV 1) ax)))))))))
def dB:List D->Res D:=fn 3 3 fA
theorem rG(x0 x1 x2:D):dB [x0,x1,x2]=bJ (fA [some (.val x0),some (.val x1),some (.val x2)]):=cg _ _ _ _ rfl
def u0:SF:=(aB (aM 3 (aw cA (aa (eV 1) (aa (eV 2) ax)))) (aB (gi (nA (tE (eU xl (eL (cf (eY (eW 3)) 2 [0] (ka [0,1]) dR (aw rA (aa (eV 2) (aa (eV 0) (aa (eV 1) ax))))))))) (a_ (eC (.bl false))) bF) (a_ (eU xl (eL (cf (eZ (eU cM (eW 3))) 1 [3] (bA 0) dR (aw dB (aa (eB bc (eB bc (eW 1) (eW 0)) (eC (.int 0))) (aa (eB bc (eB bc (eW 1) (eW 0)) (eC (.int 1))) (aa (eL (K0 (eW 1) HX (BK (eW 0)))) ax))))))))))
def iZ:List D->Res D:=fn 3 4 u0
theorem Hk(x0 x1 x2:D):iZ [x0,x1,x2]=bJ (u0 [some (.val x0),some (.val x1),some (.val x2),none]):=cg _ _ _ _ rfl
end KG
end
namespace KG
open Z
abbrev Rows:=List (List Nat)
abbrev Pl:=Int×Int
structure Hall(rows:Rows)(C:Nat):Prop where
 r1:1≤rows.length
 r2:rows.length≤100
 c1:1≤C
 c2:C≤100
 len:∀x∈rows,x.length=C
structure G where
 name:List Nat
 w:Nat
 d:Nat
 kind:List Nat
 wide:Nat
 gap:Nat
 worth:D
 pJ:D
structure GOk(g:G):Prop where
 w1:1≤g.w
 w2:g.w≤13
 d1:1≤g.d
 d2:g.d≤4
 kd:g.kind.length≤1
 wd:g.wide≤100
 gp:g.gap≤100
def cu(rows:Rows):D:=.tup (rows.map .str)
def aK(p:Pl):D:=.tup [.int p.1,.int p.2]
def bB(g:G):D:=.tup [.str g.name,.int g.w,.int g.d,.str g.kind,.int g.wide,.int g.gap,g.worth,g.pJ]
def oy:Option Nat->D
 | some c=>.str [c]
 | none=>.non
@[simp] theorem Wy(p:Pl):bc (aK p) (.int 0)=.ok (.int p.1):=rfl
@[simp] theorem Wx(p:Pl):bc (aK p) (.int 1)=.ok (.int p.2):=rfl
@[simp] theorem Xn(g:G):bc (bB g) (.int 0)=.ok (.str g.name):=rfl
@[simp] theorem Xm(g:G):bc (bB g) (.int 1)=.ok (.int g.w):=rfl
@[simp] theorem Xl(g:G):bc (bB g) (.int 2)=.ok (.int g.d):=rfl
@[simp] theorem Xk(g:G):bc (bB g) (.int 3)=.ok (.str g.kind):=rfl
@[simp] theorem Xj(g:G):bc (bB g) (.int 4)=.ok (.int g.wide):=rfl
@[simp] theorem Xi(g:G):bc (bB g) (.int 5)=.ok (.int g.gap):=rfl
@[simp] theorem Xh(g:G):bc (bB g) (.int 6)=.ok g.worth:=rfl
@[simp] theorem Xg(g:G):bc (bB g) (.int 7)=.ok g.pJ:=rfl
@[simp] theorem W!(rows:Rows):cM (cu rows)=.ok (.int rows.length):=by simp[cu]
@[simp] theorem Wk(a b:Int):D.tup [.int a,.int b]=aK (a,b):=rfl
theorem cS(ρ:Env)(is:List Nat):jm ρ is=is.map (pG ρ):=rfl
def Bz:Option (Option L)->Option L
 | some (some (.val d))=>some (.val d)
 | some (some (.bor xs))=>some (.bor xs)
 | some (some (.Hm ks))=>some (.Hm ks)
 | _=>none
theorem b?(ρ:Env)(i:Nat):pG ρ i=Bz ρ[i]?:=by
 unfold pG Bz;cases ρ[i]? with
 | none=>rfl
 | some o=>cases o with
  | none=>rfl
  | some l=>cases l<;>rfl
@[simp] theorem NZ(xs:List D):Bz (some (some (.bor xs)))=some (.bor xs):=rfl
@[simp] theorem NY(ks:List (List Int)):Bz (some (some (.Hm ks)))=some (.Hm ks):=rfl
@[simp] theorem NX(d:D):Bz (some (some (.val d)))=some (.val d):=rfl
theorem Hall.row{rows:Rows}{C:Nat}(H:Hall rows C){r:Nat}(h:r < rows.length):∃row,rows[r]?=some row∧row.length=C∧bc (cu rows) (.int r)=.ok (.str row):=by refine⟨rows[r],List.getElem?_eq_getElem h,H.len _ (List.getElem_mem h),(eJ (j:=r) rfl ?_).1⟩;rw[List.getElem?_map,List.getElem?_eq_getElem h];rfl
theorem Hall.El{rows:Rows}{C:Nat}(H:Hall rows C):∃row,row.length=C∧bc (cu rows) (.int 0)=.ok (.str row):=by obtain⟨row,_,h1,h2⟩:=H.row (r:=0) H.r1;exact⟨row,h1,h2⟩
def cn(rows:Rows)(p:Pl):Option Nat:=if 0≤p.1∧0≤p.2 then(rows[p.1.toNat]?).bind (λ r=>r[p.2.toNat]?)else none
theorem II{rows:Rows}{C:Nat}(H:Hall rows C){p:Pl}(h1:0≤p.1)(h2:p.1 < rows.length)(h3:0≤p.2)(h4:p.2 < C):∃row c,bc (cu rows) (.int p.1)=.ok (.str row)∧row.length=C∧bc (.str row) (.int p.2)=.ok (.str [c])∧cn rows p=some c:=by
 obtain⟨row,e1,hl,e2⟩:=H.row (r:=p.1.toNat) (by lia);rw[Int.toNat_of_nonneg h1]at e2;have hc:p.2.toNat < row.length:=by lia
 have Sy:=H.c2;refine⟨row,row[p.2.toNat],e2,hl,vW (j:=p.2.toNat) (by lia) (List.getElem?_eq_getElem hc) (by simp only[line];lia),?_⟩;simp[cn,h1,h3,e1,hc]
theorem vg{rows:Rows}{C:Nat}(H:Hall rows C){p:Pl}(h:¬(0≤p.1∧p.1 < rows.length∧0≤p.2∧p.2 < C)):cn rows p=none:=by
 unfold cn;by_cases h0:0≤p.1∧0≤p.2
 ·rw[if_pos h0];cases e:rows[p.1.toNat]? with
  | none=>rfl
  | some row =>obtain⟨h1,h2⟩:=List.getElem?_eq_some_iff.mp e;have:=H.len row (List.mem_of_getElem? e);simp only[Option.bind_some];exact List.getElem?_eq_none (by lia)
 ·rw[if_neg h0]
theorem IH{rows : Rows}{C : Nat}(H : Hall rows C)(p : Pl): mz [cu rows, aK p] = .ok (oy (cn rows p)) := by
 rw[CB];refine aQ ?_;obtain⟨El,Fw,e0⟩:=H.El;have wc:=H.c2;have Fv:C≤line:=by simp only[line];lia
 by_cases h:0≤p.1∧p.1 < rows.length∧0≤p.2∧p.2 < C
 ·obtain⟨row,c,e1,_,e2,e3⟩:=II H h.1 h.2.1 h.2.2.1 h.2.2.2;simp[gw,e0,Fw,Fv,h.1,h.2.1,h.2.2.1,h.2.2.2,e1,e2,e3,oy]
 ·rw [vg H h];have hr1:=H.r1;by_cases a1:0≤p.1
  ·by_cases a2:p.1 < rows.length
   ·by_cases a3:0≤p.2
    ·have a4:¬p.2 < C:=λ z=>h ⟨a1,a2,a3,z⟩;simp[gw,e0,Fw,Fv,a1,a2,a3,a4,oy]
    ·simp[gw,e0,Fw,Fv,a1,a2,a3,oy]
   ·simp[gw,e0,Fw,Fv,a1,a2,oy]
  ·simp[gw,e0,Fw,Fv,a1,oy]
def c6(kind:List Nat):Option Nat->Bool
 | some c=>decide (c=46∨c=61∨kind=[c])
 | none=>false
theorem Hr(c:List Nat):lF (.str c) .non=some false:=rfl
theorem Hs(c:List Nat):lF .non (.str c)=some false:=rfl
theorem Hq(a b:List Nat):lF (.str a) (.str b)=some (a==b):=rfl
theorem YF(c:Nat):EB (.str [c]) (.tup [.str [46],.str [61]])=.ok (.bl (decide (c=46∨c=61))):=by
 simp only[EB,fI,Hq];by_cases h1:c=46
 ·subst h1;rfl
 ·by_cases h2:c=61
  ·subst h2;rfl
  ·have G_:¬46=c:=λ h=>h1 h.symm;have EZ:¬61=c:=λ h=>h2 h.symm;simp[h1,h2,G_,EZ]
theorem FK(s : Option Nat)(k : List Nat): rq [oy s, .str k] = .ok (.bl (c6 k s)) := by
 rw[Hj];refine aQ ?_;cases s with
 | none=>simp[rO,oy,c6,line,EB,fI,Hs,Hr,oEq]
 | some c =>
  simp[rO,oy,c6,line,YF];by_cases h1:c=46
  ·simp[h1]
  ·by_cases h2:c=61
   ·simp[h2]
   ·by_cases h3:k=[c]
    ·subst h3;simp[h1,h2]
    ·have Vr:¬[c]=k:=λ h=>h3 h.symm;simp[h1,h2,h3,Vr]
def gG(w:Nat)(r c:Int):List Pl:=(List.range w).map λ j=>(r,c+(j:Nat))
def jN(w:Nat)(p:Pl)(n:Nat):List Pl:=(List.range n).flatMap λ i=>gG w (p.1+(i:Nat)) p.2
def seats(g:G)(p:Pl):List Pl:=jN g.w p g.d
theorem nJ(w:Nat)(p:Pl)(n:Nat):jN w p (n+1)=jN w p n++gG w (p.1+(n:Nat)) p.2:=by simp[jN,List.range_succ,List.flatMap_append]
theorem yG(w:Nat)(r c:Int):(gG w r c).length=w:=by simp[gG]
theorem l7(w:Nat)(p:Pl)(n:Nat):(jN w p n).length=n*w:=by
 induction n with
 | zero=>simp[jN]
 | succ n ih=>rw[nJ,List.length_append,ih,yG,Nat.succ_mul]
theorem ints_map(lo:Int)(n:Nat):dq lo n=(List.range n).map λ i=>D.int (lo+(i:Nat)):=rfl
theorem ints_get{lo:Int}{n j:Nat}{d:D}(h:(dq lo n)[j]?=some d):j < n∧d=.int (lo+(j:Nat)):=by
 rw[ints_map,List.getElem?_map]at h;cases q:(List.range n)[j]? with
 | none=>rw[q]at h;cases h
 | some i =>rw[q]at h;obtain⟨h1,h2⟩:=List.getElem?_eq_some_iff.mp q;rw[List.length_range]at h1;rw[List.getElem_range]at h2;subst h2;simp at h;exact⟨h1,h.symm⟩
theorem toNat_sub(a:Int)(n:Nat):(a+(n:Int)-a).toNat=n:=by lia
theorem FY{g : G}(k : GOk g)(p : Pl): kT [bB g, aK p] = .ok (.tup ((seats g p).map aK)) := by
 rw[Be];refine aQ ?_;have hw:=k.w2;have hd:=k.d2;simp[mM,toNat_sub,line];refine cR (λ i ρ=>∃x,ρ=[v (bB g),v (aK p),ow ((jN g.w p i).map aK),x]) ⟨none,rfl⟩ ?_ ?_
 ·rintro j d ρ hj ⟨x,rfl⟩;obtain⟨hj,rfl⟩:=ints_get hj;simp[bY,toNat_sub,line,cS,b?];refine⟨by lia,comp_map (λ d=>.tup [.int (p.1+(j:Nat)),d]) ?_ ?_⟩
  ·rintro d hd;obtain⟨i,hi⟩:=List.getElem?_of_mem hd;obtain⟨_,rfl⟩:=ints_get hi;simp[line]
  ·refine⟨?_,?_⟩
   ·rw[List.length_map,l7,gR];have:j*g.w≤4*13:=Nat.mul_le_mul (by lia) hw;lia
   ·simp[nJ,gG,ints_map]
 ·rintro ρ ⟨x,rfl⟩;simp[seats]
def xG(rows:Rows)(s:Pl):Bool:=cn rows s==some 61
def cV(rows:Rows)(g:G)(p:Pl):Bool:=(seats g p).all (λ s=>c6 g.kind (cn rows s))&&decide (g.wide≤(seats g p).countP (xG rows))
theorem Bw(rows:Rows):∀(ss:List Pl),wL (.str [61]) (ss.map λ s=>oy (cn rows s))=some (ss.countP (xG rows))
 | []=>rfl
 | s :: ss=>by
  rw[List.map_cons,wL,Bw rows ss,List.countP_cons];cases e:cn rows s with
  | none=>simp[oy,xG,e,Hr,Hs]
  | some c=>simp[oy,xG,e,Hq]
theorem all_map{α:Type}(f:α->Bool)(xs:List α):allB (xs.map λ x=>D.bl (f x))=some (xs.all f):=by
 have:=D7 (xs.map f);rw[List.map_map]at this;rw[show(xs.map λ x=>D.bl (f x))=xs.map (D.bl∘f)from rfl,this]
 congr 1
 induction xs with
 | nil=>rfl
 | cons x xs ih=>simp
theorem DQ{rows : Rows}{C : Nat}(H : Hall rows C){g : G}(k : GOk g)(p : Pl): rA [cu rows, bB g, aK p] = .ok (.bl (cV rows g p)) := by
 rw[J8];refine aQ ?_;have hlen:(seats g p).length≤16777216:=by rw[seats,l7];have:g.d*g.w≤4*13:=Nat.mul_le_mul k.d2 k.w2;lia
 simp[zQ,bY,FY k,line,cS,b?,hlen];refine comp_map (λ d=>match d with | .tup [.int a,.int b]=>oy (cn rows (a,b)) | _=>.non) ?_ ?_
 ·intro d hd;obtain⟨q,_,rfl⟩:=List.mem_map.mp hd;simp[IH H];rfl
 ·have e1:(List.map aK (seats g p)).map (λ d=>match d with | .tup [.int a,.int b]=>oy (cn rows (a,b)) | _=>.non)=(seats g p).map λ s=>oy (cn rows s):=by rw[List.map_map];rfl
  rw[e1];simp[bY,line,hlen,cS,b?];refine comp_map (λ d=>match d with | .str [c]=>.bl (c6 g.kind (some c)) | _=>.bl false) ?_ ?_
  ·intro d hd;obtain⟨q,_,rfl⟩:=List.mem_map.mp hd;simp[FK];cases cn rows q<;>rfl
  ·have e2:((seats g p).map λ s=>oy (cn rows s)).map (λ d=>match d with | .str [c]=>D.bl (c6 g.kind (some c)) | _=>D.bl false)=(seats g p).map λ s=>D.bl (c6 g.kind (cn rows s)):=by rw[List.map_map];apply List.map_congr_left;intro s _;show(match oy (cn rows s)with | .str [c]=>D.bl (c6 g.kind (some c)) | _=>D.bl false)=_;cases cn rows s<;>rfl
   rw[e2];simp only[xl,all_map,Li];cases ha:(seats g p).all λ s=>c6 g.kind (cn rows s)with
   | false=>simp[cV,ha]
   | true=>simp[cV,ha,vJ,Bw]
def OU(rows:Rows)(g:G)(s:Pl):Bool:=c6 g.kind (cn rows s)
theorem all_false{α:Type}{f:α->Bool}{xs:List α}{x:α}(h:x∈xs)(e:f x=false):xs.all f=false:=by rw[Bool.eq_false_iff];intro z;rw[List.all_eq_true]at z;rw[z x h]at e;cases e
theorem Js{w j:Nat}{r c:Int}(h:j < w):(r,c+(j:Nat))∈gG w r c:=List.mem_map.mpr ⟨j,List.mem_range.mpr h,rfl⟩
theorem x!{g:G}{p:Pl}{i j:Nat}(hi:i < g.d)(hj:j < g.w):(p.1+(i:Nat),p.2+(j:Nat))∈seats g p :=
 List.mem_flatMap.mpr ⟨i,List.mem_range.mpr hi,Js hj⟩
theorem wk{rows:Rows}{g:G}{p s:Pl}(h:s∈seats g p)(e:OU rows g s=false):cV rows g p=false:=by unfold cV;have:=all_false (f:=OU rows g) h e;rw[show(seats g p).all (λ s=>c6 g.kind (cn rows s))=(seats g p).all (OU rows g)from rfl,this];rfl
def ic(r C:Nat):List Pl:=(List.range C).map λ(c:Nat)=>(((r:Nat):Int),((c:Nat):Int))
def i8(n C:Nat):List Pl:=(List.range n).flatMap λ r=>ic r C
theorem mU(n C:Nat):i8 (n+1) C=i8 n C++ic n C:=by simp[i8,List.range_succ,List.flatMap_append]
theorem r9(r C:Nat):(ic r C).length=C:=by simp[ic]
theorem sR(n C:Nat):(i8 n C).length=n*C:=by
 induction n with
 | zero=>simp[i8]
 | succ n ih=>rw[mU,List.length_append,ih,r9,Nat.succ_mul]
def places(rows:Rows)(C:Nat)(g:G):List Pl:=(i8 rows.length C).filter (cV rows g)
theorem places_of_ok{rows : Rows}{C : Nat}(H : Hall rows C){g : G}(k : GOk g): fx [cu rows, bB g] = .ok (.tup ((places rows C g).map aK)) := by
 rw[zf];refine aQ ?_;have wc:=H.c2;have YW:=H.r2;simp[k6,line];refine cR (λ i ρ=>i≤rows.length∧∃x,ρ=[v (cu rows),v (bB g),ow (((i8 i C).filter (cV rows g)).map aK),x]) ⟨Nat.zero_le _,none,rfl⟩ ?_ ?_
 ·rintro i d ρ hi ⟨_,x,rfl⟩;obtain⟨Fx,rfl⟩:=ints_get hi;obtain⟨row,_,hl,e1⟩:=H.row Fx;have Fv:C≤16777216:=by lia
  simp[e1,hl,bY,line,cS,b?,Fv];refine DV (λ d=>match d with | .int c=>cV rows g ((i:Int),c) | _=>false) (λ d=>.tup [.int (i:Nat),d]) ?_ ?_
  ·intro d hd;obtain⟨c,hc⟩:=List.getElem?_of_mem hd;obtain⟨_,rfl⟩:=ints_get hc;simp[line,DQ H k]
  ·have e2:((dq 0 C).filter (λ d=>match d with | .int c=>cV rows g ((i:Int),c) | _=>false)).map (λ d=>D.tup [.int (i:Nat),d])=((ic i C).filter (cV rows g)).map aK:=by
    rw[ints_map,ic,List.filter_map,List.filter_map,List.map_map,List.map_map]
    congr 1
    ·funext c;simp
    ·congr 1;funext c;simp
   rw[e2,mU,List.filter_append,List.map_append];have h1:=List.length_filter_le (cV rows g) (i8 i C);have h2:=List.length_filter_le (cV rows g) (ic i C);rw[sR]at h1;rw[r9]at h2;have h3:i*C≤100*100:=Nat.mul_le_mul (by lia) wc;refine⟨?_,by lia,rfl⟩;rw[List.length_map];lia
 ·rintro ρ ⟨_,x,rfl⟩;simp[places]
def cT(g:G)(p:Pl)(h:G)(q:Pl):Bool:=decide (p.1+g.d≤q.1∨q.1+h.d≤p.1∨p.2+g.w+max (g.gap:Int) (h.gap:Int)≤q.2∨q.2+h.w+max (g.gap:Int) (h.gap:Int)≤p.2)
theorem HD(g:G)(p:Pl)(h:G)(q:Pl):rB [bB g,aK p,bB h,aK q]=.ok (.bl (cT g p h q)):=by
 rw[Hl];refine aQ ?_;by_cases h1:p.1+g.d≤q.1
 ·simp[mT,cT,h1]
 ·by_cases h2:q.1+h.d≤p.1
  ·simp[mT,cT,h1,h2]
  ·by_cases h3:p.2+g.w+max (g.gap:Int) h.gap≤q.2
   ·simp[mT,cT,h1,h2,h3]
   ·simp[mT,cT,h1,h2,h3]
end KG
set_option maxRecDepth 8000
namespace KG
open Z
def Bd(ns:List Int):Prop:=∀i∈ns,bits i≤2 ^ 20
theorem k4{ns:List Int}(hb:Bd ns){k:Int}(h:0≤k):∃c,aL [.lst (ns.map .int),.int k]=.ok (.int c)∧bits c≤2 ^ 20:=by
 by_cases hk:k < ns.length
 ·have hj:k.toNat < ns.length:=by lia
  have e:=(eJ (xs:=ns.map D.int) (i:=k) (j:=k.toNat) (d:=.int ns[k.toNat]) (by lia) (by simp[hj])).2;refine⟨ns[k.toNat],?_,hb _ (List.getElem_mem hj)⟩;rw[ov];refine aQ ?_;simp[fX,hk,e]
 ·refine⟨0,?_,by decide⟩;rw[ov];refine aQ ?_;simp[fX,hk]
theorem mixed(c:Int){k:Int}(h0:0≤k)(h1:k≤1000):∃m,bM [.int c,.int k]=.ok (.int m)∧0≤m:=by
 have q1:bI 7919 k:=cG (by decide) (by decide);have q2:bI (7919*k) k:=iz (by lia) (by lia);have q3:∀x,bI x 48271:=λ x=>iz (by decide) (by decide);have q4:∀x:Int,bI (x % 2147483647) (x % 2147483647):=λ x=>cG (by lia) (by lia);have q5:∀x,bI 69621 x:=λ x=>cG (by decide) (by decide);have q6:∀x,bI x 39373:=λ x=>iz (by decide) (by decide);have q7:∀x,bI 11 x:=λ x=>cG (by decide) (by decide);rw[rF];have:Ok (bJ (fj [v (.int c),v (.int k),none])) λ d=>∃m,d=.int m∧0≤m:=by refine lr ?_;simp[fj,q1,q2,q3,q4,q5,q6,q7];lia
 obtain⟨d,e,m,rfl,hm⟩:=this;exact⟨m,e,hm⟩
theorem oR(z:Int):∃q∈cN,bc (.str cN) (.int (z % 26))=.ok (.str [q]) :=
 yX (by lia) (by simp[cN];lia) (by decide)
theorem rg{q:Nat}(h:q∈cN):q∈signs:=(by decide:∀q∈cN,q∈signs) q h
structure Ll(rows:Rows)(C:Nat):Prop extends Hall rows C where
 r6:rows.length≤6
 c12:C≤12
 sg:∀x∈rows,∀c∈x,c∈signs
theorem Qn{rows:Rows}{C:Nat}(h1:1≤rows.length)(h2:rows.length≤6)(h3:1≤C)(h4:C≤12)(h:∀x∈rows,x.length=C∧∀c∈x,c∈signs):Ll rows C :=
 ⟨⟨h1,by lia,h3,by lia,λ x hx=>(h x hx).1⟩,h2,h4,λ x hx=>(h x hx).2⟩
def m6(C i:Nat)(rows:Rows):Prop:=rows.length=i∧∀x∈rows,x.length=C∧∀c∈x,c∈signs
def C2(j:Nat)(ln:List Nat):Prop:=ln.length=j∧∀c∈ln,c∈signs
theorem C2.nil:C2 0 []:=⟨rfl,λ c h=>by cases h⟩
theorem m6.nil(C:Nat):m6 C 0 []:=⟨rfl,λ c h=>by cases h⟩
theorem m6.add{C i:Nat}{rows:Rows}{ln:List Nat}(h:m6 C i rows)(hl:C2 C ln):m6 C (i+1) (rows++[ln]) :=
 ⟨by simp [h.1],λ c hc=>by
  rcases List.mem_append.mp hc with hc | hc
  ·exact h.2 c hc
  ·rw[List.mem_singleton.mp hc];exact hl⟩
theorem fL{z:Int}(h:0≤z):∃n:Nat,z=n:=⟨z.toNat,by lia⟩
theorem sx{xs:List D}{i:Int}{Q:D->Prop}(h0:0≤i)(h1:i < xs.length)(h:∀d∈xs,Q d):Ok (bc (.lst xs) (.int i)) Q:=by obtain⟨d,hd,e,_⟩:=yY h0 h1;exact⟨d,e,h d hd⟩
end KG
namespace KG
open Z
structure GrpG(g:G):Prop extends GOk g where
 XT:g.w≤12
 d3:g.d≤3
 kl:g.kind=[]∨∃c∈cN,g.kind=[c]
 XS:g.wide≤g.w*g.d
 g6:g.gap≤6
 We:∃(wt:Int)(ws:List Pl),ws.length≤6∧g.worth=.int wt∧g.pJ=.tup (ws.map aK)
theorem J3{g:G}(h1:1≤g.w)(h2:g.w≤12)(h3:1≤g.d)(h4:g.d≤3)(h5:g.kind=[]∨∃c∈cN,g.kind=[c])(h6:g.wide≤g.w*g.d)(h7:g.gap≤6)(h8:∃(wt:Int)(ws:List Pl),ws.length≤6∧g.worth=.int wt∧g.pJ=.tup (ws.map aK)):GrpG g :=
 ⟨⟨h1,by lia,h3,by lia,by rcases h5 with h | ⟨c,_,h⟩<;>rw [h]<;>simp,by have:g.w*g.d≤12*3:=Nat.mul_le_mul h2 h4;lia,by lia⟩,h2,h4,h5,h6,h7,h8⟩
end KG
noncomputable section
namespace KG
open Z
@[simp] theorem Sk(b:Bool):nC .bool (.bl b)=true:=rfl
@[simp] theorem Py(xs:List D):nC .tuple (.tup xs)=true:=rfl
@[simp] theorem Uy(p:Pl):nC .tuple (aK p)=true:=rfl
@[simp] theorem Pz(i:Int):nC .int (.int i)=true:=rfl
@[simp] theorem NJ(i:Int):nC .bool (.int i)=false:=rfl
theorem Xs(n:Nat)(p q:Pl):dC (n+1) (aK p) (aK q)=some (decide (p=q)):=by
 show allEq (dC n) [.int p.1,.int p.2] [.int q.1,.int q.2]=_;have e:∀a b:Int,dC n (.int a) (.int b)=some (decide (a=b)):=λ a b=>by cases n<;>rfl
 simp only[allEq,e]
 congr 1
 rw[Bool.eq_iff_iff];simp[Prod.ext_iff]
theorem M5(n:Nat)(ps qs:List Pl):allEq (dC (n+1)) (ps.map aK) (qs.map aK)=some (decide (ps=qs)):=sS (Xs n) ps qs
theorem VG(n:Nat)(ps qs:List Int):allEq (dC n) (ps.map D.int) (qs.map D.int)=some (decide (ps=qs)):=sS (λ a b=>by cases n<;>rfl) ps qs
@[simp] theorem Ul(ps qs:List Pl):qH (.lst (ps.map aK)) (.lst (qs.map aK))=.ok (.bl (!decide (ps=qs))):=by have:lF (.lst (ps.map aK)) (.lst (qs.map aK))=some (decide (ps=qs)):=M5 4 ps qs;unfold qH;rw[this]
@[simp] theorem ZK(ps qs:List Pl):oEq (.lst (ps.map aK)) (.lst (qs.map aK))=.ok (.bl (decide (ps=qs))):=by have:lF (.lst (ps.map aK)) (.lst (qs.map aK))=some (decide (ps=qs)):=M5 4 ps qs;unfold oEq;rw[this]
@[simp] theorem ZJ(ps qs:List Pl):oEq (.tup (ps.map aK)) (.tup (qs.map aK))=.ok (.bl (decide (ps=qs))):=by have:lF (.tup (ps.map aK)) (.tup (qs.map aK))=some (decide (ps=qs)):=M5 4 ps qs;unfold oEq;rw[this]
@[simp] theorem neI(ps qs:List Int):qH (.lst (ps.map D.int)) (.lst (qs.map D.int))=.ok (.bl (!decide (ps=qs))):=by have:lF (.lst (ps.map D.int)) (.lst (qs.map D.int))=some (decide (ps=qs)):=VG 5 ps qs;unfold qH;rw[this]
theorem Nj(p:Pl):∀(qs:List Pl),fI (aK p) (qs.map aK)=some (decide (p∈qs))
 | []=>rfl
 | q :: qs=>by
  rw[List.map_cons,fI,Nj p qs,show lF (aK q) (aK p)=some (decide (q=p))from Xs 5 q p];show some (decide (q=p) || decide (p∈qs))=_
  congr 1
  rw[Bool.eq_iff_iff];simp only[Bool.or_eq_true,decide_eq_true_eq,List.mem_cons];exact⟨λ h=>h.imp Eq.symm id,λ h=>h.imp Eq.symm id⟩
@[simp] theorem YD(p:Pl)(qs:List Pl):EB (aK p) (.tup (qs.map aK))=.ok (.bl (decide (p∈qs))):=by simp only[EB,Nj]
@[simp] theorem Sa(p:Pl)(qs:List Pl):iw (aK p) (.tup (qs.map aK))=.ok (.bl (!decide (p∈qs))):=by simp only[iw,Nj]
end KG
end
noncomputable section
namespace KG
open Z
def Dy(p q:Pl):Prop:=p.1 < q.1∨p.1=q.1∧p.2 < q.2
theorem yH(r C:Nat):(ic r C).Pairwise Dy:=by unfold ic;rw[List.pairwise_map];refine(List.pairwise_lt_range (n:=C)).imp ?_;intro a b h;exact .inr ⟨rfl,by show((a:Nat):Int) < (b:Nat);lia⟩
theorem x?{r C:Nat}{p:Pl}(h:p∈ic r C):p.1=r∧0≤p.2∧p.2 < C:=by obtain⟨c,hc,rfl⟩:=List.mem_map.mp h;rw[List.mem_range]at hc;exact⟨rfl,by show(0:Int)≤(c:Nat);lia,by show((c:Nat):Int) < C;lia⟩
theorem x_{n C:Nat}{p:Pl}:p∈i8 n C↔0≤p.1∧p.1 < n∧0≤p.2∧p.2 < C:=by
 constructor
 ·intro h;obtain⟨r,hr,h⟩:=List.mem_flatMap.mp h;rw[List.mem_range]at hr;obtain⟨h1,h2,h3⟩:=x? h;exact⟨by lia,by lia,h2,h3⟩
 ·rintro⟨h1,h2,h3,h4⟩;refine List.mem_flatMap.mpr ⟨p.1.toNat,List.mem_range.mpr (by lia),List.mem_map.mpr ⟨p.2.toNat,List.mem_range.mpr (by lia),?_⟩⟩;apply Prod.ext
  ·show((p.1.toNat:Nat):Int)=p.1;lia
  ·show((p.2.toNat:Nat):Int)=p.2;lia
theorem zS(n C:Nat):(i8 n C).Pairwise Dy:=by
 induction n with
 | zero=>simp[i8]
 | succ n ih =>rw[mU,List.pairwise_append];refine⟨ih,yH n C,λ a ha b hb=>?_⟩;have h1:=x_.mp ha;have h2:=x? hb;exact .inl (by lia)
theorem w?(rows:Rows)(C:Nat)(g:G):(places rows C g).Pairwise Dy:=(zS _ _).filter _
theorem take_snoc{α:Type}{xs:List α}{i:Nat}{x:α}(h:xs[i]?=some x):xs.take (i+1)=xs.take i++[x]:=by rw[List.take_add_one,h];rfl
theorem places_len{rows:Rows}{C:Nat}(H:Hall rows C)(g:G):(places rows C g).length≤10000:=by have h1:=List.length_filter_le (cV rows g) (i8 rows.length C);rw[sR]at h1;have:rows.length*C≤100*100:=Nat.mul_le_mul H.r2 H.c2;unfold places;lia
end KG
end
set_option maxRecDepth 4000
namespace KG
open Z
end KG
set_option maxRecDepth 8000
namespace KG
open Z
abbrev GP:=G×Pl
abbrev GO:=G×Option Pl
def cC:Option Pl->D
 | none=>.non
 | some p=>aK p
@[simp] theorem NU(p:Pl):cC (some p)=aK p:=rfl
@[simp] theorem NV:cC none=.non:=rfl
def qe(x:GP):D:=.tup [bB x.1,aK x.2]
def Hu(x:GO):D:=.tup [bB x.1,cC x.2]
theorem KD:∀(xs:List GO),e_ (xs.map λ x=>bB x.1) (xs.map λ x=>cC x.2)=xs.map Hu
 | []=>rfl
 | x :: xs=>by simp[e_,KD xs];rfl
@[simp] theorem Uh(o:Option Pl):eH (cC o)=.ok (.bl o.isSome):=by cases o<;>rfl
@[simp] theorem WN(o:Option Pl):ly (cC o)=.ok (.bl o.isNone):=by cases o<;>rfl
@[simp] theorem gX(x:GP)(i j:Nat)(ρ:Env):ka [i,j] (qe x) ρ=.ok ((ρ.set i (v (bB x.1))).set j (v (aK x.2))):=rfl
@[simp] theorem gY(x:GO)(i j:Nat)(ρ:Env):ka [i,j] (Hu x) ρ=.ok ((ρ.set i (v (bB x.1))).set j (v (cC x.2))):=rfl
theorem ji{α:Type}(xs:List α):xs.filter (λ _=>true)=xs:=List.filter_eq_self.mpr λ _ _=>rfl
def nI:List GO->List GP
 | []=>[]
 | (g,some p) :: xs=>(g,p) :: nI xs
 | (_,none) :: xs=>nI xs
theorem yB:∀(xs:List GO),(xs.filter λ x=>x.2.isSome).map Hu=(nI xs).map qe
 | []=>rfl
 | (g,some p) :: xs=>by rw[List.filter_cons_of_pos (by rfl)];simp only[List.map_cons,nI,yB xs];rfl
 | (g,none) :: xs=>by rw[List.filter_cons_of_neg (by simp)];simp only[nI,yB xs]
theorem oP:∀(xs:List GO),(nI xs).length≤xs.length
 | []=>Nat.le_refl _
 | (g,some p) :: xs=>by have:=oP xs;simp only[nI,List.length_cons];lia
 | (g,none) :: xs=>by have:=oP xs;simp only[nI,List.length_cons];lia
theorem ju:∀{xs:List GO}{y:GP},y∈nI xs↔(y.1,some y.2)∈xs
 | [],y=>by simp[nI]
 | (g,some p) :: xs,y=>by
  simp only[nI,List.mem_cons,ju (xs:=xs),Prod.mk.injEq,Option.some.injEq];constructor
  ·rintro(rfl | h)
   ·exact .inl ⟨rfl,rfl⟩
   ·exact .inr h
  ·rintro(⟨h1,h2⟩ | h)
   ·left;rw[<-h1,<-h2]
   ·exact .inr h
 | (g,none) :: xs,y=>by simp only[nI,List.mem_cons,ju (xs:=xs),Prod.mk.injEq,reduceCtorEq,and_false,false_or]
theorem qL{xs:List GO}(h:xs.length≤16777216):cA [.tup (xs.map λ x=>bB x.1),.tup (xs.map λ x=>cC x.2)]=.ok (.lst ((nI xs).map qe)):=by
 rw[rD];refine aQ ?_;simp[fy,bY,line,cS,b?,KD,h];refine cE Hu (λ x=>x.2.isSome) Hu ?_ ?_
 ·intro x hx;simp;exact λ _=>⟨by decide,rfl⟩
 ·rw[yB]
theorem vK{α:Type}(f:α->Bool)(xs:List α):xl (.lst (xs.map λ x=>D.bl (f x)))=.ok (.bl (xs.all f)):=by simp only[xl,all_map]
theorem HG(g:G)(p:Pl){xs:List GP}(h:xs.length≤16777216):dB [bB g,aK p,.lst (xs.map qe)]=.ok (.bl (xs.all λ x=>cT g p x.1 x.2)):=by
 rw[rG];refine aQ ?_;simp[fA,bY,line,cS,b?,h];refine cE qe (λ _=>true) (λ x=>.bl (cT g p x.1 x.2)) ?_ ?_
 ·intro x hx;simp[HD]
 ·rw[ji,vK];simp
theorem Bu{α:Type}(xs:List α){k:Nat}(h:k≤xs.length):cut xs none (some (k:Int))=xs.take k:=by
 have:¬(k:Int) < 0:=by lia
 simp[cut,dP,this]
def vV(ss:List GP)(k:Nat):Bool:=match ss[k]? with
 | some x=>(ss.take k).all λ y=>cT x.1 x.2 y.1 y.2
 | none=>true
def sv(rows:Rows)(ss:List GP):Bool:=(ss.all λ x=>cV rows x.1 x.2)&&(List.range ss.length).all (vV ss)
theorem GW{rows : Rows}{C : Nat}(H : Hall rows C){xs : List GO}(h6 : xs.length ≤ 6)(hg : ∀x ∈ xs, GOk x.1): iZ [cu rows, .tup (xs.map λ x => bB x.1), .tup (xs.map λ x => cC x.2)] = .ok (.bl (sv rows (nI xs))) := by
 rw[Hk];refine aQ ?_;have Fw:=oP xs;have hl:(nI xs).length≤16777216:=by lia
 have Y6:xs.length≤16777216:=by lia
 have hk:∀x∈nI xs,GOk x.1:=λ x hx=>hg _ (ju.mp hx);generalize Su:nI xs=ss at Fw hl hk;simp[u0,bY,line,cS,b?,qL Y6,Su,hl];refine cE qe (λ _=>true) (λ x=>.bl (cV rows x.1 x.2)) ?_ ?_
 ·intro x hx;simp[DQ H (hk x hx)]
 ·rw [ji,vK];cases e:(ss.all λ x=>cV rows x.1 x.2)with
  | false=>simp[sv,e]
  | true =>
   simp[hl];refine Z.comp_map (λ d=>match d with | .int c=>.bl (vV ss c.toNat) | d=>d) ?_ ?_
   ·intro d hd;obtain⟨j,hj⟩:=List.getElem?_of_mem hd;obtain⟨y9,rfl⟩:=ints_get hj;obtain⟨x,ex⟩:∃x,ss[j]?=some x:=⟨_,List.getElem?_eq_getElem y9⟩
    have i1:=(eJ (xs:=ss.map qe) (i:=j) (j:=j) (d:=qe x) rfl (by rw[List.getElem?_map,ex];rfl)).2;have i2:bc (qe x) (.int 0)=.ok (bB x.1):=rfl;have i3:bc (qe x) (.int 1)=.ok (aK x.2):=rfl;have ct:=Bu (ss.map qe) (k:=j) (by rw[List.length_map];lia);have af:=HG x.1 x.2 (xs:=ss.take j) (by rw[List.length_take];lia);rw[List.map_take]at af;rw[Int.zero_add];simp[i1,i2,i3,KZ,ct,af,vV,ex]
   ·have:(dq 0 ss.length).map (λ d=>match d with | .int c=>.bl (vV ss c.toNat) | d=>d)=(List.range ss.length).map λ j=>D.bl (vV ss j):=by rw[ints_map,List.map_map];refine List.map_congr_left λ j _=>?_;simp
    rw[this,vK];simp[sv,e]
theorem Co{rows:Rows}{ss:List GP}:sv rows ss=true↔(∀x∈ss,cV rows x.1 x.2=true)∧ss.Pairwise λ a b=>cT b.1 b.2 a.1 a.2=true:=by
 unfold sv;rw[Bool.and_eq_true,List.all_eq_true,List.all_eq_true,List.pairwise_iff_getElem];refine and_congr_right λ _=>?_;constructor
 ·intro h i j hi hj K9;have:=h j (List.mem_range.mpr hj);rw[vV,List.getElem?_eq_getElem hj]at this;rw[List.all_eq_true]at this;exact this ss[i] (List.mem_iff_getElem.mpr ⟨i,by rw[List.length_take];lia,by rw[List.getElem_take]⟩)
 ·intro h k hk;rw[List.mem_range]at hk;rw[vV,List.getElem?_eq_getElem hk];rw[List.all_eq_true];intro y hy;obtain⟨i,hi,rfl⟩:=List.mem_iff_getElem.mp hy;rw[List.length_take]at hi;rw[List.getElem_take];exact h i k (by lia) hk (by lia)
end KG
namespace KG
open Z
theorem Fj(g:G)(p:Pl)(h:G)(q:Pl):cT g p h q=cT h q g p:=by unfold cT;rw[decide_eq_decide,Int.max_comm (h.gap:Int)];lia
theorem vf{R:GP->GP->Prop}:∀{xs:List GO},(nI xs).Pairwise R↔xs.Pairwise λ a b=>∀p q,a.2=some p->b.2=some q->R (a.1,p) (b.1,q)
 | []=>by simp[nI]
 | (g,some p) :: xs=>by
  simp only[nI,List.pairwise_cons,vf (xs:=xs)];refine and_congr_left λ _=>?_;constructor
  ·intro h b hb p' q hp hq;cases hp;exact h (b.1,q) (ju.mpr (by simp only[<-hq];exact hb))
  ·intro h y hy;exact h _ (ju.mp hy) p y.2 rfl rfl
 | (g,none) :: xs=>by simp only[nI,List.pairwise_cons,vf (xs:=xs)];exact⟨λ h=>⟨λ b hb p q hp=>(by cases hp),h⟩,λ h=>h.2⟩
end KG
set_option maxRecDepth 4000
noncomputable section
namespace KH
open Z KG
def jz:SF:=(a_ (eB bj (eB bj (Ic (eW 0) HX (BK (eW 1))) (fM (aa (eV 2) ax))) (Ic (eW 0) (BK (eB bj (eW 1) (eC (.int 1)))) HX)))
def cx:List D->Res D:=fn 3 3 jz
theorem xt(x0 x1 x2:D):cx [x0,x1,x2]=bJ (jz [some (.val x0),some (.val x1),some (.val x2)]):=cg _ _ _ _ rfl
def jA:SF:=(a_ (eU dM (eL (cf (eY (eW 0)) 1 [1,2] (bA 0) (tE (aw KG.dB (aa (eV 1) (aa (eV 0) (aa (eV 2) ax))))) (eV 0)))))
def eO:List D->Res D:=fn 3 3 jA
theorem xu(x0 x1 x2:D):eO [x0,x1,x2]=bJ (jA [some (.val x0),some (.val x1),some (.val x2)]):=cg _ _ _ _ rfl
def jC:SF:=(aB (nB 2 (bX ax)) (aB (fN (eY (eV 1)) (bA 3) (aB (cH 2 (eB oMod (eW 0) (eW 3))) (aM 0 (eB oDiv (eW 0) (eW 3))))) (w! 2 (a_ (eV 2)))))
def c9:List D->Res D:=fn 2 4 jC
theorem xy(x0 x1:D):c9 [x0,x1]=bJ (jC [some (.val x0),some (.val x1),none,none]):=cg _ _ _ _ rfl
def kC:SF:=(aB (aM 1 (aw KG.aL (aa (eV 0) (aa (eC (.int 0)) ax)))) (aB (aM 2 (eB bj (eC (.int 1)) (eB oMod (eB oDiv (eW 1) (eC (.int 2))) (eC (.int 6))))) (aB (aM 3 (eB bj (eC (.int 1)) (eB oMod (eB oDiv (eW 1) (eC (.int 12))) (eC (.int 12))))) (aB (aM 4 (eB bc (eC (.str cN)) (eB oMod (eB oDiv (eW 1) (eC (.int 144))) (eC (.int 26))))) (aB (aM 5 (eB bc (eC (.str cN)) (eB oMod (eB bj (eB bj (eB oDiv (eW 1) (eC (.int 144))) (eC (.int 1))) (eB oMod (eB oDiv (eW 1) (eC (.int 3744))) (eC (.int 25)))) (eC (.int 26))))) (aB (aM 6 (eB bc (eL (bX (aa (eC (.str [46,46,46,46,46,46,46,61])) (aa (eB bj (eB bj (eC (.str [46,46])) (eC (.str [46,46,46,61,35]))) (eW 4)) (aa (eB bj (eB bj (eB bj (eC (.str [46,46,46])) (eC (.str [61,61,35]))) (eW 4)) (eW 5)) ax))))) (eB oMod (eB oDiv (eW 1) (eC (.int 93600))) (eC (.int 3))))) (aB (gi (tE (eB oEq (eB oMod (eW 1) (eC (.int 2))) (eC (.int 1)))) (aB (aM 6 (eC (.str signs))) (aM 7 (aw c9 (aa (aw KG.aL (aa (eV 0) (aa (eC (.int 1)) ax))) (aa (eL (GQ (bX (aa (eC (.int 29)) ax)) (eB gy (eW 2) (eW 3)))) ax))))) (aB (aM 2 (eB bc (eL (bX (aa (eC (.int 1)) (aa (eC (.int 2)) (aa (eC (.int 3)) (aa (eC (.int 4)) (aa (eC (.int 2)) (aa (eC (.int 3)) ax)))))))) (eB AN (eW 2) (eC (.int 1))))) (aB (aM 3 (eB bc (eL (bX (aa (eC (.int 1)) (aa (eC (.int 2)) (aa (eC (.int 3)) (aa (eC (.int 4)) (aa (eC (.int 5)) (aa (eC (.int 6)) (aa (eC (.int 8)) (aa (eC (.int 3)) (aa (eC (.int 4)) (aa (eC (.int 5)) (aa (eC (.int 6)) (aa (eC (.int 12)) ax)))))))))))))) (eB AN (eW 3) (eC (.int 1))))) (aM 7 (eL (cf (eZ (eB gy (eW 2) (eW 3))) 1 [0] (bA 0) dR (eB oMod (eB oDiv (aw KG.bM (aa (aw KG.aL (aa (eV 1) (aa (eC (.int 1)) ax))) (aa (eV 0) ax))) (eC (.int 5))) (eC (.int 8))))))))) (aB (nB 8 (bX ax)) (aB (fN (eZ (eV 2)) (bA 9) (cH 8 (eB vI (eC (.str [])) (eL (cf (eY (eL (K0 (eW 7) (BK (eB gy (eW 9) (eW 3))) (BK (eB gy (eB bj (eW 9) (eC (.int 1))) (eW 3)))))) 1 [6] (bA 0) dR (eB bc (eW 1) (eW 0))))))) (a_ (fM (aa (eU dM (eW 8)) (aa (eV 4) (aa (eV 5) ax))))))))))))))
def iW:List D->Res D:=fn 1 10 kC
theorem Bj(x0:D):iW [x0]=bJ (kC [some (.val x0),none,none,none,none,none,none,none,none,none]):=cg _ _ _ _ rfl
def kB:SF:=(aB (aM 2 (eC (.str cN))) (aB (aM 3 (eB bj (eC (.int 1)) (eB oMod (eW 0) (eC (.int 8))))) (aB (aM 4 (eB oMod (eB oDiv (eW 0) (eC (.int 8))) (eW 3))) (aB (aM 5 (eC (.str []))) (aB (fN (eZ (eV 3)) (bA 6) (aB (aM 7 (eB bj (eB oDiv (eB oDiv (eW 0) (eC (.int 64))) (eB bj (eW 6) (eC (.int 1)))) (eB gy (eW 6) (eW 6)))) (aB (gi (tE (eB oEq (eW 6) (eW 4))) (aM 7 (eB bj (eW 7) (eW 1))) bF) (aM 5 (eB bj (eW 5) (eB bc (eW 2) (eB oMod (eW 7) (eC (.int 26))))))))) (a_ (eV 5)))))))
def iV:List D->Res D:=fn 2 8 kB
theorem Bi(x0 x1:D):iV [x0,x1]=bJ (kB [some (.val x0),some (.val x1),none,none,none,none,none,none]):=cg _ _ _ _ rfl
def lY:SF:=(aB (aM 2 (eL (bX (aa (eC (.str [])) (aa (eC (.str [97])) (aa (eC (.str [98])) (aa (eC (.str [99])) (aa (eC (.str [100])) (aa (eC (.str [101])) (aa (eC (.str [102])) (aa (eC (.str [103])) (aa (eC (.str [104])) (aa (eC (.str [105])) (aa (eC (.str [106])) (aa (eC (.str [107])) (aa (eC (.str [108])) (aa (eC (.str [109])) (aa (eC (.str [110])) (aa (eC (.str [111])) (aa (eC (.str [112])) (aa (eC (.str [113])) (aa (eC (.str [114])) (aa (eC (.str [115])) ax))))))))))))))))))))))) (aB (aM 2 (eL (GR (eW 2) (eL (bX (aa (eC (.str [116])) (aa (eC (.str [117])) (aa (eC (.str [118])) (aa (eC (.str [119])) (aa (eC (.str [120])) (aa (eC (.str [121])) (aa (eC (.str [122])) ax)))))))))))) (aB (Ao (aw c9 (aa (eV 0) (aa (eL (bX (aa (eC (.int 12)) (aa (eC (.int 3)) (aa (eC (.int 27)) (aa (eC (.int 7)) (aa (eC (.int 2)) (aa (eC (.int 64)) ax)))))))) ax))) (xp [3,4,5,6,7,8])) (aB (aM 9 (eB oDiv (eW 0) (eC (.int 870912)))) (aB (aM 10 (eB oMod (eW 9) (eB bj (eB gy (eB bj (eW 3) (eC (.int 1))) (eB bj (eW 4) (eC (.int 1)))) (eC (.int 1))))) (aB (aM 11 (eB bc (eL (bX (aa (eL (bX (aa (eC (.int 4)) (aa (eC (.int 3)) (aa (eC (.int 3)) (aa (eC (.int 3)) (aa (eC (.int 3)) (aa (eC (.int 3)) (aa (eC (.int 3)) ax))))))))) (aa (eL (GR (eL (bX (aa (eB n! (eC (.int 10)) (eC (.int 60))) ax))) (eL (GQ (bX (aa (eB AN (eB n! (eC (.int 10)) (eC (.int 60))) (eC (.int 1))) ax)) (eC (.int 6)))))) ax)))) (eW 7))) (aB (aM 12 (aw c9 (aa (eB oDiv (eW 9) (eB bj (eB gy (eB bj (eW 3) (eC (.int 1))) (eB bj (eW 4) (eC (.int 1)))) (eC (.int 1)))) (aa (eV 11) ax)))) (aB (aM 13 (eL (cf (eZ (eC (.int 6))) 1 [8,12] (bA 0) (tE (eB oEq (eB oMod (eB oDiv (eW 1) (eB bc (eL (bX (aa (eC (.int 1)) (aa (eC (.int 2)) (aa (eC (.int 4)) (aa (eC (.int 8)) (aa (eC (.int 16)) (aa (eC (.int 32)) ax)))))))) (eW 0))) (eC (.int 2))) (eC (.int 1)))) (fM (aa (eV 0) (aa (eB bj (eC (.int 1)) (eB bc (eW 2) (eB bj (eC (.int 1)) (eW 0)))) ax)))))) (a_ (fM (aa (eV 1) (aa (eB bj (eW 3) (eC (.int 1))) (aa (eB bj (eW 4) (eC (.int 1))) (aa (eB bc (eW 2) (eW 5)) (aa (eV 10) (aa (eV 6) (aa (eB bc (eW 12) (eC (.int 0))) (aa (eU dM (eW 13)) ax))))))))))))))))))
def km:List D->Res D:=fn 2 14 lY
theorem CF(x0 x1:D):km [x0,x1]=bJ (lY [some (.val x0),some (.val x1),none,none,none,none,none,none,none,none,none,none,none,none]):=cg _ _ _ _ rfl
def i5:SF:=(aB (aM 4 (eB bj (eC (.int 1)) (eB oMod (eW 0) (eC (.int 3))))) (aB (aM 5 (eB bc (eL (bX (aa (eC (.int 1)) (aa (eC (.int 1)) (aa (eC (.int 1)) (aa (eC (.int 2)) ax)))))) (eB oMod (eB oDiv (eW 0) (eC (.int 3))) (eC (.int 4))))) (aB (aM 6 (eB bc (eL (bX (aa (eC (.str [])) (aa (eC (.str [])) (aa (eB bc (eW 2) (eC (.int 0))) (aa (eB bc (eW 2) (eC (.int 1))) ax)))))) (eB oMod (eB oDiv (eW 0) (eC (.int 12))) (eC (.int 4))))) (aB (aM 7 (eB bc (eL (bX (aa (eC (.int 0)) (aa (eC (.int 0)) (aa (eC (.int 0)) (aa (eC (.int 1)) ax)))))) (eB oMod (eB oDiv (eW 0) (eC (.int 48))) (eC (.int 4))))) (aB (aM 8 (eB oMod (eB oDiv (eW 0) (eC (.int 768))) (eC (.int 4)))) (aB (aM 9 (eB bj (eC (.int 1)) (eB oMod (eB oDiv (eW 0) (eC (.int 3072))) (eC (.int 3))))) (aB (gi (tE (eV 3)) (aB (aM 8 (eB oMod (eB oDiv (eW 0) (eC (.int 768))) (eB n! (eC (.int 10)) (eC (.int 40))))) (aM 9 (eB bj (eC (.int 1)) (eB oMod (eB oDiv (eW 0) (eC (.int 3072))) (eB n! (eC (.int 10)) (eC (.int 39))))))) bF) (aB (nB 10 (bX ax)) (aB (fN (eZ (eC (.int 4))) (bA 11) (gi (tE (eB oEq (eB oMod (eB oDiv (eW 0) (eB bc (eL (bX (aa (eC (.int 9216)) (aa (eC (.int 27648)) (aa (eC (.int 82944)) (aa (eC (.int 248832)) ax)))))) (eW 11))) (eC (.int 3))) (eC (.int 1)))) (cH 10 (fM (aa (eV 11) (aa (eB bj (eW 9) (eB gy (eW 11) (eU AQ (eW 3)))) ax)))) bF)) (a_ (fM (aa (eV 1) (aa (eV 4) (aa (eV 5) (aa (eV 6) (aa (eV 7) (aa (eB bc (eL (bX (aa (eC (.int 0)) (aa (eC (.int 0)) (aa (eC (.int 1)) (aa (eC (.int 2)) ax)))))) (eB oMod (eB oDiv (eW 0) (eC (.int 192))) (eC (.int 4)))) (aa (eV 8) (aa (eU dM (eW 10)) ax)))))))))))))))))))
def gT:List D->Res D:=fn 4 12 i5
theorem zj(x0 x1 x2 x3:D):gT [x0,x1,x2,x3]=bJ (i5 [some (.val x0),some (.val x1),some (.val x2),some (.val x3),none,none,none,none,none,none,none,none]):=cg _ _ _ _ rfl
def hJ:SF:=(aB (Ao (aw c9 (aa (aw KG.aL (aa (eV 0) (aa (eC (.int 2)) ax))) (aa (eL (bX (aa (eC (.int 4)) (aa (eC (.int 7)) (aa (eC (.int 4)) (aa (eC (.int 4)) ax)))))) ax))) (xp [3,4,5,6])) (aB (nB 7 (bX ax)) (aB (fN (eZ (eV 4)) (bA 8) (aB (aM 9 (aw iV (aa (aw KG.aL (aa (eV 0) (aa (eC (.int 3)) ax))) (aa (eV 8) ax)))) (aB (aM 10 (aw KG.aL (aa (eV 0) (aa (eB bj (eC (.int 4)) (eW 8)) ax)))) (aB (gi (tE (eB L_ (eB bj (eC (.int 4)) (eW 8)) (eU cM (eW 0)))) (aM 10 (eB gy (aw KG.bM (aa (aw KG.aL (aa (eV 0) (aa (eC (.int 2)) ax))) (aa (eV 8) ax))) (aw KG.bM (aa (aw KG.aL (aa (eV 0) (aa (eC (.int 3)) ax))) (aa (eV 8) ax))))) bF) (gi (l6 (tE (eB oEq (eW 6) (eC (.int 1)))) (l6 (tE (eB z7 (eW 8) (eC (.int 0)))) (tE (eB z7 (eB oMod (eW 10) (eC (.int 3))) (eC (.int 0)))))) (cH 7 (eB bj (fM (aa (eV 9) ax)) (Ic (eB bc (eW 7) (eC (.int 0))) (BK (eC (.int 1))) HX))) (gi (tE (eB oEq (eB oMod (eW 3) (eC (.int 2))) (eC (.int 1)))) (cH 7 (aw km (aa (eV 10) (aa (eV 9) ax)))) (cH 7 (aw gT (aa (eB oMod (eW 10) (eB n! (eC (.int 10)) (eC (.int 50)))) (aa (eV 9) (aa (eB bj (eW 1) (eW 2)) (aa (eB oEq (eW 5) (eC (.int 1))) ax)))))))))))) (a_ (eU dM (eW 7))))))
def fT:List D->Res D:=fn 3 11 hJ
theorem xx(x0 x1 x2:D):fT [x0,x1,x2]=bJ (hJ [some (.val x0),some (.val x1),some (.val x2),none,none,none,none,none,none,none,none]):=cg _ _ _ _ rfl
def iD:SF:=(aB (gi (yv (tE (eB z7 (eB bj (eW 2) (eB bc (eW 1) (eC (.int 2)))) (eU cM (eW 0)))) (tE (eB z7 (eB bj (eW 3) (eB bc (eW 1) (eC (.int 1)))) (eU cM (eB bc (eW 0) (eC (.int 0))))))) (a_ (eC (.bl false))) bF) (aB (aM 4 (eC (.str []))) (aB (fN (v7 (eV 2) (eB bj (eW 2) (eB bc (eW 1) (eC (.int 2))))) (bA 5) (aM 4 (eB bj (eW 4) (Ic (eB bc (eW 0) (eW 5)) (BK (eW 3)) (BK (eB bj (eW 3) (eB bc (eW 1) (eC (.int 1))))))))) (aB (gi (tE (eB qH (eL (cf (eY (eW 4)) 1 [1] (bA 0) (l6 (tE (eB qH (eW 0) (eC (.str [46])))) (l6 (tE (eB qH (eW 0) (eC (.str [61])))) (tE (eB qH (eW 0) (eB bc (eW 1) (eC (.int 3))))))) (eV 0))) (eL (bX ax)))) (a_ (eC (.bl false))) bF) (a_ (eB L_ (eB xS (eW 4) (eC (.str [61]))) (eB bc (eW 1) (eC (.int 4)))))))))
def kU:List D->Res D:=fn 4 6 iD
theorem Bk(x0 x1 x2 x3:D):kU [x0,x1,x2,x3]=bJ (iD [some (.val x0),some (.val x1),some (.val x2),some (.val x3),none,none]):=cg _ _ _ _ rfl
def jB:SF:=(aB (nB 2 (bX ax)) (aB (fN (eZ (eU cM (eW 0))) (bA 3) (fN (eZ (eU cM (eB bc (eW 0) (eC (.int 0))))) (bA 4) (gi (tE (aw kU (aa (eV 0) (aa (eV 1) (aa (eV 3) (aa (eV 4) ax)))))) (cH 2 (fM (aa (eV 3) (aa (eV 4) ax)))) bF))) (w! 2 (a_ (eV 2)))))
def eP:List D->Res D:=fn 2 5 jB
theorem xw(x0 x1:D):eP [x0,x1]=bJ (jB [some (.val x0),some (.val x1),none,none,none]):=cg _ _ _ _ rfl
def fk:SF:=(aB (gi (yv (tE (eB oLe (eB bj (eB bc (eW 1) (eC (.int 0))) (eB bc (eW 0) (eC (.int 2)))) (eB bc (eW 3) (eC (.int 0))))) (tE (eB oLe (eB bj (eB bc (eW 3) (eC (.int 0))) (eB bc (eW 2) (eC (.int 2)))) (eB bc (eW 1) (eC (.int 0)))))) (a_ (eC (.bl true))) bF) (aB (aM 4 (eB Ey (eB bc (eW 0) (eC (.int 5))) (eB bc (eW 2) (eC (.int 5))))) (a_ (NW (eB oLe (eB bj (eB bj (eB bc (eW 1) (eC (.int 1))) (eB bc (eW 0) (eC (.int 1)))) (eW 4)) (eB bc (eW 3) (eC (.int 1)))) (eB oLe (eB bj (eB bj (eB bc (eW 3) (eC (.int 1))) (eB bc (eW 2) (eC (.int 1)))) (eW 4)) (eB bc (eW 1) (eC (.int 1))))))))
def jw:List D->Res D:=fn 4 5 fk
theorem zl(x0 x1 x2 x3:D):jw [x0,x1,x2,x3]=bJ (fk [some (.val x0),some (.val x1),some (.val x2),some (.val x3),none]):=cg _ _ _ _ rfl
def mO:SF:=(aB (nB 4 (bX ax)) (aB (fN (eY (eB bc (eW 0) (eW 3))) (bA 5) (aB (aM 6 (eC (.bl true))) (aB (fN (eZ (eU cM (eW 1))) (bA 7) (aB (aM 8 (eB bc (eW 2) (eW 7))) (gi (l6 (tE (eB qH (eW 7) (eW 3))) (tE (eU eH (eW 8)))) (aM 6 (wA (eV 6) (aw jw (aa (eB bc (eW 1) (eW 3)) (aa (eV 5) (aa (eB bc (eW 1) (eW 7)) (aa (eV 8) ax))))))) bF))) (gi (tE (eV 6)) (cH 4 (eV 5)) bF)))) (w! 4 (a_ (eV 4)))))
def gu:List D->Res D:=fn 4 9 mO
theorem Bg(x0 x1 x2 x3:D):gu [x0,x1,x2,x3]=bJ (mO [some (.val x0),some (.val x1),some (.val x2),some (.val x3),none,none,none,none,none]):=cg _ _ _ _ rfl
def mN:SF:=(a_ (eB bj (eB bj (Ic (eW 0) HX (BK (eW 1))) (fM (aa (eV 2) ax))) (Ic (eW 0) (BK (eB bj (eW 1) (eC (.int 1)))) HX)))
def fh:List D->Res D:=fn 3 3 mN
theorem Bf(x0 x1 x2:D):fh [x0,x1,x2]=bJ (mN [some (.val x0),some (.val x1),some (.val x2)]):=cg _ _ _ _ rfl
def g_:SF:=(aB (aM 3 (eU dM (eL (cf (eY (eW 1)) 1 [] (bA 0) dR (eC .non))))) (aB (fN (eZ (eU cM (eW 1))) (bA 4) (aB (aM 5 (aw KG.bM (aa (aw KG.aL (aa (eV 2) (aa (eB bj (eC (.int 1)) (eW 4)) ax))) (aa (eB bj (eC (.int 90)) (eW 4)) ax)))) (aB (gi (tE (eB oLt (eB bj (eC (.int 10)) (eW 4)) (eU cM (eW 2)))) (aM 5 (eB bc (eW 2) (eB bj (eC (.int 10)) (eW 4)))) bF) (aB (aM 6 (aw gu (aa (eV 0) (aa (eV 1) (aa (eV 3) (aa (eV 4) ax)))))) (gi (l6 (tE (eB qH (eW 6) (eL (bX ax)))) (tE (eB z7 (eB oMod (eW 5) (eC (.int 5))) (eC (.int 0))))) (aM 3 (aw fh (aa (eV 3) (aa (eV 4) (aa (eB bc (eW 6) (eB oMod (eB oDiv (eW 5) (eC (.int 5))) (eU cM (eW 6)))) ax))))) bF))))) (a_ (eV 3))))
def fS:List D->Res D:=fn 3 7 g_
theorem xv(x0 x1 x2:D):fS [x0,x1,x2]=bJ (g_ [some (.val x0),some (.val x1),some (.val x2),none,none,none,none]):=cg _ _ _ _ rfl
def mQ:SF:=(a_ (eU dM (eL (cf (eZ (eU cM (eW 0))) 1 [1,0] (bA 0) dR (M6 (tE (eB oEq (eB oMod (eB oDiv (eW 1) (eB bc (eL (bX (aa (eC (.int 1)) (aa (eC (.int 2)) (aa (eC (.int 4)) (aa (eC (.int 8)) (aa (eC (.int 16)) (aa (eC (.int 32)) ax)))))))) (eW 0))) (eC (.int 2))) (eC (.int 1)))) (eB bc (eW 2) (eW 0)) (eC .non))))))
def iX:List D->Res D:=fn 2 2 mQ
theorem Bl(x0 x1:D):iX [x0,x1]=bJ (mQ [some (.val x0),some (.val x1)]):=cg _ _ _ _ rfl
def lX:SF:=(aB (aM 3 (eC (.int 1))) (aB (nB 4 (bX ax)) (aB (fN (eY (eV 1)) (bA 5) (aB (aM 6 (eB bj (eC (.int 1)) (eU cM (aw eP (aa (eV 0) (aa (eV 5) ax)))))) (gi (tE (eB oLe (eB gy (eW 3) (eW 6)) (eW 2))) (aB (aM 3 (eB gy (eW 3) (eW 6))) (cH 4 (eV 5))) bF))) (a_ (eU dM (eW 4))))))
def kj:List D->Res D:=fn 3 7 lX
theorem CD(x0 x1 x2:D):kj [x0,x1,x2]=bJ (lX [some (.val x0),some (.val x1),some (.val x2),none,none,none,none]):=cg _ _ _ _ rfl
end KH
end
set_option maxRecDepth 8000
namespace KH
open Z KG
def ky:Int->List Int->List Int
 | _,[]=>[]
 | c,s :: ss=>c % s :: ky (c / s) ss
def Ih:Int->List Int->Int
 | c,[]=>c
 | c,s :: ss=>Ih (c / s) ss
theorem Br:∀(c:Int)(a b:List Int),ky c (a++b)=ky c a++ky (Ih c a) b
 | c,[],b=>rfl
 | c,s :: a,b=>by simp[ky,Ih,Br (c / s) a b]
theorem D8:∀(c:Int)(a b:List Int),Ih c (a++b)=Ih (Ih c a) b
 | c,[],b=>rfl
 | c,s :: a,b=>by simp[Ih,D8 (c / s) a b]
theorem rL:∀(c:Int)(a:List Int),(ky c a).length=a.length
 | c,[]=>rfl
 | c,s :: a=>by simp[ky,rL (c / s) a]
def V6(ss:List Int):Prop:=ss.length≤100∧∀s∈ss,0 < s∧s≤1000000000000000000000000000000000000000000000000000000000000
theorem oW{ss:List Int}(h:V6 ss)(c:Int):c9 [.int c,.lst (ss.map .int)]=.ok (.lst ((ky c ss).map .int)):=by
 rw[xy];refine aQ ?_;simp[jC,line];refine cR (λ i ρ=>∃x,ρ=[vi (Ih c (ss.take i)),v (.lst (ss.map .int)),ow ((ky c (ss.take i)).map .int),x]) ⟨none,by simp[Ih,ky]⟩ ?_ ?_
 ·rintro j d ρ hj ⟨x,rfl⟩;rw[List.getElem?_map]at hj;cases e:ss[j]? with
  | none=>rw[e]at hj;cases hj
  | some s =>
   rw[e]at hj;cases hj;obtain⟨h1,h2⟩:=h.2 s (List.mem_of_getElem? e);have hl:(ky c (ss.take j)).length < 16777216:=by rw[rL,List.length_take];have:=h.1;lia
   simp[h1,line,hl,bW h1 (by lia),take_snoc e,Br,D8,ky,Ih]
 ·rintro ρ ⟨x,rfl⟩;simp
theorem zt:∀(c:Int)(ss:List Int)(m:Int),(∀s∈ss,0 < s∧s≤m)->∀x∈ky c ss,0≤x∧x < m
 | c,[],m,_=>by simp[ky]
 | c,s :: ss,m,h=>by
  intro x hx;simp only[ky,List.mem_cons]at hx;rcases hx with rfl | hx
  ·obtain⟨h1,h2⟩:=h s List.mem_cons_self;have:=Int.emod_lt_of_pos c h1;exact⟨Int.emod_nonneg _ (by lia),by lia⟩
  ·exact zt (c / s) ss m (λ t ht=>h t (List.mem_cons_of_mem _ ht)) x hx
theorem CP{α:Type}(xs:List α){r c:Nat}(h:(r+1)*c≤xs.length):(cut xs (some ((r:Int)*c)) (some (((r:Int)+1)*c))).length=c:=by
 have h1:((r:Int)*c)=((r*c:Nat):Int):=by push_cast;rfl
 have h2:(((r:Int)+1)*c)=(((r+1)*c:Nat):Int):=by push_cast;rfl
 rw[h1,h2];have h3:(r+1)*c=r*c+c:=Nat.succ_mul ..;have n1:¬((r*c:Nat):Int) < 0:=by lia
 have n2:¬(((r+1)*c:Nat):Int) < 0:=by lia
 have a2:min ((r+1)*c) xs.length=(r+1)*c:=Nat.min_eq_left h;have a1:min (r*c) xs.length=r*c:=Nat.min_eq_left (Nat.le_trans (Nat.mul_le_mul_right c (Nat.le_succ r)) h);simp only[cut,dP,n1,n2,if_false,Int.toNat_natCast,List.length_take,List.length_drop,a1,a2];rw[h3,Nat.add_sub_cancel_left];exact Nat.min_eq_left (Nat.le_sub_of_add_le (by rw[Nat.add_comm,<-h3];exact h))
theorem Cg{α:Type}{xs:List α}{l h:Option Int}{x:α}(hx:x∈cut xs l h):x∈xs:=List.mem_of_mem_drop (List.mem_of_mem_take hx)
theorem Kh{α β:Type}(f:α->β)(xs:List α)(l h:Option Int):cut (xs.map f) l h=(cut xs l h).map f:=by simp[cut,List.map_take,List.map_drop]
theorem Dd{sg : List Nat}{nums : List Int}{R C : Nat}(hs : sg.length ≤ 100)(G3 : ∀c ∈ sg, c ∈ signs)(hn : ∀x ∈ nums, 0 ≤ x ∧ x < sg.length)(hl : nums.length = R * C)(hR : R ≤ 6)(hC : C ≤ 12){b : SF}{Q : Fl -> Prop}
  (hb:b=cH 8 (eB vI (eC (.str [])) (eL (cf (eY (eL (K0 (eW 7) (BK (eB gy (eW 9) (eW 3))) (BK (eB gy (eB bj (eW 9) (eC (.int 1))) (eW 3)))))) 1 [6] (bA 0) dR (eB bc (eW 1) (eW 0))))))
  (x0 x1 x2 x4 x5:Option L) (hQ:∀rows x,m6 C R rows->Q (.nx [x0,x1,x2,vi C,x4,x5,vs sg,v (.lst (nums.map .int)),ow (rows.map .str),x])) :
  Ok (jr (bA 9) b (dq 0 R) [x0,x1,x2,vi C,x4,x5,vs sg,v (.lst (nums.map .int)),ow [],none]) Q:=by
 subst hb;refine cR (λ i ρ=>∃rows x,m6 C i rows∧ρ=[x0,x1,x2,vi C,x4,x5,vs sg,v (.lst (nums.map .int)),ow (rows.map .str),x]) ⟨[],none,m6.nil C,rfl⟩ ?_ ?_
 ·rintro i d ρ hi ⟨rows,x,sC,rfl⟩;obtain⟨Fx,rfl⟩:=ints_get hi;have q1:bI (i:Int) (C:Int):=cG (by lia) (by lia);have q2:bI ((i:Int)+1) (C:Int):=cG (by lia) (by lia);have hle:(i+1)*C≤nums.length:=by rw[hl];exact Nat.mul_le_mul_right C Fx
  have xo:=CP nums hle;have MU:(cut nums (some ((i:Int)*C)) (some (((i:Int)+1)*C))).length≤16777216:=by lia
  have UI:rows.length < 16777216:=by rw[sC.1];lia
  simp[bY,KZ,q1,q2,line,cS,b?,Kh,MU];generalize Fu:cut nums (some ((i:Int)*C)) (some (((i:Int)+1)*C))=ns at xo MU;have key:∀x:Int,∃q,(0≤x∧x < sg.length)->q∈signs∧bc (.str sg) (.int x)=.ok (.str [q]):=λ x=>by
   by_cases h:0≤x∧x < sg.length
   ·obtain⟨c,hc,e⟩:=yX h.1 h.2 (by simp only[line];lia);exact⟨c,λ _=>⟨G3 c hc,e⟩⟩
   ·exact⟨0,λ h'=>absurd h' h⟩
  have kq:∃q:Int->Nat,∀x:Int,(0≤x∧x < sg.length)->q x∈signs∧bc (.str sg) (.int x)=.ok (.str [q x]):=⟨λ x=>(key x).choose,λ x=>(key x).choose_spec⟩
  obtain⟨q,hq⟩:=kq;have G8:∀x∈ns,0≤x∧x < sg.length:=λ x hx=>hn x (Cg (Fu▸hx));refine cE D.int (λ _=>true) (λ x=>.str [q x]) ?_ ?_
  ·intro x hx;simp[(hq x (G8 x hx)).2]
  ·rw[ji];have e1:ns.map (λ x=>D.str [q x])=(ns.map λ x=>[q x]).map D.str:=by rw[List.map_map];rfl
   have e2:(ns.map λ x=>[q x]).flatten=ns.map q:=by
    clear xo MU Fu G8 e1
    induction ns with
    | nil=>rfl
    | cons a as ih=>simp[ih]
   rw[e1,Ez (by rw[e2,List.length_map];lia),e2];simp[UI];refine⟨rows++[ns.map q],sC.add ⟨by rw[List.length_map];exact xo,?_⟩,by simp⟩;intro c hc;obtain⟨x,hx,rfl⟩:=List.mem_map.mp hc;exact(hq x (G8 x hx)).1
 ·rintro ρ ⟨rows,x,sC,rfl⟩;rw[gR]at sC;exact hQ rows x sC
theorem Eg:signs.length=29:=by decide
theorem Iz{n:Nat}(h:n≤100):V6 (List.replicate n 29):=⟨by simpa using h,λ s hs=>by rw[List.eq_of_mem_replicate hs];decide⟩
theorem Cv{ns : List Int}(hb : Bd ns): ∃rows C a b, Ll rows C ∧ a ∈ cN ∧ b ∈ cN ∧ iW [.lst (ns.map .int)] = .ok (.tup [cu rows, .str [a], .str [b]]) := by
 obtain⟨f,ef,hf⟩:=k4 hb (k:=0) (by decide);obtain⟨c1,VQ,_⟩:=k4 hb (k:=1) (by decide);obtain⟨a,ha,ea⟩:=oR (f / 144);obtain⟨b,NP,eb⟩:=oR (f / 144+1+f / 3744 % 25);obtain⟨R,hR⟩:=fL (z:=1+f / 2 % 6) (by first | exact Int.emod_nonneg _ (by decide) | lia);obtain⟨C,hC⟩:=fL (z:=1+f / 12 % 12) (by first | exact Int.emod_nonneg _ (by decide) | lia);have SI:1≤R∧R≤6:=by lia
 have SN:1≤C∧C≤12:=by lia
 have hA:a∈signs:=rg ha;have hB:b∈signs:=rg NP;have key:Ok (bJ (kC [v (.lst (ns.map .int)),none,none,none,none,none,none,none,none,none])) λ d=>∃rows R C,m6 C R rows∧1≤R∧R≤6∧1≤C∧C≤12∧d=.tup [cu rows,.str [a],.str [b]]:=by
  refine lr ?_;simp[kC,ef,VQ,bW,hR,hC,ea,eb,line];refine sx (by first | exact Int.emod_nonneg _ (by decide) | lia) (by first | exact Int.emod_lt_of_pos _ (by decide) | (simp;lia)) ?_;intro d hd;obtain⟨sg,rfl,Y8,G3⟩:∃sg,d=.str sg∧sg.length=8∧∀c∈sg,c∈signs:=by
   have Uw:46∈signs:=by decide
   have Uv:61∈signs:=by decide
   have WM:35∈signs:=by decide
   simp at hd;rcases hd with rfl | rfl | rfl
   ·exact⟨_,rfl,rfl,by simp[Uw,Uv]⟩
   ·exact⟨_,rfl,rfl,by simp[Uw,Uv,WM,hA]⟩
   ·exact⟨_,rfl,rfl,by simp[Uw,Uv,WM,hA,hB]⟩
  by_cases hm:f % 2=1
  ·have q1:bI (R:Int) (C:Int):=cG (by lia) (by lia);have Sw:R*C≤100:=Nat.le_trans (Nat.mul_le_mul SI.2 SN.2) (by decide);obtain⟨N,MF,hN⟩:∃N:Nat,(R:Int)*C=(N:Int)∧N=R*C:=⟨R*C,by push_cast;rfl,rfl⟩
   rw[<-hN]at Sw;have dg:=oW (Iz Sw) c1;rw[List.map_replicate]at dg;have hg:N≤16777216:=by lia
   simp[hm,q1,VQ,F3,MF,hg,dg];refine⟨by lia,?_⟩;refine Dd (sg:=signs) (nums:=ky c1 (List.replicate N 29)) (R:=R) (C:=C) (by decide) (λ c hc=>hc) ?_ (by rw[rL,List.length_replicate];exact hN) SI.2 SN.2 rfl _ _ _ _ _ ?_
   ·intro x hx;have:=zt c1 _ 29 (λ s hs=>by rw[List.eq_of_mem_replicate hs];decide) x hx;rw[Eg];exact this
   ·intro rows x sC;simp[line];exact⟨rows,R,C,sC,SI.1,SI.2,SN.1,SN.2,rfl⟩
  ·simp[hm];have h6:(R:Int)-1 < 6:=by lia
   refine sx (by first | exact Int.emod_nonneg _ (by decide) | lia) (by first | exact Int.emod_lt_of_pos _ (by decide) | (simp;lia)) ?_;intro d hd;obtain⟨R',rfl,SJ⟩:∃R':Nat,d=.int R'∧1≤R'∧R'≤6:=by
    simp at hd;rcases hd with rfl | rfl | rfl | rfl | rfl | rfl
    all_goals first | exact⟨1,rfl,by decide⟩ | exact⟨2,rfl,by decide⟩ | exact⟨3,rfl,by decide⟩ | exact⟨4,rfl,by decide⟩
   simp;refine sx (by first | exact Int.emod_nonneg _ (by decide) | lia) (by first | exact Int.emod_lt_of_pos _ (by decide) | (simp;lia)) ?_;intro d hd;obtain⟨C',rfl,SO⟩:∃C':Nat,d=.int C'∧1≤C'∧C'≤12:=by
    simp at hd;rcases hd with rfl | rfl | rfl | rfl | rfl | rfl | rfl | rfl | rfl | rfl | rfl | rfl
    all_goals first | exact⟨1,rfl,by decide⟩ | exact⟨2,rfl,by decide⟩ | exact⟨3,rfl,by decide⟩ | exact⟨4,rfl,by decide⟩ | exact⟨5,rfl,by decide⟩ | exact⟨6,rfl,by decide⟩ | exact⟨8,rfl,by decide⟩ | exact⟨12,rfl,by decide⟩
   have q1:bI (R':Int) (C':Int):=cG (by lia) (by lia);have Sw:R'*C'≤100:=Nat.le_trans (Nat.mul_le_mul SJ.2 SO.2) (by decide);obtain⟨N,MF,hN⟩:∃N:Nat,(R':Int)*C'=(N:Int)∧N=R'*C':=⟨R'*C',by push_cast;rfl,rfl⟩
   rw[<-hN]at Sw;have UJ:N≤16777216:=by lia
   simp[q1,bY,cS,b?,line,MF,UJ];have kx:∀i:Nat,∃m,i≤1000->KG.bM [.int c1,.int i]=.ok (.int m):=λ i=>by
    by_cases h:i≤1000
    ·obtain⟨m,e,_⟩:=mixed c1 (k:=(i:Int)) (by lia) (by lia);exact⟨m,λ _=>e⟩
    ·exact⟨0,λ h'=>absurd h' h⟩
   have kq:∃m:Nat->Int,∀i:Nat,i≤1000->KG.bM [.int c1,.int i]=.ok (.int (m i)):=⟨λ x=>(kx x).choose,λ x=>(kx x).choose_spec⟩
   obtain⟨m,hm⟩:=kq;refine Z.comp_map (λ d=>match d with | .int c=>.int (m c.toNat / 5 % 8) | d=>d) ?_ ?_
   ·intro d hd;obtain⟨j,hj⟩:=List.getElem?_of_mem hd;obtain⟨y9,rfl⟩:=ints_get hj;rw[Int.zero_add];simp[VQ,hm j (by lia),bW]
   ·have e:(dq 0 N).map (λ d=>match d with | .int c=>D.int (m c.toNat / 5 % 8) | d=>d)=((List.range N).map λ j=>m j / 5 % 8).map D.int:=by rw[ints_map,List.map_map,List.map_map];refine List.map_congr_left λ j _=>?_;simp
    obtain⟨nums,G6⟩:∃nums,nums=(List.range N).map λ j=>m j / 5 % 8:=⟨_,rfl⟩
    rw[e,<-G6];refine Dd (sg:=sg) (nums:=nums) (R:=R') (C:=C') (by lia) G3 ?_ (by simp[G6,hN]) SJ.2 SO.2 rfl _ _ _ _ _ ?_
    ·intro x hx;rw[G6]at hx;obtain⟨j,_,rfl⟩:=List.mem_map.mp hx;rw[Y8];lia
    ·intro rows x sC;simp[line];exact⟨rows,R',C',sC,SJ.1,SJ.2,SO.1,SO.2,rfl⟩
 obtain⟨d,e,rows,R',C',sC,r1,r2,c1',N0,rfl⟩:=key;exact⟨rows,C',a,b,Qn (by rw[sC.1];exact r1) (by rw[sC.1];exact r2) c1' N0 sC.2,ha,NP,by rw[Bj];exact e⟩
end KH
namespace KH
open Z KG
@[simp] theorem T':n! (.int 10) (.int 40)=.ok (.int 10000000000000000000000000000000000000000):=j3 10 40 (by decide) (by decide)
@[simp] theorem T!:n! (.int 10) (.int 39)=.ok (.int 1000000000000000000000000000000000000000):=j3 10 39 (by decide) (by decide)
theorem Jp(c : Int){k : Int}(h0 : 0 ≤ k)(h1 : k ≤ 1000): ∃nm, iV [.int c, .int k] = .ok (.str nm) := by
 obtain⟨S,hS⟩:=fL (z:=1+c % 8) (by first | exact Int.emod_nonneg _ (by decide) | lia);rw[Bi];have:Ok (bJ (kB [v (.int c),v (.int k),none,none,none,none,none,none])) λ d=>∃nm,d=.str nm:=by
  refine lr ?_;have Yj:0 < S:=by lia
  simp[kB,bW,hS,Yj];refine cR (λ i ρ=>∃nm x y,nm.length=i∧ρ=[vi c,vi k,vs cN,vi S,vi (c / 8 % S),vs nm,x,y]) ⟨[],none,none,rfl,rfl⟩ ?_ ?_
  ·rintro j d ρ hj ⟨nm,x,y,hn,rfl⟩;obtain⟨y9,rfl⟩:=ints_get hj;have hj8:(j:Int) < 8:=by lia
   have q1:bI (j:Int) (j:Int):=cG (by lia) (by lia);have q4:mE ((j:Int)+1):=bW (by lia) (by lia);have hl:nm.length+1≤16777216:=by lia
   by_cases he:(j:Int)=c / 8 % S
   ·obtain⟨q,hq,eq⟩:=oR (c / 64 / ((j:Int)+1)+(j:Int)*j+k);simp[q1,q4,bW,he.symm,eq,line,hl,hn];lia
   ·obtain⟨q,hq,eq⟩:=oR (c / 64 / ((j:Int)+1)+(j:Int)*j);simp[q1,q4,bW,he,eq,line,hl,hn];lia
  ·rintro ρ ⟨nm,x,y,hn,rfl⟩;simp
 obtain⟨d,e,nm,rfl⟩:=this;exact⟨nm,e⟩
def kinds:List D:=[.str [],.str [97],.str [98],.str [99],.str [100],.str [101],.str [102],.str [103],.str [104],.str [105],.str [106],.str [107],.str [108],.str [109],.str [110],.str [111],.str [112],.str [113],.str [114],.str [115],.str [116],.str [117],.str [118],.str [119],.str [120],.str [121],.str [122]]
theorem GS:∀d∈kinds,∃kd,d=.str kd∧(kd=[]∨∃c∈cN,kd=[c]):=by
 intro d hd;have:kinds=.str [] :: cN.map λ c=>.str [c]:=rfl;rw[this]at hd;rcases List.mem_cons.mp hd with rfl | hd
 ·exact⟨[],rfl,.inl rfl⟩
 ·obtain⟨c,hc,rfl⟩:=List.mem_map.mp hd;exact⟨[c],rfl,.inr ⟨c,hc,rfl⟩⟩
def LH:Nat->Int
 | 0=>1
 | 1=>2
 | 2=>4
 | 3=>8
 | 4=>16
 | _=>32
theorem GI(c:Int){k:Int}(h0:0≤k)(h1:k≤1000):∃m,KG.bM [.int c,.int k]=.ok (.int m)∧0≤m∧m < 2147483587:=by
 have q1:bI 7919 k:=cG (by decide) (by decide);have q2:bI (7919*k) k:=iz (by lia) (by lia);have q3:∀x,bI x 48271:=λ x=>iz (by decide) (by decide);have q4:∀x:Int,bI (x % 2147483647) (x % 2147483647):=λ x=>cG (by lia) (by lia);have q5:∀x,bI 69621 x:=λ x=>cG (by decide) (by decide);have q6:∀x,bI x 39373:=λ x=>iz (by decide) (by decide);have q7:∀x,bI 11 x:=λ x=>cG (by decide) (by decide);rw[rF];have:Ok (bJ (fj [v (.int c),v (.int k),none])) λ d=>∃m,d=.int m∧0≤m∧m < 2147483587:=by refine lr ?_;simp[fj,q1,q2,q3,q4,q5,q6,q7];lia
 obtain⟨d,e,m,rfl,hm⟩:=this;exact⟨m,e,hm⟩
end KH
namespace KH
open Z KG
theorem renamed{g:G}(h:GrpG g)(nm:List Nat):GrpG { g with name:=nm } :=
 J3 h.w1 h.XT h.d1 h.d3 h.kl h.XS h.g6 h.We
theorem Bp(g:G)(nm:List Nat):Nu (bB g) (some 1) none=.ok (.tup [.int g.w,.int g.d,.str g.kind,.int g.wide,.int g.gap,g.worth,g.pJ]):=rfl
noncomputable def C8:SF:=(gi (l6 (tE (eB oEq (eW 6) (eC (.int 1)))) (l6 (tE (eB z7 (eW 8) (eC (.int 0)))) (tE (eB z7 (eB oMod (eW 10) (eC (.int 3))) (eC (.int 0)))))) (cH 7 (eB bj (fM (aa (eV 9) ax)) (Ic (eB bc (eW 7) (eC (.int 0))) (BK (eC (.int 1))) HX))) (gi (tE (eB oEq (eB oMod (eW 3) (eC (.int 2))) (eC (.int 1)))) (cH 7 (aw km (aa (eV 10) (aa (eV 9) ax)))) (cH 7 (aw gT (aa (eB oMod (eW 10) (eB n! (eC (.int 10)) (eC (.int 50)))) (aa (eV 9) (aa (eB bj (eW 1) (eW 2)) (aa (eB oEq (eW 5) (eC (.int 1))) ax))))))))
theorem Q2:hJ=(aB (Ao (aw c9 (aa (aw KG.aL (aa (eV 0) (aa (eC (.int 2)) ax))) (aa (eL (bX (aa (eC (.int 4)) (aa (eC (.int 7)) (aa (eC (.int 4)) (aa (eC (.int 4)) ax)))))) ax))) (xp [3,4,5,6])) (aB (nB 7 (bX ax)) (aB (fN (eZ (eV 4)) (bA 8) (aB (aM 9 (aw iV (aa (aw KG.aL (aa (eV 0) (aa (eC (.int 3)) ax))) (aa (eV 8) ax)))) (aB (aM 10 (aw KG.aL (aa (eV 0) (aa (eB bj (eC (.int 4)) (eW 8)) ax)))) (aB (gi (tE (eB L_ (eB bj (eC (.int 4)) (eW 8)) (eU cM (eW 0)))) (aM 10 (eB gy (aw KG.bM (aa (aw KG.aL (aa (eV 0) (aa (eC (.int 2)) ax))) (aa (eV 8) ax))) (aw KG.bM (aa (aw KG.aL (aa (eV 0) (aa (eC (.int 3)) ax))) (aa (eV 8) ax))))) bF) C8)))) (a_ (eU dM (eW 7)))))):=rfl
end KH
namespace KH
open Z KG
theorem Kg(row:List Nat){c w:Nat}(h:c+w≤row.length):cut row (some (c:Int)) (some ((c:Int)+w))=(row.drop c).take w:=by
 have n1:¬(c:Int) < 0:=by lia
 have n2:¬(c:Int)+w < 0:=by lia
 have e:((c:Int)+w).toNat=c+w:=by lia
 simp only[cut,dP,n1,n2,if_false,Int.toNat_natCast,e];rw[Nat.min_eq_left h,Nat.min_eq_left (by lia:c≤row.length),Nat.add_sub_cancel_left]
theorem Ek{rows:Rows}{C:Nat}(H:Hall rows C){r c w:Nat}{row:List Nat}(hr:rows[r]?=some row)(h:c+w≤C):((row.drop c).take w).map some=(gG w (r:Int) (c:Int)).map (cn rows):=by
 have hl:=H.len row (List.mem_of_getElem? hr);apply List.ext_getElem?;intro j;simp only[List.getElem?_map,gG,List.getElem?_take,List.getElem?_drop];by_cases hj:j < w
 ·rw[if_pos hj,List.getElem?_range hj];have hc:c+j < row.length:=by lia
  rw[List.getElem?_eq_getElem hc];simp only[Option.map_some,cn];have e1:((c:Int)+(j:Int)).toNat=c+j:=by lia
  rw[if_pos ⟨by lia,by lia⟩];simp[hr,e1,hc]
 ·rw[if_neg hj,List.getElem?_eq_none (by simp;lia)];rfl
theorem V0(k : List Nat)(c : Nat): (!(c == 46) && (!(c == 61) && !([c] == k))) = !c6 k (some c) := by
 by_cases h1:c=46
 ·simp[c6,h1]
 ·by_cases h2:c=61
  ·simp[c6,h2]
  ·by_cases h3:k=[c]
   ·subst h3;simp[c6]
   ·have Vr:¬[c]=k:=λ h=>h3 h.symm;simp[c6,h1,h2,h3,Vr]
theorem Dn(xs:List D):qH (.lst xs) (.lst [])=.ok (.bl (!xs.isEmpty)):=by cases xs<;>rfl
theorem vT{rows : Rows}{C : Nat}(H : Hall rows C){g : G}(k : GOk g){r c : Nat}(hr : r < rows.length)(hc : c < C): kU [cu rows, bB g, .int (r : Nat), .int (c : Nat)] = .ok (.bl (cV rows g ((r : Int), (c : Int)))) := by
 rw[Bk];refine aQ ?_;obtain⟨El,Fw,e0⟩:=H.El;have wc:=H.c2;have Fv:C≤16777216:=by lia
 have w1:=k.w1;have d1:=k.d1;have w2:=k.w2;have d2:=k.d2;by_cases h1:(rows.length:Int) < (r:Int)+g.d
 ·have hb:cV rows g ((r:Int),(c:Int))=false:=by refine wk (s:=((r:Int)+((g.d-1:Nat):Int),(c:Int)+((0:Nat):Int))) (x! (p:=((r:Int),(c:Int))) (i:=g.d-1) (j:=0) (by lia) (by lia)) ?_;unfold OU;rw[vg H (by simp only;lia)];rfl
  simp[iD,h1,hb]
 ·by_cases h2:(C:Int) < (c:Int)+g.w
  ·have hb:cV rows g ((r:Int),(c:Int))=false:=by refine wk (s:=((r:Int)+((0:Nat):Int),(c:Int)+((g.w-1:Nat):Int))) (x! (p:=((r:Int),(c:Int))) (i:=0) (j:=g.w-1) (by lia) (by lia)) ?_;unfold OU;rw[vg H (by simp only;lia)];rfl
   simp[iD,h1,h2,hb,e0,Fw,line,Fv]
  ·have Zg:((r:Int)+g.d).toNat-r=g.d:=by lia
   simp[iD,h1,h2,e0,Fw,line,Fv,toNat_sub,Zg];refine cR (λ i ρ=>∃(sg:List Nat)(x:Option L),sg.map some=(jN g.w ((r:Int),(c:Int)) i).map (cn rows)∧ρ=[v (cu rows),v (bB g),vi (r:Nat),vi (c:Nat),vs sg,x]) ⟨[],none,rfl,rfl⟩ ?_ ?_
   ·rintro i d ρ hi ⟨sg,x,G3,rfl⟩;obtain⟨Fx,rfl⟩:=ints_get hi;obtain⟨row,er,hl,e1⟩:=H.row (r:=r+i) (by lia);have FD:bc (cu rows) (.int ((r:Int)+(i:Nat)))=.ok (.str row):=by
     have:((r+i:Nat):Int)=(r:Int)+(i:Nat):=by lia
     rw[<-this];exact e1
    have Sv:sg.length=i*g.w:=by have:=congrArg List.length G3;simpa[l7]using this
    have hm:i*g.w≤4*13:=Nat.mul_le_mul (by lia) w2;have ec:=Kg row (c:=c) (w:=g.w) (by lia);have DM:sg.length+((row.drop c).take g.w).length≤16777216:=by rw[List.length_take];lia
    have UI:row.length≤16777216:=by lia
    simp[FD,line,ec,UI];have ML:sg.length+min g.w (row.length-c)≤16777216:=by simpa using DM
    refine⟨ML,?_⟩;have rs:=Ek H er (c:=c) (w:=g.w) (by lia);rw[List.map_take,List.map_drop]at rs;have:((r+i:Nat):Int)=(r:Int)+(i:Nat):=by lia
    rw[this]at rs;rw[G3,nJ,List.map_append,rs]
   ·rintro ρ ⟨sg,x,G3,rfl⟩;rw[gR]at G3;have Sv:sg.length=g.d*g.w:=by have:=congrArg List.length G3;simpa[l7]using this
    have hm:g.d*g.w≤4*13:=Nat.mul_le_mul d2 w2;have MB:sg.length≤16777216:=by lia
    have VR:(seats g ((r:Int),(c:Int))).all (λ s=>c6 g.kind (cn rows s))=sg.all λ c=>c6 g.kind (some c):=by
     have h1:(seats g ((r:Int),(c:Int))).all (λ s=>c6 g.kind (cn rows s))=((seats g ((r:Int),(c:Int))).map (cn rows)).all (c6 g.kind):=by rw[List.all_map];rfl
     rw[h1,show seats g ((r:Int),(c:Int))=jN g.w ((r:Int),(c:Int)) g.d from rfl,<-G3,List.all_map];rfl
    have VO:(seats g ((r:Int),(c:Int))).countP (xG rows)=sg.count 61:=by
     have h1:(seats g ((r:Int),(c:Int))).countP (xG rows)=((seats g ((r:Int),(c:Int))).map (cn rows)).countP (λ o=>o==some 61):=by rw[List.countP_map];rfl
     rw[h1,show seats g ((r:Int),(c:Int))=jN g.w ((r:Int),(c:Int)) g.d from rfl,<-G3,List.countP_map,List.count];refine List.countP_congr λ x _=>?_;simp
    simp[bY,line,cS,b?,MB];refine cE (λ c=>.str [c]) (λ c=>!c6 g.kind (some c)) (λ c=>.str [c]) ?_ ?_
    ·intro x hx;have:=V0 g.kind x;cases h46:(x==46)<;>cases h61:(x==61)<;>simp_all -implicitDefEqProofs
    ·rw[Dn];unfold cV;rw[VR,VO];cases ha:sg.all λ c=>c6 g.kind (some c)with
     | true =>
      have:sg.filter (λ c=>!c6 g.kind (some c))=[]:=by rw[List.filter_eq_nil_iff];intro x hx;rw[List.all_eq_true]at ha;simp[ha x hx]
      rw[this];simp
     | false =>
      have:(sg.filter (λ c=>!c6 g.kind (some c)))≠[]:=by intro h;rw[List.filter_eq_nil_iff]at h;rw[Bool.eq_false_iff]at ha;refine ha (List.all_eq_true.mpr λ x hx=>?_);have:=h x hx;simpa using this
      obtain⟨y,ys,e⟩:=List.exists_cons_of_ne_nil this;rw[e];simp
theorem lR{rows : Rows}{C : Nat}(H : Hall rows C){g : G}(k : GOk g): eP [cu rows, bB g] = .ok (.lst ((places rows C g).map aK)) := by
 rw[xw];refine aQ ?_;have wc:=H.c2;have YW:=H.r2;obtain⟨El,Fw,e0⟩:=H.El;have Fv:C≤16777216:=by lia
 simp[jB,line];refine cR (λ i ρ=>i≤rows.length∧∃x y,ρ=[v (cu rows),v (bB g),ow (((i8 i C).filter (cV rows g)).map aK),x,y]) ⟨Nat.zero_le _,none,none,rfl⟩ ?_ ?_
 ·rintro i d ρ hi ⟨_,x,y,rfl⟩;obtain⟨Fx,rfl⟩:=ints_get hi;simp[e0,Fw,line,Fv];refine cR (λ j ρ=>j≤C∧∃y,ρ=[v (cu rows),v (bB g),ow (((i8 i C++ic i j).filter (cV rows g)).map aK),vi (i:Nat),y]) ⟨Nat.zero_le _,y,by simp[ic]⟩ ?_ ?_
  ·rintro j d ρ hj ⟨_,y,rfl⟩;obtain⟨y9,rfl⟩:=ints_get hj;have e3:ic i (j+1)=ic i j++[((i:Int),(j:Int))]:=by simp[ic,List.range_succ]
   have h1:=List.length_filter_le (cV rows g) (i8 i C++ic i j);rw[List.length_append,sR,r9]at h1;have h3:i*C≤100*100:=Nat.mul_le_mul (by lia) wc;rw[e3,<-List.append_assoc,List.filter_append (i8 i C++ic i j)];generalize (i8 i C++ic i j).filter (cV rows g)=fs at h1 ⊢;have lf:=vT H k Fx y9;cases hf:cV rows g ((i:Int),(j:Int))with
   | true =>simp[lf,hf,line];lia
   | false =>simp[lf,hf,line];lia
  ·rintro ρ ⟨_,y,rfl⟩;simp only[gR];simp;rw[mU];exact⟨by lia,by simp⟩
 ·rintro ρ ⟨_,x,y,rfl⟩;simp[places]
theorem nr(g:G)(p:Pl)(h:G)(q:Pl):jw [bB g,aK p,bB h,aK q]=.ok (.bl (cT g p h q)):=by
 rw[zl];refine aQ ?_;by_cases h1:p.1+g.d≤q.1
 ·simp[fk,cT,h1]
 ·by_cases h2:q.1+h.d≤p.1
  ·simp[fk,cT,h1,h2]
  ·by_cases h3:p.2+g.w+max (g.gap:Int) h.gap≤q.2
   ·simp[fk,cT,h1,h2,h3]
   ·simp[fk,cT,h1,h2,h3]
def Ft(xs:List GO)(g:G)(k:Nat)(p:Pl)(j:Nat):Bool:=decide (j=k) || match xs[j]? with
 | some (h,some q)=>cT g p h q
 | _=>true
def openAt(xs:List GO)(g:G)(k:Nat)(p:Pl):Bool:=(List.range xs.length).all (Ft xs g k p)
def br(rows:Rows)(C:Nat)(xs:List GO)(g:G)(k:Nat):List Pl:=(places rows C g).filter (openAt xs g k)
def aF(xs:List GO):D:=.tup (xs.map λ x=>bB x.1)
def ay(xs:List GO):D:=.tup (xs.map λ x=>cC x.2)
def ig(rows:Rows)(C:Nat)(xs:List GO):D:=.lst (xs.map λ x=>.lst ((places rows C x.1).map aK))
theorem Dk{rows : Rows}{C : Nat}(H : Hall rows C){xs : List GO}(h6 : xs.length ≤ 6){k : Nat}{x : GO}(hk : xs[k]? = some x): gu [ig rows C xs, aF xs, ay xs, .int (k : Nat)] = .ok (.lst ((br rows C xs x.1 k).map aK)) := by
 rw[Bg];refine aQ ?_;have i1:=(eJ (xs:=xs.map λ x=>D.lst ((places rows C x.1).map aK)) (i:=(k:Nat)) (j:=k) rfl (by rw[List.getElem?_map,hk];rfl)).2;have i2:=(eJ (xs:=xs.map λ x=>bB x.1) (i:=(k:Nat)) (j:=k) rfl (by rw[List.getElem?_map,hk];rfl)).1;have hpl:=places_len H x.1;unfold ig aF ay br;generalize hS:xs.map (λ x=>D.lst ((places rows C x.1).map aK))=S at i1;simp[mO,line,i1];generalize places rows C x.1=ps at hpl;refine cR (λ i ρ=>∃x5 x6 x7 x8,ρ=[v (.lst S),v (.tup (xs.map λ x=>bB x.1)),v (.tup (xs.map λ x=>cC x.2)),vi (k:Nat),ow (((ps.take i).filter (openAt xs x.1 k)).map aK),x5,x6,x7,x8]) ⟨none,none,none,none,rfl⟩ ?_ ?_
 ·rintro i d ρ hi ⟨x5,x6,x7,x8,rfl⟩;rw[List.getElem?_map]at hi;cases ep:ps[i]? with
  | none=>rw[ep]at hi;cases hi
  | some p =>
   rw[ep]at hi;cases hi;have K!:=List.length_filter_le (openAt xs x.1 k) (ps.take i);rw[List.length_take]at K!;rw[take_snoc ep,List.filter_append];generalize (ps.take i).filter (openAt xs x.1 k)=fs at K!;have Vc:fs.length < 16777216:=by lia
   simp;refine cR (λ j ρ=>∃x7 x8,ρ=[v (.lst S),v (.tup (xs.map λ x=>bB x.1)),v (.tup (xs.map λ x=>cC x.2)),vi (k:Nat),ow (fs.map aK),v (aK p),v (.bl ((List.range j).all (Ft xs x.1 k p))),x7,x8]) ⟨x7,x8,by simp⟩ ?_ ?_
   ·rintro j d ρ hj ⟨x7,x8,rfl⟩;obtain⟨y9,rfl⟩:=ints_get hj;obtain⟨y,ey⟩:∃y,xs[j]?=some y:=⟨_,List.getElem?_eq_getElem y9⟩
    have j1:=(eJ (xs:=xs.map λ x=>cC x.2) (i:=(j:Nat)) (j:=j) rfl (by rw[List.getElem?_map,ey];rfl)).1;have j2:=(eJ (xs:=xs.map λ x=>bB x.1) (i:=(j:Nat)) (j:=j) rfl (by rw[List.getElem?_map,ey];rfl)).1;rw[List.range_succ,List.all_append];generalize (List.range j).all (Ft xs x.1 k p)=fr;by_cases U9:j=k
    ·have e:Ft xs x.1 k p j=true:=by simp[Ft,U9]
     subst U9;simp[j1,e]
    ·have MN:¬(j:Int)=k:=by lia
     obtain⟨h,o⟩:=y;cases o with
     | none =>
      have e:Ft xs x.1 k p j=true:=by simp[Ft,ey]
      simp[j1,MN,e]
     | some q =>
      have e:Ft xs x.1 k p j=cT x.1 p h q:=by simp[Ft,ey,U9]
      have nN:eH (aK q)=.ok (.bl true):=rfl;cases fr with
      | true=>simp[j1,j2,MN,e,i2,nr,nN]
      | false=>simp[j1,j2,MN,e,i2,nr,nN]
   ·rintro ρ ⟨x7,x8,rfl⟩;rw[gR];have e:openAt xs x.1 k p=(List.range xs.length).all (Ft xs x.1 k p):=rfl;rw[<-e];cases ho:openAt xs x.1 k p with
    | true =>simp[line,Vc,ho]
    | false =>simp[ho]
 ·rintro ρ ⟨x5,x6,x7,x8,rfl⟩;rw[List.length_map,List.take_length];simp
end KH
namespace KH
open Z KG
theorem C?{ds:List D}{k:Nat}(h:k < ds.length)(d:D):cut ds none (some (k:Int))++(d :: cut ds (some ((k:Int)+1)) none)=ds.set k d:=by
 have e1:cut ds none (some (k:Int))=ds.take k:=Bu ds (by lia);have e2:cut ds (some ((k:Int)+1)) none=ds.drop (k+1):=by
  have:¬(k:Int)+1 < 0:=by lia
  have h3:((k:Int)+1).toNat=k+1:=by lia
  have h4:min (k+1) ds.length=k+1:=by lia
  simp[cut,dP,this,h3,h4];rw[List.take_of_length_le (by simp)]
 rw[e1,e2,List.set_eq_take_append_cons_drop,if_pos h]
theorem C6{ds:List D}{k:Nat}(h:k < ds.length)(hl:ds.length≤1000)(d:D):fh [.tup ds,.int (k:Nat),d]=.ok (.tup (ds.set k d)):=by
 rw[Bf];refine aQ ?_;have c1:=uY ds none (some (k:Int));have c2:=uY ds (some ((k:Int)+1)) none;have g1:(cut ds none (some (k:Int))).length+1≤16777216:=by lia
 have g2:(cut ds none (some (k:Int))).length+1+(cut ds (some ((k:Int)+1)) none).length≤16777216:=by lia
 simp[mN,line,g1,g2,C? h]
theorem w6{ds:List D}{k:Nat}(h:k < ds.length)(hl:ds.length≤1000)(d:D):cx [.tup ds,.int (k:Nat),d]=.ok (.tup (ds.set k d)):=by
 rw[xt];refine aQ ?_;have c1:=uY ds none (some (k:Int));have c2:=uY ds (some ((k:Int)+1)) none;have g1:(cut ds none (some (k:Int))).length+1≤16777216:=by lia
 have g2:(cut ds none (some (k:Int))).length+1+(cut ds (some ((k:Int)+1)) none).length≤16777216:=by lia
 simp[jz,line,g1,g2,C? h]
theorem yg(xs:List GO)(k:Nat)(g:G)(o:Option Pl):ay (xs.set k (g,o))=.tup ((xs.map λ x=>cC x.2).set k (cC o)):=by simp[ay,List.map_set]
theorem lU{xs:List GO}{k:Nat}{x:GO}(h:xs[k]?=some x)(o:Option Pl):aF (xs.set k (x.1,o))=aF xs:=by
 have hk:k < xs.length:=(List.getElem?_eq_some_iff.mp h).1;have e:x=xs[k]:=by rw[List.getElem?_eq_getElem hk]at h;exact(Option.some.inj h).symm
 unfold aF;rw[List.map_set]
 congr 1
 subst e;apply List.ext_getElem (by simp);intro i h1 h2;rw[List.getElem_set];split
 ·rename_i e;subst e;simp
 ·rfl
def Good(rows:Rows)(xs:List GO):Prop:=∀(i:Nat)(g:G)(p:Pl),xs[i]?=some (g,some p)->cV rows g p=true∧∀(j:Nat)(h:G)(q:Pl),xs[j]?=some (h,some q)->j≠i->cT g p h q=true
theorem p!{xs : List GO}{g : G}{k : Nat}{p : Pl}: openAt xs g k p = true ↔ ∀(j : Nat)(h : G)(q : Pl), xs[j]? = some (h, some q) -> j ≠ k -> cT g p h q = true := by
 unfold openAt;rw[List.all_eq_true];constructor
 ·intro h j hh q e hj;have hl:j < xs.length:=(List.getElem?_eq_some_iff.mp e).1;have:=h j (List.mem_range.mpr hl);simpa[Ft,e,hj]using this
 ·intro h j hj;unfold Ft;by_cases hk:j=k
  ·simp[hk]
  ·cases e:xs[j]? with
   | none=>simp
   | some y =>
    obtain⟨hh,o⟩:=y;cases o with
    | none=>simp
    | some q=>simp[h j hh q e hk]
theorem Good.put{rows:Rows}{xs:List GO}(h:Good rows xs){k:Nat}{x:GO}(hk:xs[k]?=some x){p:Pl}(hf:cV rows x.1 p=true)(ho:openAt xs x.1 k p=true):Good rows (xs.set k (x.1,some p)):=by
 rw[p!]at ho;have hl:k < xs.length:=(List.getElem?_eq_some_iff.mp hk).1;intro i g q e;rw[List.getElem?_set]at e;by_cases hi:k=i
 ·subst hi;rw[if_pos rfl,if_pos hl]at e;cases e;refine⟨hf,λ j hh r ej hj=>?_⟩;rw[List.getElem?_set,if_neg (λ z=>hj z.symm)]at ej;exact ho j hh r ej hj
 ·rw[if_neg hi]at e;obtain⟨h1,h2⟩:=h i g q e;refine⟨h1,λ j hh r ej hj=>?_⟩;rw[List.getElem?_set]at ej;by_cases y9:k=j
  ·subst y9;rw[if_pos rfl,if_pos hl]at ej;cases ej;rw[Fj];exact ho i g q e (λ z=>hi z.symm)
  ·rw[if_neg y9]at ej;exact h2 j hh r ej hj
theorem Good.sub{rows:Rows}{xs ys:List GO}(h:Good rows xs)(hs:∀(i:Nat)(g:G)(p:Pl),ys[i]?=some (g,some p)->xs[i]?=some (g,some p)):Good rows ys:=by intro i g p e;obtain⟨h1,h2⟩:=h i g p (hs i g p e);exact⟨h1,λ j hh q ej hj=>h2 j hh q (hs j hh q ej) hj⟩
theorem Good.keeps{rows:Rows}{xs:List GO}(h:Good rows xs):sv rows (nI xs)=true:=by
 rw[Co];constructor
 ·intro y hy;obtain⟨i,hi⟩:=List.getElem?_of_mem (ju.mp hy);exact(h i y.1 y.2 hi).1
 ·rw[vf,List.pairwise_iff_getElem];intro i j hi hj K9 p q ep eq;have e1:xs[i]?=some (xs[i].1,some p):=by rw[List.getElem?_eq_getElem hi,<-ep]
  have e2:xs[j]?=some (xs[j].1,some q):=by rw[List.getElem?_eq_getElem hj,<-eq]
  exact(h j _ q e2).2 i _ p e1 (by lia)
theorem pA(ps:List Pl)(g:G){ss:List GP}(hp:ps.length≤10000)(hs:ss.length≤6):eO [.tup (ps.map aK),bB g,.lst (ss.map qe)]=.ok (.tup ((ps.filter λ p=>ss.all λ x=>cT g p x.1 x.2).map aK)):=by
 rw[xu];refine aQ ?_;have Y0:ps.length≤16777216:=by lia
 simp[jA,bY,line,cS,b?,Y0];refine cE aK (λ p=>ss.all λ x=>cT g p x.1 x.2) aK ?_ ?_
 ·intro p hp;simp[HG g p (xs:=ss) (by lia)]
 ·rfl
theorem Ai{xs:List GO}{g:G}{k:Nat}{x:GO}(hk:xs[k]?=some x)(p:Pl):((nI (xs.set k (x.1,none))).all λ y=>cT g p y.1 y.2)=openAt xs g k p:=by
 rw[Bool.eq_iff_iff,p!,List.all_eq_true];have hl:k < xs.length:=(List.getElem?_eq_some_iff.mp hk).1;constructor
 ·intro h j hh q e hj;have hm:(hh,some q)∈xs.set k (x.1,none):=by refine List.mem_of_getElem? (i:=j) ?_;rw[List.getElem?_set,if_neg (λ z=>hj z.symm)];exact e
  exact h (hh,q) (ju.mpr hm)
 ·intro h y hy;obtain⟨j,e⟩:=List.getElem?_of_mem (ju.mp hy);rw[List.getElem?_set]at e;by_cases hj:k=j
  ·rw[if_pos hj]at e;subst hj;rw[if_pos hl]at e;exact nomatch congrArg Prod.snd (Option.some.inj e)
  ·rw[if_neg hj]at e;exact h j y.1 y.2 e (λ z=>hj z.symm)
theorem iL{rows:Rows}{C:Nat}{g:G}{p:Pl}(h:p∈places rows C g):cV rows g p=true:=(List.mem_filter.mp h).2
noncomputable def Ak:SF:=(gi (l6 (tE (eB qH (eW 6) (eL (bX ax)))) (tE (eB z7 (eB oMod (eW 5) (eC (.int 5))) (eC (.int 0))))) (aM 3 (aw fh (aa (eV 3) (aa (eV 4) (aa (eB bc (eW 6) (eB oMod (eB oDiv (eW 5) (eC (.int 5))) (eU cM (eW 6)))) ax))))) bF)
theorem QY:g_=(aB (aM 3 (eU dM (eL (cf (eY (eW 1)) 1 [] (bA 0) dR (eC .non))))) (aB (fN (eZ (eU cM (eW 1))) (bA 4) (aB (aM 5 (aw KG.bM (aa (aw KG.aL (aa (eV 2) (aa (eB bj (eC (.int 1)) (eW 4)) ax))) (aa (eB bj (eC (.int 90)) (eW 4)) ax)))) (aB (gi (tE (eB oLt (eB bj (eC (.int 10)) (eW 4)) (eU cM (eW 2)))) (aM 5 (eB bc (eW 2) (eB bj (eC (.int 10)) (eW 4)))) bF) (aB (aM 6 (aw gu (aa (eV 0) (aa (eV 1) (aa (eV 3) (aa (eV 4) ax)))))) Ak)))) (a_ (eV 3)))):=rfl
theorem Eh {rows : Rows} {C : Nat} (H : Hall rows C) {ns : List Int} (hb : Bd ns) {gs : List G} (h6 : gs.length ≤ 6) : ∃ xs : List GO, xs.map (·.1) = gs ∧ Good rows xs ∧ fS [.lst (gs.map λ g => .lst ((places rows C g).map aK)), .tup (gs.map bB), .lst (ns.map .int)] = .ok (ay xs) := by
 rw[xv];have U6:gs.length≤16777216:=by lia
 have : Ok (bJ (g_ [v (.lst (gs.map λ g => .lst ((places rows C g).map aK))), v (.tup (gs.map bB)), v (.lst (ns.map .int)), none, none, none, none])) λ d => ∃ xs : List GO, xs.map (·.1) = gs ∧ Good rows xs ∧ d = ay xs := by
  refine lr ?_;simp[QY,bY,line,cS,b?,U6];refine cE bB (λ _=>true) (λ _=>.non) (λ x hx=>by simp) ?_;rw[ji];refine cR (λ i ρ=>∃(xs:List GO)(x4 x5 x6:Option L),xs.map (·.1)=gs∧Good rows xs∧ρ=[v (.lst (gs.map λ g=>.lst ((places rows C g).map aK))),v (.tup (gs.map bB)),v (.lst (ns.map .int)),v (ay xs),x4,x5,x6]) ⟨gs.map λ g=>(g,none),none,none,none,(by rw[List.map_map];exact List.map_id gs),?_,?_⟩ ?_ ?_
  ·intro i g p e;rw[List.getElem?_map]at e;cases q:gs[i]?<;>rw[q]at e<;>simp at e
  ·simp[ay,List.map_map]
  ·rintro k d ρ hk ⟨xs,x4,x5,x6,BM,wa,rfl⟩;obtain⟨P9,rfl⟩:=ints_get hk;have PV:xs.length=gs.length:=by rw[<-BM,List.length_map]
   obtain⟨x,ex⟩:∃x,xs[k]?=some x:=⟨_,List.getElem?_eq_getElem (by lia)⟩
   obtain⟨c,ec,hc⟩:=k4 hb (k:=1+(k:Int)) (by lia);obtain⟨m,em,hm⟩:=mixed c (k:=90+(k:Int)) (by lia) (by lia);have eo:=Dk H (xs:=xs) (by lia) ex;have es:ig rows C xs=.lst (gs.map λ g=>.lst ((places rows C g).map aK)):=by rw[ig,<-BM,List.map_map];rfl
   have eg:aF xs=.tup (gs.map bB):=by rw[aF,<-BM,List.map_map];rfl
   rw[es,eg]at eo;have UP:(br rows C xs x.1 k).length≤10000:=Nat.le_trans (List.length_filter_le _ _) (places_len H x.1);have NN:∀p∈br rows C xs x.1 k,cV rows x.1 p=true∧openAt xs x.1 k p=true:=λ p hp=>by obtain⟨h1,h2⟩:=List.mem_filter.mp hp;exact⟨iL h1,h2⟩
   generalize br rows C xs x.1 k=op at eo UP NN;have fin:∀ cl:Int,Ok (Ak [v (.lst (gs.map λ g=>.lst ((places rows C g).map aK))),v (.tup (gs.map bB)),v (.lst (ns.map .int)),v (ay xs),vi (k:Nat),vi cl,v (.lst (op.map aK))]) λ fl=>∃ ys:List GO,ys.map (·.1)=gs∧Good rows ys∧fl=.nx [v (.lst (gs.map λ g=>.lst ((places rows C g).map aK))),v (.tup (gs.map bB)),v (.lst (ns.map .int)),v (ay ys),vi (k:Nat),vi cl,v (.lst (op.map aK))]:=by
    intro cl;cases op with
    | nil =>simp[Ak,line,Dn];exact⟨xs,BM,wa,rfl⟩
    | cons p0 ps =>
     by_cases h5:0 < cl % 5
     ·obtain⟨z,hz⟩:=fL (z:=cl / 5 % ((ps.length:Int)+1)) (Int.emod_nonneg _ (by lia));have My:=Int.emod_lt_of_pos (cl / 5) (show(0:Int) < (ps.length:Int)+1 by lia);have NK:z < (p0 :: ps).length:=by simp;lia
      obtain⟨p,ep⟩:∃p,(p0 :: ps)[z]?=some p:=⟨_,List.getElem?_eq_getElem NK⟩
      have ip:=(eJ (xs:=(p0 :: ps).map aK) (i:=(z:Nat)) (j:=z) rfl (by rw[List.getElem?_map,ep];rfl)).2;simp only[List.map_cons]at ip;obtain⟨f1,f2⟩:=NN p (List.mem_of_getElem? ep);have hw:=C6 (ds:=xs.map λ x=>cC x.2) (k:=k) (by simp;lia) (by simp;lia) (aK p);have UO:(0:Int) < (ps.length:Int)+1:=by lia
      rw[show D.tup (xs.map λ x=>cC x.2)=ay xs from rfl]at hw;simp[Ak,line,Dn,h5,bW,UO,hz,ip,hw];refine⟨xs.set k (x.1,some p),?_,wa.put ex f1 f2,?_⟩
      ·have:=lU ex (some p);rw[List.map_set,BM];refine List.ext_getElem (by simp) λ i h1 h2=>?_;rw[List.getElem_set];split
       ·rename_i e;subst e;have:gs[k]?=some x.1:=by rw[<-BM,List.getElem?_map,ex];rfl
        rw[List.getElem?_eq_getElem P9]at this;exact(Option.some.inj this).symm
       ·rfl
      ·rw[yg];rfl
     ·simp[Ak,line,Dn,h5];exact⟨xs,BM,wa,rfl⟩
   by_cases l4:10+(k:Int) < ns.length
   ·have hj:10+k < ns.length:=by lia
    have ZZ:=(eJ (xs:=ns.map D.int) (i:=10+(k:Int)) (j:=10+k) (d:=.int ns[10+k]) (by lia) (by simp[hj])).2;simp[ec,em,l4,ZZ,eo];refine(fin _).imp ?_;rintro fl ⟨ys,h1,h2,rfl⟩;simp only[uN];exact⟨ys,h1,h2,_,_,_,rfl⟩
   ·simp[ec,em,l4,eo];refine(fin _).imp ?_;rintro fl ⟨ys,h1,h2,rfl⟩;simp only[uN];exact⟨ys,h1,h2,_,_,_,rfl⟩
  ·rintro ρ ⟨xs,x4,x5,x6,BM,wa,rfl⟩;simp;exact⟨xs,BM,wa,rfl⟩
 obtain⟨d,e,xs,h1,h2,rfl⟩:=this;exact⟨xs,h1,h2,e⟩
end KH
namespace KH
open Z KG
structure kE(g:G):Prop extends GrpG g where
 pos:∃(wt:Int)(ws:List Pl),ws.length≤6∧0≤wt∧(∀p∈ws,0≤p.2)∧g.worth=.int wt∧g.pJ=.tup (ws.map aK)
theorem F5{g:G}(h:kE g)(nm:List Nat):kE { g with name:=nm }:=⟨renamed h.toGrpG nm,h.pos⟩
theorem F_{wl:List Pl}{r m:Int}(h:∀p∈wl,0≤p.2)(hm:0≤m):∀a b,(a,b)∈wl++[(r,m)]->0≤b:=by
 intro a b hp;rcases List.mem_append.mp hp with hp | hp
 ·exact h _ hp
 ·rw[List.mem_singleton]at hp;cases hp;exact hm
theorem IT{wl:List Pl}(h:∀p∈wl,0≤p.2):∀a b,(a,b)∈wl->0≤b:=λ a b hp=>h _ hp
theorem Ga(f:D->Bool)(ws:List Int)(hn:∀x∈ws,0≤x):∀p∈((dq 0 6).filter f).map (λ d=>match d with | .int r=>(r,1+ws[r.toNat+1]?.getD 0) | d=>((0,0):Pl)),0≤p.2:=by
 intro p hp;obtain⟨d,hd,rfl⟩:=List.mem_map.mp hp;cases d with
 | int r =>
  show 0≤1+ws[r.toNat+1]?.getD 0;cases e:ws[r.toNat+1]? with
  | none=>simp
  | some x =>have:=hn x (List.mem_of_getElem? e);show 0≤1+x;lia
 | _=>exact Int.le_refl _
theorem Kr(c:Int)(nm:List Nat):∃g,kE g∧km [.int c,.str nm]=.ok (bB g):=by
 have dg:=oW (ss:=[12,3,27,7,2,64]) ⟨by decide,by decide⟩ c;obtain⟨w,hw⟩:=fL (z:=c % 12) (by first | exact Int.emod_nonneg _ (by decide) | lia);obtain⟨d,hd⟩:=fL (z:=c / 12 % 3) (by first | exact Int.emod_nonneg _ (by decide) | lia);obtain⟨kd,Sz⟩:=fL (z:=c / 12 / 3 % 27) (by first | exact Int.emod_nonneg _ (by decide) | lia);obtain⟨gp,U_⟩:=fL (z:=c / 12 / 3 / 27 % 7) (by first | exact Int.emod_nonneg _ (by decide) | lia);obtain⟨gr,U?⟩:=fL (z:=c / 12 / 3 / 27 / 7 % 2) (by first | exact Int.emod_nonneg _ (by decide) | lia);obtain⟨bt,Zh⟩:=fL (z:=c / 12 / 3 / 27 / 7 / 2 % 64) (by first | exact Int.emod_nonneg _ (by decide) | lia);have ed:ky c [12,3,27,7,2,64]=[(w:Int),d,kd,gp,gr,bt]:=by simp only[ky,hw,hd,Sz,U_,U?,Zh]
 rw[ed]at dg;simp only[List.map_cons,List.map_nil]at dg;obtain⟨M,hM,Zq⟩:∃M:Nat,((w:Int)+1)*((d:Int)+1)=(M:Int)∧M=(w+1)*(d+1):=⟨(w+1)*(d+1),by push_cast;rfl,rfl⟩
 have hM3:M≤36:=by rw[Zq];exact Nat.le_trans (Nat.mul_le_mul (by lia:w+1≤12) (by lia:d+1≤3)) (by decide)
 obtain⟨wd,UG⟩:=fL (z:=c / 870912 % ((M:Int)+1)) (Int.emod_nonneg _ (by lia));have Mz:wd≤M:=by have:=Int.emod_lt_of_pos (c / 870912) (show(0:Int) < (M:Int)+1 by lia);lia
 have q1:bI ((w:Int)+1) ((d:Int)+1):=cG (by lia) (by lia);have q2:mE ((M:Int)+1):=bW (by lia) (by lia);have q3:(0:Int) < (M:Int)+1:=by lia
 obtain⟨ss,Su,YU,ZG⟩:∃ss:List Int,V6 ss∧ss.length=7∧bc (.lst [.lst [.int 4,.int 3,.int 3,.int 3,.int 3,.int 3,.int 3],.lst [.int 1000000000000000000000000000000000000000000000000000000000000,.int 999999999999999999999999999999999999999999999999999999999999,.int 999999999999999999999999999999999999999999999999999999999999,.int 999999999999999999999999999999999999999999999999999999999999,.int 999999999999999999999999999999999999999999999999999999999999,.int 999999999999999999999999999999999999999999999999999999999999,.int 999999999999999999999999999999999999999999999999999999999999]]) (.int gr)=.ok (.lst (ss.map .int)):=by
  have:gr=0∨gr=1:=by lia
  rcases this with rfl | rfl
  ·exact⟨[4,3,3,3,3,3,3],⟨by decide,by decide⟩,rfl,rfl⟩
  ·exact⟨[1000000000000000000000000000000000000000000000000000000000000,999999999999999999999999999999999999999999999999999999999999,999999999999999999999999999999999999999999999999999999999999,999999999999999999999999999999999999999999999999999999999999,999999999999999999999999999999999999999999999999999999999999,999999999999999999999999999999999999999999999999999999999999,999999999999999999999999999999999999999999999999999999999999],⟨by decide,by decide⟩,rfl,rfl⟩
 have XC:=oW Su (c / 870912 / ((M:Int)+1));have U5:(ky (c / 870912 / ((M:Int)+1)) ss).length=7:=by rw[rL,YU]
 have NO:∀x∈ky (c / 870912 / ((M:Int)+1)) ss,0≤x:=λ x hx=>(zt _ ss _ Su.2 x hx).1;generalize ky (c / 870912 / ((M:Int)+1)) ss=ws at XC U5 NO;obtain⟨kx,Y9,Xu⟩:∃kx,(kx=[]∨∃c∈cN,kx=[c])∧bc (.lst kinds) (.int kd)=.ok (.str kx):=by obtain⟨x,hx,e,_⟩:=yY (xs:=kinds) (i:=(kd:Int)) (by lia) (by simp[kinds];lia);obtain⟨k,rfl,hk⟩:=GS x hx;exact⟨k,hk,e⟩
 rw[CF];have:Ok (bJ (lY [v (.int c),v (.str nm),none,none,none,none,none,none,none,none,none,none,none,none])) λ x=>∃(wt:Int)(wl:List Pl),wl.length≤6∧(0≤wt∧∀p∈wl,0≤p.2)∧x=bB ⟨nm,w+1,d+1,kx,wd,gp,.int wt,.tup (wl.map aK)⟩:=by
  refine lr ?_;unfold kinds at Xu;simp[lY,line,Mm,dg,A?,kh,bW,q1,hM,q2,q3,UG,F3,ZG,XC,bY,cS,b?,Xu];obtain⟨e6,i0⟩:dq 0 6=[.int 0,.int 1,.int 2,.int 3,.int 4,.int 5]∧∃w0,0≤w0∧bc (.lst (ws.map .int)) (.int 0)=.ok (.int w0):=⟨rfl,by
   match ws,U5,NO with
   | a :: as,_,NO=>exact⟨a,NO a List.mem_cons_self,(eJ (xs:=(a :: as).map D.int) (i:=0) (j:=0) rfl rfl).2⟩⟩
  obtain⟨w0,YK,i0⟩:=i0;refine DV (λ d=>match d with | .int r=>decide ((bt:Int) / LH r.toNat % 2=1) | _=>false) (λ d=>match d with | .int r=>aK (r,1+ws[r.toNat+1]?.getD 0) | d=>d) ?_ ?_
  ·intro d hd
   match ws,U5 with
   | [a0,a1,a2,a3,a4,a5,a6],_ =>
    rw[e6]at hd;simp only[List.mem_cons,List.not_mem_nil,or_false]at hd;have t2:∀(a b c d e f:D),bc (.lst [a,b,c,d,e,f]) (.int 0)=.ok a∧bc (.lst [a,b,c,d,e,f]) (.int 1)=.ok b∧bc (.lst [a,b,c,d,e,f]) (.int 2)=.ok c∧bc (.lst [a,b,c,d,e,f]) (.int 3)=.ok d∧bc (.lst [a,b,c,d,e,f]) (.int 4)=.ok e∧bc (.lst [a,b,c,d,e,f]) (.int 5)=.ok f:=λ _ _ _ _ _ _=>⟨rfl,rfl,rfl,rfl,rfl,rfl⟩
    have t7:∀(o a b c d e f:D),bc (.lst [o,a,b,c,d,e,f]) (.int 1)=.ok a∧bc (.lst [o,a,b,c,d,e,f]) (.int 2)=.ok b∧bc (.lst [o,a,b,c,d,e,f]) (.int 3)=.ok c∧bc (.lst [o,a,b,c,d,e,f]) (.int 4)=.ok d∧bc (.lst [o,a,b,c,d,e,f]) (.int 5)=.ok e∧bc (.lst [o,a,b,c,d,e,f]) (.int 6)=.ok f:=λ _ _ _ _ _ _ _=>⟨rfl,rfl,rfl,rfl,rfl,rfl⟩
    rcases hd with rfl | rfl | rfl | rfl | rfl | rfl
    all_goals
     simp[line,bW,t2,t7,LH];rw[Bool.eq_iff_iff];simp
  ·rw[i0];simp;refine⟨w0,((dq 0 6).filter λ d=>match d with | .int r=>decide ((bt:Int) / LH r.toNat % 2=1) | _=>false).map (λ d=>match d with | .int r=>(r,1+ws[r.toNat+1]?.getD 0) | d=>(0,0)),?_,⟨YK,λ a b hp=>Ga _ _ NO (a,b) hp⟩,?_⟩
   ·rw[List.length_map];refine Nat.le_trans (List.length_filter_le _ _) ?_;rw[gR];decide
   ·have:∀ds:List D,(∀d∈ds,∃r,d=.int r)->ds.map (λ d=>match d with | .int r=>aK (r,1+ws[r.toNat+1]?.getD 0) | d=>d)=(ds.map (λ d=>match d with | .int r=>(r,1+ws[r.toNat+1]?.getD 0) | d=>((0,0):Pl))).map aK:=by intro ds h;rw[List.map_map];refine List.map_congr_left λ d hd=>?_;obtain⟨r,rfl⟩:=h d hd;rfl
    rw[this _ (λ d hd=>by obtain⟨j,hj⟩:=List.getElem?_of_mem (List.mem_filter.mp hd).1;obtain⟨_,rfl⟩:=ints_get hj;exact⟨_,rfl⟩)]
    simp[bB]
 obtain⟨x,e,wt,ws,WX,⟨UO,YZ⟩,rfl⟩:=this;exact⟨_,⟨J3 (by show 1≤w+1;lia) (by show w+1≤12;lia) (by show 1≤d+1;lia) (by show d+1≤3;lia) Y9 (by show wd≤(w+1)*(d+1);lia) (by show gp≤6;lia) ⟨wt,ws,WX,rfl,rfl⟩,wt,ws,WX,UO,YZ,rfl,rfl⟩,e⟩
theorem E1(z : Int)(nm : List Nat){a b : Nat}(ha : a ∈ cN)(hb : b ∈ cN)(gr : Bool): ∃g, kE g ∧ gT [.int z, .str nm, .str [a, b], .bl gr] = .ok (bB g) := by
 obtain⟨w,hw⟩:=fL (z:=1+z % 3) (by first | exact Int.emod_nonneg _ (by decide) | lia);have i0:bc (.str [a,b]) (.int 0)=.ok (.str [a]):=vW (j:=0) rfl rfl (by simp[line]);have i1:bc (.str [a,b]) (.int 1)=.ok (.str [b]):=vW (j:=1) rfl rfl (by simp[line]);rw[zj];have:Ok (bJ (i5 [v (.int z),v (.str nm),v (.str [a,b]),v (.bl gr),none,none,none,none,none,none,none,none])) λ x=>∃g,kE g∧x=bB g:=by
  refine lr ?_;simp[i5,bW,hw,line,i0,i1];refine sx (by first | exact Int.emod_nonneg _ (by decide) | lia) (by first | exact Int.emod_lt_of_pos _ (by decide) | (simp;lia)) ?_;intro x hx;obtain⟨d,rfl,d1,d2⟩:∃d:Nat,x=.int d∧1≤d∧d≤3:=by
   simp at hx;rcases hx with rfl | rfl
   ·exact⟨1,rfl,by decide,by decide⟩
   ·exact⟨2,rfl,by decide,by decide⟩
  refine sx (by first | exact Int.emod_nonneg _ (by decide) | lia) (by first | exact Int.emod_lt_of_pos _ (by decide) | (simp;lia)) ?_;intro x hx;obtain⟨kd,rfl,Sz⟩:∃kd,x=.str kd∧(kd=[]∨∃c∈cN,kd=[c]):=by
   simp at hx;rcases hx with rfl | rfl | rfl
   ·exact⟨[],rfl,.inl rfl⟩
   ·exact⟨_,rfl,.inr ⟨_,ha,rfl⟩⟩
   ·exact⟨_,rfl,.inr ⟨_,hb,rfl⟩⟩
  refine sx (by first | exact Int.emod_nonneg _ (by decide) | lia) (by first | exact Int.emod_lt_of_pos _ (by decide) | (simp;lia)) ?_;intro x hx;obtain⟨wd,rfl,UG⟩:∃wd:Nat,x=.int wd∧wd≤1:=by
   simp at hx;rcases hx with rfl | rfl
   ·exact⟨0,rfl,by decide⟩
   ·exact⟨1,rfl,by decide⟩
  have Mz:wd≤w*d:=Nat.le_trans UG (Nat.mul_le_mul (show 1≤w by lia) d1);have fin:∀(wt mr:Int),0≤mr->Ok (jr (bA 11) (gi (tE (eB oEq (eB oMod (eB oDiv (eW 0) (eB bc (eL (bX (aa (eC (.int 9216)) (aa (eC (.int 27648)) (aa (eC (.int 82944)) (aa (eC (.int 248832)) ax)))))) (eW 11))) (eC (.int 3))) (eC (.int 1)))) (cH 10 (fM (aa (eV 11) (aa (eB bj (eW 9) (eB gy (eW 11) (eU AQ (eW 3)))) ax)))) bF) (dq 0 4) [v (.int z),v (.str nm),v (.str [a,b]),v (.bl gr),vi w,vi d,vs kd,vi wd,vi wt,vi mr,ow [],none]) λ fl=>∃(wl:List Pl)(x:Option L),wl.length≤4∧(∀p∈wl,0≤p.2)∧fl=.nx [v (.int z),v (.str nm),v (.str [a,b]),v (.bl gr),vi w,vi d,vs kd,vi wd,vi wt,vi mr,ow (wl.map aK),x]:=by
   intro wt mr hmr;refine cR (λ i ρ=>∃(wl:List Pl)(x:Option L),wl.length≤i∧(∀p∈wl,0≤p.2)∧ρ=[v (.int z),v (.str nm),v (.str [a,b]),v (.bl gr),vi w,vi d,vs kd,vi wd,vi wt,vi mr,ow (wl.map aK),x]) ⟨[],none,Nat.zero_le _,by simp,rfl⟩ ?_ ?_
   ·rintro j y ρ hj ⟨wl,x,hl,hw,rfl⟩;obtain⟨y9,rfl⟩:=ints_get hj;obtain⟨n,Y4,hn⟩:∃n:Int,(0 < n∧n < 1000000)∧bc (.lst [.int 9216,.int 27648,.int 82944,.int 248832]) (.int (0+(j:Nat)))=.ok (.int n):=by
     match j,y9 with
     | 0,_=>exact⟨9216,by decide,rfl⟩
     | 1,_=>exact⟨27648,by decide,rfl⟩
     | 2,_=>exact⟨82944,by decide,rfl⟩
     | 3,_=>exact⟨248832,by decide,rfl⟩
    rw[Int.zero_add]at hn;have hd:=bW Y4.1 (by lia);have q1:∀x:Int,bI (j:Int) x:=λ x=>cG (by lia) (by lia);have DM:wl.length < 16777216:=by lia
    by_cases h:z / n % 3=1
    ·cases gr <;>
     ·simp[line,hn,hd,h,q1,DM,AQ];refine⟨wl++[(_,_)],by simp;lia,?_,by simp;rfl⟩;exact F_ hw (by lia)
    ·simp[line,hn,hd,h];exact⟨wl,by lia,IT hw,rfl⟩
   ·rintro ρ ⟨wl,x,hl,hw,rfl⟩;exact⟨wl,x,by simpa using hl,hw,rfl⟩
  have U_:∃gp:Nat,gp≤6∧bc (.lst [.int 0,.int 0,.int 1,.int 2]) (.int (z / 192 % 4))=.ok (.int gp):=by
   obtain⟨x,hx,e,_⟩:=yY (xs:=[D.int 0,.int 0,.int 1,.int 2]) (i:=z / 192 % 4) (by lia) (by simp;lia);simp at hx;rcases hx with rfl | rfl | rfl
   ·exact⟨0,by decide,e⟩
   ·exact⟨1,by decide,e⟩
   ·exact⟨2,by decide,e⟩
  obtain⟨gp,Qd,Xv⟩:=U_;cases gr
  ·simp;refine(fin _ _ (by first | exact Int.emod_nonneg _ (by decide) | lia)).imp ?_;rintro fl ⟨wl,x,hl,hw,rfl⟩;simp[bW,Xv,line];exact⟨⟨nm,w,d,kd,wd,gp,_,_⟩,⟨J3 (by show 1≤w;lia) (by show w≤12;lia) d1 d2 Sz Mz Qd ⟨_,wl,by lia,rfl,rfl⟩,_,wl,by lia,(by first | exact Int.emod_nonneg _ (by decide) | lia),hw,rfl,rfl⟩,rfl⟩
  ·simp;refine(fin _ _ (by first | exact Int.emod_nonneg _ (by decide) | lia)).imp ?_;rintro fl ⟨wl,x,hl,hw,rfl⟩;simp[bW,Xv,line];exact⟨⟨nm,w,d,kd,wd,gp,_,_⟩,⟨J3 (by show 1≤w;lia) (by show w≤12;lia) d1 d2 Sz Mz Qd ⟨_,wl,by lia,rfl,rfl⟩,_,wl,by lia,(by first | exact Int.emod_nonneg _ (by decide) | lia),hw,rfl,rfl⟩,rfl⟩
 obtain⟨x,e,g,hg,rfl⟩:=this;exact⟨g,hg,e⟩
theorem Cy {ns : List Int} (hb : Bd ns) {a b : Nat} (ha : a ∈ cN) (NP : b ∈ cN) : ∃ gs : List G, gs.length ≤ 6 ∧ (∀ g ∈ gs, kE g) ∧ fT [.lst (ns.map .int), .str [a], .str [b]] = .ok (.tup (gs.map bB)) := by
 obtain⟨c2,Xx,_⟩:=k4 hb (k:=2) (by decide);obtain⟨c3,Xw,_⟩:=k4 hb (k:=3) (by decide);have dg:=oW (ss:=[4,7,4,4]) ⟨by decide,by decide⟩ c2;obtain⟨wy,YJ⟩:=fL (z:=c2 % 4) (by first | exact Int.emod_nonneg _ (by decide) | lia);obtain⟨mn,Y5⟩:=fL (z:=c2 / 4 % 7) (by first | exact Int.emod_nonneg _ (by decide) | lia);obtain⟨gr,U?⟩:=fL (z:=c2 / 4 / 7 % 4) (by first | exact Int.emod_nonneg _ (by decide) | lia);obtain⟨tw,YQ⟩:=fL (z:=c2 / 4 / 7 / 4 % 4) (by first | exact Int.emod_nonneg _ (by decide) | lia);have ed:ky c2 [4,7,4,4]=[(wy:Int),mn,gr,tw]:=by simp only[ky,YJ,Y5,U?,YQ]
 rw[ed]at dg;simp only[List.map_cons,List.map_nil]at dg;rw[xx];have : Ok (bJ (hJ [v (.lst (ns.map .int)), v (.str [a]), v (.str [b]), none, none, none, none, none, none, none, none])) λ x => ∃ gs : List G, gs.length ≤ 6 ∧ (∀ g ∈ gs, kE g) ∧ x = .tup (gs.map bB) := by
  refine lr ?_;simp[Q2,Xx,dg,line,A?,kh];refine cR (λ i ρ=>∃(gs:List G)(x y z:Option L),gs.length=i∧(∀g∈gs,kE g)∧ρ=[v (.lst (ns.map .int)),v (.str [a]),v (.str [b]),vi wy,vi mn,vi gr,vi tw,ow (gs.map bB),x,y,z]) ⟨[],none,none,none,rfl,λ g h=>absurd h List.not_mem_nil,rfl⟩ ?_ ?_
  ·rintro j d ρ hj ⟨gs,x,y,z,hl,hg,rfl⟩;obtain⟨y9,rfl⟩:=ints_get hj;obtain⟨nm,en⟩:=Jp c3 (k:=(j:Int)) (by lia) (by lia);obtain⟨c,ec,hc⟩:=k4 hb (k:=4+(j:Int)) (by lia);obtain⟨m2,ZN,a1,a2⟩:=GI c2 (k:=(j:Int)) (by lia) (by lia);obtain⟨m3,ZM,a3,a4⟩:=GI c3 (k:=(j:Int)) (by lia) (by lia);have q1:bI m2 m3:=cG (by lia) (by lia);have DM:gs.length < 16777216:=by lia
   have fin:∀ cl:Int,Ok (C8 [v (.lst (ns.map .int)),v (.str [a]),v (.str [b]),vi wy,vi mn,vi gr,vi tw,ow (gs.map bB),vi (j:Nat),vs nm,vi cl]) λ fl=>∃ g,kE g∧fl=.nx [v (.lst (ns.map .int)),v (.str [a]),v (.str [b]),vi wy,vi mn,vi gr,vi tw,ow ((gs++[g]).map bB),vi (j:Nat),vs nm,vi cl]:=by
    intro cl;by_cases ht:(tw:Int)=1∧0 < (j:Int)∧0 < cl % 3
    ·obtain⟨t1,t2,t3⟩:=ht;have Tq:tw=1:=by lia
     have Ya:0 < j:=by lia
     match gs,hl,hg with
     | [],h,_=>simp at h;lia
     | g0 :: Vt,h,hg =>
      have i0:bc (.lst ((g0 :: Vt).map bB)) (.int 0)=.ok (bB g0):=(eJ (xs:=(g0 :: Vt).map bB) (i:=0) (j:=0) rfl rfl).2;simp only[List.map_cons]at i0;have ML:Vt.length < 16777215:=by simp at DM;lia
      simp[C8,Tq,Ya,t3,i0,Bp g0 nm,line,ML];refine⟨by lia,{ g0 with name:=nm },F5 (hg g0 List.mem_cons_self) nm,rfl⟩
    ·have hf:Ok (l6 (tE (eB oEq (eW 6) (eC (.int 1)))) (l6 (tE (eB z7 (eW 8) (eC (.int 0)))) (tE (eB z7 (eB oMod (eW 10) (eC (.int 3))) (eC (.int 0))))) [v (.lst (ns.map .int)),v (.str [a]),v (.str [b]),vi wy,vi mn,vi gr,vi tw,ow (gs.map bB),vi (j:Nat),vs nm,vi cl]) λ c=>c=false:=by
      by_cases t1:tw=1
      ·by_cases t2:0 < j
       ·have t3:¬0 < cl % 3:=λ z=>ht ⟨by lia,by lia,z⟩;simp[t1,t2,t3]
       ·simp[t1,t2]
      ·have Tq:¬(tw:Int)=1:=by lia
       simp[Tq]
     unfold C8;rw[Ot,hf.eq];simp only[Res.uR];by_cases hy:wy % 2=1
     ·obtain⟨g,MP,eg⟩:=Kr cl nm;have G2:((wy:Int) % 2==1)=true:=by simp;lia
      simp[G2,eg,line,DM];exact⟨g,MP,rfl⟩
     ·obtain⟨g,MP,eg⟩:=E1 (cl % 100000000000000000000000000000000000000000000000000) nm ha NP ((gr:Int)==1);have G2:((wy:Int) % 2==1)=false:=by simp;lia
      simp[G2,eg,line,DM];exact⟨g,MP,rfl⟩
   by_cases JX:(ns.length:Int)≤4+(j:Int)
   ·simp[Xw,en,ec,JX,Xx,ZN,ZM,q1];refine(fin _).imp ?_;rintro fl ⟨g,MP,rfl⟩;simp only[uN];exact⟨gs++[g],by simp[hl],λ x hx=>(List.mem_append.mp hx).elim (hg x) (λ h=>by rw[List.mem_singleton.mp h];exact MP),_,_,_,rfl⟩
   ·simp[Xw,en,ec,JX];refine(fin _).imp ?_;rintro fl ⟨g,MP,rfl⟩;simp only[uN];exact⟨gs++[g],by simp[hl],λ x hx=>(List.mem_append.mp hx).elim (hg x) (λ h=>by rw[List.mem_singleton.mp h];exact MP),_,_,_,rfl⟩
  ·rintro ρ ⟨gs,x,y,z,hl,hg,rfl⟩;rw[gR]at hl;simp;exact⟨gs,by lia,hg,rfl⟩
 obtain⟨x,e,gs,h1,h2,rfl⟩:=this;exact⟨gs,h1,h2,e⟩
end KH
set_option maxRecDepth 4000
noncomputable section
namespace KB
open Z KG KH
def mJ:SF:=(a_ (eB bj (eB bc (eW 0) (eC (.int 6))) (eU Eu (eL (cf (eY (eB bc (eW 0) (eC (.int 7)))) 1 [1] (bA 0) (tE (eB oEq (eB bc (eW 0) (eC (.int 0))) (eW 1))) (eB bc (eW 0) (eC (.int 1))))))))
def iT:List D->Res D:=fn 2 2 mJ
theorem Bb(x0 x1:D):iT [x0,x1]=bJ (mJ [some (.val x0),some (.val x1)]):=cg _ _ _ _ rfl
def mI:SF:=(a_ (eU Eu (eL (cf (eY (aw KG.cA (aa (eV 0) (aa (eV 1) ax)))) 2 [] (ka [0,1]) dR (aw iT (aa (eV 0) (aa (eB bc (eW 1) (eC (.int 0))) ax)))))))
def bK:List D->Res D:=fn 2 2 mI
theorem Ba(x0 x1:D):bK [x0,x1]=bJ (mI [some (.val x0),some (.val x1)]):=cg _ _ _ _ rfl
def hU:SF:=(aB (aM 3 (M6 (tE (eU ly (eW 2))) (eB AO (fM (aa (eC .non) ax)) (eU cM (eW 1))) (eV 2))) (aB (gi (nA (tE (aw KG.iZ (aa (eV 0) (aa (eV 1) (aa (eV 3) ax)))))) vt bF) (a_ (eV 3))))
def aN:List D->Res D:=fn 3 4 hU
theorem uI(x0 x1 x2:D):aN [x0,x1,x2]=bJ (hU [some (.val x0),some (.val x1),some (.val x2),none]):=cg _ _ _ _ rfl
def zP:SF:=(aB (aM 3 (eC (.int 1))) (aB (fN (A5 (eV 1) (aw aN (aa (eV 0) (aa (eV 1) (aa (eV 2) ax))))) (ka [4,5]) (gi (tE (eU ly (eW 5))) (aM 3 (eB gy (eV 3) (eB bj (eU cM (aw KG.fx (aa (eV 0) (aa (eV 4) ax)))) (eC (.int 1))))) bF)) (a_ (eV 3))))
def oU:List D->Res D:=fn 3 6 zP
theorem J7(x0 x1 x2:D):oU [x0,x1,x2]=bJ (zP [some (.val x0),some (.val x1),some (.val x2),none,none,none]):=cg _ _ _ _ rfl
def iN:SF:=(aB (aM 3 (aw oU (aa (eV 0) (aa (eV 1) (aa (eV 2) ax))))) (aB (gi (tE (eB z7 (eW 3) (eC (.int 2000)))) vt bF) (a_ (aw aN (aa (eV 0) (aa (eV 1) (aa (eV 2) ax)))))))
def dX:List D->Res D:=fn 3 4 iN
theorem wu(x0 x1 x2:D):dX [x0,x1,x2]=bJ (iN [some (.val x0),some (.val x1),some (.val x2),none]):=cg _ _ _ _ rfl
def f?:SF:=(aB (aM 5 (aw KG.fx (aa (eV 0) (aa (eB bc (eW 1) (eW 3)) ax)))) (aB (nB 6 (bX ax)) (aB (fN (eY (eV 2)) (bA 7) (aB (aM 8 (aw KG.cA (aa (eV 1) (aa (eV 7) ax)))) (aB (Ej 6 (cf (eY (aw KH.eO (aa (eV 5) (aa (eB bc (eW 1) (eW 3)) (aa (eV 8) ax))))) 1 [7,3] (bA 0) dR (aw KH.cx (aa (eV 1) (aa (eV 2) (aa (eV 0) ax)))))) (gi (tE (eV 4)) (cH 6 (eV 7)) bF)))) (w! 6 (a_ (eV 6))))))
def fw:List D->Res D:=fn 5 9 f?
theorem sG(x0 x1 x2 x3 x4:D):fw [x0,x1,x2,x3,x4]=bJ (f? [some (.val x0),some (.val x1),some (.val x2),some (.val x3),some (.val x4),none,none,none,none]):=cg _ _ _ _ rfl
def gc:SF:=(aB (aM 4 (eL (bX (aa (eV 2) ax)))) (aB (fN (eZ (eU cM (eW 1))) (bA 5) (gi (tE (eU ly (eB bc (eW 2) (eW 5)))) (aM 4 (aw fw (aa (eV 0) (aa (eV 1) (aa (eV 4) (aa (eV 5) (aa (eV 3) ax))))))) bF)) (a_ (eV 4))))
def da:List D->Res D:=fn 4 6 gc
theorem sI(x0 x1 x2 x3:D):da [x0,x1,x2,x3]=bJ (gc [some (.val x0),some (.val x1),some (.val x2),some (.val x3),none,none]):=cg _ _ _ _ rfl
def hW:SF:=(a_ (zm true (.ok .non) (eW 1) [0] (aw bK (aa (eV 1) (aa (eV 0) ax)))))
def eQ:List D->Res D:=fn 2 2 hW
theorem pE(x0 x1:D):eQ [x0,x1]=bJ (hW [some (.val x0),some (.val x1)]):=cg _ _ _ _ rfl
def hV:SF:=(aB (aM 3 (aw dX (aa (eV 0) (aa (eV 1) (aa (eV 2) ax))))) (a_ (aw eQ (aa (eV 1) (aa (aw da (aa (eV 0) (aa (eV 1) (aa (eV 3) (aa (eC (.bl true)) ax))))) ax)))))
def c4:List D->Res D:=fn 3 4 hV
theorem uJ(x0 x1 x2:D):c4 [x0,x1,x2]=bJ (hV [some (.val x0),some (.val x1),some (.val x2),none]):=cg _ _ _ _ rfl
def g?:SF:=(aB (aM 2 (eB bc (eW 0) (eC (.int 6)))) (aB (fN (eY (eB bc (eW 0) (eC (.int 7)))) (ka [3,4]) (gi (tE (eB oEq (eW 3) (eW 1))) (aM 2 (eB bj (eW 2) (eW 4))) bF)) (a_ (eV 2))))
def f':List D->Res D:=fn 2 5 g?
theorem uG(x0 x1:D):f' [x0,x1]=bJ (g? [some (.val x0),some (.val x1),none,none,none]):=cg _ _ _ _ rfl
def k8:SF:=(aB (aM 2 (eC (.int 0))) (aB (fN (A5 (eV 0) (eV 1)) (ka [3,4]) (gi (tE (eU eH (eW 4))) (aM 2 (eB bj (eW 2) (aw f' (aa (eV 3) (aa (eB bc (eW 4) (eC (.int 0))) ax))))) bF)) (a_ (eV 2))))
def cO:List D->Res D:=fn 2 5 k8
theorem zi(x0 x1:D):cO [x0,x1]=bJ (k8 [some (.val x0),some (.val x1),none,none,none]):=cg _ _ _ _ rfl
def o6:SF:=(aB (aM 4 (eL (bX (aa (eV 2) ax)))) (aB (fN (eZ (eU cM (eW 1))) (bA 5) (gi (tE (eU ly (eB bc (eW 2) (eW 5)))) (aB (nB 6 (bX ax)) (aB (fN (eY (eV 4)) (bA 7) (aB (fN (eY (aw KH.gu (aa (eV 0) (aa (eV 1) (aa (eV 7) (aa (eV 5) ax)))))) (bA 8) (cH 6 (aw KH.fh (aa (eV 7) (aa (eV 5) (aa (eV 8) ax)))))) (gi (tE (eV 3)) (cH 6 (eV 7)) bF))) (w! 6 (aM 4 (eV 6))))) bF)) (a_ (eV 4))))
def kn:List D->Res D:=fn 4 9 o6
theorem CG(x0 x1 x2 x3:D):kn [x0,x1,x2,x3]=bJ (o6 [some (.val x0),some (.val x1),some (.val x2),some (.val x3),none,none,none,none,none]):=cg _ _ _ _ rfl
def fY:SF:=(aB (aM 3 (aw dX (aa (eV 0) (aa (eV 1) (aa (eV 2) ax))))) (a_ (aw eQ (aa (eV 1) (aa (aw da (aa (eV 0) (aa (eV 1) (aa (eV 3) (aa (eC (.bl false)) ax))))) ax)))))
def dY:List D->Res D:=fn 3 4 fY
theorem ox(x0 x1 x2:D):dY [x0,x1,x2]=bJ (fY [some (.val x0),some (.val x1),some (.val x2),none]):=cg _ _ _ _ rfl
def jD:SF:=(a_ (aw bK (aa (eV 1) (aa (aw c4 (aa (eV 0) (aa (eV 1) (aa (eV 2) ax)))) ax))))
def dN:List D->Res D:=fn 3 3 jD
theorem xB(x0 x1 x2:D):dN [x0,x1,x2]=bJ (jD [some (.val x0),some (.val x1),some (.val x2)]):=cg _ _ _ _ rfl
end KB
end
set_option maxRecDepth 8000
namespace KB
open Z KG
open KH
theorem lO{rows:Rows}{C:Nat}(H:Hall rows C)(xs:List GO)(g:G)(k:Nat):(br rows C xs g k).length≤10000:=Nat.le_trans (List.length_filter_le _ _) (places_len H g)
theorem GX{rows:Rows}{C:Nat}(H:Hall rows C){xs:List GO}(h6:xs.length≤6)(hg:∀x∈xs,GOk x.1)(hk:Good rows xs):KG.iZ [cu rows,aF xs,ay xs]=.ok (.bl true):=by have:=GW H h6 hg;rw[hk.keeps]at this;exact this
theorem sL{rows:Rows}{C:Nat}(H:Hall rows C){xs:List GO}(h6:xs.length≤6)(hg:∀x∈xs,GOk x.1)(hk:Good rows xs):aN [cu rows,aF xs,ay xs]=.ok (ay xs):=by rw[uI];refine aQ ?_;have hN:ly (ay xs)=.ok (.bl false):=rfl;simp[hU,hN,GX H h6 hg hk]
theorem Hn{rows:Rows}{xs:List GO}(h6:xs.length≤6)(hk:Good rows xs)(c:Int):∃ys:List GO,ys.map (·.1)=xs.map (·.1)∧(∀(i:Nat)(g:G)(p:Pl),ys[i]?=some (g,some p)->xs[i]?=some (g,some p))∧Good rows ys∧KH.iX [ay xs,.int c]=.ok (ay ys):=by
 obtain⟨ys,UC⟩:∃ys:List GO,ys=(List.range xs.length).map λ i=>(((xs[i]?).map (·.1)).getD ⟨[],0,0,[],0,0,.non,.non⟩,if decide (c / LH i % 2=1)then((xs[i]?).bind (·.2))else none):=⟨_,rfl⟩
 have at_:∀(i:Nat)(x:GO),xs[i]?=some x->ys[i]?=some (x.1,if decide (c / LH i % 2=1)then x.2 else none):=λ i x e=>by have hl:i < xs.length:=(List.getElem?_eq_some_iff.mp e).1;rw[UC,List.getElem?_map,List.getElem?_range hl];simp[e]
 have WV:ys.length=xs.length:=by rw[UC];simp
 have sub:∀(i:Nat)(g:G)(p:Pl),ys[i]?=some (g,some p)->xs[i]?=some (g,some p):=λ i g p e=>by
  cases ex:xs[i]? with
  | none =>have:ys[i]?=none:=List.getElem?_eq_none (by rw[WV];exact List.getElem?_eq_none_iff.mp ex);rw[this]at e;cases e
  | some x =>
   rw[at_ i x ex]at e;obtain⟨g',o⟩:=x;simp only[Option.some.injEq,Prod.mk.injEq]at e;obtain⟨rfl,e⟩:=e;split at e
   ·rw[e]
   ·cases e
 refine⟨ys,?_,sub,hk.sub sub,?_⟩
 ·refine List.ext_getElem? λ i=>?_;rw[List.getElem?_map,List.getElem?_map];cases e:xs[i]? with
  | none =>have:ys[i]?=none:=List.getElem?_eq_none (by rw[WV];exact List.getElem?_eq_none_iff.mp e);rw[this]
  | some x=>rw[at_ i x e];rfl
 ·rw[Bl];refine aQ ?_;have ET:cM (ay xs)=.ok (.int xs.length):=by simp[ay]
  have hl:xs.length≤16777216:=by lia
  simp[mQ,bY,line,cS,b?,ET,hl];have e0:dq 0 xs.length=(List.range xs.length).map λ j=>D.int (j:Nat):=by rw[ints_map];exact List.map_congr_left λ j _=>by rw[Int.zero_add]
  rw[e0];refine cE (λ j:Nat=>D.int (j:Nat)) (λ _=>true) (λ j=>cC (if decide (c / LH j % 2=1)then((xs[j]?).bind (·.2))else none)) ?_ ?_
  ·intro j hj;rw[List.mem_range]at hj;obtain⟨x,ex⟩:∃x,xs[j]?=some x:=⟨_,List.getElem?_eq_getElem hj⟩
   have ix:bc (ay xs) (.int (j:Nat))=.ok (cC x.2):=(eJ (xs:=xs.map λ y:GO=>cC y.2) (i:=(j:Nat)) (j:=j) rfl (by rw[List.getElem?_map,ex];rfl)).1;obtain⟨q,YY,hq⟩:∃q:Int,(0 < q∧q≤32)∧q=LH j∧bc (.lst [.int 1,.int 2,.int 4,.int 8,.int 16,.int 32]) (.int (j:Nat))=.ok (.int q):=by
    match j,(by lia:j < 6)with
    | 0,_=>exact⟨1,by decide,rfl,rfl⟩
    | 1,_=>exact⟨2,by decide,rfl,rfl⟩
    | 2,_=>exact⟨4,by decide,rfl,rfl⟩
    | 3,_=>exact⟨8,by decide,rfl,rfl⟩
    | 4,_=>exact⟨16,by decide,rfl,rfl⟩
    | 5,_=>exact⟨32,by decide,rfl,rfl⟩
   obtain⟨JR,hq⟩:=hq;rw[<-JR];have hd:=bW YY.1 (by lia);by_cases hb:c / q % 2=1
   ·simp[line,hq,hd,hb,ix,ex]
   ·simp[line,hq,hd,hb]
  ·rw[ji];unfold ay;rw[UC,List.map_map];rfl
def XR:D->Int
 | .int w=>w
 | _=>0
def T5:D->Pl
 | .tup [.int a,.int b]=>(a,b)
 | _=>(0,0)
def Wf:D->List Pl
 | .tup ds=>ds.map T5
 | _=>[]
def more(ws:List Pl)(row:Int):Int:=((ws.filter λ p=>decide (p.1=row)).map (·.2)).sum
def z0(g:G)(row:Int):Int:=XR g.worth+more (Wf g.pJ) row
def wO(x:GO):Int:=match x.2 with
 | none=>0
 | some p=>z0 x.1 p.1
theorem C5(ws:List Pl):Wf (.tup (ws.map aK))=ws:=by show(ws.map aK).map T5=ws;rw[List.map_map];have:(T5∘aK)=id:=funext λ p=>rfl;rw[this,List.map_id]
theorem KR(ns:List Int):Eu (.lst (ns.map D.int))=.ok (.int ns.sum):=by show(match Ad (ns.map D.int)with | some i=>Res.ok (D.int i) | none=>.bad)=_;rw[xK]
theorem tK{g:G}(h:GrpG g)(row:Int):iT [bB g,.int row]=.ok (.int (z0 g row)):=by
 obtain⟨wt,ws,hl,e1,e2⟩:=h.We;rw[Bb];refine aQ ?_;have Sy:ws.length≤16777216:=by lia
 have e3:z0 g row=wt+more ws row:=by unfold z0;rw[e1,e2,C5];rfl
 rw[e3];simp[mJ,bY,line,cS,b?,e1,e2,Sy];refine cE aK (λ p=>decide (p.1=row)) (λ p=>.int p.2) (xs:=ws) (λ p _=>?_) ?_
 ·simp;rfl
 ·rw[show(ws.filter λ p=>decide (p.1=row)).map (λ p=>D.int p.2)=((ws.filter λ p=>decide (p.1=row)).map (·.2)).map D.int from by rw[List.map_map];rfl,KR];simp[more]
theorem yw:∀(xs:List GO),((nI xs).map λ y=>z0 y.1 y.2.1).sum=(xs.map wO).sum
 | []=>rfl
 | (g,none) :: xs=>by simp[nI,wO,yw xs]
 | (g,some p) :: xs=>by simp[nI,wO,yw xs]
theorem tJ{xs:List GO}(h:xs.length≤6)(hg:∀x∈xs,GrpG x.1):bK [.tup (xs.map λ x=>bB x.1),.tup (xs.map λ x=>cC x.2)]=.ok (.int (xs.map wO).sum):=by
 rw[Ba];refine aQ ?_;have et:=qL (xs:=xs) (by lia);have Sv:=oP xs;have MB:(nI xs).length≤16777216:=by lia
 simp[mI,et,bY,line,cS,MB];refine cE qe (λ _=>true) (λ y=>.int (z0 y.1 y.2.1)) (xs:=nI xs) (λ y hy=>?_) ?_
 ·have:=tK (hg _ (ju.mp hy)) y.2.1;have gX:∀ρ:Env,ka [0,1] (qe y) ρ=.ok ((ρ.set 0 (v (bB y.1))).set 1 (v (aK y.2))):=λ ρ=>rfl;simp[gX,this]
 ·rw[ji,show(nI xs).map (λ y=>D.int (z0 y.1 y.2.1))=((nI xs).map λ y=>z0 y.1 y.2.1).map D.int from by rw[List.map_map];rfl,KR,yw];simp
theorem uO{xs:List GO}{k:Nat}{x:GO}:(xs.set k x).length=xs.length:=List.length_set
theorem iQ{xs:List GO}(h6:xs.length≤6){k:Nat}{g:G}{o:Option Pl}(hk:xs[k]?=some (g,o))(p:Pl):KH.cx [ay xs,.int (k:Nat),aK p]=.ok (ay (xs.set k (g,some p)))∧KH.fh [ay xs,.int (k:Nat),aK p]=.ok (ay (xs.set k (g,some p))):=by have hl:k < xs.length:=(List.getElem?_eq_some_iff.mp hk).1;have h1:=w6 (ds:=xs.map λ x=>cC x.2) (k:=k) (by simp;lia) (by simp;lia) (aK p);have h2:=C6 (ds:=xs.map λ x=>cC x.2) (k:=k) (by simp;lia) (by simp;lia) (aK p);rw[yg];exact⟨h1,h2⟩
theorem FV{rows:Rows}{C:Nat}(hr:∀x∈rows,x.length=C){s:Pl}{c:Nat}(h:cn rows s=some c):0≤s.1∧s.1 < rows.length∧0≤s.2∧s.2 < C:=by
 unfold cn at h;split at h
 ·rename_i z;cases e:rows[s.1.toNat]? with
  | none=>rw[e]at h;cases h
  | some r =>rw[e]at h;have h:r[s.2.toNat]?=some c:=h;have h1:=(List.getElem?_eq_some_iff.mp h).1;have h2:=(List.getElem?_eq_some_iff.mp e).1;have hl:=hr r (List.mem_of_getElem? e);lia
 ·cases h
theorem Oo{g:G}(k:GOk g)(p:Pl):p∈seats g p:=by have hw:=k.w1;have hd:=k.d1;unfold seats jN gG;simp only[List.mem_flatMap,List.mem_range,List.mem_map];exact⟨0,by lia,0,by lia,by simp⟩
theorem Hi{rows:Rows}{C:Nat}(H:Hall rows C){g:G}(k:GOk g){p:Pl}(h:cV rows g p=true):p∈places rows C g:=by
 refine List.mem_filter.mpr ⟨x_.mpr ?_,h⟩;unfold cV at h;rw[Bool.and_eq_true,List.all_eq_true]at h;have:=h.1 p (Oo k p);cases e:cn rows p with
 | none=>rw[e]at this;cases this
 | some c=>exact FV H.len e
structure Ext(cs hs:List GO):Prop where
 gs:cs.map (·.1)=hs.map (·.1)
 sub:∀(i:Nat)(g:G)(p:Pl),cs[i]?=some (g,some p)->hs[i]?=some (g,some p)
theorem Ext.len{cs hs:List GO}(e:Ext cs hs):cs.length=hs.length:=by have:=congrArg List.length e.gs;rwa [List.length_map,List.length_map]at this
theorem Ext.at{cs hs:List GO}(e:Ext cs hs){k:Nat}{g:G}{o:Option Pl}(h:cs[k]?=some (g,o)):∃o',hs[k]?=some (g,o')∧(∀p,o=some p->o'=some p):=by
 have hl:k < cs.length:=(List.getElem?_eq_some_iff.mp h).1;rw[e.len]at hl;obtain⟨⟨g',o'⟩,e'⟩:∃x,hs[k]?=some x:=⟨_,List.getElem?_eq_getElem hl⟩
 have z:=congrArg (λ l=>l[k]?) e.gs;simp only[List.getElem?_map,h,e',Option.map_some,Option.some.injEq]at z;subst z;refine⟨o',e',λ p hp=>?_⟩;subst hp;have:=e.sub k g p h;rw[e']at this;exact(Prod.mk.inj (Option.some.inj this)).2
theorem EM{g:G}(k:kE g)(row:Int):f' [bB g,.int row]=.ok (.int (z0 g row)):=by
 obtain⟨wt,ws,hl,h0,h1,e1,e2⟩:=k.pos;have i6:bc (bB g) (.int 6)=.ok (.int wt):=by rw[<-e1];rfl
 have i7:bc (bB g) (.int 7)=.ok (.tup (ws.map aK)):=by rw[<-e2];rfl
 have e3:z0 g row=wt+more ws row:=by unfold z0;rw[e1,e2,C5];rfl
 rw[uG,e3];refine aQ ?_;simp[g?,i6,i7];refine cR (λ i ρ=>∃x3 x4,ρ=[v (bB g),vi row,vi (wt+more (ws.take i) row),x3,x4]) ⟨none,none,by simp[more]⟩ ?_ ?_
 ·rintro j d ρ hj ⟨x3,x4,rfl⟩;rw[List.getElem?_map]at hj;obtain⟨p,hp,rfl⟩:=Option.map_eq_some_iff.mp hj;have gX:∀ρ:Env,ka [3,4] (aK p) ρ=.ok ((ρ.set 3 (v (.int p.1))).set 4 (v (.int p.2))):=λ ρ=>rfl;have ft:more (ws.take (j+1)) row=more (ws.take j) row+if p.1=row then p.2 else 0:=by unfold more;rw[List.take_add_one,hp,List.filter_append,List.map_append,List.sum_append];by_cases h:p.1=row<;>simp[h]
  generalize more (ws.take (j+1)) row=ta at ft ⊢;generalize more (ws.take j) row=tb at ft ⊢;by_cases h:p.1=row
  ·rw[if_pos h]at ft;simp[gX,h];lia
  ·rw[if_neg h]at ft;simp[gX,h];lia
 ·rintro ρ ⟨x3,x4,rfl⟩;rw[List.length_map,List.take_of_length_le (Nat.le_refl _)];simp
theorem zip_map{α:Type}(f h:α->D):∀xs:List α,e_ (xs.map f) (xs.map h)=xs.map λ x=>.tup [f x,h x]
 | []=>rfl
 | x :: xs=>by simp[e_,zip_map f h xs];rfl
theorem yW{xs:List GO}(h6:xs.length≤6)(hg:∀x∈xs,kE x.1):cO [aF xs,ay xs]=.ok (.int (xs.map wO).sum):=by
 have hl:xs.length≤16777216:=by lia
 unfold aF ay;rw[zi];refine aQ ?_;simp[k8,zip_map,line,hl];refine cR (λ i ρ=>∃x3 x4,ρ=[v (.tup (xs.map λ x=>bB x.1)),v (.tup (xs.map λ x=>cC x.2)),vi (((xs.take i).map wO).sum),x3,x4]) ⟨none,none,by simp⟩ ?_ ?_
 ·rintro j d ρ hj ⟨x3,x4,rfl⟩;rw[List.getElem?_map]at hj;obtain⟨⟨g,o⟩,hp,rfl⟩:=Option.map_eq_some_iff.mp hj;have kg:=hg _ (List.mem_of_getElem? hp);have ft:((xs.take (j+1)).map wO).sum=((xs.take j).map wO).sum+wO (g,o):=by rw[List.take_add_one,hp,List.map_append,List.sum_append];simp
  generalize ((xs.take (j+1)).map wO).sum=ta at ft ⊢;generalize ((xs.take j).map wO).sum=tb at ft ⊢;cases o with
  | none =>
   have:ta=tb:=by rw[ft];show tb+0=tb;lia
   have en:eH D.non=.ok (.bl false):=rfl;subst this;simp[cC,en]
  | some p =>have:ta=tb+z0 g p.1:=ft;have en:eH (aK p)=.ok (.bl true):=rfl;have i0:bc (aK p) (.int 0)=.ok (.int p.1):=rfl;subst this;simp[cC,en,i0,EM kg]
 ·rintro ρ ⟨x3,x4,rfl⟩;rw[List.length_map,List.take_of_length_le (Nat.le_refl _)];simp
end KB
namespace KB
open Z KG
open KH
def fO:List Nat->Nat
 | []=>1
 | n :: r=>n*fO r
theorem jt:∀a b:List Nat,fO (a++b)=fO a*fO b
 | [],b=>by simp[fO]
 | n :: a,b=>by simp[fO,jt a b,Nat.mul_assoc]
theorem xO:∀{l:List Nat},(∀n∈l,0 < n)->0 < fO l
 | [],_=>Nat.one_pos
 | n :: l,h=>Nat.mul_pos (h n List.mem_cons_self) (xO λ m hm=>h m (List.mem_cons_of_mem _ hm))
def lH(rows:Rows)(C:Nat)(x:GO):Nat:=match x.2 with
 | none=>(places rows C x.1).length+1
 | some _=>1
theorem FH(rows:Rows)(C:Nat)(x:GO):0 < lH rows C x:=by unfold lH;split<;>lia
def fg(rows:Rows)(C:Nat)(xs:List GO):Nat:=fO (xs.map (lH rows C))
theorem FG{rows:Rows}{C:Nat}(xs:List GO):0 < fO (xs.map (lH rows C)):=xO λ n hn=>by obtain⟨x,_,rfl⟩:=List.mem_map.mp hn;exact FH rows C x
theorem xH{rows:Rows}{C:Nat}(xs:List GO)(j:Nat):fO ((xs.take j).map (lH rows C))≤fg rows C xs:=by
 unfold fg;have e:xs.map (lH rows C)=(xs.take j).map (lH rows C)++(xs.drop j).map (lH rows C):=by rw[<-List.map_append,List.take_append_drop]
 rw[e,jt];exact Nat.le_mul_of_pos_right _ (FG _)
theorem oO{rows:Rows}{C:Nat}{xs:List GO}{j:Nat}{x:GO}(h:xs[j]?=some x):fO ((xs.take (j+1)).map (lH rows C))=fO ((xs.take j).map (lH rows C))*lH rows C x:=by rw[take_snoc h,List.map_append,jt];simp[fO]
theorem C7{rows:Rows}{C:Nat}(H:Hall rows C){xs:List GO}(h6:xs.length≤6)(hg:∀x∈xs,GOk x.1){fd:D}(ef:aN [cu rows,aF xs,fd]=.ok (ay xs)):oU [cu rows,aF xs,fd]=.ok (.int (fg rows C xs)):=by
 rw[J7];refine aQ ?_;simp[zP,ef];unfold aF ay at *;simp[zip_map];refine cR (λ i ρ=>∃(x4 x5:Option L),ρ=[v (cu rows),v (.tup (xs.map λ x=>bB x.1)),v fd,vi (fO ((xs.take i).map (lH rows C)):Nat),x4,x5]) ⟨none,none,rfl⟩ ?_ ?_
 ·rintro j d ρ hj ⟨x4,x5,rfl⟩;rw[List.getElem?_map]at hj;obtain⟨⟨g,o⟩,hx,rfl⟩:=Option.map_eq_some_iff.mp hj;have gX:∀ρ:Env,ka [4,5] (.tup [bB g,cC o]) ρ=.ok ((ρ.set 4 (v (bB g))).set 5 (v (cC o))):=λ ρ=>rfl;rw[oO hx];generalize fO ((xs.take j).map (lH rows C))=m;cases o with
  | some p =>have en:ly (aK p)=.ok (.bl false):=rfl;simp[gX,cC,en,lH]
  | none =>have pl:=places_of_ok H (hg _ (List.mem_of_getElem? hx));have hpl:=places_len H g;rw[show lH rows C (g,none)=(places rows C g).length+1 from rfl];generalize places rows C g=ps at pl hpl ⊢;have q1:bI (m:Int) ((ps.length:Int)+1):=Or.inr (Or.inl ⟨by lia,by lia⟩);simp[gX,cC,pl,q1]
 ·rintro ρ ⟨x4,x5,rfl⟩;rw[List.length_map,List.take_length];simp[fg]
theorem vd{rows:Rows}{C:Nat}(H:Hall rows C){xs:List GO}(h6:xs.length≤6)(hg:∀x∈xs,GOk x.1){fd:D}(ef:aN [cu rows,aF xs,fd]=.ok (ay xs))(hw:fg rows C xs≤2000):dX [cu rows,aF xs,fd]=.ok (ay xs):=by
 have ew:=C7 H h6 hg ef;rw[wu];refine aQ ?_;have:¬(2000:Int) < (fg rows C xs:Nat):=by lia
 simp[iN,ew,ef,this]
def gD(rows:Rows)(C:Nat)(sm:Bool)(g:G)(k:Nat)(cs:List GO):List (List GO):=(br rows C cs g k).map (λ p=>cs.set k (g,some p))++if sm then[cs]else[]
theorem vb{rows:Rows}{C:Nat}{sm:Bool}{g:G}{k:Nat}{cs:List GO}:(gD rows C sm g k cs).length≤(places rows C g).length+1:=by have:=List.length_filter_le (openAt cs g k) (places rows C g);unfold gD br;cases sm<;>simp<;>lia
theorem rC{α β:Type}{f:α->List β}{m:Nat}:∀{L:List α},(∀x∈L,(f x).length≤m)->(L.flatMap f).length≤L.length*m
 | [],_=>by simp
 | x :: L,h=>by have:=rC (L:=L) λ y hy=>h y (List.mem_cons_of_mem _ hy);have hx:=h x List.mem_cons_self;rw[List.flatMap_cons,List.length_append,List.length_cons,Nat.add_mul,Nat.one_mul];lia
theorem we{cs xs:List GO}(h:cs.map (·.1)=xs.map (·.1)):aF cs=aF xs:=by have:=congrArg (List.map bB) h;rw[List.map_map,List.map_map]at this;exact congrArg D.tup this
theorem En{rows:Rows}{C:Nat}(H:Hall rows C){cs:List GO}(h6:cs.length≤6){k:Nat}{g:G}(hk:cs[k]?=some (g,none)):KH.eO [.tup ((places rows C g).map aK),bB g,.lst ((nI cs).map qe)]=.ok (.tup ((br rows C cs g k).map aK)):=by
 have hl:k < cs.length:=(List.getElem?_eq_some_iff.mp hk).1;have Sv:=oP cs;have ho:=pA (places rows C g) g (ss:=nI cs) (places_len H g) (by lia);have MC:cs.set k (g,none)=cs:=by have:cs[k]=(g,none):=(List.getElem?_eq_some_iff.mp hk).2;rw[<-this];exact List.set_getElem_self hl
 have he:(places rows C g).filter (λ p=>(nI cs).all λ x=>cT g p x.1 x.2)=br rows C cs g k:=by unfold br;refine List.filter_congr λ p _=>?_;have:=Ai (g:=g) hk p;simp only at this;rw[MC]at this;exact this
 rw[he]at ho;exact ho
theorem Aw{rows:Rows}{C:Nat}(H:Hall rows C){xs:List GO}(h6:xs.length≤6)(hg:∀x∈xs,GOk x.1){k:Nat}{g:G}(hk:xs[k]?=some (g,none))(sm:Bool){L:List (List GO)}(hL:∀cs∈L,cs.map (·.1)=xs.map (·.1)∧cs[k]?=some (g,none))(hB:L.length*((places rows C g).length+1)≤1000000):
  fw [cu rows,aF xs,.lst (L.map ay),.int (k:Nat),.bl sm]=.ok (.lst ((L.flatMap (gD rows C sm g k)).map ay)):=by
 rw[sG];refine aQ ?_;have Sj:bc (aF xs) (.int (k:Nat))=.ok (bB g):=(eJ (xs:=xs.map λ y:GO=>bB y.1) (i:=k) (j:=k) rfl (by rw[List.getElem?_map,hk];rfl)).1;have pl:=places_of_ok H (hg _ (List.mem_of_getElem? hk));simp[f?,Sj,pl,line];refine cR (λ i ρ=>∃(x7 x8:Option Z.L),ρ=[v (cu rows),v (aF xs),v (.lst (L.map ay)),vi (k:Nat),v (.bl sm),v (.tup ((places rows C g).map aK)),ow (((L.take i).flatMap (gD rows C sm g k)).map ay),x7,x8]) ⟨none,none,by simp⟩ ?_ ?_
 ·rintro i d ρ hi ⟨x7,x8,rfl⟩;rw[List.getElem?_map]at hi;obtain⟨cs,Cu,rfl⟩:=Option.map_eq_some_iff.mp hi;obtain⟨e1,e2⟩:=hL cs (List.mem_of_getElem? Cu);have xo:cs.length≤6:=by have:=congrArg List.length e1;rw[List.length_map,List.length_map]at this;lia
  have ht:=qL (xs:=cs) (by lia);rw[show D.tup (cs.map λ x=>bB x.1)=aF cs from rfl,show D.tup (cs.map λ x=>cC x.2)=ay cs from rfl,we e1]at ht;have ho:=En H xo e2;have JW:i < L.length:=(List.getElem?_eq_some_iff.mp Cu).1;have K!:((L.take i).flatMap (gD rows C sm g k)).length≤(L.take i).length*((places rows C g).length+1):=rC λ x _=>vb;rw[List.length_take,Nat.min_eq_left (Nat.le_of_lt JW)]at K!;have Vb:i*((places rows C g).length+1)+((places rows C g).length+1)≤L.length*((places rows C g).length+1):=by rw[<-Nat.succ_mul];exact Nat.mul_le_mul_right _ JW
  rw[take_snoc Cu,List.flatMap_append];generalize (L.take i).flatMap (gD rows C sm g k)=fs at K!;have ET:=List.length_filter_le (openAt cs g k) (places rows C g);have G5:(br rows C cs g k).length≤(places rows C g).length:=ET;have Cq:(br rows C cs g k).length≤16777216:=by lia
  have W2:fs.length+(br rows C cs g k).length≤16777216:=by lia
  have Y2:fs.length+(br rows C cs g k).length < 16777216:=by lia
  simp[ht,Sj,ho,bY,cS,b?,line,Cq];refine cE aK (λ _=>true) (λ p=>ay (cs.set k (g,some p))) (λ p hp=>?_) ?_
  ·simp[(iQ xo e2 p).1]
  ·rw[ji];cases sm with
   | true=>simp[line,W2,Y2,gD]
   | false=>simp[line,W2,gD]
 ·rintro ρ ⟨x7,x8,rfl⟩;rw[List.length_map,List.take_length];simp
end KB
namespace KB
open Z KG
open KH
def bT(rows:Rows)(C:Nat)(sm:Bool)(xs:List GO):Nat->List (List GO)
 | 0=>[xs]
 | j+1=>match xs[j]? with
  | some (g,none)=>(bT rows C sm xs j).flatMap (gD rows C sm g j)
  | _=>bT rows C sm xs j
section
variable {rows:Rows}{C:Nat}{sm:Bool}{xs:List GO}
theorem ik{j:Nat}{g:G}(h:xs[j]?=some (g,none)):bT rows C sm xs (j+1)=(bT rows C sm xs j).flatMap (gD rows C sm g j):=by simp only[bT,h]
theorem ij{j:Nat}{g:G}{p:Pl}(h:xs[j]?=some (g,some p)):bT rows C sm xs (j+1)=bT rows C sm xs j:=by simp only[bT,h]
theorem lJ:∀{j:Nat},j≤xs.length->(bT rows C sm xs j).length≤fO ((xs.take j).map (lH rows C))
 | 0,_=>by simp[bT,fO]
 | j+1,hj=>by
  have ih:=lJ (j:=j) (by lia);obtain⟨⟨g,o⟩,e⟩:∃x,xs[j]?=some x:=⟨_,List.getElem?_eq_getElem (by lia)⟩
  rw[oO e];cases o with
  | some p=>rw[ij e,show lH rows C (g,some p)=1 from rfl,Nat.mul_one];exact ih
  | none =>rw[ik e];exact Nat.le_trans (rC λ x _=>vb) (Nat.mul_le_mul_right _ ih)
structure BE(rows:Rows)(sm:Bool)(xs:List GO)(j:Nat)(z:List GO):Prop where
 gs:z.map (·.1)=xs.map (·.1)
 rest:∀i:Nat,j≤i->z[i]?=xs[i]?
 ext:Ext xs z
 good:Good rows z
 full:sm=false->∀(i:Nat)(g:G),i < j->z[i]?≠some (g,none)
theorem IB{j:Nat}{g:G}{z y:List GO}(e:xs[j]?=some (g,none))(h:BE rows sm xs j z)(hy:y∈gD rows C sm g j z):BE rows sm xs (j+1) y:=by
 have hz:z[j]?=some (g,none):=(h.rest j (Nat.le_refl _)).trans e;have hl:j < z.length:=(List.getElem?_eq_some_iff.mp hz).1;rcases List.mem_append.mp hy with hy | hy
 ·obtain⟨p,hp,rfl⟩:=List.mem_map.mp hy;obtain⟨h1,h2⟩:=List.mem_filter.mp hp;have gs:(z.set j (g,some p)).map (·.1)=xs.map (·.1):=by
   rw[<-h.gs];refine List.ext_getElem? λ i=>?_;rw[List.getElem?_map,List.getElem?_map,List.getElem?_set];split
   ·rename_i ei;subst ei;rw[hz];rfl
   ·rfl
  refine⟨gs,λ i hi=>?_,⟨gs.symm,λ i g' q ei=>?_⟩,h.good.put hz (KH.iL h1) h2,λ hs i g' hi=>?_⟩
  ·rw[List.getElem?_set,if_neg (by lia)];exact h.rest i (by lia)
  ·have:=h.ext.sub i g' q ei;rw[List.getElem?_set];split
   ·rename_i ej;subst ej;rw[hz]at this;cases this
   ·exact this
  ·rw[List.getElem?_set];split
   ·rename_i ej;subst ej;intro q;cases q
   ·exact h.full hs i g' (by lia)
 ·cases sm with
  | false=>simp at hy
  | true =>
   have:y=z:=by simpa using hy
   subst this;exact⟨h.gs,λ i hi=>h.rest i (by lia),h.ext,h.good,λ hs=>nomatch hs⟩
theorem iJ(hk : Good rows xs): ∀{j : Nat}, j ≤ xs.length -> ∀z ∈ bT rows C sm xs j, BE rows sm xs j z
 | 0,_,z,hz=>by
  have:z=xs:=by simpa[bT]using hz
  subst this;exact⟨rfl,λ _ _=>rfl,⟨rfl,λ _ _ _ e=>e⟩,hk,λ _ i g hi=>absurd hi (Nat.not_lt_zero _)⟩
 | j + 1, hj, z, hz => by
  obtain⟨⟨g,o⟩,e⟩:∃x,xs[j]?=some x:=⟨_,List.getElem?_eq_getElem (by lia)⟩
  have ih:=iJ hk (j:=j) (by lia);cases o with
  | some p =>
   rw[ij e]at hz;have h:=ih z hz;refine⟨h.gs,λ i hi=>h.rest i (by lia),h.ext,h.good,λ hs i g' hi=>?_⟩;by_cases K9:i=j
   ·subst K9;rw[h.rest i (Nat.le_refl _),e];intro q;cases q
   ·exact h.full hs i g' (by lia)
  | none =>rw[ik e]at hz;obtain⟨y,hy,YG⟩:=List.mem_flatMap.mp hz;exact IB e (ih y hy) YG
theorem Aj(H : Hall rows C)(hg : ∀x ∈ xs, GOk x.1){z : List GO}(e : Ext xs z)(hz : Good rows z)(hs : sm = true ∨ ∀(i : Nat)(g : G), z[i]? ≠ some (g, none)): ∀{j : Nat}, j ≤ xs.length -> z.take j ++ xs.drop j ∈ bT rows C sm xs j
 | 0,_=>by simp[bT]
 | j + 1, hj => by
  have ih:=Aj H hg e hz hs (j:=j) (by lia);have NK:=e.len;obtain⟨⟨g,o⟩,ex⟩:∃x,xs[j]?=some x:=⟨_,List.getElem?_eq_getElem (by lia)⟩
  obtain⟨o',ez,ho⟩:=e.at ex;have SA:j < xs.length:=by lia
  have hjz:j < z.length:=by lia
  have d1:xs.drop j=(g,o) :: xs.drop (j+1):=by rw[List.drop_eq_getElem_cons SA];rw[List.getElem?_eq_getElem SA]at ex;rw[Option.some.inj ex]
  have t1:z.take (j+1)=z.take j++[(g,o')]:=take_snoc ez;have tl:(z.take j).length=j:=by rw[List.length_take];lia
  cases o with
  | some p =>rw[ho p rfl]at t1;rw[ij ex,t1,List.append_assoc];rw[d1]at ih;exact ih
  | none =>
   rw[ik ex];refine List.mem_flatMap.mpr ⟨_,ih,?_⟩;rw[d1];cases o' with
   | none =>
    rcases hs with rfl | hs
    ·refine List.mem_append_right _ ?_;rw[t1,List.append_assoc];simp
    ·exact absurd ez (hs j g)
   | some p =>
    refine List.mem_append_left _ (List.mem_map.mpr ⟨p,?_,?_⟩)
    ·obtain⟨f,ap⟩:=hz j g p ez;refine List.mem_filter.mpr ⟨Hi H (hg _ (List.mem_of_getElem? ex)) f,p!.mpr λ i g' q ei ne=>?_⟩;rw[<-d1]at ei;refine ap i g' q ?_ ne;by_cases hi:i < j
     ·rw[List.getElem?_append_left (by rw[tl];exact hi),List.getElem?_take_of_lt hi]at ei;exact ei
     ·rw[List.getElem?_append_right (by rw[tl];lia),List.getElem?_drop,tl,show j+(i-j)=i by lia]at ei;exact e.sub i g' q ei
    ·rw[t1,List.append_assoc,List.set_append_right _ _ (by rw[tl];exact Nat.le_refl _),tl,Nat.sub_self];rfl
theorem jO(H:Hall rows C)(hg:∀x∈xs,GOk x.1){z:List GO}(e:Ext xs z)(hz:Good rows z)(hs:sm=true∨∀(i:Nat)(g:G),z[i]?≠some (g,none)):z∈bT rows C sm xs xs.length:=by have:=Aj H hg e hz hs (Nat.le_refl xs.length);rw[List.drop_length,List.append_nil,e.len,List.take_length]at this;rw[e.len];exact this
theorem zd(H : Hall rows C)(h6 : xs.length ≤ 6)(hg : ∀x ∈ xs, GOk x.1)(hk : Good rows xs)(hw : fg rows C xs ≤ 2000): da [cu rows, aF xs, ay xs, .bl sm] = .ok (.lst ((bT rows C sm xs xs.length).map ay)) := by
 rw[sI];refine aQ ?_;have hl:cM (aF xs)=.ok (.int xs.length):=by simp[aF]
 simp[gc,hl,line];refine cR (λ i ρ=>∃(x5:Option Z.L),ρ=[v (cu rows),v (aF xs),v (ay xs),v (.bl sm),v (.lst ((bT rows C sm xs i).map ay)),x5]) ⟨none,rfl⟩ ?_ ?_
 ·rintro j d ρ hj ⟨x5,rfl⟩;obtain⟨y9,rfl⟩:=ints_get hj;obtain⟨⟨g,o⟩,e⟩:∃x,xs[j]?=some x:=⟨_,List.getElem?_eq_getElem y9⟩
  have ix:bc (ay xs) (.int (j:Nat))=.ok (cC o):=(eJ (xs:=xs.map λ y:GO=>cC y.2) (i:=j) (j:=j) rfl (by rw[List.getElem?_map,e];rfl)).1;cases o with
  | some p =>have en:ly (aK p)=.ok (.bl false):=rfl;rw[ij e];simp[ix,cC,en]
  | none =>
   have hi:=iJ (C:=C) (sm:=sm) hk (j:=j) (by lia);have hlen:=lJ (rows:=rows) (C:=C) (sm:=sm) (xs:=xs) (j:=j) (by lia);have h1:=xH (rows:=rows) (C:=C) xs (j+1);rw[oO e,show lH rows C (g,none)=(places rows C g).length+1 from rfl]at h1;have hB:(bT rows C sm xs j).length*((places rows C g).length+1)≤1000000:=by have:=Nat.mul_le_mul_right ((places rows C g).length+1) hlen;lia
   have om:=Aw H h6 hg e sm (L:=bT rows C sm xs j) (λ cs Cu=>⟨(hi cs Cu).gs,((hi cs Cu).rest j (Nat.le_refl _)).trans e⟩) hB;rw[ik e];simp[ix,cC,om]
 ·rintro ρ ⟨x5,rfl⟩;rw[gR];simp
def ie{α:Type}(mx:Bool)(w:α->Int)(b:α):List α->α
 | []=>b
 | x :: r=>if Ko mx (w x) (w b)=true then ie mx w x r else ie mx w b r
theorem qW{α:Type}{mx:Bool}{e:D->Res Int}{enc:α->D}{w:α->Int}:∀(r:List α)(b:α),(∀x∈r,e (enc x)=.ok (w x))->Ha mx e (enc b) (w b) (r.map enc)=.ok (enc (ie mx w b r))
 | [],b,_=>rfl
 | x :: r,b,h=>by
  have hx:=h x List.mem_cons_self;have hr:∀y∈r,e (enc y)=.ok (w y):=λ y hy=>h y (List.mem_cons_of_mem _ hy);rw[List.map_cons];unfold Ha ie;rw[hx];simp only[Res.uR];split
  ·exact qW r x hr
  ·exact qW r b hr
theorem lN{α:Type}{mx:Bool}{w:α->Int}:∀(r:List α)(b:α),ie mx w b r=b∨ie mx w b r∈r
 | [],b=>.inl rfl
 | x :: r,b=>by
  unfold ie;split
  ·rcases lN (mx:=mx) (w:=w) r x with h | h
   ·rw[h];exact .inr List.mem_cons_self
   ·exact .inr (List.mem_cons_of_mem _ h)
  ·rcases lN (mx:=mx) (w:=w) r b with h | h
   ·exact .inl h
   ·exact .inr (List.mem_cons_of_mem _ h)
theorem oQ{α : Type}{w : α -> Int}: ∀(r : List α)(b : α), w b ≤ w (ie true w b r) ∧ ∀x ∈ r, w x ≤ w (ie true w b r)
 | [],b=>⟨Int.le_refl _,λ x h=>by cases h⟩
 | x :: r,b=>by
  unfold ie;by_cases hb:Ko true (w x) (w b)=true
  ·rw[if_pos hb];obtain⟨h1,h2⟩:=oQ (w:=w) r x;have:w b < w x:=by simpa[Ko]using hb
   exact⟨by lia,λ y hy=>by
    rcases List.mem_cons.mp hy with rfl | hy
    ·exact h1
    ·exact h2 y hy⟩
  ·rw[if_neg hb];obtain⟨h1,h2⟩:=oQ (w:=w) r b;have:w x≤w b:=by simpa[Ko]using hb
   exact⟨h1,λ y hy=>by
    rcases List.mem_cons.mp hy with rfl | hy
    ·lia
    ·exact h2 y hy⟩
def wS(z:List GO):Int:=(z.map wO).sum
theorem MW{z:List GO}(hg:∀x∈xs,GrpG x.1)(h:z.map (·.1)=xs.map (·.1)):∀x∈z,GrpG x.1:=λ x hx=>by
 have:x.1∈xs.map (·.1):=by rw[<-h];exact List.mem_map.mpr ⟨x,hx,rfl⟩
 obtain⟨y,hy,e⟩:=List.mem_map.mp this;rw[<-e];exact hg y hy
theorem Ci{z:List GO}(h:z.map (·.1)=xs.map (·.1)):z.length=xs.length:=by have:=congrArg List.length h;rwa [List.length_map,List.length_map]at this
theorem pI(h6:xs.length≤6)(hg:∀x∈xs,GrpG x.1){z:List GO}(h:z.map (·.1)=xs.map (·.1)):bK [aF xs,ay z]=.ok (.int (wS z)):=by have:=tJ (xs:=z) (by rw[Ci h];exact h6) (MW hg h);rw[show D.tup (z.map λ x=>bB x.1)=aF z from rfl,we h]at this;exact this
theorem BD(h6:xs.length≤6)(hg:∀x∈xs,GrpG x.1){b:List GO}{r:List (List GO)}(hL:∀z∈b :: r,z.map (·.1)=xs.map (·.1)):eQ [aF xs,.lst ((b :: r).map ay)]=.ok (ay (ie true wS b r)):=by
 rw[pE];refine aQ ?_;have ke:∀z∈b :: r,uE (aw bK (aa (eV 1) (aa (eV 0) ax))) [v (aF xs)] (ay z)=.ok (wS z):=λ z hz=>by refine GV ?_;simp[pI h6 hg (hL z hz)]
 have pk:=qW (mx:=true) (e:=uE (aw bK (aa (eV 1) (aa (eV 0) ax))) [v (aF xs)]) (enc:=ay) (w:=wS) r b λ z hz=>ke z (List.mem_cons_of_mem _ hz);have kb:=ke b List.mem_cons_self;have e:zm true (.ok .non) (eW 1) [0] (aw bK (aa (eV 1) (aa (eV 0) ax))) [v (aF xs),v (.lst ((b :: r).map ay))]=.ok (ay (ie true wS b r)):=by show pickK true (.ok .non) (uE (aw bK (aa (eV 1) (aa (eV 0) ax))) [v (aF xs)]) (ay b :: r.map ay)=_;unfold pickK;dsimp only;rw[kb];exact pk
 simp only[List.map_cons]at e;simp[hW,e]
theorem Fm:eQ [aF xs,.lst []]=.ok .non:=by rw[pE];refine aQ ?_;have e:zm true (.ok .non) (eW 1) [0] (aw bK (aa (eV 1) (aa (eV 0) ax))) [v (aF xs),v (.lst [])]=.ok .non:=rfl;simp[hW,e]
theorem zN(H:Hall rows C)(h6:xs.length≤6)(hg:∀x∈xs,GrpG x.1)(hk:Good rows xs)(hw:fg rows C xs≤2000){fd:D}(ef:aN [cu rows,aF xs,fd]=.ok (ay xs)):
  ∃m,c4 [cu rows,aF xs,fd]=.ok (ay m)∧Ext xs m∧Good rows m∧∀z,Ext xs z->Good rows z->wS z≤wS m:=by
 have NQ:∀x∈xs,GOk x.1:=λ x hx=>(hg x hx).toGOk;have hi:=iJ (C:=C) (sm:=true) hk (Nat.le_refl _);have ha:=λ z e hz=>jO (sm:=true) H NQ (z:=z) e hz (.inl rfl);have fr:=zd (sm:=true) H h6 NQ hk hw;have sm:=vd H h6 NQ ef hw;have hx:=ha xs ⟨rfl,λ _ _ _ e=>e⟩ hk;cases e:bT rows C true xs xs.length with
 | nil=>rw[e]at hx;cases hx
 | cons b r =>
  rw[e]at hi ha fr;have am:=BD h6 hg (b:=b) (r:=r) λ z hz=>(hi z hz).gs;have mem:ie true wS b r∈b :: r:=by
   rcases lN (mx:=true) (w:=wS) r b with h | h
   ·rw[h];exact List.mem_cons_self
   ·exact List.mem_cons_of_mem _ h
  refine⟨ie true wS b r,?_,(hi _ mem).ext,(hi _ mem).good,λ z ez gz=>?_⟩
  ·rw[uJ];refine aQ ?_;simp only[List.map_cons]at am fr;simp[hV,sm,fr,am]
  ·obtain⟨h1,h2⟩:=oQ (w:=wS) r b;rcases List.mem_cons.mp (ha z ez gz)with rfl | h
   ·exact h1
   ·exact h2 z h
theorem xF(H:Hall rows C)(h6:xs.length≤6)(hg:∀x∈xs,GrpG x.1)(hk:Good rows xs)(hw:fg rows C xs≤2000){fd:D}(ef:aN [cu rows,aF xs,fd]=.ok (ay xs)):
  ∃m,c4 [cu rows,aF xs,fd]=.ok (ay m)∧dN [cu rows,aF xs,fd]=.ok (.int (wS m))∧Ext xs m∧Good rows m∧∀z,Ext xs z->Good rows z->wS z≤wS m:=by
 obtain⟨m,e1,e2,e3,e4⟩:=zN H h6 hg hk hw ef;refine⟨m,e1,?_,e2,e3,e4⟩;have ew:=pI h6 hg e2.gs.symm;rw[xB];refine aQ ?_;simp[jD,e1,ew]
end
end KB
namespace KB
open Z KG
open KH
def lG(rows:Rows)(C:Nat)(gs:List G):Nat:=fO (gs.map λ g=>(places rows C g).length+1)
theorem Ar{α:Type}{f h:α->Nat}:∀{l:List α},(∀x∈l,f x≤h x)->fO (l.map f)≤fO (l.map h)
 | [],_=>Nat.le_refl _
 | x :: l,k=>Nat.mul_le_mul (k x List.mem_cons_self) (Ar λ y hy=>k y (List.mem_cons_of_mem _ hy))
theorem Im{rows:Rows}{C:Nat}{xs:List GO}{gs:List G}(h:xs.map (·.1)=gs):fg rows C xs≤lG rows C gs:=by
 unfold fg lG;rw[<-h,List.map_map];refine Ar λ x _=>?_;unfold lH;split
 ·exact Nat.le_refl _
 ·exact Nat.succ_le_succ (Nat.zero_le _)
theorem M1{rows : Rows}{C : Nat}(H : Hall rows C){gs : List G}(h6 : gs.length ≤ 6)(hg : ∀g ∈ gs, GOk g){most : Int}(U0 : 1 ≤ most)(hm2 : most ≤ 1000000): ∃hs : List G, hs.length ≤ 6 ∧ (∀h ∈ hs, h ∈ gs) ∧ (lG rows C hs : Int) ≤ most ∧ KH.kj [cu rows, .tup (gs.map bB), .int most] = .ok (.tup (hs.map bB)) := by
 rw[CD];have:Ok (bJ (lX [v (cu rows),v (.tup (gs.map bB)),v (.int most),none,none,none,none])) λ d=>∃hs:List G,hs.length≤6∧(∀h∈hs,h∈gs)∧(lG rows C hs:Int)≤most∧d=.tup (hs.map bB):=by
  refine lr ?_;simp[lX,line];refine cR (λ i ρ=>∃(hs:List G)(x5 x6:Option L),(lG rows C hs:Int)≤most∧hs.length≤i∧(∀h∈hs,h∈gs)∧ρ=[v (cu rows),v (.tup (gs.map bB)),vi most,vi (lG rows C hs:Nat),ow (hs.map bB),x5,x6]) ⟨[],none,none,U0,Nat.zero_le _,λ h hh=>absurd hh List.not_mem_nil,rfl⟩ ?_ ?_
  ·rintro i d ρ hi ⟨hs,x5,x6,hm,hl,v?,rfl⟩;rw[List.getElem?_map]at hi;cases eg:gs[i]? with
   | none=>rw[eg]at hi;cases hi
   | some g =>
    rw[eg]at hi;cases hi;have W8:=List.mem_of_getElem? eg;have lp:=KH.lR H (hg g W8);have hpl:=places_len H g;have ew:(lG rows C (hs++[g]):Nat)=lG rows C hs*((places rows C g).length+1):=by unfold lG;rw[List.map_append,jt];simp[fO]
    generalize places rows C g=ps at lp hpl ew;have q1:bI (lG rows C hs:Nat) (1+(ps.length:Int)):=iz (by lia) (by lia);have JW:i < gs.length:=(List.getElem?_eq_some_iff.mp eg).1;have DM:hs.length < 16777216:=by lia
    have ez:((lG rows C hs:Nat):Int)*(1+(ps.length:Int))=(lG rows C (hs++[g]):Nat):=by rw[ew];rw[Int.natCast_mul,Int.natCast_add,Int.add_comm];rfl
    by_cases hle:((lG rows C hs:Nat):Int)*(1+(ps.length:Int))≤most
    ·simp[lp,q1,hle,line,DM];rw[ez]at hle ⊢;exact⟨hs++[g],hle,by simp;lia,λ h hh=>(List.mem_append.mp hh).elim (v? h) (λ e=>by rw[List.mem_singleton.mp e];exact W8),rfl,by simp⟩
    ·simp[lp,q1,hle];exact⟨hs,hm,by lia,v?,rfl,rfl⟩
  ·rintro ρ ⟨hs,x5,x6,hm,hl,v?,rfl⟩;rw[List.length_map]at hl;simp;exact⟨hs,by lia,v?,hm,rfl⟩
 obtain⟨d,e,hs,h1,h2,h3,rfl⟩:=this;exact⟨hs,h1,h2,h3,e⟩
end KB
namespace KB
open Z KG
open KH
theorem Ef{rows:Rows}{C:Nat}{cs xs:List GO}(h:cs.map (·.1)=xs.map (·.1)):ig rows C cs=ig rows C xs:=by have:=congrArg (List.map λ g=>D.lst ((places rows C g).map aK)) h;rw[List.map_map,List.map_map]at this;exact congrArg D.lst this
theorem Cj{rows : Rows}{C : Nat}{sm : Bool}{xs : List GO}(H : Hall rows C)(h6 : xs.length ≤ 6)(hk : Good rows xs)(hw : fg rows C xs ≤ 2000): kn [ig rows C xs, aF xs, ay xs, .bl sm] = .ok (.lst ((bT rows C sm xs xs.length).map ay)) := by
 rw[CG];refine aQ ?_;have hl:cM (aF xs)=.ok (.int xs.length):=by simp[aF]
 simp[o6,hl,line];refine cR (λ i ρ=>∃(x5 x6 x7 x8:Option Z.L),ρ=[v (ig rows C xs),v (aF xs),v (ay xs),v (.bl sm),v (.lst ((bT rows C sm xs i).map ay)),x5,x6,x7,x8]) ⟨none,none,none,none,rfl⟩ ?_ ?_
 ·rintro j d ρ hj ⟨x5,x6,x7,x8,rfl⟩;obtain⟨y9,rfl⟩:=ints_get hj;obtain⟨⟨g,o⟩,e⟩:∃x,xs[j]?=some x:=⟨_,List.getElem?_eq_getElem y9⟩
  have ix:bc (ay xs) (.int (j:Nat))=.ok (cC o):=(eJ (xs:=xs.map λ y:GO=>cC y.2) (i:=j) (j:=j) rfl (by rw[List.getElem?_map,e];rfl)).1;cases o with
  | some p =>have en:ly (aK p)=.ok (.bl false):=rfl;rw[ij e];simp[ix,cC,en]
  | none =>
   have hi:=iJ (C:=C) (sm:=sm) hk (j:=j) (by lia);have hlen:=lJ (rows:=rows) (C:=C) (sm:=sm) (xs:=xs) (j:=j) (by lia);have h1:=xH (rows:=rows) (C:=C) xs (j+1);rw[oO e,show lH rows C (g,none)=(places rows C g).length+1 from rfl]at h1;have hB:(bT rows C sm xs j).length*((places rows C g).length+1)≤1000000:=by have:=Nat.mul_le_mul_right ((places rows C g).length+1) hlen;lia
   rw[ik e];generalize bT rows C sm xs j=L at hi hB;simp[ix,cC,line];refine cR (λ i ρ=>∃(y7 y8:Option Z.L),ρ=[v (ig rows C xs),v (aF xs),v (ay xs),v (.bl sm),v (.lst (L.map ay)),vi (j:Nat),ow (((L.take i).flatMap (gD rows C sm g j)).map ay),y7,y8]) ⟨x7,x8,by simp⟩ ?_ ?_
   ·rintro i d ρ SD ⟨y7,y8,rfl⟩;rw[List.getElem?_map]at SD;obtain⟨cs,Cu,rfl⟩:=Option.map_eq_some_iff.mp SD;have hc:=hi cs (List.mem_of_getElem? Cu);have e2:cs[j]?=some (g,none):=(hc.rest j (Nat.le_refl _)).trans e;have xo:cs.length≤6:=by rw[Ci hc.gs];exact h6
    have ho:=KH.Dk H xo e2;rw[Ef hc.gs,we hc.gs]at ho;dsimp only at ho;have JW:i < L.length:=(List.getElem?_eq_some_iff.mp Cu).1;have K!:((L.take i).flatMap (gD rows C sm g j)).length≤(L.take i).length*((places rows C g).length+1):=rC λ x _=>vb;rw[List.length_take,Nat.min_eq_left (Nat.le_of_lt JW)]at K!;have Vb:i*((places rows C g).length+1)+((places rows C g).length+1)≤L.length*((places rows C g).length+1):=by rw[<-Nat.succ_mul];exact Nat.mul_le_mul_right _ JW
    rw[take_snoc Cu,List.flatMap_append];generalize (L.take i).flatMap (gD rows C sm g j)=fs at K!;have ET:=List.length_filter_le (openAt cs g j) (places rows C g);have G5:(br rows C cs g j).length≤(places rows C g).length:=ET;have ZF:[cs].flatMap (gD rows C sm g j)=(br rows C cs g j).map (λ p=>cs.set j (g,some p))++if sm then[cs]else[]:=by simp[gD]
    rw[ZF];generalize br rows C cs g j=op at ho G5;simp[ho,line];refine cR (λ m ρ=>∃(y8:Option Z.L),ρ=[v (ig rows C xs),v (aF xs),v (ay xs),v (.bl sm),v (.lst (L.map ay)),vi (j:Nat),ow ((fs++(op.take m).map λ p=>cs.set j (g,some p)).map ay),v (ay cs),y8]) ⟨y8,by simp⟩ ?_ ?_
    ·rintro m d ρ hm ⟨y8,rfl⟩;rw[List.getElem?_map]at hm;obtain⟨p,hp,rfl⟩:=Option.map_eq_some_iff.mp hm;have hml:m < op.length:=(List.getElem?_eq_some_iff.mp hp).1;have ha:fs.length+min m op.length < 16777216:=by lia
     rw[take_snoc hp];simp[(iQ xo e2 p).2,line,ha]
    ·rintro ρ ⟨y8,rfl⟩;rw[List.length_map,List.take_length];have ha:fs.length+op.length < 16777216:=by lia
     cases sm with
     | true=>simp[line,ha]
     | false=>simp[line]
   ·rintro ρ ⟨y7,y8,rfl⟩;rw[List.length_map,List.take_length];simp
 ·rintro ρ ⟨x5,x6,x7,x8,rfl⟩;rw[gR];simp
end KB
namespace KB
open Z KG
open KH
theorem uo{rows:Rows}{C:Nat}{xs:List GO}(H:Hall rows C)(h6:xs.length≤6)(hg:∀x∈xs,GrpG x.1)(hk:Good rows xs)(hw:fg rows C xs≤2000){fd:D}(ef:aN [cu rows,aF xs,fd]=.ok (ay xs)):
  (bT rows C false xs xs.length=[]∧dY [cu rows,aF xs,fd]=.ok .non) ∨
   ∃m,dY [cu rows,aF xs,fd]=.ok (ay m)∧m∈bT rows C false xs xs.length∧BE rows false xs xs.length m∧∀z∈bT rows C false xs xs.length,wS z≤wS m:=by
 have NQ:∀x∈xs,GOk x.1:=λ x hx=>(hg x hx).toGOk;have hi:=iJ (C:=C) (sm:=false) hk (Nat.le_refl _);have fr:=zd (sm:=false) H h6 NQ hk hw;have sm:=vd H h6 NQ ef hw;cases e:bT rows C false xs xs.length with
 | nil =>rw[e]at fr;simp only[List.map_nil]at fr;refine .inl ⟨rfl,?_⟩;rw[ox];refine aQ ?_;simp[fY,sm,fr,Fm]
 | cons b r =>
  rw[e]at hi fr;have am:=BD h6 hg (b:=b) (r:=r) λ z hz=>(hi z hz).gs;have mem:ie true wS b r∈b :: r:=by
   rcases lN (mx:=true) (w:=wS) r b with h | h
   ·rw[h];exact List.mem_cons_self
   ·exact List.mem_cons_of_mem _ h
  refine .inr ⟨ie true wS b r,?_,mem,hi _ mem,λ z hz=>?_⟩
  ·rw[ox];refine aQ ?_;simp only[List.map_cons]at am fr;simp[fY,sm,fr,am]
  ·obtain⟨h1,h2⟩:=oQ (w:=wS) r b;rcases List.mem_cons.mp hz with rfl | h
   ·exact h1
   ·exact h2 z h
end KB
namespace KB
open Z KG
open KH
def WI:Option Pl->Option Pl->Prop
 | some p,some q=>Dy p q
 | some _,none=>True
 | _,_=>False
def KY(a b:List GO):Prop:=∃(i:Nat)(g:G)(o o':Option Pl),(∀j,j < i->a[j]?=b[j]?)∧a[i]?=some (g,o)∧b[i]?=some (g,o')∧WI o o'
theorem Dx(p:Pl):¬Dy p p:=by unfold Dy;lia
theorem Mh{o o':Option Pl}(h:WI o o'):o≠o':=by
 rintro rfl;cases o with
 | none=>exact h
 | some p=>exact Dx p h
section
variable {rows:Rows}{C:Nat}{sm:Bool}{xs:List GO}
theorem yN(cs:List GO)(g:G)(k:Nat):(br rows C cs g k).Pairwise Dy:=(w? rows C g).filter _
theorem Ag{cs:List GO}{g:G}{k:Nat}(hk:cs[k]?=some (g,none)):(gD rows C sm g k cs).Pairwise KY:=by
 have hl:k < cs.length:=(List.getElem?_eq_some_iff.mp hk).1;have at_:∀p:Pl,(cs.set k (g,some p))[k]?=some (g,some p):=λ p=>by rw[List.getElem?_set,if_pos rfl,if_pos hl]
 have off:∀(p:Pl)(j:Nat),j < k->(cs.set k (g,some p))[j]?=cs[j]?:=λ p j hj=>by rw[List.getElem?_set,if_neg (by lia)]
 unfold gD;refine List.pairwise_append.mpr ⟨?_,?_,?_⟩
 ·rw[List.pairwise_map];exact(yN cs g k).imp λ {p q} h=>⟨k,g,some p,some q,λ j hj=>by rw[off p j hj,off q j hj],at_ p,at_ q,h⟩
 ·cases sm<;>simp
 ·intro a ha b hb;obtain⟨p,_,rfl⟩:=List.mem_map.mp ha;cases sm with
  | false=>simp at hb
  | true =>
   have:b=cs:=by simpa using hb
   subst this;exact⟨k,g,some p,none,λ j hj=>off p j hj,at_ p,hk,trivial⟩
theorem step_at{cs y:List GO}{g:G}{k:Nat}(h:y∈gD rows C sm g k cs)(j:Nat)(hj:j≠k):y[j]?=cs[j]?:=by
 rcases List.mem_append.mp h with h | h
 ·obtain⟨p,_,rfl⟩:=List.mem_map.mp h;rw[List.getElem?_set,if_neg (Ne.symm hj)]
 ·cases sm with
  | false=>simp at h
  | true =>
   have:y=cs:=by simpa using h
   rw[this]
theorem nK(hk : Good rows xs): ∀{j : Nat}, j ≤ xs.length -> (bT rows C sm xs j).Pairwise KY
 | 0,_=>by simp[bT]
 | j + 1, hj => by
  have ih:=nK hk (j:=j) (by lia);have hi:=iJ (C:=C) (sm:=sm) hk (j:=j) (by lia);obtain⟨⟨g,o⟩,e⟩:∃x,xs[j]?=some x:=⟨_,List.getElem?_eq_getElem (by lia)⟩
  cases o with
  | some p=>rw[ij e];exact ih
  | none =>
   rw[ik e];refine List.pairwise_flatMap.mpr ⟨λ a ha=>Ag (((hi a ha).rest j (Nat.le_refl _)).trans e),List.Pairwise.imp_of_mem ?_ ih⟩;rintro a b ha hb ⟨i,g',o,o',h1,h2,h3,h4⟩ x hx y hy;have K9:i < j:=by refine Nat.lt_of_not_le λ z=>?_;have e1:=(hi a ha).rest i z;have e2:=(hi b hb).rest i z;rw[h2]at e1;rw[h3,<-e1]at e2;exact Mh h4 (Prod.mk.inj (Option.some.inj e2)).2.symm
   refine⟨i,g',o,o',λ m hm=>?_,?_,?_,h4⟩
   ·rw[step_at hx m (by lia),step_at hy m (by lia)];exact h1 m hm
   ·rw[step_at hx i (by lia)];exact h2
   ·rw[step_at hy i (by lia)];exact h3
end
open Classical in
noncomputable def jv(le:Bool):List Pl->List Pl->Bool
 | [],[]=>le
 | [],_ :: _=>true
 | _ :: _,[]=>false
 | p :: ps,q :: qs=>if p=q then jv le ps qs else decide (Dy p q)
def kP(z:List GO):List Pl:=z.filterMap (·.2)
def Full(z:List GO):Prop:=∀(i:Nat)(g:G),z[i]?≠some (g,none)
theorem zb{x:GO}{z:List GO}(h:Full (x :: z)):(∃p,x.2=some p)∧Full z:=by
 refine⟨?_,λ i g e=>h (i+1) g (by simpa using e)⟩;obtain⟨g,o⟩:=x;cases o with
 | none=>exact absurd rfl (h 0 g)
 | some p=>exact⟨p,rfl⟩
theorem yK:∀{z:List GO},Full z->ay z=.tup ((kP z).map aK)∧(kP z).length=z.length
 | [],_=>⟨rfl,rfl⟩
 | (g,o) :: z,h=>by
  obtain⟨⟨p,e⟩,hz⟩:=zb h;cases e;obtain⟨e1,e2⟩:=yK hz;unfold ay at e1 ⊢;injection e1 with e1
  refine⟨?_,by simp[kP]at e2 ⊢;exact e2⟩;rw[List.map_cons,e1];simp[kP,cC]
theorem Ho(p q:Pl):dC 5 (aK p) (aK q)=some (decide (p=q)):=by obtain⟨a,b⟩:=p;obtain⟨c,d⟩:=q;show allEq (dC 4) [.int a,.int b] [.int c,.int d]=_;simp only[allEq,dC,FA];by_cases h1:a=c<;>by_cases h2:b=d<;>simp[h1,h2]
open Classical in
theorem Na(le:Bool){p q:Pl}(h:p≠q):k3 le 5 (aK p) (aK q)=some (decide (Dy p q)):=by
 obtain⟨a,b⟩:=p;obtain⟨c,d⟩:=q;show(match allEq (dC 4) [.int a,.int b] [.int c,.int d]with | some _=>zI le (dC 4) (k3 le 4) [.int a,.int b] [.int c,.int d] | none=>none)=_;have ea:allEq (dC 4) [.int a,.int b] [.int c,.int d]=some ((a==c)&&((b==d)&&true)):=by simp[allEq,dC,FA]
 rw[ea];simp only[zI,dC,FA,k3];by_cases h1:a=c
 ·subst h1;have h2:b≠d:=λ z=>h (by rw[z]);have EZ:(b==d)=false:=by simpa using h2
  simp[EZ,Dy];cases le<;>simp<;>lia
 ·have G_:(a==c)=false:=by simpa using h1
  simp[G_,Dy,h1];cases le<;>simp<;>lia
theorem HF:∀ps qs:List Pl,∃k,allEq (dC 5) (ps.map aK) (qs.map aK)=some k
 | [],[]=>⟨_,rfl⟩
 | [],_ :: _=>⟨_,rfl⟩
 | _ :: _,[]=>⟨_,rfl⟩
 | p :: ps,q :: qs=>by obtain⟨k,e⟩:=HF ps qs;exact⟨decide (p=q)&&k,by simp only[List.map_cons,allEq,Ho,e]⟩
theorem DX(le:Bool):∀ps qs:List Pl,zI le (dC 5) (k3 le 5) (ps.map aK) (qs.map aK)=some (jv le ps qs)
 | [],[]=>rfl
 | [],_ :: _=>rfl
 | _ :: _,[]=>rfl
 | p :: ps,q :: qs=>by
  simp only[List.map_cons,zI,Ho];by_cases h:p=q
  ·simp only[h,decide_true,jv,if_true];exact DX le ps qs
  ·simp only[h,decide_false,jv,if_false];exact Na le h
theorem Kk(le:Bool)(ps qs:List Pl):k3 le 6 (.tup (ps.map aK)) (.tup (qs.map aK))=some (jv le ps qs):=by obtain⟨k,e⟩:=HF ps qs;show(match allEq (dC 5) (ps.map aK) (qs.map aK)with | some _=>zI le (dC 5) (k3 le 5) (ps.map aK) (qs.map aK) | none=>none)=_;rw[e];exact DX le ps qs
theorem uT(le:Bool):∀{a b:List GO},Full a->Full b->KY a b->jv le (kP a) (kP b)=true∧jv le (kP b) (kP a)=false
 | [],b,_,_,⟨i,g,o,o',_,h,_⟩=>by simp at h
 | _ :: _,[],_,_,⟨i,g,o,o',_,_,h,_⟩=>by simp at h
 | (ga,oa) :: a,(gb,ob) :: b,fa,fb,⟨i,g,o,o',h1,h2,h3,h4⟩=>by
  obtain⟨⟨p,e1⟩,ZE⟩:=zb fa;obtain⟨⟨q,e2⟩,VB⟩:=zb fb;cases e1;cases e2;have ea:kP ((ga,some p) :: a)=p :: kP a:=by simp[kP]
  have eb:kP ((gb,some q) :: b)=q :: kP b:=by simp[kP]
  rw[ea,eb];cases i with
  | zero =>
   simp at h2 h3;obtain⟨rfl,rfl⟩:=h2;obtain⟨_,rfl⟩:=h3;have UN:Dy p q:=h4;have ne:p≠q:=λ z=>Dx q (z▸UN);have nq:¬Dy q p:=by unfold Dy at UN ⊢;lia
   simp[jv,ne,Ne.symm ne,UN,nq]
  | succ i =>have h0:=h1 0 (Nat.succ_pos _);simp at h0;obtain⟨rfl,rfl⟩:=h0;obtain⟨r1,r2⟩:=uT le ZE VB ⟨i,g,o,o',λ j hj=>by simpa using h1 (j+1) (by lia),by simpa using h2,by simpa using h3,h4⟩;simp only[jv,if_true];exact⟨r1,r2⟩
theorem x9{b:List GO}:∀{r:List (List GO)},Full b->(∀z∈r,Full z∧KY b z)->y_ (ay b) (r.map ay)=.ok (ay b)
 | [],_,_=>rfl
 | z :: r,fb,h=>by
  obtain⟨fz,lt⟩:=h z List.mem_cons_self;have e:k3 false 6 (ay z) (ay b)=some false:=by rw[(yK fz).1,(yK fb).1,Kk,(uT false fb fz lt).2]
  rw[List.map_cons];unfold y_;rw[e];exact x9 fb λ y hy=>h y (List.mem_cons_of_mem _ hy)
theorem Me{b:List GO}{r:List (List GO)}(fb:Full b)(h:∀z∈r,Full z∧KY b z):xR (.lst ((b :: r).map ay))=.ok (ay b):=by show y_ (ay b) (r.map ay)=_;exact x9 fb h
theorem zc{rows:Rows}{xs z:List GO}(h:BE rows false xs xs.length z):Full z:=λ i g e=>by have hl:i < z.length:=(List.getElem?_eq_some_iff.mp e).1;rw[Ci h.gs]at hl;exact h.full rfl i g hl e
end KB
namespace KB
open Z KG
open KH
theorem Jv{a b:List GO}(fa:Full a)(fb:Full b)(h1:KY a b)(h2:KY b a):False:=by have e1:=(uT false fa fb h1).1;have e2:=(uT false fb fa h2).2;rw[e1]at e2;cases e2
structure Best(rows:Rows)(C:Nat)(xs m:List GO):Prop where
 ext:Ext xs m
 good:Good rows m
 full:Full m
 most:∀z,Ext xs z->Good rows z->Full z->wS z≤wS m∧(wS z=wS m->z=m∨KY m z)
end KB
set_option maxRecDepth 4000
noncomputable section
namespace KC
open Z KG KH KB
def mS:SF:=(a_ (wA (eU (t? .int) (eW 0)) (J? (eU (t? .bool) (eW 0)))))
def kW:List D->Res D:=fn 1 1 mS
theorem Bn(x0:D):kW [x0]=bJ (mS [some (.val x0)]):=cg _ _ _ _ rfl
def cY:SF:=(a_ (wA (aw kW (aa (eV 0) ax)) (mC oLe oLe (eW 1) (eW 0) (eW 2))))
def ee:List D->Res D:=fn 3 3 cY
theorem qd(x0 x1 x2:D):ee [x0,x1,x2]=bJ (cY [some (.val x0),some (.val x1),some (.val x2)]):=cg _ _ _ _ rfl
def fm:SF:=(aB (aM 3 (aw KB.da (aa (eV 0) (aa (eV 1) (aa (aw KB.dX (aa (eV 0) (aa (eV 1) (aa (eV 2) ax)))) (aa (eC (.bl false)) ax)))))) (a_ (M6 (tE (eB z7 (eU cM (eW 3)) (eC (.int 0)))) (eB bc (eW 3) (eC (.int 0))) (eC .non))))
def cZ:List D->Res D:=fn 3 4 fm
theorem uH(x0 x1 x2:D):cZ [x0,x1,x2]=bJ (fm [some (.val x0),some (.val x1),some (.val x2),none]):=cg _ _ _ _ rfl
def jE:SF:=(a_ (eL (cf (eY (eW 1)) 1 [0] (bA 0) dR (aw KG.fx (aa (eV 1) (aa (eV 0) ax))))))
def dO:List D->Res D:=fn 2 2 jE
theorem xC(x0 x1:D):dO [x0,x1]=bJ (jE [some (.val x0),some (.val x1)]):=cg _ _ _ _ rfl
def mK:SF:=(a_ (aw KH.eO (aa (eB bc (eW 1) (eW 3)) (aa (eB bc (eW 0) (eW 3)) (aa (aw KG.cA (aa (eV 0) (aa (eV 2) ax))) ax)))))
def bZ:List D->Res D:=fn 4 4 mK
theorem Bc(x0 x1 x2 x3:D):bZ [x0,x1,x2,x3]=bJ (mK [some (.val x0),some (.val x1),some (.val x2),some (.val x3)]):=cg _ _ _ _ rfl
def eE:SF:=(a_ (wA (aw ee (aa (eV 1) (aa (eC (.int 0)) (aa (eB AN (eU cM (eW 0)) (eC (.int 1))) ax)))) (eU ly (eB bc (eW 0) (eW 1)))))
def fU:List D->Res D:=fn 2 2 eE
theorem xA(x0 x1:D):fU [x0,x1]=bJ (eE [some (.val x0),some (.val x1)]):=cg _ _ _ _ rfl
def c!:SF:=(aB (gi (yv (nA (tE (eU (t? .tuple) (eW 0)))) (tE (eB qH (eU cM (eW 0)) (eW 2)))) (a_ (eC (.bl false))) bF) (a_ (wA (eU (t? .str) (eB bc (eW 0) (eC (.int 0)))) (eB oEq (eB bc (eW 0) (eC (.int 0))) (eW 1)))))
def cB:List D->Res D:=fn 3 3 c!
theorem wx(x0 x1 x2:D):cB [x0,x1,x2]=bJ (c! [some (.val x0),some (.val x1),some (.val x2)]):=cg _ _ _ _ rfl
def jK:SF:=(a_ (wA (aw cB (aa (eV 0) (aa (eC (.str [101,97,99,104])) (aa (eC (.int 3)) ax)))) (eU (t? .tuple) (eB bc (eW 0) (eC (.int 2))))))
def iA:List D->Res D:=fn 1 1 jK
theorem CH(x0:D):iA [x0]=bJ (jK [some (.val x0)]):=cg _ _ _ _ rfl
def bq(self:List D->Res D):SF:=(aB (gi (l6 (nA (tE (aw cB (aa (eV 3) (aa (eC (.str [115,116,117,99,107])) (aa (eC (.int 2)) ax)))))) (nA (tE (aw iA (aa (eV 3) ax))))) (a_ (eC (.bl false))) bF) (aB (gi (nA (tE (aw fU (aa (eV 2) (aa (eB bc (eW 3) (eC (.int 1))) ax))))) (a_ (eC (.bl false))) bF) (aB (aM 4 (eB bc (eW 3) (eC (.int 1)))) (aB (aM 5 (aw bZ (aa (eV 0) (aa (eV 1) (aa (eV 2) (aa (eV 4) ax)))))) (aB (aM 6 (M6 (tE (aw iA (aa (eV 3) ax))) (eB bc (eW 3) (eC (.int 2))) (fM ax))) (aB (gi (tE (eB qH (eU cM (eW 6)) (eU cM (eW 5)))) (a_ (eC (.bl false))) bF) (aB (fN (A5 (eV 5) (eV 6)) (ka [7,8]) (gi (nA (tE (aw self (aa (eV 0) (aa (eV 1) (aa (aw KH.cx (aa (eV 2) (aa (eV 4) (aa (eV 7) ax)))) (aa (eV 8) ax))))))) (a_ (eC (.bl false))) bF)) (a_ (eC (.bl true))))))))))
def b0:Nat->List D->Res D
 | 0=>λ _=>.bad
 | k+1=>fn 4 9 (bq (b0 k))
theorem rE(k:Nat)(x0 x1 x2 x3:D):b0 (k+1) [x0,x1,x2,x3]=bJ (bq (b0 k) [some (.val x0),some (.val x1),some (.val x2),some (.val x3),none,none,none,none,none]):=cg _ _ _ _ rfl
def o5:SF:=(aB (aM 4 (aw KB.aN (aa (eV 0) (aa (eV 1) (aa (eV 3) ax))))) (a_ (aw (b0 9) (aa (eV 1) (aa (aw dO (aa (eV 0) (aa (eV 1) ax))) (aa (eV 4) (aa (eV 2) ax)))))))
def mB:List D->Res D:=fn 4 5 o5
theorem CC(x0 x1 x2 x3:D):mB [x0,x1,x2,x3]=bJ (o5 [some (.val x0),some (.val x1),some (.val x2),some (.val x3),none]):=cg _ _ _ _ rfl
def fi(self:List D->Res D):SF:=(aB (aM 3 (eL (cf (eZ (eU cM (eW 0))) 1 [2] (bA 0) (tE (eU ly (eB bc (eW 1) (eW 0)))) (eV 0)))) (aB (aM 4 (zm false .bad (eW 3) [0,1,2] (eU cM (aw bZ (aa (eV 1) (aa (eV 2) (aa (eV 3) (aa (eV 0) ax)))))))) (aB (aM 5 (aw bZ (aa (eV 0) (aa (eV 1) (aa (eV 2) (aa (eV 4) ax)))))) (aB (gi (tE (eB oEq (eW 5) (fM ax))) (a_ (fM (aa (eC (.str [115,116,117,99,107])) (aa (eV 4) ax)))) bF) (aB (aM 6 (eL (cf (eY (eW 5)) 1 [0,1,2,4] (bA 0) dR (aw self (aa (eV 1) (aa (eV 2) (aa (aw KH.cx (aa (eV 3) (aa (eV 4) (aa (eV 0) ax)))) ax))))))) (a_ (fM (aa (eC (.str [101,97,99,104])) (aa (eV 4) (aa (eU dM (eW 6)) ax))))))))))
def bG:Nat->List D->Res D
 | 0=>λ _=>.bad
 | k+1=>fn 3 7 (fi (bG k))
theorem nu(k:Nat)(x0 x1 x2:D):bG (k+1) [x0,x1,x2]=bJ (fi (bG k) [some (.val x0),some (.val x1),some (.val x2),none,none,none,none]):=cg _ _ _ _ rfl
def kA:SF:=(aB (gi (tE (eU eH (aw cZ (aa (eV 0) (aa (eV 1) (aa (eV 2) ax)))))) (a_ (eC .non)) bF) (a_ (aw (bG 9) (aa (eV 1) (aa (aw dO (aa (eV 0) (aa (eV 1) ax))) (aa (aw KB.aN (aa (eV 0) (aa (eV 1) (aa (eV 2) ax)))) ax))))))
def gq:List D->Res D:=fn 3 3 kA
theorem uj(x0 x1 x2:D):gq [x0,x1,x2]=bJ (kA [some (.val x0),some (.val x1),some (.val x2)]):=cg _ _ _ _ rfl
end KC
end
set_option maxRecDepth 8000
namespace KC
open Z KG KB
open KH
def k?:List Nat:=[115,116,117,99,107]
def ko:List Nat:=[101,97,99,104]
def isStr(d:D)(w:List Nat):Bool:=match d with
 | .str t=>t==w
 | _=>false
def ia(xs:List GO)(d:D):Bool:=match d with
 | .int i=>decide (0≤i)&&(decide (i < xs.length)&&match xs[i.toNat]? with
  | some (_,none)=>true
  | _=>false)
 | _=>false
theorem u6{xs:List GO}{d:D}(h:ia xs d=true):∃(k:Nat)(g:G),d=.int (k:Nat)∧xs[k]?=some (g,none):=by
 cases d with
 | int i =>
  simp only[ia,Bool.and_eq_true,decide_eq_true_eq]at h;obtain⟨h0,h1,h2⟩:=h;refine⟨i.toNat,?_⟩;split at h2
  ·rename_i g e;exact⟨g,by congr 1;lia,e⟩
  ·cases h2
 | _=>cases h
theorem Aa{xs:List GO}{k:Nat}{g:G}(h:xs[k]?=some (g,none)):ia xs (.int (k:Nat))=true:=by
 have hl:k < xs.length:=(List.getElem?_eq_some_iff.mp h).1;have Sy:(k:Int) < xs.length:=by lia
 simp only[ia,Int.toNat_natCast,h];simp[Sy]
theorem p_(d:D):kW [d]=.ok (.bl (match d with | .int _=>true | _=>false)):=by rw[Bn];refine aQ ?_;cases d<;>simp[mS,nC]
theorem oN(d:D)(a b:Int):ee [d,.int a,.int b]=.ok (.bl (match d with | .int i=>decide (a≤i)&&decide (i≤b) | _=>false)):=by
 rw[qd];refine aQ ?_;cases d with
 | int i =>
  by_cases h:a≤i
  ·simp[cY,p_,h]
  ·simp[cY,p_,h]
 | _=>simp[cY,p_]
theorem jL{xs : List GO}(d : D): fU [ay xs, d] = .ok (.bl (ia xs d)) := by
 rw[xA];refine aQ ?_;have hl:cM (ay xs)=.ok (.int xs.length):=by simp[ay]
 cases d with
 | int i =>
  by_cases h0:0≤i
  ·by_cases h1:i < xs.length
   ·have G_:i≤(xs.length:Int)-1:=by lia
    have hk:i.toNat < xs.length:=by lia
    have ix:bc (ay xs) (.int i)=.ok (cC (xs[i.toNat]).2):=(eJ (xs:=xs.map λ y:GO=>cC y.2) (i:=i) (j:=i.toNat) (by lia) (by rw[List.getElem?_map,List.getElem?_eq_getElem hk];rfl)).1;have e:ia xs (.int i)=(xs[i.toNat]).2.isNone:=by simp only[ia,h0,h1,decide_true,Bool.true_and,List.getElem?_eq_getElem hk];generalize xs[i.toNat]=y;obtain⟨g,o⟩:=y;cases o<;>rfl
    rw[e];simp[eE,hl,oN,h0,G_,ix]
   ·have G_:¬i≤(xs.length:Int)-1:=by lia
    simp[eE,hl,oN,h0,G_,h1,ia]
  ·simp[eE,hl,oN,h0,ia]
 | _=>simp[eE,hl,oN,ia]
def lC(d:D)(w:List Nat)(n:Nat):Bool:=match d with
 | .tup (a :: r)=>(r.length+1==n)&&isStr a w
 | _=>false
theorem sQ(d : D)(w : List Nat){n : Nat}(hn : 1 ≤ n): cB [d, .str w, .int (n : Nat)] = .ok (.bl (lC d w n)) := by
 rw[wx];refine aQ ?_;cases d with
 | tup xs =>
  cases xs with
  | nil =>
   have:¬(0:Int)=(n:Int):=by lia
   simp[c!,nC,lC,this]
  | cons a r =>
   have i0:bc (.tup (a :: r)) (.int 0)=.ok a:=(eJ (xs:=a :: r) (i:=0) (j:=0) rfl rfl).1;by_cases h:r.length+1=n
   ·have h':(r.length:Int)+1=(n:Int):=by lia
    cases a with
    | str t=>simp[c!,nC,lC,h',h,i0,isStr]
    | _=>simp[c!,nC,lC,h',h,i0,isStr]
   ·have h':¬(r.length:Int)+1=(n:Int):=by lia
    simp[c!,nC,lC,h',h]
 | _=>simp[c!,nC,lC]
def kX(d:D):Bool:=match d with
 | .tup [a,_,.tup _]=>isStr a ko
 | _=>false
theorem DU(d : D): iA [d] = .ok (.bl (kX d)) := by
 rw[CH];refine aQ ?_;have bo:=sQ d ko (n:=3) (by decide);have Q0:cB [d,.str [101,97,99,104],.int 3]=.ok (.bl (lC d ko 3)):=bo;cases hb:lC d ko 3 with
 | false =>
  rw[hb]at Q0;have:kX d=false:=by
   unfold kX;split
   ·rename_i a _ _;have EX:(((2:Nat)+1==3)&&isStr a ko)=false:=hb;simpa using EX
   ·rfl
  simp[jK,Q0,this]
 | true =>
  rw[hb]at Q0;unfold lC at hb;split at hb
  ·rename_i a r;simp only[Bool.and_eq_true,beq_iff_eq]at hb
   match r,hb with
   | [b,c],⟨_,hs⟩ =>
    have i2:bc (.tup [a,b,c]) (.int 2)=.ok c:=rfl;cases c with
    | tup ps=>simp[jK,Q0,i2,nC,kX,hs]
    | _=>simp[jK,Q0,i2,nC,kX]
  ·cases hb
def gB(f:Pl->D->Bool):List Pl->List D->Bool
 | p :: ps,d :: ds=>f p d&&gB f ps ds
 | _,_=>true
def fP(rows:Rows)(C:Nat):Nat->List GO->D->Bool
 | 0,_,_=>false
 | n+1,xs,d=>match d with
  | .tup [a,.int i]=>isStr a k?&&(ia xs (.int i)&&match xs[i.toNat]? with
   | some (g,_)=>(br rows C xs g i.toNat).isEmpty
   | none=>false)
  | .tup [a,.int i,.tup ps]=>isStr a ko&&(ia xs (.int i)&&match xs[i.toNat]? with
   | some (g,_)=>(ps.length==(br rows C xs g i.toNat).length)&&gB (λ p e=>fP rows C n (xs.set i.toNat (g,some p)) e) (br rows C xs g i.toNat) ps
   | none=>false)
  | _=>false
def bx(rows:Rows)(C:Nat)(xs:List GO):D:=.lst (xs.map λ x=>.tup ((places rows C x.1).map aK))
theorem jM{rows:Rows}{C:Nat}(H:Hall rows C){xs:List GO}(h6:xs.length≤6){k:Nat}{g:G}(hk:xs[k]?=some (g,none)):bZ [aF xs,bx rows C xs,ay xs,.int (k:Nat)]=.ok (.tup ((br rows C xs g k).map aK)):=by
 rw[Bc];refine aQ ?_;have hl:k < xs.length:=(List.getElem?_eq_some_iff.mp hk).1;have i1:bc (bx rows C xs) (.int (k:Nat))=.ok (.tup ((places rows C g).map aK)):=(eJ (xs:=xs.map λ y:GO=>D.tup ((places rows C y.1).map aK)) (i:=(k:Nat)) (j:=k) rfl (by rw[List.getElem?_map,hk];rfl)).2;have i2:bc (aF xs) (.int (k:Nat))=.ok (bB g):=(eJ (xs:=xs.map λ y:GO=>bB y.1) (i:=(k:Nat)) (j:=k) rfl (by rw[List.getElem?_map,hk];rfl)).1;have ht:=qL (xs:=xs) (by lia);rw[show D.tup (xs.map λ x=>bB x.1)=aF xs from rfl,show D.tup (xs.map λ x=>cC x.2)=ay xs from rfl]at ht;have Sv:=oP xs;have ho:=pA (places rows C g) g (ss:=nI xs) (places_len H g) (by lia);have MC:xs.set k (g,none)=xs:=by have:xs[k]=(g,none):=(List.getElem?_eq_some_iff.mp hk).2;rw[<-this];exact List.set_getElem_self hl
 have he:(places rows C g).filter (λ p=>(nI xs).all λ x=>cT g p x.1 x.2)=br rows C xs g k:=by unfold br;refine List.filter_congr λ p _=>?_;have:=Ai (g:=g) hk p;simp only at this;rw[MC]at this;exact this
 rw[he]at ho;simp[mK,i1,i2,ht,ho]
def nN(xs:List GO):Nat:=xs.countP λ x=>x.2.isNone
theorem Ce:∀{xs:List GO}{k:Nat}{g:G}(p:Pl),xs[k]?=some (g,none)->nN (xs.set k (g,some p))+1=nN xs
 | [],_,_,_,h=>by simp at h
 | (h,o) :: xs,0,g,p,e=>by simp at e;obtain⟨rfl,rfl⟩:=e;simp[nN]
 | (h,o) :: xs,k+1,g,p,e=>by have:=Ce (xs:=xs) (k:=k) p (by simpa using e);simp only[nN,List.set_cons_succ,List.countP_cons]at this ⊢;lia
theorem Ik(ps : List Pl)(ds : List D): ∀{j : Nat}{d : D}, (e_ (ps.map aK) ds)[j]? = some d -> ∃p e, ps[j]? = some p ∧ ds[j]? = some e ∧ d = .tup [aK p, e] := by
 induction ps generalizing ds with
 | nil=>intro j d h;cases ds<;>simp[e_]at h
 | cons p ps ih =>
  intro j d h;cases ds with
  | nil=>simp[e_]at h
  | cons e ds =>
   cases j with
   | zero=>simp[e_]at h;exact⟨p,e,rfl,rfl,h.symm⟩
   | succ j =>
    have h':(e_ (ps.map aK) ds)[j]?=some d:=by simpa[e_]using h
    obtain⟨p',e',h1,h2,h3⟩:=ih ds h';exact⟨p',e',by simpa using h1,by simpa using h2,h3⟩
theorem qI{f:Pl->D->Bool}:∀{ps:List Pl}{ds:List D}{j:Nat}{p:Pl}{e:D},ps[j]?=some p->ds[j]?=some e->f p e=false->gB f ps ds=false
 | [],_,_,_,_,h,_,_=>by simp at h
 | _ :: _,[],_,_,_,_,h,_=>by simp at h
 | p :: ps,d :: ds,0,_,_,h1,h2,h3=>by simp at h1 h2;subst h1;subst h2;simp[gB,h3]
 | p :: ps,d :: ds,j+1,_,_,h1,h2,h3=>by have:=qI (ps:=ps) (ds:=ds) (j:=j) (by simpa using h1) (by simpa using h2) h3;simp[gB,this]
theorem kL{f:Pl->D->Bool}:∀{ps:List Pl}{ds:List D},(∀(j:Nat)(p:Pl)(e:D),ps[j]?=some p->ds[j]?=some e->f p e=true)->gB f ps ds=true
 | [],ds,_=>by cases ds<;>rfl
 | p :: ps,[],_=>rfl
 | p :: ps,d :: ds,h=>by simp only[gB,h 0 p d rfl rfl,Bool.true_and];exact kL λ j p' e' h1 h2=>h (j+1) p' e' (by simpa using h1) (by simpa using h2)
theorem z9(as bs:List D):(e_ as bs).length=min as.length bs.length:=by
 induction as generalizing bs with
 | nil=>cases bs<;>simp[e_]
 | cons a as ih=>cases bs with
  | nil=>simp[e_]
  | cons b bs=>simp[e_,ih]
theorem C4{f : Pl -> D -> Bool}{ps : List Pl}{ds : List D}{b : SF}{i j : Nat}{I : Env -> Prop}{ρ : Env}(hI : I ρ)
  (hs:∀ρ p e,I ρ->(∃n:Nat,ps[n]?=some p∧ds[n]?=some e)->Ok (b ((ρ.set i (v (aK p))).set j (v e))) λ fl=>(f p e=true->∃ρ',fl=.nx ρ'∧I ρ')∧(f p e=false->fl=.rt (.bl false)))
  {Q:Fl->Prop}(hf:gB f ps ds=false->Q (.rt (.bl false))) (ht:gB f ps ds=true->∀ρ,I ρ->Q (.nx ρ)):Ok (jr (ka [i,j]) b (e_ (ps.map aK) ds) ρ) Q:=by
 refine cR (λ n ρ=>I ρ∧∀m p e,m < n->ps[m]?=some p->ds[m]?=some e->f p e=true) ⟨hI,λ m p e h=>absurd h (Nat.not_lt_zero _)⟩ ?_ ?_
 ·rintro n d ρ hn ⟨hI,hold⟩;obtain⟨p,e,h1,h2,rfl⟩:=Ik ps ds hn;rw[Qr];simp only[Li];refine(hs ρ p e hI ⟨n,h1,h2⟩).imp λ fl ⟨k1,k2⟩=>?_;cases SG:f p e with
  | true =>
   obtain⟨ρ',rfl,Zr⟩:=k1 SG;refine⟨Zr,λ m p' e' hm G_ EZ=>?_⟩;by_cases h:m < n
   ·exact hold m p' e' h G_ EZ
   ·have:m=n:=by lia
    subst this;rw[h1]at G_;cases G_;rw[h2]at EZ;cases EZ;exact SG
  | false =>rw[k2 SG];exact hf (qI h1 h2 SG)
 ·rintro ρ ⟨hI,hold⟩;refine ht (kL λ m p e h1 h2=>hold m p e ?_ h1 h2) ρ hI;rw[z9,List.length_map];have a:=(List.getElem?_eq_some_iff.mp h1).1;have b:=(List.getElem?_eq_some_iff.mp h2).1;lia
def BF:Nat->D->Prop
 | 0,_=>True
 | n+1,d=>(∃xs,d=.lst xs)∨(∃w,d=.tup [.str w])∨(∃w b,d=.tup [.str w,b])∨∃w b c,d=.tup [.str w,b,c]∧∀ps,c=.tup ps->ps.length≤100000∧∀p∈ps,BF n p
theorem kQ{rows:Rows}{C:Nat}{xs:List GO}{k:Nat}{x:GO}(h:xs[k]?=some x)(o:Option Pl):bx rows C (xs.set k (x.1,o))=bx rows C xs:=by
 have hl:k < xs.length:=(List.getElem?_eq_some_iff.mp h).1;have e:xs[k]=x:=(List.getElem?_eq_some_iff.mp h).2;unfold bx;rw[List.map_set]
 congr 1
 refine List.ext_getElem (by simp) λ i h1 h2=>?_;rw[List.getElem_set];split
 ·rename_i q;subst q;simp[e]
 ·rfl
theorem xQ{rows:Rows}{C n:Nat}{xs:List GO}{w:List Nat}{b:D}(h:ia xs b=false):fP rows C (n+1) xs (.tup [.str w,b])=false∧∀c,fP rows C (n+1) xs (.tup [.str w,b,c])=false:=by
 cases b with
 | int i =>refine⟨by simp[fP,h],λ c=>?_⟩;cases c<;>simp[fP,h]
 | _=>exact⟨by simp[fP],λ c=>by cases c<;>simp[fP]⟩
theorem Jy {rows : Rows} {C : Nat} (H : Hall rows C) : ∀ (n : Nat) (xs : List GO) (d : D), xs.length ≤ 6 -> nN xs < n -> BF n d ->
  b0 n [aF xs,bx rows C xs,ay xs,d]=.ok (.bl (fP rows C n xs d)):=by
 intro n
 induction n with
 | zero=>intro xs d _ h;lia
 | succ n ih =>
  intro xs d h6 hn hp;rw[rE];refine aQ ?_;have bs:=sQ d k? (n:=2) (by decide);have oZ:cB [d,.str [115,116,117,99,107],.int 2]=.ok (.bl (lC d k? 2)):=bs;have be:=DU d;rcases hp with⟨zs,rfl⟩ | ⟨w,rfl⟩ | ⟨w,b,rfl⟩ | ⟨w,b,c,rfl,hc⟩
  ·have e1:lC (.lst zs) k? 2=false:=rfl;have e2:kX (.lst zs)=false:=rfl;rw[e1]at oZ;rw[e2]at be;simp[bq,oZ,be,fP]
  ·have e1:lC (.tup [.str w]) k? 2=false:=rfl;have e2:kX (.tup [.str w])=false:=rfl;rw[e1]at oZ;rw[e2]at be;simp[bq,oZ,be,fP]
  ·have e1:lC (.tup [.str w,b]) k? 2=(w==k?):=rfl;have e2:kX (.tup [.str w,b])=false:=rfl;have i1:bc (.tup [.str w,b]) (.int 1)=.ok b:=rfl;rw[e1]at oZ;rw[e2]at be;cases hw:(w==k?)with
   | false =>
    rw[hw]at oZ;have:fP rows C (n+1) xs (.tup [.str w,b])=false:=by
     cases b with
     | int i=>simp[fP,isStr,hw]
     | _=>simp[fP]
    simp[bq,oZ,be,this]
   | true =>
    rw[hw]at oZ;cases A6:ia xs b with
    | false =>have wo:=jL (xs:=xs) b;rw[A6]at wo;simp[bq,oZ,be,i1,wo,(xQ (rows:=rows) (C:=C) (n:=n) (w:=w) A6).1]
    | true =>
     have wo:=jL (xs:=xs) b;rw[A6]at wo;obtain⟨k,g,rfl,hk⟩:=u6 A6;have so:=jM H h6 hk;have P5:fP rows C (n+1) xs (.tup [.str w,.int (k:Nat)])=(br rows C xs g k).isEmpty:=by simp[fP,isStr,hw,A6,hk]
     rw[P5];cases ho:br rows C xs g k with
     | nil =>rw[ho]at so;simp[bq,oZ,be,i1,wo,so,line,e_,jr]
     | cons p0 ps =>
      rw[ho]at so;have:¬(0:Int)=(ps.length:Int)+1:=by lia
      simp[bq,oZ,be,i1,wo,so,line,this]
  ·have e1:lC (.tup [.str w,b,c]) k? 2=false:=rfl;have i1:bc (.tup [.str w,b,c]) (.int 1)=.ok b:=rfl;have i2:bc (.tup [.str w,b,c]) (.int 2)=.ok c:=rfl;rw[e1]at oZ;cases he:kX (.tup [.str w,b,c])with
   | false =>
    rw[he]at be;have:fP rows C (n+1) xs (.tup [.str w,b,c])=false:=by
     cases c with
     | tup ps =>
      have hw:(w==ko)=false:=he;cases b with
      | int i=>simp[fP,isStr,hw]
      | _=>simp[fP]
     | _=>cases b<;>simp[fP]
    simp[bq,oZ,be,this]
   | true =>
    rw[he]at be;obtain⟨ps,rfl⟩:∃ps,c=.tup ps:=by
     cases c with
     | tup ps=>exact⟨ps,rfl⟩
     | _=>cases he
    have hw:(w==ko)=true:=he;cases A6:ia xs b with
    | false =>have wo:=jL (xs:=xs) b;rw[A6]at wo;simp[bq,oZ,be,i1,wo,(xQ (rows:=rows) (C:=C) (n:=n) (w:=w) A6).2 (.tup ps)]
    | true =>
     have wo:=jL (xs:=xs) b;rw[A6]at wo;obtain⟨k,g,rfl,hk⟩:=u6 A6;have so:=jM H h6 hk;have P5:fP rows C (n+1) xs (.tup [.str w,.int (k:Nat),.tup ps])=((ps.length==(br rows C xs g k).length)&&gB (λ p e=>fP rows C n (xs.set k (g,some p)) e) (br rows C xs g k) ps):=by simp[fP,isStr,hw,A6,hk]
     rw[P5];have ET:=lO H xs g k;generalize br rows C xs g k=op at so ET;by_cases hlen:ps.length=op.length
     ·have v_:(ps.length:Int)=(op.length:Int):=by lia
      simp[bq,oZ,be,i1,i2,wo,so,line,v_,hlen];refine C4 (f:=λ p e=>fP rows C n (xs.set k (g,some p)) e) (I:=λ ρ=>∃x7 x8,ρ=[v (aF xs),v (bx rows C xs),v (ay xs),v (.tup [.str w,.int (k:Nat),.tup ps]),vi (k:Nat),v (.tup (op.map aK)),v (.tup ps),x7,x8]) ⟨none,none,rfl⟩ ?_ ?_ ?_
      ·rintro ρ p e ⟨x7,x8,rfl⟩ ⟨m,U0,hm2⟩;have G8:BF n e:=(hc ps rfl).2 e (List.mem_of_getElem? hm2);have NO:=Ce p hk;have:=ih (xs.set k (g,some p)) e (by rw[uO];exact h6) (by lia) G8;rw[show aF (xs.set k (g,some p))=aF xs from lU hk (some p),show bx rows C (xs.set k (g,some p))=bx rows C xs from kQ hk (some p)]at this;cases P4:fP rows C n (xs.set k (g,some p)) e with
       | true =>rw[P4]at this;simp[(iQ h6 hk p).1,this]
       | false =>rw[P4]at this;simp[(iQ h6 hk p).1,this]
      ·intro h;simp[h]
      ·rintro h ρ ⟨x7,x8,rfl⟩;simp[h]
     ·have v_:¬(ps.length:Int)=(op.length:Int):=by lia
      simp[bq,oZ,be,i1,i2,wo,so,line,v_,hlen]
theorem iO{rows:Rows}{C:Nat}(H:Hall rows C){xs:List GO}(h6:xs.length≤6)(hg:∀x∈xs,GOk x.1):dO [cu rows,aF xs]=.ok (bx rows C xs):=by
 rw[xC];refine aQ ?_;have hl:xs.length≤16777216:=by lia
 unfold aF;simp[jE,bY,line,cS,b?,hl];refine cE (λ x:GO=>bB x.1) (λ _=>true) (λ x=>.tup ((places rows C x.1).map aK)) ?_ ?_
 ·intro x hx;simp[places_of_ok H (hg x hx)]
 ·rw[ji];rfl
section
variable {rows:Rows}{C:Nat}{xs:List GO}
theorem wq(H:Hall rows C)(h6:xs.length≤6)(hg:∀x∈xs,GOk x.1)(hk:Good rows xs)(hw:fg rows C xs≤2000){fd:D}(ef:aN [cu rows,aF xs,fd]=.ok (ay xs)):
  cZ [cu rows,aF xs,fd]=.ok (match bT rows C false xs xs.length with | []=>.non | z :: _=>ay z):=by
 have fr:=zd (sm:=false) H h6 hg hk hw;have sm:=vd H h6 hg ef hw;rw[uH];refine aQ ?_;cases e:bT rows C false xs xs.length with
 | nil =>rw[e]at fr;simp only[List.map_nil]at fr;simp[fm,sm,fr]
 | cons z r =>
  rw[e]at fr;simp only[List.map_cons]at fr;have i0:bc (.lst (ay z :: r.map ay)) (.int 0)=.ok (ay z):=(eJ (xs:=ay z :: r.map ay) (i:=0) (j:=0) rfl rfl).2;have hl:(0:Int) < (r.length:Int)+1:=by lia
  simp[fm,sm,fr,i0,hl]
def wW(rows:Rows)(xs:List GO):Prop:=∀z,Ext xs z->Good rows z->∃(i:Nat)(g:G),z[i]?=some (g,none)
theorem ED(H:Hall rows C)(hg:∀x∈xs,GOk x.1)(h:bT rows C false xs xs.length=[]):wW rows xs:=by intro z e gz;refine Classical.byContradiction λ hn=>?_;have:=jO (sm:=false) H hg e gz (.inr λ i g q=>hn ⟨i,g,q⟩);rw[h]at this;cases this
theorem DR{cs:List GO}{k:Nat}{g:G}(hk:cs[k]?=some (g,none))(p:Pl):Ext cs (cs.set k (g,some p)):=by
 have hl:k < cs.length:=(List.getElem?_eq_some_iff.mp hk).1;refine⟨?_,λ i g' q hi=>?_⟩
 ·refine List.ext_getElem? λ i=>?_;rw[List.getElem?_map,List.getElem?_map,List.getElem?_set];split
  ·rename_i ei;subst ei;rw[hk];rfl
  ·rfl
 ·rw[List.getElem?_set];split
  ·rename_i ej;subst ej;rw[hk]at hi;cases hi
  ·exact hi
theorem wW.put(h:wW rows xs){k:Nat}{g:G}(hk:xs[k]?=some (g,none))(p:Pl):wW rows (xs.set k (g,some p)):=λ z e gz =>
 have e1:=DR hk p
 h z ⟨e1.gs.trans e.gs,λ i g p q=>e.sub i g p (e1.sub i g p q)⟩ gz
def nF(xs:List GO)(k:Nat):Bool:=match xs[k]? with
 | some (_,none)=>true
 | _=>false
theorem z_{k:Nat}(h:nF xs k=true):∃g,xs[k]?=some (g,none):=by
 unfold nF at h;split at h
 ·rename_i g e;exact⟨g,e⟩
 ·cases h
def opens(rows:Rows)(C:Nat)(xs:List GO)(k:Nat):List Pl:=match xs[k]? with
 | some (g,_)=>br rows C xs g k
 | none=>[]
theorem QF(ps:List Pl):oEq (.tup (ps.map aK)) (.tup [])=.ok (.bl ps.isEmpty):=by cases ps<;>rfl
theorem Gj(H : Hall rows C): ∀(n : Nat)(xs : List GO), xs.length ≤ 6 -> (∀x ∈ xs, GOk x.1) -> nN xs < n -> Good rows xs -> wW rows xs ->
  ∃d,bG n [aF xs,bx rows C xs,ay xs]=.ok d∧(∀m,BF m d)∧fP rows C n xs d=true∧eH d=.ok (.bl true):=by
 intro n
 induction n with
 | zero=>intro xs _ _ h;lia
 | succ n ih =>
  intro xs h6 hg hn NR K7;have Y_:cM (aF xs)=.ok (.int xs.length):=by simp[aF]
  have hl:xs.length≤16777216:=by lia
  -- who Wh
  have uV:(List.range xs.length).filter (nF xs)≠[]:=λ z=>by obtain⟨i,g,e⟩:=K7 xs ⟨rfl,λ _ _ _ e=>e⟩ NR;have hi:i < xs.length:=(List.getElem?_eq_some_iff.mp e).1;have:i∈(List.range xs.length).filter (nF xs):=List.mem_filter.mpr ⟨List.mem_range.mpr hi,by unfold nF;rw[e]⟩;rw[z]at this;cases this
  have hall:∀k∈(List.range xs.length).filter (nF xs),nF xs k=true:=λ k hk=>(List.mem_filter.mp hk).2;generalize U8:(List.range xs.length).filter (nF xs)=ks at uV hall;cases ks with
  | nil=>exact absurd rfl uV
  | cons k0 kr =>
   have key:∀k∈k0 :: kr,uE (eU cM (aw bZ (aa (eV 1) (aa (eV 2) (aa (eV 3) (aa (eV 0) ax)))))) [v (aF xs),v (bx rows C xs),v (ay xs)] (.int (k:Nat))=.ok ((opens rows C xs k).length:Int):=λ k hk=>by obtain⟨g,e⟩:=z_ (hall k hk);have so:=jM H h6 e;refine GV ?_;simp[so,opens,e]
   have pk:=qW (mx:=false) (e:=uE (eU cM (aw bZ (aa (eV 1) (aa (eV 2) (aa (eV 3) (aa (eV 0) ax)))))) [v (aF xs),v (bx rows C xs),v (ay xs)]) (enc:=λ k:Nat=>D.int (k:Nat)) (w:=λ k=>((opens rows C xs k).length:Int)) kr k0 λ k hk=>key k (List.mem_cons_of_mem _ hk);have mem:ie false (λ k=>((opens rows C xs k).length:Int)) k0 kr∈k0 :: kr:=by
    rcases lN (mx:=false) (w:=λ k=>((opens rows C xs k).length:Int)) kr k0 with h | h
    ·rw[h];exact List.mem_cons_self
    ·exact List.mem_cons_of_mem _ h
   generalize ie false (λ k=>((opens rows C xs k).length:Int)) k0 kr=k at pk mem;obtain⟨g,hk⟩:=z_ (hall k mem);have ex:∀(x4 x5 x6:Option L),zm false .bad (eW 3) [0,1,2] (eU cM (aw bZ (aa (eV 1) (aa (eV 2) (aa (eV 3) (aa (eV 0) ax)))))) [v (aF xs),v (bx rows C xs),v (ay xs),v (.lst ((k0 :: kr).map λ k=>D.int (k:Nat))),x4,x5,x6]=.ok (.int (k:Nat)):=λ x4 x5 x6=>by show pickK false .bad (uE (eU cM (aw bZ (aa (eV 1) (aa (eV 2) (aa (eV 3) (aa (eV 0) ax)))))) [v (aF xs),v (bx rows C xs),v (ay xs)]) (D.int (k0:Nat) :: kr.map λ k=>D.int (k:Nat))=_;unfold pickK;dsimp only;rw[key k0 List.mem_cons_self];exact pk
   have so:=jM H h6 hk;have ET:=lO H xs g k;have NN:∀p∈br rows C xs g k,cV rows g p=true∧openAt xs g k p=true:=λ p hp=>by obtain⟨h1,h2⟩:=List.mem_filter.mp hp;exact⟨KH.iL h1,h2⟩
   have kg:=hg _ (List.mem_of_getElem? hk);have hw:=Aa hk;have step:∀p∈br rows C xs g k,∃d,bG n [aF xs,bx rows C xs,ay (xs.set k (g,some p))]=.ok d∧(∀m,BF m d)∧fP rows C n (xs.set k (g,some p)) d=true:=λ p hp=>by
    have n1:=Ce p hk;obtain⟨f1,f2⟩:=NN p hp;obtain⟨d,e1,e2,e3,_⟩:=ih (xs.set k (g,some p)) (by rw[uO];exact h6) (λ x hx=>by
     rcases List.mem_or_eq_of_mem_set hx with z | z
     ·exact hg x z
     ·rw[z];exact kg) (by lia) (NR.put hk f1 f2) (K7.put hk p)
    rw[show aF (xs.set k (g,some p))=aF xs from lU hk (some p),show bx rows C (xs.set k (g,some p))=bx rows C xs from kQ hk (some p)]at e1;exact⟨d,e1,e2,e3⟩
   obtain⟨f,hf⟩:∃f:Pl->D,∀p∈br rows C xs g k,bG n [aF xs,bx rows C xs,ay (xs.set k (g,some p))]=.ok (f p)∧(∀m,BF m (f p))∧fP rows C n (xs.set k (g,some p)) (f p)=true:=by
    classical
    exact⟨λ p=>if h:p∈br rows C xs g k then(step p h).choose else .non,λ p hp=>by simp only[hp,dif_pos];exact(step p hp).choose_spec⟩
   have start:∀(Q:Fl->Prop),(∀x5 x6,Ok ((aB (aM 5 (aw bZ (aa (eV 0) (aa (eV 1) (aa (eV 2) (aa (eV 4) ax)))))) (aB (gi (tE (eB oEq (eW 5) (fM ax))) (a_ (fM (aa (eC (.str [115,116,117,99,107])) (aa (eV 4) ax)))) bF) (aB (aM 6 (eL (cf (eY (eW 5)) 1 [0,1,2,4] (bA 0) dR (aw (bG n) (aa (eV 1) (aa (eV 2) (aa (aw KH.cx (aa (eV 3) (aa (eV 4) (aa (eV 0) ax)))) ax))))))) (a_ (fM (aa (eC (.str [101,97,99,104])) (aa (eV 4) (aa (eU dM (eW 6)) ax)))))))) [v (aF xs),v (bx rows C xs),v (ay xs),v (.lst ((k0 :: kr).map λ k=>D.int (k:Nat))),vi (k:Nat),x5,x6]) Q)->Ok (fi (bG n) [v (aF xs),v (bx rows C xs),v (ay xs),none,none,none,none]) Q:=λ Q hQ=>by
    have el:dq 0 xs.length=(List.range xs.length).map λ k=>D.int (k:Nat):=by rw[ints_map];exact List.map_congr_left λ j _=>by rw[Int.zero_add]
    simp[fi,bY,cS,b?,line,Y_,hl];rw[el];refine cE (λ k:Nat=>D.int (k:Nat)) (nF xs) (λ k=>D.int (k:Nat)) (xs:=List.range xs.length) (λ j hj=>?_) ?_
    ·have y9:j < xs.length:=List.mem_range.mp hj;obtain⟨⟨g',o⟩,e⟩:∃x,xs[j]?=some x:=⟨_,List.getElem?_eq_getElem y9⟩
     have ix:bc (ay xs) (.int (j:Nat))=.ok (cC o):=(eJ (xs:=xs.map λ y:GO=>cC y.2) (i:=j) (j:=j) rfl (by rw[List.getElem?_map,e];rfl)).1;cases o with
     | none=>simp[ix,cC,nF,e]
     | some p =>have en:ly (aK p)=.ok (.bl false):=rfl;simp[ix,cC,en,nF,e]
    ·rw[U8];have:=hQ none none;have e4:=ex none none none;simp only[List.map_cons]at this e4 ⊢;simp[e4];simpa[bY,cS,b?,line]using this
   by_cases h0:br rows C xs g k=[]
   ·refine⟨.tup [.str k?,.int (k:Nat)],?_,λ m=>?_,?_,rfl⟩
    ·rw[nu];refine aQ (start _ λ x5 x6=>?_);rw[h0]at so;have e0:=QF [];simp only[List.map_nil,List.isEmpty_nil]at so e0;simp[so,e0,line];rfl
    ·cases m with
     | zero=>trivial
     | succ m=>exact .inr (.inr (.inl ⟨_,_,rfl⟩))
    ·simp[fP,isStr,hw,hk,h0]
   ·have UU:(br rows C xs g k).isEmpty=false:=by
     cases q:br rows C xs g k with
     | nil=>exact absurd q h0
     | cons a r=>rfl
    refine⟨.tup [.str ko,.int (k:Nat),.tup ((br rows C xs g k).map f)],?_,λ m=>?_,?_,rfl⟩
    ·rw[nu];refine aQ (start _ λ x5 x6=>?_);have e0:=QF (br rows C xs g k);rw[UU]at e0;have G5:(br rows C xs g k).length≤16777216:=by lia
     generalize br rows C xs g k=op at so ET hf e0 G5;simp[so,e0,line,bY,cS,b?,G5];refine cE aK (λ _=>true) f (xs:=op) (λ p hp=>?_) ?_
     ·simp[(iQ h6 hk p).1,(hf p hp).1]
     ·rw[ji];simp[line];rfl
    ·cases m with
     | zero=>trivial
     | succ m =>refine .inr (.inr (.inr ⟨_,_,_,rfl,λ ps e=>?_⟩));cases e;refine⟨by rw[List.length_map];lia,λ q hq=>?_⟩;obtain⟨p,hp,rfl⟩:=List.mem_map.mp hq;exact(hf p hp).2.1 m
    ·have za:gB (λ p e=>fP rows C n (xs.set k (g,some p)) e) (br rows C xs g k) ((br rows C xs g k).map f)=true:=kL λ j p e hj he=>by rw[List.getElem?_map,hj]at he;cases he;exact(hf p (List.mem_of_getElem? hj)).2.2
     simp[fP,isStr,hw,hk,za]
theorem t9(H:Hall rows C)(h6:xs.length≤6)(hg:∀x∈xs,GOk x.1)(hk:Good rows xs)(hw:fg rows C xs≤2000){fd:D}(ef:aN [cu rows,aF xs,fd]=.ok (ay xs)):
  (bT rows C false xs xs.length≠[]∧gq [cu rows,aF xs,fd]=.ok .non)∨(bT rows C false xs xs.length=[]∧∃d,gq [cu rows,aF xs,fd]=.ok d∧(∀m,BF m d)∧fP rows C 9 xs d=true∧eH d=.ok (.bl true)):=by
 have fo:=wq H h6 hg hk hw ef;have ap:=iO H h6 hg;cases e:bT rows C false xs xs.length with
 | cons z r =>rw[e]at fo;dsimp only at fo;refine .inl ⟨by simp,?_⟩;rw[uj];refine aQ ?_;have en:eH (ay z)=.ok (.bl true):=rfl;simp[kA,fo,en]
 | nil =>
  rw[e]at fo;dsimp only at fo;have hn:nN xs < 9:=by have:nN xs≤xs.length:=List.countP_le_length;lia
  obtain⟨d,e1,e2,e3,e4⟩:=Gj H 9 xs h6 hg hn hk (ED H hg e);refine .inr ⟨rfl,d,?_,e2,e3,e4⟩;rw[uj];refine aQ ?_;have en:eH D.non=.ok (.bl false):=rfl;simp[kA,fo,en,ap,ef,e1]
theorem EL(H:Hall rows C)(h6:xs.length≤6)(hg:∀x∈xs,GOk x.1){fd d:D}(ef:aN [cu rows,aF xs,fd]=.ok (ay xs))(hp:BF 9 d):mB [cu rows,aF xs,d,fd]=.ok (.bl (fP rows C 9 xs d)):=by
 rw[CC];refine aQ ?_;have hn:nN xs < 9:=by have:nN xs≤xs.length:=List.countP_le_length;lia
 simp[o5,ef,iO H h6 hg,Jy H 9 xs d h6 hn hp]
end
end KC
set_option maxRecDepth 4000
noncomputable section
namespace Fo
open Z KG KH KB KC
def f_:SF:=(a_ (eL (cf (eZ (eU cM (eW 0))) 1 [0,1] (bA 0) (l6 (tE (eU ly (eB bc (eW 1) (eW 0)))) (tE (eB iw (eW 0) (eW 2)))) (eV 0))))
def c_:List D->Res D:=fn 2 2 f_
theorem sH(x0 x1:D):c_ [x0,x1]=bJ (f_ [some (.val x0),some (.val x1)]):=cg _ _ _ _ rfl
def k7:SF:=(aB (aM 4 (aw KB.bK (aa (eV 0) (aa (eV 2) ax)))) (aB (fN (eY (aw c_ (aa (eV 2) (aa (eV 3) ax)))) (bA 5) (aB (aM 6 (eL (cf (eY (aw KC.bZ (aa (eV 0) (aa (eV 1) (aa (eV 2) (aa (eV 5) ax)))))) 1 [0,5] (bA 0) dR (aw KB.iT (aa (eB bc (eW 1) (eW 2)) (aa (eB bc (eW 0) (eC (.int 0))) ax)))))) (aM 4 (eB AS (eV 4) (eB vH (eW 6) (eC (.int 0))))))) (a_ (eV 4))))
def d_:List D->Res D:=fn 4 7 k7
theorem zg(x0 x1 x2 x3:D):d_ [x0,x1,x2,x3]=bJ (k7 [some (.val x0),some (.val x1),some (.val x2),some (.val x3),none,none,none]):=cg _ _ _ _ rfl
def bC(self:List D->Res D):SF:=(aB (gi (tE (aw KC.cB (aa (eV 5) (aa (eC (.str [101,110,100])) (aa (eC (.int 1)) ax))))) (a_ (eB oLe (aw d_ (aa (eV 0) (aa (eV 1) (aa (eV 3) (aa (eV 4) ax))))) (eW 2))) bF) (aB (gi (yv (nA (tE (aw KC.iA (aa (eV 5) ax)))) (yv (nA (tE (aw KC.fU (aa (eV 3) (aa (eB bc (eW 5) (eC (.int 1))) ax))))) (tE (eB EB (eB bc (eW 5) (eC (.int 1))) (eW 4))))) (a_ (eC (.bl false))) bF) (aB (aM 6 (eB bc (eW 5) (eC (.int 1)))) (aB (aM 7 (aw KC.bZ (aa (eV 0) (aa (eV 1) (aa (eV 3) (aa (eV 6) ax)))))) (aB (gi (tE (eB qH (eU cM (eB bc (eW 5) (eC (.int 2)))) (eB bj (eU cM (eW 7)) (eC (.int 1))))) (a_ (eC (.bl false))) bF) (aB (fN (A5 (eV 7) (eB bc (eW 5) (eC (.int 2)))) (ka [8,9]) (gi (nA (tE (aw self (aa (eV 0) (aa (eV 1) (aa (eV 2) (aa (aw KH.cx (aa (eV 3) (aa (eV 6) (aa (eV 8) ax)))) (aa (eV 4) (aa (eV 9) ax))))))))) (a_ (eC (.bl false))) bF)) (a_ (aw self (aa (eV 0) (aa (eV 1) (aa (eV 2) (aa (eV 3) (aa (eB bj (eW 4) (fM (aa (eV 6) ax))) (aa (eB bc (eB bc (eW 5) (eC (.int 2))) (eU Gs (eC (.int 1)))) ax))))))))))))))
def ck:Nat->List D->Res D
 | 0=>λ _=>.bad
 | k+1=>fn 6 10 (bC (ck k))
theorem sJ(k:Nat)(x0 x1 x2 x3 x4 x5:D):ck (k+1) [x0,x1,x2,x3,x4,x5]=bJ (bC (ck k) [some (.val x0),some (.val x1),some (.val x2),some (.val x3),some (.val x4),some (.val x5),none,none,none,none]):=cg _ _ _ _ rfl
def rP:SF:=(aB (aM 5 (aw KB.aN (aa (eV 0) (aa (eV 1) (aa (eV 4) ax))))) (a_ (aw (ck 9) (aa (eV 1) (aa (aw KC.dO (aa (eV 0) (aa (eV 1) ax))) (aa (eV 2) (aa (eV 5) (aa (fM ax) (aa (eV 3) ax)))))))))
def lT:List D->Res D:=fn 5 6 rP
theorem E4(x0 x1 x2 x3 x4:D):lT [x0,x1,x2,x3,x4]=bJ (rP [some (.val x0),some (.val x1),some (.val x2),some (.val x3),some (.val x4),none]):=cg _ _ _ _ rfl
def eR(self:List D->Res D):SF:=(aB (gi (tE (eB oLe (aw d_ (aa (eV 0) (aa (eV 1) (aa (eV 3) (aa (eV 4) ax))))) (eW 2))) (a_ (fM (aa (eC (.str [101,110,100])) ax))) bF) (aB (aM 5 (eB bc (aw c_ (aa (eV 3) (aa (eV 4) ax))) (eC (.int 0)))) (aB (nB 6 (bX ax)) (aB (fN (eY (aw KC.bZ (aa (eV 0) (aa (eV 1) (aa (eV 3) (aa (eV 5) ax)))))) (bA 7) (cH 6 (aw self (aa (eV 0) (aa (eV 1) (aa (eV 2) (aa (aw KH.cx (aa (eV 3) (aa (eV 5) (aa (eV 7) ax)))) (aa (eV 4) ax)))))))) (aB (cH 6 (aw self (aa (eV 0) (aa (eV 1) (aa (eV 2) (aa (eV 3) (aa (eB bj (eW 4) (fM (aa (eV 5) ax))) ax))))))) (a_ (fM (aa (eC (.str [101,97,99,104])) (aa (eV 5) (aa (eU dM (eW 6)) ax))))))))))
def bS:Nat->List D->Res D
 | 0=>λ _=>.bad
 | k+1=>fn 5 8 (eR (bS k))
theorem ou(k:Nat)(x0 x1 x2 x3 x4:D):bS (k+1) [x0,x1,x2,x3,x4]=bJ (eR (bS k) [some (.val x0),some (.val x1),some (.val x2),some (.val x3),some (.val x4),none,none,none]):=cg _ _ _ _ rfl
def o4:SF:=(aB (aM 3 (aw KB.dN (aa (eV 0) (aa (eV 1) (aa (eV 2) ax))))) (a_ (aw (bS 9) (aa (eV 1) (aa (aw KC.dO (aa (eV 0) (aa (eV 1) ax))) (aa (eV 3) (aa (aw KB.aN (aa (eV 0) (aa (eV 1) (aa (eV 2) ax)))) (aa (fM ax) ax))))))))
def ki:List D->Res D:=fn 3 4 o4
theorem CA(x0 x1 x2:D):ki [x0,x1,x2]=bJ (o4 [some (.val x0),some (.val x1),some (.val x2),none]):=cg _ _ _ _ rfl
def mR:SF:=(aB (fN (eY (eV 2)) (bA 4) (aB (aM 5 (aw KB.bK (aa (eV 1) (aa (eV 4) ax)))) (gi (yv (tE (eU q8 (aw KG.iZ (aa (eV 0) (aa (eV 1) (aa (eV 4) ax)))))) (yv (tE (eB qH (eW 5) (aw KB.cO (aa (eV 1) (aa (eV 4) ax))))) (tE (eB z7 (eW 5) (eW 3))))) (a_ (eC (.bl false))) bF))) (a_ (eC (.bl true))))
def iY:List D->Res D:=fn 4 6 mR
theorem Bm(x0 x1 x2 x3:D):iY [x0,x1,x2,x3]=bJ (mR [some (.val x0),some (.val x1),some (.val x2),some (.val x3),none,none]):=cg _ _ _ _ rfl
def mP:SF:=(aB (aM 3 (aw KC.gq (aa (eV 0) (aa (eV 1) (aa (eV 2) ax))))) (aB (gi (yv (tE (eU eH (aw KB.dY (aa (eV 0) (aa (eV 1) (aa (eV 2) ax)))))) (tE (eU eH (aw KC.cZ (aa (eV 0) (aa (eV 1) (aa (eV 2) ax))))))) (a_ (eC (.bl false))) bF) (a_ (wA (eU eH (eW 3)) (eU (EA true) (aw KC.mB (aa (eV 0) (aa (eV 1) (aa (eV 3) (aa (eV 2) ax))))))))))
def iU:List D->Res D:=fn 3 4 mP
theorem Bh(x0 x1 x2:D):iU [x0,x1,x2]=bJ (mP [some (.val x0),some (.val x1),some (.val x2),none]):=cg _ _ _ _ rfl
def k9:SF:=(aB (aM 4 (aw KB.dY (aa (eV 0) (aa (eV 1) (aa (eV 2) ax))))) (aB (gi (yv (tE (eB qH (aw KC.cZ (aa (eV 0) (aa (eV 1) (aa (eV 2) ax)))) (eU xR (eW 3)))) (tE (eU eH (aw KC.gq (aa (eV 0) (aa (eV 1) (aa (eV 2) ax))))))) (a_ (eC (.bl false))) bF) (aB (aM 5 (eU t! (eL (cf (eY (eW 3)) 1 [1] (bA 0) dR (aw KB.cO (aa (eV 1) (aa (eV 0) ax))))))) (a_ (wA (eB EB (eW 4) (eW 3)) (eB oEq (aw KB.bK (aa (eV 1) (aa (eV 4) ax))) (eW 5)))))))
def gU:List D->Res D:=fn 4 6 k9
theorem zk(x0 x1 x2 x3:D):gU [x0,x1,x2,x3]=bJ (k9 [some (.val x0),some (.val x1),some (.val x2),some (.val x3),none,none]):=cg _ _ _ _ rfl
def D4:SF:=(aB (Ao (aw KH.iW (aa (eV 0) ax)) (xp [1,2,3])) (aB (aM 4 (aw KH.kj (aa (eV 1) (aa (aw KH.fT (aa (eV 0) (aa (eV 2) (aa (eV 3) ax)))) (aa (eC (.int 80)) ax))))) (aB (aM 5 (eL (cf (eY (eW 4)) 1 [1] (bA 0) dR (aw KH.eP (aa (eV 1) (aa (eV 0) ax)))))) (aB (aM 6 (aw KG.bM (aa (eB bj (aw KG.aL (aa (eV 0) (aa (eC (.int 16)) ax))) (aw KG.aL (aa (eV 0) (aa (eC (.int 0)) ax)))) (aa (eC (.int 5)) ax)))) (aB (aM 7 (aw KH.iX (aa (aw KH.fS (aa (eV 5) (aa (eV 4) (aa (eV 0) ax)))) (aa (eV 6) ax)))) (aB (aM 8 (aw KB.kn (aa (eV 5) (aa (eV 4) (aa (eV 7) (aa (eC (.bl true)) ax)))))) (aB (aM 9 (aw KB.dN (aa (eV 1) (aa (eV 4) (aa (eV 7) ax))))) (aB (gi (yv (nA (tE (aw iY (aa (eV 1) (aa (eV 4) (aa (eV 8) (aa (eV 9) ax))))))) (tE (eB z7 (eU cM (eW 8)) (aw KB.oU (aa (eV 1) (aa (eV 4) (aa (eV 7) ax))))))) (a_ (eC (.bl false))) bF) (aB (aM 10 (aw KB.c4 (aa (eV 1) (aa (eV 4) (aa (eV 7) ax))))) (aB (gi (yv (tE (eB iw (eW 10) (eW 8))) (tE (eB qH (aw KB.cO (aa (eV 4) (aa (eV 10) ax))) (eW 9)))) (a_ (eC (.bl false))) bF) (aB (gi (tE (eU q8 (aw lT (aa (eV 1) (aa (eV 4) (aa (eV 9) (aa (aw ki (aa (eV 1) (aa (eV 4) (aa (eV 7) ax)))) (aa (eV 7) ax)))))))) (a_ (eC (.bl false))) bF) (aB (aM 11 (eL (cf (eY (eW 8)) 1 [] (bA 0) (tE (eB iw (eC .non) (eW 0))) (eV 0)))) (aB (gi (tE (eB oEq (eW 11) (eL (bX ax)))) (a_ (aw iU (aa (eV 1) (aa (eV 4) (aa (eV 7) ax))))) bF) (a_ (aw gU (aa (eV 1) (aa (eV 4) (aa (eV 7) (aa (eV 11) ax)))))))))))))))))))
def sF:List D->Res D:=fn 1 12 D4
theorem M3(x0:D):sF [x0]=bJ (D4 [some (.val x0),none,none,none,none,none,none,none,none,none,none,none]):=cg _ _ _ _ rfl
end Fo
end
set_option maxRecDepth 8000
namespace Fo
open Z KG KB KC
open KH
def d?(xs:List GO)(left:List Nat)(k:Nat):Bool:=(match xs[k]? with | some (_,none)=>true | _=>false)&&!left.contains k
theorem any_ints(k:Nat):∀left:List Nat,fI (.int (k:Nat)) (left.map λ n=>D.int (n:Nat))=some (left.contains k)
 | []=>rfl
 | n :: left=>by
  show(match lF (.int (n:Nat)) (.int (k:Nat)),fI (.int (k:Nat)) (left.map λ n=>D.int (n:Nat))with | some x,some y=>some (x || y) | _,_=>none)=_;rw[any_ints k left,List.contains_cons];show some (decide ((n:Int)=k) || _)=_
  congr 2
  rw[Bool.eq_iff_iff];simp;lia
theorem Af{xs:List GO}(h6:xs.length≤6)(left:List Nat):c_ [ay xs,.tup (left.map λ n=>D.int (n:Nat))]=.ok (.lst (((List.range xs.length).filter (d? xs left)).map λ n=>D.int (n:Nat))):=by
 have hl:cM (ay xs)=.ok (.int xs.length):=by simp[ay]
 have el:dq 0 xs.length=(List.range xs.length).map λ n=>D.int (n:Nat):=by rw[ints_map];refine List.map_congr_left λ n _=>?_;simp
 have hx:xs.length≤16777216:=by lia
 rw[sH];refine aQ ?_;simp[f_,hl,bY,cS,b?,line,hx];rw[el];refine cE (λ n:Nat=>D.int (n:Nat)) (d? xs left) (λ n=>D.int (n:Nat)) (xs:=List.range xs.length) (λ k hk=>?_) (by simp);have P9:k < xs.length:=List.mem_range.mp hk;obtain⟨⟨g,o⟩,e⟩:∃x,xs[k]?=some x:=⟨_,List.getElem?_eq_getElem P9⟩
 have ix:bc (ay xs) (.int (k:Nat))=.ok (cC o):=(eJ (xs:=xs.map λ y:GO=>cC y.2) (i:=k) (j:=k) rfl (by rw[List.getElem?_map,e];rfl)).1;have ni:iw (.int (k:Nat)) (.tup (left.map λ n=>D.int (n:Nat)))=.ok (.bl (!left.contains k)):=by show(match fI (.int (k:Nat)) (left.map λ n=>D.int (n:Nat))with | some b=>Res.ok (D.bl !b) | none=>Res.bad)=_;rw[any_ints]
 cases o with
 | none=>simp[ix,ni,d?,e]
 | some p =>have en:ly (aK p)=.ok (.bl false):=rfl;simp[ix,cC,en,d?,e]
def Mx(rows:Rows)(C:Nat)(cs:List GO)(k:Nat):Int:=match cs[k]? with
 | some (g,_)=>EI 0 ((br rows C cs g k).map λ p=>z0 g p.1)
 | none=>0
theorem Dt{rows : Rows}{C : Nat}(H : Hall rows C){cs : List GO}(h6 : cs.length ≤ 6)(hg : ∀x ∈ cs, kE x.1)(left : List Nat):
  d_ [aF cs,bx rows C cs,ay cs,.tup (left.map λ n=>D.int (n:Nat))]=.ok (.int ((cs.map wO).sum+(((List.range cs.length).filter (d? cs left)).map (Mx rows C cs)).sum)):=by
 have ew:bK [aF cs,ay cs]=.ok (.int (cs.map wO).sum):=tJ h6 λ x hx=>(hg x hx).toGrpG;have es:=Af h6 left;generalize U8:(List.range cs.length).filter (d? cs left)=ks at es;rw[zg];refine aQ ?_;simp[k7,ew,es];refine cR (λ i ρ=>∃(x y:Option L),ρ=[v (aF cs),v (bx rows C cs),v (ay cs),v (.tup (left.map λ n=>D.int (n:Nat))),vi ((cs.map wO).sum+((ks.map (Mx rows C cs)).take i).sum),x,y]) ⟨none,none,by simp⟩ ?_ ?_
 ·rintro j d ρ hj ⟨x,y,rfl⟩;rw[List.getElem?_map]at hj;obtain⟨k,hk,rfl⟩:=Option.map_eq_some_iff.mp hj;have W4:k∈ks:=List.mem_of_getElem? hk;rw[<-U8]at W4;obtain⟨hkr,hst⟩:=List.mem_filter.mp W4;obtain⟨g,eg⟩:∃g,cs[k]?=some (g,none):=by
   unfold d? at hst;rw[Bool.and_eq_true]at hst;have q1:=hst.1;split at q1
   ·rename_i g e;exact⟨g,e⟩
   ·cases q1
  have kg:=hg _ (List.mem_of_getElem? eg);have sp:=jM H h6 eg;have ol:=lO H cs g k;have Yt:(br rows C cs g k).length≤16777216:=by lia
  have Sj:bc (aF cs) (.int (k:Nat))=.ok (bB g):=(eJ (xs:=cs.map λ y:GO=>bB y.1) (i:=k) (j:=k) rfl (by rw[List.getElem?_map,eg];rfl)).1;simp[sp,bY,cS,b?,line,Yt];refine cE aK (λ _=>true) (λ p=>.int (z0 g p.1)) (xs:=br rows C cs g k) (λ p hp=>?_) ?_
  ·have:=tK kg.toGrpG p.1;simp[Sj,this]
  ·rw[ji,show(br rows C cs g k).map (λ p=>D.int (z0 g p.1))=((br rows C cs g k).map λ p=>z0 g p.1).map D.int from by rw[List.map_map];rfl];have ft:((ks.map (Mx rows C cs)).take (j+1)).sum=((ks.map (Mx rows C cs)).take j).sum+EI 0 ((br rows C cs g k).map λ p=>z0 g p.1):=by rw[List.take_add_one,List.getElem?_map,hk,List.sum_append];simp[Mx,eg]
   generalize (br rows C cs g k).map (λ p=>z0 g p.1)=ws at ft ⊢;generalize (ks.map (Mx rows C cs)).take (j+1)=ta at ft ⊢;generalize (ks.map (Mx rows C cs)).take j=tb at ft ⊢;simp[Jm];lia
 ·rintro ρ ⟨x,y,rfl⟩;rw[List.length_map,List.take_of_length_le (by rw[List.length_map];exact Nat.le_refl _)];simp
def wz:List Nat:=[101,110,100]
def nW(cs:List GO)(left:List Nat):Nat:=((List.range cs.length).filter (d? cs left)).length
theorem ze{p q : Nat -> Bool}{k : Nat}: ∀l : List Nat, (∀j ∈ l, q j = true -> p j = true) -> k ∈ l -> p k = true -> q k = false -> (l.filter q).length < (l.filter p).length
 | [],_,h,_,_=>by cases h
 | j :: l,hq,h,hp,hn=>by
  have mono:∀l:List Nat,(∀j∈l,q j=true->p j=true)->(l.filter q).length≤(l.filter p).length:=by
   intro l
   induction l with
   | nil=>intro _;simp
   | cons j l ih =>
    intro h;have:=ih λ i hi=>h i (List.mem_cons_of_mem _ hi);have hj:=h j List.mem_cons_self;cases c:q j
    ·rw[List.filter_cons_of_neg (by simp[c])];refine Nat.le_trans this ?_;rw[List.filter_cons];split<;>simp
    ·rw[List.filter_cons_of_pos c,List.filter_cons_of_pos (hj c)];simp;exact this
  by_cases e:j=k
  ·subst e;rw[List.filter_cons_of_neg (by simp[hn]),List.filter_cons_of_pos hp];have:=mono l λ i hi=>hq i (List.mem_cons_of_mem _ hi);simp;lia
  ·have hk:k∈l:=by
    rcases List.mem_cons.mp h with z | z
    ·exact absurd z.symm e
    ·exact z
   have:=ze l (λ i hi=>hq i (List.mem_cons_of_mem _ hi)) hk hp hn;have hj:=hq j List.mem_cons_self;cases c:q j
   ·rw[List.filter_cons_of_neg (by simp[c]),List.filter_cons];split<;>simp<;>lia
   ·rw[List.filter_cons_of_pos c,List.filter_cons_of_pos (hj c)];simp;exact this
theorem fu{cs:List GO}{left:List Nat}{k:Nat}:d? cs left k=true↔(∃g,cs[k]?=some (g,none))∧k∉left:=by
 unfold d?;rw[Bool.and_eq_true];constructor
 ·rintro⟨a,b⟩;refine⟨?_,by simpa using b⟩;split at a
  ·rename_i g e;exact⟨g,e⟩
  ·cases a
 ·rintro⟨⟨g,e⟩,b⟩;rw[e];exact⟨rfl,by simpa using b⟩
theorem GD{cs:List GO}{left:List Nat}{k:Nat}{g:G}(h:cs[k]?=some (g,none))(hl:k∉left)(p:Pl):nW (cs.set k (g,some p)) left < nW cs left:=by
 unfold nW;rw[List.length_set];have hk:k < cs.length:=(List.getElem?_eq_some_iff.mp h).1;refine ze (k:=k) _ (λ j _ hj=>?_) (List.mem_range.mpr hk) (fu.mpr ⟨⟨g,h⟩,hl⟩) ?_
 ·obtain⟨⟨g',e⟩,nl⟩:=fu.mp hj;refine fu.mpr ⟨?_,nl⟩;rw[List.getElem?_set]at e;split at e
  ·cases e
  ·exact⟨g',e⟩
 ·cases q:d? (cs.set k (g,some p)) left k with
  | false=>rfl
  | true =>obtain⟨⟨g',e⟩,_⟩:=fu.mp q;rw[List.getElem?_set]at e;simp[hk]at e
theorem Ds{cs:List GO}{left:List Nat}{k:Nat}{g:G}(h:cs[k]?=some (g,none))(hl:k∉left):nW cs (left++[k]) < nW cs left:=by
 unfold nW;have hk:k < cs.length:=(List.getElem?_eq_some_iff.mp h).1;refine ze (k:=k) _ (λ j _ hj=>?_) (List.mem_range.mpr hk) (fu.mpr ⟨⟨g,h⟩,hl⟩) ?_
 ·obtain⟨a,nl⟩:=fu.mp hj;exact fu.mpr ⟨a,λ z=>nl (List.mem_append_left _ z)⟩
 ·cases q:d? cs (left++[k]) k with
  | false=>rfl
  | true =>obtain⟨_,nl⟩:=fu.mp q;exact absurd (List.mem_append_right _ (List.mem_singleton.mpr rfl)) nl
theorem Pr{ps:List D}{l:D}(h:ps.getLast?=some l):bc (.tup ps) (.int (-1))=.ok l:=by
 obtain⟨ys,rfl⟩:=List.getLast?_eq_some_iff.mp h;rw[Dm];have:yb (ys++[l]).length (-1)=some ys.length:=by simp[yb];lia
 rw[this];simp
def gP(left:List Nat):D:=.tup (left.map λ n=>D.int (n:Nat))
theorem Gq(ds:List D):dM (.lst ds)=.ok (.tup ds):=rfl
def AY(rows:Rows)(C:Nat)(cs:List GO)(left:List Nat):Int:=(cs.map wO).sum+(((List.range cs.length).filter (d? cs left)).map (Mx rows C cs)).sum
def c8(rows:Rows)(C:Nat)(N:Int):Nat->List GO->List Nat->D->Bool
 | 0,_,_,_=>false
 | n+1,cs,left,d=>match d with
  | .tup [a]=>isStr a wz&&decide (AY rows C cs left≤N)
  | .tup [a,.int i,.tup ps]=>isStr a ko&&(ia cs (.int i)&&(!left.contains i.toNat&&(match cs[i.toNat]? with
   | some (g,_)=>(ps.length==(br rows C cs g i.toNat).length+1)&&(gB (λ p e=>c8 rows C N n (cs.set i.toNat (g,some p)) left e) (br rows C cs g i.toNat) ps&&c8 rows C N n cs (left++[i.toNat]) (ps.getLast?.getD .non))
   | none=>false)))
  | _=>false
def Ij:Nat->D->Prop
 | 0,_=>True
 | n+1,d=>(∃xs,d=.lst xs)∨d=.tup []∨(∃w,d=.tup [.str w])∨(∃w b,d=.tup [.str w,b])∨∃w b c,d=.tup [.str w,b,c]∧∀ps,c=.tup ps->∀p∈ps,Ij n p
theorem BS{rows:Rows}{C n:Nat}{N:Int}{cs:List GO}{left:List Nat}{w:List Nat}{b:D}(h:ia cs b=false)(c:D):c8 rows C N (n+1) cs left (.tup [.str w,b,c])=false:=by
 cases b with
 | int i=>cases c<;>simp[c8,h]
 | _=>cases c<;>simp[c8]
theorem BR{rows:Rows}{C n:Nat}{N:Int}{cs:List GO}{left:List Nat}{w:List Nat}{b:D}(h:(w==ko)=false)(c:D):c8 rows C N (n+1) cs left (.tup [.str w,b,c])=false:=by
 cases b with
 | int i=>cases c<;>simp[c8,isStr,h]
 | _=>cases c<;>simp[c8]
theorem Q3 {rows : Rows} {C : Nat} (H : Hall rows C) (N : Int) : ∀ (n : Nat) (cs : List GO) (left : List Nat) (d : D), cs.length ≤ 6 -> (∀ x ∈ cs, kE x.1) -> left.length + n ≤ 100 -> nW cs left < n -> Ij n d ->
  ck n [aF cs,bx rows C cs,.int N,ay cs,gP left,d]=.ok (.bl (c8 rows C N n cs left d)):=by
 intro n
 induction n with
 | zero=>intro cs left d _ _ _ h;lia
 | succ n ih =>
  intro cs left d h6 hg Y7 hn ht;rw[sJ];refine aQ ?_;have bs:=sQ d wz (n:=1) (by decide);have oZ:cB [d,.str [101,110,100],.int 1]=.ok (.bl (lC d wz 1)):=bs;have be:=DU d;have mo:d_ [aF cs,bx rows C cs,ay cs,gP left]=.ok (.int (AY rows C cs left)):=Dt H h6 hg left;rcases ht with⟨zs,rfl⟩ | rfl | ⟨w,rfl⟩ | ⟨w,b,rfl⟩ | ⟨w,b,c,rfl,JS⟩
  ·have e1:lC (.lst zs) wz 1=false:=rfl;have e2:kX (.lst zs)=false:=rfl;rw[e1]at oZ;rw[e2]at be;simp[bC,oZ,be,c8]
  ·have e1:lC (.tup []) wz 1=false:=rfl;have e2:kX (.tup [])=false:=rfl;rw[e1]at oZ;rw[e2]at be;simp[bC,oZ,be,c8]
  ·have e1:lC (.tup [.str w]) wz 1=(w==wz):=by simp[lC,isStr]
   have e2:kX (.tup [.str w])=false:=rfl;rw[e1]at oZ;rw[e2]at be;cases hw:(w==wz)with
   | false =>rw[hw]at oZ;simp[bC,oZ,be,c8,isStr,hw]
   | true =>rw[hw]at oZ;simp[bC,oZ,mo,c8,isStr,hw]
  ·have e1:lC (.tup [.str w,b]) wz 1=false:=rfl;have e2:kX (.tup [.str w,b])=false:=rfl;rw[e1]at oZ;rw[e2]at be;simp[bC,oZ,be,c8]
  ·have e1:lC (.tup [.str w,b,c]) wz 1=false:=rfl;have i1:bc (.tup [.str w,b,c]) (.int 1)=.ok b:=rfl;have i2:bc (.tup [.str w,b,c]) (.int 2)=.ok c:=rfl;rw[e1]at oZ;cases he:kX (.tup [.str w,b,c])with
   | false =>
    rw[he]at be;have:c8 rows C N (n+1) cs left (.tup [.str w,b,c])=false:=by
     cases c with
     | tup ps=>exact BR (show(w==ko)=false from he) _
     | _=>cases b<;>simp[c8]
    simp[bC,oZ,be,this]
   | true =>
    rw[he]at be;obtain⟨ps,rfl⟩:∃ps,c=.tup ps:=by
     cases c with
     | tup ps=>exact⟨ps,rfl⟩
     | _=>cases he
    have hw:(w==ko)=true:=he;have wo:=jL (xs:=cs) b;cases A6:ia cs b with
    | false =>rw[A6]at wo;simp[bC,oZ,be,i1,wo,BS A6]
    | true =>
     rw[A6]at wo;obtain⟨k,g,rfl,hk⟩:=u6 A6;have G1:EB (.int (k:Nat)) (gP left)=.ok (.bl (left.contains k)):=by show(match fI (.int (k:Nat)) (left.map λ n=>D.int (n:Nat))with | some b=>Res.ok (D.bl b) | none=>Res.bad)=_;rw[any_ints]
     have P5:c8 rows C N (n+1) cs left (.tup [.str w,.int (k:Nat),.tup ps])=(!left.contains k&&((ps.length==(br rows C cs g k).length+1)&&(gB (λ p e=>c8 rows C N n (cs.set k (g,some p)) left e) (br rows C cs g k) ps&&c8 rows C N n cs (left++[k]) (ps.getLast?.getD .non)))):=by simp only[c8,isStr,hw,A6,hk,Int.toNat_natCast,Bool.true_and]
     rw[P5];cases G8:left.contains k with
     | true =>rw[G8]at G1;simp[bC,oZ,be,i1,wo,G1]
     | false =>
      rw[G8]at G1;have MJ:k∉left:=by simpa using G8
      have kg:=hg _ (List.mem_of_getElem? hk);have so:=jM H h6 hk;have ET:=lO H cs g k;generalize br rows C cs g k=op at so ET;by_cases hlen:ps.length=op.length+1
      ·have v_:(ps.length:Int)=(op.length:Int)+1:=by lia
       obtain⟨l,hl⟩:∃l,ps.getLast?=some l:=by
        cases ps with
        | nil=>simp at hlen
        | cons a r=>exact⟨_,List.getLast?_eq_some_getLast (by simp)⟩
       have il:=Pr hl;have U2:Ij n l:=JS ps rfl l (List.mem_of_getLast? hl);have n2:=Ds hk MJ;have el:=ih cs (left++[k]) l h6 hg (by simp;lia) (by lia) U2;have ad:bj (gP left) (.tup [.int (k:Nat)])=.ok (gP (left++[k])):=by unfold gP;rw[AR _ _ (by simp[line];lia)];simp
       rw[hl];simp[bC,oZ,be,i1,i2,wo,G1,so,line,v_];refine C4 (f:=λ p e=>c8 rows C N n (cs.set k (g,some p)) left e) (I:=λ ρ=>∃x7 x8,ρ=[v (aF cs),v (bx rows C cs),vi N,v (ay cs),v (gP left),v (.tup [.str w,.int (k:Nat),.tup ps]),vi (k:Nat),v (.tup (op.map aK)),x7,x8]) ⟨none,none,rfl⟩ ?_ ?_ ?_
       ·rintro ρ p e ⟨x7,x8,rfl⟩ ⟨m,U0,hm2⟩;have n1:=GD hk MJ p;have:=ih (cs.set k (g,some p)) left e (by rw[uO];exact h6) (λ x hx=>by
         rcases List.mem_or_eq_of_mem_set hx with z | z
         ·exact hg x z
         ·rw[z];exact kg) (by lia) (by lia) (JS ps rfl e (List.mem_of_getElem? hm2))
        rw[show aF (cs.set k (g,some p))=aF cs from lU hk (some p),show bx rows C (cs.set k (g,some p))=bx rows C cs from kQ hk (some p)]at this;cases P4:c8 rows C N n (cs.set k (g,some p)) left e with
        | true =>rw[P4]at this;simp[(iQ h6 hk p).1,this]
        | false =>rw[P4]at this;simp[(iQ h6 hk p).1,this]
       ·intro h;simp[h,hlen]
       ·rintro h ρ ⟨x7,x8,rfl⟩;simp[h,i2,il,ad,el,line,hlen]
      ·have v_:¬(ps.length:Int)=(op.length:Int)+1:=by lia
       simp[bC,oZ,be,i1,i2,wo,G1,so,line,v_,hlen]
theorem E5{a b c:List GO}(h1:Ext a b)(h2:Ext b c):Ext a c:=⟨h1.gs.trans h2.gs,λ i g p e=>h2.sub i g p (h1.sub i g p e)⟩
theorem Ju {rows : Rows} {C : Nat} (H : Hall rows C) (N : Int) : ∀ (n : Nat) (cs : List GO) (left : List Nat), cs.length ≤ 6 -> (∀ x ∈ cs, kE x.1) -> left.length + n ≤ 100 -> nW cs left < n -> Good rows cs -> (∀ z, Ext cs z -> Good rows z -> wS z ≤ N) ->
  ∃d,bS n [aF cs,bx rows C cs,.int N,ay cs,gP left]=.ok d∧(∀m,Ij m d)∧c8 rows C N n cs left d=true:=by
 intro n
 induction n with
 | zero=>intro cs left _ _ _ h;lia
 | succ n ih =>
  intro cs left h6 hg Y7 hn NR hN;have mo:d_ [aF cs,bx rows C cs,ay cs,gP left]=.ok (.int (AY rows C cs left)):=Dt H h6 hg left;have es:c_ [ay cs,gP left]=_:=Af h6 left;by_cases hle:AY rows C cs left≤N
  ·refine⟨.tup [.str wz],?_,λ m=>?_,?_⟩
   ·rw[ou];refine aQ ?_;simp[eR,mo,hle,line];rfl
   ·cases m with
    | zero=>trivial
    | succ m=>exact .inr (.inr (.inl ⟨_,rfl⟩))
   ·simp[c8,hle,isStr]
  ·have uV:(List.range cs.length).filter (d? cs left)≠[]:=λ z=>hle (by unfold AY;rw[z];have:=hN cs ⟨rfl,λ _ _ _ e=>e⟩ NR;unfold wS at this;simpa using this)
   have hall:∀k∈(List.range cs.length).filter (d? cs left),d? cs left k=true:=λ k hk=>(List.mem_filter.mp hk).2;generalize (List.range cs.length).filter (d? cs left)=ks at es uV hall;cases ks with
   | nil=>exact absurd rfl uV
   | cons k kr =>
    obtain⟨⟨g,hk⟩,MJ⟩:=fu.mp (hall k List.mem_cons_self);have kg:=hg _ (List.mem_of_getElem? hk);have i0:bc (.lst ((k :: kr).map λ n=>D.int (n:Nat))) (.int 0)=.ok (.int (k:Nat)):=(eJ (xs:=(k :: kr).map λ n=>D.int (n:Nat)) (i:=0) (j:=0) rfl rfl).2;have so:=jM H h6 hk;have ET:=lO H cs g k;have NN:∀p∈br rows C cs g k,cV rows g p=true∧openAt cs g k p=true:=λ p hp=>by obtain⟨h1,h2⟩:=List.mem_filter.mp hp;exact⟨KH.iL h1,h2⟩
    have n2:=Ds hk MJ;obtain⟨dl,el,tl,bl⟩:=ih cs (left++[k]) h6 hg (by simp;lia) (by lia) NR hN;have ad:bj (gP left) (.tup [.int (k:Nat)])=.ok (gP (left++[k])):=by unfold gP;rw[AR _ _ (by simp[line];lia)];simp
    have step:∀p∈br rows C cs g k,∃d,bS n [aF cs,bx rows C cs,.int N,ay (cs.set k (g,some p)),gP left]=.ok d∧(∀m,Ij m d)∧c8 rows C N n (cs.set k (g,some p)) left d=true:=λ p hp=>by
     have n1:=GD hk MJ p;obtain⟨f1,f2⟩:=NN p hp;have:=ih (cs.set k (g,some p)) left (by rw[uO];exact h6) (λ x hx=>by
      rcases List.mem_or_eq_of_mem_set hx with z | z
      ·exact hg x z
      ·rw[z];exact kg) (by lia) (by lia) (NR.put hk f1 f2) λ z ez gz=>hN z (E5 (DR hk p) ez) gz
     rwa [show aF (cs.set k (g,some p))=aF cs from lU hk (some p),show bx rows C (cs.set k (g,some p))=bx rows C cs from kQ hk (some p)]at this
    have Qe:∃ ps:List D,ps.length=(br rows C cs g k).length∧(∀ (j:Nat) (p:Pl) (e:D),(br rows C cs g k)[j]?=some p->ps[j]?=some e->(∀ m,Ij m e)∧c8 rows C N n (cs.set k (g,some p)) left e=true) ∧
      bS (n+1) [aF cs,bx rows C cs,.int N,ay cs,gP left]=.ok (.tup [.str ko,.int (k:Nat),.tup (ps++[dl])]):=by
     generalize br rows C cs g k=op at so ET step;have:Ok (bJ (eR (bS n) [v (aF cs),v (bx rows C cs),vi N,v (ay cs),v (gP left),none,none,none])) λ d=>∃ps:List D,ps.length=op.length∧(∀(j:Nat)(p:Pl)(e:D),op[j]?=some p->ps[j]?=some e->(∀m,Ij m e)∧c8 rows C N n (cs.set k (g,some p)) left e=true)∧d=.tup [.str ko,.int (k:Nat),.tup (ps++[dl])]:=by
      refine lr ?_;simp only[List.map_cons]at es i0;simp[eR,mo,hle,es,i0,so,line];refine cR (λ i ρ=>∃(ps:List D)(x:Option L),ps.length=i∧(∀(j:Nat)(p:Pl)(e:D),op[j]?=some p->ps[j]?=some e->(∀m,Ij m e)∧c8 rows C N n (cs.set k (g,some p)) left e=true)∧ρ=[v (aF cs),v (bx rows C cs),vi N,v (ay cs),v (gP left),vi (k:Nat),ow ps,x]) ⟨[],none,rfl,λ j p e _ h=>by simp at h,rfl⟩ ?_ ?_
      ·rintro i d ρ hi ⟨ps,x,hpl,JS,rfl⟩;rw[List.getElem?_map]at hi;obtain⟨p,hp,rfl⟩:=Option.map_eq_some_iff.mp hi;have JW:i < op.length:=(List.getElem?_eq_some_iff.mp hp).1;obtain⟨dp,ep,tp,bp⟩:=step p (List.mem_of_getElem? hp);have MG:ps.length < 16777216:=by lia
       simp[(iQ h6 hk p).1,ep,line,MG];refine⟨hpl,λ j qa qb e hj he=>?_⟩;by_cases Y':j < ps.length
       ·rw[List.getElem?_append_left Y']at he;exact JS j (qa,qb) e hj he
       ·rw[List.getElem?_append_right (by lia)]at he;have Y!:j-ps.length=0:=by
         cases hz:j-ps.length with
         | zero=>rfl
         | succ m=>rw[hz]at he;simp at he
        rw[Y!]at he;simp at he;subst he;have:j=i:=by lia
        subst this;rw[hp]at hj;cases hj;exact⟨tp,bp⟩
      ·rintro ρ ⟨ps,x,hpl,JS,rfl⟩;rw[List.length_map]at hpl;have MG:ps.length < 16777216:=by lia
       simp[line,MG,ad,el,Gq];exact⟨ps,hpl,λ j qa qb e hj he=>JS j (qa,qb) e hj he,rfl,rfl⟩
     obtain⟨d,e,ps,h1,h2,rfl⟩:=this;refine⟨ps,h1,h2,?_⟩;rw[ou];exact e
    obtain⟨ps,hpl,JS,e⟩:=Qe;refine⟨_,e,λ m=>?_,?_⟩
    ·cases m with
     | zero=>trivial
     | succ m =>
      refine .inr (.inr (.inr (.inr ⟨_,_,_,rfl,λ qs hq q YX=>?_⟩)));cases hq;rcases List.mem_append.mp YX with z | z
      ·obtain⟨j,hj⟩:=List.getElem?_of_mem z;have SA:j < ps.length:=(List.getElem?_eq_some_iff.mp hj).1;obtain⟨p,hp⟩:∃p,(br rows C cs g k)[j]?=some p:=⟨_,List.getElem?_eq_getElem (by lia)⟩
       exact(JS j p q hp hj).1 m
      ·rw[List.mem_singleton.mp z];exact tl m
    ·have hw:=Aa hk;have hc:left.contains k=false:=by simpa using MJ
     have za:gB (λ p e=>c8 rows C N n (cs.set k (g,some p)) left e) (br rows C cs g k) (ps++[dl])=true:=kL λ j p e hj he=>by have SA:j < (br rows C cs g k).length:=(List.getElem?_eq_some_iff.mp hj).1;rw[List.getElem?_append_left (by lia)]at he;exact(JS j p e hj he).2
     simp[c8,isStr,hw,hc,hk,hpl,za,bl];exact MJ
theorem BQ{rows:Rows}{C:Nat}(H:Hall rows C){xs m:List GO}(h6:xs.length≤6)(hg:∀x∈xs,kE x.1)(hk:Good rows xs){fd:D}(ef:aN [cu rows,aF xs,fd]=.ok (ay xs))(ew:dN [cu rows,aF xs,fd]=.ok (.int (wS m)))(hm:∀z,Ext xs z->Good rows z->wS z≤wS m):
  ∃d,ki [cu rows,aF xs,fd]=.ok d∧(∀m,Ij m d)∧c8 rows C (wS m) 9 xs [] d=true:=by
 have UW:nW xs [] < 9:=by have:=List.length_filter_le (d? xs []) (List.range xs.length);rw[List.length_range]at this;unfold nW;lia
 obtain⟨d,e1,e2,e3⟩:=Ju H (wS m) 9 xs [] h6 hg (by decide) UW hk hm;refine⟨d,?_,e2,e3⟩;have ap:=iO H h6 λ x hx=>(hg x hx).toGOk;rw[show gP []=.tup []from rfl]at e1;rw[CA];refine aQ ?_;simp[o4,ew,ap,ef,e1,line]
theorem BA{rows:Rows}{C:Nat}(H:Hall rows C){xs:List GO}(h6:xs.length≤6)(hg:∀x∈xs,kE x.1){fd d:D}(ef:aN [cu rows,aF xs,fd]=.ok (ay xs))(N:Int)(ht:∀m,Ij m d):lT [cu rows,aF xs,.int N,d,fd]=.ok (.bl (c8 rows C N 9 xs [] d)):=by
 have UW:nW xs [] < 9:=by have:=List.length_filter_le (d? xs []) (List.range xs.length);rw[List.length_range]at this;unfold nW;lia
 have h:=Q3 H N 9 xs [] d h6 hg (by decide) UW (ht 9);rw[show gP []=.tup []from rfl]at h;have ap:=iO H h6 λ x hx=>(hg x hx).toGOk;rw[E4];refine aQ ?_;simp[rP,ef,ap,h,line]
theorem Xt(o o':Option Pl):dC 5 (cC o) (cC o')=some (decide (o=o')):=by
 cases o with
 | none=>cases o' with
  | none=>rfl
  | some q=>rfl
 | some p=>cases o' with
  | none=>rfl
  | some q =>have:=Ho p q;show dC 5 (aK p) (aK q)=_;rw[this];simp
theorem Lg:∀a b:List GO,∃k,allEq (dC 5) (a.map λ x=>cC x.2) (b.map λ x=>cC x.2)=some k
 | [],[]=>⟨_,rfl⟩
 | [],_ :: _=>⟨_,rfl⟩
 | _ :: _,[]=>⟨_,rfl⟩
 | x :: a,y :: b=>by obtain⟨k,e⟩:=Lg a b;simp only[List.map_cons,allEq,Xt,e];exact⟨_,rfl⟩
theorem M4:∀a:List GO,allEq (dC 5) (a.map λ x=>cC x.2) (a.map λ x=>cC x.2)=some true
 | []=>rfl
 | x :: a=>by simp only[List.map_cons,allEq,Xt,M4 a];simp
theorem HE(m:List GO):∀L:List (List GO),∃k,fI (ay m) (L.map ay)=some k∧(m∈L->k=true)
 | []=>⟨false,rfl,λ h=>by cases h⟩
 | y :: L=>by
  obtain⟨k,e,h⟩:=HE m L;obtain⟨j,e2⟩:=Lg y m;have e3:lF (ay y) (ay m)=some j:=e2;refine⟨j || k,by simp only[List.map_cons,fI,e3,e],λ hm=>?_⟩;rcases List.mem_cons.mp hm with q | q
  ·subst q;rw[M4]at e2;cases e2;rfl
  ·rw[h q];simp
theorem K3{m:List GO}{L:List (List GO)}(h:m∈L):EB (ay m) (.lst (L.map ay))=.ok (.bl true)∧iw (ay m) (.lst (L.map ay))=.ok (.bl false):=by obtain⟨k,e,q⟩:=HE m L;rw[q h]at e;unfold EB iw;simp[e]
def rp(z:List GO):Bool:=!z.any λ x=>x.2.isNone
theorem D5:∀z:List GO,fI .non (z.map λ x=>cC x.2)=some (z.any λ x=>x.2.isNone)
 | []=>rfl
 | (g,o) :: z=>by
  have e:lF (cC o) .non=some o.isNone:=by cases o<;>rfl
  simp only[List.map_cons,fI,D5 z,e,List.any_cons]
theorem EC(z:List GO):iw .non (ay z)=.ok (.bl (rp z)):=by have:=D5 z;show(match fI .non (z.map λ x=>cC x.2)with | some b=>Res.ok (D.bl !b) | none=>.bad)=_;rw[this];rfl
theorem E3(z:List GO):rp z=true↔Full z:=by
 unfold rp Full;constructor
 ·intro h i g e;have:z.any (λ x=>x.2.isNone)=true:=List.any_eq_true.mpr ⟨_,List.mem_of_getElem? e,rfl⟩;rw[this]at h;cases h
 ·intro h;cases q:z.any (λ x=>x.2.isNone)with
  | false=>rfl
  | true =>
   obtain⟨⟨g,o⟩,hx,ho⟩:=List.any_eq_true.mp q;obtain⟨i,hi⟩:=List.getElem?_of_mem hx;cases o with
   | none=>exact(h i g hi).elim
   | some p=>cases ho
section
variable {rows:Rows}{C:Nat}{xs:List GO}
theorem AZ(H:Hall rows C)(hg:∀x∈xs,GOk x.1)(hk:Good rows xs)(z:List GO):z∈(bT rows C true xs xs.length).filter rp↔z∈bT rows C false xs xs.length:=by
 rw[List.mem_filter,E3];constructor
 ·rintro⟨h,f⟩;have:=iJ (C:=C) (sm:=true) hk (Nat.le_refl _) z h;exact jO (sm:=false) H hg this.ext this.good (.inr f)
 ·intro h;have:=iJ (C:=C) (sm:=false) hk (Nat.le_refl _) z h;exact⟨jO (sm:=true) H hg this.ext this.good (.inl rfl),zc this⟩
theorem facts(H:Hall rows C)(h6:xs.length≤6)(hp:∀x∈xs,kE x.1){z:List GO}(e:Ext xs z)(gz:Good rows z):
  bK [aF xs,ay z]=.ok (.int (wS z))∧cO [aF xs,ay z]=.ok (.int (wS z))∧KG.iZ [cu rows,aF xs,ay z]=.ok (.bl true):=by
 have hz:∀x∈z,kE x.1:=λ x hx=>by
  have:x.1∈xs.map (·.1):=by rw[e.gs];exact List.mem_map.mpr ⟨x,hx,rfl⟩
  obtain⟨y,hy,ey⟩:=List.mem_map.mp this;rw[<-ey];exact hp y hy
 have hl:z.length≤6:=by rw[<-e.len];exact h6
 refine⟨pI h6 (λ x hx=>(hp x hx).toGrpG) e.gs.symm,?_,?_⟩
 ·have:=yW hl hz;rw[we e.gs.symm]at this;exact this
 ·have:=GX H hl (λ x hx=>(hz x hx).toGOk) gz;rw[we e.gs.symm]at this;exact this
theorem E7{L:List (List GO)}{M:Int}(hL:∀z∈L,bK [aF xs,ay z]=.ok (.int (wS z))∧cO [aF xs,ay z]=.ok (.int (wS z))∧KG.iZ [cu rows,aF xs,ay z]=.ok (.bl true))(hm:∀z∈L,wS z≤M):
  iY [cu rows,aF xs,.lst (L.map ay),.int M]=.ok (.bl true):=by
 rw[Bm];refine aQ ?_;simp[mR];refine J6 (λ ρ=>∃x4 x5,ρ=[v (cu rows),v (aF xs),v (.lst (L.map ay)),vi M,x4,x5]) ⟨none,none,rfl⟩ ?_ ?_
 ·rintro d hd ρ ⟨x4,x5,rfl⟩;obtain⟨z,hz,rfl⟩:=List.mem_map.mp hd;obtain⟨h1,h2,h3⟩:=hL z hz;have nt:q8 (.bl true)=.ok (.bl false):=rfl;have ne:qH (.int (wS z)) (.int (wS z))=.ok (.bl false):=by simp[qH,lF,dC,FA]
  have hle:¬M < wS z:=by have:=hm z hz;lia
  simp[h1,h2,h3,nt,ne,hle]
 ·rintro ρ ⟨x4,x5,rfl⟩;simp
theorem EE(H:Hall rows C)(h6:xs.length≤6)(hp:∀x∈xs,kE x.1)(hk:Good rows xs)(hw:fg rows C xs≤2000)(h0:bT rows C false xs xs.length=[]):
  iU [cu rows,aF xs,ay xs]=.ok (.bl true):=by
 have hg:∀x∈xs,GOk x.1:=λ x hx=>(hp x hx).toGOk;have ef:=sL H h6 hg hk;have fo:=wq H h6 hg hk hw ef;rw[h0]at fo;dsimp only at fo;rcases uo H h6 (λ x hx=>(hp x hx).toGrpG) hk hw ef with⟨_,ba⟩ | ⟨m,_,hm,_⟩
 ·rcases t9 H h6 hg hk hw ef with⟨h,_⟩ | ⟨_,d,e1,e2,e3,e4⟩
  ·exact(h h0).elim
  ·have lh:=EL H h6 hg ef (e2 9);rw[e3]at lh;have nn:eH .non=.ok (.bl false):=rfl;have ib:EA true (.bl true)=.ok (.bl true):=rfl;rw[Bh];refine aQ ?_;simp[mP,e1,ba,fo,nn,e4,lh,ib]
 ·rw[h0]at hm;cases hm
theorem CI(H : Hall rows C)(h6 : xs.length ≤ 6)(hp : ∀x ∈ xs, kE x.1)(hk : Good rows xs)(hw : fg rows C xs ≤ 2000){b : List GO}{r : List (List GO)}(hE : (bT rows C true xs xs.length).filter rp = b :: r):
  gU [cu rows,aF xs,ay xs,.lst ((b :: r).map ay)]=.ok (.bl true):=by
 have hg:∀x∈xs,GOk x.1:=λ x hx=>(hp x hx).toGOk;have ef:=sL H h6 hg hk;have fo:=wq H h6 hg hk hw ef;have mf:=AZ H hg hk;have so:=(nK (C:=C) (sm:=true) hk (Nat.le_refl _)).filter rp;have Ws:=nK (C:=C) (sm:=false) hk (Nat.le_refl _);have Fx:=iJ (C:=C) (sm:=false) hk (Nat.le_refl _);have hlen:=lJ (rows:=rows) (C:=C) (sm:=true) (xs:=xs) (Nat.le_refl _);rw[List.take_length]at hlen;have MM:=List.length_filter_le rp (bT rows C true xs xs.length);unfold fg at hw;rw[hE]at so mf MM;have ff:∀z∈b :: r,Full z:=λ z hz=>zc (Fx z ((mf z).mp hz));obtain⟨s1,s2⟩:=List.pairwise_cons.mp so;have mn:=Me (ff b List.mem_cons_self) λ y hy=>⟨ff y (List.mem_cons_of_mem _ hy),s1 y hy⟩
 have hb:=(mf b).mp List.mem_cons_self;rcases uo H h6 (λ x hx=>(hp x hx).toGrpG) hk hw ef with⟨h0,_⟩ | ⟨m,ba,hm,sm,mm⟩
 ·rw[h0]at hb;cases hb
 rcases t9 H h6 hg hk hw ef with⟨_,po⟩ | ⟨h0,_⟩
 rotate_left
 ·rw[h0]at hb;cases hb
 have W3:=(mf m).mpr hm;have WH:∀z∈b :: r,cO [aF xs,ay z]=.ok (.int (wS z)):=λ z hz=>(facts H h6 hp (Fx z ((mf z).mp hz)).ext (Fx z ((mf z).mp hz)).good).2.1;have WG:∀z∈b :: r,wS z≤wS m:=λ z hz=>mm z ((mf z).mp hz);have wm:=(facts H h6 hp sm.ext sm.good).1;have mx:t! (.lst ((b :: r).map λ z=>.int (wS z)))=.ok (.int (wS m)):=by
  have:=Jn (wS b) (r.map wS);have e2:(r.map wS).foldl max (wS b)=wS m:=Cf (k:=0) (ns:=wS b :: r.map wS) (M:=wS m) (by
   rcases List.mem_cons.mp W3 with h | h
   ·rw[h];exact List.mem_cons_self
   ·exact List.mem_cons_of_mem _ (List.mem_map.mpr ⟨m,h,rfl⟩)) (λ x hx=>by
   rcases List.mem_cons.mp hx with rfl | hx
   ·exact WG b List.mem_cons_self
   ·obtain⟨z,hz,rfl⟩:=List.mem_map.mp hx;exact WG z (List.mem_cons_of_mem _ hz))
  rw[e2]at this;rw[<-this];simp[List.map_map,Function.comp_def]
 have ZA:cZ [cu rows,aF xs,ay xs]=.ok (ay b):=by
  cases e':bT rows C false xs xs.length with
  | nil=>rw[e']at hb;cases hb
  | cons b' r' =>
   rw[e']at fo Ws hb Fx mf;dsimp only at fo;have EX:=(mf b').mpr List.mem_cons_self;have VB:=zc (Fx b' List.mem_cons_self);have:b'=b:=by
    rcases List.mem_cons.mp hb with h | h
    ·exact h.symm
    ·rcases List.mem_cons.mp EX with h' | h'
     ·exact h'
     ·exact(Jv (ff b List.mem_cons_self) VB (s1 b' h') ((List.pairwise_cons.mp Ws).1 b h)).elim
   rw[this]at fo;exact fo
 have WO:=(K3 W3).1;have ne:qH (ay b) (ay b)=.ok (.bl false):=by have:lF (ay b) (ay b)=some true:=M4 b;unfold qH;rw[this];rfl
 have nn:eH .non=.ok (.bl false):=rfl;have eq:oEq (.int (wS m)) (.int (wS m))=.ok (.bl true):=by simp[oEq,lF,dC,FA]
 have DM:(b :: r).length≤16777216:=by lia
 rw[zk];refine aQ ?_;generalize hL:b :: r=L at mn WO WH mx DM;simp[k9,ba,ZA,mn,ne,po,nn,line,bY,cS,b?,DM];refine cE ay (λ _=>true) (λ z=>.int (wS z)) (λ z hz=>by simp[WH z hz]) ?_;rw[ji,mx];simp[WO,wm,eq]
noncomputable def tL:SF:=(aB (aM 8 (aw KB.kn (aa (eV 5) (aa (eV 4) (aa (eV 7) (aa (eC (.bl true)) ax)))))) (aB (aM 9 (aw KB.dN (aa (eV 1) (aa (eV 4) (aa (eV 7) ax))))) (aB (gi (yv (nA (tE (aw iY (aa (eV 1) (aa (eV 4) (aa (eV 8) (aa (eV 9) ax))))))) (tE (eB z7 (eU cM (eW 8)) (aw KB.oU (aa (eV 1) (aa (eV 4) (aa (eV 7) ax))))))) (a_ (eC (.bl false))) bF) (aB (aM 10 (aw KB.c4 (aa (eV 1) (aa (eV 4) (aa (eV 7) ax))))) (aB (gi (yv (tE (eB iw (eW 10) (eW 8))) (tE (eB qH (aw KB.cO (aa (eV 4) (aa (eV 10) ax))) (eW 9)))) (a_ (eC (.bl false))) bF) (aB (gi (tE (eU q8 (aw lT (aa (eV 1) (aa (eV 4) (aa (eV 9) (aa (aw ki (aa (eV 1) (aa (eV 4) (aa (eV 7) ax)))) (aa (eV 7) ax)))))))) (a_ (eC (.bl false))) bF) (aB (aM 11 (eL (cf (eY (eW 8)) 1 [] (bA 0) (tE (eB iw (eC .non) (eW 0))) (eV 0)))) (aB (gi (tE (eB oEq (eW 11) (eL (bX ax)))) (a_ (aw iU (aa (eV 1) (aa (eV 4) (aa (eV 7) ax))))) bF) (a_ (aw gU (aa (eV 1) (aa (eV 4) (aa (eV 7) (aa (eV 11) ax))))))))))))))
theorem Q1:D4=(aB (Ao (aw KH.iW (aa (eV 0) ax)) (xp [1,2,3])) (aB (aM 4 (aw KH.kj (aa (eV 1) (aa (aw KH.fT (aa (eV 0) (aa (eV 2) (aa (eV 3) ax)))) (aa (eC (.int 80)) ax))))) (aB (aM 5 (eL (cf (eY (eW 4)) 1 [1] (bA 0) dR (aw KH.eP (aa (eV 1) (aa (eV 0) ax)))))) (aB (aM 6 (aw KG.bM (aa (eB bj (aw KG.aL (aa (eV 0) (aa (eC (.int 16)) ax))) (aw KG.aL (aa (eV 0) (aa (eC (.int 0)) ax)))) (aa (eC (.int 5)) ax)))) (aB (aM 7 (aw KH.iX (aa (aw KH.fS (aa (eV 5) (aa (eV 4) (aa (eV 0) ax)))) (aa (eV 6) ax)))) tL))))):=rfl
theorem Ir(H : Hall rows C)(h6 : xs.length ≤ 6)(hp : ∀x ∈ xs, kE x.1)(hk : Good rows xs)(hw : fg rows C xs ≤ 2000)(a b c e : D):
  Ok (tL [v a,v (cu rows),v b,v c,v (aF xs),v (ig rows C xs),v e,v (ay xs),none,none,none,none]) λ fl=>bJ (.ok fl)=.ok (.bl true):=by
 have hg:∀x∈xs,GOk x.1:=λ x hx=>(hp x hx).toGOk;have ef:=sL H h6 hg hk;obtain⟨m,bs,bw,em,gm,mm⟩:=xF H h6 (λ x hx=>(hp x hx).toGrpG) hk hw ef;have la:=Cj (sm:=true) H h6 hk hw;have hi:=iJ (C:=C) (sm:=true) hk (Nat.le_refl _);have hlen:=lJ (rows:=rows) (C:=C) (sm:=true) (xs:=xs) (Nat.le_refl _);rw[List.take_length]at hlen;have wy:=C7 H h6 hg ef;have mL:=jO (sm:=true) H hg em gm (.inl rfl);have lw:=(facts H h6 hp em gm).2.1;obtain⟨d,t1,t2,t3⟩:=BQ H h6 hp hk ef bw mm;have bh:=BA H h6 hp ef (wS m) t2;rw[t3]at bh;have mf:=AZ H hg hk;have no:=EE H h6 hp hk hw;have ev:=@CI rows C xs H h6 hp hk hw;have ea:=E7 (rows:=rows) (xs:=xs) (L:=bT rows C true xs xs.length) (M:=wS m) (λ z hz=>facts H h6 hp (hi z hz).ext (hi z hz).good) λ z hz=>mm z (hi z hz).ext (hi z hz).good;generalize bT rows C true xs xs.length=L at la hi hlen mL mf ev ea;have ni:=(K3 mL).2;have ne:qH (.int (wS m)) (.int (wS m))=.ok (.bl false):=by simp[qH,lF,dC,FA]
 have nt:q8 (.bl true)=.ok (.bl false):=rfl;have DM:L.length≤16777216:=by unfold fg at hw;lia
 have Y?:¬((fg rows C xs:Nat):Int) < L.length:=by unfold fg;lia
 simp -implicitDefEqProofs [tL,la,bw,ea,wy,Y?,bs,ni,lw,ne,t1,bh,nt,line,bY,cS,b?,DM];refine cE ay rp ay (λ z hz=>by simp[EC]) ?_;cases q:L.filter rp with
 | nil =>
  have h0:bT rows C false xs xs.length=[]:=by
   cases e':bT rows C false xs xs.length with
   | nil=>rfl
   | cons z r =>have:=(mf z).mpr (by rw[e'];exact List.mem_cons_self);rw[q]at this;cases this
  have eN:oEq (.lst []) (.lst [])=.ok (.bl true):=rfl;simp[eN,no h0,line]
 | cons z r =>have eN:oEq (.lst (ay z :: r.map ay)) (.lst [])=.ok (.bl false):=rfl;have:=ev q;simp only[List.map_cons]at this;simp[eN,this,line]
end
theorem holds(ns:List Int)(hn:ns.length≤63)(hb:∀i∈ns,bits i≤2 ^ 20):sF [.lst (ns.map .int)]=.ok (.bl true):=by
 rw[M3];refine aQ ?_;obtain⟨rows,C,a,b,H,ha,NP,eh⟩:=KH.Cv hb;obtain⟨gs0,Va,K',ZP⟩:=KH.Cy hb ha NP;obtain⟨gs,Zb,v?,WY,VN⟩:=M1 H.toHall Va (λ g h=>(K' g h).toGOk) (most:=80) (by decide) (by decide);have Qc:∀g∈gs,kE g:=λ g h=>K' g (v? g h);have SE:∀g∈gs,GOk g:=λ g h=>(Qc g h).toGOk;obtain⟨zs,WR,wa,es⟩:=Eh H.toHall hb Zb;have NK:zs.length=gs.length:=by rw[<-WR,List.length_map]
 obtain⟨c16,VP,_⟩:=k4 hb (k:=16) (by decide);obtain⟨c0,ZR,_⟩:=k4 hb (k:=0) (by decide);obtain⟨m5,ZL,_⟩:=mixed (c16+c0) (k:=5) (by decide) (by decide);obtain⟨xs,BM,hxz,hk,ef⟩:=Hn (rows:=rows) (xs:=zs) (by lia) wa m5;rw[WR]at BM;have PV:xs.length≤6:=by have:=congrArg List.length BM;rw[List.length_map]at this;lia
 have YI:∀x∈xs,kE x.1:=λ x hx=>Qc x.1 (by rw[<-BM];exact List.mem_map.mpr ⟨x,hx,rfl⟩);have eG:D.tup (gs.map bB)=aF xs:=by rw[aF,<-BM,List.map_map];rfl
 have eS:D.lst (gs.map λ g=>.lst ((places rows C g).map aK))=ig rows C xs:=by rw[ig,<-BM,List.map_map];rfl
 have U6:gs.length≤16777216:=by lia
 have w1:fg rows C xs≤2000:=by have:=Im (rows:=rows) (C:=C) BM;lia
 have t:=Ir H.toHall PV YI hk w1 (.lst (ns.map .int));have Zx:∀(p q r:D)(ρ:Env),xp [1,2,3] (.tup [p,q,r]) ρ=.ok (((ρ.set 1 (v p)).set 2 (v q)).set 3 (v r)):=λ _ _ _ _=>rfl;simp -implicitDefEqProofs [Q1,eh,Zx,ZP,VN,bY,line,cS,b?,U6];refine cE bB (λ _=>true) (λ g=>.lst ((places rows C g).map aK)) ?_ ?_
 ·intro g hg;simp[KH.lR H.toHall (SE g hg)]
 rw[ji];rw[eS]at es;rw[eS];rw[eG]at es;rw[eG];simp -implicitDefEqProofs [VP,ZR,ZL,es,ef];exact t _ _ _
end Fo
set_option maxRecDepth 100000
namespace Fo
open PySem PySem.Spec PyProof.Rows L2 ZQ KG KH KB KC
def top(i:Nat):Stmt:=PySem.Challenge.pw_besideseats_k94_whole_all_ways.main.body.getD i (.Pass ⟨0,0,0,0⟩)
theorem zO:bootBuiltins "all" = some (.builtin "all"):=by kernel_rfl
theorem Kq:bootBuiltins "bool" = some (.type "bool"):=by kernel_rfl
theorem HC:bootBuiltins "int" = some (.type "int"):=by kernel_rfl
theorem fW:bootBuiltins "isinstance" = some (.builtin "isinstance"):=by kernel_rfl
theorem b7:bootBuiltins "len" = some (.builtin "len"):=by kernel_rfl
theorem wQ:bootBuiltins "max" = some (.builtin "max"):=by kernel_rfl
theorem HB:bootBuiltins "min" = some (.builtin "min"):=by kernel_rfl
theorem Nh:bootBuiltins "str" = some (.type "str"):=by kernel_rfl
theorem HA:bootBuiltins "sum" = some (.builtin "sum"):=by kernel_rfl
theorem dF:bootBuiltins "tuple" = some (.type "tuple"):=by kernel_rfl
section
variable {P:Program}{w:World}{K:PySem.W.Frag}{mg:Str->Option Value}{base:Heap}
abbrev pX:Stmt:=top 5
abbrev j!:List Str:=["thing"]
theorem t8:aA j! j! (au pX):=⟨rfl,rfl,rfl,by decide +kernel,rfl,by decide +kernel,by decide +kernel⟩
abbrev qx(P:Program)(w:World)(K:PySem.W.Frag)(mg:Str->Option Value)(base:Heap):Prop:=ZS.fK P w K mg base "is_whole" 1 j! (KC.kW)
theorem AM(d:ZS.Def K mg "is_whole" pX j!)(g_bool:mg "bool" = none)(ye:mg "int" = none)(cz:mg "isinstance" = none):qx P w K mg base :=
 cL (N:=j!) (b:=KC.mS) d t8 λ f bP A outer s H E hr=>have nd:=t8.nd;have hu:=hr.units;(aq (aD (lA (iC .int rfl cz fW rfl ye HC (av 0)) (iB (CL (iC .bool rfl cz fW rfl g_bool Kq (av 0)))))))
abbrev gF:Stmt:=top 6
abbrev du:List Str:=["thing", "least", "most"]
theorem jQ:aA du du (au gF):=⟨rfl,rfl,rfl,by decide +kernel,rfl,by decide +kernel,by decide +kernel⟩
abbrev h9(P:Program)(w:World)(K:PySem.W.Frag)(mg:Str->Option Value)(base:Heap):Prop:=ZS.fK P w K mg base "is_whole_within" 2 du (KC.ee)
theorem p?(d:ZS.Def K mg "is_whole_within" gF du)(qG:qx P w K mg base):h9 P w K mg base :=
 cL (N:=du) (b:=KC.cY) d jQ λ f bP A outer s H E hr=>have nd:=jQ.nd;have hu:=hr.units;(aq (aD (lA (aj qG (hr.mono (by decide)) rfl (ab (ao 0) ak)) (iB (wJ ZS.qj ZS.qj (av 1) (av 0) (av 2))))))
abbrev pL:Stmt:=top 15
abbrev j5:List Str:=["group", "row"]
theorem tO:aA j5 j5 (au pL):=⟨rfl,rfl,rfl,by decide +kernel,rfl,by decide +kernel,by decide +kernel⟩
abbrev mV(P:Program)(w:World)(K:PySem.W.Frag)(mg:Str->Option Value)(base:Heap):Prop:=ZS.fK P w K mg base "worth_in" 1 j5 (KB.iT)
theorem Ay(d:ZS.Def K mg "worth_in" pL j5)(yd:mg "sum" = none){u?:Tok}(wN:mg "WISHES" = some (.int 7 u?)){yt:Tok}(zM:mg "WORTH" = some (.int 6 yt)):mV P w K mg base :=
 cL (N:=j5) (b:=KB.mJ) d tO λ f bP A outer s H E hr=>have nd:=tO.nd;have hu:=hr.units;(aq (aD (aH (ah (aE (av 0) (ah (dk rfl zM)))) (ah (zw rfl yd HA (fV (cW rfl (eu (ah (aE (av 0) (ah (dk rfl wN))))) (N':=["wish", "row"]) (n:=1) (is:=[1]) (ZS.lE.of (by kernel_rfl)) (ZS.bz (by decide)) (λ _ _ _ _ _ _=>(aU (i:=0) (show List.Nodup (["wish", "row"]:List Str)by decide +kernel) rfl (lo rfl))) (λ _ _ _ _ _=>(gC (aR (ZS.qk hu) (ah (aE (av 0) (ah ae))) (av 1) (aS _)))) (λ _ _ _ _ _=>(aE (av 0) (ah ae))))))))))
abbrev rV:Stmt:=top 17
abbrev xU:List Str:=["hall", "seat", "row", "column"]
abbrev r?:List Str:=["hall", "seat"]
theorem vj:aA xU r? (au rV):=⟨rfl,rfl,rfl,by decide +kernel,rfl,by decide +kernel,by decide +kernel⟩
abbrev sU(P:Program)(w:World)(K:PySem.W.Frag)(mg:Str->Option Value)(base:Heap):Prop:=ZS.fK P w K mg base "sign_at" 1 r? (KG.mz)
theorem B'(d:ZS.Def K mg "sign_at" rV r?)(aO:mg "len" = none):sU P w K mg base :=
 cL (N:=xU) (b:=KG.gw) d vj λ f bP A outer s H E hr=>have nd:=vj.nd;have hu:=hr.units;(ag (aC (i:=2) nd rfl (lo rfl) (aE (av 1) (ah ae))) (ag (aC (i:=3) nd rfl (lo rfl) (aE (av 1) (ah ae))) (ag (bN (zo (kv (rH ZS.qj ZS.Kn (ah ae) (av 2) (ah (bU rfl aO b7 (av 0)))) (jy (rH ZS.qj ZS.Kn (ah ae) (av 3) (ah (bU rfl aO b7 (ah (aE (av 0) (ah ae))))))))) (aq (aD (aE (ah (aE (av 0) (av 2))) (av 3)))) aP) (aq (aD mF)))))
abbrev yC:Stmt:=top 19
abbrev q9:List Str:=["sign", "kind"]
theorem Al:aA q9 q9 (au yC):=⟨rfl,rfl,rfl,by decide +kernel,rfl,by decide +kernel,by decide +kernel⟩
abbrev zU(P:Program)(w:World)(K:PySem.W.Frag)(mg:Str->Option Value)(base:Heap):Prop:=ZS.fK P w K mg base "takes" 1 q9 (KG.rq)
theorem Gm(d:ZS.Def K mg "takes" yC q9): zU P w K mg base :=
 cL (N:=q9) (b:=KG.rO) d Al λ f bP A outer s H E hr=>have nd:=Al.nd;have hu:=hr.units;(aq (aD (Bt (eA (ZS.Nc hu) (av 0) (ah (cJ (ai (aV (by decide +kernel)) (ai (aV (by decide +kernel)) ak)))) (by with_unfolding_all rfl)) (iB (eA (ZS.qk hu) (av 0) (av 1) (aS _))))))
abbrev pN:Stmt:=top 20
abbrev vL:List Str:=["group", "place", "seats", "row"]
abbrev p3:List Str:=["group", "place"]
theorem tQ:aA vL p3 (au pN):=⟨rfl,rfl,rfl,by decide +kernel,rfl,by decide +kernel,by decide +kernel⟩
abbrev qo(P:Program)(w:World)(K:PySem.W.Frag)(mg:Str->Option Value)(base:Heap):Prop:=ZS.fK P w K mg base "seats_of" 1 p3 (KG.kT)
theorem AA(d:ZS.Def K mg "seats_of" pN p3)(aJ:mg "range" = none)(aX:mg "tuple" = none){qN:Tok}(mH:mg "DEPTH" = some (.int 2 qN)){qM:Tok}(mG:mg "WIDTH" = some (.int 1 qM)):qo P w K mg base :=
 cL (N:=vL) (b:=KG.mM) d tQ λ f bP A outer s H E hr=>have nd:=tQ.nd;have hu:=hr.units;(ag (gZ (i:=2) nd rfl (lo rfl) (bu ak)) (ag (cD PassesOwn.never rfl (rK rfl aJ (aE (av 1) (ah ae)) (aH (ah (aE (av 1) (ah ae))) (ah (aE (av 0) (ah (dk rfl mH)))))) (aU (i:=3) nd rfl (lo rfl)) (aq (CJ (i:=2) (pv 2) (cW rfl (wD (rK rfl aJ (aE (av 1) (ah ae)) (aH (ah (aE (av 1) (ah ae))) (ah (aE (av 0) (ah (dk rfl mG))))))) (N':=["column", "row"]) (n:=1) (is:=[3]) (ZS.lE.of (by kernel_rfl)) (ZS.bz (by decide)) (λ _ _ _ _ _ _=>(aU (i:=0) (show List.Nodup (["column", "row"]:List Str)by decide +kernel) rfl (lo rfl))) (λ _ _ _ _ _=>d9) (λ _ _ _ _ _=>(cJ (ab (ao 1) (ab (ao 0) ak)))))))) (aq (aD (dD rfl aX dF (av 2))))))
abbrev B2:Stmt:=top 21
abbrev GC:List Str:=["hall", "group", "place", "signs"]
abbrev B7:List Str:=["hall", "group", "place"]
theorem Dc:aA GC B7 (au B2):=⟨rfl,rfl,rfl,by decide +kernel,rfl,by decide +kernel,by decide +kernel⟩
abbrev zV(P:Program)(w:World)(K:PySem.W.Frag)(mg:Str->Option Value)(base:Heap):Prop:=ZS.fK P w K mg base "fits" 2 B7 (KG.rA)
theorem Jj(d:ZS.Def K mg "fits" B2 B7)(qz:qo P w K mg base)(tq:sU P w K mg base)(zY:zU P w K mg base)(pD:mg "all" = none){BW:Tok}(CU:mg "KIND" = some (.int 3 BW)){BV:Tok}(CT:mg "WIDE" = some (.int 4 BV)):zV P w K mg base :=
 cL (N:=GC) (b:=KG.zQ) d Dc λ f bP A outer s H E hr=>have nd:=Dc.nd;have hu:=hr.units;(ag (iM (i:=3) rfl nd rfl (lo rfl) (eu (ah (aj qz (hr.mono (by decide)) rfl (ab (ao 1) (ab (ao 2) ak))))) (N':=["seat", "hall"]) (n:=1) (is:=[0]) (ZS.lE.of (by kernel_rfl)) (ZS.bz (by decide)) (λ _ _ _ _ _ _=>(aU (i:=0) (show List.Nodup (["seat", "hall"]:List Str)by decide +kernel) rfl (lo rfl))) (λ _ _ _ _ _=>d9) (λ _ _ _ _ _=>(aj tq (hr.mono (by decide)) rfl (ab (ao 1) (ab (ao 0) ak))))) (ag (bN (gW (ku (sN rfl pD zO (fV (cW rfl (eu (av 3)) (N':=["sign", "group"]) (n:=1) (is:=[1]) (ZS.lE.of (by kernel_rfl)) (ZS.bz (by decide)) (λ _ _ _ _ _ _=>(aU (i:=0) (show List.Nodup (["sign", "group"]:List Str)by decide +kernel) rfl (lo rfl))) (λ _ _ _ _ _=>d9) (λ _ _ _ _ _=>(aj zY (hr.mono (by decide)) rfl (ab (ao 0) (b! (aE (av 1) (ah (dk rfl CU))) ak))))))))) (aq (aD dE)) aP) (aq (aD (eA ZS.Nd (ah (wI hu (av 3) (ah (aV (by decide +kernel))))) (ah (aE (av 1) (ah (dk rfl CT)))) (aS _))))))
abbrev nQ:Stmt:=top 22
abbrev t_:List Str:=["hall", "group", "places", "row"]
abbrev nY:List Str:=["hall", "group"]
theorem qO:aA t_ nY (au nQ):=⟨rfl,rfl,rfl,by decide +kernel,rfl,by decide +kernel,by decide +kernel⟩
abbrev i9(P:Program)(w:World)(K:PySem.W.Frag)(mg:Str->Option Value)(base:Heap):Prop:=ZS.fK P w K mg base "places_of" 3 nY (KG.fx)
theorem yO(d:ZS.Def K mg "places_of" nQ nY)(tH:zV P w K mg base)(aO:mg "len" = none)(aJ:mg "range" = none)(aX:mg "tuple" = none):i9 P w K mg base :=
 cL (N:=t_) (b:=KG.k6) d qO λ f bP A outer s H E hr=>have nd:=qO.nd;have hu:=hr.units;(ag (gZ (i:=2) nd rfl (lo rfl) (bu ak)) (ag (cD PassesOwn.never rfl (cX rfl aJ (bU rfl aO b7 (av 0))) (aU (i:=3) nd rfl (lo rfl)) (aq (CJ (i:=2) (pv 2) (cW rfl (wD (cX rfl aJ (bU rfl aO b7 (ah (aE (av 0) (av 3)))))) (N':=["column", "hall", "group", "row"]) (n:=1) (is:=[0,1,3]) (ZS.lE.of (by kernel_rfl)) (ZS.bz (by decide)) (λ _ _ _ _ _ _=>(aU (i:=0) (show List.Nodup (["column", "hall", "group", "row"]:List Str)by decide +kernel) rfl (lo rfl))) (λ _ _ _ _ _=>(gC (ku (aj tH (hr.mono (by decide)) rfl (ab (ao 1) (ab (ao 2) (lW (cJ (ab (ao 3) (ab (ao 0) ak))) ak))))))) (λ _ _ _ _ _=>(cJ (ab (ao 3) (ab (ao 0) ak)))))))) (aq (aD (dD rfl aX dF (av 2))))))
abbrev yE:Stmt:=top 24
abbrev Dr:List Str:=["one", "here", "other", "there", "gap"]
abbrev yM:List Str:=["one", "here", "other", "there"]
theorem An:aA Dr yM (au yE):=⟨rfl,rfl,rfl,by decide +kernel,rfl,by decide +kernel,by decide +kernel⟩
abbrev zW(P:Program)(w:World)(K:PySem.W.Frag)(mg:Str->Option Value)(base:Heap):Prop:=ZS.fK P w K mg base "apart" 1 yM (KG.rB)
theorem Gp(d:ZS.Def K mg "apart" yE yM)(j_:mg "max" = none){qN:Tok}(mH:mg "DEPTH" = some (.int 2 qN)){FL:Tok}(D3:mg "GAP" = some (.int 5 FL)){qM:Tok}(mG:mg "WIDTH" = some (.int 1 qM)):zW P w K mg base :=
 cL (N:=Dr) (b:=KG.mT) d An λ f bP A outer s H E hr=>have nd:=An.nd;have hu:=hr.units;(ag (bN (zo (kY (aR ZS.qj (ah (aH (ah (aE (av 1) (ah ae))) (ah (aE (av 0) (ah (dk rfl mH)))))) (ah (aE (av 3) (ah ae))) (aS _)) (jk (aR ZS.qj (ah (aH (ah (aE (av 3) (ah ae))) (ah (aE (av 2) (ah (dk rfl mH)))))) (ah (aE (av 1) (ah ae))) (aS _))))) (aq (aD dE)) aP) (ag (aC (i:=4) nd rfl (lo rfl) (uX rfl j_ wQ (ah (aE (av 0) (ah (dk rfl D3)))) (ah (aE (av 2) (ah (dk rfl D3)))))) (aq (aD (Bt (eA ZS.qj (ah (aH (ah (aH (ah (aE (av 1) (ah ae))) (ah (aE (av 0) (ah (dk rfl mG)))))) (av 4))) (ah (aE (av 3) (ah ae))) (aS _)) (iB (eA ZS.qj (ah (aH (ah (aH (ah (aE (av 3) (ah ae))) (ah (aE (av 2) (ah (dk rfl mG)))))) (av 4))) (ah (aE (av 1) (ah ae))) (aS _))))))))
abbrev ir:Stmt:=top 25
abbrev dS:List Str:=["groups", "seating"]
theorem kN:aA dS dS (au ir):=⟨rfl,rfl,rfl,by decide +kernel,rfl,by decide +kernel,by decide +kernel⟩
abbrev de(P:Program)(w:World)(K:PySem.W.Frag)(mg:Str->Option Value)(base:Heap):Prop:=ZS.fK P w K mg base "those_that_sit" 1 dS (KG.cA)
theorem qY(d:ZS.Def K mg "those_that_sit" ir dS)(iS:mg "zip" = none):de P w K mg base :=
 cL (N:=dS) (b:=KG.fy) d kN λ f bP A outer s H E hr=>have nd:=kN.nd;have hu:=hr.units;(aq (aD (qh (cW rfl (wD (qf rfl iS (ao 0) (ao 1))) (N':=["group", "place"]) (n:=2) (is:=[]) (ZS.lE.of (by kernel_rfl)) (ZS.oT (by decide)) (λ _ _ _ _ _ _=>(kz rfl (bb (i:=0) (show List.Nodup (["group", "place"]:List Str)by decide +kernel) rfl (lo rfl) (bb (i:=1) (show List.Nodup (["group", "place"]:List Str)by decide +kernel) rfl (lo rfl) e!)) rfl)) (λ _ _ _ _ _=>(gC (jx (av 1)))) (λ _ _ _ _ _=>(cJ (ab (ao 0) (ab (ao 1) ak))))))))
abbrev iv:Stmt:=top 26
abbrev dU:List Str:=["group", "place", "seated"]
theorem kO:aA dU dU (au iv):=⟨rfl,rfl,rfl,by decide +kernel,rfl,by decide +kernel,by decide +kernel⟩
abbrev fB(P:Program)(w:World)(K:PySem.W.Frag)(mg:Str->Option Value)(base:Heap):Prop:=ZS.fK P w K mg base "apart_from_all" 2 dU (KG.dB)
theorem qZ(d:ZS.Def K mg "apart_from_all" iv dU)(zZ:zW P w K mg base)(pD:mg "all" = none):fB P w K mg base :=
 cL (N:=dU) (b:=KG.fA) d kO λ f bP A outer s H E hr=>have nd:=kO.nd;have hu:=hr.units;(aq (aD (sN rfl pD zO (fV (cW rfl (eu (av 2)) (N':=["other", "there", "group", "place"]) (n:=2) (is:=[0,1]) (ZS.lE.of (by kernel_rfl)) (ZS.oT (by decide)) (λ _ _ _ _ _ _=>(kz rfl (bb (i:=0) (show List.Nodup (["other", "there", "group", "place"]:List Str)by decide +kernel) rfl (lo rfl) (bb (i:=1) (show List.Nodup (["other", "there", "group", "place"]:List Str)by decide +kernel) rfl (lo rfl) e!)) rfl)) (λ _ _ _ _ _=>d9) (λ _ _ _ _ _=>(aj zZ (hr.mono (by decide)) rfl (ab (ao 2) (ab (ao 3) (ab (ao 0) (ab (ao 1) ak)))))))))))
abbrev yD:Stmt:=top 27
abbrev Dq:List Str:=["hall", "groups", "seating", "seated"]
abbrev yL:List Str:=["hall", "groups", "seating"]
theorem Am:aA Dq yL (au yD):=⟨rfl,rfl,rfl,by decide +kernel,rfl,by decide +kernel,by decide +kernel⟩
abbrev u3(P:Program)(w:World)(K:PySem.W.Frag)(mg:Str->Option Value)(base:Heap):Prop:=ZS.fK P w K mg base "keeps" 3 yL (KG.iZ)
theorem Gn(d:ZS.Def K mg "keeps" yD yL)(dh:fB P w K mg base)(tH:zV P w K mg base)(bD:de P w K mg base)(pD:mg "all" = none)(aO:mg "len" = none)(aJ:mg "range" = none):u3 P w K mg base :=
 cL (N:=Dq) (b:=KG.u0) d Am λ f bP A outer s H E hr=>have nd:=Am.nd;have hu:=hr.units;(ag (aC (i:=3) nd rfl (lo rfl) (aj bD (hr.mono (by decide)) rfl (ab (ao 1) (ab (ao 2) ak)))) (ag (bN (gW (ku (sN rfl pD zO (fV (cW rfl (eu (av 3)) (N':=["group", "place", "hall"]) (n:=2) (is:=[0]) (ZS.lE.of (by kernel_rfl)) (ZS.oT (by decide)) (λ _ _ _ _ _ _=>(kz rfl (bb (i:=0) (show List.Nodup (["group", "place", "hall"]:List Str)by decide +kernel) rfl (lo rfl) (bb (i:=1) (show List.Nodup (["group", "place", "hall"]:List Str)by decide +kernel) rfl (lo rfl) e!)) rfl)) (λ _ _ _ _ _=>d9) (λ _ _ _ _ _=>(aj tH (hr.mono (by decide)) rfl (ab (ao 2) (ab (ao 0) (ab (ao 1) ak)))))))))) (aq (aD dE)) aP) (aq (aD (sN rfl pD zO (fV (cW rfl (wD (cX rfl aJ (bU rfl aO b7 (av 3)))) (N':=["k", "seated"]) (n:=1) (is:=[3]) (ZS.lE.of (by kernel_rfl)) (ZS.bz (by decide)) (λ _ _ _ _ _ _=>(aU (i:=0) (show List.Nodup (["k", "seated"]:List Str)by decide +kernel) rfl (lo rfl))) (λ _ _ _ _ _=>d9) (λ _ _ _ _ _=>(aj dh (hr.mono (by decide)) rfl (b! (aE (ah (aE (av 1) (av 0))) (ah ae)) (b! (aE (ah (aE (av 1) (av 0))) (ah ae)) (b! (qh (rJ (av 1) uk (nv (av 0)))) ak))))))))))))
abbrev pK:Stmt:=top 28
abbrev j4:List Str:=["groups", "seating"]
theorem tN:aA j4 j4 (au pK):=⟨rfl,rfl,rfl,by decide +kernel,rfl,by decide +kernel,by decide +kernel⟩
abbrev gj(P:Program)(w:World)(K:PySem.W.Frag)(mg:Str->Option Value)(base:Heap):Prop:=ZS.fK P w K mg base "worth_of" 2 j4 (KB.bK)
theorem Ax(d:ZS.Def K mg "worth_of" pK j4)(bD:de P w K mg base)(iE:mV P w K mg base)(yd:mg "sum" = none):gj P w K mg base :=
 cL (N:=j4) (b:=KB.mI) d tN λ f bP A outer s H E hr=>have nd:=tN.nd;have hu:=hr.units;(aq (aD (zw rfl yd HA (fV (cW rfl (eu (ah (aj bD (hr.mono (by decide)) rfl (ab (ao 0) (ab (ao 1) ak))))) (N':=["group", "place"]) (n:=2) (is:=[]) (ZS.lE.of (by kernel_rfl)) (ZS.oT (by decide)) (λ _ _ _ _ _ _=>(kz rfl (bb (i:=0) (show List.Nodup (["group", "place"]:List Str)by decide +kernel) rfl (lo rfl) (bb (i:=1) (show List.Nodup (["group", "place"]:List Str)by decide +kernel) rfl (lo rfl) e!)) rfl)) (λ _ _ _ _ _=>d9) (λ _ _ _ _ _=>(aj iE (hr.mono (by decide)) rfl (ab (ao 0) (b! (aE (av 1) (ah ae)) ak)))))))))
abbrev jU:Stmt:=top 31
abbrev og:List Str:=["hall", "groups", "fast", "seating"]
abbrev jZ:List Str:=["hall", "groups", "fast"]
theorem nc:aA og jZ (au jU):=⟨rfl,rfl,rfl,by decide +kernel,rfl,by decide +kernel,by decide +kernel⟩
abbrev cU(P:Program)(w:World)(K:PySem.W.Frag)(mg:Str->Option Value)(base:Heap):Prop:=ZS.fK P w K mg base "fast_seating" 4 jZ (KB.aN)
theorem uC(d:ZS.Def K mg "fast_seating" jU jZ)(o8:u3 P w K mg base)(aO:mg "len" = none):cU P w K mg base :=
 cL (N:=og) (b:=KB.hU) d nc λ f bP A outer s H E hr=>have nd:=nc.nd;have hu:=hr.units;(ag (aC (i:=3) nd rfl (lo rfl) (lV (oz (av 2)) (zx (ah (cJ (ai mF ak))) (ah (bU rfl aO b7 (av 1)))) (ao 2))) (ag (bN (gW (ku (aj o8 (hr.mono (by decide)) rfl (ab (ao 0) (ab (ao 1) (ab (ao 3) ak)))))) (aq zp) aP) (aq (aD (ao 3)))))
abbrev B1:Stmt:=top 32
abbrev GB:List Str:=["hall", "groups", "fast", "many", "group", "place"]
abbrev B6:List Str:=["hall", "groups", "fast"]
theorem C_:aA GB B6 (au B1):=⟨rfl,rfl,rfl,by decide +kernel,rfl,by decide +kernel,by decide +kernel⟩
abbrev zT(P:Program)(w:World)(K:PySem.W.Frag)(mg:Str->Option Value)(base:Heap):Prop:=ZS.qy P w K mg base "ways" 5 B6 (KB.oU)
theorem Ji(d:ZS.s_ K mg "ways" B1 B6)(aW:cU P w K mg base)(dG:i9 P w K mg base)(aO:mg "len" = none)(iS:mg "zip" = none):zT P w K mg base :=
 rN (N:=GB) (b:=KB.zP) d C_ λ f bP A outer s H E hr=>have nd:=C_.nd;have hu:=hr.units;(ag (aC (i:=3) nd rfl (lo rfl) ae) (ag (cD PassesOwn.never rfl (qf rfl iS (ao 1) (aj aW (hr.mono (by decide)) rfl (ab (ao 0) (ab (ao 1) (ab (ao 2) ak))))) (kz rfl (bb (i:=4) nd rfl (lo rfl) (bb (i:=5) nd rfl (lo rfl) e!)) rfl) (aq (bN (oz (av 5)) (aq (Kb (i:=3) nd rfl (lo rfl) (aH (ah (bU rfl aO b7 (ah (aj dG (hr.mono (by decide)) rfl (ab (ao 0) (ab (ao 4) ak)))))) (ah ae)))) aP))) (aq (aD (ao 3)))))
abbrev lg:Stmt:=top 33
abbrev pB:List Str:=["hall", "groups", "fast", "many"]
abbrev lu:List Str:=["hall", "groups", "fast"]
theorem nL:aA pB lu (au lg):=⟨rfl,rfl,rfl,by decide +kernel,rfl,by decide +kernel,by decide +kernel⟩
abbrev fZ(P:Program)(w:World)(K:PySem.W.Frag)(mg:Str->Option Value)(base:Heap):Prop:=ZS.fK P w K mg base "small_start" 6 lu (KB.dX)
theorem vC(d:ZS.Def K mg "small_start" lg lu)(aW:cU P w K mg base)(tj:zT P w K mg base){nH:Tok}(oB:mg "MOST_WAYS" = some (.int 2000 nH)):fZ P w K mg base :=
 cL (N:=pB) (b:=KB.iN) d nL λ f bP A outer s H E hr=>have nd:=nL.nd;have hu:=hr.units;(ag (aC (i:=3) nd rfl (lo rfl) (aj tj.full (hr.mono (by decide)) rfl (ab (ao 0) (ab (ao 1) (ab (ao 2) ak))))) (ag (bN (aR ZS.zL (av 3) (ah (dk rfl oB)) (aS _)) (aq zp) aP) (aq (aD (aj aW (hr.mono (by decide)) rfl (ab (ao 0) (ab (ao 1) (ab (ao 2) ak))))))))
abbrev l8:Stmt:=top 34
abbrev gJ:List Str:=["seating", "k", "place"]
theorem o?:aA gJ gJ (au l8):=⟨rfl,rfl,rfl,by decide +kernel,rfl,by decide +kernel,by decide +kernel⟩
abbrev eF(P:Program)(w:World)(K:PySem.W.Frag)(mg:Str->Option Value)(base:Heap):Prop:=ZS.fK P w K mg base "with_place" 1 gJ (KH.cx)
theorem w_(d:ZS.Def K mg "with_place" l8 gJ): eF P w K mg base :=
 cL (N:=gJ) (b:=KH.jz) d o? λ f bP A outer s H E hr=>have nd:=o?.nd;have hu:=hr.units;(aq (aD (aH (ah (aH (ah (i4 (av 0) uk (nv (av 1)))) (ah (cJ (ab (ao 2) ak))))) (ah (i4 (av 0) (nv (ah (aH (av 1) (ah ae)))) uk)))))
abbrev l9:Stmt:=top 35
abbrev gK:List Str:=["places", "group", "seated"]
theorem o_:aA gK gK (au l9):=⟨rfl,rfl,rfl,by decide +kernel,rfl,by decide +kernel,by decide +kernel⟩
abbrev jF(P:Program)(w:World)(K:PySem.W.Frag)(mg:Str->Option Value)(base:Heap):Prop:=ZS.fK P w K mg base "open_among" 3 gK (KH.eO)
theorem xa(d:ZS.Def K mg "open_among" l9 gK)(dh:fB P w K mg base)(aX:mg "tuple" = none):jF P w K mg base :=
 cL (N:=gK) (b:=KH.jA) d o_ λ f bP A outer s H E hr=>have nd:=o_.nd;have hu:=hr.units;(aq (aD (dD rfl aX dF (fV (cW rfl (eu (av 0)) (N':=["place", "group", "seated"]) (n:=1) (is:=[1,2]) (ZS.lE.of (by kernel_rfl)) (ZS.bz (by decide)) (λ _ _ _ _ _ _=>(aU (i:=0) (show List.Nodup (["place", "group", "seated"]:List Str)by decide +kernel) rfl (lo rfl))) (λ _ _ _ _ _=>(gC (ku (aj dh (hr.mono (by decide)) rfl (ab (ao 1) (ab (ao 0) (ab (ao 2) ak))))))) (λ _ _ _ _ _=>(ao 0)))))))
abbrev ja:Stmt:=top 36
abbrev nj:List Str:=["hall", "groups", "seatings", "k", "some", "places", "wider", "seating", "seated"]
abbrev je:List Str:=["hall", "groups", "seatings", "k", "some"]
theorem lK:aA nj je (au ja):=⟨rfl,rfl,rfl,by decide +kernel,rfl,by decide +kernel,by decide +kernel⟩
abbrev jn(P:Program)(w:World)(K:PySem.W.Frag)(mg:Str->Option Value)(base:Heap):Prop:=ZS.fK P w K mg base "with_one_more" 4 je (KB.fw)
theorem sh(d:ZS.Def K mg "with_one_more" ja je)(fD:jF P w K mg base)(dG:i9 P w K mg base)(bD:de P w K mg base)(bf:eF P w K mg base):jn P w K mg base :=
 cL (N:=nj) (b:=KB.f?) d lK λ f bP A outer s H E hr=>have nd:=lK.nd;have hu:=hr.units;(ag (aC (i:=5) nd rfl (lo rfl) (aj dG (hr.mono (by decide)) rfl (ab (ao 0) (b! (aE (av 1) (av 3)) ak)))) (ag (gZ (i:=6) nd rfl (lo rfl) (bu ak)) (ag (cD PassesOwn.never rfl (jl (ao 2)) (aU (i:=7) nd rfl (lo rfl)) (ag (aC (i:=8) nd rfl (lo rfl) (aj bD (hr.mono (by decide)) rfl (ab (ao 1) (ab (ao 7) ak)))) (ag (CJ (i:=6) (pv 6) (cW rfl (eu (ah (aj fD (hr.mono (by decide)) rfl (ab (ao 5) (b! (aE (av 1) (av 3)) (ab (ao 8) ak)))))) (N':=["place", "seating", "k"]) (n:=1) (is:=[7,3]) (ZS.lE.of (by kernel_rfl)) (ZS.bz (by decide)) (λ _ _ _ _ _ _=>(aU (i:=0) (show List.Nodup (["place", "seating", "k"]:List Str)by decide +kernel) rfl (lo rfl))) (λ _ _ _ _ _=>d9) (λ _ _ _ _ _=>(aj bf (hr.mono (by decide)) rfl (ab (ao 1) (ab (ao 2) (ab (ao 0) ak))))))) (aq (bN (ku (ao 4)) (aq (g9 (i:=6) (pv 6) (ao 7))) aP))))) (mD (i:=6) (aq (aD (ao 6)))))))
abbrev jc:Stmt:=top 37
abbrev nk:List Str:=["hall", "groups", "start", "some", "seatings", "k"]
abbrev jf:List Str:=["hall", "groups", "start", "some"]
theorem lM:aA nk jf (au jc):=⟨rfl,rfl,rfl,by decide +kernel,rfl,by decide +kernel,by decide +kernel⟩
abbrev eK(P:Program)(w:World)(K:PySem.W.Frag)(mg:Str->Option Value)(base:Heap):Prop:=ZS.fK P w K mg base "seatings_from" 5 jf (KB.da)
theorem sk(d:ZS.Def K mg "seatings_from" jc jf)(jo:jn P w K mg base)(aO:mg "len" = none)(aJ:mg "range" = none):eK P w K mg base :=
 cL (N:=nk) (b:=KB.gc) d lM λ f bP A outer s H E hr=>have nd:=lM.nd;have hu:=hr.units;(ag (aC (i:=4) nd rfl (lo rfl) (qh (bu (ab (ao 2) ak)))) (ag (cD PassesOwn.never rfl (cX rfl aJ (bU rfl aO b7 (av 1))) (aU (i:=5) nd rfl (lo rfl)) (aq (bN (oz (ah (aE (av 2) (av 5)))) (aq (aC (i:=4) nd rfl (lo rfl) (aj jo (hr.mono (by decide)) rfl (ab (ao 0) (ab (ao 1) (ab (ao 4) (ab (ao 5) (ab (ao 3) ak)))))))) aP))) (aq (aD (ao 4)))))
abbrev jT:Stmt:=top 38
abbrev n_:List Str:=["hall", "groups", "fast", "seatings"]
abbrev jY:List Str:=["hall", "groups", "fast"]
theorem m_:aA n_ jY (au jT):=⟨rfl,rfl,rfl,by decide +kernel,rfl,by decide +kernel,by decide +kernel⟩
abbrev fq(P:Program)(w:World)(K:PySem.W.Frag)(mg:Str->Option Value)(base:Heap):Prop:=ZS.qy P w K mg base "first_of_all" 7 jY (KC.cZ)
theorem uB(d:ZS.s_ K mg "first_of_all" jT jY)(b_:eK P w K mg base)(cP:fZ P w K mg base)(aO:mg "len" = none):fq P w K mg base :=
 rN (N:=n_) (b:=KC.fm) d m_ λ f bP A outer s H E hr=>have nd:=m_.nd;have hu:=hr.units;(ag (aC (i:=3) nd rfl (lo rfl) (aj b_ (hr.mono (by decide)) rfl (ab (ao 0) (ab (ao 1) (bg (aj cP (hr.mono (by decide)) rfl (ab (ao 0) (ab (ao 1) (ab (ao 2) ak)))) (ai dE ak)))))) (aq (aD (lV (aR ZS.zL (ah (bU rfl aO b7 (av 3))) (ah ae) (aS _)) (aE (av 3) (ah ae)) mF))))
abbrev me:Stmt:=top 40
abbrev gN:List Str:=["groups", "seatings"]
theorem pw:aA gN gN (au me):=⟨rfl,rfl,rfl,by decide +kernel,rfl,by decide +kernel,by decide +kernel⟩
abbrev jJ(P:Program)(w:World)(K:PySem.W.Frag)(mg:Str->Option Value)(base:Heap):Prop:=ZS.fK P w K mg base "best_among" 5 gN (KB.eQ)
theorem xj(d:ZS.Def K mg "best_among" me gN)(L:ZS.Fn K mg "best_among")(cj:gj P w K mg base)(j_:mg "max" = none):jJ P w K mg base :=
 Ld (N:=gN) (b:=KB.hW) d pw L λ f bP A outer s H E hl hr=>have nd:=pw.nd;have hu:=hr.units;have UK:=λ env=>ZS.Ap (k:=2) (hr.mono (by decide)) env;(aq (aD (zB (ZS.DB hl (by decide +kernel)) (ZS.F2 hr) rfl j_ wQ (av 1) (N':=["seating", "groups"]) (is:=[0]) (ZS.lE.of (by kernel_rfl)) rfl (λ _ _ _ _ _=>(aj cj ((UK _).mono (by decide)) rfl (ab (ao 1) (ab (ao 0) ak)))) (λ _ _ _ _ _ _=>rfl))))
abbrev ll:Stmt:=top 41
abbrev pC:List Str:=["hall", "groups", "fast", "start"]
abbrev lx:List Str:=["hall", "groups", "fast"]
theorem nO:aA pC lx (au ll):=⟨rfl,rfl,rfl,by decide +kernel,rfl,by decide +kernel,by decide +kernel⟩
abbrev iP(P:Program)(w:World)(K:PySem.W.Frag)(mg:Str->Option Value)(base:Heap):Prop:=ZS.qy P w K mg base "best_of_all" 7 lx (KB.dY)
theorem vE(d:ZS.s_ K mg "best_of_all" ll lx)(fH:jJ P w K mg base)(b_:eK P w K mg base)(cP:fZ P w K mg base):iP P w K mg base :=
 rN (N:=pC) (b:=KB.fY) d nO λ f bP A outer s H E hr=>have nd:=nO.nd;have hu:=hr.units;(ag (aC (i:=3) nd rfl (lo rfl) (aj cP (hr.mono (by decide)) rfl (ab (ao 0) (ab (ao 1) (ab (ao 2) ak))))) (aq (aD (aj fH (hr.mono (by decide)) rfl (ab (ao 1) (bg (aj b_ (hr.mono (by decide)) rfl (ab (ao 0) (ab (ao 1) (ab (ao 3) (ai dE ak))))) ak))))))
abbrev jV:Stmt:=top 42
abbrev oh:List Str:=["hall", "groups", "fast", "start"]
abbrev j0:List Str:=["hall", "groups", "fast"]
theorem ng:aA oh j0 (au jV):=⟨rfl,rfl,rfl,by decide +kernel,rfl,by decide +kernel,by decide +kernel⟩
abbrev h!(P:Program)(w:World)(K:PySem.W.Frag)(mg:Str->Option Value)(base:Heap):Prop:=ZS.qy P w K mg base "best_of_some" 7 j0 (KB.c4)
theorem uD(d:ZS.s_ K mg "best_of_some" jV j0)(fH:jJ P w K mg base)(b_:eK P w K mg base)(cP:fZ P w K mg base):h! P w K mg base :=
 rN (N:=oh) (b:=KB.hV) d ng λ f bP A outer s H E hr=>have nd:=ng.nd;have hu:=hr.units;(ag (aC (i:=3) nd rfl (lo rfl) (aj cP (hr.mono (by decide)) rfl (ab (ao 0) (ab (ao 1) (ab (ao 2) ak))))) (aq (aD (aj fH (hr.mono (by decide)) rfl (ab (ao 1) (bg (aj b_ (hr.mono (by decide)) rfl (ab (ao 0) (ab (ao 1) (ab (ao 3) (ai dE ak))))) ak))))))
abbrev md:Stmt:=top 43
abbrev gM:List Str:=["hall", "groups", "fast"]
theorem pq:aA gM gM (au md):=⟨rfl,rfl,rfl,by decide +kernel,rfl,by decide +kernel,by decide +kernel⟩
abbrev jI(P:Program)(w:World)(K:PySem.W.Frag)(mg:Str->Option Value)(base:Heap):Prop:=ZS.qy P w K mg base "best_worth" 8 gM (KB.dN)
theorem xi(d:ZS.s_ K mg "best_worth" md gM)(d6:h! P w K mg base)(cj:gj P w K mg base):jI P w K mg base :=
 rN (N:=gM) (b:=KB.jD) d pq λ f bP A outer s H E hr=>have nd:=pq.nd;have hu:=hr.units;(aq (aD (aj cj (hr.mono (by decide)) rfl (ab (ao 1) (bg (aj d6.full (hr.mono (by decide)) rfl (ab (ao 0) (ab (ao 1) (ab (ao 2) ak)))) ak)))))
abbrev mh:Stmt:=top 45
abbrev gO:List Str:=["hall", "groups"]
theorem pz:aA gO gO (au mh):=⟨rfl,rfl,rfl,by decide +kernel,rfl,by decide +kernel,by decide +kernel⟩
abbrev fC(P:Program)(w:World)(K:PySem.W.Frag)(mg:Str->Option Value)(base:Heap):Prop:=ZS.fK P w K mg base "all_places" 4 gO (KC.dO)
theorem xk(d:ZS.Def K mg "all_places" mh gO)(dG:i9 P w K mg base):fC P w K mg base :=
 cL (N:=gO) (b:=KC.jE) d pz λ f bP A outer s H E hr=>have nd:=pz.nd;have hu:=hr.units;(aq (aD (qh (cW rfl (eu (av 1)) (N':=["group", "hall"]) (n:=1) (is:=[0]) (ZS.lE.of (by kernel_rfl)) (ZS.bz (by decide)) (λ _ _ _ _ _ _=>(aU (i:=0) (show List.Nodup (["group", "hall"]:List Str)by decide +kernel) rfl (lo rfl))) (λ _ _ _ _ _=>d9) (λ _ _ _ _ _=>(aj dG (hr.mono (by decide)) rfl (ab (ao 1) (ab (ao 0) ak))))))))
abbrev pM:Stmt:=top 46
abbrev j6:List Str:=["groups", "places", "seating", "k"]
theorem tP:aA j6 j6 (au pM):=⟨rfl,rfl,rfl,by decide +kernel,rfl,by decide +kernel,by decide +kernel⟩
abbrev gn(P:Program)(w:World)(K:PySem.W.Frag)(mg:Str->Option Value)(base:Heap):Prop:=ZS.fK P w K mg base "spots_of" 4 j6 (KC.bZ)
theorem Az(d:ZS.Def K mg "spots_of" pM j6)(fD:jF P w K mg base)(bD:de P w K mg base):gn P w K mg base :=
 cL (N:=j6) (b:=KC.mK) d tP λ f bP A outer s H E hr=>have nd:=tP.nd;have hu:=hr.units;(aq (aD (aj fD (hr.mono (by decide)) rfl (b! (aE (av 1) (av 3)) (b! (aE (av 0) (av 3)) (bg (aj bD (hr.mono (by decide)) rfl (ab (ao 0) (ab (ao 2) ak))) ak))))))
abbrev ma:Stmt:=top 47
abbrev gL:List Str:=["seating", "thing"]
theorem pj:aA gL gL (au ma):=⟨rfl,rfl,rfl,by decide +kernel,rfl,by decide +kernel,by decide +kernel⟩
abbrev jH(P:Program)(w:World)(K:PySem.W.Frag)(mg:Str->Option Value)(base:Heap):Prop:=ZS.fK P w K mg base "is_waiting" 3 gL (KC.fU)
theorem xh(d:ZS.Def K mg "is_waiting" ma gL)(h_:h9 P w K mg base)(aO:mg "len" = none):jH P w K mg base :=
 cL (N:=gL) (b:=KC.eE) d pj λ f bP A outer s H E hr=>have nd:=pj.nd;have hu:=hr.units;(aq (aD (lA (aj h_ (hr.mono (by decide)) rfl (ab (ao 1) (ai ae (cI (sM (ah (bU rfl aO b7 (av 0))) (ah ae)) ak)))) (iB (CN (ah (aE (av 0) (av 1))))))))
abbrev lq:Stmt:=top 48
abbrev fR:List Str:=["thing", "word", "length"]
theorem nP:aA fR fR (au lq):=⟨rfl,rfl,rfl,by decide +kernel,rfl,by decide +kernel,by decide +kernel⟩
abbrev f7(P:Program)(w:World)(K:PySem.W.Frag)(mg:Str->Option Value)(base:Heap):Prop:=ZS.fK P w K mg base "begins_with" 1 fR (KC.cB)
theorem vF(d:ZS.Def K mg "begins_with" lq fR)(cz:mg "isinstance" = none)(aO:mg "len" = none)(Hb:mg "str" = none)(aX:mg "tuple" = none):f7 P w K mg base :=
 cL (N:=fR) (b:=KC.c!) d nP λ f bP A outer s H E hr=>have nd:=nP.nd;have hu:=hr.units;(ag (bN (zo (kY (gW (ku (iC .tuple rfl cz fW rfl aX dF (av 0)))) (jk (aR (ZS.uM hu) (ah (bU rfl aO b7 (av 0))) (av 2) (aS _))))) (aq (aD dE)) aP) (aq (aD (lA (iC .str rfl cz fW rfl Hb Nh (ah (aE (av 0) (ah ae)))) (iB (eA (ZS.qk hu) (ah (aE (av 0) (ah ae))) (av 1) (aS _)))))))
abbrev r0:Stmt:=top 49
abbrev lQ:List Str:=["thing"]
theorem vp:aA lQ lQ (au r0):=⟨rfl,rfl,rfl,by decide +kernel,rfl,by decide +kernel,by decide +kernel⟩
abbrev o7(P:Program)(w:World)(K:PySem.W.Frag)(mg:Str->Option Value)(base:Heap):Prop:=ZS.fK P w K mg base "is_each" 2 lQ (KC.iA)
theorem Cb(d:ZS.Def K mg "is_each" r0 lQ)(b8:f7 P w K mg base)(cz:mg "isinstance" = none)(aX:mg "tuple" = none):o7 P w K mg base :=
 cL (N:=lQ) (b:=KC.jK) d vp λ f bP A outer s H E hr=>have nd:=vp.nd;have hu:=hr.units;(aq (aD (lA (aj b8 (hr.mono (by decide)) rfl (ab (ao 0) (ai (aV (by decide +kernel)) (ai ae ak)))) (iB (iC .tuple rfl cz fW rfl aX dF (ah (aE (av 0) (ah ae))))))))
abbrev iu:Stmt:=top 50
abbrev iy:List Str:=["groups", "places", "seating", "paper", "k", "spots", "papers", "place", "inner"]
abbrev fv:List Str:=["groups", "places", "seating", "paper"]
theorem gE:aA iy fv (au iu):=⟨rfl,rfl,rfl,by decide +kernel,rfl,by decide +kernel,by decide +kernel⟩
abbrev l0(P:Program)(w:World)(K:PySem.W.Frag)(mg:Str->Option Value)(base:Heap):Prop:=ZS.fK P w K mg base "lets_by_beside" 14 fv (KC.b0 9)
theorem kR(d:ZS.Def K mg "lets_by_beside" iu fv)(b8:f7 P w K mg base)(fF:o7 P w K mg base)(dI:jH P w K mg base)(bH:gn P w K mg base)(bf:eF P w K mg base)(aO:mg "len" = none)(iS:mg "zip" = none):∀j,ZS.fK P w K mg base "lets_by_beside" (5+j) fv (KC.b0 j)
 | 0=>ZS.zJ (cL (k:=4) (N:=iy) (b:=Z.vt) d gE λ _ _ _ _ _ _ _ _=>oV)
 | j+1=>cL (k:=5+j) (N:=iy) (b:=KC.bq (KC.b0 j)) d gE λ f bP A outer s H E hr=>have m7:=kR d b8 fF dI bH bf aO iS j;have nd:=gE.nd;have hu:=hr.units;(ag (bN (zo (kv (gW (ku (aj b8 (hr.mono (by omega)) rfl (ab (ao 3) (ai (aV (by decide +kernel)) (ai ae ak)))))) (jy (gW (ku (aj fF (hr.mono (by omega)) rfl (ab (ao 3) ak))))))) (aq (aD dE)) aP) (ag (bN (gW (ku (aj dI (hr.mono (by omega)) rfl (ab (ao 2) (b! (aE (av 3) (ah ae)) ak))))) (aq (aD dE)) aP) (ag (aC (i:=4) nd rfl (lo rfl) (aE (av 3) (ah ae))) (ag (aC (i:=5) nd rfl (lo rfl) (aj bH (hr.mono (by omega)) rfl (ab (ao 0) (ab (ao 1) (ab (ao 2) (ab (ao 4) ak)))))) (ag (aC (i:=6) nd rfl (lo rfl) (lV (ku (aj fF (hr.mono (by omega)) rfl (ab (ao 3) ak))) (aE (av 3) (ah ae)) (cJ ak))) (ag (bN (aR (ZS.uM hu) (ah (bU rfl aO b7 (av 6))) (ah (bU rfl aO b7 (av 5))) (aS _)) (aq (aD dE)) aP) (ag (cD PassesOwn.never rfl (qf rfl iS (ao 5) (ao 6)) (kz rfl (bb (i:=7) nd rfl (lo rfl) (bb (i:=8) nd rfl (lo rfl) e!)) rfl) (aq (bN (gW (ku (aj m7 (hr.mono (Nat.le_refl _)) rfl (ab (ao 0) (ab (ao 1) (bg (aj bf (hr.mono (by omega)) rfl (ab (ao 2) (ab (ao 4) (ab (ao 7) ak)))) (ab (ao 8) ak))))))) (aq (aD dE)) aP))) (aq (aD dE)))))))))
abbrev rW:Stmt:=top 51
abbrev xV:List Str:=["hall", "groups", "paper", "fast", "seating"]
abbrev r_:List Str:=["hall", "groups", "paper", "fast"]
theorem vk:aA xV r_ (au rW):=⟨rfl,rfl,rfl,by decide +kernel,rfl,by decide +kernel,by decide +kernel⟩
abbrev sV(P:Program)(w:World)(K:PySem.W.Frag)(mg:Str->Option Value)(base:Heap):Prop:=ZS.qy P w K mg base "lets_by" 15 r_ (KC.mB)
theorem B!(d:ZS.s_ K mg "lets_by" rW r_)(cb:fC P w K mg base)(aW:cU P w K mg base)(iG:l0 P w K mg base):sV P w K mg base :=
 rN (N:=xV) (b:=KC.o5) d vk λ f bP A outer s H E hr=>have nd:=vk.nd;have hu:=hr.units;(ag (aC (i:=4) nd rfl (lo rfl) (aj aW (hr.mono (by decide)) rfl (ab (ao 0) (ab (ao 1) (ab (ao 3) ak))))) (aq (aD (aj iG (hr.mono (by decide)) rfl (ab (ao 1) (bg (aj cb (hr.mono (by decide)) rfl (ab (ao 0) (ab (ao 1) ak))) (ab (ao 4) (ab (ao 2) ak))))))))
abbrev jR:Stmt:=top 52
abbrev j8:List Str:=["groups", "places", "seating", "waiting", "k", "spots", "papers"]
abbrev gH:List Str:=["groups", "places", "seating"]
theorem i_:aA j8 gH (au jR):=⟨rfl,rfl,rfl,by decide +kernel,rfl,by decide +kernel,by decide +kernel⟩
abbrev oC(P:Program)(w:World)(K:PySem.W.Frag)(mg:Str->Option Value)(base:Heap):Prop:=ZS.fK P w K mg base "paper_beside" 16 gH (KC.bG 9)
theorem nh(d:ZS.Def K mg "paper_beside" jR gH)(L:ZS.Fn K mg "paper_beside")(bH:gn P w K mg base)(bf:eF P w K mg base)(aO:mg "len" = none)(wg:mg "min" = none)(aJ:mg "range" = none)(aX:mg "tuple" = none):∀j,ZS.fK P w K mg base "paper_beside" (7+j) gH (KC.bG j)
 | 0=>ZS.zJ (cL (k:=6) (N:=j8) (b:=Z.vt) d i_ λ _ _ _ _ _ _ _ _=>oV)
 | j+1=>Ld (k:=7+j) (N:=j8) (b:=KC.fi (KC.bG j)) d i_ L λ f bP A outer s H E hl hr=>have m7:=nh d L bH bf aO wg aJ aX j;have nd:=i_.nd;have hu:=hr.units;have UK:=λ env=>ZS.Ap (k:=4) (hr.mono (by lia)) env;(ag (iM (i:=3) rfl nd rfl (lo rfl) (wD (cX rfl aJ (bU rfl aO b7 (av 0)))) (N':=["k", "seating"]) (n:=1) (is:=[2]) (ZS.lE.of (by kernel_rfl)) (ZS.bz (by decide)) (λ _ _ _ _ _ _=>(aU (i:=0) (show List.Nodup (["k", "seating"]:List Str)by decide +kernel) rfl (lo rfl))) (λ _ _ _ _ _=>(gC (oz (ah (aE (av 1) (av 0)))))) (λ _ _ _ _ _=>(ao 0))) (ag (aC (i:=4) nd rfl (lo rfl) (zz (ZS.DB hl (by decide +kernel)) (ZS.F2 hr) rfl wg HB (av 3) (N':=["j", "groups", "places", "seating"]) (is:=[0,1,2]) (ZS.lE.of (by kernel_rfl)) rfl (λ _ _ _ _ _=>(bU rfl aO b7 (ah (aj bH ((UK _).mono (by omega)) rfl (ab (ao 1) (ab (ao 2) (ab (ao 3) (ab (ao 0) ak)))))))) (λ _ _ _ _ _ _=>rfl))) (ag (aC (i:=5) nd rfl (lo rfl) (aj bH (hr.mono (by omega)) rfl (ab (ao 0) (ab (ao 1) (ab (ao 2) (ab (ao 4) ak)))))) (ag (bN (aR (ZS.qk hu) (av 5) (ah (cJ ak)) (aS _)) (aq (aD (cJ (ai (aV (by decide +kernel)) (ab (ao 4) ak))))) aP) (ag (iM (i:=6) rfl nd rfl (lo rfl) (eu (av 5)) (N':=["place", "groups", "places", "seating", "k"]) (n:=1) (is:=[0,1,2,4]) (ZS.lE.of (by kernel_rfl)) (ZS.bz (by decide)) (λ _ _ _ _ _ _=>(aU (i:=0) (show List.Nodup (["place", "groups", "places", "seating", "k"]:List Str)by decide +kernel) rfl (lo rfl))) (λ _ _ _ _ _=>d9) (λ _ _ _ _ _=>(aj m7 (hr.mono (Nat.le_refl _)) rfl (ab (ao 1) (ab (ao 2) (bg (aj bf (hr.mono (by omega)) rfl (ab (ao 3) (ab (ao 4) (ab (ao 0) ak)))) ak)))))) (aq (aD (cJ (ai (aV (by decide +kernel)) (ab (ao 4) (bg (dD rfl aX dF (av 6)) ak)))))))))))
abbrev pO:Stmt:=top 53
abbrev j7:List Str:=["hall", "groups", "fast"]
theorem tR:aA j7 j7 (au pO):=⟨rfl,rfl,rfl,by decide +kernel,rfl,by decide +kernel,by decide +kernel⟩
abbrev mW(P:Program)(w:World)(K:PySem.W.Frag)(mg:Str->Option Value)(base:Heap):Prop:=ZS.qy P w K mg base "paper_of" 17 j7 (KC.gq)
theorem AB(d:ZS.s_ K mg "paper_of" pO j7)(cb:fC P w K mg base)(aW:cU P w K mg base)(cF:fq P w K mg base)(kG:oC P w K mg base):mW P w K mg base :=
 rN (N:=j7) (b:=KC.kA) d tR λ f bP A outer s H E hr=>have nd:=tR.nd;have hu:=hr.units;(ag (bN (jx (ah (aj cF.full (hr.mono (by decide)) rfl (ab (ao 0) (ab (ao 1) (ab (ao 2) ak)))))) (aq (aD mF)) aP) (aq (aD (aj kG (hr.mono (by decide)) rfl (ab (ao 1) (bg (aj cb (hr.mono (by decide)) rfl (ab (ao 0) (ab (ao 1) ak))) (bg (aj aW (hr.mono (by decide)) rfl (ab (ao 0) (ab (ao 1) (ab (ao 2) ak)))) ak)))))))
abbrev jb:Stmt:=top 55
abbrev eI:List Str:=["seating", "left"]
theorem lL:aA eI eI (au jb):=⟨rfl,rfl,rfl,by decide +kernel,rfl,by decide +kernel,by decide +kernel⟩
abbrev gg(P:Program)(w:World)(K:PySem.W.Frag)(mg:Str->Option Value)(base:Heap):Prop:=ZS.fK P w K mg base "still_waiting" 1 eI (c_)
theorem sj(d:ZS.Def K mg "still_waiting" jb eI)(aO:mg "len" = none)(aJ:mg "range" = none):gg P w K mg base :=
 cL (N:=eI) (b:=f_) d lL λ f bP A outer s H E hr=>have nd:=lL.nd;have hu:=hr.units;(aq (aD (qh (cW rfl (wD (cX rfl aJ (bU rfl aO b7 (av 0)))) (N':=["k", "seating", "left"]) (n:=1) (is:=[0,1]) (ZS.lE.of (by kernel_rfl)) (ZS.bz (by decide)) (λ _ _ _ _ _ _=>(aU (i:=0) (show List.Nodup (["k", "seating", "left"]:List Str)by decide +kernel) rfl (lo rfl))) (λ _ _ _ _ _=>(gC (zo (kv (oz (ah (aE (av 1) (av 0)))) (jy (aR (ZS.zK hu) (av 0) (av 2) (by with_unfolding_all rfl))))))) (λ _ _ _ _ _=>(ao 0))))))
abbrev nR:Stmt:=top 56
abbrev ua:List Str:=["groups", "places", "seating", "left", "most", "k", "worths"]
abbrev nZ:List Str:=["groups", "places", "seating", "left"]
theorem qP:aA ua nZ (au nR):=⟨rfl,rfl,rfl,by decide +kernel,rfl,by decide +kernel,by decide +kernel⟩
abbrev k!(P:Program)(w:World)(K:PySem.W.Frag)(mg:Str->Option Value)(base:Heap):Prop:=ZS.fK P w K mg base "most_from" 5 nZ (d_)
theorem yP(d:ZS.Def K mg "most_from" nR nZ)(bH:gn P w K mg base)(c5:gg P w K mg base)(iE:mV P w K mg base)(cj:gj P w K mg base)(j_:mg "max" = none):k! P w K mg base :=
 cL (N:=ua) (b:=k7) d qP λ f bP A outer s H E hr=>have nd:=qP.nd;have hu:=hr.units;(ag (aC (i:=4) nd rfl (lo rfl) (aj cj (hr.mono (by decide)) rfl (ab (ao 0) (ab (ao 2) ak)))) (ag (cD PassesOwn.never rfl (jl (aj c5 (hr.mono (by decide)) rfl (ab (ao 2) (ab (ao 3) ak)))) (aU (i:=5) nd rfl (lo rfl)) (ag (iM (i:=6) rfl nd rfl (lo rfl) (eu (ah (aj bH (hr.mono (by decide)) rfl (ab (ao 0) (ab (ao 1) (ab (ao 2) (ab (ao 5) ak))))))) (N':=["place", "groups", "k"]) (n:=1) (is:=[0,5]) (ZS.lE.of (by kernel_rfl)) (ZS.bz (by decide)) (λ _ _ _ _ _ _=>(aU (i:=0) (show List.Nodup (["place", "groups", "k"]:List Str)by decide +kernel) rfl (lo rfl))) (λ _ _ _ _ _=>d9) (λ _ _ _ _ _=>(aj iE (hr.mono (by decide)) rfl (b! (aE (av 1) (av 2)) (b! (aE (av 0) (ah ae)) ak))))) (aq (Kc (i:=4) nd rfl (lo rfl) (zC rfl j_ wQ (av 6) ae))))) (aq (aD (ao 4)))))
abbrev jd:Stmt:=top 57
abbrev jh:List Str:=["groups", "places", "number", "seating", "left", "tree", "k", "spots", "place", "inner"]
abbrev f9:List Str:=["groups", "places", "number", "seating", "left", "tree"]
theorem iq:aA jh f9 (au jd):=⟨rfl,rfl,rfl,by decide +kernel,rfl,by decide +kernel,by decide +kernel⟩
abbrev ny(P:Program)(w:World)(K:PySem.W.Frag)(mg:Str->Option Value)(base:Heap):Prop:=ZS.fK P w K mg base "bounds_beside" 15 f9 (ck 9)
theorem lP(d:ZS.Def K mg "bounds_beside" jd f9)(b8:f7 P w K mg base)(fF:o7 P w K mg base)(dI:jH P w K mg base)(d7:k! P w K mg base)(bH:gn P w K mg base)(bf:eF P w K mg base)(aO:mg "len" = none)(iS:mg "zip" = none):∀j,ZS.fK P w K mg base "bounds_beside" (6+j) f9 (ck j)
 | 0=>ZS.zJ (cL (k:=5) (N:=jh) (b:=Z.vt) d iq λ _ _ _ _ _ _ _ _=>oV)
 | j+1=>cL (k:=6+j) (N:=jh) (b:=bC (ck j)) d iq λ f bP A outer s H E hr=>have m7:=lP d b8 fF dI d7 bH bf aO iS j;have nd:=iq.nd;have hu:=hr.units;(ag (bN (ku (aj b8 (hr.mono (by omega)) rfl (ab (ao 5) (ai (aV (by decide +kernel)) (ai ae ak))))) (aq (aD (eA ZS.qj (ah (aj d7 (hr.mono (by omega)) rfl (ab (ao 0) (ab (ao 1) (ab (ao 3) (ab (ao 4) ak)))))) (av 2) (aS _)))) aP) (ag (bN (zo (kY (gW (ku (aj fF (hr.mono (by omega)) rfl (ab (ao 5) ak)))) (kY (gW (ku (aj dI (hr.mono (by omega)) rfl (ab (ao 3) (b! (aE (av 5) (ah ae)) ak))))) (jk (aR (ZS.Nc hu) (ah (aE (av 5) (ah ae))) (av 4) (by with_unfolding_all rfl)))))) (aq (aD dE)) aP) (ag (aC (i:=6) nd rfl (lo rfl) (aE (av 5) (ah ae))) (ag (aC (i:=7) nd rfl (lo rfl) (aj bH (hr.mono (by omega)) rfl (ab (ao 0) (ab (ao 1) (ab (ao 3) (ab (ao 6) ak)))))) (ag (bN (aR (ZS.uM hu) (ah (bU rfl aO b7 (ah (aE (av 5) (ah ae))))) (ah (aH (ah (bU rfl aO b7 (av 7))) (ah ae))) (aS _)) (aq (aD dE)) aP) (ag (cD PassesOwn.never rfl (qf rfl iS (ao 7) (aE (av 5) (ah ae))) (kz rfl (bb (i:=8) nd rfl (lo rfl) (bb (i:=9) nd rfl (lo rfl) e!)) rfl) (aq (bN (gW (ku (aj m7 (hr.mono (Nat.le_refl _)) rfl (ab (ao 0) (ab (ao 1) (ab (ao 2) (bg (aj bf (hr.mono (by omega)) rfl (ab (ao 3) (ab (ao 6) (ab (ao 8) ak)))) (ab (ao 4) (ab (ao 9) ak))))))))) (aq (aD dE)) aP))) (aq (aD (aj m7 (hr.mono (Nat.le_refl _)) rfl (ab (ao 0) (ab (ao 1) (ab (ao 2) (ab (ao 3) (cI (aH (av 4) (ah (cJ (ab (ao 6) ak)))) (b! (aE (ah (aE (av 5) (ah ae))) (ah (CM (ah ae)))) ak)))))))))))))))
abbrev vq:Stmt:=top 58
abbrev AX:List Str:=["hall", "groups", "number", "tree", "fast", "seating"]
abbrev vB:List Str:=["hall", "groups", "number", "tree", "fast"]
theorem xN:aA AX vB (au vq):=⟨rfl,rfl,rfl,by decide +kernel,rfl,by decide +kernel,by decide +kernel⟩
abbrev wV(P:Program)(w:World)(K:PySem.W.Frag)(mg:Str->Option Value)(base:Heap):Prop:=ZS.qy P w K mg base "bounds" 16 vB (lT)
theorem Er(d:ZS.s_ K mg "bounds" vq vB)(cb:fC P w K mg base)(jq:ny P w K mg base)(aW:cU P w K mg base):wV P w K mg base :=
 rN (N:=AX) (b:=rP) d xN λ f bP A outer s H E hr=>have nd:=xN.nd;have hu:=hr.units;(ag (aC (i:=5) nd rfl (lo rfl) (aj aW (hr.mono (by decide)) rfl (ab (ao 0) (ab (ao 1) (ab (ao 4) ak))))) (aq (aD (aj jq (hr.mono (by decide)) rfl (ab (ao 1) (bg (aj cb (hr.mono (by decide)) rfl (ab (ao 0) (ab (ao 1) ak))) (ab (ao 2) (ab (ao 5) (lW (cJ ak) (ab (ao 3) ak))))))))))
abbrev k_:Stmt:=top 59
abbrev lz:List Str:=["groups", "places", "number", "seating", "left", "k", "trees", "place"]
abbrev iK:List Str:=["groups", "places", "number", "seating", "left"]
theorem jP:aA lz iK (au k_):=⟨rfl,rfl,rfl,by decide +kernel,rfl,by decide +kernel,by decide +kernel⟩
abbrev pH(P:Program)(w:World)(K:PySem.W.Frag)(mg:Str->Option Value)(base:Heap):Prop:=ZS.fK P w K mg base "tree_beside" 15 iK (bS 9)
theorem n9(d:ZS.Def K mg "tree_beside" k_ iK)(d7:k! P w K mg base)(bH:gn P w K mg base)(c5:gg P w K mg base)(bf:eF P w K mg base)(aX:mg "tuple" = none):∀j,ZS.fK P w K mg base "tree_beside" (6+j) iK (bS j)
 | 0=>ZS.zJ (cL (k:=5) (N:=lz) (b:=Z.vt) d jP λ _ _ _ _ _ _ _ _=>oV)
 | j+1=>cL (k:=6+j) (N:=lz) (b:=eR (bS j)) d jP λ f bP A outer s H E hr=>have m7:=n9 d d7 bH c5 bf aX j;have nd:=jP.nd;have hu:=hr.units;(ag (bN (aR ZS.qj (ah (aj d7 (hr.mono (by omega)) rfl (ab (ao 0) (ab (ao 1) (ab (ao 3) (ab (ao 4) ak)))))) (av 2) (aS _)) (aq (aD (cJ (ai (aV (by decide +kernel)) ak)))) aP) (ag (aC (i:=5) nd rfl (lo rfl) (aE (ah (aj c5 (hr.mono (by omega)) rfl (ab (ao 3) (ab (ao 4) ak)))) (ah ae))) (ag (gZ (i:=6) nd rfl (lo rfl) (bu ak)) (ag (cD PassesOwn.never rfl (jl (aj bH (hr.mono (by omega)) rfl (ab (ao 0) (ab (ao 1) (ab (ao 3) (ab (ao 5) ak)))))) (aU (i:=7) nd rfl (lo rfl)) (aq (g9 (i:=6) (pv 6) (aj m7 (hr.mono (Nat.le_refl _)) rfl (ab (ao 0) (ab (ao 1) (ab (ao 2) (bg (aj bf (hr.mono (by omega)) rfl (ab (ao 3) (ab (ao 5) (ab (ao 7) ak)))) (ab (ao 4) ak))))))))) (ag (g9 (i:=6) (pv 6) (aj m7 (hr.mono (Nat.le_refl _)) rfl (ab (ao 0) (ab (ao 1) (ab (ao 2) (ab (ao 3) (cI (aH (av 4) (ah (cJ (ab (ao 5) ak)))) ak))))))) (aq (aD (cJ (ai (aV (by decide +kernel)) (ab (ao 5) (bg (dD rfl aX dF (av 6)) ak)))))))))))
abbrev rT:Stmt:=top 60
abbrev xT:List Str:=["hall", "groups", "fast", "number"]
abbrev r!:List Str:=["hall", "groups", "fast"]
theorem vh:aA xT r! (au rT):=⟨rfl,rfl,rfl,by decide +kernel,rfl,by decide +kernel,by decide +kernel⟩
abbrev sT(P:Program)(w:World)(K:PySem.W.Frag)(mg:Str->Option Value)(base:Heap):Prop:=ZS.qy P w K mg base "tree_of" 16 r! (ki)
theorem B9(d:ZS.s_ K mg "tree_of" rT r!)(cb:fC P w K mg base)(fG:jI P w K mg base)(aW:cU P w K mg base)(lD:pH P w K mg base):sT P w K mg base :=
 rN (N:=xT) (b:=o4) d vh λ f bP A outer s H E hr=>have nd:=vh.nd;have hu:=hr.units;(ag (aC (i:=3) nd rfl (lo rfl) (aj fG.full (hr.mono (by decide)) rfl (ab (ao 0) (ab (ao 1) (ab (ao 2) ak))))) (aq (aD (aj lD (hr.mono (by decide)) rfl (ab (ao 1) (bg (aj cb (hr.mono (by decide)) rfl (ab (ao 0) (ab (ao 1) ak))) (ab (ao 3) (bg (aj aW (hr.mono (by decide)) rfl (ab (ao 0) (ab (ao 1) (ab (ao 2) ak)))) (lW (cJ ak) ak)))))))))
abbrev lj:Stmt:=top 62
abbrev fQ:List Str:=["_law_script", "_law_k"]
theorem nM:aA fQ fQ (au lj):=⟨rfl,rfl,rfl,by decide +kernel,rfl,by decide +kernel,by decide +kernel⟩
abbrev eT(P:Program)(w:World)(K:PySem.W.Frag)(mg:Str->Option Value)(base:Heap):Prop:=ZS.fK P w K mg base "_law_cell_at" 1 fQ (KG.aL)
theorem vD(d:ZS.Def K mg "_law_cell_at" lj fQ)(aO:mg "len" = none):eT P w K mg base :=
 cL (N:=fQ) (b:=KG.fX) d nM λ f bP A outer s H E hr=>have nd:=nM.nd;have hu:=hr.units;(ag (bN (aR ZS.Kn (av 1) (ah (bU rfl aO b7 (av 0))) (aS _)) (aq (aD (aE (av 0) (av 1)))) aP) (aq (aD ae)))
abbrev nT:Stmt:=top 63
abbrev uc:List Str:=["_law_cell", "_law_k", "_law_number"]
abbrev n3:List Str:=["_law_cell", "_law_k"]
theorem qR:aA uc n3 (au nT):=⟨rfl,rfl,rfl,by decide +kernel,rfl,by decide +kernel,by decide +kernel⟩
abbrev gx(P:Program)(w:World)(K:PySem.W.Frag)(mg:Str->Option Value)(base:Heap):Prop:=ZS.fK P w K mg base "_law_mixed" 1 n3 (KG.bM)
theorem yR(d:ZS.Def K mg "_law_mixed" nT n3): gx P w K mg base :=
 cL (N:=uc) (b:=KG.fj) d qR λ f bP A outer s H E hr=>have nd:=qR.nd;have hu:=hr.units;(ag (aC (i:=2) nd rfl (lo rfl) (bR (ah (dZ (ah (aH (ah (aH (ah (bR (av 0) (ah ae))) (ah (dZ (ah (dZ (ah ae) (av 1))) (av 1))))) (av 1))) (ah ae))) (ah ae))) (ag (aC (i:=2) nd rfl (lo rfl) (bR (ah (aH (ah (aH (ah (dZ (av 2) (av 2))) (ah (dZ (ah ae) (av 2))))) (av 1))) (ah ae))) (aq (aD (bR (ah (aH (ah (dZ (av 2) (ah ae))) (ah (dZ (ah ae) (av 1))))) (ah ae))))))
abbrev l_:Stmt:=top 64
abbrev rd:List Str:=["_law_cell", "_law_sizes", "_law_found", "_law_size"]
abbrev mq:List Str:=["_law_cell", "_law_sizes"]
theorem ph:aA rd mq (au l_):=⟨rfl,rfl,rfl,by decide +kernel,rfl,by decide +kernel,by decide +kernel⟩
abbrev hX(P:Program)(w:World)(K:PySem.W.Frag)(mg:Str->Option Value)(base:Heap):Prop:=ZS.fK P w K mg base "_law_digits" 1 mq (KH.c9)
theorem xg(d:ZS.Def K mg "_law_digits" l_ mq): hX P w K mg base :=
 cL (N:=rd) (b:=KH.jC) d ph λ f bP A outer s H E hr=>have nd:=ph.nd;have hu:=hr.units;(ag (gZ (i:=2) nd rfl (lo rfl) (bu ak)) (ag (cD PassesOwn.never rfl (jl (ao 1)) (aU (i:=3) nd rfl (lo rfl)) (ag (g9 (i:=2) (pv 2) (bR (av 0) (av 3))) (aq (aC (i:=0) nd rfl (lo rfl) (cK (av 0) (av 3)))))) (mD (i:=2) (aq (aD (ao 2))))))
abbrev pT:Stmt:=top 65
abbrev vP:List Str:=["_law_script", "_law_first", "_law_rows", "_law_columns", "_law_one", "_law_other", "_law_signs", "_law_numbers", "_law_hall_here", "_law_r"]
abbrev p7:List Str:=["_law_script"]
theorem tX:aA vP p7 (au pT):=⟨rfl,rfl,rfl,by decide +kernel,rfl,by decide +kernel,by decide +kernel⟩
abbrev qr(P:Program)(w:World)(K:PySem.W.Frag)(mg:Str->Option Value)(base:Heap):Prop:=ZS.fK P w K mg base "_law_hall" 2 p7 (KH.iW)
theorem AI(d:ZS.Def K mg "_law_hall" pT p7)(aZ:eT P w K mg base)(cQ:hX P w K mg base)(cm:gx P w K mg base)(aJ:mg "range" = none)(aX:mg "tuple" = none):qr P w K mg base :=
 cL (N:=vP) (b:=KH.kC) d tX λ f bP A outer s H E hr=>have nd:=tX.nd;have hu:=hr.units;(ag (aC (i:=1) nd rfl (lo rfl) (aj aZ (hr.mono (by decide)) rfl (ab (ao 0) (ai ae ak)))) (ag (aC (i:=2) nd rfl (lo rfl) (aH (ah ae) (ah (bR (ah (cK (av 1) (ah ae))) (ah ae))))) (ag (aC (i:=3) nd rfl (lo rfl) (aH (ah ae) (ah (bR (ah (cK (av 1) (ah ae))) (ah ae))))) (ag (aC (i:=4) nd rfl (lo rfl) (aE (ah (aV (by decide +kernel))) (ah (bR (ah (cK (av 1) (ah ae))) (ah ae))))) (ag (aC (i:=5) nd rfl (lo rfl) (aE (ah (aV (by decide +kernel))) (ah (bR (ah (aH (ah (aH (ah (cK (av 1) (ah ae))) (ah ae))) (ah (bR (ah (cK (av 1) (ah ae))) (ah ae))))) (ah ae))))) (ag (aC (i:=6) nd rfl (lo rfl) (aE (fV (bu (ai (aV (by decide +kernel)) (cI (aH (ah (aH (ah (aV (by decide +kernel))) (ah (aV (by decide +kernel))))) (av 4)) (cI (aH (ah (aH (ah (aH (ah (aV (by decide +kernel))) (ah (aV (by decide +kernel))))) (av 4))) (av 5)) ak))))) (ah (bR (ah (cK (av 1) (ah ae))) (ah ae))))) (ag (bN (aR (ZS.qk hu) (ah (bR (av 1) (ah ae))) (ah ae) (aS _)) (ag (aC (i:=6) nd rfl (lo rfl) (aV (by decide +kernel))) (aq (aC (i:=7) nd rfl (lo rfl) (aj cQ (hr.mono (by decide)) rfl (bg (aj aZ (hr.mono (by decide)) rfl (ab (ao 0) (ai ae ak))) (cI (qh (zq (bu (ai ae ak)) (ah (dZ (av 2) (av 3))))) ak)))))) (ag (aC (i:=2) nd rfl (lo rfl) (aE (fV (bu (ai ae (ai ae (ai ae (ai ae (ai ae (ai ae ak)))))))) (ah (sM (av 2) (ah ae))))) (ag (aC (i:=3) nd rfl (lo rfl) (aE (fV (bu (ai ae (ai ae (ai ae (ai ae (ai ae (ai ae (ai ae (ai ae (ai ae (ai ae (ai ae (ai ae ak)))))))))))))) (ah (sM (av 3) (ah ae))))) (aq (iM (i:=7) rfl nd rfl (lo rfl) (wD (cX rfl aJ (dZ (av 2) (av 3)))) (N':=["_law_k", "_law_script"]) (n:=1) (is:=[0]) (ZS.lE.of (by kernel_rfl)) (ZS.bz (by decide)) (λ _ _ _ _ _ _=>(aU (i:=0) (show List.Nodup (["_law_k", "_law_script"]:List Str)by decide +kernel) rfl (lo rfl))) (λ _ _ _ _ _=>d9) (λ _ _ _ _ _=>(bR (ah (cK (ah (aj cm (hr.mono (by decide)) rfl (bg (aj aZ (hr.mono (by decide)) rfl (ab (ao 1) (ai ae ak))) (ab (ao 0) ak)))) (ah ae))) (ah ae)))))))) (ag (gZ (i:=8) nd rfl (lo rfl) (bu ak)) (ag (cD PassesOwn.never rfl (cX rfl aJ (ao 2)) (aU (i:=9) nd rfl (lo rfl)) (aq (g9 (i:=8) (pv 8) (zE (aV (by decide +kernel)) (fV (cW rfl (eu (fV (rJ (av 7) (nv (ah (dZ (av 9) (av 3)))) (nv (ah (dZ (ah (aH (av 9) (ah ae))) (av 3))))))) (N':=["_law_number", "_law_signs"]) (n:=1) (is:=[6]) (ZS.lE.of (by kernel_rfl)) (ZS.bz (by decide)) (λ _ _ _ _ _ _=>(aU (i:=0) (show List.Nodup (["_law_number", "_law_signs"]:List Str)by decide +kernel) rfl (lo rfl))) (λ _ _ _ _ _=>d9) (λ _ _ _ _ _=>(aE (av 1) (av 0))))))))) (aq (aD (cJ (bg (dD rfl aX dF (av 8)) (ab (ao 4) (ab (ao 5) ak)))))))))))))))
abbrev pS:Stmt:=top 66
abbrev vO:List Str:=["_law_cell", "_law_k", "_law_letters", "_law_size", "_law_at", "_law_name_here", "_law_j", "_law_number"]
abbrev p6:List Str:=["_law_cell", "_law_k"]
theorem tW:aA vO p6 (au pS):=⟨rfl,rfl,rfl,by decide +kernel,rfl,by decide +kernel,by decide +kernel⟩
abbrev qq(P:Program)(w:World)(K:PySem.W.Frag)(mg:Str->Option Value)(base:Heap):Prop:=ZS.fK P w K mg base "_law_name" 1 p6 (KH.iV)
theorem AH(d:ZS.Def K mg "_law_name" pS p6)(aJ:mg "range" = none):qq P w K mg base :=
 cL (N:=vO) (b:=KH.kB) d tW λ f bP A outer s H E hr=>have nd:=tW.nd;have hu:=hr.units;(ag (aC (i:=2) nd rfl (lo rfl) (aV (by decide +kernel))) (ag (aC (i:=3) nd rfl (lo rfl) (aH (ah ae) (ah (bR (av 0) (ah ae))))) (ag (aC (i:=4) nd rfl (lo rfl) (bR (ah (cK (av 0) (ah ae))) (av 3))) (ag (aC (i:=5) nd rfl (lo rfl) (aV (by decide +kernel))) (ag (cD PassesOwn.never rfl (cX rfl aJ (ao 3)) (aU (i:=6) nd rfl (lo rfl)) (ag (aC (i:=7) nd rfl (lo rfl) (aH (ah (cK (ah (cK (av 0) (ah ae))) (ah (aH (av 6) (ah ae))))) (ah (dZ (av 6) (av 6))))) (ag (bN (aR (ZS.qk hu) (av 6) (av 4) (aS _)) (aq (aC (i:=7) nd rfl (lo rfl) (aH (av 7) (av 1)))) aP) (aq (aC (i:=5) nd rfl (lo rfl) (aH (av 5) (ah (aE (av 2) (ah (bR (av 7) (ah ae))))))))))) (aq (aD (ao 5))))))))
abbrev rY:Stmt:=top 67
abbrev xX:List Str:=["_law_cell", "_law_name_here", "_law_letters", "_law_width", "_law_depth", "_law_kind", "_law_gap", "_law_great", "_law_bits", "_law_rest", "_law_wide", "_law_sizes", "_law_worths", "_law_wishes"]
abbrev se:List Str:=["_law_cell", "_law_name_here"]
theorem vn:aA xX se (au rY):=⟨rfl,rfl,rfl,by decide +kernel,rfl,by decide +kernel,by decide +kernel⟩
abbrev sX(P:Program)(w:World)(K:PySem.W.Frag)(mg:Str->Option Value)(base:Heap):Prop:=ZS.fK P w K mg base "_law_any" 2 se (KH.km)
theorem B_(d:ZS.Def K mg "_law_any" rY se)(cQ:hX P w K mg base)(aJ:mg "range" = none)(aX:mg "tuple" = none):sX P w K mg base :=
 cL (N:=xX) (b:=KH.lY) d vn λ f bP A outer s H E hr=>have nd:=vn.nd;have hu:=hr.units;(ag (aC (i:=2) nd rfl (lo rfl) (qh (bu (ai (aV (by decide +kernel)) (ai (aV (by decide +kernel)) (ai (aV (by decide +kernel)) (ai (aV (by decide +kernel)) (ai (aV (by decide +kernel)) (ai (aV (by decide +kernel)) (ai (aV (by decide +kernel)) (ai (aV (by decide +kernel)) (ai (aV (by decide +kernel)) (ai (aV (by decide +kernel)) (ai (aV (by decide +kernel)) (ai (aV (by decide +kernel)) (ai (aV (by decide +kernel)) (ai (aV (by decide +kernel)) (ai (aV (by decide +kernel)) (ai (aV (by decide +kernel)) (ai (aV (by decide +kernel)) (ai (aV (by decide +kernel)) (ai (aV (by decide +kernel)) (ai (aV (by decide +kernel)) ak))))))))))))))))))))))) (ag (aC (i:=2) nd rfl (lo rfl) (qh (zr (av 2) (fV (bu (ai (aV (by decide +kernel)) (ai (aV (by decide +kernel)) (ai (aV (by decide +kernel)) (ai (aV (by decide +kernel)) (ai (aV (by decide +kernel)) (ai (aV (by decide +kernel)) (ai (aV (by decide +kernel)) ak)))))))))))) (ag (wB (aj cQ (hr.mono (by decide)) rfl (ab (ao 0) (oA (qh (bu (ai ae (ai ae (ai ae (ai ae (ai ae (ai ae ak)))))))) ak))) (wF rfl (bb (i:=3) nd rfl (lo rfl) (bb (i:=4) nd rfl (lo rfl) (bb (i:=5) nd rfl (lo rfl) (bb (i:=6) nd rfl (lo rfl) (bb (i:=7) nd rfl (lo rfl) (bb (i:=8) nd rfl (lo rfl) e!)))))) rfl)) (ag (aC (i:=9) nd rfl (lo rfl) (cK (av 0) (ah ae))) (ag (aC (i:=10) nd rfl (lo rfl) (bR (av 9) (ah (aH (ah (dZ (ah (aH (av 3) (ah ae))) (ah (aH (av 4) (ah ae))))) (ah ae))))) (ag (aC (i:=11) nd rfl (lo rfl) (aE (fV (bu (oA (qh (bu (ai ae (ai ae (ai ae (ai ae (ai ae (ai ae (ai ae ak))))))))) (cI (qh (zr (fV (bu (cI (qg (ah ae) (ah ae)) ak))) (fV (zq (bu (cI (sM (ah (qg (ah ae) (ah ae))) (ah ae)) ak)) (ah ae))))) ak)))) (av 7))) (ag (aC (i:=12) nd rfl (lo rfl) (aj cQ (hr.mono (by decide)) rfl (cI (cK (av 9) (ah (aH (ah (dZ (ah (aH (av 3) (ah ae))) (ah (aH (av 4) (ah ae))))) (ah ae)))) (ab (ao 11) ak)))) (ag (iM (i:=13) rfl nd rfl (lo rfl) (wD (cX rfl aJ ae)) (N':=["_law_r", "_law_bits", "_law_worths"]) (n:=1) (is:=[8,12]) (ZS.lE.of (by kernel_rfl)) (ZS.bz (by decide)) (λ _ _ _ _ _ _=>(aU (i:=0) (show List.Nodup (["_law_r", "_law_bits", "_law_worths"]:List Str)by decide +kernel) rfl (lo rfl))) (λ _ _ _ _ _=>(gC (aR (ZS.qk hu) (ah (bR (ah (cK (av 1) (ah (aE (fV (bu (ai ae (ai ae (ai ae (ai ae (ai ae (ai ae ak)))))))) (av 0))))) (ah ae))) (ah ae) (aS _)))) (λ _ _ _ _ _=>(cJ (ab (ao 0) (cI (aH (ah ae) (ah (aE (av 2) (ah (aH (ah ae) (av 0)))))) ak))))) (aq (aD (cJ (ab (ao 1) (cI (aH (av 3) (ah ae)) (cI (aH (av 4) (ah ae)) (b! (aE (av 2) (av 5)) (ab (ao 10) (ab (ao 6) (b! (aE (av 12) (ah ae)) (bg (dD rfl aX dF (av 13)) ak)))))))))))))))))))
abbrev nU:Stmt:=top 68
abbrev ud:List Str:=["_law_number", "_law_name_here", "_law_letters", "_law_great", "_law_width", "_law_depth", "_law_kind", "_law_wide", "_law_worth_here", "_law_more", "_law_wishes", "_law_r"]
abbrev n4:List Str:=["_law_number", "_law_name_here", "_law_letters", "_law_great"]
theorem qS:aA ud n4 (au nU):=⟨rfl,rfl,rfl,by decide +kernel,rfl,by decide +kernel,by decide +kernel⟩
abbrev oD(P:Program)(w:World)(K:PySem.W.Frag)(mg:Str->Option Value)(base:Heap):Prop:=ZS.fK P w K mg base "_law_group" 1 n4 (KH.gT)
theorem yS(d:ZS.Def K mg "_law_group" nU n4)(ye:mg "int" = none)(aJ:mg "range" = none)(aX:mg "tuple" = none):oD P w K mg base :=
 cL (N:=ud) (b:=KH.i5) d qS λ f bP A outer s H E hr=>have nd:=qS.nd;have hu:=hr.units;(ag (aC (i:=4) nd rfl (lo rfl) (aH (ah ae) (ah (bR (av 0) (ah ae))))) (ag (aC (i:=5) nd rfl (lo rfl) (aE (fV (bu (ai ae (ai ae (ai ae (ai ae ak)))))) (ah (bR (ah (cK (av 0) (ah ae))) (ah ae))))) (ag (aC (i:=6) nd rfl (lo rfl) (aE (fV (bu (ai (aV (by decide +kernel)) (ai (aV (by decide +kernel)) (b! (aE (av 2) (ah ae)) (b! (aE (av 2) (ah ae)) ak)))))) (ah (bR (ah (cK (av 0) (ah ae))) (ah ae))))) (ag (aC (i:=7) nd rfl (lo rfl) (aE (fV (bu (ai ae (ai ae (ai ae (ai ae ak)))))) (ah (bR (ah (cK (av 0) (ah ae))) (ah ae))))) (ag (aC (i:=8) nd rfl (lo rfl) (bR (ah (cK (av 0) (ah ae))) (ah ae))) (ag (aC (i:=9) nd rfl (lo rfl) (aH (ah ae) (ah (bR (ah (cK (av 0) (ah ae))) (ah ae))))) (ag (bN (ku (ao 3)) (ag (aC (i:=8) nd rfl (lo rfl) (bR (ah (cK (av 0) (ah ae))) (ah (qg (ah ae) (ah ae))))) (aq (aC (i:=9) nd rfl (lo rfl) (aH (ah ae) (ah (bR (ah (cK (av 0) (ah ae))) (ah (qg (ah ae) (ah ae))))))))) aP) (ag (gZ (i:=10) nd rfl (lo rfl) (bu ak)) (ag (cD PassesOwn.never rfl (cX rfl aJ ae) (aU (i:=11) nd rfl (lo rfl)) (aq (bN (aR (ZS.qk hu) (ah (bR (ah (cK (av 0) (ah (aE (fV (bu (ai ae (ai ae (ai ae (ai ae ak)))))) (av 11))))) (ah ae))) (ah ae) (aS _)) (aq (g9 (i:=10) (pv 10) (cJ (ab (ao 11) (cI (aH (av 9) (ah (dZ (av 11) (ah (zF rfl ye HC (av 3)))))) ak))))) aP))) (aq (aD (cJ (ab (ao 1) (ab (ao 4) (ab (ao 5) (ab (ao 6) (ab (ao 7) (b! (aE (fV (bu (ai ae (ai ae (ai ae (ai ae ak)))))) (ah (bR (ah (cK (av 0) (ah ae))) (ah ae)))) (ab (ao 8) (bg (dD rfl aX dF (av 10)) ak))))))))))))))))))))
abbrev l?:Stmt:=top 69
abbrev q_:List Str:=["_law_script", "_law_one", "_law_other", "_law_way", "_law_many", "_law_great", "_law_twins", "_law_groups_here", "_law_k", "_law_name_here", "_law_cell"]
abbrev ml:List Str:=["_law_script", "_law_one", "_law_other"]
theorem pf:aA q_ ml (au l?):=⟨rfl,rfl,rfl,by decide +kernel,rfl,by decide +kernel,by decide +kernel⟩
abbrev m4(P:Program)(w:World)(K:PySem.W.Frag)(mg:Str->Option Value)(base:Heap):Prop:=ZS.fK P w K mg base "_law_groups" 3 ml (KH.fT)
theorem xf(d:ZS.Def K mg "_law_groups" l? ml)(tD:sX P w K mg base)(aZ:eT P w K mg base)(cQ:hX P w K mg base)(oJ:oD P w K mg base)(cm:gx P w K mg base)(qB:qq P w K mg base)(aO:mg "len" = none)(aJ:mg "range" = none)(aX:mg "tuple" = none):m4 P w K mg base :=
 cL (N:=q_) (b:=KH.hJ) d pf λ f bP A outer s H E hr=>have nd:=pf.nd;have hu:=hr.units;(ag (wB (aj cQ (hr.mono (by decide)) rfl (bg (aj aZ (hr.mono (by decide)) rfl (ab (ao 0) (ai ae ak))) (oA (qh (bu (ai ae (ai ae (ai ae (ai ae ak)))))) ak))) (wF rfl (bb (i:=3) nd rfl (lo rfl) (bb (i:=4) nd rfl (lo rfl) (bb (i:=5) nd rfl (lo rfl) (bb (i:=6) nd rfl (lo rfl) e!)))) rfl)) (ag (gZ (i:=7) nd rfl (lo rfl) (bu ak)) (ag (cD PassesOwn.never rfl (cX rfl aJ (ao 4)) (aU (i:=8) nd rfl (lo rfl)) (ag (aC (i:=9) nd rfl (lo rfl) (aj qB (hr.mono (by decide)) rfl (bg (aj aZ (hr.mono (by decide)) rfl (ab (ao 0) (ai ae ak))) (ab (ao 8) ak)))) (ag (aC (i:=10) nd rfl (lo rfl) (aj aZ (hr.mono (by decide)) rfl (ab (ao 0) (cI (aH (ah ae) (av 8)) ak)))) (ag (bN (aR ZS.Nd (ah (aH (ah ae) (av 8))) (ah (bU rfl aO b7 (av 0))) (aS _)) (aq (aC (i:=10) nd rfl (lo rfl) (dZ (ah (aj cm (hr.mono (by decide)) rfl (bg (aj aZ (hr.mono (by decide)) rfl (ab (ao 0) (ai ae ak))) (ab (ao 8) ak)))) (ah (aj cm (hr.mono (by decide)) rfl (bg (aj aZ (hr.mono (by decide)) rfl (ab (ao 0) (ai ae ak))) (ab (ao 8) ak))))))) aP) (aq (bN (zo (kv (aR (ZS.qk hu) (av 6) (ah ae) (aS _)) (kv (aR ZS.zL (av 8) (ah ae) (aS _)) (jy (aR ZS.zL (ah (bR (av 10) (ah ae))) (ah ae) (aS _)))))) (aq (g9 (i:=7) (pv 7) (aH (ah (cJ (ab (ao 9) ak))) (ah (i4 (ah (aE (av 7) (ah ae))) (nv (ah ae)) uk))))) (aq (bN (aR (ZS.qk hu) (ah (bR (av 3) (ah ae))) (ah ae) (aS _)) (aq (g9 (i:=7) (pv 7) (aj tD (hr.mono (by decide)) rfl (ab (ao 10) (ab (ao 9) ak))))) (aq (g9 (i:=7) (pv 7) (aj oJ (hr.mono (by decide)) rfl (cI (bR (av 10) (ah (qg (ah ae) (ah ae)))) (ab (ao 9) (cI (aH (av 1) (av 2)) (zH (eA (ZS.qk hu) (av 5) (ah ae) (aS _)) ak))))))))))))))) (aq (aD (dD rfl aX dF (av 7)))))))
abbrev pU:Stmt:=top 70
abbrev vQ:List Str:=["_law_hall_here", "_law_group_here", "_law_row", "_law_column", "_law_signs", "_law_r"]
abbrev p8:List Str:=["_law_hall_here", "_law_group_here", "_law_row", "_law_column"]
theorem tY:aA vQ p8 (au pU):=⟨rfl,rfl,rfl,by decide +kernel,rfl,by decide +kernel,by decide +kernel⟩
abbrev qt(P:Program)(w:World)(K:PySem.W.Frag)(mg:Str->Option Value)(base:Heap):Prop:=ZS.fK P w K mg base "_law_fits" 1 p8 (KH.kU)
theorem AJ(d:ZS.Def K mg "_law_fits" pU p8)(aO:mg "len" = none)(aJ:mg "range" = none):qt P w K mg base :=
 cL (N:=vQ) (b:=KH.iD) d tY λ f bP A outer s H E hr=>have nd:=tY.nd;have hu:=hr.units;(ag (bN (zo (kY (aR ZS.zL (ah (aH (av 2) (ah (aE (av 1) (ah ae))))) (ah (bU rfl aO b7 (av 0))) (aS _)) (jk (aR ZS.zL (ah (aH (av 3) (ah (aE (av 1) (ah ae))))) (ah (bU rfl aO b7 (ah (aE (av 0) (ah ae))))) (aS _))))) (aq (aD dE)) aP) (ag (aC (i:=4) nd rfl (lo rfl) (aV (by decide +kernel))) (ag (cD PassesOwn.never rfl (rK rfl aJ (ao 2) (aH (av 2) (ah (aE (av 1) (ah ae))))) (aU (i:=5) nd rfl (lo rfl)) (aq (aC (i:=4) nd rfl (lo rfl) (aH (av 4) (ah (i4 (ah (aE (av 0) (av 5))) (nv (av 3)) (nv (ah (aH (av 3) (ah (aE (av 1) (ah ae)))))))))))) (ag (bN (aR (ZS.uM hu) (fV (cW rfl (eu (av 4)) (N':=["_law_sign", "_law_group_here"]) (n:=1) (is:=[1]) (ZS.lE.of (by kernel_rfl)) (ZS.bz (by decide)) (λ _ _ _ _ _ _=>(aU (i:=0) (show List.Nodup (["_law_sign", "_law_group_here"]:List Str)by decide +kernel) rfl (lo rfl))) (λ _ _ _ _ _=>(gC (zo (kv (aR (ZS.uM hu) (av 0) (ah (aV (by decide +kernel))) (aS _)) (kv (aR (ZS.uM hu) (av 0) (ah (aV (by decide +kernel))) (aS _)) (jy (aR (ZS.uM hu) (av 0) (ah (aE (av 1) (ah ae))) (aS _)))))))) (λ _ _ _ _ _=>(ao 0)))) (fV (bu ak)) (aS _)) (aq (aD dE)) aP) (aq (aD (eA ZS.Nd (ah (zG (av 4) (ah (aV (by decide +kernel))))) (ah (aE (av 1) (ah ae))) (aS _))))))))
abbrev l!:Stmt:=top 71
abbrev q?:List Str:=["_law_hall_here", "_law_group_here", "_law_found", "_law_row", "_law_column"]
abbrev mj:List Str:=["_law_hall_here", "_law_group_here"]
theorem pe:aA q? mj (au l!):=⟨rfl,rfl,rfl,by decide +kernel,rfl,by decide +kernel,by decide +kernel⟩
abbrev jG(P:Program)(w:World)(K:PySem.W.Frag)(mg:Str->Option Value)(base:Heap):Prop:=ZS.fK P w K mg base "_law_places" 2 mj (KH.eP)
theorem xc(d:ZS.Def K mg "_law_places" l! mj)(qD:qt P w K mg base)(aO:mg "len" = none)(aJ:mg "range" = none):jG P w K mg base :=
 cL (N:=q?) (b:=KH.jB) d pe λ f bP A outer s H E hr=>have nd:=pe.nd;have hu:=hr.units;(ag (gZ (i:=2) nd rfl (lo rfl) (bu ak)) (ag (cD PassesOwn.never rfl (cX rfl aJ (bU rfl aO b7 (av 0))) (aU (i:=3) nd rfl (lo rfl)) (aq (cD PassesOwn.never rfl (cX rfl aJ (bU rfl aO b7 (ah (aE (av 0) (ah ae))))) (aU (i:=4) nd rfl (lo rfl)) (aq (bN (ku (aj qD (hr.mono (by decide)) rfl (ab (ao 0) (ab (ao 1) (ab (ao 3) (ab (ao 4) ak)))))) (aq (g9 (i:=2) (pv 2) (cJ (ab (ao 3) (ab (ao 4) ak))))) aP))))) (mD (i:=2) (aq (aD (ao 2))))))
abbrev nX:Stmt:=top 72
abbrev uf:List Str:=["_law_one", "_law_here", "_law_other", "_law_there", "_law_gap"]
abbrev n6:List Str:=["_law_one", "_law_here", "_law_other", "_law_there"]
theorem qU:aA uf n6 (au nX):=⟨rfl,rfl,rfl,by decide +kernel,rfl,by decide +kernel,by decide +kernel⟩
abbrev oF(P:Program)(w:World)(K:PySem.W.Frag)(mg:Str->Option Value)(base:Heap):Prop:=ZS.fK P w K mg base "_law_apart" 1 n6 (KH.jw)
theorem yU(d:ZS.Def K mg "_law_apart" nX n6)(j_:mg "max" = none):oF P w K mg base :=
 cL (N:=uf) (b:=KH.fk) d qU λ f bP A outer s H E hr=>have nd:=qU.nd;have hu:=hr.units;(ag (bN (zo (kY (aR ZS.qj (ah (aH (ah (aE (av 1) (ah ae))) (ah (aE (av 0) (ah ae))))) (ah (aE (av 3) (ah ae))) (aS _)) (jk (aR ZS.qj (ah (aH (ah (aE (av 3) (ah ae))) (ah (aE (av 2) (ah ae))))) (ah (aE (av 1) (ah ae))) (aS _))))) (aq (aD dE)) aP) (ag (aC (i:=4) nd rfl (lo rfl) (uX rfl j_ wQ (ah (aE (av 0) (ah ae))) (ah (aE (av 2) (ah ae))))) (aq (aD (Bt (eA ZS.qj (ah (aH (ah (aH (ah (aE (av 1) (ah ae))) (ah (aE (av 0) (ah ae))))) (av 4))) (ah (aE (av 3) (ah ae))) (aS _)) (iB (eA ZS.qj (ah (aH (ah (aH (ah (aE (av 3) (ah ae))) (ah (aE (av 2) (ah ae))))) (av 4))) (ah (aE (av 1) (ah ae))) (aS _))))))))
abbrev pQ:Stmt:=top 73
abbrev vM:List Str:=["_law_spots", "_law_groups_here", "_law_seating", "_law_k", "_law_found", "_law_place", "_law_free", "_law_j", "_law_there"]
abbrev p4:List Str:=["_law_spots", "_law_groups_here", "_law_seating", "_law_k"]
theorem tU:aA vM p4 (au pQ):=⟨rfl,rfl,rfl,by decide +kernel,rfl,by decide +kernel,by decide +kernel⟩
abbrev mZ(P:Program)(w:World)(K:PySem.W.Frag)(mg:Str->Option Value)(base:Heap):Prop:=ZS.fK P w K mg base "_law_open" 2 p4 (KH.gu)
theorem AE(d:ZS.Def K mg "_law_open" pQ p4)(oM:oF P w K mg base)(aO:mg "len" = none)(aJ:mg "range" = none):mZ P w K mg base :=
 cL (N:=vM) (b:=KH.mO) d tU λ f bP A outer s H E hr=>have nd:=tU.nd;have hu:=hr.units;(ag (gZ (i:=4) nd rfl (lo rfl) (bu ak)) (ag (cD PassesOwn.never rfl (jl (aE (av 0) (av 3))) (aU (i:=5) nd rfl (lo rfl)) (ag (aC (i:=6) nd rfl (lo rfl) dE) (ag (cD PassesOwn.never rfl (cX rfl aJ (bU rfl aO b7 (av 1))) (aU (i:=7) nd rfl (lo rfl)) (ag (aC (i:=8) nd rfl (lo rfl) (aE (av 2) (av 7))) (aq (bN (zo (kv (aR (ZS.uM hu) (av 7) (av 3) (aS _)) (jy (jx (av 8))))) (aq (aC (i:=6) nd rfl (lo rfl) (lA (ao 6) (iB (aj oM (hr.mono (by decide)) rfl (b! (aE (av 1) (av 3)) (ab (ao 5) (b! (aE (av 1) (av 7)) (ab (ao 8) ak))))))))) aP)))) (aq (bN (ku (ao 6)) (aq (g9 (i:=4) (pv 4) (ao 5))) aP))))) (mD (i:=4) (aq (aD (ao 4))))))
abbrev pP:Stmt:=top 74
abbrev j9:List Str:=["_law_seating", "_law_k", "_law_place"]
theorem tT:aA j9 j9 (au pP):=⟨rfl,rfl,rfl,by decide +kernel,rfl,by decide +kernel,by decide +kernel⟩
abbrev mX(P:Program)(w:World)(K:PySem.W.Frag)(mg:Str->Option Value)(base:Heap):Prop:=ZS.fK P w K mg base "_law_with" 1 j9 (KH.fh)
theorem AD(d:ZS.Def K mg "_law_with" pP j9): mX P w K mg base :=
 cL (N:=j9) (b:=KH.mN) d tT λ f bP A outer s H E hr=>have nd:=tT.nd;have hu:=hr.units;(aq (aD (aH (ah (aH (ah (i4 (av 0) uk (nv (av 1)))) (ah (cJ (ab (ao 2) ak))))) (ah (i4 (av 0) (nv (ah (aH (av 1) (ah ae)))) uk)))))
abbrev rX:Stmt:=top 75
abbrev xW:List Str:=["_law_hall_here", "_law_groups_here", "_law_most", "_law_many", "_law_kept", "_law_group_here", "_law_count"]
abbrev sd:List Str:=["_law_hall_here", "_law_groups_here", "_law_most"]
theorem vm:aA xW sd (au rX):=⟨rfl,rfl,rfl,by decide +kernel,rfl,by decide +kernel,by decide +kernel⟩
abbrev sW(P:Program)(w:World)(K:PySem.W.Frag)(mg:Str->Option Value)(base:Heap):Prop:=ZS.fK P w K mg base "_law_few" 3 sd (KH.kj)
theorem B?(d:ZS.Def K mg "_law_few" rX sd)(fE:jG P w K mg base)(aO:mg "len" = none)(aX:mg "tuple" = none):sW P w K mg base :=
 cL (N:=xW) (b:=KH.lX) d vm λ f bP A outer s H E hr=>have nd:=vm.nd;have hu:=hr.units;(ag (aC (i:=3) nd rfl (lo rfl) ae) (ag (gZ (i:=4) nd rfl (lo rfl) (bu ak)) (ag (cD PassesOwn.never rfl (jl (ao 1)) (aU (i:=5) nd rfl (lo rfl)) (ag (aC (i:=6) nd rfl (lo rfl) (aH (ah ae) (ah (bU rfl aO b7 (ah (aj fE (hr.mono (by decide)) rfl (ab (ao 0) (ab (ao 5) ak)))))))) (aq (bN (aR ZS.qj (ah (dZ (av 3) (av 6))) (av 2) (aS _)) (ag (aC (i:=3) nd rfl (lo rfl) (dZ (av 3) (av 6))) (aq (g9 (i:=4) (pv 4) (ao 5)))) aP)))) (aq (aD (dD rfl aX dF (av 4)))))))
abbrev l':Stmt:=top 76
abbrev q!:List Str:=["_law_spots", "_law_groups_here", "_law_script", "_law_seating", "_law_k", "_law_cell", "_law_some"]
abbrev mi:List Str:=["_law_spots", "_law_groups_here", "_law_script"]
theorem pd:aA q! mi (au l'):=⟨rfl,rfl,rfl,by decide +kernel,rfl,by decide +kernel,by decide +kernel⟩
abbrev mY(P:Program)(w:World)(K:PySem.W.Frag)(mg:Str->Option Value)(base:Heap):Prop:=ZS.fK P w K mg base "_law_seated" 3 mi (KH.fS)
theorem xb(d:ZS.Def K mg "_law_seated" l' mi)(aZ:eT P w K mg base)(cm:gx P w K mg base)(iI:mZ P w K mg base)(iH:mX P w K mg base)(aO:mg "len" = none)(aJ:mg "range" = none)(aX:mg "tuple" = none):mY P w K mg base :=
 cL (N:=q!) (b:=KH.g_) d pd λ f bP A outer s H E hr=>have nd:=pd.nd;have hu:=hr.units;(ag (aC (i:=3) nd rfl (lo rfl) (dD rfl aX dF (fV (cW rfl (eu (av 1)) (N':=["_law_group_here"]) (n:=1) (is:=[]) (ZS.lE.of (by kernel_rfl)) (ZS.bz (by decide)) (λ _ _ _ _ _ _=>(aU (i:=0) (show List.Nodup (["_law_group_here"]:List Str)by decide +kernel) rfl (lo rfl))) (λ _ _ _ _ _=>d9) (λ _ _ _ _ _=>mF))))) (ag (cD PassesOwn.never rfl (cX rfl aJ (bU rfl aO b7 (av 1))) (aU (i:=4) nd rfl (lo rfl)) (ag (aC (i:=5) nd rfl (lo rfl) (aj cm (hr.mono (by decide)) rfl (bg (aj aZ (hr.mono (by decide)) rfl (ab (ao 2) (cI (aH (ah ae) (av 4)) ak))) (cI (aH (ah ae) (av 4)) ak)))) (ag (bN (aR ZS.Kn (ah (aH (ah ae) (av 4))) (ah (bU rfl aO b7 (av 2))) (aS _)) (aq (aC (i:=5) nd rfl (lo rfl) (aE (av 2) (ah (aH (ah ae) (av 4)))))) aP) (ag (aC (i:=6) nd rfl (lo rfl) (aj iI (hr.mono (by decide)) rfl (ab (ao 0) (ab (ao 1) (ab (ao 3) (ab (ao 4) ak)))))) (aq (bN (zo (kv (aR (ZS.uM hu) (av 6) (fV (bu ak)) (aS _)) (jy (aR ZS.zL (ah (bR (av 5) (ah ae))) (ah ae) (aS _))))) (aq (aC (i:=3) nd rfl (lo rfl) (aj iH (hr.mono (by decide)) rfl (ab (ao 3) (ab (ao 4) (b! (aE (av 6) (ah (bR (ah (cK (av 5) (ah ae))) (ah (bU rfl aO b7 (av 6)))))) ak)))))) aP)))))) (aq (aD (ao 3)))))
abbrev pV:Stmt:=top 77
abbrev j':List Str:=["_law_seating", "_law_cell"]
theorem t5:aA j' j' (au pV):=⟨rfl,rfl,rfl,by decide +kernel,rfl,by decide +kernel,by decide +kernel⟩
abbrev qv(P:Program)(w:World)(K:PySem.W.Frag)(mg:Str->Option Value)(base:Heap):Prop:=ZS.fK P w K mg base "_law_fast" 1 j' (KH.iX)
theorem AK(d:ZS.Def K mg "_law_fast" pV j')(aO:mg "len" = none)(aJ:mg "range" = none)(aX:mg "tuple" = none):qv P w K mg base :=
 cL (N:=j') (b:=KH.mQ) d t5 λ f bP A outer s H E hr=>have nd:=t5.nd;have hu:=hr.units;(aq (aD (dD rfl aX dF (fV (cW rfl (wD (cX rfl aJ (bU rfl aO b7 (av 0)))) (N':=["_law_k", "_law_cell", "_law_seating"]) (n:=1) (is:=[1,0]) (ZS.lE.of (by kernel_rfl)) (ZS.bz (by decide)) (λ _ _ _ _ _ _=>(aU (i:=0) (show List.Nodup (["_law_k", "_law_cell", "_law_seating"]:List Str)by decide +kernel) rfl (lo rfl))) (λ _ _ _ _ _=>d9) (λ _ _ _ _ _=>(lV (aR (ZS.qk hu) (ah (bR (ah (cK (av 1) (ah (aE (fV (bu (ai ae (ai ae (ai ae (ai ae (ai ae (ai ae ak)))))))) (av 0))))) (ah ae))) (ah ae) (aS _)) (aE (av 2) (av 0)) mF)))))))
abbrev jS:Stmt:=top 78
abbrev n?:List Str:=["_law_group_here", "_law_row", "_law_found", "_law_wished", "_law_more"]
abbrev jX:List Str:=["_law_group_here", "_law_row"]
theorem m?:aA n? jX (au jS):=⟨rfl,rfl,rfl,by decide +kernel,rfl,by decide +kernel,by decide +kernel⟩
abbrev kD(P:Program)(w:World)(K:PySem.W.Frag)(mg:Str->Option Value)(base:Heap):Prop:=ZS.fK P w K mg base "_law_worth_in" 1 jX (KB.f')
theorem uA(d:ZS.Def K mg "_law_worth_in" jS jX): kD P w K mg base :=
 cL (N:=n?) (b:=KB.g?) d m? λ f bP A outer s H E hr=>have nd:=m?.nd;have hu:=hr.units;(ag (aC (i:=2) nd rfl (lo rfl) (aE (av 0) (ah ae))) (ag (cD PassesOwn.never rfl (jl (aE (av 0) (ah ae))) (kz rfl (bb (i:=3) nd rfl (lo rfl) (bb (i:=4) nd rfl (lo rfl) e!)) rfl) (aq (bN (aR (ZS.qk hu) (av 3) (av 1) (aS _)) (aq (aC (i:=2) nd rfl (lo rfl) (aH (av 2) (av 4)))) aP))) (aq (aD (ao 2)))))
abbrev nS:Stmt:=top 79
abbrev ub:List Str:=["_law_groups_here", "_law_seating", "_law_found", "_law_group_here", "_law_place"]
abbrev n0:List Str:=["_law_groups_here", "_law_seating"]
theorem qQ:aA ub n0 (au nS):=⟨rfl,rfl,rfl,by decide +kernel,rfl,by decide +kernel,by decide +kernel⟩
abbrev i'(P:Program)(w:World)(K:PySem.W.Frag)(mg:Str->Option Value)(base:Heap):Prop:=ZS.fK P w K mg base "_law_worth" 2 n0 (KB.cO)
theorem yQ(d:ZS.Def K mg "_law_worth" nS n0)(kH:kD P w K mg base)(iS:mg "zip" = none):i' P w K mg base :=
 cL (N:=ub) (b:=KB.k8) d qQ λ f bP A outer s H E hr=>have nd:=qQ.nd;have hu:=hr.units;(ag (aC (i:=2) nd rfl (lo rfl) ae) (ag (cD PassesOwn.never rfl (qf rfl iS (ao 0) (ao 1)) (kz rfl (bb (i:=3) nd rfl (lo rfl) (bb (i:=4) nd rfl (lo rfl) e!)) rfl) (aq (bN (jx (av 4)) (aq (aC (i:=2) nd rfl (lo rfl) (aH (av 2) (ah (aj kH (hr.mono (by decide)) rfl (ab (ao 3) (b! (aE (av 4) (ah ae)) ak))))))) aP))) (aq (aD (ao 2)))))
abbrev rZ:Stmt:=top 80
abbrev xY:List Str:=["_law_spots", "_law_groups_here", "_law_fast_here", "_law_some", "_law_seatings", "_law_k", "_law_more", "_law_seating", "_law_place"]
abbrev sf:List Str:=["_law_spots", "_law_groups_here", "_law_fast_here", "_law_some"]
theorem vo:aA xY sf (au rZ):=⟨rfl,rfl,rfl,by decide +kernel,rfl,by decide +kernel,by decide +kernel⟩
abbrev sY(P:Program)(w:World)(K:PySem.W.Frag)(mg:Str->Option Value)(base:Heap):Prop:=ZS.fK P w K mg base "_law_all" 3 sf (KB.kn)
theorem Ca(d:ZS.Def K mg "_law_all" rZ sf)(iI:mZ P w K mg base)(iH:mX P w K mg base)(aO:mg "len" = none)(aJ:mg "range" = none):sY P w K mg base :=
 cL (N:=xY) (b:=KB.o6) d vo λ f bP A outer s H E hr=>have nd:=vo.nd;have hu:=hr.units;(ag (aC (i:=4) nd rfl (lo rfl) (qh (bu (ab (ao 2) ak)))) (ag (cD PassesOwn.never rfl (cX rfl aJ (bU rfl aO b7 (av 1))) (aU (i:=5) nd rfl (lo rfl)) (aq (bN (oz (ah (aE (av 2) (av 5)))) (ag (gZ (i:=6) nd rfl (lo rfl) (bu ak)) (ag (cD PassesOwn.never rfl (jl (ao 4)) (aU (i:=7) nd rfl (lo rfl)) (ag (cD PassesOwn.never rfl (jl (aj iI (hr.mono (by decide)) rfl (ab (ao 0) (ab (ao 1) (ab (ao 7) (ab (ao 5) ak)))))) (aU (i:=8) nd rfl (lo rfl)) (aq (g9 (i:=6) (pv 6) (aj iH (hr.mono (by decide)) rfl (ab (ao 7) (ab (ao 5) (ab (ao 8) ak))))))) (aq (bN (ku (ao 3)) (aq (g9 (i:=6) (pv 6) (ao 7))) aP)))) (mD (i:=6) (aq (aC (i:=4) nd rfl (lo rfl) (ao 6)))))) aP))) (aq (aD (ao 4)))))
abbrev pW:Stmt:=top 81
abbrev vR:List Str:=["_law_hall_here", "_law_groups_here", "_law_seatings", "_law_most", "_law_seating", "_law_worth_here"]
abbrev p9:List Str:=["_law_hall_here", "_law_groups_here", "_law_seatings", "_law_most"]
theorem t6:aA vR p9 (au pW):=⟨rfl,rfl,rfl,by decide +kernel,rfl,by decide +kernel,by decide +kernel⟩
abbrev qw(P:Program)(w:World)(K:PySem.W.Frag)(mg:Str->Option Value)(base:Heap):Prop:=ZS.fK P w K mg base "_law_each" 4 p9 (iY)
theorem AL(d:ZS.Def K mg "_law_each" pW p9)(dH:i' P w K mg base)(o8:u3 P w K mg base)(cj:gj P w K mg base):qw P w K mg base :=
 cL (N:=vR) (b:=mR) d t6 λ f bP A outer s H E hr=>have nd:=t6.nd;have hu:=hr.units;(ag (cD PassesOwn.never rfl (jl (ao 2)) (aU (i:=4) nd rfl (lo rfl)) (ag (aC (i:=5) nd rfl (lo rfl) (aj cj (hr.mono (by decide)) rfl (ab (ao 1) (ab (ao 4) ak)))) (aq (bN (zo (kY (uW (ah (aj o8 (hr.mono (by decide)) rfl (ab (ao 0) (ab (ao 1) (ab (ao 4) ak)))))) (kY (aR (ZS.uM hu) (av 5) (ah (aj dH (hr.mono (by decide)) rfl (ab (ao 1) (ab (ao 4) ak)))) (aS _)) (jk (aR ZS.zL (av 5) (av 3) (aS _)))))) (aq (aD dE)) aP)))) (aq (aD dE)))
abbrev pR:Stmt:=top 82
abbrev vN:List Str:=["_law_hall_here", "_law_groups_here", "_law_fast_here", "_law_paper"]
abbrev p5:List Str:=["_law_hall_here", "_law_groups_here", "_law_fast_here"]
theorem tV:aA vN p5 (au pR):=⟨rfl,rfl,rfl,by decide +kernel,rfl,by decide +kernel,by decide +kernel⟩
abbrev qp(P:Program)(w:World)(K:PySem.W.Frag)(mg:Str->Option Value)(base:Heap):Prop:=ZS.fK P w K mg base "_law_none" 18 p5 (iU)
theorem AG(d:ZS.Def K mg "_law_none" pR p5)(eX:iP P w K mg base)(cF:fq P w K mg base)(tu:sV P w K mg base)(iF:mW P w K mg base):qp P w K mg base :=
 cL (N:=vN) (b:=mP) d tV λ f bP A outer s H E hr=>have nd:=tV.nd;have hu:=hr.units;(ag (aC (i:=3) nd rfl (lo rfl) (aj iF.full (hr.mono (by decide)) rfl (ab (ao 0) (ab (ao 1) (ab (ao 2) ak))))) (ag (bN (zo (kY (jx (ah (aj eX.full (hr.mono (by decide)) rfl (ab (ao 0) (ab (ao 1) (ab (ao 2) ak)))))) (jk (jx (ah (aj cF.full (hr.mono (by decide)) rfl (ab (ao 0) (ab (ao 1) (ab (ao 2) ak))))))))) (aq (aD dE)) aP) (aq (aD (lA (zy (av 3)) (iB (CO (ah (aj tu.full (hr.mono (by decide)) rfl (ab (ao 0) (ab (ao 1) (ab (ao 3) (ab (ao 2) ak)))))))))))))
abbrev nV:Stmt:=top 83
abbrev ue:List Str:=["_law_hall_here", "_law_groups_here", "_law_fast_here", "_law_every_here", "_law_best", "_law_most"]
abbrev n5:List Str:=["_law_hall_here", "_law_groups_here", "_law_fast_here", "_law_every_here"]
theorem qT:aA ue n5 (au nV):=⟨rfl,rfl,rfl,by decide +kernel,rfl,by decide +kernel,by decide +kernel⟩
abbrev oE(P:Program)(w:World)(K:PySem.W.Frag)(mg:Str->Option Value)(base:Heap):Prop:=ZS.fK P w K mg base "_law_every" 18 n5 (gU)
theorem yT(d:ZS.Def K mg "_law_every" nV n5)(dH:i' P w K mg base)(eX:iP P w K mg base)(cF:fq P w K mg base)(iF:mW P w K mg base)(cj:gj P w K mg base)(j_:mg "max" = none)(wg:mg "min" = none):oE P w K mg base :=
 cL (N:=ue) (b:=k9) d qT λ f bP A outer s H E hr=>have nd:=qT.nd;have hu:=hr.units;(ag (aC (i:=4) nd rfl (lo rfl) (aj eX.full (hr.mono (by decide)) rfl (ab (ao 0) (ab (ao 1) (ab (ao 2) ak))))) (ag (bN (zo (kY (aR (ZS.uM hu) (ah (aj cF.full (hr.mono (by decide)) rfl (ab (ao 0) (ab (ao 1) (ab (ao 2) ak))))) (ah (zA hu rfl wg HB (av 3))) (aS _)) (jk (jx (ah (aj iF.full (hr.mono (by decide)) rfl (ab (ao 0) (ab (ao 1) (ab (ao 2) ak))))))))) (aq (aD dE)) aP) (ag (aC (i:=5) nd rfl (lo rfl) (zD rfl j_ wQ (fV (cW rfl (eu (av 3)) (N':=["_law_seating", "_law_groups_here"]) (n:=1) (is:=[1]) (ZS.lE.of (by kernel_rfl)) (ZS.bz (by decide)) (λ _ _ _ _ _ _=>(aU (i:=0) (show List.Nodup (["_law_seating", "_law_groups_here"]:List Str)by decide +kernel) rfl (lo rfl))) (λ _ _ _ _ _=>d9) (λ _ _ _ _ _=>(aj dH (hr.mono (by decide)) rfl (ab (ao 1) (ab (ao 0) ak)))))))) (aq (aD (lA (eA (ZS.Nc hu) (av 4) (av 3) (by with_unfolding_all rfl)) (iB (eA (ZS.qk hu) (ah (aj cj (hr.mono (by decide)) rfl (ab (ao 1) (ab (ao 4) ak)))) (av 5) (aS _)))))))))
abbrev F1:Stmt:=top 84
abbrev KW:List Str:=["_law_script", "_law_hall_here", "_law_one", "_law_other", "_law_groups_here", "_law_spots", "_law_bits", "_law_fast_here", "_law_seatings", "_law_most", "_law_best", "_law_every_here"]
abbrev KN:List Str:=["_law_script"]
theorem FZ:aA KW KN (au F1):=⟨rfl,rfl,rfl,by decide +kernel,rfl,by decide +kernel,by decide +kernel⟩
theorem L8{f:Addr}{fd:FuncData}(F:HM K "law" "law" F1 f fd)(tF:sY P w K mg base)(aZ:eT P w K mg base)(qF:qw P w K mg base)(oK:oE P w K mg base)(qE:qv P w K mg base)(tx:sW P w K mg base)(m9:m4 P w K mg base)(qC:qr P w K mg base)(cm:gx P w K mg base)(qA:qp P w K mg base)(fE:jG P w K mg base)(m8:mY P w K mg base)(dH:i' P w K mg base)(d6:h! P w K mg base)(fG:jI P w K mg base)(wZ:wV P w K mg base)(tm:sT P w K mg base)(tj:zT P w K mg base)(aO:mg "len" = none):nE P w K mg base tI 19 f fd KN (ZS.z6 K sF) :=
 ZC (N:=KW) (b:=D4) F FZ λ bP A outer s H E hr=>have nd:=FZ.nd;have hu:=hr.units;(ag (wB (aj qC (hr.mono (by decide)) rfl (ab (ao 0) ak)) (wF rfl (bb (i:=1) nd rfl (lo rfl) (bb (i:=2) nd rfl (lo rfl) (bb (i:=3) nd rfl (lo rfl) e!))) rfl)) (ag (aC (i:=4) nd rfl (lo rfl) (aj tx (hr.mono (by decide)) rfl (ab (ao 1) (bg (aj m9 (hr.mono (by decide)) rfl (ab (ao 0) (ab (ao 2) (ab (ao 3) ak)))) (ai ae ak))))) (ag (iM (i:=5) rfl nd rfl (lo rfl) (eu (av 4)) (N':=["_law_group_here", "_law_hall_here"]) (n:=1) (is:=[1]) (ZS.lE.of (by kernel_rfl)) (ZS.bz (by decide)) (λ _ _ _ _ _ _=>(aU (i:=0) (show List.Nodup (["_law_group_here", "_law_hall_here"]:List Str)by decide +kernel) rfl (lo rfl))) (λ _ _ _ _ _=>d9) (λ _ _ _ _ _=>(aj fE (hr.mono (by decide)) rfl (ab (ao 1) (ab (ao 0) ak))))) (ag (aC (i:=6) nd rfl (lo rfl) (aj cm (hr.mono (by decide)) rfl (cI (aH (ah (aj aZ (hr.mono (by decide)) rfl (ab (ao 0) (ai ae ak)))) (ah (aj aZ (hr.mono (by decide)) rfl (ab (ao 0) (ai ae ak))))) (ai ae ak)))) (ag (aC (i:=7) nd rfl (lo rfl) (aj qE (hr.mono (by decide)) rfl (bg (aj m8 (hr.mono (by decide)) rfl (ab (ao 5) (ab (ao 4) (ab (ao 0) ak)))) (ab (ao 6) ak)))) (ag (aC (i:=8) nd rfl (lo rfl) (aj tF (hr.mono (by decide)) rfl (ab (ao 5) (ab (ao 4) (ab (ao 7) (ai dE ak)))))) (ag (aC (i:=9) nd rfl (lo rfl) (aj fG.full (hr.mono (by decide)) rfl (ab (ao 1) (ab (ao 4) (ab (ao 7) ak))))) (ag (bN (zo (kY (gW (ku (aj qF (hr.mono (by decide)) rfl (ab (ao 1) (ab (ao 4) (ab (ao 8) (ab (ao 9) ak))))))) (jk (aR ZS.zL (ah (bU rfl aO b7 (av 8))) (ah (aj tj.full (hr.mono (by decide)) rfl (ab (ao 1) (ab (ao 4) (ab (ao 7) ak))))) (aS _))))) (aq (aD dE)) aP) (ag (aC (i:=10) nd rfl (lo rfl) (aj d6.full (hr.mono (by decide)) rfl (ab (ao 1) (ab (ao 4) (ab (ao 7) ak))))) (ag (bN (zo (kY (aR (ZS.zK hu) (av 10) (av 8) (by with_unfolding_all rfl)) (jk (aR (ZS.uM hu) (ah (aj dH (hr.mono (by decide)) rfl (ab (ao 4) (ab (ao 10) ak)))) (av 9) (aS _))))) (aq (aD dE)) aP) (ag (bN (uW (ah (aj wZ.full (hr.mono (by decide)) rfl (ab (ao 1) (ab (ao 4) (ab (ao 9) (bg (aj tm.full (hr.mono (by decide)) rfl (ab (ao 1) (ab (ao 4) (ab (ao 7) ak)))) (ab (ao 7) ak)))))))) (aq (aD dE)) aP) (ag (iM (i:=11) rfl nd rfl (lo rfl) (eu (av 8)) (N':=["_law_seating"]) (n:=1) (is:=[]) (ZS.lE.of (by kernel_rfl)) (ZS.bz (by decide)) (λ _ _ _ _ _ _=>(aU (i:=0) (show List.Nodup (["_law_seating"]:List Str)by decide +kernel) rfl (lo rfl))) (λ _ _ _ _ _=>(gC (aR (ZS.zK hu) (ah mF) (av 0) (by with_unfolding_all rfl)))) (λ _ _ _ _ _=>(ao 0))) (ag (bN (aR (ZS.qk hu) (av 11) (fV (bu ak)) (aS _)) (aq (aD (aj qA (hr.mono (by decide)) rfl (ab (ao 1) (ab (ao 4) (ab (ao 7) ak)))))) aP) (aq (aD (aj oK (hr.mono (by decide)) rfl (ab (ao 1) (ab (ao 4) (ab (ao 7) (ab (ao 11) ak))))))))))))))))))))
end
end Fo
namespace Fo
open PySem PySem.Spec PyProof.Rows L2 ZQ KG KH KB KC
theorem all_mk{l:PySem.W.OpenLaw}{w:World}{K:PySem.W.Frag}{h:Heap}{mg:Str->Option Value}{fa:Addr}(X:K.In h)(G:h.Ns mainGlobals mg)(EV:mg "law" = some (.ref fa))(a0:ZS.cw K "is_whole" pX)(a1:ZS.cw K "is_whole_within" gF)(a2:ZS.cw K "worth_in" pL)(a3:ZS.cw K "sign_at" rV)(a4:ZS.cw K "takes" yC)(a5:ZS.cw K "seats_of" pN)(a6:ZS.cw K "fits" B2)(a7:ZS.cw K "places_of" nQ)(a8:ZS.cw K "apart" yE)(a9:ZS.cw K "those_that_sit" ir)(a10:ZS.cw K "apart_from_all" iv)(a11:ZS.cw K "keeps" yD)(a12:ZS.cw K "worth_of" pK)(a13:ZS.cw K "fast_seating" jU)(a14:ZS.fJ K "ways" B1)(a15:ZS.cw K "small_start" lg)(a16:ZS.cw K "with_place" l8)(a17:ZS.cw K "open_among" l9)(a18:ZS.cw K "with_one_more" ja)(a19:ZS.cw K "seatings_from" jc)(a20:ZS.fJ K "first_of_all" jT)(a21:ZS.uq K "best_among" me)(a22:ZS.fJ K "best_of_all" ll)(a23:ZS.fJ K "best_of_some" jV)(a24:ZS.fJ K "best_worth" md)(a25:ZS.cw K "all_places" mh)(a26:ZS.cw K "spots_of" pM)(a27:ZS.cw K "is_waiting" ma)(a28:ZS.cw K "begins_with" lq)(a29:ZS.cw K "is_each" r0)(a30:ZS.cw K "lets_by_beside" iu)(a31:ZS.fJ K "lets_by" rW)(a32:ZS.uq K "paper_beside" jR)(a33:ZS.fJ K "paper_of" pO)(a34:ZS.cw K "still_waiting" jb)(a35:ZS.cw K "most_from" nR)(a36:ZS.cw K "bounds_beside" jd)(a37:ZS.fJ K "bounds" vq)(a38:ZS.cw K "tree_beside" k_)(a39:ZS.fJ K "tree_of" rT)(a40:ZS.cw K "_law_cell_at" lj)(a41:ZS.cw K "_law_mixed" nT)(a42:ZS.cw K "_law_digits" l_)(a43:ZS.cw K "_law_hall" pT)(a44:ZS.cw K "_law_name" pS)(a45:ZS.cw K "_law_any" rY)(a46:ZS.cw K "_law_group" nU)(a47:ZS.cw K "_law_groups" l?)(a48:ZS.cw K "_law_fits" pU)(a49:ZS.cw K "_law_places" l!)(a50:ZS.cw K "_law_apart" nX)(a51:ZS.cw K "_law_open" pQ)(a52:ZS.cw K "_law_with" pP)(a53:ZS.cw K "_law_few" rX)(a54:ZS.cw K "_law_seated" l')(a55:ZS.cw K "_law_fast" pV)(a56:ZS.cw K "_law_worth_in" jS)(a57:ZS.cw K "_law_worth" nS)(a58:ZS.cw K "_law_all" rZ)(a59:ZS.cw K "_law_each" pW)(a60:ZS.cw K "_law_none" pR)(a61:ZS.cw K "_law_every" nV)(a62:ZS.cw K "law" F1){qN:Tok}(v_DEPTH:PySem.W.nsIn K mainGlobals "DEPTH" = some (some (.int 2 qN))){FL:Tok}(v_GAP:PySem.W.nsIn K mainGlobals "GAP" = some (some (.int 5 FL))){BW:Tok}(v_KIND:PySem.W.nsIn K mainGlobals "KIND" = some (some (.int 3 BW))){nH:Tok}(v_MOST_WAYS:PySem.W.nsIn K mainGlobals "MOST_WAYS" = some (some (.int 2000 nH))){BV:Tok}(v_WIDE:PySem.W.nsIn K mainGlobals "WIDE" = some (some (.int 4 BV))){qM:Tok}(v_WIDTH:PySem.W.nsIn K mainGlobals "WIDTH" = some (some (.int 1 qM))){u?:Tok}(v_WISHES:PySem.W.nsIn K mainGlobals "WISHES" = some (some (.int 7 u?))){yt:Tok}(v_WORTH:PySem.W.nsIn K mainGlobals "WORTH" = some (some (.int 6 yt)))(n_all:PySem.W.nsIn K mainGlobals "all" = some none)(n_bool:PySem.W.nsIn K mainGlobals "bool" = some none)(n_int:PySem.W.nsIn K mainGlobals "int" = some none)(n_isinstance:PySem.W.nsIn K mainGlobals "isinstance" = some none)(n_len:PySem.W.nsIn K mainGlobals "len" = some none)(n_max:PySem.W.nsIn K mainGlobals "max" = some none)(n_min:PySem.W.nsIn K mainGlobals "min" = some none)(n_range:PySem.W.nsIn K mainGlobals "range" = some none)(n_str:PySem.W.nsIn K mainGlobals "str" = some none)(n_sum:PySem.W.nsIn K mainGlobals "sum" = some none)(n_tuple:PySem.W.nsIn K mainGlobals "tuple" = some none)(n_zip:PySem.W.nsIn K mainGlobals "zip" = some none):
  ∃fd:FuncData,(∀(s:Shared) (v:Value),BindsTo s fd ⟨[v],[]⟩ [("_law_script",v)])∧∀base:Heap,K.In base->base.Ns mainGlobals mg->nE l.prog w K mg base tI 19 fa fd ["_law_script"] (ZS.z6 K sF):=by
 have mH:=PySem.W.mg_of X G v_DEPTH;have D3:=PySem.W.mg_of X G v_GAP;have CU:=PySem.W.mg_of X G v_KIND;have oB:=PySem.W.mg_of X G v_MOST_WAYS;have CT:=PySem.W.mg_of X G v_WIDE;have mG:=PySem.W.mg_of X G v_WIDTH;have wN:=PySem.W.mg_of X G v_WISHES;have zM:=PySem.W.mg_of X G v_WORTH;have pD:=PySem.W.mg_none_of X G n_all;have g_bool:=PySem.W.mg_none_of X G n_bool;have ye:=PySem.W.mg_none_of X G n_int;have cz:=PySem.W.mg_none_of X G n_isinstance;have aO:=PySem.W.mg_none_of X G n_len;have j_:=PySem.W.mg_none_of X G n_max;have wg:=PySem.W.mg_none_of X G n_min;have aJ:=PySem.W.mg_none_of X G n_range;have Hb:=PySem.W.mg_none_of X G n_str;have yd:=PySem.W.mg_none_of X G n_sum;have aX:=PySem.W.mg_none_of X G n_tuple;have iS:=PySem.W.mg_none_of X G n_zip;obtain⟨fd,hb,F⟩:=a62.law X G EV (x := "_law_script") λ _ _ _ _ _ _ _ _=>.of_eq rfl;refine⟨fd,hb,λ base _ _=>?_⟩;have qG:qx l.prog w K mg base:=AM (a0.df X G λ _ _ _ _ _ _=>ZS.VZ λ _=>rfl) g_bool ye cz;have h_:h9 l.prog w K mg base:=p? (a1.df X G λ _ _ _ _ _ _=>ZS.CZ λ _ _ _=>rfl) qG;have iE:mV l.prog w K mg base:=Ay (a2.df X G λ _ _ _ _ _ _=>ZS.yn λ _ _=>rfl) yd wN zM;have tq:sU l.prog w K mg base:=B' (a3.df X G λ _ _ _ _ _ _=>ZS.yn λ _ _=>rfl) aO;have zY:zU l.prog w K mg base:=Gm (a4.df X G λ _ _ _ _ _ _=>ZS.yn λ _ _=>rfl) ;have qz:qo l.prog w K mg base:=AA (a5.df X G λ _ _ _ _ _ _=>ZS.yn λ _ _=>rfl) aJ aX mH mG;have tH:zV l.prog w K mg base:=Jj (a6.df X G λ _ _ _ _ _ _=>ZS.CZ λ _ _ _=>rfl) qz tq zY pD CU CT;have dG:i9 l.prog w K mg base:=yO (a7.df X G λ _ _ _ _ _ _=>ZS.yn λ _ _=>rfl) tH aO aJ aX;have zZ:zW l.prog w K mg base:=Gp (a8.df X G λ _ _ _ _ _ _=>ZS.FE λ _ _ _ _=>rfl) j_ mH D3 mG;have bD:de l.prog w K mg base:=qY (a9.df X G λ _ _ _ _ _ _=>ZS.yn λ _ _=>rfl) iS;have dh:fB l.prog w K mg base:=qZ (a10.df X G λ _ _ _ _ _ _=>ZS.CZ λ _ _ _=>rfl) zZ pD;have o8:u3 l.prog w K mg base:=Gn (a11.df X G λ _ _ _ _ _ _=>ZS.CZ λ _ _ _=>rfl) dh tH bD pD aO aJ;have cj:gj l.prog w K mg base:=Ax (a12.df X G λ _ _ _ _ _ _=>ZS.yn λ _ _=>rfl) bD iE yd;have aW:cU l.prog w K mg base:=uC (a13.df X G λ _ _ _ _ _ _=>ZS.CZ λ _ _ _=>rfl) o8 aO;have tj:zT l.prog w K mg base:=Ji (a14.df X G (λ _ _ _ _ _ _ _ us hl=>match us,hl with | [_,_,_],_=>⟨_,rfl,rfl⟩) λ _ _ _ _ _ _ _ us hl=>match us,hl with | [_,_],_=>⟨_,rfl,rfl⟩) aW dG aO iS;have cP:fZ l.prog w K mg base:=vC (a15.df X G λ _ _ _ _ _ _=>ZS.CZ λ _ _ _=>rfl) aW tj oB;have bf:eF l.prog w K mg base:=w_ (a16.df X G λ _ _ _ _ _ _=>ZS.CZ λ _ _ _=>rfl) ;have fD:jF l.prog w K mg base:=xa (a17.df X G λ _ _ _ _ _ _=>ZS.CZ λ _ _ _=>rfl) dh aX;have jo:jn l.prog w K mg base:=sh (a18.df X G λ _ _ _ _ _ _=>ZS.XE λ _ _ _ _ _=>rfl) fD dG bD bf;have b_:eK l.prog w K mg base:=sk (a19.df X G λ _ _ _ _ _ _=>ZS.FE λ _ _ _ _=>rfl) jo aO aJ;have cF:fq l.prog w K mg base:=uB (a20.df X G (λ _ _ _ _ _ _ _ us hl=>match us,hl with | [_,_,_],_=>⟨_,rfl,rfl⟩) λ _ _ _ _ _ _ _ us hl=>match us,hl with | [_,_],_=>⟨_,rfl,rfl⟩) b_ cP aO;have fH:jJ l.prog w K mg base:=xj (a21.1.df X G λ _ _ _ _ _ _=>ZS.yn λ _ _=>rfl) (a21.lam X G) cj j_;have eX:iP l.prog w K mg base:=vE (a22.df X G (λ _ _ _ _ _ _ _ us hl=>match us,hl with | [_,_,_],_=>⟨_,rfl,rfl⟩) λ _ _ _ _ _ _ _ us hl=>match us,hl with | [_,_],_=>⟨_,rfl,rfl⟩) fH b_ cP;have d6:h! l.prog w K mg base:=uD (a23.df X G (λ _ _ _ _ _ _ _ us hl=>match us,hl with | [_,_,_],_=>⟨_,rfl,rfl⟩) λ _ _ _ _ _ _ _ us hl=>match us,hl with | [_,_],_=>⟨_,rfl,rfl⟩) fH b_ cP;have fG:jI l.prog w K mg base:=xi (a24.df X G (λ _ _ _ _ _ _ _ us hl=>match us,hl with | [_,_,_],_=>⟨_,rfl,rfl⟩) λ _ _ _ _ _ _ _ us hl=>match us,hl with | [_,_],_=>⟨_,rfl,rfl⟩) d6 cj;have cb:fC l.prog w K mg base:=xk (a25.df X G λ _ _ _ _ _ _=>ZS.yn λ _ _=>rfl) dG;have bH:gn l.prog w K mg base:=Az (a26.df X G λ _ _ _ _ _ _=>ZS.FE λ _ _ _ _=>rfl) fD bD;have dI:jH l.prog w K mg base:=xh (a27.df X G λ _ _ _ _ _ _=>ZS.yn λ _ _=>rfl) h_ aO;have b8:f7 l.prog w K mg base:=vF (a28.df X G λ _ _ _ _ _ _=>ZS.CZ λ _ _ _=>rfl) cz aO Hb aX;have fF:o7 l.prog w K mg base:=Cb (a29.df X G λ _ _ _ _ _ _=>ZS.VZ λ _=>rfl) b8 cz aX;have iG:l0 l.prog w K mg base:=kR (a30.df X G λ _ _ _ _ _ _=>ZS.FE λ _ _ _ _=>rfl) b8 fF dI bH bf aO iS 9;have tu:sV l.prog w K mg base:=B! (a31.df X G (λ _ _ _ _ _ _ _ us hl=>match us,hl with | [_,_,_,_],_=>⟨_,rfl,rfl⟩) λ _ _ _ _ _ _ _ us hl=>match us,hl with | [_,_,_],_=>⟨_,rfl,rfl⟩) cb aW iG;have kG:oC l.prog w K mg base:=nh (a32.1.df X G λ _ _ _ _ _ _=>ZS.CZ λ _ _ _=>rfl) (a32.lam X G) bH bf aO wg aJ aX 9;have iF:mW l.prog w K mg base:=AB (a33.df X G (λ _ _ _ _ _ _ _ us hl=>match us,hl with | [_,_,_],_=>⟨_,rfl,rfl⟩) λ _ _ _ _ _ _ _ us hl=>match us,hl with | [_,_],_=>⟨_,rfl,rfl⟩) cb aW cF kG;have c5:gg l.prog w K mg base:=sj (a34.df X G λ _ _ _ _ _ _=>ZS.yn λ _ _=>rfl) aO aJ;have d7:k! l.prog w K mg base:=yP (a35.df X G λ _ _ _ _ _ _=>ZS.FE λ _ _ _ _=>rfl) bH c5 iE cj j_;have jq:ny l.prog w K mg base:=lP (a36.df X G λ _ _ _ _ _ _=>ZS.bd6 λ _ _ _ _ _ _=>rfl) b8 fF dI d7 bH bf aO iS 9;have wZ:wV l.prog w K mg base:=Er (a37.df X G (λ _ _ _ _ _ _ _ us hl=>match us,hl with | [_,_,_,_,_],_=>⟨_,rfl,rfl⟩) λ _ _ _ _ _ _ _ us hl=>match us,hl with | [_,_,_,_],_=>⟨_,rfl,rfl⟩) cb jq aW;have lD:pH l.prog w K mg base:=n9 (a38.df X G λ _ _ _ _ _ _=>ZS.XE λ _ _ _ _ _=>rfl) d7 bH c5 bf aX 9;have tm:sT l.prog w K mg base:=B9 (a39.df X G (λ _ _ _ _ _ _ _ us hl=>match us,hl with | [_,_,_],_=>⟨_,rfl,rfl⟩) λ _ _ _ _ _ _ _ us hl=>match us,hl with | [_,_],_=>⟨_,rfl,rfl⟩) cb fG aW lD;have aZ:eT l.prog w K mg base:=vD (a40.df X G λ _ _ _ _ _ _=>ZS.yn λ _ _=>rfl) aO;have cm:gx l.prog w K mg base:=yR (a41.df X G λ _ _ _ _ _ _=>ZS.yn λ _ _=>rfl) ;have cQ:hX l.prog w K mg base:=xg (a42.df X G λ _ _ _ _ _ _=>ZS.yn λ _ _=>rfl) ;have qC:qr l.prog w K mg base:=AI (a43.df X G λ _ _ _ _ _ _=>ZS.VZ λ _=>rfl) aZ cQ cm aJ aX;have qB:qq l.prog w K mg base:=AH (a44.df X G λ _ _ _ _ _ _=>ZS.yn λ _ _=>rfl) aJ;have tD:sX l.prog w K mg base:=B_ (a45.df X G λ _ _ _ _ _ _=>ZS.yn λ _ _=>rfl) cQ aJ aX;have oJ:oD l.prog w K mg base:=yS (a46.df X G λ _ _ _ _ _ _=>ZS.FE λ _ _ _ _=>rfl) ye aJ aX;have m9:m4 l.prog w K mg base:=xf (a47.df X G λ _ _ _ _ _ _=>ZS.CZ λ _ _ _=>rfl) tD aZ cQ oJ cm qB aO aJ aX;have qD:qt l.prog w K mg base:=AJ (a48.df X G λ _ _ _ _ _ _=>ZS.FE λ _ _ _ _=>rfl) aO aJ;have fE:jG l.prog w K mg base:=xc (a49.df X G λ _ _ _ _ _ _=>ZS.yn λ _ _=>rfl) qD aO aJ;have oM:oF l.prog w K mg base:=yU (a50.df X G λ _ _ _ _ _ _=>ZS.FE λ _ _ _ _=>rfl) j_;have iI:mZ l.prog w K mg base:=AE (a51.df X G λ _ _ _ _ _ _=>ZS.FE λ _ _ _ _=>rfl) oM aO aJ;have iH:mX l.prog w K mg base:=AD (a52.df X G λ _ _ _ _ _ _=>ZS.CZ λ _ _ _=>rfl) ;have tx:sW l.prog w K mg base:=B? (a53.df X G λ _ _ _ _ _ _=>ZS.CZ λ _ _ _=>rfl) fE aO aX;have m8:mY l.prog w K mg base:=xb (a54.df X G λ _ _ _ _ _ _=>ZS.CZ λ _ _ _=>rfl) aZ cm iI iH aO aJ aX;have qE:qv l.prog w K mg base:=AK (a55.df X G λ _ _ _ _ _ _=>ZS.yn λ _ _=>rfl) aO aJ aX;have kH:kD l.prog w K mg base:=uA (a56.df X G λ _ _ _ _ _ _=>ZS.yn λ _ _=>rfl) ;have dH:i' l.prog w K mg base:=yQ (a57.df X G λ _ _ _ _ _ _=>ZS.yn λ _ _=>rfl) kH iS;have tF:sY l.prog w K mg base:=Ca (a58.df X G λ _ _ _ _ _ _=>ZS.FE λ _ _ _ _=>rfl) iI iH aO aJ;have qF:qw l.prog w K mg base:=AL (a59.df X G λ _ _ _ _ _ _=>ZS.FE λ _ _ _ _=>rfl) dH o8 cj;have qA:qp l.prog w K mg base:=AG (a60.df X G λ _ _ _ _ _ _=>ZS.CZ λ _ _ _=>rfl) eX cF tu iF;have oK:oE l.prog w K mg base:=yT (a61.df X G λ _ _ _ _ _ _=>ZS.FE λ _ _ _ _=>rfl) dH eX cF iF cj j_ wg;exact L8 F tF aZ qF oK qE tx m9 qC cm qA fE m8 dH d6 fG wZ tm tj aO
theorem walk{l:PySem.W.OpenLaw}{q:Program}{loose:List Str}{XP:(Str->Option Value)->Heap->Prop}{YP:World->Heap->Prop}{d:DefRec}{K:Params->PySem.W.Frag}(hn:l.most=some 63)(Vi:d.params.defaults=[])
  (hY:∀(w:World)(h:Heap),YP w h->(K w.params).In h)
  (F:∀ (w:World) (mg:Str->Option Value) (fa:Addr) (h:Heap),(K w.params).In h->h.Ns mainGlobals mg->mg d.name=some (.ref fa) ->
   ∃fd:FuncData,(∀(s:Shared) (u:Value),BindsTo s fd ⟨[u],[]⟩ [("_law_script",u)])∧∀base:Heap,(K w.params).In base->base.Ns mainGlobals mg->nE l.prog w (K w.params) mg base tI 19 fa fd ["_law_script"] (ZS.z6 (K w.params) sF)) (hL:∀w:World,ZS.HL q (K w.params)) :
  PySem.W.WalkO q loose XP YP l.row.toRowW d [] (λ f vs=>PySem.call f vs) :=
 ZS.Lp (n:=63) (k:=19) (x := "_law_script") (m:=sF) hn (by decide) Vi ⟨rfl,by decide,by decide⟩ hY F hL holds
end Fo
namespace Fo
open PySem PySem.Spec PyProof.Rows L2
abbrev WL:String := "besideseats.plain"
abbrev YB:String := "besideseats.groups"
abbrev YA:String := "besideseats.halls"
abbrev Sh:String := "besideseats.places"
abbrev Pw:String := "besideseats.seatings"
abbrev K1:String := "besideseats.rooms"
abbrev Sg:String := "besideseats.best"
abbrev JC:String := "besideseats.papers"
abbrev ND:String := "besideseats.trees"
abbrev vU:String := "law_besideseats_k94_whole_all_ways"
noncomputable def kd(P:Params)(n:String)(t:Nat)(v:Value):DictEntry:={ hash:=PyData.keyHash P (Str.ofString n),key:=.str (Str.ofString n) t,val:=v }
noncomputable def kc(n:String)(t l:Nat)(a b c d e f g h i j:Value)(u:Nat):Obj:={ cls:=.type "code",data:=.fields #[.str (Str.ofString n) t,.str (Str.ofString n) (t+1),.str (Str.ofString "/claim/cut.py") (t+2),.int l 0,a,.int 0 0,.int 0 0,b,c,.bool true,d,e,f,g,h,i,j,.int l 0,.str (Str.ofString "/claim/cut.py") u] }
noncomputable def kf(n:String)(i:Nat)(m:String)(t c:Nat)(v:Value:=.none):Obj:={ cls:=.type "function",data:=.func { name:=Str.ofString n,qualname:=Str.ofString n,params:=dm (top i),body:=.stmts (bO (top i)),scope:=au (top i),globals:=3,closure:=[],defaults:=v,kwdefaults:=.none,pyModule:=.str (Str.ofString m) t,code:=.ref c } }
noncomputable def KK(P:Params):PySem.W.Frag:=(λ(_:Str.ofString "a" = Str.mk #[97])=>(nat_lit 3,{ cls:=.type "dict",data:=.dict #[kd P "__name__" 165 (.str (Str.ofString "law_besideseats_k94_whole_all_ways") 635),kd P "__doc__" 166 .none,kd P "__package__" 167 .none,kd P "__loader__" 168 (.builtin "__main__.__loader__#opaque"),kd P "__spec__" 169 .none,kd P "__annotations__" 170 (.ref 6),kd P "__builtins__" 171 (.ref 4),kd P "__file__" 173 (.str (Str.ofString "/claim/cut.py") 172),kd P "__cached__" 174 .none,kd P "SeatError" 206 (.ref 24),kd P "NoSeating" 222 (.ref 37),kd P "TooGreat" 249 (.ref 56),kd P "is_whole" 258 (.ref 65),kd P "is_whole_within" 267 (.ref 72),kd P "WIDTH" 271 (.int 1 270),kd P "DEPTH" 273 (.int 2 272),kd P "KIND" 275 (.int 3 274),kd P "WIDE" 277 (.int 4 276),kd P "GAP" 279 (.int 5 278),kd P "WORTH" 281 (.int 6 280),kd P "WISHES" 283 (.int 7 282),kd P "worth_in" 289 (.ref 77),kd P "sign_at" 301 (.ref 84),kd P "takes" 311 (.ref 91),kd P "seats_of" 317 (.ref 96),kd P "fits" 323 (.ref 101),kd P "places_of" 329 (.ref 106),kd P "apart" 342 (.ref 113),kd P "those_that_sit" 348 (.ref 118),kd P "apart_from_all" 354 (.ref 123),kd P "keeps" 360 (.ref 128),kd P "worth_of" 366 (.ref 133),kd P "MOST_WAYS" 370 (.int 2000 369),kd P "fast_seating" 380 (.ref 140),kd P "ways" 392 (.ref 148),kd P "small_start" 402 (.ref 155),kd P "with_place" 411 (.ref 162),kd P "open_among" 417 (.ref 167),kd P "with_one_more" 423 (.ref 172),kd P "seatings_from" 435 (.ref 179),kd P "first_of_all" 445 (.ref 187),kd P "best_among" 456 (.ref 194),kd P "best_of_all" 466 (.ref 202),kd P "best_of_some" 476 (.ref 210),kd P "best_worth" 485 (.ref 218),kd P "all_places" 493 (.ref 223),kd P "spots_of" 503 (.ref 230),kd P "is_waiting" 511 (.ref 237),kd P "begins_with" 520 (.ref 244),kd P "is_each" 527 (.ref 251),kd P "lets_by_beside" 542 (.ref 258),kd P "lets_by" 553 (.ref 266),kd P "paper_beside" 559 (.ref 271),kd P "paper_of" 568 (.ref 279),kd P "still_waiting" 576 (.ref 284),kd P "most_from" 582 (.ref 289),kd P "bounds_beside" 598 (.ref 296),kd P "bounds" 610 (.ref 304),kd P "tree_beside" 624 (.ref 311),kd P "tree_of" 634 (.ref 319),kd P "_law_cell_at" 644 (.ref 326),kd P "_law_mixed" 653 (.ref 333),kd P "_law_digits" 663 (.ref 340),kd P "_law_hall" 669 (.ref 345),kd P "_law_name" 683 (.ref 352),kd P "_law_any" 689 (.ref 357),kd P "_law_group" 707 (.ref 364),kd P "_law_groups" 724 (.ref 371),kd P "_law_fits" 730 (.ref 376),kd P "_law_places" 741 (.ref 383),kd P "_law_apart" 752 (.ref 390),kd P "_law_open" 767 (.ref 397),kd P "_law_with" 776 (.ref 404),kd P "_law_few" 789 (.ref 411),kd P "_law_seated" 795 (.ref 416),kd P "_law_fast" 801 (.ref 421),kd P "_law_worth_in" 812 (.ref 428),kd P "_law_worth" 823 (.ref 435),kd P "_law_all" 838 (.ref 442),kd P "_law_each" 850 (.ref 449),kd P "_law_none" 860 (.ref 456),kd P "_law_every" 866 (.ref 461),kd P "law" 872 (.ref 466)] 83 }) ::
 (nat_lit 64,kc "is_whole" 252 12 (.int 1 0) (.int 3 0) (.ref 59) (.int 181 0) (.ref 60) .none (.ref 61) (.ref 62) (.ref 63) (.int 256 0) 257) ::
 (nat_lit 65,kf "is_whole" 5 WL 250 64) ::
 (nat_lit 71,kc "is_whole_within" 259 14 (.int 3 0) (.int 3 0) (.ref 66) (.int 181 0) (.ref 67) .none (.ref 68) (.ref 69) (.ref 70) (.int 265 0) 266) ::
 (nat_lit 72,kf "is_whole_within" 6 WL 250 71) ::
 (nat_lit 76,kc "worth_in" 284 24 (.int 2 0) (.int 3 0) (.ref 73) (.int 181 0) (.ref 74) .none .none .none (.ref 75) (.int 287 0) 288) ::
 (nat_lit 77,kf "worth_in" 15 YB 268 76) ::
 (nat_lit 83,kc "sign_at" 292 27 (.int 2 0) (.int 3 0) (.ref 78) (.int 181 0) (.ref 79) .none (.ref 80) (.ref 81) (.ref 82) (.int 299 0) 300) ::
 (nat_lit 84,kf "sign_at" 17 YA 290 83) ::
 (nat_lit 90,kc "takes" 304 34 (.int 2 0) (.int 3 0) (.ref 85) (.int 181 0) (.ref 86) .none (.ref 87) (.ref 88) (.ref 89) (.int 309 0) 310) ::
 (nat_lit 91,kf "takes" 19 Sh 302 90) ::
 (nat_lit 95,kc "seats_of" 312 36 (.int 2 0) (.int 3 0) (.ref 92) (.int 181 0) (.ref 93) .none .none .none (.ref 94) (.int 315 0) 316) ::
 (nat_lit 96,kf "seats_of" 20 Sh 302 95) ::
 (nat_lit 100,kc "fits" 318 41 (.int 3 0) (.int 3 0) (.ref 97) (.int 181 0) (.ref 98) .none .none .none (.ref 99) (.int 321 0) 322) ::
 (nat_lit 101,kf "fits" 21 Sh 302 100) ::
 (nat_lit 105,kc "places_of" 324 46 (.int 2 0) (.int 3 0) (.ref 102) (.int 181 0) (.ref 103) .none .none .none (.ref 104) (.int 327 0) 328) ::
 (nat_lit 106,kf "places_of" 22 Sh 302 105) ::
 (nat_lit 112,kc "apart" 332 52 (.int 4 0) (.int 3 0) (.ref 107) (.int 181 0) (.ref 108) .none (.ref 109) (.ref 110) (.ref 111) (.int 340 0) 341) ::
 (nat_lit 113,kf "apart" 24 Pw 330 112) ::
 (nat_lit 117,kc "those_that_sit" 343 57 (.int 2 0) (.int 3 0) (.ref 114) (.int 181 0) (.ref 115) .none .none .none (.ref 116) (.int 346 0) 347) ::
 (nat_lit 118,kf "those_that_sit" 25 Pw 330 117) ::
 (nat_lit 122,kc "apart_from_all" 349 59 (.int 3 0) (.int 3 0) (.ref 119) (.int 181 0) (.ref 120) .none .none .none (.ref 121) (.int 352 0) 353) ::
 (nat_lit 123,kf "apart_from_all" 26 Pw 330 122) ::
 (nat_lit 127,kc "keeps" 355 61 (.int 3 0) (.int 3 0) (.ref 124) (.int 181 0) (.ref 125) .none .none .none (.ref 126) (.int 358 0) 359) ::
 (nat_lit 128,kf "keeps" 27 Pw 330 127) ::
 (nat_lit 132,kc "worth_of" 361 66 (.int 2 0) (.int 3 0) (.ref 129) (.int 181 0) (.ref 130) .none .none .none (.ref 131) (.int 364 0) 365) ::
 (nat_lit 133,kf "worth_of" 28 Pw 330 132) ::
 (nat_lit 139,kc "fast_seating" 371 70 (.int 3 0) (.int 3 0) (.ref 134) (.int 181 0) (.ref 135) .none (.ref 136) (.ref 137) (.ref 138) (.int 378 0) 379) ::
 (nat_lit 140,kf "fast_seating" 31 K1 367 139) ::
 (nat_lit 147,kc "ways" 381 75 (.int 3 0) (.int 3 0) (.ref 142) (.int 181 0) (.ref 143) .none (.ref 144) (.ref 145) (.ref 146) (.int 390 0) 391) ::
 (nat_lit 148,kf "ways" 32 K1 367 147 (.ref 141)) ::
 (nat_lit 154,kc "small_start" 393 81 (.int 3 0) (.int 3 0) (.ref 149) (.int 181 0) (.ref 150) .none (.ref 151) (.ref 152) (.ref 153) (.int 400 0) 401) ::
 (nat_lit 155,kf "small_start" 33 K1 367 154) ::
 (nat_lit 161,kc "with_place" 403 86 (.int 3 0) (.int 3 0) (.ref 156) (.int 181 0) (.ref 157) .none (.ref 158) (.ref 159) (.ref 160) (.int 409 0) 410) ::
 (nat_lit 162,kf "with_place" 34 K1 367 161) ::
 (nat_lit 166,kc "open_among" 412 88 (.int 3 0) (.int 3 0) (.ref 163) (.int 181 0) (.ref 164) .none .none .none (.ref 165) (.int 415 0) 416) ::
 (nat_lit 167,kf "open_among" 35 K1 367 166) ::
 (nat_lit 171,kc "with_one_more" 418 90 (.int 5 0) (.int 3 0) (.ref 168) (.int 181 0) (.ref 169) .none .none .none (.ref 170) (.int 421 0) 422) ::
 (nat_lit 172,kf "with_one_more" 36 K1 367 171) ::
 (nat_lit 178,kc "seatings_from" 424 99 (.int 4 0) (.int 3 0) (.ref 173) (.int 181 0) (.ref 174) .none (.ref 175) (.ref 176) (.ref 177) (.int 433 0) 434) ::
 (nat_lit 179,kf "seatings_from" 37 K1 367 178) ::
 (nat_lit 186,kc "first_of_all" 436 105 (.int 3 0) (.int 3 0) (.ref 181) (.int 181 0) (.ref 182) .none (.ref 183) (.ref 184) (.ref 185) (.int 443 0) 444) ::
 (nat_lit 187,kf "first_of_all" 38 K1 367 186 (.ref 180)) ::
 (nat_lit 193,kc "best_among" 448 109 (.int 2 0) (.int 3 0) (.ref 188) (.int 181 0) (.ref 189) .none (.ref 190) (.ref 191) (.ref 192) (.int 454 0) 455) ::
 (nat_lit 194,kf "best_among" 40 Sg 446 193) ::
 (nat_lit 201,kc "best_of_all" 457 111 (.int 3 0) (.int 3 0) (.ref 196) (.int 181 0) (.ref 197) .none (.ref 198) (.ref 199) (.ref 200) (.int 464 0) 465) ::
 (nat_lit 202,kf "best_of_all" 41 Sg 446 201 (.ref 195)) ::
 (nat_lit 209,kc "best_of_some" 467 114 (.int 3 0) (.int 3 0) (.ref 204) (.int 181 0) (.ref 205) .none (.ref 206) (.ref 207) (.ref 208) (.int 474 0) 475) ::
 (nat_lit 210,kf "best_of_some" 42 Sg 446 209 (.ref 203)) ::
 (nat_lit 217,kc "best_worth" 477 117 (.int 3 0) (.int 3 0) (.ref 212) (.int 181 0) (.ref 213) .none (.ref 214) (.ref 215) (.ref 216) (.int 483 0) 484) ::
 (nat_lit 218,kf "best_worth" 43 Sg 446 217 (.ref 211)) ::
 (nat_lit 222,kc "all_places" 488 120 (.int 2 0) (.int 3 0) (.ref 219) (.int 181 0) (.ref 220) .none .none .none (.ref 221) (.int 491 0) 492) ::
 (nat_lit 223,kf "all_places" 45 JC 486 222) ::
 (nat_lit 229,kc "spots_of" 494 122 (.int 4 0) (.int 3 0) (.ref 224) (.int 181 0) (.ref 225) .none (.ref 226) (.ref 227) (.ref 228) (.int 501 0) 502) ::
 (nat_lit 230,kf "spots_of" 46 JC 486 229) ::
 (nat_lit 236,kc "is_waiting" 504 124 (.int 2 0) (.int 3 0) (.ref 231) (.int 181 0) (.ref 232) .none (.ref 233) (.ref 234) (.ref 235) (.int 509 0) 510) ::
 (nat_lit 237,kf "is_waiting" 47 JC 486 236) ::
 (nat_lit 243,kc "begins_with" 512 126 (.int 3 0) (.int 3 0) (.ref 238) (.int 181 0) (.ref 239) .none (.ref 240) (.ref 241) (.ref 242) (.int 518 0) 519) ::
 (nat_lit 244,kf "begins_with" 48 JC 486 243) ::
 (nat_lit 250,kc "is_each" 521 130 (.int 1 0) (.int 3 0) (.ref 245) (.int 181 0) (.ref 246) .none (.ref 247) (.ref 248) (.ref 249) (.int 525 0) 526) ::
 (nat_lit 251,kf "is_each" 49 JC 486 250) ::
 (nat_lit 257,kc "lets_by_beside" 528 132 (.int 4 0) (.int 3 0) (.ref 252) (.int 181 0) (.ref 253) .none (.ref 254) (.ref 255) (.ref 256) (.int 540 0) 541) ::
 (nat_lit 258,kf "lets_by_beside" 50 JC 486 257) ::
 (nat_lit 265,kc "lets_by" 543 146 (.int 4 0) (.int 3 0) (.ref 260) (.int 181 0) (.ref 261) .none (.ref 262) (.ref 263) (.ref 264) (.int 551 0) 552) ::
 (nat_lit 266,kf "lets_by" 51 JC 486 265 (.ref 259)) ::
 (nat_lit 270,kc "paper_beside" 554 149 (.int 3 0) (.int 3 0) (.ref 267) (.int 181 0) (.ref 268) .none .none .none (.ref 269) (.int 557 0) 558) ::
 (nat_lit 271,kf "paper_beside" 52 JC 486 270) ::
 (nat_lit 278,kc "paper_of" 560 157 (.int 3 0) (.int 3 0) (.ref 273) (.int 181 0) (.ref 274) .none (.ref 275) (.ref 276) (.ref 277) (.int 566 0) 567) ::
 (nat_lit 279,kf "paper_of" 53 JC 486 278 (.ref 272)) ::
 (nat_lit 283,kc "still_waiting" 571 162 (.int 2 0) (.int 3 0) (.ref 280) (.int 181 0) (.ref 281) .none .none .none (.ref 282) (.int 574 0) 575) ::
 (nat_lit 284,kf "still_waiting" 55 ND 569 283) ::
 (nat_lit 288,kc "most_from" 577 164 (.int 4 0) (.int 3 0) (.ref 285) (.int 181 0) (.ref 286) .none .none .none (.ref 287) (.int 580 0) 581) ::
 (nat_lit 289,kf "most_from" 56 ND 569 288) ::
 (nat_lit 295,kc "bounds_beside" 583 170 (.int 6 0) (.int 3 0) (.ref 290) (.int 181 0) (.ref 291) .none (.ref 292) (.ref 293) (.ref 294) (.int 596 0) 597) ::
 (nat_lit 296,kf "bounds_beside" 57 ND 569 295) ::
 (nat_lit 303,kc "bounds" 599 183 (.int 5 0) (.int 3 0) (.ref 298) (.int 181 0) (.ref 299) .none (.ref 300) (.ref 301) (.ref 302) (.int 608 0) 609) ::
 (nat_lit 304,kf "bounds" 58 ND 569 303 (.ref 297)) ::
 (nat_lit 310,kc "tree_beside" 611 186 (.int 5 0) (.int 3 0) (.ref 305) (.int 181 0) (.ref 306) .none (.ref 307) (.ref 308) (.ref 309) (.int 622 0) 623) ::
 (nat_lit 311,kf "tree_beside" 59 ND 569 310) ::
 (nat_lit 318,kc "tree_of" 625 195 (.int 3 0) (.int 3 0) (.ref 313) (.int 181 0) (.ref 314) .none (.ref 315) (.ref 316) (.ref 317) (.int 632 0) 633) ::
 (nat_lit 319,kf "tree_of" 60 ND 569 318 (.ref 312)) ::
 (nat_lit 325,kc "_law_cell_at" 637 199 (.int 2 0) (.int 3 0) (.ref 320) (.int 181 0) (.ref 321) .none (.ref 322) (.ref 323) (.ref 324) (.int 642 0) 643) ::
 (nat_lit 326,kf "_law_cell_at" 62 vU 635 325) ::
 (nat_lit 332,kc "_law_mixed" 645 203 (.int 2 0) (.int 3 0) (.ref 327) (.int 181 0) (.ref 328) .none (.ref 329) (.ref 330) (.ref 331) (.int 651 0) 652) ::
 (nat_lit 333,kf "_law_mixed" 63 vU 635 332) ::
 (nat_lit 339,kc "_law_digits" 654 207 (.int 2 0) (.int 3 0) (.ref 334) (.int 181 0) (.ref 335) .none (.ref 336) (.ref 337) (.ref 338) (.int 661 0) 662) ::
 (nat_lit 340,kf "_law_digits" 64 vU 635 339) ::
 (nat_lit 344,kc "_law_hall" 664 213 (.int 1 0) (.int 3 0) (.ref 341) (.int 181 0) (.ref 342) .none .none .none (.ref 343) (.int 667 0) 668) ::
 (nat_lit 345,kf "_law_hall" 65 vU 635 344) ::
 (nat_lit 351,kc "_law_name" 670 231 (.int 2 0) (.int 3 0) (.ref 346) (.int 181 0) (.ref 347) .none (.ref 348) (.ref 349) (.ref 350) (.int 681 0) 682) ::
 (nat_lit 352,kf "_law_name" 66 vU 635 351) ::
 (nat_lit 356,kc "_law_any" 684 242 (.int 2 0) (.int 3 0) (.ref 353) (.int 181 0) (.ref 354) .none .none .none (.ref 355) (.int 687 0) 688) ::
 (nat_lit 357,kf "_law_any" 67 vU 635 356) ::
 (nat_lit 363,kc "_law_group" 690 252 (.int 4 0) (.int 3 0) (.ref 358) (.int 181 0) (.ref 359) .none (.ref 360) (.ref 361) (.ref 362) (.int 705 0) 706) ::
 (nat_lit 364,kf "_law_group" 68 vU 635 363) ::
 (nat_lit 370,kc "_law_groups" 708 267 (.int 3 0) (.int 3 0) (.ref 365) (.int 181 0) (.ref 366) .none (.ref 367) (.ref 368) (.ref 369) (.int 722 0) 723) ::
 (nat_lit 371,kf "_law_groups" 69 vU 635 370) ::
 (nat_lit 375,kc "_law_fits" 725 282 (.int 4 0) (.int 3 0) (.ref 372) (.int 181 0) (.ref 373) .none .none .none (.ref 374) (.int 728 0) 729) ::
 (nat_lit 376,kf "_law_fits" 70 vU 635 375) ::
 (nat_lit 382,kc "_law_places" 731 291 (.int 2 0) (.int 3 0) (.ref 377) (.int 181 0) (.ref 378) .none (.ref 379) (.ref 380) (.ref 381) (.int 739 0) 740) ::
 (nat_lit 383,kf "_law_places" 71 vU 635 382) ::
 (nat_lit 389,kc "_law_apart" 742 298 (.int 4 0) (.int 3 0) (.ref 384) (.int 181 0) (.ref 385) .none (.ref 386) (.ref 387) (.ref 388) (.int 750 0) 751) ::
 (nat_lit 390,kf "_law_apart" 72 vU 635 389) ::
 (nat_lit 396,kc "_law_open" 753 303 (.int 4 0) (.int 3 0) (.ref 391) (.int 181 0) (.ref 392) .none (.ref 393) (.ref 394) (.ref 395) (.int 765 0) 766) ::
 (nat_lit 397,kf "_law_open" 73 vU 635 396) ::
 (nat_lit 403,kc "_law_with" 768 314 (.int 3 0) (.int 3 0) (.ref 398) (.int 181 0) (.ref 399) .none (.ref 400) (.ref 401) (.ref 402) (.int 774 0) 775) ::
 (nat_lit 404,kf "_law_with" 74 vU 635 403) ::
 (nat_lit 410,kc "_law_few" 777 316 (.int 3 0) (.int 3 0) (.ref 405) (.int 181 0) (.ref 406) .none (.ref 407) (.ref 408) (.ref 409) (.int 787 0) 788) ::
 (nat_lit 411,kf "_law_few" 75 vU 635 410) ::
 (nat_lit 415,kc "_law_seated" 790 325 (.int 3 0) (.int 3 0) (.ref 412) (.int 181 0) (.ref 413) .none .none .none (.ref 414) (.int 793 0) 794) ::
 (nat_lit 416,kf "_law_seated" 76 vU 635 415) ::
 (nat_lit 420,kc "_law_fast" 796 335 (.int 2 0) (.int 3 0) (.ref 417) (.int 181 0) (.ref 418) .none .none .none (.ref 419) (.int 799 0) 800) ::
 (nat_lit 421,kf "_law_fast" 77 vU 635 420) ::
 (nat_lit 427,kc "_law_worth_in" 802 337 (.int 2 0) (.int 3 0) (.ref 422) (.int 181 0) (.ref 423) .none (.ref 424) (.ref 425) (.ref 426) (.int 810 0) 811) ::
 (nat_lit 428,kf "_law_worth_in" 78 vU 635 427) ::
 (nat_lit 434,kc "_law_worth" 813 343 (.int 2 0) (.int 3 0) (.ref 429) (.int 181 0) (.ref 430) .none (.ref 431) (.ref 432) (.ref 433) (.int 821 0) 822) ::
 (nat_lit 435,kf "_law_worth" 79 vU 635 434) ::
 (nat_lit 441,kc "_law_all" 824 349 (.int 4 0) (.int 3 0) (.ref 436) (.int 181 0) (.ref 437) .none (.ref 438) (.ref 439) (.ref 440) (.int 836 0) 837) ::
 (nat_lit 442,kf "_law_all" 80 vU 635 441) ::
 (nat_lit 448,kc "_law_each" 839 361 (.int 4 0) (.int 3 0) (.ref 443) (.int 181 0) (.ref 444) .none (.ref 445) (.ref 446) (.ref 447) (.int 848 0) 849) ::
 (nat_lit 449,kf "_law_each" 81 vU 635 448) ::
 (nat_lit 455,kc "_law_none" 851 367 (.int 3 0) (.int 3 0) (.ref 450) (.int 181 0) (.ref 451) .none (.ref 452) (.ref 453) (.ref 454) (.int 858 0) 859) ::
 (nat_lit 456,kf "_law_none" 82 vU 635 455) ::
 (nat_lit 460,kc "_law_every" 861 372 (.int 4 0) (.int 3 0) (.ref 457) (.int 181 0) (.ref 458) .none .none .none (.ref 459) (.int 864 0) 865) ::
 (nat_lit 461,kf "_law_every" 83 vU 635 460) ::
 (nat_lit 465,kc "law" 867 378 (.int 1 0) (.int 3 0) (.ref 462) (.int 181 0) (.ref 463) .none .none .none (.ref 464) (.int 870 0) 871) ::
 (nat_lit 466,kf "law" 84 vU 635 465) ::
 (nat_lit 141,{ cls:=.type "tuple",data:=.seq #[.none] }) ::
 (nat_lit 180,{ cls:=.type "tuple",data:=.seq #[.none] }) ::
 (nat_lit 195,{ cls:=.type "tuple",data:=.seq #[.none] }) ::
 (nat_lit 203,{ cls:=.type "tuple",data:=.seq #[.none] }) ::
 (nat_lit 211,{ cls:=.type "tuple",data:=.seq #[.none] }) ::
 (nat_lit 259,{ cls:=.type "tuple",data:=.seq #[.none] }) ::
 (nat_lit 272,{ cls:=.type "tuple",data:=.seq #[.none] }) ::
 (nat_lit 297,{ cls:=.type "tuple",data:=.seq #[.none] }) ::
 (nat_lit 312,{ cls:=.type "tuple",data:=.seq #[.none] }) :: []) (by kernel_rfl)
def KA:List Addr:=[nat_lit 3,nat_lit 64,nat_lit 65,nat_lit 71,nat_lit 72,nat_lit 76,nat_lit 77,nat_lit 83,nat_lit 84,nat_lit 90,nat_lit 91,nat_lit 95,nat_lit 96,nat_lit 100,nat_lit 101,nat_lit 105,nat_lit 106,nat_lit 112,nat_lit 113,nat_lit 117,nat_lit 118,nat_lit 122,nat_lit 123,nat_lit 127,nat_lit 128,nat_lit 132,nat_lit 133,nat_lit 139,nat_lit 140,nat_lit 147,nat_lit 148,nat_lit 154,nat_lit 155,nat_lit 161,nat_lit 162,nat_lit 166,nat_lit 167,nat_lit 171,nat_lit 172,nat_lit 178,nat_lit 179,nat_lit 186,nat_lit 187,nat_lit 193,nat_lit 194,nat_lit 201,nat_lit 202,nat_lit 209,nat_lit 210,nat_lit 217,nat_lit 218,nat_lit 222,nat_lit 223,nat_lit 229,nat_lit 230,nat_lit 236,nat_lit 237,nat_lit 243,nat_lit 244,nat_lit 250,nat_lit 251,nat_lit 257,nat_lit 258,nat_lit 265,nat_lit 266,nat_lit 270,nat_lit 271,nat_lit 278,nat_lit 279,nat_lit 283,nat_lit 284,nat_lit 288,nat_lit 289,nat_lit 295,nat_lit 296,nat_lit 303,nat_lit 304,nat_lit 310,nat_lit 311,nat_lit 318,nat_lit 319,nat_lit 325,nat_lit 326,nat_lit 332,nat_lit 333,nat_lit 339,nat_lit 340,nat_lit 344,nat_lit 345,nat_lit 351,nat_lit 352,nat_lit 356,nat_lit 357,nat_lit 363,nat_lit 364,nat_lit 370,nat_lit 371,nat_lit 375,nat_lit 376,nat_lit 382,nat_lit 383,nat_lit 389,nat_lit 390,nat_lit 396,nat_lit 397,nat_lit 403,nat_lit 404,nat_lit 410,nat_lit 411,nat_lit 415,nat_lit 416,nat_lit 420,nat_lit 421,nat_lit 427,nat_lit 428,nat_lit 434,nat_lit 435,nat_lit 441,nat_lit 442,nat_lit 448,nat_lit 449,nat_lit 455,nat_lit 456,nat_lit 460,nat_lit 461,nat_lit 465,nat_lit 466,nat_lit 141,nat_lit 180,nat_lit 195,nat_lit 203,nat_lit 211,nat_lit 259,nat_lit 272,nat_lit 297,nat_lit 312]
end Fo
namespace PySem.W.Fast
def tw6336134130787064170:Unit:=()
def tw12527859626175416221:Unit:=()
def tw5934303748515943835:Unit:=()
def tw17246969745381358796:Unit:=()
def tw13076096210924287386:Unit:=()
def tw15851226177218980372:Unit:=()
def tw8354684046799628975:Unit:=()
def tw667640672329842875:Unit:=()
def tw7856981269858252965:Unit:=()
def tw11463553354038468097:Unit:=()
def tw9868660509169467505:Unit:=()
def tw2127293926812571127:Unit:=()
def tw6675613761845454146:Unit:=()
def tw11668728269632605860:Unit:=()
def tw13868464176912628401:Unit:=()
def tw14669731040686923323:Unit:=()
def tw7201629005371165681:Unit:=()
def tw15701095562991702658:Unit:=()
def tw10392685686286785302:Unit:=()
def tw2542618883226782605:Unit:=()
def tw9392957693630415587:Unit:=()
def tw17015541747239464723:Unit:=()
def tw15264783526915882891:Unit:=()
def tw1949953878160344887:Unit:=()
def tw4380947519851307530:Unit:=()
def tw5251523957414874396:Unit:=()
end PySem.W.Fast
open PySem PySem.W PyProof.Rows
set_option maxRecDepth 100000 in
set_option maxHeartbeats 0 in
theorem PySem.Challenge.cw_besideseats_k94_whole_all_ways_holds : PySem.Challenge.rw_besideseats_k94_whole_all_ways.Holds := by
 w_on;o_law;o_head (PySem.W.kHook Fo.KK Fo.KA (λ _=>by kernel_rfl));(case hw=>w_witness2)
 k_fill
 refine Fo.walk (l:=PySem.Challenge.rw_besideseats_k94_whole_all_ways) rfl rfl (λ w h Y=>PySem.W.kIn_of Y) ?F ?L
 case L =>
  intro w;refine' ZS.Mj (r1:=_) (r2:=_) ?n ?h1 ?h2 ?g1 ?g2 ?ne
  (case n=>kernel_rfl)
  (case h1=>refine' ZS.u! ?a1 ?l1 ?e1 ?tl1 ?tp1;(case a1=>k_is);(case l1=>k_is);(case e1=>exact rfl);(case tl1=>k_is);(case tp1=>exact rfl))
  (case g1=>exact .inr rfl)
  (case h2=>refine' ZS.u! ?a2 ?l2 ?e2 ?tl2 ?tp2;(case a2=>k_is);(case l2=>k_is);(case e2=>exact rfl);(case tl2=>k_is);(case tp2=>exact rfl))
  (case g2=>exact .inr rfl)
  (case ne=>exact λ c P c' P' e1 e2=>by first | (cases e1;done) | (cases e2;done) | (cases e1;cases e2;decide))
 case F =>
  intro w mg fa h KX G UZ;refine' Fo.all_mk KX G UZ ?a0 ?a1 ?a2 ?a3 ?a4 ?a5 ?a6 ?a7 ?a8 ?a9 ?a10 ?a11 ?a12 ?a13 ?a14 ?a15 ?a16 ?a17 ?a18 ?a19 ?a20 ?a21 ?a22 ?a23 ?a24 ?a25 ?a26 ?a27 ?a28 ?a29 ?a30 ?a31 ?a32 ?a33 ?a34 ?a35 ?a36 ?a37 ?a38 ?a39 ?a40 ?a41 ?a42 ?a43 ?a44 ?a45 ?a46 ?a47 ?a48 ?a49 ?a50 ?a51 ?a52 ?a53 ?a54 ?a55 ?a56 ?a57 ?a58 ?a59 ?a60 ?a61 ?a62 ?v_DEPTH ?v_GAP ?v_KIND ?v_MOST_WAYS ?v_WIDE ?v_WIDTH ?v_WISHES ?v_WORTH ?n_all ?n_bool ?n_int ?n_isinstance ?n_len ?n_max ?n_min ?n_range ?n_str ?n_sum ?n_tuple ?n_zip
  (case v_DEPTH=>k_is)
  (case v_GAP=>k_is)
  (case v_KIND=>k_is)
  (case v_MOST_WAYS=>k_is)
  (case v_WIDE=>k_is)
  (case v_WIDTH=>k_is)
  (case v_WISHES=>k_is)
  (case v_WORTH=>k_is)
  (case a14=>refine' ZS.fJ.mk' ?a14 ?l14 ?c14 ?k14 ?q14;(case a14=>k_is);(case l14=>k_is);(case c14=>k_is);(case k14=>k_is);(case q14=>k_is))
  (case a20=>refine' ZS.fJ.mk' ?a20 ?l20 ?c20 ?k20 ?q20;(case a20=>k_is);(case l20=>k_is);(case c20=>k_is);(case k20=>k_is);(case q20=>k_is))
  (case a21=>refine' ZS.uq.mk' ?a21 ?l21 ?c21 ?k21 ?tl21 ?tp21;(case a21=>k_is);(case l21=>k_is);(case c21=>k_is);(case k21=>k_is);(case tl21=>k_is);(case tp21=>exact rfl))
  (case a22=>refine' ZS.fJ.mk' ?a22 ?l22 ?c22 ?k22 ?q22;(case a22=>k_is);(case l22=>k_is);(case c22=>k_is);(case k22=>k_is);(case q22=>k_is))
  (case a23=>refine' ZS.fJ.mk' ?a23 ?l23 ?c23 ?k23 ?q23;(case a23=>k_is);(case l23=>k_is);(case c23=>k_is);(case k23=>k_is);(case q23=>k_is))
  (case a24=>refine' ZS.fJ.mk' ?a24 ?l24 ?c24 ?k24 ?q24;(case a24=>k_is);(case l24=>k_is);(case c24=>k_is);(case k24=>k_is);(case q24=>k_is))
  (case a31=>refine' ZS.fJ.mk' ?a31 ?l31 ?c31 ?k31 ?q31;(case a31=>k_is);(case l31=>k_is);(case c31=>k_is);(case k31=>k_is);(case q31=>k_is))
  (case a32=>refine' ZS.uq.mk' ?a32 ?l32 ?c32 ?k32 ?tl32 ?tp32;(case a32=>k_is);(case l32=>k_is);(case c32=>k_is);(case k32=>k_is);(case tl32=>k_is);(case tp32=>exact rfl))
  (case a33=>refine' ZS.fJ.mk' ?a33 ?l33 ?c33 ?k33 ?q33;(case a33=>k_is);(case l33=>k_is);(case c33=>k_is);(case k33=>k_is);(case q33=>k_is))
  (case a37=>refine' ZS.fJ.mk' ?a37 ?l37 ?c37 ?k37 ?q37;(case a37=>k_is);(case l37=>k_is);(case c37=>k_is);(case k37=>k_is);(case q37=>k_is))
  (case a39=>refine' ZS.fJ.mk' ?a39 ?l39 ?c39 ?k39 ?q39;(case a39=>k_is);(case l39=>k_is);(case c39=>k_is);(case k39=>k_is);(case q39=>k_is))
  all_goals first | k_is | (refine' ZS.cw.mk' ?a ?l ?c ?k;(case a=>k_is);(case l=>k_is);(case c=>k_is);(case k=>k_is))
#print axioms PySem.Challenge.cw_besideseats_k94_whole_all_ways_holds
