import PyProof.Rows.All
import Wide.All
import OpenK.AllK
import Wide.FinOn
import Lean
import KE.KMinKey
import PyProof.WalkInts
import PyProof.SeqI3
import PyProof.Rows.CallKwBuiltin
import PyProof.SetScanFacts
import PyProof.SetKind
import PyProof.Rows.SetFrom
import PyProof.Rows.SortShell
import PyProof.CollectWalk
import PyProof.FactsAll.set_1
import PyProof.WalksMore
import KE.KIsAll
import PyProof.StrBlock
import PyProof.Rows.StrLen
import KE.KIntText
import PyProof.StrLawsFirst
import PyProof.StrLawsIn
import PyProof.EqAt
import PyProof.EqKinds
import PyProof.TupleCall
import KE.KLam
import PySem.Challenge.RW_besideseats_k14_whole_any_words
set_option Elab.async false
set_option linter.all false
set_option maxRecDepth 100000
set_option genSizeOf false
set_option compiler.extract_closed false
set_option bootstrap.genMatcherCode false
namespace L2
open PySem PySem.Spec PyProof.Rows
abbrev Key:=Sum Int Str
def keyIs:Key→Value→Bool
  | .inl k,v=>Value.isInt k v
  | .inr x,v=>Value.isStrOf x v
def keyH (w:World):Key→Int
  | .inl k=>hashInt k
  | .inr x=>hashStr w x
theorem keyIs_shape:∀ {k:Key} {v:Value},keyIs k v=true→(∃ i t,k=Sum.inl i∧v=Value.int i t)∨(∃ x t,k=Sum.inr x∧v=Value.str x t)
  | .inl i,v,h=>by
    obtain ⟨t,e⟩:=Value.isInt_shape (k:=i) (v:=v) h
    exact .inl ⟨i,t,rfl,e⟩
  | .inr x,v,h=>by
    obtain ⟨t,e⟩:=Value.isStrOf_shape (x:=x) (v:=v) h
    exact .inr ⟨x,t,rfl,e⟩
theorem keyIs_int (i:Int) (t:Tok):keyIs (.inl i) (.int i t)=true:=by simp [keyIs,Value.isInt]
theorem keyIs_str (x:Str) (t:Tok):keyIs (.inr x) (.str x t)=true:=by simp [keyIs,Value.isStrOf]
theorem key_ll (a b:Int):decide ((Sum.inl a:Key)=Sum.inl b)=(a==b):=by
  by_cases e:a=b
  · subst e;simp
  · have h:¬ (Sum.inl a:Key)=Sum.inl b:=fun q=>e (Sum.inl.inj q)
    rw [decide_eq_false h]
    exact (beq_eq_false_iff_ne.mpr e).symm
theorem key_rr (a b:Str):decide ((Sum.inr a:Key)=Sum.inr b)=decide (a=b):=by
  by_cases e:a=b
  · subst e;simp
  · have h:¬ (Sum.inr a:Key)=Sum.inr b:=fun q=>e (Sum.inr.inj q)
    rw [decide_eq_false h,decide_eq_false e]
theorem key_lr (a:Int) (b:Str):decide ((Sum.inl a:Key)=Sum.inr b)=false:=decide_eq_false (fun q=>nomatch q)
theorem key_rl (a:Str) (b:Int):decide ((Sum.inr a:Key)=Sum.inl b)=false:=decide_eq_false (fun q=>nomatch q)
def mixKind (prog:Program) (w:World):PySem.KeyKind prog w Key where
  is:=keyIs
  hash:=keyH w
  inj:=fun v a b ha hb=>by
    rcases keyIs_shape ha with ⟨i,t,rfl,rfl⟩ | ⟨x,t,rfl,rfl⟩
    · rcases keyIs_shape hb with ⟨j,u,rfl,e⟩ | ⟨y,u,rfl,e⟩
      · injection e with e1 _;rw [e1]
      · exact nomatch e
    · rcases keyIs_shape hb with ⟨j,u,rfl,e⟩ | ⟨y,u,rfl,e⟩
      · exact nomatch e
      · injection e with e1 _;rw [e1]
  byValue:=fun k v h=>by
    rcases keyIs_shape h with ⟨i,t,rfl,rfl⟩ | ⟨x,t,rfl,rfl⟩<;>rfl
  pyHash:=fun hv h=>by
    rcases keyIs_shape hv with ⟨i,t,rfl,rfl⟩ | ⟨x,t,rfl,rfl⟩
    · exact wpAny_pyHash_int h
    · exact wpAny_pyHash_str h
  eqBool:=fun hu hv h=>by
    rcases keyIs_shape hu with ⟨i,t,rfl,rfl⟩ | ⟨x,t,rfl,rfl⟩
    · rcases keyIs_shape hv with ⟨j,u,rfl,rfl⟩ | ⟨y,u,rfl,rfl⟩
      · rw [key_ll] at h;exact wpAny_eqBool_int h
      · rw [key_lr] at h;exact SeqAt.EqAt.int_str i t y u _ _ _ _ h
    · rcases keyIs_shape hv with ⟨j,u,rfl,rfl⟩ | ⟨y,u,rfl,rfl⟩
      · rw [key_rl] at h;exact SeqAt.EqAt.str_int x t j u _ _ _ _ h
      · rw [key_rr] at h;exact wpAny_eqBool_str h
  «strs»:=fun k x t v h=>by
    rcases keyIs_shape h with ⟨i,u,rfl,e⟩ | ⟨y,u,rfl,e⟩
    · exact nomatch e
    · injection e with e1 _
      subst e1
      cases v<;>rfl
theorem mixKind_int (prog:Program) (w:World) (i:Int) (t:Tok):(mixKind prog w).is (.inl i) (.int i t)=true:=keyIs_int i t
theorem mixKind_str (prog:Program) (w:World) (x:Str) (t:Tok):(mixKind prog w).is (.inr x) (.str x t)=true:=keyIs_str x t
end L2
namespace L2
open PySem PySem.Spec PyProof.Rows
inductive V where
  | non | bl (b:Bool) | int (i:Int) | str (x:Str) | byt (b:Array UInt8) | flt (b:UInt64) | ref (a:Addr) | ty (n:String)
  deriving DecidableEq
def RelV:V→Value→Prop
  | .non,u=>u=Value.none
  | .bl b,u=>u=Value.bool b
  | .int i,u=>∃ t,u=Value.int i t
  | .str x,u=>∃ t,u=Value.str x t
  | .byt b,u=>∃ t,u=Value.bytes b t
  | .flt b,u=>∃ t,u=Value.float b t
  | .ref a,u=>u=Value.ref a
  | .ty n,u=>u=Value.type n
abbrev Vals:List V→List Value→Prop:=Paired RelV
theorem Vals.length {xs:List V} {us:List Value} (r:Vals xs us):xs.length=us.length:=Paired.length r
theorem Vals.get:∀ {xs:List V} {us:List Value} {i:Nat} {x:V},Vals xs us→xs[i]?=some x→∃ u,us[i]?=some u∧RelV x u
  | _,_,_,_,.nil,e=>by simp at e
  | _,_,0,_,.cons r _,e=>by simp at e;subst e;exact ⟨_,rfl,r⟩
  | _,_,i+1,x,.cons _ t,e=>by
    obtain ⟨u,h1,h2⟩:=Vals.get (i:=i) (x:=x) t (by simpa using e)
    exact ⟨u,by simpa using h1,h2⟩
theorem Vals.set {x:V} {u:Value} (r:RelV x u):∀ {xs:List V} {us:List Value} (i:Nat),Vals xs us→Vals (xs.set i x) (us.set i u)
  | _,_,_,.nil=>.nil
  | _,_,0,.cons _ t=>.cons r t
  | _,_,i+1,.cons q t=>.cons q (Vals.set r i t)
theorem Vals.append:∀ {xs ys:List V} {us ws:List Value},Vals xs us→Vals ys ws→Vals (xs++ys) (us++ws)
  | _,_,_,_,.nil,s=>s
  | _,_,_,_,.cons r t,s=>.cons r (Vals.append t s)
theorem Vals.take:∀ {xs:List V} {us:List Value} (n:Nat),Vals xs us→Vals (xs.take n) (us.take n)
  | _,_,0,_=>.nil
  | _,_,_+1,.nil=>.nil
  | _,_,n+1,.cons r t=>.cons r (Vals.take n t)
theorem Vals.drop:∀ {xs:List V} {us:List Value} (n:Nat),Vals xs us→Vals (xs.drop n) (us.drop n)
  | _,_,0,r=>r
  | _,_,_+1,.nil=>.nil
  | _,_,n+1,.cons _ t=>Vals.drop n t
def RelO:Option V→Option Value→Prop
  | some v,some u=>RelV v u
  | none,none=>True
  | _,_=>False
def KV {κ:Type}:List (κ×V)→List (κ×Value)→Prop:=Paired fun (p:κ×V) (q:κ×Value)=>p.1=q.1∧RelV p.2 q.2
def kV:Key→V
  | .inl i=>.int i
  | .inr x=>.str x
inductive HO where
    | lst (xs:List V)
    | tup (xs:List V)
    | dK (kvs:List (Key×V)) | dT (kvs:List (List Key×V))
    | set (S:Int→Bool) (n:Nat)
    | ins (C dx:Addr) (fs:List (Str×V))
    | own (x:Addr)
    | xd (fs:List (Str×V))
    | met (f x:Addr)
    | rng (lo hi:Int)
    | frz (o:Obj) (u:HO)
    | tbl (q:Str)
  | cod (q:Str)
    | ext (φ:Heap→Prop)
abbrev Hp:=Addr→Option HO
def Prm:HO→Prop
  | .tbl _=>True
  | .cod _=>True
  | _=>False
def upd (H:Hp) (a:Addr) (o:HO):Hp:=fun b=>if b=a then some o else H b
theorem upd_same {H:Hp} {a:Addr} {o:HO}:upd H a o a=some o:=by unfold upd;rw [if_pos rfl]
theorem upd_ne {H:Hp} {a b:Addr} {o:HO} (h:b≠a):upd H a o b=H b:=by unfold upd;rw [if_neg h]
theorem upd_upd {H:Hp} {a:Addr} {o u:HO}:upd (upd H a o) a u=upd H a u:=by
  funext b;unfold upd;split<;>rfl
theorem ne_of {H:Hp} {a b:Addr} {o u:HO} (h:H a=some o) (h':H b=some u) (d:o≠u):a≠b:=by
  intro e;subst e;rw [h] at h';exact d (Option.some.inj h')
theorem ne_of_none {H:Hp} {a b:Addr} {o:HO} (h:H a=some o) (h':H b=none):a≠b:=by
  intro e;subst e;rw [h] at h';cases h'
section
variable (P:Program) (w:World)
def ObjOk (H:Hp) (h:Heap) (a:Addr):HO→Prop
  | .lst xs=>xs.length≤sizeLine∧∃ (its:List Value) (n:Nat),Vals xs its∧h.get? a=some { cls:=.type "list",data:=.seq its.toArray n }
  | .tup xs=>xs.length≤sizeLine∧∃ its:List Value,Vals xs its∧IsTup h a its.toArray
  | .dK kvs=>kvs.length≤sizeLine∧(a==sysModules)=false∧∃ vs,KV kvs vs∧h.DictOf (mixKind P w) a vs
  | .dT kvs=>kvs.length≤sizeLine∧(a==sysModules)=false∧∃ xs:List (List Key×Addr×Value),
      Paired (fun (p:List Key×V) (q:List Key×Addr×Value)=>p.1=q.1∧H q.2.1=some (.tup (p.1.map kV))∧RelV p.2 q.2.2) kvs xs ∧
      ∃ o es ep,h.get? a=some o∧o.ExactDict∧o.data=.dict es ep∧es.toList=xs.map (entryOfKey (tupleKind (mixKind P w)))∧(xs.map (·.1)).Nodup
  | .set S n=>h.SetOf (intKind P w) a S n
  | .ins C dx fs=>H dx=some (.own a)∧fs.length≤1000∧dx≠a∧h.get? a=some (PySem.W.instObj C dx) ∧
      ∃ mA,h.Ns1 dx mA∧(∀ f,RelO (fs.lookup f) (mA f))∧PySem.Within mA (fs.map (·.1))
  | .own _=>∃ o,h.get? a=some o
  | .xd fs=>∃ mA,h.Ns1 a mA∧∀ f,RelO (fs.lookup f) (mA f)
  | .rng lo hi=>∃ t u v,h.get? a=some { cls:=.type "range",data:=.fields #[.int lo t,.int hi u,.int 1 v] }
  | .frz o u=>h.get? a=some o∧ObjOk H h a u
  | .tbl q=>∃ ps:Array Value,h.get? a=some { cls:=.none,data:=.fields ps }∧TriplesOk ps.toList∧∀ pos cv,codeAmong pos ps.toList=some cv→∃ c,cv=.ref c∧H c=some (.cod q)
  | .cod q=>h.CodeRec (.ref a) q
  | .met f x=>h.get? a=some (PySem.W.methodObj (.ref f) (.ref x))
  | .ext φ=>φ h∧(∃ o,h.get? a=some o)∧∀ h1 h2:Heap,φ h1→(∀ o,h1.get? a=some o→h2.get? a=some o)→φ h2
def HOk (H:Hp) (h:Heap):Prop:=∀ a o,H a=some o→ObjOk P w H h a o
end
section
variable {P:Program} {w:World} {H H':Hp} {h h':Heap} {a:Addr} {o:HO}
theorem ObjOk.lt (x:ObjOk P w H h a o):a < h.objs.size:=by
  cases o with
  | lst xs=>obtain ⟨_,_,_,_,e⟩:=x;exact Heap.lt_size e
  | tup xs=>obtain ⟨_,_,_,p⟩:=x;exact p.lt
  | dK kvs=>obtain ⟨_,_,_,_,o,_,_,e,_⟩:=x;exact Heap.lt_size e
  | dT kvs=>obtain ⟨_,_,_,_,o,_,_,e,_⟩:=x;exact Heap.lt_size e
  | set S n=>obtain ⟨o,_,_,_,e,_⟩:=x;exact Heap.lt_size e
  | ins C dx fs=>obtain ⟨_,_,_,e,_⟩:=x;exact Heap.lt_size e
  | own y=>obtain ⟨_,e⟩:=x;exact Heap.lt_size e
  | xd fs=>obtain ⟨_,⟨_,_,_,e,_⟩,_⟩:=x;exact Heap.lt_size e
  | rng lo hi=>obtain ⟨_,_,_,e⟩:=x;exact Heap.lt_size e
  | frz ob u=>obtain ⟨e,_⟩:=x;exact Heap.lt_size e
  | tbl q=>obtain ⟨_,e,_⟩:=x;exact Heap.lt_size e
  | cod q=>obtain ⟨_,_,_,_,e1,e2,_⟩:=x;cases e1;exact Heap.lt_size e2
  | met f y=>exact Heap.lt_size (show h.get? a=some _ from x)
  | ext φ=>obtain ⟨_,⟨_,e⟩,_⟩:=x;exact Heap.lt_size e
theorem Paired.mapP {α β:Type} {F G:α→β→Prop}:∀ {l₁:List α} {l₂:List β},Paired F l₁ l₂→(∀ a b,F a b→G a b)→Paired G l₁ l₂
  | _,_,.nil,_=>.nil
  | _,_,.cons r t,f=>.cons (f _ _ r) (Paired.mapP t f)
theorem ObjOk.stay (x:ObjOk P w H h a o) (k:∀ b u,(b=a∨H b=some (.own a))→h.get? b=some u→h'.get? b=some u)
    (ho:∀ b,H b=some (.own a)→H' b=some (.own a)) (ht:∀ b xs,H b=some (.tup xs)→H' b=some (.tup xs)) (hp:∀ b u,Prm u→H b=some u→H' b=some u):ObjOk P w H' h' a o:=by
  induction o with
  | lst xs=>obtain ⟨z,its,n,r,e⟩:=x;exact ⟨z,its,n,r,k _ _ (.inl rfl) e⟩
  | tup xs=>obtain ⟨z,its,r,ob,e,c⟩:=x;exact ⟨z,its,r,ob,k _ _ (.inl rfl) e,c⟩
  | dK kvs=>obtain ⟨z,y,vs,r,ob,es,ep,e,c⟩:=x;exact ⟨z,y,vs,r,ob,es,ep,k _ _ (.inl rfl) e,c⟩
  | dT kvs =>
    obtain ⟨z,y,xs,r,ob,es,ep,e,c⟩:=x
    exact ⟨z,y,xs,Paired.mapP r fun p q z=>⟨z.1,ht _ _ z.2.1,z.2.2⟩,ob,es,ep,k _ _ (.inl rfl) e,c⟩
  | set S n=>obtain ⟨ob,es,ep,t,e,c⟩:=x;exact ⟨ob,es,ep,t,k _ _ (.inl rfl) e,c⟩
  | ins C dx fs =>
    obtain ⟨d,z,ne,e,mA,⟨od,es,ep,e2,c⟩,r⟩:=x
    exact ⟨ho _ d,z,ne,k _ _ (.inl rfl) e,mA,⟨od,es,ep,k _ _ (.inr d) e2,c⟩,r⟩
  | own y=>obtain ⟨ob,e⟩:=x;exact ⟨ob,k _ _ (.inl rfl) e⟩
  | xd fs=>obtain ⟨mA,⟨od,es,ep,e,c⟩,r⟩:=x;exact ⟨mA,⟨od,es,ep,k _ _ (.inl rfl) e,c⟩,r⟩
  | rng lo hi=>obtain ⟨t,u,v,e⟩:=x;exact ⟨t,u,v,k _ _ (.inl rfl) e⟩
  | frz ob u ih=>obtain ⟨e,q⟩:=x;exact ⟨k _ _ (.inl rfl) e,ih q⟩
  | tbl q =>
    obtain ⟨ps,e,t,g⟩:=x
    exact ⟨ps,k a _ (.inl rfl) e,t,fun pos cv r=>let ⟨c,e1,e2⟩:=g pos cv r;⟨c,e1,hp c _ trivial e2⟩⟩
  | cod q =>
    obtain ⟨c,oc,vs,t,e1,e2,r⟩:=x
    cases e1
    exact ⟨a,oc,vs,t,rfl,k a _ (.inl rfl) e2,r⟩
  | met f y =>
    have e:h.get? a=some (PySem.W.methodObj (.ref f) (.ref y)):=x
    show h'.get? a=some (PySem.W.methodObj (.ref f) (.ref y))
    exact k a _ (.inl rfl) e
  | ext φ=>obtain ⟨p,⟨o,e⟩,st⟩:=x;exact ⟨st _ _ p fun o q=>k _ _ (.inl rfl) q,⟨o,k _ _ (.inl rfl) e⟩,st⟩
theorem HOk.lt (x:HOk P w H h) (e:H a=some o):a < h.objs.size:=(x a o e).lt
theorem HOk.fresh (x:HOk P w H h) (e:h.objs.size≤a):H a=none:=by
  cases q:H a with
  | none=>rfl
  | some u=>exact absurd (Nat.lt_of_lt_of_le (x.lt q) e) (Nat.lt_irrefl _)
theorem HOk.kept (x:HOk P w H h) (k:∀ b u,h.get? b=some u→h'.get? b=some u):HOk P w H h':=fun a o e =>
  (x a o e).stay (fun b u _ q=>k b u q) (fun _ q=>q) (fun _ _ q=>q) fun _ _ _ q=>q
theorem HOk.laid (x:HOk P w H h) (k:∀ b u,h.get? b=some u→h'.get? b=some u) (hp:h.objs.size≤a) (new:ObjOk P w (upd H a o) h' a o):HOk P w (upd H a o) h':=fun b u e=>by
  have hn:=x.fresh hp
  by_cases hb:b=a
  · subst hb;rw [upd_same] at e;cases e;exact new
  · rw [upd_ne hb] at e
    exact (x b u e).stay (fun c v _ q=>k c v q) (fun c q=>by rw [upd_ne (ne_of_none q hn)];exact q) (fun c xs q=>by rw [upd_ne (ne_of_none q hn)];exact q) fun c v _ q=>by rw [upd_ne (ne_of_none q hn)];exact q
end
def Rd (H:Hp) (a:Addr) (u:HO):Prop:=H a=some u∨∃ o,H a=some (.frz o u)
theorem Rd.of {H:Hp} {a:Addr} {u:HO} (h:H a=some u):Rd H a u:=.inl h
theorem Rd.ok {P:Program} {w:World} {H:Hp} {h:Heap} {a:Addr} {u:HO} (r:Rd H a u) (x:HOk P w H h):ObjOk P w H h a u:=by
  rcases r with r | ⟨o,r⟩
  · exact x a u r
  · obtain ⟨_,q⟩:=x a _ r
    exact q
def Mut:Option HO→Prop
  | some (.lst _)=>True
  | some (.dK _)=>True
  | some (.dT _)=>True
  | some (.set _ _)=>True
  | some (.ins _ _ _)=>True
  | some (.ext _)=>True
  | _=>False
section
variable {P:Program} {w:World} {H:Hp} {h h':Heap} {x e:Addr} {o':HO}
theorem HOk.write (ok : HOk P w H h) (mu : Mut (H x)) (he : e = x ∨ H e = some (.own x)) (k : ∀ b u, b ≠ e → h.get? b = some u → h'.get? b = some u) (heo : ∃ u, h'.get? e = some u)
    (new:ObjOk P w (upd H x o') h' x o'):HOk P w (upd H x o') h':=fun b u q=>by
  have nown:∀ c y,H c=some (.own y)→c≠x:=fun c y r z=>by subst z;rw [r] at mu;exact mu
  have ntup:∀ c xs,H c=some (.tup xs)→c≠x:=fun c xs r z=>by subst z;rw [r] at mu;exact mu
  have nprm:∀ c u,Prm u→H c=some u→c≠x:=fun c u p r z=>by subst z;rw [r] at mu;cases u<;>first | exact p | exact mu
  by_cases hb:b=x
  · subst hb;rw [upd_same] at q;cases q;exact new
  · rw [upd_ne hb] at q
    by_cases hbe:b=e
    · have q':H b=some (.own x):=by
        rcases he with z | z
        · exact absurd (hbe.trans z) hb
        · rw [hbe];exact z
      rw [q] at q';cases q'
      obtain ⟨v,hv⟩:=heo
      exact ⟨v,by rw [hbe];exact hv⟩
    · refine (ok b u q).stay (fun c v hc r=>k c v ?_ r) (fun c r=>by rw [upd_ne (nown c b r)];exact r) (fun c xs r=>by rw [upd_ne (ntup c xs r)];exact r) fun c v p r=>by rw [upd_ne (nprm c v p r)];exact r
      rcases hc with rfl | hc
      · exact hbe
      · rintro rfl
        rcases he with z | z
        · exact nown c b hc z
        · rw [hc] at z;cases z;exact hb rfl
end
structure Un (fs ex:List Addr) (H H':Hp) (h h':Heap):Prop where
  keep:∀ b o,h.get? b=some o→H b=none→b∉fs→b∉ex→h'.get? b=some o
  slot:∀ b o,h.get? b=some o→H b=none→b∈fs→b∉ex→∃ sl,h'.get? b=some { o with slots:=sl }
  free:∀ b o,h.get? b=some o→H b=none→b∉ex→H' b=none
  there:∀ b o,h.get? b=some o→b∉ex→∃ o',h'.get? b=some o'
  tups:∀ b xs,H b=some (.tup xs)→H' b=some (.tup xs)
  frzs:∀ b o u,H b=some (.frz o u)→H' b=some (.frz o u)
  tbls:∀ b u,Prm u→H b=some u→H' b=some u
section
variable {fs fs' ex ex':List Addr} {H H1 H2:Hp} {h h1 h2 h':Heap} {a x e:Addr} {o:HO}
theorem Un.any (u:Un fs ex H H1 h h1) {b:Addr} {ob:Obj} (q:h.get? b=some ob) (n:H b=none) (hx:b∉ex):∃ sl,h1.get? b=some { ob with slots:=sl }:=by
  by_cases hb:b∈fs
  · exact u.slot b ob q n hb hx
  · exact ⟨ob.slots,u.keep b ob q n hb hx⟩
theorem Un.kept (k:∀ b u,h.get? b=some u→h'.get? b=some u):Un fs ex H H h h' :=
  ⟨fun b ob q _ _ _=>k b ob q,fun b ob q _ _ _=>⟨ob.slots,k b ob q⟩,fun _ _ _ n _=>n,fun b ob q _=>⟨ob,k b ob q⟩,fun _ _ q=>q,fun _ _ _ q=>q,fun _ _ _ q=>q⟩
theorem Un.refl:Un fs ex H H h h:=Un.kept fun _ _ q=>q
theorem Un.laid (k:∀ b u,h.get? b=some u→h'.get? b=some u) (hp:h.objs.size≤a) (hn:H a=none):Un fs ex H (upd H a o) h h' where
  keep:=fun b u q _ _ _=>k b u q
  slot:=fun b u q _ _ _=>⟨u.slots,k b u q⟩
  free:=fun b u q n _=>by rw [upd_ne (Nat.ne_of_lt (Nat.lt_of_lt_of_le (Heap.lt_size q) hp))];exact n
  there:=fun b u q _=>⟨u,k b u q⟩
  tups:=fun b xs q=>by rw [upd_ne (ne_of_none q hn)];exact q
  frzs:=fun b u xs q=>by rw [upd_ne (ne_of_none q hn)];exact q
  tbls:=fun b u _ q=>by rw [upd_ne (ne_of_none q hn)];exact q
theorem Un.write (mu:Mut (H x)) (he:e=x∨H e=some (.own x)) (k:∀ b u,b≠e→h.get? b=some u→h'.get? b=some u) (heo:∃ u,h'.get? e=some u):Un fs ex H (upd H x o) h h':=by
  have hx:∀ b,H b=none→b≠x:=fun b n z=>by subst z;rw [n] at mu;exact mu
  have hb:∀ b,H b=none→b≠e:=fun b n z=>by
    subst z
    rcases he with r | r
    · exact hx b n r
    · rw [n] at r;cases r
  have hm:∀ b u,H b=some u→¬ Mut (some u)→b≠x:=fun b u q nm z=>by subst z;rw [q] at mu;exact nm mu
  refine ⟨fun b u q n _ _=>k b u (hb b n) q,fun b u q n _ _=>⟨u.slots,k b u (hb b n) q⟩,fun b u q n _=>by rw [upd_ne (hx b n)];exact n,fun b u q _=>?_,
    fun b xs q=>by rw [upd_ne (hm b _ q fun z=>z)];exact q,fun b u xs q=>by rw [upd_ne (hm b _ q fun z=>z)];exact q,fun b u p q=>by rw [upd_ne (hm b _ q fun z=>by cases u<;>first | exact p | exact z)];exact q⟩
  by_cases hbe:b=e
  · subst hbe;exact heo
  · exact ⟨u,k b u hbe q⟩
theorem Un.mono (u:Un fs ex H H1 h h1) (hs:∀ b∈fs,b∈fs') (hx:∀ b∈ex,b∈ex'):Un fs' ex' H H1 h h1 :=
  ⟨fun b ob q n hb he=>u.keep b ob q n (fun z=>hb (hs b z)) fun z=>he (hx b z),fun _ _ q n _ he=>u.any q n fun z=>he (hx _ z),fun b ob q n he=>u.free b ob q n fun z=>he (hx b z),fun b ob q he=>u.there b ob q fun z=>he (hx b z),u.tups,u.frzs,u.tbls⟩
end
def trk (h:Heap) (H:Hp):List Addr:=(List.range h.objs.size).filter fun a=>(H a).isSome
def hidT (h:Heap) (H:Hp):Heap:=PySem.W.hideAll h (trk h H)
theorem hidT_size (h:Heap) (H:Hp):(hidT h H).objs.size=h.objs.size:=PySem.W.hideAll_size _ _
theorem hidT_get {h:Heap} {H:Hp} {b:Addr} {o:Obj} (e:h.get? b=some o) (n:H b=none):(hidT h H).get? b=some o :=
  PySem.W.hideAll_get _ e fun hm=>by
    have q:(H b).isSome=true:=(List.mem_filter.mp hm).2
    rw [n] at q;simp at q
theorem of_hidT {h:Heap} {H:Hp} {b:Addr} {o:Obj} (e:(hidT h H).get? b=some o):h.get? b=some o∧H b=none:=by
  have e':h.get? b=some o:=PySem.W.of_hideAll (trk h H) e
  refine ⟨e',?_⟩
  cases q:H b with
  | none=>rfl
  | some x =>
    have hm:b∈trk h H:=List.mem_filter.mpr ⟨List.mem_range.mpr (Heap.lt_size e'),by simp [q]⟩
    have z:(hidT h H).get? b=none:=PySem.W.hideAll_none (trk h H) hm
    rw [z] at e;cases e
def allNews (g h:Heap) (L:Addr):List (Addr×Obj):=(List.range h.objs.size).filterMap fun a=>if a=L∨(g.get? a).isSome=true then none else (h.get? a).map fun o=>(a,o)
def rest (g h:Heap) (L d:Addr):List (Addr×Obj):=(allNews g h L).filter fun p=>decide (p.1≠d)
end L2
namespace L2
open PySem PySem.Spec PyProof.Rows
structure Mod (K:PySem.W.Frag) (mg:Str→Option Value) (base:Heap):Prop where
  kin:K.In base
  glob:base.Ns mainGlobals mg
  blt:∃ mb,base.Ns builtinsNs mb∧∀ x:Str,x ≠ "__name__" → mb x=bootBuiltins x
  nolimit:base.NoLimit
def lamNames:List Str:=["best_among", "paper_beside"]
def lamQ (x:Str):Str:=x ++ ".<locals>." ++ "<lambda>"
def BMain (mg:Str→Option Value) (base:Heap):Prop:=∃ bm ob,mg "__builtins__" = some (.ref bm)∧bm≠builtinsNs∧base.get? bm=some ob∧ob.cls=.type "module" ∧ ob.dict=some builtinsNs∧ob.data=.plain
def TabOk (K:PySem.W.Frag) (mg:Str→Option Value) (base:Heap) (H:Hp):Prop:=∀ x∈lamNames,∀ c P,PySem.W.tabIn K x=some (c,P)→H P=some (.tbl (lamQ x))∧PySem.W.CodeHd base c P∧BMain mg base
theorem TabOk.up {K:PySem.W.Frag} {mg:Str→Option Value} {base:Heap} {H H':Hp} (t:TabOk K mg base H) (u:∀ b o,Prm o→H b=some o→H' b=some o):TabOk K mg base H':=fun x hx c P e=>⟨u _ _ trivial (t x hx c P e).1,(t x hx c P e).2⟩
structure Cx where
  prog:Program
  w:World
  K:PySem.W.Frag
  mg:Str→Option Value
  base:Heap
  A:Around
  N:List Str
  s₀:Shared
  H₀:Hp
  env:Env
  outer:List Env
  stack:List Env
  ex:List Addr
  fn:Str→Bool
  calm:Bool
  pn:List (Addr×Obj)
  xe:Value→Shared→Prop
def frs (l:List Env):List Addr:=l.filterMap (·.frame)
abbrev Cx.fs (X:Cx):List Addr:=frs X.outer
def Vis (sc:Scope) (x:Str):Prop:=sc.names.lookup x=some .local∨sc.names.lookup x=some .cell∨sc.names.lookup x=some .free
def Loc (sc:Scope) (x:Str):Prop:=sc.names.lookup x=some .local∨sc.names.lookup x=some .cell
def Look (env:Env) (h:Heap) (m:Str→Option Value) (x:Str) (u:Value):Prop :=
  (env.kindOf x=some .local∧m x=some u)∨((env.kindOf x=some .cell∨env.kindOf x=some .free)∧∃ c,env.cells.lookup x=some c∧h.IsCell c (some u))
structure Cx.Ok (X:Cx):Prop where
  mod:Mod X.K X.mg X.base
  kind:X.env.scope.kind=.function
  glob:X.env.globals=mainGlobals
  blt:X.env.builtins=builtinsNs
  above:X.s₀.heap.objs.size≤X.env.locals
  inj:∀ x y c,X.env.cells.lookup x=some c→X.env.cells.lookup y=some c→x=y
  has:∀ x,(X.env.kindOf x=some .cell∨X.env.kindOf x=some .free)→∃ c,X.env.cells.lookup x=some c
  cab:∀ x c,X.fn x=true→X.env.cells.lookup x=some c→X.s₀.heap.objs.size≤c
  hd:X.calm=true→X.A.handled=none
  frames:X.A.frames=some X.stack
  stk:X.stack=X.outer∨(X.stack=X.env :: X.outer∧X.env.frame=some X.env.locals)
  exf:∀ b∈X.ex,b≠X.env.locals∧∀ x c,X.env.cells.lookup x=some c→c≠b
  bs:∀ b o,X.base.get? b=some o→X.s₀.heap.get? b=some o∧X.H₀ b=none
  bsz:X.base.objs.size≤X.s₀.heap.objs.size
  noex:∀ b o,X.base.get? b=some o→b∉X.ex
  exfs:∀ b∈X.ex,b∉X.fs
  funs:X.s₀.heap.FunFrames X.base X.outer
  frf:∀ b∈X.fs,X.H₀ b=none
structure Inv (X:Cx) (pins:List (Addr×Obj)) (σ:List (Option V)) (H:Hp) (s:Shared):Prop where
  ok:X.Ok
  os:s.os=X.s₀.os
  bare:AllBare s.gens
  base:Un X.fs X.ex X.H₀ H X.s₀.heap s.heap
  loc:∃ m,s.heap.Ns X.env.locals m∧∀ (i:Nat) (x:Str) (v:V),X.N[i]?=some x→σ[i]?=some (some v)→Vis X.env.scope x→∃ u,RelV v u∧Look X.env s.heap m x u
  cell:∀ x c,X.env.cells.lookup x=some c→∃ v,s.heap.IsCell c v
  free:H X.env.locals=none
  freeC:∀ x c,X.env.cells.lookup x=some c→H c=none
  pin:∀ p∈X.pn++pins,s.heap.get? p.1=some p.2∧H p.1=none∧p.1≠X.env.locals∧p.1∉X.fs∧∀ v,p.2.data≠.cell v
  hok:HOk X.prog X.w H s.heap
  len:σ.length=X.N.length
  tab:TabOk X.K X.mg X.base H
section
variable {X:Cx} {pins:List (Addr×Obj)} {σ:List (Option V)} {H H':Hp} {s:Shared} {h':Heap}
theorem Cx.Ok.nofr (ok:X.Ok) {b:Addr} {o:Obj} (e:X.base.get? b=some o):b∉X.fs:=fun hb=>by
  have:=(ok.funs.mem hb).1
  rw [e] at this;cases this
theorem Inv.bs (I:Inv X pins σ H s):∀ b o,X.base.get? b=some o→s.heap.get? b=some o∧H b=none:=fun b o e =>
  ⟨I.base.keep b o (I.ok.bs b o e).1 (I.ok.bs b o e).2 (I.ok.nofr e) (I.ok.noex b o e),I.base.free b o (I.ok.bs b o e).1 (I.ok.bs b o e).2 (I.ok.noex b o e)⟩
theorem Inv.bk (I:Inv X pins σ H s):∀ b o,X.base.get? b=some o→s.heap.get? b=some o:=fun b o e=>(I.bs b o e).1
theorem Inv.mod (I:Inv X pins σ H s):Mod X.K X.mg X.base:=I.ok.mod
theorem Inv.kIn (I:Inv X pins σ H s):X.K.In s.heap:=I.ok.mod.kin.keeps I.bk
theorem Inv.nolimit (I:Inv X pins σ H s):s.heap.NoLimit:=I.ok.mod.nolimit.keeps I.bk
theorem Inv.fr (I:Inv X pins σ H s):∃ m,Fr X.base X.env.locals s.heap m :=
  let ⟨m,hn,_⟩:=I.loc
  ⟨m,hn,I.bk,Nat.le_trans I.ok.bsz I.ok.above⟩
theorem Inv.lt (I:Inv X pins σ H s):X.env.locals < s.heap.objs.size:=let ⟨_,hn,_⟩:=I.loc;hn.lt
theorem Inv.sz (I:Inv X pins σ H s):X.s₀.heap.objs.size≤s.heap.objs.size:=Nat.le_trans I.ok.above (Nat.le_of_lt I.lt)
theorem Inv.nofs (I:Inv X pins σ H s) {a:Addr} (h:s.heap.objs.size≤a):a∉X.fs:=fun hb=>by
  obtain ⟨_,o,ho,_⟩:=I.ok.funs.mem hb
  exact absurd (Nat.lt_of_lt_of_le (Heap.lt_size ho) (Nat.le_trans I.sz h)) (Nat.lt_irrefl _)
theorem Inv.cne (I:Inv X pins σ H s):∀ x c,X.env.cells.lookup x=some c→c≠X.env.locals:=fun x c e z=>by
  obtain ⟨v,o,ho,hd⟩:=I.cell x c e
  obtain ⟨m,⟨o',es,ep,ho',hd',_⟩,_⟩:=I.loc
  rw [z,ho'] at ho;cases ho;rw [hd'] at hd;cases hd
theorem Inv.funs (I:Inv X pins σ H s):s.heap.FunFrames X.base X.outer:=by
  have all:∀ (l:List Env),(∀ b∈frs l,b∈X.fs)→X.s₀.heap.FunFrames X.base l→s.heap.FunFrames X.base l:=by
    intro l
    induction l with
    | nil=>intro _ _;trivial
    | cons env r ih =>
      intro hs hl
      obtain ⟨hk,⟨L,o,hf,hn,ho,hd⟩,hr⟩:=hl
      have hL:L∈X.fs:=hs L (by unfold frs;rw [List.filterMap_cons,hf];exact List.mem_cons_self)
      obtain ⟨sl,e⟩:=I.base.slot L o ho (I.ok.frf L hL) hL fun z=>I.ok.exfs L z hL
      exact ⟨hk,⟨L,_,hf,hn,e,hd⟩,ih (fun b hb=>hs b (by unfold frs;rw [List.filterMap_cons,hf];exact List.mem_cons_of_mem _ hb)) hr⟩
  exact all X.outer (fun _ hb=>hb) I.ok.funs
theorem Inv.stack (I:Inv X pins σ H s):s.heap.FunFrames X.base X.stack:=by
  rcases I.ok.stk with e | ⟨e,hf⟩
  · rw [e];exact I.funs
  · rw [e]
    obtain ⟨m,hn,_⟩:=I.loc
    refine .cons (by rw [I.ok.kind];decide) hf hn ?_ I.funs
    exact Heap.get?_none_of_le (Nat.le_trans I.ok.bsz I.ok.above)
theorem Inv.stkSub (I:Inv X pins σ H s):∀ b∈frs X.stack,b∈X.env.locals :: X.fs:=fun b hb=>by
  rcases I.ok.stk with e | ⟨e,hf⟩
  · rw [e] at hb;exact List.mem_cons_of_mem _ hb
  · rw [e] at hb
    unfold frs at hb
    rw [List.filterMap_cons,hf] at hb
    exact hb
theorem Inv.stkFree (I:Inv X pins σ H s):∀ b∈frs X.stack,H b=none:=fun b hb=>by
  rcases List.mem_cons.mp (I.stkSub b hb) with e | hb
  · rw [e];exact I.free
  · obtain ⟨_,o,ho,_⟩:=I.ok.funs.mem hb
    exact I.base.free b o ho (I.ok.frf b hb) fun z=>I.ok.exfs b z hb
theorem Inv.step {g':Array GenState} {t':Nat} {d':Drawn} {ch:List Addr} (I:Inv X pins σ H s)
    (hch:∀ b∈ch,(b∈X.ex∨X.s₀.heap.objs.size≤b)∧b≠X.env.locals∧(∀ x c,X.env.cells.lookup x=some c→c≠b)∧∀ p∈X.pn++pins,p.1≠b)
    (keep:∀ b o,b≠X.env.locals→b∉X.fs→b∉ch→s.heap.get? b=some o→H b=none→h'.get? b=some o)
    (slot:∀ b o,b≠X.env.locals→b∈X.fs→b∉ch→s.heap.get? b=some o→H b=none→∃ sl,h'.get? b=some { o with slots:=sl }) (free:∀ b o,b∉ch→s.heap.get? b=some o→H b=none→H' b=none)
    (there:∀ b o,b∉ch→s.heap.get? b=some o→∃ o',h'.get? b=some o')
    (tups:∀ b xs,H b=some (.tup xs)→H' b=some (.tup xs)) (frzs:∀ b o u,H b=some (.frz o u)→H' b=some (.frz o u)) (tbls:∀ b u,Prm u→H b=some u→H' b=some u)
    (ns:∀ m,s.heap.Ns X.env.locals m→h'.Ns X.env.locals m) (hok:HOk X.prog X.w H' h') (hg:AllBare g') :
    Inv X pins σ H' { s with heap:=h',gens:=g',drawn:=d',toks:=t' }:=by
  have neL:∀ b o,X.s₀.heap.get? b=some o→b≠X.env.locals:=fun b o e=>Nat.ne_of_lt (Nat.lt_of_lt_of_le (Heap.lt_size e) I.ok.above)
  have neC:∀ b o,X.s₀.heap.get? b=some o→b∉X.ex→b∉ch:=fun b o e hx hb=>by
    rcases (hch b hb).1 with z | z
    · exact hx z
    · exact absurd (Nat.lt_of_lt_of_le (Heap.lt_size e) z) (Nat.lt_irrefl _)
  have cellK:∀ x c,X.env.cells.lookup x=some c→∀ v,s.heap.IsCell c v→h'.IsCell c v:=fun x c e v ⟨o,ho,hd⟩=>by
    have nch:c∉ch:=fun z=>(hch c z).2.2.1 x c e rfl
    by_cases hc:c∈X.fs
    · obtain ⟨sl,q⟩:=slot c o (I.cne x c e) hc nch ho (I.freeC x c e)
      exact ⟨_,q,hd⟩
    · exact ⟨o,keep c o (I.cne x c e) hc nch ho (I.freeC x c e),hd⟩
  refine ⟨I.ok,I.os,hg,⟨fun b o e n hb hx=>?_,fun b o e n hb hx=>?_,fun b o e n hx=>?_,fun b o e hx=>?_,fun b xs e=>tups b xs (I.base.tups b xs e),fun b o xs e=>frzs b o xs (I.base.frzs b o xs e),fun b u p e=>tbls b u p (I.base.tbls b u p e)⟩,?_,fun x c e=>?_,?_,fun x c e=>?_,fun p hp=>?_,hok,I.len,I.tab.up tbls⟩
  · exact keep b o (neL b o e) hb (neC b o e hx) (I.base.keep b o e n hb hx) (I.base.free b o e n hx)
  · obtain ⟨sl,e1⟩:=I.base.slot b o e n hb hx
    obtain ⟨sl',e2⟩:=slot b _ (neL b o e) hb (neC b o e hx) e1 (I.base.free b o e n hx)
    exact ⟨sl',e2⟩
  · obtain ⟨o',e1⟩:=I.base.there b o e hx
    exact free b o' (neC b o e hx) e1 (I.base.free b o e n hx)
  · obtain ⟨o',e1⟩:=I.base.there b o e hx
    exact there b o' (neC b o e hx) e1
  · obtain ⟨m,hn,hl⟩:=I.loc
    refine ⟨m,ns m hn,fun i x v e1 e2 e3=>?_⟩
    obtain ⟨u,r,l⟩:=hl i x v e1 e2 e3
    refine ⟨u,r,?_⟩
    rcases l with l | ⟨k,c,e,z⟩
    · exact .inl l
    · exact .inr ⟨k,c,e,cellK x c e _ z⟩
  · obtain ⟨v,z⟩:=I.cell x c e
    exact ⟨v,cellK x c e v z⟩
  · obtain ⟨m,⟨o,_,_,ho,_⟩,_⟩:=I.loc
    exact free _ o (fun z=>(hch _ z).2.1 rfl) ho I.free
  · obtain ⟨v,o,ho,hd⟩:=I.cell x c e
    exact free c o (fun z=>(hch c z).2.2.1 x c e rfl) ho (I.freeC x c e)
  · obtain ⟨e,n,ne,nf,d⟩:=I.pin p hp
    have nch:p.1∉ch:=fun z=>(hch p.1 z).2.2.2 p hp rfl
    exact ⟨keep p.1 p.2 ne nf nch e n,free p.1 p.2 nch e n,ne,nf,d⟩
theorem Inv.un {t':Nat} (I:Inv X pins σ H s) (u:Un X.fs [] H H' s.heap h') (hok:HOk X.prog X.w H' h'):Inv X pins σ H' { s with heap:=h',toks:=t' }:=by
  obtain ⟨m,⟨o,es,ep,ho,r⟩,_⟩:=id I.loc
  obtain ⟨sl,hL⟩:=u.any ho I.free (by simp)
  exact I.step (g':=s.gens) (d':=s.drawn) (ch:=[]) (fun _ z=>nomatch z) (fun b o _ hb _ e n=>u.keep b o e n hb (by simp)) (fun b o _ hb _ e n=>u.slot b o e n hb (by simp)) (fun b o _ e n=>u.free b o e n (by simp)) (fun b o _ e=>u.there b o e (by simp)) u.tups u.frzs u.tbls (fun m' hm=>by
    obtain ⟨o',es',ep',ho',r'⟩:=hm
    rw [ho] at ho';cases ho'
    exact ⟨_,es',ep',hL,r'⟩) hok I.bare
theorem Inv.call {g':Array GenState} {t':Nat} {d':Drawn} {ch:List Addr} (I:Inv X pins σ H s) (u:Un (frs X.stack) ch H H' s.heap h') (hok:HOk X.prog X.w H' h') (hg:AllBare g')
    (hch:∀ b∈ch,(b∈X.ex∨X.s₀.heap.objs.size≤b)∧b≠X.env.locals∧(∀ x c,X.env.cells.lookup x=some c→c≠b)∧∀ p∈X.pn++pins,p.1≠b) :
    Inv X pins σ H' { s with heap:=h',gens:=g',drawn:=d',toks:=t' }:=by
  obtain ⟨m,⟨o,es,ep,ho,r⟩,_⟩:=id I.loc
  obtain ⟨sl,hL⟩:=u.any ho I.free fun z=>(hch _ z).2.1 rfl
  exact I.step (ch:=ch) hch (fun b o hL hb hc e n=>u.keep b o e n (fun z=>(List.mem_cons.mp (I.stkSub b z)).elim hL hb) hc) (fun b o _ _ hc e n=>u.any e n hc) (fun b o hc e n=>u.free b o e n hc) (fun b o hc e=>u.there b o e hc) u.tups u.frzs u.tbls (fun m' hm=>by
    obtain ⟨o',es',ep',ho',r'⟩:=hm
    rw [ho] at ho';cases ho'
    exact ⟨_,es',ep',hL,r'⟩) hok hg
theorem Inv.turned {t':Nat} {it:Addr} (I:Inv X pins σ H s) (k:∀ b o,b≠it→s.heap.get? b=some o→h'.get? b=some o) (hn:H it=none) (hL:it≠X.env.locals)
    (h1:it∈X.ex∨X.s₀.heap.objs.size≤it) (h2:∀ x c,X.env.cells.lookup x=some c→c≠it) (h3:∀ p∈X.pn++pins,p.1≠it):Inv X pins σ H { s with heap:=h',toks:=t' }:=by
  have nit:∀ b u,H b=some u→b≠it:=fun b u e z=>by rw [z,hn] at e;cases e
  refine I.step (g':=s.gens) (d':=s.drawn) (ch:=[it]) (fun b hb=>?_) (fun b o _ _ hc e _=>k b o (fun z=>hc (by simp [z])) e) (fun b o _ _ hc e _=>⟨o.slots,k b o (fun z=>hc (by simp [z])) e⟩) (fun _ _ _ _ n=>n)
    (fun b o hc e=>⟨o,k b o (fun z=>hc (by simp [z])) e⟩) (fun _ _ e=>e) (fun _ _ _ e=>e) (fun _ _ _ e=>e) (fun m hm=>?_) (fun b u e=>?_) I.bare
  · have e:b=it:=by simpa using hb
    subst e
    exact ⟨h1,hL,h2,h3⟩
  · obtain ⟨o,es,ep,ho,r⟩:=hm
    exact ⟨o,es,ep,k _ o (Ne.symm hL) ho,r⟩
  · refine (I.hok b u e).stay (fun c v hc q=>k c v ?_ q) (fun _ q=>q) (fun _ _ q=>q) fun _ _ _ q=>q
    rcases hc with z | z
    · rw [z];exact nit b u e
    · exact nit c _ z
theorem Inv.tok (I:Inv X pins σ H s) (t:Nat):Inv X pins σ H { s with toks:=t }:=I.un (h':=s.heap) (t':=t) Un.refl I.hok
theorem Inv.kept {t':Nat} (I:Inv X pins σ H s) (k:∀ b u,s.heap.get? b=some u→h'.get? b=some u):Inv X pins σ H { s with heap:=h',toks:=t' }:=I.un (Un.kept k) (I.hok.kept k)
theorem Inv.laid {a:Addr} {o:HO} {t':Nat} (I:Inv X pins σ H s) (k:∀ b u,s.heap.get? b=some u→h'.get? b=some u) (hp:s.heap.objs.size≤a) (new:ObjOk X.prog X.w (upd H a o) h' a o) :
    Inv X pins σ (upd H a o) { s with heap:=h',toks:=t' }:=I.un (Un.laid k hp (I.hok.fresh hp)) (I.hok.laid k hp new)
theorem Inv.write {x e:Addr} {o:HO} {t':Nat} (I:Inv X pins σ H s) (mu:Mut (H x)) (he:e=x∨H e=some (.own x)) (k:∀ b u,b≠e→s.heap.get? b=some u→h'.get? b=some u) (heo:∃ u,h'.get? e=some u)
    (new:ObjOk X.prog X.w (upd H x o) h' x o):Inv X pins σ (upd H x o) { s with heap:=h',toks:=t' }:=I.un (Un.write mu he k heo) (I.hok.write mu he k heo new)
theorem Inv.pins_of {pins':List (Addr×Obj)} (I:Inv X pins σ H s) (h:∀ p∈pins',s.heap.get? p.1=some p.2∧H p.1=none∧p.1≠X.env.locals∧p.1∉X.fs∧∀ v,p.2.data≠.cell v):Inv X pins' σ H s :=
  ⟨I.ok,I.os,I.bare,I.base,I.loc,I.cell,I.free,I.freeC,fun p hp=>(List.mem_append.mp hp).elim (fun z=>I.pin p (List.mem_append_left _ z)) (h p),I.hok,I.len,I.tab⟩
theorem nodup_ix {N:List Str} (hN:N.Nodup) {i j:Nat} {x:Str} (a:N[i]?=some x) (b:N[j]?=some x):i=j:=by
  obtain ⟨h1,e1⟩:=List.getElem?_eq_some_iff.mp a
  obtain ⟨h2,e2⟩:=List.getElem?_eq_some_iff.mp b
  exact (List.getElem_inj hN).mp (e1.trans e2.symm)
theorem store_ok2 {M : Model} {A : Around} {E : Value → Shared → Prop} {i : Nat} {x : Str} {v : V} {u : Value} {Q : Unit → Shared → Prop} (I : Inv X pins σ H s) (hN : X.N.Nodup) (hi : X.N[i]? = some x) (hx : Loc X.env.scope x) (r : RelV v u)
    (h:∀ s',Inv X pins (σ.set i (some v)) H s'→(∃ a,Heap.SameBut a s.heap s'.heap∧(a=X.env.locals∨X.env.cells.lookup x=some a))→Q () s') (hf:X.fn x=true∨X.env.scope.names.lookup x=some .local:=by first | exact .inl rfl | exact .inr rfl | assumption):wpAny M A (storeName X.env x u) Q E s:=by
  obtain ⟨m,hn,hl⟩:=id I.loc
  have hcls:(X.env.scope.kind==.class || (X.env.scope.kind==.module&&X.env.locals != X.env.globals))=false:=by rw [I.ok.kind];rfl
  have hiσ:i < σ.length:=by rw [I.len];exact (List.getElem?_eq_some_iff.mp hi).1
  have cne:=I.cne
  have tracked:∀ {a:Addr} {h':Heap},(∃ o,s.heap.get? a=some o∧H a=none)→Heap.SameBut a s.heap h'→HOk X.prog X.w H h':=fun {a h'} ha hs b ob e=>by
    obtain ⟨_,_,hfree⟩:=ha
    refine (I.hok b ob e).stay (fun c w' hc q=>(hs.2 c ?_).trans q) (fun _ q=>q) (fun _ _ q=>q) fun _ _ _ q=>q
    rintro rfl
    rcases hc with rfl | hc
    · rw [hfree] at e;cases e
    · rw [hfree] at hc;cases hc
  rcases hx with hk | hk
  · refine wpAny_storeName_local hk hn (fun h' hn' hs=>?_) hcls
    obtain ⟨oL,_,_,hoL,_⟩:=id hn
    refine h _ ⟨I.ok,I.os,I.bare,⟨fun b o e n hb hx=>?_,fun b o e n hb hx=>?_,I.base.free,fun b o e hx=>?_,I.base.tups,I.base.frzs,I.base.tbls⟩,⟨_,hn',fun j y v' e1 e2 e3=>?_⟩,fun y c e=>?_,I.free,I.freeC,fun p hp=>?_,tracked ⟨oL,hoL,I.free⟩ hs,by simpa using I.len,I.tab⟩ ⟨_,hs,.inl rfl⟩
    · exact (hs.2 b (Nat.ne_of_lt (Nat.lt_of_lt_of_le (Heap.lt_size e) I.ok.above))).trans (I.base.keep b o e n hb hx)
    · obtain ⟨sl,e1⟩:=I.base.slot b o e n hb hx
      exact ⟨sl,(hs.2 b (Nat.ne_of_lt (Nat.lt_of_lt_of_le (Heap.lt_size e) I.ok.above))).trans e1⟩
    · obtain ⟨o',e1⟩:=I.base.there b o e hx
      exact ⟨o',(hs.2 b (Nat.ne_of_lt (Nat.lt_of_lt_of_le (Heap.lt_size e) I.ok.above))).trans e1⟩
    · by_cases hj:j=i
      · subst hj
        rw [hi] at e1;cases e1
        rw [List.getElem?_set_self hiσ] at e2
        cases e2
        exact ⟨u,r,.inl ⟨hk,by simp⟩⟩
      · rw [List.getElem?_set_ne (Ne.symm hj)] at e2
        obtain ⟨u',r',q⟩:=hl j y v' e1 e2 e3
        refine ⟨u',r',?_⟩
        rcases q with ⟨k,e⟩ | ⟨k,c,e,z⟩
        · refine .inl ⟨k,?_⟩
          have:y≠x:=fun e=>hj (nodup_ix hN e1 (e▸hi))
          simp [this,e]
        · exact .inr ⟨k,c,e,z.sameBut hs (cne y c e)⟩
    · obtain ⟨w',z⟩:=I.cell y c e
      exact ⟨w',z.sameBut hs (cne y c e)⟩
    · obtain ⟨e,n,ne,nf,d⟩:=I.pin p hp
      exact ⟨(hs.2 p.1 ne).trans e,n,ne,nf,d⟩
  · have hfn:X.fn x=true:=by
      rcases hf with z | z
      · exact z
      · rw [z] at hk;cases hk
    obtain ⟨c,hc⟩:=I.ok.has x (.inl hk)
    obtain ⟨w',z⟩:=I.cell x c hc
    refine wpAny_storeName_cell I.ok.kind hk hc z (fun h' hc' hs=>?_)
    obtain ⟨oc,hoc,hocd⟩:=id z
    refine h { s with heap:=h' } ⟨I.ok,I.os,I.bare,⟨fun b o e n hb hx=>?_,fun b o e n hb hx=>?_,I.base.free,fun b o e hx=>?_,I.base.tups,I.base.frzs,I.base.tbls⟩,⟨m,hn.sameBut hs (Ne.symm (cne x c hc)),fun j y v' e1 e2 e3=>?_⟩,fun y c' e=>?_,I.free,I.freeC,fun p hp=>?_,tracked ⟨oc,hoc,I.freeC x c hc⟩ hs,by simpa using I.len,I.tab⟩ ⟨c,hs,.inr hc⟩
    · exact (hs.2 b (Nat.ne_of_lt (Nat.lt_of_lt_of_le (Heap.lt_size e) (I.ok.cab x c hfn hc)))).trans (I.base.keep b o e n hb hx)
    · obtain ⟨sl,e1⟩:=I.base.slot b o e n hb hx
      exact ⟨sl,(hs.2 b (Nat.ne_of_lt (Nat.lt_of_lt_of_le (Heap.lt_size e) (I.ok.cab x c hfn hc)))).trans e1⟩
    · obtain ⟨o',e1⟩:=I.base.there b o e hx
      exact ⟨o',(hs.2 b (Nat.ne_of_lt (Nat.lt_of_lt_of_le (Heap.lt_size e) (I.ok.cab x c hfn hc)))).trans e1⟩
    · by_cases hj:j=i
      · subst hj
        rw [hi] at e1;cases e1
        rw [List.getElem?_set_self hiσ] at e2
        cases e2
        exact ⟨u,r,.inr ⟨.inl hk,c,hc,hc'⟩⟩
      · rw [List.getElem?_set_ne (Ne.symm hj)] at e2
        obtain ⟨u',r',q⟩:=hl j y v' e1 e2 e3
        refine ⟨u',r',?_⟩
        rcases q with q | ⟨k,c',e,z'⟩
        · exact .inl q
        · refine .inr ⟨k,c',e,z'.sameBut hs ?_⟩
          rintro rfl
          exact hj (nodup_ix hN e1 (I.ok.inj _ _ _ e hc▸hi))
    · by_cases hcc:c'=c
      · subst hcc;exact ⟨_,hc'⟩
      · obtain ⟨w2,z2⟩:=I.cell y c' e
        exact ⟨w2,z2.sameBut hs hcc⟩
    · obtain ⟨e,n,ne,nf,d⟩:=I.pin p hp
      refine ⟨(hs.2 p.1 ?_).trans e,n,ne,nf,d⟩
      intro q
      rw [q,hoc] at e
      have q':oc=p.2:=Option.some.inj e
      exact d w' (by rw [←q'];exact hocd)
theorem store_ok {M:Model} {A:Around} {E:Value→Shared→Prop} {i:Nat} {x:Str} {v:V} {u:Value} {Q:Unit→Shared→Prop} (I:Inv X pins σ H s) (hN:X.N.Nodup) (hi:X.N[i]?=some x) (hx:Loc X.env.scope x) (r:RelV v u)
    (h:∀ s',Inv X pins (σ.set i (some v)) H s'→Q () s') (hf:X.fn x=true∨X.env.scope.names.lookup x=some .local:=by first | exact .inl rfl | exact .inr rfl | assumption):wpAny M A (storeName X.env x u) Q E s :=
  store_ok2 I hN hi hx r (fun s' I' _=>h s' I') hf
theorem Inv.call' {s':Shared} {ch:List Addr} (I:Inv X pins σ H s) (ho:s'.os=s.os) (u:Un (frs X.stack) ch H H' s.heap s'.heap) (hok:HOk X.prog X.w H' s'.heap) (hg:AllBare s'.gens)
    (hch:∀ b∈ch,(b∈X.ex∨X.s₀.heap.objs.size≤b)∧b≠X.env.locals∧(∀ x c,X.env.cells.lookup x=some c→c≠b)∧∀ p∈X.pn++pins,p.1≠b):Inv X pins σ H' s':=by
  obtain ⟨h',g',d',t',o'⟩:=s'
  have e:o'=s.os:=ho
  subst e
  exact I.call (g':=g') (t':=t') (d':=d') u hok hg hch
end
abbrev XK:=Value→Option Addr→Hp→Prop
abbrev St:=List (Option V)
abbrev VK:=V→Hp→Prop
abbrev TE:=St→Hp→VK→Prop
abbrev TT:=St→Hp→(Bool→Hp→Prop)→Prop
abbrev TA:=St→Hp→(List V→Hp→Prop)→Prop
structure Ends where
  nx:St→Hp→Prop
  rt:VK
  bk:St→Hp→Prop:=fun _ _=>False
  ct:St→Hp→Prop:=fun _ _=>False
abbrev TS:=Ends→St→Hp→Prop
def EP (X:Cx) (pins:List (Addr×Obj)) (σ:St) (Q:VK) (u:Value) (s':Shared):Prop:=∃ v H',Inv X pins σ H' s'∧RelV v u∧Q v H'
def TP (X:Cx) (pins:List (Addr×Obj)) (σ:St) (Q:Bool→Hp→Prop) (b:Bool) (s':Shared):Prop:=∃ H',Inv X pins σ H' s'∧Q b H'
def AP (X:Cx) (pins:List (Addr×Obj)) (σ:St) (Q:List V→Hp→Prop) (us:List Value) (s':Shared):Prop:=∃ vs H',Inv X pins σ H' s'∧Vals vs us∧Q vs H'
def SP (X:Cx) (pins:List (Addr×Obj)) (D:Ends) (f:Flow) (s':Shared):Prop :=
  match f with
  | .next=>∃ σ' H',Inv X pins σ' H' s'∧D.nx σ' H'
  | .brk=>∃ σ' H',Inv X pins σ' H' s'∧D.bk σ' H'
  | .cont=>∃ σ' H',Inv X pins σ' H' s'∧D.ct σ' H'
  | .ret u=>∃ v σ' H',Inv X pins σ' H' s'∧RelV v u∧D.rt v H'
def PE (X:Cx) (e:Expr) (t:TE):Prop :=
  ∀ (pins:List (Addr×Obj)) (s:Shared) (σ:St) (H:Hp) (Q:VK),Inv X pins σ H s→t σ H Q→wpAny (model X.prog X.w) X.A (eval e X.env) (EP X pins σ Q) X.xe s
def PT (X:Cx) (e:Expr) (t:TT):Prop :=
  ∀ (pins:List (Addr×Obj)) (s:Shared) (σ:St) (H:Hp) (Q:Bool→Hp→Prop),Inv X pins σ H s→t σ H Q→wpAny (model X.prog X.w) X.A (isTrue e X.env (eval e X.env)) (TP X pins σ Q) X.xe s
def PW (X:Cx) (e:Expr) (t:TT):Prop :=
  ∀ (whole:Sem Value) (pins:List (Addr×Obj)) (s:Shared) (σ:St) (H:Hp) (Q:Bool→Hp→Prop),Inv X pins σ H s→t σ H Q→wpAny (model X.prog X.w) X.A (isTrue e X.env whole) (TP X pins σ Q) X.xe s
theorem PW.pt {X:Cx} {e:Expr} {t:TT} (h:PW X e t):PT X e t:=h _
def PA (X:Cx) (es:List Expr) (t:TA):Prop :=
  ∀ (pos:Pos) (pins:List (Addr×Obj)) (s:Shared) (σ:St) (H:Hp) (Q:List V→Hp→Prop),Inv X pins σ H s→t σ H Q→wpAny (model X.prog X.w) X.A (spliced (backTo pos (starEach es X.env))) (AP X pins σ Q) X.xe s
def PS (X:Cx) (st:Stmt) (t:TS):Prop :=
  ∀ (pins:List (Addr×Obj)) (s:Shared) (σ:St) (H:Hp) (D:Ends),Inv X pins σ H s→t D σ H→wpAny (model X.prog X.w) X.A (exec st X.env) (SP X pins D) X.xe s
def PSs (X:Cx) (st:List Stmt) (t:TS):Prop :=
  ∀ (pins:List (Addr×Obj)) (s:Shared) (σ:St) (H:Hp) (D:Ends),Inv X pins σ H s→t D σ H→wpAny (model X.prog X.w) X.A (execs st X.env) (SP X pins D) X.xe s
theorem thn {α:Type} {t:Sem α} {Q Q':α→Shared→Prop} {M:Model} {A:Around} {E:Value→Shared→Prop} {s:Shared} (h:wpAny M A t Q E s) (hQ:∀ a s,Q a s→Q' a s):wpAny M A t Q' E s:=wpAny_mono h hQ fun _ _ x=>x
end L2
namespace L2
open PySem PySem.Spec PyProof.Rows
section
variable {X:Cx}
def tVar (i:Nat):TE:=fun σ H Q=>∃ v,σ[i]?=some (some v)∧Q v H
def tC (v:V):TE:=fun _ H Q=>Q v H
theorem pe_var {i:Nat} {x:Str} {pos:Pos} (hN:X.N[i]?=some x) (hv:Vis X.env.scope x) (hd:(x==("__debug__" : Str))=false:=by decide) (hcd:(x==("__classdict__" : Str))=false:=by decide):PE X (.Name x pos) (tVar i):=by
  intro pins s σ H Q I h
  obtain ⟨v,e,h⟩:=h
  obtain ⟨m,hn,hl⟩:=I.loc
  obtain ⟨u,r,l⟩:=hl i x v hN e hv
  have fin:EP X pins σ Q u s:=⟨v,H,I,r,h⟩
  rcases l with ⟨hk,hm⟩ | ⟨hk,c,hc,hcell⟩
  · exact wpAny_Name (wpAny_loadName_local I.ok.kind hk hn hm fin) hd
  · rcases hk with hk | hk
    · exact wpAny_Name (wpAny_loadName_cell I.ok.kind hk hc hcell fin) hd
    · exact wpAny_Name (wpAny_loadName_free I.ok.kind hk hc hcell fin hcd) hd
theorem pe_int {i j pos}:PE X (.Constant (.int i) j pos) (tC (.int i)):=fun _ _ _ H _ I h=>wpAny_Constant_int ⟨.int i,H,I.tok _,⟨_,rfl⟩,h⟩
theorem pe_bl {b j pos}:PE X (.Constant (.bool b) j pos) (tC (.bl b)):=fun _ _ _ H _ I h=>Constant_bool ⟨.bl b,H,I,rfl,h⟩
theorem pe_non {j pos}:PE X (.Constant .none j pos) (tC .non):=fun _ _ _ H _ I h=>Constant_none ⟨.non,H,I,rfl,h⟩
theorem pe_str {x j pos}:PE X (.Constant (.str x) j pos) (tC (.str x)):=fun _ _ _ H _ I h=>Calls.Constant_str ⟨.str x,H,I.tok _,⟨_,rfl⟩,h⟩
def Gl (X:Cx) (x:Str):Prop:=X.env.kindOf x=some .globalImplicit
theorem ld_glob {E:Value→Shared→Prop} {pins:List (Addr×Obj)} {s:Shared} {σ:St} {H:Hp} {x:Str} {u:Value} {pos:Pos} {Q:Value→Shared→Prop} (I:Inv X pins σ H s) (hg:Gl X x) (hm:X.mg x=some u) (h:Q u s)
    (hd:(x==("__debug__" : Str))=false:=by decide):wpAny (model X.prog X.w) X.A (eval (.Name x pos) X.env) Q E s :=
  Calls.Name_function_global I.ok.kind hg (Calls.loadGlobal_global (by rw [I.ok.glob];exact I.mod.glob.keeps I.bk) hm h) hd
theorem ld_blt {E:Value→Shared→Prop} {pins:List (Addr×Obj)} {s:Shared} {σ:St} {H:Hp} {x:Str} {u:Value} {pos:Pos} {Q:Value→Shared→Prop} (I:Inv X pins σ H s) (hg:Gl X x) (hm:X.mg x=none) (hv:bootBuiltins x=some u) (h:Q u s)
    (hn:x ≠ "__name__" := by decide) (hd:(x==("__debug__" : Str))=false:=by decide):wpAny (model X.prog X.w) X.A (eval (.Name x pos) X.env) Q E s:=by
  obtain ⟨mb,h1,h2⟩:=I.mod.blt
  exact Calls.Name_function_global I.ok.kind hg (Calls.loadGlobal_builtin (by rw [I.ok.glob];exact I.mod.glob.keeps I.bk) hm (by rw [I.ok.blt];exact h1.keeps I.bk) ((h2 x hn).trans hv) h) hd
theorem pe_glob {x:Str} {v:V} {u:Value} {pos:Pos} (hg:Gl X x) (hm:X.mg x=some u) (r:RelV v u) (hd:(x==("__debug__" : Str))=false:=by decide):PE X (.Name x pos) (tC v) :=
  fun _ _ _ H _ I h=>ld_glob I hg hm ⟨v,H,I,r,h⟩ hd
theorem pe_bltn {x:Str} {v:V} {u:Value} {pos:Pos} (hg:Gl X x) (hm:X.mg x=none) (hv:bootBuiltins x=some u) (r:RelV v u) (hn:x ≠ "__name__" := by decide) (hd:(x==("__debug__" : Str))=false:=by decide):PE X (.Name x pos) (tC v) :=
  fun _ _ _ H _ I h=>ld_blt I hg hm hv ⟨v,H,I,r,h⟩ hn hd
variable {a b:Expr} {ta tb:TE} {pos:Pos}
def tB (t:TE):TT:=fun σ H Q=>t σ H fun x H1=>∃ c,x=.bl c∧Q c H1
theorem pt_val {e:Expr} {t:TE} (h:PE X e t) (he:∀ whole,isTrue e X.env whole=(do let v ←whole;standAt e.pos;holding [v] (truthy v)):=by intro _;rfl):PT X e (tB t):=by
  intro pins s σ H Q I hw
  refine isTrue_plain (thn (h pins s σ H _ I hw) fun v s1 ⟨x,H1,I1,r1,q1⟩=>?_) (he _)
  obtain ⟨d,rfl,q⟩:=q1
  cases r1
  exact wpAny_truthy_bool ⟨H1,I1,q⟩
variable {tA tB':TT} {rest:List Expr}
def tAnd (t u:TT):TT:=fun σ H Q=>t σ H fun c H1=>if c=true then u σ H1 Q else Q false H1
def tOr (t u:TT):TT:=fun σ H Q=>t σ H fun c H1=>if c=true then Q true H1 else u σ H1 Q
def tNot (t:TT):TT:=fun σ H Q=>t σ H fun c H1=>Q (!c) H1
theorem pw_and1 (ha:PT X a tA):PW X (.BoolOp .And [a] pos) tA:=by
  intro wh pins s σ H Q I h
  refine isTrue_and (thn (ha pins s σ H Q I h) fun c s1 e=>?_)
  cases c with
  | true=>exact isTrue_and_nil e
  | false=>exact e
theorem pw_or1 (ha:PT X a tA):PW X (.BoolOp .Or [a] pos) tA:=by
  intro wh pins s σ H Q I h
  refine isTrue_or (thn (ha pins s σ H Q I h) fun c s1 e=>?_)
  cases c with
  | false=>exact isTrue_or_nil e
  | true=>exact e
theorem pw_and (ha:PT X a tA) (hb:PW X (.BoolOp .And (b :: rest) pos) tB'):PW X (.BoolOp .And (a :: b :: rest) pos) (tAnd tA tB'):=by
  intro wh pins s σ H Q I h
  refine isTrue_and (thn (ha pins s σ H _ I h) fun c s1 ⟨H1,I1,q1⟩=>?_)
  cases c with
  | true=>exact hb wh pins s1 σ H1 Q I1 q1
  | false=>exact ⟨H1,I1,q1⟩
theorem pw_or (ha:PT X a tA) (hb:PW X (.BoolOp .Or (b :: rest) pos) tB'):PW X (.BoolOp .Or (a :: b :: rest) pos) (tOr tA tB'):=by
  intro wh pins s σ H Q I h
  refine isTrue_or (thn (ha pins s σ H _ I h) fun c s1 ⟨H1,I1,q1⟩=>?_)
  cases c with
  | true=>exact ⟨H1,I1,q1⟩
  | false=>exact hb wh pins s1 σ H1 Q I1 q1
theorem pt_not (ha:PT X a tA):PT X (.UnaryOp .Not a pos) (tNot tA):=by
  intro pins s σ H Q I h
  exact isTrue_not (ha pins s σ H (fun c H1=>Q (!c) H1) I h)
def tAndV (ta tb:TE):TE:=fun σ H Q=>ta σ H fun x H1=>∃ c,x=.bl c∧if c=true then tb σ H1 Q else Q (.bl false) H1
def tOrV (ta tb:TE):TE:=fun σ H Q=>ta σ H fun x H1=>∃ c,x=.bl c∧if c=true then Q (.bl true) H1 else tb σ H1 Q
def tNotV (ta:TE):TE:=fun σ H Q=>ta σ H fun x H1=>∃ c,x=.bl c∧Q (.bl (!c)) H1
theorem pe_one {op} {t:TE} (h:PE X a t):PE X (.BoolOp op [a] pos) t:=fun pins s σ H Q I hw=>BoolOp_one (h pins s σ H Q I hw)
theorem pe_and (ha:PE X a ta) (hb:PE X (.BoolOp .And (b :: rest) pos) tb):PE X (.BoolOp .And (a :: b :: rest) pos) (tAndV ta tb):=by
  intro pins s σ H Q I h
  refine BoolOp_and (thn (ha pins s σ H _ I h) fun v s1 ⟨x,H1,I1,r1,q1⟩=>?_)
  obtain ⟨c,rfl,q1⟩:=q1
  cases r1
  refine wpAny_truthy_bool ?_
  cases c with
  | true=>exact hb pins s1 σ H1 Q I1 q1
  | false=>exact ⟨.bl false,H1,I1,rfl,q1⟩
theorem pe_or (ha:PE X a ta) (hb:PE X (.BoolOp .Or (b :: rest) pos) tb):PE X (.BoolOp .Or (a :: b :: rest) pos) (tOrV ta tb):=by
  intro pins s σ H Q I h
  refine BoolOp_or (thn (ha pins s σ H _ I h) fun v s1 ⟨x,H1,I1,r1,q1⟩=>?_)
  obtain ⟨c,rfl,q1⟩:=q1
  cases r1
  refine wpAny_truthy_bool ?_
  cases c with
  | false=>exact hb pins s1 σ H1 Q I1 q1
  | true=>exact ⟨.bl true,H1,I1,rfl,q1⟩
theorem pe_not (ha:PE X a ta):PE X (.UnaryOp .Not a pos) (tNotV ta):=by
  intro pins s σ H Q I h
  refine UnaryOp_ (thn (ha pins s σ H _ I h) fun v s1 ⟨x,H1,I1,r1,q1⟩=>?_)
  obtain ⟨c,rfl,q1⟩:=q1
  cases r1
  exact not_of (wpAny_truthy_bool ⟨.bl (!c),H1,I1,rfl,q1⟩)
end
end L2
namespace L2
open PySem PySem.Spec PyProof.Rows
def SqL (K:PySem.W.Frag) (H:Hp) (a:Addr) (xs:List V):Prop :=
  Rd H a (.lst xs) ∨
    ∃ (o:Obj) (its:Array Value) (n:Nat),K.lookup a=some o∧o.cls=.type "list" ∧ o.dict=none∧o.data=.seq its n∧its.size≤sizeLine∧Vals xs its.toList
def SqT (K:PySem.W.Frag) (H:Hp) (a:Addr) (xs:List V):Prop :=
  Rd H a (.tup xs) ∨
    ∃ (o:Obj) (its:Array Value) (n:Nat),K.lookup a=some o∧o.cls=.type "tuple" ∧ o.data=.seq its n∧its.size≤sizeLine∧Vals xs its.toList
def absV:Value→Option V
  | .none=>some .non
  | .bool b=>some (.bl b)
  | .int i _=>some (.int i)
  | .str x _=>some (.str x)
  | .bytes b _=>some (.byt b)
  | .float b _=>some (.flt b)
  | .ref a=>some (.ref a)
  | .type n=>some (.ty n)
  | _=>none
theorem RelV.abs {x:V} {u:Value} (r:RelV x u):absV u=some x:=by
  cases x with
  | non=>cases r;rfl
  | bl _=>cases r;rfl
  | int _=>obtain ⟨t,rfl⟩:=r;rfl
  | str _=>obtain ⟨t,rfl⟩:=r;rfl
  | byt _=>obtain ⟨t,rfl⟩:=r;rfl
  | flt _=>obtain ⟨t,rfl⟩:=r;rfl
  | ref _=>cases r;rfl
  | ty _=>cases r;rfl
theorem RelV.inj {x y:V} {u:Value} (r:RelV x u) (q:RelV y u):x=y:=Option.some.inj (r.abs.symm.trans q.abs)
theorem Vals.inj:∀ {xs ys:List V} {us:List Value},Vals xs us→Vals ys us→xs=ys
  | _,_,_,.nil,.nil=>rfl
  | _,_,_,.cons r t,.cons r' t'=>by rw [r.inj r',Vals.inj t t']
section
variable {X:Cx} {pins:List (Addr×Obj)} {σ:St} {H:Hp} {s:Shared} {a:Addr} {xs ys:List V}
theorem SqL.of {K:PySem.W.Frag} (h:H a=some (.lst xs)):SqL K H a xs:=.inl (.inl h)
theorem SqT.of {K:PySem.W.Frag} (h:H a=some (.tup xs)):SqT K H a xs:=.inl (.inl h)
theorem Inv.list (I:Inv X pins σ H s) (h:SqL X.K H a xs):∃ its:List Value,Vals xs its∧PlainL s.heap a its.toArray∧xs.length≤sizeLine:=by
  rcases h with h | ⟨o,its,n,hk,hc,hd,hs,hz,r⟩
  · obtain ⟨z,its,n,r,e⟩:=h.ok I.hok
    exact ⟨its,r,⟨_,n,e,rfl,rfl,rfl⟩,z⟩
  · refine ⟨its.toList,r,⟨o,n,I.kIn a o hk,hc,hd,by simpa using hs⟩,?_⟩
    have e:=r.length
    simp only [Array.length_toList] at e
    lia
theorem Inv.tuple (I:Inv X pins σ H s) (h:SqT X.K H a xs):∃ its:List Value,Vals xs its∧IsTup s.heap a its.toArray∧xs.length≤sizeLine:=by
  rcases h with h | ⟨o,its,n,hk,hc,hs,hz,r⟩
  · obtain ⟨z,its,r,p⟩:=h.ok I.hok
    exact ⟨its,r,p,z⟩
  · refine ⟨its.toList,r,⟨o,I.kIn a o hk,hc,n,by simpa using hs⟩,?_⟩
    have e:=r.length
    simp only [Array.length_toList] at e
    lia
theorem Inv.list_inj (I:Inv X pins σ H s) (h:SqL X.K H a xs) (h':SqL X.K H a ys):xs=ys:=by
  obtain ⟨its,r,⟨o,n,e,_,_,d⟩,_⟩:=I.list h
  obtain ⟨its',r',⟨o',n',e',_,_,d'⟩,_⟩:=I.list h'
  rw [e] at e';cases e'
  rw [d] at d'
  injection d' with d1 _
  have:its=its':=by simpa using congrArg Array.toList d1
  subst this
  exact r.inj r'
theorem Inv.tuple_inj (I:Inv X pins σ H s) (h:SqT X.K H a xs) (h':SqT X.K H a ys):xs=ys:=by
  obtain ⟨its,r,⟨o,e,_,n,d⟩,_⟩:=I.tuple h
  obtain ⟨its',r',⟨o',e',_,n',d'⟩,_⟩:=I.tuple h'
  rw [e] at e';cases e'
  rw [d] at d'
  injection d' with d1 _
  have:its=its':=by simpa using congrArg Array.toList d1
  subst this
  exact r.inj r'
end
abbrev Cx.wish (X:Cx) (E:Value→Shared→Prop):Cx:={ X with xe:=E }
abbrev Cx.nox (X:Cx):Cx:=X.wish fun _ _=>False
theorem Cx.Ok.wish {X:Cx} (ok:X.Ok) (E:Value→Shared→Prop):(X.wish E).Ok :=
  ⟨ok.mod,ok.kind,ok.glob,ok.blt,ok.above,ok.inj,ok.has,ok.cab,ok.hd,ok.frames,ok.stk,ok.exf,ok.bs,ok.bsz,ok.noex,ok.exfs,ok.funs,ok.frf⟩
theorem Cx.Ok.unwish {X:Cx} {E:Value→Shared→Prop} (ok:(X.wish E).Ok):X.Ok :=
  ⟨ok.mod,ok.kind,ok.glob,ok.blt,ok.above,ok.inj,ok.has,ok.cab,ok.hd,ok.frames,ok.stk,ok.exf,ok.bs,ok.bsz,ok.noex,ok.exfs,ok.funs,ok.frf⟩
section
variable {X:Cx} {pins:List (Addr×Obj)} {σ:St} {H:Hp} {s:Shared} {E:Value→Shared→Prop}
theorem Inv.wish (I:Inv X pins σ H s) (E:Value→Shared→Prop):Inv (X.wish E) pins σ H s:=⟨I.ok.wish E,I.os,I.bare,I.base,I.loc,I.cell,I.free,I.freeC,I.pin,I.hok,I.len,I.tab⟩
theorem Inv.unwish (I:Inv (X.wish E) pins σ H s):Inv X pins σ H s:=⟨I.ok.unwish,I.os,I.bare,I.base,I.loc,I.cell,I.free,I.freeC,I.pin,I.hok,I.len,I.tab⟩
theorem SP.unwish {D:Ends} {f:Flow} {s':Shared} (h:SP (X.wish E) pins D f s'):SP X pins D f s':=by
  cases f with
  | next=>obtain ⟨σ',H',I,q⟩:=h;exact ⟨σ',H',I.unwish,q⟩
  | brk=>obtain ⟨σ',H',I,q⟩:=h;exact ⟨σ',H',I.unwish,q⟩
  | cont=>obtain ⟨σ',H',I,q⟩:=h;exact ⟨σ',H',I.unwish,q⟩
  | ret u=>obtain ⟨v,σ',H',I,r,q⟩:=h;exact ⟨v,σ',H',I.unwish,r,q⟩
theorem PE.nox {e:Expr} {t:TE} (h:PE X.nox e t):PE X e t:=fun pins s σ H Q I hw =>
  wpAny_mono (h pins s σ H Q (I.wish _) hw) (fun _ _ ⟨v,H',I',r,q⟩=>⟨v,H',I'.unwish,r,q⟩) fun _ _ z=>False.elim z
theorem PT.nox {e:Expr} {t:TT} (h:PT X.nox e t):PT X e t:=fun pins s σ H Q I hw =>
  wpAny_mono (h pins s σ H Q (I.wish _) hw) (fun _ _ ⟨H',I',q⟩=>⟨H',I'.unwish,q⟩) fun _ _ z=>False.elim z
theorem PSs.nox {st:List Stmt} {t:TS} (h:PSs X.nox st t):PSs X st t:=fun pins s σ H D I hw =>
  wpAny_mono (h pins s σ H D (I.wish _) hw) (fun _ _ q=>q.unwish) fun _ _ z=>False.elim z
end
section
variable {X:Cx} {st:Stmt} {rest:List Stmt} {t u:TS} {e:Expr} {te:TE} {pos:Pos}
def tNext:TS:=fun D σ H=>D.nx σ H
def tSeq (t u:TS):TS:=fun D σ H=>t { D with nx:=u D } σ H
theorem pss_nil:PSs X [] tNext:=fun _ _ σ H _ I h=>wpAny_execs_nil ⟨σ,H,I,h⟩
theorem pss_cons (h1:PS X st t) (h2:PSs X rest u):PSs X (st :: rest) (tSeq t u):=by
  intro pins s σ H D I h
  refine wpAny_execs_cons (thn (h1 pins s σ H { D with nx:=u D } I h) fun f s1 q=>?_)
  cases f with
  | next =>
    obtain ⟨σ',H',I',q⟩:=q
    exact h2 pins s1 σ' H' D I' q
  | ret v=>exact q
  | brk=>exact q
  | cont=>exact q
theorem pss_one (h1:PS X st t):PSs X [st] t:=by
  intro pins s σ H D I h
  refine wpAny_execs_cons (thn (h1 pins s σ H D I h) fun f s1 q=>?_)
  cases f with
  | next=>exact wpAny_execs_nil q
  | ret v=>exact q
  | brk=>exact q
  | cont=>exact q
theorem Inv.quiet {pins:List (Addr×Obj)} {σ:St} {H:Hp} {s:Shared} (I:Inv X pins σ H s):interactive X.env=false:=by simp [interactive,I.ok.kind]
def tDrop (te:TE):TS:=fun D σ H=>te σ H fun _ H1=>D.nx σ H1
theorem ps_expr (he:PE X e te) (hs:swapsWith e none pos.line X.env=pure false:=by rfl):PS X (.Expr e pos) (tDrop te):=by
  intro pins s σ H D I h
  exact wpAny_Expr_any (thn (he pins s σ H _ I h) fun v s1 ⟨x,H1,I1,r1,q1⟩=>⟨σ,H1,I1,q1⟩) I.quiet hs
def tRet (te:TE):TS:=fun D σ H=>te σ H D.rt
theorem ps_ret (he:PE X e te):PS X (.Return (some e) pos) (tRet te):=by
  intro pins s σ H D I h
  exact wpAny_Return_some (thn (he pins s σ H _ I h) fun v s1 ⟨x,H1,I1,r1,q1⟩=>⟨x,σ,H1,I1,r1,q1⟩)
def tIfS (c:TT) (t u:TS):TS:=fun D σ H=>c σ H fun b H1=>if b=true then t D σ H1 else u D σ H1
theorem ps_if {c:Expr} {a b:List Stmt} {tc:TT} (hc:PT X c tc) (ha:PSs X a t) (hb:PSs X b u):PS X (.If c a b pos) (tIfS tc t u):=by
  intro pins s σ H D I h
  refine wpAny_If (thn (hc pins s σ H _ I h) fun d s1 ⟨H1,I1,q1⟩=>?_)
  cases d with
  | true=>exact ha pins s1 σ H1 D I1 q1
  | false=>exact hb pins s1 σ H1 D I1 q1
end
abbrev TG:=V→St→Hp→(St→Hp→Prop)→Prop
abbrev TGs:=List V→St→Hp→(St→Hp→Prop)→Prop
def PG (X:Cx) (target:Expr) (t:TG):Prop :=
  ∀ (pins:List (Addr×Obj)) (s:Shared) (σ:St) (H:Hp) (v:V) (u:Value) (Q:St→Hp→Prop),Inv X pins σ H s→RelV v u→t v σ H Q →
    wpAny (model X.prog X.w) X.A (assign target X.env u) (fun _ s'=>∃ σ' H',Inv X pins σ' H' s'∧Q σ' H') X.xe s
def PGs (X:Cx) (ts:List Expr) (t:TGs):Prop :=
  ∀ (pins:List (Addr×Obj)) (s:Shared) (σ:St) (H:Hp) (vs:List V) (us:List Value) (Q:St→Hp→Prop),Inv X pins σ H s→Vals vs us→t vs σ H Q →
    wpAny (model X.prog X.w) X.A (assignInOrder ((assignEach ts X.env).map (·.2)) us) (fun _ s'=>∃ σ' H',Inv X pins σ' H' s'∧Q σ' H') X.xe s
abbrev TIp:=V→V→Hp→VK→Prop
def PIp (X:Cx) (op:Operator) (t:TIp):Prop :=
  ∀ (pins:List (Addr×Obj)) (s:Shared) (σ:St) (H:Hp) (x y:V) (v u:Value) (Q:VK),Inv X pins σ H s→RelV x v→RelV y u→t x y H Q →
    wpAny (model X.prog X.w) X.A (inplaceOp op v u) (EP X pins σ Q) X.xe s
section
variable {X:Cx} {pos:Pos}
def gName (i:Nat):TG:=fun v σ H Q=>Q (σ.set i (some v)) H
theorem pg_name {i:Nat} {x:Str} (hN:X.N.Nodup) (hi:X.N[i]?=some x) (hx:Loc X.env.scope x) (hf:X.fn x=true∨X.env.scope.names.lookup x=some .local:=by first | exact .inl rfl | exact .inr rfl | assumption):PG X (.Name x pos) (gName i):=by
  intro pins s σ H v u Q I r h
  exact wpAny_assign_Name (store_ok I hN hi hx r (fun s' I'=>⟨_,H,I',h⟩) hf)
def gNil:TGs:=fun vs σ H Q=>vs=[]∧Q σ H
def gCons (t:TG) (u:TGs):TGs:=fun vs σ H Q=>∃ v r,vs=v :: r∧t v σ H fun σ' H'=>u r σ' H' Q
theorem pgs_nil:PGs X [] gNil:=by
  intro pins s σ H vs us Q I r h
  obtain ⟨e,h⟩:=h
  subst e
  cases r
  exact assignInOrder_nil ⟨σ,H,I,h⟩
theorem pgs_cons {e:Expr} {es:List Expr} {t:TG} {u:TGs} (h1:PG X e t) (h2:PGs X es u)
    (hs:(assignEach (e :: es) X.env).map (·.2)=assign e X.env :: (assignEach es X.env).map (·.2):=by rfl):PGs X (e :: es) (gCons t u):=by
  intro pins s σ H vs us Q I r h
  obtain ⟨v,vr,e1,h⟩:=h
  subst e1
  cases r with
  | cons r rr =>
    rw [hs]
    refine assignInOrder_cons (thn (h1 pins s σ H _ _ _ I r h) fun _ s1 ⟨σ1,H1,I1,q1⟩=>?_)
    exact h2 pins s1 σ1 H1 _ _ Q I1 rr q1
def gTup (K:PySem.W.Frag) (n:Nat) (t:TGs):TG:=fun v σ H Q=>∃ a xs,v=.ref a∧SqT K H a xs∧xs.length=n∧t xs σ H Q
theorem pg_tup {es:List Expr} {k:Nat} {t:TGs} {n:Nat} (hc:X.calm=true) (h:PGs X es t)
    (hn:(assignEach es X.env).length=n:=by rfl) (hst:(assignEach es X.env).findIdx? (·.1)=none:=by rfl):PG X (.Tuple es k pos) (gTup X.K n t):=by
  intro pins s σ H v u Q I r hw
  obtain ⟨a,xs,e1,hq,hl,hw⟩:=hw
  subst e1
  cases r
  obtain ⟨its,rv,ht,hz⟩:=I.tuple hq
  refine assign_Tuple_tuple (I.ok.hd hc) ht (by simp [hn,←hl,rv.length]) hst fun h' hx=>?_
  have I1:Inv X pins σ H { s with heap:=h' }:=I.kept (t':=s.toks) fun b o e=>hx b o (Nat.ne_of_lt (Heap.lt_size e)) e
  exact h pins _ σ H xs _ Q I1 (by simpa using rv) hw
def tAsg (te:TE) (g:TG):TS:=fun D σ H=>te σ H fun x H1=>g x σ H1 D.nx
theorem ps_asg {tg e:Expr} {te:TE} {g:TG} (he:PE X e te) (hg:PG X tg g) (hs:swapsWithSole [tg] e pos.line X.env=pure false:=by rfl) (hw:swappedStores [tg] e X.env=pure none:=by rfl)
    (h1:(assignEach [tg] X.env).map (·.2)=[assign tg X.env]:=by rfl):PS X (.Assign [tg] e pos) (tAsg te g):=by
  intro pins s σ H D I h
  refine wpAny_Assign_stores (thn (he pins s σ H _ I h) fun v s1 ⟨x,H1,I1,r1,q1⟩=>?_) hs hw
  rw [h1]
  exact thn (hg pins s1 σ H1 x v _ I1 r1 q1) fun _ s2 q=>q
theorem ps_set {i:Nat} {x:Str} {e:Expr} {te:TE} {pos':Pos} (hN:X.N.Nodup) (hi:X.N[i]?=some x) (hx:Loc X.env.scope x) (he:PE X e te) (hs:swapsWith e (some (.Name x pos')) pos.line X.env=pure false:=by rfl) (hf:X.fn x=true∨X.env.scope.names.lookup x=some .local:=by first | exact .inl rfl | exact .inr rfl | assumption) :
    PS X (.Assign [.Name x pos'] e pos) (tAsg te (gName i)):=by
  intro pins s σ H D I h
  refine wpAny_Assign_Name (thn (he pins s σ H _ I h) fun v s1 ⟨y,H1,I1,r1,q1⟩=>?_) hs
  exact store_ok I1 hN hi hx r1 (fun s2 I2=>⟨_,H1,I2,q1⟩) hf
def tAug (i:Nat) (te:TE) (ti:TIp):TS:=fun D σ H=>∃ x,σ[i]?=some (some x)∧te σ H fun y H1=>ti x y H1 fun z H2=>D.nx (σ.set i (some z)) H2
theorem ps_aug {i : Nat} {x : Str} {e : Expr} {te : TE} {op : Operator} {ti : TIp} {pos' : Pos} (hN : X.N.Nodup) (hi : X.N[i]? = some x) (hx : Loc X.env.scope x) (he : PE X e te) (ho : PIp X op ti) (hf : X.fn x = true ∨ X.env.scope.names.lookup x = some .local := by first | exact .inl rfl | exact .inr rfl | assumption) :
    PS X (.AugAssign (.Name x pos') op e pos) (tAug i te ti):=by
  intro pins s σ H D I h
  obtain ⟨v,e1,h⟩:=h
  obtain ⟨m,hn,hl⟩:=I.loc
  have vis:Vis X.env.scope x:=by rcases hx with k | k;exact .inl k;exact .inr (.inl k)
  obtain ⟨u,r,l⟩:=hl i x v hi e1 vis
  refine wpAny_AugAssign_Name ?_
  have go:wpAny (model X.prog X.w) X.A (eval e X.env) (fun w s₂=>wpAny (model X.prog X.w) X.A (inplaceOp op u w) (fun r s₃=>wpAny (model X.prog X.w) X.A (storeName X.env x r) (fun _=>SP X pins D .next) X.xe s₃) X.xe s₂) X.xe s:=by
    refine thn (he pins s σ H _ I h) fun w s1 ⟨y,H1,I1,r1,q1⟩=>?_
    refine thn (ho pins s1 σ H1 v y u w _ I1 r r1 q1) fun z s2 ⟨zv,H2,I2,r2,q2⟩=>?_
    exact store_ok I2 hN hi hx r2 (fun s3 I3=>⟨_,H2,I3,q2⟩) hf
  rcases l with ⟨hk,hm⟩ | ⟨hk,c,hc,hcell⟩
  · exact wpAny_loadName_local I.ok.kind hk hn hm go
  · rcases hk with hk | hk
    · exact wpAny_loadName_cell I.ok.kind hk hc hcell go
    · rcases hx with k | k
      · have:X.env.scope.names.lookup x=some .free:=hk
        rw [k] at this;cases this
      · have:X.env.scope.names.lookup x=some .free:=hk
        rw [k] at this;cases this
end
section
variable {X:Cx} {pos:Pos}
def tWhile (c:TT) (tb:TS):TS:=fun D σ H=>∃ W:Nat→St→Hp→Prop,(∃ m,W m σ H)∧∀ m σ H,W m σ H →
  c σ H fun b H1=>if b=true then ∃ N:St→Hp→Prop,(∀ σ' H',N σ' H'→∃ m',m' < m∧W m' σ' H')∧tb { D with nx:=N,ct:=N,bk:=D.nx } σ H1 else D.nx σ H1
theorem ps_while {c:Expr} {body:List Stmt} {tc:TT} {tb:TS} (hp:PassesOwn (model X.prog X.w) X.A X.env X.xe) (hc:PT X c tc) (hb:PSs X body tb):PS X (.While c body [] pos) (tWhile tc tb):=by
  intro pins s σ H D I h
  obtain ⟨W,⟨m0,w0⟩,turn⟩:=h
  refine wpAny_While (codeAny_whileLoop (fun n s'=>∃ σ' H',Inv X pins σ' H' s'∧W n σ' H') ?_ m0 ⟨σ,H,I,w0⟩)
  rintro n s1 ⟨σ1,H1,I1,w1⟩
  refine wpAny_passesOwn hp (thn (hc pins s1 σ1 H1 _ I1 (turn n σ1 H1 w1)) fun b s2 ⟨H2,I2,q2⟩=>?_)
  cases b with
  | true =>
    obtain ⟨N,hN,q2⟩:=q2
    rw [if_pos rfl]
    refine wpAny_passesOwn hp (thn (hb pins s2 σ1 H2 _ I2 q2) fun f s3 q3=>?_)
    cases f with
    | next =>
      obtain ⟨σ3,H3,I3,n3⟩:=q3
      obtain ⟨m',hm,w3⟩:=hN σ3 H3 n3
      exact ⟨m',hm,σ3,H3,I3,w3⟩
    | cont =>
      obtain ⟨σ3,H3,I3,n3⟩:=q3
      obtain ⟨m',hm,w3⟩:=hN σ3 H3 n3
      exact ⟨m',hm,σ3,H3,I3,w3⟩
    | brk=>exact q3
    | ret v=>exact q3
  | false =>
    rw [if_neg Bool.false_ne_true]
    exact wpAny_execs_nil ⟨σ1,H2,I2,q2⟩
end
structure It where
  go:Nat→Hp→Prop
  yld:Nat→Hp→V→Hp→Prop
  stop:Nat→Hp→Prop
def FpOk (X:Cx) (pins:List (Addr×Obj)) (H:Hp) (b:Addr):Prop :=
  H b=none∧b≠X.env.locals∧b∉X.fs∧(b∈X.ex∨X.s₀.heap.objs.size≤b)∧(∀ x c,X.env.cells.lookup x=some c→c≠b)∧∀ p∈X.pn++pins,p.1≠b
theorem Inv.fpOk {X:Cx} {pins:List (Addr×Obj)} {σ:St} {H H':Hp} {s:Shared} {b:Addr} (I:Inv X pins σ H s) (hb:s.heap.objs.size≤b) (hn:H' b=none):FpOk X pins H' b:=by
  refine ⟨hn,Nat.ne_of_gt (Nat.lt_of_lt_of_le I.lt hb),I.nofs hb,.inr (Nat.le_trans I.sz hb),fun x c e z=>?_,fun p hp z=>?_⟩
  · obtain ⟨v,q⟩:=I.cell x c e
    exact absurd (Nat.lt_of_lt_of_le q.lt (by rw [z];exact hb)) (Nat.lt_irrefl _)
  · exact absurd (Nat.lt_of_lt_of_le (Heap.lt_size (I.pin p hp).1) (by rw [z];exact hb)) (Nat.lt_irrefl _)
structure Turn (P:Program) (w:World) (K:PySem.W.Frag) (tg:Expr) (J:It) (fp:List Addr) (it:Addr) (tn:Nat→Heap→Prop):Prop where
  mem:it∈fp
  obj:∀ i h,tn i h→∀ b∈fp,∃ o,h.get? b=some o∧∀ v,o.data≠.cell v
  keep:∀ i h h',tn i h→(∀ b∈fp,∀ o,h.get? b=some o→h'.get? b=some o)→tn i h'
  item:∀ (X:Cx),X.prog=P→X.w=w→X.K=K→X.calm=true→∀ (i:Nat) (pins:List (Addr×Obj)) (s:Shared) (σ:St) (H:Hp) (E:Value→Shared→Prop),Inv X pins σ H s→(∀ b∈fp,FpOk X pins H b)→tn i s.heap→J.go i H →
    wpAny (model P w) X.A (pyNext (.ref it)) (fun r s1=>∃ u,r=some u ∧
      wpAny (model P w) X.A (letOwnedTupleGo tg (.ref it) u) (fun _ s2=>∃ x H',Inv X pins σ H' s2∧RelV x u∧J.yld i H x H'∧tn (i+1) s2.heap∧∀ b∈fp,H' b=none) E s1) E s
  done:∀ (X:Cx),X.prog=P→X.w=w→X.K=K→X.calm=true→∀ (i:Nat) (pins:List (Addr×Obj)) (s:Shared) (σ:St) (H:Hp) (E:Value→Shared→Prop),Inv X pins σ H s→(∀ b∈fp,FpOk X pins H b)→tn i s.heap→J.stop i H →
    wpAny (model P w) X.A (pyNext (.ref it)) (fun r s1=>r=none∧Inv X pins σ H s1) E s
  self:∀ (A:Around) (i:Nat) (s:Shared) (Q:Value→Shared→Prop) (E:Value→Shared→Prop),tn i s.heap→Q (.ref it) s→wpAny (model P w) A (pyIter (.ref it)) Q E s
abbrev TI:=St→Hp→(It→Hp→Prop)→Prop
def PIE (X:Cx) (pins:List (Addr×Obj)) (σ:St) (tg:Expr) (R:It→Hp→Prop) (itv:Value) (s2:Shared):Prop :=
  ∃ (it:Addr) (fp:List Addr) (tn:Nat→Heap→Prop) (J:It) (H':Hp),itv=.ref it∧Inv X pins σ H' s2∧Turn X.prog X.w X.K tg J fp it tn∧tn 0 s2.heap∧(∀ b∈fp,FpOk X pins H' b)∧R J H'
def PI (X:Cx) (tg iter:Expr) (wi:TI):Prop :=
  ∀ (pins:List (Addr×Obj)) (s:Shared) (σ:St) (H:Hp) (R:It→Hp→Prop),Inv X pins σ H s→wi σ H R →
    wpAny (model X.prog X.w) X.A (eval iter X.env) (fun v s1=>wpAny (model X.prog X.w) X.A (pyIter v) (PIE X pins σ tg R) X.xe s1) X.xe s
theorem go_of {M : Model} {A : Around} {E : Value → Shared → Prop} {s : Shared} {tg : Expr} {it : Addr} {u : Value} {o : Obj} {n : String} {vs : Array Value} {Q : Unit → Shared → Prop} (ho : s.heap.get? it = some o) (hc : o.cls = .type n) (hd : o.data = .fields vs)
    (hn:["enumerate", "zip", "dict_itemiterator", "dict_reverseitemiterator", "odict_iterator", "itertools.zip_longest", "itertools.pairwise"].contains n=false) (hQ:Q () s):wpAny M A (letOwnedTupleGo tg (.ref it) u) Q E s:=by
  unfold letOwnedTupleGo
  cases tg <;> first
    | exact wpAny_pure hQ
    | (cases u<;>first
        | exact wpAny_pure hQ
        | (refine wpAny_bind (wpAny_load ho ?_)
           rw [hc,hd]
           show wpAny M A (if (["enumerate", "zip", "dict_itemiterator", "dict_reverseitemiterator", "odict_iterator", "itertools.zip_longest", "itertools.pairwise"].contains n&&vs[0]?==some (rawInt _))=true then _ else _) Q E s
           rw [if_neg (by intro h;rw [hn,Bool.false_and] at h;cases h)]
           exact wpAny_pure hQ))
def Itl (K:PySem.W.Frag) (a:Addr):It :=
  ⟨fun i H=>∃ xs x,SqL K H a xs∧xs[i]?=some x,fun i H x H'=>H'=H∧∀ xs,SqL K H a xs→xs[i]?=some x,fun i H=>∃ xs,SqL K H a xs∧xs.length≤i⟩
def Itt (K:PySem.W.Frag) (a:Addr):It :=
  ⟨fun i H=>∃ xs x,SqT K H a xs∧xs[i]?=some x,fun i H x H'=>H'=H∧∀ xs,SqT K H a xs→xs[i]?=some x,fun i H=>∃ xs,SqT K H a xs∧xs.length≤i⟩
def Itr (lo:Int) (n:Nat):It:=⟨fun i _=>i < n,fun i H x H'=>H'=H∧x=.int (lo+i),fun i _=>n≤i⟩
theorem turn_list {P:Program} {w:World} {K:PySem.W.Frag} {tg:Expr} (a it:Addr):Turn P w K tg (Itl K a) [it] it (fun i h=>h.IsListIter it a i) where
  mem:=by simp
  obj:=fun i h st b hb=>by
    have e:b=it:=by simpa using hb
    subst e
    obtain ⟨o,e,c,d⟩:=st
    exact ⟨o,e,fun v z=>by rw [d] at z;cases z⟩
  keep:=fun i h h' st k=>st.at fun o e=>k it (by simp) o e
  item:=by
    intro X hP hw hK hc i pins s σ H E I hf st hg
    subst hP hw hK
    obtain ⟨xs,x,hq,hx⟩:=hg
    obtain ⟨its,rv,p,hz⟩:=I.list hq
    obtain ⟨u,hu,ru⟩:=rv.get hx
    obtain ⟨f0,f1,f2,f3,f4,f5⟩:=hf it (by simp)
    refine wpAny_pyNext_list_item st p.isList (x:=u) (by simpa using hu) fun h' st' sb=>?_
    have I1:Inv X pins σ H { s with heap:=h' }:=I.turned (t':=s.toks) (fun b o hb e=>(sb.2 b hb).trans e) f0 f1 f3 f4 f5
    obtain ⟨o,e,c,d⟩:=id st'
    exact ⟨u,rfl,go_of (s:={ s with heap:=h' }) e c d (by decide) ⟨x,H,I1,ru,⟨rfl,fun ys hy=>by rw [I.list_inj hy hq];exact hx⟩,st',fun b hb=>(hf b hb).1⟩⟩
  done:=by
    intro X hP hw hK hc i pins s σ H E I hf st hg
    subst hP hw hK
    obtain ⟨xs,hq,hx⟩:=hg
    obtain ⟨its,rv,p,hz⟩:=I.list hq
    obtain ⟨f0,f1,f2,f3,f4,f5⟩:=hf it (by simp)
    have hl:=rv.length
    exact wpAny_pyNext_list_end (I.ok.hd hc) st p.isList (by simp;lia) fun h' eb=>⟨rfl,I.turned (t':=s.toks) (fun b o hb e=>eb b o hb e) f0 f1 f3 f4 f5⟩
  self:=fun _ _ _ _ _ st h=>wpAny_pyIter_listiter st h
theorem turn_tuple {P:Program} {w:World} {K:PySem.W.Frag} {tg:Expr} (a it:Addr):Turn P w K tg (Itt K a) [it] it (fun i h=>h.IsTupleIter it a i) where
  mem:=by simp
  obj:=fun i h st b hb=>by
    have e:b=it:=by simpa using hb
    subst e
    obtain ⟨o,e,c,d⟩:=st
    exact ⟨o,e,fun v z=>by rw [d] at z;cases z⟩
  keep:=fun i h h' st k=>st.at fun o e=>k it (by simp) o e
  item:=by
    intro X hP hw hK hc i pins s σ H E I hf st hg
    subst hP hw hK
    obtain ⟨xs,x,hq,hx⟩:=hg
    obtain ⟨its,rv,p,hz⟩:=I.tuple hq
    obtain ⟨u,hu,ru⟩:=rv.get hx
    obtain ⟨f0,f1,f2,f3,f4,f5⟩:=hf it (by simp)
    refine wpAny_pyNext_tuple_item st (show s.heap.IsTuple a its.toArray from p) (x:=u) (by simpa using hu) fun h' st' sb=>?_
    have I1:Inv X pins σ H { s with heap:=h' }:=I.turned (t':=s.toks) (fun b o hb e=>(sb.2 b hb).trans e) f0 f1 f3 f4 f5
    obtain ⟨o,e,c,d⟩:=id st'
    exact ⟨u,rfl,go_of (s:={ s with heap:=h' }) e c d (by decide) ⟨x,H,I1,ru,⟨rfl,fun ys hy=>by rw [I.tuple_inj hy hq];exact hx⟩,st',fun b hb=>(hf b hb).1⟩⟩
  done:=by
    intro X hP hw hK hc i pins s σ H E I hf st hg
    subst hP hw hK
    obtain ⟨xs,hq,hx⟩:=hg
    obtain ⟨its,rv,p,hz⟩:=I.tuple hq
    obtain ⟨f0,f1,f2,f3,f4,f5⟩:=hf it (by simp)
    have hl:=rv.length
    exact wpAny_pyNext_tuple_end (I.ok.hd hc) st (show s.heap.IsTuple a its.toArray from p) (by simp;lia) fun h' eb=>⟨rfl,I.turned (t':=s.toks) (fun b o hb e=>eb b o hb e) f0 f1 f3 f4 f5⟩
  self:=fun _ _ _ _ _ st h=>wpAny_pyIter_tupleiter st h
theorem turn_range {P:Program} {w:World} {K:PySem.W.Frag} {tg:Expr} (it:Addr) (lo:Int) (n:Nat):Turn P w K tg (Itr lo n) [it] it (fun i h=>IsRangeIter h it (lo+(i:Nat)*1) ((n:Int)-(i:Nat)) 1) where
  mem:=by simp
  obj:=fun i h st b hb=>by
    have e:b=it:=by simpa using hb
    subst e
    exact ⟨_,st,fun v z=>by
      have z':Data.fields _=Data.cell v:=z
      cases z'⟩
  keep:=fun i h h' st k=>k it (by simp) _ st
  item:=by
    intro X hP hw hK hc i pins s σ H E I hf st hg
    subst hP hw hK
    obtain ⟨f0,f1,f2,f3,f4,f5⟩:=hf it (by simp)
    have W:=Walks.range (prog:=X.prog) (w:=X.w) (I.ok.hd hc) it lo 1 n
    refine W.item i s _ _ hg st fun v h' tk hv st' kk=>?_
    obtain ⟨t,rfl⟩:=hv
    have I1:Inv X pins σ H { s with heap:=h',toks:=tk }:=I.turned (fun b o hb e=>kk b o (by simpa using hb) e) f0 f1 f3 f4 f5
    refine ⟨_,rfl,go_of (s:={ s with heap:=h',toks:=tk }) (n := "range_iterator") st' rfl rfl (by decide) ⟨.int (lo+i),H,I1,⟨t,?_⟩,⟨rfl,rfl⟩,st',fun b hb=>(hf b hb).1⟩⟩
    rw [Int.mul_one]
  done:=by
    intro X hP hw hK hc i pins s σ H E I hf st hg
    subst hP hw hK
    obtain ⟨f0,f1,f2,f3,f4,f5⟩:=hf it (by simp)
    exact wpAny_pyNext_range_end (I.ok.hd hc) st (by have:n≤i:=hg;lia) fun h' eb=>⟨rfl,I.turned (t':=s.toks) (fun b o hb e=>eb b o hb e) f0 f1 f3 f4 f5⟩
  self:=fun _ _ _ _ _ st h=>wpAny_pyIter_rangeiter st h
end L2
namespace L2
open PySem PySem.Spec PyProof.Rows
section
variable {X:Cx} {tg:Expr}
def iRng1 (ta:TA):TI:=fun σ H R=>ta σ H fun vs H1=>∃ j:Int,vs=[.int j]∧-(2 ^ 62)≤j∧j < 2 ^ 62∧R (Itr 0 j.toNat) H1
def tFor (wi:TI) (g:TG) (tb:TS):TS:=fun D σ H=>wi σ H fun J H1=>∃ W:Nat→Nat→St→Hp→Prop,(∃ m,W 0 m σ H1)∧∀ i m σ H,W i m σ H →
  (J.stop i H∧D.nx σ H)∨(J.go i H∧∃ N:St→Hp→Prop,(∀ σ' H',N σ' H'→∃ m',m' < m∧W (i+1) m' σ' H')∧∀ x H',J.yld i H x H'→g x σ H' fun σ2 H2=>tb { D with nx:=N,ct:=N,bk:=D.nx } σ2 H2)
def pinsAt (fp:List Addr) (h:Heap):List (Addr×Obj):=fp.filterMap fun b=>(h.get? b).map fun o=>(b,o)
theorem mem_pinsAt {fp:List Addr} {h:Heap} {b:Addr} {o:Obj} (hb:b∈fp) (e:h.get? b=some o):(b,o)∈pinsAt fp h:=List.mem_filterMap.mpr ⟨b,hb,by rw [e];rfl⟩
theorem of_pinsAt {fp:List Addr} {h:Heap} {p:Addr×Obj} (hp:p∈pinsAt fp h):p.1∈fp∧h.get? p.1=some p.2:=by
  obtain ⟨b,hb,e⟩:=List.mem_filterMap.mp hp
  cases q:h.get? b with
  | none=>rw [q] at e;cases e
  | some o =>
    rw [q] at e
    have e':(b,o)=p:=Option.some.inj e
    subst e'
    exact ⟨hb,q⟩
theorem Inv.pinned {pins:List (Addr×Obj)} {σ:St} {H:Hp} {s:Shared} {fp:List Addr} (I:Inv X pins σ H s) (hf:∀ b∈fp,FpOk X pins H b) (ho:∀ b∈fp,∃ o,s.heap.get? b=some o∧∀ v,o.data≠.cell v):Inv X (pins++pinsAt fp s.heap) σ H s :=
  I.pins_of fun p hp=>(List.mem_append.mp hp).elim (fun z=>I.pin p (List.mem_append_right _ z)) fun z=>by
    obtain ⟨hb,e⟩:=of_pinsAt z
    obtain ⟨f0,f1,f2,_⟩:=hf p.1 hb
    obtain ⟨o,e',d⟩:=ho p.1 hb
    rw [e] at e';cases e'
    exact ⟨e,f0,f1,f2,d⟩
theorem Inv.unpinned {pins pl:List (Addr×Obj)} {σ:St} {H:Hp} {s:Shared} (I:Inv X (pins++pl) σ H s):Inv X pins σ H s:=I.pins_of fun p hp=>I.pin p (List.mem_append_right _ (List.mem_append_left _ hp))
theorem ps_for {iter:Expr} {body:List Stmt} {wi:TI} {g:TG} {tb:TS} {pos:Pos} (hp:PassesOwn (model X.prog X.w) X.A X.env X.xe) (hc:X.calm=true) (hi:PI X tg iter wi) (hg:PG X tg g) (hb:PSs X body tb)
    (hs:∀ x,foldedSetIterable iter X.env x=pure x:=by intro _;rfl):PS X (.For tg iter body [] pos) (tFor wi g tb):=by
  intro pins s σ H D I h
  refine wpAny_For (thn (hi pins s σ H _ I h) fun v s1 h1=>thn h1 fun itv s2 h2=>?_) hs
  obtain ⟨it,fp,tn,J,H2,e,I2,T,st2,f2,W,⟨m0,w0⟩,turn⟩:=h2
  subst e
  -- what stays true of the iterator's objects through the loop
  have stat:∀ {H':Hp},(∀ b∈fp,H' b=none)→∀ b∈fp,FpOk X pins H' b:=fun hn b hb=>⟨hn b hb,(f2 b hb).2⟩
  refine codeAny_forLoop_any (fun n s'=>∃ i σ' H',Inv X pins σ' H' s'∧tn i s'.heap∧(∀ b∈fp,H' b=none)∧W i n σ' H') ?_ m0 ⟨0,σ,H2,I2,st2,fun b hb=>(f2 b hb).1,w0⟩
  rintro n s3 ⟨i,σ3,H3,I3,st3,fr3,w3⟩
  rcases turn i n σ3 H3 w3 with ⟨stop,qn⟩ | ⟨go,N,hN,step⟩
  · refine wpAny_passesOwn hp (thn (T.done X rfl rfl rfl hc i pins s3 σ3 H3 X.xe I3 (stat fr3) st3 stop) fun r s4 ⟨hr,I4⟩=>?_)
    subst hr
    exact wpAny_execs_nil ⟨σ3,H3,I4,qn⟩
  · refine wpAny_passesOwn hp (thn (T.item X rfl rfl rfl hc i pins s3 σ3 H3 X.xe I3 (stat fr3) st3 go) fun r s4 ⟨u,hr,h4⟩=>?_)
    subst hr
    refine wpAny_passesOwn hp (thn h4 fun _ s5 ⟨x,H5,I5,r5,y5,st5,fr5⟩=>?_)
    have I5':=I5.pinned (stat fr5) (T.obj _ _ st5)
    refine wpAny_passesOwn hp (thn (hg _ s5 σ3 H5 x u _ I5' r5 (step x H5 y5)) fun _ s6 ⟨σ6,H6,I6,q6⟩=>?_)
    refine wpAny_passesOwn hp (thn (hb _ s6 σ6 H6 _ I6 q6) fun f s7 q7=>?_)
    have again:∀ {σ7:St} {H7:Hp},Inv X (pins++pinsAt fp s5.heap) σ7 H7 s7→N σ7 H7→∃ m,m < n∧∃ i σ' H',Inv X pins σ' H' s7∧tn i s7.heap∧(∀ b∈fp,H' b=none)∧W i m σ' H':=fun {σ7 H7} I7 n7=>by
      obtain ⟨m',hm,w7⟩:=hN σ7 H7 n7
      refine ⟨m',hm,i+1,σ7,H7,I7.unpinned,T.keep _ _ _ st5 fun b hb o e=>(I7.pin (b,o) (List.mem_append_right _ (List.mem_append_right _ (mem_pinsAt hb e)))).1,fun b hb=>?_,w7⟩
      obtain ⟨o,e,d⟩:=T.obj _ _ st5 b hb
      exact (I7.pin (b,o) (List.mem_append_right _ (List.mem_append_right _ (mem_pinsAt hb e)))).2.1
    cases f with
    | next=>obtain ⟨σ7,H7,I7,n7⟩:=q7;exact again I7 n7
    | cont=>obtain ⟨σ7,H7,I7,n7⟩:=q7;exact again I7 n7
    | brk=>obtain ⟨σ7,H7,I7,q7⟩:=q7;exact ⟨σ7,H7,I7.unpinned,q7⟩
    | ret v=>obtain ⟨x7,σ7,H7,I7,r7,q7⟩:=q7;exact ⟨x7,σ7,H7,I7.unpinned,r7,q7⟩
end
end L2
namespace L2
open PySem PySem.Spec PyProof.Rows
abbrev R2:=V→V→Hp→VK→Prop
def OpR (X:Cx) (f:Value→Value→Sem Value) (r:R2):Prop :=
  ∀ (pins:List (Addr×Obj)) (s:Shared) (σ:St) (H:Hp) (x y:V) (v u:Value) (Q:VK),Inv X pins σ H s→RelV x v→RelV y u→r x y H Q →
    wpAny (model X.prog X.w) X.A (f v u) (EP X pins σ Q) X.xe s
def UnR (X:Cx) (f:Value→Sem Value) (r:V→Hp→VK→Prop):Prop :=
  ∀ (pins:List (Addr×Obj)) (s:Shared) (σ:St) (H:Hp) (x:V) (v:Value) (Q:VK),Inv X pins σ H s→RelV x v→r x H Q →
    wpAny (model X.prog X.w) X.A (f v) (EP X pins σ Q) X.xe s
def CallR (X:Cx) (f:Value) (r:List V→Hp→VK→Prop):Prop :=
  ∀ (pins:List (Addr×Obj)) (s:Shared) (σ:St) (H:Hp) (xs:List V) (us:List Value) (Q:VK),Inv X pins σ H s→Vals xs us→r xs H Q →
    wpAny (model X.prog X.w) X.A (call f us) (EP X pins σ Q) X.xe s
def tOp (r:R2) (ta tb:TE):TE:=fun σ H Q=>ta σ H fun x H1=>tb σ H1 fun y H2=>r x y H2 Q
def tUn (r:V→Hp→VK→Prop) (ta:TE):TE:=fun σ H Q=>ta σ H fun x H1=>r x H1 Q
def rI (C:Int→Int→Prop) (g:Int→Int→V):R2:=fun x y H Q=>∃ i j,x=.int i∧y=.int j∧C i j∧Q (g i j) H
def rI0 (g:Int→Int→V):R2:=fun x y H Q=>∃ i j,x=.int i∧y=.int j∧Q (g i j) H
def rU (g:Int→V):V→Hp→VK→Prop:=fun x H Q=>∃ i,x=.int i∧Q (g i) H
section
variable {X:Cx} {a b c:Expr} {ta tb tc:TE} {pos:Pos}
theorem binT (ha:PE X a ta) (hb:PE X b tb) {pins:List (Addr×Obj)} {s:Shared} {σ:St} {H:Hp} {R:V→V→Hp→Prop} (I:Inv X pins σ H s)
    (h:ta σ H fun x H1=>tb σ H1 fun y H2=>R x y H2) {Q:Value→Shared→Prop} {f:Value→Value→Sem Value}
    (hf:∀ v u s2 x y H2,Inv X pins σ H2 s2→RelV x v→RelV y u→R x y H2→wpAny (model X.prog X.w) X.A (f v u) Q X.xe s2) :
    wpAny (model X.prog X.w) X.A (eval a X.env) (fun v s₁=>wpAny (model X.prog X.w) X.A (eval b X.env) (fun u s₂=>wpAny (model X.prog X.w) X.A (f v u) Q X.xe s₂) X.xe s₁) X.xe s:=by
  refine thn (ha pins s σ H _ I h) fun v s1 ⟨x,H1,I1,r1,q1⟩=>?_
  refine thn (hb pins s1 σ H1 _ I1 q1) fun u s2 ⟨y,H2,I2,r2,q2⟩=>?_
  exact hf v u s2 x y H2 I2 r1 r2 q2
theorem pe_op {op:Operator} {r:R2} (ho:OpR X (binaryOp op) r) (ha:PE X a ta) (hb:PE X b tb):PE X (.BinOp a op b pos) (tOp r ta tb):=by
  intro pins s σ H Q I h
  exact wpAny_BinOp (binT ha hb I h fun v u s2 x y H2 I2 rx ry q=>ho pins s2 σ H2 x y v u Q I2 rx ry q)
theorem pe_un {op:UnaryOp} {r:V→Hp→VK→Prop} (ho:UnR X (unaryOp op) r) (ha:PE X a ta):PE X (.UnaryOp op a pos) (tUn r ta):=by
  intro pins s σ H Q I h
  exact UnaryOp_ (thn (ha pins s σ H _ I h) fun v s1 ⟨x,H1,I1,r1,q1⟩=>ho pins s1 σ H1 x v Q I1 r1 q1)
theorem opI {f:Value→Value→Sem Value} {C:Int→Int→Prop} {g:Int→Int→Int}
    (rule:∀ (i j:Int) (t u:Tok) (s:Shared) (Q:Value→Shared→Prop) (E:Value→Shared→Prop),C i j→Q (.int (g i j) s.toks) { s with toks:=s.toks+1 }→wpAny (model X.prog X.w) X.A (f (.int i t) (.int j u)) Q E s) :
    OpR X f (rI C fun i j=>.int (g i j)):=by
  intro pins s σ H x y v u Q I rx ry h
  obtain ⟨i,j,rfl,rfl,hc,q⟩:=h
  obtain ⟨t,rfl⟩:=rx
  obtain ⟨t',rfl⟩:=ry
  exact rule i j t t' s _ _ hc ⟨.int (g i j),H,I.tok _,⟨_,rfl⟩,q⟩
theorem opI0 {f:Value→Value→Sem Value} {g:Int→Int→Int}
    (rule:∀ (i j:Int) (t u:Tok) (s:Shared) (Q:Value→Shared→Prop) (E:Value→Shared→Prop),Q (.int (g i j) s.toks) { s with toks:=s.toks+1 }→wpAny (model X.prog X.w) X.A (f (.int i t) (.int j u)) Q E s) :
    OpR X f (rI0 fun i j=>.int (g i j)):=by
  intro pins s σ H x y v u Q I rx ry h
  obtain ⟨i,j,rfl,rfl,q⟩:=h
  obtain ⟨t,rfl⟩:=rx
  obtain ⟨t',rfl⟩:=ry
  exact rule i j t t' s _ _ ⟨.int (g i j),H,I.tok _,⟨_,rfl⟩,q⟩
theorem opB0 {f:Value→Value→Sem Value} {g:Int→Int→Bool}
    (rule:∀ (i j:Int) (t u:Tok) (s:Shared) (Q:Value→Shared→Prop) (E:Value→Shared→Prop),Q (.bool (g i j)) s→wpAny (model X.prog X.w) X.A (f (.int i t) (.int j u)) Q E s) :
    OpR X f (rI0 fun i j=>.bl (g i j)):=by
  intro pins s σ H x y v u Q I rx ry h
  obtain ⟨i,j,rfl,rfl,q⟩:=h
  obtain ⟨t,rfl⟩:=rx
  obtain ⟨t',rfl⟩:=ry
  exact rule i j t t' s _ _ ⟨.bl (g i j),H,I,rfl,q⟩
def CPow (i j:Int):Prop:=0≤j∧j≤1000000∧i.natAbs < 2 ^ 64
def CMul (i j:Int):Prop:=(-(2 ^ 64) < i∧i < 2 ^ 64)∨(-(2 ^ 64) < j∧j < 2 ^ 64)
theorem CMul.ok {i j:Int} (h:CMul i j):IntMulOk i j:=by
  rcases h with ⟨h1,h2⟩ | ⟨h1,h2⟩
  · exact .of_left (intBits_le_64 h1 h2)
  · exact .of_right (intBits_le_64 h1 h2)
theorem two_pow_nn (k:Nat):(0:Int)≤2 ^ k:=by
  rw [two_pow_cast]
  exact Int.natCast_nonneg _
theorem op_add:OpR X (binaryOp .Add) (rI0 fun i j=>.int (i+j)):=opI0 fun _ _ _ _ _ _ _ q=>add_int q
theorem op_sub:OpR X (binaryOp .Sub) (rI0 fun i j=>.int (i-j)):=opI0 fun _ _ _ _ _ _ _ q=>sub_int q
theorem op_mod:OpR X (binaryOp .Mod) (rI (fun _ j=>0 < j) fun i j=>.int (i % j)):=opI fun i j _ _ _ _ _ hc q=>by
  have h1:(0:Int) < j:=hc
  exact mod_int' (by lia) (by rw [Int.fmod_eq_emod_of_nonneg i (by lia)];exact q)
theorem op_pow:OpR X (binaryOp .Pow) (rI CPow fun i j=>.int (i ^ j.toNat)):=opI fun _ _ _ _ _ _ _ hc q=>pow_int_small hc.1 hc.2.1 hc.2.2 q
theorem op_shr:OpR X (binaryOp .RShift) (rI (fun _ j=>0≤j) fun i j=>.int (i / 2 ^ j.toNat)):=opI fun i j _ _ _ _ _ hc q =>
  rshift_int hc (by rw [Int.fdiv_eq_ediv_of_nonneg i (two_pow_nn _)];exact q)
theorem iop_add:OpR X (inplaceOp .Add) (rI0 fun i j=>.int (i+j)):=opI0 fun _ _ _ _ _ _ _ q=>iadd_int q
theorem unI {f:Value→Sem Value} {g:Int→Int}
    (rule:∀ (i:Int) (t:Tok) (s:Shared) (Q:Value→Shared→Prop) (E:Value→Shared→Prop),Q (.int (g i) s.toks) { s with toks:=s.toks+1 }→wpAny (model X.prog X.w) X.A (f (.int i t)) Q E s) :
    UnR X f (rU fun i=>.int (g i)):=by
  intro pins s σ H x v Q I rx h
  obtain ⟨i,rfl,q⟩:=h
  obtain ⟨t,rfl⟩:=rx
  exact rule i t s _ _ ⟨.int (g i),H,I.tok _,⟨_,rfl⟩,q⟩
theorem un_neg:UnR X (unaryOp .USub) (rU fun i=>.int (-i)):=unI fun _ _ _ _ _ q=>neg_int q
end
section
variable {X:Cx} {a b c:Expr} {ta tb tc:TE} {pos:Pos}
theorem fin_bl {pins:List (Addr×Obj)} {σ:St} {H:Hp} {s:Shared} {Q:VK} {k k':Bool} (I:Inv X pins σ H s) (q:Q (.bl k) H) (e:k=k'):EP X pins σ Q (.bool k') s:=by
  subst e
  exact ⟨.bl k,H,I,rfl,q⟩
theorem op_lt:OpR X (compareOp .Lt) (rI0 fun i j=>.bl (decide (i < j))):=opB0 fun _ _ _ _ _ _ _ q=>lt_int q
theorem op_le:OpR X (compareOp .LtE) (rI0 fun i j=>.bl (decide (i≤j))):=opB0 fun _ _ _ _ _ _ _ q=>le_int q
theorem op_gt:OpR X (compareOp .Gt) (rI0 fun i j=>.bl (decide (j < i))):=opB0 fun _ _ _ _ _ _ _ q=>gt_int q
theorem op_in_str:OpR X (compareOp .In) (fun x y H Q=>∃ i j,x=.str i∧y=.str j∧Q (.bl (!(Builtin.Str.occurrences j i 0 j.length 1).isEmpty)) H):=by
  intro pins s σ H x y v u Q I rx ry h
  obtain ⟨i,j,rfl,rfl,q⟩:=h
  obtain ⟨t,rfl⟩:=rx
  obtain ⟨t',rfl⟩:=ry
  exact in_str (fin_bl I q rfl)
theorem OpR.or {f:Value→Value→Sem Value} {r r':R2} (h:OpR X f r) (h':OpR X f r'):OpR X f (fun x y H Q=>r x y H Q∨r' x y H Q):=by
  intro pins s σ H x y v u Q I rx ry q
  rcases q with q | q
  · exact h pins s σ H x y v u Q I rx ry q
  · exact h' pins s σ H x y v u Q I rx ry q
theorem nomark (b:Expr) {op:CmpOp} (h:op≠.In:=by decide) (h2:op≠.NotIn:=by decide):behindInMarks op b=false:=by
  have e1:(op==CmpOp.In)=false:=by cases op<;>first | rfl | exact absurd rfl h
  have e2:(op==CmpOp.NotIn)=false:=by cases op<;>first | rfl | exact absurd rfl h2
  cases b<;>simp [behindInMarks,e1,e2]
theorem pe_cmpR {op:CmpOp} {r:R2} (ho:OpR X (compareOp op) r) (ha:PE X a ta) (hb:PE X b tb) (hm:behindInMarks op b=false):PE X (.Compare a [op] [b] pos) (tOp r ta tb):=by
  intro pins s σ H Q I h
  exact wpAny_Compare1 (binT ha hb I h fun v u s2 x y H2 I2 rx ry q=>ho pins s2 σ H2 x y v u Q I2 rx ry q) hm
def tTest (t:TE):TT:=fun σ H Q=>t σ H fun x H'=>∃ k,x=.bl k∧Q k H'
theorem pt_cmpR {op:CmpOp} {r:R2} (ho:OpR X (compareOp op) r) (ha:PE X a ta) (hb:PE X b tb) (hm:behindInMarks op b=false):PT X (.Compare a [op] [b] pos) (tTest (tOp r ta tb)):=by
  intro pins s σ H Q I h
  refine wpAny_isTrue_Compare1 (thn (ha pins s σ H _ I h) fun v s1 ⟨x,H1,I1,r1,q1⟩=>thn (hb pins s1 σ H1 _ I1 q1) fun u s2 ⟨y,H2,I2,r2,q2⟩ =>
    thn (ho pins s2 σ H2 x y v u _ I2 r1 r2 q2) fun c s3 ⟨z,H3,I3,r3,k,e,q3⟩=>?_) hm
  subst e
  cases r3
  exact wpAny_truthy_bool ⟨H3,I3,q3⟩
def tChain (r r':R2) (ta tb tc:TE):TE:=fun σ H Q=>ta σ H fun x H1=>tb σ H1 fun y H2=>r x y H2 fun z H3=>∃ k,z=.bl k ∧
  (if k=true then tc σ H3 fun w' H4=>r' y w' H4 Q else Q (.bl false) H3)
theorem pe_chain {op op':CmpOp} {r r':R2} (ho:OpR X (compareOp op) r) (ho':OpR X (compareOp op') r') (ha:PE X a ta) (hb:PE X b tb) (hc:PE X c tc)
    (hm:lastMarks [op,op'] [b,c]=false:=by with_unfolding_all rfl):PE X (.Compare a [op,op'] [b,c] pos) (tChain r r' ta tb tc):=by
  intro pins s σ H Q I h
  refine Compare_chain (thn (ha pins s σ H _ I h) fun v s1 ⟨x,H1,I1,r1,q1⟩=>chain_link (thn (hb pins s1 σ H1 _ I1 q1) fun u s2 ⟨y,H2,I2,r2,q2⟩ =>
    thn (ho pins s2 σ H2 x y v u _ I2 r1 r2 q2) fun d s3 ⟨z,H3,I3,r3,k,e,q3⟩=>?_)) hm
  subst e
  cases r3
  refine wpAny_truthy_bool ?_
  cases k with
  | false=>exact ite_ff ⟨.bl false,H3,I3,rfl,q3⟩
  | true=>exact ite_tt (chain_last (thn (hc pins s3 σ H3 _ I3 q3) fun w' s4 ⟨z',H4,I4,r4,q4⟩=>ho' pins s4 σ H4 y z' u w' Q I4 r2 r4 q4))
theorem pt_chain {op op':CmpOp} {r r':R2} (ho:OpR X (compareOp op) r) (ho':OpR X (compareOp op') r') (ha:PE X a ta) (hb:PE X b tb) (hc:PE X c tc)
    (hm:lastMarks [op,op'] [b,c]=false:=by with_unfolding_all rfl):PT X (.Compare a [op,op'] [b,c] pos) (tTest (tChain r r' ta tb tc)):=by
  intro pins s σ H Q I h
  refine isTrue_chain (thn (ha pins s σ H _ I h) fun v s1 ⟨x,H1,I1,r1,q1⟩=>test_link (thn (hb pins s1 σ H1 _ I1 q1) fun u s2 ⟨y,H2,I2,r2,q2⟩ =>
    thn (ho pins s2 σ H2 x y v u _ I2 r1 r2 q2) fun d s3 ⟨z,H3,I3,r3,k,e,q3⟩=>?_)) hm
  subst e
  cases r3
  refine wpAny_truthy_bool ?_
  cases k with
  | false =>
    obtain ⟨k',e',q'⟩:=q3
    cases e'
    exact ite_ff ⟨H3,I3,q'⟩
  | true =>
    refine ite_tt (test_last (thn (hc pins s3 σ H3 _ I3 q3) fun w' s4 ⟨z',H4,I4,r4,q4⟩=>thn (ho' pins s4 σ H4 y z' u w' _ I4 r2 r4 q4) fun d' s5 ⟨z2,H5,I5,r5,k2,e2,q5⟩=>?_))
    subst e2
    cases r5
    exact wpAny_truthy_bool ⟨H5,I5,q5⟩
theorem line63:(sizeLine:Nat) < 2 ^ 63:=by rw [sizeLine_eq];decide
theorem op_add_str:OpR X (binaryOp .Add) (fun x y H Q=>∃ i j,x=.str i∧y=.str j∧i.length+j.length≤sizeLine∧Q (.str (i++j)) H):=by
  intro pins s σ H x y v u Q I rx ry h
  obtain ⟨i,j,rfl,rfl,hz,q⟩:=h
  obtain ⟨t,rfl⟩:=rx
  obtain ⟨t',rfl⟩:=ry
  exact add_str (fun t' tk=>⟨.str (i++j),H,I.tok _,⟨_,rfl⟩,q⟩) hz
theorem vals1 {x:V} {us:List Value} (r:Vals [x] us):∃ u,us=[u]∧RelV x u:=by
  cases r with
  | cons r1 r2=>cases r2;exact ⟨_,rfl,r1⟩
theorem vals2 {x y:V} {us:List Value} (r:Vals [x,y] us):∃ u w',us=[u,w']∧RelV x u∧RelV y w':=by
  cases r with
  | cons r1 r2 =>
    cases r2 with
    | cons r3 r4=>cases r4;exact ⟨_,_,rfl,r1,r3⟩
def LenV (K:PySem.W.Frag) (x:V) (H:Hp) (n:Nat):Prop :=
  match x with
  | .str y=>y.length≤sizeLine∧n=y.length
  | .byt y=>y.size≤sizeLine∧n=y.size
  | .ref p=>(∃ xs,SqL K H p xs∧n=xs.length)∨∃ xs,SqT K H p xs∧n=xs.length
  | _=>False
theorem call_len:CallR X (.builtin "len") (fun xs H Q=>∃ x n,xs=[x]∧LenV X.K x H n∧Q (.int n) H):=by
  intro pins s σ H xs us Q I r h
  obtain ⟨x,n,rfl,e,q⟩:=h
  obtain ⟨u,rfl,rx⟩:=vals1 r
  have hl:=line63
  have hs:sizeLine=16777216:=sizeLine_eq
  cases x with
  | str y =>
    obtain ⟨t,rfl⟩:=rx
    obtain ⟨hy,e'⟩:y.length≤sizeLine∧n=y.length:=e
    subst e'
    exact len_str (by lia) ⟨.int _,H,I.tok _,⟨_,rfl⟩,q⟩
  | byt y =>
    obtain ⟨t,rfl⟩:=rx
    obtain ⟨hy,e'⟩:y.size≤sizeLine∧n=y.size:=e
    subst e'
    exact PySem.W.len_bytes (by lia) ⟨.int _,H,I.tok _,⟨_,rfl⟩,q⟩
  | ref p =>
    cases rx
    have e':(∃ xs,SqL X.K H p xs∧n=xs.length)∨∃ xs,SqT X.K H p xs∧n=xs.length:=e
    rcases e' with ⟨xs,hx,e'⟩ | ⟨xs,hx,e'⟩
    · subst e'
      obtain ⟨its,r',pl,hz⟩:=I.list hx
      have hlen:=r'.length
      exact Calls.call_len_list pl.isList (by simp only [List.size_toArray];lia) ⟨.int xs.length,H,I.tok _,⟨_,by simp only [List.size_toArray];rw [hlen]⟩,q⟩
    · subst e'
      obtain ⟨its,r',pl,hz⟩:=I.tuple hx
      have hlen:=r'.length
      exact len_tuple pl (by simp only [List.size_toArray];lia) ⟨.int xs.length,H,I.tok _,⟨_,by simp only [List.size_toArray];rw [hlen]⟩,q⟩
  | _=>exact (show False from e).elim
end
end L2
namespace L2
open PySem PySem.Spec PyProof.Rows
structure ObjM (h:Heap) (x dx C:Addr) (mA:Str→Option Value):Prop where
  obj:h.get? x=some (PySem.W.instObj C dx)
  ns:h.Ns1 dx mA
  ne:dx≠x
section
variable {prog:Program} {w:World} {A:Around} {E:Value→Shared→Prop} {s:Shared} {K:PySem.W.Frag} {x dx C f:Addr} {mA:Str→Option Value} {name:Str} {v:Value}
end
theorem RelO.some_of {v:V} {o:Option Value} (r:RelO (some v) o):∃ u,o=some u∧RelV v u:=by
  cases o with
  | none=>exact (show False from r).elim
  | some u=>exact ⟨u,rfl,r⟩
section
variable {P:Program} {w:World} {H H':Hp} {h h':Heap} {a C dx:Addr} {fs fs':List (Str×V)}
end
structure Cls (K:PySem.W.Frag) (C:Addr):Prop where
  pg:PySem.W.plainGet K C Str.empty=true
  hd:PySem.W.hasDictIn K C=true
  po:PySem.W.plainOver K C=true
  sa:PySem.W.findIn K (.ref C) "__setattr__" = some (some (.builtin "object.__setattr__"))
theorem Cls.get {K:PySem.W.Frag} {C:Addr} (c:Cls K C) (f:Str):PySem.W.plainGet K C f=true:=c.pg
structure Con (K:PySem.W.Frag) (C:Addr) (f:Str) (v:V) (u:Value):Prop where
  at_:PySem.W.findIn K (.ref C) f=some (some u)
  rel:RelV v u
  get:PySem.W.specialIn K u "__get__" = some none
  cp:PySem.W.copiedNames.contains f=false
structure Meth (K:PySem.W.Frag) (C:Addr) (m:Str) (f:Addr):Prop where
  at_:PySem.W.findIn K (.ref C) m=some (some (.ref f))
  fn:PySem.W.isFn K (.ref f)=true
  kp:PySem.W.keepIn K (.ref f)=true
section
variable {X:Cx} {pins:List (Addr×Obj)} {σ:St} {H:Hp} {s:Shared} {a C dx:Addr} {fs:List (Str×V)} {f:Str} {v:V} {A:Around} {E:Value→Shared→Prop}
theorem Inv.made (I:Inv X pins σ H s):Inv X pins σ (upd (upd H s.heap.objs.size (.own (s.heap.objs.size+1))) (s.heap.objs.size+1) (.ins C s.heap.objs.size []))
    { s with heap:=(s.heap.push PySem.W.emptyDict).push (PySem.W.instObj C s.heap.objs.size) }:=by
  have e1:(s.heap.push PySem.W.emptyDict).get? s.heap.objs.size=some PySem.W.emptyDict:=Heap.get?_push_size s.heap rfl
  have e2:((s.heap.push PySem.W.emptyDict).push (PySem.W.instObj C s.heap.objs.size)).get? (s.heap.objs.size+1)=some (PySem.W.instObj C s.heap.objs.size):=by
    have:=Heap.get?_push_size (s.heap.push PySem.W.emptyDict) (o:=PySem.W.instObj C s.heap.objs.size) rfl
    rwa [Heap.size_push] at this
  have e3:(s.heap.push PySem.W.emptyDict).Ns s.heap.objs.size (fun _=>none):=⟨PySem.W.emptyDict,#[],_,e1,rfl,(fun e he=>absurd he (by simp)),fun _=>rfl⟩
  have I1:=I.laid (a:=s.heap.objs.size) (o:=.own (s.heap.objs.size+1)) (h':=s.heap.push PySem.W.emptyDict) (t':=s.toks) (fun b u q=>Heap.get?_push_of_some _ q) (Nat.le_refl _) ⟨_,e1⟩
  refine I1.laid (a:=s.heap.objs.size+1) (o:=.ins C s.heap.objs.size []) (t':=s.toks) (fun b u q=>Heap.get?_push_of_some _ q) (Nat.le_of_eq (Heap.size_push _ _)) ?_
  have ne:s.heap.objs.size≠s.heap.objs.size+1:=Nat.ne_of_lt (Nat.lt_succ_self _)
  refine ⟨by rw [upd_ne ne,upd_same],Nat.zero_le _,ne,e2,fun _=>none,(Heap.Ns1.of_empty e3).at fun o q=>Heap.get?_push_of_some _ q,fun _=>True.intro,fun y hy=>absurd rfl hy⟩
end
section
variable {X:Cx} {o e value:Expr} {f:Str} {pos pos' tpos:Pos} {ta tv:TE}
end
section
variable {X:Cx} {pins:List (Addr×Obj)} {σ:St} {H:Hp} {s:Shared} {A:Around} {E:Value→Shared→Prop} {Q:Value→Shared→Prop} {c:Value} {b:Bool}
inductive TyOf (K:PySem.W.Frag) (H:Hp):V→Value→Prop where
  | non:TyOf K H .non (.type "NoneType")
  | bl (x:Bool):TyOf K H (.bl x) (.type "bool")
  | int (i:Int):TyOf K H (.int i) (.type "int")
  | str (x:Str):TyOf K H (.str x) (.type "str")
  | flt (x:UInt64):TyOf K H (.flt x) (.type "float")
  | lst {a:Addr} {xs:List V} (e:H a=some (.lst xs)):TyOf K H (.ref a) (.type "list")
  | frz {a:Addr} {o:Obj} {xs:List V} (e:H a=some (.frz o (.lst xs))):TyOf K H (.ref a) (.type "list")
  | tup {a:Addr} {xs:List V} (e:H a=some (.tup xs)):TyOf K H (.ref a) (.type "tuple")
  | dK {a:Addr} {kvs:List (Key×V)} (e:H a=some (.dK kvs)):TyOf K H (.ref a) (.type "dict")
  | dT {a:Addr} {kvs:List (List Key×V)} (e:H a=some (.dT kvs)):TyOf K H (.ref a) (.type "dict")
  | ins {a C dx:Addr} {fs:List (Str×V)} (e:H a=some (.ins C dx fs)) (cl:Cls K C) (ha:PySem.W.findIn K (.ref C) "__class__" = some (some (.builtin "object.__class__")))
      (hn:PySem.W.specialIn K (.builtin "object.__class__") "__get__" = some (some (.builtin "getset_descriptor.__get__"))) (htk:PySem.W.takesIn K (.builtin "object.__class__")=some true)
      (hm:PySem.W.mroIn K C (.type "object")=some true):TyOf K H (.ref a) (.ref C)
end
end L2
namespace L2
open PySem PySem.Spec PyProof.Rows
structure Room (k:Nat) (A:Around):Prop where
  hd:A.handled=none
  dp:A.depth+3*k+5 < recursionLimit
  un:A.units+16*k+200 < cLine
theorem Room.mono {j k:Nat} {A:Around} (r:Room k A) (h:j≤k):Room j A:=⟨r.hd,by have:=r.dp;lia,by have:=r.un;lia⟩
theorem Room.deeper {k:Nat} {A:Around} (r:Room (k+1) A) (env:Env):Room k (A.deeper env) :=
  ⟨r.hd,by have:=r.dp;show A.depth+1+3*k+5 < _;lia,by have:=r.un;show A.units+3+16*k+200 < _;lia⟩
theorem Room.depth {k:Nat} {A:Around} (r:Room k A):A.depth < recursionLimit:=by have:=r.dp;lia
theorem Room.units {k:Nat} {A:Around} (r:Room k A):A.units+64 < cLine:=by have:=r.un;lia
def tNil:TA:=fun _ H Q=>Q [] H
def tCons (ta:TE) (tr:TA):TA:=fun σ H Q=>ta σ H fun x H1=>tr σ H1 fun xs H2=>Q (x :: xs) H2
section
variable {X:Cx} {e:Expr} {es:List Expr} {te:TE} {t:TA} {pos:Pos}
theorem pa_nil:PA X [] tNil:=fun _ _ _ _ H Q I h=>Calls.spliced_nil ⟨[],H,I,.nil,h⟩
theorem pa_cons (ha:PE X e te) (hr:PA X es t) (hs:starEach (e :: es) X.env=(false,eval e X.env) :: starEach es X.env:=by rfl):PA X (e :: es) (tCons te t):=by
  intro pos pins s σ H Q I h
  rw [hs]
  show wpAny _ _ (spliced ((false,eval e X.env) :: backTo pos (starEach es X.env))) _ _ s
  refine Calls.spliced_cons (thn (ha pins s σ H _ I h) fun u s1 ⟨x,H1,I1,r1,q1⟩=>?_)
  exact thn (hr pos pins s1 σ H1 _ I1 q1) fun us s2 ⟨xs,H2,I2,r2,q2⟩=>⟨x :: xs,H2,I2,.cons r1 r2,q2⟩
def tTup (t:TA):TE:=fun σ H Q=>t σ H fun xs H1=>xs.length≤sizeLine∧∀ p,H1 p=none→Q (.ref p) (upd H1 p (.tup xs))
def tLst (t:TA):TE:=fun σ H Q=>t σ H fun xs H1=>xs.length≤sizeLine∧∀ p,H1 p=none→Q (.ref p) (upd H1 p (.lst xs))
theorem pe_tup {x1} (h:PA X es t):PE X (.Tuple es x1 pos) (tTup t):=by
  intro pins s σ H Q I hq
  refine wpAny_Tuple_spliced (thn (h pos pins s σ H _ I hq) fun us s1 ⟨xs,H1,I1,r,z,q⟩=>⟨by rw [←r.length];exact z,?_⟩)
  have hf:H1 s1.heap.objs.size=none:=I1.hok.fresh (Nat.le_refl _)
  refine ⟨.ref s1.heap.objs.size,upd H1 s1.heap.objs.size (.tup xs),I1.laid (t':=s1.toks) (fun b u e=>Heap.get?_push_of_some _ e) (Nat.le_refl _) ?_,rfl,q _ hf⟩
  exact ⟨z,us,r,⟨_,Heap.get?_push_size _ rfl,rfl,_,rfl⟩⟩
theorem pe_lst (h:PA X es t):PE X (.List es pos) (tLst t):=by
  intro pins s σ H Q I hq
  refine wpAny_List_spliced (thn (h pos pins s σ H _ I hq) fun us s1 ⟨xs,H1,I1,r,z,q⟩=>⟨by rw [←r.length];exact z,?_⟩)
  have hf:H1 s1.heap.objs.size=none:=I1.hok.fresh (Nat.le_refl _)
  refine ⟨.ref s1.heap.objs.size,upd H1 s1.heap.objs.size (.lst xs),I1.laid (t':=s1.toks) (fun b u e=>Heap.get?_push_of_some _ e) (Nat.le_refl _) ?_,rfl,q _ hf⟩
  exact ⟨z,us,0,r,Heap.get?_push_size _ rfl⟩
end
abbrev Sp:=List V→Hp→VK→XK→Prop
abbrev CXT:=List Env→Hp→Shared→XK→Value→Shared→Prop
structure Env0 (P:Program) (w:World) (K:PySem.W.Frag) (mg:Str→Option Value) (base:Heap) (A:Around) (outer:List Env) (s:Shared) (H:Hp):Prop where
  frames:A.frames=some outer
  mod:Mod K mg base
  bs:∀ b o,base.get? b=some o→s.heap.get? b=some o∧H b=none
  bsz:base.objs.size≤s.heap.objs.size
  funs:s.heap.FunFrames base outer
  frf:∀ b∈frs outer,H b=none
  hok:HOk P w H s.heap
  bare:AllBare s.gens
  tab:TabOk K mg base H
def CE (outer:List Env) (P:Program) (w:World) (H:Hp) (s:Shared) (Q:VK) (u:Value) (s':Shared):Prop :=
  ∃ v H',s'.os=s.os∧AllBare s'.gens∧Un (frs outer) [] H H' s.heap s'.heap∧HOk P w H' s'.heap∧RelV v u∧Q v H'
def CR (CX:CXT) (outer:List Env) (P:Program) (w:World) (H:Hp) (s:Shared) (Q:VK) (E:XK) (r:Result) (s':Shared):Prop :=
  match r with
  | .ok (.ret u)=>CE outer P w H s Q u s'
  | .ok _=>False
  | .error e=>CX outer H s E e s'
structure FnOk (P:Program) (w:World) (K:PySem.W.Frag) (mg:Str→Option Value) (base:Heap) (CX:CXT) (k:Nat) (f:Addr) (fd:FuncData) (ps:List Str) (sp:Sp):Prop where
  len:∀ vs H Q E,sp vs H Q E→vs.length=ps.length
  run:∀ (A:Around) (outer:List Env) (s:Shared) (H:Hp) (args:Args) (us:List Value) (vs:List V) (Q:VK) (E:XK),Room k A→Env0 P w K mg base A outer s H→BindsTo s fd args (ps.zip us)→Vals vs us→sp vs H Q E →
    codeAny (model P w) A (.call (.ref f) args) (CR CX outer P w H s Q E) s
theorem Env0.in1 {P:Program} {w:World} {K:PySem.W.Frag} {mg:Str→Option Value} {base:Heap} {A:Around} {outer:List Env} {s:Shared} {H:Hp} (e:Env0 P w K mg base A outer s H) :
    Env0 P w K mg base A.in1 outer s H:=⟨e.frames,e.mod,e.bs,e.bsz,e.funs,e.frf,e.hok,e.bare,e.tab⟩
section
variable {X:Cx} {pins:List (Addr×Obj)} {σ:St} {H:Hp} {s s':Shared}
theorem Inv.env0 (I:Inv X pins σ H s):Env0 X.prog X.w X.K X.mg X.base X.A X.stack s H :=
  ⟨I.ok.frames,I.ok.mod,I.bs,Nat.le_trans I.ok.bsz I.sz,I.stack,I.stkFree,I.hok,I.bare,I.tab⟩
theorem Inv.after {Q:VK} {u:Value} (I:Inv X pins σ H s) (h:CE X.stack X.prog X.w H s Q u s'):EP X pins σ Q u s':=by
  obtain ⟨v,H',os,bare,un,hok,r,q⟩:=h
  obtain ⟨hh,g,d,t,os'⟩:=s'
  obtain rfl:os'=s.os:=os
  exact ⟨v,H',I.call (h':=hh) (g':=g) (d':=d) (t':=t) (ch:=[]) un hok bare (fun b z=>absurd z (by simp)),r,q⟩
end
def tCall (sp:Sp) (dvs:List V) (E:XK) (t:TA):TE:=fun σ H Q=>t σ H fun vs H1=>sp (vs++dvs) H1 Q E
def Binds (K:PySem.W.Frag) (fd:FuncData) (ps:List Str) (ds:List Value):Prop :=
  ∀ (s:Shared) (us:List Value),K.In s.heap→(us++ds).length=ps.length→BindsTo s fd ⟨us,[]⟩ (ps.zip (us++ds))
theorem Binds.all {K:PySem.W.Frag} {fd:FuncData} {ps:List Str} (h:∀ us:List Value,us.length=ps.length→bindArgs fd ⟨us,[]⟩=pure (ps.zip us)):Binds K fd ps []:=fun s us _ hl=>by
  rw [List.append_nil] at hl ⊢
  exact .of_eq (h us hl)
def Passes (CX:CXT) (X:Cx) (E:XK):Prop:=∀ (pins:List (Addr×Obj)) (σ:St) (H:Hp) (s:Shared) (e:Value) (s':Shared),Inv X pins σ H s→CX X.stack H s E e s'→X.xe e s'
section
variable {X:Cx} {CX:CXT} {k:Nat} {f C:Addr} {fd:FuncData} {ps:List Str} {sp:Sp} {dvs:List V} {ds:List Value} {E:XK} {x m:Str} {p pos apos:Pos} {e o:Expr} {es:List Expr} {ta:TE} {t:TA}
theorem run_fn {pins:List (Addr×Obj)} {σ:St} {H:Hp} {s:Shared} {Q:VK} {us:List Value} {vs:List V} (F:FnOk X.prog X.w X.K X.mg X.base CX k f fd ps sp) (hr:Room k X.A) (hb:Binds X.K fd ps ds) (hd:Vals dvs ds) (hx:Passes CX X E)
    (I:Inv X pins σ H s) (r:Vals vs us) (h:sp (vs++dvs) H Q E):wpAny (model X.prog X.w) X.A (call (.ref f) us) (EP X pins σ Q) X.xe s:=by
  have r2:Vals (vs++dvs) (us++ds):=r.append hd
  have hl:(us++ds).length=ps.length:=by rw [←r2.length];exact F.len _ _ _ _ h
  refine wpAny_call (codeAny_mono (F.run X.A X.stack s H ⟨us,[]⟩ (us++ds) (vs++dvs) Q E hr I.env0 (hb s us I.kIn hl) r2 h) fun r s' hq=>?_)
  cases r with
  | error e=>exact hx pins σ H s e s' I hq
  | ok fl =>
    cases fl with
    | ret u=>exact I.after hq
    | next=>exact False.elim hq
    | brk=>exact False.elim hq
    | cont=>exact False.elim hq
theorem pe_call (F:FnOk X.prog X.w X.K X.mg X.base CX k f fd ps sp) (hr:Room k X.A) (hg:Gl X x) (hm:X.mg x=some (.ref f)) (hk:PySem.W.keepIn X.K (.ref f)=true) (hb:Binds X.K fd ps ds) (hd:Vals dvs ds) (hx:Passes CX X E)
    (ha:PA X (e :: es) t) (hdb:(x==("__debug__" : Str))=false:=by decide) (he:starEach (e :: es) X.env=(false,eval e X.env) :: starEach es X.env:=by rfl) (hpl:(backTo pos (starEach es X.env)).any (·.1)=false:=by rfl) :
    PE X (.Call (.Name x p) (e :: es) [] pos) (tCall sp dvs E t):=by
  intro pins s σ H Q I h
  refine wpAny_Call_Name_kw (ld_glob I hg hm ?_ hdb)
  refine PySem.W.callWith_K (h₀:=X.base) I.ok.mod.kin hk (thn (ha pos pins s σ H _ I h) fun us s1 ⟨vs,H1,I1,r,q⟩=>⟨I1.kIn,?_⟩) he hpl
  exact run_fn F hr hb hd hx I1 r q
structure Mk (K:PySem.W.Frag) (C f:Addr):Prop where
  makes:PySem.W.makesIn K C=true
  init:PySem.W.findIn K (.ref C) "__init__" = some (some (.ref f))
  fn:PySem.W.isFn K (.ref f)=true
  kp:PySem.W.keepIn K (.ref C)=true
end
section
variable {X:Cx} {CX:CXT} {k:Nat} {f C:Addr} {fd:FuncData} {ps ks:List Str} {sp:Sp} {E:XK} {x m:Str} {p pos apos kpos:Pos} {e o:Expr} {es:List Expr} {kws:List Keyword} {te ta:TE} {t tk:TA} {nm:Option Str}
structure KBinds (K:PySem.W.Frag) (fd:FuncData) (ps ks:List Str) (g:List Value→List Value→List Value) (gV:List V→List V→List V):Prop where
  to:∀ (s:Shared) (us ws:List Value),K.In s.heap→(g us ws).length=ps.length→BindsTo s fd ⟨us,ks.zip ws⟩ (ps.zip (g us ws))
  rel:∀ {vs:List V} {us:List Value} {zs:List V} {ws:List Value},Vals vs us→Vals zs ws→Vals (gV vs zs) (g us ws)
variable {g:List Value→List Value→List Value} {gV:List V→List V→List V}
end
structure FnScope (N P:List Str) (sc:Scope):Prop where
  kind:sc.kind=.function
  co:sc.isCoroutine=false
  gen:sc.isGenerator=false
  nd:N.Nodup
  pre:N.take P.length=P
  par:∀ x∈P,sc.names.lookup x=some .local∨sc.names.lookup x=some .cell
  nofree:∀ y∈sc.names,y.2≠.free
theorem bindL_out {kindOf:Str→Option NameKind} {x:Str}:∀ {binds:List (Str×Value)} {m:Str→Option Value},(∀ v,(x,v)∉binds)→bindL kindOf binds m x=m x
  | [],_,_=>rfl
  | (n,v) :: r,m,h=>by
    unfold bindL
    rw [bindL_out fun w hw=>h w (List.mem_cons_of_mem _ hw)]
    split
    · have:x≠n:=by rintro rfl;exact h v List.mem_cons_self
      simp [this]
    · rfl
theorem bindC_out {kindOf:Str→Option NameKind} {x:Str}:∀ {binds:List (Str×Value)} {m:Str→Option Value},(∀ v,(x,v)∉binds)→bindC kindOf binds m x=m x
  | [],_,_=>rfl
  | (n,v) :: r,m,h=>by
    unfold bindC
    rw [bindC_out fun w hw=>h w (List.mem_cons_of_mem _ hw)]
    split
    · rfl
    · have:x≠n:=by rintro rfl;exact h v List.mem_cons_self
      simp [this]
theorem bindL_get {kindOf:Str→Option NameKind} {x:Str} {v:Value}:∀ {P:List Str} {vs:List Value} {i:Nat} {m:Str→Option Value},P.Nodup→P[i]?=some x→vs[i]?=some v→kindOf x=some .local →
    bindL kindOf (P.zip vs) m x=some v
  | [],_,_,_,_,h,_,_=>by simp at h
  | _ :: _,[],_,_,_,_,h,_=>by simp at h
  | p :: P,w :: vs,0,m,nd,h1,h2,hk=>by
    simp at h1 h2;subst h1;subst h2
    show bindL kindOf ((p,w) :: P.zip vs) m p=_
    unfold bindL
    rw [bindL_out fun v hv=>(List.nodup_cons.mp nd).1 (List.of_mem_zip hv).1,if_pos hk]
    simp
  | p :: P,w :: vs,i+1,m,nd,h1,h2,hk=>by
    show bindL kindOf ((p,w) :: P.zip vs) m x=_
    unfold bindL
    exact bindL_get (i:=i) (List.nodup_cons.mp nd).2 (by simpa using h1) (by simpa using h2) hk
theorem bindC_get {kindOf:Str→Option NameKind} {x:Str} {v:Value}:∀ {P:List Str} {vs:List Value} {i:Nat} {m:Str→Option Value},P.Nodup→P[i]?=some x→vs[i]?=some v→kindOf x≠some .local →
    bindC kindOf (P.zip vs) m x=some v
  | [],_,_,_,_,h,_,_=>by simp at h
  | _ :: _,[],_,_,_,_,h,_=>by simp at h
  | p :: P,w :: vs,0,m,nd,h1,h2,hk=>by
    simp at h1 h2;subst h1;subst h2
    show bindC kindOf ((p,w) :: P.zip vs) m p=_
    unfold bindC
    rw [bindC_out fun v hv=>(List.nodup_cons.mp nd).1 (List.of_mem_zip hv).1,if_neg hk]
    simp
  | p :: P,w :: vs,i+1,m,nd,h1,h2,hk=>by
    show bindC kindOf ((p,w) :: P.zip vs) m x=_
    unfold bindC
    exact bindC_get (i:=i) (List.nodup_cons.mp nd).2 (by simpa using h1) (by simpa using h2) hk
def start (N:List Str) (vs:List V):St:=vs.map some++List.replicate (N.length-vs.length) none
def cxOf (CX:CXT) (P:Program) (w:World) (K:PySem.W.Frag) (mg:Str→Option Value) (base:Heap) (N:List Str) (qual:Str) (scope:Scope) (f:Addr) (cd:Value) (A:Around) (outer:List Env) (s:Shared) (H:Hp) (E:XK):Cx where
  prog:=P
  w:=w
  K:=K
  mg:=mg
  base:=base
  A:=A.deeper (envOfC qual scope s.heap.objs.size f cd)
  N:=N
  s₀:=s
  H₀:=H
  env:=envOfC qual scope s.heap.objs.size f cd
  outer:=outer
  stack:=envOfC qual scope s.heap.objs.size f cd :: outer
  ex:=[]
  calm:=true
  fn:=fun _=>true
  pn:=[]
  xe:=fun e s'=>wpAny (model P w) (A.deeper (envOfC qual scope s.heap.objs.size f cd)) (leaving (envOfC qual scope s.heap.objs.size f cd) e) (fun _ s''=>CX outer H s E e s'') (fun e' s''=>CX outer H s E e' s'') s'
theorem cell_has {sc:Scope} {n:Nat} {x:Str} (h:sc.names.lookup x=some .cell):∃ c,(cellsFrom n sc.names []).lookup x=some c:=by
  have q:=PySem.W.cellsFrom_some sc.names n [] (.inl h)
  exact Option.isSome_iff_exists.mp q
theorem inv_start {CX : CXT} {P : Program} {w : World} {K : PySem.W.Frag} {mg : Str → Option Value} {base : Heap} {N ps : List Str} {qual : Str} {scope : Scope} {f : Addr} {cd : Value} {A : Around} {outer : List Env} {s s1 : Shared} {H : Hp} {E : XK} {us : List Value} {vs : List V}
    (S:FnScope N ps scope) (hd:A.handled=none) (e0:Env0 P w K mg base A outer s H) (hl:vs.length=ps.length) (r:Vals vs us)
    (x:InCallC s s.heap.objs.size (bindL (envOfC qual scope s.heap.objs.size f cd).kindOf (ps.zip us) fun _=>none) (cellsFrom (s.heap.objs.size+1) scope.names []) (bindC (envOfC qual scope s.heap.objs.size f cd).kindOf (ps.zip us) fun _=>none) s1) :
    Inv (cxOf CX P w K mg base N qual scope f cd A outer s H E) [] (start N vs) H s1:=by
  have hpl:ps.length≤N.length:=by have:=congrArg List.length S.pre;rw [List.length_take] at this;lia
  obtain ⟨h1,tk,rfl,hk⟩:=x.done
  have noA:∀ b:Addr,b∉(cxOf CX P w K mg base N qual scope f cd A outer s H E).ex:=fun b z=>absurd (show b∈([]:List Addr) from z) (by simp)
  refine ⟨⟨e0.mod,S.kind,rfl,rfl,Nat.le_refl _,fun y z c h1 h2=>?_,fun y hy=>?_,fun y c _ h=>?_,fun _=>hd,Around.frames_deeper e0.frames,.inr ⟨rfl,rfl⟩,fun b z=>absurd z (noA b),e0.bs,e0.bsz,fun b _ _=>noA b,fun b z=>absurd z (noA b),e0.funs,e0.frf⟩,
    rfl,e0.bare,Un.kept hk,⟨_,x.toInCall.ns,fun i y v h1 h2 h3=>?_⟩,fun y c h=>⟨_,x.cell y c h⟩,e0.hok.fresh (Nat.le_refl _),fun y c h=>?_,fun p hp=>absurd (show p∈([]:List (Addr×Obj)) from hp) (by simp),e0.hok.kept hk,?_,e0.tab⟩
  · exact name_of_addr x.apart (PySem.mem_of_lookup h1) (PySem.mem_of_lookup h2)
  · have hy:scope.names.lookup y=some .cell∨scope.names.lookup y=some .free:=hy
    rcases hy with hy | hy
    · exact cell_has hy
    · exact absurd rfl (S.nofree _ (PySem.mem_of_lookup hy))
  · exact Nat.le_of_lt (x.above y c (PySem.mem_of_lookup h))
  · have hi:i < vs.length:=by
      unfold start at h2
      by_cases hi:i < vs.length
      · exact hi
      · rw [List.getElem?_append_right (by simpa using hi)] at h2
        rw [List.getElem?_replicate] at h2
        split at h2<;>cases h2
    have ha:vs[i]?=some v:=by
      unfold start at h2
      rw [List.getElem?_append_left (by simpa using hi),List.getElem?_map] at h2
      cases e:vs[i]? with
      | none=>rw [e] at h2;cases h2
      | some a=>rw [e] at h2;cases h2;rfl
    obtain ⟨u,hu,rv⟩:=r.get ha
    have hp:ps[i]?=some y:=by
      rw [←S.pre,List.getElem?_take_of_lt (by lia)];exact h1
    have ndP:ps.Nodup:=by rw [←S.pre];exact S.nd.sublist (List.take_sublist _ _)
    refine ⟨u,rv,?_⟩
    rcases S.par y (List.mem_of_getElem? hp) with k | k
    · exact .inl ⟨k,bindL_get ndP hp hu k⟩
    · obtain ⟨c,e⟩:=cell_has (n:=s.heap.objs.size+1) k
      refine .inr ⟨.inl k,c,e,?_⟩
      have q:=x.cell y c e
      rw [bindC_get ndP hp hu (by show scope.names.lookup y≠_;rw [k];decide)] at q
      exact q
  · exact e0.hok.fresh (Nat.le_of_lt (x.above y c (PySem.mem_of_lookup h)))
  · unfold start
    show _=N.length
    rw [List.length_append,List.length_map,List.length_replicate]
    lia
theorem fn_of {CX:CXT} {P:Program} {w:World} {K:PySem.W.Frag} {mg:Str→Option Value} {base:Heap} {k:Nat} {f:Addr} {name qual:Str} {params:Arguments} {body:List Stmt} {scope:Scope} {dV kV doc pm cdv ct oc:Value} {an od:Option Addr}
    {osl:Array (Option Value)} {N ps:List Str} {sp:Sp} (lk:K.lookup f=some ⟨oc,od,.func (PySem.W.fnOf name qual params body scope dV kV doc pm an cdv ct),osl⟩) (hcd:PySem.W.codeIn K cdv qual=true) (S:FnScope N ps scope)
    (len:∀ vs H Q E,sp vs H Q E→vs.length=ps.length)
    (hbody:∀ (A:Around) (outer:List Env) (s:Shared) (H:Hp) (vs:List V) (Q:VK) (E:XK),Room k (A.deeper (envOfC qual scope s.heap.objs.size f cdv))→sp vs H Q E →
      ∃ t,PSs (cxOf CX P w K mg base N qual scope f cdv A outer s H E) body t∧t { nx:=fun _ H'=>Q .non H',rt:=Q } (start N vs) H) :
    FnOk P w K mg base CX (k+1) f (PySem.W.fnOf name qual params body scope dV kV doc pm an cdv ct) ps sp:=by
  refine ⟨len,fun A outer s H args us vs Q E hr e0 hb r hsp=>?_⟩
  have hl:=len _ _ _ _ hsp
  have KX:K.In s.heap:=e0.mod.kin.keeps fun b o e=>(e0.bs b o e).1
  have lim:s.heap.NoLimit:=e0.mod.nolimit.keeps fun b o e=>(e0.bs b o e).1
  have hkind:∀ y∈ps.zip us,scope.names.lookup y.1=some .local∨(scope.names.lookup y.1=some .cell∧((cellsFrom (s.heap.objs.size+1) scope.names []).lookup y.1).isSome=true):=fun ⟨n,v⟩ hy=>by
    rcases S.par n (List.of_mem_zip hy).1 with q | q
    · exact .inl q
    · exact .inr ⟨q,PySem.W.cellsFrom_some _ _ _ (.inl q)⟩
  refine codeAny_call_function hr.depth (KX _ _ lk) rfl S.co S.gen rfl (PySem.W.codeRec_of KX hcd) (hb _ _ _ _ ?_)
  refine wpAny_newFunctionEnv_cells S.kind hkind fun env he s1 x=>?_
  subst he
  refine ⟨lim.keeps x.toInCall.keep,codeAny_func ?_⟩
  obtain ⟨t,ht,hq⟩:=hbody A outer s H vs Q E (hr.deeper _) hsp
  have I:Inv (cxOf CX P w K mg base N qual scope f cdv A outer s H E) [] (start N vs) H s1:=inv_start S hr.hd e0 hl r x
  refine wpAny_mono (ht [] s1 (start N vs) H _ I hq) (fun fl s' hs=>?_) fun e s' hs=>hs
  have fin:∀ {σ':St} {H':Hp} {v:V} {u:Value},Inv (cxOf CX P w K mg base N qual scope f cdv A outer s H E) [] σ' H' s'→RelV v u→Q v H'→CE outer P w H s Q u s' :=
    fun {σ' H' v u} J rv q=>⟨v,H',J.os,J.bare,J.base,J.hok,rv,q⟩
  cases fl with
  | ret u =>
    obtain ⟨v,σ',H',J,rv,q⟩:=hs
    exact fin J rv q
  | next =>
    obtain ⟨σ',H',J,q⟩:=hs
    exact fin (v:=V.non) (u:=Value.none) J rfl q
  | brk =>
    obtain ⟨_,_,_,q⟩:=hs
    exact False.elim q
  | cont =>
    obtain ⟨_,_,_,q⟩:=hs
    exact False.elim q
end L2
namespace L2
open PySem PySem.Spec PyProof.Rows
section
variable {X:Cx} {x:Str} {p pos:Pos} {e:Expr} {es:List Expr} {t:TA} {id T:String} {r:List V→Hp→VK→Prop}
def tCB (r:List V→Hp→VK→Prop) (t:TA):TE:=fun σ H Q=>t σ H fun vs H1=>r vs H1 Q
theorem pe_callB (hc:CallR X (.builtin id) r) (hg:Gl X x) (hm:X.mg x=none) (hv:bootBuiltins x=some (.builtin id)) (ha:PA X (e :: es) t) (hn:x ≠ "__name__" := by decide) (hdb:(x==("__debug__" : Str))=false:=by decide)
    (he:starEach (e :: es) X.env=(false,eval e X.env) :: starEach es X.env:=by rfl) (hpl:(backTo pos (starEach es X.env)).any (·.1)=false:=by rfl):PE X (.Call (.Name x p) (e :: es) [] pos) (tCB r t):=by
  intro pins s σ H Q I h
  refine wpAny_Call_Name_kw (ld_blt I hg hm hv ?_ hn hdb)
  exact PyProof.Rows.callWith_builtin1 (thn (ha pos pins s σ H _ I h) fun us s1 ⟨vs,H1,I1,r1,q1⟩=>hc pins s1 σ H1 vs us Q I1 r1 q1) he hpl
theorem pe_callTy (hc:CallR X (.type T) r) (hg:Gl X x) (hm:X.mg x=none) (hv:bootBuiltins x=some (.type T)) (ha:PA X (e :: es) t) (hn:x ≠ "__name__" := by decide) (hdb:(x==("__debug__" : Str))=false:=by decide)
    (he:starEach (e :: es) X.env=(false,eval e X.env) :: starEach es X.env:=by rfl) (hpl:(backTo pos (starEach es X.env)).any (·.1)=false:=by rfl):PE X (.Call (.Name x p) (e :: es) [] pos) (tCB r t):=by
  intro pins s σ H Q I h
  refine wpAny_Call_Name_kw (ld_blt I hg hm hv ?_ hn hdb)
  exact PyProof.Rows.callWith_type1 (thn (ha pos pins s σ H _ I h) fun us s1 ⟨vs,H1,I1,r1,q1⟩=>hc pins s1 σ H1 vs us Q I1 r1 q1) he hpl
end
end L2
namespace HT
open PySem PyProof.Rows
section
open PySem.SeqAt
open PySem.AutoSeq1 (wpAny_loadPart')
open PySem.MeetsSeq PySem.MeetsSeq2 PySem.MeetsSeq3
end
section
variable {prog:Program} {w:World} {A:Around} {E:Value→Shared→Prop} {s:Shared}
theorem cat_tup {t b:Addr} {vs ws:List Value} {Q:Value→Shared→Prop} (ht:IsTup s.heap t vs.toArray) (hb:IsTup s.heap b ws.toArray) (hv:vs≠[])
    (h1:ws=[]→Q (.ref t) s) (h2:ws≠[]→Q (.ref s.heap.objs.size) { s with heap:=s.heap.push { cls:=.type "tuple",data:=.seq (vs++ws).toArray } })
    (hsz:vs.length+ws.length≤sizeLine):wpAny (model prog w) A (binaryOp .Add (.ref t) (.ref b)) Q E s:=by
  obtain ⟨⟨cls,dd,data,sl⟩,ho,hc,n,hd⟩:=id ht
  obtain ⟨⟨cls2,dd2,data2,sl2⟩,ho2,hc2,n2,hd2⟩:=id hb
  simp only at hc hd hc2 hd2
  subst hc hd hc2 hd2
  have e:vs.toArray++ws.toArray=(vs++ws).toArray:=by simp
  by_cases hw:ws=[]
  · exact concat_meets ⟨_,ho,rfl⟩ ⟨_,ho2,rfl⟩ noFill_tuple_add seq_tuple_add PySem.F.slot_tuple_add PySem.F.entry_tuple_add (PySem.F.args_tuple_add_2 _ _)
      (tuple_addW1 t b vs.toArray ws.toArray n n2 dd dd2 sl sl2 (by simpa using hv) (by simp [hw])) ⟨ho,ho2,h1 hw⟩
  · refine concat_meets ⟨_,ho,rfl⟩ ⟨_,ho2,rfl⟩ noFill_tuple_add seq_tuple_add PySem.F.slot_tuple_add PySem.F.entry_tuple_add (PySem.F.args_tuple_add_2 _ _)
      (tuple_addW2 t b vs.toArray ws.toArray n n2 dd dd2 sl sl2 (by simpa using hv) (by simpa using hw) (by rw [List.size_toArray,List.size_toArray];exact hsz)) ⟨ho,ho2,?_⟩
    rw [e]
    exact h2 hw
def sIx (n d:Nat):Option Int→Nat
  | none=>d
  | some v=>if v < 0 then (v+(n:Int)).toNat else min v.toNat n
theorem sIx_le (n d:Nat) (hd:d≤n) (o:Option Int):sIx n d o≤n:=by
  cases o with
  | none=>exact hd
  | some v =>
    show (if v < 0 then (v+(n:Int)).toNat else min v.toNat n)≤n
    by_cases hv:v < 0
    · rw [if_pos hv];lia
    · rw [if_neg hv];exact Nat.min_le_right _ _
theorem clip_eq (v:Int) (n d:Nat):(if v < 0 then max (v+(n:Int)) 0 else min v (n:Int))=((sIx n d (some v):Nat):Int):=by
  show (if v < 0 then max (v+(n:Int)) 0 else min v (n:Int))=(((if v < 0 then (v+(n:Int)).toNat else min v.toNat n):Nat):Int)
  by_cases hv:v < 0
  · simp only [if_pos hv];lia
  · simp only [if_neg hv];lia
theorem adjust_gen (lo hi:Option Int) (n:Nat):Builtin.Slice.sliceAdjust lo hi 1 (n:Int)=(((sIx n 0 lo:Nat):Int),((sIx n n hi:Nat):Int)):=by
  have h1:¬ ((1:Int) < 0):=by lia
  unfold Builtin.Slice.sliceAdjust
  simp only [h1,if_false]
  refine Prod.ext ?_ ?_
  · cases lo with
    | none=>rfl
    | some v=>exact clip_eq v n 0
  · cases hi with
    | none=>rfl
    | some v=>exact clip_eq v n n
theorem places_gen (i j:Nat):Builtin.Slice.slicePlaces (i:Int) (j:Int) 1=j-i:=by
  unfold Builtin.Slice.slicePlaces
  have h1:(1:Int) > 0:=by lia
  simp only [h1,if_true,Int.ediv_one]
  split<;>lia
theorem slicePart_ {v:Value} {o:Option Int} {Q:Option Int→Shared→Prop} (p:IsPart v o) (h:Q o s):wpAny (model prog w) A (Builtin.Slice.slicePartIndex v) Q E s:=by
  cases p with
  | none=>exact slicePart_none h
  | int i t=>exact slicePart_int h
theorem sliceApplied_gen {sl:Addr} {vl vu:Value} {lo hi:Option Int} {n:Nat} {Q:Int×Int×Nat→Shared→Prop} (hs:s.heap.IsSliceOf sl vl vu .none) (pl:IsPart vl lo) (pu:IsPart vu hi)
    (h:Q (((sIx n 0 lo:Nat):Int),1,sIx n n hi-sIx n 0 lo) s):wpAny (model prog w) A (Builtin.Slice.sliceApplied (.ref sl) (pure (n:Int))) Q E s:=by
  obtain ⟨os,hos,hcs,hds⟩:=id hs
  unfold Builtin.Slice.sliceApplied Builtin.Slice.sliceFields
  refine wpAny_bind (wpAny_bind (wpAny_field hos hds (x:=vl) rfl (wpAny_bind (wpAny_field hos hds (x:=vu) rfl (wpAny_bind (wpAny_field hos hds (x:=.none) rfl (wpAny_pure ?_)))))))
  refine wpAny_bind (slicePart_none ?_)
  show wpAny _ _ (if ((1:Int)==0)=true then _ else _) _ _ s
  rw [if_neg (by decide)]
  refine wpAny_bind (slicePart_ pl (wpAny_bind (slicePart_ pu (wpAny_bind (wpAny_pure ?_)))))
  show wpAny _ _ (match Builtin.Slice.sliceAdjust lo hi 1 (n:Int) with | (lo,hi)=>pure (lo,(1:Int),Builtin.Slice.slicePlaces lo hi 1)) _ _ s
  rw [adjust_gen lo hi n]
  show wpAny _ _ (pure (((sIx n 0 lo:Nat):Int),(1:Int),Builtin.Slice.slicePlaces ((sIx n 0 lo:Nat):Int) ((sIx n n hi:Nat):Int) 1)) _ _ s
  rw [places_gen]
  exact wpAny_pure h
theorem pick_gen (xs:Array Value) (i k:Nat):((List.range k).filterMap fun (m:Nat)=>xs[((i:Int)+(m:Int)*1).toNat]?).toArray=((xs.toList.drop i).take k).toArray:=by
  have e:(fun (m:Nat)=>xs[((i:Int)+(m:Int)*1).toNat]?)=fun m=>xs[i+m]?:=by
    funext m
    have:((i:Int)+(m:Int)*1).toNat=i+m:=by lia
    rw [this]
  rw [e]
  have:=pick_run xs i k
  rw [List.filterMap_map] at this
  have e2:((fun x=>xs[x]?)∘fun x=>i+x)=fun m=>xs[i+m]?:=rfl
  rw [e2] at this
  rw [this]
theorem getItem_tuple_cut {t sl:Addr} {items:Array Value} {vl vu:Value} {lo hi:Option Int} {Q:Value→Shared→Prop} (ht:IsTup s.heap t items) (hs:s.heap.IsSliceOf sl vl vu .none) (pl:IsPart vl lo) (pu:IsPart vu hi)
    (hw:¬ (sIx items.size 0 lo=0∧sIx items.size items.size hi=items.size))
    (h:Q (.ref s.heap.objs.size) { s with heap:=s.heap.push { cls:=.type "tuple",data:=.seq ((items.toList.drop (sIx items.size 0 lo)).take (sIx items.size items.size hi-sIx items.size 0 lo)).toArray } })
    (hsz:items.size≤sizeLine):wpAny (model prog w) A (getItem (.ref t) (.ref sl)) Q E s:=by
  have htake:sizeOk (.seq ((items.toList.drop (sIx items.size 0 lo)).take (sIx items.size items.size hi-sIx items.size 0 lo)).toArray):=by
    show ((items.toList.drop (sIx items.size 0 lo)).take (sIx items.size items.size hi-sIx items.size 0 lo)).toArray.size≤sizeLine
    rw [List.size_toArray,List.length_take,List.length_drop,Array.length_toList]
    lia
  have hj:sIx items.size items.size hi≤items.size:=sIx_le _ _ (Nat.le_refl _) hi
  obtain ⟨os,hos,hcs,hds⟩:=id hs
  have hTs:s.TypeIs (.ref sl) "slice" := ⟨os,hos,hcs⟩
  unfold getItem
  try with_reducible refine wpAny_holding ?_
  first | refine wpAny_bind (wpAny_pure ?_) | skip
  refine wpAny_bind (wpAny_sequenceKey ht.typeIs (by decide) ?_)
  refine wpAny_bind (wpAny_callSpecial?_slot (name:=Str.ofString "__getitem__") ht.typeIs PyProof.Rows.slot_tuple_getitem
    (wpAny_call_entry PyProof.Rows.slot_tuple_getitem ht.typeIs entry_tuple_getitem ?_ (args_tuple_getitem _ _)))
  show wpAny _ _ (Builtin.Tuple.tupleItemsOf (.ref t) >>= _) _ _ s
  refine wpAny_bind (tupleItemsOf_ ht ?_)
  refine wpAny_bind (wpAny_typeOf hTs ?_)
  rw [if_pos (by decide)]
  refine wpAny_bind (sliceApplied_gen hs pl pu ?_)
  have hno:¬ ((((sIx items.size 0 lo:Nat):Int)==0&&(1:Int)==1&&(sIx items.size items.size hi-sIx items.size 0 lo)==items.size)=true):=by
    intro q
    rw [Bool.and_eq_true,Bool.and_eq_true] at q
    have q1:((sIx items.size 0 lo:Nat):Int)=0:=eq_of_beq q.1.1
    have q2:sIx items.size items.size hi-sIx items.size 0 lo=items.size:=eq_of_beq q.2
    exact hw ⟨by lia,by lia⟩
  show wpAny _ _ (if (((sIx items.size 0 lo:Nat):Int)==0&&(1:Int)==1&&(sIx items.size items.size hi-sIx items.size 0 lo)==items.size)=true then _ else _) _ _ s
  rw [if_neg hno,pick_gen]
  first
    | exact wpAny_bind (m:=Builtin.Tuple.tupleExact _) (wpAny_newObj_type (wpAny_pure ⟨_,rfl,wpAny_pure h⟩) htake)
    | exact wpAny_bind (m:=Builtin.Tuple.tupleExact _) (wpAny_newObj_type (wpAny_bind (wpAny_pure (wpAny_pure ⟨_,rfl,wpAny_pure h⟩))) htake)
    | exact wpAny_bind (wpAny_bind (m:=Builtin.Tuple.tupleExact _) (wpAny_newObj_type (wpAny_pure (wpAny_pure ⟨_,rfl,wpAny_pure h⟩)) htake))
    | exact wpAny_bind (wpAny_bind (m:=Builtin.Tuple.tupleExact _) (wpAny_newObj_type (wpAny_pure ⟨_,rfl,wpAny_pure h⟩) htake))
end
end HT
namespace L2
open PySem PySem.Spec PyProof.Rows
abbrev TO:=St→Hp→(Option Int→Hp→Prop)→Prop
def PO (X:Cx) (e:Option Expr) (t:TO):Prop :=
  ∀ (pins:List (Addr×Obj)) (s:Shared) (σ:St) (H:Hp) (Q:Option Int→Hp→Prop),Inv X pins σ H s→t σ H Q →
    wpAny (model X.prog X.w) X.A (evalPart e X.env) (fun u s'=>∃ o H',Inv X pins σ H' s'∧IsPart u o∧Q o H') X.xe s
def tNoPart:TO:=fun _ H Q=>Q none H
def tPart (t:TE):TO:=fun σ H Q=>t σ H fun x H1=>∃ i,x=.int i∧Q (some i) H1
section
variable {X:Cx} {e:Expr} {te:TE} {lo hi:Option Expr} {tl th:TO} {pos p2:Pos}
theorem po_none:PO X none tNoPart:=by
  intro pins s σ H Q I h
  rw [evalPart_none]
  exact wpAny_pure ⟨none,H,I,.none,h⟩
theorem po_some (h:PE X e te):PO X (some e) (tPart te):=by
  intro pins s σ H Q I hw
  rw [evalPart_some]
  refine thn (h pins s σ H _ I hw) fun u s1 ⟨x,H1,I1,r1,q1⟩=>?_
  obtain ⟨i,rfl,q⟩:=q1
  obtain ⟨t,rfl⟩:=r1
  exact ⟨some i,H1,I1,.int i t,q⟩
def SlR (X:Cx) (r:V→Option Int→Option Int→Hp→VK→Prop):Prop :=
  ∀ (pins:List (Addr×Obj)) (s:Shared) (σ:St) (H:Hp) (x:V) (v vl vu:Value) (lo hi:Option Int) (sl:Addr) (Q:VK),Inv X pins σ H s→RelV x v→s.heap.IsSliceOf sl vl vu .none→IsPart vl lo→IsPart vu hi→r x lo hi H Q →
    ∃ T id,typeLookup (.type T) "__getitem__" = pure (some (.builtin id))∧s.TypeIs v T∧wpAny (model X.prog X.w) X.A (getItem v (.ref sl)) (EP X pins σ Q) X.xe s
theorem SlR.or {r r':V→Option Int→Option Int→Hp→VK→Prop} (h:SlR X r) (h':SlR X r'):SlR X (fun x lo hi H Q=>r x lo hi H Q∨r' x lo hi H Q):=by
  intro pins s σ H x v vl vu lo hi sl Q I rx hs pl pu q
  rcases q with q | q
  · exact h pins s σ H x v vl vu lo hi sl Q I rx hs pl pu q
  · exact h' pins s σ H x v vl vu lo hi sl Q I rx hs pl pu q
def tSl (r:V→Option Int→Option Int→Hp→VK→Prop) (te:TE) (tl th:TO):TE:=fun σ H Q=>te σ H fun x H1=>tl σ H1 fun l H2=>th σ H2 fun u H3=>r x l u H3 Q
theorem pe_slice {r:V→Option Int→Option Int→Hp→VK→Prop} (hr:SlR X r) (he:PE X e te) (hl:PO X lo tl) (hu:PO X hi th):PE X (.Subscript e (.Slice lo hi none p2) pos) (tSl r te tl th):=by
  intro pins s σ H Q I h
  refine Subscript_ (thn (he pins s σ H _ I h) fun v s1 ⟨x,H1,I1,r1,q1⟩=>?_)
  refine wpAny_Slice (thn (hl pins s1 σ H1 _ I1 q1) fun vl s2 ⟨l,H2,I2,pl,q2⟩=>thn (hu pins s2 σ H2 _ I2 q2) fun vu s3 ⟨u,H3,I3,pu,q3⟩=>?_)
  rw [evalPart_none]
  refine wpAny_pure ?_
  have I4:Inv X pins σ H3 { s3 with heap:=s3.heap.push { cls:=.type "slice",data:=.fields #[vl,vu,.none] } }:=I3.kept (t':=s3.toks) fun b ob q=>Heap.get?_push_of_some _ q
  obtain ⟨T,id,hT,ht,hg⟩:=hr pins { s3 with heap:=s3.heap.push { cls:=.type "slice",data:=.fields #[vl,vu,.none] } } σ H3 x v vl vu l u s3.heap.objs.size Q I4 r1 (Heap.IsSliceOf.new ..) pl pu q3
  show wpAny (model X.prog X.w) X.A (subscriptTail e (.Slice lo hi none p2) v (.ref s3.heap.objs.size)) (EP X pins σ Q) X.xe { s3 with heap:=s3.heap.push { cls:=.type "slice",data:=.fields #[vl,vu,.none] } }
  exact tail_any (ops:=[.ref s3.heap.objs.size,v]) ht hT hg (by with_unfolding_all rfl)
def cutV (xs:List V) (lo hi:Option Int):List V:=(xs.drop (HT.sIx xs.length 0 lo)).take (HT.sIx xs.length xs.length hi-HT.sIx xs.length 0 lo)
theorem cutV_length (xs:List V) (lo hi:Option Int):(cutV xs lo hi).length≤xs.length:=by
  unfold cutV
  rw [List.length_take,List.length_drop]
  lia
def rSlT (K:PySem.W.Frag):V→Option Int→Option Int→Hp→VK→Prop:=fun x lo hi H Q=>∃ a xs,x=.ref a∧SqT K H a xs ∧
  ¬ (HT.sIx xs.length 0 lo=0∧HT.sIx xs.length xs.length hi=xs.length)∧∀ p,H p=none→Q (.ref p) (upd H p (.tup (cutV xs lo hi)))
theorem sl_tup:SlR X (rSlT X.K):=by
  intro pins s σ H x v vl vu lo hi sl Q I rx hs pl pu h
  obtain ⟨a,xs,rfl,hx,hw,q⟩:=h
  cases rx
  obtain ⟨its,r,ht,hz⟩:=I.tuple hx
  have hlen:its.toArray.size=xs.length:=by rw [List.size_toArray];exact r.length.symm
  refine ⟨"tuple",_,PyProof.Rows.slot_tuple_getitem.lookup,ht.typeIs,?_⟩
  refine HT.getItem_tuple_cut ht hs pl pu (by rw [hlen];exact hw) ?_ (by rw [hlen];exact hz)
  rw [hlen]
  refine ⟨.ref s.heap.objs.size,_,I.laid (t':=s.toks) (o:=.tup (cutV xs lo hi)) (fun b ob q=>Heap.get?_push_of_some _ q) (Nat.le_refl _) ?_,rfl,q _ (I.hok.fresh (Nat.le_refl _))⟩
  exact ⟨Nat.le_trans (cutV_length xs lo hi) hz,_,(r.drop (HT.sIx xs.length 0 lo)).take (HT.sIx xs.length xs.length hi-HT.sIx xs.length 0 lo),IsTup.new _ _⟩
def rCatT (K:PySem.W.Frag):R2:=fun x y H Q=>∃ a b xs ys,x=.ref a∧y=.ref b∧SqT K H a xs∧SqT K H b ys∧xs≠[]∧xs.length+ys.length≤sizeLine ∧
  (ys=[]→Q (.ref a) H)∧(ys≠[]→∀ p,H p=none→Q (.ref p) (upd H p (.tup (xs++ys))))
theorem Vals.nil_iff {xs:List V} {us:List Value} (r:Vals xs us):us=[]↔xs=[]:=by
  cases r with
  | nil=>simp
  | cons _ _=>simp
theorem op_catT:OpR X (binaryOp .Add) (rCatT X.K):=by
  intro pins s σ H x y v u Q I rx ry h
  obtain ⟨a,b,xs,ys,rfl,rfl,ha,hb,hx,hz,q1,q2⟩:=h
  cases rx
  cases ry
  obtain ⟨its,r1,p1,_⟩:=I.tuple ha
  obtain ⟨its2,r2,p2,_⟩:=I.tuple hb
  refine HT.cat_tup p1 p2 (fun z=>hx (r1.nil_iff.mp z)) (fun z=>⟨.ref a,H,I,rfl,q1 (r2.nil_iff.mp z)⟩) (fun z=>?_) (by rw [←r1.length,←r2.length];exact hz)
  refine ⟨.ref s.heap.objs.size,_,I.laid (t':=s.toks) (o:=.tup (xs++ys)) (fun b ob q=>Heap.get?_push_of_some _ q) (Nat.le_refl _) ?_,rfl,q2 (fun w=>z (r2.nil_iff.mpr w)) _ (I.hok.fresh (Nat.le_refl _))⟩
  exact ⟨by rw [List.length_append];exact hz,_,r1.append r2,IsTup.new _ _⟩
end
end L2
namespace L2
open PySem PySem.Spec PyProof.Rows
def ixN (n:Nat) (i:Int):Option Nat:=if 0≤i then (if i < n then some i.toNat else none) else if -(n:Int)≤i then some (i+n).toNat else none
def atI {α:Type} (xs:List α) (i:Int):Option α:=(ixN xs.length i).bind fun j=>xs[j]?
theorem ixN_seq {n:Nat} {i:Int} {j:Nat} (h:ixN n i=some j):seqIndex? i n=some j∧j < n∧-(n:Int)≤i∧i < n:=by
  unfold ixN at h
  by_cases h0:0≤i
  · rw [if_pos h0] at h
    by_cases h1:i < n
    · rw [if_pos h1] at h
      have e:i.toNat=j:=Option.some.inj h
      exact ⟨by rw [seqIndex_of h0 h1,e],by lia,by lia,h1⟩
    · rw [if_neg h1] at h;cases h
  · rw [if_neg h0] at h
    by_cases h1:-(n:Int)≤i
    · rw [if_pos h1] at h
      have e:(i+n).toNat=j:=Option.some.inj h
      exact ⟨by rw [seqIndex_neg (by lia) h1,e],by lia,h1,by lia⟩
    · rw [if_neg h1] at h;cases h
theorem atI_get {α:Type} {xs:List α} {i:Int} {v:α} (h:atI xs i=some v):∃ j,seqIndex? i xs.length=some j∧xs[j]?=some v∧j < xs.length∧-(xs.length:Int)≤i∧i < xs.length:=by
  unfold atI at h
  cases e:ixN xs.length i with
  | none=>rw [e] at h;cases h
  | some j =>
    rw [e] at h
    obtain ⟨h1,h2,h3,h4⟩:=ixN_seq e
    exact ⟨j,h1,h,h2,h3,h4⟩
def PlainIx (b:Expr):Prop:=∀ o i,subscripted b false o i=operate [o,i] (getItem o i)
def IxR (X:Cx) (r:R2):Prop :=
  ∀ (value slice:Expr) (pins:List (Addr×Obj)) (s:Shared) (σ:St) (H:Hp) (x y:V) (v u:Value) (Q:VK),Inv X pins σ H s→RelV x v→RelV y u→r x y H Q →
    subscripted slice false v u=operate [v,u] (getItem v u)→wpAny (model X.prog X.w) X.A (subscriptTail value slice v u) (EP X pins σ Q) X.xe s
def MtR (X:Cx) (id:String) (r:V→List V→Hp→VK→Prop):Prop :=
  ∀ (pins:List (Addr×Obj)) (s:Shared) (σ:St) (H:Hp) (x:V) (xs:List V) (v:Value) (us:List Value) (Q:VK),Inv X pins σ H s→RelV x v→Vals xs us→r x xs H Q →
    wpAny (model X.prog X.w) X.A (call (.builtin id) (v :: us)) (EP X pins σ Q) X.xe s
section
variable {X:Cx} {a b:Expr} {ta tb:TE} {pos:Pos}
theorem IxR.or {r r':R2} (h:IxR X r) (h':IxR X r'):IxR X (fun x y H Q=>r x y H Q∨r' x y H Q):=by
  intro value slice pins s σ H x y v u Q I rx ry q hs
  rcases q with q | q
  · exact h value slice pins s σ H x y v u Q I rx ry q hs
  · exact h' value slice pins s σ H x y v u Q I rx ry q hs
theorem MtR.or {id:String} {r r':V→List V→Hp→VK→Prop} (h:MtR X id r) (h':MtR X id r'):MtR X id (fun x xs H Q=>r x xs H Q∨r' x xs H Q):=by
  intro pins s σ H x xs v us Q I rx rs q
  rcases q with q | q
  · exact h pins s σ H x xs v us Q I rx rs q
  · exact h' pins s σ H x xs v us Q I rx rs q
theorem pe_ix {r:R2} (hr:IxR X r) (ha:PE X a ta) (hb:PE X b tb) (hs:PlainIx b):PE X (.Subscript a b pos) (tOp r ta tb):=by
  intro pins s σ H Q I h
  exact Subscript_ (binT ha hb I h fun v u s2 x y H2 I2 rx ry q=>hr a b pins s2 σ H2 x y v u Q I2 rx ry q (hs _ _))
def rIxL (K:PySem.W.Frag):R2:=fun x y H Q=>∃ p xs i v,x=.ref p∧y=.int i∧SqL K H p xs∧atI xs i=some v∧Q v H
def rIxT (K:PySem.W.Frag):R2:=fun x y H Q=>∃ p xs i v,x=.ref p∧y=.int i∧SqT K H p xs∧atI xs i=some v∧Q v H
def rIxS:R2:=fun x y H Q=>∃ z i c,x=.str z∧y=.int i∧z.length≤sizeLine∧atI z.cps.toList i=some c∧Q (.str ⟨#[c]⟩) H
theorem ix_list:IxR X (rIxL X.K):=by
  intro value slice pins s σ H x y v u Q I rx ry h hs
  obtain ⟨p,xs,i,z,rfl,rfl,hq,he,q⟩:=h
  cases rx
  obtain ⟨t,rfl⟩:=ry
  obtain ⟨its,r,pl,hz⟩:=I.list hq
  obtain ⟨j,h1,h2,h3,h4,h5⟩:=atI_get he
  obtain ⟨w,ew,rw'⟩:=r.get h2
  have hl:=r.length
  have hn:=line63
  have fin:EP X pins σ Q w s:=⟨z,H,I,rw',q⟩
  by_cases h0:0≤i
  · have hj:i.toNat=j:=by
      rw [seqIndex_of h0 h5] at h1
      exact Option.some.inj h1
    exact item_listR pl.isList h0 (by lia) (by rw [hj];simpa using ew) fin hs
  · have hj:(i+(its.toArray.size:Int)).toNat=j:=by
      rw [seqIndex_neg (by lia) h4] at h1
      rw [List.size_toArray,←hl]
      exact Option.some.inj h1
    exact subscriptTail_builtinR (x:=w) pl.isList.typeIs slot_list_getitem.lookup
      (wpAny_getItem_list_neg (Q:=fun r s'=>r=w∧EP X pins σ Q r s') pl.isList (by lia) (by rw [List.size_toArray]<;>lia) (by lia) (by rw [hj];simpa using ew) ⟨rfl,fin⟩) hs
theorem ix_tup:IxR X (rIxT X.K):=by
  intro value slice pins s σ H x y v u Q I rx ry h hs
  obtain ⟨p,xs,i,z,rfl,rfl,hq,he,q⟩:=h
  cases rx
  obtain ⟨t,rfl⟩:=ry
  obtain ⟨its,r,pl,hz⟩:=I.tuple hq
  obtain ⟨j,h1,h2,h3,h4,h5⟩:=atI_get he
  obtain ⟨w,ew,rw'⟩:=r.get h2
  have hl:=r.length
  have hn:=line63
  have fin:EP X pins σ Q w s:=⟨z,H,I,rw',q⟩
  exact subscriptTail_builtinR (x:=w) pl.typeIs slot_tuple_getitem.lookup
    (getItem_tuple (j:=j) (Q:=fun r s'=>r=w∧EP X pins σ Q r s') pl (by lia) (by lia) (by rw [List.size_toArray,←hl];exact h1) (by simpa using ew) ⟨rfl,fin⟩) hs
theorem ix_str:IxR X rIxS:=by
  intro value slice pins s σ H x y v u Q I rx ry h hs
  obtain ⟨z,i,c,rfl,rfl,hz,he,q⟩:=h
  obtain ⟨t,rfl⟩:=rx
  obtain ⟨t',rfl⟩:=ry
  obtain ⟨j,h1,h2,h3,h4,h5⟩:=atI_get he
  have hl:z.cps.toList.length=z.length:=by simp [Str.length]
  rw [hl] at h1 h4 h5
  have hn:=line63
  exact tail_any (typeIs_str s z t) slot_str_getitem.lookup (getItem_str (c:=c) (by
    have e1:decide (i < -(2 ^ 63:Int))=false:=decide_eq_false (by lia)
    have e2:decide (i≥2 ^ 63)=false:=decide_eq_false (by lia)
    rw [e1,e2,Bool.or_false]) (by rw [h1];simpa using h2) ⟨.str ⟨#[c]⟩,H,I.tok _,⟨_,rfl⟩,q⟩) hs
def rIx (K:PySem.W.Frag):R2:=fun x y H Q=>rIxL K x y H Q∨rIxT K x y H Q∨rIxS x y H Q
theorem ix_seq:IxR X (rIx X.K):=ix_list.or (ix_tup.or ix_str)
theorem slice_bounds (lo hi:Option Int) (n:Nat):(sliceBounds lo hi none n).1=((HT.sIx n 0 lo:Nat):Int)∧(sliceBounds lo hi none n).2.1=((HT.sIx n n hi:Nat):Int)∧(sliceBounds lo hi none n).2.2=1:=by
  refine ⟨?_,?_,rfl⟩
  · cases lo with
    | none=>simp [sliceBounds,HT.sIx]
    | some i =>
      simp only [sliceBounds,HT.sIx,Option.getD_none,show (1:Int) > 0 by decide,if_true]
      by_cases h:i < 0
      · simp only [h,if_true]<;>lia
      · simp only [h,if_false]<;>lia
  · cases hi with
    | none=>simp [sliceBounds,HT.sIx]
    | some i =>
      simp only [sliceBounds,HT.sIx,Option.getD_none,show (1:Int) > 0 by decide,if_true]
      by_cases h:i < 0
      · simp only [h,if_true]<;>lia
      · simp only [h,if_false]<;>lia
theorem slicePick_cut (its:List Value) (lo hi:Option Int):slicePick its.toArray lo hi none=((its.drop (HT.sIx its.length 0 lo)).take (HT.sIx its.length its.length hi-HT.sIx its.length 0 lo)).toArray:=by
  obtain ⟨h1,h2,h3⟩:=slice_bounds lo hi its.toArray.size
  unfold slicePick
  rw [h1,h2,h3]
  simp only [sliceRange_one,pick_run,List.size_toArray]<;>rfl
def rSlL (K:PySem.W.Frag):V→Option Int→Option Int→Hp→VK→Prop:=fun x lo hi H Q=>∃ a xs,x=.ref a∧SqL K H a xs∧∀ p,H p=none→Q (.ref p) (upd H p (.lst (cutV xs lo hi)))
theorem sl_list:SlR X (rSlL X.K):=by
  intro pins s σ H x v vl vu lo hi sl Q I rx hs pl pu h
  obtain ⟨a,xs,rfl,hx,q⟩:=h
  cases rx
  obtain ⟨its,r,ht,hz⟩:=I.list hx
  have hlen:=r.length
  refine ⟨"list",_,slot_list_getitem.lookup,ht.isList.typeIs,?_⟩
  refine wpAny_getItem_list_slice ht.isList hs pl pu .none (by simp) ?_ (by rw [List.size_toArray]<;>lia)
  rw [slicePick_cut,←hlen]
  refine ⟨.ref s.heap.objs.size,_,I.laid (t':=s.toks) (o:=.lst (cutV xs lo hi)) (fun b ob q=>Heap.get?_push_of_some _ q) (Nat.le_refl _) ?_,rfl,q _ (I.hok.fresh (Nat.le_refl _))⟩
  exact ⟨Nat.le_trans (cutV_length xs lo hi) hz,_,0,(r.drop (HT.sIx xs.length 0 lo)).take (HT.sIx xs.length xs.length hi-HT.sIx xs.length 0 lo),Heap.get?_push_size _ rfl⟩
theorem CallR.or {f:Value} {r r':List V→Hp→VK→Prop} (h:CallR X f r) (h':CallR X f r'):CallR X f (fun xs H Q=>r xs H Q∨r' xs H Q):=by
  intro pins s σ H xs us Q I rs q
  rcases q with q | q
  · exact h pins s σ H xs us Q I rs q
  · exact h' pins s σ H xs us Q I rs q
theorem call_list_of:CallR X (.type "list") (fun xs H Q=>∃ p ys,xs=[.ref p]∧(SqL X.K H p ys∨SqT X.K H p ys)∧∀ l,H l=none→Q (.ref l) (upd H l (.lst ys))):=by
  intro pins s σ H xs us Q I r h
  obtain ⟨p,ys,rfl,hq,q⟩:=h
  obtain ⟨u,rfl,rx⟩:=vals1 r
  cases rx
  have fin:∀ (its:List Value),Vals ys its→ys.length≤sizeLine→∀ (h':Heap) (c':Nat),(∀ b o',s.heap.get? b=some o'→h'.get? b=some o') →
      h'.get? s.heap.objs.size=some { cls:=.type "list",dict:=none,data:=.seq its.toArray c',slots:=#[] }→EP X pins σ Q (.ref s.heap.objs.size) { s with heap:=h' }:=fun its r' hz h' c' kp e =>
    ⟨.ref s.heap.objs.size,_,I.laid (t':=s.toks) kp (Nat.le_refl _) (show ObjOk X.prog X.w _ h' _ (.lst ys) from ⟨hz,its,c',r',e⟩),rfl,q _ (I.hok.fresh (Nat.le_refl _))⟩
  rcases hq with hq | hq
  · obtain ⟨its,r',pl,hz⟩:=I.list hq
    have hlen:=r'.length
    obtain ⟨o,ho,hc,n,hd⟩:=pl.isList
    exact call_list_seq p (.inl rfl) ho hc hd (fun h' c' kp e=>fin its r' hz h' c' kp e) (by simp only [List.size_toArray]<;>lia)
  · obtain ⟨its,r',pl,hz⟩:=I.tuple hq
    have hlen:=r'.length
    obtain ⟨o,ho,hc,n,hd⟩:=pl
    exact call_list_seq p (.inr rfl) ho hc hd (fun h' c' kp e=>fin its r' hz h' c' kp e) (by simp only [List.size_toArray]<;>lia)
theorem call_tuple_of:CallR X (.type "tuple") (fun xs H Q=>∃ p ys,xs=[.ref p]∧((SqL X.K H p ys∧∀ l,H l=none→Q (.ref l) (upd H l (.tup ys)))∨(SqT X.K H p ys∧Q (.ref p) H))):=by
  intro pins s σ H xs us Q I r h
  obtain ⟨p,ys,rfl,h⟩:=h
  obtain ⟨u,rfl,rx⟩:=vals1 r
  cases rx
  rcases h with ⟨hq,q⟩ | ⟨hq,q⟩
  · obtain ⟨its,r',pl,hz⟩:=I.list hq
    have hlen:=r'.length
    refine call_tuple_list pl.isList (fun h' kp=>?_) (by simp only [List.size_toArray]<;>lia)
    have I1:Inv X pins σ H { s with heap:=h' }:=I.kept (t':=s.toks) kp
    have I2:Inv X pins σ (upd H h'.objs.size (.tup ys)) { s with heap:=h'.push { cls:=.type "tuple",data:=.seq its.toArray } } :=
      I1.laid (t':=s.toks) (fun b o e=>Heap.get?_push_of_some _ e) (Nat.le_refl _) (show ObjOk X.prog X.w _ _ _ (.tup ys) from ⟨hz,its,r',IsTup.new _ _⟩)
    exact ⟨.ref h'.objs.size,_,I2,rfl,q _ (I1.hok.fresh (Nat.le_refl _))⟩
  · obtain ⟨its,r',pl,hz⟩:=I.tuple hq
    exact call_tuple_same pl ⟨.ref p,H,I,rfl,q⟩
def tyV (K:PySem.W.Frag) (T:String) (x:V) (H:Hp):Prop:=match x with
  | .str _=>T = "str"
  | .int _=>T = "int"
  | .ref p=>(T = "list" ∧ ∃ xs,SqL K H p xs)∨(T = "tuple" ∧ ∃ o,K.lookup p=some o∧o.cls=.type "tuple" ∧ o.dict=none) ∨
      (T = "dict" ∧ ((∃ kvs,H p=some (.dK kvs))∨∃ kvs,H p=some (.dT kvs)))∨(T = "set" ∧ ∃ S n,H p=some (.set S n))
  | _=>False
theorem tyV_is {pins : List (Addr × Obj)} {σ : St} {H : Hp} {s : Shared} {T : String} {x : V} {v : Value} (I : Inv X pins σ H s) (r : RelV x v) (ty : tyV X.K T x H) :
    s.TypeIs v T∧∀ a,v=.ref a→∃ ob,s.heap.get? a=some ob∧ob.dict=none:=by
  cases x with
  | str z =>
    obtain ⟨t,rfl⟩:=r
    cases (show T = "str" from ty)
    exact ⟨typeIs_str s z t,fun _ e=>nomatch e⟩
  | int i =>
    obtain ⟨t,rfl⟩:=r
    cases (show T = "int" from ty)
    exact ⟨typeIs_int s i t,fun _ e=>nomatch e⟩
  | ref p =>
    cases r
    rcases ty with ⟨rfl,xs,hq⟩ | ⟨rfl,o,hk,hc,hd⟩ | ⟨rfl,hk⟩ | ⟨rfl,S,n,hk⟩
    · obtain ⟨its,_,pl,_⟩:=I.list hq
      refine ⟨pl.isList.typeIs,fun a e=>?_⟩
      cases e
      obtain ⟨o,n,e,c,hd,_⟩:=pl
      exact ⟨o,e,hd⟩
    · refine ⟨⟨o,I.kIn p o hk,hc⟩,fun a e=>?_⟩
      cases e
      exact ⟨o,I.kIn _ o hk,hd⟩
    · have z:∃ o,s.heap.get? p=some o∧o.ExactDict:=by
        rcases hk with ⟨kvs,hk⟩ | ⟨kvs,hk⟩
        · obtain ⟨_,_,_,_,o,_,_,e,ex,_⟩:=I.hok p _ hk
          exact ⟨o,e,ex⟩
        · obtain ⟨_,_,_,_,o,_,_,e,ex,_⟩:=I.hok p _ hk
          exact ⟨o,e,ex⟩
      obtain ⟨o,e,ex⟩:=z
      refine ⟨⟨o,e,ex.1⟩,fun a e2=>?_⟩
      cases e2
      exact ⟨o,e,ex.2.1⟩
    · obtain ⟨o,_,_,_,e,ex,_⟩:=I.hok p _ hk
      refine ⟨⟨o,e,ex.1⟩,fun a e2=>?_⟩
      cases e2
      exact ⟨o,e,ex.2.1⟩
  | _=>exact False.elim ty
def tBM (K:PySem.W.Frag) (T:String) (r:V→List V→Hp→VK→Prop) (to:TE) (t:TA):TE:=fun σ H Q=>to σ H fun x H1=>tyV K T x H1∧t σ H1 fun xs H2=>r x xs H2 Q
variable {o e:Expr} {es:List Expr} {to:TE} {t:TA} {name:Str} {apos cpos:Pos} {T id:String} {r:V→List V→Hp→VK→Prop}
theorem pe_bm (pa:PlainAttrs T) (slot:Slot T name id) (hty:typeOf (.builtin id)=pure (.type "method_descriptor")) (hm:MtR X id r) (ho:PE X o to) (ha:PA X (e :: es) t)
    (hbase:attributeBase o name X.env (eval o X.env)=eval o X.env:=by rfl)
    (hfew:((backTo cpos (starEach (e :: es) X.env)).all (fun x=>!x.1)&&(backToKw cpos (keywordEach [] X.env)).all (fun x=>x.1.isSome)
      && decide ((e :: es).length+([]:List Keyword).length+(if ([]:List Keyword).isEmpty then 0 else 1) < 30))=true:=by rfl)
    (hline:(apos.endLine==cpos.line)=true:=by rfl) (hs:starEach (e :: es) X.env=(false,eval e X.env) :: starEach es X.env:=by rfl) (hplain:(backTo cpos (starEach es X.env)).any (·.1)=false:=by rfl) :
    PE X (.Call (.Attribute o name apos) (e :: es) [] cpos) (tBM X.K T r to t):=by
  intro pins s σ H Q I h
  refine wpAny_Call_method_late hbase hfew hline rfl (thn (ho pins s σ H _ I h) fun v s1 ⟨x,H1,I1,r1,ty,q1⟩=>?_)
  obtain ⟨h1,h2⟩:=tyV_is I1 r1 ty
  refine ⟨T,id,pa,slot,hty,h1,h2,?_⟩
  have hA:=ha cpos pins s1 σ H1 _ I1 q1
  rw [hs] at hA ⊢
  refine Calls.callWith_builtin (by show (false || (backTo cpos (starEach es X.env)).any (·.1))=false;rw [hplain]<;>rfl) (Calls.evalArgs_plain ?_)
  exact thn hA fun us s2 ⟨vs,H2,I2,r2,q2⟩=>hm pins s2 σ H2 x vs v us Q I2 r1 r2 q2
/- xs.append(e),list.index on a module's tuple .. are MtR facts of 06m -/
end
end L2
namespace L2
open PySem PySem.Spec PyProof.Rows
def MtM (X:Cx) (id:String) (r:V→List V→Hp→VK→Prop):Prop :=
  ∀ (pins:List (Addr×Obj)) (s:Shared) (σ:St) (H:Hp) (x:V) (xs:List V) (v:Value) (us:List Value) (Q:VK),Inv X pins σ H s→RelV x v→Vals xs us→r x xs H Q →
    wpAny (model X.prog X.w) X.A (call (.builtin id) (v :: us)) (EP X pins σ Q) X.xe s
theorem Vals.one:∀ {x:V} {us:List Value},Vals [x] us→∃ u,us=[u]∧RelV x u
  | _,_,.cons r .nil=>⟨_,rfl,r⟩
theorem Vals.zero:∀ {us:List Value},Vals [] us→us=[]
  | _,.nil=>rfl
theorem Vals.eraseIdx:∀ {xs:List V} {us:List Value} (i:Nat),Vals xs us→Vals (xs.eraseIdx i) (us.eraseIdx i)
  | _,_,_,.nil=>.nil
  | _,_,0,.cons _ t=>t
  | _,_,i+1,.cons r t=>.cons r (Vals.eraseIdx i t)
theorem Vals.reverse {xs:List V} {us:List Value} (h:Vals xs us):Vals xs.reverse us.reverse:=by
  induction h with
  | nil=>exact .nil
  | cons r t ih=>rw [List.reverse_cons,List.reverse_cons];exact Vals.append ih (.cons r .nil)
section
variable {X:Cx} {pins:List (Addr×Obj)} {σ:St} {H:Hp} {s:Shared} {l b:Addr} {xs ys zs:List V}
theorem Inv.lset {its its':List Value} {n:Nat} {f:Array Value→Array Value} {t':Nat} (I:Inv X pins σ H s) (hH:H l=some (.lst xs))
    (e:s.heap.get? l=some { cls:=.type "list",data:=.seq its.toArray n }) (hf:f its.toArray=its'.toArray) (hv:Vals ys its') (hz:ys.length≤sizeLine) :
    Inv X pins σ (upd H l (.lst ys)) { s with heap:=s.heap.update l (Obj.mapSeq f),toks:=t' }:=by
  have q:=PySem.IsL.update e f
  rw [hf] at q
  refine I.write (x:=l) (e:=l) (by rw [hH];exact trivial) (.inl rfl) (fun b' u hb hu=>(Heap.get?_update_other s.heap (Obj.mapSeq f) (Ne.symm hb)).trans hu) ⟨_,q⟩ ?_
  exact ⟨hz,its',_,hv,q⟩
theorem Inv.lnew {its:List Value} {t':Nat} (I:Inv X pins σ H s) (hv:Vals ys its) (hz:ys.length≤sizeLine) :
    Inv X pins σ (upd H s.heap.objs.size (.lst ys)) { s with heap:=s.heap.push { cls:=.type "list",data:=.seq its.toArray },toks:=t' } :=
  I.laid (fun _ _ q=>Heap.get?_push_of_some _ q) (Nat.le_refl _) ⟨hz,its,0,hv,Heap.get?_push_size _ rfl⟩
theorem Inv.fresh (I:Inv X pins σ H s):H s.heap.objs.size=none:=I.hok.fresh (Nat.le_refl _)
theorem Inv.lstM (I:Inv X pins σ H s) (hH:H l=some (.lst xs)):xs.length≤sizeLine∧∃ (its:List Value) (n:Nat),Vals xs its∧xs.length=its.length∧s.heap.get? l=some { cls:=.type "list",data:=.seq its.toArray n }:=by
  obtain ⟨z,its,n,r,e⟩:=I.hok l _ hH
  exact ⟨z,its,n,r,r.length,e⟩
theorem notLongL {n:Nat} (h:n≤sizeLine):Builtin.List.listTooLong n=false:=by
  unfold Builtin.List.listTooLong
  exact decide_eq_false (by lia)
end
section
variable {X:Cx}
def rAppend:V→List V→Hp→VK→Prop:=fun x vs H Q=>∃ l xs y,x=.ref l∧vs=[y]∧H l=some (.lst xs)∧xs.length < sizeLine∧Q .non (upd H l (.lst (xs++[y])))
theorem mt_append:MtM X "list.append" rAppend:=by
  intro pins s σ H x vs v us Q I rx rv h
  obtain ⟨l,xs,y,rfl,rfl,hH,hz,q⟩:=h
  cases rx
  obtain ⟨u,rfl,ru⟩:=rv.one
  obtain ⟨z,its,n,r,hl,e⟩:=I.lstM hH
  refine call_meets F.slot_list_append ⟨_,e,rfl⟩ F.entry_list_append (F.args_list_append_2 _ _) (PySem.list_append l its.toArray n u (by rw [List.size_toArray];lia)) ⟨e,?_⟩
  refine ⟨.non,_,I.lset (its':=its++[u]) hH e (by simp) (r.append (.cons ru .nil)) ?_,rfl,q⟩
  rw [List.length_append,List.length_singleton]
  lia
def rExtend:V→List V→Hp→VK→Prop:=fun x vs H Q=>∃ l b xs zs,x=.ref l∧vs=[.ref b]∧H l=some (.lst xs)∧H b=some (.lst zs)∧xs.length+zs.length≤sizeLine∧Q .non (upd H l (.lst (xs++zs)))
theorem mt_extend:MtM X "list.extend" rExtend:=by
  intro pins s σ H x vs v us Q I rx rv h
  obtain ⟨l,b,xs,zs,rfl,rfl,hH,hB,hz,q⟩:=h
  cases rx
  obtain ⟨u,rfl,ru⟩:=rv.one
  cases ru
  obtain ⟨z,its,n,r,hl,e⟩:=I.lstM hH
  obtain ⟨z2,its2,n2,r2,hl2,e2⟩:=I.lstM hB
  have hsz:its.toArray.size+its2.toArray.size≤sizeLine:=by rw [List.size_toArray,List.size_toArray];lia
  have hlong:¬ (!its.toArray.isEmpty&&Builtin.List.listTooLong (its.toArray.size+its2.toArray.size))=true:=by
    rw [notLongL hsz,Bool.and_false]
    exact Bool.false_ne_true
  refine call_meets F.slot_list_extend ⟨_,e,rfl⟩ F.entry_list_extend (F.args_list_extend_2 _ _)
    (AutoSeq1.list_extend_list_list_0 l its.toArray n b its2.toArray n2 hlong (by rw [List.size_toArray];lia) (by lia)) ⟨e,e2,?_⟩
  refine ⟨.non,_,I.lset (its':=its++its2) hH e (by simp) (r.append r2) ?_,rfl,q⟩
  rw [List.length_append]
  lia
end
section
variable {prog:Program} {w:World} {A:Around} {E:Value→Shared→Prop} {s:Shared}
set_option maxRecDepth 100000 in
end
section
variable {X:Cx}
end
end L2
namespace Att
open PySem PySem.W PySem.Calls PyProof.Rows
theorem ints_of_wellAll {P:Params} {h:Heap}:∀ (ns:List Int) (vs:List Value),WellAll P h vs (ns.map WData.int)→IntsAre vs ns:=by
  intro ns
  induction ns with
  | nil =>
    intro vs w
    rw [List.map_nil] at w
    cases w
    exact .nil
  | cons n ns ih =>
    intro vs w
    rw [List.map_cons] at w
    cases w with
    | cons a b =>
      cases a
      exact .cons _ _ (ih _ b)
theorem script_of {l:OpenLaw} {n:Nat} (hn:l.most=some n) {P:Params} {h:Heap} {args:List WData} {vals:List Value}
    (hpre:l.row.toRowW.claim.pre args=true) (hwl:WellAll P h vals args) :
    ∃ a vs ns,vals=[Value.ref a]∧args=[WData.list (ns.map WData.int)]∧h.get? a=some { cls:=.type "list",data:=.seq vs.toArray }∧IntsAre vs ns∧ns.length≤n:=by
  have hsh:WShape.hasAll [] args [.list .int]=true:=(pre_splitW hpre).1
  have hc:l.pre.holds [] { args:=args }=true:=(pre_splitW hpre).2
  obtain ⟨d,r,rfl,h1,h2⟩:=hasAllW_cons hsh
  obtain rfl:=hasAllW_nil h2
  obtain ⟨xs,rfl,h3⟩:=hasW_list h1
  obtain ⟨ns,rfl⟩:=items_int h3
  have hlen:ns.length≤n:=by
    unfold OpenLaw.pre at hc
    have h4:(WTm.not (.lt (.lit (.int (n:Int))) (.len (.arg 0)))).holds [] { args:=[.list (ns.map .int)] }=true:=by
      have h4:=(holds_andW hc).1
      rw [hn] at h4
      exact h4
    have h5:=condW_of h4 (w_not (w_lt w_lit (w_len_list (w_arg rfl))))
    rw [List.length_map] at h5
    refine Nat.le_of_not_lt fun q=>?_
    have q':(n:Int) < ((ns.length:Nat):Int):=by lia
    first
      | (rw [decide_eq_true q'] at h5;exact absurd h5 (by decide))
      | (simp at h5;lia)
  cases hwl with
  | cons w1 w2 =>
    cases w2
    cases w1 with
    | list ho hall=>exact ⟨_,_,ns,rfl,rfl,ho,ints_of_wellAll ns _ hall,hlen⟩
theorem post_true (l:OpenLaw) (args:List WData):l.row.toRowW.claim.post args (.bool true) args=true :=
  postW_of (r:=l.row.toRowW) (X:=(true==true))
    (show WShape.has [] (.bool true) .bool=true by first | rfl | decide | simp [WShape.has,WShape.arms,WShape.armsAll])
    (show (WTm.eq .res (.lit (.bool true))).value [] { args:=args,res:=some (.bool true),after:=args }=some (.bool (true==true)) from w_eq_bool (w_res rfl) w_lit) rfl
section
variable {prog:Program} {w:World} {A:Around} {E:Value→Shared→Prop} {s:Shared} {K:Frag}
end
end Att
namespace L2
open PySem PySem.Spec PyProof.Rows
theorem vals_ints:∀ {vs:List Value} {ns:List Int},IntsAre vs ns→Vals (ns.map V.int) vs
  | _,_,.nil=>.nil
  | _,_,.cons n t h=>.cons ⟨t,rfl⟩ (vals_ints h)
def Only (H:Hp):Prop:=∀ b,H b=none∨(∃ o xs,H b=some (.frz o (.lst xs)))∨∃ q,H b=some (.tbl q)
def TabAt (K:PySem.W.Frag) (x:Str) (b:Addr):Prop:=x∈lamNames∧∃ c,PySem.W.tabIn K x=some (c,b)
theorem lam_one {K:PySem.W.Frag} (one:∀ x y c P c' ,x∈lamNames→y∈lamNames→PySem.W.tabIn K x=some (c,P)→PySem.W.tabIn K y=some (c',P)→x=y) {x y:Str} {b:Addr} (h:TabAt K x b) (g:TabAt K y b):x=y:=by
  obtain ⟨h1,c,h2⟩:=h
  obtain ⟨g1,d,g2⟩:=g
  exact one x y c b d h1 g1 h2 g2
open Classical in
noncomputable def tabH (K:PySem.W.Frag) (a:Addr) (u:HO) (s:Bool):Hp:=fun b=>if h:∃ x,TabAt K x b then some (.tbl (lamQ h.choose)) else if s=true∧b=a then some u else none
theorem law_call {P : Program} {w : World} {K : PySem.W.Frag} {mg mb : Str → Option Value} {CX : CXT} {k : Nat} {fa a : Addr} {fd : FuncData} {x : Str} {sp : Sp} {s₁ : Shared} {vs : List Value} {ns : List Int}
    (KX:K.In s₁.heap) (hns:s₁.heap.Ns mainGlobals mg) (hb:s₁.heap.Ns builtinsNs mb) (hbb:∀ x:Str,x ≠ "__name__" → mb x=bootBuiltins x) (hlim:s₁.heap.NoLimit) (hg:s₁.gens=#[])
    (ha:s₁.heap.get? a=some { cls:=.type "list",data:=.seq vs.toArray }) (hi:IntsAre vs ns) (hl:ns.length≤sizeLine) (hr:Room k callerA)
    (F:∀ base:Heap,K.In base→base.Ns mainGlobals mg→FnOk P w K mg base CX k fa fd [x] sp) (hbind:∀ (s:Shared) (u:Value),BindsTo s fd ⟨[u],[]⟩ [(x,u)])
    (hsp:∀ H:Hp,Only H→SqL K H a (ns.map V.int)→sp [.ref a] H (fun v _=>v=.bl true) fun _ _ _=>False)
    (hCX:∀ H e s',CX [] H s₁ (fun _ _ _=>False) e s'→False)
    (one:∀ x y c P c' ,x∈lamNames→y∈lamNames→PySem.W.tabIn K x=some (c,P)→PySem.W.tabIn K y=some (c',P)→x=y)
    (tab:∀ x∈lamNames,∀ c P,PySem.W.tabIn K x=some (c,P)→(PySem.W.CodeHd s₁.heap c P∧s₁.heap.get? P=some (PySem.W.tabObj #[]))∧s₁.heap.TableAt c P #[]) (bm:BMain mg s₁.heap) (noT:PySem.W.noTabs K=true) :
    codeAny (model P w) callerA (.call (.ref fa) ⟨[.ref a],[]⟩) (fun r s'=>r=.ok (.ret (.bool true))∧OldK s₁.heap s'.heap∧s'.os=s₁.os∧AllBare s'.gens) s₁:=by
  have rv:=vals_ints hi
  have lenV:=hi.length
  have tabG:∀ {b:Addr} {y:Str},TabAt K y b→s₁.heap.get? b=some (PySem.W.tabObj #[]):=fun {b y} ⟨h1,c,h2⟩=>(tab y h1 c b h2).1.2
  have notab:∀ {b:Addr} {o:Obj},s₁.heap.get? b=some o→o≠PySem.W.tabObj #[]→¬ ∃ y,TabAt K y b:=fun {b o} e n ⟨y,h⟩=>by
    have:=tabG h
    rw [e] at this
    exact n (Option.some.inj this)
  have at1:∀ {b:Addr} {u:HO} {q:Bool} {y:Str},TabAt K y b→tabH K a u q b=some (.tbl (lamQ y)):=fun {b u q y} h=>by
    have hh:∃ x,TabAt K x b:=⟨y,h⟩
    unfold tabH
    rw [dif_pos hh]
    rw [lam_one one hh.choose_spec h]
  have at2:∀ {b:Addr} {u:HO} {q:Bool},(¬ ∃ y,TabAt K y b)→tabH K a u q b=if q=true∧b=a then some u else none:=fun {b u q} h=>by
    unfold tabH
    rw [dif_neg h]
  -- from an abstract heap in which nothing but the script and the tables may be tracked
  have core:∀ (u:HO) (q:Bool),(∃ o xs,u=.frz o (.lst xs))→SqL K (tabH K a u q) a (ns.map V.int)→(q=true→ObjOk P w (tabH K a u q) s₁.heap a u)→(q=true→K.lookup a=none) →
      codeAny (model P w) callerA (.call (.ref fa) ⟨[.ref a],[]⟩) (fun r s'=>r=.ok (.ret (.bool true))∧OldK s₁.heap s'.heap∧s'.os=s₁.os∧AllBare s'.gens) s₁:=by
    intro u q hu hS hua hK
    generalize hHH:tabH K a u q=H at hS hua
    have na:¬ ∃ y,TabAt K y a:=notab ha fun z=>by cases z
    have of:∀ {b:Addr} {v:HO},H b=some v→(∃ y,TabAt K y b∧v=.tbl (lamQ y))∨(q=true∧b=a∧v=u):=fun {b v} e=>by
      by_cases hb:∃ y,TabAt K y b
      · obtain ⟨y,hy⟩:=hb
        rw [←hHH,at1 hy] at e
        cases e
        exact .inl ⟨y,hy,rfl⟩
      · rw [←hHH,at2 hb] at e
        split at e
        · rename_i hc
          cases e
          exact .inr ⟨hc.1,hc.2,rfl⟩
        · cases e
    have hok:HOk P w H s₁.heap:=fun b v e=>by
      rcases of e with ⟨y,hy,rfl⟩ | ⟨hq,rfl,rfl⟩
      · exact ⟨#[],tabG hy,trivial,fun pos cv z=>nomatch z⟩
      · exact hua hq
    have hO:Only H:=fun b=>by
      cases e:H b with
      | none=>exact .inl rfl
      | some v =>
        rcases of e with ⟨y,_,rfl⟩ | ⟨_,_,rfl⟩
        · exact .inr (.inr ⟨_,rfl⟩)
        · obtain ⟨o,xs,rfl⟩:=hu
          exact .inr (.inl ⟨o,xs,rfl⟩)
    have base_of:∀ {b:Addr} {o:Obj},s₁.heap.get? b=some o→H b=none→(hidT s₁.heap H).get? b=some o:=fun e n=>hidT_get e n
    have noA:∀ {b:Addr} {o:Obj},s₁.heap.get? b=some o→(∀ xs n,o.data≠.seq xs n)→(∀ xs,o.data≠.fields xs∨o.cls≠.none)→H b=none:=fun {b o} e d d2=>by
      cases r:H b with
      | none=>rfl
      | some v =>
        rcases of r with ⟨y,hy,_⟩ | ⟨_,hba,_⟩
        · rw [tabG hy] at e;cases e
          rcases d2 #[] with z | z
          · exact absurd rfl z
          · exact absurd rfl z
        · rw [hba,ha] at e;cases e
          exact absurd rfl (d _ _)
    have nsK:∀ {b:Addr} {m:Str→Option Value},s₁.heap.Ns b m→(hidT s₁.heap H).Ns b m:=fun {b m} ⟨o,es,ep,e,d,r⟩=>⟨o,es,ep,base_of e (noA e (fun xs n z=>by rw [d] at z;cases z) fun xs=>.inl fun z=>by rw [d] at z;cases z),d,r⟩
    have hKb:K.In (hidT s₁.heap H):=fun b o e=>base_of (KX b o e) (by
      cases r:H b with
      | none=>rfl
      | some v =>
        rcases of r with ⟨y,hy,_⟩ | ⟨hq,hba,_⟩
        · have e2:=KX b o e
          rw [tabG hy] at e2
          cases e2
          have h2:=List.all_eq_true.mp noT _ (PySem.W.mem_of_lookupK e)
          exact absurd (show false=true from h2) Bool.false_ne_true
        · rw [hba,hK hq] at e;cases e)
    have hM:Mod K mg (hidT s₁.heap H):=⟨hKb,nsK hns,⟨mb,nsK hb,hbb⟩,let ⟨mc,h1,h2⟩:=hlim;⟨mc,nsK h1,h2⟩⟩
    have hT:TabOk K mg (hidT s₁.heap H) H:=fun y hy c p e=>by
      obtain ⟨⟨⟨o,vs,file,tf,flags,tg,inF,text,tt,e1,e2,e3,r⟩,_⟩,_⟩:=tab y hy c p e
      obtain ⟨bmA,ob,b1,b2,b3,b4,b5,b6⟩:=bm
      refine ⟨by rw [←hHH];exact at1 ⟨hy,c,e⟩,⟨o,vs,file,tf,flags,tg,inF,text,tt,base_of e1 (noA e1 (fun xs n z=>by rw [e3] at z;cases z) fun xs=>.inr fun z=>by rw [e2] at z;cases z),e2,e3,r⟩,bmA,ob,b1,b2,base_of b3 (noA b3 (fun xs n z=>by rw [b6] at z;cases z) fun xs=>.inr fun z=>by rw [b4] at z;cases z),b4,b5,b6⟩
    have e0:Env0 P w K mg (hidT s₁.heap H) callerA [] s₁ H:=⟨rfl,hM,fun b o e=>of_hidT e,Nat.le_of_eq (hidT_size _ _),trivial,fun b hb=>absurd (show b∈([]:List Addr) from hb) (by simp),hok,.of_eq hg,hT⟩
    refine codeAny_mono ((F _ hKb (nsK hns)).run callerA [] s₁ H ⟨[.ref a],[]⟩ [.ref a] [.ref a] _ _ hr e0 (hbind s₁ (.ref a)) (.cons rfl .nil) (hsp H hO hS)) fun r s' h=>?_
    cases r with
    | error e=>exact (hCX H e s' h).elim
    | ok fl =>
      cases fl with
      | next=>exact False.elim h
      | brk=>exact False.elim h
      | cont=>exact False.elim h
      | ret u' =>
        obtain ⟨v,H',os,bare,un,hok',r',q'⟩:=h
        have q':v=.bl true:=q'
        subst q'
        obtain rfl:u'=Value.bool true:=r'
        refine ⟨rfl,⟨fun b o e=>?_,fun b o e=>un.there b o e (by simp)⟩,os,bare⟩
        cases r:H b with
        | none=>exact .inl (un.keep b o e r (by intro z;exact absurd (show b∈([]:List Addr) from z) (by simp)) (by simp))
        | some v =>
          rcases of r with ⟨y,hy,rfl⟩ | ⟨_,_,rfl⟩
          · have r2:=un.tbls b (.tbl (lamQ y)) trivial r
            obtain ⟨ps,g1,_⟩:=hok' b _ r2
            obtain ⟨h1,c,h2⟩:=hy
            have tb:=(tab y h1 c b h2).2
            have e3:o={ cls:=.none,data:=.fields #[] }:=Option.some.inj (e.symm.trans tb.2)
            subst e3
            exact .inr (.inl ⟨tb.isCodeTable,rfl,#[],ps,rfl,by rw [g1];simp⟩)
          · obtain ⟨ob,xs,rfl⟩:=hu
            have z2:=un.frzs b ob _ r
            obtain ⟨e1,_⟩:=hok b _ r
            obtain ⟨e2,_⟩:=hok' b _ z2
            rw [e] at e1;cases e1
            exact .inl e2
  have na:¬ ∃ y,TabAt K y a:=notab ha fun z=>by cases z
  cases hk:K.lookup a with
  | some o =>
    -- the script is one of the module's own objects
    have e:=KX a o hk
    rw [ha] at e
    cases e
    exact core (.frz { cls:=.type "list",data:=.seq vs.toArray } (.lst [])) false ⟨_,_,rfl⟩ (.inr ⟨_,vs.toArray,_,hk,rfl,rfl,rfl,by rw [List.size_toArray,lenV];exact hl,by simpa using rv⟩) (fun z=>nomatch z) fun z=>nomatch z
  | none =>
    refine core (.frz { cls:=.type "list",data:=.seq vs.toArray } (.lst (ns.map V.int))) true ⟨_,_,rfl⟩ (.inl (.inr ⟨{ cls:=.type "list",data:=.seq vs.toArray },by rw [at2 na];exact if_pos ⟨rfl,rfl⟩⟩)) (fun _=>⟨ha,by rw [List.length_map];exact hl,vs,_,rv,ha⟩) fun _=>hk
end L2
namespace L2
open PySem PySem.Spec PyProof.Rows
def defArgs (s:Stmt):Arguments:=match s with
  | .FunctionDef _ a _ _ _ _ _ _ _ _=>a
  | _=>{ posonlyargs:=[],args:=[],vararg:=none,kwonlyargs:=[],kw_defaults:=[],kwarg:=none,defaults:=[] }
def defBody (s:Stmt):List Stmt:=match s with
  | .FunctionDef _ _ b _ _ _ _ _ _ _=>b
  | _=>[]
def defScope (s:Stmt):Scope:=match s with
  | .FunctionDef _ _ _ _ _ _ sc _ _ _=>sc
  | _=>{ kind:=.function,names:=[],isGenerator:=false,isCoroutine:=false }
abbrev CX0:CXT:=fun _ _ _ _ _ _=>False
abbrev E0:XK:=fun _ _ _=>False
theorem pass0 {X:Cx}:Passes CX0 X E0:=fun _ _ _ _ _ _ _ h=>h.elim
structure Fun (K:PySem.W.Frag) (x qual:Str) (st:Stmt) (f:Addr) (fd:FuncData):Prop where
  ex:∃ (oc:Value) (od:Option Addr) (kV doc pm:Value) (an:Option Addr) (cdv ct:Value) (osl:Array (Option Value)),
    fd=PySem.W.fnOf x qual (defArgs st) (defBody st) (defScope st) .none kV doc pm an cdv ct∧K.lookup f=some ⟨oc,od,.func fd,osl⟩∧PySem.W.codeIn K cdv qual=true
  kp:PySem.W.keepIn K (.ref f)=true
section
variable {P:Program} {w:World} {K:PySem.W.Frag} {mg:Str→Option Value} {base:Heap}
theorem Fun.ok {x qual:Str} {st:Stmt} {f:Addr} {fd:FuncData} {N ps:List Str} {k:Nat} {sp:Sp} (F:Fun K x qual st f fd) (S:FnScope N ps (defScope st)) (len:∀ vs H Q E,sp vs H Q E→vs.length=ps.length)
    (hbody:∀ (cdv:Value) (A:Around) (outer:List Env) (s:Shared) (H:Hp) (vs:List V) (Q:VK) (E:XK),Room k (A.deeper (envOfC qual (defScope st) s.heap.objs.size f cdv))→sp vs H Q E →
      ∃ t,PSs (cxOf CX0 P w K mg base N qual (defScope st) f cdv A outer s H E).nox (defBody st) t∧t { nx:=fun _ H'=>Q .non H',rt:=Q } (start N vs) H):FnOk P w K mg base CX0 (k+1) f fd ps sp:=by
  obtain ⟨oc,od,kV,doc,pm,an,cdv,ct,osl,rfl,lk,hcd⟩:=F.ex
  refine fn_of lk hcd S len fun A outer s H vs Q E hr hsp=>?_
  obtain ⟨t,h,q⟩:=hbody cdv A outer s H vs Q E hr hsp
  exact ⟨t,h.nox,q⟩
theorem Fun.binds {x qual:Str} {st:Stmt} {f:Addr} {fd:FuncData} {ps:List Str} (F:Fun K x qual st f fd)
    (h:∀ (kV doc pm:Value) (an:Option Addr) (cdv ct:Value) (us:List Value),us.length=ps.length→bindArgs (PySem.W.fnOf x qual (defArgs st) (defBody st) (defScope st) .none kV doc pm an cdv ct) ⟨us,[]⟩=pure (ps.zip us)):Binds K fd ps []:=by
  obtain ⟨oc,od,kV,doc,pm,an,cdv,ct,osl,rfl,lk,hcd⟩:=F.ex
  exact .all (h kV doc pm an cdv ct)
theorem fun_mk {x qual:Str} {st:Stmt} {f:Addr} {oc:Value} {od an:Option Addr} {osl:Array (Option Value)} {kV doc pm cdv ct:Value} (l:K.lookup f=some ⟨oc,od,.func (PySem.W.fnOf x qual (defArgs st) (defBody st) (defScope st) .none kV doc pm an cdv ct),osl⟩)
    (c:PySem.W.codeIn K cdv qual=true) (k:PySem.W.keepIn K (.ref f)=true):Fun K x qual st f (PySem.W.fnOf x qual (defArgs st) (defBody st) (defScope st) .none kV doc pm an cdv ct):=⟨⟨oc,od,kV,doc,pm,an,cdv,ct,osl,rfl,l,c⟩,k⟩
end
section
variable {X:Cx}
theorem pv (i:Nat) {x:Str} {pos:Pos} (hN:X.N[i]?=some x:=by rfl) (hv:Vis X.env.scope x:=by first | exact Or.inl rfl | exact Or.inr (Or.inl rfl) | exact Or.inr (Or.inr rfl)) (hd:(x==("__debug__" : Str))=false:=by decide)
    (hcd:(x==("__classdict__" : Str))=false:=by decide):PE X (.Name x pos) (tVar i):=pe_var hN hv hd hcd
end
def Same (H H':Hp):Prop:=∀ b o,H b=some o→H' b=some o
theorem Same.refl (H:Hp):Same H H:=fun _ _ h=>h
theorem Same.trans {H H1 H2:Hp} (a:Same H H1) (b:Same H1 H2):Same H H2:=fun c o h=>b c o (a c o h)
theorem Same.free {H H':Hp} (e:Same H H') {l:Addr} (h:H' l=Option.none):H l=Option.none:=by
  cases q:H l with
  | none=>rfl
  | some o =>
    rw [e l o q] at h
    cases h
theorem Same.seq {K:PySem.W.Frag} {H H':Hp} {a:Addr} {xs:List V} (e:Same H H') (h:SqL K H a xs):SqL K H' a xs:=by
  rcases h with (h | ⟨o,h⟩) | h
  · exact .inl (.inl (e _ _ h))
  · exact .inl (.inr ⟨o,e _ _ h⟩)
  · exact .inr h
end L2
namespace L2
open PySem PySem.Spec PyProof.Rows
section
variable {κ:Type} [DecidableEq κ]
def valV (kvs:List (κ×V)) (k:κ):Option V:=(kvs.find? fun kv=>decide (kv.1=k)).map (·.2)
def putK (kvs:List (κ×V)) (k:κ) (v:V):List (κ×V) :=
  if (kvs.any fun kv=>decide (kv.1=k))=true then kvs.map (fun kv=>if kv.1=k then (kv.1,v) else kv) else kvs++[(k,v)]
def dropK (kvs:List (κ×V)) (k:κ):List (κ×V):=kvs.filter fun kv=>decide (kv.1≠k)
theorem valV_pos {p:κ×V} {r:List (κ×V)} {k:κ} (e:p.1=k):valV (p :: r) k=some p.2:=by simp [valV,List.find?_cons,e]
theorem valV_neg {p:κ×V} {r:List (κ×V)} {k:κ} (e:¬ p.1=k):valV (p :: r) k=valV r k:=by simp [valV,List.find?_cons,e]
theorem valV_any (k:κ):∀ kvs:List (κ×V),(kvs.any fun kv=>decide (kv.1=k))=(valV kvs k).isSome
  | []=>rfl
  | p :: r=>by
    rw [List.any_cons]
    by_cases e:p.1=k
    · simp only [valV_pos e,decide_eq_true e,Bool.true_or,Option.isSome_some]
    · rw [valV_neg e,decide_eq_false e,Bool.false_or];exact valV_any k r
theorem length_putK (kvs:List (κ×V)) (k:κ) (v:V):(putK kvs k v).length≤kvs.length+1:=by
  unfold putK
  split
  · rw [List.length_map];lia
  · rw [List.length_append,List.length_cons,List.length_nil];lia
theorem RelO.isSome_eq {o:Option V} {u:Option Value} (r:RelO o u):o.isSome=u.isSome:=by
  cases o with
  | none=>cases u with
    | none=>rfl
    | some _=>exact (show False from r).elim
  | some _=>cases u with
    | none=>exact (show False from r).elim
    | some _=>rfl
theorem RelO.getD {o:Option V} {u:Option Value} {d:V} {d':Value} (r:RelO o u) (rd:RelV d d'):RelV (o.getD d) (u.getD d'):=by
  cases o with
  | none=>cases u with
    | none=>exact rd
    | some _=>exact (show False from r).elim
  | some _=>cases u with
    | none=>exact (show False from r).elim
    | some _=>exact r
theorem KV.val {kvs:List (κ×V)} {vs:List (κ×Value)} (r:KV kvs vs) (k:κ):RelO (valV kvs k) (valueAt vs k):=by
  unfold KV at r
  induction r with
  | nil=>exact True.intro
  | @cons p q ps qs h t ih =>
    obtain ⟨h1,h2⟩:=h
    by_cases e:p.1=k
    · have e':q.1=k:=h1.symm.trans e
      have b:valueAt (q :: qs) k=some q.2:=by simp [valueAt,List.find?_cons,e']
      rw [valV_pos e,b];exact h2
    · have e':¬ q.1=k:=fun z=>e (h1.trans z)
      have b:valueAt (q :: qs) k=valueAt qs k:=by simp [valueAt,List.find?_cons,e']
      rw [valV_neg e,b];exact ih
theorem KV.any {kvs:List (κ×V)} {vs:List (κ×Value)} (r:KV kvs vs) (k:κ):(kvs.any fun kv=>decide (kv.1=k))=vs.any fun kv=>decide (kv.1=k):=by
  unfold KV at r
  induction r with
  | nil=>rfl
  | cons h t ih=>rw [List.any_cons,List.any_cons,ih,h.1]
theorem KV.repl {kvs:List (κ×V)} {vs:List (κ×Value)} (r:KV kvs vs) (k:κ) {y:V} {u:Value} (ry:RelV y u) :
    KV (kvs.map fun kv=>if kv.1=k then (kv.1,y) else kv) (vs.map fun kv=>if kv.1=k then (kv.1,u) else kv):=by
  unfold KV at r ⊢
  induction r with
  | nil=>exact .nil
  | @cons p q ps qs h t ih =>
    rw [List.map_cons,List.map_cons]
    refine .cons ?_ ih
    obtain ⟨h1,h2⟩:=h
    by_cases e:p.1=k
    · rw [if_pos e,if_pos (h1.symm.trans e)];exact ⟨h1,ry⟩
    · rw [if_neg e,if_neg (fun z=>e (h1.trans z))];exact ⟨h1,h2⟩
theorem KV.put {kvs:List (κ×V)} {vs:List (κ×Value)} (r:KV kvs vs) (k:κ) {y:V} {u:Value} (ry:RelV y u):KV (putK kvs k y) (stored vs k u):=by
  unfold putK stored
  rw [r.any k]
  by_cases e:(vs.any fun kv=>decide (kv.1=k))=true
  · rw [if_pos e,if_pos e];exact r.repl k ry
  · rw [if_neg e,if_neg e];exact Paired.snoc r ⟨rfl,ry⟩
theorem KV.drop {kvs:List (κ×V)} {vs:List (κ×Value)} (r:KV kvs vs) (k:κ):KV (dropK kvs k) (without vs k):=by
  unfold KV at r ⊢
  unfold dropK without
  induction r with
  | nil=>exact .nil
  | @cons p q ps qs h t ih =>
    obtain ⟨h1,h2⟩:=h
    rw [List.filter_cons,List.filter_cons]
    by_cases e:p.1=k
    · have a:¬ decide (p.1≠k)=true:=by simp [e]
      have b:¬ decide (q.1≠k)=true:=by simp [h1.symm.trans e]
      rw [if_neg a,if_neg b];exact ih
    · have e':¬ q.1=k:=fun z=>e (h1.trans z)
      have a:decide (p.1≠k)=true:=by simp [e]
      have b:decide (q.1≠k)=true:=by simp [e']
      rw [if_pos a,if_pos b];exact .cons ⟨h1,h2⟩ ih
theorem KV.keys {kvs:List (κ×V)} {vs:List (κ×Value)} (r:KV kvs vs):kvs.map (·.1)=vs.map (·.1):=by
  unfold KV at r
  induction r with
  | nil=>rfl
  | cons h t ih=>rw [List.map_cons,List.map_cons,ih,h.1]
theorem KV.length {kvs:List (κ×V)} {vs:List (κ×Value)} (r:KV kvs vs):kvs.length=vs.length:=Paired.length r
end
theorem kV_is {P:Program} {w:World} {k:Key} {u:Value} (r:RelV (kV k) u):(mixKind P w).is k u=true:=by
  cases k with
  | inl i=>obtain ⟨t,e⟩:=(show ∃ t,u=Value.int i t from r);subst e;exact mixKind_int P w i t
  | inr x=>obtain ⟨t,e⟩:=(show ∃ t,u=Value.str x t from r);subst e;exact mixKind_str P w x t
theorem items_are {P:Program} {w:World}:∀ {ks:List Key} {us:List Value},Vals (ks.map kV) us→ItemsAre (mixKind P w) ks us
  | [],_,r=>by rw [List.map_nil] at r;cases r;exact .nil
  | k :: ks,_,r=>by
    rw [List.map_cons] at r
    cases r with
    | cons h t=>exact .cons (kV_is h) (items_are t)
abbrev KT (H:Hp):List (List Key×V)→List (List Key×Addr×Value)→Prop:=Paired fun p q=>p.1=q.1∧H q.2.1=some (.tup (p.1.map kV))∧RelV p.2 q.2.2
theorem KT.val {H:Hp} {kvs:List (List Key×V)} {xs:List (List Key×Addr×Value)} (r:KT H kvs xs) (k:List Key):RelO (valV kvs k) ((atKey xs k).map (·.2)):=by
  induction r with
  | nil=>exact True.intro
  | @cons p q ps qs h t ih =>
    obtain ⟨h1,_,h2⟩:=h
    by_cases e:p.1=k
    · have e':q.1=k:=h1.symm.trans e
      have b:atKey (q :: qs) k=some q.2:=by simp [atKey,List.find?_cons,e']
      rw [valV_pos e,b];exact h2
    · have e':¬ q.1=k:=fun z=>e (h1.trans z)
      have b:atKey (q :: qs) k=atKey qs k:=by simp [atKey,List.find?_cons,e']
      rw [valV_neg e,b];exact ih
theorem KT.repl {H:Hp} {kvs:List (List Key×V)} {xs:List (List Key×Addr×Value)} (r:KT H kvs xs) (k:List Key) {y:V} {u:Value} (ry:RelV y u) :
    KT H (kvs.map fun kv=>if kv.1=k then (kv.1,y) else kv) (xs.map (putAt k u)):=by
  induction r with
  | nil=>exact .nil
  | @cons p q ps qs h t ih =>
    rw [List.map_cons,List.map_cons]
    refine .cons ?_ ih
    obtain ⟨h1,h2,h3⟩:=h
    unfold putAt
    by_cases e:p.1=k
    · rw [if_pos e,if_pos (h1.symm.trans e)];exact ⟨h1,h2,ry⟩
    · rw [if_neg e,if_neg (fun z=>e (h1.trans z))];exact ⟨h1,h2,h3⟩
theorem KT.put {H:Hp} {kvs:List (List Key×V)} {xs:List (List Key×Addr×Value)} (r:KT H kvs xs) (k:List Key) {b:Addr} {y:V} {u:Value} (hb:H b=some (.tup (k.map kV))) (ry:RelV y u) :
    KT H (putK kvs k y) (storedH xs k b u):=by
  have e:(kvs.any fun kv=>decide (kv.1=k))=(atKey xs k).isSome:=by
    rw [valV_any,(r.val k).isSome_eq,Option.isSome_map]
  unfold putK storedH
  rw [e]
  by_cases q:(atKey xs k).isSome=true
  · rw [if_pos q,if_pos q];exact r.repl k ry
  · rw [if_neg q,if_neg q];exact Paired.snoc r ⟨rfl,hb,ry⟩
theorem KT.keeps {H H':Hp} {kvs:List (List Key×V)} {xs:List (List Key×Addr×Value)} (r:KT H kvs xs) (ht:∀ b ys,H b=some (.tup ys)→H' b=some (.tup ys)):KT H' kvs xs :=
  Paired.mapP r fun _ _ z=>⟨z.1,ht _ _ z.2.1,z.2.2⟩
section
variable {P:Program} {w:World} {H:Hp} {h:Heap} {a:Addr}
theorem rd_of {u:HO} (ok:HOk P w H h) (e:Rd H a u):ObjOk P w H h a u:=e.ok ok
theorem dk_rd {kvs:List (Key×V)} (ok:HOk P w H h) (e:Rd H a (.dK kvs)):kvs.length≤sizeLine∧(a==sysModules)=false∧∃ vs,KV kvs vs∧h.DictOf (mixKind P w) a vs :=
  show ObjOk P w H h a (.dK kvs) from rd_of ok e
theorem dk_of {kvs:List (Key×V)} (ok:HOk P w H h) (e:H a=some (.dK kvs)):kvs.length≤sizeLine∧(a==sysModules)=false∧∃ vs,KV kvs vs∧h.DictOf (mixKind P w) a vs:=dk_rd ok (.inl e)
theorem key_of {ks:List Key} (ok:HOk P w H h) (e:H a=some (.tup (ks.map kV))):(tupleKind (mixKind P w)).is h ks a:=by
  obtain ⟨_,its,r,o,h1,h2,n,h3⟩:=(show ObjOk P w H h a (.tup (ks.map kV)) from ok a _ e)
  exact ⟨o,its.toArray,n,h1,h2,h3,by simpa using items_are r⟩
theorem dt_rd {kvs : List (List Key × V)} (ok : HOk P w H h) (e : Rd H a (.dT kvs)) : kvs.length ≤ sizeLine ∧ (a == sysModules) = false ∧
    ∃ xs,KT H kvs xs∧h.DictOfH (tupleKind (mixKind P w)) a xs:=by
  obtain ⟨z,y,xs,r,o,es,ep,h1,h2,h3,h4,h5⟩:=(show ObjOk P w H h a (.dT kvs) from rd_of ok e)
  refine ⟨z,y,xs,r,o,es,ep,h1,h2,h3,h4,fun x hx=>?_,h5⟩
  have all:∀ {l:List (List Key×V)} {m:List (List Key×Addr×Value)},KT H l m→∀ x∈m,(tupleKind (mixKind P w)).is h x.1 x.2.1:=by
    intro l m q
    induction q with
    | nil=>intro x hx;exact nomatch hx
    | @cons p q ps qs hq t ih =>
      intro x hx
      rcases List.mem_cons.mp hx with e | hx
      · subst e
        exact key_of ok (by rw [←hq.1];exact hq.2.1)
      · exact ih x hx
  exact all r x hx
theorem dt_of {kvs:List (List Key×V)} (ok:HOk P w H h) (e:H a=some (.dT kvs)):kvs.length≤sizeLine∧(a==sysModules)=false ∧
    ∃ xs,KT H kvs xs∧h.DictOfH (tupleKind (mixKind P w)) a xs:=dt_rd ok (.inl e)
end
def DGet (H:Hp) (a:Addr) (y:V) (r:Option V):Prop :=
  (∃ kvs k,Rd H a (.dK kvs)∧y=kV k∧r=valV kvs k)∨∃ kvs k b,Rd H a (.dT kvs)∧y=.ref b∧H b=some (.tup (k.map kV))∧r=valV kvs k
def DPut (H:Hp) (a:Addr) (y v:V) (H':Hp):Prop :=
  (∃ kvs k,H a=some (.dK kvs)∧y=kV k∧kvs.length < sizeLine∧H'=upd H a (.dK (putK kvs k v))) ∨
  ∃ kvs k b,H a=some (.dT kvs)∧y=.ref b∧H b=some (.tup (k.map kV))∧kvs.length < sizeLine∧H'=upd H a (.dT (putK kvs k v))
theorem DGet.k {H:Hp} {a:Addr} {kvs:List (Key×V)} {k:Key} (e:H a=some (.dK kvs)):DGet H a (kV k) (valV kvs k):=.inl ⟨kvs,k,.inl e,rfl,rfl⟩
theorem DGet.t {H:Hp} {a b:Addr} {kvs:List (List Key×V)} {k:List Key} (e:H a=some (.dT kvs)) (eb:H b=some (.tup (k.map kV))):DGet H a (.ref b) (valV kvs k):=.inr ⟨kvs,k,b,.inl e,rfl,eb,rfl⟩
theorem DPut.k {H:Hp} {a:Addr} {kvs:List (Key×V)} {k:Key} {v:V} (e:H a=some (.dK kvs)) (hl:kvs.length < sizeLine):DPut H a (kV k) v (upd H a (.dK (putK kvs k v))):=.inl ⟨kvs,k,e,rfl,hl,rfl⟩
theorem DPut.t {H:Hp} {a b:Addr} {kvs:List (List Key×V)} {k:List Key} {v:V} (e:H a=some (.dT kvs)) (eb:H b=some (.tup (k.map kV))) (hl:kvs.length < sizeLine) :
    DPut H a (.ref b) v (upd H a (.dT (putK kvs k v))):=.inr ⟨kvs,k,b,e,rfl,eb,hl,rfl⟩
section
variable {X:Cx} {pins:List (Addr×Obj)} {σ:St} {H:Hp} {s:Shared} {a:Addr} {y v:V} {u r:Value} {o:Option V} {A:Around} {E:Value→Shared→Prop}
theorem Inv.big (I:Inv X pins σ H s):sysModules < s.heap.objs.size:=by
  have h:mainGlobals < s.heap.objs.size:=(I.mod.glob.keeps I.bk).lt
  exact Nat.lt_trans (by decide) h
theorem d_getItem {Q:Value→Shared→Prop} (hu:A.units+1 < cLine) (I:Inv X pins σ H s) (g:DGet H a y (some v)) (ry:RelV y u) (h:∀ w' s',Inv X pins σ H s'→RelV v w'→Q w' s') :
    wpAny (model X.prog X.w) A (getItem (.ref a) u) Q E s:=by
  rcases g with ⟨kvs,k,e,ey,l⟩ | ⟨kvs,k,b,e,ey,eb,l⟩
  · subst ey
    obtain ⟨z,hd,vs,rel,dd⟩:=dk_rd I.hok e
    obtain ⟨w',hw,rw'⟩:=RelO.some_of (v:=v) (o:=valueAt vs k) (by rw [l];exact rel.val k)
    exact wpAny_getItem_of (kV_is ry) dd.mapOf hw (h w' _ (I.tok _) rw')
  · subst ey
    cases (show u=Value.ref b from ry)
    obtain ⟨z,hd,xs,rel,dd⟩:=dt_rd I.hok e
    obtain ⟨w',hw,rw'⟩:=RelO.some_of (v:=v) (o:=(atKey xs k).map (·.2)) (by rw [l];exact rel.val k)
    obtain ⟨p,hp,hp2⟩:=Option.map_eq_some_iff.mp hw
    refine wpAny_getItem_heap (tupleKind_room_in1 hu) (key_of I.hok eb) dd hp ?_
    rw [hp2]
    exact h w' _ (I.tok _) rw'
theorem d_write {h':Heap} {t':Nat} {ob:HO} (I:Inv X pins σ H s) (mu:Mut (H a)) (hs:Heap.SameBut a s.heap h') (he:∃ q,h'.get? a=some q) (new:ObjOk X.prog X.w (upd H a ob) h' a ob) :
    Inv X pins σ (upd H a ob) { s with heap:=h',toks:=t' } :=
  I.write (x:=a) (e:=a) mu (.inl rfl) (fun b q hb z=>(hs.2 b hb).trans z) he new
theorem dk_new {P:Program} {w:World} {H':Hp} {h':Heap} {kvs:List (Key×V)} {vs:List (Key×Value)} (z:kvs.length≤sizeLine) (hd:(a==sysModules)=false) (rel:KV kvs vs) (dd:h'.DictOf (mixKind P w) a vs) :
    ObjOk P w H' h' a (.dK kvs):=⟨z,hd,vs,rel,dd⟩
theorem d_setItem {H':Hp} {Q:Unit→Shared→Prop} (hu:A.units+1 < cLine) (I:Inv X pins σ H s) (g:DPut H a y v H') (ry:RelV y u) (rv:RelV v r) (h:∀ s',Inv X pins σ H' s'→Q () s') :
    wpAny (model X.prog X.w) A (setItem (.ref a) u r) Q E s:=by
  rcases g with ⟨kvs,k,e,ey,l,eH⟩ | ⟨kvs,k,b,e,ey,eb,l,eH⟩
  · subst ey eH
    obtain ⟨z,hd,vs,rel,dd⟩:=dk_of I.hok e
    have hz:vs.length≤sizeLine:=by rw [←rel.length];exact z
    have hl:(putK kvs k v).length≤sizeLine:=by have:=length_putK kvs k v;lia
    refine wpAny_setItem_pairs (hsz:=hz) (kV_is ry) dd fun h' dd' hs=>h _ ?_
    have he:∃ q,h'.get? a=some q:=let ⟨q,_,_,hq,_⟩:=dd';⟨q,hq⟩
    exact d_write I (by rw [e];exact True.intro) hs he (dk_new hl hd (rel.put k rv) dd')
  · subst ey eH
    cases (show u=Value.ref b from ry)
    obtain ⟨z,hd,xs,rel,dd⟩:=dt_of I.hok e
    have hz:xs.length≤sizeLine:=by rw [←Paired.length rel];exact z
    have hl:(putK kvs k v).length≤sizeLine:=by have:=length_putK kvs k v;lia
    refine wpAny_setItem_heap (hsz:=hz) (tupleKind_room_in1 hu) (key_of I.hok eb) dd fun h' dd' hs=>h _ ?_
    obtain ⟨q,es,ep,hq,h2,h3,h4,_,h5⟩:=dd'
    refine d_write I (by rw [e];exact True.intro) hs ⟨q,hq⟩ ⟨hl,hd,_,(rel.put k eb rv).keeps fun c ys ec=>?_,q,es,ep,hq,h2,h3,h4,h5⟩
    rw [upd_ne (ne_of ec e (fun z=>nomatch z))]
    exact ec
end
section
variable {X:Cx} {pins:List (Addr×Obj)} {σ:St} {H:Hp} {s:Shared} {a:Addr} {kvs:List (Key×V)} {k:Key} {u:Value} {A:Around} {E:Value→Shared→Prop}
end
def NoSl (i:Expr):Prop:=∀ ov iv,subscripted i false ov iv=operate [ov,iv] (getItem ov iv)
theorem subD_of {prog:Program} {w:World} {A:Around} {E:Value→Shared→Prop} {s:Shared} {env:Env} {value slice:Expr} {pos:Pos} {T id:String} {Q:Value→Shared→Prop}
    (hl:typeLookup (.type T) "__getitem__" = pure (some (.builtin id))) (hs:NoSl slice)
    (h:wpAny (model prog w) A (eval value env) (fun o s₁=>wpAny (model prog w) A (eval slice env) (fun i s₂=>s₂.TypeIs o T∧wpAny (model prog w) A (getItem o i) Q E s₂) E s₁) E s) :
    wpAny (model prog w) A (eval (.Subscript value slice pos) env) Q E s:=by
  refine Subscript_ (wpAny_mono h (fun o s₁ h₁=>wpAny_mono h₁ (fun i s₂ h₂=>?_) fun _ _ x=>x) fun _ _ x=>x)
  obtain ⟨hT,h₂⟩:=h₂
  unfold subscriptTail
  refine wpAny_bind ?_
  rw [getitemInPython_of_ne hT.not_modules]
  refine wpAny_bind (wpAny_specialOf hT hl ?_)
  have fin:wpAny (model prog w) A (subscripted slice false o i) (fun r s₃=>wpAny (model prog w) A (letTemporaryGo value o r >>= fun _=>pure r) Q E s₃) E s₂:=by
    rw [hs o i]
    exact wpAny_operating (wpAny_mono h₂ (fun r s₃ h₃=>wpAny_bind (wpAny_letTemporaryGo (wpAny_pure h₃))) fun _ _ x=>x)
  first
    | exact wpAny_pure (wpAny_bind fin)
    | exact wpAny_bind (wpAny_pure (wpAny_bind fin))
    | exact wpAny_bind fin
theorem dict_typeIs {X:Cx} {pins:List (Addr×Obj)} {σ:St} {H:Hp} {s:Shared} {a:Addr} {y:V} {o:Option V} (I:Inv X pins σ H s) (g:DGet H a y o):s.TypeIs (.ref a) "dict" := by
  rcases g with ⟨kvs,k,e,_,_⟩ | ⟨kvs,k,b,e,_,_,_⟩
  · obtain ⟨_,_,vs,_,dd⟩:=dk_rd I.hok e
    exact dd.typeIs
  · obtain ⟨_,_,xs,_,dd⟩:=dt_rd I.hok e
    exact dd.typeIs
def tDGet (td ty:TE):TE:=fun σ H Q=>td σ H fun x H1=>ty σ H1 fun y H2=>∃ a v,x=.ref a∧DGet H2 a y (some v)∧Q v H2
def sDPut (td ty tv:TE):TS:=fun D σ H=>tv σ H fun v H1=>td σ H1 fun x H2=>ty σ H2 fun y H3=>∃ a H4,x=.ref a∧DPut H3 a y v H4∧D.nx σ H4
section
variable {X:Cx} {o i e value:Expr} {pos pos' tpos:Pos} {td ty tv:TE}
theorem pe_dget (hu:X.A.units+1 < cLine) (ho:PE X o td) (hi:PE X i ty) (hs:NoSl i):PE X (.Subscript o i pos) (tDGet td ty):=by
  intro pins s σ H Q I h
  refine subD_of PySem.F.slot_dict_getitem.lookup hs (thn (ho pins s σ H _ I h) fun u s1 ⟨x,H1,I1,rx,q1⟩=>thn (hi pins s1 σ H1 _ I1 q1) fun iv s2 ⟨y,H2,I2,ry,a,v,ex,g,q2⟩=>?_)
  subst ex
  obtain rfl:u=Value.ref a:=rx
  exact ⟨dict_typeIs I2 g,d_getItem hu I2 g ry fun w' s3 I3 rw'=>⟨v,H2,I3,rw',q2⟩⟩
theorem ps_dput (hu:X.A.units+1 < cLine) (ho:PE X o td) (hi:PE X i ty) (hv:PE X value tv) (hs:swapsWith value (some (.Subscript o i pos')) pos.line X.env=pure false) :
    PS X (.Assign [.Subscript o i pos'] value pos) (sDPut td ty tv):=by
  intro pins s σ H D I h
  refine wpAny_Assign_Subscript (thn (hv pins s σ H _ I h) fun r s1 ⟨v,H1,I1,rv,q1⟩=>thn (ho pins s1 σ H1 _ I1 q1) fun u s2 ⟨x,H2,I2,rx,q2⟩=>thn (hi pins s2 σ H2 _ I2 q2) fun iv s3 ⟨y,H3,I3,ry,a,H4,ex,g,q3⟩=>?_) hs
  subst ex
  obtain rfl:u=Value.ref a:=rx
  exact d_setItem hu I3 g ry rv fun s4 I4=>⟨σ,H4,I4,q3⟩
end
theorem dk_empty {P:Program} {w:World} {H:Hp} (h:Heap) (hb:sysModules < h.objs.size):ObjOk P w H (h.push { cls:=.type "dict",data:=.dict #[] }) h.objs.size (.dK []) :=
  ⟨Nat.zero_le _,beq_eq_false_iff_ne.mpr (Ne.symm (Nat.ne_of_lt hb)),[],.nil,Heap.DictOf.new h⟩
section
variable {X:Cx} {pos:Pos}
end
def tPairs:List (TE×TE)→St→Hp→(List (V×V)→Hp→Prop)→Prop
  | [],_,H,Q=>Q [] H
  | (tk,tv) :: r,σ,H,Q=>tk σ H fun x H1=>tv σ H1 fun y H2=>tPairs r σ H2 fun ps H3=>Q ((x,y) :: ps) H3
abbrev VV:List (V×V)→List (Value×Value)→Prop:=Paired fun p q=>RelV p.1 q.1∧RelV p.2 q.2
def PPs (X:Cx) (pos:Pos) (keys:List (Option Expr)) (values:List Expr) (trs:List (TE×TE)):Prop :=
  ∀ (pins:List (Addr×Obj)) (s:Shared) (σ:St) (H:Hp) (Q:List (V×V)→Hp→Prop),Inv X pins σ H s→tPairs trs σ H Q →
    wpAny (model X.prog X.w) X.A (evalPairs (pairTrees keys values X.env pos)) (fun vs s'=>∃ ps H',Inv X pins σ H' s'∧VV ps vs∧Q ps H') X.xe s
theorem pps_nil {X:Cx} {pos:Pos}:PPs X pos [] [] []:=fun pins s σ H Q I h=>pairTrees_nil_walk ⟨[],H,I,.nil,h⟩
theorem pps_cons {X:Cx} {pos:Pos} {k v:Expr} {ks:List (Option Expr)} {vs:List Expr} {tk tv:TE} {trs:List (TE×TE)} (hk:PE X k tk) (hv:PE X v tv) (hr:PPs X pos ks vs trs) :
    PPs X pos (some k :: ks) (v :: vs) ((tk,tv) :: trs):=fun pins s σ H Q I h =>
  pairTrees_cons_walk (thn (hk pins s σ H _ I h) fun u s1 ⟨x,H1,I1,rx,q1⟩=>thn (hv pins s1 σ H1 _ I1 q1) fun w2 s2 ⟨y,H2,I2,ry,q2⟩ =>
    thn (hr pins s2 σ H2 _ I2 q2) fun ws s3 ⟨ps,H3,I3,rel,q3⟩=>⟨(x,y) :: ps,H3,I3,.cons ⟨rx,ry⟩ rel,q3⟩)
def mergeK (kvs more:List (Key×V)):List (Key×V):=more.foldl (fun acc kv=>putK acc kv.1 kv.2) kvs
theorem KV.merge:∀ {more:List (Key×V)} {rs:List (Key×Value)} {kvs:List (Key×V)} {vs:List (Key×Value)},KV more rs→KV kvs vs→KV (mergeK kvs more) (merged vs rs):=by
  intro more rs kvs vs r
  unfold KV at r
  induction r generalizing kvs vs with
  | nil=>intro q;exact q
  | @cons p q ps qs h t ih =>
    intro r0
    have e:KV (putK kvs p.1 p.2) (stored vs q.1 q.2):=by
      have:=r0.put p.1 h.2
      rw [←h.1];exact this
    exact ih e
theorem length_mergeK:∀ (more kvs:List (Key×V)),(mergeK kvs more).length≤kvs.length+more.length
  | [],kvs=>by show kvs.length≤kvs.length+0;lia
  | p :: r,kvs=>by
    have h1:=length_mergeK r (putK kvs p.1 p.2)
    have h2:=length_putK kvs p.1 p.2
    show (mergeK (putK kvs p.1 p.2) r).length≤_
    rw [List.length_cons];lia
theorem carries_of {P:Program} {w:World}:∀ {kvs:List (Key×V)} {ws:List (Value×Value)},VV (kvs.map fun kv=>(kV kv.1,kv.2)) ws→∃ rs,Carries (mixKind P w) ws rs∧KV kvs rs
  | [],_,r=>by rw [List.map_nil] at r;cases r;exact ⟨[],True.intro,.nil⟩
  | p :: kvs,_,r=>by
    rw [List.map_cons] at r
    cases r with
    | @cons a b as bs h t =>
      obtain ⟨rs,c,q⟩:=carries_of (P:=P) (w:=w) t
      obtain ⟨b1,b2⟩:=b
      exact ⟨(p.1,b2) :: rs,⟨kV_is h.1,rfl,c⟩,.cons ⟨rfl,h.2⟩ q⟩
def tDisp (trs:List (TE×TE)):TE:=fun σ H Q=>∀ p,H p=none→tPairs trs σ (upd H p (.dK [])) fun ps H2=>H2 p=some (.dK [])∧∃ kvs:List (Key×V),ps=kvs.map (fun kv=>(kV kv.1,kv.2))∧kvs.length≤15∧Q (.ref p) (upd H2 p (.dK (mergeK [] kvs)))
theorem pe_disp {X:Cx} {pos:Pos} {keys:List (Option Expr)} {values:List Expr} {trs:List (TE×TE)} (h:PPs X pos keys values trs) (hall:keys.all (·.isSome)=true) (hl:keys.length=values.length) (h0:keys≠[])
    (h15:keys.length≤15):PE X (.Dict keys values pos) (tDisp trs):=by
  intro pins s σ H Q I q
  have hn:=I.hok.fresh (Nat.le_refl s.heap.objs.size)
  have I1:=I.laid (a:=s.heap.objs.size) (o:=.dK []) (h':=s.heap.push { cls:=.type "dict",data:=.dict #[] }) (t':=s.toks) (fun _ _ q=>Heap.get?_push_of_some _ q) (Nat.le_refl _) (dk_empty s.heap I.big)
  refine wpAny_Dict_walk (knd:=mixKind X.prog X.w) hall hl h0 h15 (thn (h pins _ σ _ _ I1 (q _ hn)) fun ws s2 ⟨ps,H2,I2,rel,e,kvs,ep,lk,q2⟩=>?_)
  subst ep
  obtain ⟨rs,c,rk⟩:=carries_of (P:=X.prog) (w:=X.w) rel
  obtain ⟨z,hd,vs0,r0,dd⟩:=dk_of I2.hok e
  cases r0
  refine ⟨rs,c,dd,fun h' dd' hs=>⟨.ref s.heap.objs.size,_,?_,rfl,q2⟩⟩
  have hz:(mergeK [] kvs).length≤sizeLine:=by
    have h1:=length_mergeK kvs []
    rw [List.length_nil] at h1
    rw [sizeLine_eq];lia
  have he:∃ q,h'.get? s.heap.objs.size=some q:=let ⟨q,_,_,hq,_⟩:=dd';⟨q,hq⟩
  exact d_write I2 (by rw [e];exact True.intro) hs he (dk_new hz hd (rk.merge .nil) dd')
end L2
set_option genSizeOf true
noncomputable section
namespace Z
inductive D where
 | non
 | bl (b:Bool)
 | int (i:Int)
 | str (cs:List Nat)
 | tup (xs:List D)
 | lst (xs:List D)
 | dct (ks:List (Sum Int (List Nat))) (vs:List D)
inductive Res (α:Type) where
 | ok (a:α)
 | bad
namespace Res
def bind {α β:Type} (r:Res α) (f:α→Res β):Res β :=
 match r with
 | ok a=>f a
 | bad=>bad
@[simp] theorem ok_bind {α β:Type} (a:α) (f:α→Res β):(Res.ok a).bind f=f a:=rfl
@[simp] theorem bad_bind {α β:Type} (f:α→Res β):(Res.bad:Res α).bind f=bad:=rfl
def map {α β:Type} (f:α→β) (r:Res α):Res β :=
 match r with
 | ok a=>ok (f a)
 | bad=>bad
@[simp] theorem map_ok {α β:Type} (a:α) (f:α→β):(Res.ok a).map f=ok (f a):=rfl
@[simp] theorem map_bad {α β:Type} (f:α→β):(Res.bad:Res α).map f=bad:=rfl
theorem bind_ok {α β:Type} {r:Res α} {f:α→Res β} {b:β} (h:r.bind f=ok b):∃ a,r=ok a∧f a=ok b:=by
 cases r with
 | ok a=>exact ⟨a,rfl,h⟩
 | bad=>cases h
end Res
open Classical in
def guard {α:Type} (p:Prop) (r:Res α):Res α:=if p then r else .bad
@[simp] theorem guard_true {α:Type} (r:Res α):guard True r=r:=by unfold guard;exact if_pos trivial
theorem guard_pos {α:Type} {p:Prop} {r:Res α} (h:p):guard p r=r:=by unfold guard;exact if_pos h
theorem guard_ok {α:Type} {p:Prop} {r:Res α} {a:α} (h:guard p r=.ok a):p∧r=.ok a:=by
 unfold guard at h
 split at h
 ·rename_i q;exact ⟨q,h⟩
 ·cases h
inductive L where
 | val (d:D)
 | own (xs:List D)
 | bor (xs:List D)
 | dc (k:List (List Int) ⊕ List (List Nat×List Nat))
 | fdc (ks:List (List Int))
 | idc (ps:List (Int×Int))
 | exc (c:List Nat×List (List Nat×D))
abbrev L.dic (ks:List (List Int)):L:=.dc (.inl ks)
abbrev L.tdc (kvs:List (List Nat×List Nat)):L:=.dc (.inr kvs)
abbrev DK:=List (List Int) ⊕ List (List Nat×List Nat)
abbrev Env:=List (Option L)
abbrev EF:=Env→Res D
abbrev LF:=Env→Res (List D)
abbrev TF:=Env→Res Bool
abbrev AF:=Env→Res (List D)
inductive Fl where
 | nx (ρ:Env)
 | rt (d:D)
 | bk (ρ:Env)
 | ct (ρ:Env)
abbrev SF:=Env→Res Fl
abbrev GF:=D→Env→Res Env
abbrev line:Nat:=16777216
def eC (d:D) (_:Env):Res D:=.ok d
def eV (i:Nat) (ρ:Env):Res D:=match ρ[i]? with
 | some (some (.val d))=>.ok d
 | _=>.bad
def eW (i:Nat) (ρ:Env):Res D:=match ρ[i]? with
 | some (some (.val d))=>.ok d
 | some (some (.own xs))=>.ok (.lst xs)
 | some (some (.bor xs))=>.ok (.lst xs)
 | _=>.bad
def eB (op:D→D→Res D) (a b:EF) (ρ:Env):Res D:=(a ρ).bind fun x=>(b ρ).bind fun y=>op x y
def eU (op:D→Res D) (a:EF) (ρ:Env):Res D:=(a ρ).bind op
def eAnd (a b:EF) (ρ:Env):Res D:=(a ρ).bind fun x=>match x with
 | .bl c=>if c then b ρ else .ok (.bl false)
 | _=>.bad
def eOr (a b:EF) (ρ:Env):Res D:=(a ρ).bind fun x=>match x with
 | .bl c=>if c then .ok (.bl true) else b ρ
 | _=>.bad
def eNot (a:EF) (ρ:Env):Res D:=(a ρ).bind fun x=>match x with
 | .bl c=>.ok (.bl !c)
 | _=>.bad
def eChain (op op':D→D→Res D) (a b c:EF) (ρ:Env):Res D:=(a ρ).bind fun x=>(b ρ).bind fun y=>(op x y).bind fun z=>match z with
 | .bl k=>if k then (c ρ).bind fun w=>op' y w else .ok (.bl false)
 | _=>.bad
def eIf (t:TF) (a b:EF) (ρ:Env):Res D:=(t ρ).bind fun c=>if c then a ρ else b ρ
def eL (l:LF) (ρ:Env):Res D:=(l ρ).map D.lst
def aNil (_:Env):Res (List D):=.ok []
def aCons (a:EF) (r:AF) (ρ:Env):Res (List D):=(a ρ).bind fun x=>(r ρ).bind fun xs=>.ok (x :: xs)
def lDisp (as:AF) (ρ:Env):Res (List D):=(as ρ).bind fun xs=>guard (xs.length≤line) (.ok xs)
def eTup (as:AF) (ρ:Env):Res D:=(as ρ).bind fun xs=>guard (xs.length≤line) (.ok (.tup xs))
def eCall (f:List D→Res D) (as:AF) (ρ:Env):Res D:=(as ρ).bind f
def tE (a:EF) (ρ:Env):Res Bool:=(a ρ).bind fun x=>match x with
 | .bl c=>.ok c
 | _=>.bad
def tAnd (a b:TF) (ρ:Env):Res Bool:=(a ρ).bind fun c=>if c then b ρ else .ok false
def tOr (a b:TF) (ρ:Env):Res Bool:=(a ρ).bind fun c=>if c then .ok true else b ρ
def tNot (a:TF) (ρ:Env):Res Bool:=(a ρ).bind fun c=>.ok !c
def bits (a:Int):Nat:=if a=0 then 0 else a.natAbs.log2+1
def oAdd:D→D→Res D
 | .int a,.int b=>.ok (.int (a+b))
 | .str a,.str b=>guard (a.length+b.length≤line) (.ok (.str (a++b)))
 | .tup a,.tup b=>guard (a.length+b.length≤line) (.ok (.tup (a++b)))
 | _,_=>.bad
def oSub:D→D→Res D
 | .int a,.int b=>.ok (.int (a-b))
 | _,_=>.bad
def mulFits (a b:Int):Prop:=((-18446744073709551616 < a∧a < 18446744073709551616)∨(-18446744073709551616 < b∧b < 18446744073709551616)∨(bits a≤16777216∧bits b≤16777216))
def oMul:D→D→Res D
 | .int a,.int b=>guard (mulFits a b) (.ok (.int (a*b)))
 | _,_=>.bad
def divFits (b:Int):Prop:=0 < b∧b < 1809251394333065553493296640760748560207343510400633813116524750123642650624
def oDiv:D→D→Res D
 | .int a,.int b=>guard (divFits b) (.ok (.int (a / b)))
 | _,_=>.bad
def oMod:D→D→Res D
 | .int a,.int b=>guard (0 < b) (.ok (.int (a % b)))
 | _,_=>.bad
def oShr:D→D→Res D
 | .int a,.int b=>guard (0≤b) (.ok (.int (a / 2 ^ b.toNat)))
 | _,_=>.bad
def oPow:D→D→Res D
 | .int a,.int b=>guard (0≤b∧b≤1000000∧a.natAbs < 2 ^ 64) (.ok (.int (a ^ b.toNat)))
 | _,_=>.bad
def oNeg:D→Res D
 | .int a=>.ok (.int (-a))
 | _=>.bad
def ltC:List Nat→List Nat→Bool
 | [],[]=>false
 | [],_ :: _=>true
 | _ :: _,[]=>false
 | a :: as,b :: bs=>if a < b then true else if a=b then ltC as bs else false
def oLt:D→D→Res D
 | .int a,.int b=>.ok (.bl (decide (a < b)))
 | _,_=>.bad
def oLe:D→D→Res D
 | .int a,.int b=>.ok (.bl (decide (a≤b)))
 | .str a,.str b=>.ok (.bl (!(ltC b a)))
 | _,_=>.bad
def oGt:D→D→Res D
 | .int a,.int b=>.ok (.bl (decide (b < a)))
 | _,_=>.bad
def oGe:D→D→Res D
 | .int a,.int b=>.ok (.bl (decide (b≤a)))
 | _,_=>.bad
def eqS:D→D→Option Bool
 | .non,.non=>some true
 | .bl a,.bl b=>some (a==b)
 | .bl a,.int b=>some ((if a then 1 else 0)==b)
 | .int a,.bl b=>some (a==(if b then 1 else 0))
 | .int a,.int b=>some (a==b)
 | .str a,.str b=>some (a==b)
 | .non,.bl _=>some false
 | .non,.int _=>some false
 | .non,.str _=>some false
 | .bl _,.non=>some false
 | .bl _,.str _=>some false
 | .int _,.non=>some false
 | .int _,.str _=>some false
 | .str _,.non=>some false
 | .str _,.bl _=>some false
 | .str _,.int _=>some false
 | _,_=>none
def allEq (f:D→D→Option Bool):List D→List D→Option Bool
 | [],[]=>some true
 | [],_ :: _=>some false
 | _ :: _,[]=>some false
 | a :: as,b :: bs=>match f a b,allEq f as bs with
  | some x,some y=>some (x&&y)
  | _,_=>none
def eqDn:Nat→D→D→Option Bool
 | n+1,.tup a,.tup b=>allEq (eqDn n) a b
 | n+1,.lst a,.lst b=>allEq (eqDn n) a b
 | _,.tup _,.lst _=>some false
 | _,.lst _,.tup _=>some false
 | _,.tup _,.non=>some false
 | _,.tup _,.bl _=>some false
 | _,.tup _,.int _=>some false
 | _,.tup _,.str _=>some false
 | _,.non,.tup _=>some false
 | _,.bl _,.tup _=>some false
 | _,.int _,.tup _=>some false
 | _,.str _,.tup _=>some false
 | _,.lst _,.non=>some false
 | _,.lst _,.bl _=>some false
 | _,.lst _,.int _=>some false
 | _,.lst _,.str _=>some false
 | _,.non,.lst _=>some false
 | _,.bl _,.lst _=>some false
 | _,.int _,.lst _=>some false
 | _,.str _,.lst _=>some false
 | _,x,y=>eqS x y
def eqD:D→D→Option Bool:=eqDn 6
def oEq (a b:D):Res D:=match eqD a b with
 | some x=>.ok (.bl x)
 | none=>.bad
def oNe (a b:D):Res D:=match eqD a b with
 | some x=>.ok (.bl !x)
 | none=>.bad
def oIsN:D→Res D
 | .non=>.ok (.bl true)
 | _=>.ok (.bl false)
def oNotN:D→Res D
 | .non=>.ok (.bl false)
 | _=>.ok (.bl true)
def oInS:D→D→Res D
 | .str [c],.str t=>.ok (.bl (t.contains c))
 | _,_=>.bad
def anyEq (x:D):List D→Option Bool
 | []=>some false
 | y :: r=>match eqD y x,anyEq x r with
  | some a,some b=>some (a || b)
  | _,_=>none
def oIn:D→D→Res D
 | x,.tup ys=>match anyEq x ys with
  | some b=>.ok (.bl b)
  | none=>.bad
 | x,.lst ys=>match anyEq x ys with
  | some b=>.ok (.bl b)
  | none=>.bad
 | _,_=>.bad
def oNotIn:D→D→Res D
 | x,.tup ys=>match anyEq x ys with
  | some b=>.ok (.bl !b)
  | none=>.bad
 | x,.lst ys=>match anyEq x ys with
  | some b=>.ok (.bl !b)
  | none=>.bad
 | _,_=>.bad
def oLen:D→Res D
 | .str t=>guard (t.length≤line) (.ok (.int t.length))
 | .tup xs=>.ok (.int xs.length)
 | .lst xs=>.ok (.int xs.length)
 | _=>.bad
inductive Ty where
 | bool | int | str | tuple | list | dict
def isTy:Ty→D→Bool
 | .bool,.bl _=>true
 | .int,.bl _=>true
 | .int,.int _=>true
 | .str,.str _=>true
 | .tuple,.tup _=>true
 | .list,.lst _=>true
 | .dict,.dct _ _=>true
 | _,_=>false
def oIsTy (t:Ty) (x:D):Res D:=.ok (.bl (isTy t x))
def ixZ (n:Nat) (i:Int):Option Nat:=if 0≤i then (if i < n then some i.toNat else none) else if -(n:Int)≤i then some (i+n).toNat else none
def oIx:D→D→Res D
 | .tup xs,.int i=>match (ixZ xs.length i).bind fun j=>xs[j]? with
  | some v=>.ok v
  | none=>.bad
 | .lst xs,.int i=>match (ixZ xs.length i).bind fun j=>xs[j]? with
  | some v=>.ok v
  | none=>.bad
 | .str cs,.int i=>guard (cs.length≤line) (match (ixZ cs.length i).bind fun j=>cs[j]? with
  | some c=>.ok (.str [c])
  | none=>.bad)
 | _,_=>.bad
def sIx (n d:Nat):Option Int→Nat
 | none=>d
 | some i=>if i < 0 then (i+n).toNat else min i.toNat n
def cut {α:Type} (xs:List α) (lo hi:Option Int):List α:=(xs.drop (sIx xs.length 0 lo)).take (sIx xs.length xs.length hi-sIx xs.length 0 lo)
abbrev PF:=Env→Res (Option Int)
def pNo (_:Env):Res (Option Int):=.ok none
def pAt (a:EF) (ρ:Env):Res (Option Int):=(a ρ).bind fun x=>match x with
 | .int i=>.ok (some i)
 | _=>.bad
def oSl:D→Option Int→Option Int→Res D
 | .str cs,lo,hi=>guard (cs.length≤line) (.ok (.str (cut cs lo hi)))
 | .tup xs,lo,hi=>.ok (.tup (cut xs lo hi))
 | _,_,_=>.bad
def eSl (a:EF) (lo hi:PF) (ρ:Env):Res D:=(a ρ).bind fun x=>(lo ρ).bind fun l=>(hi ρ).bind fun h=>oSl x l h
def lSl (a:EF) (lo hi:PF) (ρ:Env):Res (List D):=(a ρ).bind fun x=>(lo ρ).bind fun l=>(hi ρ).bind fun h=>match x with
 | .lst xs=>.ok (cut xs l h)
 | _=>.bad
def lCat (a b:EF) (ρ:Env):Res (List D):=(a ρ).bind fun x=>(b ρ).bind fun y=>match x,y with
 | .lst xs,.lst ys=>guard (xs.length+ys.length≤line) (.ok (xs++ys))
 | _,_=>.bad
def allB:List D→Option Bool
 | []=>some true
 | .bl b :: r=>(allB r).map (b&&·)
 | _ :: _=>none
def oAll:D→Res D
 | .lst xs=>match allB xs with
  | some b=>.ok (.bl b)
  | none=>.bad
 | _=>.bad
def iterD:D→Res (List D)
 | .tup xs=>.ok xs
 | .lst xs=>.ok xs
 | .str cs=>.ok (cs.map fun c=>.str [c])
 | _=>.bad
def iSeq (a:EF) (ρ:Env):Res (List D):=(a ρ).bind iterD
def zints (lo:Int) (n:Nat):List D:=(List.range n).map fun i=>D.int (lo+(i:Nat))
def iRng1 (a:EF) (ρ:Env):Res (List D):=(a ρ).bind fun x=>match x with
 | .int j=>.ok (zints 0 j.toNat)
 | _=>.bad
def iRng2 (a b:EF) (ρ:Env):Res (List D):=(a ρ).bind fun x=>(b ρ).bind fun y=>match x,y with
 | .int i,.int j=>.ok (zints i (j-i).toNat)
 | _,_=>.bad
def gName (i:Nat) (d:D) (ρ:Env):Res Env:=.ok (ρ.set i (some (.val d)))
def gNames:List Nat→List D→Env→Res Env
 | [],[],ρ=>.ok ρ
 | i :: is,d :: ds,ρ=>gNames is ds (ρ.set i (some (.val d)))
 | _,_,_=>.bad
def gTup (is:List Nat) (d:D) (ρ:Env):Res Env:=match d with
 | .tup ds=>gNames is ds ρ
 | _=>.bad
def capt1 (ρ:Env) (i:Nat):Option L:=match ρ[i]? with
 | some (some (.val d))=>some (.val d)
 | some (some (.bor xs))=>some (.bor xs)
 | some (some (.fdc ks))=>some (.fdc ks)
 | _=>none
def capt (ρ:Env) (is:List Nat):Env:=is.map (capt1 ρ)
def compGo (g:GF) (t:TF) (e:EF) (ρ:Env):List D→Res (List D)
 | []=>.ok []
 | d :: r=>(g d ρ).bind fun ρ1=>(t ρ1).bind fun c=>if c then (e ρ1).bind fun y=>(compGo g t e ρ r).bind fun ys=>.ok (y :: ys) else compGo g t e ρ r
def lComp (it:LF) (n:Nat) (is:List Nat) (g:GF) (t:TF) (e:EF) (ρ:Env):Res (List D):=(it ρ).bind fun ds=>guard (ds.length≤line) (compGo g t e (List.replicate n none++capt ρ is) ds)
def tTrue (_:Env):Res Bool:=.ok true
def sNext (ρ:Env):Res Fl:=.ok (.nx ρ)
def sSeq (a b:SF) (ρ:Env):Res Fl:=(a ρ).bind fun fl=>match fl with
 | .nx ρ'=>b ρ'
 | o=>.ok o
def sSet (i:Nat) (e:EF) (ρ:Env):Res Fl:=(e ρ).bind fun d=>.ok (.nx (ρ.set i (some (.val d))))
def sOwn (i:Nat) (e:LF) (ρ:Env):Res Fl:=(e ρ).bind fun xs=>.ok (.nx (ρ.set i (some (.own xs))))
def sGet (e:EF) (g:GF) (ρ:Env):Res Fl:=(e ρ).bind fun d=>(g d ρ).bind fun ρ'=>.ok (.nx ρ')
def sIf (t:TF) (a b:SF) (ρ:Env):Res Fl:=(t ρ).bind fun c=>if c then a ρ else b ρ
def sRet (e:EF) (ρ:Env):Res Fl:=(e ρ).bind fun d=>.ok (.rt d)
def sRetN (_:Env):Res Fl:=.ok (.rt .non)
def sBreak (ρ:Env):Res Fl:=.ok (.bk ρ)
def sCont (ρ:Env):Res Fl:=.ok (.ct ρ)
def frz (i:Nat) (ρ:Env):Env:=match ρ[i]? with
 | some (some (.own xs))=>ρ.set i (some (.val (.lst xs)))
 | _=>ρ
def sFrz (i:Nat) (a:SF) (ρ:Env):Res Fl:=a (frz i ρ)
def sAppend (i:Nat) (e:EF) (ρ:Env):Res Fl:=(e ρ).bind fun d=>match ρ[i]? with
 | some (some (.own xs))=>guard (xs.length < line) (.ok (.nx (ρ.set i (some (.own (xs++[d]))))))
 | _=>.bad
def sPut (i:Nat) (k e:EF) (ρ:Env):Res Fl:=(e ρ).bind fun d=>(k ρ).bind fun z=>match z,ρ[i]? with
 | .int z,some (some (.own xs))=>(match ixZ xs.length z with
  | some j=>.ok (.nx (ρ.set i (some (.own (xs.set j d)))))
  | none=>.bad)
 | _,_=>.bad
def forGo (g:GF) (b:SF):List D→Env→Res Fl
 | [],ρ=>.ok (.nx ρ)
 | d :: r,ρ=>(g d ρ).bind fun ρ1=>(b ρ1).bind fun fl=>match fl with
  | .nx ρ'=>forGo g b r ρ'
  | .ct ρ'=>forGo g b r ρ'
  | .bk ρ'=>.ok (.nx ρ')
  | .rt d=>.ok (.rt d)
def sFor (it:LF) (g:GF) (b:SF) (ρ:Env):Res Fl:=(it ρ).bind fun ds=>forGo g b ds ρ
def start (n:Nat) (ds:List D):Env:=ds.map (fun d=>some (.val d))++List.replicate (n-ds.length) none
def fn (ps n:Nat) (b:SF) (ds:List D):Res D:=if ds.length=ps then (match b (start n ds) with
 | .ok (.rt d)=>.ok d
 | .ok (.nx _)=>.ok .non
 | _=>.bad) else .bad
end Z
end
set_option genSizeOf false
noncomputable section
namespace Z
@[simp] theorem eC_a (d:D) (ρ:Env):eC d ρ=.ok d:=rfl
@[simp] theorem eB_a (o:D→D→Res D) (a b:EF) (ρ:Env):eB o a b ρ=(a ρ).bind fun x=>(b ρ).bind fun y=>o x y:=rfl
@[simp] theorem eU_a (o:D→Res D) (a:EF) (ρ:Env):eU o a ρ=(a ρ).bind o:=rfl
@[simp] theorem eL_a (l:LF) (ρ:Env):eL l ρ=(l ρ).map D.lst:=rfl
@[simp] theorem aNil_a (ρ:Env):aNil ρ=.ok []:=rfl
@[simp] theorem aCons_a (a:EF) (r:AF) (ρ:Env):aCons a r ρ=(a ρ).bind fun x=>(r ρ).bind fun xs=>.ok (x :: xs):=rfl
@[simp] theorem eCall_a (f:List D→Res D) (as:AF) (ρ:Env):eCall f as ρ=(as ρ).bind f:=rfl
@[simp] theorem sNext_a (ρ:Env):sNext ρ=.ok (.nx ρ):=rfl
@[simp] theorem sSet_a (i:Nat) (e:EF) (ρ:Env):sSet i e ρ=(e ρ).bind fun d=>.ok (.nx (ρ.set i (some (.val d)))):=rfl
@[simp] theorem sOwn_a (i:Nat) (e:LF) (ρ:Env):sOwn i e ρ=(e ρ).bind fun d=>.ok (.nx (ρ.set i (some (.own d)))):=rfl
@[simp] theorem sRet_a (e:EF) (ρ:Env):sRet e ρ=(e ρ).bind fun d=>.ok (.rt d):=rfl
@[simp] theorem sRetN_a (ρ:Env):sRetN ρ=.ok (.rt .non):=rfl
@[simp] theorem sIf_a (t:TF) (a b:SF) (ρ:Env):sIf t a b ρ=(t ρ).bind fun c=>if c then a ρ else b ρ:=rfl
@[simp] theorem eIf_a (t:TF) (a b:EF) (ρ:Env):eIf t a b ρ=(t ρ).bind fun c=>if c then a ρ else b ρ:=rfl
@[simp] theorem sFor_a (it:LF) (g:GF) (b:SF) (ρ:Env):sFor it g b ρ=(it ρ).bind fun ds=>forGo g b ds ρ:=rfl
def seqK (b:SF):Fl→Res Fl
 | .nx ρ'=>b ρ'
 | o=>.ok o
@[simp] theorem sSeq_a (a b:SF) (ρ:Env):sSeq a b ρ=(a ρ).bind (seqK b):=rfl
@[simp] theorem seqK_nx (b:SF) (ρ:Env):seqK b (.nx ρ)=b ρ:=rfl
@[simp] theorem seqK_rt (b:SF) (d:D):seqK b (.rt d)=.ok (.rt d):=rfl
@[simp] theorem seqK_bk (b:SF) (ρ:Env):seqK b (.bk ρ)=.ok (.bk ρ):=rfl
@[simp] theorem seqK_ct (b:SF) (ρ:Env):seqK b (.ct ρ)=.ok (.ct ρ):=rfl
def truK:D→Res Bool
 | .bl c=>.ok c
 | _=>.bad
@[simp] theorem tE_a (a:EF) (ρ:Env):tE a ρ=(a ρ).bind truK:=rfl
@[simp] theorem truK_bl (c:Bool):truK (.bl c)=.ok c:=rfl
@[simp] theorem tTrue_a (ρ:Env):tTrue ρ=.ok true:=rfl
@[simp] theorem tAnd_a (a b:TF) (ρ:Env):tAnd a b ρ=(a ρ).bind fun c=>if c then b ρ else .ok false:=rfl
@[simp] theorem tOr_a (a b:TF) (ρ:Env):tOr a b ρ=(a ρ).bind fun c=>if c then .ok true else b ρ:=rfl
@[simp] theorem tNot_a (a:TF) (ρ:Env):tNot a ρ=(a ρ).bind fun c=>.ok !c:=rfl
def boolK (f:Bool→Res D):D→Res D
 | .bl c=>f c
 | _=>.bad
@[simp] theorem boolK_bl (f:Bool→Res D) (c:Bool):boolK f (.bl c)=f c:=rfl
@[simp] theorem eAnd_a (a b:EF) (ρ:Env):eAnd a b ρ=(a ρ).bind (boolK fun c=>if c then b ρ else .ok (.bl false)):=rfl
@[simp] theorem eOr_a (a b:EF) (ρ:Env):eOr a b ρ=(a ρ).bind (boolK fun c=>if c then .ok (.bl true) else b ρ):=rfl
@[simp] theorem eNot_a (a:EF) (ρ:Env):eNot a ρ=(a ρ).bind (boolK fun c=>.ok (.bl !c)):=rfl
@[simp] theorem eChain_a (o o':D→D→Res D) (a b c:EF) (ρ:Env):eChain o o' a b c ρ=(a ρ).bind fun x=>(b ρ).bind fun y=>(o x y).bind (boolK fun k=>if k then (c ρ).bind fun w=>o' y w else .ok (.bl false)):=rfl
@[simp] theorem oAdd_int (a b:Int):oAdd (.int a) (.int b)=.ok (.int (a+b)):=rfl
theorem oAdd_str (a b:List Nat) (h:a.length+b.length≤line):oAdd (.str a) (.str b)=.ok (.str (a++b)):=by simp [oAdd,h]
@[simp] theorem oSub_int (a b:Int):oSub (.int a) (.int b)=.ok (.int (a-b)):=rfl
@[simp] theorem oMul_int (a b:Int):oMul (.int a) (.int b)=guard (mulFits a b) (.ok (.int (a*b))):=rfl
@[simp] theorem oDiv_int (a b:Int):oDiv (.int a) (.int b)=guard (divFits b) (.ok (.int (a / b))):=rfl
@[simp] theorem oMod_int (a b:Int):oMod (.int a) (.int b)=guard (0 < b) (.ok (.int (a % b))):=rfl
@[simp] theorem oShr_int (a b:Int):oShr (.int a) (.int b)=guard (0≤b) (.ok (.int (a / 2 ^ b.toNat))):=rfl
@[simp] theorem oLt_int (a b:Int):oLt (.int a) (.int b)=.ok (.bl (decide (a < b))):=rfl
@[simp] theorem oLe_int (a b:Int):oLe (.int a) (.int b)=.ok (.bl (decide (a≤b))):=rfl
@[simp] theorem oLe_str (a b:List Nat):oLe (.str a) (.str b)=.ok (.bl (!(ltC b a))):=rfl
@[simp] theorem oGt_int (a b:Int):oGt (.int a) (.int b)=.ok (.bl (decide (b < a))):=rfl
@[simp] theorem oGe_int (a b:Int):oGe (.int a) (.int b)=.ok (.bl (decide (b≤a))):=rfl
@[simp] theorem oEq_int (a b:Int):oEq (.int a) (.int b)=.ok (.bl (a==b)):=rfl
@[simp] theorem oEq_bl (a b:Bool):oEq (.bl a) (.bl b)=.ok (.bl (a==b)):=rfl
@[simp] theorem oEq_str (a b:List Nat):oEq (.str a) (.str b)=.ok (.bl (a==b)):=rfl
@[simp] theorem oNe_int (a b:Int):oNe (.int a) (.int b)=.ok (.bl (!(a==b))):=rfl
@[simp] theorem oNe_bl (a b:Bool):oNe (.bl a) (.bl b)=.ok (.bl (!(a==b))):=rfl
@[simp] theorem oNe_str (a b:List Nat):oNe (.str a) (.str b)=.ok (.bl (!(a==b))):=rfl
@[simp] theorem oLen_str (a:List Nat):oLen (.str a)=guard (a.length≤line) (.ok (.int a.length)):=rfl
@[simp] theorem oLen_tup (a:List D):oLen (.tup a)=.ok (.int a.length):=rfl
@[simp] theorem oLen_lst (a:List D):oLen (.lst a)=.ok (.int a.length):=rfl
@[simp] theorem oIsTy_a (t:Ty) (x:D):oIsTy t x=.ok (.bl (isTy t x)):=rfl
@[simp] theorem pNo_a (ρ:Env):pNo ρ=.ok none:=rfl
def intK:D→Res (Option Int)
 | .int i=>.ok (some i)
 | _=>.bad
@[simp] theorem intK_int (i:Int):intK (.int i)=.ok (some i):=rfl
@[simp] theorem pAt_a (a:EF) (ρ:Env):pAt a ρ=(a ρ).bind intK:=rfl
@[simp] theorem eSl_a (a:EF) (lo hi:PF) (ρ:Env):eSl a lo hi ρ=(a ρ).bind fun x=>(lo ρ).bind fun l=>(hi ρ).bind fun h=>oSl x l h:=rfl
@[simp] theorem iSeq_a (a:EF) (ρ:Env):iSeq a ρ=(a ρ).bind iterD:=rfl
def rng1K:D→Res (List D)
 | .int j=>.ok (zints 0 j.toNat)
 | _=>.bad
@[simp] theorem iRng1_a (a:EF) (ρ:Env):iRng1 a ρ=(a ρ).bind rng1K:=rfl
@[simp] theorem rng1K_int (j:Int):rng1K (.int j)=.ok (zints 0 j.toNat):=rfl
def rng2K:D→D→Res (List D)
 | .int i,.int j=>.ok (zints i (j-i).toNat)
 | _,_=>.bad
@[simp] theorem iRng2_a (a b:EF) (ρ:Env):iRng2 a b ρ=(a ρ).bind fun x=>(b ρ).bind fun y=>rng2K x y:=rfl
@[simp] theorem rng2K_int (i j:Int):rng2K (.int i) (.int j)=.ok (zints i (j-i).toNat):=rfl
@[simp] theorem iterD_tup (xs:List D):iterD (.tup xs)=.ok xs:=rfl
@[simp] theorem iterD_lst (xs:List D):iterD (.lst xs)=.ok xs:=rfl
@[simp] theorem iterD_str (cs:List Nat):iterD (.str cs)=.ok (cs.map fun c=>.str [c]):=rfl
@[simp] theorem gName_a (i:Nat) (d:D) (ρ:Env):gName i d ρ=.ok (ρ.set i (some (.val d))):=rfl
theorem lComp_a (it:LF) (n:Nat) (is:List Nat) (g:GF) (t:TF) (e:EF) (ρ:Env):lComp it n is g t e ρ=(it ρ).bind fun ds=>guard (ds.length≤line) (compGo g t e (List.replicate n none++capt ρ is) ds):=rfl
@[simp] theorem lDisp_a (as:AF) (ρ:Env):lDisp as ρ=(as ρ).bind fun xs=>guard (xs.length≤line) (.ok xs):=rfl
@[simp] theorem eTup_a (as:AF) (ρ:Env):eTup as ρ=(as ρ).bind fun xs=>guard (xs.length≤line) (.ok (.tup xs)):=rfl
def retK:Res Fl→Res D
 | .ok (.rt d)=>.ok d
 | .ok (.nx _)=>.ok .non
 | _=>.bad
@[simp] theorem retK_rt (d:D):retK (.ok (.rt d))=.ok d:=rfl
@[simp] theorem retK_nx (ρ:Env):retK (.ok (.nx ρ))=.ok .non:=rfl
theorem fn_a (ps n:Nat) (b:SF) (ds:List D) (h:ds.length=ps):fn ps n b ds=retK (b (start n ds)):=by
 unfold fn;rw [if_pos h];cases b (start n ds) with
 | bad=>rfl
 | ok f=>cases f<;>rfl
theorem mulFits_l {a b:Int} (h1:-18446744073709551616 < a) (h2:a < 18446744073709551616):mulFits a b:=by
 unfold mulFits;exact .inl ⟨h1,h2⟩
theorem mulFits_r {a b:Int} (h1:-18446744073709551616 < b) (h2:b < 18446744073709551616):mulFits a b:=by
 unfold mulFits;exact .inr (.inl ⟨h1,h2⟩)
theorem divFits_of {b:Int} (h0:0 < b) (h:b < 1809251394333065553493296640760748560207343510400633813116524750123642650624):divFits b:=by
 exact ⟨h0,h⟩
theorem ix_str {cs:List Nat} {i:Int} (h0:0≤i) (h1:i < cs.length) (hl:cs.length≤line):∃ c∈cs,oIx (.str cs) (.int i)=.ok (.str [c]):=by
 have hj:i.toNat < cs.length:=by lia
 refine ⟨cs[i.toNat],List.getElem_mem hj,?_⟩
 simp [oIx,hl,ixZ,h0,h1,hj]
theorem ints_at {n j:Nat} {d:D} (h:(zints 0 n)[j]?=some d):j < n∧d=.int (j:Nat):=by
 unfold zints at h
 rw [List.getElem?_map] at h
 cases q:(List.range n)[j]? with
 | none=>rw [q] at h;cases h
 | some i =>
  rw [q] at h
  obtain ⟨h1,h2⟩:=List.getElem?_eq_some_iff.mp q
  rw [List.length_range] at h1
  rw [List.getElem_range] at h2
  subst h2
  simp at h
  exact ⟨h1,h.symm⟩
@[simp] theorem ints_len (lo:Int) (n:Nat):(zints lo n).length=n:=by simp [zints]
theorem cut_len {α:Type} (xs:List α) (lo hi:Option Int):(cut xs lo hi).length≤xs.length:=by
 unfold cut
 rw [List.length_take,List.length_drop]
 lia
theorem mem_cut {α:Type} {xs:List α} {lo hi:Option Int} {x:α} (h:x∈cut xs lo hi):x∈xs:=List.mem_of_mem_drop (List.mem_of_mem_take h)
@[simp] theorem lSl_a (xs:List D) (a:EF) (lo hi:PF) (ρ:Env) (h:a ρ=.ok (.lst xs)):lSl a lo hi ρ=(lo ρ).bind fun l=>(hi ρ).bind fun h=>.ok (cut xs l h):=by
 unfold lSl;rw [h];rfl
theorem allB_bl:∀ (bs:List Bool),allB (bs.map D.bl)=some (bs.all id)
 | []=>rfl
 | b :: bs=>by simp [allB,allB_bl bs]
@[simp high] theorem gt0 {α:Type _} (a:α) (l:List α):(a :: l)[0]?=some a:=rfl
@[simp high] theorem gtS {α:Type _} (a:α) (l:List α) (n:Nat):(a :: l)[n+1]?=l[n]?:=rfl
@[simp high] theorem st0 {α:Type _} (a x:α) (l:List α):(a :: l).set 0 x=x :: l:=rfl
@[simp high] theorem stS {α:Type _} (a x:α) (l:List α) (n:Nat):(a :: l).set (n+1) x=a :: l.set n x:=rfl
end Z
end
set_option maxHeartbeats 4000000
namespace ZS
open PySem PySem.Spec PyProof.Rows L2
abbrev St:=L2.St
def keyZ:Sum Int (List Nat)→Key
 | .inl i=>.inl i
 | .inr cs=>.inr ⟨cs.toArray⟩
def FzL (K:PySem.W.Frag) (H:Hp) (a:Addr) (xs:List V):Prop :=
 (∃ o,H a=some (.frz o (.lst xs))) ∨
  ∃ (o:Obj) (its:Array Value) (n:Nat),K.lookup a=some o∧o.cls=.type "list" ∧ o.dict=none∧o.data=.seq its n∧its.size≤sizeLine∧Vals xs its.toList
theorem FzL.sq {K:PySem.W.Frag} {H:Hp} {a:Addr} {xs:List V} (h:FzL K H a xs):SqL K H a xs:=by
 rcases h with ⟨o,h⟩ | h
 ·exact .inl (.inr ⟨o,h⟩)
 ·exact .inr h
structure Stb (H H':Hp):Prop where
 tup:∀ a xs,H a=some (.tup xs)→H' a=some (.tup xs)
 frz:∀ a o u,H a=some (.frz o u)→H' a=some (.frz o u)
theorem Stb.refl (H:Hp):Stb H H:=⟨fun _ _ h=>h,fun _ _ _ h=>h⟩
theorem Stb.trans {H H1 H2:Hp} (a:Stb H H1) (b:Stb H1 H2):Stb H H2:=⟨fun c xs h=>b.tup c xs (a.tup c xs h),fun c o u h=>b.frz c o u (a.frz c o u h)⟩
theorem stb {H H':Hp} (s:Same H H'):Stb H H':=⟨fun _ _ h=>s _ _ h,fun _ _ _ h=>s _ _ h⟩
theorem stb_upd {H:Hp} {p:Addr} {o u:HO} (h:H p=some o) (n1:∀ xs,o≠.tup xs) (n2:∀ ob x,o≠.frz ob x):Stb H (upd H p u) :=
 ⟨fun a xs e=>by rw [upd_ne (by rintro rfl;rw [h] at e;exact n1 xs (Option.some.inj e))];exact e,fun a ob x e=>by rw [upd_ne (by rintro rfl;rw [h] at e;exact n2 ob x (Option.some.inj e))];exact e⟩
theorem stb_lst {H:Hp} {p:Addr} {xs:List V} {u:HO} (h:H p=some (.lst xs)):Stb H (upd H p u):=stb_upd h (fun _ z=>nomatch z) (fun _ _ z=>nomatch z)
theorem FzL.mono {K:PySem.W.Frag} {H H':Hp} {a:Addr} {xs:List V} (e:Stb H H') (h:FzL K H a xs):FzL K H' a xs:=by
 rcases h with ⟨o,h⟩ | h
 ·exact .inl ⟨o,e.frz _ _ _ h⟩
 ·exact .inr h
theorem sqT_mono {K:PySem.W.Frag} {H H':Hp} {a:Addr} {xs:List V} (e:Stb H H') (h:SqT K H a xs):SqT K H' a xs:=by
 rcases h with (h | ⟨o,h⟩) | h
 ·exact .inl (.inl (e.tup _ _ h))
 ·exact .inl (.inr ⟨o,e.frz _ _ _ h⟩)
 ·exact .inr h
mutual
def Den (K:PySem.W.Frag) (H:Hp):Z.D→V→Prop
 | .non,v=>v=.non
 | .bl b,v=>v=.bl b
 | .int i,v=>v=.int i
 | .str cs,v=>v=.str ⟨cs.toArray⟩
 | .tup ds,v=>∃ a vs,v=.ref a∧SqT K H a vs∧Dens K H ds vs
 | .lst ds,v=>∃ a vs,v=.ref a∧FzL K H a vs∧Dens K H ds vs
 | .dct ks ds,v=>∃ a o kvs,v=.ref a∧H a=some (.frz o (.dK kvs))∧kvs.map (·.1)=ks.map keyZ∧Dens K H ds (kvs.map (·.2))
def Dens (K:PySem.W.Frag) (H:Hp):List Z.D→List V→Prop
 | [],vs=>vs=[]
 | d :: ds,vs=>∃ v r,vs=v :: r∧Den K H d v∧Dens K H ds r
end
section
variable {K:PySem.W.Frag} {H H':Hp}
mutual
theorem Den.mono (e:Stb H H'):∀ (d:Z.D) (v:V),Den K H d v→Den K H' d v
 | .non,v,h=>by simp only [Den] at h ⊢;exact h
 | .bl b,v,h=>by simp only [Den] at h ⊢;exact h
 | .int i,v,h=>by simp only [Den] at h ⊢;exact h
 | .str cs,v,h=>by simp only [Den] at h ⊢;exact h
 | .tup ds,v,h=>by
  simp only [Den] at h ⊢
  obtain ⟨a,vs,e1,q,r⟩:=h
  exact ⟨a,vs,e1,sqT_mono e q,Dens.mono e ds vs r⟩
 | .lst ds,v,h=>by
  simp only [Den] at h ⊢
  obtain ⟨a,vs,e1,q,r⟩:=h
  exact ⟨a,vs,e1,q.mono e,Dens.mono e ds vs r⟩
 | .dct ks ds,v,h=>by
  simp only [Den] at h ⊢
  obtain ⟨a,o,kvs,e1,q,k,r⟩:=h
  exact ⟨a,o,kvs,e1,e.frz _ _ _ q,k,Dens.mono e ds _ r⟩
theorem Dens.mono (e:Stb H H'):∀ (ds:List Z.D) (vs:List V),Dens K H ds vs→Dens K H' ds vs
 | [],vs,h=>by simp only [Dens] at h ⊢;exact h
 | d :: ds,vs,h=>by
  simp only [Dens] at h ⊢
  obtain ⟨v,r,e1,q,t⟩:=h
  exact ⟨v,r,e1,Den.mono e d v q,Dens.mono e ds r t⟩
end
theorem Den.up {d:Z.D} {v:V} (h:Den K H d v) (e:Same H H'):Den K H' d v:=Den.mono (stb e) d v h
theorem Den.ups {d:Z.D} {v:V} (h:Den K H d v) (e:Stb H H'):Den K H' d v:=Den.mono e d v h
theorem Dens.ups {ds:List Z.D} {vs:List V} (h:Dens K H ds vs) (e:Stb H H'):Dens K H' ds vs:=Dens.mono e ds vs h
theorem Dens.up {ds:List Z.D} {vs:List V} (h:Dens K H ds vs) (e:Same H H'):Dens K H' ds vs:=Dens.mono (stb e) ds vs h
theorem Dens.nil:Dens K H [] []:=by simp only [Dens]
theorem Dens.cons {d:Z.D} {ds:List Z.D} {v:V} {vs:List V} (h:Den K H d v) (t:Dens K H ds vs):Dens K H (d :: ds) (v :: vs):=by
 simp only [Dens];exact ⟨v,vs,rfl,h,t⟩
theorem Dens.length:∀ {ds:List Z.D} {vs:List V},Dens K H ds vs→vs.length=ds.length
 | [],vs,h=>by simp only [Dens] at h;subst h;rfl
 | d :: ds,vs,h=>by
  simp only [Dens] at h
  obtain ⟨v,r,rfl,_,t⟩:=h
  simp [Dens.length t]
theorem Dens.get:∀ {ds:List Z.D} {vs:List V} {i:Nat} {d:Z.D},Dens K H ds vs→ds[i]?=some d→∃ v,vs[i]?=some v∧Den K H d v
 | [],_,_,_,_,e=>by simp at e
 | x :: ds,vs,0,d,h,e=>by
  simp only [Dens] at h
  obtain ⟨v,r,rfl,q,_⟩:=h
  simp at e;subst e
  exact ⟨v,rfl,q⟩
 | x :: ds,vs,i+1,d,h,e=>by
  simp only [Dens] at h
  obtain ⟨v,r,rfl,_,t⟩:=h
  obtain ⟨u,h1,h2⟩:=Dens.get (i:=i) t (by simpa using e)
  exact ⟨u,by simpa using h1,h2⟩
theorem Dens.append:∀ {ds es:List Z.D} {vs us:List V},Dens K H ds vs→Dens K H es us→Dens K H (ds++es) (vs++us)
 | [],_,_,_,h,g=>by simp only [Dens] at h;subst h;exact g
 | d :: ds,es,vs,us,h,g=>by
  simp only [Dens] at h
  obtain ⟨v,r,rfl,q,t⟩:=h
  exact Dens.cons q (Dens.append t g)
theorem Dens.drop:∀ {ds:List Z.D} {vs:List V} (n:Nat),Dens K H ds vs→Dens K H (ds.drop n) (vs.drop n)
 | _,_,0,h=>by simpa using h
 | [],vs,_+1,h=>by simp only [Dens] at h;subst h;simpa using Dens.nil
 | d :: ds,vs,n+1,h=>by
  simp only [Dens] at h
  obtain ⟨v,r,rfl,q,t⟩:=h
  simpa using Dens.drop n t
theorem Dens.take:∀ {ds:List Z.D} {vs:List V} (n:Nat),Dens K H ds vs→Dens K H (ds.take n) (vs.take n)
 | _,_,0,h=>by simpa using Dens.nil
 | [],vs,_+1,h=>by simp only [Dens] at h;subst h;simpa using Dens.nil
 | d :: ds,vs,n+1,h=>by
  simp only [Dens] at h
  obtain ⟨v,r,rfl,q,t⟩:=h
  simpa using Dens.cons q (Dens.take n t)
theorem Dens.zints:∀ (ns:List Int),Dens K H (ns.map Z.D.int) (ns.map V.int)
 | []=>Dens.nil
 | n :: ns=>Dens.cons (by simp only [Den]) (Dens.zints ns)
def DenW (K:PySem.W.Frag) (H:Hp) (d:Z.D) (v:V):Prop:=Den K H d v∨∃ ds a vs,d=.lst ds∧v=.ref a∧H a=some (.lst vs)∧Dens K H ds vs
theorem DenW.up {d:Z.D} {v:V} (h:DenW K H d v) (e:Same H H'):DenW K H' d v:=by
 rcases h with h | ⟨ds,a,vs,e1,e2,q,t⟩
 ·exact .inl (h.up e)
 ·exact .inr ⟨ds,a,vs,e1,e2,e _ _ q,t.up e⟩
theorem DenW.strong {d:Z.D} {v:V} (h:DenW K H d v) (n:∀ ds,d≠.lst ds):Den K H d v:=by
 rcases h with h | ⟨ds,a,vs,e1,_⟩
 ·exact h
 ·exact absurd e1 (n ds)
theorem DenW.non {v:V} (h:DenW K H .non v):v=.non:=by
 have:=h.strong (fun _ z=>nomatch z);simpa only [Den] using this
theorem DenW.bl {b:Bool} {v:V} (h:DenW K H (.bl b) v):v=.bl b:=by
 have:=h.strong (fun _ z=>nomatch z);simpa only [Den] using this
theorem DenW.int {i:Int} {v:V} (h:DenW K H (.int i) v):v=.int i:=by
 have:=h.strong (fun _ z=>nomatch z);simpa only [Den] using this
theorem DenW.str {cs:List Nat} {v:V} (h:DenW K H (.str cs) v):v=.str ⟨cs.toArray⟩:=by
 have:=h.strong (fun _ z=>nomatch z);simpa only [Den] using this
theorem DenW.tup {ds:List Z.D} {v:V} (h:DenW K H (.tup ds) v):∃ a vs,v=.ref a∧SqT K H a vs∧Dens K H ds vs:=by
 have:=h.strong (fun _ z=>nomatch z);simpa only [Den] using this
theorem DenW.lst {ds:List Z.D} {v:V} (h:DenW K H (.lst ds) v):∃ a vs,v=.ref a∧SqL K H a vs∧Dens K H ds vs:=by
 rcases h with h | ⟨es,a,vs,e1,e2,q,t⟩
 ·simp only [Den] at h
  obtain ⟨a,vs,e,q,t⟩:=h
  exact ⟨a,vs,e,q.sq,t⟩
 ·cases e1
  exact ⟨a,vs,e2,.inl (.inl q),t⟩
theorem DenW.dct {ks:List (Sum Int (List Nat))} {ds:List Z.D} {v:V} (h:DenW K H (.dct ks ds) v):∃ a o kvs,v=.ref a∧H a=some (.frz o (.dK kvs))∧kvs.map (·.1)=ks.map keyZ∧Dens K H ds (kvs.map (·.2)):=by
 have:=h.strong (fun _ z=>nomatch z);simpa only [Den] using this
theorem den_non:Den K H .non .non:=by simp only [Den]
theorem den_bl {b:Bool}:Den K H (.bl b) (.bl b):=by simp only [Den]
theorem den_int {i:Int}:Den K H (.int i) (.int i):=by simp only [Den]
theorem den_str {cs:List Nat}:Den K H (.str cs) (.str ⟨cs.toArray⟩):=by simp only [Den]
theorem den_tup {ds:List Z.D} {a:Addr} {vs:List V} (h:SqT K H a vs) (t:Dens K H ds vs):Den K H (.tup ds) (.ref a):=by
 simp only [Den];exact ⟨a,vs,rfl,h,t⟩
theorem den_lst {ds:List Z.D} {a:Addr} {vs:List V} (h:FzL K H a vs) (t:Dens K H ds vs):Den K H (.lst ds) (.ref a):=by
 simp only [Den];exact ⟨a,vs,rfl,h,t⟩
end
def entI (x:List Int×Addr×Value):DictEntry:={ hash:=reduceHash (Builtin.Tuple.tupleHashOf (x.1.map hashInt)),key:=.ref x.2.1,val:=x.2.2 }
def DicAt (a:Addr) (ks:List (List Int)) (as:List Addr) (h:Heap):Prop:=ks.length≤sizeLine∧(a==sysModules)=false∧∃ (xs:List (List Int×Addr×Value)) (o:Obj) (es:Array DictEntry) (ep:Nat),xs.map (·.1)=ks∧xs.map (·.2.1)=as∧h.get? a=some o∧o.ExactDict∧o.data=.dict es ep∧es.toList=xs.map entI∧ks.Nodup
abbrev DicO (a:Addr) (ks:List (List Int)) (as:List Addr):HO:=.ext (DicAt a ks as)
def KeysAt (K:PySem.W.Frag) (H:Hp) (ks:List (List Int)) (as:List Addr):Prop:=Paired (fun (k:List Int) (b:Addr)=>Den K H (.tup (k.map .int)) (.ref b)) ks as
def kvT (kvs:List (List Nat×List Nat)):List (Key×V):=kvs.map fun p=>(Sum.inr ⟨p.1.toArray⟩,V.str ⟨p.2.toArray⟩)
def DcO (a:Addr):Z.DK→List Addr→HO
 | .inl ks,as=>DicO a ks as
 | .inr kvs,_=>.dK (kvT kvs)
def DcK (K:PySem.W.Frag) (H:Hp):Z.DK→List Addr→Prop
 | .inl ks,as=>KeysAt K H ks as
 | .inr _,_=>True
theorem dcO_lst {a:Addr} {k:Z.DK} {as:List Addr} {xs:List V}:DcO a k as≠.lst xs:=by cases k<;>exact fun z=>nomatch z
theorem dcO_tup {a:Addr} {k:Z.DK} {as:List Addr} {xs:List V}:DcO a k as≠.tup xs:=by cases k<;>exact fun z=>nomatch z
theorem dcO_frz {a:Addr} {k:Z.DK} {as:List Addr} {o:Obj} {u:HO}:DcO a k as≠.frz o u:=by cases k<;>exact fun z=>nomatch z
def kvI (ps:List (Int×Int)):List (Key×V):=ps.map fun p=>(Sum.inl p.1,V.int p.2)
def xcIn (K:PySem.W.Frag) (C:Addr):Bool:=match K.lookup C with
 | some ⟨.type "type",_,.cls cd,sl⟩=>(match cd.mro,sl.toList with
  | .ref C' :: tl,[_,_,_,_,some (.builtin n),_]=>C'==C&&n == "ValueError.__new__" && !cd.hasDel&&tl.contains (.type "BaseException")
  | _,_=>false)
 | _=>false
def XC (K:PySem.W.Frag) (c:List Nat) (C:Addr):Prop:=PySem.W.nsIn K mainGlobals ⟨c.toArray⟩=some (some (.ref C))∧xcIn K C=true
def XD (K:PySem.W.Frag) (H:Hp):Option Addr→List (List Nat×Z.D)→Prop
 | none,fs=>fs=[]
 | some dx,fs=>fs≠[]∧∃ od kvs,H dx=some (.frz od (.xd kvs))∧Paired (fun (p:Str×V) (q:List Nat×Z.D)=>p.1=⟨q.1.toArray⟩∧Den K H q.2 p.2) kvs fs
theorem XD.ups {K:PySem.W.Frag} {H H':Hp} {dd:Option Addr} {fs:List (List Nat×Z.D)} (h:XD K H dd fs) (e:Stb H H'):XD K H' dd fs:=by
 cases dd with
 | none=>exact h
 | some dx =>
  obtain ⟨n,od,kvs,q,p⟩:=h
  exact ⟨n,od,kvs,e.frz _ _ _ q,Paired.mapP p fun _ _ z=>⟨z.1,z.2.ups e⟩⟩
def XRel (K:PySem.W.Frag) (H:Hp) (c:List Nat×List (List Nat×Z.D)) (C:Addr) (dd:Option Addr):Prop:=XC K c.1 C∧XD K H dd c.2
theorem XRel.ups {K:PySem.W.Frag} {H H':Hp} {c:List Nat×List (List Nat×Z.D)} {C:Addr} {dd:Option Addr} (h:XRel K H c C dd) (e:Stb H H'):XRel K H' c C dd:=⟨h.1,h.2.ups e⟩
def RL (K:PySem.W.Frag) (H:Hp):Z.L→V→Prop
 | .val d,v=>Den K H d v
 | .own ds,v=>∃ a vs,v=.ref a∧H a=some (.lst vs)∧Dens K H ds vs
 | .bor ds,v=>DenW K H (.lst ds) v
 | .dc k,v=>∃ a as,v=.ref a∧H a=some (DcO a k as)∧DcK K H k as
 | .fdc ks,v=>∃ a o as,v=.ref a∧H a=some (.frz o (DicO a ks as))∧KeysAt K H ks as
 | .idc ps,v=>∃ a o,v=.ref a∧H a=some (.frz o (.dK (kvI ps)))
 | .exc c,v=>∃ a o u C,v=.ref a∧H a=some (.frz o u)∧o.cls=.ref C∧(∃ vs,o.data=.fields vs)∧XRel K H c C o.dict
theorem KeysAt.ups {K:PySem.W.Frag} {H H':Hp} {ks:List (List Int)} {as:List Addr} (h:KeysAt K H ks as) (e:Stb H H'):KeysAt K H' ks as:=Paired.mapP h fun _ _ d=>Den.ups d e
theorem DcK.ups {K:PySem.W.Frag} {H H':Hp} {k:Z.DK} {as:List Addr} (h:DcK K H k as) (e:Stb H H'):DcK K H' k as:=by
 cases k with
 | inl ks=>exact KeysAt.ups (show KeysAt K H ks as from h) e
 | inr _=>exact True.intro
structure RE (K:PySem.W.Frag) (H:Hp) (σ:St) (ρ:Z.Env):Prop where
 len:ρ.length=σ.length
 get:∀ (i:Nat) (l:Z.L),ρ[i]?=some (some l)→∃ v,σ[i]?=some (some v)∧RL K H l v
 sep:∀ (i j:Nat) (xs ys:List Z.D) (a:Addr),ρ[i]?=some (some (.own xs))→ρ[j]?=some (some (.own ys))→σ[i]?=some (some (.ref a))→σ[j]?=some (some (.ref a))→i=j
section
variable {K:PySem.W.Frag} {H H':Hp} {σ:St} {ρ:Z.Env}
theorem RL.up {l:Z.L} {v:V} (h:RL K H l v) (e:Same H H'):RL K H' l v:=by
 cases l with
 | val d=>exact Den.up (show Den K H d v from h) e
 | own ds =>
  obtain ⟨a,vs,e1,q,t⟩:=h
  exact ⟨a,vs,e1,e _ _ q,t.up e⟩
 | bor ds=>exact DenW.up (show DenW K H (.lst ds) v from h) e
 | dc ks =>
  obtain ⟨a,as,e1,q,t⟩:=h
  exact ⟨a,as,e1,e _ _ q,t.ups (stb e)⟩
 | fdc ks =>
  obtain ⟨a,o,as,e1,q,t⟩:=h
  exact ⟨a,o,as,e1,e _ _ q,t.ups (stb e)⟩
 | idc ps =>
  obtain ⟨a,o,e1,q⟩:=h
  exact ⟨a,o,e1,e _ _ q⟩
 | exc c =>
  obtain ⟨a,o,u,C,e1,q,r1,r2,r3⟩:=h
  exact ⟨a,o,u,C,e1,e _ _ q,r1,r2,r3.ups (stb e)⟩
theorem RE.up (h:RE K H σ ρ) (e:Same H H'):RE K H' σ ρ :=
 ⟨h.len,fun i l q=>let ⟨v,h1,h2⟩:=h.get i l q;⟨v,h1,h2.up e⟩,h.sep⟩
theorem upd_Same {a:Addr} {o:HO} (h:H a=none):Same H (upd H a o):=fun b u e=>by
 rw [upd_ne (ne_of_none e h)];exact e
end
def tZ (K:PySem.W.Frag) (f:Z.EF):TE:=fun σ H Q=>∃ ρ d,RE K H σ ρ∧f ρ=.ok d∧∀ v H',Same H H'→Den K H' d v→Q v H'
def tZw (K:PySem.W.Frag) (f:Z.EF):TE:=fun σ H Q=>∃ ρ d,RE K H σ ρ∧f ρ=.ok d∧∀ v H',Same H H'→DenW K H' d v→Q v H'
def tZl (K:PySem.W.Frag) (f:Z.LF):TE:=fun σ H Q=>∃ ρ ds,RE K H σ ρ∧f ρ=.ok ds∧∀ a vs H',Same H H'→H a=none→H' a=some (.lst vs)→Dens K H' ds vs→Q (.ref a) H'
def tZt (K:PySem.W.Frag) (f:Z.TF):TT:=fun σ H Q=>∃ ρ b,RE K H σ ρ∧f ρ=.ok b∧∀ H',Same H H'→Q b H'
def tZa (K:PySem.W.Frag) (f:Z.AF):TA:=fun σ H Q=>∃ ρ ds,RE K H σ ρ∧f ρ=.ok ds∧∀ vs H',Same H H'→Dens K H' ds vs→Q vs H'
def tZp (K:PySem.W.Frag) (f:Z.PF):TO:=fun σ H Q=>∃ ρ o,RE K H σ ρ∧f ρ=.ok o∧∀ H',Same H H'→Q o H'
abbrev DE (X:Cx) (e:Expr) (f:Z.EF):Prop:=PE X e (tZ X.K f)
abbrev DW (X:Cx) (e:Expr) (f:Z.EF):Prop:=PE X e (tZw X.K f)
abbrev DL (X:Cx) (e:Expr) (f:Z.LF):Prop:=PE X e (tZl X.K f)
abbrev DT (X:Cx) (e:Expr) (f:Z.TF):Prop:=PT X e (tZt X.K f)
abbrev DTW (X:Cx) (e:Expr) (f:Z.TF):Prop:=PW X e (tZt X.K f)
abbrev DA (X:Cx) (es:List Expr) (f:Z.AF):Prop:=PA X es (tZa X.K f)
abbrev DP (X:Cx) (e:Option Expr) (f:Z.PF):Prop:=PO X e (tZp X.K f)
section
variable {X:Cx} {e a b c:Expr} {es:List Expr} {pos:Pos} {f fa fb fc:Z.EF}
theorem PE.imp {t t':TE} (h:PE X e t) (k:∀ σ H Q,t' σ H Q→t σ H Q):PE X e t':=fun pins s σ H Q I w=>h pins s σ H Q I (k σ H Q w)
theorem PT.imp {t t':TT} (h:PT X e t) (k:∀ σ H Q,t' σ H Q→t σ H Q):PT X e t':=fun pins s σ H Q I w=>h pins s σ H Q I (k σ H Q w)
theorem PW.imp {t t':TT} (h:PW X e t) (k:∀ σ H Q,t' σ H Q→t σ H Q):PW X e t':=fun whole pins s σ H Q I w=>h whole pins s σ H Q I (k σ H Q w)
theorem PA.imp {t t':TA} (h:PA X es t) (k:∀ σ H Q,t' σ H Q→t σ H Q):PA X es t':=fun p pins s σ H Q I w=>h p pins s σ H Q I (k σ H Q w)
theorem PO.imp {o:Option Expr} {t t':TO} (h:PO X o t) (k:∀ σ H Q,t' σ H Q→t σ H Q):PO X o t':=fun pins s σ H Q I w=>h pins s σ H Q I (k σ H Q w)
theorem de_c {v:V} {d:Z.D} (h:PE X e (tC v)) (hd:∀ H,Den X.K H d v):DE X e (Z.eC d):=PE.imp h fun σ H Q ⟨ρ,d',_,e,k⟩=>by
 have e':Z.Res.ok d=Z.Res.ok d':=e
 cases e'
 exact k v H (Same.refl H) (hd H)
theorem de_int {i:Int} {j}:DE X (.Constant (.int i) j pos) (Z.eC (.int i)):=de_c pe_int fun _=>den_int
theorem de_bl {x:Bool} {j}:DE X (.Constant (.bool x) j pos) (Z.eC (.bl x)):=de_c pe_bl fun _=>den_bl
theorem de_non {j}:DE X (.Constant .none j pos) (Z.eC .non):=de_c pe_non fun _=>den_non
theorem de_str {x:Str} {cs:List Nat} {j} (h:x=⟨cs.toArray⟩):DE X (.Constant (.str x) j pos) (Z.eC (.str cs)):=by
 subst h;exact de_c pe_str fun _=>den_str
theorem eV_ok {i:Nat} {ρ:Z.Env} {d:Z.D} (h:Z.eV i ρ=.ok d):ρ[i]?=some (some (.val d)):=by
 unfold Z.eV at h
 split at h
 ·rename_i d' q;cases h;exact q
 ·cases h
theorem eW_ok {i:Nat} {ρ:Z.Env} {d:Z.D} (h:Z.eW i ρ=.ok d):ρ[i]?=some (some (.val d))∨(∃ xs,ρ[i]?=some (some (.own xs))∧d=.lst xs)∨∃ xs,ρ[i]?=some (some (.bor xs))∧d=.lst xs:=by
 unfold Z.eW at h
 split at h
 ·rename_i d' q;cases h;exact .inl q
 ·rename_i xs q;cases h;exact .inr (.inl ⟨xs,q,rfl⟩)
 ·rename_i xs q;cases h;exact .inr (.inr ⟨xs,q,rfl⟩)
 ·cases h
theorem de_var {i:Nat} (h:PE X e (tVar i)):DE X e (Z.eV i):=PE.imp h fun σ H Q ⟨ρ,d,r,e,k⟩=>by
 obtain ⟨v,h1,h2⟩:=r.get i _ (eV_ok e)
 exact ⟨v,h1,k v H (Same.refl H) h2⟩
theorem dw_var {i:Nat} (h:PE X e (tVar i)):DW X e (Z.eW i):=PE.imp h fun σ H Q ⟨ρ,d,r,e,k⟩=>by
 rcases eW_ok e with q | ⟨xs,q,rfl⟩ | ⟨xs,q,rfl⟩
 rotate_left
 rotate_left
 ·obtain ⟨v,h1,h2⟩:=r.get i _ q
  exact ⟨v,h1,k v H (Same.refl H) h2⟩
 ·obtain ⟨v,h1,h2⟩:=r.get i _ q
  exact ⟨v,h1,k v H (Same.refl H) (.inl h2)⟩
 ·obtain ⟨v,h1,a,vs,rfl,h2,h3⟩:=r.get i _ q
  exact ⟨_,h1,k _ H (Same.refl H) (.inr ⟨xs,a,vs,rfl,rfl,h2,h3⟩)⟩
theorem de_v (i:Nat) {x:Str} (hN:X.N[i]?=some x:=by rfl) (hv:Vis X.env.scope x:=by first | exact Or.inl rfl | exact Or.inr (Or.inl rfl) | exact Or.inr (Or.inr rfl)) (hd:(x==("__debug__" : Str))=false:=by decide +kernel)
  (hcd:(x==("__classdict__" : Str))=false:=by decide +kernel):DE X (.Name x pos) (Z.eV i):=de_var (pe_var hN hv hd hcd)
theorem dw_v (i:Nat) {x:Str} (hN:X.N[i]?=some x:=by rfl) (hv:Vis X.env.scope x:=by first | exact Or.inl rfl | exact Or.inr (Or.inl rfl) | exact Or.inr (Or.inr rfl)) (hd:(x==("__debug__" : Str))=false:=by decide +kernel)
  (hcd:(x==("__classdict__" : Str))=false:=by decide +kernel):DW X (.Name x pos) (Z.eW i):=dw_var (pe_var hN hv hd hcd)
theorem de_glob {x:Str} {u:Value} {v:V} {d:Z.D} (hg:Gl X x) (hm:X.mg x=some u) (r:RelV v u) (hd:∀ H,Den X.K H d v) (hb:(x==("__debug__" : Str))=false:=by decide +kernel):DE X (.Name x pos) (Z.eC d) :=
 de_c (pe_glob hg hm r hb) hd
theorem dw_e (h:DE X e f):DW X e f:=PE.imp h fun σ H Q ⟨ρ,d,r,e,k⟩=>⟨ρ,d,r,e,fun v H' s q=>k v H' s (.inl q)⟩
theorem dw_l {l:Z.LF} (h:DL X e l):DW X e (Z.eL l):=PE.imp h fun σ H Q ⟨ρ,d,r,e,k⟩=>by
 unfold Z.eL at e
 cases q:l ρ with
 | bad=>rw [q] at e;cases e
 | ok ds =>
  rw [q] at e;cases e
  exact ⟨ρ,ds,r,q,fun a vs H' s hn h1 h2=>k _ H' s (.inr ⟨ds,a,vs,rfl,rfl,h1,h2⟩)⟩
theorem inv_freeze {pins : List (Addr × Obj)} {σ : St} {H : Hp} {s : Shared} {p : Addr} {xs : List V} (I : Inv X pins σ H s) (h : H p = some (.lst xs)) : ∃ o, Inv X pins σ (upd H p (.frz o (.lst xs))) s := by
 obtain ⟨z,its,n,r,ho⟩:=I.hok p _ h
 refine ⟨_,I.un (H':=upd H p (.frz { cls:=.type "list",data:=.seq its.toArray n } (.lst xs))) (h':=s.heap) (t':=s.toks) ?_ ?_⟩
 ·have ne:∀ b,H b=none→b≠p:=fun b e q=>by rw [q,h] at e;cases e
  refine ⟨fun b o q _ _ _=>q,fun b o q _ _ _=>⟨o.slots,q⟩,fun b o q e _=>by rw [upd_ne (ne b e)];exact e,fun b o q _=>⟨o,q⟩,fun b ys e=>?_,fun b o u e=>?_,fun b u pr e=>?_⟩
  ·have:b≠p:=by rintro rfl;rw [h] at e;cases e
   rw [upd_ne this];exact e
  ·have:b≠p:=by rintro rfl;rw [h] at e;cases e
   rw [upd_ne this];exact e
  ·have:b≠p:=by rintro rfl;rw [h] at e;cases e;exact pr
   rw [upd_ne this];exact e
 ·intro b u e
  by_cases hb:b=p
  ·subst hb
   rw [upd_same] at e;cases e
   exact ⟨ho,z,its,n,r,ho⟩
  ·rw [upd_ne hb] at e
   refine (I.hok b u e).stay (fun c w _ q=>q) (fun c q=>?_) (fun c ys q=>?_) fun c v pr q=>?_
   ·have:c≠p:=by rintro rfl;rw [h] at q;cases q
    rw [upd_ne this];exact q
   ·have:c≠p:=by rintro rfl;rw [h] at q;cases q
    rw [upd_ne this];exact q
   ·have:c≠p:=by rintro rfl;rw [h] at q;cases q;exact pr
    rw [upd_ne this];exact q
theorem same_frz {H H1:Hp} {p:Addr} {o:Obj} {xs:List V} (s:Same H H1) (hn:H p=none):Same H (upd H1 p (.frz o (.lst xs))):=fun b u e=>by
 rw [upd_ne (ne_of_none e hn)];exact s b u e
theorem de_l {l:Z.LF} (h:DL X e l):DE X e (Z.eL l):=by
 intro pins s σ H Q I w
 obtain ⟨ρ,d,r,e,k⟩:=w
 unfold Z.eL at e
 cases q:l ρ with
 | bad=>rw [q] at e;cases e
 | ok ds =>
  rw [q] at e;cases e
  refine thn (h pins s σ H (fun v H1=>∃ a vs,v=.ref a∧Same H H1∧H a=none∧H1 a=some (.lst vs)∧Dens X.K H1 ds vs) I ⟨ρ,ds,r,q,fun a vs H1 s1 hn h1 h2=>⟨a,vs,rfl,s1,hn,h1,h2⟩⟩) ?_
  rintro u s' ⟨v,H1,I1,rv,a,vs,rfl,s1,hn,h1,h2⟩
  obtain ⟨o,I2⟩:=inv_freeze I1 h1
  exact ⟨_,_,I2,rv,k _ _ (same_frz s1 hn) (den_lst (.inl ⟨o,upd_same⟩) (h2.ups (stb_lst h1)))⟩
def OpZ (K:PySem.W.Frag) (r:R2) (o:Z.D→Z.D→Z.Res Z.D):Prop:=∀ (x y:V) (dx dy d:Z.D) (H:Hp) (Q:VK),DenW K H dx x→DenW K H dy y→o dx dy=.ok d→(∀ v H',Same H H'→Den K H' d v→Q v H')→r x y H Q
theorem two {r:R2} {o:Z.D→Z.D→Z.Res Z.D} (hz:OpZ X.K r o):∀ σ H Q,tZ X.K (Z.eB o fa fb) σ H Q→tOp r (tZw X.K fa) (tZw X.K fb) σ H Q:=by
 rintro σ H Q ⟨ρ,d,re,e,k⟩
 obtain ⟨x,ea,e⟩:=Z.Res.bind_ok e
 obtain ⟨y,eb,e⟩:=Z.Res.bind_ok e
 exact ⟨ρ,x,re,ea,fun v H1 s1 d1=>⟨ρ,y,re.up s1,eb,fun u H2 s2 d2=>hz _ _ _ _ _ H2 Q (d1.up s2) d2 e fun w H' s3 dw=>k w H' ((s1.trans s2).trans s3) dw⟩⟩
theorem de_op {op:Operator} {r:R2} {o:Z.D→Z.D→Z.Res Z.D} (hr:OpR X (binaryOp op) r) (hz:OpZ X.K r o) (ha:DW X a fa) (hb:DW X b fb):DE X (.BinOp a op b pos) (Z.eB o fa fb) :=
 PE.imp (pe_op hr ha hb) (two hz)
theorem OpZ.or {K:PySem.W.Frag} {r r':R2} {o:Z.D→Z.D→Z.Res Z.D} (h:∀ (x y:V) (dx dy d:Z.D) (H:Hp) (Q:VK),DenW K H dx x→DenW K H dy y→o dx dy=.ok d→(∀ v H',Same H H'→Den K H' d v→Q v H')→r x y H Q∨r' x y H Q):OpZ K (fun x y H Q=>r x y H Q∨r' x y H Q) o:=h
theorem opz_int {K:PySem.W.Frag} {C:Int→Int→Prop} {g:Int→Int→Int} {o:Z.D→Z.D→Z.Res Z.D} (h:∀ dx dy d,o dx dy=.ok d→∃ i j,dx=.int i∧dy=.int j∧C i j∧d=.int (g i j)):OpZ K (rI C fun i j=>.int (g i j)) o:=by
 intro x y dx dy d H Q h1 h2 e k
 obtain ⟨i,j,rfl,rfl,hc,rfl⟩:=h _ _ _ e
 exact ⟨i,j,h1.int,h2.int,hc,k _ H (Same.refl H) den_int⟩
theorem opz_int0 {K:PySem.W.Frag} {g:Int→Int→V} {gd:Int→Int→Z.D} {o:Z.D→Z.D→Z.Res Z.D} (h:∀ dx dy d,o dx dy=.ok d→∃ i j,dx=.int i∧dy=.int j∧d=gd i j) (hg:∀ i j H,Den K H (gd i j) (g i j)):OpZ K (rI0 g) o:=by
 intro x y dx dy d H Q h1 h2 e k
 obtain ⟨i,j,rfl,rfl,rfl⟩:=h _ _ _ e
 exact ⟨i,j,h1.int,h2.int,k _ H (Same.refl H) (hg i j H)⟩
theorem de_sub (ha:DW X a fa) (hb:DW X b fb):DE X (.BinOp a .Sub b pos) (Z.eB Z.oSub fa fb):=de_op op_sub (opz_int0 (gd:=fun i j=>.int (i-j)) (fun dx dy d e=>by
 unfold Z.oSub at e;split at e
 ·cases e;exact ⟨_,_,rfl,rfl,rfl⟩
 ·cases e) fun _ _ _=>den_int) ha hb
def CMulZ (i j:Int):Prop:=IntMulOk i j
theorem op_mulZ:OpR X (binaryOp .Mult) (rI CMulZ fun i j=>.int (i*j)):=opI fun _ _ _ _ _ _ _ hc q=>mul_int q hc
theorem bits_eq (i:Int):Z.bits i=Builtin.Int.intBits i:=by
 unfold Z.bits Builtin.Int.intBits
 by_cases h:i=0
 ·subst h;simp
 ·first
   | (simp [h];done)
   | (rw [if_neg h];simp [h];done)
theorem mulFits_ok {i j:Int} (h:Z.mulFits i j):IntMulOk i j:=by
 unfold Z.mulFits at h
 rcases h with h | h | ⟨h1,h2⟩
 ·exact IntMulOk.of_left (intBits_le_64 (by lia) (by lia))
 ·exact IntMulOk.of_right (intBits_le_64 (by lia) (by lia))
 ·rw [bits_eq] at h1 h2
  exact mulOk_of_bits h1 h2 (by decide)
theorem de_mul (ha:DW X a fa) (hb:DW X b fb):DE X (.BinOp a .Mult b pos) (Z.eB Z.oMul fa fb):=de_op op_mulZ (opz_int fun dx dy d e=>by
 unfold Z.oMul at e
 split at e
 ·unfold Z.guard at e
  split at e
  ·rename_i h;cases e;exact ⟨_,_,rfl,rfl,mulFits_ok h,rfl⟩
  ·cases e
 ·cases e) ha hb
def CDivZ (_ j:Int):Prop:=Z.divFits j
theorem divFits_ok {j:Int} (h:Z.divFits j):0 < j∧j.natAbs.log2 < 9000:=by
 have h0:=h.1
 have h1:=h.2
 have hn:j.natAbs≠0:=by lia
 have h2:j.natAbs < 2 ^ 250:=by
  have:(2:Nat) ^ 250=1809251394333065553493296640760748560207343510400633813116524750123642650624:=by decide
  lia
 have:=(Nat.log2_lt hn).mpr h2
 exact ⟨h0,by lia⟩
theorem op_divZ:OpR X (binaryOp .FloorDiv) (rI CDivZ fun i j=>.int (i / j)):=opI fun i j _ _ _ _ _ hc q=>by
 obtain ⟨h0,h1⟩:=divFits_ok hc
 have e:i.fdiv j=i / j:=Int.fdiv_eq_ediv_of_nonneg i (Int.le_of_lt h0)
 exact floordiv_int (Int.ne_of_gt h0) (by rw [e];exact q) (.inl (PyProof.noPylong_of_log2 h1))
theorem de_div (ha:DW X a fa) (hb:DW X b fb):DE X (.BinOp a .FloorDiv b pos) (Z.eB Z.oDiv fa fb):=de_op op_divZ (opz_int fun dx dy d e=>by
 unfold Z.oDiv at e
 split at e
 ·unfold Z.guard at e
  split at e
  ·rename_i h;cases e;exact ⟨_,_,rfl,rfl,h,rfl⟩
  ·cases e
 ·cases e) ha hb
theorem de_mod (ha:DW X a fa) (hb:DW X b fb):DE X (.BinOp a .Mod b pos) (Z.eB Z.oMod fa fb):=de_op op_mod (opz_int fun dx dy d e=>by
 unfold Z.oMod at e
 split at e
 ·unfold Z.guard at e
  split at e
  ·rename_i h;cases e;exact ⟨_,_,rfl,rfl,h,rfl⟩
  ·cases e
 ·cases e) ha hb
theorem de_shr (ha:DW X a fa) (hb:DW X b fb):DE X (.BinOp a .RShift b pos) (Z.eB Z.oShr fa fb):=de_op op_shr (opz_int fun dx dy d e=>by
 unfold Z.oShr at e
 split at e
 ·unfold Z.guard at e
  split at e
  ·rename_i h;cases e;exact ⟨_,_,rfl,rfl,h,rfl⟩
  ·cases e
 ·cases e) ha hb
theorem de_pow (ha:DW X a fa) (hb:DW X b fb):DE X (.BinOp a .Pow b pos) (Z.eB Z.oPow fa fb):=de_op op_pow (opz_int fun dx dy d e=>by
 unfold Z.oPow at e
 split at e
 ·unfold Z.guard at e
  split at e
  ·rename_i h;cases e;exact ⟨_,_,rfl,rfl,h,rfl⟩
  ·cases e
 ·cases e) ha hb
def rCatZ (K:PySem.W.Frag):R2:=fun x y H Q=>∃ a b xs ys,x=.ref a∧y=.ref b∧SqT K H a xs∧SqT K H b ys∧xs.length+ys.length≤sizeLine ∧
 (xs=[]→Q (.ref b) H)∧(ys=[]→Q (.ref a) H)∧(∀ p,H p=none→Q (.ref p) (upd H p (.tup (xs++ys))))
theorem op_catZ:OpR X (binaryOp .Add) (rCatZ X.K):=by
 intro pins s σ H x y v u Q I rx ry h
 obtain ⟨p,q,xs,ys,rfl,rfl,hp,hq,hz,q0,q1,q2⟩:=h
 by_cases hx:xs=[]
 ·cases rx
  cases ry
  obtain ⟨its,r1,ht,_⟩:=I.tuple hp
  obtain ⟨its2,r2,hb,_⟩:=I.tuple hq
  obtain ⟨⟨cls,dd,data,sl⟩,ho,hc,n,hd⟩:=id ht
  obtain ⟨⟨cls2,dd2,data2,sl2⟩,ho2,hc2,n2,hd2⟩:=id hb
  simp only at hc hd hc2 hd2
  subst hc hd hc2 hd2
  have e0:its=[]:=r1.nil_iff.mpr hx
  exact concat_meets ⟨_,ho,rfl⟩ ⟨_,ho2,rfl⟩ noFill_tuple_add seq_tuple_add PySem.F.slot_tuple_add PySem.F.entry_tuple_add (PySem.F.args_tuple_add_2 _ _)
   (tuple_addW0 p q its.toArray its2.toArray n n2 dd dd2 sl sl2 (by simp [e0])) ⟨ho,ho2,⟨.ref q,H,I,rfl,q0 hx⟩⟩
 ·exact op_catT pins s σ H _ _ v u Q I rx ry ⟨p,q,xs,ys,rfl,rfl,hp,hq,hx,hz,q1,fun _=>q2⟩
theorem str_app (a b:List Nat):(⟨a.toArray⟩:Str)++(⟨b.toArray⟩:Str)=⟨(a++b).toArray⟩:=by
 show (⟨a.toArray++b.toArray⟩:Str)=_
 simp
theorem de_add (ha : DW X a fa) (hb : DW X b fb) : DE X (.BinOp a .Add b pos) (Z.eB Z.oAdd fa fb) := de_op (op_add.or (op_add_str.or op_catZ)) (fun x y dx dy d H Q h1 h2 e k => by
 unfold Z.oAdd at e
 split at e
 ·cases e
  exact .inl ⟨_,_,h1.int,h2.int,k _ H (Same.refl H) den_int⟩
 ·unfold Z.guard at e
  split at e
  ·rename_i as bs h;cases e
   refine .inr (.inl ⟨_,_,h1.str,h2.str,?_,?_⟩)
   ·show as.toArray.size+bs.toArray.size≤sizeLine
    rw [sizeLine_eq];simpa using h
   ·rw [str_app];exact k _ H (Same.refl H) den_str
  ·cases e
 ·unfold Z.guard at e
  split at e
  ·rename_i as bs h;cases e
   obtain ⟨p,xs,rfl,hp,t1⟩:=h1.tup
   obtain ⟨q,ys,rfl,hq,t2⟩:=h2.tup
   refine .inr (.inr ⟨p,q,xs,ys,rfl,rfl,hp,hq,?_,?_,?_,?_⟩)
   ·rw [t1.length,t2.length,sizeLine_eq];exact h
   ·rintro rfl
    have:as=[]:=List.eq_nil_of_length_eq_zero (by rw [←t1.length];rfl)
    subst this
    exact k _ H (Same.refl H) (den_tup hq t2)
   ·rintro rfl
    have:bs=[]:=List.eq_nil_of_length_eq_zero (by rw [←t2.length];rfl)
    subst this
    rw [List.append_nil] at k
    exact k _ H (Same.refl H) (den_tup hp t1)
   ·intro z hn
    have s1:Same H (upd H z (.tup (xs++ys))):=upd_Same hn
    exact k _ _ s1 (den_tup (.inl (.inl upd_same)) ((t1.append t2).up s1))
  ·cases e
 ·cases e) ha hb
theorem de_neg (ha:DW X a fa):DE X (.UnaryOp .USub a pos) (Z.eU Z.oNeg fa):=PE.imp (pe_un un_neg ha) fun σ H Q ⟨ρ,d,r,e,k⟩=>by
 obtain ⟨x,ea,e⟩:=Z.Res.bind_ok e
 refine ⟨ρ,x,r,ea,fun v H1 s1 d1=>?_⟩
 unfold Z.oNeg at e
 split at e
 ·cases e;exact ⟨_,d1.int,k _ H1 s1 den_int⟩
 ·cases e
end
end ZS
namespace ZS
section
open PySem Builtin Builtin.Str
theorem len_toArray (t:List Nat):(⟨t.toArray⟩:Str).length=t.length:=by simp [Str.length]
theorem occ1 (t:List Nat) (c:Nat):(!(Builtin.Str.occurrences ⟨t.toArray⟩ ⟨#[c]⟩ 0 t.length 1).isEmpty)=t.contains c:=by
 have h:=StrLaws.found_one ⟨t.toArray⟩ c
 rw [len_toArray] at h
 rw [h,Bool.eq_iff_iff]
 simp
theorem clipS (n d:Nat) (i:Int):max 0 (min (if i < 0 then i+(n:Int) else i) (n:Int))=((Z.sIx n d (some i):Nat):Int):=by
 show max 0 (min (if i < 0 then i+(n:Int) else i) (n:Int))=(((if i < 0 then (i+(n:Int)).toNat else min i.toNat n):Nat):Int)
 by_cases h:i < 0
 ·simp only [if_pos h];lia
 ·simp only [if_neg h];lia
theorem slR (a b:Nat):sliceRange (a:Int) (b:Int) 1=(List.range (b-a)).map (fun k=>a+k):=by
 unfold sliceRange
 simp only [show (1:Int) > 0 by decide,if_true]
 have e:(if (a:Int) < (b:Int) then ((b:Int)-(a:Int)+1-1) / 1 else 0).toNat=b-a:=by
  split
  ·rw [Int.ediv_one];lia
  ·lia
 rw [e]
 apply List.map_congr_left
 intro k _
 lia
theorem idxs (lo hi:Option Int) (n:Nat):strSliceIndices lo hi 1 n=(List.range (Z.sIx n n hi-Z.sIx n 0 lo)).map (fun k=>Z.sIx n 0 lo+k):=by
 unfold strSliceIndices
 simp only [show (1:Int) > 0 by decide,if_true]
 rw [←slR]
 cases lo with
 | none =>
  cases hi with
  | none=>rfl
  | some j=>simp only [clipS n n j];rfl
 | some i =>
  cases hi with
  | none=>simp only [clipS n 0 i];rfl
  | some j=>simp only [clipS n 0 i,clipS n n j]
theorem sIx_le (n d:Nat) (hd:d≤n) (o:Option Int):Z.sIx n d o≤n:=by
 cases o with
 | none=>exact hd
 | some v =>
  show (if v < 0 then (v+(n:Int)).toNat else min v.toNat n)≤n
  split<;>lia
theorem pick (cs:List Nat):∀ (k a:Nat),a+k≤cs.length→((List.range k).map (fun j=>a+j)).filterMap (fun i=>cs.toArray[i]?)=(cs.drop a).take k:=by
 intro k
 induction k with
 | zero=>intro a _;simp
 | succ k ih =>
  intro a h
  rw [List.range_succ,List.map_append,List.filterMap_append,ih a (by lia)]
  have hlt:a+k < cs.length:=by lia
  rw [List.take_succ]
  simp [hlt]
theorem strSl (cs:List Nat) (lo hi:Option Int):Txt.slice ⟨cs.toArray⟩ lo hi=⟨(Z.cut cs lo hi).toArray⟩:=by
 unfold Txt.slice
 rw [len_toArray,idxs]
 have h1:=sIx_le cs.length cs.length (Nat.le_refl _) hi
 have h0:=sIx_le cs.length 0 (Nat.zero_le _) lo
 have hp:((List.range (Z.sIx cs.length cs.length hi-Z.sIx cs.length 0 lo)).map (fun k=>Z.sIx cs.length 0 lo+k)).filterMap (fun i=>cs.toArray[i]?)=Z.cut cs lo hi:=by
  unfold Z.cut
  exact pick cs _ _ (by lia)
 split
 ·rename_i hh
  have hlen:(List.range (Z.sIx cs.length cs.length hi-Z.sIx cs.length 0 lo)).length=cs.length:=by
   simp only [beq_self_eq_true,Bool.true_and,beq_iff_eq,List.length_map] at hh
   exact hh
  rw [List.length_range] at hlen
  unfold Z.cut
  have e0:Z.sIx cs.length 0 lo=0:=by lia
  have e1:Z.sIx cs.length cs.length hi-Z.sIx cs.length 0 lo=cs.length:=by lia
  rw [e1,e0]
  simp
 ·rw [hp]
end
open PySem PySem.Spec PyProof.Rows L2
section
variable {X:Cx} {e a b c:Expr} {es:List Expr} {pos p:Pos} {f fa fb fc:Z.EF}
theorem de_cmp {op:CmpOp} {r:R2} {o:Z.D→Z.D→Z.Res Z.D} (hr:OpR X (compareOp op) r) (hz:OpZ X.K r o) (ha:DW X a fa) (hb:DW X b fb) (hm:behindInMarks op b=false):DE X (.Compare a [op] [b] pos) (Z.eB o fa fb) :=
 PE.imp (pe_cmpR hr ha hb hm) (two hz)
theorem dt_of {t:TE} (h:PT X e (tTest t)) (k:∀ σ H Q,tZ X.K f σ H Q→t σ H Q):DT X e (Z.tE f):=PT.imp h fun σ H Q ⟨ρ,b,r,e,q⟩=>by
 obtain ⟨x,ea,e⟩:=Z.Res.bind_ok e
 refine k σ H _ ⟨ρ,x,r,ea,fun v H' s d=>?_⟩
 split at e
 ·cases e
  simp only [Den] at d
  exact ⟨_,d,q H' s⟩
 ·cases e
theorem dt_cmp {op:CmpOp} {r:R2} {o:Z.D→Z.D→Z.Res Z.D} (hr:OpR X (compareOp op) r) (hz:OpZ X.K r o) (ha:DW X a fa) (hb:DW X b fb) (hm:behindInMarks op b=false):DT X (.Compare a [op] [b] pos) (Z.tE (Z.eB o fa fb)) :=
 dt_of (pt_cmpR hr ha hb hm) (two hz)
structure Cmp (X:Cx) (op:CmpOp) (o:Z.D→Z.D→Z.Res Z.D):Prop where
 ex:∃ r,OpR X (compareOp op) r∧OpZ X.K r o
theorem de_cmpC {op:CmpOp} {o:Z.D→Z.D→Z.Res Z.D} (h:Cmp X op o) (ha:DW X a fa) (hb:DW X b fb) (hm:behindInMarks op b=false):DE X (.Compare a [op] [b] pos) (Z.eB o fa fb) :=
 let ⟨_,hr,hz⟩:=h.ex;de_cmp hr hz ha hb hm
theorem dt_cmpC {op:CmpOp} {o:Z.D→Z.D→Z.Res Z.D} (h:Cmp X op o) (ha:DW X a fa) (hb:DW X b fb) (hm:behindInMarks op b=false):DT X (.Compare a [op] [b] pos) (Z.tE (Z.eB o fa fb)) :=
 let ⟨_,hr,hz⟩:=h.ex;dt_cmp hr hz ha hb hm
theorem chain_imp {r r':R2} {o o':Z.D→Z.D→Z.Res Z.D} (hz:OpZ X.K r o) (hz':OpZ X.K r' o'):∀ σ H Q,tZ X.K (Z.eChain o o' fa fb fc) σ H Q→tChain r r' (tZw X.K fa) (tZw X.K fb) (tZw X.K fc) σ H Q:=by
 rintro σ H Q ⟨ρ,d,re,e,k⟩
 obtain ⟨x,ea,e⟩:=Z.Res.bind_ok e
 obtain ⟨y,eb,e⟩:=Z.Res.bind_ok e
 obtain ⟨z,eo,e⟩:=Z.Res.bind_ok e
 refine ⟨ρ,x,re,ea,fun v H1 s1 d1=>⟨ρ,y,re.up s1,eb,fun u H2 s2 d2=>hz _ _ _ _ _ H2 _ (d1.up s2) d2 eo fun w H3 s3 dw=>?_⟩⟩
 have s13:Same H H3:=(s1.trans s2).trans s3
 split at e
 ·rename_i q
  simp only [Den] at dw
  refine ⟨_,dw,?_⟩
  cases q with
  | true =>
   simp only [if_true] at e ⊢
   obtain ⟨t,ec,e⟩:=Z.Res.bind_ok e
   exact ⟨ρ,t,re.up s13,ec,fun v' H4 s4 d4=>hz' _ _ _ _ _ H4 Q ((d2.up s3).up s4) d4 e fun w' H5 s5 dw'=>k w' H5 ((s13.trans s4).trans s5) dw'⟩
  | false =>
   simp only [Bool.false_eq_true,if_false] at e ⊢
   cases e
   exact k _ H3 s13 den_bl
 ·cases e
theorem de_chain {op op':CmpOp} {o o':Z.D→Z.D→Z.Res Z.D} (h:Cmp X op o) (h':Cmp X op' o') (ha:DW X a fa) (hb:DW X b fb) (hc:DW X c fc)
  (hm:lastMarks [op,op'] [b,c]=false:=by with_unfolding_all rfl):DE X (.Compare a [op,op'] [b,c] pos) (Z.eChain o o' fa fb fc) :=
 let ⟨_,hr,hz⟩:=h.ex;let ⟨_,hr',hz'⟩:=h'.ex;PE.imp (pe_chain hr hr' ha hb hc hm) (chain_imp hz hz')
theorem dt_chain {op op':CmpOp} {o o':Z.D→Z.D→Z.Res Z.D} (h:Cmp X op o) (h':Cmp X op' o') (ha:DW X a fa) (hb:DW X b fb) (hc:DW X c fc)
  (hm:lastMarks [op,op'] [b,c]=false:=by with_unfolding_all rfl):DT X (.Compare a [op,op'] [b,c] pos) (Z.tE (Z.eChain o o' fa fb fc)) :=
 let ⟨_,hr,hz⟩:=h.ex;let ⟨_,hr',hz'⟩:=h'.ex;dt_of (pt_chain hr hr' ha hb hc hm) (chain_imp hz hz')
theorem c_lt:Cmp X .Lt Z.oLt:=⟨_,op_lt,opz_int0 (gd:=fun i j=>.bl (decide (i < j))) (fun dx dy d e=>by
 unfold Z.oLt at e;split at e
 ·cases e;exact ⟨_,_,rfl,rfl,rfl⟩
 ·cases e) fun _ _ _=>den_bl⟩
theorem c_gt:Cmp X .Gt Z.oGt:=⟨_,op_gt,opz_int0 (gd:=fun i j=>.bl (decide (j < i))) (fun dx dy d e=>by
 unfold Z.oGt at e;split at e
 ·cases e;exact ⟨_,_,rfl,rfl,rfl⟩
 ·cases e) fun _ _ _=>den_bl⟩
theorem op_le_str:OpR X (compareOp .LtE) (fun x y H Q=>∃ i j,x=.str i∧y=.str j∧Q (.bl (!decide (j.cps.toList < i.cps.toList))) H):=by
 intro pins s σ H x y v u Q I rx ry h
 obtain ⟨i,j,rfl,rfl,q⟩:=h
 obtain ⟨t,rfl⟩:=rx
 obtain ⟨t',rfl⟩:=ry
 exact PySem.P.le_str (fin_bl I q rfl)
theorem ltC_eq:∀ (a b:List Nat),Z.ltC a b=decide (a < b)
 | [],[]=>by simp [Z.ltC]
 | [],_ :: _=>by simp [Z.ltC]
 | _ :: _,[]=>by simp [Z.ltC]
 | a :: as,b :: bs=>by
  unfold Z.ltC
  rw [ltC_eq as bs]
  by_cases h:a < b
  ·simp [h,List.cons_lt_cons_iff]
  ·by_cases h2:a=b
   ·subst h2;simp [List.cons_lt_cons_iff]
   ·simp [h,h2,List.cons_lt_cons_iff]
theorem c_le:Cmp X .LtE Z.oLe:=⟨_,op_le.or op_le_str,fun x y dx dy d H Q h1 h2 e k=>by
 unfold Z.oLe at e
 split at e
 ·cases e;exact .inl ⟨_,_,h1.int,h2.int,k _ H (Same.refl H) den_bl⟩
 ·cases e
  refine .inr ⟨_,_,h1.str,h2.str,?_⟩
  rename_i as bs
  have q:=k (.bl (!Z.ltC bs as)) H (Same.refl H) den_bl
  rw [ltC_eq] at q
  exact q
 ·cases e⟩
theorem c_inS:Cmp X .In Z.oInS:=⟨_,op_in_str,fun x y dx dy d H Q h1 h2 e k=>by
 unfold Z.oInS at e
 split at e
 ·cases e
  refine ⟨_,_,h1.str,h2.str,?_⟩
  rename_i c t
  rw [len_toArray,occ1]
  exact k _ H (Same.refl H) den_bl
 ·cases e⟩
theorem de_one {op} (h:DE X a fa):DE X (.BoolOp op [a] pos) fa:=pe_one h
theorem de_and {rest:List Expr} (ha:DE X a fa) (hb:DE X (.BoolOp .And (b :: rest) pos) fb):DE X (.BoolOp .And (a :: b :: rest) pos) (Z.eAnd fa fb):=PE.imp (pe_and ha hb) fun σ H Q ⟨ρ,d,r,e,k⟩=>by
 obtain ⟨x,ea,e⟩:=Z.Res.bind_ok e
 refine ⟨ρ,x,r,ea,fun v H1 s1 d1=>?_⟩
 split at e
 ·rename_i q
  simp only [Den] at d1
  refine ⟨q,d1,?_⟩
  cases q with
  | true =>
   simp only [if_true] at e ⊢
   exact ⟨ρ,d,r.up s1,e,fun w H' s2 dw=>k w H' (s1.trans s2) dw⟩
  | false =>
   simp only [Bool.false_eq_true,if_false] at e ⊢
   cases e
   exact k _ H1 s1 den_bl
 ·cases e
theorem de_or {rest:List Expr} (ha:DE X a fa) (hb:DE X (.BoolOp .Or (b :: rest) pos) fb):DE X (.BoolOp .Or (a :: b :: rest) pos) (Z.eOr fa fb):=PE.imp (pe_or ha hb) fun σ H Q ⟨ρ,d,r,e,k⟩=>by
 obtain ⟨x,ea,e⟩:=Z.Res.bind_ok e
 refine ⟨ρ,x,r,ea,fun v H1 s1 d1=>?_⟩
 split at e
 ·rename_i q
  simp only [Den] at d1
  refine ⟨q,d1,?_⟩
  cases q with
  | false =>
   simp only [Bool.false_eq_true,if_false] at e ⊢
   exact ⟨ρ,d,r.up s1,e,fun w H' s2 dw=>k w H' (s1.trans s2) dw⟩
  | true =>
   simp only [if_true] at e ⊢
   cases e
   exact k _ H1 s1 den_bl
 ·cases e
theorem de_not (ha:DE X a fa):DE X (.UnaryOp .Not a pos) (Z.eNot fa):=PE.imp (pe_not ha) fun σ H Q ⟨ρ,d,r,e,k⟩=>by
 obtain ⟨x,ea,e⟩:=Z.Res.bind_ok e
 refine ⟨ρ,x,r,ea,fun v H1 s1 d1=>?_⟩
 split at e
 ·simp only [Den] at d1
  cases e
  exact ⟨_,d1,k _ H1 s1 den_bl⟩
 ·cases e
theorem tb_imp:∀ σ H (Q:Bool→Hp→Prop),tZt X.K (Z.tE f) σ H Q→tB (tZ X.K f) σ H Q:=by
 rintro σ H Q ⟨ρ,b,r,e,q⟩
 obtain ⟨x,ea,e⟩:=Z.Res.bind_ok e
 refine ⟨ρ,x,r,ea,fun v H' s d=>?_⟩
 split at e
 ·cases e
  simp only [Den] at d
  exact ⟨_,d,q H' s⟩
 ·cases e
theorem dt_e (h:DE X e f) (he:∀ whole,isTrue e X.env whole=(do let v ←whole;standAt e.pos;holding [v] (truthy v)):=by intro _;rfl):DT X e (Z.tE f):=PT.imp (pt_val h he) tb_imp
theorem dt_not {t:Z.TF} (h:DT X a t):DT X (.UnaryOp .Not a pos) (Z.tNot t):=PT.imp (pt_not h) fun σ H Q ⟨ρ,b,r,e,q⟩=>by
 obtain ⟨x,ea,e⟩:=Z.Res.bind_ok e
 cases e
 exact ⟨ρ,x,r,ea,fun H' s=>q H' s⟩
theorem dt_and1 {t:Z.TF} (h:DT X a t):DTW X (.BoolOp .And [a] pos) t:=pw_and1 h
theorem dt_or1 {t:Z.TF} (h:DT X a t):DTW X (.BoolOp .Or [a] pos) t:=pw_or1 h
theorem dt_and {t u:Z.TF} {rest:List Expr} (ha:DT X a t) (hb:DTW X (.BoolOp .And (b :: rest) pos) u):DTW X (.BoolOp .And (a :: b :: rest) pos) (Z.tAnd t u):=PW.imp (pw_and ha hb) fun σ H Q ⟨ρ,d,r,e,k⟩=>by
 obtain ⟨x,ea,e⟩:=Z.Res.bind_ok e
 refine ⟨ρ,x,r,ea,fun H1 s1=>?_⟩
 cases x with
 | true =>
  simp only [if_true] at e ⊢
  exact ⟨ρ,d,r.up s1,e,fun H' s2=>k H' (s1.trans s2)⟩
 | false =>
  simp only [Bool.false_eq_true,if_false] at e ⊢
  cases e
  exact k H1 s1
theorem dt_or {t u:Z.TF} {rest:List Expr} (ha:DT X a t) (hb:DTW X (.BoolOp .Or (b :: rest) pos) u):DTW X (.BoolOp .Or (a :: b :: rest) pos) (Z.tOr t u):=PW.imp (pw_or ha hb) fun σ H Q ⟨ρ,d,r,e,k⟩=>by
 obtain ⟨x,ea,e⟩:=Z.Res.bind_ok e
 refine ⟨ρ,x,r,ea,fun H1 s1=>?_⟩
 cases x with
 | false =>
  simp only [Bool.false_eq_true,if_false] at e ⊢
  exact ⟨ρ,d,r.up s1,e,fun H' s2=>k H' (s1.trans s2)⟩
 | true =>
  simp only [if_true] at e ⊢
  cases e
  exact k H1 s1
theorem dtw {t:Z.TF} (h:DTW X e t):DT X e t:=h.pt
theorem da_nil:DA X [] Z.aNil:=PA.imp pa_nil fun σ H Q ⟨ρ,ds,r,e,k⟩=>by
 cases e
 exact k [] H (Same.refl H) Dens.nil
theorem da_cons {g:Z.AF} (ha:DE X e f) (hr:DA X es g) (hs:starEach (e :: es) X.env=(false,eval e X.env) :: starEach es X.env:=by rfl):DA X (e :: es) (Z.aCons f g):=PA.imp (pa_cons ha hr hs) fun σ H Q ⟨ρ,ds,r,e,k⟩=>by
 obtain ⟨x,ea,e⟩:=Z.Res.bind_ok e
 obtain ⟨xs,eb,e⟩:=Z.Res.bind_ok e
 cases e
 exact ⟨ρ,x,r,ea,fun v H1 s1 d1=>⟨ρ,xs,r.up s1,eb,fun vs H2 s2 d2=>k _ H2 (s1.trans s2) (Dens.cons (d1.up s2) d2)⟩⟩
theorem de_tup {x1} {g:Z.AF} (h:DA X es g):DE X (.Tuple es x1 pos) (Z.eTup g):=PE.imp (pe_tup h) fun σ H Q ⟨ρ,d,r,e,k⟩=>by
 obtain ⟨xs,ea,e⟩:=Z.Res.bind_ok e
 unfold Z.guard at e
 split at e
 ·rename_i hl
  cases e
  refine ⟨ρ,xs,r,ea,fun vs H1 s1 d1=>⟨by rw [d1.length,sizeLine_eq];exact hl,fun q hq=>?_⟩⟩
  have s2:Same H1 (upd H1 q (.tup vs)):=upd_Same hq
  exact k _ _ (s1.trans s2) (den_tup (.inl (.inl upd_same)) (d1.up s2))
 ·cases e
theorem dl_disp {g:Z.AF} (h:DA X es g):DL X (.List es pos) (Z.lDisp g):=PE.imp (pe_lst h) fun σ H Q ⟨ρ,d,r,e,k⟩=>by
 obtain ⟨xs,ea,e⟩:=Z.Res.bind_ok e
 unfold Z.guard at e
 split at e
 ·rename_i hl
  cases e
  refine ⟨ρ,_,r,ea,fun vs H1 s1 d1=>⟨by rw [d1.length,sizeLine_eq];exact hl,fun q hq=>?_⟩⟩
  have s2:Same H1 (upd H1 q (.lst vs)):=upd_Same hq
  exact k q vs _ (s1.trans s2) (s1.free hq) upd_same (d1.up s2)
 ·cases e
end
end ZS
namespace ZS
open PySem PySem.Spec PyProof.Rows L2
def tyC:Z.Ty→String
 | .bool => "bool" | .int => "int" | .str => "str" | .tuple => "tuple" | .list => "list" | .dict => "dict"
def tyD:Z.D→String
 | .non => "NoneType" | .bl _ => "bool" | .int _ => "int" | .str _ => "str" | .tup _ => "tuple" | .lst _ => "list" | .dct _ _ => "dict"
theorem kit_tab (K:PySem.W.Frag) (t:Z.Ty) (d:Z.D):PySem.W.kitOne K (.type (tyD d)) (.type (tyC t))=some (Z.isTy t d):=by
 cases t<;>cases d<;>kernel_rfl
section
variable {X:Cx} {e a b c:Expr} {es:List Expr} {pos p:Pos} {f fa fb fc:Z.EF}
theorem isinst_Z {pins:List (Addr×Obj)} {σ:St} {H:Hp} {s:Shared} {A:Around} {E:Value→Shared→Prop} {Q:Value→Shared→Prop} {d:Z.D} {v:V} {u:Value} (t:Z.Ty) (I:Inv X pins σ H s) (hd:DenW X.K H d v) (r:RelV v u)
  (h:∀ tk,Q (.bool (Z.isTy t d)) { s with toks:=tk }):wpAny (model X.prog X.w) A (call (.builtin "isinstance") [u,.type (tyC t)]) Q E s:=by
 have e:=kit_tab X.K t d
 cases d with
 | non=>rw [hd.non] at r;cases (show u=Value.none from r);exact PySem.W.kia_one PySem.W.kitx_none I.kIn True.intro e (fun z=>nomatch z) h
 | bl y=>rw [hd.bl] at r;cases (show u=Value.bool y from r);exact PySem.W.kia_one PySem.W.kitx_bool I.kIn True.intro e (fun z=>nomatch z) h
 | int i=>rw [hd.int] at r;obtain ⟨t',q⟩:=(show ∃ t,u=Value.int i t from r);cases q;exact PySem.W.kia_one PySem.W.kitx_int I.kIn True.intro e (fun z=>nomatch z) h
 | str cs=>rw [hd.str] at r;obtain ⟨t',q⟩:=(show ∃ t,u=Value.str ⟨cs.toArray⟩ t from r);cases q;exact PySem.W.kia_one PySem.W.kitx_str I.kIn True.intro e (fun z=>nomatch z) h
 | tup ds =>
  obtain ⟨a,vs,rfl,hq,_⟩:=hd.tup
  cases (show u=Value.ref a from r)
  obtain ⟨its,_,⟨o,h1,h2,_⟩,_⟩:=I.tuple hq
  exact PySem.W.kia_one PySem.W.kitx_tuple I.kIn ⟨o,h1,h2⟩ e (fun z=>nomatch z) h
 | lst ds =>
  obtain ⟨a,vs,rfl,hq,_⟩:=hd.lst
  cases (show u=Value.ref a from r)
  obtain ⟨its,_,⟨o,n,h1,h2,_⟩,_⟩:=I.list hq
  exact PySem.W.kia_one PySem.W.kitx_list I.kIn ⟨o,h1,h2⟩ e (fun z=>nomatch z) h
 | dct ks ds =>
  obtain ⟨a,o,kvs,rfl,hq,_⟩:=hd.dct
  cases (show u=Value.ref a from r)
  obtain ⟨_,_,_,_,_,o',es,ep,h1,h2,_⟩:=(show ObjOk X.prog X.w H s.heap a (.frz o (.dK kvs)) from I.hok a _ hq)
  exact PySem.W.kia_one PySem.W.kitx_dict I.kIn ⟨o',h1,h2.1⟩ e (fun z=>nomatch z) h
theorem de_isinst (t:Z.Ty) {x y:Str} {p1 p2:Pos} (hg:Gl X x) (hm:X.mg x=none) (hv:bootBuiltins x=some (.builtin "isinstance")) (hg2:Gl X y) (hm2:X.mg y=none) (hv2:bootBuiltins y=some (.type (tyC t))) (ha:DW X a fa)
  (hn:x ≠ "__name__" := by decide +kernel) (hdb:(x==("__debug__" : Str))=false:=by decide +kernel) (hn2:y ≠ "__name__" := by decide +kernel) (hdb2:(y==("__debug__" : Str))=false:=by decide +kernel)
  (he:starEach (a :: [.Name y p2]) X.env=(false,eval a X.env) :: starEach [.Name y p2] X.env:=by rfl) (hpl:(backTo pos (starEach [.Name y p2] X.env)).any (·.1)=false:=by rfl) (he2:starEach ((.Name y p2) :: []) X.env=(false,eval (.Name y p2) X.env) :: starEach [] X.env:=by rfl) :
  DE X (.Call (.Name x p1) [a,.Name y p2] [] pos) (Z.eU (Z.oIsTy t) fa):=by
 have hc:CallR X (.builtin "isinstance") (fun xs H Q=>∃ v d,xs=[v,.ty (tyC t)]∧DenW X.K H d v∧Q (.bl (Z.isTy t d)) H):=by
  intro pins s σ H xs us Q I r h
  obtain ⟨v,d,rfl,hd,q⟩:=h
  obtain ⟨u,w',rfl,r1,r2⟩:=vals2 r
  cases (show w'=Value.type (tyC t) from r2)
  exact isinst_Z t I hd r1 fun tk=>⟨.bl _,H,I.tok _,rfl,q⟩
 refine PE.imp (pe_callB hc hg hm hv (pa_cons ha (pa_cons (pe_bltn (v:=.ty (tyC t)) hg2 hm2 hv2 rfl hn2 hdb2) pa_nil he2) he) hn hdb he hpl) fun σ H Q ⟨ρ,d,r,e,k⟩=>?_
 obtain ⟨x,ea,e⟩:=Z.Res.bind_ok e
 cases e
 exact ⟨ρ,x,r,ea,fun v H1 s1 d1=>⟨v,x,rfl,d1,k _ H1 s1 den_bl⟩⟩
theorem de_len {x : Str} {p1 : Pos} (hg : Gl X x) (hm : X.mg x = none) (hv : bootBuiltins x = some (.builtin "len")) (ha : DW X a fa) (hn : x ≠ "__name__" := by decide +kernel) (hdb : (x == ("__debug__" : Str)) = false := by decide +kernel)
  (he:starEach (a :: []) X.env=(false,eval a X.env) :: starEach [] X.env:=by rfl) (hpl:(backTo pos (starEach [] X.env)).any (·.1)=false:=by rfl):DE X (.Call (.Name x p1) [a] [] pos) (Z.eU Z.oLen fa) :=
 PE.imp (pe_callB call_len hg hm hv (pa_cons ha pa_nil he) hn hdb he hpl) fun σ H Q ⟨ρ,d,r,e,k⟩=>by
  obtain ⟨x,ea,e⟩:=Z.Res.bind_ok e
  refine ⟨ρ,x,r,ea,fun v H1 s1 d1=>?_⟩
  unfold Z.oLen at e
  split at e
  ·unfold Z.guard at e
   split at e
   ·rename_i cs hl
    cases e
    rw [d1.str]
    refine ⟨_,cs.length,rfl,⟨?_,?_⟩,k _ H1 s1 den_int⟩
    ·show cs.toArray.size≤sizeLine
     rw [sizeLine_eq];simpa using hl
    ·show cs.length=cs.toArray.size
     simp
   ·cases e
  ·cases e
   obtain ⟨q,vs,rfl,hq,t⟩:=d1.tup
   refine ⟨_,_,rfl,.inr ⟨vs,hq,rfl⟩,?_⟩
   rw [t.length]
   exact k _ H1 s1 den_int
  ·cases e
   obtain ⟨q,vs,rfl,hq,t⟩:=d1.lst
   refine ⟨_,_,rfl,.inl ⟨vs,hq,rfl⟩,?_⟩
   rw [t.length]
   exact k _ H1 s1 den_int
  ·cases e
theorem ixZ_eq (n:Nat) (i:Int):Z.ixZ n i=ixN n i:=rfl
theorem atZ {K:PySem.W.Frag} {H:Hp} {ds:List Z.D} {vs:List V} {i:Int} {d:Z.D} (t:Dens K H ds vs) (h:((Z.ixZ ds.length i).bind fun j=>ds[j]?)=some d):∃ v,atI vs i=some v∧Den K H d v:=by
 unfold atI
 rw [t.length,←ixZ_eq]
 cases q:Z.ixZ ds.length i with
 | none=>rw [q] at h;cases h
 | some j =>
  rw [q] at h
  exact t.get h
theorem de_ix (ha : DW X a fa) (hb : DW X b fb) (hs : PlainIx b := by intro _ _; rfl) : DE X (.Subscript a b pos) (Z.eB Z.oIx fa fb) := PE.imp (pe_ix ix_seq ha hb hs) (two fun x y dx dy d H Q h1 h2 e k => by
 unfold Z.oIx at e
 split at e
 ·obtain ⟨q,vs,rfl,hq,t⟩:=h1.tup
  split at e
  ·rename_i v hv
   cases e
   obtain ⟨w,e1,dw⟩:=atZ t hv
   exact .inr (.inl ⟨q,vs,_,w,rfl,h2.int,hq,e1,k w H (Same.refl H) dw⟩)
  ·cases e
 ·obtain ⟨q,vs,rfl,hq,t⟩:=h1.lst
  split at e
  ·rename_i v hv
   cases e
   obtain ⟨w,e1,dw⟩:=atZ t hv
   exact .inl ⟨q,vs,_,w,rfl,h2.int,hq,e1,k w H (Same.refl H) dw⟩
  ·cases e
 ·unfold Z.guard at e
  split at e
  ·rename_i cs i hl
   split at e
   ·rename_i c hc
    cases e
    refine .inr (.inr ⟨_,_,c,h1.str,h2.int,?_,?_,?_⟩)
    ·show cs.toArray.size≤sizeLine
     rw [sizeLine_eq];simpa using hl
    ·exact hc
    ·exact k _ H (Same.refl H) (den_str (cs:=[c]))
   ·cases e
  ·cases e
 ·cases e)
theorem dp_no:DP X none Z.pNo:=PO.imp po_none fun σ H Q ⟨ρ,o,r,e,k⟩=>by
 cases e
 exact k H (Same.refl H)
theorem dp_at (h:DW X e f):DP X (some e) (Z.pAt f):=PO.imp (po_some h) fun σ H Q ⟨ρ,o,r,e,k⟩=>by
 obtain ⟨x,ea,e⟩:=Z.Res.bind_ok e
 refine ⟨ρ,x,r,ea,fun v H1 s1 d1=>?_⟩
 split at e
 ·cases e
  exact ⟨_,d1.int,k H1 s1⟩
 ·cases e
theorem sIx_eq (n d:Nat) (o:Option Int):Z.sIx n d o=HT.sIx n d o:=by cases o<;>rfl
theorem cut_eq {ds:List Z.D} {vs:List V} {K:PySem.W.Frag} {H:Hp} (t:Dens K H ds vs) (lo hi:Option Int):Dens K H (Z.cut ds lo hi) (cutV vs lo hi):=by
 unfold Z.cut cutV
 rw [sIx_eq,sIx_eq,t.length]
 exact (t.drop _).take _
theorem cut_whole {α:Type} {xs:List α} {lo hi:Option Int} (h1:HT.sIx xs.length 0 lo=0) (h2:HT.sIx xs.length xs.length hi=xs.length):Z.cut xs lo hi=xs:=by
 unfold Z.cut
 rw [sIx_eq,sIx_eq,h1,h2]
 simp
def rSlZ (K:PySem.W.Frag):V→Option Int→Option Int→Hp→VK→Prop:=fun x lo hi H Q=>∃ a xs,x=.ref a∧SqT K H a xs∧(cutV xs lo hi=xs→Q (.ref a) H)∧∀ p,H p=none→Q (.ref p) (upd H p (.tup (cutV xs lo hi)))
theorem getItem_tuple_whole {prog:Program} {w:World} {A:Around} {E:Value→Shared→Prop} {s:Shared} {t sl:Addr} {items:Array Value} {vl vu:Value} {lo hi:Option Int} {Q:Value→Shared→Prop} (ht:IsTup s.heap t items) (hs:s.heap.IsSliceOf sl vl vu .none) (pl:IsPart vl lo) (pu:IsPart vu hi)
  (hw:HT.sIx items.size 0 lo=0∧HT.sIx items.size items.size hi=items.size)
  (h:Q (.ref t) s):wpAny (model prog w) A (getItem (.ref t) (.ref sl)) Q E s:=by
 obtain ⟨os,hos,hcs,hds⟩:=id hs
 have hTs:s.TypeIs (.ref sl) "slice" := ⟨os,hos,hcs⟩
 unfold getItem
 try with_reducible refine wpAny_holding ?_
 first | refine wpAny_bind (wpAny_pure ?_) | skip
 refine wpAny_bind (wpAny_sequenceKey ht.typeIs (by decide) ?_)
 refine wpAny_bind (wpAny_callSpecial?_slot (name:=Str.ofString "__getitem__") ht.typeIs PyProof.Rows.slot_tuple_getitem
  (wpAny_call_entry PyProof.Rows.slot_tuple_getitem ht.typeIs entry_tuple_getitem ?_ (args_tuple_getitem _ _)))
 show wpAny _ _ (Builtin.Tuple.tupleItemsOf (.ref t) >>= _) _ _ s
 refine wpAny_bind (tupleItemsOf_ ht ?_)
 refine wpAny_bind (wpAny_typeOf hTs ?_)
 rw [if_pos (by decide)]
 refine wpAny_bind (HT.sliceApplied_gen hs pl pu ?_)
 have hyes:(((HT.sIx items.size 0 lo:Nat):Int)==0&&(1:Int)==1&&(HT.sIx items.size items.size hi-HT.sIx items.size 0 lo)==items.size)=true:=by
  rw [hw.1,hw.2];simp
 show wpAny _ _ (if (((HT.sIx items.size 0 lo:Nat):Int)==0&&(1:Int)==1&&(HT.sIx items.size items.size hi-HT.sIx items.size 0 lo)==items.size)=true then _ else _) _ _ s
 rw [if_pos hyes]
 refine wpAny_bind ?_
 unfold Builtin.Tuple.tupleIsExact
 refine wpAny_bind (wpAny_typeOf ht.typeIs ?_)
 refine wpAny_pure ?_
 rw [if_pos (beq_self_eq_true _)]
 refine wpAny_bind (wpAny_rule ?_)
 exact wpAny_pure ⟨.ref t,rfl,wpAny_pure h⟩
theorem sl_tupZ:SlR X (rSlZ X.K):=by
 intro pins s σ H x v vl vu lo hi sl Q I rx hs pl pu h
 obtain ⟨a,xs,rfl,hx,q1,q2⟩:=h
 by_cases hw:HT.sIx xs.length 0 lo=0∧HT.sIx xs.length xs.length hi=xs.length
 ·cases rx
  obtain ⟨its,r,ht,hz⟩:=I.tuple hx
  have hlen:its.toArray.size=xs.length:=by rw [List.size_toArray];exact r.length.symm
  refine ⟨"tuple",_,PyProof.Rows.slot_tuple_getitem.lookup,ht.typeIs,?_⟩
  refine getItem_tuple_whole ht hs pl pu (by rw [hlen];exact hw) ⟨.ref a,H,I,rfl,q1 ?_⟩
  have:=cut_whole (xs:=xs) hw.1 hw.2
  unfold Z.cut at this
  rw [sIx_eq,sIx_eq] at this
  exact this
 ·exact sl_tup pins s σ H _ v vl vu lo hi sl Q I rx hs pl pu ⟨a,xs,rfl,hx,hw,q2⟩
def rSlS:V→Option Int→Option Int→Hp→VK→Prop:=fun x lo hi H Q=>∃ z,x=.str z∧z.length≤sizeLine∧Q (.str (Txt.slice z lo hi)) H
theorem partOf {v:Value} {o:Option Int} (h:IsPart v o):∃ q:Option (Int×Tok),v=partValue q∧q.map (·.1)=o:=by
 cases h with
 | none=>exact ⟨none,rfl,rfl⟩
 | int i t=>exact ⟨some (i,t),rfl,rfl⟩
theorem sl_strZ:SlR X rSlS:=by
 intro pins s σ H x v vl vu lo hi sl Q I rx hs pl pu h
 obtain ⟨z,rfl,hz,q⟩:=h
 obtain ⟨t,rfl⟩:=rx
 obtain ⟨ql,rfl,rfl⟩:=partOf pl
 obtain ⟨qu,rfl,rfl⟩:=partOf pu
 refine ⟨"str",_,F.slot_str_getitem.lookup,typeIs_str _ _ _,?_⟩
 refine wpAny_getItem_str_slice (l:=ql) (u:=qu) (st:=none) hs rfl ?_
 refine post_val_or_str ⟨Nat.le_trans (Txt.slice_le z _ _) hz,fun t' k=>⟨.str _,H,I.tok _,⟨t',rfl⟩,q⟩⟩
theorem de_slice {lo hi : Option Expr} {gl gh : Z.PF} {p2 : Pos} (ha : DW X a fa) (hl : DP X lo gl) (hh : DP X hi gh) : DE X (.Subscript a (.Slice lo hi none p2) pos) (Z.eSl fa gl gh) :=
 PE.imp (pe_slice (sl_strZ.or sl_tupZ) ha hl hh) fun σ H Q ⟨ρ,d,r,e,k⟩=>by
  obtain ⟨x,ea,e⟩:=Z.Res.bind_ok e
  obtain ⟨l,el,e⟩:=Z.Res.bind_ok e
  obtain ⟨h,eh,e⟩:=Z.Res.bind_ok e
  refine ⟨ρ,x,r,ea,fun v H1 s1 d1=>⟨ρ,l,r.up s1,el,fun H2 s2=>⟨ρ,h,(r.up s1).up s2,eh,fun H3 s3=>?_⟩⟩⟩
  have s13:Same H H3:=(s1.trans s2).trans s3
  have d3:=(d1.up s2).up s3
  unfold Z.oSl at e
  split at e
  ·unfold Z.guard at e
   split at e
   ·rename_i cs _ _ hl
    cases e
    refine .inl ⟨_,d3.str,?_,?_⟩
    ·show cs.toArray.size≤sizeLine
     rw [sizeLine_eq];simpa using hl
    ·rw [strSl];exact k _ H3 s13 den_str
   ·cases e
  ·cases e
   obtain ⟨q,vs,rfl,hq,t⟩:=d3.tup
   refine .inr ⟨q,vs,rfl,hq,fun hw=>?_,fun z hz=>?_⟩
   ·have:=cut_eq t l h
    rw [hw] at this
    exact k _ H3 s13 (den_tup hq this)
   ·have s4:Same H3 (upd H3 z (.tup (cutV vs l h))):=upd_Same hz
    exact k _ _ (s13.trans s4) (den_tup (.inl (.inl upd_same)) ((cut_eq t l h).up s4))
  ·cases e
theorem dl_slice {lo hi:Option Expr} {gl gh:Z.PF} {p2:Pos} (ha:DW X a fa) (hl:DP X lo gl) (hh:DP X hi gh):DL X (.Subscript a (.Slice lo hi none p2) pos) (Z.lSl fa gl gh) :=
 PE.imp (pe_slice sl_list ha hl hh) fun σ H Q ⟨ρ,d,r,e,k⟩=>by
  obtain ⟨x,ea,e⟩:=Z.Res.bind_ok e
  obtain ⟨l,el,e⟩:=Z.Res.bind_ok e
  obtain ⟨h,eh,e⟩:=Z.Res.bind_ok e
  refine ⟨ρ,x,r,ea,fun v H1 s1 d1=>⟨ρ,l,r.up s1,el,fun H2 s2=>⟨ρ,h,(r.up s1).up s2,eh,fun H3 s3=>?_⟩⟩⟩
  have s13:Same H H3:=(s1.trans s2).trans s3
  have d3:=(d1.up s2).up s3
  split at e
  ·cases e
   obtain ⟨q,vs,rfl,hq,t⟩:=d3.lst
   refine ⟨q,vs,rfl,hq,fun z hz=>?_⟩
   have s4:Same H3 (upd H3 z (.lst (cutV vs l h))):=upd_Same hz
   exact k z _ _ (s13.trans s4) (s13.free hz) upd_same ((cut_eq t l h).up s4)
  ·cases e
def rCatL (K:PySem.W.Frag):R2:=fun x y H Q=>∃ l b xs zs,x=.ref l∧y=.ref b∧SqL K H l xs∧SqL K H b zs∧xs.length+zs.length≤sizeLine∧∀ p,H p=none→Q (.ref p) (upd H p (.lst (xs++zs)))
theorem op_catL:OpR X (binaryOp .Add) (rCatL X.K):=by
 intro pins s σ H x y v u Q I rx ry h
 obtain ⟨l,b,xs,zs,rfl,rfl,hH,hB,hz,q⟩:=h
 cases rx
 cases ry
 obtain ⟨its,r,pl,_⟩:=I.list hH
 obtain ⟨its2,r2,pl2,_⟩:=I.list hB
 have hl:=r.length
 have hl2:=r2.length
 obtain ⟨⟨cls,dd,data,sl⟩,ho,hc,n,hd⟩:=id pl.isList
 obtain ⟨⟨cls2,dd2,data2,sl2⟩,ho2,hc2,n2,hd2⟩:=id pl2.isList
 simp only at hc hd hc2 hd2
 subst hc hd hc2 hd2
 have ea:its.toArray++its2.toArray=(its++its2).toArray:=by simp
 refine concat_meets ⟨_,ho,rfl⟩ ⟨_,ho2,rfl⟩ noFill_list_add seq_list_add PySem.F.slot_list_add PySem.F.entry_list_add (PySem.F.args_list_add_2 _ _) (list_addW l b its.toArray its2.toArray n n2 dd dd2 sl sl2 (by simp only [List.size_toArray];lia)) ⟨ho,ho2,?_⟩
 rw [ea]
 exact ⟨.ref _,_,I.lnew (t':=s.toks) (r.append r2) (by rw [List.length_append];lia),rfl,q _ I.fresh⟩
theorem dl_cat (ha:DW X a fa) (hb:DW X b fb):DL X (.BinOp a .Add b pos) (Z.lCat fa fb):=PE.imp (pe_op op_catL ha hb) fun σ H Q ⟨ρ,d,r,e,k⟩=>by
 obtain ⟨x,ea,e⟩:=Z.Res.bind_ok e
 obtain ⟨y,eb,e⟩:=Z.Res.bind_ok e
 refine ⟨ρ,x,r,ea,fun v H1 s1 d1=>⟨ρ,y,r.up s1,eb,fun u H2 s2 d2=>?_⟩⟩
 have s12:=s1.trans s2
 split at e
 ·unfold Z.guard at e
  split at e
  ·rename_i xs ys hl
   cases e
   obtain ⟨q,vs,rfl,hq,t⟩:=(d1.up s2).lst
   obtain ⟨q',vs',rfl,hq',t'⟩:=d2.lst
   refine ⟨q,q',vs,vs',rfl,rfl,hq,hq',by rw [t.length,t'.length,sizeLine_eq];exact hl,fun z hz=>?_⟩
   have s3:Same H2 (upd H2 z (.lst (vs++vs'))):=upd_Same hz
   exact k z _ _ (s12.trans s3) (s12.free hz) upd_same ((t.append t').up s3)
  ·cases e
 ·cases e
def spZ (K:PySem.W.Frag) (m:List Z.D→Z.Res Z.D):Sp:=fun vs H Q _=>∃ ds d,Dens K H ds vs∧m ds=.ok d∧∀ v H',Same H H'→Den K H' d v→Q v H'
theorem de_call {k:Nat} {g:Addr} {fd:FuncData} {ps:List Str} {x:Str} {m:List Z.D→Z.Res Z.D} {ar:Z.AF} {p1:Pos} (F:FnOk X.prog X.w X.K X.mg X.base CX0 k g fd ps (spZ X.K m)) (hr:Room k X.A) (hg:Gl X x) (hm:X.mg x=some (.ref g)) (hk:PySem.W.keepIn X.K (.ref g)=true) (hb:Binds X.K fd ps [])
  (ha:DA X (e :: es) ar) (hdb:(x==("__debug__" : Str))=false:=by decide +kernel) (he:starEach (e :: es) X.env=(false,eval e X.env) :: starEach es X.env:=by rfl) (hpl:(backTo pos (starEach es X.env)).any (·.1)=false:=by rfl) :
  DE X (.Call (.Name x p1) (e :: es) [] pos) (Z.eCall m ar) :=
 PE.imp (pe_call F hr hg hm hk hb .nil pass0 ha hdb he hpl) fun σ H Q ⟨ρ,d,r,e,k⟩=>by
  obtain ⟨ds,ea,e⟩:=Z.Res.bind_ok e
  refine ⟨ρ,ds,r,ea,fun vs H1 s1 d1=>?_⟩
  show spZ X.K m (vs++[]) H1 Q E0
  rw [List.append_nil]
  exact ⟨ds,d,d1,e,fun v H' s2 dv=>k v H' (s1.trans s2) dv⟩
end
end ZS
namespace ZS
open PySem PySem.Spec PyProof.Rows L2
structure ItZ (K:PySem.W.Frag) (J:It) (S:Hp→Prop) (ds:List Z.D):Prop where
 go:∀ (i:Nat) (d:Z.D) (H1:Hp),S H1→ds[i]?=some d→J.go i H1
 yld:∀ (i:Nat) (d:Z.D) (H1 H2:Hp) (x:V),S H1→ds[i]?=some d→J.yld i H1 x H2→Same H1 H2∧Den K H2 d x
 stop:∀ (H1:Hp),S H1→J.stop ds.length H1
def tZi (K:PySem.W.Frag) (f:Z.LF):TI:=fun σ H R=>∃ ρ ds,RE K H σ ρ∧f ρ=.ok ds∧∀ J H',Same H H'→ItZ K J (Same H') ds→R J H'
def tZj (K:PySem.W.Frag) (f:Z.LF):TI:=fun σ H R=>∃ ρ ds,RE K H σ ρ∧f ρ=.ok ds∧∀ J H',Same H H'→ItZ K J (Stb H') ds→R J H'
abbrev DI (X:Cx) (tg e:Expr) (f:Z.LF):Prop:=PI X tg e (tZi X.K f)
abbrev DJ (X:Cx) (tg e:Expr) (f:Z.LF):Prop:=PI X tg e (tZj X.K f)
section
variable {X:Cx} {tg e a b:Expr} {es:List Expr} {pos p:Pos} {f fa fb:Z.EF}
theorem PI.imp {t t':TI} (h:PI X tg e t) (k:∀ σ H R,t' σ H R→t σ H R):PI X tg e t':=fun pins s σ H R I w=>h pins s σ H R I (k σ H R w)
theorem ItZ.imp {K:PySem.W.Frag} {J:It} {S S':Hp→Prop} {ds:List Z.D} (h:ItZ K J S ds) (k:∀ H,S' H→S H):ItZ K J S' ds :=
 ⟨fun i d H1 s=>h.go i d H1 (k _ s),fun i d H1 H2 x s=>h.yld i d H1 H2 x (k _ s),fun H1 s=>h.stop H1 (k _ s)⟩
theorem di_j {g:Z.LF} (h:DJ X tg e g):DI X tg e g:=PI.imp h fun σ H R ⟨ρ,ds,r,e,k⟩=>⟨ρ,ds,r,e,fun J H' s z=>k J H' s (z.imp fun _ q=>stb q)⟩
theorem itz_tup {K:PySem.W.Frag} {H:Hp} {q:Addr} {vs:List V} {ds:List Z.D} (h:SqT K H q vs) (t:Dens K H ds vs):ItZ K (Itt K q) (Stb H) ds where
 go:=fun i d H1 s hi=>by
  obtain ⟨v,h1,_⟩:=t.get hi
  exact ⟨vs,v,sqT_mono s h,h1⟩
 yld:=fun i d H1 H2 x s hi y=>by
  obtain ⟨e,y⟩:=y
  obtain ⟨v,h1,h2⟩:=t.get hi
  have:=y vs (sqT_mono s h)
  rw [h1] at this;cases this
  subst e
  exact ⟨Same.refl _,h2.ups s⟩
 stop:=fun H1 s=>⟨vs,sqT_mono s h,by rw [t.length];exact Nat.le_refl _⟩
theorem itz_lst {K:PySem.W.Frag} {H:Hp} {q:Addr} {vs:List V} {ds:List Z.D} {S:Hp→Prop} (h:∀ H1,S H1→SqL K H1 q vs) (t:∀ H1,S H1→Dens K H1 ds vs) (t0:Dens K H ds vs):ItZ K (Itl K q) S ds where
 go:=fun i d H1 s hi=>by
  obtain ⟨v,h1,_⟩:=t0.get hi
  exact ⟨vs,v,h H1 s,h1⟩
 yld:=fun i d H1 H2 x s hi y=>by
  obtain ⟨e,y⟩:=y
  obtain ⟨v,h1,h2⟩:=(t H1 s).get hi
  have:=y vs (h H1 s)
  rw [h1] at this;cases this
  subst e
  exact ⟨Same.refl _,h2⟩
 stop:=fun H1 s=>⟨vs,h H1 s,by rw [t0.length];exact Nat.le_refl _⟩
theorem ints_get (lo:Int) (n i:Nat) (d:Z.D) (h:(Z.zints lo n)[i]?=some d):i < n∧d=.int (lo+i):=by
 unfold Z.zints at h
 rw [List.getElem?_map] at h
 cases q:(List.range n)[i]? with
 | none=>rw [q] at h;cases h
 | some j =>
  rw [q] at h;cases h
  obtain ⟨h1,h2⟩:=List.getElem?_eq_some_iff.mp q
  rw [List.length_range] at h1
  rw [List.getElem_range] at h2
  subst h2
  exact ⟨h1,rfl⟩
theorem itz_rng {K:PySem.W.Frag} {S:Hp→Prop} (lo:Int) (n:Nat):ItZ K (Itr lo n) S (Z.zints lo n) where
 go:=fun i d H1 s hi=>(ints_get lo n i d hi).1
 yld:=fun i d H1 H2 x s hi y=>by
  obtain ⟨e,y⟩:=y
  obtain ⟨_,rfl⟩:=ints_get lo n i d hi
  subst e
  rw [y]
  exact ⟨Same.refl _,den_int⟩
 stop:=fun H1 s=>by
  show n≤(Z.zints lo n).length
  unfold Z.zints
  rw [List.length_map,List.length_range]
  exact Nat.le_refl _
theorem turn_long {P:Program} {w:World} {K:PySem.W.Frag} {tg:Expr} (it:Addr) (lo:Int) (n:Nat):Turn P w K tg (Itr lo n) [it] it (fun i h=>IsLongIter h it (lo+(i:Nat)*1) ((n:Int)-(i:Nat)) 1) where
 mem:=by simp
 obj:=fun i h st b hb=>by
  have e:b=it:=by simpa using hb
  subst e
  exact ⟨_,st,fun v z=>by
   have z':Data.fields _=Data.cell v:=z
   cases z'⟩
 keep:=fun i h h' st k=>k it (by simp) _ st
 item:=by
  intro X hP hw hK hc i pins s σ H E I hf st hg
  subst hP hw hK
  obtain ⟨f0,f1,f2,f3,f4,f5⟩:=hf it (by simp)
  have W:=Walks.longrange (prog:=X.prog) (w:=X.w) (I.ok.hd hc) it lo 1 n
  refine W.item i s _ _ hg st fun v h' tk hv st' kk=>?_
  obtain ⟨t,rfl⟩:=hv
  have I1:Inv X pins σ H { s with heap:=h',toks:=tk }:=I.turned (fun b o hb e=>kk b o (by simpa using hb) e) f0 f1 f3 f4 f5
  refine ⟨_,rfl,go_of (s:={ s with heap:=h',toks:=tk }) (n := "longrange_iterator") st' rfl rfl (by decide) ⟨.int (lo+i),H,I1,⟨t,?_⟩,⟨rfl,rfl⟩,st',fun b hb=>(hf b hb).1⟩⟩
  rw [Int.mul_one]
 done:=by
  intro X hP hw hK hc i pins s σ H E I hf st hg
  subst hP hw hK
  obtain ⟨f0,f1,f2,f3,f4,f5⟩:=hf it (by simp)
  exact wpAny_pyNext_long_end (I.ok.hd hc) st (by have:n≤i:=hg;lia) fun h' eb=>⟨rfl,I.turned (t':=s.toks) (fun b o hb e=>eb b o hb e) f0 f1 f3 f4 f5⟩
 self:=fun _ _ _ _ _ st h=>wpAny_pyIter_longiter st h
theorem range_any {pins:List (Addr×Obj)} {σ:St} {H:Hp} {s:Shared} {R:It→Hp→Prop} {E:Value→Shared→Prop} {lo hi:Int} {t u v:Tok} {tk:Nat} (I:Inv X pins σ H s)
  (q:R (Itr lo (hi-lo).toNat) H):wpAny (model X.prog X.w) X.A (pyIter (.ref s.heap.objs.size)) (PIE X pins σ tg R) E { s with heap:=s.heap.push { cls:=.type "range",data:=.fields #[.int lo t,.int hi u,.int 1 v] },toks:=tk }:=by
 have I1:Inv X pins σ H { s with heap:=s.heap.push { cls:=.type "range",data:=.fields #[.int lo t,.int hi u,.int 1 v] },toks:=tk }:=I.kept fun b o e=>Heap.get?_push_of_some _ e
 have e1:lo+((0:Nat):Int)*1=lo:=by simp
 have e2:(((hi-lo).toNat:Nat):Int)-((0:Nat):Int)=Builtin.Range.rangeSize lo hi 1:=by rw [rangeSize_one];split<;>lia
 cases hs:Builtin.Range.small lo hi 1 with
 | true =>
  refine wpAny_pyIter_range (IsRange.new ..) hs ?_
  refine ⟨(s.heap.push { cls:=.type "range",data:=.fields #[.int lo t,.int hi u,.int 1 v] }).objs.size,[(s.heap.push { cls:=.type "range",data:=.fields #[.int lo t,.int hi u,.int 1 v] }).objs.size],_,_,H,rfl,
   I1.kept (t':=tk) fun b o e=>Heap.get?_push_of_some _ e,turn_range _ lo (hi-lo).toNat,?_,fun b hb=>?_,q⟩
  ·show IsRangeIter _ _ (lo+((0:Nat):Int)*1) ((((hi-lo).toNat:Nat):Int)-((0:Nat):Int)) 1
   rw [e1,e2]
   exact Heap.get?_push_size _ rfl
  ·have e:b=(s.heap.push { cls:=.type "range",data:=.fields #[.int lo t,.int hi u,.int 1 v] }).objs.size:=by simpa using hb
   subst e
   exact I1.fpOk (Nat.le_refl _) (I1.hok.fresh (Nat.le_refl _))
 | false =>
  refine wpAny_pyIter_longrange (IsRange.new ..) hs ?_
  refine ⟨(s.heap.push { cls:=.type "range",data:=.fields #[.int lo t,.int hi u,.int 1 v] }).objs.size,[(s.heap.push { cls:=.type "range",data:=.fields #[.int lo t,.int hi u,.int 1 v] }).objs.size],_,_,H,rfl,
   I1.kept (t':=tk) fun b o e=>Heap.get?_push_of_some _ e,turn_long _ lo (hi-lo).toNat,?_,fun b hb=>?_,q⟩
  ·show IsLongIter _ _ (lo+((0:Nat):Int)*1) ((((hi-lo).toNat:Nat):Int)-((0:Nat):Int)) 1
   rw [e1,e2]
   exact Heap.get?_push_size _ rfl
  ·have e:b=(s.heap.push { cls:=.type "range",data:=.fields #[.int lo t,.int hi u,.int 1 v] }).objs.size:=by simpa using hb
   subst e
   exact I1.fpOk (Nat.le_refl _) (I1.hok.fresh (Nat.le_refl _))
def aRng1 (ta:TA):TI:=fun σ H R=>ta σ H fun vs H1=>∃ j:Int,vs=[.int j]∧R (Itr 0 j.toNat) H1
theorem pi_any1 {a:Expr} {ta:TA} {p pos:Pos} (hg:Gl X "range") (hm:X.mg "range" = none) (ha:PA X [a] ta) (hs:starEach [a] X.env=[(false,eval a X.env)]:=by rfl):PI X tg (.Call (.Name "range" p) [a] [] pos) (aRng1 ta):=by
 intro pins s σ H R I h
 refine Call_ (ld_blt I hg hm boot_range (PyProof.Rows.callWith_type1 (thn (ha pos pins s σ H _ I h) fun us s1 ⟨vs,H1,I1,r1,q1⟩=>?_) hs rfl))
 obtain ⟨j,e,q⟩:=q1
 subst e
 cases r1 with
 | cons r rr =>
  cases rr
  obtain ⟨t,rfl⟩:=r
  exact call_range_1 (range_any I1 (by simpa using q))
theorem dj_rng1 (hg:Gl X "range") (hm:X.mg "range" = none) (ha:DE X a fa) (hs:starEach [a] X.env=[(false,eval a X.env)]:=by rfl) (hs1:starEach (a :: []) X.env=(false,eval a X.env) :: starEach [] X.env:=by rfl):DJ X tg (.Call (.Name "range" p) [a] [] pos) (Z.iRng1 fa) :=
 PI.imp (pi_any1 hg hm (pa_cons ha pa_nil hs1) hs) fun σ H R ⟨ρ,ds,r,e,k⟩=>by
  obtain ⟨x,ea,e⟩:=Z.Res.bind_ok e
  refine ⟨ρ,x,r,ea,fun v H1 s1 d1=>?_⟩
  split at e
  ·rename_i j
   cases e
   simp only [Den] at d1
   exact ⟨j,by rw [d1],k _ H1 s1 (itz_rng 0 j.toNat)⟩
  ·cases e
def Its (z:Str):It:=⟨fun i _=>i < z.cps.size,fun i H x H'=>H'=H∧∃ c,z.cps[i]?=some c∧x=.str ⟨#[c]⟩,fun i _=>i=z.cps.size⟩
theorem turn_str {P:Program} {w:World} {K:PySem.W.Frag} (z:Str) (it:Addr) (n:String) (hn:["enumerate", "zip", "dict_itemiterator", "dict_reverseitemiterator", "odict_iterator", "itertools.zip_longest", "itertools.pairwise"].contains n=false) (t:Tok)
  (W:∀ A:Around,A.handled=none→Walks P w A it [it] [it] z.cps.size (SignAt z) (fun i h=>h.IsStrIter it n z t i)) (self:∀ (A:Around) (i:Nat) (s:Shared) (Q:Value→Shared→Prop) (E:Value→Shared→Prop),s.heap.IsStrIter it n z t i→Q (.ref it) s→wpAny (model P w) A (pyIter (.ref it)) Q E s) :
  Turn P w K tg (Its z) [it] it (fun i h=>h.IsStrIter it n z t i) where
 mem:=by simp
 obj:=fun i h st b hb=>by
  have e:b=it:=by simpa using hb
  subst e
  obtain ⟨o,e,c,d⟩:=st
  exact ⟨o,e,fun v z=>by rw [d] at z;cases z⟩
 keep:=fun i h h' st k=>by
  obtain ⟨o,e,c,d⟩:=st
  exact ⟨o,k it (by simp) o e,c,d⟩
 item:=by
  intro X hP hw hK hc i pins s σ H E I hf st hg
  subst hP hw hK
  obtain ⟨f0,f1,f2,f3,f4,f5⟩:=hf it (by simp)
  refine (W X.A (I.ok.hd hc)).item i s _ _ hg st fun v h' tk hv st' kk=>?_
  obtain ⟨c,u,hcc,rfl⟩:=hv
  have I1:Inv X pins σ H { s with heap:=h',toks:=tk }:=I.turned (fun b o hb e=>kk b o (by simpa using hb) e) f0 f1 f3 f4 f5
  obtain ⟨o,e,c',d⟩:=id st'
  exact ⟨_,rfl,go_of (s:={ s with heap:=h',toks:=tk }) e c' d hn ⟨.str ⟨#[c]⟩,H,I1,⟨u,rfl⟩,⟨rfl,c,hcc,rfl⟩,st',fun b hb=>(hf b hb).1⟩⟩
 done:=by
  intro X hP hw hK hc i pins s σ H E I hf st hg
  subst hP hw hK
  obtain ⟨f0,f1,f2,f3,f4,f5⟩:=hf it (by simp)
  have hg':i=z.cps.size:=hg
  subst hg'
  exact (W X.A (I.ok.hd hc)).done s _ _ st fun h' tk kk=>⟨rfl,I.turned (fun b o hb e=>kk b o (by simpa using hb) e) f0 f1 f3 f4 f5⟩
 self:=self
theorem itz_str {K:PySem.W.Frag} {S:Hp→Prop} (cs:List Nat):ItZ K (Its ⟨cs.toArray⟩) S (cs.map fun c=>.str [c]) where
 go:=fun i d H1 s hi=>by
  show i < cs.toArray.size
  obtain ⟨h1,_⟩:=List.getElem?_eq_some_iff.mp hi
  simpa using h1
 yld:=fun i d H1 H2 x s hi y=>by
  obtain ⟨e,c,hc,rfl⟩:=y
  have hc':cs[i]?=some c:=by simpa using hc
  rw [List.getElem?_map,hc'] at hi
  cases hi
  subst e
  exact ⟨Same.refl _,den_str (cs:=[c])⟩
 stop:=fun H1 s=>by
  show (cs.map fun c=>Z.D.str [c]).length=cs.toArray.size
  simp
theorem seq_it {pins : List (Addr × Obj)} {σ : St} {H : Hp} {s : Shared} {R : It → Hp → Prop} {E : Value → Shared → Prop} {d : Z.D} {v : V} {u : Value} {ds : List Z.D} {S : Hp → Prop} (I : Inv X pins σ H s) (rv : RelV v u) (hd : DenW X.K H d v) (hi : Z.iterD d = .ok ds)
  (hS:∀ H1,S H1→Stb H H1) (hL:∀ es q vs,d=.lst es→v=.ref q→SqL X.K H q vs→∀ H1,S H1→SqL X.K H1 q vs)
  (k:∀ J,ItZ X.K J S ds→R J H):wpAny (model X.prog X.w) X.A (pyIter u) (PIE X pins σ tg R) E s:=by
 unfold Z.iterD at hi
 split at hi
 ·cases hi
  obtain ⟨q,vs,rfl,hq,t⟩:=hd.tup
  cases rv
  obtain ⟨its,r',pl,hz⟩:=I.tuple hq
  refine wpAny_pyIter_tuple (show s.heap.IsTuple q its.toArray from pl) ?_
  refine ⟨s.heap.objs.size,[s.heap.objs.size],_,_,H,rfl,I.kept (t':=s.toks) fun b o e=>Heap.get?_push_of_some _ e,turn_tuple q _,⟨_,Heap.get?_push_size _ rfl,rfl,rfl⟩,fun b hb=>?_,k _ ((itz_tup hq t).imp hS)⟩
  have e:b=s.heap.objs.size:=by simpa using hb
  subst e
  exact I.fpOk (Nat.le_refl _) (I.hok.fresh (Nat.le_refl _))
 ·cases hi
  obtain ⟨q,vs,rfl,hq,t⟩:=hd.lst
  cases rv
  obtain ⟨its,r',pl,hz⟩:=I.list hq
  refine wpAny_pyIter_list pl.isList ?_
  refine ⟨s.heap.objs.size,[s.heap.objs.size],_,_,H,rfl,I.kept (t':=s.toks) fun b o e=>Heap.get?_push_of_some _ e,turn_list q _,⟨_,Heap.get?_push_size _ rfl,rfl,rfl⟩,fun b hb=>?_,
   k _ (itz_lst (fun H1 s1=>hL _ q vs rfl rfl hq H1 s1) (fun H1 s1=>t.ups (hS H1 s1)) t)⟩
  have e:b=s.heap.objs.size:=by simpa using hb
  subst e
  exact I.fpOk (Nat.le_refl _) (I.hok.fresh (Nat.le_refl _))
 ·cases hi
  rename_i cs
  rw [hd.str] at rv
  obtain ⟨t,rfl⟩:=rv
  have fin:∀ (n:String) (hn:["enumerate", "zip", "dict_itemiterator", "dict_reverseitemiterator", "odict_iterator", "itertools.zip_longest", "itertools.pairwise"].contains n=false)
    (W:∀ A:Around,A.handled=none→Walks X.prog X.w A s.heap.objs.size [s.heap.objs.size] [s.heap.objs.size] (⟨cs.toArray⟩:Str).cps.size (SignAt ⟨cs.toArray⟩) (fun i h=>h.IsStrIter s.heap.objs.size n ⟨cs.toArray⟩ t i))
    (self:∀ (A:Around) (i:Nat) (s':Shared) (Q:Value→Shared→Prop) (E:Value→Shared→Prop),s'.heap.IsStrIter s.heap.objs.size n ⟨cs.toArray⟩ t i→Q (.ref s.heap.objs.size) s'→wpAny (model X.prog X.w) A (pyIter (.ref s.heap.objs.size)) Q E s'),
    PIE X pins σ tg R (.ref s.heap.objs.size) { s with heap:=s.heap.push { cls:=.type n,data:=.fields #[.str ⟨cs.toArray⟩ t,.int 0 0] } }:=by
   intro n hn W self
   refine ⟨s.heap.objs.size,[s.heap.objs.size],_,_,H,rfl,I.kept (t':=s.toks) fun b o e=>Heap.get?_push_of_some _ e,turn_str ⟨cs.toArray⟩ _ n hn t W self,⟨_,Heap.get?_push_size _ rfl,rfl,rfl⟩,fun b hb=>?_,k _ (itz_str cs)⟩
   have e:b=s.heap.objs.size:=by simpa using hb
   subst e
   exact I.fpOk (Nat.le_refl _) (I.hok.fresh (Nat.le_refl _))
  cases ha:(⟨cs.toArray⟩:Str).cps.all (· < 128)
  ·exact wpAny_pyIter_wide ha (fin "str_iterator" (by decide) (fun A' hA=>Walks.strWide hA _ _ t) fun _ _ _ _ _ st hQ=>wpAny_pyIter_striter_wide st hQ)
  ·exact wpAny_pyIter_ascii ha (fin "str_ascii_iterator" (by decide) (fun A' hA=>Walks.strAscii hA _ _ t) fun _ _ _ _ _ st hQ=>wpAny_pyIter_striter_ascii st hQ)
 ·cases hi
theorem di_seq (ha:DW X a fa):DI X tg a (Z.iSeq fa):=by
 intro pins s σ H R I w
 obtain ⟨ρ,ds,r,e,k⟩:=w
 obtain ⟨d,ea,e⟩:=Z.Res.bind_ok e
 refine thn (ha pins s σ H (fun v H1=>Same H H1∧DenW X.K H1 d v) I ⟨ρ,d,r,ea,fun v H1 s1 d1=>⟨s1,d1⟩⟩) ?_
 rintro u s1 ⟨v,H1,I1,rv,sm,hd⟩
 exact seq_it (S:=Same H1) I1 rv hd e (fun _ q=>stb q) (fun _ _ _ _ _ hq H2 s2=>s2.seq hq) fun J z=>k J H1 sm z
theorem dj_seq (ha:DE X a fa):DJ X tg a (Z.iSeq fa):=by
 intro pins s σ H R I w
 obtain ⟨ρ,ds,r,e,k⟩:=w
 obtain ⟨d,ea,e⟩:=Z.Res.bind_ok e
 refine thn (ha pins s σ H (fun v H1=>Same H H1∧Den X.K H1 d v) I ⟨ρ,d,r,ea,fun v H1 s1 d1=>⟨s1,d1⟩⟩) ?_
 rintro u s1 ⟨v,H1,I1,rv,sm,hd⟩
 refine seq_it (S:=Stb H1) I1 rv (.inl hd) e (fun _ q=>q) (fun es q vs e1 e2 hq H2 s2=>?_) fun J z=>k J H1 sm z
 subst e1
 simp only [Den] at hd
 obtain ⟨q',vs',e3,hz,_⟩:=hd
 rw [e2] at e3;cases e3
 rw [I1.list_inj hq hz.sq]
 exact (hz.mono s2).sq
def DicOk (H0:Hp) (σ:St) (ρ:Z.Env):Prop:=(∀ (i j:Nat) (ks ls:Z.DK) (a:Addr),ρ[i]?=some (some (.dc ks))→ρ[j]?=some (some (.dc ls))→σ[i]?=some (some (.ref a))→σ[j]?=some (some (.ref a))→i=j) ∧
 ∀ (i:Nat) (ks:Z.DK) (q:Addr),ρ[i]?=some (some (.dc ks))→σ[i]?=some (some (.ref q))→H0 q=none
theorem DicOk.non {H0:Hp} {σ:St} {ρ:Z.Env} (h:∀ (i:Nat) (ks:Z.DK),ρ[i]?≠some (some (.dc ks))):DicOk H0 σ ρ:=⟨fun i _ ks _ _ e=>absurd e (h i ks),fun i ks _ e=>absurd e (h i ks)⟩
structure RS (K:PySem.W.Frag) (H0 H:Hp) (σ:St) (ρ:Z.Env):Prop where
 same:Same H0 H
 re:RE K H σ ρ
 fresh:∀ (i:Nat) (xs:List Z.D) (q:Addr),ρ[i]?=some (some (.own xs))→σ[i]?=some (some (.ref q))→H0 q=none
 bors:∀ (i:Nat) (xs:List Z.D),ρ[i]?=some (some (.bor xs))→∃ v,σ[i]?=some (some v)∧DenW K H0 (.lst xs) v
 dic:DicOk H0 σ ρ
def flZ (K:PySem.W.Frag) (H0 H:Hp) (D:Ends):Z.Fl→Prop
 | .nx ρ'=>∀ σ' H',Stb H H'→RS K H0 H' σ' ρ'→D.nx σ' H'
 | .rt d=>∀ v H',Same H0 H'→Den K H' d v→D.rt v H'
 | .bk ρ'=>∀ σ' H',Stb H H'→RS K H0 H' σ' ρ'→D.bk σ' H'
 | .ct ρ'=>∀ σ' H',Stb H H'→RS K H0 H' σ' ρ'→D.ct σ' H'
def tS (K:PySem.W.Frag) (H0:Hp) (g:Z.SF):TS:=fun D σ H=>∃ ρ fl,RS K H0 H σ ρ∧g ρ=.ok fl∧flZ K H0 H D fl
abbrev DS (X:Cx) (H0:Hp) (st:Stmt) (g:Z.SF):Prop:=PS X st (tS X.K H0 g)
abbrev DSs (X:Cx) (H0:Hp) (st:List Stmt) (g:Z.SF):Prop:=PSs X st (tS X.K H0 g)
theorem PS.imp {st:Stmt} {t t':TS} (h:PS X st t) (k:∀ D σ H,t' D σ H→t D σ H):PS X st t':=fun pins s σ H D I w=>h pins s σ H D I (k D σ H w)
theorem PSs.imp {st:List Stmt} {t t':TS} (h:PSs X st t) (k:∀ D σ H,t' D σ H→t D σ H):PSs X st t':=fun pins s σ H D I w=>h pins s σ H D I (k D σ H w)
theorem RS.up {K:PySem.W.Frag} {H0 H H':Hp} {σ:St} {ρ:Z.Env} (h:RS K H0 H σ ρ) (e:Same H H'):RS K H0 H' σ ρ:=⟨h.same.trans e,h.re.up e,h.fresh,h.bors,h.dic⟩
theorem flZ.up {K:PySem.W.Frag} {H0 H H1:Hp} {D:Ends} {fl:Z.Fl} (h:flZ K H0 H D fl) (e:Stb H H1):flZ K H0 H1 D fl:=by
 cases fl with
 | nx ρ'=>exact fun σ' H' s r=>h σ' H' (e.trans s) r
 | rt d=>exact h
 | bk ρ'=>exact fun σ' H' s r=>h σ' H' (e.trans s) r
 | ct ρ'=>exact fun σ' H' s r=>h σ' H' (e.trans s) r
theorem set_cases {α:Type} {l:List (Option α)} {i j:Nat} {x:Option α} {y:α} (h:(l.set i x)[j]?=some (some y)):(i=j∧i < l.length∧x=some y)∨(i≠j∧l[j]?=some (some y)):=by
 by_cases hij:i=j
 ·subst hij
  by_cases hl:i < l.length
  ·rw [List.getElem?_set_self hl] at h
   exact .inl ⟨rfl,hl,Option.some.inj h⟩
  ·rw [List.getElem?_eq_none (by simpa using hl)] at h;cases h
 ·rw [List.getElem?_set_ne hij] at h
  exact .inr ⟨hij,h⟩
theorem DicOk.set {H0:Hp} {σ:St} {ρ:Z.Env} {i:Nat} {v:V} {l:Z.L} (h:DicOk H0 σ ρ) (n:∀ ks,l≠.dc ks):DicOk H0 (σ.set i (some v)) (ρ.set i (some l)):=by
 have get:∀ (j:Nat) (ks:Z.DK),(ρ.set i (some l))[j]?=some (some (.dc ks))→ρ[j]?=some (some (.dc ks))∧(σ.set i (some v))[j]?=σ[j]?:=fun j ks e=>by
  rcases set_cases e with ⟨_,_,e⟩ | ⟨hj,e⟩
  ·exact absurd (Option.some.inj e) (n ks)
  ·exact ⟨e,List.getElem?_set_ne hj⟩
 exact ⟨fun j k ks ls a e1 e2 e3 e4=>h.1 j k ks ls a (get j ks e1).1 (get k ls e2).1 (by rw [←(get j ks e1).2];exact e3) (by rw [←(get k ls e2).2];exact e4),fun j ks q e1 e2=>h.2 j ks q (get j ks e1).1 (by rw [←(get j ks e1).2];exact e2)⟩
theorem DicOk.setρ {H0:Hp} {σ:St} {ρ:Z.Env} {i:Nat} {l:Z.L} (h:DicOk H0 σ ρ) (n:∀ ks,l≠.dc ks):DicOk H0 σ (ρ.set i (some l)):=by
 have get:∀ (j:Nat) (ks:Z.DK),(ρ.set i (some l))[j]?=some (some (.dc ks))→ρ[j]?=some (some (.dc ks)):=fun j ks e=>by
  rcases set_cases e with ⟨_,_,e⟩ | ⟨hj,e⟩
  ·exact absurd (Option.some.inj e) (n ks)
  ·exact e
 exact ⟨fun j k ks ls a e1 e2 e3 e4=>h.1 j k ks ls a (get j ks e1) (get k ls e2) e3 e4,fun j ks q e1 e2=>h.2 j ks q (get j ks e1) e2⟩
theorem RS.setV {K : PySem.W.Frag} {H0 H : Hp} {σ : St} {ρ : Z.Env} {i : Nat} {d : Z.D} {v : V} (h : RS K H0 H σ ρ) (hd : Den K H d v) : RS K H0 H (σ.set i (some v)) (ρ.set i (some (.val d))) := by
 have getσ:∀ (j:Nat),i≠j→(σ.set i (some v))[j]?=σ[j]?:=fun j hj=>List.getElem?_set_ne hj
 refine ⟨h.same,⟨by simp [h.re.len],fun j l e=>?_,fun j k xs ys q e1 e2 e3 e4=>?_⟩,fun j xs q e1 e2=>?_,fun j xs e1=>?_,h.dic.set fun _ z=>nomatch z⟩
 ·rcases set_cases e with ⟨rfl,hl,e⟩ | ⟨hj,e⟩
  ·cases e
   exact ⟨v,List.getElem?_set_self (by rw [←h.re.len];exact hl),hd⟩
  ·rw [getσ j hj];exact h.re.get j l e
 ·rcases set_cases e1 with ⟨_,_,e⟩ | ⟨hj,e1⟩
  ·cases e
  ·rcases set_cases e2 with ⟨_,_,e⟩ | ⟨hk,e2⟩
   ·cases e
   ·rw [getσ j hj] at e3
    rw [getσ k hk] at e4
    exact h.re.sep j k xs ys q e1 e2 e3 e4
 ·rcases set_cases e1 with ⟨_,_,e⟩ | ⟨hj,e1⟩
  ·cases e
  ·rw [getσ j hj] at e2
   exact h.fresh j xs q e1 e2
 ·rcases set_cases e1 with ⟨_,_,e⟩ | ⟨hj,e1⟩
  ·cases e
  ·rw [getσ j hj]
   exact h.bors j xs e1
theorem RS.setO {K : PySem.W.Frag} {H0 H : Hp} {σ : St} {ρ : Z.Env} {i : Nat} {ds : List Z.D} {q : Addr} {vs : List V} (h : RS K H0 H σ ρ) (hq : H q = some (.lst vs)) (t : Dens K H ds vs) (h0 : H0 q = none)
  (nq:∀ (j:Nat) (xs:List Z.D),j≠i→ρ[j]?=some (some (.own xs))→σ[j]?≠some (some (.ref q))):RS K H0 H (σ.set i (some (.ref q))) (ρ.set i (some (.own ds))):=by
 have getσ:∀ (j:Nat),i≠j→(σ.set i (some (V.ref q)))[j]?=σ[j]?:=fun j hj=>List.getElem?_set_ne hj
 refine ⟨h.same,⟨by simp [h.re.len],fun j l e=>?_,fun j k xs ys p e1 e2 e3 e4=>?_⟩,fun j xs p e1 e2=>?_,fun j xs e1=>?_,h.dic.set fun _ z=>nomatch z⟩
 ·rcases set_cases e with ⟨rfl,hl,e⟩ | ⟨hj,e⟩
  ·cases e
   exact ⟨.ref q,List.getElem?_set_self (by rw [←h.re.len];exact hl),q,vs,rfl,hq,t⟩
  ·rw [getσ j hj];exact h.re.get j l e
 ·rcases set_cases e1 with ⟨rfl,hl,_⟩ | ⟨hj,e1⟩
  ·rcases set_cases e2 with ⟨rfl,_,_⟩ | ⟨hk,e2⟩
   ·rfl
   ·rw [List.getElem?_set_self (by rw [←h.re.len];exact hl)] at e3
    cases e3
    rw [getσ k hk] at e4
    exact absurd e4 (nq k ys (Ne.symm hk) e2)
  ·rcases set_cases e2 with ⟨rfl,hl,_⟩ | ⟨hk,e2⟩
   ·rw [List.getElem?_set_self (by rw [←h.re.len];exact hl)] at e4
    cases e4
    rw [getσ j hj] at e3
    exact absurd e3 (nq j xs (Ne.symm hj) e1)
   ·rw [getσ j hj] at e3
    rw [getσ k hk] at e4
    exact h.re.sep j k xs ys p e1 e2 e3 e4
 ·rcases set_cases e1 with ⟨rfl,hl,_⟩ | ⟨hj,e1⟩
  ·rw [List.getElem?_set_self (by rw [←h.re.len];exact hl)] at e2
   cases e2
   exact h0
  ·rw [getσ j hj] at e2
   exact h.fresh j xs p e1 e2
 ·rcases set_cases e1 with ⟨_,_,e⟩ | ⟨hj,e1⟩
  ·cases e
  ·rw [getσ j hj]
   exact h.bors j xs e1
theorem RS.chg {K : PySem.W.Frag} {H0 H : Hp} {σ : St} {ρ : Z.Env} {i : Nat} {xs ds : List Z.D} {q : Addr} {us vs : List V} (h : RS K H0 H σ ρ) (ei : ρ[i]? = some (some (.own xs))) (si : σ[i]? = some (some (.ref q))) (hq : H q = some (.lst us)) (t : Dens K H ds vs) :
  RS K H0 (upd H q (.lst vs)) σ (ρ.set i (some (.own ds))):=by
 have st:Stb H (upd H q (.lst vs)):=stb_lst hq
 have h0:H0 q=none:=h.fresh i xs q ei si
 have hs:Same H0 (upd H q (.lst vs)):=fun b u e=>by rw [upd_ne (ne_of_none e h0)];exact h.same b u e
 refine ⟨hs,⟨by simp [h.re.len],fun j l e=>?_,fun j k xs' ys p e1 e2 e3 e4=>?_⟩,fun j xs' p e1 e2=>?_,fun j xs' e1=>?_,h.dic.setρ fun _ z=>nomatch z⟩
 ·rcases set_cases e with ⟨rfl,hl,e⟩ | ⟨hj,e⟩
  ·cases e
   exact ⟨.ref q,si,q,vs,rfl,upd_same,t.ups st⟩
  ·obtain ⟨v,e1,r⟩:=h.re.get j l e
   refine ⟨v,e1,?_⟩
   cases l with
   | val d=>exact Den.ups (show Den K H d v from r) st
   | own zs =>
    obtain ⟨q',ws,rfl,hq',t'⟩:=r
    have:q'≠q:=by
     rintro rfl
     exact hj (h.re.sep i j xs zs q' ei e si e1)
    exact ⟨q',ws,rfl,by rw [upd_ne this];exact hq',t'.ups st⟩
   | bor zs =>
    obtain ⟨v',e2,r2⟩:=h.bors j zs e
    rw [e1] at e2
    cases e2
    exact r2.up hs
   | dc ks =>
    obtain ⟨q',as,rfl,hq',t'⟩:=r
    have:q'≠q:=by
     rintro rfl
     rw [hq] at hq';exact dcO_lst (Option.some.inj hq').symm
    exact ⟨q',as,rfl,by rw [upd_ne this];exact hq',t'.ups st⟩
   | fdc ks =>
    obtain ⟨q',o',as,rfl,hq',t'⟩:=r
    exact ⟨q',o',as,rfl,st.frz _ _ _ hq',t'.ups st⟩
   | idc ps =>
    obtain ⟨q',o',rfl,hq'⟩:=r
    exact ⟨q',o',rfl,st.frz _ _ _ hq'⟩
   | exc c =>
    obtain ⟨q',o',u',C',rfl,hq',r1,r2,r3⟩:=r
    exact ⟨q',o',u',C',rfl,st.frz _ _ _ hq',r1,r2,r3.ups st⟩
 ·have old:∀ {j:Nat} {zs:List Z.D},(ρ.set i (some (Z.L.own ds)))[j]?=some (some (.own zs))→∃ zs',ρ[j]?=some (some (.own zs')):=fun {j zs} e=>by
   rcases set_cases e with ⟨rfl,_,_⟩ | ⟨_,e⟩
   ·exact ⟨xs,ei⟩
   ·exact ⟨zs,e⟩
  obtain ⟨_,o1⟩:=old e1
  obtain ⟨_,o2⟩:=old e2
  exact h.re.sep j k _ _ p o1 o2 e3 e4
 ·rcases set_cases e1 with ⟨rfl,_,_⟩ | ⟨_,e1⟩
  ·exact h.fresh i xs p ei e2
  ·exact h.fresh j xs' p e1 e2
 ·rcases set_cases e1 with ⟨_,_,e⟩ | ⟨_,e1⟩
  ·cases e
  ·exact h.bors j xs' e1
theorem RS.frz {K : PySem.W.Frag} {H0 H : Hp} {σ : St} {ρ : Z.Env} {i : Nat} {xs : List Z.D} {q : Addr} {us : List V} {o : Obj} (h : RS K H0 H σ ρ) (ei : ρ[i]? = some (some (.own xs))) (si : σ[i]? = some (some (.ref q))) (hq : H q = some (.lst us)) (t : Dens K H xs us) :
  RS K H0 (upd H q (.frz o (.lst us))) σ (ρ.set i (some (.val (.lst xs)))):=by
 have st:Stb H (upd H q (.frz o (.lst us))):=stb_lst hq
 have h0:H0 q=none:=h.fresh i xs q ei si
 have hs:Same H0 (upd H q (.frz o (.lst us))):=fun b u e=>by rw [upd_ne (ne_of_none e h0)];exact h.same b u e
 refine ⟨hs,⟨by simp [h.re.len],fun j l e=>?_,fun j k xs' ys p e1 e2 e3 e4=>?_⟩,fun j xs' p e1 e2=>?_,fun j xs' e1=>?_,h.dic.setρ fun _ z=>nomatch z⟩
 ·rcases set_cases e with ⟨rfl,hl,e⟩ | ⟨hj,e⟩
  ·cases e
   exact ⟨.ref q,si,den_lst (.inl ⟨o,upd_same⟩) (t.ups st)⟩
  ·obtain ⟨v,e1,r⟩:=h.re.get j l e
   refine ⟨v,e1,?_⟩
   cases l with
   | val d=>exact Den.ups (show Den K H d v from r) st
   | own zs =>
    obtain ⟨q',ws,rfl,hq',t'⟩:=r
    have:q'≠q:=by
     rintro rfl
     exact hj (h.re.sep i j xs zs q' ei e si e1)
    exact ⟨q',ws,rfl,by rw [upd_ne this];exact hq',t'.ups st⟩
   | bor zs =>
    obtain ⟨v',e2,r2⟩:=h.bors j zs e
    rw [e1] at e2
    cases e2
    exact r2.up hs
   | dc ks =>
    obtain ⟨q',as,rfl,hq',t'⟩:=r
    have:q'≠q:=by
     rintro rfl
     rw [hq] at hq';exact dcO_lst (Option.some.inj hq').symm
    exact ⟨q',as,rfl,by rw [upd_ne this];exact hq',t'.ups st⟩
   | fdc ks =>
    obtain ⟨q',o',as,rfl,hq',t'⟩:=r
    exact ⟨q',o',as,rfl,st.frz _ _ _ hq',t'.ups st⟩
   | idc ps =>
    obtain ⟨q',o',rfl,hq'⟩:=r
    exact ⟨q',o',rfl,st.frz _ _ _ hq'⟩
   | exc c =>
    obtain ⟨q',o',u',C',rfl,hq',r1,r2,r3⟩:=r
    exact ⟨q',o',u',C',rfl,st.frz _ _ _ hq',r1,r2,r3.ups st⟩
 ·rcases set_cases e1 with ⟨_,_,e⟩ | ⟨_,e1⟩
  ·cases e
  ·rcases set_cases e2 with ⟨_,_,e⟩ | ⟨_,e2⟩
   ·cases e
   ·exact h.re.sep j k _ _ p e1 e2 e3 e4
 ·rcases set_cases e1 with ⟨_,_,e⟩ | ⟨_,e1⟩
  ·cases e
  ·exact h.fresh j xs' p e1 e2
 ·rcases set_cases e1 with ⟨_,_,e⟩ | ⟨_,e1⟩
  ·cases e
  ·exact h.bors j xs' e1
variable {H0:Hp} {st:Stmt} {sts:List Stmt} {g u:Z.SF}
theorem dss_nil:DSs X H0 [] Z.sNext:=PSs.imp pss_nil fun D σ H ⟨ρ,fl,rs,e,k⟩=>by
 cases e
 exact k σ H (Stb.refl H) rs
theorem dss_one (h:DS X H0 st g):DSs X H0 [st] g:=pss_one h
theorem dss_cons (h1:DS X H0 st g) (h2:DSs X H0 sts u):DSs X H0 (st :: sts) (Z.sSeq g u):=PSs.imp (pss_cons h1 h2) fun D σ H ⟨ρ,fl,rs,e,k⟩=>by
 obtain ⟨f1,e1,e⟩:=Z.Res.bind_ok e
 refine ⟨ρ,f1,rs,e1,?_⟩
 cases f1 with
 | nx ρ'=>exact fun σ' H' s r=>⟨ρ',fl,r,e,k.up s⟩
 | rt d=>cases e;exact k
 | bk ρ'=>cases e;exact k
 | ct ρ'=>cases e;exact k
theorem ds_ret (h:DE X a fa):DS X H0 (.Return (some a) pos) (Z.sRet fa):=PS.imp (ps_ret h) fun D σ H ⟨ρ,fl,rs,e,k⟩=>by
 obtain ⟨d,ea,e⟩:=Z.Res.bind_ok e
 cases e
 exact ⟨ρ,d,rs.re,ea,fun v H' s dv=>k v H' (rs.same.trans s) dv⟩
theorem ds_if {c:Expr} {b1 b2:List Stmt} {t:Z.TF} (hc:DT X c t) (h1:DSs X H0 b1 g) (h2:DSs X H0 b2 u):DS X H0 (.If c b1 b2 pos) (Z.sIf t g u):=PS.imp (ps_if hc h1 h2) fun D σ H ⟨ρ,fl,rs,e,k⟩=>by
 obtain ⟨x,ea,e⟩:=Z.Res.bind_ok e
 refine ⟨ρ,x,rs.re,ea,fun H1 s1=>?_⟩
 cases x with
 | true =>
  simp only [if_true] at e ⊢
  exact ⟨ρ,fl,rs.up s1,e,k.up (stb s1)⟩
 | false =>
  simp only [Bool.false_eq_true,if_false] at e ⊢
  exact ⟨ρ,fl,rs.up s1,e,k.up (stb s1)⟩
theorem ds_set {i:Nat} {x:Str} {pos':Pos} (hN:X.N.Nodup) (hi:X.N[i]?=some x) (hx:Loc X.env.scope x) (he:DE X a fa) (hs:swapsWith a (some (.Name x pos')) pos.line X.env=pure false:=by rfl) (hf:X.fn x=true∨X.env.scope.names.lookup x=some .local:=by first | exact .inl rfl | exact .inr rfl | assumption) :
  DS X H0 (.Assign [.Name x pos'] a pos) (Z.sSet i fa):=PS.imp (ps_set hN hi hx he hs hf) fun D σ H ⟨ρ,fl,rs,e,k⟩=>by
 obtain ⟨d,ea,e⟩:=Z.Res.bind_ok e
 cases e
 exact ⟨ρ,d,rs.re,ea,fun v H' s dv=>k _ H' (stb s) ((rs.up s).setV dv)⟩
theorem RS.noq {K:PySem.W.Frag} {H1 H:Hp} {σ:St} {ρ:Z.Env} {q:Addr} (h:RS K H1 H σ ρ) (hq:H q=none) (j:Nat) (xs:List Z.D) (e:ρ[j]?=some (some (.own xs))):σ[j]?≠some (some (.ref q)):=fun z=>by
 obtain ⟨v,e1,q',vs,rfl,h2,_⟩:=h.re.get j _ e
 rw [z] at e1;cases e1
 rw [hq] at h2;cases h2
theorem ds_own {i:Nat} {x:Str} {pos':Pos} {l:Z.LF} (hN:X.N.Nodup) (hi:X.N[i]?=some x) (hx:Loc X.env.scope x) (he:DL X a l) (hs:swapsWith a (some (.Name x pos')) pos.line X.env=pure false:=by rfl) (hf:X.fn x=true∨X.env.scope.names.lookup x=some .local:=by first | exact .inl rfl | exact .inr rfl | assumption) :
  DS X H0 (.Assign [.Name x pos'] a pos) (Z.sOwn i l):=PS.imp (ps_set hN hi hx he hs hf) fun D σ H ⟨ρ,fl,rs,e,k⟩=>by
 obtain ⟨d,ea,e⟩:=Z.Res.bind_ok e
 cases e
 refine ⟨ρ,d,rs.re,ea,fun q vs H' s hn h1 t=>k _ H' (stb s) ((rs.up s).setO h1 t (rs.same.free hn) fun j xs _ e=>?_)⟩
 exact rs.noq hn j xs e
def tG (K:PySem.W.Frag) (H0:Hp) (g:Z.GF):TG:=fun v σ H Q=>∃ ρ d ρ',RS K H0 H σ ρ∧Den K H d v∧g d ρ=.ok ρ'∧∀ σ' H',Same H H'→RS K H0 H' σ' ρ'→Q σ' H'
def tGs (K:PySem.W.Frag) (H0:Hp) (is:List Nat):TGs:=fun vs σ H Q=>∃ ρ ds ρ',RS K H0 H σ ρ∧Dens K H ds vs∧Z.gNames is ds ρ=.ok ρ'∧∀ σ' H',Same H H'→RS K H0 H' σ' ρ'→Q σ' H'
abbrev DG (X:Cx) (H0:Hp) (tg:Expr) (g:Z.GF):Prop:=PG X tg (tG X.K H0 g)
abbrev DGs (X:Cx) (H0:Hp) (tgs:List Expr) (is:List Nat):Prop:=PGs X tgs (tGs X.K H0 is)
theorem PG.imp {t t':TG} (h:PG X tg t) (k:∀ v σ H Q,t' v σ H Q→t v σ H Q):PG X tg t':=fun pins s σ H v u Q I r w=>h pins s σ H v u Q I r (k v σ H Q w)
theorem PGs.imp {t t':TGs} (h:PGs X es t) (k:∀ v σ H Q,t' v σ H Q→t v σ H Q):PGs X es t':=fun pins s σ H v u Q I r w=>h pins s σ H v u Q I r (k v σ H Q w)
theorem dg_name {i:Nat} {x:Str} (hN:X.N.Nodup) (hi:X.N[i]?=some x) (hx:Loc X.env.scope x) (hf:X.fn x=true∨X.env.scope.names.lookup x=some .local:=by first | exact .inl rfl | exact .inr rfl | assumption):DG X H0 (.Name x pos) (Z.gName i) :=
 PG.imp (pg_name hN hi hx hf) fun v σ H Q ⟨ρ,d,ρ',rs,hd,e,k⟩=>by
  cases e
  exact k _ H (Same.refl H) (rs.setV hd)
theorem dgs_nil:DGs X H0 [] []:=PGs.imp pgs_nil fun vs σ H Q ⟨ρ,ds,ρ',rs,hd,e,k⟩=>by
 cases ds with
 | nil =>
  simp only [Dens] at hd
  cases e
  exact ⟨hd,k σ H (Same.refl H) rs⟩
 | cons d ds=>cases e
theorem dgs_cons {i:Nat} {is:List Nat} {x:Str} (hN:X.N.Nodup) (hi:X.N[i]?=some x) (hx:Loc X.env.scope x) (h2:DGs X H0 es is) (hs:(assignEach ((.Name x pos) :: es) X.env).map (·.2)=assign (.Name x pos) X.env :: (assignEach es X.env).map (·.2):=by rfl)
  (hf:X.fn x=true∨X.env.scope.names.lookup x=some .local:=by first | exact .inl rfl | exact .inr rfl | assumption):DGs X H0 (.Name x pos :: es) (i :: is) :=
 PGs.imp (pgs_cons (pg_name hN hi hx hf) h2 hs) fun vs σ H Q ⟨ρ,ds,ρ',rs,hd,e,k⟩=>by
  cases ds with
  | nil=>cases e
  | cons d ds =>
   simp only [Dens] at hd
   obtain ⟨v,r,rfl,h1,h2⟩:=hd
   exact ⟨v,r,rfl,ρ.set i (some (.val d)),ds,ρ',rs.setV h1,h2,e,k⟩
theorem dg_tup {x1 n : Nat} {is : List Nat} (hc : X.calm = true) (h : DGs X H0 es is) (hl : is.length = n) (hn : (assignEach es X.env).length = n := by rfl) (hst : (assignEach es X.env).findIdx? (·.1) = none := by rfl) : DG X H0 (.Tuple es x1 pos) (Z.gTup is) :=
 PG.imp (pg_tup hc h hn hst) fun v σ H Q ⟨ρ,d,ρ',rs,hd,e,k⟩=>by
  unfold Z.gTup at e
  split at e
  ·rename_i ds
   obtain ⟨q,vs,rfl,hq,t⟩:=DenW.tup (.inl hd)
   have hlen:∀ (is:List Nat) (ds:List Z.D) (ρ ρ':Z.Env),Z.gNames is ds ρ=.ok ρ'→ds.length=is.length:=by
    intro is
    induction is with
    | nil=>intro ds ρ ρ' e;cases ds with
     | nil=>rfl
     | cons d ds=>cases e
    | cons i is ih=>intro ds ρ ρ' e;cases ds with
     | nil=>cases e
     | cons d ds=>simp [ih ds _ _ e]
   exact ⟨q,vs,rfl,hq,by rw [t.length,hlen is ds ρ ρ' e];exact hl,ρ,ds,ρ',rs,t,e,k⟩
  ·cases e
theorem ds_get {g:Z.GF} (he:DE X a fa) (hg:DG X H0 tg g) (hs:swapsWithSole [tg] a pos.line X.env=pure false:=by rfl) (hw:swappedStores [tg] a X.env=pure none:=by rfl)
  (h1:(assignEach [tg] X.env).map (·.2)=[assign tg X.env]:=by rfl):DS X H0 (.Assign [tg] a pos) (Z.sGet fa g):=PS.imp (ps_asg he hg hs hw h1) fun D σ H ⟨ρ,fl,rs,e,k⟩=>by
 obtain ⟨d,ea,e⟩:=Z.Res.bind_ok e
 obtain ⟨ρ',eb,e⟩:=Z.Res.bind_ok e
 cases e
 exact ⟨ρ,d,rs.re,ea,fun v H' s dv=>⟨ρ,d,ρ',rs.up s,dv,eb,fun σ2 H2 s2 r2=>k σ2 H2 ((stb s).trans (stb s2)) r2⟩⟩
theorem ds_for {it : Z.LF} {G : Z.GF} {iter : Expr} {body : List Stmt} (hp : PassesOwn (model X.prog X.w) X.A X.env X.xe) (hc : X.calm = true) (hi : DJ X tg iter it) (hg : DG X H0 tg G) (hb : DSs X H0 body g)
  (hs:∀ x,foldedSetIterable iter X.env x=pure x:=by intro _;rfl):DS X H0 (.For tg iter body [] pos) (Z.sFor it G g):=PS.imp (ps_for hp hc hi hg hb hs) fun D σ H ⟨ρ,fl,rs,e,k⟩=>by
 obtain ⟨ds,ei,e⟩:=Z.Res.bind_ok e
 refine ⟨ρ,ds,rs.re,ei,fun J H1 s1 z=>?_⟩
 refine ⟨fun i m σ' H'=>m=ds.length-i∧i≤ds.length∧∃ ρ',RS X.K H0 H' σ' ρ'∧Stb H1 H'∧Z.forGo G g (ds.drop i) ρ'=.ok fl,⟨ds.length,by simp,Nat.zero_le _,ρ,rs.up s1,Stb.refl H1,by simpa using e⟩,?_⟩
 rintro i m σ2 H2 ⟨rfl,hil,ρ2,r2,s2,e2⟩
 by_cases hlt:i < ds.length
 ·obtain ⟨d,hd⟩:∃ d,ds[i]?=some d:=⟨ds[i],by simp [hlt]⟩
  have hdrop:ds.drop i=d :: ds.drop (i+1):=by
   rw [List.drop_eq_getElem_cons hlt]
   have:ds[i]=d:=by
    have:=List.getElem?_eq_getElem hlt
    rw [this] at hd;exact Option.some.inj hd
   rw [this]
  rw [hdrop] at e2
  unfold Z.forGo at e2
  obtain ⟨ρ3,eg,e2⟩:=Z.Res.bind_ok e2
  obtain ⟨f3,eb,e2⟩:=Z.Res.bind_ok e2
  refine .inr ⟨z.go i d H2 s2 hd,fun σ' H'=>∃ ρ',RS X.K H0 H' σ' ρ'∧Stb H1 H'∧Z.forGo G g (ds.drop (i+1)) ρ'=.ok fl,fun σ' H' w=>⟨_,by lia,rfl,hlt,w⟩,fun x H3 y=>?_⟩
  obtain ⟨sy,dx⟩:=z.yld i d H2 H3 x s2 hd y
  replace s2:=s2.trans (stb sy)
  refine ⟨ρ2,d,ρ3,r2.up sy,dx,eg,fun σ4 H4 s4' r4=>⟨ρ3,f3,r4,eb,?_⟩⟩
  have s4:=stb s4'
  cases f3 with
  | nx ρ5=>exact fun σ5 H5 s5 r5=>⟨ρ5,r5,(s2.trans s4).trans s5,e2⟩
  | ct ρ5=>exact fun σ5 H5 s5 r5=>⟨ρ5,r5,(s2.trans s4).trans s5,e2⟩
  | bk ρ5 =>
   cases e2
   exact fun σ5 H5 s5 r5=>k σ5 H5 ((stb s1).trans ((s2.trans s4).trans s5)) r5
  | rt d5 =>
   cases e2
   exact k
 ·have:i=ds.length:=by lia
  subst this
  rw [List.drop_length] at e2
  cases e2
  exact .inl ⟨z.stop H2 s2,k σ2 H2 ((stb s1).trans s2) r2⟩
theorem dss_frz {i:Nat} (h:DSs X H0 sts g):DSs X H0 sts (Z.sFrz i g):=by
 intro pins s σ H D I w
 obtain ⟨ρ,fl,rs,e,k⟩:=w
 unfold Z.sFrz Z.frz at e
 split at e
 ·rename_i xs ei
  obtain ⟨v,si,q,us,rfl,hq,t⟩:=rs.re.get i _ ei
  obtain ⟨o,I2⟩:=inv_freeze I hq
  exact h pins s σ _ D I2 ⟨_,fl,rs.frz ei si hq t,e,k.up (stb_lst hq)⟩
 ·exact h pins s σ H D I ⟨ρ,fl,rs,e,k⟩
end
end ZS
namespace ZS
open PySem PySem.Spec PyProof.Rows L2
theorem closure_of {env : Env} : ∀ (names : List (Str × NameKind)) (acc : List (Str × Addr)), (∀ y ∈ names, y.2 = .free → ∃ c, env.cells.lookup y.1 = some c) → (∀ x c, acc.lookup x = some c → env.cells.lookup x = some c) →
  ∃ cl,(forIn names acc fun (x:Str×NameKind) (cs:List (Str×Addr))=>(if (x.2==NameKind.free)=true then do let c ←cellOf env x.1;pure (ForInStep.yield ((x.1,c) :: cs)) else pure (ForInStep.yield cs):Sem (ForInStep (List (Str×Addr)))))=pure cl ∧
   (∀ x c,cl.lookup x=some c→env.cells.lookup x=some c)∧(∀ x,(acc.lookup x).isSome=true→(cl.lookup x).isSome=true)∧(∀ y∈names,y.2=.free→(cl.lookup y.1).isSome=true)
 | [],acc,_,ha=>⟨acc,rfl,ha,fun _ h=>h,fun y hy=>by cases hy⟩
 | (n, k) :: r, acc, hn, ha => by
  by_cases hk:k=.free
  ·subst hk
   obtain ⟨c,hc⟩:=hn (n,.free) List.mem_cons_self rfl
   have ha':∀ x d,((n,c) :: acc).lookup x=some d→env.cells.lookup x=some d:=fun x d e=>by
    rw [List.lookup_cons] at e
    split at e
    ·rename_i q;cases e;rw [beq_iff_eq.mp q];exact hc
    ·exact ha x d e
   obtain ⟨cl,e,h1,h2,h3⟩:=closure_of r ((n,c) :: acc) (fun y hy=>hn y (List.mem_cons_of_mem _ hy)) ha'
   have self:(cl.lookup n).isSome=true:=h2 n (by rw [List.lookup_cons_self];rfl)
   refine ⟨cl,?_,h1,fun x hx=>h2 x ?_,fun y hy hf=>?_⟩
   ·rw [List.forIn_cons]
    simp only [beq_self_eq_true,if_true]
    have:cellOf env n=pure c:=by unfold cellOf;rw [hc]
    rw [this]
    exact e
   ·rw [List.lookup_cons]
    split
    ·rfl
    ·exact hx
   ·rcases List.mem_cons.mp hy with rfl | hy
    ·exact self
    ·exact h3 y hy hf
  ·obtain ⟨cl,e,h1,h2,h3⟩:=closure_of r acc (fun y hy=>hn y (List.mem_cons_of_mem _ hy)) ha
   have hb:(k==NameKind.free)=false:=by simpa using hk
   refine ⟨cl,?_,h1,h2,fun y hy hf=>?_⟩
   ·rw [List.forIn_cons]
    simp only [hb,Bool.false_eq_true,if_false]
    exact e
   ·rcases List.mem_cons.mp hy with rfl | hy
    ·exact absurd hf hk
    ·exact h3 y hy hf
theorem closureFor_of {env:Env} {scope:Scope} (hn:∀ y∈scope.names,y.2=.free→∃ c,env.cells.lookup y.1=some c) :
  ∃ cl,closureFor scope env=pure cl∧(∀ x c,cl.lookup x=some c→env.cells.lookup x=some c)∧(∀ y∈scope.names,y.2=.free→(cl.lookup y.1).isSome=true):=by
 obtain ⟨cl,e,h1,_,h3⟩:=closure_of (env:=env) scope.names [] hn (fun x c e=>by cases e)
 refine ⟨cl,?_,h1,h3⟩
 unfold closureFor
 first
  | exact e
  | (simp only [bind_pure];exact e)
  | (rw [show _=_ from e];rfl)
theorem lookup_relabel {env : Env} {x : Str} : ∀ (names : List (Str × NameKind)), (names.map fun (n, k) => if (k == NameKind.free && env.scope.kind == .function && env.kindOf n == some .cell) = true then (n, NameKind.cell) else (n, k)).lookup x = (names.lookup x).map fun k => if (k == NameKind.free && env.scope.kind == .function && env.kindOf x == some .cell) = true then NameKind.cell else k
 | []=>rfl
 | (n, k) :: r => by
  have ih:=@lookup_relabel env x r
  show List.lookup x ((if (k==NameKind.free&&env.scope.kind==.function&&env.kindOf n==some .cell)=true then (n,NameKind.cell) else (n,k)) :: _)=_
  by_cases hx:x=n
  ·subst hx
   by_cases hc:(k==NameKind.free&&env.scope.kind==.function&&env.kindOf x==some .cell)=true
   ·rw [if_pos hc,List.lookup_cons_self,List.lookup_cons_self,Option.map_some,if_pos hc]
   ·rw [if_neg hc,List.lookup_cons_self,List.lookup_cons_self,Option.map_some,if_neg hc]
  ·have hb:(x==n)=false:=by simpa using hx
   by_cases hc:(k==NameKind.free&&env.scope.kind==.function&&env.kindOf n==some .cell)=true
   ·rw [if_pos hc,List.lookup_cons,List.lookup_cons,hb]
    exact ih
   ·rw [if_neg hc,List.lookup_cons,List.lookup_cons,hb]
    exact ih
abbrev blk (X:Cx) (N':List Str) (scope:Scope) (cl:List (Str×Addr)) (C:Addr) (fp:List Addr) (s₂:Shared) (H₂:Hp):Cx :=
 { prog:=X.prog,w:=X.w,K:=X.K,mg:=X.mg,base:=X.base,A:=X.A,N:=N',s₀:=s₂,H₀:=H₂,env:=compEnvC scope cl C X.env,outer:=X.stack,stack:=X.stack,ex:=fp,fn:=fun _=>false,calm:=X.calm,pn:=[],xe:=fun _ _=>False }
structure Blk (N N':List Str) (n:Nat) (is:List Nat) (sc osc:Scope):Prop where
 kind:sc.kind=.function
 cell:∀ y∈sc.names,y.2≠.cell
 loc:∀ y∈sc.names,y.2=.local→sc.names.lookup y.1=some .local
 free:∀ y∈sc.names,y.2=.free→osc.names.lookup y.1=some .cell∨osc.names.lookup y.1=some .free
 len:N'.length=n+is.length
 cap:∀ (j i:Nat),is[j]?=some i→∃ x,N'[n+j]?=some x∧N[i]?=some x∧sc.names.lookup x=some .free
 own:∀ (j:Nat),j < n→∃ x,N'[j]?=some x∧sc.names.lookup x=some .local
section
variable {X:Cx} {tg e a b elt iter:Expr} {ifs:List Expr} {pos:Pos} {N':List Str} {n:Nat} {is:List Nat} {scope:Scope}
def sCap (σ:St) (n:Nat) (is:List Nat):St:=List.replicate n none++is.map fun i=>(σ[i]?).join
theorem cap_noown (n:Nat) (is:List Nat) (ρ:Z.Env) (i:Nat) (xs:List Z.D):(List.replicate n none++Z.capt ρ is:Z.Env)[i]?≠some (some (.own xs)):=by
 intro e
 by_cases hi:i < n
 ·rw [List.getElem?_append_left (by simpa using hi),List.getElem?_replicate] at e
  split at e<;>cases e
 ·rw [List.getElem?_append_right (by simpa using hi)] at e
  unfold Z.capt at e
  rw [List.getElem?_map] at e
  cases q:is[i-(List.replicate n (none:Option Z.L)).length]? with
  | none=>rw [q] at e;cases e
  | some j =>
   rw [q] at e
   have e':Z.capt1 ρ j=some (.own xs):=Option.some.inj e
   unfold Z.capt1 at e'
   split at e'<;>cases e'
theorem cap_nodic (n:Nat) (is:List Nat) (ρ:Z.Env) (i:Nat) (ks:Z.DK):(List.replicate n none++Z.capt ρ is:Z.Env)[i]?≠some (some (.dc ks)):=by
 intro e
 by_cases hi:i < n
 ·rw [List.getElem?_append_left (by simpa using hi),List.getElem?_replicate] at e
  split at e<;>cases e
 ·rw [List.getElem?_append_right (by simpa using hi)] at e
  unfold Z.capt at e
  rw [List.getElem?_map] at e
  cases q:is[i-(List.replicate n (none:Option Z.L)).length]? with
  | none=>rw [q] at e;cases e
  | some j =>
   rw [q] at e
   have e':Z.capt1 ρ j=some (.dc ks):=Option.some.inj e
   unfold Z.capt1 at e'
   split at e'<;>cases e'
theorem re_cap {K : PySem.W.Frag} {H H' : Hp} {σ : St} {ρ : Z.Env} (h : RE K H σ ρ) (s : Same H H') : RS K H H' (sCap σ n is) (List.replicate n none ++ Z.capt ρ is) := by
 have key:∀ (i:Nat) (l:Z.L),(List.replicate n none++Z.capt ρ is:Z.Env)[i]?=some (some l)→∃ v,(sCap σ n is)[i]?=some (some v)∧RL K H l v:=?_
 refine ⟨s,⟨by simp [sCap,Z.capt],fun i l e=>let ⟨v,h1,h2⟩:=key i l e;⟨v,h1,h2.up s⟩,fun i j xs ys q e1=>absurd e1 (cap_noown n is ρ i xs)⟩,fun i xs q e1=>absurd e1 (cap_noown n is ρ i xs),fun i xs e1=>key i _ e1,DicOk.non (cap_nodic n is ρ)⟩
 intro i l e
 by_cases hi:i < n
 ·rw [List.getElem?_append_left (by simpa using hi),List.getElem?_replicate] at e
  split at e<;>cases e
 ·rw [List.getElem?_append_right (by simpa using hi)] at e
  unfold sCap
  rw [List.getElem?_append_right (by simpa using hi)]
  simp only [List.length_replicate] at e ⊢
  unfold Z.capt at e
  rw [List.getElem?_map] at e ⊢
  cases q:is[i-n]? with
  | none=>rw [q] at e;cases e
  | some j =>
   rw [q] at e
   have e':Z.capt1 ρ j=some l:=Option.some.inj e
   unfold Z.capt1 at e'
   split at e'
   ·rename_i d hd
    cases e'
    obtain ⟨v,h1,h2⟩:=h.get j _ hd
    refine ⟨v,?_,h2⟩
    simp [h1]
   ·rename_i d hd
    cases e'
    obtain ⟨v,h1,h2⟩:=h.get j _ hd
    refine ⟨v,?_,h2⟩
    simp [h1]
   ·rename_i d hd
    cases e'
    obtain ⟨v,h1,h2⟩:=h.get j _ hd
    refine ⟨v,?_,h2⟩
    simp [h1]
   ·cases e'
theorem codeAny_compLoop_go {prog:Program} {w:World} {A:Around} {R:Result→Shared→Prop} {s:Shared} {elt target iter:Expr} {ifs:List Expr} {scope:Scope} {pos:Pos} {it acc:Value} {env:Env} (I:Nat→Shared→Prop)
  (turn : ∀ n s, I n s → wpAny (model prog w) A (pyNext it) (fun r s₁ => match r with
   | none=>R (.ok .next) s₁
   | some v=>wpAny (model prog w) A (letOwnedTupleGo target it v) (fun _ s₁=>wpAny (model prog w) A (assign target env v) (fun _ s₂ =>
     wpAny (model prog w) A (forIn ifs true fun c r=>if r=true then do let ok ←isTrue c env (eval c env);pure (ForInStep.yield ok) else pure (ForInStep.yield r)) (fun ok s₃ =>
      if ok=true then wpAny (model prog w) A (eval elt env) (fun x s₄ =>
       wpAny (model prog w) A (call (.builtin "list.append") [acc,x]) (fun _ s₅=>∃ m,m < n∧I m s₅) (fun _ _=>False) s₄) (fun _ _=>False) s₃
      else ∃ m,m < n∧I m s₃) (fun _ _=>False) s₂) (fun _ _=>False) s₁) (fun _ _=>False) s₁) (fun _ _=>False) s)
  (n:Nat) (h:I n s) :
  codeAny (model prog w) A (.compLoop (.ListComp elt [⟨target,iter,ifs,0⟩] scope pos) 0 it acc env) R s:=by
 refine codeAny_loop rfl I (fun n s hI=>?_) n h
 show wpAny _ A ((compTurn (.ListComp elt [⟨target,iter,ifs,0⟩] scope pos) 0 it acc env).onRaise (fun x=>do noteFrame x env;theTreesLotGoes x)) _ _ s
 refine wpAny_noted ?_
 rw [compTurn_list]
 refine wpAny_bind (wpAny_standAt (wpAny_bind (wpAny_mono (turn n s hI) (fun r s₁ h₁=>?_) fun _ _ h'=>h'.elim)))
 cases r with
 | none=>exact wpAny_pure h₁
 | some v =>
  refine wpAny_bind (wpAny_mono h₁ (fun _ s₁ h₁=>?_) fun _ _ h'=>h'.elim)
  refine wpAny_bind (wpAny_mono h₁ (fun _ s₂ h₂=>wpAny_bind (wpAny_mono h₂ (fun ok s₃ h₃=>?_) fun _ _ h'=>h'.elim)) fun _ _ h'=>h'.elim)
  cases ok with
  | false=>exact wpAny_pure ⟨rfl,h₃⟩
  | true =>
   exact wpAny_bind (wpAny_bind (wpAny_mono h₃ (fun x s₄ h₄=>wpAny_bind (wpAny_mono h₄ (fun _ s₅ h₅=>wpAny_pure (wpAny_pure ⟨rfl,h₅⟩)) fun _ _ h'=>h'.elim)) fun _ _ h'=>h'.elim))
structure Off (X:Cx) (pins:List (Addr×Obj)) (H:Hp) (C:Addr):Prop where
 free:H C=none
 loc:C≠X.env.locals
 new:X.s₀.heap.objs.size≤C
 cell:∀ x c,X.env.cells.lookup x=some c→c≠C
 pin:∀ p∈X.pn++pins,p.1≠C
theorem Off.inv {pins:List (Addr×Obj)} {σ:St} {H:Hp} {s:Shared} {C:Addr} {h':Heap} (o:Off X pins H C) (I:Inv X pins σ H s) (hs:Heap.SameBut C s.heap h'):Inv X pins σ H { s with heap:=h' } :=
 I.turned (t':=s.toks) (fun b ob hb e=>(hs.2 b hb).trans e) o.free o.loc (.inr o.new) o.cell o.pin
def Ran (X:Cx) (pins:List (Addr×Obj)) (σ:St) (H₂:Hp) (ys:List Z.D) (acc:Value) (C:Addr) (s':Shared):Prop :=
 ∃ D H' vs m,acc=.ref D∧s'.heap.Ns C m∧Inv X pins σ H' s'∧Off X pins H' C∧H₂ D=none∧Same H₂ H'∧H' D=some (.lst vs)∧Dens X.K H' ys vs
theorem comp_ran {it : Addr} {fp : List Addr} {tn : Nat → Heap → Prop} {J : It} {pins : List (Addr × Obj)} {σ : St} {ρ : Z.Env} {H₂ : Hp} {s₂ : Shared} {E : Value → Shared → Prop} {cl : List (Str × Addr)} {G : Z.GF} {t : Z.TF} {fe : Z.EF} {ds ys : List Z.D}
  (hcalm:X.calm=true) (B:Blk X.N N' n is scope X.env.scope) (I2:Inv X pins σ H₂ s₂) (T:Turn X.prog X.w X.K tg J fp it tn) (st0:tn 0 s₂.heap) (fo:∀ b∈fp,FpOk X pins H₂ b) (z:ItZ X.K J (Same H₂) ds) (re:RE X.K H₂ σ ρ)
  (hcl1:∀ x c,cl.lookup x=some c→X.env.cells.lookup x=some c) (hcl2:∀ y∈scope.names,y.2=.free→(cl.lookup y.1).isSome=true)
  (hG:∀ d ρ ρ1,G d ρ=.ok ρ1→ρ1.length=ρ.length∧∀ i,n≤i→ρ1[i]?=ρ[i]?)
  (hg:∀ C s H H0,DG (blk X N' scope cl C fp s H) H0 tg G)
  (ht:∀ (C:Addr) (s s':Shared) (H:Hp) (pins':List (Addr×Obj)) (σ':St) (H':Hp) (Q:Bool→Hp→Prop),Inv (blk X N' scope cl C fp s H) pins' σ' H' s'→tZt X.K t σ' H' Q →
   wpAny (model X.prog X.w) X.A (forIn ifs true fun c r=>if r=true then do let ok ←isTrue c (compEnvC scope cl C X.env) (eval c (compEnvC scope cl C X.env));pure (ForInStep.yield ok) else pure (ForInStep.yield r)) (TP (blk X N' scope cl C fp s H) pins' σ' Q) (fun _ _=>False) s')
  (he:∀ C s H,DE (blk X N' scope cl C fp s H) elt fe) (hlen:ds.length≤Z.line) (ego:Z.compGo G t fe (List.replicate n none++Z.capt ρ is) ds=.ok ys) :
  wpAny (model X.prog X.w) X.A (newList []) (fun acc s₃=>wpAny (model X.prog X.w) X.A (newFunctionEnv scope X.env.globals cl [] X.env.qual none .none (some X.env)) (fun cenv s₄ =>
   codeAny (model X.prog X.w) X.A (.compStart (.ListComp elt [⟨tg,iter,ifs,0⟩] scope pos) 0 (.ref it) acc { cenv with scope:=relabel scope X.env }) (fun r s'=>r=.ok .next∧Ran X pins σ H₂ ys acc cenv.locals s') s₄) E s₃) E s₂:=by
 refine wpAny_newObj_type (wpAny_newFunctionEnv B.cell (by intro y hy;simp at hy) (fun h₁ hns₁ hsb₁=>?_) B.kind)
 dsimp only at hns₁ hsb₁ ⊢
 generalize hH2:s₂.heap.push { cls:=.type "list",dict:=none,data:=.seq ([]:List Value).toArray }=HH at hns₁ hsb₁ ⊢
 have hC:HH.objs.size=s₂.heap.objs.size+1:=by rw [←hH2,Heap.size_push]
 have hDC:s₂.heap.objs.size≠HH.objs.size:=by rw [hC];exact Nat.ne_of_lt (Nat.lt_succ_self _)
 have below:∀ b,b < s₂.heap.objs.size→b≠HH.objs.size∧b≠s₂.heap.objs.size:=fun b hb=>⟨by rw [hC];exact Nat.ne_of_lt (Nat.lt_succ_of_lt hb),Nat.ne_of_lt hb⟩
 have old:∀ b o,s₂.heap.get? b=some o→h₁.get? b=some o:=fun b o e=>hsb₁.extBut b o (below b (Heap.lt_size e)).1 (Heap.get?_push_of_some _ (hH2▸Heap.get?_push_of_some _ e))
 have hacc:h₁.get? s₂.heap.objs.size=some { cls:=.type "list",data:=.seq ([]:List Value).toArray }:=hsb₁.extBut _ _ hDC (Heap.get?_push_of_some _ (hH2▸Heap.get?_push_size _ rfl))
 have fpo:∀ b∈fp,∃ o,s₂.heap.get? b=some o∧∀ v,o.data≠.cell v:=T.obj 0 _ st0
 have fplt:∀ b∈fp,b < s₂.heap.objs.size:=fun b hb=>let ⟨_,e,_⟩:=fpo b hb;Heap.lt_size e
 generalize hD:s₂.heap.objs.size=D at hDC below old hacc hC ⊢
 generalize hCC:HH.objs.size=C at hns₁ hsb₁ hDC below hC ⊢
 have hDn:H₂ D=none:=I2.hok.fresh (by rw [hD];exact Nat.le_refl _)
 have hCn:H₂ C=none:=I2.hok.fresh (by rw [hD,hC];exact Nat.le_succ _)
 -- the block's context is in order
 have ok : (blk X N' scope cl C fp s₂ H₂).Ok := by
  refine ⟨I2.ok.mod,B.kind,I2.ok.glob,I2.ok.blt,by show s₂.heap.objs.size≤C;rw [hD,hC];exact Nat.le_succ _,fun x y c e1 e2=>I2.ok.inj x y c (hcl1 x c e1) (hcl1 y c e2),fun x hx=>?_,fun x c hf=>(by cases hf),I2.ok.hd,I2.ok.frames,.inl rfl,
   fun b hb=>⟨(below b (by rw [←hD];exact fplt b hb)).1,fun x c e=>(fo b hb).2.2.2.2.1 x c (hcl1 x c e)⟩,I2.bs,Nat.le_trans I2.ok.bsz I2.sz,fun b o e hb=>?_,fun b hb z=>?_,I2.stack,I2.stkFree⟩
  ·have hx':(relabel scope X.env).names.lookup x=some .cell∨(relabel scope X.env).names.lookup x=some .free:=hx
   have e:=lookup_relabel (env:=X.env) (x:=x) scope.names
   have e':(relabel scope X.env).names.lookup x=_:=e
   rw [e'] at hx'
   cases q:scope.names.lookup x with
   | none=>rw [q] at hx';rcases hx' with h | h<;>cases h
   | some k =>
    have hm:=PySem.mem_of_lookup q
    have hk:k=.free:=by
     rw [q] at hx'
     simp only [Option.map_some] at hx'
     by_cases hc:(k==NameKind.free&&X.env.scope.kind==.function&&X.env.kindOf x==some .cell)=true
     ·rw [Bool.and_eq_true,Bool.and_eq_true] at hc
      exact beq_iff_eq.mp hc.1.1
     ·rw [if_neg hc] at hx'
      rcases hx' with h | h
      ·exact absurd (Option.some.inj h) (B.cell _ hm)
      ·exact Option.some.inj h
    subst hk
    exact Option.isSome_iff_exists.mp (hcl2 _ hm rfl)
  ·rcases (fo b hb).2.2.2.1 with q | q
   ·exact I2.ok.noex b o e q
   ·exact absurd (Nat.lt_of_lt_of_le (Heap.lt_size (I2.ok.bs b o e).1) q) (Nat.lt_irrefl _)
  ·rcases List.mem_cons.mp (I2.stkSub b z) with q | q
   ·exact (fo b hb).2.1 q
   ·exact (fo b hb).2.2.1 q
 have Hd:HOk X.prog X.w (upd H₂ D (.lst [])) h₁:=I2.hok.laid old (by rw [hD];exact Nat.le_refl _) ⟨Nat.zero_le _,[],_,.nil,hacc⟩
 have ne2:∀ b,b < s₂.heap.objs.size→b≠D:=fun b hb=>by rw [←hD];exact Nat.ne_of_lt hb
 have cellS:∀ x c,X.env.cells.lookup x=some c→c < s₂.heap.objs.size∧∀ v,s₂.heap.IsCell c v→h₁.IsCell c v:=fun x c e=>by
  obtain ⟨v,o,ho,hd⟩:=I2.cell x c e
  exact ⟨Heap.lt_size ho,fun v' ⟨o',ho',hd'⟩=>⟨o',old c o' ho',hd'⟩⟩
 have I4 : Inv (blk X N' scope cl C fp s₂ H₂) [] (sCap σ n is) (upd H₂ D (.lst [])) { s₂ with heap := h₁, toks := s₂.toks + ([] : List (Str × Value)).length } := by
  refine ⟨ok,rfl,I2.bare,Un.laid old (by rw [hD];exact Nat.le_refl _) hDn,⟨_,hns₁,fun i x v e1 e2 e3=>?_⟩,fun x c e=>?_,by show upd H₂ D (.lst []) C=none;rw [upd_ne (Ne.symm hDC)];exact hCn,fun x c e=>?_,fun p hp=>absurd (show p∈([]:List (Addr×Obj)) from hp) (by simp),Hd,by simp [sCap,B.len],I2.tab.up fun b u _ e=>by rw [upd_ne (ne_of_none e hDn)];exact e⟩
  ·unfold sCap at e2
   by_cases hi:i < n
   ·rw [List.getElem?_append_left (by simpa using hi),List.getElem?_replicate] at e2
    split at e2<;>cases e2
   ·rw [List.getElem?_append_right (by simpa using hi),List.getElem?_map] at e2
    simp only [List.length_replicate] at e2
    cases q:is[i-n]? with
    | none=>rw [q] at e2;cases e2
    | some j =>
     rw [q] at e2
     simp only [Option.map_some] at e2
     obtain ⟨x',c1,c2,c3⟩:=B.cap (i-n) j q
     have hin:n+(i-n)=i:=by lia
     rw [hin] at c1
     have e1':N'[i]?=some x:=e1
     rw [c1] at e1';cases e1'
     have hσ:σ[j]?=some (some v):=by
      cases r:σ[j]? with
      | none=>rw [r] at e2;cases e2
      | some y =>
       rw [r] at e2
       have:y=some v:=by simpa using e2
       rw [this]
     obtain ⟨m,hn,hl⟩:=I2.loc
     have hm:=PySem.mem_of_lookup c3
     have hk:=B.free _ hm rfl
     have hvis:Vis X.env.scope x:=by
      rcases hk with k | k
      ·exact .inr (.inl k)
      ·exact .inr (.inr k)
     obtain ⟨u,ru,lk⟩:=hl j x v c2 hσ hvis
     refine ⟨u,ru,?_⟩
     rcases lk with ⟨k1,_⟩ | ⟨k1,c,hc,hcell⟩
     ·have k1':X.env.scope.names.lookup x=some .local:=k1
      rcases hk with k | k
      ·rw [k] at k1';cases k1'
      ·rw [k] at k1';cases k1'
     ·obtain ⟨c',hc'⟩:=Option.isSome_iff_exists.mp (hcl2 _ hm rfl)
      have:c'=c:=by
       have:=hcl1 x c' hc'
       rw [hc] at this;exact (Option.some.inj this).symm
      subst this
      refine .inr ⟨?_,c',hc',(cellS x c' hc).2 _ hcell⟩
      show (relabel scope X.env).names.lookup x=some .cell∨(relabel scope X.env).names.lookup x=some .free
      have e:=lookup_relabel (env:=X.env) (x:=x) scope.names
      have e':(relabel scope X.env).names.lookup x=_:=e
      rw [e',c3]
      simp only [Option.map_some]
      split
      ·exact .inl rfl
      ·exact .inr rfl
  ·obtain ⟨v,hv⟩:=I2.cell x c (hcl1 x c e)
   exact ⟨v,(cellS x c (hcl1 x c e)).2 v hv⟩
  ·have hlt:=(cellS x c (hcl1 x c e)).1
   rw [upd_ne (ne2 c hlt)]
   exact I2.freeC x c (hcl1 x c e)
 have rs4:RS X.K H₂ (upd H₂ D (.lst [])) (sCap σ n is) (List.replicate n none++Z.capt ρ is):=re_cap re (upd_Same hDn)
 have st4:tn 0 h₁:=T.keep 0 _ _ st0 fun b hb o e=>old b o e
 have fr4:∀ b∈fp,(upd H₂ D (.lst [])) b=none:=fun b hb=>by rw [upd_ne (ne2 b (fplt b hb))];exact (fo b hb).1
 -- what stays true of the iterator's objects
 have stat:∀ {H':Hp},(∀ b∈fp,H' b=none)→∀ b∈fp,FpOk (blk X N' scope cl C fp s₂ H₂) [] H' b:=fun hn b hb=>by
  refine ⟨hn b hb,(below b (by rw [←hD];exact fplt b hb)).1,?_,.inl hb,fun x c e=>(fo b hb).2.2.2.2.1 x c (hcl1 x c e),fun p hp=>absurd (show p∈([]:List (Addr×Obj)) from hp) (by simp)⟩
  intro q
  rcases List.mem_cons.mp (I2.stkSub b q) with q | q
  ·exact (fo b hb).2.1 q
  ·exact (fo b hb).2.2.1 q
 have loop : codeAny (model X.prog X.w) X.A (.compLoop (.ListComp elt [⟨tg, iter, ifs, 0⟩] scope pos) 0 (.ref it) (.ref D) (compEnvC scope cl C X.env)) (fun r s' => r = .ok .next ∧ Ran X pins σ H₂ ys (.ref D) C s')
   { s₂ with heap:=h₁,toks:=s₂.toks+([]:List (Str×Value)).length }:=by
  refine codeAny_compLoop_go (fun m s'=>∃ i σ' H' vs zs,m=ds.length+1-i∧i≤ds.length∧vs.length≤i∧Inv (blk X N' scope cl C fp s₂ H₂) [] σ' H' s'∧tn i s'.heap∧(∀ b∈fp,H' b=none)∧H' D=some (.lst vs)∧Same H₂ H' ∧
   RS X.K H₂ H' σ' (List.replicate n none++Z.capt ρ is)∧(∃ rest,Z.compGo G t fe (List.replicate n none++Z.capt ρ is) (ds.drop i)=.ok rest∧zs++rest=ys)∧Dens X.K H' zs vs) ?_ (ds.length+1)
   ⟨0,sCap σ n is,_,[],[],rfl,Nat.zero_le _,Nat.le_refl _,I4,st4,fr4,upd_same,upd_Same hDn,rs4,⟨ys,by simpa using ego,rfl⟩,Dens.nil⟩
  ·rintro m s' ⟨i,σ3,H3,vs,zs,rfl,hil,hvl,I3,st3,fr3,hD3,sm3,re3,⟨rest,er,ez⟩,dz⟩
   by_cases hlt:i < ds.length
   ·obtain ⟨d,hd⟩:∃ d,ds[i]?=some d:=⟨ds[i],by simp [hlt]⟩
    have hdrop:ds.drop i=d :: ds.drop (i+1):=by
     rw [List.drop_eq_getElem_cons hlt]
     have:ds[i]=d:=by
      have:=List.getElem?_eq_getElem hlt
      rw [this] at hd;exact Option.some.inj hd
     rw [this]
    rw [hdrop] at er
    unfold Z.compGo at er
    obtain ⟨ρ1,eg,er⟩:=Z.Res.bind_ok er
    obtain ⟨c1,ec,er⟩:=Z.Res.bind_ok er
    refine thn (T.item (blk X N' scope cl C fp s₂ H₂) rfl rfl rfl hcalm i [] s' σ3 H3 (fun _ _=>False) I3 (stat fr3) st3 (z.go i d H3 sm3 hd)) fun r s4 ⟨u,hr,h4⟩=>?_
    subst hr
    refine thn h4 fun _ s5 ⟨x,H5,I5,r5,y5,st5,fr5⟩=>?_
    obtain ⟨sy,dx⟩:=z.yld i d H3 H5 x sm3 hd y5
    replace re3:=re3.up sy
    replace sm3:=sm3.trans sy
    replace hD3:=sy _ _ hD3
    replace dz:=dz.up sy
    have I5':=I5.pinned (stat fr5) (T.obj _ _ st5)
    have rs5:RS X.K H₂ H5 σ3 (List.replicate n none++Z.capt ρ is):=re3
    refine thn (hg C s₂ H₂ H₂ _ s5 σ3 H5 x u (fun σ6 H6=>Same H5 H6∧RS X.K H₂ H6 σ6 ρ1) I5' r5 ⟨_,d,ρ1,rs5,dx,eg,fun σ' H' s' r'=>⟨s',r'⟩⟩) fun _ s6 ⟨σ6,H6,I6,sm6,rs6⟩=>?_
    refine thn (ht C s₂ s6 H₂ _ σ6 H6 (fun b H7=>b=c1∧Same H6 H7) I6 ⟨ρ1,c1,rs6.re,ec,fun H7 s7=>⟨rfl,s7⟩⟩) fun ok s7 ⟨H7,I7,e7,sm7⟩=>?_
    subst e7
    have sm57:Same H5 H7:=sm6.trans sm7
    have re7:RE X.K H7 σ6 ρ1:=rs6.re.up sm7
    have re0:∀ {H9:Hp},Same H7 H9→RS X.K H₂ H9 σ6 (List.replicate n none++Z.capt ρ is):=fun {H9} s9=>by
     obtain ⟨gl,gk⟩:=hG d _ ρ1 eg
     refine ⟨(rs6.same.trans sm7).trans s9,⟨by rw [←gl];exact re7.len,fun j l e=>?_,fun j k xs ys q e1=>absurd e1 (cap_noown n is ρ j xs)⟩,fun j xs q e1=>absurd e1 (cap_noown n is ρ j xs),fun j xs e=>?_,DicOk.non (cap_nodic n is ρ)⟩
     rotate_left
     ·by_cases hj:n≤j
      ·rw [←gk j hj] at e
       exact rs6.bors j xs e
      ·rw [List.getElem?_append_left (by simp;lia),List.getElem?_replicate] at e
       split at e<;>cases e
     by_cases hj:n≤j
     ·rw [←gk j hj] at e
      exact (re7.up s9).get j l e
     ·rw [List.getElem?_append_left (by simp;lia),List.getElem?_replicate] at e
      split at e<;>cases e
    have fin:∀ {H9:Hp} {s9:Shared} (vs9:List V) (zs9:List Z.D),Inv (blk X N' scope cl C fp s₂ H₂) ([]++pinsAt fp s5.heap) σ6 H9 s9→H9 D=some (.lst vs9)→vs9.length≤i+1→Same H₂ H9→RS X.K H₂ H9 σ6 (List.replicate n none++Z.capt ρ is) →
      (∃ rest,Z.compGo G t fe (List.replicate n none++Z.capt ρ is) (ds.drop (i+1))=.ok rest∧zs9++rest=ys)→Dens X.K H9 zs9 vs9→∃ m,m < ds.length+1-i∧∃ i σ' H' vs zs,m=ds.length+1-i∧i≤ds.length∧vs.length≤i∧Inv (blk X N' scope cl C fp s₂ H₂) [] σ' H' s9∧tn i s9.heap∧(∀ b∈fp,H' b=none)∧H' D=some (.lst vs)∧Same H₂ H' ∧
       RS X.K H₂ H' σ' (List.replicate n none++Z.capt ρ is)∧(∃ rest,Z.compGo G t fe (List.replicate n none++Z.capt ρ is) (ds.drop i)=.ok rest∧zs++rest=ys)∧Dens X.K H' zs vs:=by
     intro H9 s9 vs9 zs9 I9 hD9 hv9 sm9 re9 er9 dz9
     refine ⟨ds.length+1-(i+1),by lia,i+1,σ6,H9,vs9,zs9,rfl,hlt,hv9,I9.unpinned,T.keep _ _ _ st5 fun b hb o e=>(I9.pin (b,o) (List.mem_append_right _ (List.mem_append_right _ (mem_pinsAt hb e)))).1,fun b hb=>?_,hD9,sm9,re9,er9,dz9⟩
     obtain ⟨o,e,_⟩:=T.obj _ _ st5 b hb
     exact (I9.pin (b,o) (List.mem_append_right _ (List.mem_append_right _ (mem_pinsAt hb e)))).2.1
    have hD7:H7 D=some (.lst vs):=sm57 _ _ hD3
    cases ok with
    | false =>
     simp only [Bool.false_eq_true,if_false] at er ⊢
     exact fin vs zs I7 hD7 (Nat.le_succ_of_le hvl) (sm3.trans sm57) (re0 (Same.refl _)) ⟨rest,er,ez⟩ (dz.up sm57)
    | true =>
     simp only [if_true] at er ⊢
     obtain ⟨y,ey,er⟩:=Z.Res.bind_ok er
     obtain ⟨rest2,er2,er⟩:=Z.Res.bind_ok er
     cases er
     refine thn (he C s₂ H₂ _ s7 σ6 H7 (fun v H8=>Same H7 H8∧Den X.K H8 y v) I7 ⟨ρ1,y,re7,ey,fun v H8 s8 d8=>⟨s8,d8⟩⟩) fun u8 s8 ⟨v8,H8,I8,rv8,sm8,dy⟩=>?_
     have hD8:H8 D=some (.lst vs):=sm8 _ _ hD7
     have sm28:Same H₂ H8:=(sm3.trans sm57).trans sm8
     refine thn (mt_append (X:=blk X N' scope cl C fp s₂ H₂) _ s8 σ6 H8 (.ref D) [v8] (.ref D) [u8] (fun v H9=>v=.non∧H9=upd H8 D (.lst (vs++[v8]))) I8 rfl (.cons rv8 .nil) ⟨D,vs,v8,rfl,rfl,hD8,?_,rfl,rfl⟩) fun _ s9 ⟨v9,H9,I9,_,_,e9⟩=>?_
     ·rw [sizeLine_eq]
      have:Z.line=16777216:=rfl
      lia
     subst e9
     have st8:Stb H8 (upd H8 D (.lst (vs++[v8]))):=stb_lst hD8
     have sm9:Same H₂ (upd H8 D (.lst (vs++[v8]))):=fun b o e=>by rw [upd_ne (ne_of_none e hDn)];exact sm28 b o e
     have re8:=re0 sm8
     refine fin (vs++[v8]) (zs++[y]) I9 upd_same (by simp;lia) sm9 ⟨sm9,⟨re8.re.len,fun j l e=>?_,fun j k xs ys q e1=>absurd e1 (cap_noown n is ρ j xs)⟩,fun j xs q e1=>absurd e1 (cap_noown n is ρ j xs),re8.bors,re8.dic⟩ ⟨rest2,er2,by rw [List.append_assoc];exact ez⟩ ((((dz.up sm57).up sm8).append (Dens.cons dy Dens.nil)).ups st8)
     obtain ⟨v,h1,h2⟩:=re8.re.get j l e
     refine ⟨v,h1,?_⟩
     cases l with
     | val dd=>exact Den.ups (show Den X.K H8 dd v from h2) st8
     | own xs=>exact absurd e (cap_noown n is ρ j xs)
     | bor xs =>
      obtain ⟨v',h3,h4⟩:=re8.bors j xs e
      rw [h1] at h3
      cases h3
      exact h4.up sm9
     | dc ks=>exact absurd e (cap_nodic n is ρ j ks)
     | fdc ks =>
      obtain ⟨q',o',as,rfl,hq',t'⟩:=h2
      exact ⟨q',o',as,rfl,st8.frz _ _ _ hq',t'.ups st8⟩
     | idc ps =>
      obtain ⟨q',o',rfl,hq'⟩:=h2
      exact ⟨q',o',rfl,st8.frz _ _ _ hq'⟩
     | exc c =>
      obtain ⟨q',o',u',C',rfl,hq',r1,r2,r3⟩:=h2
      exact ⟨q',o',u',C',rfl,st8.frz _ _ _ hq',r1,r2,r3.ups st8⟩
   ·have:i=ds.length:=by lia
    subst this
    rw [List.drop_length] at er
    cases er
    rw [List.append_nil] at ez
    subst ez
    refine thn (T.done (blk X N' scope cl C fp s₂ H₂) rfl rfl rfl hcalm _ [] s' σ3 H3 (fun _ _=>False) I3 (stat fr3) st3 (z.stop H3 sm3)) fun r s4 ⟨hr,J4⟩=>?_
    subst hr
    obtain ⟨m',hn',_⟩:=J4.loc
    have neC:∀ b o,s₂.heap.get? b=some o→b≠C:=fun b o e=>(below b (by rw [←hD];exact Heap.lt_size e)).1
    have I9:Inv X pins σ H3 s4:=I2.call' (s':=s4) J4.os J4.base J4.hok J4.bare fun b hb=>⟨(fo b hb).2.2.2.1,(fo b hb).2.1,(fo b hb).2.2.2.2.1,(fo b hb).2.2.2.2.2⟩
    have szC:s₂.heap.objs.size≤C:=by rw [hD,hC];exact Nat.le_succ _
    refine ⟨rfl,D,H3,vs,m',rfl,hn',I9,⟨J4.free,?_,Nat.le_trans I2.sz szC,fun x c e=>?_,fun p hp=>?_⟩,hDn,sm3,hD3,dz⟩
    ·exact Nat.ne_of_gt (Nat.lt_of_lt_of_le I2.lt szC)
    ·exact Nat.ne_of_lt (Nat.lt_of_lt_of_le (cellS x c e).1 szC)
    ·exact neC p.1 p.2 (I2.pin p hp).1
 have hst:codeAny (model X.prog X.w) X.A (.compStart (.ListComp elt [⟨tg,iter,ifs,0⟩] scope pos) 0 (.ref it) (.ref D) (compEnvC scope cl C X.env)) (fun r s'=>r=.ok .next∧Ran X pins σ H₂ ys (.ref D) C s')
   { s₂ with heap:=h₁,toks:=s₂.toks+([]:List (Str×Value)).length }:=codeAny_compStart_list loop (T.self _ 0 _ _ _ st4 loop)
 exact hst
theorem gName_keep {k:Nat} (h:k < n) (d:Z.D) (ρ ρ1:Z.Env) (e:Z.gName k d ρ=.ok ρ1):ρ1.length=ρ.length∧∀ i,n≤i→ρ1[i]?=ρ[i]?:=by
 cases e
 exact ⟨by simp,fun i hi=>List.getElem?_set_ne (by lia)⟩
def Tst (X:Cx) (ifs:List Expr) (t:Z.TF):Prop:=∀ (pins:List (Addr×Obj)) (s:Shared) (σ:St) (H:Hp) (Q:Bool→Hp→Prop),Inv X pins σ H s→tZt X.K t σ H Q →
 wpAny (model X.prog X.w) X.A (forIn ifs true fun c r=>if r=true then do let ok ←isTrue c X.env (eval c X.env);pure (ForInStep.yield ok) else pure (ForInStep.yield r)) (TP X pins σ Q) X.xe s
theorem tst_no:Tst X [] Z.tTrue:=fun pins s σ H Q I ⟨ρ,b,r,e,k⟩=>by
 cases e
 exact wpAny_tests_nil ⟨H,I,k H (Same.refl H)⟩
theorem tst_one {c:Expr} {t:Z.TF} (h:DT X c t):Tst X [c] t:=fun pins s σ H Q I w=>wpAny_tests_one (h pins s σ H Q I w)
theorem comp_all {it:Z.LF} {G:Z.GF} {t:Z.TF} {fe:Z.EF} {pins:List (Addr×Obj)} {σ:St} {H:Hp} {s:Shared} {ρ:Z.Env} {ys:List Z.D} {use:Option (Value→Sem Unit)} {Q:Value→Shared→Prop} {ps:Pos} (hcalm:X.calm=true) (hi:DI X tg iter it) (B:Blk X.N N' n is scope X.env.scope)
  (hG:∀ d ρ ρ1,G d ρ=.ok ρ1→ρ1.length=ρ.length∧∀ i,n≤i→ρ1[i]?=ρ[i]?)
  (hg:∀ cl C fp s H H0,DG (blk X N' scope cl C fp s H) H0 tg G) (ht:∀ cl C fp s H,Tst (blk X N' scope cl C fp s H) ifs t) (he:∀ cl C fp s H,DE (blk X N' scope cl C fp s H) elt fe)
  (hs:∀ x,foldedSetIterable iter X.env x=pure x)
  (I:Inv X pins σ H s) (re:RE X.K H σ ρ) (ec:Z.lComp it n is G t fe ρ=.ok ys)
  (fin:∀ acc C s' H₂,Same H H₂→Ran X pins σ H₂ ys acc C s'→compPost (model X.prog X.w) X.A X.xe use Q acc C (.ok .next) s') :
  wpAny (model X.prog X.w) X.A (comprehension (.ListComp elt [⟨tg,iter,ifs,0⟩] scope pos) scope X.env ps (newList []) false (eval iter X.env) use) Q X.xe s:=by
 obtain ⟨ds,ei,ec⟩:=Z.Res.bind_ok ec
 unfold Z.guard at ec
 split at ec
 ·rename_i hlen
  have hfree:∀ y∈scope.names,y.2=.free→∃ c,X.env.cells.lookup y.1=some c:=fun y hy hf=>I.ok.has y.1 (B.free y hy hf)
  obtain ⟨cl,hcl,hcl1,hcl2⟩:=closureFor_of hfree
  refine wpAny_comprehension_free (use:=use) rfl hs hcl B.kind B.loc ?_
  refine thn (hi pins s σ H (fun J H₂=>Same H H₂∧ItZ X.K J (Same H₂) ds) I ⟨ρ,ds,re,ei,fun J H' s' z=>⟨s',z⟩⟩) fun x s₁ h₁=>?_
  refine thn h₁ fun itv s₂ ⟨it',fp,tn,J,H₂,e2,I2,T,st0,fo,sm,z⟩=>?_
  subst e2
  refine thn (comp_ran (iter:=iter) (pos:=pos) (cl:=cl) hcalm B I2 T st0 fo z (re.up sm) hcl1 hcl2 hG (fun C s H H0=>hg cl C fp s H H0) (fun C s s' H' pins' σ' H'' Q' I' w=>ht cl C fp s H' pins' s' σ' H'' Q' I' w) (fun C s H=>he cl C fp s H) hlen ec) fun acc s₃ h₃=>?_
  refine thn h₃ fun cenv s₄ h₄=>codeAny_mono h₄ fun r s' ⟨er,ran⟩=>?_
  subst er
  exact fin acc cenv.locals s' H₂ sm ran
 ·cases ec
theorem dl_comp {it:Z.LF} {G:Z.GF} {t:Z.TF} {fe:Z.EF} (hcalm:X.calm=true) (hi:DI X tg iter it) (B:Blk X.N N' n is scope X.env.scope) (hG:∀ d ρ ρ1,G d ρ=.ok ρ1→ρ1.length=ρ.length∧∀ i,n≤i→ρ1[i]?=ρ[i]?)
  (hg:∀ cl C fp s H H0,DG (blk X N' scope cl C fp s H) H0 tg G) (ht:∀ cl C fp s H,Tst (blk X N' scope cl C fp s H) ifs t) (he:∀ cl C fp s H,DE (blk X N' scope cl C fp s H) elt fe)
  (hs:∀ x,foldedSetIterable iter X.env x=pure x:=by intro _;rfl):DL X (.ListComp elt [⟨tg,iter,ifs,0⟩] scope pos) (Z.lComp it n is G t fe):=by
 intro pins s σ H Q I w
 obtain ⟨ρ,ys,re,e,k⟩:=w
 rw [eval_ListComp]
 refine comp_all (use:=none) hcalm hi B hG hg ht he hs I re e fun acc C s' H₂ sm ran=>?_
 obtain ⟨D,H',vs,m,rfl,hns,I',off,hDn,sm',hD,dz⟩:=ran
 exact ⟨m,hns,fun h' hs'=>⟨.ref D,H',off.inv I' hs',rfl,k D vs H' (sm.trans sm') (sm.free hDn) hD dz⟩⟩
theorem comp_set {it:Z.LF} {G:Z.GF} {t:Z.TF} {fe:Z.EF} {i:Nat} {x:Str} {px spos:Pos} {D:Ends} {pins:List (Addr×Obj)} {σ:St} {H:Hp} {s:Shared} {ρ:Z.Env} {ys:List Z.D} (hcalm:X.calm=true) (hN:X.N.Nodup) (hix:X.N[i]?=some x) (hx:Loc X.env.scope x)
  (hsw:swapsWith (.ListComp elt [⟨tg,iter,ifs,0⟩] scope pos) (some (.Name x px)) spos.line X.env=pure true) (hi:DI X tg iter it) (B:Blk X.N N' n is scope X.env.scope) (hG:∀ d ρ ρ1,G d ρ=.ok ρ1→ρ1.length=ρ.length∧∀ i,n≤i→ρ1[i]?=ρ[i]?)
  (hg:∀ cl C fp s H H0,DG (blk X N' scope cl C fp s H) H0 tg G) (ht:∀ cl C fp s H,Tst (blk X N' scope cl C fp s H) ifs t) (he:∀ cl C fp s H,DE (blk X N' scope cl C fp s H) elt fe)
  (hs:∀ x,foldedSetIterable iter X.env x=pure x) (hf:X.fn x=true∨X.env.scope.names.lookup x=some .local) (I:Inv X pins σ H s) (re:RE X.K H σ ρ) (e:Z.lComp it n is G t fe ρ=.ok ys)
  (k:∀ q vs H',Same H H'→H q=none→H' q=some (.lst vs)→Dens X.K H' ys vs→∃ H'',(∀ s',Inv X pins (σ.set i (some (.ref q))) H' s'→Inv X pins (σ.set i (some (.ref q))) H'' s')∧D.nx (σ.set i (some (.ref q))) H'') :
  wpAny (model X.prog X.w) X.A (exec (.Assign [.Name x px] (.ListComp elt [⟨tg,iter,ifs,0⟩] scope pos) spos) X.env) (SP X pins D) X.xe s:=by
 rw [exec_Assign_Name_used _ _ _ _ hsw]
 refine wpAny_bind (wpAny_standAt (wpAny_bind ?_))
 show wpAny _ X.A (do let _ ←comprehension (.ListComp elt [⟨tg,iter,ifs,0⟩] scope pos) scope X.env _ (newList []) false (eval iter X.env) (some (assign (.Name x px) X.env))) _ _ s
 refine wpAny_bind (wpAny_mono (comp_all (use:=some (assign (.Name x px) X.env)) (Q:=fun _ s'=>SP X pins D .next s') hcalm hi B hG hg ht he hs I re e fun acc C s' H₂ sm ran=>?_) (fun _ s' hq=>wpAny_pure (wpAny_pure hq)) fun _ _ e=>e)
 obtain ⟨q,H',vs,m,rfl,hns,I',off,hDn,sm',hD,dz⟩:=ran
 obtain ⟨H'',hI,hnx⟩:=k q vs H' (sm.trans sm') (sm.free hDn) hD dz
 refine wpAny_assign_Name (store_ok2 I' hN hix hx (v:=.ref q) rfl (fun s'' I'' ⟨a,sb,ha⟩=>?_) hf)
 have hCa:C≠a:=by
  rcases ha with rfl | ha
  ·exact off.loc
  ·exact fun z=>off.cell x a ha z.symm
 refine ⟨m,hns.sameBut sb hCa,fun h' hs'=>⟨_,H'',?_,hnx⟩⟩
 exact hI _ (off.inv I'' hs')
theorem ds_ownC {H0:Hp} {it:Z.LF} {G:Z.GF} {t:Z.TF} {fe:Z.EF} {i:Nat} {x:Str} {px spos:Pos} (hcalm:X.calm=true) (hN:X.N.Nodup) (hix:X.N[i]?=some x) (hx:Loc X.env.scope x)
  (hi:DI X tg iter it) (B:Blk X.N N' n is scope X.env.scope) (hG:∀ d ρ ρ1,G d ρ=.ok ρ1→ρ1.length=ρ.length∧∀ i,n≤i→ρ1[i]?=ρ[i]?)
  (hg:∀ cl C fp s H H0,DG (blk X N' scope cl C fp s H) H0 tg G) (ht:∀ cl C fp s H,Tst (blk X N' scope cl C fp s H) ifs t) (he:∀ cl C fp s H,DE (blk X N' scope cl C fp s H) elt fe)
  (hsw:swapsWith (.ListComp elt [⟨tg,iter,ifs,0⟩] scope pos) (some (.Name x px)) spos.line X.env=pure true:=by rfl)
  (hs:∀ x,foldedSetIterable iter X.env x=pure x:=by intro _;rfl) (hf:X.fn x=true∨X.env.scope.names.lookup x=some .local:=by first | exact .inl rfl | exact .inr rfl | assumption) :
  DS X H0 (.Assign [.Name x px] (.ListComp elt [⟨tg,iter,ifs,0⟩] scope pos) spos) (Z.sOwn i (Z.lComp it n is G t fe)):=by
 intro pins s σ H D I w
 obtain ⟨ρ,fl,rs,e,k⟩:=w
 obtain ⟨ys,ey,e⟩:=Z.Res.bind_ok e
 cases e
 refine comp_set hcalm hN hix hx hsw hi B hG hg ht he hs hf I rs.re ey fun q vs H' s' hn h1 t'=>⟨H',fun _ j=>j,?_⟩
 exact k _ H' (stb s') ((rs.up s').setO h1 t' (rs.same.free hn) fun j xs _ e=>rs.noq hn j xs e)
theorem ds_setC {H0 : Hp} {it : Z.LF} {G : Z.GF} {t : Z.TF} {fe : Z.EF} {i : Nat} {x : Str} {px spos : Pos} (hcalm : X.calm = true) (hN : X.N.Nodup) (hix : X.N[i]? = some x) (hx : Loc X.env.scope x)
  (hi:DI X tg iter it) (B:Blk X.N N' n is scope X.env.scope) (hG:∀ d ρ ρ1,G d ρ=.ok ρ1→ρ1.length=ρ.length∧∀ i,n≤i→ρ1[i]?=ρ[i]?)
  (hg:∀ cl C fp s H H0,DG (blk X N' scope cl C fp s H) H0 tg G) (ht:∀ cl C fp s H,Tst (blk X N' scope cl C fp s H) ifs t) (he:∀ cl C fp s H,DE (blk X N' scope cl C fp s H) elt fe)
  (hsw:swapsWith (.ListComp elt [⟨tg,iter,ifs,0⟩] scope pos) (some (.Name x px)) spos.line X.env=pure true:=by rfl)
  (hs:∀ x,foldedSetIterable iter X.env x=pure x:=by intro _;rfl) (hf:X.fn x=true∨X.env.scope.names.lookup x=some .local:=by first | exact .inl rfl | exact .inr rfl | assumption) :
  DS X H0 (.Assign [.Name x px] (.ListComp elt [⟨tg,iter,ifs,0⟩] scope pos) spos) (Z.sSet i (Z.eL (Z.lComp it n is G t fe))):=by
 have h1:DS X H0 (.Assign [.Name x px] (.ListComp elt [⟨tg,iter,ifs,0⟩] scope pos) spos) (Z.sOwn i (Z.lComp it n is G t fe)):=ds_ownC hcalm hN hix hx hi B hG hg ht he hsw hs hf
 intro pins s σ H D I w
 obtain ⟨ρ,fl,rs,e,k⟩:=w
 obtain ⟨d,ed,e⟩:=Z.Res.bind_ok e
 cases e
 unfold Z.eL at ed
 cases ey:Z.lComp it n is G t fe ρ with
 | bad=>rw [ey] at ed;cases ed
 | ok ys =>
  rw [ey] at ed
  cases ed
  refine thn (h1 pins s σ H { D with nx:=fun σ' H'=>Stb H H'∧RS X.K H0 H' σ' (ρ.set i (some (.own ys))) } I ⟨ρ,.nx (ρ.set i (some (.own ys))),rs,by show (Z.lComp it n is G t fe ρ).bind _=_;rw [ey];rfl,fun σ' H' s' r'=>⟨s',r'⟩⟩) fun fl' s' h=>?_
  cases fl' with
  | next =>
   obtain ⟨σ',H',I',st',rs'⟩:=h
   by_cases hl:i < ρ.length
   ·have ei:(ρ.set i (some (Z.L.own ys)))[i]?=some (some (.own ys)):=List.getElem?_set_self hl
    obtain ⟨v,si,q,us,rfl,hq,t'⟩:=rs'.re.get i _ ei
    obtain ⟨o,I2⟩:=inv_freeze I' hq
    have r2:=rs'.frz (o:=o) ei si hq t'
    rw [List.set_set] at r2
    exact ⟨σ',_,I2,k σ' _ (st'.trans (stb_lst hq)) r2⟩
   ·have e0:ρ.set i (some (Z.L.own ys))=ρ:=List.set_eq_of_length_le (by lia)
    have e1:ρ.set i (some (Z.L.val (.lst ys)))=ρ:=List.set_eq_of_length_le (by lia)
    rw [e0] at rs'
    have k':=k
    rw [e1] at k'
    exact ⟨σ',H',I',k' σ' H' st' rs'⟩
  | brk=>exact h
  | cont=>exact h
  | ret u=>exact h
end
section
variable {P:Program} {w:World} {K:PySem.W.Frag} {mg:Str→Option Value} {base:Heap}
theorem start_get {N:List Str} {vs:List V} {ds:List Z.D} {H:Hp} (t:Dens K H ds vs) (hl:vs.length≤N.length):RS K H H (L2.start N vs) (Z.start N.length ds):=by
 have noown:∀ (i:Nat) (xs:List Z.D),(Z.start N.length ds)[i]?≠some (some (.own xs)):=by
  intro i xs e
  unfold Z.start at e
  by_cases hi:i < ds.length
  ·rw [List.getElem?_append_left (by simpa using hi),List.getElem?_map] at e
   cases q:ds[i]? with
   | none=>rw [q] at e;cases e
   | some d=>rw [q] at e;cases e
  ·rw [List.getElem?_append_right (by simpa using hi),List.getElem?_replicate] at e
   split at e<;>cases e
 have nobor:∀ (i:Nat) (xs:List Z.D),(Z.start N.length ds)[i]?≠some (some (.bor xs)):=by
  intro i xs e
  unfold Z.start at e
  by_cases hi:i < ds.length
  ·rw [List.getElem?_append_left (by simpa using hi),List.getElem?_map] at e
   cases q:ds[i]? with
   | none=>rw [q] at e;cases e
   | some d=>rw [q] at e;cases e
  ·rw [List.getElem?_append_right (by simpa using hi),List.getElem?_replicate] at e
   split at e<;>cases e
 have nodic:∀ (i:Nat) (ks:Z.DK),(Z.start N.length ds)[i]?≠some (some (.dc ks)):=by
  intro i ks e
  unfold Z.start at e
  by_cases hi:i < ds.length
  ·rw [List.getElem?_append_left (by simpa using hi),List.getElem?_map] at e
   cases q:ds[i]? with
   | none=>rw [q] at e;cases e
   | some d=>rw [q] at e;cases e
  ·rw [List.getElem?_append_right (by simpa using hi),List.getElem?_replicate] at e
   split at e<;>cases e
 have hlen:=t.length
 refine ⟨Same.refl H,⟨?_,fun i l e=>?_,fun i j xs ys q e1=>absurd e1 (noown i xs)⟩,fun i xs q e1=>absurd e1 (noown i xs),fun i xs e1=>absurd e1 (nobor i xs),DicOk.non nodic⟩
 ·unfold Z.start L2.start
  simp
  lia
 ·unfold Z.start at e
  by_cases hi:i < ds.length
  ·rw [List.getElem?_append_left (by simpa using hi),List.getElem?_map] at e
   cases q:ds[i]? with
   | none=>rw [q] at e;cases e
   | some d =>
    rw [q] at e
    cases e
    obtain ⟨v,h1,h2⟩:=t.get q
    refine ⟨v,?_,h2⟩
    unfold L2.start
    rw [List.getElem?_append_left (by simp;lia),List.getElem?_map,h1]
    rfl
  ·rw [List.getElem?_append_right (by simpa using hi),List.getElem?_replicate] at e
   split at e<;>cases e
theorem fnZ {x qual:Str} {st:Stmt} {f:Addr} {fd:FuncData} {N ps:List Str} {k:Nat} {b:Z.SF} (F:Fun K x qual st f fd) (S:FnScope N ps (defScope st))
  (hb:∀ (cdv:Value) (A:Around) (outer:List Env) (s:Shared) (H:Hp) (E:XK),Room k (A.deeper (envOfC qual (defScope st) s.heap.objs.size f cdv)) →
   DSs (cxOf CX0 P w K mg base N qual (defScope st) f cdv A outer s H E).nox H (defBody st) b):FnOk P w K mg base CX0 (k+1) f fd ps (spZ K (Z.fn ps.length N.length b)):=by
 have hlen:∀ (vs:List V) (H:Hp) (Q:VK) (E:XK),spZ K (Z.fn ps.length N.length b) vs H Q E→vs.length=ps.length:=fun vs H Q E ⟨ds,d,t,e,_⟩=>by
  unfold Z.fn at e
  split at e
  ·rename_i h;rw [t.length];exact h
  ·cases e
 refine F.ok S hlen (fun cdv A outer s H vs Q E hr h=>⟨_,hb cdv A outer s H E hr,?_⟩)
 have hl:=hlen vs H Q E h
 obtain ⟨ds,d,t,e,k⟩:=h
 have hpl:ps.length≤N.length:=by have:=congrArg List.length S.pre;rw [List.length_take] at this;lia
 have rs:RS K H H (L2.start N vs) (Z.start N.length ds):=start_get t (by lia)
 unfold Z.fn at e
 split at e
 ·cases eb:b (Z.start N.length ds) with
  | bad=>rw [eb] at e;cases e
  | ok fl =>
   rw [eb] at e
   refine ⟨_,fl,rs,eb,?_⟩
   cases fl with
   | rt d'=>cases e;exact fun v H' s' dv=>k v H' s' dv
   | nx ρ'=>cases e;exact fun σ' H' _ rs'=>k .non H' rs'.same den_non
   | bk ρ'=>cases e
   | ct ρ'=>cases e
 ·cases e
end
end ZS
namespace ZS
open PySem PySem.Spec PyProof.Rows L2
def blkOk (N N':List Str) (n:Nat) (is:List Nat) (sc osc:Scope):Bool :=
 (sc.kind==.function)&&sc.names.all (fun y=>y.2 != .cell)&&sc.names.all (fun y=>y.2 != .local || sc.names.lookup y.1==some .local) &&
 sc.names.all (fun y=>y.2 != .free || osc.names.lookup y.1==some .cell || osc.names.lookup y.1==some .free)&&(N'.length==n+is.length) &&
 (List.range is.length).all (fun j=>match is[j]?,N'[n+j]? with
  | some i,some x=>N[i]?==some x&&sc.names.lookup x==some .free
  | _,_=>false) &&
 (List.range n).all (fun j=>match N'[j]? with
  | some x=>sc.names.lookup x==some .local
  | none=>false)
theorem Blk.of {N N':List Str} {n:Nat} {is:List Nat} {sc osc:Scope} (h:blkOk N N' n is sc osc=true):Blk N N' n is sc osc:=by
 unfold blkOk at h
 simp only [Bool.and_eq_true,List.all_eq_true,beq_iff_eq,Bool.or_eq_true,bne_iff_ne,ne_eq,List.mem_range] at h
 obtain ⟨⟨⟨⟨⟨⟨h1,h2⟩,h3⟩,h4⟩,h5⟩,h6⟩,h7⟩:=h
 refine ⟨h1,h2,fun y hy e=>?_,fun y hy e=>?_,h5,fun j i e=>?_,fun j hj=>?_⟩
 ·rcases h3 y hy with q | q
  ·exact absurd e q
  ·exact q
 ·rcases h4 y hy with (q | q) | q
  ·exact absurd e q
  ·exact .inl q
  ·exact .inr q
 ·have hj:j < is.length:=(List.getElem?_eq_some_iff.mp e).1
  have q:=h6 j hj
  rw [e] at q
  cases r:N'[n+j]? with
  | none=>rw [r] at q;cases q
  | some x =>
   rw [r] at q
   simp only [Bool.and_eq_true,beq_iff_eq] at q
   exact ⟨x,rfl,q.1,q.2⟩
 ·have q:=h7 j hj
  cases r:N'[j]? with
  | none=>rw [r] at q;cases q
  | some x =>
   rw [r] at q
   exact ⟨x,rfl,beq_iff_eq.mp q⟩
structure Def (K:PySem.W.Frag) (mg:Str→Option Value) (x:Str) (st:Stmt) (ps:List Str):Prop where
 ex:∃ f fd,Fun K x x st f fd∧mg x=some (.ref f)∧Binds K fd ps []
structure Cal (P:Program) (w:World) (K:PySem.W.Frag) (mg:Str→Option Value) (base:Heap) (x:Str) (k:Nat) (ps:List Str) (m:List Z.D→Z.Res Z.D):Prop where
 ex:∃ g fd,FnOk P w K mg base CX0 k g fd ps (spZ K m)∧mg x=some (.ref g)∧PySem.W.keepIn K (.ref g)=true∧Binds K fd ps []
theorem Cal.mk' {P:Program} {w:World} {K:PySem.W.Frag} {mg:Str→Option Value} {base:Heap} {x:Str} {k:Nat} {st:Stmt} {N ps:List Str} {b:Z.SF} (d:Def K mg x st ps) (S:FnScope N ps (defScope st))
  (hb:∀ (f:Addr) (cdv:Value) (A:Around) (outer:List Env) (s:Shared) (H:Hp) (E:XK),Room k (A.deeper (envOfC x (defScope st) s.heap.objs.size f cdv)) →
   DSs (cxOf CX0 P w K mg base N x (defScope st) f cdv A outer s H E).nox H (defBody st) b):Cal P w K mg base x (k+1) ps (Z.fn ps.length N.length b):=by
 obtain ⟨f,fd,F,hm,hb'⟩:=d.ex
 exact ⟨f,fd,fnZ F S (hb f),hm,F.kp,hb'⟩
section
variable {X:Cx} {e:Expr} {es:List Expr} {pos:Pos}
theorem de_callC {k:Nat} {ps:List Str} {x:Str} {m:List Z.D→Z.Res Z.D} {ar:Z.AF} {p1:Pos} (C:Cal X.prog X.w X.K X.mg X.base x k ps m) (hr:Room k X.A) (hg:Gl X x)
  (ha:DA X (e :: es) ar) (hdb:(x==("__debug__" : Str))=false:=by decide +kernel) (he:starEach (e :: es) X.env=(false,eval e X.env) :: starEach es X.env:=by rfl) (hpl:(backTo pos (starEach es X.env)).any (·.1)=false:=by rfl) :
  DE X (.Call (.Name x p1) (e :: es) [] pos) (Z.eCall m ar) :=
 let ⟨_,_,F,hm,hk,hb⟩:=C.ex;de_call F hr hg hm hk hb ha hdb he hpl
end
theorem de_globI {X:Cx} {pos:Pos} {x:Str} {i:Int} {t:Tok} (hg:Gl X x) (hm:X.mg x=some (.int i t)) (hb:(x==("__debug__" : Str))=false:=by decide +kernel):DE X (.Name x pos) (Z.eC (.int i)) :=
 de_glob (v:=.int i) hg hm ⟨t,rfl⟩ (fun _=>den_int) hb
theorem script_den {K:PySem.W.Frag} {H:Hp} {a:Addr} {ns:List Int} (hO:Only H) (h:SqL K H a (ns.map V.int)):Den K H (.lst (ns.map Z.D.int)) (.ref a):=by
 refine den_lst ?_ (Dens.zints ns)
 rcases h with (h | ⟨o,h⟩) | h
 ·rcases hO a with z | ⟨o,xs,z⟩ | ⟨q,z⟩
  ·rw [h] at z;cases z
  ·rw [h] at z;cases z
  ·rw [h] at z;cases z
 ·exact .inl ⟨o,h⟩
 ·exact .inr h
theorem law_sp {K:PySem.W.Frag} {H:Hp} {a:Addr} {ns:List Int} {m:List Z.D→Z.Res Z.D} (hO:Only H) (h:SqL K H a (ns.map V.int)) (e:m [.lst (ns.map .int)]=.ok (.bl true)):spZ K m [.ref a] H (fun v _=>v=.bl true) fun _ _ _=>False :=
 ⟨_,_,Dens.cons (script_den hO h) Dens.nil,e,fun v H' _ d=>by simpa only [Den] using d⟩
end ZS
namespace ZS
open PySem PySem.Spec PyProof.Rows L2
section
variable {X:Cx} {e a b:Expr} {pos:Pos} {f fa fb:Z.EF}
theorem str_beqZ (x y:List Nat):((⟨x.toArray⟩:Str)==(⟨y.toArray⟩:Str))=(x==y):=by
 rw [Bool.eq_iff_iff,beq_iff_eq,beq_iff_eq]
 constructor
 ·intro h;injection h with h;simpa using h
 ·rintro rfl;rfl
theorem rcS {A:Around} {s:Shared} {K:PySem.W.Frag} {H:Hp} {d1 d2:Z.D} {v1 v2:V} {u1 u2:Value} {k:Bool} (h:Z.eqS d1 d2=some k) (h1:DenW K H d1 v1) (h2:DenW K H d2 v2) (r1:RelV v1 u1) (r2:RelV v2 u2):SeqAt.RcAt A s u1 u2 k∧SeqAt.EqAt A s u1 u2 k∧SeqAt.RcNeAt A s u1 u2 (!k):=by
 unfold Z.eqS at h
 split at h
 ·cases h;rw [h1.non] at r1;rw [h2.non] at r2;cases r1;cases r2;exact ⟨SeqAt.RcAt.none_none,SeqAt.EqAt.same _,SeqAt.RcNeAt.none_none⟩
 ·cases h;rw [h1.bl] at r1;rw [h2.bl] at r2;cases r1;cases r2;exact ⟨SeqAt.RcAt.bool_bool _ _,SeqAt.EqAt.bool_bool _ _,SeqAt.RcNeAt.bool_bool _ _⟩
 ·cases h;rw [h1.bl] at r1;rw [h2.int] at r2;cases r1;obtain ⟨t,rfl⟩:=r2;exact ⟨SeqAt.RcAt.bool_int _ _ _,SeqAt.EqAt.bool_int _ _ _,SeqAt.RcNeAt.bool_int _ _ _⟩
 ·cases h;rw [h1.int] at r1;rw [h2.bl] at r2;cases r2;obtain ⟨t,rfl⟩:=r1;exact ⟨SeqAt.RcAt.int_bool _ _ _,SeqAt.EqAt.int_bool _ _ _,SeqAt.RcNeAt.int_bool _ _ _⟩
 ·cases h;rw [h1.int] at r1;rw [h2.int] at r2;obtain ⟨t,rfl⟩:=r1;obtain ⟨t',rfl⟩:=r2;exact ⟨SeqAt.RcAt.int_int _ _ _ _,SeqAt.EqAt.int_int _ _ _ _,SeqAt.RcNeAt.int_int _ _ _ _⟩
 ·cases h;rw [h1.str] at r1;rw [h2.str] at r2;obtain ⟨t,rfl⟩:=r1;obtain ⟨t',rfl⟩:=r2;rw [←str_beqZ];exact ⟨SeqAt.RcAt.str_str _ _ _ _,SeqAt.EqAt.str_str _ _ _ _,SeqAt.RcNeAt.str_str _ _ _ _⟩
 ·cases h;rw [h1.non] at r1;rw [h2.bl] at r2;cases r1;cases r2;exact ⟨SeqAt.RcAt.none_bool _,SeqAt.EqAt.none_bool _,SeqAt.RcNeAt.none_bool _⟩
 ·cases h;rw [h1.non] at r1;rw [h2.int] at r2;cases r1;obtain ⟨t,rfl⟩:=r2;exact ⟨SeqAt.RcAt.none_int _ _,SeqAt.EqAt.none_int _ _,SeqAt.RcNeAt.none_int _ _⟩
 ·cases h;rw [h1.non] at r1;rw [h2.str] at r2;cases r1;obtain ⟨t,rfl⟩:=r2;exact ⟨SeqAt.RcAt.none_str _ _,SeqAt.EqAt.none_str _ _,SeqAt.RcNeAt.none_str _ _⟩
 ·cases h;rw [h1.bl] at r1;rw [h2.non] at r2;cases r1;cases r2;exact ⟨SeqAt.RcAt.bool_none _,SeqAt.EqAt.bool_none _,SeqAt.RcNeAt.bool_none _⟩
 ·cases h;rw [h1.bl] at r1;rw [h2.str] at r2;cases r1;obtain ⟨t,rfl⟩:=r2;exact ⟨SeqAt.RcAt.bool_str _ _ _,SeqAt.EqAt.bool_str _ _ _,SeqAt.RcNeAt.bool_str _ _ _⟩
 ·cases h;rw [h1.int] at r1;rw [h2.non] at r2;cases r2;obtain ⟨t,rfl⟩:=r1;exact ⟨SeqAt.RcAt.int_none _ _,SeqAt.EqAt.int_none _ _,SeqAt.RcNeAt.int_none _ _⟩
 ·cases h;rw [h1.int] at r1;rw [h2.str] at r2;obtain ⟨t,rfl⟩:=r1;obtain ⟨t',rfl⟩:=r2;exact ⟨SeqAt.RcAt.int_str _ _ _ _,SeqAt.EqAt.int_str _ _ _ _,SeqAt.RcNeAt.int_str _ _ _ _⟩
 ·cases h;rw [h1.str] at r1;rw [h2.non] at r2;cases r2;obtain ⟨t,rfl⟩:=r1;exact ⟨SeqAt.RcAt.str_none _ _,SeqAt.EqAt.str_none _ _,SeqAt.RcNeAt.str_none _ _⟩
 ·cases h;rw [h1.str] at r1;rw [h2.bl] at r2;cases r2;obtain ⟨t,rfl⟩:=r1;exact ⟨SeqAt.RcAt.str_bool _ _ _,SeqAt.EqAt.str_bool _ _ _,SeqAt.RcNeAt.str_bool _ _ _⟩
 ·cases h;rw [h1.str] at r1;rw [h2.int] at r2;obtain ⟨t,rfl⟩:=r1;obtain ⟨t',rfl⟩:=r2;exact ⟨SeqAt.RcAt.str_int _ _ _ _,SeqAt.EqAt.str_int _ _ _ _,SeqAt.RcNeAt.str_int _ _ _ _⟩
 ·cases h
def eAt (g:Z.D→Z.D→Option Bool) (as bs:List Z.D) (j:Nat):Bool:=match as[j]?,bs[j]? with
 | some x,some y=>(g x y).getD false
 | _,_=>true
theorem allEq_at {g : Z.D → Z.D → Option Bool} : ∀ {as bs : List Z.D} {k : Bool}, Z.allEq g as bs = some k → k = ((List.range (min as.length bs.length)).all (eAt g as bs) && as.length == bs.length) ∧ ∀ (j : Nat) x y, as[j]? = some x → bs[j]? = some y → g x y = some (eAt g as bs j)
 | [],[],k,h=>by cases h;exact ⟨rfl,fun j x y e=>by simp at e⟩
 | [],_ :: _,k,h=>by cases h;exact ⟨by simp,fun j x y e=>by simp at e⟩
 | _ :: _,[],k,h=>by cases h;exact ⟨by simp,fun j x y _ e=>by simp at e⟩
 | a :: as,b :: bs,k,h=>by
  unfold Z.allEq at h
  split at h
  ·rename_i p q e1 e2
   cases h
   obtain ⟨h1,h2⟩:=allEq_at e2
   refine ⟨?_,fun j x y ex ey=>?_⟩
   ·have:min (a :: as).length (b :: bs).length=min as.length bs.length+1:=by simp only [List.length_cons];lia
    rw [this,List.range_succ_eq_map,List.all_cons,List.all_map,h1]
    have e0:eAt g (a :: as) (b :: bs) 0=p:=by simp [eAt,e1]
    have es:(eAt g (a :: as) (b :: bs)∘Nat.succ)=eAt g as bs:=by
     funext j;simp [eAt]
    have el:((a :: as).length==(b :: bs).length)=(as.length==bs.length):=by
     rw [Bool.eq_iff_iff];simp
    rw [e0,es,el,Bool.and_assoc]
   ·cases j with
    | zero=>simp at ex ey;subst ex ey;simp [eAt,e1]
    | succ j =>
     have:=h2 j x y (by simpa using ex) (by simpa using ey)
     simpa [eAt] using this
  ·cases h
theorem items_at {pins:List (Addr×Obj)} {σ:St} {H:Hp} {s:Shared} (I:Inv X pins σ H s) (n:Nat) {A:Around} (hu:A.units+n < cLine)
  (ih:∀ {A:Around} {d1 d2:Z.D} {v1 v2:V} {u1 u2:Value} {k:Bool},A.units+n < cLine→Z.eqDn n d1 d2=some k→DenW X.K H d1 v1→DenW X.K H d2 v2→RelV v1 u1→RelV v2 u2→SeqAt.RcAt A s u1 u2 k∧SeqAt.EqAt A s u1 u2 k∧SeqAt.RcNeAt A s u1 u2 (!k))
  {as bs:List Z.D} {vs ws:List V} {its its2:List Value} {k:Bool} (hk:Z.allEq (Z.eqDn n) as bs=some k) (ta:Dens X.K H as vs) (tb:Dens X.K H bs ws) (ra:Vals vs its) (rb:Vals ws its2) :
   ∀ j (h1:j < its.toArray.size) (h2:j < its2.toArray.size),SeqAt.EqAt A s its.toArray[j] its2.toArray[j] (eAt (Z.eqDn n) as bs j):=by
  intro j hj1 hj2
  have la:=ta.length;have lb:=tb.length;have ra':=ra.length;have rb':=rb.length
  simp only [List.size_toArray] at hj1 hj2
  obtain ⟨x,ex⟩:∃ x,as[j]?=some x:=⟨as[j]'(by lia),List.getElem?_eq_getElem (by lia)⟩
  obtain ⟨y,ey⟩:∃ y,bs[j]?=some y:=⟨bs[j]'(by lia),List.getElem?_eq_getElem (by lia)⟩
  obtain ⟨vx,evx,dx⟩:=ta.get ex
  obtain ⟨vy,evy,dy⟩:=tb.get ey
  obtain ⟨ux,eux,rx⟩:=ra.get evx
  obtain ⟨uy,euy,ry⟩:=rb.get evy
  have e1:its.toArray[j]=ux:=by
   have:=List.getElem?_eq_getElem hj1
   rw [eux] at this;simpa using (Option.some.inj this).symm
  have e2:its2.toArray[j]=uy:=by
   have:=List.getElem?_eq_getElem hj2
   rw [euy] at this;simpa using (Option.some.inj this).symm
  rw [e1,e2]
  exact (ih hu ((allEq_at hk).2 j x y ex ey) (.inl dx) (.inl dy) rx ry).2.1
theorem eqS_same {K:PySem.W.Frag} {H:Hp} {d1 d2:Z.D} {v:V} {k:Bool} (h:Z.eqS d1 d2=some k) (h1:DenW K H d1 v) (h2:DenW K H d2 v):k=true:=by
 unfold Z.eqS at h
 split at h<;>first
  | (cases h;rfl)
  | (cases h;done)
  | (have e:=h1.bl.symm.trans h2.bl;cases h;injection e with e;subst e;simp)
  | (have e:=h1.int.symm.trans h2.int;cases h;injection e with e;subst e;simp)
  | (have e:=h1.str.symm.trans h2.str;cases h;injection e with e;rw [←str_beqZ,e];simp)
  | (have e:=h1.bl.symm.trans h2.int;cases e)
  | (have e:=h1.int.symm.trans h2.bl;cases e)
  | (have e:=h1.non.symm.trans h2.bl;cases e)
  | (have e:=h1.non.symm.trans h2.int;cases e)
  | (have e:=h1.non.symm.trans h2.str;cases e)
  | (have e:=h1.bl.symm.trans h2.non;cases e)
  | (have e:=h1.bl.symm.trans h2.str;cases e)
  | (have e:=h1.int.symm.trans h2.non;cases e)
  | (have e:=h1.int.symm.trans h2.str;cases e)
  | (have e:=h1.str.symm.trans h2.non;cases e)
  | (have e:=h1.str.symm.trans h2.bl;cases e)
  | (have e:=h1.str.symm.trans h2.int;cases e)
theorem items_same {K:PySem.W.Frag} {H:Hp} {n:Nat} (ih:∀ {d1 d2:Z.D} {v:V} {k:Bool},Z.eqDn n d1 d2=some k→DenW K H d1 v→DenW K H d2 v→k=true) {as bs:List Z.D} {vs:List V} {k:Bool} (h:Z.allEq (Z.eqDn n) as bs=some k) (ta:Dens K H as vs) (tb:Dens K H bs vs):k=true:=by
 obtain ⟨h1,h2⟩:=allEq_at h
 have la:=ta.length;have lb:=tb.length
 rw [h1,show (as.length==bs.length)=true by simp;lia,Bool.and_true,List.all_eq_true]
 intro j hj
 rw [List.mem_range] at hj
 obtain ⟨x,ex⟩:∃ x,as[j]?=some x:=⟨as[j]'(by lia),List.getElem?_eq_getElem (by lia)⟩
 obtain ⟨y,ey⟩:∃ y,bs[j]?=some y:=⟨bs[j]'(by lia),List.getElem?_eq_getElem (by lia)⟩
 obtain ⟨vx,evx,dx⟩:=ta.get ex
 obtain ⟨vy,evy,dy⟩:=tb.get ey
 rw [evx] at evy;cases evy
 exact ih (h2 j x y ex ey) (.inl dx) (.inl dy)
theorem ref_tl {pins:List (Addr×Obj)} {σ:St} {H:Hp} {s:Shared} {a:Addr} {xs ys:List V} (I:Inv X pins σ H s) (h:SqT X.K H a xs) (h':SqL X.K H a ys):False:=by
 obtain ⟨its,r,⟨o,e,c,n,d⟩,_⟩:=I.tuple h
 obtain ⟨its',r',⟨o',n',e',c',_⟩,_⟩:=I.list h'
 rw [e] at e';cases e'
 rw [c] at c';injection c' with z;exact absurd z (by decide)
def sq:Z.D→Bool
 | .tup _=>true
 | .lst _=>true
 | _=>false
def dc:Z.D→Bool
 | .dct _ _=>true
 | _=>false
theorem eqDn_s (n:Nat) {d1 d2:Z.D} (h:(sq d1=false∧sq d2=false)∨dc d1=true∨dc d2=true):Z.eqDn n d1 d2=Z.eqS d1 d2:=by
 cases d1<;>cases d2<;>cases n<;>first | rfl | (simp [sq,dc] at h)
theorem eqN_same0 {pins : List (Addr × Obj)} {σ : St} {H : Hp} {s : Shared} (I : Inv X pins σ H s) (n : Nat) (ih : ∀ m, m < n → ∀ {d1 d2 : Z.D} {v : V} {k : Bool}, Z.eqDn m d1 d2 = some k → DenW X.K H d1 v → DenW X.K H d2 v → k = true) {d1 d2 : Z.D} {v : V} {k : Bool} (h : Z.eqDn n d1 d2 = some k) (h1 : DenW X.K H d1 v) (h2 : DenW X.K H d2 v) : k = true := by
  cases d1<;>cases d2
  case non.non=>exact eqS_same ((eqDn_s n (.inl ⟨rfl,rfl⟩)).symm.trans h) h1 h2
  case non.bl=>exact eqS_same ((eqDn_s n (.inl ⟨rfl,rfl⟩)).symm.trans h) h1 h2
  case non.int=>exact eqS_same ((eqDn_s n (.inl ⟨rfl,rfl⟩)).symm.trans h) h1 h2
  case non.str=>exact eqS_same ((eqDn_s n (.inl ⟨rfl,rfl⟩)).symm.trans h) h1 h2
  case non.tup=>obtain ⟨_,_,e,_⟩:=h2.tup;rw [e] at h1;cases h1.non
  case non.lst=>obtain ⟨_,_,e,_⟩:=h2.lst;rw [e] at h1;cases h1.non
  case non.dct=>exact eqS_same ((eqDn_s n (.inl ⟨rfl,rfl⟩)).symm.trans h) h1 h2
  case bl.non=>exact eqS_same ((eqDn_s n (.inl ⟨rfl,rfl⟩)).symm.trans h) h1 h2
  case bl.bl=>exact eqS_same ((eqDn_s n (.inl ⟨rfl,rfl⟩)).symm.trans h) h1 h2
  case bl.int=>exact eqS_same ((eqDn_s n (.inl ⟨rfl,rfl⟩)).symm.trans h) h1 h2
  case bl.str=>exact eqS_same ((eqDn_s n (.inl ⟨rfl,rfl⟩)).symm.trans h) h1 h2
  case bl.tup=>obtain ⟨_,_,e,_⟩:=h2.tup;rw [e] at h1;cases h1.bl
  case bl.lst=>obtain ⟨_,_,e,_⟩:=h2.lst;rw [e] at h1;cases h1.bl
  case bl.dct=>exact eqS_same ((eqDn_s n (.inl ⟨rfl,rfl⟩)).symm.trans h) h1 h2
  case int.non=>exact eqS_same ((eqDn_s n (.inl ⟨rfl,rfl⟩)).symm.trans h) h1 h2
  case int.bl=>exact eqS_same ((eqDn_s n (.inl ⟨rfl,rfl⟩)).symm.trans h) h1 h2
  case int.int=>exact eqS_same ((eqDn_s n (.inl ⟨rfl,rfl⟩)).symm.trans h) h1 h2
  case int.str=>exact eqS_same ((eqDn_s n (.inl ⟨rfl,rfl⟩)).symm.trans h) h1 h2
  case int.tup=>obtain ⟨_,_,e,_⟩:=h2.tup;rw [e] at h1;cases h1.int
  case int.lst=>obtain ⟨_,_,e,_⟩:=h2.lst;rw [e] at h1;cases h1.int
  case int.dct=>exact eqS_same ((eqDn_s n (.inl ⟨rfl,rfl⟩)).symm.trans h) h1 h2
  case str.non=>exact eqS_same ((eqDn_s n (.inl ⟨rfl,rfl⟩)).symm.trans h) h1 h2
  case str.bl=>exact eqS_same ((eqDn_s n (.inl ⟨rfl,rfl⟩)).symm.trans h) h1 h2
  case str.int=>exact eqS_same ((eqDn_s n (.inl ⟨rfl,rfl⟩)).symm.trans h) h1 h2
  case str.str=>exact eqS_same ((eqDn_s n (.inl ⟨rfl,rfl⟩)).symm.trans h) h1 h2
  case str.tup=>obtain ⟨_,_,e,_⟩:=h2.tup;rw [e] at h1;cases h1.str
  case str.lst=>obtain ⟨_,_,e,_⟩:=h2.lst;rw [e] at h1;cases h1.str
  case str.dct=>exact eqS_same ((eqDn_s n (.inl ⟨rfl,rfl⟩)).symm.trans h) h1 h2
  case tup.non=>obtain ⟨_,_,e,_⟩:=h1.tup;rw [e] at h2;cases h2.non
  case tup.bl=>obtain ⟨_,_,e,_⟩:=h1.tup;rw [e] at h2;cases h2.bl
  case tup.int=>obtain ⟨_,_,e,_⟩:=h1.tup;rw [e] at h2;cases h2.int
  case tup.str=>obtain ⟨_,_,e,_⟩:=h1.tup;rw [e] at h2;cases h2.str
  case tup.tup =>
   cases n with
   | zero=>cases h
   | succ n =>
    obtain ⟨_,_,e,q,ta⟩:=h1.tup;obtain ⟨_,_,e',q',tb⟩:=h2.tup;rw [e] at e';cases e'
    have:=I.tuple_inj q q';subst this
    exact items_same (ih n (Nat.lt_succ_self n)) h ta tb
  case tup.lst=>obtain ⟨_,_,e,q,_⟩:=h1.tup;obtain ⟨_,_,e',q',_⟩:=h2.lst;rw [e] at e';cases e';exact (ref_tl I q q').elim
  case tup.dct=>exact eqS_same ((eqDn_s n (.inr (.inr rfl))).symm.trans h) h1 h2
  case lst.non=>obtain ⟨_,_,e,_⟩:=h1.lst;rw [e] at h2;cases h2.non
  case lst.bl=>obtain ⟨_,_,e,_⟩:=h1.lst;rw [e] at h2;cases h2.bl
  case lst.int=>obtain ⟨_,_,e,_⟩:=h1.lst;rw [e] at h2;cases h2.int
  case lst.str=>obtain ⟨_,_,e,_⟩:=h1.lst;rw [e] at h2;cases h2.str
  case lst.tup=>obtain ⟨_,_,e,q,_⟩:=h1.lst;obtain ⟨_,_,e',q',_⟩:=h2.tup;rw [e] at e';cases e';exact (ref_tl I q' q).elim
  case lst.lst =>
   cases n with
   | zero=>cases h
   | succ n =>
    obtain ⟨_,_,e,q,ta⟩:=h1.lst;obtain ⟨_,_,e',q',tb⟩:=h2.lst;rw [e] at e';cases e'
    have:=I.list_inj q q';subst this
    exact items_same (ih n (Nat.lt_succ_self n)) h ta tb
  case lst.dct=>exact eqS_same ((eqDn_s n (.inr (.inr rfl))).symm.trans h) h1 h2
  case dct.non=>exact eqS_same ((eqDn_s n (.inl ⟨rfl,rfl⟩)).symm.trans h) h1 h2
  case dct.bl=>exact eqS_same ((eqDn_s n (.inl ⟨rfl,rfl⟩)).symm.trans h) h1 h2
  case dct.int=>exact eqS_same ((eqDn_s n (.inl ⟨rfl,rfl⟩)).symm.trans h) h1 h2
  case dct.str=>exact eqS_same ((eqDn_s n (.inl ⟨rfl,rfl⟩)).symm.trans h) h1 h2
  case dct.tup=>exact eqS_same ((eqDn_s n (.inr (.inl rfl))).symm.trans h) h1 h2
  case dct.lst=>exact eqS_same ((eqDn_s n (.inr (.inl rfl))).symm.trans h) h1 h2
  case dct.dct=>exact eqS_same ((eqDn_s n (.inl ⟨rfl,rfl⟩)).symm.trans h) h1 h2
theorem eqN_same {pins:List (Addr×Obj)} {σ:St} {H:Hp} {s:Shared} (I:Inv X pins σ H s) (n:Nat):∀ {d1 d2:Z.D} {v:V} {k:Bool},Z.eqDn n d1 d2=some k→DenW X.K H d1 v→DenW X.K H d2 v→k=true:=by
 induction n using Nat.strongRecOn with
 | _ n ih=>exact eqN_same0 I n ih
theorem rcN0 {pins:List (Addr×Obj)} {σ:St} {H:Hp} {s:Shared} (I:Inv X pins σ H s) (n:Nat) (ih:∀ m,m < n→∀ {A:Around} {d1 d2:Z.D} {v1 v2:V} {u1 u2:Value} {k:Bool},A.units+m < cLine→Z.eqDn m d1 d2=some k→DenW X.K H d1 v1→DenW X.K H d2 v2→RelV v1 u1→RelV v2 u2→SeqAt.RcAt A s u1 u2 k∧SeqAt.EqAt A s u1 u2 k∧SeqAt.RcNeAt A s u1 u2 (!k)) {A:Around} {d1 d2:Z.D} {v1 v2:V} {u1 u2:Value} {k:Bool} (hu:A.units+n < cLine) (h:Z.eqDn n d1 d2=some k) (h1:DenW X.K H d1 v1) (h2:DenW X.K H d2 v2) (r1:RelV v1 u1) (r2:RelV v2 u2) :
  SeqAt.RcAt A s u1 u2 k∧SeqAt.EqAt A s u1 u2 k∧SeqAt.RcNeAt A s u1 u2 (!k):=by
  have hu0:A.units < cLine:=by lia
  have tupL:∀ {ds:List Z.D} {v:V} {u:Value},DenW X.K H (.tup ds) v→RelV v u→∃ q its,u=.ref q∧s.heap.IsTuple q its:=fun hd rv=>by
   obtain ⟨q,vs,rfl,hq,_⟩:=hd.tup
   cases rv
   obtain ⟨its,_,p,_⟩:=I.tuple hq
   exact ⟨q,its.toArray,rfl,p⟩
  have lstL:∀ {ds:List Z.D} {v:V} {u:Value},DenW X.K H (.lst ds) v→RelV v u→∃ q its,u=.ref q∧s.heap.IsList q its:=fun hd rv=>by
   obtain ⟨q,vs,rfl,hq,_⟩:=hd.lst
   cases rv
   obtain ⟨its,_,p,_⟩:=I.list hq
   exact ⟨q,its.toArray,rfl,p.isList⟩
  cases d1<;>cases d2
  case non.non=>exact rcS ((eqDn_s n (.inl ⟨rfl,rfl⟩)).symm.trans h) h1 h2 r1 r2
  case non.bl=>exact rcS ((eqDn_s n (.inl ⟨rfl,rfl⟩)).symm.trans h) h1 h2 r1 r2
  case non.int=>exact rcS ((eqDn_s n (.inl ⟨rfl,rfl⟩)).symm.trans h) h1 h2 r1 r2
  case non.str=>exact rcS ((eqDn_s n (.inl ⟨rfl,rfl⟩)).symm.trans h) h1 h2 r1 r2
  case non.tup =>
   obtain rfl:k=false:=by cases n<;>cases h<;>rfl
   rw [h1.non] at r1;cases r1
   obtain ⟨q2,its2,rfl,p2⟩:=tupL h2 r2
   exact ⟨SeqAt.RcAt.none_tuple p2 hu0,SeqAt.EqAt.none_tuple p2 hu0,SeqAt.RcNeAt.none_tuple p2 hu0⟩
  case non.lst =>
   obtain rfl:k=false:=by cases n<;>cases h<;>rfl
   rw [h1.non] at r1;cases r1
   obtain ⟨q2,its2,rfl,p2⟩:=lstL h2 r2
   exact ⟨SeqAt.RcAt.none_list p2 hu0,SeqAt.EqAt.none_list p2 hu0,SeqAt.RcNeAt.none_list p2 hu0⟩
  case non.dct=>exact rcS ((eqDn_s n (.inl ⟨rfl,rfl⟩)).symm.trans h) h1 h2 r1 r2
  case bl.non=>exact rcS ((eqDn_s n (.inl ⟨rfl,rfl⟩)).symm.trans h) h1 h2 r1 r2
  case bl.bl=>exact rcS ((eqDn_s n (.inl ⟨rfl,rfl⟩)).symm.trans h) h1 h2 r1 r2
  case bl.int=>exact rcS ((eqDn_s n (.inl ⟨rfl,rfl⟩)).symm.trans h) h1 h2 r1 r2
  case bl.str=>exact rcS ((eqDn_s n (.inl ⟨rfl,rfl⟩)).symm.trans h) h1 h2 r1 r2
  case bl.tup =>
   obtain rfl:k=false:=by cases n<;>cases h<;>rfl
   rw [h1.bl] at r1;cases r1
   obtain ⟨q2,its2,rfl,p2⟩:=tupL h2 r2
   exact ⟨SeqAt.RcAt.bool_tuple _ p2 hu0,SeqAt.EqAt.bool_tuple _ p2 hu0,SeqAt.RcNeAt.bool_tuple _ p2 hu0⟩
  case bl.lst =>
   obtain rfl:k=false:=by cases n<;>cases h<;>rfl
   rw [h1.bl] at r1;cases r1
   obtain ⟨q2,its2,rfl,p2⟩:=lstL h2 r2
   exact ⟨SeqAt.RcAt.bool_list _ p2 hu0,SeqAt.EqAt.bool_list _ p2 hu0,SeqAt.RcNeAt.bool_list _ p2 hu0⟩
  case bl.dct=>exact rcS ((eqDn_s n (.inl ⟨rfl,rfl⟩)).symm.trans h) h1 h2 r1 r2
  case int.non=>exact rcS ((eqDn_s n (.inl ⟨rfl,rfl⟩)).symm.trans h) h1 h2 r1 r2
  case int.bl=>exact rcS ((eqDn_s n (.inl ⟨rfl,rfl⟩)).symm.trans h) h1 h2 r1 r2
  case int.int=>exact rcS ((eqDn_s n (.inl ⟨rfl,rfl⟩)).symm.trans h) h1 h2 r1 r2
  case int.str=>exact rcS ((eqDn_s n (.inl ⟨rfl,rfl⟩)).symm.trans h) h1 h2 r1 r2
  case int.tup =>
   obtain rfl:k=false:=by cases n<;>cases h<;>rfl
   rw [h1.int] at r1;obtain ⟨t1,rfl⟩:=r1
   obtain ⟨q2,its2,rfl,p2⟩:=tupL h2 r2
   exact ⟨SeqAt.RcAt.int_tuple _ _ p2 hu0,SeqAt.EqAt.int_tuple _ _ p2 hu0,SeqAt.RcNeAt.int_tuple _ _ p2 hu0⟩
  case int.lst =>
   obtain rfl:k=false:=by cases n<;>cases h<;>rfl
   rw [h1.int] at r1;obtain ⟨t1,rfl⟩:=r1
   obtain ⟨q2,its2,rfl,p2⟩:=lstL h2 r2
   exact ⟨SeqAt.RcAt.int_list _ _ p2 hu0,SeqAt.EqAt.int_list _ _ p2 hu0,SeqAt.RcNeAt.int_list _ _ p2 hu0⟩
  case int.dct=>exact rcS ((eqDn_s n (.inl ⟨rfl,rfl⟩)).symm.trans h) h1 h2 r1 r2
  case str.non=>exact rcS ((eqDn_s n (.inl ⟨rfl,rfl⟩)).symm.trans h) h1 h2 r1 r2
  case str.bl=>exact rcS ((eqDn_s n (.inl ⟨rfl,rfl⟩)).symm.trans h) h1 h2 r1 r2
  case str.int=>exact rcS ((eqDn_s n (.inl ⟨rfl,rfl⟩)).symm.trans h) h1 h2 r1 r2
  case str.str=>exact rcS ((eqDn_s n (.inl ⟨rfl,rfl⟩)).symm.trans h) h1 h2 r1 r2
  case str.tup =>
   obtain rfl:k=false:=by cases n<;>cases h<;>rfl
   rw [h1.str] at r1;obtain ⟨t1,rfl⟩:=r1
   obtain ⟨q2,its2,rfl,p2⟩:=tupL h2 r2
   exact ⟨SeqAt.RcAt.str_tuple _ _ p2 hu0,SeqAt.EqAt.str_tuple _ _ p2 hu0,SeqAt.RcNeAt.str_tuple _ _ p2 hu0⟩
  case str.lst =>
   obtain rfl:k=false:=by cases n<;>cases h<;>rfl
   rw [h1.str] at r1;obtain ⟨t1,rfl⟩:=r1
   obtain ⟨q2,its2,rfl,p2⟩:=lstL h2 r2
   exact ⟨SeqAt.RcAt.str_list _ _ p2 hu0,SeqAt.EqAt.str_list _ _ p2 hu0,SeqAt.RcNeAt.str_list _ _ p2 hu0⟩
  case str.dct=>exact rcS ((eqDn_s n (.inl ⟨rfl,rfl⟩)).symm.trans h) h1 h2 r1 r2
  case tup.non =>
   obtain rfl:k=false:=by cases n<;>cases h<;>rfl
   obtain ⟨q1,its1,rfl,p1⟩:=tupL h1 r1
   rw [h2.non] at r2;cases r2
   exact ⟨SeqAt.RcAt.tuple_none p1 hu0,SeqAt.EqAt.tuple_none p1 hu0,SeqAt.RcNeAt.tuple_none p1 hu0⟩
  case tup.bl =>
   obtain rfl:k=false:=by cases n<;>cases h<;>rfl
   obtain ⟨q1,its1,rfl,p1⟩:=tupL h1 r1
   rw [h2.bl] at r2;cases r2
   exact ⟨SeqAt.RcAt.tuple_bool _ p1 hu0,SeqAt.EqAt.tuple_bool _ p1 hu0,SeqAt.RcNeAt.tuple_bool _ p1 hu0⟩
  case tup.int =>
   obtain rfl:k=false:=by cases n<;>cases h<;>rfl
   obtain ⟨q1,its1,rfl,p1⟩:=tupL h1 r1
   rw [h2.int] at r2;obtain ⟨t2,rfl⟩:=r2
   exact ⟨SeqAt.RcAt.tuple_int _ _ p1 hu0,SeqAt.EqAt.tuple_int _ _ p1 hu0,SeqAt.RcNeAt.tuple_int _ _ p1 hu0⟩
  case tup.str =>
   obtain rfl:k=false:=by cases n<;>cases h<;>rfl
   obtain ⟨q1,its1,rfl,p1⟩:=tupL h1 r1
   rw [h2.str] at r2;obtain ⟨t2,rfl⟩:=r2
   exact ⟨SeqAt.RcAt.tuple_str _ _ p1 hu0,SeqAt.EqAt.tuple_str _ _ p1 hu0,SeqAt.RcNeAt.tuple_str _ _ p1 hu0⟩
  case tup.lst =>
   obtain rfl:k=false:=by cases n<;>cases h<;>rfl
   obtain ⟨q1,its1,rfl,p1⟩:=tupL h1 r1
   obtain ⟨q2,its2,rfl,p2⟩:=lstL h2 r2
   exact ⟨SeqAt.RcAt.tuple_list p1 p2 hu0,SeqAt.EqAt.tuple_list p1 p2 hu0,SeqAt.RcNeAt.tuple_list p1 p2 hu0⟩
  case tup.dct=>exact rcS ((eqDn_s n (.inr (.inr rfl))).symm.trans h) h1 h2 r1 r2
  case lst.non =>
   obtain rfl:k=false:=by cases n<;>cases h<;>rfl
   obtain ⟨q1,its1,rfl,p1⟩:=lstL h1 r1
   rw [h2.non] at r2;cases r2
   exact ⟨SeqAt.RcAt.list_none p1 hu0,SeqAt.EqAt.list_none p1 hu0,SeqAt.RcNeAt.list_none p1 hu0⟩
  case lst.bl =>
   obtain rfl:k=false:=by cases n<;>cases h<;>rfl
   obtain ⟨q1,its1,rfl,p1⟩:=lstL h1 r1
   rw [h2.bl] at r2;cases r2
   exact ⟨SeqAt.RcAt.list_bool _ p1 hu0,SeqAt.EqAt.list_bool _ p1 hu0,SeqAt.RcNeAt.list_bool _ p1 hu0⟩
  case lst.int =>
   obtain rfl:k=false:=by cases n<;>cases h<;>rfl
   obtain ⟨q1,its1,rfl,p1⟩:=lstL h1 r1
   rw [h2.int] at r2;obtain ⟨t2,rfl⟩:=r2
   exact ⟨SeqAt.RcAt.list_int _ _ p1 hu0,SeqAt.EqAt.list_int _ _ p1 hu0,SeqAt.RcNeAt.list_int _ _ p1 hu0⟩
  case lst.str =>
   obtain rfl:k=false:=by cases n<;>cases h<;>rfl
   obtain ⟨q1,its1,rfl,p1⟩:=lstL h1 r1
   rw [h2.str] at r2;obtain ⟨t2,rfl⟩:=r2
   exact ⟨SeqAt.RcAt.list_str _ _ p1 hu0,SeqAt.EqAt.list_str _ _ p1 hu0,SeqAt.RcNeAt.list_str _ _ p1 hu0⟩
  case lst.tup =>
   obtain rfl:k=false:=by cases n<;>cases h<;>rfl
   obtain ⟨q1,its1,rfl,p1⟩:=lstL h1 r1
   obtain ⟨q2,its2,rfl,p2⟩:=tupL h2 r2
   exact ⟨SeqAt.RcAt.list_tuple p1 p2 hu0,SeqAt.EqAt.list_tuple p1 p2 hu0,SeqAt.RcNeAt.list_tuple p1 p2 hu0⟩
  case lst.dct=>exact rcS ((eqDn_s n (.inr (.inr rfl))).symm.trans h) h1 h2 r1 r2
  case dct.non=>exact rcS ((eqDn_s n (.inl ⟨rfl,rfl⟩)).symm.trans h) h1 h2 r1 r2
  case dct.bl=>exact rcS ((eqDn_s n (.inl ⟨rfl,rfl⟩)).symm.trans h) h1 h2 r1 r2
  case dct.int=>exact rcS ((eqDn_s n (.inl ⟨rfl,rfl⟩)).symm.trans h) h1 h2 r1 r2
  case dct.str=>exact rcS ((eqDn_s n (.inl ⟨rfl,rfl⟩)).symm.trans h) h1 h2 r1 r2
  case dct.tup=>exact rcS ((eqDn_s n (.inr (.inl rfl))).symm.trans h) h1 h2 r1 r2
  case dct.lst=>exact rcS ((eqDn_s n (.inr (.inl rfl))).symm.trans h) h1 h2 r1 r2
  case dct.dct=>exact rcS ((eqDn_s n (.inl ⟨rfl,rfl⟩)).symm.trans h) h1 h2 r1 r2
  case tup.tup as bs =>
   cases n with
   | zero=>cases h
   | succ n =>
    have hk:Z.allEq (Z.eqDn n) as bs=some k:=h
    have hs:=fun (z:v1=v2)=>eqN_same I (n+1) (d1:=.tup as) (d2:=.tup bs) (v:=v1) h h1 (z▸h2)
    obtain ⟨q,vs,rfl,hq,ta⟩:=h1.tup
    obtain ⟨q',ws,rfl,hq',tb⟩:=h2.tup
    cases r1;cases r2
    obtain ⟨its,ra,pa,_⟩:=I.tuple hq
    obtain ⟨its2,rb,pb,_⟩:=I.tuple hq'
    have hi:=items_at I n (A:=A.in1) (show A.units+1+n < cLine by lia) (ih n (Nat.lt_succ_self n)) hk ta tb ra rb
    have e:=(allEq_at hk).1
    have la:=ta.length;have lb:=tb.length;have ra':=ra.length;have rb':=rb.length
    have t1:=SeqAt.RcAt.tuples (s:=s) (A:=A) (show s.heap.IsTuple q its.toArray from pa) (show s.heap.IsTuple q' its2.toArray from pb) hu0 hi
    have t2:=SeqAt.RcNeAt.tuples (s:=s) (A:=A) (show s.heap.IsTuple q its.toArray from pa) (show s.heap.IsTuple q' its2.toArray from pb) hu0 hi
    simp only [List.size_toArray] at t1 t2
    rw [←ra',←rb',la,lb,←e] at t1 t2
    refine ⟨t1,?_,t2⟩
    by_cases hqq:q=q'
    ·subst hqq;rw [hs rfl];exact SeqAt.EqAt.same _
    ·exact SeqAt.EqAt.of_refs hqq t1
  case lst.lst as bs =>
   cases n with
   | zero=>cases h
   | succ n =>
    have hk:Z.allEq (Z.eqDn n) as bs=some k:=h
    have hs:=fun (z:v1=v2)=>eqN_same I (n+1) (d1:=.lst as) (d2:=.lst bs) (v:=v1) h h1 (z▸h2)
    obtain ⟨q,vs,rfl,hq,ta⟩:=h1.lst
    obtain ⟨q',ws,rfl,hq',tb⟩:=h2.lst
    cases r1;cases r2
    obtain ⟨its,ra,pa,_⟩:=I.list hq
    obtain ⟨its2,rb,pb,_⟩:=I.list hq'
    have e:=(allEq_at hk).1
    have la:=ta.length;have lb:=tb.length;have ra':=ra.length;have rb':=rb.length
    have t:SeqAt.RcAt A s (.ref q) (.ref q') k∧SeqAt.RcNeAt A s (.ref q) (.ref q') (!k):=by
     by_cases hlen:as.length=bs.length
     ·have hi:=items_at I n (A:=A.in1) (show A.units+1+n < cLine by lia) (ih n (Nat.lt_succ_self n)) hk ta tb ra rb
      have t1:=SeqAt.RcAt.lists (s:=s) (A:=A) pa.isList pb.isList (by simp only [List.size_toArray];lia) hu0 hi
      have t2:=SeqAt.RcNeAt.lists (s:=s) (A:=A) pa.isList pb.isList (by simp only [List.size_toArray];lia) hu0 hi
      simp only [List.size_toArray] at t1 t2
      rw [←ra',la] at t1 t2
      rw [hlen,Nat.min_self,beq_self_eq_true,Bool.and_true,←hlen] at e
      rw [←e] at t1 t2
      exact ⟨t1,t2⟩
     ·have:(as.length==bs.length)=false:=by simpa using hlen
      rw [this,Bool.and_false] at e
      subst e
      exact ⟨SeqAt.RcAt.lists_lengths pa.isList pb.isList (by simp only [List.size_toArray,bne_iff_ne,ne_eq];lia) hu0,SeqAt.RcNeAt.lists_lengths pa.isList pb.isList (by simp only [List.size_toArray,bne_iff_ne,ne_eq];lia) hu0⟩
    refine ⟨t.1,?_,t.2⟩
    by_cases hqq:q=q'
    ·subst hqq;rw [hs rfl];exact SeqAt.EqAt.same _
    ·exact SeqAt.EqAt.of_refs hqq t.1
theorem rcN {pins:List (Addr×Obj)} {σ:St} {H:Hp} {s:Shared} (I:Inv X pins σ H s) (n:Nat):∀ {A:Around} {d1 d2:Z.D} {v1 v2:V} {u1 u2:Value} {k:Bool},A.units+n < cLine→Z.eqDn n d1 d2=some k→DenW X.K H d1 v1→DenW X.K H d2 v2→RelV v1 u1→RelV v2 u2→SeqAt.RcAt A s u1 u2 k∧SeqAt.EqAt A s u1 u2 k∧SeqAt.RcNeAt A s u1 u2 (!k):=by
 induction n using Nat.strongRecOn with
 | _ n ih=>exact rcN0 I n ih
theorem c_eq (hu:X.A.units+64 < cLine):Cmp X .Eq Z.oEq:=by
 have ho:OpR X (compareOp .Eq) (fun x y H Q=>∃ d1 d2 k,DenW X.K H d1 x∧DenW X.K H d2 y∧Z.eqD d1 d2=some k∧Q (.bl k) H):=by
  intro pins s σ H x y v u Q I rx ry h
  obtain ⟨d1,d2,k,h1,h2,e,q⟩:=h
  exact (rcN I 6 (A:=X.A) (by lia) e h1 h2 rx ry).1 X.prog X.w X.xe _ ⟨.bl k,H,I,rfl,q⟩
 exact ⟨_,ho,fun x y dx dy d H Q h1 h2 e k=>by
  unfold Z.oEq at e
  split at e
  ·rename_i z hz
   cases e
   exact ⟨dx,dy,z,h1,h2,hz,k _ H (Same.refl H) den_bl⟩
  ·cases e⟩
theorem c_ne (hu:X.A.units+64 < cLine):Cmp X .NotEq Z.oNe:=by
 have ho:OpR X (compareOp .NotEq) (fun x y H Q=>∃ d1 d2 k,DenW X.K H d1 x∧DenW X.K H d2 y∧Z.eqD d1 d2=some k∧Q (.bl (!k)) H):=by
  intro pins s σ H x y v u Q I rx ry h
  obtain ⟨d1,d2,k,h1,h2,e,q⟩:=h
  exact (rcN I 6 (A:=X.A) (by lia) e h1 h2 rx ry).2.2 X.prog X.w X.xe _ ⟨.bl (!k),H,I,rfl,q⟩
 exact ⟨_,ho,fun x y dx dy d H Q h1 h2 e k=>by
  unfold Z.oNe at e
  split at e
  ·rename_i z hz
   cases e
   exact ⟨dx,dy,z,h1,h2,hz,k _ H (Same.refl H) den_bl⟩
  ·cases e⟩
theorem keyZ_inj:∀ {a b:Sum Int (List Nat)},keyZ a=keyZ b→a=b
 | .inl a,.inl b,h=>by injection h with h;rw [h]
 | .inl _,.inr _,h=>by cases h
 | .inr _,.inl _,h=>by cases h
 | .inr a,.inr b,h=>by
  injection h with h
  injection h with h
  have:a=b:=by simpa using congrArg Array.toList h
  rw [this]
theorem keysZ_inj:∀ {a b:List (Sum Int (List Nat))},a.map keyZ=b.map keyZ→a=b
 | [],[],_=>rfl
 | [],_ :: _,h=>by cases h
 | _ :: _,[],h=>by cases h
 | a :: as,b :: bs,h=>by
  simp only [List.map_cons,List.cons.injEq] at h
  rw [keyZ_inj h.1,keysZ_inj h.2]
theorem cls_dct {pins:List (Addr×Obj)} {σ:St} {H:Hp} {s:Shared} {a:Addr} {o:Obj} {kvs:List (Key×V)} (I:Inv X pins σ H s) (hq:H a=some (.frz o (.dK kvs))):∃ o',s.heap.get? a=some o'∧o'.cls=.type "dict" := by
 obtain ⟨_,_,_,_,_,o',es,ep,h1,h2,_⟩:=(show ObjOk X.prog X.w H s.heap a (.frz o (.dK kvs)) from I.hok a _ hq)
 exact ⟨o',h1,h2.1⟩
theorem ref_td {pins:List (Addr×Obj)} {σ:St} {H:Hp} {s:Shared} {a:Addr} {xs:List V} {o:Obj} {kvs:List (Key×V)} (I:Inv X pins σ H s) (h:SqT X.K H a xs) (h':H a=some (.frz o (.dK kvs))):False:=by
 obtain ⟨its,r,⟨o1,e,c,n,d⟩,_⟩:=I.tuple h
 obtain ⟨o2,e',c'⟩:=cls_dct I h'
 rw [e] at e';cases e'
 rw [c] at c';injection c' with z;exact absurd z (by decide)
theorem ref_ld {pins:List (Addr×Obj)} {σ:St} {H:Hp} {s:Shared} {a:Addr} {xs:List V} {o:Obj} {kvs:List (Key×V)} (I:Inv X pins σ H s) (h:SqL X.K H a xs) (h':H a=some (.frz o (.dK kvs))):False:=by
 obtain ⟨its,r,⟨o1,n,e,c,_⟩,_⟩:=I.list h
 obtain ⟨o2,e',c'⟩:=cls_dct I h'
 rw [e] at e';cases e'
 rw [c] at c';injection c' with z;exact absurd z (by decide)
mutual
theorem Den.inj {pins:List (Addr×Obj)} {σ:St} {H:Hp} {s:Shared} (I:Inv X pins σ H s):∀ (d1 d2:Z.D) (v:V),Den X.K H d1 v→Den X.K H d2 v→d1=d2
 | .non,d2,v,h1,h2=>by
  simp only [Den] at h1;subst h1
  cases d2<;>simp only [Den] at h2<;>first | rfl | (cases h2;done) | skip
  case tup=>obtain ⟨_,_,e,_⟩:=h2;cases e
  case lst=>obtain ⟨_,_,e,_⟩:=h2;cases e
  case dct=>obtain ⟨_,_,_,e,_⟩:=h2;cases e
 | .bl b,d2,v,h1,h2=>by
  simp only [Den] at h1;subst h1
  cases d2<;>simp only [Den] at h2<;>first | (injection h2 with h2;rw [h2]) | (cases h2;done) | skip
  case tup=>obtain ⟨_,_,e,_⟩:=h2;cases e
  case lst=>obtain ⟨_,_,e,_⟩:=h2;cases e
  case dct=>obtain ⟨_,_,_,e,_⟩:=h2;cases e
 | .int i,d2,v,h1,h2=>by
  simp only [Den] at h1;subst h1
  cases d2<;>simp only [Den] at h2<;>first | (injection h2 with h2;rw [h2]) | (cases h2;done) | skip
  case tup=>obtain ⟨_,_,e,_⟩:=h2;cases e
  case lst=>obtain ⟨_,_,e,_⟩:=h2;cases e
  case dct=>obtain ⟨_,_,_,e,_⟩:=h2;cases e
 | .str cs,d2,v,h1,h2=>by
  simp only [Den] at h1;subst h1
  cases d2<;>simp only [Den] at h2<;>first | (injection h2 with h2;injection h2 with h2;have:=congrArg Array.toList h2;simp at this;rw [this]) | (cases h2;done) | skip
  case tup=>obtain ⟨_,_,e,_⟩:=h2;cases e
  case lst=>obtain ⟨_,_,e,_⟩:=h2;cases e
  case dct=>obtain ⟨_,_,_,e,_⟩:=h2;cases e
 | .tup ds,d2,v,h1,h2=>by
  simp only [Den] at h1
  obtain ⟨a,vs,rfl,q,t⟩:=h1
  cases d2<;>simp only [Den] at h2
  case tup es =>
   obtain ⟨a',vs',e,q',t'⟩:=h2;cases e
   rw [I.tuple_inj q' q] at t'
   rw [Dens.inj I ds es vs t t']
  case lst es=>obtain ⟨a',vs',e,q',t'⟩:=h2;cases e;exact (ref_tl I q q'.sq).elim
  case dct ks es=>obtain ⟨a',o,kvs,e,q',_⟩:=h2;cases e;exact (ref_td I q q').elim
  all_goals cases h2
 | .lst ds,d2,v,h1,h2=>by
  simp only [Den] at h1
  obtain ⟨a,vs,rfl,q,t⟩:=h1
  cases d2<;>simp only [Den] at h2
  case lst es =>
   obtain ⟨a',vs',e,q',t'⟩:=h2;cases e
   rw [I.list_inj q'.sq q.sq] at t'
   rw [Dens.inj I ds es vs t t']
  case tup es=>obtain ⟨a',vs',e,q',t'⟩:=h2;cases e;exact (ref_tl I q' q.sq).elim
  case dct ks es=>obtain ⟨a',o,kvs,e,q',_⟩:=h2;cases e;exact (ref_ld I q.sq q').elim
  all_goals cases h2
 | .dct ks ds,d2,v,h1,h2=>by
  simp only [Den] at h1
  obtain ⟨a,o,kvs,rfl,q,hk,t⟩:=h1
  cases d2<;>simp only [Den] at h2
  case lst es=>obtain ⟨a',vs',e,q',t'⟩:=h2;cases e;exact (ref_ld I q'.sq q).elim
  case tup es=>obtain ⟨a',vs',e,q',t'⟩:=h2;cases e;exact (ref_td I q' q).elim
  case dct ks' es =>
   obtain ⟨a',o',kvs',e,q',hk',t'⟩:=h2;cases e
   rw [q] at q';cases q'
   rw [Dens.inj I ds es _ t t',keysZ_inj (hk.symm.trans hk')]
  all_goals cases h2
theorem Dens.inj {pins:List (Addr×Obj)} {σ:St} {H:Hp} {s:Shared} (I:Inv X pins σ H s):∀ (d1 d2:List Z.D) (v:List V),Dens X.K H d1 v→Dens X.K H d2 v→d1=d2
 | [],d2,v,h1,h2=>by
  simp only [Dens] at h1;subst h1
  cases d2 with
  | nil=>rfl
  | cons d ds=>simp only [Dens] at h2;obtain ⟨_,_,e,_⟩:=h2;cases e
 | d :: ds,d2,v,h1,h2=>by
  simp only [Dens] at h1
  obtain ⟨u,r,rfl,q,t⟩:=h1
  cases d2 with
  | nil=>simp only [Dens] at h2;cases h2
  | cons d' ds' =>
   simp only [Dens] at h2;obtain ⟨u',r',e,q',t'⟩:=h2
   cases e
   rw [Den.inj I d d' u q q',Dens.inj I ds ds' r t t']
end
theorem anyEq_at {x:Z.D}:∀ {ys:List Z.D} {k:Bool},Z.anyEq x ys=some k→k=ys.any (fun y=>(Z.eqD y x).getD false)∧∀ y∈ys,Z.eqD y x=some ((Z.eqD y x).getD false)
 | [],k,h=>by cases h;exact ⟨rfl,fun y hy=>by cases hy⟩
 | y :: ys,k,h=>by
  unfold Z.anyEq at h
  split at h
  ·rename_i a b ea eb
   cases h
   obtain ⟨h1,h2⟩:=anyEq_at eb
   refine ⟨by rw [List.any_cons,ea,h1];rfl,fun z hz=>?_⟩
   rcases List.mem_cons.mp hz with rfl | hz
   ·rw [ea];rfl
   ·exact h2 z hz
  ·cases h
theorem in_fun {pins : List (Addr × Obj)} {σ : St} {H : Hp} {s : Shared} (I : Inv X pins σ H s) {A : Around} (hu : A.units + 60 < cLine) {x : Z.D} {v : V} {u : Value} (hx : DenW X.K H x v) (rx : RelV v u) : ∀ {ys : List Z.D} {vs : List V} {us : List Value}, Dens X.K H ys vs → Vals vs us → (∀ y ∈ ys, Z.eqD y x = some ((Z.eqD y x).getD false)) →
  ∃ e:Value→Bool,(∀ w∈us,SeqAt.EqAt A s w u (e w))∧us.any e=ys.any (fun y=>(Z.eqD y x).getD false):=by
 intro ys vs us
 have key:∀ {ys:List Z.D} {vs:List V} {us:List Value},Dens X.K H ys vs→Vals vs us→(∀ y∈ys,Z.eqD y x=some ((Z.eqD y x).getD false))→(∀ w∈us,∃ b,SeqAt.EqAt A s w u b)∧∀ e:Value→Bool,(∀ w∈us,∀ y vy,Den X.K H y vy→RelV vy w→y∈ys→e w=(Z.eqD y x).getD false)→us.any e=ys.any (fun y=>(Z.eqD y x).getD false):=by
  intro ys
  induction ys with
  | nil=>intro vs us t r _;simp only [Dens] at t;subst t;cases r;exact ⟨fun w hw=>(by cases hw),fun _ _=>rfl⟩
  | cons y ys ih =>
   intro vs us t r hh
   simp only [Dens] at t
   obtain ⟨vy,vr,rfl,dy,tr⟩:=t
   cases r with
   | cons ry rr =>
    obtain ⟨h1,h2⟩:=ih tr rr (fun z hz=>hh z (List.mem_cons_of_mem _ hz))
    refine ⟨fun w hw=>?_,fun e he=>?_⟩
    ·rcases List.mem_cons.mp hw with rfl | hw
     ·exact ⟨_,(rcN I 6 (A:=A) (by lia) (hh y List.mem_cons_self) (.inl dy) hx ry rx).2.1⟩
     ·exact h1 w hw
    ·rw [List.any_cons,List.any_cons,he _ List.mem_cons_self y vy dy ry List.mem_cons_self,h2 e fun w hw z vz dz rz hz=>he w (List.mem_cons_of_mem _ hw) z vz dz rz (List.mem_cons_of_mem _ hz)]
 intro t r hh
 classical
 let e:Value→Bool:=fun w=>if h:∃ y vy,Den X.K H y vy∧RelV vy w∧y∈ys then (Z.eqD h.choose x).getD false else false
 have he:∀ w y vy,Den X.K H y vy→RelV vy w→y∈ys→e w=(Z.eqD y x).getD false:=by
  intro w y vy dy ry hy
  have hex:∃ y vy,Den X.K H y vy∧RelV vy w∧y∈ys:=⟨y,vy,dy,ry,hy⟩
  show (if h:_ then _ else _)=_
  rw [dif_pos hex]
  obtain ⟨vy',dy',ry',hy'⟩:=hex.choose_spec
  have ev:vy'=vy:=ry'.inj ry
  subst ev
  rw [Den.inj I _ _ _ dy' dy]
 refine ⟨e,fun w hw=>?_,(key t r hh).2 e fun w hw y vy dy ry hy=>he w y vy dy ry hy⟩
 obtain ⟨j,hj,ej⟩:=List.getElem_of_mem hw
 have hl:=r.length
 have ht:=t.length
 obtain ⟨y,ey⟩:∃ y,ys[j]?=some y:=⟨ys[j]'(by lia),List.getElem?_eq_getElem (by lia)⟩
 obtain ⟨vy,evy,dy⟩:=t.get ey
 obtain ⟨u',eu',ru'⟩:=r.get evy
 have:u'=w:=by
  have:=List.getElem?_eq_getElem hj
  rw [eu',ej] at this;exact Option.some.inj this
 subst this
 have hy:y∈ys:=List.mem_of_getElem? ey
 rw [he _ y vy dy ru' hy]
 exact (rcN I 6 (A:=A) (by lia) (hh y hy) (.inl dy) hx ru' rx).2.1
theorem op_inD (hu:X.A.units+64 < cLine):OpR X (compareOp .In) (fun x y H Q=>∃ d ys q vs k,DenW X.K H d x∧y=.ref q∧(SqL X.K H q vs∨SqT X.K H q vs)∧Dens X.K H ys vs∧Z.anyEq d ys=some k∧Q (.bl k) H):=by
 intro pins s σ H x y v u Q I rx ry h
 obtain ⟨d,ys,q,vs,k,hd,rfl,hq,t,e,k'⟩:=h
 cases ry
 obtain ⟨e1,e2⟩:=anyEq_at e
 subst e1
 rcases hq with hq | hq
 ·obtain ⟨its,r,pl,hz⟩:=I.list hq
  obtain ⟨f,hf,hfa⟩:=in_fun I (A:=X.A.in1) (show X.A.units+1+60 < cLine by lia) hd rx t r e2
  refine SeqAt.in_listAt f pl.isList (fun w hw=>hf w (by simpa using hw)) ⟨.bl _,H,I,rfl,?_⟩
  rw [show its.toArray.any f=its.any f by simp,hfa]
  exact k'
 ·obtain ⟨its,r,pl,hz⟩:=I.tuple hq
  obtain ⟨f,hf,hfa⟩:=in_fun I (A:=X.A.in1) (show X.A.units+1+60 < cLine by lia) hd rx t r e2
  refine SeqAt.in_tupleAt f pl (fun w hw=>hf w (by simpa using hw)) ⟨.bl _,H,I,rfl,?_⟩
  rw [show its.toArray.any f=its.any f by simp,hfa]
  exact k'
theorem op_notInD (hu:X.A.units+64 < cLine):OpR X (compareOp .NotIn) (fun x y H Q=>∃ d ys q vs k,DenW X.K H d x∧y=.ref q∧(SqL X.K H q vs∨SqT X.K H q vs)∧Dens X.K H ys vs∧Z.anyEq d ys=some k∧Q (.bl (!k)) H):=by
 intro pins s σ H x y v u Q I rx ry h
 obtain ⟨d,ys,q,vs,k,hd,rfl,hq,t,e,k'⟩:=h
 cases ry
 obtain ⟨e1,e2⟩:=anyEq_at e
 subst e1
 rcases hq with hq | hq
 ·obtain ⟨its,r,pl,hz⟩:=I.list hq
  obtain ⟨f,hf,hfa⟩:=in_fun I (A:=X.A.in1) (show X.A.units+1+60 < cLine by lia) hd rx t r e2
  refine SeqAt.notIn_listAt f pl.isList (fun w hw=>hf w (by simpa using hw)) ⟨.bl _,H,I,rfl,?_⟩
  rw [show its.toArray.any f=its.any f by simp,hfa]
  exact k'
 ·obtain ⟨its,r,pl,hz⟩:=I.tuple hq
  obtain ⟨f,hf,hfa⟩:=in_fun I (A:=X.A.in1) (show X.A.units+1+60 < cLine by lia) hd rx t r e2
  refine SeqAt.notIn_tupleAt f pl (fun w hw=>hf w (by simpa using hw)) ⟨.bl _,H,I,rfl,?_⟩
  rw [show its.toArray.any f=its.any f by simp,hfa]
  exact k'
theorem c_in (hu:X.A.units+64 < cLine):Cmp X .In Z.oIn:=⟨_,op_inD hu,fun x y dx dy d H Q h1 h2 e k=>by
 unfold Z.oIn at e
 split at e
 ·split at e
  ·rename_i b hb
   cases e
   obtain ⟨q,vs,rfl,hq,t⟩:=h2.tup
   exact ⟨dx,_,q,vs,b,h1,rfl,.inr hq,t,hb,k _ H (Same.refl H) den_bl⟩
  ·cases e
 ·split at e
  ·rename_i b hb
   cases e
   obtain ⟨q,vs,rfl,hq,t⟩:=h2.lst
   exact ⟨dx,_,q,vs,b,h1,rfl,.inl hq,t,hb,k _ H (Same.refl H) den_bl⟩
  ·cases e
 ·cases e⟩
theorem c_notIn (hu:X.A.units+64 < cLine):Cmp X .NotIn Z.oNotIn:=⟨_,op_notInD hu,fun x y dx dy d H Q h1 h2 e k=>by
 unfold Z.oNotIn at e
 split at e
 ·split at e
  ·rename_i b hb
   cases e
   obtain ⟨q,vs,rfl,hq,t⟩:=h2.tup
   exact ⟨dx,_,q,vs,b,h1,rfl,.inr hq,t,hb,k _ H (Same.refl H) den_bl⟩
  ·cases e
 ·split at e
  ·rename_i b hb
   cases e
   obtain ⟨q,vs,rfl,hq,t⟩:=h2.lst
   exact ⟨dx,_,q,vs,b,h1,rfl,.inl hq,t,hb,k _ H (Same.refl H) den_bl⟩
  ·cases e
 ·cases e⟩
theorem allB_ok : ∀ {xs : List Z.D} {k : Bool}, Z.allB xs = some k → ∃ bs : List Bool, xs = bs.map Z.D.bl ∧ k = bs.all id
 | [],k,h=>by cases h;exact ⟨[],rfl,rfl⟩
 | x :: xs,k,h=>by
  cases x with
  | bl b =>
   have h':(Z.allB xs).map (b&&·)=some k:=h
   cases q:Z.allB xs with
   | none=>rw [q] at h';cases h'
   | some k' =>
    rw [q] at h'
    cases h'
    obtain ⟨bs,rfl,rfl⟩:=allB_ok q
    exact ⟨b :: bs,rfl,rfl⟩
  | non=>cases h
  | int _=>cases h
  | str _=>cases h
  | tup _=>cases h
  | lst _=>cases h
  | dct _ _=>cases h
theorem dens_bls {K:PySem.W.Frag} {H:Hp}:∀ {bs:List Bool} {vs:List V},Dens K H (bs.map Z.D.bl) vs→vs=bs.map V.bl
 | [],vs,h=>by simp only [List.map_nil,Dens] at h;subst h;rfl
 | b :: bs,vs,h=>by
  simp only [List.map_cons,Dens] at h
  obtain ⟨v,r,rfl,hv,ht⟩:=h
  simp only [Den] at hv
  rw [hv,dens_bls ht];rfl
theorem all_range (bs:List Bool):((List.range bs.length).all fun i=>bs[i]?.getD true)=bs.all id:=by
 induction bs with
 | nil=>rfl
 | cons b bs ih =>
  rw [List.length_cons,List.range_succ_eq_map,List.all_cons,List.all_map,List.all_cons]
  have:((fun i=>((b :: bs)[i]?).getD true)∘Nat.succ)=fun i=>bs[i]?.getD true:=by funext i;simp
  rw [this,ih]
  simp
theorem call_allZ (hc:X.calm=true):CallR X (.builtin "all") (fun xs H Q=>∃ (q:Addr) (bs:List Bool),xs=[.ref q]∧SqL X.K H q (bs.map V.bl)∧Q (.bl (bs.all id)) H):=by
 intro pins s σ H xs us Q I r h
 obtain ⟨q,bs,rfl,hq,k⟩:=h
 obtain ⟨u,rfl,ru⟩:=vals1 r
 cases ru
 obtain ⟨its,rv,pl,hz⟩:=I.list hq
 have hl:=rv.length
 rw [List.length_map] at hl
 have hlt:q < s.heap.objs.size:=by obtain ⟨_,e,_⟩:=pl.isList;exact Heap.lt_size e
 have hh:X.A.in1.handled=none:=I.ok.hd hc
 refine call_all_walk (wpAny_pyIter_list pl.isList ?_)
 refine ⟨s.heap.objs.size,[s.heap.objs.size,q],[s.heap.objs.size],its.toArray.size,_,_,fun i=>bs[i]?.getD true,rfl,Walks.list hh s.heap.objs.size q (Nat.ne_of_lt hlt) its.toArray,⟨⟨_,Heap.get?_push_size _ rfl,rfl,rfl⟩,pl.isList.push _⟩,?_,fun h' tk hk=>?_⟩
 ·intro i v s' Q' E' hv hQ
  have hi:its[i]?=some v:=by simpa using hv
  obtain ⟨hi1,_⟩:=List.getElem?_eq_some_iff.mp hi
  have hb:(bs.map V.bl)[i]?=some (V.bl (bs[i]'(by lia))):=by
   rw [List.getElem?_map,List.getElem?_eq_getElem (by lia)];rfl
  obtain ⟨u,hu,ru⟩:=rv.get hb
  rw [hi] at hu;cases hu
  cases ru
  refine wpAny_truthy_bool ?_
  have:bs[i]?.getD true=bs[i]'(by lia):=by rw [List.getElem?_eq_getElem (by lia)];rfl
  rw [←this]
  exact hQ
 ·have I1:Inv X pins σ H { s with heap:=s.heap.push { cls:=.type "list_iterator",data:=.fields #[.ref q,.int 0 0] } }:=I.kept (t':=s.toks) fun b o e=>Heap.get?_push_of_some _ e
  obtain ⟨f0,f1,f2,f3,f4,f5⟩:=I.fpOk (H':=H) (Nat.le_refl s.heap.objs.size) I.fresh
  have I2:=I1.turned (h':=h') (t':=tk) (it:=s.heap.objs.size) (fun b o hb e=>hk b o (by simpa using hb) e) f0 f1 f3 f4 f5
  refine ⟨.bl _,H,I2,rfl,?_⟩
  have e:(List.range its.toArray.size).all (fun i=>bs[i]?.getD true)=bs.all id:=by
   rw [List.size_toArray,←hl,all_range]
  rw [e]
  exact k
theorem de_all {x : Str} {p1 : Pos} (hg : Gl X x) (hm : X.mg x = none) (hv : bootBuiltins x = some (.builtin "all")) (ha : DW X a fa) (hc : X.calm = true := by rfl) (hn : x ≠ "__name__" := by decide +kernel) (hdb : (x == ("__debug__" : Str)) = false := by decide +kernel)
  (he:starEach (a :: []) X.env=(false,eval a X.env) :: starEach [] X.env:=by rfl) (hpl:(backTo pos (starEach [] X.env)).any (·.1)=false:=by rfl):DE X (.Call (.Name x p1) [a] [] pos) (Z.eU Z.oAll fa) :=
 PE.imp (pe_callB (call_allZ hc) hg hm hv (pa_cons ha pa_nil he) hn hdb he hpl) fun σ H Q ⟨ρ,d,r,e,k⟩=>by
  obtain ⟨x,ea,e⟩:=Z.Res.bind_ok e
  refine ⟨ρ,x,r,ea,fun v H1 s1 d1=>?_⟩
  unfold Z.oAll at e
  split at e
  ·split at e
   ·rename_i xs k' hk
    cases e
    obtain ⟨bs,rfl,rfl⟩:=allB_ok hk
    obtain ⟨q,vs,rfl,hq,t⟩:=d1.lst
    rw [dens_bls t] at hq
    exact ⟨q,bs,rfl,hq,k _ H1 s1 den_bl⟩
   ·cases e
  ·cases e
end
section
variable {X:Cx} {es:List Expr} {f:Z.EF} {g:Z.AF}
theorem da_cConst {v j p} (ha:DE X (.Constant v j p) f) (hr:DA X es g):DA X ((.Constant v j p) :: es) (Z.aCons f g):=da_cons ha hr rfl
theorem da_cName {x p} (ha:DE X (.Name x p) f) (hr:DA X es g):DA X ((.Name x p) :: es) (Z.aCons f g):=da_cons ha hr rfl
theorem da_cTuple {xs j p} (ha:DE X (.Tuple xs j p) f) (hr:DA X es g):DA X ((.Tuple xs j p) :: es) (Z.aCons f g):=da_cons ha hr rfl
theorem da_cBin {x o y p} (ha:DE X (.BinOp x o y p) f) (hr:DA X es g):DA X ((.BinOp x o y p) :: es) (Z.aCons f g):=da_cons ha hr rfl
theorem da_cCall {x xs ks p} (ha:DE X (.Call x xs ks p) f) (hr:DA X es g):DA X ((.Call x xs ks p) :: es) (Z.aCons f g):=da_cons ha hr rfl
theorem da_cSub {x y p} (ha:DE X (.Subscript x y p) f) (hr:DA X es g):DA X ((.Subscript x y p) :: es) (Z.aCons f g):=da_cons ha hr rfl
end
end ZS
namespace ZQ
open PySem PySem.Spec PyProof.Rows L2 ZS
abbrev St:=L2.St
structure QE (X:Cx) (e:Expr) (f:Z.EF):Prop where p:DE X e f
structure QW (X:Cx) (e:Expr) (f:Z.EF):Prop where p:DW X e f
structure QL (X:Cx) (e:Expr) (f:Z.LF):Prop where p:DL X e f
structure QT (X:Cx) (e:Expr) (f:Z.TF):Prop where p:DT X e f
structure QTW (X:Cx) (e:Expr) (f:Z.TF):Prop where p:DTW X e f
structure QA (X:Cx) (es:List Expr) (f:Z.AF):Prop where p:DA X es f
structure QP (X:Cx) (e:Option Expr) (f:Z.PF):Prop where p:DP X e f
structure QI (X:Cx) (tg e:Expr) (f:Z.LF):Prop where p:DI X tg e f
structure QJ (X:Cx) (tg e:Expr) (f:Z.LF):Prop where p:DJ X tg e f
structure QS (X:Cx) (H0:Hp) (st:Stmt) (g:Z.SF):Prop where p:DS X H0 st g
structure QSs (X:Cx) (H0:Hp) (st:List Stmt) (g:Z.SF):Prop where p:DSs X H0 st g
structure QG (X:Cx) (H0:Hp) (tg:Expr) (g:Z.GF):Prop where p:DG X H0 tg g
structure QGs (X:Cx) (H0:Hp) (tgs:List Expr) (is:List Nat):Prop where p:DGs X H0 tgs is
structure QTst (X:Cx) (ifs:List Expr) (t:Z.TF):Prop where p:Tst X ifs t
section
variable {X:Cx} {tg e a b c elt iter:Expr} {es ifs:List Expr} {pos p:Pos} {f fa fb fc:Z.EF} {g u:Z.SF} {H0:Hp} {st:Stmt} {sts:List Stmt} {N':List Str} {n:Nat} {is:List Nat} {scope:Scope}
theorem de_int {i:Int} {j}:QE X (.Constant (.int i) j pos) (Z.eC (.int i)):=⟨ZS.de_int ⟩
theorem de_bl {x:Bool} {j}:QE X (.Constant (.bool x) j pos) (Z.eC (.bl x)):=⟨ZS.de_bl ⟩
theorem de_non {j}:QE X (.Constant .none j pos) (Z.eC .non):=⟨ZS.de_non ⟩
theorem de_str {x:Str} {cs:List Nat} {j} (h:x=⟨cs.toArray⟩):QE X (.Constant (.str x) j pos) (Z.eC (.str cs)):=⟨ZS.de_str (h:=h)⟩
theorem de_v (i:Nat) {x:Str} (hN:X.N[i]?=some x:=by rfl) (hv:Vis X.env.scope x:=by first | exact Or.inl rfl | exact Or.inr (Or.inl rfl) | exact Or.inr (Or.inr rfl)) (hd:(x==("__debug__" : Str))=false:=by decide +kernel) (hcd:(x==("__classdict__" : Str))=false:=by decide +kernel):QE X (.Name x pos) (Z.eV i):=⟨ZS.de_v (i:=i) (hN:=hN) (hv:=hv) (hd:=hd) (hcd:=hcd)⟩
theorem dw_v (i:Nat) {x:Str} (hN:X.N[i]?=some x:=by rfl) (hv:Vis X.env.scope x:=by first | exact Or.inl rfl | exact Or.inr (Or.inl rfl) | exact Or.inr (Or.inr rfl)) (hd:(x==("__debug__" : Str))=false:=by decide +kernel) (hcd:(x==("__classdict__" : Str))=false:=by decide +kernel):QW X (.Name x pos) (Z.eW i):=⟨ZS.dw_v (i:=i) (hN:=hN) (hv:=hv) (hd:=hd) (hcd:=hcd)⟩
theorem de_globI {X:Cx} {pos:Pos} {x:Str} {i:Int} {t:Tok} (hg:Gl X x) (hm:X.mg x=some (.int i t)) (hb:(x==("__debug__" : Str))=false:=by decide +kernel):QE X (.Name x pos) (Z.eC (.int i)):=⟨ZS.de_globI (hg:=hg) (hm:=hm) (hb:=hb)⟩
theorem dw_e (h:QE X e f):QW X e f:=⟨ZS.dw_e (h:=h.p)⟩
theorem dw_l {l:Z.LF} (h:QL X e l):QW X e (Z.eL l):=⟨ZS.dw_l (h:=h.p)⟩
theorem de_l {l:Z.LF} (h:QL X e l):QE X e (Z.eL l):=⟨ZS.de_l (h:=h.p)⟩
theorem de_sub (ha:QW X a fa) (hb:QW X b fb):QE X (.BinOp a .Sub b pos) (Z.eB Z.oSub fa fb):=⟨ZS.de_sub (ha:=ha.p) (hb:=hb.p)⟩
theorem de_mul (ha:QW X a fa) (hb:QW X b fb):QE X (.BinOp a .Mult b pos) (Z.eB Z.oMul fa fb):=⟨ZS.de_mul (ha:=ha.p) (hb:=hb.p)⟩
theorem de_div (ha:QW X a fa) (hb:QW X b fb):QE X (.BinOp a .FloorDiv b pos) (Z.eB Z.oDiv fa fb):=⟨ZS.de_div (ha:=ha.p) (hb:=hb.p)⟩
theorem de_mod (ha:QW X a fa) (hb:QW X b fb):QE X (.BinOp a .Mod b pos) (Z.eB Z.oMod fa fb):=⟨ZS.de_mod (ha:=ha.p) (hb:=hb.p)⟩
theorem de_shr (ha:QW X a fa) (hb:QW X b fb):QE X (.BinOp a .RShift b pos) (Z.eB Z.oShr fa fb):=⟨ZS.de_shr (ha:=ha.p) (hb:=hb.p)⟩
theorem de_pow (ha:QW X a fa) (hb:QW X b fb):QE X (.BinOp a .Pow b pos) (Z.eB Z.oPow fa fb):=⟨ZS.de_pow (ha:=ha.p) (hb:=hb.p)⟩
theorem de_add (ha:QW X a fa) (hb:QW X b fb):QE X (.BinOp a .Add b pos) (Z.eB Z.oAdd fa fb):=⟨ZS.de_add (ha:=ha.p) (hb:=hb.p)⟩
theorem de_neg (ha:QW X a fa):QE X (.UnaryOp .USub a pos) (Z.eU Z.oNeg fa):=⟨ZS.de_neg (ha:=ha.p)⟩
theorem de_cmpC {op:CmpOp} {o:Z.D→Z.D→Z.Res Z.D} (h:Cmp X op o) (ha:QW X a fa) (hb:QW X b fb) (hm:behindInMarks op b=false):QE X (.Compare a [op] [b] pos) (Z.eB o fa fb):=⟨ZS.de_cmpC (h:=h) (ha:=ha.p) (hb:=hb.p) (hm:=hm)⟩
theorem dt_cmpC {op:CmpOp} {o:Z.D→Z.D→Z.Res Z.D} (h:Cmp X op o) (ha:QW X a fa) (hb:QW X b fb) (hm:behindInMarks op b=false):QT X (.Compare a [op] [b] pos) (Z.tE (Z.eB o fa fb)):=⟨ZS.dt_cmpC (h:=h) (ha:=ha.p) (hb:=hb.p) (hm:=hm)⟩
theorem de_chain {op op':CmpOp} {o o':Z.D→Z.D→Z.Res Z.D} (h:Cmp X op o) (h':Cmp X op' o') (ha:QW X a fa) (hb:QW X b fb) (hc:QW X c fc) (hm:lastMarks [op,op'] [b,c]=false:=by with_unfolding_all rfl):QE X (.Compare a [op,op'] [b,c] pos) (Z.eChain o o' fa fb fc):=⟨ZS.de_chain (h:=h) (h':=h') (ha:=ha.p) (hb:=hb.p) (hc:=hc.p) (hm:=hm)⟩
theorem dt_chain {op op':CmpOp} {o o':Z.D→Z.D→Z.Res Z.D} (h:Cmp X op o) (h':Cmp X op' o') (ha:QW X a fa) (hb:QW X b fb) (hc:QW X c fc) (hm:lastMarks [op,op'] [b,c]=false:=by with_unfolding_all rfl):QT X (.Compare a [op,op'] [b,c] pos) (Z.tE (Z.eChain o o' fa fb fc)):=⟨ZS.dt_chain (h:=h) (h':=h') (ha:=ha.p) (hb:=hb.p) (hc:=hc.p) (hm:=hm)⟩
theorem de_one {op} (h:QE X a fa):QE X (.BoolOp op [a] pos) fa:=⟨ZS.de_one (h:=h.p)⟩
theorem de_and {rest:List Expr} (ha:QE X a fa) (hb:QE X (.BoolOp .And (b :: rest) pos) fb):QE X (.BoolOp .And (a :: b :: rest) pos) (Z.eAnd fa fb):=⟨ZS.de_and (ha:=ha.p) (hb:=hb.p)⟩
theorem de_or {rest:List Expr} (ha:QE X a fa) (hb:QE X (.BoolOp .Or (b :: rest) pos) fb):QE X (.BoolOp .Or (a :: b :: rest) pos) (Z.eOr fa fb):=⟨ZS.de_or (ha:=ha.p) (hb:=hb.p)⟩
theorem de_not (ha:QE X a fa):QE X (.UnaryOp .Not a pos) (Z.eNot fa):=⟨ZS.de_not (ha:=ha.p)⟩
theorem dt_e (h:QE X e f) (he:∀ whole,isTrue e X.env whole=(do let v ←whole;standAt e.pos;holding [v] (truthy v)):=by intro _;rfl):QT X e (Z.tE f):=⟨ZS.dt_e (h:=h.p) (he:=he)⟩
theorem dt_not {t:Z.TF} (h:QT X a t):QT X (.UnaryOp .Not a pos) (Z.tNot t):=⟨ZS.dt_not (h:=h.p)⟩
theorem dt_and1 {t:Z.TF} (h:QT X a t):QTW X (.BoolOp .And [a] pos) t:=⟨ZS.dt_and1 (h:=h.p)⟩
theorem dt_or1 {t:Z.TF} (h:QT X a t):QTW X (.BoolOp .Or [a] pos) t:=⟨ZS.dt_or1 (h:=h.p)⟩
theorem dt_and {t u:Z.TF} {rest:List Expr} (ha:QT X a t) (hb:QTW X (.BoolOp .And (b :: rest) pos) u):QTW X (.BoolOp .And (a :: b :: rest) pos) (Z.tAnd t u):=⟨ZS.dt_and (ha:=ha.p) (hb:=hb.p)⟩
theorem dt_or {t u:Z.TF} {rest:List Expr} (ha:QT X a t) (hb:QTW X (.BoolOp .Or (b :: rest) pos) u):QTW X (.BoolOp .Or (a :: b :: rest) pos) (Z.tOr t u):=⟨ZS.dt_or (ha:=ha.p) (hb:=hb.p)⟩
theorem dtw {t:Z.TF} (h:QTW X e t):QT X e t:=⟨ZS.dtw (h:=h.p)⟩
theorem da_nil  : QA X [] Z.aNil:=⟨ZS.da_nil ⟩
theorem da_cConst {g:Z.AF} {v j p} (ha:QE X (.Constant v j p) f) (hr:QA X es g):QA X ((.Constant v j p) :: es) (Z.aCons f g):=⟨ZS.da_cConst (ha:=ha.p) (hr:=hr.p)⟩
theorem da_cName {g:Z.AF} {x p} (ha:QE X (.Name x p) f) (hr:QA X es g):QA X ((.Name x p) :: es) (Z.aCons f g):=⟨ZS.da_cName (ha:=ha.p) (hr:=hr.p)⟩
theorem da_cTuple {g:Z.AF} {xs j p} (ha:QE X (.Tuple xs j p) f) (hr:QA X es g):QA X ((.Tuple xs j p) :: es) (Z.aCons f g):=⟨ZS.da_cTuple (ha:=ha.p) (hr:=hr.p)⟩
theorem da_cBin {g:Z.AF} {x o y p} (ha:QE X (.BinOp x o y p) f) (hr:QA X es g):QA X ((.BinOp x o y p) :: es) (Z.aCons f g):=⟨ZS.da_cBin (ha:=ha.p) (hr:=hr.p)⟩
theorem da_cCall {g:Z.AF} {x xs ks p} (ha:QE X (.Call x xs ks p) f) (hr:QA X es g):QA X ((.Call x xs ks p) :: es) (Z.aCons f g):=⟨ZS.da_cCall (ha:=ha.p) (hr:=hr.p)⟩
theorem da_cSub {g:Z.AF} {x y p} (ha:QE X (.Subscript x y p) f) (hr:QA X es g):QA X ((.Subscript x y p) :: es) (Z.aCons f g):=⟨ZS.da_cSub (ha:=ha.p) (hr:=hr.p)⟩
theorem de_tup {x1} {g:Z.AF} (h:QA X es g):QE X (.Tuple es x1 pos) (Z.eTup g):=⟨ZS.de_tup (h:=h.p)⟩
theorem dl_disp {g:Z.AF} (h:QA X es g):QL X (.List es pos) (Z.lDisp g):=⟨ZS.dl_disp (h:=h.p)⟩
theorem de_isinst (t:Z.Ty) {x y:Str} {p1 p2:Pos} (hg:Gl X x) (hm:X.mg x=none) (hv:bootBuiltins x=some (.builtin "isinstance")) (hg2:Gl X y) (hm2:X.mg y=none) (hv2:bootBuiltins y=some (.type (tyC t))) (ha:QW X a fa) (hn:x ≠ "__name__" := by decide +kernel) (hdb:(x==("__debug__" : Str))=false:=by decide +kernel) (hn2:y ≠ "__name__" := by decide +kernel) (hdb2:(y==("__debug__" : Str))=false:=by decide +kernel) (he:starEach (a :: [.Name y p2]) X.env=(false,eval a X.env) :: starEach [.Name y p2] X.env:=by rfl) (hpl:(backTo pos (starEach [.Name y p2] X.env)).any (·.1)=false:=by rfl) (he2:starEach ((.Name y p2) :: []) X.env=(false,eval (.Name y p2) X.env) :: starEach [] X.env:=by rfl):QE X (.Call (.Name x p1) [a,.Name y p2] [] pos) (Z.eU (Z.oIsTy t) fa):=⟨ZS.de_isinst (t:=t) (hg:=hg) (hm:=hm) (hv:=hv) (hg2:=hg2) (hm2:=hm2) (hv2:=hv2) (ha:=ha.p) (hn:=hn) (hdb:=hdb) (hn2:=hn2) (hdb2:=hdb2) (he:=he) (hpl:=hpl) (he2:=he2)⟩
theorem de_len {x:Str} {p1:Pos} (hg:Gl X x) (hm:X.mg x=none) (hv:bootBuiltins x=some (.builtin "len")) (ha:QW X a fa) (hn:x ≠ "__name__" := by decide +kernel) (hdb:(x==("__debug__" : Str))=false:=by decide +kernel) (he:starEach (a :: []) X.env=(false,eval a X.env) :: starEach [] X.env:=by rfl) (hpl:(backTo pos (starEach [] X.env)).any (·.1)=false:=by rfl):QE X (.Call (.Name x p1) [a] [] pos) (Z.eU Z.oLen fa):=⟨ZS.de_len (hg:=hg) (hm:=hm) (hv:=hv) (ha:=ha.p) (hn:=hn) (hdb:=hdb) (he:=he) (hpl:=hpl)⟩
theorem de_ix (ha:QW X a fa) (hb:QW X b fb) (hs:PlainIx b:=by intro _ _;rfl):QE X (.Subscript a b pos) (Z.eB Z.oIx fa fb):=⟨ZS.de_ix (ha:=ha.p) (hb:=hb.p) (hs:=hs)⟩
theorem dp_no  : QP X none Z.pNo:=⟨ZS.dp_no ⟩
theorem dp_at (h:QW X e f):QP X (some e) (Z.pAt f):=⟨ZS.dp_at (h:=h.p)⟩
theorem de_slice {lo hi:Option Expr} {gl gh:Z.PF} {p2:Pos} (ha:QW X a fa) (hl:QP X lo gl) (hh:QP X hi gh):QE X (.Subscript a (.Slice lo hi none p2) pos) (Z.eSl fa gl gh):=⟨ZS.de_slice (ha:=ha.p) (hl:=hl.p) (hh:=hh.p)⟩
theorem dl_slice {lo hi:Option Expr} {gl gh:Z.PF} {p2:Pos} (ha:QW X a fa) (hl:QP X lo gl) (hh:QP X hi gh):QL X (.Subscript a (.Slice lo hi none p2) pos) (Z.lSl fa gl gh):=⟨ZS.dl_slice (ha:=ha.p) (hl:=hl.p) (hh:=hh.p)⟩
theorem dl_cat (ha:QW X a fa) (hb:QW X b fb):QL X (.BinOp a .Add b pos) (Z.lCat fa fb):=⟨ZS.dl_cat (ha:=ha.p) (hb:=hb.p)⟩
theorem de_callC {k:Nat} {ps:List Str} {x:Str} {m:List Z.D→Z.Res Z.D} {ar:Z.AF} {p1:Pos} (C:Cal X.prog X.w X.K X.mg X.base x k ps m) (hr:Room k X.A) (hg:Gl X x) (ha:QA X (e :: es) ar) (hdb:(x==("__debug__" : Str))=false:=by decide +kernel) (he:starEach (e :: es) X.env=(false,eval e X.env) :: starEach es X.env:=by rfl) (hpl:(backTo pos (starEach es X.env)).any (·.1)=false:=by rfl):QE X (.Call (.Name x p1) (e :: es) [] pos) (Z.eCall m ar):=⟨ZS.de_callC (C:=C) (hr:=hr) (hg:=hg) (ha:=ha.p) (hdb:=hdb) (he:=he) (hpl:=hpl)⟩
theorem di_j {g:Z.LF} (h:QJ X tg e g):QI X tg e g:=⟨ZS.di_j (h:=h.p)⟩
theorem dj_rng1 (hg:Gl X "range") (hm:X.mg "range" = none) (ha:QE X a fa) (hs:starEach [a] X.env=[(false,eval a X.env)]:=by rfl) (hs1:starEach (a :: []) X.env=(false,eval a X.env) :: starEach [] X.env:=by rfl):QJ X tg (.Call (.Name "range" p) [a] [] pos) (Z.iRng1 fa):=⟨ZS.dj_rng1 (hg:=hg) (hm:=hm) (ha:=ha.p) (hs:=hs) (hs1:=hs1)⟩
theorem di_seq (ha:QW X a fa):QI X tg a (Z.iSeq fa):=⟨ZS.di_seq (ha:=ha.p)⟩
theorem dj_seq (ha:QE X a fa):QJ X tg a (Z.iSeq fa):=⟨ZS.dj_seq (ha:=ha.p)⟩
theorem dss_nil  : QSs X H0 [] Z.sNext:=⟨ZS.dss_nil ⟩
theorem dss_one (h:QS X H0 st g):QSs X H0 [st] g:=⟨ZS.dss_one (h:=h.p)⟩
theorem dss_cons (h1:QS X H0 st g) (h2:QSs X H0 sts u):QSs X H0 (st :: sts) (Z.sSeq g u):=⟨ZS.dss_cons (h1:=h1.p) (h2:=h2.p)⟩
theorem ds_ret (h:QE X a fa):QS X H0 (.Return (some a) pos) (Z.sRet fa):=⟨ZS.ds_ret (h:=h.p)⟩
theorem ds_if {c:Expr} {b1 b2:List Stmt} {t:Z.TF} (hc:QT X c t) (h1:QSs X H0 b1 g) (h2:QSs X H0 b2 u):QS X H0 (.If c b1 b2 pos) (Z.sIf t g u):=⟨ZS.ds_if (hc:=hc.p) (h1:=h1.p) (h2:=h2.p)⟩
theorem ds_set {i:Nat} {x:Str} {pos':Pos} (hN:X.N.Nodup) (hi:X.N[i]?=some x) (hx:Loc X.env.scope x) (he:QE X a fa) (hs:swapsWith a (some (.Name x pos')) pos.line X.env=pure false:=by rfl) (hf:X.fn x=true∨X.env.scope.names.lookup x=some .local:=by first | exact .inl rfl | exact .inr rfl | assumption):QS X H0 (.Assign [.Name x pos'] a pos) (Z.sSet i fa):=⟨ZS.ds_set (hN:=hN) (hi:=hi) (hx:=hx) (he:=he.p) (hs:=hs) (hf:=hf)⟩
theorem ds_own {i:Nat} {x:Str} {pos':Pos} {l:Z.LF} (hN:X.N.Nodup) (hi:X.N[i]?=some x) (hx:Loc X.env.scope x) (he:QL X a l) (hs:swapsWith a (some (.Name x pos')) pos.line X.env=pure false:=by rfl) (hf:X.fn x=true∨X.env.scope.names.lookup x=some .local:=by first | exact .inl rfl | exact .inr rfl | assumption):QS X H0 (.Assign [.Name x pos'] a pos) (Z.sOwn i l):=⟨ZS.ds_own (hN:=hN) (hi:=hi) (hx:=hx) (he:=he.p) (hs:=hs) (hf:=hf)⟩
theorem dg_name {i:Nat} {x:Str} (hN:X.N.Nodup) (hi:X.N[i]?=some x) (hx:Loc X.env.scope x) (hf:X.fn x=true∨X.env.scope.names.lookup x=some .local:=by first | exact .inl rfl | exact .inr rfl | assumption):QG X H0 (.Name x pos) (Z.gName i):=⟨ZS.dg_name (hN:=hN) (hi:=hi) (hx:=hx) (hf:=hf)⟩
theorem dgs_nil  : QGs X H0 [] []:=⟨ZS.dgs_nil ⟩
theorem dgs_cons {i:Nat} {is:List Nat} {x:Str} (hN:X.N.Nodup) (hi:X.N[i]?=some x) (hx:Loc X.env.scope x) (h2:QGs X H0 es is) (hs:(assignEach ((.Name x pos) :: es) X.env).map (·.2)=assign (.Name x pos) X.env :: (assignEach es X.env).map (·.2):=by rfl) (hf:X.fn x=true∨X.env.scope.names.lookup x=some .local:=by first | exact .inl rfl | exact .inr rfl | assumption):QGs X H0 (.Name x pos :: es) (i :: is):=⟨ZS.dgs_cons (hN:=hN) (hi:=hi) (hx:=hx) (h2:=h2.p) (hs:=hs) (hf:=hf)⟩
theorem dg_tup {x1 n:Nat} {is:List Nat} (hc:X.calm=true) (h:QGs X H0 es is) (hl:is.length=n) (hn:(assignEach es X.env).length=n:=by rfl) (hst:(assignEach es X.env).findIdx? (·.1)=none:=by rfl):QG X H0 (.Tuple es x1 pos) (Z.gTup is):=⟨ZS.dg_tup (hc:=hc) (h:=h.p) (hl:=hl) (hn:=hn) (hst:=hst)⟩
theorem ds_get {g:Z.GF} (he:QE X a fa) (hg:QG X H0 tg g) (hs:swapsWithSole [tg] a pos.line X.env=pure false:=by rfl) (hw:swappedStores [tg] a X.env=pure none:=by rfl) (h1:(assignEach [tg] X.env).map (·.2)=[assign tg X.env]:=by rfl):QS X H0 (.Assign [tg] a pos) (Z.sGet fa g):=⟨ZS.ds_get (he:=he.p) (hg:=hg.p) (hs:=hs) (hw:=hw) (h1:=h1)⟩
theorem ds_for {it:Z.LF} {G:Z.GF} {iter:Expr} {body:List Stmt} (hp:PassesOwn (model X.prog X.w) X.A X.env X.xe) (hc:X.calm=true) (hi:QJ X tg iter it) (hg:QG X H0 tg G) (hb:QSs X H0 body g) (hs:∀ x,foldedSetIterable iter X.env x=pure x:=by intro _;rfl):QS X H0 (.For tg iter body [] pos) (Z.sFor it G g):=⟨ZS.ds_for (hp:=hp) (hc:=hc) (hi:=hi.p) (hg:=hg.p) (hb:=hb.p) (hs:=hs)⟩
theorem dss_frz {i:Nat} (h:QSs X H0 sts g):QSs X H0 sts (Z.sFrz i g):=⟨ZS.dss_frz (h:=h.p)⟩
theorem dl_comp {it:Z.LF} {G:Z.GF} {t:Z.TF} {fe:Z.EF} (hcalm:X.calm=true) (hi:QI X tg iter it) (B:Blk X.N N' n is scope X.env.scope) (hG:∀ d ρ ρ1,G d ρ=.ok ρ1→ρ1.length=ρ.length∧∀ i,n≤i→ρ1[i]?=ρ[i]?) (hg:∀ cl C fp s H H0,QG (blk X N' scope cl C fp s H) H0 tg G) (ht:∀ cl C fp s H,QTst (blk X N' scope cl C fp s H) ifs t) (he:∀ cl C fp s H,QE (blk X N' scope cl C fp s H) elt fe) (hs:∀ x,foldedSetIterable iter X.env x=pure x:=by intro _;rfl):QL X (.ListComp elt [⟨tg,iter,ifs,0⟩] scope pos) (Z.lComp it n is G t fe):=⟨ZS.dl_comp (hcalm:=hcalm) (hi:=hi.p) (B:=B) (hG:=hG) (hg:=fun y0 y1 y2 y3 y4 y5=>(hg y0 y1 y2 y3 y4 y5).p) (ht:=fun y0 y1 y2 y3 y4=>(ht y0 y1 y2 y3 y4).p) (he:=fun y0 y1 y2 y3 y4=>(he y0 y1 y2 y3 y4).p) (hs:=hs)⟩
theorem ds_setC {H0:Hp} {it:Z.LF} {G:Z.GF} {t:Z.TF} {fe:Z.EF} {i:Nat} {x:Str} {px spos:Pos} (hcalm:X.calm=true) (hN:X.N.Nodup) (hix:X.N[i]?=some x) (hx:Loc X.env.scope x) (hi:QI X tg iter it) (B:Blk X.N N' n is scope X.env.scope) (hG:∀ d ρ ρ1,G d ρ=.ok ρ1→ρ1.length=ρ.length∧∀ i,n≤i→ρ1[i]?=ρ[i]?) (hg:∀ cl C fp s H H0,QG (blk X N' scope cl C fp s H) H0 tg G) (ht:∀ cl C fp s H,QTst (blk X N' scope cl C fp s H) ifs t) (he:∀ cl C fp s H,QE (blk X N' scope cl C fp s H) elt fe) (hsw:swapsWith (.ListComp elt [⟨tg,iter,ifs,0⟩] scope pos) (some (.Name x px)) spos.line X.env=pure true:=by rfl) (hs:∀ x,foldedSetIterable iter X.env x=pure x:=by intro _;rfl) (hf:X.fn x=true∨X.env.scope.names.lookup x=some .local:=by first | exact .inl rfl | exact .inr rfl | assumption):QS X H0 (.Assign [.Name x px] (.ListComp elt [⟨tg,iter,ifs,0⟩] scope pos) spos) (Z.sSet i (Z.eL (Z.lComp it n is G t fe))):=⟨ZS.ds_setC (hcalm:=hcalm) (hN:=hN) (hix:=hix) (hx:=hx) (hi:=hi.p) (B:=B) (hG:=hG) (hg:=fun y0 y1 y2 y3 y4 y5=>(hg y0 y1 y2 y3 y4 y5).p) (ht:=fun y0 y1 y2 y3 y4=>(ht y0 y1 y2 y3 y4).p) (he:=fun y0 y1 y2 y3 y4=>(he y0 y1 y2 y3 y4).p) (hsw:=hsw) (hs:=hs) (hf:=hf)⟩
theorem tst_no  : QTst X [] Z.tTrue:=⟨ZS.tst_no ⟩
theorem tst_one {c:Expr} {t:Z.TF} (h:QT X c t):QTst X [c] t:=⟨ZS.tst_one (h:=h.p)⟩
theorem de_all {x:Str} {p1:Pos} (hg:Gl X x) (hm:X.mg x=none) (hv:bootBuiltins x=some (.builtin "all")) (ha:QW X a fa) (hc:X.calm=true:=by rfl) (hn:x ≠ "__name__" := by decide +kernel) (hdb:(x==("__debug__" : Str))=false:=by decide +kernel) (he:starEach (a :: []) X.env=(false,eval a X.env) :: starEach [] X.env:=by rfl) (hpl:(backTo pos (starEach [] X.env)).any (·.1)=false:=by rfl):QE X (.Call (.Name x p1) [a] [] pos) (Z.eU Z.oAll fa):=⟨ZS.de_all (hg:=hg) (hm:=hm) (hv:=hv) (ha:=ha.p) (hc:=hc) (hn:=hn) (hdb:=hdb) (he:=he) (hpl:=hpl)⟩
theorem calQ {P:Program} {w:World} {K:PySem.W.Frag} {mg:Str→Option Value} {base:Heap} {x:Str} {k:Nat} {st:Stmt} {N ps:List Str} {b:Z.SF} (d:ZS.Def K mg x st ps) (S:FnScope N ps (defScope st))
  (hb:∀ (f:Addr) (cdv:Value) (A:Around) (outer:List PySem.Env) (s:Shared) (H:Hp) (E:XK),Room k (A.deeper (envOfC x (defScope st) s.heap.objs.size f cdv)) →
   QSs (cxOf CX0 P w K mg base N x (defScope st) f cdv A outer s H E).nox H (defBody st) b):ZS.Cal P w K mg base x (k+1) ps (Z.fn ps.length N.length b) :=
 ZS.Cal.mk' d S fun f cdv A outer s H E hr=>(hb f cdv A outer s H E hr).p
theorem fnQ {P:Program} {w:World} {K:PySem.W.Frag} {mg:Str→Option Value} {base:Heap} {x qual:Str} {st:Stmt} {f:Addr} {fd:FuncData} {N ps:List Str} {k:Nat} {b:Z.SF} (F:Fun K x qual st f fd) (S:FnScope N ps (defScope st))
  (hb:∀ (cdv:Value) (A:Around) (outer:List PySem.Env) (s:Shared) (H:Hp) (E:XK),Room k (A.deeper (envOfC qual (defScope st) s.heap.objs.size f cdv)) →
   QSs (cxOf CX0 P w K mg base N qual (defScope st) f cdv A outer s H E).nox H (defBody st) b):FnOk P w K mg base CX0 (k+1) f fd ps (ZS.spZ K (Z.fn ps.length N.length b)) :=
 ZS.fnZ F S fun cdv A outer s H E hr=>(hb cdv A outer s H E hr).p
end
end ZQ
noncomputable section
namespace Z
def oTuple:D→Res D
 | .lst xs=>.ok (.tup xs)
 | .tup xs=>.ok (.tup xs)
 | _=>.bad
@[simp] theorem oTuple_lst (xs:List D):oTuple (.lst xs)=.ok (.tup xs):=rfl
@[simp] theorem oTuple_tup (xs:List D):oTuple (.tup xs)=.ok (.tup xs):=rfl
def oInRng:D→D→Res D
 | .int i,.int j=>.ok (.bl (decide (0≤i∧i < j)))
 | _,_=>.bad
@[simp] theorem oInRng_int (i j:Int):oInRng (.int i) (.int j)=.ok (.bl (decide (0≤i∧i < j))):=rfl
def oNotInRng:D→D→Res D
 | .int i,.int j=>.ok (.bl (!decide (0≤i∧i < j)))
 | _,_=>.bad
@[simp] theorem oNotInRng_int (i j:Int):oNotInRng (.int i) (.int j)=.ok (.bl (!decide (0≤i∧i < j))):=rfl
def letters:List Nat:=[97,98,99,100,101,102,103,104,105,106,107,108,109,110,111,112,113,114,115,116,117,118,119,120,121,122]
def signs:List Nat:=[46,61,35,97,98,99,100,101,102,103,104,105,106,107,108,109,110,111,112,113,114,115,116,117,118,119,120,121,122]
def oMax:D→D→Res D
 | .int i,.int j=>.ok (.int (max i j))
 | _,_=>.bad
@[simp] theorem oMax_int (i j:Int):oMax (.int i) (.int j)=.ok (.int (max i j)):=rfl
def oMin:D→D→Res D
 | .int i,.int j=>.ok (.int (min i j))
 | _,_=>.bad
@[simp] theorem oMin_int (i j:Int):oMin (.int i) (.int j)=.ok (.int (min i j)):=rfl
def oInt:D→Res D
 | .int i=>.ok (.int i)
 | .bl b=>.ok (.int (if b then 1 else 0))
 | _=>.bad
@[simp] theorem oInt_int (i:Int):oInt (.int i)=.ok (.int i):=rfl
@[simp] theorem oInt_bl (b:Bool):oInt (.bl b)=.ok (.int (if b then 1 else 0)):=rfl
def lOf (a:EF) (ρ:Env):Res (List D):=(a ρ).bind fun x=>match x with
 | .lst xs=>.ok xs
 | .tup xs=>.ok xs
 | _=>.bad
def listK:D→Res (List D)
 | .lst xs=>.ok xs
 | .tup xs=>.ok xs
 | _=>.bad
@[simp] theorem lOf_a (a:EF) (ρ:Env):lOf a ρ=(a ρ).bind listK:=rfl
@[simp] theorem listK_lst (xs:List D):listK (.lst xs)=.ok xs:=rfl
@[simp] theorem listK_tup (xs:List D):listK (.tup xs)=.ok xs:=rfl
def sExt (i:Nat) (l:LF) (ρ:Env):Res Fl:=(l ρ).bind fun ys=>match ρ[i]? with
 | some (some (.own xs))=>guard (xs.length+ys.length≤line) (.ok (.nx (ρ.set i (some (.own (xs++ys))))))
 | _=>.bad
def pair (a b:D):D:=.tup [a,b]
def enumD (k:Nat):List D→List D
 | []=>[]
 | d :: ds=>pair (.int k) d :: enumD (k+1) ds
def zipD:List D→List D→List D
 | a :: as,b :: bs=>pair a b :: zipD as bs
 | _,_=>[]
def iEnum (a:EF) (ρ:Env):Res (List D):=(a ρ).bind fun x=>(iterD x).bind fun ds=>.ok (enumD 0 ds)
@[simp] theorem iEnum_a (a:EF) (ρ:Env):iEnum a ρ=(a ρ).bind fun x=>(iterD x).bind fun ds=>.ok (enumD 0 ds):=rfl
def seqD:D→Res (List D)
 | .tup xs=>.ok xs
 | .lst xs=>.ok xs
 | _=>.bad
@[simp] theorem seqD_tup (xs:List D):seqD (.tup xs)=.ok xs:=rfl
@[simp] theorem seqD_lst (xs:List D):seqD (.lst xs)=.ok xs:=rfl
def tupD:D→Res (List D)
 | .tup xs=>.ok xs
 | _=>.bad
@[simp] theorem tupD_tup (xs:List D):tupD (.tup xs)=.ok xs:=rfl
def iZip (a b:EF) (ρ:Env):Res (List D):=(a ρ).bind fun x=>(b ρ).bind fun y=>(seqD x).bind fun xs=>(tupD y).bind fun ys=>.ok (zipD xs ys)
@[simp] theorem iZip_a (a b:EF) (ρ:Env):iZip a b ρ=(a ρ).bind fun x=>(b ρ).bind fun y=>(seqD x).bind fun xs=>(tupD y).bind fun ys=>.ok (zipD xs ys):=rfl
end Z
end
namespace ZS
open PySem PySem.Spec PyProof.Rows L2
section
variable {X:Cx} {e a b:Expr} {es:List Expr} {pos p:Pos} {f fa fb:Z.EF}
theorem de_tuple {x:Str} {p1:Pos} (hg:Gl X x) (hm:X.mg x=none) (hv:bootBuiltins x=some (.type "tuple")) (ha:DW X a fa) (hn:x ≠ "__name__" := by decide +kernel) (hdb:(x==("__debug__" : Str))=false:=by decide +kernel)
  (he:starEach (a :: []) X.env=(false,eval a X.env) :: starEach [] X.env:=by rfl) (hpl:(backTo pos (starEach [] X.env)).any (·.1)=false:=by rfl):DE X (.Call (.Name x p1) [a] [] pos) (Z.eU Z.oTuple fa) :=
 PE.imp (pe_callTy call_tuple_of hg hm hv (pa_cons ha pa_nil he) hn hdb he hpl) fun σ H Q ⟨ρ,d,r,e,k⟩=>by
  obtain ⟨x,ea,e⟩:=Z.Res.bind_ok e
  refine ⟨ρ,x,r,ea,fun v H1 s1 d1=>?_⟩
  unfold Z.oTuple at e
  split at e
  ·cases e
   obtain ⟨q,vs,rfl,hq,t⟩:=d1.lst
   refine ⟨q,vs,rfl,.inl ⟨hq,fun l hl=>?_⟩⟩
   have s2:Same H1 (upd H1 l (.tup vs)):=upd_Same hl
   exact k _ _ (s1.trans s2) (den_tup (.inl (.inl upd_same)) (t.up s2))
  ·cases e
   obtain ⟨q,vs,rfl,hq,t⟩:=d1.tup
   exact ⟨q,vs,rfl,.inr ⟨hq,k _ H1 s1 (den_tup hq t)⟩⟩
  ·cases e
end
end ZS
namespace ZQ
open PySem PySem.Spec PyProof.Rows L2 ZS
section
variable {X:Cx} {tg e a b c:Expr} {es:List Expr} {pos p:Pos} {f fa fb fc:Z.EF} {H0:Hp}
theorem de_tuple {x:Str} {p1:Pos} (hg:Gl X x) (hm:X.mg x=none) (hv:bootBuiltins x=some (.type "tuple")) (ha:QW X a fa) (hn:x ≠ "__name__" := by decide +kernel) (hdb:(x==("__debug__" : Str))=false:=by decide +kernel) (he:starEach (a :: []) X.env=(false,eval a X.env) :: starEach [] X.env:=by rfl) (hpl:(backTo pos (starEach [] X.env)).any (·.1)=false:=by rfl):QE X (.Call (.Name x p1) [a] [] pos) (Z.eU Z.oTuple fa):=⟨ZS.de_tuple (hg:=hg) (hm:=hm) (hv:=hv) (ha:=ha.p) (hn:=hn) (hdb:=hdb) (he:=he) (hpl:=hpl)⟩
end
end ZQ
namespace ZS
open PySem PySem.Spec PyProof.Rows L2
section
variable {X:Cx} {e a b:Expr} {es:List Expr} {pos p:Pos} {f fa fb:Z.EF}
theorem dl_list {x:Str} {p1:Pos} (hg:Gl X x) (hm:X.mg x=none) (hv:bootBuiltins x=some (.type "list")) (ha:DW X a fa) (hn:x ≠ "__name__" := by decide +kernel) (hdb:(x==("__debug__" : Str))=false:=by decide +kernel)
  (he:starEach (a :: []) X.env=(false,eval a X.env) :: starEach [] X.env:=by rfl) (hpl:(backTo pos (starEach [] X.env)).any (·.1)=false:=by rfl):DL X (.Call (.Name x p1) [a] [] pos) (Z.lOf fa) :=
 PE.imp (pe_callTy call_list_of hg hm hv (pa_cons ha pa_nil he) hn hdb he hpl) fun σ H Q ⟨ρ,d,r,e,k⟩=>by
  obtain ⟨x,ea,e⟩:=Z.Res.bind_ok e
  refine ⟨ρ,x,r,ea,fun v H1 s1 d1=>?_⟩
  split at e
  ·cases e
   obtain ⟨q,vs,rfl,hq,t⟩:=d1.lst
   refine ⟨q,vs,rfl,.inl hq,fun l hl=>?_⟩
   have s2:Same H1 (upd H1 l (.lst vs)):=upd_Same hl
   exact k l _ _ (s1.trans s2) (s1.free hl) upd_same (t.up s2)
  ·cases e
   obtain ⟨q,vs,rfl,hq,t⟩:=d1.tup
   refine ⟨q,vs,rfl,.inr hq,fun l hl=>?_⟩
   have s2:Same H1 (upd H1 l (.lst vs)):=upd_Same hl
   exact k l _ _ (s1.trans s2) (s1.free hl) upd_same (t.up s2)
  ·cases e
theorem ds_extend {i:Nat} {o:Expr} {p1 p2:Pos} {l:Z.LF} {H0:Hp} (hs:swapsWith (.Call (.Attribute o "extend" p1) [a] [] p2) none pos.line X.env=pure false:=by rfl)
  (hbm:PE X (.Call (.Attribute o "extend" p1) [a] [] p2) (tBM X.K "list" rExtend (tVar i) (tCons (tZl X.K l) tNil))) :
  DS X H0 (.Expr (.Call (.Attribute o "extend" p1) [a] [] p2) pos) (Z.sExt i l):=PS.imp (ps_expr hbm hs) fun D σ H ⟨ρ,fl,rs,e,k⟩=>by
 obtain ⟨ys,ea,e⟩:=Z.Res.bind_ok e
 split at e
 ·rename_i xs ei
  unfold Z.guard at e
  split at e
  ·rename_i hl
   cases e
   obtain ⟨v,si,q,us,rfl,hq,t⟩:=rs.re.get i _ ei
   refine ⟨.ref q,si,.inl ⟨rfl,us,SqL.of hq⟩,ρ,ys,rs.re,ea,fun c vs H1 s1 hn hc tc=>?_⟩
   have hq1:H1 q=some (.lst us):=s1 _ _ hq
   refine ⟨q,c,us,vs,rfl,rfl,hq1,hc,by rw [t.length,tc.length,sizeLine_eq];exact hl,?_⟩
   exact k σ _ ((stb s1).trans (stb_lst hq1)) ((rs.up s1).chg ei si hq1 ((t.up s1).append tc))
  ·cases e
 ·cases e
end
end ZS
namespace ZQ
open PySem PySem.Spec PyProof.Rows L2 ZS
section
variable {X:Cx} {tg e a b c:Expr} {es:List Expr} {pos p:Pos} {f fa fb fc:Z.EF} {H0:Hp}
theorem dl_list {x:Str} {p1:Pos} (hg:Gl X x) (hm:X.mg x=none) (hv:bootBuiltins x=some (.type "list")) (ha:QW X a fa) (hn:x ≠ "__name__" := by decide +kernel) (hdb:(x==("__debug__" : Str))=false:=by decide +kernel) (he:starEach (a :: []) X.env=(false,eval a X.env) :: starEach [] X.env:=by rfl) (hpl:(backTo pos (starEach [] X.env)).any (·.1)=false:=by rfl):QL X (.Call (.Name x p1) [a] [] pos) (Z.lOf fa):=⟨ZS.dl_list (hg:=hg) (hm:=hm) (hv:=hv) (ha:=ha.p) (hn:=hn) (hdb:=hdb) (he:=he) (hpl:=hpl)⟩
theorem ds_ext {i:Nat} {o:Expr} {p1 p2:Pos} {l:Z.LF} (ho:PE X o (tVar i)) (ha:QL X a l) (hs:swapsWith (.Call (.Attribute o "extend" p1) [a] [] p2) none pos.line X.env=pure false:=by rfl) (hs1:starEach (a :: []) X.env=(false,eval a X.env) :: starEach [] X.env:=by rfl)
  (hbase:attributeBase o "extend" X.env (eval o X.env)=eval o X.env:=by rfl)
  (hfew:((backTo p2 (starEach (a :: []) X.env)).all (fun x=>!x.1)&&(backToKw p2 (keywordEach [] X.env)).all (fun x=>x.1.isSome)
   && decide ((a :: []).length+([]:List Keyword).length+(if ([]:List Keyword).isEmpty then 0 else 1) < 30))=true:=by rfl)
  (hline:(p1.endLine==p2.line)=true:=by rfl) (hplain:(backTo p2 (starEach [] X.env)).any (·.1)=false:=by rfl) :
  QS X H0 (.Expr (.Call (.Attribute o "extend" p1) [a] [] p2) pos) (Z.sExt i l) :=
 ⟨ZS.ds_extend hs (pe_bm PySem.F.plainAttrs_list PySem.F.slot_list_extend PySem.F.type_list_extend mt_extend ho (pa_cons ha.p pa_nil hs1) hbase hfew hline hs1 hplain)⟩
end
end ZQ
namespace ZS
open PySem PySem.Spec PyProof.Rows L2 PySem.W
theorem weight_ints {i:Int}:∀ {ns:List Int},i∈ns→WData.weight (.int i)≤WData.weightAll (ns.map WData.int)
 | [],h=>by cases h
 | n :: ns,h=>by
  rcases List.mem_cons.mp h with rfl | h
  ·simp only [List.map_cons,WData.weightAll];lia
  ·have:=weight_ints h
   simp only [List.map_cons,WData.weightAll];lia
theorem bits_script {ns:List Int} (h:WData.layableAll [WData.list (ns.map WData.int)]=true):∀ i∈ns,Z.bits i≤2 ^ 20:=by
 intro i hi
 have h1:WData.layable (.list (ns.map WData.int))=true:=List.all_eq_true.mp h _ List.mem_cons_self
 unfold WData.layable at h1
 rw [Bool.and_eq_true] at h1
 have h2:WData.weight (.list (ns.map WData.int))≤2 ^ 20:=of_decide_eq_true h1.2
 have h3:WData.weight (.list (ns.map WData.int))=WData.weightAll (ns.map WData.int):=by simp only [WData.weight]
 have h4:=weight_ints hi
 have h5:WData.weight (.int i)=Z.bits i:=by
  simp only [WData.weight]
  unfold Z.bits
  by_cases hz:i=0
  ·subst hz;rfl
  ·rw [if_neg hz,if_neg (by simpa using hz)]
 lia
def LamOk (q:Program) (K:Frag):Prop:=noTabs K=true∧(∀ x∈lamNames,∀ c P,tabIn K x=some (c,P)→∃ d,(recsOf q).find? (fun e=>e.name==x)=some d) ∧
 ∀ x y c P c',x∈lamNames→y∈lamNames→tabIn K x=some (c,P)→tabIn K y=some (c',P)→x=y
theorem tab_none {K:Frag} {x:Str} (h:nsIn K mainGlobals x=some none):tabIn K x=none:=by unfold tabIn;rw [h]
theorem tab_some {K:Frag} {x:Str} {f c p:Addr} {o1 o2:Value} {d1 d2:Option Addr} {s1 s2:Array (Option Value)} {fd:FuncData} {vs:Array Value} (h:nsIn K mainGlobals x=some (some (.ref f))) (h2:K.lookup f=some ⟨o1,d1,.func fd,s1⟩) (h3:fd.code=.ref c)
  (h4:K.lookup c=some ⟨o2,d2,.fields vs,s2⟩) (h5:vs[11]?=some (.ref p)):tabIn K x=some (c,p):=by
 unfold tabIn
 rw [h];dsimp only
 rw [h2];dsimp only
 rw [h3];dsimp only
 rw [h4];dsimp only
 rw [h5]
theorem lamNames_cases {p:Str→Prop} (h1:p "best_among") (h2:p "paper_beside"):∀ x∈lamNames,p x:=by
 intro x hx
 unfold lamNames at hx
 rcases List.mem_cons.mp hx with rfl | hx
 ·exact h1
 ·rw [List.mem_singleton.mp hx];exact h2
theorem lam_ok {q:Program} {K:Frag} {r1 r2:Option (Addr×Addr)} (n:noTabs K=true) (h1:tabIn K "best_among" = r1) (h2:tabIn K "paper_beside" = r2) (g1:r1=none∨((recsOf q).find? (fun e=>e.name==Str.ofString "best_among")).isSome=true) (g2:r2=none∨((recsOf q).find? (fun e=>e.name==Str.ofString "paper_beside")).isSome=true)
  (ne:∀ c P c' P',r1=some (c,P)→r2=some (c',P')→P≠P'):LamOk q K:=by
 refine ⟨n,lamNames_cases (fun c P e=>?_) (fun c P e=>?_),fun x y c P c' hx hy=>?_⟩
 ·rcases g1 with z | z
  ·rw [h1,z] at e;cases e
  ·exact Option.isSome_iff_exists.mp z
 ·rcases g2 with z | z
  ·rw [h2,z] at e;cases e
  ·exact Option.isSome_iff_exists.mp z
 ·refine lamNames_cases (p:=fun x=>tabIn K x=some (c,P)→tabIn K y=some (c',P)→x=y) (fun e1=>?_) (fun e1=>?_) x hx
  ·refine lamNames_cases (p:=fun y=>tabIn K y=some (c',P) → "best_among" = y) (fun _=>rfl) (fun e2=>?_) y hy
   exact absurd rfl (ne c P c' P (h1.symm.trans e1) (h2.symm.trans e2))
  ·refine lamNames_cases (p:=fun y=>tabIn K y=some (c',P) → "paper_beside" = y) (fun e2=>?_) (fun _=>rfl) y hy
   exact absurd rfl (ne c' P c P (h1.symm.trans e2) (h2.symm.trans e1))
theorem walk_B {l : OpenLaw} {n k : Nat} {q : Program} {loose : List Str} {XP : (Str → Option Value) → Heap → Prop} {YP : World → Heap → Prop} {d : DefRec} {K : Params → Frag} {m : List Z.D → Z.Res Z.D} {x : Str}
  (hn:l.most=some n) (hn2:n≤sizeLine) (hdf:d.params.defaults=[]) (hr:Room k callerA)
  (hY:∀ (w:World) (h:Heap),YP w h→(K w.params).In h)
  (F:∀ (w:World) (mg:Str→Option Value) (fa:Addr) (h:Heap),(K w.params).In h→h.Ns mainGlobals mg→mg d.name=some (.ref fa) →
   ∃ fd:FuncData,(∀ (s:Shared) (u:Value),BindsTo s fd ⟨[u],[]⟩ [(x,u)]) ∧
    ∀ base:Heap,(K w.params).In base→base.Ns mainGlobals mg→FnOk l.prog w (K w.params) mg base CX0 k fa fd [x] (spZ (K w.params) m)) (hL:∀ w:World,LamOk q (K w.params))
  (hold:∀ ns:List Int,ns.length≤n→(∀ i∈ns,Z.bits i≤2 ^ 20)→m [.lst (ns.map .int)]=.ok (.bl true)) :
  WalkO q loose XP YP l.row.toRowW d [] (fun f vs=>PySem.call f vs):=by
 intro w s₀ s₁ mg mb G Y fa o pm cd doc dV kV ho hd hcd hD hmg hg args vals as hpre hlay hrd hwl hlo
 cases Dflts.none hD hdf
 cases Dflts.noKw hD
 obtain ⟨a,vs,ns,rfl,rfl,hobj,hints,hlen⟩:=Att.script_of hn hpre hwl
 have KX:=hY w _ Y
 obtain ⟨fd,hb,hF⟩:=F w mg fa _ KX G.T.g hmg
 have C:=law_call KX G.T.g G.T.b G.T.builtins G.T.nolimit hg hobj hints (Nat.le_trans hlen hn2) hr hF hb (fun H hO hS=>law_sp hO hS (hold ns hlen (bits_script hlay))) (fun H e s' z=>z)
  (hL w).2.2 (fun y hy c p e=>let ⟨d,hd⟩:=(hL w).2.1 y hy c p e;let T:=tab_of G.T KX hd e;⟨T,T.1.tab T.2⟩) G.T.bmain (hL w).1
 refine enter_call (codeAny_mono C fun r s' hq=>?_)
 obtain ⟨rfl,h2,h3,h4⟩:=hq
 exact ⟨.inl ⟨.bool true,.bool true,[],rfl,fun _=>rfl,.bool true,Att.post_true l _,fun _=>⟨List.Pairwise.nil,fun _ hm=>(nomatch hm)⟩⟩,h2,h3,h4⟩
end ZS
namespace ZS
open PySem PySem.Spec PyProof.Rows L2
section
variable {prog:Program} {w:World} {A:Around} {E:Value→Shared→Prop} {s:Shared}
end
end ZS
namespace ZS
open PySem PySem.Spec PyProof.Rows L2
structure Inn where
 at_:Nat→Hp→V→Prop
 end_:Nat→Hp→Prop
structure Src (P:Program) (w:World) (K:PySem.W.Frag) (J:Inn) (it:Addr) (inn:Nat→Heap→Prop):Prop where
 obj:∀ i h,inn i h→∃ o,h.get? it=some o∧(∀ v,o.data≠.cell v)∧o.cls≠.type "enumerate" ∧ o.cls≠.type "zip" ∧ o.cls≠.type "tuple"
 keep:∀ i h h',inn i h→(∀ o,h.get? it=some o→h'.get? it=some o)→inn i h'
 draw:∀ (X:Cx),X.prog=P→X.w=w→X.K=K→X.calm=true→∀ (i:Nat) (pins:List (Addr×Obj)) (s:Shared) (σ:St) (H:Hp),Inv X pins σ H s→inn i s.heap→((∃ y,J.at_ i H y)∨J.end_ i H) →
  ∃ (fp:List Addr) (n:Nat) (Pv:Nat→Value→Prop) (S:Nat→Heap→Prop),Draws P w X.A.in1 it fp n Pv S∧S i s.heap∧it∈fp∧(∀ b∈fp,b=it∨∃ o,s.heap.get? b=some o∧o.cls≠.type "enumerate" ∧ o.cls≠.type "zip" ∧ (H b=none→∃ o',K.lookup b=some o')) ∧
   ((∃ y,J.at_ i H y)→i < n∧∀ u,Pv i u→∃ y,RelV y u∧J.at_ i H y)∧(J.end_ i H→i=n)∧∀ j h,S j h→inn j h
section
variable {X:Cx} {a b:Expr} {pos p p2:Pos} {fa fb:Z.EF} {elts:List Expr} {x1:Nat}
end
end ZS
namespace ZS
open PySem PySem.Spec PyProof.Rows L2
structure Far (z TI TO i1 i2:Addr) (f1 f2:List Addr):Prop where
 ne:[z,TI,TO,i1,i2].Nodup
 a1:z∉f1∧TO∉f1∧i2∉f1
 a2:z∉f2∧TO∉f2∧i1∉f2
section
variable {prog:Program} {w:World} {A:Around} {E:Value→Shared→Prop} {s:Shared}
end
end ZS
namespace ZS
open PySem PySem.Spec PyProof.Rows L2
structure Gives (K:PySem.W.Frag) (J:Inn) (S:Hp→Prop) (ds:List Z.D):Prop where
 at_:∀ (i:Nat) d H1,S H1→ds[i]?=some d→(∃ y,J.at_ i H1 y)∧∀ y,J.at_ i H1 y→Den K H1 d y
 end_:∀ H1,S H1→J.end_ ds.length H1
section
variable {X:Cx} {a b:Expr} {pos p p2:Pos} {fa fb:Z.EF} {elts:List Expr} {x1:Nat}
end
end ZS
namespace ZQ
open PySem PySem.Spec PyProof.Rows L2 ZS
section
variable {X:Cx} {a b:Expr} {pos p p2:Pos} {fa fb:Z.EF} {elts:List Expr} {x1:Nat}
end
end ZQ
noncomputable section
namespace Z
end Z
end
namespace ZS
open PySem PySem.Spec PyProof.Rows L2
end ZS
namespace ZQ
open PySem PySem.Spec PyProof.Rows L2 ZS
end ZQ
noncomputable section
namespace Z
def intsD (hi:Int) (n:Nat):List D:=(List.range n).map fun i=>D.int (hi-(i:Nat))
def downD:D→D→D→Res (List D)
 | .int i,.int j,.int k=>guard (k=-1∧-1000000000≤i∧i≤1000000000∧-1000000000≤j∧j≤1000000000) (.ok (intsD i (i-j).toNat))
 | _,_,_=>.bad
def iRngD (a b c:EF) (ρ:Env):Res (List D):=(a ρ).bind fun x=>(b ρ).bind fun y=>(c ρ).bind fun z=>downD x y z
@[simp] theorem iRngD_a (a b c:EF) (ρ:Env):iRngD a b c ρ=(a ρ).bind fun x=>(b ρ).bind fun y=>(c ρ).bind fun z=>downD x y z:=rfl
def repK:D→D→Res (List D)
 | .lst [d],.int n=>guard (0≤n∧n≤16777216) (.ok (List.replicate n.toNat d))
 | _,_=>.bad
def lRep (a:LF) (b:EF) (ρ:Env):Res (List D):=(a ρ).bind fun xs=>(b ρ).bind fun y=>repK (.lst xs) y
@[simp] theorem lRep_a (a:LF) (b:EF) (ρ:Env):lRep a b ρ=(a ρ).bind fun xs=>(b ρ).bind fun y=>repK (.lst xs) y:=rfl
def oNotT:D→Res D
 | .bl b=>.ok (.bl (!b))
 | _=>.bad
@[simp] theorem oNotT_bl (b:Bool):oNotT (.bl b)=.ok (.bl (!b)):=rfl
end Z
end
namespace ZS
open PySem PySem.Spec PyProof.Rows L2
section
variable {X:Cx} {tg:Expr}
variable {a b c:Expr} {p pos:Pos} {fa fb fc:Z.EF}
theorem op_notT:OpR X (compareOp .IsNot) (fun x y H Q=>∃ b,x=.bl b∧y=.bl true∧Q (.bl (!b)) H):=by
 intro pins s σ H x y v u Q I rx ry h
 obtain ⟨b,rfl,rfl,q⟩:=h
 cases rx
 cases ry
 refine wpAny_isNot_plain rfl ⟨.bl (!b),H,I,?_,q⟩
 cases b<;>rfl
theorem notT_imp:∀ σ H Q,tZ X.K (Z.eU Z.oNotT fa) σ H Q→tOp (fun x y H Q=>∃ b,x=.bl b∧y=.bl true∧Q (.bl (!b)) H) (tZw X.K fa) (tC (.bl true)) σ H Q:=by
 rintro σ H Q ⟨ρ,d,r,e,k⟩
 obtain ⟨x,ea,e⟩:=Z.Res.bind_ok e
 refine ⟨ρ,x,r,ea,fun v H1 s1 d1=>?_⟩
 cases x with
 | bl b=>cases e;exact ⟨b,d1.bl,rfl,k _ H1 s1 den_bl⟩
 | _=>cases e
theorem dt_notT {j pos'} (ha:DW X a fa):DT X (.Compare a [.IsNot] [.Constant (.bool true) j pos'] pos) (Z.tE (Z.eU Z.oNotT fa)):=dt_of (pt_cmpR op_notT ha pe_bl (nomark _)) notT_imp
end
end ZS
namespace ZQ
open PySem PySem.Spec PyProof.Rows L2 ZS
section
variable {X:Cx} {tg a b c:Expr} {p pos:Pos} {fa fb fc:Z.EF} {la:Z.LF}
theorem dt_notT {j pos'} (ha:QW X a fa):QT X (.Compare a [.IsNot] [.Constant (.bool true) j pos'] pos) (Z.tE (Z.eU Z.oNotT fa)):=⟨ZS.dt_notT (ha:=ha.p)⟩
end
end ZQ
noncomputable section
namespace Z
def textsD:List D→Option (List (List Nat))
 | []=>some []
 | .str c :: r=>(textsD r).map (c :: ·)
 | _ :: _=>none
def gluedC (sep:List Nat):List (List Nat)→List Nat
 | []=>[]
 | [x]=>x
 | x :: y :: r=>x++sep++gluedC sep (y :: r)
def oJoin:D→D→Res D
 | .str sep,.lst xs=>match textsD xs with
  | some ts=>guard ((ts.map List.length).sum+ts.length*sep.length≤line) (.ok (.str (gluedC sep ts)))
  | none=>.bad
 | _,_=>.bad
theorem oJoin_ok {x y d:D} (h:oJoin x y=.ok d):∃ sep xs ts,x=.str sep∧y=.lst xs∧textsD xs=some ts∧(ts.map List.length).sum+ts.length*sep.length≤16777216∧d=.str (gluedC sep ts):=by
 unfold oJoin at h
 split at h
 ·split at h
  ·rename_i hs
   obtain ⟨h1,e⟩:=guard_ok h
   cases e
   exact ⟨_,_,_,rfl,rfl,hs,h1,rfl⟩
  ·cases h
 ·cases h
theorem textsD_map:∀ ts:List (List Nat),textsD (ts.map D.str)=some ts
 | []=>rfl
 | t :: ts=>by simp [textsD,textsD_map ts]
def oCntS:D→D→Res D
 | .str t,.str [c]=>.ok (.int (t.count c))
 | _,_=>.bad
@[simp] theorem oCntS_a (t:List Nat) (c:Nat):oCntS (.str t) (.str [c])=.ok (.int (t.count c)):=rfl
def oRev:D→Res D
 | .tup xs=>.ok (.tup xs.reverse)
 | .str cs=>guard (cs.length≤line) (.ok (.str cs.reverse))
 | _=>.bad
@[simp] theorem oRev_tup (xs:List D):oRev (.tup xs)=.ok (.tup xs.reverse):=rfl
@[simp] theorem oRev_str (cs:List Nat):oRev (.str cs)=guard (cs.length≤line) (.ok (.str cs.reverse)):=rfl
end Z
end
namespace ZS
open PySem PySem.Spec PyProof.Rows L2
def DenF (K:PySem.W.Frag) (H:Hp) (b:Bool) (d:Z.D) (v:V):Prop:=if b=true then DenW K H d v else Den K H d v
def DensF (K:PySem.W.Frag) (H:Hp):List Bool→List Z.D→List V→Prop
 | [],[],vs=>vs=[]
 | b :: bs,d :: ds,vs=>∃ v r,vs=v :: r∧DenF K H b d v∧DensF K H bs ds r
 | _,_,_=>False
theorem DenF.up {K:PySem.W.Frag} {H H':Hp} {b:Bool} {d:Z.D} {v:V} (h:DenF K H b d v) (e:Same H H'):DenF K H' b d v:=by
 unfold DenF at h ⊢
 cases b with
 | true=>exact DenW.up (show DenW K H d v from h) e
 | false=>exact Den.up (show Den K H d v from h) e
theorem DensF.up {K:PySem.W.Frag} {H H':Hp} (e:Same H H'):∀ {bs:List Bool} {ds:List Z.D} {vs:List V},DensF K H bs ds vs→DensF K H' bs ds vs
 | [],[],_,h=>h
 | [],_ :: _,_,h=>h.elim
 | _ :: _,[],_,h=>h.elim
 | b :: bs,d :: ds,_,⟨v,r,e1,h1,h2⟩=>⟨v,r,e1,h1.up e,DensF.up e h2⟩
theorem DensF.length {K:PySem.W.Frag} {H:Hp}:∀ {bs:List Bool} {ds:List Z.D} {vs:List V},DensF K H bs ds vs→vs.length=ds.length∧ds.length=bs.length
 | [],[],vs,h=>by have:vs=[]:=h;subst this;exact ⟨rfl,rfl⟩
 | [],_ :: _,_,h=>h.elim
 | _ :: _,[],_,h=>h.elim
 | b :: bs,d :: ds,_,⟨v,r,e1,h1,h2⟩=>by
  have:=DensF.length h2
  subst e1
  simp [this.1,this.2]
theorem DensF.get {K:PySem.W.Frag} {H:Hp}:∀ {bs:List Bool} {ds:List Z.D} {vs:List V} {i:Nat} {b:Bool} {d:Z.D},DensF K H bs ds vs→bs[i]?=some b→ds[i]?=some d→∃ v,vs[i]?=some v∧DenF K H b d v
 | [],[],_,_,_,_,_,e,_=>by simp at e
 | [],_ :: _,_,_,_,_,h,_,_=>h.elim
 | _ :: _,[],_,_,_,_,h,_,_=>h.elim
 | b :: bs,d :: ds,_,0,b',d',⟨v,r,e1,h1,h2⟩,eb,ed=>by
  simp at eb ed
  subst e1;subst eb;subst ed
  exact ⟨v,rfl,h1⟩
 | b :: bs,d :: ds,_,i+1,b',d',⟨v,r,e1,h1,h2⟩,eb,ed=>by
  subst e1
  obtain ⟨u,q1,q2⟩:=DensF.get (i:=i) h2 (by simpa using eb) (by simpa using ed)
  exact ⟨u,by simpa using q1,q2⟩
def tZaF (K:PySem.W.Frag) (bs:List Bool) (f:Z.AF):TA:=fun σ H Q=>∃ ρ ds,RE K H σ ρ∧f ρ=.ok ds∧∀ vs H',Same H H'→DensF K H' bs ds vs→Q vs H'
abbrev DAF (X:Cx) (es:List Expr) (bs:List Bool) (f:Z.AF):Prop:=PA X es (tZaF X.K bs f)
section
variable {X:Cx} {e:Expr} {es:List Expr} {pos:Pos} {f:Z.EF}
def spZF (K:PySem.W.Frag) (bs:List Bool) (m:List Z.D→Z.Res Z.D):Sp:=fun vs H Q _=>∃ ds d,DensF K H bs ds vs∧m ds=.ok d∧∀ v H',Same H H'→Den K H' d v→Q v H'
end
section
variable {P:Program} {w:World} {K:PySem.W.Frag} {mg:Str→Option Value} {base:Heap}
structure CalB (P:Program) (w:World) (K:PySem.W.Frag) (mg:Str→Option Value) (base:Heap) (x:Str) (k:Nat) (ps:List Str) (bs:List Bool) (m:List Z.D→Z.Res Z.D):Prop where
 ex:∃ g fd,FnOk P w K mg base CX0 k g fd ps (spZF K bs m)∧mg x=some (.ref g)∧PySem.W.keepIn K (.ref g)=true∧Binds K fd ps []
end
section
variable {X:Cx} {e:Expr} {es:List Expr} {pos:Pos}
end
end ZS
namespace ZQ
open PySem PySem.Spec PyProof.Rows L2 ZS
structure QAF (X:Cx) (es:List Expr) (bs:List Bool) (f:Z.AF):Prop where p:DAF X es bs f
section
variable {X:Cx} {e:Expr} {es:List Expr} {pos:Pos} {f:Z.EF}
end
end ZQ
namespace ZS
open PySem PySem.Spec PyProof.Rows L2
section
variable {prog:Program} {w:World} {A:Around} {E:Value→Shared→Prop} {s:Shared}
end
section
variable {X:Cx} {tg o e a b:Expr} {es:List Expr} {pos:Pos} {fa fb:Z.EF} {H0:Hp}
theorem vals_str:∀ {ts:List Str} {its:List Value},Vals (ts.map V.str) its→∃ l:List (Str×Tok),strValues l=its∧l.map (·.1)=ts
 | [],its,h=>by cases h;exact ⟨[],rfl,rfl⟩
 | t :: ts,its,h=>by
  cases h with
  | cons r rr =>
   obtain ⟨tk,rfl⟩:=r
   obtain ⟨l,rfl,h2⟩:=vals_str rr
   exact ⟨(t,tk) :: l,rfl,by rw [←h2];rfl⟩
def rJoin (K:PySem.W.Frag):V→List V→Hp→VK→Prop:=fun x vs H Q=>∃ sep q ts,x=.str sep∧vs=[.ref q]∧SqL K H q (ts.map V.str)∧JoinOk sep ts=true∧Q (.str (Txt.join sep ts)) H
theorem mt_join:MtR X "str.join" (rJoin X.K):=by
 intro pins s σ H x vs v us Q I rx rv h
 obtain ⟨sep,q,ts,rfl,rfl,hq,hok,k⟩:=h
 obtain ⟨t,rfl⟩:=rx
 obtain ⟨u,rfl,ru⟩:=rv.one
 cases ru
 obtain ⟨its,r,pl,hz⟩:=I.list hq
 obtain ⟨l,rfl,hl⟩:=vals_str r
 exact SC.join pl.isList hl hok fun t' c=>⟨.str (Txt.join sep ts),H,I.tok c,⟨t',rfl⟩,k⟩
def mkS (cs:List Nat):Str:=⟨cs.toArray⟩
theorem dens_texts {K : PySem.W.Frag} {H : Hp} : ∀ {xs : List Z.D} {ts : List (List Nat)} {vs : List V}, Z.textsD xs = some ts → Dens K H xs vs → vs = (ts.map mkS).map V.str
 | [],ts,vs,e,h=>by cases e;simp only [Dens] at h;subst h;rfl
 | x :: xs,ts,vs,e,h=>by
  cases x with
  | str c =>
   have e':(Z.textsD xs).map (c :: ·)=some ts:=e
   cases q:Z.textsD xs with
   | none=>rw [q] at e';cases e'
   | some ts' =>
    rw [q] at e'
    cases e'
    simp only [Dens] at h
    obtain ⟨v,r,rfl,hv,ht⟩:=h
    simp only [Den] at hv
    rw [hv,dens_texts q ht];rfl
  | non=>cases e
  | bl _=>cases e
  | int _=>cases e
  | tup _=>cases e
  | lst _=>cases e
  | dct _ _=>cases e
theorem mkS_len (cs:List Nat):(mkS cs).length=cs.length:=by simp [mkS,Str.length]
theorem mkS_app (a b:List Nat):mkS a++mkS b=mkS (a++b):=by
 show (⟨a.toArray++b.toArray⟩:Str)=_
 simp [mkS]
theorem join_mk (sep:List Nat):∀ ts:List (List Nat),Txt.join (mkS sep) (ts.map mkS)=mkS (Z.gluedC sep ts):=by
 intro ts
 show Builtin.Str.glued _ _=_
 rw [StrLaws.glued_eq_join]
 induction ts with
 | nil=>rfl
 | cons x ts ih =>
  cases ts with
  | nil=>rfl
  | cons y r =>
   show mkS x++mkS sep++Str.join (mkS sep) ((y :: r).map mkS)=_
   rw [ih,mkS_app,mkS_app]
   rfl
theorem join_ok {sep:List Nat} {ts:List (List Nat)} (h:(ts.map List.length).sum+ts.length*sep.length≤16777216):JoinOk (mkS sep) (ts.map mkS)=true:=by
 unfold JoinOk
 rw [StrLaws.joinTotal]
 have e:(ts.map mkS).map (·.length)=ts.map List.length:=by rw [List.map_map];exact List.map_congr_left fun x _=>mkS_len x
 rw [e,List.length_map,mkS_len]
 simp only [Builtin.Str.tooLong,Bool.not_eq_true',decide_eq_false_iff_not,gt_iff_lt,Nat.not_lt]
 rw [sizeLine_eq];exact h
theorem de_join {p1 p2:Pos} (ho:DE X o fa) (hb:DW X b fb)
  (hbase:attributeBase o "join" X.env (eval o X.env)=eval o X.env:=by rfl)
  (hfew:((backTo p2 (starEach (b :: []) X.env)).all (fun x=>!x.1)&&(backToKw p2 (keywordEach [] X.env)).all (fun x=>x.1.isSome)
   && decide ((b :: []).length+([]:List Keyword).length+(if ([]:List Keyword).isEmpty then 0 else 1) < 30))=true:=by rfl)
  (hline:(p1.endLine==p2.line)=true:=by rfl) (hs1:starEach (b :: []) X.env=(false,eval b X.env) :: starEach [] X.env:=by rfl) (hplain:(backTo p2 (starEach [] X.env)).any (·.1)=false:=by rfl) :
  DE X (.Call (.Attribute o "join" p1) [b] [] p2) (Z.eB Z.oJoin fa fb) :=
 PE.imp (pe_bm PySem.F.plainAttrs_str PySem.F.slot_str_join PySem.F.type_str_join mt_join ho (pa_cons hb pa_nil hs1) hbase hfew hline hs1 hplain) fun σ H Q ⟨ρ,d,r,e,k⟩=>by
  obtain ⟨x,ea,e⟩:=Z.Res.bind_ok e
  obtain ⟨y,eb,e⟩:=Z.Res.bind_ok e
  obtain ⟨sep,xs,ts,rfl,rfl,et,hl,rfl⟩:=Z.oJoin_ok e
  refine ⟨ρ,_,r,ea,fun v H1 s1 d1=>?_⟩
  simp only [Den] at d1
  subst d1
  refine ⟨rfl,ρ,_,r.up s1,eb,fun u H2 s2 d2=>?_⟩
  obtain ⟨q,vs,rfl,hq,t⟩:=d2.lst
  rw [dens_texts et t] at hq
  refine ⟨mkS sep,q,ts.map mkS,rfl,rfl,hq,join_ok hl,?_⟩
  rw [join_mk]
  exact k _ H2 (s1.trans s2) den_str
end
end ZS
namespace ZQ
open PySem PySem.Spec PyProof.Rows L2 ZS
section
variable {X:Cx} {tg o e a b:Expr} {es:List Expr} {pos:Pos} {fa fb:Z.EF} {H0:Hp}
theorem de_join {p1 p2:Pos} (ho:QE X o fa) (hb:QW X b fb)
  (hbase:attributeBase o "join" X.env (eval o X.env)=eval o X.env:=by rfl)
  (hfew:((backTo p2 (starEach (b :: []) X.env)).all (fun x=>!x.1)&&(backToKw p2 (keywordEach [] X.env)).all (fun x=>x.1.isSome)
   && decide ((b :: []).length+([]:List Keyword).length+(if ([]:List Keyword).isEmpty then 0 else 1) < 30))=true:=by rfl)
  (hline:(p1.endLine==p2.line)=true:=by rfl) (hs1:starEach (b :: []) X.env=(false,eval b X.env) :: starEach [] X.env:=by rfl) (hplain:(backTo p2 (starEach [] X.env)).any (·.1)=false:=by rfl) :
  QE X (.Call (.Attribute o "join" p1) [b] [] p2) (Z.eB Z.oJoin fa fb):=⟨ZS.de_join ho.p hb.p hbase hfew hline hs1 hplain⟩
end
end ZQ
namespace ZS
open PySem PySem.Spec PyProof.Rows L2
section
variable {prog:Program} {w:World} {A:Around} {E:Value→Shared→Prop} {s:Shared}
end
section
variable {X:Cx} {e st:Expr} {te:TE} {pos p2:Pos} {fa:Z.EF}
end
end ZS
namespace ZQ
open PySem PySem.Spec PyProof.Rows L2 ZS
section
variable {X:Cx} {e:Expr} {pos p2:Pos} {fa:Z.EF}
end
end ZQ
noncomputable section
namespace Z
def sBad (_:Env):Res Fl:=.bad
@[simp] theorem sBad_a (ρ:Env):sBad ρ=.bad:=rfl
def eBad (_:Env):Res D:=.bad
@[simp] theorem eBad_a (ρ:Env):eBad ρ=.bad:=rfl
def withN (f:List D→Res D) (ds:List D):Res D:=f (ds++[.non])
@[simp] theorem withN_a (f:List D→Res D) (ds:List D):withN f ds=f (ds++[.non]):=rfl
end Z
end
namespace ZS
open PySem PySem.Spec PyProof.Rows L2
theorem ds_bad {X:Cx} {H0:Hp} {st:Stmt}:DS X H0 st Z.sBad:=fun _ _ _ _ _ _ ⟨_,_,_,e,_⟩=>nomatch e
structure FunD (K:PySem.W.Frag) (x qual:Str) (st:Stmt) (f:Addr) (fd:FuncData):Prop where
 ex:∃ (oc:Value) (od:Option Addr) (dV kV doc pm:Value) (an:Option Addr) (cdv ct:Value) (osl:Array (Option Value)),
  fd=PySem.W.fnOf x qual (defArgs st) (defBody st) (defScope st) dV kV doc pm an cdv ct∧K.lookup f=some ⟨oc,od,.func fd,osl⟩∧PySem.W.codeIn K cdv qual=true
 kp:PySem.W.keepIn K (.ref f)=true
section
variable {P:Program} {w:World} {K:PySem.W.Frag} {mg:Str→Option Value} {base:Heap}
structure DefD (K:PySem.W.Frag) (mg:Str→Option Value) (x:Str) (st:Stmt) (ps:List Str):Prop where
 ex:∃ f fd,FunD K x x st f fd∧mg x=some (.ref f)∧Binds K fd ps []∧Binds K fd ps [.none]
structure CalD (P:Program) (w:World) (K:PySem.W.Frag) (mg:Str→Option Value) (base:Heap) (x:Str) (k:Nat) (ps:List Str) (m:List Z.D→Z.Res Z.D):Prop where
 ex:∃ g fd,FnOk P w K mg base CX0 k g fd ps (spZ K m)∧mg x=some (.ref g)∧PySem.W.keepIn K (.ref g)=true∧Binds K fd ps []∧Binds K fd ps [.none]
theorem CalD.full {x:Str} {k:Nat} {ps:List Str} {m:List Z.D→Z.Res Z.D} (C:CalD P w K mg base x k ps m):Cal P w K mg base x k ps m :=
 let ⟨g,fd,h1,h2,h3,h4,_⟩:=C.ex;⟨g,fd,h1,h2,h3,h4⟩
theorem defD_mk {x:Str} {st:Stmt} {ps:List Str} {f t:Addr} {oc:Value} {od an:Option Addr} {osl:Array (Option Value)} {kV doc pm cdv ct tc:Value} {td:Option Addr} {tn:Nat} {tsl:Array (Option Value)}
  (l:K.lookup f=some ⟨oc,od,.func (PySem.W.fnOf x x (defArgs st) (defBody st) (defScope st) (.ref t) kV doc pm an cdv ct),osl⟩)
  (c:PySem.W.codeIn K cdv x=true) (k:PySem.W.keepIn K (.ref f)=true) (lt:K.lookup t=some ⟨tc,td,.seq #[.none] tn,tsl⟩) (hm:mg x=some (.ref f))
  (h1:∀ us:List Value,us.length=ps.length→∃ kk:Option (Array Value)→Sem (List (Str×Value)),bindArgs (PySem.W.fnOf x x (defArgs st) (defBody st) (defScope st) (.ref t) kV doc pm an cdv ct) ⟨us,[]⟩=seqItems? (.ref t) >>= kk∧kk (some #[.none])=pure (ps.zip us))
  (h2:∀ us:List Value,us.length+1=ps.length→∃ kk:Option (Array Value)→Sem (List (Str×Value)),bindArgs (PySem.W.fnOf x x (defArgs st) (defBody st) (defScope st) (.ref t) kV doc pm an cdv ct) ⟨us,[]⟩=seqItems? (.ref t) >>= kk∧kk (some #[.none])=pure (ps.zip (us++[.none]))):DefD K mg x st ps:=by
 refine ⟨f,_,⟨⟨oc,od,.ref t,kV,doc,pm,an,cdv,ct,osl,rfl,l,c⟩,k⟩,hm,fun s us hK hl=>?_,fun s us hK hl=>?_⟩
 ·rw [List.append_nil] at hl ⊢
  obtain ⟨kk,e1,e2⟩:=h1 us hl
  exact BindsTo.of_defaults (T:=t) (items:=#[.none]) rfl (hK t _ lt) rfl e1 e2
 ·obtain ⟨kk,e1,e2⟩:=h2 us (by simpa using hl)
  exact BindsTo.of_defaults (T:=t) (items:=#[.none]) rfl (hK t _ lt) rfl e1 e2
end
section
variable {X:Cx} {e:Expr} {es:List Expr} {pos:Pos}
end
end ZS
namespace ZQ
open PySem PySem.Spec PyProof.Rows L2 ZS
section
variable {X:Cx} {e:Expr} {es:List Expr} {pos:Pos} {H0:Hp} {st:Stmt} {sts:List Stmt}
theorem ds_bad:QS X H0 st Z.sBad:=⟨ZS.ds_bad⟩
end
end ZQ
namespace PySem
open Sem (wp)
open Builtin
end PySem
namespace ZS
open PySem PySem.Spec PyProof.Rows L2
section
variable {X:Cx} {a b:Expr} {pos:Pos} {fa fb:Z.EF}
end
end ZS
namespace ZQ
open PySem PySem.Spec PyProof.Rows L2 ZS
section
variable {X:Cx} {a b:Expr} {pos:Pos} {fa fb:Z.EF}
end
end ZQ
noncomputable section
namespace Z
def cutC (c:Nat):List Nat→List (List Nat)
 | []=>[[]]
 | x :: r=>if x=c then [] :: cutC c r else match cutC c r with
  | []=>[[x]]
  | p :: ps=>(x :: p) :: ps
theorem cutC_free {c:Nat}:∀ {p:List Nat},c∉p→cutC c p=[p]
 | [],_=>rfl
 | x :: r,h=>by
  have h1:x≠c:=fun e=>h (by simp [e])
  have h2:c∉r:=fun e=>h (List.mem_cons_of_mem _ e)
  rw [cutC,if_neg h1,cutC_free h2]
theorem cutC_app {c:Nat}:∀ {p:List Nat} (r:List Nat),c∉p→cutC c (p++c :: r)=p :: cutC c r
 | [],r,_=>by rw [List.nil_append,cutC,if_pos rfl]
 | x :: p,r,h=>by
  have h1:x≠c:=fun e=>h (by simp [e])
  have h2:c∉p:=fun e=>h (List.mem_cons_of_mem _ e)
  rw [List.cons_append,cutC,if_neg h1,cutC_app r h2]
theorem cutC_glued {c:Nat}:∀ {ts:List (List Nat)},ts≠[]→(∀ p∈ts,c∉p)→cutC c (gluedC [c] ts)=ts
 | [],h,_=>absurd rfl h
 | [x],_,h=>cutC_free (h x (by simp))
 | x :: y :: r,_,h=>by
  rw [gluedC,List.append_assoc,List.singleton_append,cutC_app _ (h x (by simp)),cutC_glued (by simp) fun p hp=>h p (List.mem_cons_of_mem _ hp)]
def splK:D→D→Res (List D)
 | .str cs,.str [c]=>guard (cs.length+2≤line) (.ok ((cutC c cs).map .str))
 | _,_=>.bad
def lSplit (a b:EF) (ρ:Env):Res (List D):=(a ρ).bind fun x=>(b ρ).bind fun y=>splK x y
theorem splK_a (cs:List Nat) (c:Nat):splK (.str cs) (.str [c])=guard (cs.length+2≤line) (.ok ((cutC c cs).map .str)):=rfl
theorem splK_ok {x y:D} {ds:List D} (h:splK x y=.ok ds):∃ cs c,x=.str cs∧y=.str [c]∧cs.length+2≤line∧ds=(cutC c cs).map .str:=by
 unfold splK at h
 split at h
 ·obtain ⟨h1,e⟩:=guard_ok h
  cases e
  exact ⟨_,_,rfl,rfl,h1,rfl⟩
 ·cases h
def tlD:D→D→Res (List D)
 | .tup xs,.lst ys=>.ok (zipD xs ys)
 | _,_=>.bad
def iZipL (a b:EF) (ρ:Env):Res (List D):=(a ρ).bind fun x=>(b ρ).bind fun y=>tlD x y
@[simp] theorem iZipL_a (a b:EF) (ρ:Env):iZipL a b ρ=(a ρ).bind fun x=>(b ρ).bind fun y=>tlD x y:=rfl
@[simp] theorem tlD_a (xs ys:List D):tlD (.tup xs) (.lst ys)=.ok (zipD xs ys):=rfl
@[simp] theorem lSplit_a (a b:EF) (ρ:Env):lSplit a b ρ=(a ρ).bind fun x=>(b ρ).bind fun y=>splK x y:=rfl
end Z
end
namespace ZS
open PySem PySem.Spec PyProof.Rows L2
section
variable {prog:Program} {w:World} {A:Around} {E:Value→Shared→Prop} {s:Shared} {x y:Str} {t u:Tok} {Q:Value→Shared→Prop}
theorem call_splitZ (hy : (y.length == 0) = false) (hx : x.length + 2 ≤ sizeLine)
  (hq:∀ l k,l.map (·.1)=Txt.split x y→Q (.ref s.heap.objs.size) { s with toks:=k,heap:=s.heap.push { cls:=.type "list",data:=.seq (strValues l).toArray } }) :
  wpAny (model prog w) A (call (.builtin "str.split") [.str x t,.str y u]) Q E s:=by
 cases h1:(decide (x.length < y.length) || decide (Builtin.Str.strKind x < Builtin.Str.strKind y))
 ·cases hf:(Builtin.Str.occurrences x y 0 x.length (x.length+1)).isEmpty
  ·have e:Txt.split x y=Builtin.Str.partsBetween x (Builtin.Str.occurrences x y 0 x.length (x.length+1)) y.length:=(if_neg (ne_true_of_eq_false h1)).trans (if_neg (ne_true_of_eq_false hf))
   refine call_meets F.slot_str_split (typeIs_str _ _ _) F.entry_str_split (F.args_str_split_2 _ _) (meets_str_split_sep x y t u h1 hy hf (by lia) (by rw [←e];exact Nat.le_trans (PyProof.Rows.split_le x y) hx)) ?_
   show wants Q E _ { s with toks:=_,heap:=s.heap.push { cls:=.type "list",data:=.seq (strsFrom s.toks (Builtin.Str.partsBetween x (Builtin.Str.occurrences x y 0 x.length (x.length+1)) y.length)).toArray } }
   rw [strsFrom_eq]
   exact hq (numbered s.toks _) _ ((numbered_texts _ _).trans e.symm)
  ·exact call_meets F.slot_str_split (typeIs_str _ _ _) F.entry_str_split (F.args_str_split_2 _ _) (meets_str_split_not_found x y t u h1 hy hf)
    (hq [(x,t)] s.toks ((if_neg (ne_true_of_eq_false h1)).trans (if_pos hf)).symm)
 ·exact call_meets F.slot_str_split (typeIs_str _ _ _) F.entry_str_split (F.args_str_split_2 _ _) (meets_str_split_cannot_occur x y t u h1)
   (hq [(x,t)] s.toks (if_pos h1).symm)
end
theorem mkS_cps (x:Str):mkS x.cps.toList=x:=by cases x;rfl
theorem split_cut (cs:List Nat) (c:Nat):Txt.split (mkS cs) ⟨#[c]⟩=(Z.cutC c cs).map mkS:=by
 have hf:=StrLaws.split_free (mkS cs) c
 have hj:=StrLaws.join_split (mkS cs) ⟨#[c]⟩
 have hp:=PyProof.Rows.split_pos (mkS cs) ⟨#[c]⟩
 generalize Txt.split (mkS cs) ⟨#[c]⟩=L at hf hj hp
 have e:L=(L.map (·.cps.toList)).map mkS:=by
  rw [List.map_map]
  have:(mkS∘fun x:Str=>x.cps.toList)=id:=funext mkS_cps
  rw [this,List.map_id]
 have hj2:Txt.join (mkS [c]) L=mkS cs:=by
  show Builtin.Str.glued _ _=_
  rw [StrLaws.glued_eq_join];exact hj
 rw [e,join_mk] at hj2
 have h3:Z.gluedC [c] (L.map (·.cps.toList))=cs:=by
  have:((mkS (Z.gluedC [c] (L.map (·.cps.toList)))).cps).toList=(mkS cs).cps.toList:=by rw [hj2]
  simpa [mkS] using this
 rw [←h3,Z.cutC_glued]
 ·exact e
 ·intro z
  have:L=[]:=List.map_eq_nil_iff.mp z
  rw [this] at hp;simp at hp
 ·intro p hp'
  obtain ⟨q,hq,rfl⟩:=List.mem_map.mp hp'
  exact hf q hq
section
variable {X:Cx} {o a b:Expr} {pos p p2:Pos} {fa fb:Z.EF} {elts:List Expr} {x1:Nat}
theorem strV_vals:∀ (l:List (Str×Tok)),Vals ((l.map (·.1)).map V.str) (strValues l)
 | []=>.nil
 | (x,t) :: l=>.cons ⟨t,rfl⟩ (strV_vals l)
def rSplit:V→List V→Hp→VK→Prop:=fun x vs H Q=>∃ cs c,x=.str (mkS cs)∧vs=[.str ⟨#[c]⟩]∧cs.length+2≤sizeLine∧∀ q,H q=none→Q (.ref q) (upd H q (.lst (((Z.cutC c cs).map mkS).map V.str)))
theorem mt_split:MtR X "str.split" rSplit:=by
 intro pins s σ H x vs v us Q I rx rv h
 obtain ⟨cs,c,rfl,rfl,hl,k⟩:=h
 obtain ⟨tk,rfl⟩:=rx
 obtain ⟨u,rfl,ru⟩:=rv.one
 obtain ⟨tk2,rfl⟩:=ru
 refine call_splitZ rfl (by rw [mkS_len];exact hl) fun l kk e=>?_
 rw [split_cut] at e
 rw [←e] at k
 refine ⟨.ref _,_,I.laid (t':=kk) (o:=.lst ((l.map (·.1)).map V.str)) (fun b ob q=>Heap.get?_push_of_some _ q) (Nat.le_refl _) ?_,rfl,k _ (I.hok.fresh (Nat.le_refl _))⟩
 have hlen:(l.map (·.1)).length≤sizeLine:=by
  rw [e,←split_cut]
  refine Nat.le_trans (PyProof.Rows.split_le _ _) ?_
  rw [mkS_len];exact hl
 exact ⟨by rw [List.length_map];exact hlen,strValues l,_,strV_vals l,Heap.get?_push_size _ rfl⟩
theorem dens_strs {K:PySem.W.Frag} {H:Hp}:∀ (ts:List (List Nat)),Dens K H (ts.map Z.D.str) ((ts.map mkS).map V.str)
 | []=>Dens.nil
 | t :: ts=>Dens.cons den_str (dens_strs ts)
theorem dl_split {p1:Pos} (ho:DW X o fa) (hb:DW X b fb)
  (hbase:attributeBase o "split" X.env (eval o X.env)=eval o X.env:=by rfl)
  (hfew:((backTo p2 (starEach (b :: []) X.env)).all (fun x=>!x.1)&&(backToKw p2 (keywordEach [] X.env)).all (fun x=>x.1.isSome)
   && decide ((b :: []).length+([]:List Keyword).length+(if ([]:List Keyword).isEmpty then 0 else 1) < 30))=true:=by rfl)
  (hline:(p1.endLine==p2.line)=true:=by rfl) (hs1:starEach (b :: []) X.env=(false,eval b X.env) :: starEach [] X.env:=by rfl) (hplain:(backTo p2 (starEach [] X.env)).any (·.1)=false:=by rfl) :
  DL X (.Call (.Attribute o "split" p1) [b] [] p2) (Z.lSplit fa fb) :=
 PE.imp (pe_bm PySem.F.plainAttrs_str PySem.F.slot_str_split PySem.F.type_str_split mt_split ho (pa_cons hb pa_nil hs1) hbase hfew hline hs1 hplain) fun σ H Q ⟨ρ,d,r,e,k⟩=>by
  obtain ⟨x,ea,e⟩:=Z.Res.bind_ok e
  obtain ⟨y,eb,e⟩:=Z.Res.bind_ok e
  obtain ⟨cs,c,rfl,rfl,hl,rfl⟩:=Z.splK_ok e
  refine ⟨ρ,_,r,ea,fun v H1 s1 d1=>?_⟩
  have d1':=d1.str
  subst d1'
  refine ⟨rfl,ρ,_,r.up s1,eb,fun u H2 s2 d2=>?_⟩
  have d2':=d2.str
  subst d2'
  refine ⟨cs,c,rfl,rfl,by rw [sizeLine_eq];exact hl,fun q hq=>?_⟩
  have s3:Same H2 (upd H2 q (.lst (((Z.cutC c cs).map mkS).map V.str))):=upd_Same hq
  exact k q _ _ ((s1.trans s2).trans s3) ((s1.trans s2).free hq) upd_same (dens_strs _)
end
end ZS
namespace ZQ
open PySem PySem.Spec PyProof.Rows L2 ZS
section
variable {X:Cx} {o a b:Expr} {pos p p2:Pos} {fa fb:Z.EF} {elts:List Expr} {x1:Nat}
theorem dl_split {p1:Pos} (ho:QW X o fa) (hb:QW X b fb)
  (hbase:attributeBase o "split" X.env (eval o X.env)=eval o X.env:=by rfl)
  (hfew:((backTo p2 (starEach (b :: []) X.env)).all (fun x=>!x.1)&&(backToKw p2 (keywordEach [] X.env)).all (fun x=>x.1.isSome)
   && decide ((b :: []).length+([]:List Keyword).length+(if ([]:List Keyword).isEmpty then 0 else 1) < 30))=true:=by rfl)
  (hline:(p1.endLine==p2.line)=true:=by rfl) (hs1:starEach (b :: []) X.env=(false,eval b X.env) :: starEach [] X.env:=by rfl) (hplain:(backTo p2 (starEach [] X.env)).any (·.1)=false:=by rfl) :
  QL X (.Call (.Attribute o "split" p1) [b] [] p2) (Z.lSplit fa fb):=⟨ZS.dl_split ho.p hb.p hbase hfew hline hs1 hplain⟩
end
end ZQ
noncomputable section
namespace Z
def signsD (cs:List Nat):List D:=cs.map fun c=>.str [c]
def lsK:D→Res (List D)
 | .str cs=>guard (cs.length≤line) (.ok (signsD cs))
 | _=>.bad
def lOfS (a:EF) (ρ:Env):Res (List D):=(a ρ).bind lsK
@[simp] theorem lOfS_a (a:EF) (ρ:Env):lOfS a ρ=(a ρ).bind lsK:=rfl
@[simp] theorem lsK_a (cs:List Nat):lsK (.str cs)=guard (cs.length≤line) (.ok (signsD cs)):=rfl
def oTupS (x:D):Res D:=(lsK x).map D.tup
@[simp] theorem oTupS_a (cs:List Nat):oTupS (.str cs)=guard (cs.length≤line) (.ok (.tup (signsD cs))):=by
 unfold oTupS
 rw [lsK_a]
 unfold guard
 split<;>rfl
end Z
end
namespace ZS
open PySem PySem.Spec PyProof.Rows L2
section
variable {prog:Program} {w:World} {A:Around} {E:Value→Shared→Prop} {s:Shared} {R:Result→Shared→Prop} {x:Str} {t:Tok}
end
section
variable {X:Cx} {a b e:Expr} {pos p2:Pos} {fa fb:Z.EF}
end
end ZS
namespace ZQ
open PySem PySem.Spec PyProof.Rows L2 ZS
section
variable {X:Cx} {a b e:Expr} {pos p2:Pos} {fa fb:Z.EF}
end
end ZQ
namespace PySem
namespace F
end F
namespace F
end F
def Heap.IsRvd (h:Heap) (a t:Addr) (i:Int):Prop:=∃ o,h.get? a=some o∧o.cls=.type "reversed" ∧ o.data=.fields #[.ref t,rawInt i]
theorem Heap.IsRvd.typeIs {s:Shared} {a l:Addr} {i:Int} (x:s.heap.IsRvd a l i):s.TypeIs (.ref a) "reversed" := let ⟨o,ho,hc,_⟩:=x;⟨o,ho,hc⟩
theorem Heap.IsRvd.at {h h':Heap} {a l:Addr} {i:Int} (x:h.IsRvd a l i) (e:∀ o,h.get? a=some o→h'.get? a=some o):h'.IsRvd a l i:=let ⟨o,ho,r⟩:=x;⟨o,e _ ho,r⟩
section
variable {prog:Program} {w:World} {A:Around} {E:Value→Shared→Prop} {s:Shared}
end
end PySem
noncomputable section
namespace Z
def rvK:D→Res (List D)
 | .tup xs=>.ok xs.reverse
 | .lst xs=>.ok xs.reverse
 | _=>.bad
def lRevd (a:EF) (ρ:Env):Res (List D):=(a ρ).bind rvK
@[simp] theorem lRevd_a (a:EF) (ρ:Env):lRevd a ρ=(a ρ).bind rvK:=rfl
@[simp] theorem rvK_tup (xs:List D):rvK (.tup xs)=.ok xs.reverse:=rfl
@[simp] theorem rvK_lst (xs:List D):rvK (.lst xs)=.ok xs.reverse:=rfl
end Z
end
namespace PySem
section
variable {prog:Program} {w:World} {A:Around} {s:Shared} {R:Result→Shared→Prop}
variable {I:Addr} {fp wr:List Addr} {G:Array GenState→Array GenState→Prop} {n:Nat} {P:Nat→Value→Prop} {St:Nat→Shared→Prop}
end
section
variable {prog:Program} {w:World} {A:Around} {E:Value→Shared→Prop} {s:Shared} {I t:Addr} {items:Array Value} {Q:Value→Shared→Prop}
end
end PySem
namespace ZS
open PySem PySem.Spec PyProof.Rows L2
section
variable {X:Cx} {a:Expr} {pos p p1 p2:Pos} {fa:Z.EF}
end
end ZS
namespace ZQ
open PySem PySem.Spec PyProof.Rows L2 ZS
section
variable {X:Cx} {a:Expr} {pos p p1 p2:Pos} {fa:Z.EF}
end
end ZQ
noncomputable section
namespace Z
def zbK (x:D):Option (Option L)→Res (List D)
 | some (some (.bor ys))=>match x with
  | .tup xs=>.ok (zipD xs ys)
  | _=>.bad
 | some (some (.val (.tup ys)))=>match x with
  | .tup xs=>.ok (zipD xs ys)
  | _=>.bad
 | _=>.bad
def iZipB (a:EF) (i:Nat) (ρ:Env):Res (List D):=(a ρ).bind fun x=>zbK x ρ[i]?
@[simp] theorem iZipB_a (a:EF) (i:Nat) (ρ:Env):iZipB a i ρ=(a ρ).bind fun x=>zbK x ρ[i]?:=rfl
@[simp] theorem zbK_bor (xs ys:List D):zbK (.tup xs) (some (some (.bor ys)))=.ok (zipD xs ys):=rfl
@[simp] theorem zbK_tup (xs ys:List D):zbK (.tup xs) (some (some (.val (.tup ys))))=.ok (zipD xs ys):=rfl
end Z
end
namespace ZS
open PySem PySem.Spec PyProof.Rows L2
theorem bd1 {fd:FuncData} {ps:List Str} (h:∀ a0:Value,bindArgs fd ⟨[a0],[]⟩=pure (ps.zip [a0])):∀ us:List Value,us.length=1→bindArgs fd ⟨us,[]⟩=pure (ps.zip us)
 | [a0],_=>h a0
theorem bd2 {fd:FuncData} {ps:List Str} (h:∀ a0 a1:Value,bindArgs fd ⟨[a0,a1],[]⟩=pure (ps.zip [a0,a1])):∀ us:List Value,us.length=2→bindArgs fd ⟨us,[]⟩=pure (ps.zip us)
 | [a0,a1],_=>h a0 a1
theorem bd3 {fd:FuncData} {ps:List Str} (h:∀ a0 a1 a2:Value,bindArgs fd ⟨[a0,a1,a2],[]⟩=pure (ps.zip [a0,a1,a2])):∀ us:List Value,us.length=3→bindArgs fd ⟨us,[]⟩=pure (ps.zip us)
 | [a0,a1,a2],_=>h a0 a1 a2
def StbK (H0 H1:Hp):Hp→Prop:=fun H2=>Stb H1 H2∧Same H0 H2
def tZk (K:PySem.W.Frag) (H0:Hp) (f:Z.LF):TI:=fun σ H R=>∃ ρ ds,RS K H0 H σ ρ∧f ρ=.ok ds∧∀ J H',Same H H'→ItZ K J (StbK H0 H') ds→R J H'
abbrev DK (X:Cx) (H0:Hp) (tg e:Expr) (f:Z.LF):Prop:=PI X tg e (tZk X.K H0 f)
theorem Gives.imp {K:PySem.W.Frag} {J:Inn} {S S':Hp→Prop} {ds:List Z.D} (h:Gives K J S ds) (k:∀ H,S' H→S H):Gives K J S' ds :=
 ⟨fun i d H1 s=>h.at_ i d H1 (k _ s),fun H1 s=>h.end_ H1 (k _ s)⟩
section
variable {X:Cx} {H0:Hp} {tg a b:Expr} {pos p p2:Pos} {fa:Z.EF} {elts:List Expr} {x1:Nat} {g:Z.SF}
end
end ZS
namespace ZQ
open PySem PySem.Spec PyProof.Rows L2 ZS
structure QK (X:Cx) (H0:Hp) (tg e:Expr) (f:Z.LF):Prop where p:DK X H0 tg e f
section
variable {X:Cx} {H0:Hp} {tg a b:Expr} {pos p p2:Pos} {fa:Z.EF} {elts:List Expr} {x1:Nat} {g:Z.SF}
end
end ZQ
noncomputable section
namespace Z
def intsOf:List D→Option (List Int)
 | []=>some []
 | d :: r=>match d,intsOf r with
  | .int i,some is=>some (i :: is)
  | _,_=>none
def keyOf:D→Option (List Int)
 | .tup ds=>intsOf ds
 | _=>none
def putD (ks:List (List Int)) (k:List Int):List (List Int):=if k∈ks then ks else ks++[k]
def sDic (i:Nat) (ρ:Env):Res Fl:=.ok (.nx (ρ.set i (some (.dic []))))
def dputK (i:Nat) (ρ:Env) (k:Option (List Int)) (o:Option (Option L)):Res Fl:=match k,o with
 | some k,some (some (.dc (.inl ks)))=>guard (ks.length < line) (.ok (.nx (ρ.set i (some (.dic (putD ks k))))))
 | _,_=>.bad
def sDPut (i:Nat) (e:EF) (ρ:Env):Res Fl:=(e ρ).bind fun d=>dputK i ρ (keyOf d) ρ[i]?
def dfrzK (i:Nat) (ρ:Env) (o:Option (Option L)):Env:=match o with
 | some (some (.dc (.inl ks)))=>ρ.set i (some (.fdc ks))
 | _=>ρ
def sDFrz (i:Nat) (a:SF) (ρ:Env):Res Fl:=a (dfrzK i ρ ρ[i]?)
def dinK (k:Option (List Int)) (o:Option (Option L)):Res Bool:=match k,o with
 | some k,some (some (.fdc ks))=>.ok (decide (k∈ks))
 | _,_=>.bad
def tInD (e:EF) (i:Nat) (ρ:Env):Res Bool:=(e ρ).bind fun d=>dinK (keyOf d) ρ[i]?
def tNinD (e:EF) (i:Nat) (ρ:Env):Res Bool:=(e ρ).bind fun d=>(dinK (keyOf d) ρ[i]?).bind fun b=>.ok (!b)
@[simp] theorem sDic_a (i:Nat) (ρ:Env):sDic i ρ=.ok (.nx (ρ.set i (some (.dic [])))):=rfl
@[simp] theorem sDPut_a (i:Nat) (e:EF) (ρ:Env):sDPut i e ρ=(e ρ).bind fun d=>dputK i ρ (keyOf d) ρ[i]?:=rfl
@[simp] theorem dputK_a (i:Nat) (ρ:Env) (k:List Int) (ks:List (List Int)):dputK i ρ (some k) (some (some (.dic ks)))=guard (ks.length < line) (.ok (.nx (ρ.set i (some (.dic (putD ks k)))))):=rfl
@[simp] theorem sDFrz_a (i:Nat) (a:SF) (ρ:Env):sDFrz i a ρ=a (dfrzK i ρ ρ[i]?):=rfl
@[simp] theorem dfrzK_a (i:Nat) (ρ:Env) (ks:List (List Int)):dfrzK i ρ (some (some (.dic ks)))=ρ.set i (some (.fdc ks)):=rfl
@[simp] theorem tInD_a (e:EF) (i:Nat) (ρ:Env):tInD e i ρ=(e ρ).bind fun d=>dinK (keyOf d) ρ[i]?:=rfl
@[simp] theorem tNinD_a (e:EF) (i:Nat) (ρ:Env):tNinD e i ρ=(e ρ).bind fun d=>(dinK (keyOf d) ρ[i]?).bind fun b=>.ok (!b):=rfl
@[simp] theorem dinK_a (k:List Int) (ks:List (List Int)):dinK (some k) (some (some (.fdc ks)))=.ok (decide (k∈ks)):=rfl
def lstK:D→Res (List D)
 | .lst xs=>.ok xs
 | _=>.bad
def lVal (a:EF) (ρ:Env):Res (List D):=(a ρ).bind lstK
@[simp] theorem lVal_a (a:EF) (ρ:Env):lVal a ρ=(a ρ).bind lstK:=rfl
@[simp] theorem lstK_a (xs:List D):lstK (.lst xs)=.ok xs:=rfl
end Z
namespace ZS
open PySem PySem.Spec PyProof.Rows L2
section
variable {X:Cx} {pins:List (Addr×Obj)} {σ:St} {H:Hp} {s:Shared}
theorem items_int {P:Program} {w:World}:∀ {k:List Int} {its:List Value},Vals (k.map V.int) its→PySem.ItemsAre (intKind P w) k its
 | [],_,.nil=>.nil
 | i :: k,_,.cons r t=>.cons (by obtain ⟨t,rfl⟩:=r;simp [intKind,Value.isInt]) (items_int t)
theorem DicAt.mono {a:Addr} {ks:List (List Int)} {as:List Addr} {h1 h2:Heap} (h:DicAt a ks as h1) (k:∀ o,h1.get? a=some o→h2.get? a=some o):DicAt a ks as h2:=by
 obtain ⟨z,hd,xs,o,es,ep,e1,e2,e3,e4⟩:=h
 exact ⟨z,hd,xs,o,es,ep,e1,e2,k _ e3,e4⟩
end
theorem RS.upq {K : PySem.W.Frag} {H0 H : Hp} {σ : St} {ρ : Z.Env} {i : Nat} {q : Addr} {ks : Z.DK} {as : List Addr} {u : HO} {l : Z.L} (h : RS K H0 H σ ρ) (ei : ρ[i]? = some (some (.dc ks))) (si : σ[i]? = some (some (.ref q)))
  (hq:H q=some (DcO q ks as)) (hl:RL K (upd H q u) l (.ref q)) (n1:∀ xs,l≠.own xs) (n2:∀ xs,l≠.bor xs):RS K H0 (upd H q u) σ (ρ.set i (some l)):=by
 have st:Stb H (upd H q u):=stb_upd hq (fun _=>dcO_tup) (fun _ _=>dcO_frz)
 have h0:H0 q=none:=h.dic.2 i ks q ei si
 have hs:Same H0 (upd H q u):=fun b u e=>by rw [upd_ne (ne_of_none e h0)];exact h.same b u e
 have old:∀ {j:Nat} {ls:Z.DK},(ρ.set i (some l))[j]?=some (some (.dc ls))→∃ ls',ρ[j]?=some (some (.dc ls')):=fun {j ls} e=>by
  rcases set_cases e with ⟨rfl,_,_⟩ | ⟨_,e⟩
  ·exact ⟨ks,ei⟩
  ·exact ⟨ls,e⟩
 refine ⟨hs,⟨by simp [h.re.len],fun j l' e=>?_,fun j k xs' ys p e1 e2 e3 e4=>?_⟩,fun j xs' p e1 e2=>?_,fun j xs' e1=>?_,⟨fun j k ks1 ks2 a e1 e2 e3 e4=>?_,fun j ks1 p e1 e2=>?_⟩⟩
 ·rcases set_cases e with ⟨rfl,_,e⟩ | ⟨hj,e⟩
  ·cases e
   exact ⟨.ref q,si,hl⟩
  ·obtain ⟨v,e1,r⟩:=h.re.get j l' e
   refine ⟨v,e1,?_⟩
   cases l' with
   | val d=>exact Den.ups (show Den K H d v from r) st
   | own zs =>
    obtain ⟨q',ws,rfl,hq',t'⟩:=r
    have:q'≠q:=by
     rintro rfl
     rw [hq] at hq';exact dcO_lst (Option.some.inj hq')
    exact ⟨q',ws,rfl,by rw [upd_ne this];exact hq',t'.ups st⟩
   | bor zs =>
    obtain ⟨v',e2,r2⟩:=h.bors j zs e
    rw [e1] at e2
    cases e2
    exact r2.up hs
   | dc ls =>
    obtain ⟨q',as',rfl,hq',t'⟩:=r
    have:q'≠q:=by
     rintro rfl
     exact hj (h.dic.1 i j ks ls q' ei e si e1)
    exact ⟨q',as',rfl,by rw [upd_ne this];exact hq',t'.ups st⟩
   | fdc ls =>
    obtain ⟨q',o',as',rfl,hq',t'⟩:=r
    exact ⟨q',o',as',rfl,st.frz _ _ _ hq',t'.ups st⟩
   | idc ps =>
    obtain ⟨q',o',rfl,hq'⟩:=r
    exact ⟨q',o',rfl,st.frz _ _ _ hq'⟩
   | exc c =>
    obtain ⟨q',o',u',C',rfl,hq',r1,r2,r3⟩:=r
    exact ⟨q',o',u',C',rfl,st.frz _ _ _ hq',r1,r2,r3.ups st⟩
 ·rcases set_cases e1 with ⟨_,_,e⟩ | ⟨_,e1⟩
  ·exact absurd (Option.some.inj e) (n1 _)
  ·rcases set_cases e2 with ⟨_,_,e⟩ | ⟨_,e2⟩
   ·exact absurd (Option.some.inj e) (n1 _)
   ·exact h.re.sep j k _ _ p e1 e2 e3 e4
 ·rcases set_cases e1 with ⟨_,_,e⟩ | ⟨_,e1⟩
  ·exact absurd (Option.some.inj e) (n1 _)
  ·exact h.fresh j xs' p e1 e2
 ·rcases set_cases e1 with ⟨_,_,e⟩ | ⟨_,e1⟩
  ·exact absurd (Option.some.inj e) (n2 _)
  ·exact h.bors j xs' e1
 ·obtain ⟨_,o1⟩:=old e1
  obtain ⟨_,o2⟩:=old e2
  exact h.dic.1 j k _ _ a o1 o2 e3 e4
 ·obtain ⟨_,o1⟩:=old e1
  exact h.dic.2 j _ p o1 e2
theorem RS.setG {K : PySem.W.Frag} {H0 H H' : Hp} {σ : St} {ρ : Z.Env} {i : Nat} {q : Addr} {kd : Z.DK} {as : List Addr} (h : RS K H0 H σ ρ) (hq : H q = none) (sm : Same H H') (hq' : H' q = some (DcO q kd as)) (hk : DcK K H' kd as) : RS K H0 H' (σ.set i (some (.ref q))) (ρ.set i (some (.dc kd))) := by
 have getσ:∀ (j:Nat),i≠j→(σ.set i (some (V.ref q)))[j]?=σ[j]?:=fun j hj=>List.getElem?_set_ne hj
 have h':=h.up sm
 have nq:∀ (j:Nat) (ks:Z.DK),ρ[j]?=some (some (.dc ks))→σ[j]?≠some (some (.ref q)):=fun j ks e z=>by
  obtain ⟨v,e1,q',as,rfl,h2,_⟩:=h.re.get j _ e
  rw [z] at e1;cases e1
  rw [hq] at h2;cases h2
 refine ⟨h'.same,⟨by simp [h.re.len],fun j l e=>?_,fun j k xs ys p e1 e2 e3 e4=>?_⟩,fun j xs p e1 e2=>?_,fun j xs e1=>?_,⟨fun j k ks1 ks2 a e1 e2 e3 e4=>?_,fun j ks1 p e1 e2=>?_⟩⟩
 ·rcases set_cases e with ⟨rfl,hl,e⟩ | ⟨hj,e⟩
  ·cases e
   exact ⟨.ref q,List.getElem?_set_self (by rw [←h.re.len];exact hl),q,as,rfl,hq',hk⟩
  ·rw [getσ j hj];exact h'.re.get j l e
 ·rcases set_cases e1 with ⟨_,_,e⟩ | ⟨hj,e1⟩
  ·cases e
  ·rcases set_cases e2 with ⟨_,_,e⟩ | ⟨hk,e2⟩
   ·cases e
   ·rw [getσ j hj] at e3
    rw [getσ k hk] at e4
    exact h.re.sep j k xs ys p e1 e2 e3 e4
 ·rcases set_cases e1 with ⟨_,_,e⟩ | ⟨hj,e1⟩
  ·cases e
  ·rw [getσ j hj] at e2
   exact h.fresh j xs p e1 e2
 ·rcases set_cases e1 with ⟨_,_,e⟩ | ⟨hj,e1⟩
  ·cases e
  ·rw [getσ j hj]
   exact h.bors j xs e1
 ·rcases set_cases e1 with ⟨rfl,hl,_⟩ | ⟨hj,e1⟩
  ·rcases set_cases e2 with ⟨rfl,_,_⟩ | ⟨hk,e2⟩
   ·rfl
   ·rw [List.getElem?_set_self (by rw [←h.re.len];exact hl)] at e3
    cases e3
    rw [getσ k hk] at e4
    exact absurd e4 (nq k _ e2)
  ·rcases set_cases e2 with ⟨rfl,hl,_⟩ | ⟨hk,e2⟩
   ·rw [List.getElem?_set_self (by rw [←h.re.len];exact hl)] at e4
    cases e4
    rw [getσ j hj] at e3
    exact absurd e3 (nq j _ e1)
   ·rw [getσ j hj] at e3
    rw [getσ k hk] at e4
    exact h.dic.1 j k _ _ a e1 e2 e3 e4
 ·rcases set_cases e1 with ⟨rfl,hl,_⟩ | ⟨hj,e1⟩
  ·rw [List.getElem?_set_self (by rw [←h.re.len];exact hl)] at e2
   cases e2
   exact h.same.free hq
  ·rw [getσ j hj] at e2
   exact h.dic.2 j _ p e1 e2
section
variable {X:Cx} {a:Expr} {pos:Pos} {H0:Hp} {sts:List Stmt} {g:Z.SF} {fa:Z.EF}
end
end ZS
namespace ZQ
open PySem PySem.Spec PyProof.Rows L2 ZS
section
variable {X:Cx} {a:Expr} {pos:Pos} {H0:Hp} {sts:List Stmt} {g:Z.SF} {fa:Z.EF}
end
end ZQ
namespace ZS
open PySem PySem.Spec PyProof.Rows L2
section
variable {X:Cx} {a:Expr} {pos:Pos} {fa:Z.EF}
end
end ZS
namespace ZQ
open PySem PySem.Spec PyProof.Rows L2 ZS
section
variable {X:Cx} {a:Expr} {pos:Pos} {fa:Z.EF} {H0:Hp}
end
end ZQ
noncomputable section
namespace Z
def whileGo (t:TF) (b:SF):Nat→Env→Res Fl
 | 0,_=>.bad
 | n+1,ρ=>(t ρ).bind fun c=>if c then (b ρ).bind fun fl=>match fl with
   | .nx ρ'=>whileGo t b n ρ'
   | .ct ρ'=>whileGo t b n ρ'
   | .bk ρ'=>.ok (.nx ρ')
   | .rt d=>.ok (.rt d)
  else .ok (.nx ρ)
def sWhile (n:Nat) (t:TF) (b:SF) (ρ:Env):Res Fl:=whileGo t b n ρ
def popK (i j:Nat) (ρ:Env) (d:D) (o:Option (Option L)):Res Fl:=match d,o with
 | .int k,some (some (.own xs))=>guard (0≤k∧xs.length≤line) (match xs[k.toNat]? with
  | some y=>.ok (.nx ((ρ.set j (some (.own (xs.eraseIdx k.toNat)))).set i (some (.val y))))
  | none=>.bad)
 | _,_=>.bad
def sPop (i j:Nat) (e:EF) (ρ:Env):Res Fl:=(e ρ).bind fun d=>popK i j ρ d ρ[j]?
@[simp] theorem sPop_a (i j:Nat) (e:EF) (ρ:Env):sPop i j e ρ=(e ρ).bind fun d=>popK i j ρ d ρ[j]?:=rfl
end Z
namespace ZS
open PySem PySem.Spec PyProof.Rows L2
section
variable {X:Cx} {H0:Hp} {pos:Pos}
theorem Dens.erase {K:PySem.W.Frag} {H:Hp}:∀ {ds:List Z.D} {vs:List V} (n:Nat),Dens K H ds vs→Dens K H (ds.eraseIdx n) (vs.eraseIdx n)
 | [],vs,n,h=>by
  simp only [Dens] at h;subst h
  simpa using Dens.nil
 | x :: ds,vs,n,h=>by
  simp only [Dens] at h
  obtain ⟨u,r,rfl,p,t⟩:=h
  cases n with
  | zero=>simpa using t
  | succ n=>simpa using Dens.cons p (Dens.erase n t)
theorem ds_while {c : Expr} {body : List Stmt} {t : Z.TF} {g : Z.SF} (n : Nat) (hp : PassesOwn (model X.prog X.w) X.A X.env X.xe) (hc : DT X c t) (hb : DSs X H0 body g) : DS X H0 (.While c body [] pos) (Z.sWhile n t g) :=
 PS.imp (ps_while hp hc hb) fun D σ H ⟨ρ,fl,rs,e,k⟩=>by
  refine ⟨fun m σ' H'=>∃ ρ',RS X.K H0 H' σ' ρ'∧Z.whileGo t g m ρ'=.ok fl∧flZ X.K H0 H' D fl,⟨n,ρ,rs,e,k⟩,?_⟩
  rintro m σ1 H1 ⟨ρ1,rs1,e1,k1⟩
  cases m with
  | zero=>cases e1
  | succ m =>
   unfold Z.whileGo at e1
   obtain ⟨b,et,e1⟩:=Z.Res.bind_ok e1
   refine ⟨ρ1,b,rs1.re,et,fun H2 s2=>?_⟩
   cases b with
   | false =>
    rw [if_neg Bool.false_ne_true] at e1 ⊢
    cases e1
    exact k1 σ1 H2 (stb s2) (rs1.up s2)
   | true =>
    rw [if_pos rfl] at e1 ⊢
    obtain ⟨fl1,eb,e1⟩:=Z.Res.bind_ok e1
    refine ⟨fun σ' H'=>∃ ρ',RS X.K H0 H' σ' ρ'∧Z.whileGo t g m ρ'=.ok fl∧flZ X.K H0 H' D fl,fun σ' H' q=>⟨m,Nat.lt_succ_self m,q⟩,ρ1,fl1,rs1.up s2,eb,?_⟩
    have k2:=k1.up (stb s2)
    cases fl1 with
    | nx ρ2=>exact fun σ' H' st r=>⟨ρ2,r,e1,k2.up st⟩
    | ct ρ2=>exact fun σ' H' st r=>⟨ρ2,r,e1,k2.up st⟩
    | bk ρ2 =>
     cases e1
     exact k2
    | rt d =>
     cases e1
     exact k2
end
end ZS
namespace ZQ
open PySem PySem.Spec PyProof.Rows L2 ZS
section
variable {X:Cx} {H0:Hp} {pos:Pos}
theorem ds_while {c:Expr} {body:List Stmt} {t:Z.TF} {g:Z.SF} (n:Nat) (hp:PassesOwn (model X.prog X.w) X.A X.env X.xe) (hc:QT X c t) (hb:QSs X H0 body g):QS X H0 (.While c body [] pos) (Z.sWhile n t g):=⟨ZS.ds_while n hp hc.p hb.p⟩
end
end ZQ
noncomputable section
namespace Z
def oAddI:D→D→Res D
 | .int a,.int b=>.ok (.int (a+b))
 | _,_=>.bad
@[simp] theorem oAddI_int (a b:Int):oAddI (.int a) (.int b)=.ok (.int (a+b)):=rfl
def oIsB (c:Bool):D→Res D
 | .bl b=>.ok (.bl (b==c))
 | _=>.bad
@[simp] theorem oIsB_bl (c b:Bool):oIsB c (.bl b)=.ok (.bl (b==c)):=rfl
def oNotB (c:Bool):D→Res D
 | .bl b=>.ok (.bl (b != c))
 | _=>.bad
@[simp] theorem oNotB_bl (c b:Bool):oNotB c (.bl b)=.ok (.bl (b != c)):=rfl
def intsL:List D→Option (List Int)
 | []=>some []
 | .int i :: r=>(intsL r).map (i :: ·)
 | _ :: _=>none
@[simp] theorem intsL_map:∀ ns:List Int,intsL (ns.map .int)=some ns
 | []=>rfl
 | n :: ns=>by
  show (intsL (ns.map .int)).map (n :: ·)=_
  rw [intsL_map ns];rfl
end Z
end
noncomputable section
namespace Z
end Z
end
namespace ZS
open PySem PySem.Spec PyProof.Rows L2
section
variable {X:Cx} {H0:Hp} {pos:Pos}
theorem eV_at {i:Nat} {ρ:Z.Env} {d:Z.D} (h:Z.eV i ρ=.ok d):ρ[i]?=some (some (.val d)):=by
 unfold Z.eV at h
 split at h
 ·rename_i e;cases h;exact e
 ·cases h
theorem ds_aug {i:Nat} {x:Str} {a:Expr} {fa:Z.EF} {pos':Pos} {op:Operator} {r:R2} {o:Z.D→Z.D→Z.Res Z.D} (hN:X.N.Nodup) (hi:X.N[i]?=some x) (hx:Loc X.env.scope x) (hr:OpR X (inplaceOp op) r) (hz:OpZ X.K r o) (he:DE X a fa) (hf:X.fn x=true∨X.env.scope.names.lookup x=some .local) :
  DS X H0 (.AugAssign (.Name x pos') op a pos) (Z.sSet i (Z.eB o (Z.eV i) fa)):=PS.imp (ps_aug hN hi hx he hr hf) fun D σ H ⟨ρ,fl,rs,e,k⟩=>by
 obtain ⟨d,ea,e⟩:=Z.Res.bind_ok e
 cases e
 obtain ⟨dx,e1,ea⟩:=Z.Res.bind_ok ea
 obtain ⟨dy,e2,ea⟩:=Z.Res.bind_ok ea
 obtain ⟨v,si,dv⟩:=rs.re.get i _ (eV_at e1)
 refine ⟨v,si,ρ,dy,rs.re,e2,fun y H1 s1 dy1=>?_⟩
 exact hz v y dx dy d H1 _ (.inl (Den.up dv s1)) (.inl dy1) ea fun z H2 s2 dz=>k _ H2 (stb (s1.trans s2)) ((rs.up (s1.trans s2)).setV dz)
theorem oz_addI {K:PySem.W.Frag}:OpZ K (rI0 fun i j=>.int (i+j)) Z.oAddI:=opz_int0 (gd:=fun i j=>.int (i+j)) (fun dx dy d e=>by
 unfold Z.oAddI at e;split at e
 ·cases e;exact ⟨_,_,rfl,rfl,rfl⟩
 ·cases e) fun _ _ _=>den_int
end
end ZS
namespace ZQ
open PySem PySem.Spec PyProof.Rows L2 ZS
section
variable {X:Cx} {H0:Hp} {pos:Pos}
theorem ds_addA {i:Nat} {x:Str} {a:Expr} {fa:Z.EF} {pos':Pos} (hN:X.N.Nodup) (hi:X.N[i]?=some x) (hx:Loc X.env.scope x) (he:QE X a fa) (hf:X.fn x=true∨X.env.scope.names.lookup x=some .local:=by first | exact .inl rfl | exact .inr rfl | assumption) :
  QS X H0 (.AugAssign (.Name x pos') .Add a pos) (Z.sSet i (Z.eB Z.oAddI (Z.eV i) fa)):=⟨ZS.ds_aug hN hi hx iop_add oz_addI he.p hf⟩
end
end ZQ
namespace ZMx
open PySem PySem.Spec PyProof.Rows
section
variable {prog:Program} {w:World} {A:Around} {R:Result→Shared→Prop} {I S:Addr} {fp wr:List Addr} {n:Nat} {P:Nat→Value→Prop} {St:Nat→Heap→Prop}
abbrev two (b:Value) (c:Nat):Obj:={ cls:=.type "list",data:=.seq #[b,b] c }
abbrev lp (I S:Addr) (kw:List (Str×Value)):Code:=.builtin "max.loop" ⟨[.ref I,.none,.ref S],kw⟩
theorem nm:(toString "max" ++ toString ".loop" : String) = "max.loop" := by decide
theorem go (W:Walks prog w A.in1 I fp wr n P St) {bt:Nat→Nat→Bool} (hc:CmpOf prog w A.in1 .Gt P bt) (out:S∉fp) (kw:List (Str×Value)) :
  ∀ (k j:Nat) (s:Shared) (b:Value) (c:Nat),n=j+1+k→St (j+1) s.heap→P (argBest bt j) b→s.heap.get? S=some (two b c) →
   (∀ v h' tk,P (argBest bt (n-1)) v→(∀ a o,a≠S→a∉wr→s.heap.get? a=some o→h'.get? a=some o)→R (.ok (.ret v)) { s with heap:=h',toks:=tk }) →
   codeAny (model prog w) A (lp I S kw) R s:=by
 have ow:S∉wr:=fun z=>out (W.sub S z)
 have oth:∀ {h:Heap} {a:Addr} {o:Obj} (f:Obj→Obj),a≠S→h.get? a=some o→(h.update S f).get? a=some o:=fun f ne e=>(Heap.get?_update_other _ _ (Ne.symm ne)).trans e
 intro k
 induction k with
 | zero =>
  intro j s b c hn st pb gS fin
  refine codeAny_builtin PySem.F.entry_max_loop ?_
  rw [Around.under_plainId PySem.F.plain_max_loop (⟨[.ref I,.none,.ref S],kw⟩)]
  show wpAny (model prog w) A.in1 (seqItems? (.ref S) >>= _) _ _ s
  refine wpAny_bind (wpAny_seqItems gS rfl (wpAny_bind (wpAny_tryCatch (W.done s _ _ (by rw [hn];exact st) fun h1 t1 k1=>?_))))
  have g1:=k1 S _ ow gS
  show wpAny (model prog w) A.in1 (updateSeq S (fun _=>#[]) >>= _) _ _ _
  refine wpAny_bind (wpAny_updateSeq g1 rfl (wpAny_bind (wpAny_letGo (wpAny_pure ?_))))
  refine fin b _ t1 (by rw [hn];exact pb) fun a o ne nw e=>oth _ ne (k1 a o nw e)
 | succ k ih =>
  intro j s b c hn st pb gS fin
  refine codeAny_builtin PySem.F.entry_max_loop ?_
  rw [Around.under_plainId PySem.F.plain_max_loop (⟨[.ref I,.none,.ref S],kw⟩)]
  show wpAny (model prog w) A.in1 (seqItems? (.ref S) >>= _) _ _ s
  refine wpAny_bind (wpAny_seqItems gS rfl (wpAny_bind (wpAny_tryCatch (W.item (j+1) s _ _ (by lia) st fun v h1 t1 pv st1 k1=>?_))))
  have g1:=k1 S _ ow gS
  refine wpAny_bind (wpAny_pure ?_)
  show wpAny (model prog w) A.in1 (tryCatch (holding [v,v] (richCompare .Gt v b >>= _)) _ >>= _) _ _ _
  refine wpAny_bind (wpAny_tryCatch (wpAny_holding (wpAny_bind (hc (j+1) (argBest bt j) v b _ _ _ pv pb (wpAny_bind (wpAny_holding (wpAny_truthy_bool (wpAny_bind (wpAny_letGo (wpAny_pure ?_))))))))))
  have stay:∀ (f:Obj→Obj),St (j+1+1) (h1.update S f):=fun f=>W.frame _ _ _ st1 fun a ha o e=>oth f (fun z=>out (z▸ha)) e
  cases q:bt (j+1) (argBest bt j) with
  | true =>
   simp only [if_true]
   refine wpAny_bind (wpAny_updateSeq g1 rfl (wpAny_bind (wpAny_letGo ?_)))
   rw [nm]
   refine wpAny_pure ⟨plainId_quiet PySem.F.plain_max_loop _,ih (j+1) _ v _ (by lia) (stay _) (by simp only [argBest,q,if_true];exact pv) (Heap.get?_update_self _ g1 rfl) fun v' h2 t2 pv' k2=>?_⟩
   exact fin v' h2 t2 pv' fun a o ne nw e=>k2 a o ne nw (oth _ ne (k1 a o nw e))
  | false =>
   simp only [Bool.false_eq_true,if_false]
   refine wpAny_bind (wpAny_letGo ?_)
   rw [nm]
   refine wpAny_pure ⟨plainId_quiet PySem.F.plain_max_loop _,ih (j+1) _ b c (by lia) st1 (by simp only [argBest,q,Bool.false_eq_true,if_false];exact pb) g1 fun v' h2 t2 pv' k2=>?_⟩
   exact fin v' h2 t2 pv' fun a o ne nw e=>k2 a o ne nw (k1 a o nw e)
theorem first (W:Walks prog w A.in1 I fp wr n P St) {bt:Nat→Nat→Bool} (hc:CmpOf prog w A.in1 .Gt P bt) (out:S∉fp) {x:Str} {d:Value} {s:Shared} {c:Nat} (st:St 0 s.heap) (gS:s.heap.get? S=some { cls:=.type "list",data:=.seq #[] c })
  (none_:n=0→∀ h' tk,(∀ a o,a≠S→a∉wr→s.heap.get? a=some o→h'.get? a=some o)→R (.ok (.ret d)) { s with heap:=h',toks:=tk })
  (fin:0 < n→∀ v h' tk,P (argBest bt (n-1)) v→(∀ a o,a≠S→a∉wr→s.heap.get? a=some o→h'.get? a=some o)→R (.ok (.ret v)) { s with heap:=h',toks:=tk }) :
  codeAny (model prog w) A (lp I S [(x,d)]) R s:=by
 have ow:S∉wr:=fun z=>out (W.sub S z)
 have oth:∀ {h:Heap} {a:Addr} {o:Obj} (f:Obj→Obj),a≠S→h.get? a=some o→(h.update S f).get? a=some o:=fun f ne e=>(Heap.get?_update_other _ _ (Ne.symm ne)).trans e
 refine codeAny_builtin PySem.F.entry_max_loop ?_
 rw [Around.under_plainId PySem.F.plain_max_loop (⟨[.ref I,.none,.ref S],[(x,d)]⟩)]
 show wpAny (model prog w) A.in1 (seqItems? (.ref S) >>= _) _ _ s
 by_cases h0:n=0
 ·subst h0
  refine wpAny_bind (wpAny_seqItems gS rfl (wpAny_bind (wpAny_tryCatch (W.done s _ _ st fun h1 t1 k1=>?_))))
  refine wpAny_bind (wpAny_rule (wpAny_pure ?_))
  exact none_ rfl h1 t1 fun a o _ nw e=>k1 a o nw e
 ·have hp:0 < n:=Nat.pos_of_ne_zero h0
  refine wpAny_bind (wpAny_seqItems gS rfl (wpAny_bind (wpAny_tryCatch (W.item 0 s _ _ hp st fun v h1 t1 pv st1 k1=>?_))))
  have g1:=k1 S _ ow gS
  refine wpAny_bind (wpAny_pure ?_)
  refine wpAny_bind (wpAny_updateSeq g1 rfl ?_)
  rw [nm]
  refine wpAny_pure ⟨plainId_quiet PySem.F.plain_max_loop _,go W hc out [(x,d)] (n-1) 0 _ v _ (by lia) (W.frame _ _ _ st1 fun a ha o e=>oth _ (fun z=>out (z▸ha)) e) pv (Heap.get?_update_self _ g1 rfl) fun v' h2 t2 pv' k2=>?_⟩
  exact fin hp v' h2 t2 pv' fun a o ne nw e=>k2 a o ne nw (oth _ ne (k1 a o nw e))
theorem args (a d:Value):argsOk "max" ⟨[a],[(Str.ofString "default",d)]⟩:=by unfold argsOk;kernel_rfl
theorem binds (d:Value):Builtin.Builtins.bindParams "max" ["key", "default"] 0 ⟨[],[(Str.ofString "default",d)]⟩=pure [none,some d]:=by kernel_rfl
theorem call {x d:Value} {Q:Value→Shared→Prop} {E:Value→Shared→Prop} {s:Shared}
  (h:wpAny (model prog w) A.in1 (pyIter x) (fun it s2=>∃ I fp wr n P St bt,it=.ref I∧Walks prog w A.in1 I fp wr n P St∧St 0 s2.heap∧(∀ b∈fp,b < s2.heap.objs.size)∧CmpOf prog w A.in1 .Gt P bt ∧
   (n=0→∀ h' tk,(∀ a o,a∉wr→s2.heap.get? a=some o→h'.get? a=some o)→Q d { s2 with heap:=h',toks:=tk }) ∧
   (0 < n→∀ v h' tk,P (argBest bt (n-1)) v→(∀ a o,a∉wr→s2.heap.get? a=some o→h'.get? a=some o)→Q v { s2 with heap:=h',toks:=tk })) E s) :
  wpAny (model prog w) A (PySem.call (.builtin "max") [x] [(Str.ofString "default",d)]) Q E s:=by
 refine kmk_tree PySem.F.kind_max PySem.F.plain_max PySem.F.entry_max (args x d) ?_
 show wpAny (model prog w) A.in1 (Builtin.Builtins.bindParams "max" ["key", "default"] 0 ⟨[],[(Str.ofString "default",d)]⟩ >>= _) _ _ s
 rw [binds]
 refine wpAny_bind (wpAny_pure (wpAny_bind (wpAny_pure (wpAny_bind (wpAny_mono h (fun it s2 q=>?_) fun _ _ e=>e)))))
 obtain ⟨I,fp,wr,n,P,St,bt,rfl,W,st,lt,hc,q0,q1⟩:=q
 refine wpAny_bind (wpAny_newObj_type ?_)
 have out:s2.heap.objs.size∉fp:=fun z=>Nat.lt_irrefl _ (lt _ z)
 have keep:∀ {h':Heap},(∀ a o,a≠s2.heap.objs.size→a∉wr→(s2.heap.push { cls:=.type "list",data:=.seq #[] }).get? a=some o→h'.get? a=some o)→∀ a o,a∉wr→s2.heap.get? a=some o→h'.get? a=some o :=
  fun k a o nw e=>k a o (Nat.ne_of_lt (Heap.lt_size e)) nw (Heap.get?_push_of_some _ e)
 rw [nm]
 refine wpAny_pure ⟨plainId_quiet PySem.F.plain_max_loop _,first W hc out (W.frame _ _ _ st fun a _ o e=>Heap.get?_push_of_some _ e) (Heap.get?_push_size _ rfl) (fun z h' tk k=>q0 z h' tk (keep k)) fun z v h' tk pv k=>q1 z v h' tk pv (keep k)⟩
end
end ZMx
namespace ZMx
open PySem PySem.Spec PyProof.Rows
section
variable {prog:Program} {w:World} {A:Around} {R:Result→Shared→Prop} {I S:Addr} {fp wr:List Addr} {n:Nat} {P:Nat→Value→Prop} {St:Nat→Heap→Prop}
end
end ZMx
namespace ZS
open PySem PySem.Spec PyProof.Rows L2
section
variable {X:Cx} {a c:Expr} {fa fc:Z.EF} {pos:Pos}
end
end ZS
namespace ZQ
open PySem PySem.Spec PyProof.Rows L2 ZS
section
variable {X:Cx} {a c:Expr} {fa fc:Z.EF} {pos:Pos}
end
end ZQ
namespace ZS
open PySem PySem.Spec PyProof.Rows L2
section
variable {X:Cx} {a c:Expr} {fa fc:Z.EF} {pos:Pos}
end
end ZS
namespace ZQ
open PySem PySem.Spec PyProof.Rows L2 ZS
section
variable {X:Cx} {a c:Expr} {fa fc:Z.EF} {pos:Pos}
end
end ZQ
noncomputable section
namespace Z
end Z
end
noncomputable section
namespace Z
def cmpL (le:Bool) (eq lt:D→D→Option Bool):List D→List D→Option Bool
 | [],[]=>some le
 | [],_ :: _=>some true
 | _ :: _,[]=>some false
 | a :: as,b :: bs=>match eq a b with
  | some true=>cmpL le eq lt as bs
  | some false=>lt a b
  | none=>none
def cmpDn (le:Bool):Nat→D→D→Option Bool
 | _,.int a,.int b=>some (if le then decide (a≤b) else decide (a < b))
 | n+1,.tup as,.tup bs=>match allEq (eqDn n) as bs with
  | some _=>cmpL le (eqDn n) (cmpDn le n) as bs
  | none=>none
 | _,_,_=>none
def goMn (b:D):List D→Res D
 | []=>.ok b
 | d :: r=>match cmpDn false 6 d b with
  | some true=>goMn d r
  | some false=>goMn b r
  | none=>.bad
def oMin1:D→Res D
 | .lst (d :: r)=>goMn d r
 | _=>.bad
end Z
end
namespace ZS
open PySem PySem.Spec PyProof.Rows L2 PySem.W
section
variable {X:Cx} {pins:List (Addr×Obj)} {σ:St} {H:Hp} {s:Shared}
theorem Off.nofs {C:Addr} (o:Off X pins H C) (ok:X.Ok):C∉X.fs:=fun hb=>by
 obtain ⟨_,ob,ho,_⟩:=ok.funs.mem hb
 exact absurd (Nat.lt_of_lt_of_le (Heap.lt_size ho) o.new) (Nat.lt_irrefl _)
theorem Off.up {H':Hp} {C:Addr} (o:Off X pins H C) (h:H' C=none):Off X pins H' C:=⟨h,o.loc,o.new,o.cell,o.pin⟩
theorem Off.fresh {C:Addr} (I:Inv X pins σ H s) (hC:s.heap.objs.size≤C) {H':Hp} (h:H' C=none):Off X pins H' C where
 free:=h
 loc:=Nat.ne_of_gt (Nat.lt_of_lt_of_le I.lt hC)
 new:=Nat.le_trans I.sz hC
 cell:=fun x c e=>by
  obtain ⟨v,o,ho,_⟩:=I.cell x c e
  exact Nat.ne_of_lt (Nat.lt_of_lt_of_le (Heap.lt_size ho) hC)
 pin:=fun p hp=>Nat.ne_of_lt (Nat.lt_of_lt_of_le (Heap.lt_size (I.pin p hp).1) hC)
structure LamAt (X:Cx) (pins:List (Addr×Obj)) (q:Str) (params:Arguments) (body:Expr) (scope:Scope) (cl:List (Str×Addr)) (H:Hp) (s:Shared) (f c':Addr) (pm ctv:Value):Prop where
 off:Off X pins H f
 obj:s.heap.get? f=some (kla_obj "<lambda>" q params body scope cl pm c' ctv)
 code:H c'=some (.cod q)
end
section
variable {X:Cx} {pins:List (Addr×Obj)} {σ:St} {H:Hp} {s:Shared} {N':List Str} {is:List Nat} {scope:Scope} {body:Expr} {params:Arguments} {q:Str} {cl:List (Str×Addr)} {f c':Addr} {pm ctv:Value} {ρ:Z.Env} {fe:Z.EF} {x:Str}
end
end ZS
namespace ZS
open PySem PySem.Spec PyProof.Rows L2 PySem.W
abbrev held (b:Value) (k:Value) (c:Nat):Obj:={ cls:=.type "list",data:=.seq #[b,k] c }
structure KLp (X:Cx) (pins:List (Addr×Obj)) (σ:St) (H₀:Hp) (l I S:Addr) (vs:List V) (H:Hp) (s:Shared) (j i:Nat) (kb:Int):Prop where
 inv:Inv X pins σ H s
 sm:Same H₀ H
 it:s.heap.IsListIter I l j
 offI:Off X pins H I
 offS:Off X pins H S
 best:∃ b v tb c,vs[i]?=some v∧RelV v b∧s.heap.get? S=some (held b (.int kb tb) c)
section
variable {X:Cx} {pins:List (Addr×Obj)} {σ:St} {H₀ H:Hp} {s:Shared} {l I S f:Addr} {vs:List V} {j i:Nat} {kb:Int} {kw:List (Str×Value)}
theorem klp_next {Q:Option Value→Shared→Prop} {E:Value→Shared→Prop} (hcalm:X.calm=true) (I1:Inv X pins σ H s) (hq:SqL X.K H l vs) (it:s.heap.IsListIter I l j) (oI:Off X pins H I) (hj:j < vs.length)
  (h:∀ u v h' tk,vs[j]?=some v→RelV v u→Inv X pins σ H { s with heap:=h',toks:=tk }→h'.IsListIter I l (j+1)→(∀ b o,b≠I→s.heap.get? b=some o→h'.get? b=some o)→Q (some u) { s with heap:=h',toks:=tk }) :
  wpAny (model X.prog X.w) X.A.in1 (pyNext (.ref I)) Q E s:=by
 obtain ⟨its,rv,pl,hz⟩:=I1.list hq
 have hl:=rv.length
 have hh:X.A.in1.handled=none:=I1.ok.hd hcalm
 have hne:l≠I:=by
  rintro rfl
  obtain ⟨o,e,hc,_⟩:=pl.isList
  obtain ⟨o2,e2,hc2,_⟩:=it
  rw [e] at e2;cases e2;rw [hc] at hc2;exact absurd (Value.type.inj hc2) (by decide)
 have W:=Walks.list (prog:=X.prog) (w:=X.w) (A:=X.A.in1) hh I l hne its.toArray
 refine W.item j s Q E (by rw [List.size_toArray,←hl];exact hj) ⟨it,pl.isList⟩ fun u h' tk pv st k1=>?_
 have hv:its[j]?=some u:=by simpa using pv
 obtain ⟨v,hv2⟩:∃ v,vs[j]?=some v:=⟨vs[j],by simp [hj]⟩
 obtain ⟨u',hu',rvu⟩:=rv.get hv2
 rw [hv] at hu';cases hu'
 have kp:∀ b o,b≠I→s.heap.get? b=some o→h'.get? b=some o:=fun b o hb e=>k1 b o (by simpa using hb) e
 exact h u v h' tk hv2 rvu (I1.turned kp oI.free oI.loc (.inr oI.new) oI.cell oI.pin) st.1 kp
theorem klp_stop {Q:Option Value→Shared→Prop} {E:Value→Shared→Prop} (hcalm:X.calm=true) (I1:Inv X pins σ H s) (hq:SqL X.K H l vs) (it:s.heap.IsListIter I l j) (oI:Off X pins H I) (hj:j=vs.length)
  (h:∀ h' tk,Inv X pins σ H { s with heap:=h',toks:=tk }→(∀ b o,b≠I→s.heap.get? b=some o→h'.get? b=some o)→Q none { s with heap:=h',toks:=tk }) :
  wpAny (model X.prog X.w) X.A.in1 (pyNext (.ref I)) Q E s:=by
 obtain ⟨its,rv,pl,hz⟩:=I1.list hq
 have hl:=rv.length
 have hh:X.A.in1.handled=none:=I1.ok.hd hcalm
 have hne:l≠I:=by
  rintro rfl
  obtain ⟨o,e,hc,_⟩:=pl.isList
  obtain ⟨o2,e2,hc2,_⟩:=it
  rw [e] at e2;cases e2;rw [hc] at hc2;exact absurd (Value.type.inj hc2) (by decide)
 have W:=Walks.list (prog:=X.prog) (w:=X.w) (A:=X.A.in1) hh I l hne its.toArray
 refine W.done s Q E ⟨by rw [List.size_toArray,←hl,←hj];exact it,pl.isList⟩ fun h' tk k1=>?_
 have kp:∀ b o,b≠I→s.heap.get? b=some o→h'.get? b=some o:=fun b o hb e=>k1 b o (by simpa using hb) e
 exact h h' tk (I1.turned kp oI.free oI.loc (.inr oI.new) oI.cell oI.pin) kp
structure Stay (X:Cx) (pins:List (Addr×Obj)) (σ:St) (f:Addr) (St:Hp→Shared→Prop):Prop where
 off:∀ H s,St H s→Off X pins H f
 un:∀ H H' s s',Inv X pins σ H s→St H s→Same H H'→H' f=none→(∀ o,s.heap.get? f=some o→s'.heap.get? f=some o)→St H' s'
end
section
variable {X:Cx} {pins:List (Addr×Obj)} {σ:St} {H₀:Hp} {l I S f:Addr} {vs:List V} {kw:List (Str×Value)} {St:Hp→Shared→Prop} {e:Z.D→Z.Res Int} {ds:List Z.D} {r:Z.D} {R:Result→Shared→Prop}
end
section
variable {X:Cx} {pins:List (Addr×Obj)} {σ:St} {H₀:Hp} {l I S f:Addr} {vs:List V} {kw:List (Str×Value)} {St:Hp→Shared→Prop} {e:Z.D→Z.Res Int} {ds:List Z.D} {r:Z.D} {R:Result→Shared→Prop}
end
section
variable {X:Cx} {pins:List (Addr×Obj)} {σ:St} {H₀:Hp} {l I S f:Addr} {vs:List V} {kw:List (Str×Value)} {St:Hp→Shared→Prop} {e:Z.D→Z.Res Int} {ds:List Z.D} {r:Z.D} {R:Result→Shared→Prop}
end
end ZS
namespace ZS
open PySem PySem.Spec PyProof.Rows L2 PySem.W
section
variable {X:Cx} {pins:List (Addr×Obj)} {σ:St} {H:Hp} {s:Shared} {l f:Addr} {vs:List V} {St:Hp→Shared→Prop} {e:Z.D→Z.Res Int} {ds:List Z.D} {r:Z.D} {Q:VK}
end
section
variable {X:Cx} {a body:Expr} {fa fe:Z.EF} {pos:Pos} {N':List Str} {is:List Nat} {scope:Scope} {params:Arguments}
end
section
variable {X:Cx} {pins:List (Addr×Obj)} {σ:St} {H:Hp} {s:Shared} {l f:Addr} {vs:List V} {St:Hp→Shared→Prop} {e:Z.D→Z.Res Int} {ds:List Z.D} {r:Z.D} {Q:VK}
end
section
variable {X:Cx} {a body:Expr} {fa fe:Z.EF} {pos:Pos} {N':List Str} {is:List Nat} {scope:Scope} {params:Arguments}
end
end ZS
namespace ZS
open PySem PySem.Spec PyProof.Rows L2 PySem.W
section
variable {P:Program} {w:World} {K:PySem.W.Frag} {mg:Str→Option Value} {base:Heap}
end
end ZS
namespace ZQ
open PySem PySem.Spec PyProof.Rows L2 PySem.W ZS
section
variable {X:Cx} {a body:Expr} {fa fe:Z.EF} {pos:Pos} {N':List Str} {is:List Nat} {scope:Scope} {params:Arguments}
end
end ZQ
namespace ZS
open PySem PySem.Spec PyProof.Rows L2 PySem.W
def DefK (K:Frag) (n:Str) (st:Stmt):Prop:=∃ (f:Addr) (od an:Option Addr) (sl:Array (Option Value)) (oc kV dc pm cd ct:Value),nsIn K mainGlobals n=some (some (.ref f))∧K.lookup f=some ⟨oc,od,.func (fnOf n n (defArgs st) (defBody st) (defScope st) .none kV dc pm an cd ct),sl⟩∧codeIn K cd n=true∧keepIn K (.ref f)=true
def DefKD (K:Frag) (n:Str) (st:Stmt):Prop:=∃ (f t:Addr) (od an td:Option Addr) (sl ts:Array (Option Value)) (tn:Nat) (oc kV dc pm cd ct tc:Value),nsIn K mainGlobals n=some (some (.ref f))∧K.lookup f=some ⟨oc,od,.func (fnOf n n (defArgs st) (defBody st) (defScope st) (.ref t) kV dc pm an cd ct),sl⟩∧codeIn K cd n=true∧keepIn K (.ref f)=true∧K.lookup t=some ⟨tc,td,.seq #[.none] tn,ts⟩
def DefKL (K:Frag) (n:Str) (st:Stmt):Prop:=DefK K n st∧∃ c p,tabIn K n=some (c,p)
section
variable {K:Frag} {n:Str} {st:Stmt} {h:Heap} {mg:Str→Option Value} {ps:List Str}
theorem DefK.mk' {f:Addr} {od an:Option Addr} {sl:Array (Option Value)} {oc kV dc pm cd ct:Value} (a:nsIn K mainGlobals n=some (some (.ref f))) (l:K.lookup f=some ⟨oc,od,.func (fnOf n n (defArgs st) (defBody st) (defScope st) .none kV dc pm an cd ct),sl⟩) (c:codeIn K cd n=true) (k:keepIn K (.ref f)=true):DefK K n st:=⟨f,od,an,sl,oc,kV,dc,pm,cd,ct,a,l,c,k⟩
theorem DefKD.mk' {f t:Addr} {od an td:Option Addr} {sl ts:Array (Option Value)} {tn:Nat} {oc kV dc pm cd ct tc:Value} (a:nsIn K mainGlobals n=some (some (.ref f))) (l:K.lookup f=some ⟨oc,od,.func (fnOf n n (defArgs st) (defBody st) (defScope st) (.ref t) kV dc pm an cd ct),sl⟩) (c:codeIn K cd n=true) (k:keepIn K (.ref f)=true) (q:K.lookup t=some ⟨tc,td,.seq #[.none] tn,ts⟩):DefKD K n st:=⟨f,t,od,an,td,sl,ts,tn,oc,kV,dc,pm,cd,ct,tc,a,l,c,k,q⟩
theorem DefKL.mk' {f cc pp:Addr} {od an td:Option Addr} {sl ts:Array (Option Value)} {tv:Array Value} {oc kV dc pm ct to:Value} (a:nsIn K mainGlobals n=some (some (.ref f))) (l:K.lookup f=some ⟨oc,od,.func (fnOf n n (defArgs st) (defBody st) (defScope st) .none kV dc pm an (.ref cc) ct),sl⟩) (c:codeIn K (.ref cc) n=true) (k:keepIn K (.ref f)=true) (tl:K.lookup cc=some ⟨to,td,.fields tv,ts⟩) (tp:tv[11]?=some (.ref pp)):DefKL K n st:=⟨⟨f,od,an,sl,oc,kV,dc,pm,.ref cc,ct,a,l,c,k⟩,cc,pp,tab_some a l rfl tl tp⟩
theorem DefK.df (d:DefK K n st) (X:K.In h) (G:h.Ns mainGlobals mg) (hb:∀ (kV doc pm:Value) (an:Option Addr) (cdv ct:Value) (us:List Value),us.length=ps.length→bindArgs (fnOf n n (defArgs st) (defBody st) (defScope st) .none kV doc pm an cdv ct) ⟨us,[]⟩=pure (ps.zip us)):Def K mg n st ps:=by
 obtain ⟨f,od,an,sl,oc,kV,dc,pm,cd,ct,a,l,c,k⟩:=d
 have F:=fun_mk (st:=st) l c k
 exact ⟨f,_,F,mg_of X G a,F.binds hb⟩
theorem DefKD.df (d:DefKD K n st) (X:K.In h) (G:h.Ns mainGlobals mg)
  (h1:∀ (t:Addr) (kV doc pm:Value) (an:Option Addr) (cdv ct:Value) (us:List Value),us.length=ps.length→∃ kk:Option (Array Value)→Sem (List (Str×Value)),bindArgs (fnOf n n (defArgs st) (defBody st) (defScope st) (.ref t) kV doc pm an cdv ct) ⟨us,[]⟩=seqItems? (.ref t) >>= kk∧kk (some #[.none])=pure (ps.zip us))
  (h2:∀ (t:Addr) (kV doc pm:Value) (an:Option Addr) (cdv ct:Value) (us:List Value),us.length+1=ps.length→∃ kk:Option (Array Value)→Sem (List (Str×Value)),bindArgs (fnOf n n (defArgs st) (defBody st) (defScope st) (.ref t) kV doc pm an cdv ct) ⟨us,[]⟩=seqItems? (.ref t) >>= kk∧kk (some #[.none])=pure (ps.zip (us++[.none]))):DefD K mg n st ps:=by
 obtain ⟨f,t,od,an,td,sl,ts,tn,oc,kV,dc,pm,cd,ct,tc,a,l,c,k,q⟩:=d
 exact defD_mk l c k q (mg_of X G a) (h1 t kV dc pm an cd ct) (h2 t kV dc pm an cd ct)
theorem DefK.law (d:DefK K n st) (X:K.In h) (G:h.Ns mainGlobals mg) {fa:Addr} (hfa:mg n=some (.ref fa)) {x:Str} (hb:∀ (kV doc pm:Value) (an:Option Addr) (cdv ct:Value) (s:Shared) (v:Value),BindsTo s (fnOf n n (defArgs st) (defBody st) (defScope st) .none kV doc pm an cdv ct) ⟨[v],[]⟩ [(x,v)]):∃ fd:FuncData,(∀ (s:Shared) (v:Value),BindsTo s fd ⟨[v],[]⟩ [(x,v)])∧Fun K n n st fa fd:=by
 obtain ⟨f,od,an,sl,oc,kV,dc,pm,cd,ct,a,l,c,k⟩:=d
 have e:=hfa.symm.trans (mg_of X G a)
 cases e
 exact ⟨_,hb kV dc pm an cd ct,fun_mk (st:=st) l c k⟩
end
end ZS
namespace ZQ
open PySem PySem.Spec L2
def locB (sc:Scope) (x:Str):Bool:=match sc.names.lookup x with
 | some .local=>true
 | some .cell=>true
 | _=>false
theorem lo {sc:Scope} {x:Str} (h:locB sc x=true):Loc sc x:=by
 unfold locB at h
 split at h
 ·rename_i e;exact .inl e
 ·rename_i e;exact .inr e
 ·cases h
end ZQ
namespace ZS
open PySem PySem.Spec PyProof.Rows L2
def RcOp (op:CmpOp) (A:Around) (s:Shared) (u v:Value) (k:Bool):Prop:=∀ (prog:Program) (w:World) (E Q:Value→Shared→Prop),Q (.bool k) s→wpAny (model prog w) A (richCompare op u v) Q E s
def resL (e lt:Nat→Bool) (fin:Bool):List Nat→Bool
 | []=>fin
 | i :: r=>if e i=true then resL e lt fin r else lt i
section
open PySem.SeqAt
open PySem.AutoSeq1 (wpAny_loadPart')
open PySem.MeetsSeq PySem.MeetsSeq2 PySem.MeetsSeq3
theorem tuple_ltAt (l b : Addr) (items items2 : Array Value) (n n2 : Nat) (dd dd2 : Option Addr) (sl sl2 : Array (Option Value)) (e lt : Nat → Bool) :
  Meets (Builtin.«tuple.__lt__» ⟨[.ref l,.ref b],[]⟩)
   (fun A R s=>s.heap.get? l=some { cls:=.type "tuple",dict:=dd,data:=.seq items n,slots:=sl }∧s.heap.get? b=some { cls:=.type "tuple",dict:=dd2,data:=.seq items2 n2,slots:=sl2 } ∧
    (∀ j (h1:j < items.size) (h2:j < items2.size),EqAt A.in1 s items[j] items2[j] (e j))∧(∀ j (h1:j < items.size) (h2:j < items2.size),e j=false→(∀ i,i < j→e i=true)→RcOp .Lt A.in1 s items[j] items2[j] (lt j)) ∧
    R (.ok (.ret (.bool (resL e lt (decide (items.size < items2.size)) (List.range (min items.size items2.size)))))) s) :=
 .of_wp fun prog w A R s h=>by
  obtain ⟨hp,g,d,tk,os⟩:=s;obtain ⟨hl,hb,he,hc,h⟩:=h
  have f2:=AutoSeq1.sub_tuple_tuple
  have hZ:(items.toList.zip items2.toList).length=min items.size items2.size:=by simp
  wp_walk using wpAny_loadPart' hl,wpAny_loadPart' hb,wpAny_forIn_list _ (fun rest b s'=>b.1=none∧s'=⟨hp,g,d,tk,os⟩∧∃ i,rest=(items.toList.zip items2.toList).drop i∧(∀ k,k < i→e k=true) ∧
   R (.ok (.ret (.bool (resL e lt (decide (items.size < items2.size)) ((List.range (min items.size items2.size)).drop i))))) ⟨hp,g,d,tk,os⟩) _
  case turn =>
   rintro ⟨y,x⟩ rest b s' ⟨hb',rfl,i,hz,hbe,hR⟩
   have hlt:i < (items.toList.zip items2.toList).length:=by
    rcases Nat.lt_or_ge i (items.toList.zip items2.toList).length with h' | h'
    ·exact h'
    ·rw [List.drop_of_length_le h'] at hz;cases hz
   have hm:i < min items.size items2.size:=hZ▸hlt
   have h1:i < items.size:=Nat.lt_of_lt_of_le hm (Nat.min_le_left _ _)
   have h2:i < items2.size:=Nat.lt_of_lt_of_le hm (Nat.min_le_right _ _)
   rw [List.drop_eq_getElem_cons hlt] at hz
   injection hz with hyx hrest
   have hy:y=items[i]:=by have:=congrArg Prod.fst hyx;simpa using this
   have hx:x=items2[i]:=by have:=congrArg Prod.snd hyx;simpa using this
   subst hy hx
   have hd:(List.range (min items.size items2.size)).drop i=i :: (List.range (min items.size items2.size)).drop (i+1):=by simp [List.drop_eq_getElem_cons,hm]
   rw [hd] at hR
   unfold resL at hR
   refine wpAny_bind (he i h1 h2 prog w _ _ ?_)
   cases hy:e i with
   | true =>
    rw [hy,if_pos rfl] at hR
    wp_walk
    exact ⟨rfl,rfl,i+1,hrest,fun k hk=>by
     rcases Nat.lt_or_ge k i with z | z
     ·exact hbe k z
     ·rw [show k=i by lia];exact hy,hR⟩
   | false =>
    rw [hy,if_neg (by decide)] at hR
    have hri:=fun E Q hq=>hc i h1 h2 hy hbe prog w E Q hq
    wp_walk using hri
    exact ⟨_,rfl,by simpa using hR⟩
  case fin =>
   rintro ⟨b1,b2⟩ s' ⟨hb',rfl,i,hz,_,hR⟩
   simp only at hb'
   subst hb'
   have hge:min items.size items2.size≤i:=by
    rcases Nat.lt_or_ge i (items.toList.zip items2.toList).length with h' | h'
    ·rw [List.drop_eq_getElem_cons h'] at hz;cases hz
    ·exact hZ▸h'
   rw [List.drop_of_length_le (by simpa using hge)] at hR
   unfold resL at hR
   wp_walk
   exact ⟨_,rfl,by simpa [Builtin.Tuple.tupleCompareSizes] using hR⟩
  case h =>
   exact ⟨rfl,rfl,0,rfl,fun k hk=>absurd hk (Nat.not_lt_zero _),by simpa using h⟩
end
theorem RcOp.lt_tuples {A:Around} {s:Shared} {l b:Addr} {items items2:Array Value} {e lt:Nat→Bool} (hl:s.heap.IsTuple l items) (hb:s.heap.IsTuple b items2) (hu:A.units < cLine)
  (he:∀ j (h1:j < items.size) (h2:j < items2.size),SeqAt.EqAt A.in1 s items[j] items2[j] (e j)) (hc:∀ j (h1:j < items.size) (h2:j < items2.size),e j=false→(∀ i,i < j→e i=true)→RcOp .Lt A.in1 s items[j] items2[j] (lt j)) :
  RcOp .Lt A s (.ref l) (.ref b) (resL e lt (decide (items.size < items2.size)) (List.range (min items.size items2.size))):=fun prog w E Q h=>by
 obtain ⟨⟨cls,dd,data,sl⟩,ho,hc0,n,hd⟩:=id hl
 obtain ⟨⟨cls2,dd2,data2,sl2⟩,ho2,hc2,n2,hd2⟩:=id hb
 simp only at hc0 hd hc2 hd2
 subst hc0 hd hc2 hd2
 exact richCompare_meets_room (op:=.Lt) ⟨_,ho,rfl⟩ ⟨_,ho2,rfl⟩ F.slot_tuple_lt F.entry_tuple_lt (F.args_tuple_lt_2 _ _) (tuple_ltAt l b items items2 n n2 dd dd2 sl sl2 e lt)
  ⟨ho,ho2,he,hc,show Value.bool _≠Value.notImplemented∧Q (.bool _) s from ⟨(fun x=>nomatch x),h⟩⟩ hu
section
open PySem.SeqAt
open PySem.AutoSeq1 (wpAny_loadPart')
open PySem.MeetsSeq PySem.MeetsSeq2 PySem.MeetsSeq3
end
section
variable {X:Cx}
def ltAt (f:Z.D→Z.D→Option Bool) (as bs:List Z.D) (j:Nat):Bool:=match as[j]?,bs[j]? with
 | some x,some y=>(f x y).getD false
 | _,_=>false
theorem resL_shift (e lt:Nat→Bool) (fin:Bool):∀ (n k:Nat),resL e lt fin ((List.range n).map (·+(k+1)))=resL (fun j=>e (j+1)) (fun j=>lt (j+1)) fin ((List.range n).map (·+k)):=by
 intro n k
 generalize List.range n=l
 induction l with
 | nil=>rfl
 | cons i l ih =>
  simp only [List.map_cons,resL]
  rw [ih]
  rfl
theorem resL_cmp {le : Bool} {eq lt : Z.D → Z.D → Option Bool} : ∀ {as bs : List Z.D} {k : Bool}, Z.cmpL le eq lt as bs = some k → (∀ (j : Nat) (x y : Z.D), as[j]? = some x → bs[j]? = some y → ∃ z, eq x y = some z) →
  resL (eAt eq as bs) (ltAt lt as bs) (if le then decide (as.length≤bs.length) else decide (as.length < bs.length)) (List.range (min as.length bs.length))=k ∧
   ∀ (j:Nat) (x y:Z.D),as[j]?=some x→bs[j]?=some y→eAt eq as bs j=false→(∀ i,i < j→eAt eq as bs i=true)→∃ z,lt x y=some z∧ltAt lt as bs j=z
 | [],[],k,h,_=>by cases h;cases le<;>simp [resL]
 | [],b :: bs,k,h,_=>by cases h;cases le<;>simp [resL]
 | a :: as,[],k,h,_=>by cases h;cases le<;>simp [resL]
 | a :: as,b :: bs,k,h,hc=>by
  obtain ⟨z,hz⟩:=hc 0 a b rfl rfl
  have hmin:min (a :: as).length (b :: bs).length=min as.length bs.length+1:=by simp only [List.length_cons];lia
  have hfin:(if le then decide ((a :: as).length≤(b :: bs).length) else decide ((a :: as).length < (b :: bs).length))=if le then decide (as.length≤bs.length) else decide (as.length < bs.length):=by cases le<;>simp
  have e0:eAt eq (a :: as) (b :: bs) 0=z:=by simp [eAt,hz]
  have es:∀ j,eAt eq (a :: as) (b :: bs) (j+1)=eAt eq as bs j:=fun j=>by simp [eAt]
  have ls:∀ j,ltAt lt (a :: as) (b :: bs) (j+1)=ltAt lt as bs j:=fun j=>by simp [ltAt]
  have hr:List.range (min as.length bs.length+1)=0 :: (List.range (min as.length bs.length)).map (·+1):=by rw [List.range_succ_eq_map]
  rw [hmin,hfin,hr]
  unfold Z.cmpL at h
  rw [hz] at h
  cases z with
  | true =>
   obtain ⟨h1,h2⟩:=resL_cmp (as:=as) (bs:=bs) h fun j x y ex ey=>hc (j+1) x y (by simpa using ex) (by simpa using ey)
   refine ⟨?_,fun j x y ex ey ef eb=>?_⟩
   ·unfold resL
    rw [e0,if_pos rfl]
    have:=resL_shift (eAt eq (a :: as) (b :: bs)) (ltAt lt (a :: as) (b :: bs)) (if le then decide (as.length≤bs.length) else decide (as.length < bs.length)) (min as.length bs.length) 0
    rw [Nat.zero_add] at this
    rw [this,show (fun j=>eAt eq (a :: as) (b :: bs) (j+1))=eAt eq as bs from funext es,show (fun j=>ltAt lt (a :: as) (b :: bs) (j+1))=ltAt lt as bs from funext ls]
    simpa using h1
   ·cases j with
    | zero=>rw [e0] at ef;cases ef
    | succ j =>
     rw [ls]
     exact h2 j x y (by simpa using ex) (by simpa using ey) (by rw [←es];exact ef) fun i hi=>by rw [←es];exact eb (i+1) (by lia)
  | false =>
   refine ⟨?_,fun j x y ex ey ef eb=>?_⟩
   ·unfold resL
    rw [e0,if_neg (by decide)]
    simp [ltAt,h]
   ·cases j with
    | zero =>
     simp at ex ey
     subst ex ey
     exact ⟨k,h,by simp [ltAt,h]⟩
    | succ j =>
     have:=eb 0 (by lia)
     rw [e0] at this;cases this
theorem lexN {pins : List (Addr × Obj)} {σ : St} {H : Hp} {s : Shared} (I : Inv X pins σ H s) : ∀ (n : Nat) {A : Around} {d1 d2 : Z.D} {v1 v2 : V} {u1 u2 : Value} {k : Bool}, A.units + 2 * n + 2 < cLine → Z.cmpDn false n d1 d2 = some k → Den X.K H d1 v1 → Den X.K H d2 v2 → RelV v1 u1 → RelV v2 u2 → RcOp .Lt A s u1 u2 k := by
 intro n
 induction n with
 | zero =>
  intro A d1 d2 v1 v2 u1 u2 k hu h h1 h2 r1 r2
  unfold Z.cmpDn at h
  split at h
  ·rename_i a b
   cases h
   simp only [Den] at h1 h2
   subst h1 h2
   obtain ⟨t1,rfl⟩:=r1
   obtain ⟨t2,rfl⟩:=r2
   intro prog w E Q hq
   exact (PyProof.Rows.lt_int hq:wpAny (model prog w) A (compareOp .Lt (.int a t1) (.int b t2)) Q E s)
  ·rename_i e;cases e
  ·cases h
 | succ n ih =>
  intro A d1 d2 v1 v2 u1 u2 k hu h h1 h2 r1 r2
  unfold Z.cmpDn at h
  split at h
  ·rename_i a b
   cases h
   simp only [Den] at h1 h2
   subst h1 h2
   obtain ⟨t1,rfl⟩:=r1
   obtain ⟨t2,rfl⟩:=r2
   intro prog w E Q hq
   exact (PyProof.Rows.lt_int hq:wpAny (model prog w) A (compareOp .Lt (.int a t1) (.int b t2)) Q E s)
  ·rename_i m as bs e
   cases e
   split at h
   ·rename_i kk hall
    simp only [Den] at h1 h2
    obtain ⟨p1,vs,rfl,q1,t1⟩:=h1
    obtain ⟨p2,ws,rfl,q2,t2⟩:=h2
    cases r1
    cases r2
    obtain ⟨its,ra,l1,_⟩:=I.tuple q1
    obtain ⟨its2,rb,l2,_⟩:=I.tuple q2
    have la:=t1.length;have lb:=t2.length;have ra':=ra.length;have rb':=rb.length
    have all:=(allEq_at hall).2
    obtain ⟨e1,e2⟩:=resL_cmp h fun j x y ex ey=>⟨_,all j x y ex ey⟩
    have sz1:its.toArray.size=as.length:=by rw [List.size_toArray];lia
    have sz2:its2.toArray.size=bs.length:=by rw [List.size_toArray];lia
    have hit:=items_at I n (A:=A.in1) (by show A.units+1+n < cLine;lia) (fun hu=>rcN I n hu) hall t1 t2 ra rb
    have R:=RcOp.lt_tuples (A:=A) (s:=s) (e:=eAt (Z.eqDn n) as bs) (lt:=ltAt (Z.cmpDn false n) as bs) l1 l2 (by lia) hit (fun j hj1 hj2 ef eb=>by
     simp only [List.size_toArray] at hj1 hj2
     obtain ⟨x,ex⟩:∃ x,as[j]?=some x:=⟨as[j]'(by lia),List.getElem?_eq_getElem (by lia)⟩
     obtain ⟨y,ey⟩:∃ y,bs[j]?=some y:=⟨bs[j]'(by lia),List.getElem?_eq_getElem (by lia)⟩
     obtain ⟨vx,evx,dx⟩:=t1.get ex
     obtain ⟨vy,evy,dy⟩:=t2.get ey
     obtain ⟨ux,eux,rx⟩:=ra.get evx
     obtain ⟨uy,euy,ry⟩:=rb.get evy
     have e1':its.toArray[j]=ux:=by
      have:=List.getElem?_eq_getElem hj1
      rw [eux] at this;simpa using (Option.some.inj this).symm
     have e2':its2.toArray[j]=uy:=by
      have:=List.getElem?_eq_getElem hj2
      rw [euy] at this;simpa using (Option.some.inj this).symm
     rw [e1',e2']
     obtain ⟨z,hz,hz2⟩:=e2 j x y ex ey ef eb
     rw [hz2]
     exact ih (by show A.units+1+2*n+2 < cLine;lia) hz dx dy rx ry)
    rw [sz1,sz2] at R
    simp only [Bool.false_eq_true,if_false] at e1
    rw [e1] at R
    exact R
   ·cases h
  ·cases h
end
end ZS
namespace ZS
open PySem PySem.Spec PyProof.Rows L2 PySem.W
structure KL0 (X:Cx) (pins:List (Addr×Obj)) (σ:St) (H:Hp) (l I S:Addr) (s:Shared) (j:Nat) (db:Z.D):Prop where
 inv:Inv X pins σ H s
 it:s.heap.IsListIter I l j
 offI:Off X pins H I
 offS:Off X pins H S
 best:∃ b v c,Den X.K H db v∧RelV v b∧s.heap.get? S=some (held b b c)
section
variable {X:Cx} {pins:List (Addr×Obj)} {σ:St} {H:Hp} {l I S:Addr} {vs:List V} {kw:List (Str×Value)} {ds:List Z.D} {r:Z.D} {R:Result→Shared→Prop}
theorem kl0_go (hcalm : X.calm = true) (hu : X.A.units + 64 < cLine) (hSI : S ≠ I) (hl : SqL X.K H l vs) (dn : Dens X.K H ds vs)
  (fin:∀ s u v,Inv X pins σ H s→RelV v u→Den X.K H r v→R (.ok (.ret u)) s) :
  ∀ (n j:Nat) (s:Shared) (db:Z.D),ds.length=j+n→Z.goMn db (ds.drop j)=.ok r→KL0 X pins σ H l I S s j db →
   codeAny (model X.prog X.w) X.A (.builtin "min.loop" ⟨[.ref I,.none,.ref S],kw⟩) R s:=by
 have nm:(toString "min" ++ toString ".loop" : String) = "min.loop" := by decide
 have hlen:=dn.length
 intro n
 induction n with
 | zero =>
  intro j s db hn eg L
  obtain ⟨b,v,c,dv,rb,gS⟩:=L.best
  refine codeAny_builtin PySem.F.entry_min_loop ?_
  rw [Around.under_plainId PySem.F.plain_min_loop _]
  show wpAny (model X.prog X.w) X.A.in1 (seqItems? (.ref S) >>= _) _ _ s
  refine wpAny_bind (wpAny_seqItems gS rfl (wpAny_bind (wpAny_tryCatch (klp_stop hcalm L.inv hl L.it L.offI (by lia) fun h1 t1 I1 k1=>?_))))
  have g1:=k1 S _ hSI gS
  show wpAny (model X.prog X.w) X.A.in1 (updateSeq S (fun _=>#[]) >>= _) _ _ _
  refine wpAny_bind (wpAny_updateSeq g1 rfl (wpAny_bind (wpAny_letGo (wpAny_pure ?_))))
  have hr:db=r:=by
   rw [List.drop_eq_nil_of_le (by lia)] at eg
   unfold Z.goMn at eg
   cases eg;rfl
  subst hr
  exact fin _ b v (I1.turned (t':=t1) (fun b o hb e=>(Heap.get?_update_other _ _ (Ne.symm hb)).trans e) L.offS.free L.offS.loc (.inr L.offS.new) L.offS.cell L.offS.pin) rb dv
 | succ n ih =>
  intro j s db hn eg L
  obtain ⟨b,v,c,dv,rb,gS⟩:=L.best
  have hj:j < ds.length:=by lia
  obtain ⟨dj,hdj⟩:∃ d,ds[j]?=some d:=⟨ds[j],by simp [hj]⟩
  have hdrop:ds.drop j=dj :: ds.drop (j+1):=by
   rw [List.drop_eq_getElem_cons hj]
   have:ds[j]=dj:=by
    have:=List.getElem?_eq_getElem hj
    rw [this] at hdj;exact Option.some.inj hdj
   rw [this]
  rw [hdrop] at eg
  unfold Z.goMn at eg
  refine codeAny_builtin PySem.F.entry_min_loop ?_
  rw [Around.under_plainId PySem.F.plain_min_loop _]
  show wpAny (model X.prog X.w) X.A.in1 (seqItems? (.ref S) >>= _) _ _ s
  refine wpAny_bind (wpAny_seqItems gS rfl (wpAny_bind (wpAny_tryCatch (klp_next hcalm L.inv hl L.it L.offI (by lia) fun u v1 h1 t1 hv1 rv1 I1 it1 k1=>?_))))
  have g1:=k1 S _ hSI gS
  obtain ⟨v',hv',dv1⟩:=dn.get hdj
  rw [hv1] at hv';cases hv'
  have cmp:∀ k,Z.cmpDn false 6 dj db=some k→RcOp .Lt X.A.in1 { s with heap:=h1,toks:=t1 } u b k:=fun k ek=>lexN I1 6 (A:=X.A.in1) (by show X.A.units+1+2*6+2 < cLine;lia) ek dv1 dv rv1 rb
  refine wpAny_bind (wpAny_pure ?_)
  show wpAny (model X.prog X.w) X.A.in1 (tryCatch (holding [u,u] (richCompare .Lt u b >>= _)) _ >>= _) _ _ _
  split at eg
  ·rename_i ek
   refine wpAny_bind (wpAny_tryCatch (wpAny_holding (wpAny_bind (cmp true ek X.prog X.w _ _ (wpAny_bind (wpAny_holding (wpAny_truthy_bool (wpAny_bind (wpAny_letGo (wpAny_pure ?_))))))))))
   simp only [if_true]
   refine wpAny_bind (wpAny_updateSeq g1 rfl (wpAny_bind (wpAny_letGo ?_)))
   rw [nm]
   have kp:∀ b o,b≠S→h1.get? b=some o→(h1.update S (Obj.mapSeq fun _=>#[u,u])).get? b=some o:=fun b o hb e=>(Heap.get?_update_other _ _ (Ne.symm hb)).trans e
   have I3:=I1.turned (t':=t1) kp L.offS.free L.offS.loc (.inr L.offS.new) L.offS.cell L.offS.pin
   obtain ⟨oI,gI,rI⟩:=id it1
   exact wpAny_pure ⟨plainId_quiet PySem.F.plain_min_loop _,ih (j+1) _ dj (by lia) eg ⟨I3,⟨oI,kp I _ (Ne.symm hSI) gI,rI⟩,L.offI,L.offS,u,v1,_,dv1,rv1,Heap.get?_update_self _ g1 rfl⟩⟩
  ·rename_i ek
   refine wpAny_bind (wpAny_tryCatch (wpAny_holding (wpAny_bind (cmp false ek X.prog X.w _ _ (wpAny_bind (wpAny_holding (wpAny_truthy_bool (wpAny_bind (wpAny_letGo (wpAny_pure ?_))))))))))
   simp only [Bool.false_eq_true,if_false]
   refine wpAny_bind (wpAny_letGo ?_)
   rw [nm]
   exact wpAny_pure ⟨plainId_quiet PySem.F.plain_min_loop _,ih (j+1) _ db (by lia) eg ⟨I1,it1,L.offI,L.offS,b,v,c,dv,rb,g1⟩⟩
  ·cases eg
theorem args0_min (a:Value):argsOk "min" ⟨[a],[]⟩:=by unfold argsOk;kernel_rfl
theorem binds0_min:Builtin.Builtins.bindParams "min" ["key", "default"] 0 ⟨[],[]⟩=pure [none,none]:=by kernel_rfl
theorem min_call {s:Shared} {Q:VK} (hcalm:X.calm=true) (hu:X.A.units+64 < cLine) (Iv:Inv X pins σ H s) (hl:SqL X.K H l vs) (dn:Dens X.K H ds vs) (ek:Z.oMin1 (.lst ds)=.ok r)
  (k:∀ v,Den X.K H r v→Q v H):wpAny (model X.prog X.w) X.A (call (.builtin "min") [.ref l] []) (EP X pins σ Q) X.xe s:=by
 have nm:(toString "min" ++ toString ".loop" : String) = "min.loop" := by decide
 have hlen:=dn.length
 obtain ⟨its,rv,pl,hz⟩:=Iv.list hl
 refine kmk_tree PySem.F.kind_min PySem.F.plain_min PySem.F.entry_min (args0_min _) ?_
 show wpAny (model X.prog X.w) X.A.in1 (Builtin.Builtins.bindParams "min" ["key", "default"] 0 ⟨[],[]⟩ >>= _) _ _ s
 rw [binds0_min]
 refine wpAny_bind (wpAny_pure (wpAny_bind (wpAny_pure (wpAny_bind (wpAny_pyIter_list pl.isList ?_)))))
 refine wpAny_bind (wpAny_newObj_type ?_)
 rw [nm]
 generalize hH2:s.heap.push { cls:=.type "list_iterator",data:=.fields #[.ref l,.int 0 0] }=HH
 have hS:HH.objs.size=s.heap.objs.size+1:=by rw [←hH2,Heap.size_push]
 have gI0:HH.get? s.heap.objs.size=some { cls:=.type "list_iterator",data:=.fields #[.ref l,.int 0 0] }:=by rw [←hH2];exact Heap.get?_push_size _ rfl
 have kp0:∀ b o,s.heap.get? b=some o→(HH.push { cls:=.type "list",data:=.seq ([]:List Value).toArray }).get? b=some o:=fun b o e=>Heap.get?_push_of_some _ (by rw [←hH2];exact Heap.get?_push_of_some _ e)
 have I1:Inv X pins σ H { s with heap:=HH.push { cls:=.type "list",data:=.seq ([]:List Value).toArray } }:=Iv.kept (t':=s.toks) kp0
 have oI:Off X pins H s.heap.objs.size:=Off.fresh Iv (Nat.le_refl _) (Iv.hok.fresh (Nat.le_refl _))
 have oS:Off X pins H HH.objs.size:=Off.fresh Iv (by rw [hS];exact Nat.le_succ _) (Iv.hok.fresh (by rw [hS];exact Nat.le_succ _))
 have hSI:HH.objs.size≠s.heap.objs.size:=by rw [hS];exact Nat.ne_of_gt (Nat.lt_succ_self _)
 have gS:(HH.push { cls:=.type "list",data:=.seq ([]:List Value).toArray }).get? HH.objs.size=some { cls:=.type "list",data:=.seq ([]:List Value).toArray }:=Heap.get?_push_size _ rfl
 have gI:(HH.push { cls:=.type "list",data:=.seq ([]:List Value).toArray }).get? s.heap.objs.size=some { cls:=.type "list_iterator",data:=.fields #[.ref l,.int 0 0] }:=Heap.get?_push_of_some _ gI0
 generalize hS2:HH.objs.size=S at oS hSI gS
 generalize hI2:s.heap.objs.size=I at oI hSI gI
 generalize hs1:({ s with heap:=HH.push { cls:=.type "list",data:=.seq ([]:List Value).toArray } }:Shared)=s1 at I1
 have e1:HH.push { cls:=.type "list",data:=.seq ([]:List Value).toArray }=s1.heap:=by rw [←hs1]
 rw [e1] at gS gI
 refine wpAny_pure ⟨plainId_quiet PySem.F.plain_min_loop _,?_⟩
 refine codeAny_builtin PySem.F.entry_min_loop ?_
 rw [Around.under_plainId PySem.F.plain_min_loop _]
 show wpAny (model X.prog X.w) X.A.in1 (seqItems? (.ref S) >>= _) _ _ _
 cases ds with
 | nil=>cases ek
 | cons d0 dr =>
  refine wpAny_bind (wpAny_seqItems gS rfl (wpAny_bind (wpAny_tryCatch (klp_next (j:=0) hcalm I1 hl ⟨_,gI,rfl,rfl⟩ oI (by simp at hlen;lia) fun u v1 h1 t1 hv1 rv1 I2 it2 k1=>?_))))
  have g1:=k1 S _ hSI gS
  obtain ⟨oi,gI2,rI⟩:=id it2
  obtain ⟨v',hv',dv⟩:=dn.get (i:=0) (d:=d0) rfl
  rw [hv1] at hv';cases hv'
  refine wpAny_bind (wpAny_pure ?_)
  refine wpAny_bind (wpAny_updateSeq g1 rfl ?_)
  rw [nm]
  have kp:∀ b o,b≠S→h1.get? b=some o→(h1.update S (Obj.mapSeq fun _=>#[u,u])).get? b=some o:=fun b o hb e=>(Heap.get?_update_other _ _ (Ne.symm hb)).trans e
  have I4:=I2.turned (t':=t1) kp oS.free oS.loc (.inr oS.new) oS.cell oS.pin
  exact wpAny_pure ⟨plainId_quiet PySem.F.plain_min_loop _,kl0_go hcalm hu hSI hl dn (fun s5 u5 v5 I5 rv5 dv5=>⟨v5,H,I5,rv5,k v5 dv5⟩) dr.length 1 _ d0 (by simp;lia) ek ⟨I4,⟨oi,kp _ _ (Ne.symm hSI) gI2,rI⟩,oI,oS,u,v1,_,dv,rv1,Heap.get?_update_self _ g1 rfl⟩⟩
end
section
variable {X:Cx} {a c:Expr} {fa fc:Z.EF} {pos:Pos}
theorem call_min1 (hcalm:X.calm=true) (hu:X.A.units+64 < cLine):CallR X (.builtin "min") (fun xs H Q=>∃ (q:Addr) (vs:List V) (ds:List Z.D) (r:Z.D),xs=[.ref q]∧SqL X.K H q vs∧Dens X.K H ds vs∧Z.oMin1 (.lst ds)=.ok r∧∀ v,Den X.K H r v→Q v H):=by
 intro pins s σ H xs us Q I r h
 obtain ⟨q,vs,ds,r',rfl,hq,dn,e,k⟩:=h
 obtain ⟨u,rfl,ru⟩:=vals1 r
 cases ru
 exact min_call hcalm hu I hq dn e k
theorem de_min1 {x:Str} {p1:Pos} (hu:X.A.units+64 < cLine) (hg:Gl X x) (hm:X.mg x=none) (hv:bootBuiltins x=some (.builtin "min")) (ha:DW X a fa) (hc:X.calm=true:=by rfl) (hn:x ≠ "__name__" := by decide +kernel) (hdb:(x==("__debug__" : Str))=false:=by decide +kernel)
  (he:starEach (a :: []) X.env=(false,eval a X.env) :: starEach [] X.env:=by rfl) (hpl:(backTo pos (starEach [] X.env)).any (·.1)=false:=by rfl):DE X (.Call (.Name x p1) [a] [] pos) (Z.eU Z.oMin1 fa) :=
 PE.imp (pe_callB (call_min1 hc hu) hg hm hv (pa_cons ha pa_nil he) hn hdb he hpl) fun σ H Q ⟨ρ,d,r,e,k⟩=>by
  obtain ⟨x,ea,e⟩:=Z.Res.bind_ok e
  refine ⟨ρ,x,r,ea,fun v H1 s1 d1=>?_⟩
  cases x with
  | lst ds =>
   obtain ⟨q,vs,rfl,hq,t⟩:=d1.lst
   exact ⟨q,vs,ds,d,rfl,hq,t,e,fun v dv=>k v H1 s1 dv⟩
  | _=>cases e
end
end ZS
namespace ZQ
open PySem PySem.Spec PyProof.Rows L2 ZS
section
variable {X:Cx} {a c:Expr} {fa fc:Z.EF} {pos:Pos}
theorem de_min1 {x:Str} {p1:Pos} (hu:X.A.units+64 < cLine) (hg:Gl X x) (hm:X.mg x=none) (hv:bootBuiltins x=some (.builtin "min")) (ha:QW X a fa) (hc:X.calm=true:=by rfl) (hn:x ≠ "__name__" := by decide +kernel) (hdb:(x==("__debug__" : Str))=false:=by decide +kernel) (he:starEach (a :: []) X.env=(false,eval a X.env) :: starEach [] X.env:=by rfl) (hpl:(backTo pos (starEach [] X.env)).any (·.1)=false:=by rfl):QE X (.Call (.Name x p1) [a] [] pos) (Z.eU Z.oMin1 fa):=⟨ZS.de_min1 hu (hg:=hg) (hm:=hm) (hv:=hv) (ha:=ha.p) (hc:=hc) (hn:=hn) (hdb:=hdb) (he:=he) (hpl:=hpl)⟩
end
end ZQ
noncomputable section
namespace Z
abbrev XN:=List Nat×List (List Nat×D)
abbrev XF:=Env→Option XN
def xNo (_:Env):Option XN:=none
def xCall (m:List D→Option XN) (as:AF) (ρ:Env):Option XN:=match as ρ with
 | .ok ds=>m ds
 | .bad=>none
def xSeq (a:SF) (xa xb:XF) (ρ:Env):Option XN:=match xa ρ with
 | some c=>some c
 | none=>match a ρ with
  | .ok (.nx ρ')=>xb ρ'
  | _=>none
def xIf (t:TF) (a b:XF) (ρ:Env):Option XN:=match t ρ with
 | .ok c=>if c then a ρ else b ρ
 | .bad=>none
def xRaise (c:List Nat) (a:EF) (ρ:Env):Option XN:=match a ρ with
 | .ok _=>some (c,[])
 | .bad=>none
def fx (ps n:Nat) (b:XF) (ds:List D):Option XN:=if ds.length=ps then b (start n ds) else none
theorem fx_a (ps n:Nat) (b:XF) (ds:List D) (h:ds.length=ps):fx ps n b ds=b (start n ds):=if_pos h
end Z
end
namespace ZS
open PySem PySem.Spec PyProof.Rows L2 PySem.W
theorem objThere {P:Program} {w:World} {H:Hp} {h:Heap} {a:Addr} {o:HO} (x:ObjOk P w H h a o):∃ ob,h.get? a=some ob:=by
 cases o with
 | lst xs=>obtain ⟨_,_,_,_,e⟩:=x;exact ⟨_,e⟩
 | tup xs=>obtain ⟨_,_,_,ob,e,_⟩:=x;exact ⟨_,e⟩
 | dK kvs=>obtain ⟨_,_,_,_,o,_,_,e,_⟩:=x;exact ⟨_,e⟩
 | dT kvs=>obtain ⟨_,_,_,_,o,_,_,e,_⟩:=x;exact ⟨_,e⟩
 | set S n=>obtain ⟨o,_,_,_,e,_⟩:=x;exact ⟨_,e⟩
 | ins C dx fs=>obtain ⟨_,_,_,e,_⟩:=x;exact ⟨_,e⟩
 | own y=>obtain ⟨_,e⟩:=x;exact ⟨_,e⟩
 | xd fs=>obtain ⟨_,⟨_,_,_,e,_⟩,_⟩:=x;exact ⟨_,e⟩
 | rng lo hi=>obtain ⟨_,_,_,e⟩:=x;exact ⟨_,e⟩
 | frz ob u=>obtain ⟨e,_⟩:=x;exact ⟨_,e⟩
 | tbl q=>obtain ⟨_,e,_⟩:=x;exact ⟨_,e⟩
 | cod q=>obtain ⟨_,_,_,_,e1,e2,_⟩:=x;cases e1;exact ⟨_,e2⟩
 | met f y=>exact ⟨_,(show h.get? a=some _ from x)⟩
 | ext φ=>obtain ⟨_,⟨_,e⟩,_⟩:=x;exact ⟨_,e⟩
section
variable {X:Cx} {pins:List (Addr×Obj)} {σ:St} {H H':Hp} {s:Shared} {h':Heap}
theorem stepX {g':Array GenState} {t':Nat} {d':Drawn} {ch:List Addr} (I:Inv X pins σ H s)
  (hch:∀ b∈ch,X.s₀.heap.get? b=none∧b≠X.env.locals∧(∀ x c,X.env.cells.lookup x=some c→c≠b)∧∀ p∈X.pn++pins,p.1≠b)
  (keep:∀ b o,b≠X.env.locals→b∉X.fs→b∉ch→s.heap.get? b=some o→H b=none→h'.get? b=some o)
  (slot:∀ b o,b≠X.env.locals→b∈X.fs→b∉ch→s.heap.get? b=some o→H b=none→∃ sl,h'.get? b=some { o with slots:=sl }) (free:∀ b o,b∉ch→s.heap.get? b=some o→H b=none→H' b=none)
  (there:∀ b o,b∉ch→s.heap.get? b=some o→∃ o',h'.get? b=some o')
  (tups:∀ b xs,H b=some (.tup xs)→H' b=some (.tup xs)) (frzs:∀ b o u,H b=some (.frz o u)→H' b=some (.frz o u)) (tbls:∀ b u,Prm u→H b=some u→H' b=some u)
  (ns:∀ m,s.heap.Ns X.env.locals m→h'.Ns X.env.locals m) (hok:HOk X.prog X.w H' h') (hg:AllBare g') :
  Inv X pins σ H' { s with heap:=h',gens:=g',drawn:=d',toks:=t' }:=by
 have neL:∀ b o,X.s₀.heap.get? b=some o→b≠X.env.locals:=fun b o e=>Nat.ne_of_lt (Nat.lt_of_lt_of_le (Heap.lt_size e) I.ok.above)
 have neC:∀ b o,X.s₀.heap.get? b=some o→b∉ch:=fun b o e hb=>by
  rw [(hch b hb).1] at e;cases e
 have cellK:∀ x c,X.env.cells.lookup x=some c→∀ v,s.heap.IsCell c v→h'.IsCell c v:=fun x c e v ⟨o,ho,hd⟩=>by
  have nch:c∉ch:=fun z=>(hch c z).2.2.1 x c e rfl
  by_cases hc:c∈X.fs
  ·obtain ⟨sl,q⟩:=slot c o (I.cne x c e) hc nch ho (I.freeC x c e)
   exact ⟨_,q,hd⟩
  ·exact ⟨o,keep c o (I.cne x c e) hc nch ho (I.freeC x c e),hd⟩
 refine ⟨I.ok,I.os,hg,⟨fun b o e n hb hx=>?_,fun b o e n hb hx=>?_,fun b o e n hx=>?_,fun b o e hx=>?_,fun b xs e=>tups b xs (I.base.tups b xs e),fun b o xs e=>frzs b o xs (I.base.frzs b o xs e),fun b u p e=>tbls b u p (I.base.tbls b u p e)⟩,?_,fun x c e=>?_,?_,fun x c e=>?_,fun p hp=>?_,hok,I.len,I.tab.up tbls⟩
 ·exact keep b o (neL b o e) hb (neC b o e) (I.base.keep b o e n hb hx) (I.base.free b o e n hx)
 ·obtain ⟨sl,e1⟩:=I.base.slot b o e n hb hx
  obtain ⟨sl',e2⟩:=slot b _ (neL b o e) hb (neC b o e) e1 (I.base.free b o e n hx)
  exact ⟨sl',e2⟩
 ·obtain ⟨o',e1⟩:=I.base.there b o e hx
  exact free b o' (neC b o e) e1 (I.base.free b o e n hx)
 ·obtain ⟨o',e1⟩:=I.base.there b o e hx
  exact there b o' (neC b o e) e1
 ·obtain ⟨m,hn,hl⟩:=I.loc
  refine ⟨m,ns m hn,fun i x v e1 e2 e3=>?_⟩
  obtain ⟨u,r,l⟩:=hl i x v e1 e2 e3
  refine ⟨u,r,?_⟩
  rcases l with l | ⟨k,c,e,z⟩
  ·exact .inl l
  ·exact .inr ⟨k,c,e,cellK x c e _ z⟩
 ·obtain ⟨v,z⟩:=I.cell x c e
  exact ⟨v,cellK x c e v z⟩
 ·obtain ⟨m,⟨o,_,_,ho,_⟩,_⟩:=I.loc
  exact free _ o (fun z=>(hch _ z).2.1 rfl) ho I.free
 ·obtain ⟨v,o,ho,hd⟩:=I.cell x c e
  exact free c o (fun z=>(hch c z).2.2.1 x c e rfl) ho (I.freeC x c e)
 ·obtain ⟨e,n,ne,nf,d⟩:=I.pin p hp
  have nch:p.1∉ch:=fun z=>(hch p.1 z).2.2.2 p hp rfl
  exact ⟨keep p.1 p.2 ne nf nch e n,free p.1 p.2 nch e n,ne,nf,d⟩
structure OffX (X:Cx) (pins:List (Addr×Obj)) (H:Hp) (s:Shared) (a:Addr):Prop where
 free:H a=none
 new:X.s₀.heap.get? a=none
 pin:∀ p∈X.pn++pins,p.1≠a
 isr:∃ o vs,s.heap.get? a=some o∧o.data=.fields vs
theorem OffX.loc {a:Addr} (o:OffX X pins H s a) (I:Inv X pins σ H s):a≠X.env.locals:=fun z=>by
 obtain ⟨ob,vs,e,d⟩:=o.isr
 obtain ⟨m,⟨o',es,ep,ho',hd',_⟩,_⟩:=I.loc
 rw [z,ho'] at e;cases e;rw [hd'] at d;cases d
theorem OffX.cell {a:Addr} (o:OffX X pins H s a) (I:Inv X pins σ H s) (x:Str) (c:Addr) (hc:X.env.cells.lookup x=some c):c≠a:=fun z=>by
 obtain ⟨ob,vs,e,d⟩:=o.isr
 obtain ⟨v,o',ho',hd'⟩:=I.cell x c hc
 rw [z,e] at ho';cases ho';rw [d] at hd';cases hd'
theorem OffX.stk {a:Addr} (o:OffX X pins H s a) (I:Inv X pins σ H s):a∉frs X.stack:=fun z=>by
 obtain ⟨ob,vs,e,d⟩:=o.isr
 obtain ⟨_,o',ho',hd'⟩:=I.stack.mem z
 rw [e] at ho';cases ho';exact hd' vs d
theorem absent {a:Addr} (I:Inv X pins σ H s) (h:s.heap.get? a=none):H a=none∧X.s₀.heap.get? a=none∨a∈X.ex:=by
 by_cases hx:a∈X.ex
 ·exact .inr hx
 ·refine .inl ⟨?_,?_⟩
  ·cases e:H a with
   | none=>rfl
   | some u=>obtain ⟨ob,q⟩:=objThere (I.hok a u e);rw [h] at q;cases q
  ·cases e:X.s₀.heap.get? a with
   | none=>rfl
   | some o=>obtain ⟨o',q⟩:=I.base.there a o e hx;rw [h] at q;cases q
theorem Inv.snap {l:List Addr} {t':Nat} (I:Inv X pins σ H s) (off:∀ a∈l,OffX X pins H s a) (k1:(hideAll s.heap (frs X.stack++l)).StaysIn h')
  (k4:∀ b o,s.heap.get? b=some o→(∀ vs,o.data≠.fields vs)→∃ sl,h'.get? b=some { o with slots:=sl }):Inv X pins σ H { s with heap:=h',toks:=t' }:=by
 have inB:∀ b o,b∉frs X.stack→b∉l→s.heap.get? b=some o→h'.get? b=some o:=fun b o n1 n2 e=>k1 b o (hideAll_get _ e (fun z=>(List.mem_append.mp z).elim n1 n2))
 have trk:∀ b u,H b=some u→b∉frs X.stack∧b∉l:=fun b u e=>⟨fun z=>(by rw [I.stkFree b z] at e;cases e),fun z=>(by rw [(off b z).free] at e;cases e)⟩
 refine stepX (g':=s.gens) (d':=s.drawn) (ch:=l) I (fun b hb=>⟨(off b hb).new,(off b hb).loc I,(off b hb).cell I,(off b hb).pin⟩) (fun b o hL hf hc e n=>inB b o (fun z=>(List.mem_cons.mp (I.stkSub b z)).elim hL hf) hc e) (fun b o hL hf hc e n=>?_) (fun _ _ _ _ n=>n) (fun b o hc e=>?_) (fun _ _ e=>e) (fun _ _ _ e=>e) (fun _ _ _ e=>e) (fun m hm=>?_) (fun b u e=>?_) I.bare
 ·obtain ⟨_,o',ho',hd'⟩:=I.funs.mem hf
  rw [e] at ho';cases ho'
  exact k4 b o e hd'
 ·by_cases hz:b∈frs X.stack
  ·obtain ⟨_,o',ho',hd'⟩:=I.stack.mem hz
   rw [e] at ho';cases ho'
   obtain ⟨sl,q⟩:=k4 b o e hd'
   exact ⟨_,q⟩
  ·exact ⟨o,inB b o hz hc e⟩
 ·obtain ⟨o,es,ep,ho,hd,r⟩:=hm
  obtain ⟨sl,q⟩:=k4 _ o ho (fun vs z=>by rw [hd] at z;cases z)
  exact ⟨_,es,ep,q,hd,r⟩
 ·refine (I.hok b u e).stay (fun c v hc q=>?_) (fun _ q=>q) (fun _ _ q=>q) fun _ _ _ q=>q
  rcases hc with rfl | hc
  ·exact inB c v (trk c u e).1 (trk c u e).2 q
  ·exact inB c v (trk c _ hc).1 (trk c _ hc).2 q
theorem snap_new {l:List Addr} {T:Addr} {oT:Obj} {ts:Array Value} (hex:X.ex=[]) (I:Inv X pins σ H s) (off:∀ a∈l,OffX X pins H s a) (k2:h'.FunFrames (hideAll s.heap (frs X.stack++l)) X.stack)
  (hT:(hideAll s.heap (frs X.stack++l)).get? T=none) (hT':h'.get? T=some oT) (hd:oT.data=.fields ts):H T=none∧X.s₀.heap.get? T=none∧∀ p∈X.pn++pins,p.1≠T:=by
 have nst:T∉frs X.stack:=fun z=>by
  obtain ⟨_,o',ho',hd'⟩:=k2.mem z
  rw [hT'] at ho';cases ho';exact hd' ts hd
 by_cases hl:T∈l
 ·exact ⟨(off T hl).free,(off T hl).new,(off T hl).pin⟩
 ·have hn:s.heap.get? T=none:=by
   cases e:s.heap.get? T with
   | none=>rfl
   | some o=>rw [hideAll_get _ e (fun z=>(List.mem_append.mp z).elim nst hl)] at hT;cases hT
  rcases absent I hn with z | z
  ·exact ⟨z.1,z.2,fun p hp q=>by rw [←q,(I.pin p hp).1] at hn;cases hn⟩
  ·rw [hex] at z;cases z
end
theorem entryX {M:Model} {A:Around} {E:Value→Shared→Prop} {s:Shared} {ground:Heap} {env:PySem.Env} {rest:List PySem.Env} {L e:Addr} {oe:Obj} {fl:Array Value} {hd0:Value} {nx:Bool} {Q:Unit→Shared→Prop}
  (fr:A.frames=some (env :: rest)) (ff:s.heap.FunFrames ground (env :: rest)) (el:env.frame=some L) (ge:s.heap.get? e=some oe) (st:ground.StaysIn s.heap) (ne:ground.get? e=none) (de:oe.data=.fields fl) (sz:1 < fl.size)
  (k:∀ h' T oT ts,ground.StaysIn h'→h'.FunFrames ground (env :: rest)→h'.get? e=some (oe.mapFields (·.setIfInBounds 1 (.ref T)))→ground.get? T=none→T≠e→h'.get? T=some oT→oT.data=.fields ts→3 < ts.size →
   (∀ b o,s.heap.get? b=some o→(∀ vs,o.data≠.fields vs)→∃ sl,h'.get? b=some { o with slots:=sl })→Q () { s with heap:=h' }) :
  wpAny M A (do let a ←frameOf env;let pl ←entryPlaceOf L nx;let b ←EntryCells.newEntry hd0 a .none (rawInt L) .none pl;setField (.ref e) 1 b) Q E s:=by
 have out:e∉(env :: rest).filterMap (·.frame):=fun z=>by
  obtain ⟨_,o,go,no⟩:=ff.mem z
  rw [ge] at go
  cases go
  exact no fl de
 refine wpAny_bind (wpAny_frameOf_fun fr ff el fun h1 so=>wpAny_bind (wpAny_entryPlaceOf fun pl ip=>?_))
 unfold EntryCells.newEntry newFields
 refine wpAny_bind (wpAny_newObj_type ?_ (ip.sizeOk5 _ _ _ _ _))
 generalize hnew:({ cls:=.type "traceback",dict:=none,data:=.fields ([hd0,.ref L,.none,rawInt L,.none]++(if pl.isEmpty then List.replicate 6 Value.none else pl)).toArray }:Obj)=new
 have dnew:new.data=.fields ([hd0,.ref L,.none,rawInt L,.none]++(if pl.isEmpty then List.replicate 6 Value.none else pl)).toArray:=by rw [←hnew]
 have ge1:h1.get? e=some oe:=(so.2.1 e out).trans ge
 have st1:ground.StaysIn h1:=fun b o q=>(so.2.1 b fun z=>by rw [(ff.mem z).1] at q;cases q).trans (st b o q)
 have ge2:=Heap.get?_push_of_some (h:=h1) new ge1
 refine wpAny_setField ge2 de sz ?_
 have Te:h1.objs.size≠e:=Nat.ne_of_gt (Heap.lt_size ge1)
 have d3:=Obj.data_mapFields de (·.setIfInBounds 1 (Value.ref h1.objs.size))
 have ge3:=Heap.get?_update_self (Obj.mapFields (·.setIfInBounds 1 (Value.ref h1.objs.size))) ge2 (Obj.isFreed_of_fields d3)
 have gT:=(Heap.get?_update_other (h1.push new) (Obj.mapFields (·.setIfInBounds 1 (Value.ref h1.objs.size))) (Ne.symm Te)).trans (Heap.get?_push_size h1 (Obj.isFreed_of_fields dnew))
 have hold:∀ b o,b≠e→h1.get? b=some o→((h1.push new).update e (Obj.mapFields (·.setIfInBounds 1 (Value.ref h1.objs.size)))).get? b=some o:=fun b o n q=>by
  rw [Heap.get?_update_other _ _ (Ne.symm n)]
  exact Heap.get?_push_of_some _ q
 have apart:∀ b o,s.heap.get? b=some o→(∀ vs,o.data≠.fields vs)→b≠e:=fun b o q n z=>by
  rw [z,ge] at q
  cases q
  exact n fl de
 refine k _ h1.objs.size new _ (fun b o q=>hold b o (fun z=>by rw [z,ne] at q;cases q) (st1 b o q)) (ff.of_keeps fun b o q n=>?_) ge3 st1.fresh Te gT dnew (by simp only [List.size_toArray,List.length_append,List.length_cons,List.length_nil];lia) fun b o q n=>?_
 ·obtain ⟨sl,z⟩:=so.2.2 b o q
  exact ⟨_,hold b _ (apart b o q n) z,rfl⟩
 ·obtain ⟨sl,z⟩:=so.2.2 b o q
  exact ⟨sl,hold b _ (apart b o q n) z⟩
theorem mapFields_dict (o:Obj) (f:Array Value→Array Value):(o.mapFields f).dict=o.dict:=by
 obtain ⟨_,_,d,_⟩:=o
 cases d<;>rfl
structure Thr (X:Cx) (pins:List (Addr×Obj)) (H:Hp) (s:Shared) (e C:Addr) (dd:Option Addr):Prop where
 off:OffX X pins H s e
 ex:∃ oe vs,s.heap.get? e=some oe∧oe.cls=.ref C∧oe.dict=dd∧oe.data=.fields vs∧(vs[1]?=some .none∨∃ T oT ts,vs[1]?=some (.ref T)∧T≠e∧OffX X pins H s T∧s.heap.get? T=some oT∧oT.data=.fields ts∧ts[3]?=some .none)
def NewX (h0:Heap) (H':Hp) (h':Heap) (e C:Addr) (dd:Option Addr):Prop:=h0.get? e=none∧H' e=none∧∃ oe vs T oT ts,h'.get? e=some oe∧oe.cls=.ref C∧oe.dict=dd∧oe.data=.fields vs∧vs[1]?=some (.ref T)∧T≠e∧H' T=none∧h0.get? T=none∧h'.get? T=some oT∧oT.data=.fields ts∧ts[3]?=some .none
def CXZ (P:Program) (w:World):CXT:=fun outer H s E ev s'=>∃ e C dd H',ev=.ref e∧s'.os=s.os∧AllBare s'.gens∧Un (frs outer) [] H H' s.heap s'.heap∧HOk P w H' s'.heap∧NewX s.heap H' s'.heap e C dd∧E (.ref C) dd H'
theorem stk_in {l:List PySem.Env} {as:List Addr}:∀ env∈l,∀ a,env.frame=some a→a∈frs l++as:=fun env he a ha=>List.mem_append_left _ (List.mem_filterMap.mpr ⟨env,he,ha⟩)
section
variable {X:Cx} {pins:List (Addr×Obj)} {σ:St} {H:Hp} {s:Shared}
structure Cgt (X:Cx) (pins:List (Addr×Obj)) (σ:St) (H:Hp) (s:Shared) (e C:Addr) (dd:Option Addr) (lands:Bool):Prop where
 inv:Inv X pins σ H s
 off:OffX X pins H s e
 ex:∃ oe vs T oT ts,s.heap.get? e=some oe∧oe.cls=.ref C∧oe.dict=dd∧oe.data=.fields vs∧vs[1]?=some (.ref T)∧T≠e∧OffX X pins H s T∧s.heap.get? T=some oT∧oT.data=.fields ts∧3 < ts.size∧(lands=true→ts[3]?=some .none)
theorem note_thr {M:Model} {E:Value→Shared→Prop} {Q:Unit→Shared→Prop} {e C:Addr} {dd:Option Addr} (hex:X.ex=[]) (hst:X.stack=X.env :: X.outer) (hfl:X.env.frame=some X.env.locals) (I:Inv X pins σ H s) (t:Thr X pins H s e C dd)
  (k:∀ s',Cgt X pins σ H s' e C dd false→Q () s'):wpAny M X.A (noteFrame (.ref e) X.env) Q E s:=by
 obtain ⟨oe,vs,he,hcl,hdd,hd,h1⟩:=t.ex
 have hfr:X.A.frames=some (X.env :: X.outer):=by rw [←hst];exact I.ok.frames
 have stk:=I.stack
 rw [hst] at stk
 unfold noteFrame
 simp only [hfl]
 rcases h1 with h1 | ⟨T,oT,ts,h1,hTe,oT',gT,dT,h3⟩
 ·have off:∀ a∈[e],OffX X pins H s a:=fun a ha=>by rw [List.mem_singleton.mp ha];exact t.off
  refine wpAny_bind (wpAny_field he hd h1 ?_)
  rw [if_neg (by decide)]
  refine entryX (ground:=hideAll s.heap (frs (X.env :: X.outer)++[e])) hfr (funFrames_hide stk stk_in) hfl he (fun b o=>of_hideAll _) (hideAll_none _ (List.mem_append_right _ (List.mem_singleton.mpr rfl))) hd (Array.getElem?_eq_some_iff.mp h1).1 fun h' T' oT' ts' k1 k2 g1 g2 g3 g4 g5 g6 k4=>k _ ?_
  rw [←hst] at k1 k2 g2
  have J:=Inv.snap (t':=s.toks) I off k1 k4
  obtain ⟨n1,n2,n3⟩:=snap_new hex I off k2 g2 g4 g5
  have sz:=(Array.getElem?_eq_some_iff.mp h1).1
  exact ⟨J,⟨t.off.free,t.off.new,t.off.pin,_,_,g1,Obj.data_mapFields hd _⟩,_,_,T',oT',ts',g1,(Obj.cls_mapFields _ _).trans hcl,(mapFields_dict _ _).trans hdd,Obj.data_mapFields hd _,by simp [sz],g3,⟨n1,n2,n3,oT',ts',g4,g5⟩,g4,g5,g6,fun z=>nomatch z⟩
 ·have off:∀ a∈[e,T],OffX X pins H s a:=fun a ha=>by
   rcases List.mem_cons.mp ha with rfl | ha
   ·exact t.off
   ·rw [List.mem_singleton.mp ha];exact oT'
  refine wpAny_bind (wpAny_field he hd h1 ?_)
  rw [if_pos (show (Value.ref T != Value.none)=true from by simp)]
  refine wpAny_bind (wpAny_field gT dT h3 ?_)
  rw [if_neg (show ¬ ((Value.none==rawInt X.env.locals)=true) from by simp [rawInt])]
  refine wpAny_bind (wpAny_setField gT dT (Array.getElem?_eq_some_iff.mp h3).1 ?_)
  have other:∀ b,b≠T→(s.heap.update T (Obj.mapFields (·.setIfInBounds 3 Value.none))).get? b=s.heap.get? b:=fun b hb=>Heap.get?_update_other _ _ (Ne.symm hb)
  have apart:∀ b o,s.heap.get? b=some o→(∀ vs,o.data≠.fields vs)→b≠T:=fun b o q n z=>by
   rw [z,gT] at q
   cases q
   exact n ts dT
  have inT:T∈frs (X.env :: X.outer)++[e,T]:=List.mem_append_right _ (by simp)
  refine entryX (s:={ s with heap:=s.heap.update T (Obj.mapFields (·.setIfInBounds 3 Value.none)) }) (ground:=hideAll s.heap (frs (X.env :: X.outer)++[e,T])) hfr ((funFrames_hide stk stk_in).of_keeps fun b o q n=>⟨o,(other b (apart b o q n)).trans q,rfl⟩) hfl ((other e (Ne.symm hTe)).trans he)
   (fun b o q=>(other b (fun z=>by rw [z,hideAll_none _ inT] at q;cases q)).trans (of_hideAll _ q)) (hideAll_none _ (List.mem_append_right _ (by simp))) hd (Array.getElem?_eq_some_iff.mp h1).1 fun h' T' oT2 ts' k1 k2 g1 g2 g3 g4 g5 g6 k4=>k _ ?_
  rw [←hst] at k1 k2 g2
  have J:=Inv.snap (t':=s.toks) I off k1 fun b o q n=>k4 b o ((other b (apart b o q n)).trans q) n
  obtain ⟨n1,n2,n3⟩:=snap_new hex I off k2 g2 g4 g5
  have sz:=(Array.getElem?_eq_some_iff.mp h1).1
  exact ⟨J,⟨t.off.free,t.off.new,t.off.pin,_,_,g1,Obj.data_mapFields hd _⟩,_,_,T',oT2,ts',g1,(Obj.cls_mapFields _ _).trans hcl,(mapFields_dict _ _).trans hdd,Obj.data_mapFields hd _,by simp [sz],g3,⟨n1,n2,n3,oT2,ts',g4,g5⟩,g4,g5,g6,fun z=>nomatch z⟩
theorem land {M:Model} {A:Around} {E:Value→Shared→Prop} {Q:Unit→Shared→Prop} {e C:Addr} {dd:Option Addr} {l:Bool} (c:Cgt X pins σ H s e C dd l) (k:∀ s',Cgt X pins σ H s' e C dd true→Q () s'):wpAny M A (setFlight (.ref e) none) Q E s:=by
 obtain ⟨oe,vs,T,oT,ts,he,hcl,hdd,hd,h1,hTe,oT',gT,dT,h3,_⟩:=c.ex
 refine wpAny_setFlight_none he hd h1 gT dT h3 (k _ ?_)
 have other:∀ b o,b≠T→s.heap.get? b=some o→(s.heap.update T (Obj.mapFields (·.setIfInBounds 3 .none))).get? b=some o:=fun b o hb q=>(Heap.get?_update_other _ _ (Ne.symm hb)).trans q
 have gT2:=Heap.get?_update_self (Obj.mapFields (·.setIfInBounds 3 Value.none)) gT (Obj.isFreed_of_fields (Obj.data_mapFields dT _))
 have off:∀ a∈[T],OffX X pins H s a:=fun a ha=>by rw [List.mem_singleton.mp ha];exact oT'
 have J:Inv X pins σ H { s with heap:=s.heap.update T (Obj.mapFields (·.setIfInBounds 3 .none)) }:=Inv.snap (t':=s.toks) c.inv off (fun b o q=>by
   by_cases hb:b=T
   ·rw [hb,hideAll_none _ (List.mem_append_right _ (List.mem_singleton.mpr rfl))] at q;cases q
   ·exact other b o hb (of_hideAll _ q)) (fun b o q n=>⟨o.slots,other b o (fun z=>by rw [z,gT] at q;cases q;exact n ts dT) q⟩)
 have he2:=other e oe (Ne.symm hTe) he
 exact ⟨J,⟨c.off.free,c.off.new,c.off.pin,oe,vs,he2,hd⟩,oe,vs,T,_,_,he2,hcl,hdd,hd,h1,hTe,⟨oT'.free,oT'.new,oT'.pin,_,_,gT2,Obj.data_mapFields dT _⟩,gT2,Obj.data_mapFields dT _,by simpa using h3,fun _=>by simp [h3]⟩
end
theorem leave_thr {P:Program} {w:World} {K:PySem.W.Frag} {mg:Str→Option Value} {base:Heap} {N:List Str} {qual:Str} {scope:Scope} {f:Addr} {cd:Value} {A:Around} {outer:List PySem.Env} {s0:Shared} {H0:Hp} {E:XK} {pins:List (Addr×Obj)} {σ:St} {H:Hp} {s:Shared} {e C:Addr} {dd:Option Addr}
  (I:Inv (cxOf (CXZ P w) P w K mg base N qual scope f cd A outer s0 H0 E) pins σ H s) (t:Thr (cxOf (CXZ P w) P w K mg base N qual scope f cd A outer s0 H0 E) pins H s e C dd) (hE:E (.ref C) dd H) :
  (cxOf (CXZ P w) P w K mg base N qual scope f cd A outer s0 H0 E).xe (.ref e) s:=by
 show wpAny (model P w) (cxOf (CXZ P w) P w K mg base N qual scope f cd A outer s0 H0 E).A (leaving (cxOf (CXZ P w) P w K mg base N qual scope f cd A outer s0 H0 E).env (.ref e)) (fun _ s''=>CXZ P w outer H0 s0 E (.ref e) s'') _ s
 unfold leaving
 refine wpAny_bind (note_thr rfl rfl rfl I t fun s1 c1=>land c1 fun s2 c2=>?_)
 obtain ⟨oe,vs,T,oT,ts,q1,q2,qd,q3,q4,q5,q6,q7,q8,q9,q10⟩:=c2.ex
 exact ⟨e,C,dd,H,rfl,c2.inv.os,c2.inv.bare,c2.inv.base,c2.inv.hok,⟨c2.off.new,c2.off.free,oe,vs,T,oT,ts,q1,q2,qd,q3,q4,q5,q6.free,q6.new,q7,q8,q10 rfl⟩,hE⟩
theorem thr_of {X:Cx} {pins:List (Addr×Obj)} {σ:St} {H:Hp} {s s':Shared} {E:XK} {ev:Value} (hex:X.ex=[]) (I:Inv X pins σ H s) (c:CXZ X.prog X.w X.stack H s E ev s') :
  ∃ e C dd H',ev=.ref e∧Inv X pins σ H' s'∧Thr X pins H' s' e C dd∧E (.ref C) dd H':=by
 obtain ⟨e,C,dd,H',rfl,os,bare,un,hok,⟨ne,fe,oe,vs,T,oT,ts,q1,q2,qd,q3,q4,q5,q6,q7,q8,q9,q10⟩,hE⟩:=c
 have J:Inv X pins σ H' s':=I.call' (s':=s') os un hok bare fun b hb=>absurd hb (by simp)
 have ab:∀ a,s.heap.get? a=none→X.s₀.heap.get? a=none∧∀ p∈X.pn++pins,p.1≠a:=fun a h=>by
  rcases absent I h with z | z
  ·exact ⟨z.2,fun p hp q=>by rw [←q,(I.pin p hp).1] at h;cases h⟩
  ·rw [hex] at z;cases z
 exact ⟨e,C,dd,H',rfl,J,⟨⟨fe,(ab e ne).1,(ab e ne).2,oe,vs,q1,q3⟩,oe,vs,q1,q2,qd,q3,.inr ⟨T,oT,ts,q4,q5,⟨q6,(ab T q7).1,(ab T q7).2,oT,ts,q8,q9⟩,q8,q9,q10⟩⟩,hE⟩
theorem thr_new {X:Cx} {pins:List (Addr×Obj)} {σ:St} {H:Hp} {s:Shared} {h':Heap} {e C:Addr} {vs:List Value} (hex:X.ex=[]) (I:Inv X pins σ H s) (hm:Heap.MadeExcOf s.heap h' e (.ref C) vs) :
  Inv X pins σ H { s with heap:=h' }∧Thr X pins H { s with heap:=h' } e C none:=by
 have J:Inv X pins σ H { s with heap:=h' }:=I.kept (t':=s.toks) hm.keeps
 obtain ⟨t,ht,_,_⟩:=hm.there
 refine ⟨J,?_⟩
 rcases absent I hm.new with z | z
 ·exact ⟨⟨z.1,z.2,fun p hp q=>(by have:=(I.pin p hp).1;rw [q,hm.new] at this;cases this),_,_,ht,rfl⟩,_,_,ht,rfl,rfl,rfl,.inl rfl⟩
 ·rw [hex] at z;cases z
end ZS
namespace ZS
open PySem PySem.Spec PyProof.Rows L2 PySem.W
section
variable {X:Cx} {pins:List (Addr×Obj)} {σ:St} {H:Hp} {s:Shared}
theorem PW.nox {e:Expr} {t:TT} (h:PW X.nox e t):PW X e t:=fun whole pins s σ H Q I hw =>
 wpAny_mono (h whole pins s σ H Q (I.wish _) hw) (fun _ _ ⟨H',I',q⟩=>⟨H',I'.unwish,q⟩) fun _ _ z=>False.elim z
theorem PA.nox {es:List Expr} {t:TA} (h:PA X.nox es t):PA X es t:=fun pos pins s σ H Q I hw =>
 wpAny_mono (h pos pins s σ H Q (I.wish _) hw) (fun _ _ ⟨vs,H',I',r,q⟩=>⟨vs,H',I'.unwish,r,q⟩) fun _ _ z=>False.elim z
theorem PS.nox {st:Stmt} {t:TS} (h:PS X.nox st t):PS X st t:=fun pins s σ H D I hw =>
 wpAny_mono (h pins s σ H D (I.wish _) hw) (fun _ _ q=>q.unwish) fun _ _ z=>False.elim z
def XwE (X:Cx) (σ:St) (H:Hp) (c:Z.XN):Prop:=∀ pins H' s e C dd,Same H H'→XRel X.K H' c C dd→Inv X pins σ H' s→Thr X pins H' s e C dd→X.xe (.ref e) s
def Xw (X:Cx) (H0:Hp) (c:Z.XN):Prop:=∀ pins σ H' s e C dd,Same H0 H'→XRel X.K H' c C dd→Inv X pins σ H' s→Thr X pins H' s e C dd→X.xe (.ref e) s
theorem XwE.up {c:Z.XN} {H':Hp} (h:XwE X σ H c) (e:Same H H'):XwE X σ H' c:=fun pins H2 s a C dd sm=>h pins H2 s a C dd (e.trans sm)
def xR (X:Cx) (f:Z.XF) (σ:St) (H:Hp):Prop:=∃ ρ c,RE X.K H σ ρ∧f ρ=some c∧XwE X σ H c
abbrev XE (X:Cx) (e:Expr) (f:Z.XF):Prop:=PE X e (fun σ H _=>xR X f σ H)
abbrev XA (X:Cx) (es:List Expr) (f:Z.XF):Prop:=PA X es (fun σ H _=>xR X f σ H)
abbrev XT (X:Cx) (e:Expr) (f:Z.XF):Prop:=PT X e (fun σ H _=>xR X f σ H)
abbrev XR (X:Cx) (st:Stmt) (f:Z.XF):Prop:=PS X st (fun _ σ H=>xR X f σ H)
abbrev XRs (X:Cx) (sts:List Stmt) (f:Z.XF):Prop:=PSs X sts (fun _ σ H=>xR X f σ H)
def xS (X:Cx) (H0:Hp) (f:Z.XF) (σ:St) (H:Hp):Prop:=∃ ρ c,RS X.K H0 H σ ρ∧f ρ=some c∧Xw X H0 c
abbrev XS (X:Cx) (H0:Hp) (st:Stmt) (f:Z.XF):Prop:=PS X st (fun _ σ H=>xS X H0 f σ H)
abbrev XSs (X:Cx) (H0:Hp) (sts:List Stmt) (f:Z.XF):Prop:=PSs X sts (fun _ σ H=>xS X H0 f σ H)
theorem xS.r {H0:Hp} {f:Z.XF} (h:xS X H0 f σ H):xR X f σ H:=by
 obtain ⟨ρ,c,rs,e,k⟩:=h
 exact ⟨ρ,c,rs.re,e,fun pins H' s a C dd sm=>k pins σ H' s a C dd (rs.same.trans sm)⟩
end
def ClsO (C:Addr) (h:Heap):Prop:=∃ (tl:List Value) (ns:Addr) (nm qn:Str) (bs:List Value) (hd:Bool) (sn:List Str) (sub:List Value) (ab:Bool) (col:Option Bool) (dd:Option Addr) (s0 s1 s2 s3 s5:Option Value),
 h.get? C=some (excClassObj nm qn C ns bs tl hd sn sub ab col dd s0 s1 s2 s3 s5 "ValueError.__new__")∧tl.contains (.type "BaseException")=true
theorem clsO {K : PySem.W.Frag} {c : List Nat} {C : Addr} {h : Heap} (X : K.In h) (xc : XC K c C) : ClsO C h := by
 have q:=xc.2
 unfold xcIn at q
 split at q
 ·rename_i dd cd sl ho
  split at q
  ·rename_i C' tl s0 s1 s2 s3 id s5 e1 e2
   simp only [Bool.and_eq_true,beq_iff_eq,Bool.not_eq_true'] at q
   obtain ⟨⟨⟨rfl,rfl⟩,r1⟩,r2⟩:=q
   cases cd
   dsimp only at e1 r1
   subst e1 r1
   obtain rfl:sl=#[s0,s1,s2,s3,some (.builtin "ValueError.__new__"),s5]:=by
    cases sl
    simp only at e2
    rw [e2]
   exact ⟨tl,_,_,_,_,_,_,_,_,_,dd,s0,s1,s2,s3,s5,X _ _ ho,r2⟩
  ·cases q
 ·cases q
def ClsI (C:Addr) (h:Heap):Prop:=∃ (tl:List Value) (ns:Addr) (nm qn:Str) (bs:List Value) (hd:Bool) (sn:List Str) (sub:List Value) (ab:Bool) (col:Option Bool) (dd:Option Addr) (s0 s1 s2 s3 s5:Option Value) (mN:Str→Option Value),
 h.get? C=some (excClassObj nm qn C ns bs tl hd sn sub ab col dd s0 s1 s2 s3 s5 "ValueError.__new__")∧h.Ns ns mN∧mN "__init__" = none∧OwnTail h [.type "ValueError",.type "Exception",.type "BaseException",.type "object"] tl
theorem clsI {K : PySem.W.Frag} {C : Addr} {h : Heap} (X : K.In h) (q : excIn K C [.type "ValueError", .type "Exception", .type "BaseException", .type "object"] "ValueError.__new__" = true) : ClsI C h := by
 unfold excIn at q
 split at q
 ·rename_i dd cd sl ho
  split at q
  ·rename_i C' tl s0 s1 s2 s3 id s5 e1 e2
   simp only [Bool.and_eq_true,beq_iff_eq,Bool.not_eq_true'] at q
   obtain ⟨⟨⟨⟨⟨rfl,rfl⟩,r1⟩,r2⟩,r3⟩,r4⟩:=q
   cases cd
   dsimp only at e1 r1 r3 r4
   subst e1 r1
   obtain rfl:sl=#[s0,s1,s2,s3,some (.builtin "ValueError.__new__"),s5]:=by
    cases sl
    simp only at e2
    rw [e2]
   exact ⟨tl,_,_,_,_,_,_,_,_,_,dd,s0,s1,s2,s3,s5,_,X _ _ ho,.of_isNs (isNs_of_in X r3),nsMap_none_of_in X r3 r4,tail_of_in X r2⟩
  ·cases q
 ·cases q
def spR (K:PySem.W.Frag) (m:List Z.D→Option Z.XN):Sp:=fun vs H _ E=>∃ ds c,Dens K H ds vs∧m ds=some c∧∀ C dd H',Same H H'→XRel K H' c C dd→E (.ref C) dd H'
structure CalX (P:Program) (w:World) (K:PySem.W.Frag) (mg:Str→Option Value) (base:Heap) (x:Str) (k:Nat) (ps:List Str) (m:List Z.D→Option Z.XN):Prop where
 ex:∃ g fd,FnOk P w K mg base (CXZ P w) k g fd ps (spR K m)∧mg x=some (.ref g)∧PySem.W.keepIn K (.ref g)=true∧Binds K fd ps []
section
variable {X:Cx} {e a:Expr} {es:List Expr} {pos:Pos} {f:Z.XF}
theorem xe_call {k : Nat} {ps : List Str} {x : Str} {m : List Z.D → Option Z.XN} {ar : Z.AF} {p1 : Pos} (C : CalX X.prog X.w X.K X.mg X.base x k ps m) (hr : Room k X.A) (hg : Gl X x)
  (ha:DA X.nox (e :: es) ar) (hex:X.ex=[]:=by rfl) (hdb:(x==("__debug__" : Str))=false:=by decide +kernel) (he:starEach (e :: es) X.env=(false,eval e X.env) :: starEach es X.env:=by rfl) (hpl:(backTo pos (starEach es X.env)).any (·.1)=false:=by rfl) :
  XE X (.Call (.Name x p1) (e :: es) [] pos) (Z.xCall m ar):=by
 obtain ⟨g,fd,F,hm,hk,hb⟩:=C.ex
 intro pins s σ H Q I h
 obtain ⟨ρ,c,re,ec,kw⟩:=h
 unfold Z.xCall at ec
 split at ec
 ·rename_i ds ed
  refine wpAny_Call_Name_kw (ld_glob I hg hm ?_ hdb)
  refine PySem.W.callWith_K (h₀:=X.base) I.ok.mod.kin hk (thn (PA.nox ha pos pins s σ H (fun vs H1=>Same H H1∧Dens X.K H1 ds vs) I ⟨ρ,ds,re,ed,fun vs H1 s1 d1=>⟨s1,d1⟩⟩) fun us s1 ⟨vs,H1,I1,r,sm,d1⟩=>⟨I1.kIn,?_⟩) he hpl
  have hsp:spR X.K m vs H1 (fun _ _=>False) (fun cv dd H'=>∃ C,cv=.ref C∧XRel X.K H' c C dd∧Same H1 H'):=⟨ds,c,d1,ec,fun C' dd H' s2 x2=>⟨C',rfl,x2,s2⟩⟩
  have hl:=F.len _ _ _ _ hsp
  refine wpAny_call (codeAny_mono (F.run X.A X.stack s1 H1 ⟨us,[]⟩ us vs _ _ hr I1.env0 (by have:=hb s1 us I1.kIn (by rw [List.append_nil,←r.length];exact hl);simpa using this) r hsp) fun rr s' hq=>?_)
  cases rr with
  | ok fl =>
   cases fl with
   | ret u =>
    obtain ⟨v,H2,_,_,_,_,_,q⟩:=hq
    exact q.elim
   | _=>exact hq.elim
  | error ev =>
   have hq:CXZ X.prog X.w X.stack H1 s1 (fun cv dd H'=>∃ C,cv=.ref C∧XRel X.K H' c C dd∧Same H1 H') ev s':=hq
   obtain ⟨a,C',dd,H',rfl,J,th,C2,hc,x2,s2⟩:=thr_of hex I1 hq
   cases hc
   exact kw pins H' s' a C' dd (sm.trans s2) x2 J th
 ·cases ec
section
variable {H0:Hp} {st:Stmt} {sts:List Stmt} {g u:Z.SF} {xa xb:Z.XF}
theorem xs_if {c:Expr} {b1 b2:List Stmt} {t:Z.TF} (hc:DT X.nox c t) (h1:XSs X H0 b1 xa) (h2:XSs X H0 b2 xb):XS X H0 (.If c b1 b2 pos) (Z.xIf t xa xb):=PS.imp (ps_if (PT.nox hc) h1 h2) fun D σ H ⟨ρ,c,rs,ec,kw⟩=>by
 unfold Z.xIf at ec
 split at ec
 ·rename_i b eb
  refine ⟨ρ,b,rs.re,eb,fun H1 s1=>?_⟩
  cases b with
  | true=>exact ⟨ρ,c,rs.up s1,by simpa using ec,kw⟩
  | false=>exact ⟨ρ,c,rs.up s1,by simpa using ec,kw⟩
 ·cases ec
theorem xs_no:XS X H0 st Z.xNo:=fun _ _ _ _ _ _ ⟨_,_,_,e,_⟩=>nomatch e
theorem xss_no:XSs X H0 sts Z.xNo:=fun _ _ _ _ _ _ ⟨_,_,_,e,_⟩=>nomatch e
theorem xss_one (h:XS X H0 st f):XSs X H0 [st] f:=pss_one h
theorem xrs_one (h:XR X st f):XRs X [st] f:=pss_one h
theorem xss_cons (h1:DS X.nox H0 st g) (x1:XS X H0 st xa) (x2:XSs X H0 sts xb):XSs X H0 (st :: sts) (Z.xSeq g xa xb):=by
 intro pins s σ H D I h
 obtain ⟨ρ,c,rs,ec,kw⟩:=h
 unfold Z.xSeq at ec
 split at ec
 ·rename_i c' e1
  cases ec
  exact pss_cons x1 x2 pins s σ H D I ⟨ρ,c,rs,e1,kw⟩
 ·split at ec
  ·rename_i ρ' e2
   refine pss_cons (PS.nox h1) x2 pins s σ H D I ⟨ρ,_,rs,e2,fun σ' H' _ rs'=>⟨ρ',c,rs',ec,kw⟩⟩
  ·cases ec
theorem xs_raise {x:Str} {c:List Nat} {C:Addr} {fa:Z.EF} {np cpos:Pos} (hc:X.calm=true) (hex:X.ex=[]) (hg:Gl X x) (hcx:(⟨c.toArray⟩:Str)=x) (xc:XC X.K c C) (xi:excIn X.K C [.type "ValueError",.type "Exception",.type "BaseException",.type "object"] "ValueError.__new__" = true) (ha:DE X.nox a fa)
  (hdb:(x==("__debug__" : Str))=false:=by decide +kernel) (he:starEach (a :: []) X.env=(false,eval a X.env) :: starEach [] X.env:=by rfl) (hpl:(backTo cpos (starEach (a :: []) X.env)).any (·.1)=false:=by rfl) :
  XS X H0 (.Raise (some (.Call (.Name x np) [a] [] cpos)) none pos) (Z.xRaise c fa):=by
 intro pins s σ H D I h
 obtain ⟨ρ,c',rs,ec,kw⟩:=h
 unfold Z.xRaise at ec
 split at ec
 ·rename_i d ed
  cases ec
  have hm:X.mg x=some (.ref C):=by
   have:=PySem.W.mg_of (mg:=X.mg) (h:=s.heap) I.kIn (I.mod.glob.keeps I.bk) xc.1
   rw [hcx] at this;exact this
  obtain ⟨tl,ns,nm,qn,bs,hd,sn,sub,ab,col,dd,s0,s1,s2,s3,s5,mN,hC,hN,hni,T⟩:=clsI I.mod.kin xi
  refine wpAny_Raise_call_subT (C:=C) (nm:=nm) (q:=qn) (N:=ns) (bs:=bs) (bm:=tl) (hdct:=hd) (sn:=sn) (sub:=sub) (ab:=ab) (col:=col) (dd:=dd) (k0:=s0) (k1:=s1) (k2:=s2) (k3:=s3) (k5:=s5)
   F.excBase_ValueError (mN:=mN) (T.hasType F.excBase_ValueError.hasBase) (I.ok.hd hc) hpl hni (ld_glob I hg hm ⟨rfl,?_⟩ hdb)
  have P:=pa_cons (PE.nox ha) pa_nil he cpos pins s σ H (fun vs H1=>Same H H1∧vs.length=1) I ⟨ρ,d,rs.re,ed,fun v H1 s1 d1=>⟨s1,rfl⟩⟩
  rw [he] at P ⊢
  refine Calls.evalArgs_plain (wpAny_mono P (fun us s1 ⟨vs,H1,I1,r,sm,hl⟩=>⟨rfl,?_,I1.bk _ _ hC,hN.keeps I1.bk,T.keeps I1.bk,fun h' ex hmk=>?_⟩) fun _ _ z=>z)
  ·show us.length≤sizeLine
   rw [←r.length,hl,sizeLine_eq];decide
  ·obtain ⟨J,th⟩:=thr_new hex I1 hmk
   exact kw pins σ H1 _ ex C none (rs.same.trans sm) ⟨xc,rfl⟩ J th
 ·cases ec
end
end
end ZS
namespace ZS
open PySem PySem.Spec PyProof.Rows L2 PySem.W
section
variable {P:Program} {w:World} {K:PySem.W.Frag} {mg:Str→Option Value} {base:Heap}
theorem fnX {f:Addr} {name qual:Str} {st:Stmt} {dV kV doc pm cdv ct oc:Value} {an od:Option Addr} {osl:Array (Option Value)} {N ps:List Str} {k:Nat} {xb:Z.XF}
  (lk:K.lookup f=some ⟨oc,od,.func (PySem.W.fnOf name qual (defArgs st) (defBody st) (defScope st) dV kV doc pm an cdv ct),osl⟩) (hcd:PySem.W.codeIn K cdv qual=true) (S:FnScope N ps (defScope st))
  (hb:∀ (A:Around) (outer:List PySem.Env) (s:Shared) (H:Hp) (E:XK),Room k (A.deeper (envOfC qual (defScope st) s.heap.objs.size f cdv)) →
   XSs (cxOf (CXZ P w) P w K mg base N qual (defScope st) f cdv A outer s H E) H (defBody st) xb):FnOk P w K mg base (CXZ P w) (k+1) f (PySem.W.fnOf name qual (defArgs st) (defBody st) (defScope st) dV kV doc pm an cdv ct) ps (spR K (Z.fx ps.length N.length xb)):=by
 have hlen:∀ (vs:List V) (H:Hp) (Q:VK) (E:XK),spR K (Z.fx ps.length N.length xb) vs H Q E→vs.length=ps.length:=fun vs H Q E ⟨ds,d,t,e,_⟩=>by
  unfold Z.fx at e
  split at e
  ·rename_i h;rw [t.length];exact h
  ·cases e
 refine fn_of lk hcd S hlen fun A outer s H vs Q E hr h=>?_
 refine ⟨_,hb A outer s H E hr,?_⟩
 have hl:=hlen vs H Q E h
 obtain ⟨ds,c,t,e,k⟩:=h
 have hpl:ps.length≤N.length:=by have:=congrArg List.length S.pre;rw [List.length_take] at this;lia
 have rs:RS K H H (L2.start N vs) (Z.start N.length ds):=start_get t (by lia)
 unfold Z.fx at e
 split at e
 ·exact ⟨_,c,rs,e,fun pins σ H' s' a C dd sm xc I th=>leave_thr I th (k C dd H' sm xc)⟩
 ·cases e
theorem CalX.mk' {x:Str} {k:Nat} {st:Stmt} {N ps:List Str} {xb:Z.XF} (d:Def K mg x st ps) (S:FnScope N ps (defScope st))
  (hb:∀ (f:Addr) (cdv:Value) (A:Around) (outer:List PySem.Env) (s:Shared) (H:Hp) (E:XK),Room k (A.deeper (envOfC x (defScope st) s.heap.objs.size f cdv)) →
   XSs (cxOf (CXZ P w) P w K mg base N x (defScope st) f cdv A outer s H E) H (defBody st) xb):CalX P w K mg base x (k+1) ps (Z.fx ps.length N.length xb):=by
 obtain ⟨f,fd,F,hm,hb'⟩:=d.ex
 have kp:=F.kp
 obtain ⟨oc,od,kV,doc,pm,an,cdv,ct,osl,rfl,lk,hcd⟩:=F.ex
 exact ⟨f,_,fnX lk hcd S (hb f cdv),hm,kp,hb'⟩
end
section
variable {X:Cx} {pins:List (Addr×Obj)} {σ:St} {H:Hp} {s:Shared}
end
end ZS
namespace ZS
open PySem PySem.Spec PyProof.Rows L2 PySem.W
abbrev tryX (X:Cx) (pn:List (Addr×Obj)) (E:Value→Shared→Prop):Cx:={ X with pn:=pn,xe:=E }
abbrev hanX (X:Cx) (ev:Value):Cx:={ X with A:=X.A.mark (some ev),calm:=false }
theorem ok_try {X:Cx} (ok:X.Ok) (pn:List (Addr×Obj)) (E:Value→Shared→Prop):(tryX X pn E).Ok :=
 ⟨ok.mod,ok.kind,ok.glob,ok.blt,ok.above,ok.inj,ok.has,ok.cab,ok.hd,ok.frames,ok.stk,ok.exf,ok.bs,ok.bsz,ok.noex,ok.exfs,ok.funs,ok.frf⟩
theorem ok_han {X:Cx} (ok:X.Ok) (ev:Value):(hanX X ev).Ok :=
 ⟨ok.mod,ok.kind,ok.glob,ok.blt,ok.above,ok.inj,ok.has,ok.cab,fun z=>(nomatch z),ok.frames,ok.stk,ok.exf,ok.bs,ok.bsz,ok.noex,ok.exfs,ok.funs,ok.frf⟩
section
variable {X:Cx} {pins:List (Addr×Obj)} {σ:St} {H:Hp} {s:Shared}
theorem inv_try (I:Inv X pins σ H s) (E:Value→Shared→Prop):Inv (tryX X (X.pn++pins) E) [] σ H s:=⟨ok_try I.ok _ E,I.os,I.bare,I.base,I.loc,I.cell,I.free,I.freeC,fun p hp=>I.pin p (by simpa using hp),I.hok,I.len,I.tab⟩
theorem inv_of_try {E:Value→Shared→Prop} {pins':List (Addr×Obj)} (ok:X.Ok) (I:Inv (tryX X (X.pn++pins) E) pins' σ H s):Inv X pins σ H s:=⟨ok,I.os,I.bare,I.base,I.loc,I.cell,I.free,I.freeC,fun p hp=>I.pin p (List.mem_append_left _ hp),I.hok,I.len,I.tab⟩
theorem off_of_try {E:Value→Shared→Prop} {pins':List (Addr×Obj)} {a:Addr} (o:OffX (tryX X (X.pn++pins) E) pins' H s a):OffX X pins H s a:=⟨o.free,o.new,fun p hp=>o.pin p (List.mem_append_left _ hp),o.isr⟩
theorem thr_of_try {E:Value→Shared→Prop} {pins':List (Addr×Obj)} {e C:Addr} {dd:Option Addr} (t:Thr (tryX X (X.pn++pins) E) pins' H s e C dd):Thr X pins H s e C dd:=by
 obtain ⟨oe,vs,he,hcl,hdd,hd,h1⟩:=t.ex
 refine ⟨off_of_try t.off,oe,vs,he,hcl,hdd,hd,?_⟩
 rcases h1 with h1 | ⟨T,oT,ts,h1,h2,h3,h4⟩
 ·exact .inl h1
 ·exact .inr ⟨T,oT,ts,h1,h2,off_of_try h3,h4⟩
theorem inv_han (I:Inv X pins σ H s) (ev:Value):Inv (hanX X ev).nox pins σ H s:=⟨(ok_han I.ok ev).wish _,I.os,I.bare,I.base,I.loc,I.cell,I.free,I.freeC,I.pin,I.hok,I.len,I.tab⟩
theorem inv_of_han {ev:Value} (ok:X.Ok) (I:Inv (hanX X ev).nox pins σ H s):Inv X pins σ H s:=⟨ok,I.os,I.bare,I.base,I.loc,I.cell,I.free,I.freeC,I.pin,I.hok,I.len,I.tab⟩
theorem ld_globA {M:Model} {A:Around} {E:Value→Shared→Prop} {x:Str} {u:Value} {pos:Pos} {Q:Value→Shared→Prop} (I:Inv X pins σ H s) (hg:Gl X x) (hm:X.mg x=some u) (h:Q u s)
  (hd:(x==("__debug__" : Str))=false):wpAny M A (eval (.Name x pos) X.env) Q E s :=
 Calls.Name_function_global I.ok.kind hg (Calls.loadGlobal_global (by rw [I.ok.glob];exact I.mod.glob.keeps I.bk) hm h) hd
end
section
variable {X:Cx} {H0:Hp}
end
end ZS
namespace ZS
open PySem PySem.Spec PyProof.Rows L2 PySem.W
structure ExcK (K:PySem.W.Frag) (C:Addr):Prop where
 ga:findIn K (.ref C) "__getattribute__" = some (some (.builtin "BaseException.__getattribute__"))
 gn:findIn K (.ref C) "__getattr__" = some none
 cl:findIn K (.ref C) "__class__" = some (some (.builtin "object.__class__"))
 hn:specialIn K (.builtin "object.__class__") "__get__" = some (some (.builtin "getset_descriptor.__get__"))
 tk:takesIn K (.builtin "object.__class__")=some true
 mo:mroIn K C (.type "object")=some true
 mb:mroIn K C (.type "BaseException")=some true
section
variable {prog:Program} {w:World} {A:Around} {E:Value→Shared→Prop} {s:Shared} {K:PySem.W.Frag} {x C:Addr} {ox:Obj} {od:Option Obj}
end
section
variable {X:Cx} {a:Expr} {pos:Pos}
end
end ZS
namespace ZS
open PySem PySem.Spec PyProof.Rows L2 PySem.W
structure RoomH (k:Nat) (A:Around):Prop where
 dp:A.depth+3*k+5 < recursionLimit
 un:A.units+16*k+200 < cLine
section
variable {P:Program} {w:World} {K:PySem.W.Frag} {mg:Str→Option Value} {base:Heap}
def RunE (P:Program) (w:World) (K:PySem.W.Frag) (mg:Str→Option Value) (base:Heap) (k:Nat) (g:Addr) (fd:FuncData) (ps:List Str) (m:Z.XN→Z.Res Z.D):Prop :=
 ∀ (A:Around) (outer:List PySem.Env) (s:Shared) (H:Hp) (args:Args) (u:Value) (v:V) (Q:VK) (c:Z.XN) (d:Z.D),RoomH k A→Env0 P w K mg base A outer s H→BindsTo s fd args (ps.zip [u])→RelV v u→RL K H (.exc c) v→m c=.ok d→(∀ v' H',Same H H'→Den K H' d v'→Q v' H') →
  codeAny (model P w) A (.call (.ref g) args) (CR CX0 outer P w H s Q E0) s
structure CalE (P:Program) (w:World) (K:PySem.W.Frag) (mg:Str→Option Value) (base:Heap) (x:Str) (k:Nat) (ps:List Str) (m:Z.XN→Z.Res Z.D):Prop where
 ex:∃ g fd,RunE P w K mg base k g fd ps m∧mg x=some (.ref g)∧PySem.W.keepIn K (.ref g)=true∧Binds K fd ps []∧ps.length=1
end
section
variable {X:Cx} {a:Expr} {pos:Pos}
end
end ZS
namespace ZQ
open PySem PySem.Spec PyProof.Rows L2 ZS PySem.W
structure QXE (X:Cx) (e:Expr) (f:Z.XF):Prop where p:XE X e f
structure QXA (X:Cx) (es:List Expr) (f:Z.XF):Prop where p:XA X es f
structure QXT (X:Cx) (e:Expr) (f:Z.XF):Prop where p:XT X e f
structure QXS (X:Cx) (H0:Hp) (st:Stmt) (f:Z.XF):Prop where p:XS X H0 st f
structure QXSs (X:Cx) (H0:Hp) (sts:List Stmt) (f:Z.XF):Prop where p:XSs X H0 sts f
structure QXR (X:Cx) (st:Stmt) (f:Z.XF):Prop where p:XR X st f
structure QXRs (X:Cx) (sts:List Stmt) (f:Z.XF):Prop where p:XRs X sts f
section
variable {X:Cx} {e a:Expr} {es:List Expr} {pos:Pos} {f:Z.XF} {H0:Hp} {st:Stmt} {sts:List Stmt} {g u:Z.SF} {xa xb:Z.XF}
theorem xe_call {k:Nat} {ps:List Str} {x:Str} {m:List Z.D→Option Z.XN} {ar:Z.AF} {p1:Pos} (C:CalX X.prog X.w X.K X.mg X.base x k ps m) (hr:Room k X.A) (hg:Gl X x)
  (ha:QA X.nox (e :: es) ar) (hex:X.ex=[]:=by rfl) (hdb:(x==("__debug__" : Str))=false:=by decide +kernel) (he:starEach (e :: es) X.env=(false,eval e X.env) :: starEach es X.env:=by rfl) (hpl:(backTo pos (starEach es X.env)).any (·.1)=false:=by rfl) :
  QXE X (.Call (.Name x p1) (e :: es) [] pos) (Z.xCall m ar):=⟨ZS.xe_call C hr hg ha.p hex hdb he hpl⟩
theorem xs_if {c:Expr} {b1 b2:List Stmt} {t:Z.TF} (hc:QT X.nox c t) (h1:QXSs X H0 b1 xa) (h2:QXSs X H0 b2 xb):QXS X H0 (.If c b1 b2 pos) (Z.xIf t xa xb):=⟨ZS.xs_if hc.p h1.p h2.p⟩
theorem xs_no:QXS X H0 st Z.xNo:=⟨ZS.xs_no⟩
theorem xss_no:QXSs X H0 sts Z.xNo:=⟨ZS.xss_no⟩
theorem xss_one (h:QXS X H0 st f):QXSs X H0 [st] f:=⟨ZS.xss_one h.p⟩
theorem xrs_one (h:QXR X st f):QXRs X [st] f:=⟨ZS.xrs_one h.p⟩
theorem xss_cons (h1:QS X.nox H0 st g) (x1:QXS X H0 st xa) (x2:QXSs X H0 sts xb):QXSs X H0 (st :: sts) (Z.xSeq g xa xb):=⟨ZS.xss_cons h1.p x1.p x2.p⟩
theorem xs_raise {x:Str} {c:List Nat} {C:Addr} {fa:Z.EF} {np cpos:Pos} (hc:X.calm=true) (hex:X.ex=[]) (hg:Gl X x) (hcx:(⟨c.toArray⟩:Str)=x) (xc:XC X.K c C) (xi:excIn X.K C [.type "ValueError",.type "Exception",.type "BaseException",.type "object"] "ValueError.__new__" = true) (ha:QE X.nox a fa)
  (hdb:(x==("__debug__" : Str))=false:=by decide +kernel) (he:starEach (a :: []) X.env=(false,eval a X.env) :: starEach [] X.env:=by rfl) (hpl:(backTo cpos (starEach (a :: []) X.env)).any (·.1)=false:=by rfl) :
  QXS X H0 (.Raise (some (.Call (.Name x np) [a] [] cpos)) none pos) (Z.xRaise c fa):=⟨ZS.xs_raise hc hex hg hcx xc xi ha.p hdb he hpl⟩
end
section
variable {P:Program} {w:World} {K:PySem.W.Frag} {mg:Str→Option Value} {base:Heap}
theorem calX {x:Str} {k:Nat} {st:Stmt} {N ps:List Str} {xb:Z.XF} (d:Def K mg x st ps) (S:FnScope N ps (defScope st))
  (hb:∀ (f:Addr) (cdv:Value) (A:Around) (outer:List PySem.Env) (s:Shared) (H:Hp) (E:XK),Room k (A.deeper (envOfC x (defScope st) s.heap.objs.size f cdv)) →
   QXSs (cxOf (CXZ P w) P w K mg base N x (defScope st) f cdv A outer s H E) H (defBody st) xb):CalX P w K mg base x (k+1) ps (Z.fx ps.length N.length xb):=CalX.mk' d S fun f cdv A outer s H E hr=>(hb f cdv A outer s H E hr).p
end
end ZQ
noncomputable section
namespace Z
def partC (c:Nat) (cs:List Nat):List Nat×List Nat×List Nat:=match PySem.Builtin.Str.occurrences ⟨cs.toArray⟩ ⟨#[c]⟩ 0 cs.length 1 with
 | i :: _=>(cs.take i,[c],cs.drop (i+1))
 | []=>(cs,[],[])
def oPart:D→D→Res D
 | .str cs,.str [c]=>guard (cs.length≤line) (.ok (.tup [.str (partC c cs).1,.str (partC c cs).2.1,.str (partC c cs).2.2]))
 | _,_=>.bad
end Z
end
namespace ZS
open PySem PySem.Spec PyProof.Rows L2 PySem.W
section
variable {X:Cx} {o a b:Expr} {pos p p2:Pos} {fa fb:Z.EF}
theorem sub_take (cs:List Nat) (i:Nat):Builtin.Str.strSub ⟨cs.toArray⟩ 0 i=mkS (cs.take i):=by
 unfold Builtin.Str.strSub mkS
 simp
theorem sub_drop (cs:List Nat) (i:Nat):Builtin.Str.strSub ⟨cs.toArray⟩ i cs.length=mkS (cs.drop i):=by
 unfold Builtin.Str.strSub mkS
 simp
 exact List.take_of_length_le (by simp)
def rPart:V→List V→Hp→VK→Prop:=fun x vs H Q=>∃ cs c,x=.str (mkS cs)∧vs=[.str ⟨#[c]⟩]∧cs.length≤sizeLine∧∀ q,H q=none→Q (.ref q) (upd H q (.tup [.str (mkS (Z.partC c cs).1),.str (mkS (Z.partC c cs).2.1),.str (mkS (Z.partC c cs).2.2)]))
theorem mt_part:MtR X "str.partition" rPart:=by
 intro pins s σ H x vs v us Q I rx rv h
 obtain ⟨cs,c,rfl,rfl,hl,k⟩:=h
 obtain ⟨tk,rfl⟩:=rx
 obtain ⟨u,rfl,ru⟩:=rv.one
 obtain ⟨tk2,rfl⟩:=ru
 refine call_meets F.slot_str_partition (typeIs_str _ _ _) F.entry_str_partition (F.args_str_partition_2 _ _) (meets_str_partition (mkS cs) ⟨#[c]⟩ tk tk2 rfl (by rw [mkS_len];exact hl)) ?_
 unfold Z.partC at k
 have lm:(mkS cs).length=cs.length:=mkS_len cs
 rw [lm]
 have fin:∀ (a b d:List Nat) (t1 t2 t3:Tok) (kk:Nat),(∀ q,H q=none→Q (.ref q) (upd H q (.tup [.str (mkS a),.str (mkS b),.str (mkS d)]))) →
   EP X pins σ Q (.ref s.heap.objs.size) { s with toks:=kk,heap:=s.heap.push { cls:=.type "tuple",data:=.seq [.str (mkS a) t1,.str (mkS b) t2,.str (mkS d) t3].toArray } }:=fun a b d t1 t2 t3 kk q =>
  ⟨.ref _,_,I.laid (t':=kk) (o:=.tup [.str (mkS a),.str (mkS b),.str (mkS d)]) (fun b ob q=>Heap.get?_push_of_some _ q) (Nat.le_refl _) ⟨by show 3≤sizeLine;decide,_,.cons ⟨t1,rfl⟩ (.cons ⟨t2,rfl⟩ (.cons ⟨t3,rfl⟩ .nil)),_,Heap.get?_push_size _ rfl,rfl,_,rfl⟩,rfl,q _ (I.hok.fresh (Nat.le_refl _))⟩
 show wants _ _ _ (match Builtin.Str.occurrences (mkS cs) ⟨#[c]⟩ 0 cs.length 1 with | i :: _=>_ | []=>_)
 cases e:Builtin.Str.occurrences (mkS cs) ⟨#[c]⟩ 0 cs.length 1 with
 | nil =>
  have e':Builtin.Str.occurrences ⟨cs.toArray⟩ ⟨#[c]⟩ 0 cs.length 1=[]:=e
  rw [e'] at k
  exact fin cs [] [] tk _ _ _ k
 | cons i r =>
  have e':Builtin.Str.occurrences ⟨cs.toArray⟩ ⟨#[c]⟩ 0 cs.length 1=i :: r:=e
  rw [e'] at k
  dsimp only
  have a1:Builtin.Str.strSub (mkS cs) 0 i=mkS (cs.take i):=sub_take cs i
  have a2:Builtin.Str.strSub (mkS cs) (i+Str.length ⟨#[c]⟩) cs.length=mkS (cs.drop (i+1)):=sub_drop cs (i+1)
  rw [a1,a2]
  exact fin (cs.take i) [c] (cs.drop (i+1)) _ _ _ _ k
theorem oPart_ok {x y d:Z.D} (h:Z.oPart x y=.ok d):∃ cs c,x=.str cs∧y=.str [c]∧cs.length≤Z.line∧d=.tup [.str (Z.partC c cs).1,.str (Z.partC c cs).2.1,.str (Z.partC c cs).2.2]:=by
 unfold Z.oPart at h
 split at h
 ·rename_i cs c
  obtain ⟨h1,h2⟩:=Z.guard_ok h
  cases h2
  exact ⟨cs,c,rfl,rfl,h1,rfl⟩
 ·cases h
theorem de_part {p1:Pos} (ho:DW X o fa) (hb:DW X b fb)
  (hbase:attributeBase o "partition" X.env (eval o X.env)=eval o X.env:=by rfl)
  (hfew:((backTo p2 (starEach (b :: []) X.env)).all (fun x=>!x.1)&&(backToKw p2 (keywordEach [] X.env)).all (fun x=>x.1.isSome)
   && decide ((b :: []).length+([]:List Keyword).length+(if ([]:List Keyword).isEmpty then 0 else 1) < 30))=true:=by rfl)
  (hline:(p1.endLine==p2.line)=true:=by rfl) (hs1:starEach (b :: []) X.env=(false,eval b X.env) :: starEach [] X.env:=by rfl) (hplain:(backTo p2 (starEach [] X.env)).any (·.1)=false:=by rfl) :
  DE X (.Call (.Attribute o "partition" p1) [b] [] p2) (Z.eB Z.oPart fa fb) :=
 PE.imp (pe_bm PySem.F.plainAttrs_str PySem.F.slot_str_partition PySem.F.type_str_partition mt_part ho (pa_cons hb pa_nil hs1) hbase hfew hline hs1 hplain) fun σ H Q ⟨ρ,d,r,e,k⟩=>by
  obtain ⟨x,ea,e⟩:=Z.Res.bind_ok e
  obtain ⟨y,eb,e⟩:=Z.Res.bind_ok e
  obtain ⟨cs,c,rfl,rfl,hl,rfl⟩:=oPart_ok e
  refine ⟨ρ,_,r,ea,fun v H1 s1 d1=>?_⟩
  have d1':=d1.str
  subst d1'
  refine ⟨rfl,ρ,_,r.up s1,eb,fun u H2 s2 d2=>?_⟩
  have d2':=d2.str
  subst d2'
  refine ⟨cs,c,rfl,rfl,by rw [sizeLine_eq];exact hl,fun q hq=>?_⟩
  have s3:Same H2 (upd H2 q (.tup [.str (mkS (Z.partC c cs).1),.str (mkS (Z.partC c cs).2.1),.str (mkS (Z.partC c cs).2.2)])):=upd_Same hq
  exact k _ _ ((s1.trans s2).trans s3) (den_tup (.inl (.inl upd_same)) (Dens.cons den_str (Dens.cons den_str (Dens.cons den_str Dens.nil))))
end
section
variable {X:Cx} {a:Expr} {pos:Pos}
def tCs (vs:List V):TA:=fun _ H Q=>Q vs H
def NoK (K:PySem.W.Frag) (c0:List Nat) (as:List Addr):Prop:=∃ C,nsIn K mainGlobals ⟨c0.toArray⟩=some (some (.ref C))∧ExcK K C∧kitAny K (.ref C) (as.map Value.ref)=some false
structure PCs (X:Cx) (c0:List Nat) (es:List Expr) (as:List Addr):Prop where
 pa:PA X es (tCs (as.map V.ref))
 k:NoK X.K c0 as
end
end ZS
namespace ZQ
open PySem PySem.Spec PyProof.Rows L2 ZS PySem.W
section
variable {X:Cx} {o a b:Expr} {pos p p2:Pos} {fa fb:Z.EF}
theorem de_part {p1:Pos} (ho:QW X o fa) (hb:QW X b fb)
  (hbase:attributeBase o "partition" X.env (eval o X.env)=eval o X.env:=by rfl)
  (hfew:((backTo p2 (starEach (b :: []) X.env)).all (fun x=>!x.1)&&(backToKw p2 (keywordEach [] X.env)).all (fun x=>x.1.isSome)
   && decide ((b :: []).length+([]:List Keyword).length+(if ([]:List Keyword).isEmpty then 0 else 1) < 30))=true:=by rfl)
  (hline:(p1.endLine==p2.line)=true:=by rfl) (hs1:starEach (b :: []) X.env=(false,eval b X.env) :: starEach [] X.env:=by rfl) (hplain:(backTo p2 (starEach [] X.env)).any (·.1)=false:=by rfl) :
  QE X (.Call (.Attribute o "partition" p1) [b] [] p2) (Z.eB Z.oPart fa fb):=⟨ZS.de_part ho.p hb.p hbase hfew hline hs1 hplain⟩
end
end ZQ
noncomputable section
namespace Z
def sTD (i:Nat) (kvs:List (List Nat×List Nat)) (ρ:Env):Res Fl:=.ok (.nx (ρ.set i (some (.tdc kvs))))
def putT (kvs:List (List Nat×List Nat)) (k v:List Nat):List (List Nat×List Nat):=if (kvs.any fun kv=>decide (kv.1=k))=true then kvs.map (fun kv=>if kv.1=k then (kv.1,v) else kv) else kvs++[(k,v)]
def valT (kvs:List (List Nat×List Nat)) (k:List Nat):Option (List Nat):=(kvs.find? fun kv=>decide (kv.1=k)).map (·.2)
def tputK (i:Nat) (ρ:Env) (k v:D) (o:Option (Option L)):Res Fl:=match k,v,o with
 | .str k,.str v,some (some (.dc (.inr kvs)))=>guard (kvs.length < line) (.ok (.nx (ρ.set i (some (.tdc (putT kvs k v))))))
 | _,_,_=>.bad
def sTPut (i:Nat) (e e':EF) (ρ:Env):Res Fl:=(e' ρ).bind fun v=>(e ρ).bind fun k=>tputK i ρ k v ρ[i]?
def optT:Option (List Nat)→Res D
 | some v=>.ok (.str v)
 | none=>.bad
def tgetK (k:D) (o:Option (Option L)):Res D:=match k,o with
 | .str k,some (some (.dc (.inr kvs)))=>optT (valT kvs k)
 | _,_=>.bad
def eTGet (i:Nat) (e:EF) (ρ:Env):Res D:=(e ρ).bind fun k=>tgetK k ρ[i]?
theorem tputK_ok {i:Nat} {ρ:Env} {k v:D} {o:Option (Option L)} {fl:Fl} (h:tputK i ρ k v o=.ok fl):∃ k' v' kvs,k=.str k'∧v=.str v'∧o=some (some (.tdc kvs))∧kvs.length < line∧fl=.nx (ρ.set i (some (.tdc (putT kvs k' v')))):=by
 unfold tputK at h
 split at h
 ·rename_i k' v' kvs
  obtain ⟨h1,h2⟩:=guard_ok h
  cases h2
  exact ⟨k',v',kvs,rfl,rfl,rfl,h1,rfl⟩
 ·cases h
theorem tgetK_ok {k d:D} {o:Option (Option L)} (h:tgetK k o=.ok d):∃ k' kvs v,k=.str k'∧o=some (some (.tdc kvs))∧valT kvs k'=some v∧d=.str v:=by
 unfold tgetK at h
 split at h
 ·rename_i k' kvs
  cases e:valT kvs k' with
  | none=>rw [e] at h;cases h
  | some v=>rw [e] at h;cases h;exact ⟨k',kvs,v,rfl,rfl,e,rfl⟩
 ·cases h
@[simp] theorem sTD_a (i:Nat) (kvs:List (List Nat×List Nat)) (ρ:Env):sTD i kvs ρ=.ok (.nx (ρ.set i (some (.tdc kvs)))):=rfl
@[simp] theorem sTPut_a (i:Nat) (e e':EF) (ρ:Env):sTPut i e e' ρ=(e' ρ).bind fun v=>(e ρ).bind fun k=>tputK i ρ k v ρ[i]?:=rfl
@[simp] theorem eTGet_a (i:Nat) (e:EF) (ρ:Env):eTGet i e ρ=(e ρ).bind fun k=>tgetK k ρ[i]?:=rfl
@[simp] theorem tputK_a (i:Nat) (ρ:Env) (k v:List Nat) (kvs:List (List Nat×List Nat)):tputK i ρ (.str k) (.str v) (some (some (.tdc kvs)))=guard (kvs.length < line) (.ok (.nx (ρ.set i (some (.tdc (putT kvs k v)))))):=rfl
@[simp] theorem tgetK_a (k:List Nat) (kvs:List (List Nat×List Nat)):tgetK (.str k) (some (some (.tdc kvs)))=optT (valT kvs k):=rfl
@[simp] theorem optT_a (v:List Nat):optT (some v)=.ok (.str v):=rfl
def decC (m:Nat):List Nat:=(Nat.toDigits 10 m).map Char.toNat
def oStr:D→Res D
 | .int n=>guard (0≤n∧n < 10 ^ 70) (.ok (.str (decC n.toNat)))
 | _=>.bad
theorem oStr_ok {x d:D} (h:oStr x=.ok d):∃ n:Nat,x=.int n∧(n:Int) < 10 ^ 70∧d=.str (decC n):=by
 unfold oStr at h
 split at h
 ·rename_i n
  obtain ⟨h1,h2⟩:=guard_ok h
  cases h2
  exact ⟨n.toNat,by rw [Int.toNat_of_nonneg h1.1],by rw [Int.toNat_of_nonneg h1.1];exact h1.2,rfl⟩
 ·cases h
theorem oStr_a (n:Nat) (h:(n:Int) < 10 ^ 70):oStr (.int n)=.ok (.str (decC n)):=by
 show guard (0≤(n:Int)∧(n:Int) < 10 ^ 70) (Res.ok (D.str (decC (n:Int).toNat)))=_
 rw [guard_pos ⟨Int.natCast_nonneg n,h⟩,Int.toNat_natCast]
def valC (cs:List Nat):Nat:=cs.foldl (fun acc c=>acc*10+(c-48)) 0
def oIntT:D→Res D
 | .str cs=>guard (cs≠[]∧cs.length≤640∧∀ c∈cs,48≤c∧c≤57) (.ok (.int (valC cs)))
 | _=>.bad
theorem oIntT_ok {x d:D} (h:oIntT x=.ok d):∃ cs,x=.str cs∧cs≠[]∧cs.length≤640∧(∀ c∈cs,48≤c∧c≤57)∧d=.int (valC cs):=by
 unfold oIntT at h
 split at h
 ·rename_i cs
  obtain ⟨h1,h2⟩:=guard_ok h
  cases h2
  exact ⟨cs,rfl,h1.1,h1.2.1,h1.2.2,rfl⟩
 ·cases h
def ints3 (lo:Int) (n:Nat):List D:=(List.range n).map fun i=>D.int (lo+(i:Nat)*3)
def byD:D→D→D→Res (List D)
 | .int i,.int j,.int k=>guard (k=3∧-1000000000≤i∧i≤1000000000∧-1000000000≤j∧j≤1000000000) (.ok (ints3 i ((j-i+2) / 3).toNat))
 | _,_,_=>.bad
theorem byD_a (i j k:Int):byD (.int i) (.int j) (.int k)=guard (k=3∧-1000000000≤i∧i≤1000000000∧-1000000000≤j∧j≤1000000000) (.ok (ints3 i ((j-i+2) / 3).toNat)):=rfl
theorem byD_ok {x y z:D} {ds:List D} (h:byD x y z=.ok ds):∃ i j,x=.int i∧y=.int j∧z=.int 3∧-1000000000≤i∧i≤1000000000∧-1000000000≤j∧j≤1000000000∧ds=ints3 i ((j-i+2) / 3).toNat:=by
 unfold byD at h
 split at h
 ·obtain ⟨⟨rfl,h1,h2,h3,h4⟩,e⟩:=guard_ok h
  cases e
  exact ⟨_,_,rfl,rfl,rfl,h1,h2,h3,h4,rfl⟩
 ·cases h
def iRng3 (a b c:EF) (ρ:Env):Res (List D):=(a ρ).bind fun x=>(b ρ).bind fun y=>(c ρ).bind fun z=>byD x y z
@[simp] theorem iRng3_a (a b c:EF) (ρ:Env):iRng3 a b c ρ=(a ρ).bind fun x=>(b ρ).bind fun y=>(c ρ).bind fun z=>byD x y z:=rfl
end Z
end
namespace ZS
open PySem PySem.Spec PyProof.Rows L2 PySem.W
theorem mk_inj {a b:List Nat}:((⟨a.toArray⟩:Str)=⟨b.toArray⟩)↔a=b:=⟨fun h=>by
 have h1:a.toArray=b.toArray:=congrArg Str.cps h
 simpa using h1,fun h=>by rw [h]⟩
theorem key_inj {a b:List Nat}:((Sum.inr ⟨a.toArray⟩:Key)=Sum.inr ⟨b.toArray⟩)↔a=b:=⟨fun h=>mk_inj.mp (Sum.inr.inj h),fun h=>by rw [h]⟩
theorem kvT_any (kvs:List (List Nat×List Nat)) (k:List Nat):((kvT kvs).any fun kv=>decide (kv.1=Sum.inr ⟨k.toArray⟩))=kvs.any fun kv=>decide (kv.1=k):=by
 induction kvs with
 | nil=>rfl
 | cons x r ih =>
  show (decide ((Sum.inr ⟨x.1.toArray⟩:Key)=Sum.inr ⟨k.toArray⟩) || (kvT r).any _)=_
  rw [ih,List.any_cons]
  congr 1
  exact decide_eq_decide.mpr key_inj
theorem kvT_put (kvs:List (List Nat×List Nat)) (k v:List Nat):kvT (Z.putT kvs k v)=putK (kvT kvs) (Sum.inr ⟨k.toArray⟩) (.str ⟨v.toArray⟩):=by
 unfold Z.putT putK
 rw [kvT_any]
 split
 ·unfold kvT
  rw [List.map_map,List.map_map]
  refine List.map_congr_left fun x _=>?_
  show (_:Key×V)=if (Sum.inr ⟨x.1.toArray⟩:Key)=Sum.inr ⟨k.toArray⟩ then _ else _
  by_cases h:x.1=k
  ·rw [if_pos (key_inj.mpr h)]
   show ((Sum.inr ⟨(if x.1=k then (x.1,v) else x).1.toArray⟩:Key),V.str ⟨(if x.1=k then (x.1,v) else x).2.toArray⟩)=_
   rw [if_pos h]
  ·rw [if_neg (fun z=>h (key_inj.mp z))]
   show ((Sum.inr ⟨(if x.1=k then (x.1,v) else x).1.toArray⟩:Key),V.str ⟨(if x.1=k then (x.1,v) else x).2.toArray⟩)=_
   rw [if_neg h]
 ·unfold kvT
  rw [List.map_append]
  rfl
theorem kvT_val (kvs:List (List Nat×List Nat)) (k:List Nat):valV (kvT kvs) (Sum.inr ⟨k.toArray⟩)=(Z.valT kvs k).map fun v=>V.str ⟨v.toArray⟩:=by
 induction kvs with
 | nil=>rfl
 | cons x r ih =>
  by_cases h:x.1=k
  ·rw [show kvT (x :: r)=(Sum.inr ⟨x.1.toArray⟩,V.str ⟨x.2.toArray⟩) :: kvT r from rfl,valV_pos (key_inj.mpr h)]
   unfold Z.valT
   rw [List.find?_cons,decide_eq_true h]
   rfl
  ·rw [show kvT (x :: r)=(Sum.inr ⟨x.1.toArray⟩,V.str ⟨x.2.toArray⟩) :: kvT r from rfl,valV_neg (fun z=>h (key_inj.mp z)),ih]
   unfold Z.valT
   rw [List.find?_cons,decide_eq_false h]
section
variable {X:Cx} {a b:Expr} {pos p p2:Pos} {fa fb:Z.EF} {H0:Hp}
def cT (kvs:List (List Nat×List Nat)):List (TE×TE):=kvs.map fun p=>(tC (.str ⟨p.1.toArray⟩),tC (.str ⟨p.2.toArray⟩))
theorem pairs_cT (kvs:List (List Nat×List Nat)) (σ:St) (H:Hp) (Q:List (V×V)→Hp→Prop) (h:Q (kvs.map fun p=>(V.str ⟨p.1.toArray⟩,V.str ⟨p.2.toArray⟩)) H):tPairs (cT kvs) σ H Q:=by
 induction kvs generalizing Q with
 | nil=>exact h
 | cons x r ih=>exact ih _ h
def ConstT (X:Cx) (pos:Pos) (ks:List (Option Expr)) (vs:List Expr) (kvs:List (List Nat×List Nat)):Prop:=PPs X pos ks vs (cT kvs)
theorem ct_nil:ConstT X pos [] [] []:=pps_nil
theorem ct_cons {ks:List (Option Expr)} {vs:List Expr} {kvs:List (List Nat×List Nat)} {x y:Str} {j j':Nat} {q q':Pos} {k v:List Nat} (hx:x=⟨k.toArray⟩) (hy:y=⟨v.toArray⟩) (h:ConstT X pos ks vs kvs) :
  ConstT X pos (some (.Constant (.str x) j q) :: ks) (.Constant (.str y) j' q' :: vs) ((k,v) :: kvs):=by
 subst hx hy
 exact pps_cons pe_str pe_str h
theorem ds_td {i:Nat} {x:Str} {pos':Pos} {ks:List (Option Expr)} {vs:List Expr} {kvs:List (List Nat×List Nat)} (hN:X.N.Nodup) (hi:X.N[i]?=some x) (hx:Loc X.env.scope x) (hc:ConstT X p ks vs kvs)
  (hm:mergeK [] (kvT kvs)=kvT kvs) (hl15:kvs.length≤15)
  (hall:ks.all (·.isSome)=true:=by rfl) (hl:ks.length=vs.length:=by rfl) (h0:ks≠[]:=by exact List.cons_ne_nil _ _) (h15:ks.length≤15:=by exact Nat.le_of_ble_eq_true rfl)
  (hs:swapsWith (.Dict ks vs p) (some (.Name x pos')) pos.line X.env=pure false:=by rfl) (hf:X.fn x=true∨X.env.scope.names.lookup x=some .local:=by first | exact .inl rfl | exact .inr rfl | assumption) :
  DS X H0 (.Assign [.Name x pos'] (.Dict ks vs p) pos) (Z.sTD i kvs):=PS.imp (ps_set hN hi hx (pe_disp hc hall hl h0 h15) hs hf) fun D σ H ⟨ρ,fl,rs,e,k⟩=>by
 cases e
 intro q hq
 refine pairs_cT kvs σ _ _ ?_
 refine ⟨upd_same,kvT kvs,?_,by unfold kvT;rw [List.length_map];exact hl15,?_⟩
 ·unfold kvT
  rw [List.map_map]
  rfl
 ·rw [hm,upd_upd]
  exact k _ _ (stb (upd_Same hq)) (rs.setG (kd:=.inr kvs) (as:=[]) hq (upd_Same hq) upd_same True.intro)
theorem ds_tput (hu:X.A.units+64 < cLine) {i:Nat} {o kx vx:Expr} {p1:Pos} {fk fv:Z.EF} (ho:PE X o (tVar i)) (hk:DE X kx fk) (hv:DE X vx fv) (hs:swapsWith vx (some (.Subscript o kx p1)) pos.line X.env=pure false:=by rfl) :
  DS X H0 (.Assign [.Subscript o kx p1] vx pos) (Z.sTPut i fk fv):=PS.imp (ps_dput (by lia) ho hk hv hs) fun D σ H ⟨ρ,fl,rs,e,k⟩=>by
 obtain ⟨dv,ev,e⟩:=Z.Res.bind_ok e
 obtain ⟨dk,ek,e⟩:=Z.Res.bind_ok e
 obtain ⟨k',v',kvs,rfl,rfl,eo,hl,rfl⟩:=Z.tputK_ok e
 refine ⟨ρ,_,rs.re,ev,fun v H1 s1 d1=>?_⟩
 have d1':v=V.str (mkS v'):=by
  simp only [Den] at d1
  exact d1
 subst d1'
 obtain ⟨w,si,q,as,rfl,hq,_⟩:=rs.re.get i _ eo
 refine ⟨_,si,ρ,_,rs.re.up s1,ek,fun u H2 s2 d2=>?_⟩
 have d2':u=V.str (mkS k'):=by
  simp only [Den] at d2
  exact d2
 subst d2'
 have hq0:H q=some (.dK (kvT kvs)):=hq
 have hq2:H2 q=some (.dK (kvT kvs)):=s2 _ _ (s1 _ _ hq0)
 have s12:=s1.trans s2
 refine ⟨q,_,rfl,DPut.k (k:=Sum.inr (mkS k')) hq2 (by unfold kvT;rw [List.length_map,sizeLine_eq];exact hl),?_⟩
 rw [show putK (kvT kvs) (Sum.inr (mkS k')) (V.str (mkS v'))=kvT (Z.putT kvs k' v') from (kvT_put kvs k' v').symm]
 have st:Stb H2 (upd H2 q (.dK (kvT (Z.putT kvs k' v')))):=stb_upd hq2 (fun _ z=>nomatch z) (fun _ _ z=>nomatch z)
 exact k σ _ ((stb s12).trans st) ((rs.up s12).upq (ks:=.inr kvs) (as:=[]) eo si hq2 (l:=.tdc _) ⟨q,[],rfl,upd_same,True.intro⟩ (fun _ z=>nomatch z) (fun _ z=>nomatch z))
theorem de_tget (hu:X.A.units+64 < cLine) {i:Nat} {o kx:Expr} {fk:Z.EF} (ho:PE X o (tVar i)) (hk:DE X kx fk) (hs:NoSl kx:=by intro _ _;rfl) :
  DE X (.Subscript o kx pos) (Z.eTGet i fk):=PE.imp (pe_dget (by lia) ho hk hs) fun σ H Q ⟨ρ,d,r,e,k⟩=>by
 obtain ⟨dk,ek,e⟩:=Z.Res.bind_ok e
 obtain ⟨k',kvs,v,rfl,eo,hv,rfl⟩:=Z.tgetK_ok e
 obtain ⟨w,si,q,as,rfl,hq,_⟩:=r.get i _ eo
 refine ⟨_,si,ρ,_,r,ek,fun u H2 s2 d2=>?_⟩
 have d2':u=V.str (mkS k'):=by
  simp only [Den] at d2
  exact d2
 subst d2'
 have hq0:H q=some (.dK (kvT kvs)):=hq
 have hq2:H2 q=some (.dK (kvT kvs)):=s2 _ _ hq0
 refine ⟨q,V.str (mkS v),rfl,?_,k _ _ s2 den_str⟩
 have g:=DGet.k (k:=Sum.inr (mkS k')) hq2
 have e2:valV (kvT kvs) (Sum.inr (mkS k'))=some (V.str (mkS v)):=by
  have:=kvT_val kvs k'
  rw [hv] at this
  exact this
 rw [e2] at g
 exact g
theorem de_globS {x:Str} {cs:List Nat} {t:Tok} (hg:Gl X x) (hm:X.mg x=some (.str ⟨cs.toArray⟩ t)) (hb:(x==("__debug__" : Str))=false:=by decide +kernel):DE X (.Name x pos) (Z.eC (.str cs)):=de_c (pe_glob (v:=.str ⟨cs.toArray⟩) hg hm ⟨t,rfl⟩ hb) fun _=>den_str
theorem dec_str (n:Nat):Str.ofString (toString ((n:Nat):Int))=mkS (Z.decC n):=by
 have h:=KIN.signs_num n
 have:(Str.ofString (toString ((n:Nat):Int)))=⟨(Str.ofString (toString ((n:Nat):Int))).cps⟩:=rfl
 rw [this]
 show (⟨_⟩:Str)=⟨(Z.decC n).toArray⟩
 unfold Z.decC
 rw [←h]
theorem log_lt {n:Nat} (h:(n:Int) < 10 ^ 70):((n:Nat):Int).natAbs.log2 < 1920:=by
 rw [Int.natAbs_natCast]
 have h1:n < 2 ^ 1920:=by
  have:n < 10 ^ 70:=by exact_mod_cast h
  exact Nat.lt_trans this (Nat.lt_of_lt_of_le (show 10 ^ 70 < 2 ^ 256 by decide) (Nat.pow_le_pow_right (by decide) (by decide)))
 by_cases h0:n=0
 ·subst h0;decide
 ·exact (Nat.log2_lt h0).mpr h1
theorem call_str1:CallR X (.type "str") (fun xs H Q=>∃ n:Nat,xs=[.int n]∧(n:Int) < 10 ^ 70∧Q (.str (mkS (Z.decC n))) H):=by
 intro pins s σ H xs us Q I r h
 obtain ⟨n,rfl,hn,q⟩:=h
 obtain ⟨u,rfl,ru⟩:=r.one
 obtain ⟨t,rfl⟩:=ru
 refine PySem.P.str_of_int (log_lt hn) ?_
 refine ⟨.str (mkS (Z.decC n)),H,I.tok _,⟨s.toks,?_⟩,q⟩
 rw [←dec_str]
theorem de_str1 {x:Str} {p1:Pos} (hg:Gl X x) (hm:X.mg x=none) (hv:bootBuiltins x=some (.type "str")) (ha:DW X a fa) (hn:x ≠ "__name__" := by decide +kernel) (hdb:(x==("__debug__" : Str))=false:=by decide +kernel)
  (he:starEach (a :: []) X.env=(false,eval a X.env) :: starEach [] X.env:=by rfl) (hpl:(backTo pos (starEach [] X.env)).any (·.1)=false:=by rfl):DE X (.Call (.Name x p1) [a] [] pos) (Z.eU Z.oStr fa) :=
 PE.imp (pe_callTy call_str1 hg hm hv (pa_cons ha pa_nil he) hn hdb he hpl) fun σ H Q ⟨ρ,d,r,e,k⟩=>by
  obtain ⟨x,ea,e⟩:=Z.Res.bind_ok e
  obtain ⟨n,rfl,hl,rfl⟩:=Z.oStr_ok e
  refine ⟨ρ,_,r,ea,fun v H1 s1 d1=>?_⟩
  exact ⟨n,by rw [d1.int],hl,k _ H1 s1 den_str⟩
theorem call_intT:CallR X (.type "int") (fun xs H Q=>∃ cs,xs=[.str (mkS cs)]∧cs≠[]∧cs.length≤640∧(∀ c∈cs,48≤c∧c≤57)∧Q (.int (Z.valC cs)) H):=by
 intro pins s σ H xs us Q I r h
 obtain ⟨cs,rfl,h0,hl,hd,q⟩:=h
 obtain ⟨u,rfl,ru⟩:=r.one
 obtain ⟨t,rfl⟩:=ru
 have e:(mkS cs).cps.toList=cs:=by show cs.toArray.toList=cs;simp
 have hl':(mkS cs).length≤640:=by rw [mkS_len];exact hl
 have hi:=PySem.intText_digits (x:=mkS cs) (by rw [e];exact hd) (by rw [e];exact h0) (Nat.le_trans hl' (by decide))
 refine KIN.call_text hi hl' ?_
 refine ⟨.int (Z.valC cs),H,I.tok _,⟨s.toks,?_⟩,q⟩
 rw [e]
 rfl
theorem de_intT {x:Str} {p1:Pos} (hg:Gl X x) (hm:X.mg x=none) (hv:bootBuiltins x=some (.type "int")) (ha:DW X a fa) (hn:x ≠ "__name__" := by decide +kernel) (hdb:(x==("__debug__" : Str))=false:=by decide +kernel)
  (he:starEach (a :: []) X.env=(false,eval a X.env) :: starEach [] X.env:=by rfl) (hpl:(backTo pos (starEach [] X.env)).any (·.1)=false:=by rfl):DE X (.Call (.Name x p1) [a] [] pos) (Z.eU Z.oIntT fa) :=
 PE.imp (pe_callTy call_intT hg hm hv (pa_cons ha pa_nil he) hn hdb he hpl) fun σ H Q ⟨ρ,d,r,e,k⟩=>by
  obtain ⟨x,ea,e⟩:=Z.Res.bind_ok e
  obtain ⟨cs,rfl,h0,hl,hd,rfl⟩:=Z.oIntT_ok e
  refine ⟨ρ,_,r,ea,fun v H1 s1 d1=>?_⟩
  have d1':=d1.str
  subst d1'
  exact ⟨cs,rfl,h0,hl,hd,k _ H1 s1 den_int⟩
end
def It3 (lo:Int) (n:Nat):It:=⟨fun i _=>i < n,fun i H x H'=>H'=H∧x=.int (lo+(i:Nat)*3),fun i _=>n≤i⟩
theorem turn_by3 {P:Program} {w:World} {K:PySem.W.Frag} {tg:Expr} (it:Addr) (lo:Int) (n:Nat):Turn P w K tg (It3 lo n) [it] it (fun i h=>IsRangeIter h it (lo+(i:Nat)*3) ((n:Int)-(i:Nat)) 3) where
 mem:=by simp
 obj:=fun i h st b hb=>by
  have e:b=it:=by simpa using hb
  subst e
  exact ⟨_,st,fun v z=>by
   have z':Data.fields _=Data.cell v:=z
   cases z'⟩
 keep:=fun i h h' st k=>k it (by simp) _ st
 item:=by
  intro X hP hw hK hc i pins s σ H E I hf st hg
  subst hP hw hK
  obtain ⟨f0,f1,f2,f3,f4,f5⟩:=hf it (by simp)
  have W:=Walks.range (prog:=X.prog) (w:=X.w) (I.ok.hd hc) it lo 3 n
  refine W.item i s _ _ hg st fun v h' tk hv st' kk=>?_
  obtain ⟨t,rfl⟩:=hv
  have I1:Inv X pins σ H { s with heap:=h',toks:=tk }:=I.turned (fun b o hb e=>kk b o (by simpa using hb) e) f0 f1 f3 f4 f5
  exact ⟨_,rfl,go_of (s:={ s with heap:=h',toks:=tk }) (n := "range_iterator") st' rfl rfl (by decide) ⟨.int (lo+(i:Nat)*3),H,I1,⟨t,rfl⟩,⟨rfl,rfl⟩,st',fun b hb=>(hf b hb).1⟩⟩
 done:=by
  intro X hP hw hK hc i pins s σ H E I hf st hg
  subst hP hw hK
  obtain ⟨f0,f1,f2,f3,f4,f5⟩:=hf it (by simp)
  exact wpAny_pyNext_range_end (I.ok.hd hc) st (by have:n≤i:=hg;lia) fun h' eb=>⟨rfl,I.turned (t':=s.toks) (fun b o hb e=>eb b o hb e) f0 f1 f3 f4 f5⟩
 self:=fun _ _ _ _ _ st h=>wpAny_pyIter_rangeiter st h
theorem size_by3 (a b:Int):Builtin.Range.rangeSize a b 3=(((b-a+2) / 3).toNat:Int):=by
 unfold Builtin.Range.rangeSize
 rw [if_pos (by decide)]
 split
 ·lia
 ·lia
theorem small_by3 {a b:Int} (h1:-1000000000≤a) (h2:a≤1000000000) (h3:-1000000000≤b) (h4:b≤1000000000):Builtin.Range.small a b 3=true:=by
 unfold Builtin.Range.small
 rw [size_by3]
 simp only [Builtin.Range.rangeFitsLong,Bool.and_eq_true,Bool.or_eq_true,decide_eq_true_eq,beq_iff_eq,show (3:Int) > 0 by decide,if_true]
 try simp
 try lia
section
variable {X:Cx} {tg:Expr}
theorem range_by3 {pins:List (Addr×Obj)} {σ:St} {H:Hp} {s:Shared} {R:It→Hp→Prop} {E:Value→Shared→Prop} {lo hi:Int} {t u v:Tok} {tk:Nat} (I:Inv X pins σ H s) (h1:-1000000000≤lo) (h2:lo≤1000000000) (h3:-1000000000≤hi) (h4:hi≤1000000000)
  (q:R (It3 lo ((hi-lo+2) / 3).toNat) H):wpAny (model X.prog X.w) X.A (pyIter (.ref s.heap.objs.size)) (PIE X pins σ tg R) E { s with heap:=s.heap.push { cls:=.type "range",data:=.fields #[.int lo t,.int hi u,.int 3 v] },toks:=tk }:=by
 refine wpAny_pyIter_range (IsRange.new ..) (small_by3 h1 h2 h3 h4) ?_
 have I1:Inv X pins σ H { s with heap:=s.heap.push { cls:=.type "range",data:=.fields #[.int lo t,.int hi u,.int 3 v] },toks:=tk }:=I.kept fun b o e=>Heap.get?_push_of_some _ e
 refine ⟨(s.heap.push { cls:=.type "range",data:=.fields #[.int lo t,.int hi u,.int 3 v] }).objs.size,[(s.heap.push { cls:=.type "range",data:=.fields #[.int lo t,.int hi u,.int 3 v] }).objs.size],_,_,H,rfl,
  I1.kept (t':=tk) fun b o e=>Heap.get?_push_of_some _ e,turn_by3 _ lo ((hi-lo+2) / 3).toNat,?_,fun b hb=>?_,q⟩
 ·have e1:lo+((0:Nat):Int)*3=lo:=by simp
  have e2:((((hi-lo+2) / 3).toNat:Nat):Int)-((0:Nat):Int)=Builtin.Range.rangeSize lo hi 3:=by rw [size_by3];simp
  show IsRangeIter _ _ (lo+((0:Nat):Int)*3) (((((hi-lo+2) / 3).toNat:Nat):Int)-((0:Nat):Int)) 3
  rw [e1,e2]
  exact Heap.get?_push_size _ rfl
 ·have e:b=(s.heap.push { cls:=.type "range",data:=.fields #[.int lo t,.int hi u,.int 3 v] }).objs.size:=by simpa using hb
  subst e
  exact I1.fpOk (Nat.le_refl _) (I1.hok.fresh (Nat.le_refl _))
def aRng3 (ta:TA):TI:=fun σ H R=>ta σ H fun vs H1=>∃ i j:Int,vs=[.int i,.int j,.int 3]∧(-1000000000≤i∧i≤1000000000∧-1000000000≤j∧j≤1000000000)∧R (It3 i ((j-i+2) / 3).toNat) H1
theorem pi_by3 {a b c : Expr} {ta : TA} {p pos : Pos} (hg : Gl X "range") (hm : X.mg "range" = none) (ha : PA X [a, b, c] ta) (hs : starEach [a, b, c] X.env = [(false, eval a X.env), (false, eval b X.env), (false, eval c X.env)] := by rfl) (hs2 : starEach [b, c] X.env = [(false, eval b X.env), (false, eval c X.env)] := by rfl) :
  PI X tg (.Call (.Name "range" p) [a,b,c] [] pos) (aRng3 ta):=by
 intro pins s σ H R I h
 refine Call_ (ld_blt I hg hm boot_range (PyProof.Rows.callWith_type1 (thn (ha pos pins s σ H _ I h) fun us s1 ⟨vs,H1,I1,r1,q1⟩=>?_) (by rw [hs,hs2]) (by rw [hs2];rfl)))
 obtain ⟨i,j,e,⟨q1,q2,q3,q4⟩,q⟩:=q1
 subst e
 cases r1 with
 | cons r rr =>
  cases rr with
  | cons r' rr =>
   cases rr with
   | cons r'' rr =>
    cases rr
    obtain ⟨t,rfl⟩:=r
    obtain ⟨t',rfl⟩:=r'
    obtain ⟨t'',rfl⟩:=r''
    exact call_range_3 (by decide) (range_by3 I1 q1 q2 q3 q4 q)
theorem ints3_get (lo:Int) (n i:Nat) (d:Z.D) (h:(Z.ints3 lo n)[i]?=some d):i < n∧d=.int (lo+(i:Nat)*3):=by
 unfold Z.ints3 at h
 rw [List.getElem?_map] at h
 cases q:(List.range n)[i]? with
 | none=>rw [q] at h;cases h
 | some x =>
  rw [q] at h;cases h
  obtain ⟨h1,h2⟩:=List.getElem?_eq_some_iff.mp q
  rw [List.getElem_range] at h2
  subst h2
  exact ⟨by simpa using h1,rfl⟩
theorem itz_by3 {K:PySem.W.Frag} {S:Hp→Prop} (lo:Int) (n:Nat):ItZ K (It3 lo n) S (Z.ints3 lo n) where
 go:=fun i d H1 s hi=>(ints3_get lo n i d hi).1
 yld:=fun i d H1 H2 x s hi y=>by
  obtain ⟨e,y⟩:=y
  obtain ⟨_,rfl⟩:=ints3_get lo n i d hi
  subst e
  rw [y]
  exact ⟨Same.refl _,den_int⟩
 stop:=fun H1 s=>by
  show n≤(Z.ints3 lo n).length
  unfold Z.ints3
  rw [List.length_map,List.length_range]
  exact Nat.le_refl _
variable {a b c:Expr} {p pos:Pos} {fa fb fc:Z.EF}
theorem dj_by3 (hg:Gl X "range") (hm:X.mg "range" = none) (ha:DE X a fa) (hb:DE X b fb) (hc:DE X c fc) (hs:starEach [a,b,c] X.env=[(false,eval a X.env),(false,eval b X.env),(false,eval c X.env)]:=by rfl) (hs2:starEach [b,c] X.env=[(false,eval b X.env),(false,eval c X.env)]:=by rfl)
  (h1:starEach (a :: [b,c]) X.env=(false,eval a X.env) :: starEach [b,c] X.env:=by rfl) (h2:starEach (b :: [c]) X.env=(false,eval b X.env) :: starEach [c] X.env:=by rfl) (h3:starEach (c :: []) X.env=(false,eval c X.env) :: starEach [] X.env:=by rfl):DJ X tg (.Call (.Name "range" p) [a,b,c] [] pos) (Z.iRng3 fa fb fc) :=
 PI.imp (pi_by3 hg hm (pa_cons ha (pa_cons hb (pa_cons hc pa_nil h3) h2) h1) hs hs2) fun σ H R ⟨ρ,ds,r,e,k⟩=>by
  obtain ⟨x,ea,e⟩:=Z.Res.bind_ok e
  obtain ⟨y,eb,e⟩:=Z.Res.bind_ok e
  obtain ⟨z,ec,e⟩:=Z.Res.bind_ok e
  obtain ⟨i,j,rfl,rfl,rfl,b1,b2,b3,b4,rfl⟩:=Z.byD_ok e
  refine ⟨ρ,_,r,ea,fun v H1 s1 d1=>⟨ρ,_,r.up s1,eb,fun u H2 s2 d2=>⟨ρ,_,(r.up s1).up s2,ec,fun u3 H3 s3 d3=>?_⟩⟩⟩
  simp only [Den] at d1 d2 d3
  exact ⟨i,j,by rw [d1,d2,d3],⟨b1,b2,b3,b4⟩,k _ H3 ((s1.trans s2).trans s3) (itz_by3 i ((j-i+2) / 3).toNat)⟩
end
end ZS
namespace ZQ
open PySem PySem.Spec PyProof.Rows L2 ZS PySem.W
section
variable {X:Cx} {tg a b c:Expr} {pos p p2:Pos} {fa fb fc:Z.EF} {H0:Hp}
theorem dj_by3 (hg:Gl X "range") (hm:X.mg "range" = none) (ha:QE X a fa) (hb:QE X b fb) (hc:QE X c fc) (hs:starEach [a,b,c] X.env=[(false,eval a X.env),(false,eval b X.env),(false,eval c X.env)]:=by rfl) (hs2:starEach [b,c] X.env=[(false,eval b X.env),(false,eval c X.env)]:=by rfl)
  (h1:starEach (a :: [b,c]) X.env=(false,eval a X.env) :: starEach [b,c] X.env:=by rfl) (h2:starEach (b :: [c]) X.env=(false,eval b X.env) :: starEach [c] X.env:=by rfl) (h3:starEach (c :: []) X.env=(false,eval c X.env) :: starEach [] X.env:=by rfl):QJ X tg (.Call (.Name "range" p) [a,b,c] [] pos) (Z.iRng3 fa fb fc):=⟨ZS.dj_by3 hg hm ha.p hb.p hc.p hs hs2 h1 h2 h3⟩
theorem de_globS {x:Str} {cs:List Nat} {t:Tok} (hg:Gl X x) (hm:X.mg x=some (.str ⟨cs.toArray⟩ t)) (hb:(x==("__debug__" : Str))=false:=by decide +kernel):QE X (.Name x pos) (Z.eC (.str cs)):=⟨ZS.de_globS hg hm hb⟩
theorem ds_td {i:Nat} {x:Str} {pos':Pos} {ks:List (Option Expr)} {vs:List Expr} {kvs:List (List Nat×List Nat)} (hN:X.N.Nodup) (hi:X.N[i]?=some x) (hx:Loc X.env.scope x) (hc:ConstT X p ks vs kvs)
  (hm:mergeK [] (kvT kvs)=kvT kvs) (hl15:kvs.length≤15)
  (hall:ks.all (·.isSome)=true:=by rfl) (hl:ks.length=vs.length:=by rfl) (h0:ks≠[]:=by exact List.cons_ne_nil _ _) (h15:ks.length≤15:=by exact Nat.le_of_ble_eq_true rfl)
  (hs:swapsWith (.Dict ks vs p) (some (.Name x pos')) pos.line X.env=pure false:=by rfl) (hf:X.fn x=true∨X.env.scope.names.lookup x=some .local:=by first | exact .inl rfl | exact .inr rfl | assumption) :
  QS X H0 (.Assign [.Name x pos'] (.Dict ks vs p) pos) (Z.sTD i kvs):=⟨ZS.ds_td hN hi hx hc hm hl15 hall hl h0 h15 hs hf⟩
theorem ds_tput (hu:X.A.units+64 < cLine) {i:Nat} {o kx vx:Expr} {p1:Pos} {fk fv:Z.EF} (ho:PE X o (tVar i)) (hk:QE X kx fk) (hv:QE X vx fv) (hs:swapsWith vx (some (.Subscript o kx p1)) pos.line X.env=pure false:=by rfl) :
  QS X H0 (.Assign [.Subscript o kx p1] vx pos) (Z.sTPut i fk fv):=⟨ZS.ds_tput hu ho hk.p hv.p hs⟩
theorem de_tget (hu:X.A.units+64 < cLine) {i:Nat} {o kx:Expr} {fk:Z.EF} (ho:PE X o (tVar i)) (hk:QE X kx fk) (hs:NoSl kx:=by intro _ _;rfl) :
  QE X (.Subscript o kx pos) (Z.eTGet i fk):=⟨ZS.de_tget hu ho hk.p hs⟩
theorem de_str1 {x:Str} {p1:Pos} (hg:Gl X x) (hm:X.mg x=none) (hv:bootBuiltins x=some (.type "str")) (ha:QW X a fa) (hn:x ≠ "__name__" := by decide +kernel) (hdb:(x==("__debug__" : Str))=false:=by decide +kernel)
  (he:starEach (a :: []) X.env=(false,eval a X.env) :: starEach [] X.env:=by rfl) (hpl:(backTo pos (starEach [] X.env)).any (·.1)=false:=by rfl):QE X (.Call (.Name x p1) [a] [] pos) (Z.eU Z.oStr fa):=⟨ZS.de_str1 hg hm hv ha.p hn hdb he hpl⟩
theorem de_intT {x:Str} {p1:Pos} (hg:Gl X x) (hm:X.mg x=none) (hv:bootBuiltins x=some (.type "int")) (ha:QW X a fa) (hn:x ≠ "__name__" := by decide +kernel) (hdb:(x==("__debug__" : Str))=false:=by decide +kernel)
  (he:starEach (a :: []) X.env=(false,eval a X.env) :: starEach [] X.env:=by rfl) (hpl:(backTo pos (starEach [] X.env)).any (·.1)=false:=by rfl):QE X (.Call (.Name x p1) [a] [] pos) (Z.eU Z.oIntT fa):=⟨ZS.de_intT hg hm hv ha.p hn hdb he hpl⟩
end
end ZQ
namespace ZS
open PySem
def Ris (xs:Array Nat):Prop:=∀ i k:Nat,i < k→k < xs.size→xs.getD i 0 < xs.getD k 0
theorem getD_any {xs:Array Nat} {i:Nat} (h:i < xs.size) (a b:Nat):xs.getD i a=xs.getD i b:=by simp [Array.getD,h]
theorem below_go {xs : Array Nat} (hr : Ris xs) (j : Nat) : ∀ (fuel lo hi : Nat), hi - lo ≤ fuel → lo ≤ hi → hi ≤ xs.size → (∀ i, i < lo → xs.getD i 0 < j) → (∀ i, hi ≤ i → i < xs.size → j ≤ xs.getD i 0) →
  (∀ i,i < SetTable.below.go xs j fuel lo hi→xs.getD i 0 < j)∧(∀ i,SetTable.below.go xs j fuel lo hi≤i→i < xs.size→j≤xs.getD i 0)∧SetTable.below.go xs j fuel lo hi≤xs.size
 | 0,lo,hi,h1,h2,h3,h4,h5=>by
  unfold SetTable.below.go
  have:lo=hi:=by lia
  subst this
  exact ⟨h4,h5,h3⟩
 | fuel+1,lo,hi,h1,h2,h3,h4,h5=>by
  unfold SetTable.below.go
  split
  ·rename_i hlt
   have hm:(lo+hi) / 2 < xs.size:=by lia
   have hm1:lo≤(lo+hi) / 2:=by lia
   have hm2:(lo+hi) / 2 < hi:=by lia
   dsimp only
   by_cases hd:xs.getD ((lo+hi) / 2) j < j
   ·rw [if_pos hd]
    rw [getD_any hm j 0] at hd
    refine below_go hr j fuel ((lo+hi) / 2+1) hi (by lia) (by lia) h3 (fun i hi'=>?_) h5
    by_cases e:i=(lo+hi) / 2
    ·rw [e];exact hd
    ·exact Nat.lt_trans (hr i ((lo+hi) / 2) (by lia) hm) hd
   ·rw [if_neg hd]
    rw [getD_any hm j 0] at hd
    refine below_go hr j fuel lo ((lo+hi) / 2) (by lia) (by lia) (by lia) h4 (fun i hi' hs=>?_)
    by_cases e:i=(lo+hi) / 2
    ·rw [e];lia
    ·have:=hr ((lo+hi) / 2) i (by lia) hs
     lia
  ·rename_i hlt
   have:lo=hi:=by lia
   subst this
   exact ⟨h4,h5,h3⟩
theorem below_spec {xs:Array Nat} (hr:Ris xs) (j:Nat):(∀ i,i < SetTable.below xs j→xs.getD i 0 < j)∧(∀ i,SetTable.below xs j≤i→i < xs.size→j≤xs.getD i 0)∧SetTable.below xs j≤xs.size :=
 below_go hr j xs.size 0 xs.size (by lia) (by lia) (Nat.le_refl _) (fun i h=>by lia) (fun i h h2=>by lia)
theorem below_zero {xs:Array Nat} (hr:Ris xs):SetTable.below xs 0=0:=by
 obtain ⟨h1,_,_⟩:=below_spec hr 0
 by_cases h:SetTable.below xs 0=0
 ·exact h
 ·have:=h1 0 (by lia);lia
theorem below_next {xs:Array Nat} (hr:Ris xs) {i:Nat} (hi:i < xs.size):SetTable.below xs (xs.getD i 0+1)=i+1:=by
 obtain ⟨h1,h2,h3⟩:=below_spec hr (xs.getD i 0+1)
 rcases Nat.lt_trichotomy (SetTable.below xs (xs.getD i 0+1)) (i+1) with h | h | h
 ·have:=h2 i (by lia) hi
  lia
 ·exact h
 ·have:=h1 (i+1) h
  have:=hr i (i+1) (by lia) (by lia)
  lia
theorem ris_put {xs : Array Nat} (hr : Ris xs) {j : Nat} (hn : xs[SetTable.below xs j]? ≠ some j) : Ris (SetTable.insertAt xs (SetTable.below xs j) j) := by
 obtain ⟨h1,h2,h3⟩:=below_spec hr j
 generalize SetTable.below xs j=p at h1 h2 h3 hn
 have hl:(SetTable.insertAt xs p j).toList=xs.toList.take p++j :: xs.toList.drop p:=SetTable.toList_insertAt xs p j
 have hsz:(SetTable.insertAt xs p j).size=xs.size+1:=by
  rw [←Array.length_toList,hl]
  simp
  lia
 have hget:∀ i,i < xs.size+1→(SetTable.insertAt xs p j).getD i 0=if i < p then xs.getD i 0 else if i=p then j else xs.getD (i-1) 0:=by
  intro i hi
  have e:(SetTable.insertAt xs p j).getD i 0=((SetTable.insertAt xs p j).toList[i]?).getD 0:=by
   rw [Array.getElem?_toList,Array.getD_eq_getD_getElem?]
  have ex:∀ k,xs.getD k 0=(xs.toList[k]?).getD 0:=fun k=>by rw [Array.getElem?_toList,Array.getD_eq_getD_getElem?]
  rw [e,hl]
  have hlen:(xs.toList.take p).length=p:=by simp;lia
  split
  ·rename_i h
   rw [List.getElem?_append_left (by lia),List.getElem?_take,if_pos h,ex]
  ·split
   ·rename_i h
    subst h
    rw [List.getElem?_append_right (by lia),hlen]
    simp
   ·rename_i h h'
    rw [List.getElem?_append_right (by lia),hlen]
    obtain ⟨m,rfl⟩:∃ m,i=p+(m+1):=⟨i-p-1,by lia⟩
    rw [show p+(m+1)-p=m+1 by lia,List.getElem?_cons_succ,List.getElem?_drop,ex,show p+(m+1)-1=p+m by lia]
 have hp:p < xs.size→j < xs.getD p 0:=fun h=>by
  have:=h2 p (Nat.le_refl _) h
  rcases Nat.lt_or_eq_of_le this with h' | h'
  ·exact h'
  ·exfalso
   apply hn
   rw [Array.getElem?_eq_getElem h]
   rw [Array.getD,dif_pos h] at h'
   rw [h']
   rfl
 intro i k hik hk
 rw [hsz] at hk
 rw [hget i (by lia),hget k hk]
 by_cases a:i < p
 ·rw [if_pos a]
  by_cases b:k < p
  ·rw [if_pos b];exact hr i k hik (by lia)
  ·rw [if_neg b]
   by_cases c:k=p
   ·rw [if_pos c];exact h1 i a
   ·rw [if_neg c]
    by_cases d:i < k-1
    ·exact hr i (k-1) d (by lia)
    ·lia
 ·rw [if_neg a]
  have b:¬ k < p:=by lia
  rw [if_neg b]
  by_cases c:i=p
  ·rw [if_pos c,if_neg (by lia)]
   have hps:p < xs.size:=by lia
   have h0:=hp hps
   by_cases d:p=k-1
   ·rw [←d];exact h0
   ·exact Nat.lt_trans h0 (hr p (k-1) (by lia) (by lia))
  ·rw [if_neg c,if_neg (by lia)]
   exact hr (i-1) (k-1) (by lia) (by lia)
structure WOk (t:SetTable) (led:Bool):Prop where
 r:Ris t.place
 d:t.dummies=#[]
 l:t.led=led
theorem wok_fresh (a b:Nat) (led:Bool):WOk (.fresh a b led) led:=⟨fun i k h1 h2=>by simp [SetTable.fresh] at h2,rfl,rfl⟩
theorem ris_range (n:Nat):Ris (Array.range n):=fun i k h1 h2=>by
 have h2':k < n:=by simpa using h2
 simp [Array.getD,h2',Nat.lt_trans h1 h2']
 exact h1
theorem wok_standIn {t:SetTable} {led:Bool} (h:WOk t led) (n:Nat):WOk (t.standIn n) led:=⟨ris_range n,rfl,h.l⟩
theorem wok_orStandIn {t:SetTable} {led:Bool} (h:WOk t led) (n:Nat):WOk (t.orStandIn n) led:=by
 unfold SetTable.orStandIn
 split
 ·exact h
 ·exact wok_standIn h n
theorem probe_go {t : SetTable} (hd : t.dummies = #[]) (f : Nat → Int) (h : Int) : ∀ (fuel : Nat) (p : SetTable.Probe) (j : Nat) (dm : Option Nat), p.dummy = none → SetTable.probe.go t f h fuel p = some (.empty j dm) → dm = none ∧ t.place[SetTable.below t.place j]? ≠ some j
 | 0,p,j,dm,_,e=>by cases e
 | fuel+1,p,j,dm,hp,e=>by
  unfold SetTable.probe.go at e
  have hno:SetTable.has t.dummies p.j=false:=by rw [hd];simp [SetTable.has]
  have hs:t.slot p.j=if t.place[SetTable.below t.place p.j]?==some p.j then .live (SetTable.below t.place p.j) else .empty:=by
   unfold SetTable.slot
   rw [hno]
   rfl
  rw [hs] at e
  by_cases hc:(t.place[SetTable.below t.place p.j]?==some p.j)=true
  ·rw [if_pos hc] at e
   dsimp only at e
   split at e
   ·cases e
   ·refine probe_go hd f h fuel _ j dm ?_ e
    unfold SetTable.advance
    split
    ·exact hp
    ·exact hp
  ·rw [if_neg hc] at e
   dsimp only at e
   have e':=Option.some.inj e
   injection e' with e1 e2
   subst e1 e2
   refine ⟨hp,fun z=>hc ?_⟩
   rw [z]
   simp
theorem free_ok {t:SetTable} {led:Bool} (h:WOk t led) {hh:Int} {slot:Nat} {w:Bool} (e:t.freeSlot hh=some (slot,w)):t.place[SetTable.below t.place slot]?≠some slot:=by
 unfold SetTable.freeSlot at e
 split at e
 ·rename_i j dm he
  obtain ⟨rfl,hn⟩:=probe_go h.d _ _ _ _ _ _ rfl he
  cases e
  exact hn
 ·cases e
theorem wok_put {t:SetTable} {led:Bool} (h:WOk t led) {j:Nat} (hn:t.place[SetTable.below t.place j]?≠some j):WOk (t.put j).1 led:=by
 refine ⟨ris_put h.r hn,?_,h.l⟩
 show (if SetTable.has t.dummies j then _ else t.dummies)=#[]
 rw [h.d]
 simp [SetTable.has]
theorem wok_layNew {t:SetTable} {led:Bool} (h:WOk t led) (es:Array (Int×Value)) (hh:Int) (x:Value):WOk (layNew t es hh x).2.1 led:=by
 unfold layNew
 split
 ·rename_i slot w e
  exact wok_orStandIn (wok_put h (free_ok h e)) _
 ·exact wok_standIn h _
theorem ris_live (n:Nat) (f:Nat→Option Nat):Ris ((((List.range n).filterMap fun j=>(f j).map (j,·)).map (·.1)).toArray):=by
 have hp:(((List.range n).filterMap fun j=>(f j).map (j,·)).map (·.1)).Pairwise (· < ·):=by
  rw [List.map_filterMap]
  rw [List.pairwise_filterMap]
  refine List.Pairwise.imp ?_ List.pairwise_lt_range
  intro a b hab x hx y hy
  simp at hx hy
  obtain ⟨_,_,rfl⟩:=hx
  obtain ⟨_,_,rfl⟩:=hy
  exact hab
 generalize (((List.range n).filterMap fun j=>(f j).map (j,·)).map (·.1))=l at hp
 intro i k hik hk
 have hk':k < l.length:=by simpa using hk
 have hi':i < l.length:=by lia
 have:=List.pairwise_iff_getElem.mp hp i k hi' hk' hik
 simpa [Array.getD,hi',hk'] using this
theorem wok_relay {t : SetTable} {led : Bool} (h : WOk t led) (es : Array (Int × Value)) (wanted : Nat) : WOk (relayAll t es wanted).2.1 led := by
 unfold relayAll
 split
 ·rename_i t' order e
  have ht':WOk t' led:=by
   unfold SetTable.relaid SetTable.laid at e
   simp only [bind,Option.bind] at e
   split at e
   ·cases e
   ·rename_i owner _
    cases e
    exact ⟨ris_live _ fun j=>owner.getD j none,rfl,h.l⟩
  dsimp only
  split
  ·exact ht'
  ·exact wok_standIn h _
 ·exact wok_standIn h _
end ZS
namespace ZS
open PySem
theorem nodup_le {α:Type} [DecidableEq α]:∀ (l l':List α),l.Nodup→(∀ x∈l,x∈l')→l.length≤l'.length
 | [],_,_,_=>Nat.zero_le _
 | x :: l,l',hn,hs=>by
  have hx:x∈l':=hs x List.mem_cons_self
  have hn':=List.nodup_cons.mp hn
  have:=nodup_le l (l'.erase x) hn'.2 fun y hy=>by
   have:y≠x:=fun e=>hn'.1 (e▸hy)
   exact (List.mem_erase_of_ne this).mpr (hs y (List.mem_cons_of_mem _ hy))
  rw [List.length_erase_of_mem hx] at this
  have h0:0 < l'.length:=List.length_pos_of_mem hx
  simp only [List.length_cons]
  lia
def jmp (m i:Nat):Nat:=(i*5+1) % m
def jmps (m:Nat):Nat→Nat→Nat
 | 0,i=>i
 | n+1,i=>jmps m n (jmp m i)
theorem jmps_all {m:Nat} (hm:m=8∨m=32):∀ i,i < m→∀ j,j < m→∃ n,n < m∧jmps m n i=j:=by
 have h8:∀ i:Nat,i < 8→∀ j,j < 8→∃ n,n < 8∧jmps 8 n i=j:=by decide +kernel
 have h32:∀ i:Nat,i < 32→∀ j,j < 32→∃ n,n < 32∧jmps 32 n i=j:=by decide +kernel
 rcases hm with rfl | rfl
 ·exact h8
 ·exact h32
theorem runEnd_le (mask i:Nat):SetTable.runEnd mask i-i≤9:=by
 unfold SetTable.runEnd
 split<;>lia
section
variable {t:SetTable} (hd:t.dummies=#[]) (h:Int)
include hd
theorem slot_of (j:Nat):t.slot j=if t.place[SetTable.below t.place j]?==some j then .live (SetTable.below t.place j) else .empty:=by
 have hno:SetTable.has t.dummies j=false:=by rw [hd];simp [SetTable.has]
 unfold SetTable.slot
 rw [hno]
 rfl
def liveAt (t:SetTable) (j:Nat):Prop:=t.place[SetTable.below t.place j]?=some j
theorem go_none {fuel:Nat} {p:SetTable.Probe} (e:SetTable.probe.go t (fun _=>h+1) h (fuel+1) p=none):liveAt t p.j∧SetTable.probe.go t (fun _=>h+1) h fuel (t.advance p)=none:=by
 unfold SetTable.probe.go at e
 rw [slot_of hd] at e
 by_cases hc:(t.place[SetTable.below t.place p.j]?==some p.j)=true
 ·rw [if_pos hc] at e
  dsimp only at e
  rw [if_neg (by simp;lia)] at e
  exact ⟨by unfold liveAt;simpa using hc,e⟩
 ·rw [if_neg hc] at e
  cases e
theorem go_mono:∀ {fuel fuel':Nat} {p:SetTable.Probe},fuel'≤fuel→SetTable.probe.go t (fun _=>h+1) h fuel p=none→SetTable.probe.go t (fun _=>h+1) h fuel' p=none
 | _,0,_,_,_=>by unfold SetTable.probe.go;rfl
 | 0,f+1,_,hle,_=>by lia
 | g+1,f+1,p,hle,e=>by
  obtain ⟨h1,h2⟩:=go_none hd h e
  have ih:=go_mono (fuel:=g) (fuel':=f) (by lia) h2
  unfold SetTable.probe.go
  rw [slot_of hd,if_pos (by unfold liveAt at h1;rw [h1];simp)]
  dsimp only
  rw [if_neg (by simp;lia)]
  exact ih
def leapP (t:SetTable) (p:SetTable.Probe):SetTable.Probe :=
 { p with j:=(SetTable.leap t.mask p.i p.perturb).1,more:=SetTable.runEnd t.mask (SetTable.leap t.mask p.i p.perturb).1-(SetTable.leap t.mask p.i p.perturb).1,i:=(SetTable.leap t.mask p.i p.perturb).1,perturb:=(SetTable.leap t.mask p.i p.perturb).2 }
theorem go_run:∀ (r fuel:Nat) (p:SetTable.Probe),p.more=r→SetTable.probe.go t (fun _=>h+1) h (fuel+r+1) p=none→liveAt t p.j∧SetTable.probe.go t (fun _=>h+1) h fuel (leapP t p)=none
 | 0,fuel,p,hr,e=>by
  obtain ⟨h1,h2⟩:=go_none hd h e
  refine ⟨h1,?_⟩
  have:t.advance p=leapP t p:=by
   unfold SetTable.advance leapP
   rw [if_neg (by lia)]
  rw [←this]
  exact h2
 | r+1,fuel,p,hr,e=>by
  obtain ⟨h1,h2⟩:=go_none hd h (fuel:=fuel+r+1) e
  have ha:t.advance p={ p with j:=p.j+1,more:=p.more-1 }:=by
   unfold SetTable.advance
   rw [if_pos (by lia)]
  rw [ha] at h2
  obtain ⟨_,h3⟩:=go_run r fuel _ (by show p.more-1=r;lia) h2
  exact ⟨h1,h3⟩
theorem go_leaps {m:Nat} (hm:t.mask+1=m):∀ (n:Nat) (p:SetTable.Probe),p.j=p.i→p.more≤9→p.perturb < 32→SetTable.probe.go t (fun _=>h+1) h (10*n) p=none→∀ k,k < n→liveAt t (jmps m k p.i)
 | 0,_,_,_,_,_,k,hk=>by lia
 | n+1,p,hj,hr,hp,e,k,hk=>by
  have e':=go_mono hd h (fuel':=10*n+p.more+1) (by lia) e
  obtain ⟨h1,h2⟩:=go_run hd h p.more (10*n) p rfl e'
  have hz:p.perturb / 32=0:=Nat.div_eq_of_lt hp
  have hi:(leapP t p).i=jmp m p.i:=by
   show (p.i*5+1+p.perturb / 32) % (t.mask+1)=_
   rw [hz,hm];rfl
  cases k with
  | zero=>rw [hj] at h1;exact h1
  | succ k =>
   have:=go_leaps hm n (leapP t p) rfl (runEnd_le _ _) (by show p.perturb / 32 < 32;lia) h2 k (by lia)
   rw [hi] at this
   exact this
end
theorem below_le {xs:Array Nat} (hr:Ris xs) (j:Nat) (e:xs[SetTable.below xs j]?=some j):j∈xs.toList:=by
 rw [←Array.getElem?_toList] at e
 exact List.mem_of_getElem? e
theorem probe_some {t : SetTable} {led : Bool} (w : WOk t led) (hm : t.mask + 1 = 8 ∨ t.mask + 1 = 32) (hs : t.place.size ≤ t.mask) (h : Int) (hb : SetTable.bits h < 32) : ∃ j, t.freeSlot h = some (j, false) := by
 cases e:t.probe (fun _=>h+1) h (t.probeStart h) with
 | none =>
  exfalso
  unfold SetTable.probe at e
  have hp:(t.probeStart h).i < t.mask+1:=Nat.mod_lt _ (by lia)
  have hl:=go_leaps w.d h (m:=t.mask+1) rfl (SetTable.turns t.mask) (t.probeStart h) rfl (runEnd_le _ _) hb e
  have hall:∀ j,j < t.mask+1→j∈t.place.toList:=fun j hj=>by
   obtain ⟨n,hn,rfl⟩:=jmps_all hm _ hp j hj
   exact below_le w.r _ (hl n (by unfold SetTable.turns;lia))
  have:=nodup_le (List.range (t.mask+1)) t.place.toList List.nodup_range fun x hx=>hall x (List.mem_range.mp hx)
  simp at this
  lia
 | some m =>
  unfold SetTable.freeSlot
  rw [e]
  cases m with
  | empty j dm =>
   obtain ⟨rfl,_⟩:=probe_go w.d _ _ _ _ _ _ rfl e
   exact ⟨j,rfl⟩
  | candidate j i nx =>
   exfalso
   unfold SetTable.probe at e
   revert e
   generalize 10*SetTable.turns t.mask=fuel
   generalize t.probeStart h=p
   induction fuel generalizing p with
   | zero=>intro e;unfold SetTable.probe.go at e;cases e
   | succ f ih =>
    intro e
    unfold SetTable.probe.go at e
    split at e
    ·cases e
    ·exact ih _ e
    ·rw [if_neg (by simp;lia)] at e
     exact ih _ e
theorem free_finds {mask : Nat} (hm : mask + 1 = 8 ∨ mask + 1 = 32) (owner : Array (Option Nat)) : ∀ (fuel i pt : Nat), pt < 32 → SetTable.layClean.free mask owner fuel i pt = none → ∀ k, k < fuel → owner.getD (jmps (mask + 1) k i) (some 0) ≠ none
 | 0,_,_,_,_,k,hk=>by lia
 | fuel+1,i,pt,hp,e,k,hk=>by
  unfold SetTable.layClean.free at e
  split at e
  ·cases e
  ·rename_i hf
   have h0:=List.find?_eq_none.mp hf 0 (List.mem_range.mpr (by unfold SetTable.runEnd;split<;>lia))
   cases k with
   | zero =>
    intro z
    apply h0
    show (owner.getD (i+0) (some 0)).isNone=true
    rw [Nat.add_zero]
    show (owner.getD i (some 0)).isNone=true
    rw [show owner.getD i (some 0)=none from z];rfl
   | succ k =>
    have hz:pt / 32=0:=Nat.div_eq_of_lt hp
    have:=free_finds hm owner fuel _ _ (by show pt / 32 < 32;lia) e k (by lia)
    rw [hz] at this
    exact this
theorem free_ok2 {mask:Nat} {owner:Array (Option Nat)}:∀ {fuel i pt j:Nat},SetTable.layClean.free mask owner fuel i pt=some j→owner.getD j (some 0)=none
 | 0,_,_,_,e=>by unfold SetTable.layClean.free at e;cases e
 | fuel+1,i,pt,j,e=>by
  unfold SetTable.layClean.free at e
  split at e
  ·rename_i k hf
   cases e
   have:=List.find?_some hf
   simpa using this
  ·exact free_ok2 e
theorem filterMap_set {owner:List (Option Nat)}:∀ {j k:Nat},owner[j]?=some none→List.Perm ((owner.set j (some k)).filterMap id) (owner.filterMap id++[k]):=by
 induction owner with
 | nil=>intro j k h;simp at h
 | cons o os ih =>
  intro j k h
  cases j with
  | zero =>
   simp at h
   subst h
   simp
   exact (List.perm_append_singleton _ _).symm
  | succ j =>
   simp at h
   have:=ih (k:=k) h
   cases o with
   | none=>simpa using this
   | some x=>simpa using this
theorem lay_step {mask : Nat} (hm : mask + 1 = 8 ∨ mask + 1 = 32) : ∀ (hs : List Int) (owner : Array (Option Nat)) (k : Nat), (∀ h ∈ hs, SetTable.bits h < 32) → owner.size = mask + 1 → List.Perm (owner.toList.filterMap id) (List.range k) → k + hs.length ≤ mask + 1 →
  ∃ owner',(hs.foldl (init:=some (owner,k)) fun acc h=>do
   let (owner,k) ←acc
   let j ←SetTable.layClean.free mask owner (SetTable.turns mask) (SetTable.bits h % (mask+1)) (SetTable.bits h)
   pure (owner.setIfInBounds j (some k),k+1))=some (owner',k+hs.length)∧owner'.size=mask+1∧List.Perm (owner'.toList.filterMap id) (List.range (k+hs.length))
 | [],owner,k,_,hs,hp,_=>⟨owner,rfl,hs,hp⟩
 | h :: hs,owner,k,hb,hsz,hp,hk=>by
  simp only [List.length_cons] at hk
  rw [List.foldl_cons]
  have hbh:=hb h List.mem_cons_self
  cases e:SetTable.layClean.free mask owner (SetTable.turns mask) (SetTable.bits h % (mask+1)) (SetTable.bits h) with
  | none =>
   exfalso
   have hall:∀ j,j < mask+1→owner.getD j (some 0)≠none:=fun j hj=>by
    obtain ⟨n,hn,rfl⟩:=jmps_all hm (SetTable.bits h % (mask+1)) (Nat.mod_lt _ (by lia)) j hj
    exact free_finds hm owner _ _ _ hbh e n (by unfold SetTable.turns;lia)
   have hl:(owner.toList.filterMap id).length=owner.toList.length:=by
    have:∀ x∈owner.toList,x≠none:=fun x hx=>by
     obtain ⟨i,hi,rfl⟩:=List.getElem_of_mem hx
     have hi':i < owner.size:=by simpa using hi
     have:=hall i (by lia)
     rw [Array.getD,dif_pos hi'] at this
     simpa using this
    generalize owner.toList=l at this
    induction l with
    | nil=>rfl
    | cons x l ih =>
     cases x with
     | none=>exact absurd rfl (this none List.mem_cons_self)
     | some y =>
      rw [List.filterMap_cons]
      show (y :: List.filterMap id l).length=_
      rw [List.length_cons,List.length_cons,ih fun z hz=>this z (List.mem_cons_of_mem _ hz)]
   rw [hp.length_eq] at hl
   simp at hl
   lia
  | some j =>
   have hj:=free_ok2 e
   have hjl:j < owner.size:=by
    by_cases c:j < owner.size
    ·exact c
    ·rw [Array.getD,dif_neg c] at hj;cases hj
   have hg:owner.toList[j]?=some none:=by
    rw [Array.getD,dif_pos hjl] at hj
    rw [Array.getElem?_toList,Array.getElem?_eq_getElem hjl]
    exact congrArg some hj
   have hset:(owner.setIfInBounds j (some k)).toList=owner.toList.set j (some k):=by simp
   obtain ⟨o',h1,h2,h3⟩:=lay_step hm hs (owner.setIfInBounds j (some k)) (k+1) (fun x hx=>hb x (List.mem_cons_of_mem _ hx)) (by simpa using hsz) (by
    rw [hset]
    refine (filterMap_set hg).trans ?_
    rw [List.range_succ]
    exact List.Perm.append_right _ hp) (by lia)
   refine ⟨o',?_,h2,?_⟩
   ·simp only [Option.bind_eq_bind,Option.bind_some,e]
    rw [show k+(h :: hs).length=k+1+hs.length by simp;lia]
    exact h1
   ·rw [show k+(h :: hs).length=k+1+hs.length by simp;lia]
    exact h3
theorem live_snd (owner:Array (Option Nat)) (mask:Nat) (hs:owner.size=mask+1):((List.range (mask+1)).filterMap fun j=>(owner.getD j none).map (j,·)).map (·.2)=owner.toList.filterMap id:=by
 rw [List.map_filterMap]
 have:owner.toList=(List.range (mask+1)).map fun j=>owner.getD j none:=by
  apply List.ext_getElem
  ·simp [hs]
  ·intro i h1 h2
   have:i < owner.size:=by simpa using h1
   simp [Array.getD,this]
 rw [this,List.filterMap_map]
 congr 1
 funext j
 show _=owner.getD j none
 cases owner.getD j none<;>rfl
theorem relaid_ok {t:SetTable} {es:Array (Int×Value)} (hw:SetTable.sizeAbove (SetTable.grown es.size)=32) (hb:∀ e∈es.toList,SetTable.bits e.1 < 32) (hn:es.size < 32) :
  (relayAll t es (SetTable.grown es.size)).2.1.mask=31∧(relayAll t es (SetTable.grown es.size)).2.1.plain=t.plain∧(relayAll t es (SetTable.grown es.size)).2.2=false:=by
 obtain ⟨o',h1,h2,h3⟩:=lay_step (mask:=31) (.inr rfl) (es.toList.map (·.1)) (Array.replicate 32 none) 0 (fun h hh=>by
  obtain ⟨e,he,rfl⟩:=List.mem_map.mp hh
  exact hb e he) (by simp) (by simp) (by simp;lia)
 have hlen:0+(es.toList.map (·.1)).length=es.size:=by simp
 rw [hlen] at h1 h3
 have hc:SetTable.layClean 31 (es.map (·.1))=some o':=by
  unfold SetTable.layClean
  rw [←Array.foldl_toList,Array.toList_map]
  have h1':=congrArg (Option.map (·.1)) h1
  exact h1'
 have hl2:=live_snd o' 31 h2
 unfold relayAll SetTable.relaid SetTable.laid
 rw [hw]
 simp only [show 32-1=31 from rfl,hc,Option.bind_eq_bind,Option.bind_some]
 simp only [pure]
 have hcov:coversAll (((List.range (31+1)).filterMap fun j=>(o'.getD j none).map (j,·)).map (·.2)).toArray es.size=true:=by
  unfold coversAll
  rw [hl2]
  exact List.isPerm_iff.mpr h3
 have hcount:((List.range (31+1)).filterMap fun j=>(o'.getD j none).map (j,·)).length=es.size:=by
  have:=congrArg List.length hl2
  rw [List.length_map,h3.length_eq,List.length_range] at this
  exact this
 have hord:((((List.range (31+1)).filterMap fun j=>(o'.getD j none).map (j,·)).map (·.2)).toArray.filterMap (es[·]?)).size=es.size:=by
  rw [hl2]
  rw [←Array.length_toList,Array.toList_filterMap]
  have hsub:∀ x∈o'.toList.filterMap id,x < es.size:=fun x hx=>List.mem_range.mp (h3.mem_iff.mp hx)
  have hle:=h3.length_eq
  rw [List.length_range] at hle
  rw [←hle]
  show ((o'.toList.filterMap id).filterMap (es[·]?)).length=_
  clear hle h3 hl2
  generalize o'.toList.filterMap id=l at hsub
  induction l with
  | nil=>rfl
  | cons x l ih =>
   have hx:=hsub x List.mem_cons_self
   rw [List.filterMap_cons,Array.getElem?_eq_getElem hx]
   show (es[x] :: List.filterMap (es[·]?) l).length=_
   rw [List.length_cons,List.length_cons,ih fun y hy=>hsub y (List.mem_cons_of_mem _ hy)]
 rw [hcov]
 have hfits:SetTable.fits { mask:=31,place:=(((List.range (31+1)).filterMap fun j=>(o'.getD j none).map (j,·)).map (·.1)).toArray,dummies:=#[],finger:=t.finger,led:=t.led,moves:=t.movedTo 31,plain:=t.plain } ((((List.range (31+1)).filterMap fun j=>(o'.getD j none).map (j,·)).map (·.2)).toArray.filterMap (es[·]?)).size=true:=by
  rw [hord]
  clear hcov hl2 hord
  generalize ((List.range (31+1)).filterMap fun j=>(o'.getD j none).map (j,·))=l at hcount
  simp [SetTable.fits,SetTable.fill,hcount]
  lia
 rw [hfits]
 exact ⟨rfl,rfl,rfl⟩
end ZS
namespace ZS
open PySem PyProof.Rows
section
variable {prog:Program} {w:World}
def ElI (prog:Program) (w:World):List (Int×Value)→List Int→Prop
 | [],[]=>True
 | e :: es,k :: ks=>((∃ t,e.2=.int k t)∧e.1=(intKind prog w).hash k)∧ElI prog w es ks
 | _,_=>False
def GOk (t:SetTable):Prop:=t.plain=true∧((t.mask=7∧t.place.size≤4)∨t.mask=31)
theorem gok_fresh (a b:Nat) (led:Bool):GOk (.fresh a b led):=⟨rfl,.inl ⟨rfl,Nat.zero_le _⟩⟩
theorem bits_small {k:Int} (h:0≤k∧k < 18):SetTable.bits (hashInt k) < 32:=by
 have h':∀ n:Nat,n < 18→SetTable.bits (hashInt (n:Int)) < 32:=by decide +kernel
 obtain ⟨n,rfl⟩:∃ n:Nat,k=n:=⟨k.toNat,by lia⟩
 exact h' n (by lia)
theorem small_le {ks:List Int} (hn:ks.Nodup) (hb:∀ k∈ks,0≤k∧k < 18):ks.length≤18:=by
 have:=nodup_le ks ((List.range 18).map fun (n:Nat)=>(n:Int)) hn fun x hx=>List.mem_map.mpr ⟨x.toNat,List.mem_range.mpr (by have:=hb x hx;lia),by have:=hb x hx;lia⟩
 simpa using this
theorem fits_two {t:SetTable} {n:Nat} (hf:t.fits n=true):t.place.size=n∧t.place.size+t.dummies.size≤t.mask:=by
 unfold SetTable.fits SetTable.fill at hf
 rw [Bool.and_eq_true] at hf
 exact ⟨by simpa using hf.1,of_decide_eq_true hf.2⟩
theorem fits_from {t:SetTable} {n:Nat} (h1:t.place.size=n) (h2:t.place.size+t.dummies.size≤t.mask):t.fits n=true:=by
 unfold SetTable.fits SetTable.fill
 rw [Bool.and_eq_true]
 exact ⟨by simpa using h1,decide_eq_true h2⟩
theorem lay_new {t:SetTable} {led:Bool} (w:WOk t led) (g:GOk t) {es:Array (Int×Value)} (hf:t.fits es.size=true) (hn:es.size < 18) {h:Int} (hb:SetTable.bits h < 32) (x:Value) :
  (layNew t es h x).2.1.plain=true∧(layNew t es h x).2.1.mask=t.mask∧(layNew t es h x).2.1.place.size=es.size+1∧(layNew t es h x).2.2.1=false∧(layNew t es h x).1.size=es.size+1:=by
 have hps:t.place.size=es.size∧t.place.size+t.dummies.size≤t.mask:=fits_two hf
 obtain ⟨j,e⟩:=probe_some w (by rcases g.2 with ⟨h,_⟩ | h<;>lia) (by lia) h hb
 have hsp:(t.put j).1.place.size=es.size+1:=by
  show (SetTable.insertAt t.place (SetTable.below t.place j) j).size=_
  rw [←Array.length_toList,SetTable.toList_insertAt]
  simp
  lia
 have hse:(SetTable.insertAt es (t.put j).2 (h,x)).size=es.size+1:=by
  rw [←Array.length_toList,SetTable.toList_insertAt]
  simp
  lia
 have hdm:(t.put j).1.dummies=#[]:=by
  show (if SetTable.has t.dummies j then _ else t.dummies)=#[]
  rw [w.d]
  simp [SetTable.has]
 have hfit:(t.put j).1.fits (SetTable.insertAt es (t.put j).2 (h,x)).size=true:=by
  rw [hse]
  have hm:(t.put j).1.mask=t.mask:=rfl
  refine fits_from hsp ?_
  rw [hsp,hdm,hm]
  have:(#[]:Array Nat).size=0:=rfl
  rcases g.2 with ⟨h,_⟩ | h<;>lia
 unfold layNew
 rw [e]
 show ((t.put j).1.orStandIn (SetTable.insertAt es (t.put j).2 (h,x)).size).plain=true∧((t.put j).1.orStandIn (SetTable.insertAt es (t.put j).2 (h,x)).size).mask=t.mask∧((t.put j).1.orStandIn (SetTable.insertAt es (t.put j).2 (h,x)).size).place.size=es.size+1∧false=false∧(SetTable.insertAt es (t.put j).2 (h,x)).size=es.size+1
 unfold SetTable.orStandIn
 rw [if_pos hfit]
 exact ⟨g.1,rfl,hsp,rfl,hse⟩
def SetW (prog:Program) (w:World) (h:Heap) (a:Addr) (ks:List Int) (led:Bool):Prop :=
 ∃ o es ep t,h.get? a=some o∧o.ExactSet∧o.data=.set es ep t∧ElI prog w es.toList ks∧ks.Nodup∧(∀ k∈ks,0≤k∧k < 18)∧t.fits es.size=true∧WOk t led∧GOk t
theorem eli_len:∀ {es:List (Int×Value)} {ks:List Int},ElI prog w es ks→es.length=ks.length
 | [],[],_=>rfl
 | e :: es,k :: ks,h=>by rw [List.length_cons,List.length_cons,eli_len h.2]
 | [],_ :: _,h=>h.elim
 | _ :: _,[],h=>h.elim
theorem int_is {k:Int} {x:Value}:(intKind prog w).is k x=true↔∃ t,x=.int k t:=by
 constructor
 ·intro h
  exact Value.isInt_shape h
 ·rintro ⟨t,rfl⟩
  simp [intKind,Value.isInt]
theorem eli_elems:∀ {es:List (Int×Value)} {ks:List Int},ElI prog w es ks→ElemsOf (intKind prog w) es
 | [],[],_=>fun e he=>nomatch he
 | e :: es,k :: ks,h=>fun x hx=>by
  rcases List.mem_cons.mp hx with rfl | hx
  ·obtain ⟨⟨⟨t,ht⟩,hh⟩,_⟩:=h
   exact ⟨⟨k,int_is.mpr ⟨t,ht⟩,hh⟩,by rw [ht];rfl⟩
  ·exact eli_elems h.2 x hx
 | [],_ :: _,h=>h.elim
 | _ :: _,[],h=>h.elim
theorem eli_app:∀ {es:List (Int×Value)} {ks:List Int} {e:Int×Value} {k:Int},ElI prog w es ks→((∃ t,e.2=.int k t)∧e.1=(intKind prog w).hash k)→ElI prog w (es++[e]) (ks++[k])
 | [],[],_,_,_,h=>⟨h,trivial⟩
 | e :: es,k :: ks,_,_,h,h'=>⟨h.1,eli_app h.2 h'⟩
 | [],_ :: _,_,_,h,_=>h.elim
 | _ :: _,[],_,_,h,_=>h.elim
theorem eli_perm {es es':List (Int×Value)} (p:List.Perm es es'):∀ {ks:List Int},ElI prog w es ks→∃ ks',List.Perm ks' ks∧ElI prog w es' ks':=by
 induction p with
 | nil=>intro ks h;exact ⟨ks,.refl _,h⟩
 | @cons x l1 l2 p ih =>
  intro ks h
  match ks,h with
  | k :: ks,h =>
   obtain ⟨ks',p',h'⟩:=ih h.2
   exact ⟨k :: ks',p'.cons k,h.1,h'⟩
 | @swap x y l =>
  intro ks h
  match ks,h with
  | k1 :: k2 :: ks,h=>exact ⟨k2 :: k1 :: ks,.swap _ _ _,h.2.1,h.1,h.2.2⟩
 | @trans l1 l2 l3 p1 p2 ih1 ih2 =>
  intro ks h
  obtain ⟨ks1,q1,h1⟩:=ih1 h
  obtain ⟨ks2,q2,h2⟩:=ih2 h1
  exact ⟨ks2,q2.trans q1,h2⟩
theorem eli_mem : ∀ {es : List (Int × Value)} {ks : List Int} (k : Int), ElI prog w es ks → ((∃ e ∈ es, (intKind prog w).is k e.2 = true) ↔ k ∈ ks)
 | [],[],_,_=>by simp
 | e :: es,k' :: ks,k,h=>by
  obtain ⟨⟨⟨t,ht⟩,_⟩,h2⟩:=h
  have ih:=eli_mem k h2
  constructor
  ·rintro ⟨x,hx,hk⟩
   rcases List.mem_cons.mp hx with rfl | hx
   ·obtain ⟨t',e'⟩:=int_is.mp hk
    rw [ht] at e'
    cases e'
    exact List.mem_cons_self
   ·exact List.mem_cons_of_mem _ (ih.mp ⟨x,hx,hk⟩)
  ·intro hk
   rcases List.mem_cons.mp hk with rfl | hk
   ·exact ⟨e,List.mem_cons_self,int_is.mpr ⟨t,ht⟩⟩
   ·obtain ⟨x,hx,hx2⟩:=ih.mpr hk
    exact ⟨x,List.mem_cons_of_mem _ hx,hx2⟩
 | [],_ :: _,_,h=>h.elim
 | _ :: _,[],_,h=>h.elim
theorem setW_store {h:Heap} {a:Addr} {o:Obj} {es:Array (Int×Value)} {ep:Nat} {t:SetTable} (ho:h.get? a=some o) (hex:o.ExactSet) (hd:o.data=.set es ep t)
  {es':Array (Int×Value)} {t':SetTable} {ks:List Int} {led:Bool} (hel:ElI prog w es'.toList ks) (hnd:ks.Nodup) (hb:∀ k∈ks,0≤k∧k < 18) (hf:t'.fits es'.size=true) (hw:WOk t' led) (hg':GOk t') :
  (h.update a (Obj.putSet es' t')).get? a=some { o with data:=.set es' (ep+1) t' }∧SetW prog w (h.update a (Obj.putSet es' t')) a ks led:=by
 have hg:(h.update a (Obj.putSet es' t')).get? a=some { o with data:=.set es' (ep+1) t' }:=by
  have:=Heap.get?_update_self (Obj.putSet es' t') ho (by rw [putSet_of es' t' hd];rfl)
  rw [putSet_of es' t' hd] at this
  exact this
 exact ⟨hg,_,es',ep+1,t',hg,hex,rfl,hel,hnd,hb,hf,hw,hg'⟩
theorem eli_size {es:Array (Int×Value)} {ks:List Int} (h:ElI prog w es.toList ks):es.size=ks.length:=by rw [←eli_len h,Array.length_toList]
theorem eli_bits {es:List (Int×Value)}:∀ {ks:List Int},ElI prog w es ks→(∀ k∈ks,0≤k∧k < 18)→∀ e∈es,SetTable.bits e.1 < 32:=by
 induction es with
 | nil=>intro ks _ _ e he;cases he
 | cons x es ih =>
  intro ks h hb e he
  match ks,h with
  | k :: ks,h =>
   rcases List.mem_cons.mp he with rfl | he
   ·rw [h.1.2];exact bits_small (hb k List.mem_cons_self)
   ·exact ih h.2 (fun z hz=>hb z (List.mem_cons_of_mem _ hz)) e he
theorem scan_of {n:Nat} (h:n≤18):n < scanBound:=by unfold scanBound;lia
variable {A:Around} {E:Value→Shared→Prop} {s:Shared}
theorem add_tail {g : Bool → Sem Unit} (hg : ∀ (b : Bool) (s₁ : Shared) (Q' : Unit → Shared → Prop), Q' () s₁ → wpAny (model prog w) A (g b) Q' E s₁)
  {a:Addr} {o:Obj} {es:Array (Int×Value)} {ep:Nat} {t:SetTable} (ho:s.heap.get? a=some o) (hex:o.ExactSet) (hd:o.data=.set es ep t)
  {es1:Array (Int×Value)} {t2:SetTable} {ks:List Int} {led:Bool} (hel:ElI prog w es1.toList ks) (hnd:ks.Nodup) (hb:∀ k∈ks,0≤k∧k < 18) (hf:t2.fits es1.size=true) (hw:WOk t2 led)
  (hpl:t2.plain=true) (hm:(t2.mask=7∧es1.size≤5)∨t2.mask=31) {wasDummy:Bool} (hwd:wasDummy=false) {R:Option Bool→Shared→Prop}
  (h:∀ h' ks',Heap.SameBut a s.heap h'→List.Perm ks' ks→SetW prog w h' a ks' led→R (some true) { s with heap:=h' }) :
  wpAny (model prog w) A (do
    storeSet a es1 t2
    if (!wasDummy&&t2.tooFull)=true then do
      g (relayAll t2 es1 (SetTable.grown es1.size)).2.2
      storeSet a (relayAll t2 es1 (SetTable.grown es1.size)).1 (relayAll t2 es1 (SetTable.grown es1.size)).2.1
      pure (some true)
     else pure (some true)) R E s:=by
 subst hwd
 have hn12:es1.size≤18:=by rw [eli_size hel];exact small_le hnd hb
 refine wpAny_bind (wpAny_storeSet_of ho hd ?_ (fits_of_scanBound (scan_of hn12)))
 have hps:t2.place.size=es1.size∧t2.place.size+t2.dummies.size≤t2.mask:=fits_two hf
 have hfill:t2.tooFull=decide (es1.size*5≥t2.mask*3):=by
  unfold SetTable.tooFull SetTable.fill
  rw [hps.1,hw.d]
  rfl
 have ho1:(s.heap.update a (Obj.putSet es1 t2)).get? a=some { o with data:=.set es1 (ep+1) t2 }:=by
  have:=Heap.get?_update_self (Obj.putSet es1 t2) ho (by rw [putSet_of es1 t2 hd];rfl)
  rw [putSet_of es1 t2 hd] at this
  exact this
 have sb:=Heap.SameBut.update s.heap a (Obj.putSet es1 t2)
 split
 ·rename_i hfull
  rw [Bool.not_false,Bool.true_and,hfill] at hfull
  have hfull:=of_decide_eq_true hfull
  have h5:es1.size=5:=by rcases hm with ⟨h1,h2⟩ | h1<;>lia
  have hrl:=relaid_ok (t:=t2) (es:=es1) (by rw [h5];decide) (eli_bits hel hb) (by lia)
  have hp:=relayAll_perm t2 es1 (SetTable.grown es1.size)
  have hfr:=relayAll_fits t2 es1 (SetTable.grown es1.size)
  have hwr:=wok_relay hw es1 (SetTable.grown es1.size)
  generalize relayAll t2 es1 (SetTable.grown es1.size)=Rl at hp hfr hwr hrl ⊢
  obtain ⟨es2,t3,gave⟩:=Rl
  dsimp only at hp hfr hwr hrl ⊢
  obtain ⟨ks2,pk,hel2⟩:=eli_perm hp.symm hel
  have hsz:es2.size=es1.size:=by rw [←Array.length_toList,hp.length_eq,Array.length_toList]
  refine wpAny_bind (hg _ _ _ ?_)
  refine wpAny_bind (wpAny_storeSet_of ho1 rfl ?_ (fits_of_scanBound (scan_of (by lia))))
  obtain ⟨_,hS2⟩:=setW_store ho1 hex rfl hel2 (pk.nodup_iff.mpr hnd) (fun k hk=>hb k (pk.mem_iff.mp hk)) hfr hwr ⟨hrl.2.1.trans hpl,.inr hrl.1⟩
  exact wpAny_pure (h _ ks2 (sb.trans (Heap.SameBut.update _ a _)) pk hS2)
 ·rename_i hfull
  rw [Bool.not_false,Bool.true_and,hfill] at hfull
  have hfull:¬ (es1.size*5≥t2.mask*3):=fun z=>hfull (decide_eq_true z)
  obtain ⟨_,hS1⟩:=setW_store ho hex hd hel hnd hb hf hw ⟨hpl,by rcases hm with ⟨h1,h2⟩ | h1;exact .inl ⟨h1,by lia⟩;exact .inr h1⟩
  exact wpAny_pure (h _ ks sb (.refl _) hS1)
theorem set_add {a:Addr} {ks:List Int} {led:Bool} {k:Int} {tk:Tok} {Q:Bool→Shared→Prop} (hS:SetW prog w s.heap a ks led) (hk12:0≤k∧k < 18)
  (h:∀ h' ks' b,Heap.SameBut a s.heap h'→List.Perm ks' (if k∈ks then ks else ks++[k])→SetW prog w h' a ks' led→Q b { s with heap:=h' }) :
  wpAny (model prog w) A (setAddHashed a (.int k tk) ((intKind prog w).hash k)) Q E s:=by
 obtain ⟨o,es,ep,t,ho,hex,hd,hel,hnd,hb,hf,hw,hgk⟩:=hS
 have hkey:(intKind prog w).is k (.int k tk)=true:=int_is.mpr ⟨tk,rfl⟩
 have hels:=eli_elems hel
 have hn:es.size=ks.length:=eli_size hel
 have hn12:=small_le hnd hb
 unfold setAddHashed setAddHashedIn
 refine wpAny_holding (wpAny_bind (wpAny_setState_of ho hd hf ?_))
 dsimp only
 rw [byScan_of (x:=.int k tk) rfl (scan_of (by lia)) hels]
 simp only [↓reduceIte]
 unfold setAddByScan
 refine wpAny_bind (wpAny_bind (wpAny_rule (wpAny_bind (wpAny_setScan_of hkey ho hd hf hels ?_))))
 cases hr:List.findIdx? (fun e=>(intKind prog w).is k e.2) es.toList with
 | some j =>
  dsimp only
  obtain ⟨hj,hpj,_⟩:=List.findIdx?_eq_some_iff_getElem.mp hr
  have hk:k∈ks:=(eli_mem k hel).mp ⟨es.toList[j],List.getElem_mem hj,hpj⟩
  refine wpAny_pure (wpAny_pure ?_)
  have:=h s.heap ks false (Heap.SameBut.refl a s.heap) (by rw [if_pos hk]) ⟨o,es,ep,t,ho,hex,hd,hel,hnd,hb,hf,hw,hgk⟩
  exact this
 | none =>
  dsimp only
  have hk:k∉ks:=fun z=>by
   obtain ⟨e,he,hp⟩:=(eli_mem k hel).mpr z
   have:=List.findIdx?_eq_none_iff.mp hr e he
   rw [hp] at this
   cases this
  have hnd0:(ks++[k]).Nodup:=List.nodup_append.mpr ⟨hnd,by simp,fun a ha b hb e=>by
   rw [List.mem_singleton.mp hb] at e
   exact hk (e▸ha)⟩
  have hb0:∀ x∈ks++[k],0≤x∧x < 18:=fun x hx=>by
   rcases List.mem_append.mp hx with hx | hx
   ·exact hb x hx
   ·rw [List.mem_singleton.mp hx];exact hk12
  have hn1:=small_le hnd0 hb0
  rw [List.length_append,List.length_singleton] at hn1
  have hln:=lay_new hw hgk hf (by lia) (h:=(intKind prog w).hash k) (bits_small hk12) (.int k tk)
  have hperm:=layNew_perm t es ((intKind prog w).hash k) (.int k tk)
  have hfits:=layNew_fits t es ((intKind prog w).hash k) (.int k tk)
  have hwl:=wok_layNew hw es ((intKind prog w).hash k) (.int k tk)
  generalize layNew t es ((intKind prog w).hash k) (.int k tk)=Ln at hperm hfits hwl hln ⊢
  obtain ⟨es1,t1,wasDummy,gave⟩:=Ln
  dsimp only at hperm hfits hwl hln ⊢
  obtain ⟨l1,l2,l3,l4,l5⟩:=hln
  rw [Array.toList_push] at hperm
  obtain ⟨ks1,pk,hel1⟩:=eli_perm hperm.symm (eli_app (e:=((intKind prog w).hash k,.int k tk)) hel ⟨⟨tk,rfl⟩,rfl⟩)
  have hnd1:ks1.Nodup:=pk.nodup_iff.mpr hnd0
  have hb1:∀ x∈ks1,0≤x∧x < 18:=fun x hx=>hb0 x (pk.mem_iff.mp hx)
  have hps:t.place.size=es.size∧t.place.size+t.dummies.size≤t.mask:=fits_two hf
  have hmm:(t1.mask=7∧es1.size≤5)∨t1.mask=31:=by rcases hgk.2 with ⟨h1,h2⟩ | h1;exact .inl ⟨l2.trans h1,by lia⟩;exact .inr (l2.trans h1)
  have hgw:∀ (b:Bool) (s₁:Shared) (Q':Unit→Shared→Prop),Q' () s₁→wpAny (model prog w) A (match b with | true=>rule "set.scan.the-table-gave-way" | false=>pure ()) Q' E s₁ :=
   fun b s₁ Q' hq=>by cases b<;>first | exact wpAny_pure hq | exact wpAny_rule hq
  refine wpAny_bind (hgw _ _ _ ?_)
  have fin:∀ h' ks',Heap.SameBut a s.heap h'→List.Perm ks' ks1→SetW prog w h' a ks' led→Q true { s with heap:=h' }:=fun h' ks' sb p hS=>h h' ks' true sb (by rw [if_neg hk];exact p.trans pk) hS
  rw [if_pos l1]
  refine wpAny_bind ?_
  rw [hashByValue_scannable 8 (x:=.int k tk) rfl]
  refine wpAny_pure ?_
  simp only [show plainKind (.int k tk)=true from rfl,↓reduceIte]
  refine add_tail hgw ho hex hd hel1 hnd1 hb1 hfits hwl l1 hmm l4 ?_
  intro h' ks' sb p hS
  dsimp only
  exact wpAny_pure (fin h' ks' sb p hS)
end
end ZS
namespace ZS
open PySem PyProof.Rows
theorem slot_setit_next:Slot "set_iterator" "__next__" "set_iterator.__next__" :=
 .of (owner := "set_iterator") (n := "__next__") (by rw [typeLookup_type,builtinLookup_eq_fast];kernel_rfl) (by decide +kernel) (by decide +kernel) (by decide +kernel)
  (by first | exact .inl (by decide +kernel) | exact .inr (by decide +kernel)) (by rw [isSubtype_type];kernel_rfl)
theorem entry_setit_next:entryFor table "set_iterator.__next__" = some Builtin.«set_iterator.__next__»:=entryFor_of_fast (by kernel_rfl)
theorem args_setit_next (a:Value):argsOk "set_iterator.__next__" ⟨[a],[]⟩:=by unfold argsOk;kernel_rfl
theorem slot_setit_iter:Slot "set_iterator" "__iter__" "set_iterator.__iter__" :=
 .of (owner := "set_iterator") (n := "__iter__") (by rw [typeLookup_type,builtinLookup_eq_fast];kernel_rfl) (by decide +kernel) (by decide +kernel) (by decide +kernel)
  (by first | exact .inl (by decide +kernel) | exact .inr (by decide +kernel)) (by rw [isSubtype_type];kernel_rfl)
theorem entry_setit_iter:entryFor table "set_iterator.__iter__" = some Builtin.«dict_keyiterator.__iter__»:=entryFor_alias (id' := "dict_keyiterator.__iter__") (by kernel_rfl) rfl (by decide +kernel) (by kernel_rfl)
theorem args_setit_iter (a:Value):argsOk "set_iterator.__iter__" ⟨[a],[]⟩:=by unfold argsOk;kernel_rfl
theorem entry_set_iter:entryFor table "set.__iter__" = some Builtin.«frozenset.__iter__»:=entryFor_alias (id' := "frozenset.__iter__") (by kernel_rfl) rfl (by decide +kernel) (by kernel_rfl)
theorem set_len_look:typeLookup (.type "set") "__len__" = pure (some (.builtin "set.__len__")):=by rw [typeLookup_type,builtinLookup_eq_fast];kernel_rfl
theorem sub_set_set:isSubtype (.type "set") (.type "set")=pure true:=by rw [isSubtype_type];kernel_rfl
theorem pick_go {α:Type} (nx:Nat→Nat):∀ (fuel k:Nat) (left:List α) (out:Array α),left.length=fuel→List.Perm (pickOrder.go nx fuel k left out).toList (out.toList++left)
 | 0,k,left,out,h=>by
  have:left=[]:=List.length_eq_zero_iff.mp h
  subst this
  unfold pickOrder.go
  simp
 | fuel+1,k,left,out,h=>by
  unfold pickOrder.go
  have hlt:nx k % left.length < left.length:=Nat.mod_lt _ (by lia)
  rw [List.getElem?_eq_getElem hlt]
  dsimp only
  refine (pick_go nx fuel (k+1) _ _ (by rw [List.length_eraseIdx_of_lt hlt];lia)).trans ?_
  rw [Array.toList_push,List.append_assoc]
  refine List.Perm.append_left _ ?_
  generalize nx k % left.length=i at hlt
  rw [List.eraseIdx_eq_take_drop_succ]
  have e:left=left.take i++left[i] :: left.drop (i+1):=by simp
  show List.Perm (left[i] :: (left.take i++left.drop (i+1))) left
  exact List.perm_middle.symm.trans (by rw [←e])
theorem pick_perm {α:Type} (nx:Nat→Nat) (xs:Array α):List.Perm (pickOrder nx xs).toList xs.toList:=by
 have:=pick_go nx xs.size 0 xs.toList #[] (by simp)
 simpa [pickOrder] using this
section
variable {prog:Program} {w:World}
def SetX (h:Heap) (a:Addr) (es:Array (Int×Value)) (ep:Nat) (t:SetTable):Prop:=∃ o,h.get? a=some o∧o.ExactSet∧o.data=.set es ep t
def SetIt (h:Heap) (I a:Addr) (slot i n ep:Nat):Prop:=∃ o,h.get? I=some o∧o.cls=.type "set_iterator" ∧ o.data=.fields #[.int slot 0,.int i 0,.ref a,.int n 0,.int ep 0]
theorem SetX.at {h h':Heap} {a:Addr} {es:Array (Int×Value)} {ep:Nat} {t:SetTable} (x:SetX h a es ep t) (e:∀ o,h.get? a=some o→h'.get? a=some o):SetX h' a es ep t:=let ⟨o,ho,r⟩:=x;⟨o,e _ ho,r⟩
theorem SetIt.at {h h':Heap} {I a:Addr} {slot i n ep:Nat} (x:SetIt h I a slot i n ep) (e:∀ o,h.get? I=some o→h'.get? I=some o):SetIt h' I a slot i n ep:=let ⟨o,ho,r⟩:=x;⟨o,e _ ho,r⟩
theorem SetIt.ty {s:Shared} {I a:Addr} {slot i n ep:Nat} (x:SetIt s.heap I a slot i n ep):s.TypeIs (.ref I) "set_iterator" := let ⟨o,ho,hc,_⟩:=x;⟨o,ho,hc⟩
def ordOf (w:World) (a:Addr) (es:Array (Int×Value)) (ep:Nat):List (Int×Value):=if w.params.followText "set-order" then (pickOrder (w.params.setOrder a ep) es).toList else es.toList
theorem ord_perm (w:World) (a:Addr) (es:Array (Int×Value)) (ep:Nat):List.Perm (ordOf w a es ep) es.toList:=by
 unfold ordOf
 split
 ·exact pick_perm _ _
 ·exact .refl _
def slotOf (w:World) (t:SetTable) (i:Nat):Nat:=if w.params.followText "set-order" then 0 else if i=0 then 0 else t.place.getD (i-1) 0+1
variable {A:Around} {E:Value→Shared→Prop} {s:Shared}
theorem below_at {t:SetTable} {led:Bool} (hw:WOk t led) {i:Nat} (hi:i≤t.place.size):SetTable.below t.place (if i=0 then 0 else t.place.getD (i-1) 0+1)=i:=by
 split
 ·rename_i h;subst h;exact below_zero hw.r
 ·rename_i h
  have:=below_next hw.r (i:=i-1) (by lia)
  rw [this];lia
theorem setNext_at {a:Addr} {es:Array (Int×Value)} {ep:Nat} {t:SetTable} {i:Nat} {Q:Option (Value×Nat)→Shared→Prop} (hx:SetX s.heap a es ep t) (hf:t.fits es.size=true) (hw:WOk t (!w.params.followText "set-order")) (hp:t.plain=true) (hi:i≤es.size)
  (h:Q (((ordOf w a es ep)[i]?).map fun e=>(e.2,slotOf w t (i+1))) s):wpAny (model prog w) A (setNext a (slotOf w t i) i ep) Q E s:=by
 obtain ⟨o,ho,hex,hd⟩:=hx
 have hps:=fits_two hf
 unfold setNext
 refine wpAny_bind (wpAny_setState_of ho hd hf ?_)
 dsimp only
 unfold setsByText
 refine wpAny_bind (wpAny_bind (wpAny_askSetting (wpAny_pure ?_)))
 show wpAny _ _ (if w.params.followText "set-order" = true then _ else _) _ _ _
 by_cases hb:w.params.followText "set-order" = true
 ·rw [if_pos hb,if_neg (by simp)]
  unfold setWalk
  refine wpAny_bind (wpAny_bind (wpAny_setState_of ho hd hf ?_))
  dsimp only
  unfold setsByText
  refine wpAny_bind (wpAny_bind (wpAny_askSetting (wpAny_pure ?_)))
  show wpAny _ _ (if w.params.followText "set-order" = true then _ else _) _ _ _
  rw [if_pos hb]
  refine wpAny_bind (wpAny_askSetting (wpAny_pure (wpAny_pure ?_)))
  unfold ordOf slotOf at h
  rw [if_pos hb,if_pos hb] at h
  unfold slotOf
  rw [if_pos hb]
  rw [Array.getElem?_toList] at h
  exact h
 ·rw [if_neg hb]
  have hdr:(!t.plain&&decide (es.size > 1))=false:=by rw [hp];rfl
  show wpAny _ _ (if (!t.plain&&decide (es.size > 1))=true then _ else _) _ _ _
  rw [hdr]
  have hled:(!t.led&&!es.isEmpty)=false:=by rw [hw.l];simp at hb;rw [hb];rfl
  show wpAny _ _ ((if (!t.led&&!es.isEmpty)=true then _ else _) >>= _) _ _ _
  rw [hled]
  refine wpAny_bind (wpAny_pure (wpAny_pure ?_))
  unfold ordOf slotOf at h
  rw [if_neg hb,if_neg hb,if_neg (by lia)] at h
  unfold slotOf
  rw [if_neg hb]
  rw [below_at hw (by lia)]
  by_cases hlt:i < es.size
  ·have hlt':i < t.place.size:=by lia
   rw [Array.getElem?_eq_getElem hlt,Array.getElem?_eq_getElem hlt']
   dsimp only
   rw [List.getElem?_eq_getElem (by simpa using hlt)] at h
   simp only [Option.map_some,Nat.add_sub_cancel] at h
   rw [Array.getD,dif_pos hlt'] at h
   simpa using h
  ·rw [Array.getElem?_eq_none (by lia)]
   rw [List.getElem?_eq_none (by simp;lia)] at h
   exact h
theorem setNext_next {I a:Addr} {es:Array (Int×Value)} {ep:Nat} {t:SetTable} {i:Nat} {e:Int×Value} {Q:Option Value→Shared→Prop} (hit:SetIt s.heap I a (slotOf w t i) i es.size ep) (hx:SetX s.heap a es ep t) (hf:t.fits es.size=true) (hw:WOk t (!w.params.followText "set-order")) (hp:t.plain=true)
  (he:(ordOf w a es ep)[i]?=some e) (hQ:∀ h',SetIt h' I a (slotOf w t (i+1)) (i+1) es.size ep→Heap.SameBut I s.heap h'→Q (some e.2) { s with heap:=h' }):wpAny (model prog w) A (pyNext (.ref I)) Q E s:=by
 obtain ⟨o,ho,hc,hd⟩:=id hit
 obtain ⟨oa,hoa,hexa,hda⟩:=id hx
 have hi:i < es.size:=by
  have h1:i < (ordOf w a es ep).length:=(List.getElem?_eq_some_iff.mp he).1
  rw [(ord_perm w a es ep).length_eq] at h1
  simpa using h1
 unfold pyNext
 refine wpAny_bind (wpAny_attempt (wpAny_callSpecial?_slot (name:=Str.ofString "__next__") hit.ty slot_setit_next (wpAny_call_entry slot_setit_next hit.ty entry_setit_next ?_ (args_setit_next _))))
 unfold Builtin.«set_iterator.__next__»
 refine wpAny_bind (wpAny_pure ?_)
 refine wpAny_bind (wpAny_fieldsOf ho hd ?_)
 dsimp only
 unfold setEntries
 refine wpAny_bind (wpAny_bind (wpAny_setState_of hoa hda hf (wpAny_pure ?_)))
 rw [if_neg (by simp)]
 rw [show ((slotOf w t i:Nat):Int).toNat=slotOf w t i from Int.toNat_natCast _,show ((i:Nat):Int).toNat=i from Int.toNat_natCast _,show ((ep:Nat):Int).toNat=ep from Int.toNat_natCast _]
 refine wpAny_bind (setNext_at hx hf hw hp (by lia) ?_)
 rw [he]
 dsimp only [Option.map]
 refine wpAny_bind (wpAny_setField ho hd (by simp) ?_)
 have g1:=Heap.get?_update_self (Obj.mapFields (·.setIfInBounds 0 (rawInt (slotOf w t (i+1):Nat)))) ho (Obj.isFreed_of_fields (Obj.data_mapFields hd _))
 refine wpAny_bind (wpAny_setField g1 (Obj.data_mapFields hd _) (by simp) ?_)
 have g2:=Heap.get?_update_self (Obj.mapFields (·.setIfInBounds 1 (rawInt ((i:Int)+1)))) g1 (Obj.isFreed_of_fields (Obj.data_mapFields (Obj.data_mapFields hd _) _))
 refine wpAny_pure ⟨_,rfl,wpAny_pure (hQ _ ⟨_,g2,?_,?_⟩ ((Heap.SameBut.update ..).trans (Heap.SameBut.update ..)))⟩
 ·exact (Obj.cls_mapFields ..).trans ((Obj.cls_mapFields ..).trans hc)
 ·rw [Obj.data_mapFields (Obj.data_mapFields hd _)]
  simp [rawInt]
theorem setNext_end {I a:Addr} {es:Array (Int×Value)} {ep:Nat} {t:SetTable} {Q:Option Value→Shared→Prop} (hh:A.handled=none) (hit:SetIt s.heap I a (slotOf w t es.size) es.size es.size ep) (hx:SetX s.heap a es ep t) (hf:t.fits es.size=true) (hw:WOk t (!w.params.followText "set-order")) (hp:t.plain=true)
  (hQ:∀ h',Heap.ExtBut I s.heap h'→Q none { s with heap:=h' }):wpAny (model prog w) A (pyNext (.ref I)) Q E s:=by
 obtain ⟨o,ho,hc,hd⟩:=id hit
 obtain ⟨oa,hoa,hexa,hda⟩:=id hx
 unfold pyNext
 refine wpAny_bind (wpAny_attempt (wpAny_callSpecial?_slot (name:=Str.ofString "__next__") hit.ty slot_setit_next (wpAny_call_entry slot_setit_next hit.ty entry_setit_next ?_ (args_setit_next _))))
 unfold Builtin.«set_iterator.__next__»
 refine wpAny_bind (wpAny_pure ?_)
 refine wpAny_bind (wpAny_fieldsOf ho hd ?_)
 dsimp only
 unfold setEntries
 refine wpAny_bind (wpAny_bind (wpAny_setState_of hoa hda hf (wpAny_pure ?_)))
 rw [if_neg (by simp)]
 rw [show ((slotOf w t es.size:Nat):Int).toNat=slotOf w t es.size from Int.toNat_natCast _,show ((es.size:Nat):Int).toNat=es.size from Int.toNat_natCast _,show ((ep:Nat):Int).toNat=ep from Int.toNat_natCast _]
 refine wpAny_bind (setNext_at hx hf hw hp (Nat.le_refl _) ?_)
 rw [List.getElem?_eq_none (by rw [(ord_perm w a es ep).length_eq];simp)]
 dsimp only [Option.map]
 refine wpAny_bind (wpAny_setField ho hd (by simp) ?_)
 show wpAny _ _ (newExc (.type "StopIteration") [] >>= _) _ _ _
 refine wpAny_bind ?_
 simp only [newExc,newTuple]
 refine wpAny_bind (wpAny_newObj_type ?_ (by size_fits))
 refine wpAny_bind (m:=firstArgMember _ _) (wpAny_of_eq (a:=Value.none) (by first | rfl | (simp only [firstArgMember];rfl)) ?_)
 refine wpAny_newObj_type ?_ (by size_fits)
 simp only [raiseNew]
 refine wpAny_bind (wpAny_handled ?_)
 first | rw [show A.in1.handled=none from hh] | rw [hh]
 refine wpAny_bind (wpAny_pure (wpAny_throw ?_))
 refine wpAny_bind (wpAny_isInstance (T := "StopIteration") (b:=true) ⟨_,Heap.get?_push_size _ rfl,rfl⟩ isSubtype_stop ?_)
 exact wpAny_pure (hQ _ (((Heap.SameBut.update ..).extBut.push _).push _))
theorem walk_set (hh:A.handled=none) (I a:Addr) (hne:a≠I) {es:Array (Int×Value)} {ep:Nat} {t:SetTable} (hf:t.fits es.size=true) (hw:WOk t (!w.params.followText "set-order")) (hp:t.plain=true) :
  Walks prog w A I [I,a] [I] es.size (fun i v=>((ordOf w a es ep).map (·.2))[i]?=some v) (fun i h=>SetIt h I a (slotOf w t i) i es.size ep∧SetX h a es ep t) where
 sub:=fun b hb=>by simp at hb;simp [hb]
 frame:=fun _ _ _ st hk=>⟨st.1.at fun o e=>hk I (by simp) o e,st.2.at fun o e=>hk a (by simp) o e⟩
 item:=fun i s Q E hi st hQ=>by
  have hl:i < (ordOf w a es ep).length:=by rw [(ord_perm w a es ep).length_eq];simpa using hi
  refine setNext_next st.1 st.2 hf hw hp (List.getElem?_eq_getElem hl) fun h' hit' hs'=>?_
  exact hQ _ h' s.toks (by rw [List.getElem?_map,List.getElem?_eq_getElem hl];rfl) ⟨hit',st.2.at fun o e=>hs'.extBut a o hne e⟩ fun b o hb e=>hs'.extBut b o (fun h=>hb (by simp [h])) e
 done:=fun s Q E st hQ=>setNext_end hh st.1 st.2 hf hw hp fun h' he'=>hQ h' s.toks fun b o hb e=>he' b o (fun h=>hb (by simp [h])) e
 self:=fun i s Q E st hQ=>by
  refine wpAny_pyIter_slot st.1.ty slot_setit_iter (wpAny_call_entry slot_setit_iter st.1.ty entry_setit_iter ?_ (args_setit_iter _))
  show wpAny _ _ (ret (.ref I)) _ _ s
  exact wpAny_pure ⟨_,rfl, "set_iterator",_,st.1.ty,slot_setit_next.lookup,hQ⟩
theorem iter_set {a:Addr} {es:Array (Int×Value)} {ep:Nat} {t:SetTable} {Q:Value→Shared→Prop} (hx:SetX s.heap a es ep t) (hf:t.fits es.size=true) (hp:t.plain=true)
  (hQ:Q (.ref s.heap.objs.size) { s with heap:=s.heap.push { cls:=.type "set_iterator",data:=.fields #[.int 0 0,.int 0 0,.ref a,.int es.size 0,.int ep 0] } }):wpAny (model prog w) A (pyIter (.ref a)) Q E s:=by
 obtain ⟨o,ho,hex,hd⟩:=hx
 have hT:s.TypeIs (.ref a) "set" := ⟨o,ho,hex.1⟩
 refine wpAny_pyIter_slot hT F.slot_set_iter (wpAny_call_entry F.slot_set_iter hT entry_set_iter ?_ (F.args_set_iter_1 _))
 unfold Builtin.«frozenset.__iter__»
 refine wpAny_bind (wpAny_pure ?_)
 unfold Builtin.Frozenset.sizeOf setEntries
 refine wpAny_bind (wpAny_bind (wpAny_bind (wpAny_setState_of ho hd hf (wpAny_pure (wpAny_pure ?_)))))
 unfold setDrawn
 refine wpAny_bind (wpAny_bind (wpAny_setState_of ho hd hf ?_))
 dsimp only
 unfold setsByText
 refine wpAny_bind (wpAny_bind (wpAny_askSetting (wpAny_pure (wpAny_pure ?_))))
 have hdr:(!w.params.followText "set-order" && (!t.plain&&decide (es.size > 1)))=false:=by rw [hp];simp
 show wpAny _ _ (if (!w.params.followText "set-order" && (!t.plain&&decide (es.size > 1)))=true then _ else _) _ _ _
 rw [hdr,if_neg Bool.false_ne_true]
 refine wpAny_bind (wpAny_pure ?_)
 refine wpAny_bind (wpAny_setEpoch_of ho hd hf ?_)
 refine wpAny_bind ?_
 refine wpAny_newObj_type (wpAny_pure ⟨_,rfl, "set_iterator",_,⟨_,Heap.get?_push_size _ rfl,rfl⟩,slot_setit_next.lookup,?_⟩)
 simpa [rawInt] using hQ
end
end ZS
namespace ZS
open PySem PyProof.Rows
section
variable {prog:Program} {w:World} {A:Around} {E:Value→Shared→Prop} {s:Shared}
abbrev ledOf (w:World):Bool:=!w.params.followText "set-order"
theorem setW_at {h h':Heap} {a:Addr} {ks:List Int} {led:Bool} (x:SetW prog w h a ks led) (e:∀ o,h.get? a=some o→h'.get? a=some o):SetW prog w h' a ks led:=let ⟨o,es,ep,t,ho,r⟩:=x;⟨o,es,ep,t,e _ ho,r⟩
def addK (ks:List Int) (k:Int):List Int:=if k∈ks then ks else ks++[k]
theorem addK_perm {ks ks':List Int} (p:List.Perm ks' ks) (k:Int):List.Perm (addK ks' k) (addK ks k):=by
 unfold addK
 by_cases h:k∈ks
 ·rw [if_pos h,if_pos (p.mem_iff.mpr h)];exact p
 ·rw [if_neg h,if_neg fun z=>h (p.mem_iff.mp z)];exact p.append_right _
variable {R:Result→Shared→Prop} {I:Addr} {fp wr:List Addr} {G:Array GenState→Array GenState→Prop} {n:Nat} {P:Nat→Value→Prop} {St:Nat→Shared→Prop}
theorem update_loop (W:WalksS prog w A.in1 I fp wr G n P St) (S:Addr) (hSf:S∉fp) (val:Nat→Int) (hval:∀ i v,P i v→∃ t,v=.int (val i) t) (hb:∀ i,i < n→0≤val i∧val i < 18) :
  ∀ (k i:Nat) (s:Shared) (ks:List Int),n-i=k→i≤n→St i s→SetW prog w s.heap S ks (ledOf w)→List.Perm ks (((List.range i).map val).foldl addK []) →
   (∀ s' ks',Moved (S :: wr) G s s'→SetW prog w s'.heap S ks' (ledOf w)→List.Perm ks' (((List.range n).map val).foldl addK [])→R (.ok (.ret .none)) s') →
   codeAny (model prog w) A (.builtin "set.update.loop" ⟨[.ref S,.ref I],[]⟩) R s:=by
 have hSw:S∉wr:=fun h=>hSf (W.sub _ h)
 have hsub:∀ b∈wr,b∈S :: wr:=fun b hb=>List.mem_cons_of_mem _ hb
 intro k
 induction k with
 | zero =>
  intro i s ks hk hi hst hS hp hR
  have hin:i=n:=by lia
  subst hin
  refine codeAny_builtin F.entry_set_update_loop ?_
  rw [Around.under_plainId F.plain_set_update_loop _]
  apply wpAny_bind
  refine W.done s _ _ hst fun s' hm=>?_
  exact wpAny_pure (hR s' ks (hm.mono hsub) (setW_at hS fun o e=>hm.heap S o hSw e) hp)
 | succ k ih =>
  intro i s ks hk hi hst hS hp hR
  have hlt:i < n:=by lia
  refine codeAny_builtin F.entry_set_update_loop ?_
  rw [Around.under_plainId F.plain_set_update_loop _]
  apply wpAny_bind
  refine W.item i s _ _ hlt hst fun v s' hP hst' hm=>?_
  obtain ⟨t,rfl⟩:=hval i v hP
  have hS':=setW_at hS fun o e=>hm.heap S o hSw e
  show wpAny _ A.in1 (holding [Value.int (val i) t] (setAdd S (.int (val i) t)) >>= _) _ _ s'
  refine wpAny_bind (wpAny_holding ?_)
  unfold setAdd
  refine wpAny_holding ?_
  refine wpAny_bind ((intKind prog w).pyHash (k:=val i) (intKind_is _ _ _ _) ?_)
  refine set_add (s:={ s' with toks:=s'.toks+1 }) hS' (hb i hlt) fun h' ks' b hsb hpk hS2=>?_
  refine wpAny_pure ⟨plainId_quiet F.plain_set_update_loop _,ih (i+1) _ ks' (by lia) hlt (W.frame _ s' _ _ hst' (Nat.le_succ _) fun b hb o e=>?_) hS2 ?_ fun s'' ks'' hm'' hS'' hp''=>?_⟩
  ·rw [hsb.2 b (fun h:b=S=>hSf (by rw [←h];exact hb))];exact e
  ·rw [List.range_succ,List.map_append,List.foldl_append]
   exact hpk.trans (addK_perm hp (val i))
  ·refine hR s'' ks'' (Moved.trans W.gtrans ((hm.mono hsub).then_heap (Nat.le_succ _) fun b o hb e=>?_) hm'') hS'' hp''
   rw [hsb.2 b (fun h:b=S=>hb (by rw [h];exact List.mem_cons_self))];exact e
end
section
variable {prog:Program} {w:World} {A:Around} {E:Value→Shared→Prop} {s:Shared}
theorem code_set_new (a:Value) {Q₁:Value→Shared→Prop}
  (h:Q₁ (.ref s.heap.objs.size) { s with heap:=s.heap.push { cls:=.type "set",dict:=none,data:=.set #[] 0 (.fresh 0 0 (ledOf w)) } }) :
  codeAny (model prog w) A (.call (.builtin "set.__new__") ⟨[.type "set",a],[]⟩) (wants Q₁ E) s:=by
 refine codeAny_of_tree ?_
 show wpAny _ A.in1 (do checkBuiltinCall "set.__new__" ⟨[.type "set",a],[]⟩;again (.builtin "set.__new__" ⟨[.type "set",a],[]⟩)) _ _ s
 refine wpAny_bind (wpAny_of_eq (F.newCall_set_1 a) (wpAny_pure ⟨plainId_quiet F.plain_set_new _,codeAny_builtin F.entry_set_new ?_⟩))
 rw [Around.under_plainId F.plain_set_new _]
 unfold Builtin.«set.__new__» Builtin.Frozenset.newClass
 have hsub:=sub_set_self
 obtain ⟨hp,g,d,tk,os⟩:=s
 dsimp only
 wp_walk
 refine wpAny_askSetting (wpAny_pure ?_)
 dsimp only
 simp only [newObj]
 refine wpAny_bind (wpAny_alloc (wpAny_pure ?_))
 exact wpAny_pure h
end
end ZS
namespace ZS
open PySem PyProof.Rows
theorem sub_tuple_set:isSubtype (.type "tuple") (.type "set")=pure false:=by rw [isSubtype_type];kernel_rfl
theorem sub_tuple_frozenset:isSubtype (.type "tuple") (.type "frozenset")=pure false:=by rw [isSubtype_type];kernel_rfl
section
variable {prog:Program} {w:World} {A:Around} {E:Value→Shared→Prop} {s:Shared}
structure SrcS (prog:Program) (w:World) (c:String) (l:Addr) (o it:Obj) (items:Array Value):Prop where
 s1:isSubtype (.type c) (.type "set")=pure false
 s2:isSubtype (.type c) (.type "frozenset")=pure false
 s3:(Value.type c==Value.type "dict")=false
 cl:o.cls=.type c
 itr:∀ (A1:Around) (s1:Shared) (Q1:Value→Shared→Prop) (E1:Value→Shared→Prop),s1.heap.get? l=some o→Q1 (.ref s1.heap.objs.size) { s1 with heap:=s1.heap.push it }→wpAny (model prog w) A1 (pyIter (.ref l)) Q1 E1 s1
 wk:∀ (A1:Around) (I:Addr),A1.handled=none→l≠I→∃ St,Walks prog w A1 I [I,l] [I] items.size (fun i v=>items[i]?=some v) St∧∀ h:Heap,h.get? I=some it→h.get? l=some o→St 0 h
 fr:it.isFreed=false
theorem src_list {l:Addr} {o:Obj} {items:Array Value} {n:Nat} (hc:o.cls=.type "list") (hd:o.data=.seq items n):SrcS prog w "list" l o { cls:=.type "list_iterator",data:=.fields #[.ref l,.int 0 0] } items where
 s1:=F.sub_list_set
 s2:=F.sub_list_frozenset
 s3:=by decide
 cl:=hc
 itr:=fun A1 s1 Q1 E1 h q=>wpAny_pyIter_list (items:=items) ⟨o,h,hc,n,hd⟩ q
 wk:=fun A1 I hh hne=>⟨_,Walks.list hh I l hne items,fun h h1 h2=>⟨⟨_,h1,rfl,rfl⟩,⟨o,h2,hc,n,hd⟩⟩⟩
 fr:=rfl
theorem src_tuple {l:Addr} {o:Obj} {items:Array Value} {n:Nat} (hc:o.cls=.type "tuple") (hd:o.data=.seq items n):SrcS prog w "tuple" l o { cls:=.type "tuple_iterator",data:=.fields #[.ref l,.int 0 0] } items where
 s1:=sub_tuple_set
 s2:=sub_tuple_frozenset
 s3:=by decide
 cl:=hc
 itr:=fun A1 s1 Q1 E1 h q=>wpAny_pyIter_tuple (items:=items) ⟨o,h,hc,n,hd⟩ q
 wk:=fun A1 I hh hne=>⟨_,Walks.tuple hh I l hne items,fun h h1 h2=>⟨⟨_,h1,rfl,rfl⟩,⟨o,h2,hc,n,hd⟩⟩⟩
 fr:=rfl
theorem call_set_of {c : String} {l : Addr} {o it : Obj} {items : Array Value} (X : SrcS prog w c l o it items) {ns : List Int} {Q : Value → Shared → Prop}
  (hh:A.handled=none) (hl:s.heap.get? l=some o) (hi:IntsAre items.toList ns) (hb:∀ k∈ns,0≤k∧k < 18)
  (h:∀ (h':Heap) (tk:Nat) (ks:List Int),SetW prog w h' s.heap.objs.size ks (ledOf w)→List.Perm ks (ns.foldl addK []) →
   (∀ b o,b < s.heap.objs.size→s.heap.get? b=some o→h'.get? b=some o)→s.toks≤tk→Q (.ref s.heap.objs.size) { s with heap:=h',toks:=tk }) :
  wpAny (model prog w) A (call (.type "set") [.ref l]) Q E s:=by
 obtain ⟨cc,tl,hmro⟩:=F.called_set.mro
 have hmade:=F.called_set.made
 have hsub:=F.called_set.sub
 refine wpAny_call (codeAny_of_tree ?_)
 show wpAny _ _ (callAny (.type "set") _) _ _ _
 refine wpAny_pure ⟨Code.quiet_builtin _ (by decide +kernel),codeAny_builtin F.entry_type_call ?_⟩
 rw [Around.under_plain (weight_type_call_type "set" [.ref l] []) rfl]
 have h1:=F.called_set.notType
 have h2:=F.called_set.canCreate
 have hct:=F.typeCall_set_1 (.ref l)
 repeat (any_goals (first | assumption | wp_step))
 refine codeAny_mono (code_set_new (.ref l) (E:=E) (Q₁:=fun obj s₁=>obj=.ref s.heap.objs.size∧s₁={ s with heap:=s.heap.push { cls:=.type "set",dict:=none,data:=.set #[] 0 (.fresh 0 0 (ledOf w)) } }) ⟨rfl,rfl⟩) fun r s₁ hr=>?_
 cases r with
 | error e=>exact hr
 | ok fl =>
  cases fl with
  | ret obj =>
   obtain ⟨rfl,rfl⟩:=hr
   have hS:(s.heap.push { cls:=.type "set",dict:=none,data:=.set #[] 0 (.fresh 0 0 (ledOf w)) }).get? s.heap.objs.size=some { cls:=.type "set",dict:=none,data:=.set #[] 0 (.fresh 0 0 (ledOf w)) }:=Heap.get?_push_size _ rfl
   have hT:Shared.TypeIs { s with heap:=s.heap.push { cls:=.type "set",dict:=none,data:=.set #[] 0 (.fresh 0 0 (ledOf w)) } } (.ref s.heap.objs.size) "set" := ⟨_,hS,rfl⟩
   have hli:=F.called_set.init.lookup
   have hbi:=F.called_set.init.bind (.ref s.heap.objs.size)
   repeat (any_goals (first | assumption | wp_step))
   refine codeAny_mono (codeAny_call_builtin (R:=wants (fun r s₂=>r=.none∧∃ h' tk ks,s₂={ s with heap:=h',toks:=tk }∧SetW prog w h' s.heap.objs.size ks (ledOf w)∧List.Perm ks (ns.foldl addK [])∧s.toks≤tk ∧
     (∀ b o,b < s.heap.objs.size→s.heap.get? b=some o→h'.get? b=some o)) E) F.called_set.init.plain F.entry_set_init (check_set_init_1 hT ?_)) fun r₂ s₂ hr₂=>?_
   ·have hol':(s.heap.push { cls:=.type "set",dict:=none,data:=.set #[] 0 (.fresh 0 0 (ledOf w)) }).get? l=some o:=Heap.get?_push_of_some _ hl
    have hTl:Shared.TypeIs { s with heap:=s.heap.push { cls:=.type "set",dict:=none,data:=.set #[] 0 (.fresh 0 0 (ledOf w)) } } (.ref l) c:=⟨o,hol',X.cl⟩
    have hsls:=X.s1
    have hslf:=X.s2
    have hne:=X.s3
    unfold Builtin.«set.__init__» noKeywords Builtin.Frozenset.updateFrom
    generalize hPI:pyIter=PI
    wp_walk
    subst hPI
    refine X.itr _ _ _ _ hol' ?_
    refine wpAny_bind (wpAny_runValue ?_)
    have hlS:l < s.heap.objs.size:=Heap.lt_size hl
    have hh3:A.in1.in1.in1.handled=none:=by simp [hh]
    have hneI:l≠(s.heap.push { cls:=.type "set",dict:=none,data:=.set #[] 0 (.fresh 0 0 (ledOf w)) }).objs.size:=by
     rw [Heap.size_push];exact Nat.ne_of_lt (Nat.lt_succ_of_lt hlS)
    have hSf:s.heap.objs.size∉[(s.heap.push { cls:=.type "set",dict:=none,data:=.set #[] 0 (.fresh 0 0 (ledOf w)) }).objs.size,l]:=by
     rw [Heap.size_push];simp only [List.mem_cons,List.mem_singleton,List.not_mem_nil,or_false,not_or]
     exact ⟨Nat.ne_of_lt (Nat.lt_succ_self _),Nat.ne_of_gt hlS⟩
    have hval:∀ (i:Nat) (v:Value),items[i]?=some v→∃ t,v=.int ((fun i=>ns.getD i 0) i) t:=fun i v hv =>
     IntsAre.int_at hi i v (by rw [Array.getElem?_toList];exact hv)
    have hlen:items.size=ns.length:=by rw [←Array.length_toList];exact IntsAre.length hi
    have hall:(List.range items.size).map (fun i=>ns.getD i 0)=ns:=by
     rw [hlen]
     apply List.ext_getElem
     ·simp
     ·intro i h1 h2;simp [h2]
    obtain ⟨St,W,hSt⟩:=X.wk A.in1.in1.in1 _ hh3 hneI
    have hget:((s.heap.push { cls:=.type "set",dict:=none,data:=.set #[] 0 (.fresh 0 0 (ledOf w)) }).push it).get? s.heap.objs.size=some { cls:=.type "set",dict:=none,data:=.set #[] 0 (.fresh 0 0 (ledOf w)) }:=Heap.get?_push_of_some _ hS
    refine update_loop W.toS s.heap.objs.size hSf (fun i=>ns.getD i 0) hval (fun i hi=>hb _ (by
     rw [List.getD_eq_getElem?_getD,List.getElem?_eq_getElem (by lia)]
     exact List.getElem_mem _)) (items.size-0) 0 _ [] (by lia) (Nat.zero_le _) (hSt _ (Heap.get?_push_size _ X.fr) (Heap.get?_push_of_some _ hol'))
     ⟨_,#[],0,.fresh 0 0 (ledOf w),hget,?_,rfl,trivial,.nil,fun k hk=>(nomatch hk),rfl,wok_fresh _ _ _,gok_fresh _ _ _⟩ (.refl _) ?_
    ·exact ⟨rfl,rfl,rfl⟩
    intro s' ks hm hS' hp'
    rw [hall] at hp'
    obtain ⟨h',g',d',tk',os'⟩:=s'
    have eg:g'=s.gens:=hm.gens
    have ed:d'=s.drawn:=hm.drawn
    have eo:os'=s.os:=hm.os
    have et:s.toks≤tk':=hm.toks
    subst eg;subst ed;subst eo
    show wpAny _ _ _ _ _ _
    refine wpAny_pure ?_
    show wpAny _ _ (ret Value.none) _ _ _
    refine wpAny_pure ⟨rfl,h',tk',ks,rfl,hS',hp',et,fun b o hb e=>?_⟩
    have hb1:b≠s.heap.objs.size:=Nat.ne_of_lt hb
    have hb2:b≠(s.heap.push { cls:=.type "set",dict:=none,data:=.set #[] 0 (.fresh 0 0 (ledOf w)) }).objs.size:=by
     rw [Heap.size_push];exact Nat.ne_of_lt (Nat.lt_succ_of_lt hb)
    exact hm.heap b o (by simp only [List.mem_cons,List.mem_singleton,List.not_mem_nil,or_false,not_or];exact ⟨hb1,hb2⟩) (Heap.get?_push_of_some _ (Heap.get?_push_of_some _ e))
   ·cases r₂ with
    | error e=>exact hr₂
    | ok fl₂ =>
     cases fl₂ with
     | ret r =>
      obtain ⟨rfl,h',tk,ks,rfl,hS',hp',ht,hk'⟩:=hr₂
      repeat (any_goals (first | assumption | wp_step))
      exact h _ _ ks hS' hp' hk' ht
     | _=>exact hr₂.elim
  | _=>exact hr.elim
end
end ZS
namespace ZS
open PySem PyProof.Rows
section
variable {prog:Program} {w:World} {A:Around} {E:Value→Shared→Prop} {s:Shared}
theorem eli_ints:∀ {es:List (Int×Value)} {ks:List Int},ElI prog w es ks→IntsAre (es.map (·.2)) ks
 | [],[],_=>.nil
 | e :: es,k :: ks,h=>by
  obtain ⟨⟨⟨t,ht⟩,_⟩,h2⟩:=h
  rw [List.map_cons,ht]
  exact .cons k t (eli_ints h2)
 | [],_ :: _,h=>h.elim
 | _ :: _,[],h=>h.elim
theorem items_eq {ord:List Value} {acc:Array Value} {n:Nat} (hn:ord.length=n) (h:ItemsOf (fun i v=>ord[i]?=some v) acc n):acc.toList=ord:=by
 apply List.ext_getElem?
 intro i
 rw [Array.getElem?_toList]
 by_cases hi:i < acc.size
 ·rw [Array.getElem?_eq_getElem hi]
  exact (h.2 i acc[i] (Array.getElem?_eq_getElem hi)).symm
 ·rw [Array.getElem?_eq_none (by lia),List.getElem?_eq_none (by have:=h.1;lia)]
theorem collect_set {a:Addr} {ks:List Int} {Q:List Value→Shared→Prop} (hh:A.handled=none) (hS:SetW prog w s.heap a ks (ledOf w))
  (hQ:∀ h' tk vs ns,IntsAre vs ns→List.Perm ns ks→(∀ b o,s.heap.get? b=some o→h'.get? b=some o)→s.heap.objs.size≤h'.objs.size→s.toks≤tk→Q vs { s with heap:=h',toks:=tk }):wpAny (model prog w) A (collect (.ref a)) Q E s:=by
 obtain ⟨o,es,ep,t,ho,hex,hd,hel,hnd,hb,hf,hw,hg⟩:=hS
 have hT0:s.TypeIs (.ref a) "set" := ⟨o,ho,hex.1⟩
 have hn12:es.size≤18:=by rw [eli_size hel];exact small_le hnd hb
 have hlt:a < s.heap.objs.size:=Heap.lt_size ho
 unfold collect
 refine wpAny_bind (wpAny_runValue (codeAny_builtin F.entry_proto_collect ?_))
 rw [Around.under_plainId F.plain_proto_collect _]
 show wpAny _ A.in1 (newList [] >>= fun l=>again (.builtin "list.__iadd__" ⟨[l,.ref a],[]⟩)) _ _ s
 refine wpAny_bind (wpAny_newObj_type ?_)
 refine wpAny_pure ⟨plainId_quiet F.plain_list_iadd _,codeAny_builtin F.entry_list_iadd ?_⟩
 rw [Around.under_plainId F.plain_list_iadd _]
 show wpAny _ A.in1 (Builtin.List.listExtendWith (.ref s.heap.objs.size) (.ref a) (.ref s.heap.objs.size)) _ _ _
 unfold Builtin.List.listExtendWith
 generalize hH1:s.heap.push { cls:=.type "list",data:=.seq ([]:List Value).toArray }=H1
 have hz1:H1.objs.size=s.heap.objs.size+1:=by rw [←hH1,Heap.size_push]
 have hS1:H1.get? s.heap.objs.size=some { cls:=.type "list",data:=.seq ([]:List Value).toArray }:=hH1▸Heap.get?_push_size _ rfl
 have up1:∀ b o,s.heap.get? b=some o→H1.get? b=some o:=fun b o e=>hH1▸Heap.get?_push_of_some _ e
 have hT1:Shared.TypeIs { s with heap:=H1 } (.ref a) "set" := ⟨o,up1 _ _ ho,hex.1⟩
 refine wpAny_bind (wpAny_typeOf hT1 ?_)
 have h1:Builtin.List.listSameRef (.ref s.heap.objs.size) (.ref a)=false:=by
  simp [Builtin.List.listSameRef]
  exact fun e=>Nat.lt_irrefl _ (by rw [e] at hlt;exact hlt)
 have h2:(Value.type "set" == Value.type "list")=false:=by decide
 have h3:(Value.type "set" == Value.type "tuple")=false:=by decide
 simp only [h1,h2,h3,Bool.or_false,Bool.false_eq_true,if_false]
 have hX1:SetX H1 a es ep t:=⟨o,up1 _ _ ho,hex,hd⟩
 refine wpAny_bind (iter_set (s:={ s with heap:=H1 }) hX1 hf hg.1 ?_)
 dsimp only
 generalize hH2:H1.push { cls:=.type "set_iterator",data:=.fields #[.int 0 0,.int 0 0,.ref a,.int es.size 0,.int ep 0] }=H2
 have hz2:H2.objs.size=s.heap.objs.size+2:=by rw [←hH2,Heap.size_push,hz1]
 have up2:∀ b o,H1.get? b=some o→H2.get? b=some o:=fun b o e=>hH2▸Heap.get?_push_of_some _ e
 have hI2:SetIt H2 H1.objs.size a 0 0 es.size ep:=⟨_,hH2▸Heap.get?_push_size _ rfl,rfl,rfl⟩
 refine wpAny_bind (wpAny_holding ?_)
 unfold Builtin.List.listLengthHint
 have hT2:Shared.TypeIs { s with heap:=H2 } (.ref a) "set" := ⟨o,up2 _ _ (up1 _ _ ho),hex.1⟩
 refine wpAny_bind (wpAny_specialOf hT2 set_len_look ?_)
 dsimp only
 rw [show splitId "set.__len__" = some ("set", "__len__") by decide +kernel]
 dsimp only
 refine wpAny_bind (wpAny_isInstance hT2 sub_set_set ?_)
 rw [Bool.not_true,if_neg Bool.false_ne_true]
 show wpAny _ _ (if _=true then _ else _) _ _ _
 rw [if_pos (by decide +kernel)]
 refine wpAny_bind (wpAny_typeOf hT2 (wpAny_pure ?_))
 rw [if_pos]
 rotate_left
 ·decide +kernel
 refine wpAny_bind (wpAny_rule ?_)
 refine wpAny_bind ?_
 have gs2:=up2 _ _ hS1
 show wpAny _ A.in1 (updateSeq s.heap.objs.size (·.push .none) >>= fun _=>updateSeq s.heap.objs.size (·.pop)) _ _ _
 refine wpAny_bind (wpAny_updateSeq gs2 rfl ?_)
 have gs3:=Heap.get?_update_self (Obj.mapSeq (·.push Value.none)) gs2 rfl
 refine wpAny_updateSeq gs3 rfl ?_
 have gs4:=Heap.get?_update_self (Obj.mapSeq (·.pop)) gs3 rfl
 have oth:∀ b o,b≠s.heap.objs.size→H2.get? b=some o→((H2.update s.heap.objs.size (Obj.mapSeq (·.push Value.none))).update s.heap.objs.size (Obj.mapSeq (·.pop))).get? b=some o :=
  fun b o hb e=>(Heap.get?_update_other _ _ (Ne.symm hb)).trans ((Heap.get?_update_other _ _ (Ne.symm hb)).trans e)
 generalize (H2.update s.heap.objs.size (Obj.mapSeq (·.push Value.none))).update s.heap.objs.size (Obj.mapSeq (·.pop))=H4 at gs4 oth
 have hneI:a≠H1.objs.size:=by lia
 have W:=walk_set (prog:=prog) (A:=A.in1) (by simp [hh]) H1.objs.size a hneI (ep:=ep) hf hw hg.1
 have hSf:s.heap.objs.size∉[H1.objs.size,a]:=by simp;lia
 have hsl:slotOf w t 0=0:=by unfold slotOf;split<;>rfl
 refine wpAny_pure ⟨plainId_quiet F.plain_extend_loop _,codeAny_extend_loopS W.toS (by rw [sizeLine_eq];lia) s.heap.objs.size hSf _ es.size 0 _ _ _ rfl (Nat.zero_le _) ⟨by rw [hsl];exact hI2.at fun o e=>oth _ o (by lia) e,hX1.at fun o e=>oth _ o (Nat.ne_of_lt hlt) (up2 _ _ e)⟩ gs4 (ItemsOf.nil _) fun s' acc' c' hm hS' hacc=>?_⟩
 show wpAny _ A (load s.heap.objs.size >>= _) _ _ s'
 refine wpAny_bind (wpAny_load hS' ?_)
 have hol:((ordOf w a es ep).map (·.2)).length=es.size:=by rw [List.length_map,(ord_perm w a es ep).length_eq];simp
 have hitems:=items_eq hol hacc
 obtain ⟨ns,pn,heln⟩:=eli_perm (ord_perm w a es ep).symm hel
 obtain ⟨h',g',d',tk',os'⟩:=s'
 have eg:g'=s.gens:=hm.gens
 have ed:d'=s.drawn:=hm.drawn
 have eo:os'=s.os:=hm.os
 have et:s.toks≤tk':=hm.toks
 subst eg;subst ed;subst eo
 have hkeep:∀ b o,s.heap.get? b=some o→h'.get? b=some o:=fun b o e=>hm.heap b o (by
  have:=Heap.lt_size e
  simp;lia) (oth _ _ (Nat.ne_of_lt (Heap.lt_size e)) (up2 _ _ (up1 _ _ e)))
 refine wpAny_pure ?_
 show Q acc'.toList _
 rw [hitems]
 exact hQ h' tk' _ ns (eli_ints heln) pn hkeep (Nat.le_of_lt (Heap.lt_size hS')) et
theorem sorted_set {a:Addr} {ks:List Int} {Q:Value→Shared→Prop} (hh:A.handled=none) (hS:SetW prog w s.heap a ks (ledOf w))
  (h:∀ h' tk l out c ns,IntsAre out ns→ns.Perm ks→ns.Pairwise (·≤·)→s.heap.objs.size≤l→h'.get? l=some (seqObj "list" out.toArray c)→(∀ b o,s.heap.get? b=some o→h'.get? b=some o)→s.toks≤tk→Q (.ref l) { s with heap:=h',toks:=tk }) :
  wpAny (model prog w) A (call (.builtin "sorted") [.ref a]) Q E s:=by
 have hn12:ks.length≤18:=by
  obtain ⟨o,es,ep,t,ho,hex,hd,hel,hnd,hb,_⟩:=hS
  exact small_le hnd hb
 refine Calls.call_function_entry kind_sorted plain_sorted entry_sorted (args_sorted1 (.ref a)) ?_
 delta Builtin.«sorted»
 refine wpAny_bind (wpAny_pure ?_)
 apply wpAny_bind
 refine collect_set (by simp [hh]) hS fun h1 tk vs ns hi hp hk hsz ht=>?_
 have hlen:vs.length≤18:=by rw [IntsAre.length hi,hp.length_eq];exact hn12
 apply wpAny_bind
 refine wpAny_newList ?_ (by rw [sizeLine_eq];lia)
 have gL:(h1.push (seqObj "list" vs.toArray 0)).get? h1.objs.size=some (seqObj "list" vs.toArray 0):=Heap.get?_push_size _ rfl
 show wpAny _ _ _ _ _ { s with heap:=h1.push (seqObj "list" vs.toArray 0),toks:=tk }
 apply wpAny_bind
 refine wpAny_holding (wpAny_call_entry slot_list_sort ⟨_,gL,rfl⟩ entry_list_sort (list_sort_tree gL hi (by lia) fun out ns' a1 a2 a3=>⟨_,rfl,?_⟩) (args_list_sort _))
 refine wpAny_pure ⟨_,rfl,?_⟩
 have gL2:((((h1.push (seqObj "list" vs.toArray 0)).update h1.objs.size (Obj.mapSeq fun _=>#[])).push (seqObj "tuple" vs.toArray 0)).push (seqObj "list" #[] 0)).get? h1.objs.size=some (seqObj "list" #[] _) :=
  Heap.get?_push_of_some _ (Heap.get?_push_of_some _ (get?_update_seq gL fun _=>#[]))
 have gL3:=get?_update_seq gL2 fun _=>out
 refine h _ tk h1.objs.size out.toList _ ns' a1 (a2.trans hp) a3 hsz (by rw [Array.toArray_toList];exact gL3) (fun b o e=>?_) ht
 have e1:=hk b o e
 have hne:h1.objs.size≠b:=fun z=>Nat.lt_irrefl _ (by have:=Heap.lt_size e1;rw [←z] at this;exact this)
 unfold sortedHeap
 rw [Heap.get?_update_other _ _ hne]
 refine Heap.get?_push_of_some _ (Heap.get?_push_of_some _ ?_)
 rw [Heap.get?_update_other _ _ hne]
 exact Heap.get?_push_of_some _ e1
end
end ZS
noncomputable section
namespace Z
def itsOf:List D→Option (List Int)
 | []=>some []
 | d :: r=>match d,itsOf r with
  | .int k,some ns=>some (k :: ns)
  | _,_=>none
def riseI (ns:List Int):List Int:=((List.range 18).map fun (n:Nat)=>(n:Int)).filter fun k=>ns.contains k
def sortKS:D→Res (List D)
 | .lst ds=>match itsOf ds with
  | some ns=>guard (∀ k∈ns,0≤k∧k < 18) (.ok ((riseI ns).map .int))
  | none=>.bad
 | .tup ds=>match itsOf ds with
  | some ns=>guard (∀ k∈ns,0≤k∧k < 18) (.ok ((riseI ns).map .int))
  | none=>.bad
 | _=>.bad
def lSortS (a:EF) (ρ:Env):Res (List D):=(a ρ).bind sortKS
theorem itsOf_ok:∀ {ds:List D} {ns:List Int},itsOf ds=some ns→ds=ns.map .int
 | [],ps,h=>by cases h;rfl
 | d :: r,ps,h=>by
  unfold itsOf at h
  split at h
  ·rename_i k qs e
   cases h
   rw [itsOf_ok e];rfl
  ·cases h
theorem itsOf_map:∀ (ns:List Int),itsOf (ns.map .int)=some ns
 | []=>rfl
 | p :: ps=>by
  rw [List.map_cons]
  unfold itsOf
  rw [itsOf_map ps]
theorem sortKS_ok {d:D} {ds:List D} (h:sortKS d=.ok ds):∃ ns:List Int,(d=.lst (ns.map .int)∨d=.tup (ns.map .int))∧(∀ k∈ns,0≤k∧k < 18)∧ds=(riseI ns).map .int:=by
 cases d with
 | lst xs =>
  unfold sortKS at h
  simp only at h
  split at h
  ·rename_i ps e
   obtain ⟨h1,h2⟩:=guard_ok h
   cases h2
   exact ⟨ps,.inl (by rw [itsOf_ok e]),h1,rfl⟩
  ·cases h
 | tup xs =>
  unfold sortKS at h
  simp only at h
  split at h
  ·rename_i ps e
   obtain ⟨h1,h2⟩:=guard_ok h
   cases h2
   exact ⟨ps,.inr (by rw [itsOf_ok e]),h1,rfl⟩
  ·cases h
 | _=>cases h
@[simp] theorem lSortS_a (a:EF) (ρ:Env):lSortS a ρ=(a ρ).bind sortKS:=rfl
theorem sortKS_l {ns:List Int} (h:∀ k∈ns,0≤k∧k < 18):sortKS (.lst (ns.map .int))=.ok ((riseI ns).map .int):=by
 unfold sortKS
 simp only [itsOf_map]
 exact guard_pos h
theorem riseI_up (ns:List Int):(riseI ns).Pairwise (· < ·):=by
 unfold riseI
 refine List.Pairwise.filter _ ?_
 rw [List.pairwise_map]
 exact List.pairwise_lt_range.imp fun h=>by lia
theorem riseI_mem {ns:List Int} (h:∀ k∈ns,0≤k∧k < 18) (k:Int):k∈riseI ns↔k∈ns:=by
 unfold riseI
 rw [List.mem_filter,List.contains_iff_mem]
 constructor
 ·exact fun z=>z.2
 ·intro z
  have:=h k z
  exact ⟨List.mem_map.mpr ⟨k.toNat,List.mem_range.mpr (by lia),by lia⟩,z⟩
theorem rise_eq {l l':List Int} (h:l.Pairwise (· < ·)) (h':l'.Pairwise (· < ·)) (m:∀ k,k∈l↔k∈l'):l=l':=by
 have n1:l.Nodup:=h.imp fun e=>by lia
 have n2:l'.Nodup:=h'.imp fun e=>by lia
 exact List.Perm.eq_of_pairwise (le:=fun a b=>a < b) (fun a b _ _ h1 h2=>by lia) h h' ((List.perm_ext_iff_of_nodup n1 n2).mpr m)
theorem riseI_eq {ns:List Int} (h:∀ k∈ns,0≤k∧k < 18):riseI ns=ns↔ns.Pairwise (· < ·):=by
 constructor
 ·intro e;rw [←e];exact riseI_up ns
 ·intro u;exact rise_eq (riseI_up ns) u (riseI_mem h)
end Z
end
namespace ZS
open PySem PySem.Spec PyProof.Rows L2 PySem.W
theorem addK_mem (k : Int) : ∀ (ns ks : List Int), k ∈ ns.foldl addK ks ↔ k ∈ ks ∨ k ∈ ns
 | [],ks=>by simp
 | n :: ns,ks=>by
  rw [List.foldl_cons,addK_mem k ns]
  unfold addK
  by_cases h:n∈ks
  ·rw [if_pos h]
   constructor
   ·rintro (z | z)
    ·exact .inl z
    ·exact .inr (List.mem_cons_of_mem _ z)
   ·rintro (z | z)
    ·exact .inl z
    ·rcases List.mem_cons.mp z with rfl | z
     ·exact .inl h
     ·exact .inr z
  ·rw [if_neg h,List.mem_append,List.mem_singleton,List.mem_cons]
   constructor
   ·rintro ((z | z) | z)
    ·exact .inl z
    ·exact .inr (.inl z)
    ·exact .inr (.inr z)
   ·rintro (z | z | z)
    ·exact .inl (.inl z)
    ·exact .inl (.inr z)
    ·exact .inr z
theorem setW_nd {prog:Program} {w:World} {h:Heap} {a:Addr} {ks:List Int} {led:Bool} (x:SetW prog w h a ks led):ks.Nodup:=let ⟨_,_,_,_,_,_,_,_,hn,_⟩:=x;hn
theorem ints_vals:∀ {ns:List Int} {us:List Value},Vals (ns.map V.int) us→IntsAre us ns
 | [],_,.nil=>.nil
 | n :: ns,_,.cons r rs=>by
  obtain ⟨t,rfl⟩:=r
  exact .cons n t (ints_vals rs)
theorem vals_ints:∀ {ns:List Int} {us:List Value},IntsAre us ns→Vals (ns.map V.int) us
 | [],_,.nil=>.nil
 | n :: ns,_,.cons _ t rs=>.cons ⟨t,rfl⟩ (vals_ints rs)
section
variable {X:Cx} {a:Expr} {pos p2:Pos} {fa:Z.EF}
def setO (X:Cx) (l:Addr) (ks:List Int):HO:=.ext fun h=>SetW X.prog X.w h l ks (ledOf X.w)
theorem call_setI (hc:X.calm=true):CallR X (.type "set") (fun xs H Q=>∃ (p:Addr) (ns:List Int),xs=[.ref p]∧(SqL X.K H p (ns.map .int)∨SqT X.K H p (ns.map .int))∧(∀ k∈ns,0≤k∧k < 18)∧∀ (l:Addr) (ks:List Int),H l=none→List.Perm ks (ns.foldl addK [])→Q (.ref l) (upd H l (setO X l ks))):=by
 intro pins s σ H xs us Q I r h
 obtain ⟨p,ns,rfl,hq,hb,q⟩:=h
 obtain ⟨u,rfl,rx⟩:=vals1 r
 cases rx
 have fin:∀ {c:String} {o it:Obj} {its:List Value},SrcS X.prog X.w c p o it its.toArray→s.heap.get? p=some o→Vals (ns.map V.int) its→wpAny (model X.prog X.w) X.A (call (.type "set") [.ref p]) (EP X pins σ Q) X.xe s:=by
  intro c o it its S ho rv
  refine call_set_of S (I.ok.hd hc) ho (ns:=ns) (by simpa using ints_vals rv) hb fun h' tk ks hS hp kp ht=>?_
  refine ⟨.ref s.heap.objs.size,_,I.laid (a:=s.heap.objs.size) (o:=setO X s.heap.objs.size ks) (t':=tk) (fun b u e=>kp b u (Heap.lt_size e) e) (Nat.le_refl _) ⟨hS,?_,fun h1 h2 f g=>setW_at f g⟩,rfl,q _ ks (I.hok.fresh (Nat.le_refl _)) hp⟩
  obtain ⟨o,es,ep,t,ho,_⟩:=hS
  exact ⟨o,ho⟩
 rcases hq with hq | hq
 ·obtain ⟨its,rv,⟨o,n,ho,hcl,hd,hs⟩,hz⟩:=I.list hq
  exact fin (src_list hcl hs) ho rv
 ·obtain ⟨its,rv,⟨o,ho,hcl,n,hd⟩,hz⟩:=I.tuple hq
  exact fin (src_tuple hcl hd) ho rv
theorem call_sortS (hc:X.calm=true):CallR X (.builtin "sorted") (fun xs H Q=>∃ (p:Addr) (ks:List Int),xs=[.ref p]∧H p=some (setO X p ks)∧∀ (l:Addr) (ns:List Int),H l=none→ns.Nodup→ns.Pairwise (·≤·)→(∀ k,k∈ns↔k∈ks)→Q (.ref l) (upd H l (.lst (ns.map .int)))):=by
 intro pins s σ H xs us Q I r h
 obtain ⟨p,ks,rfl,hp,q⟩:=h
 obtain ⟨u,rfl,rx⟩:=vals1 r
 cases rx
 have hS:SetW X.prog X.w s.heap p ks (ledOf X.w):=(show ObjOk X.prog X.w H s.heap p (setO X p ks) from I.hok p _ hp).1
 have hnd:=setW_nd hS
 refine sorted_set (I.ok.hd hc) hS fun h' tk l out c ns hi hpm hup hl hg kp ht=>?_
 have hlen:(ns.map V.int).length≤sizeLine:=by
  obtain ⟨o,es,ep,t,_,_,_,_,hnd,hb,_⟩:=hS
  have:=small_le hnd hb
  rw [List.length_map,hpm.length_eq,sizeLine_eq];lia
 exact ⟨.ref l,_,I.laid (a:=l) (o:=.lst (ns.map .int)) (t':=tk) kp hl ⟨hlen,out,c,vals_ints hi,hg⟩,rfl,q _ ns (I.hok.fresh hl) (hpm.nodup_iff.mpr hnd) hup fun k=>hpm.mem_iff⟩
theorem dens_its:∀ {ns:List Int} {vs:List V},Dens X.K H (ns.map Z.D.int) vs→vs=ns.map V.int
 | [],vs,d=>by simpa only [List.map_nil,Dens] using d
 | n :: ns,vs,d=>by
  simp only [List.map_cons,Dens,Den] at d
  obtain ⟨x,r,rfl,rfl,t⟩:=d
  rw [dens_its t];rfl
theorem its_dens {H:Hp}:∀ (ns:List Int),Dens X.K H (ns.map Z.D.int) (ns.map V.int)
 | []=>Dens.nil
 | n :: ns=>Dens.cons (by simp only [Den]) (its_dens ns)
theorem dl_sortS {x y : Str} {p1 p3 : Pos} (hg : Gl X x) (hm : X.mg x = none) (hv : bootBuiltins x = some (.builtin "sorted")) (hg2 : Gl X y) (hm2 : X.mg y = none) (hv2 : bootBuiltins y = some (.type "set")) (ha : DW X a fa) (hc : X.calm = true := by rfl)
  (hn:x ≠ "__name__" := by decide +kernel) (hdb:(x==("__debug__" : Str))=false:=by decide +kernel) (hn2:y ≠ "__name__" := by decide +kernel) (hdb2:(y==("__debug__" : Str))=false:=by decide +kernel)
  (he2:starEach (a :: []) X.env=(false,eval a X.env) :: starEach [] X.env:=by rfl) (hpl:(backTo pos (starEach [] X.env)).any (·.1)=false:=by rfl) (hpl2:(backTo p2 (starEach [] X.env)).any (·.1)=false:=by rfl)
  (he:starEach (.Call (.Name y p3) [a] [] p2 :: []) X.env=(false,eval (.Call (.Name y p3) [a] [] p2) X.env) :: starEach [] X.env:=by rfl):DL X (.Call (.Name x p1) [.Call (.Name y p3) [a] [] p2] [] pos) (Z.lSortS fa) :=
 PE.imp (pe_callB (call_sortS hc) hg hm hv (pa_cons (pe_callTy (call_setI hc) hg2 hm2 hv2 (pa_cons ha pa_nil he2) hn2 hdb2 he2 hpl2) pa_nil he) hn hdb he hpl) fun σ H Q ⟨ρ,d,r,e,k⟩=>by
  obtain ⟨x,ea,e⟩:=Z.Res.bind_ok e
  obtain ⟨ns,hd,hb,rfl⟩:=Z.sortKS_ok e
  refine ⟨ρ,_,r,ea,fun v H1 s1 d1=>?_⟩
  have key:∃ p,v=.ref p∧(SqL X.K H1 p (ns.map .int)∨SqT X.K H1 p (ns.map .int)):=by
   rcases hd with rfl | rfl
   ·obtain ⟨q,vs,rfl,hq,t⟩:=d1.lst
    rw [dens_its t] at hq
    exact ⟨q,rfl,.inl hq⟩
   ·obtain ⟨q,vs,rfl,hq,t⟩:=d1.tup
    rw [dens_its t] at hq
    exact ⟨q,rfl,.inr hq⟩
  obtain ⟨p,rfl,hq⟩:=key
  refine ⟨p,ns,rfl,hq,hb,fun l ks hl hp=>?_⟩
  refine ⟨l,ks,rfl,upd_same,fun l2 ms hl2 hnd hup hmem=>?_⟩
  have e2:ms=Z.riseI ns:=Z.rise_eq ((List.pairwise_and_iff.mpr ⟨hup,hnd⟩).imp fun h=>by lia) (Z.riseI_up ns) fun k=>by
   rw [hmem k,hp.mem_iff,addK_mem,Z.riseI_mem hb]
   simp
  subst e2
  have s2:Same H1 (upd H1 l (setO X l ks)):=upd_Same hl
  have s3:Same (upd H1 l (setO X l ks)) (upd (upd H1 l (setO X l ks)) l2 (.lst ((Z.riseI ns).map .int))):=upd_Same hl2
  exact k l2 _ _ (s1.trans (s2.trans s3)) (s1.free (s2.free hl2)) upd_same (its_dens _)
end
end ZS
namespace ZQ
open PySem PySem.Spec PyProof.Rows L2 ZS
theorem dl_sortS {X:Cx} {a:Expr} {pos p2:Pos} {fa:Z.EF} {x y:Str} {p1 p3:Pos} (hg:Gl X x) (hm:X.mg x=none) (hv:bootBuiltins x=some (.builtin "sorted")) (hg2:Gl X y) (hm2:X.mg y=none) (hv2:bootBuiltins y=some (.type "set")) (ha:QW X a fa) (hc:X.calm=true:=by rfl)
  (hn:x ≠ "__name__" := by decide +kernel) (hdb:(x==("__debug__" : Str))=false:=by decide +kernel) (hn2:y ≠ "__name__" := by decide +kernel) (hdb2:(y==("__debug__" : Str))=false:=by decide +kernel)
  (he2:starEach (a :: []) X.env=(false,eval a X.env) :: starEach [] X.env:=by rfl) (hpl:(backTo pos (starEach [] X.env)).any (·.1)=false:=by rfl) (hpl2:(backTo p2 (starEach [] X.env)).any (·.1)=false:=by rfl)
  (he:starEach (.Call (.Name y p3) [a] [] p2 :: []) X.env=(false,eval (.Call (.Name y p3) [a] [] p2) X.env) :: starEach [] X.env:=by rfl):QL X (.Call (.Name x p1) [.Call (.Name y p3) [a] [] p2] [] pos) (Z.lSortS fa):=⟨ZS.dl_sortS hg hm hv hg2 hm2 hv2 ha.p hc hn hdb hn2 hdb2 he2 hpl hpl2 he⟩
end ZQ
noncomputable section
namespace Z
def sTryN (b:SF) (xb:XF) (c:List Nat) (h:SF) (ρ:Env):Res Fl:=match xb ρ with
 | some c'=>if c'.1=c then (match h ρ with
  | .ok (.nx ρ')=>.ok (.nx ρ')
  | .ok (.rt d)=>.ok (.rt d)
  | _=>.bad) else .bad
 | none=>b ρ
def valI (kvs:List (List Nat×Int)) (k:List Nat):Option Int:=(kvs.find? fun kv=>decide (kv.1=k)).map (·.2)
def optI:Option Int→Res D
 | some n=>.ok (.int n)
 | none=>.bad
def dIxK (kvs:List (List Nat×Int)):D→Res D
 | .str k=>optI (valI kvs k)
 | _=>.bad
def eDIx (kvs:List (List Nat×Int)) (e:EF) (ρ:Env):Res D:=(e ρ).bind (dIxK kvs)
theorem dIxK_ok {kvs:List (List Nat×Int)} {k d:D} (h:dIxK kvs k=.ok d):∃ k' n,k=.str k'∧valI kvs k'=some n∧d=.int n:=by
 unfold dIxK at h
 split at h
 ·rename_i k'
  cases e:valI kvs k' with
  | none=>rw [e] at h;cases h
  | some v=>rw [e] at h;cases h;exact ⟨k',v,rfl,e,rfl⟩
 ·cases h
@[simp] theorem eDIx_a (kvs:List (List Nat×Int)) (e:EF) (ρ:Env):eDIx kvs e ρ=(e ρ).bind (dIxK kvs):=rfl
@[simp] theorem dIxK_a (kvs:List (List Nat×Int)) (k:List Nat):dIxK kvs (.str k)=optI (valI kvs k):=rfl
@[simp] theorem optI_a (n:Int):optI (some n)=.ok (.int n):=rfl
end Z
end
namespace ZS
open PySem PySem.Spec PyProof.Rows L2 PySem.W
section
variable {X:Cx} {H0:Hp} {a:Expr} {pos:Pos} {f:Z.XF}
theorem xr_set {i:Nat} {x:Str} {pos':Pos} (hN:X.N.Nodup) (hi:X.N[i]?=some x) (hx:Loc X.env.scope x) (h:XE X a f) (hs:swapsWith a (some (.Name x pos')) pos.line X.env=pure false:=by rfl) (hf:X.fn x=true∨X.env.scope.names.lookup x=some .local:=by first | exact .inl rfl | exact .inr rfl | assumption):XR X (.Assign [.Name x pos'] a pos) f:=ps_set hN hi hx h hs hf
theorem ds_tryN {body suite : List Stmt} {b0 : Stmt} {x : Str} {np hpos pos : Pos} {c : List Nat} {g h : Z.SF} {xb : Z.XF} (hex : X.ex = []) (hst : X.stack = X.env :: X.outer) (hfl : X.env.frame = some X.env.locals)
  (hg:Gl X x) (hcx:(⟨c.toArray⟩:Str)=x)
  (hb:DSs X.nox H0 body g) (hxb:∀ pn E,XRs (tryX X pn E) body xb) (hh:∀ ev,DSs (hanX X ev).nox H0 (b0 :: suite) h) (hdb:(x==("__debug__" : Str))=false:=by decide +kernel) :
  DS X H0 (.Try body [.ExceptHandler (some (.Name x np)) none (b0 :: suite) hpos] [] [] pos) (Z.sTryN g xb c h):=by
 intro pins s σ H D I hyp
 obtain ⟨ρ,fl,rs,e,k⟩:=hyp
 refine wpAny_Try_except ?_
 unfold Z.sTryN at e
 split at e
 ·rename_i c' ec
  split at e
  ·rename_i hc'
   subst hc'
   refine wpAny_mono (hxb (X.pn++pins) _ [] s σ H { nx:=fun _ _=>False,rt:=fun _ _=>False } (inv_try I _) ⟨ρ,c',rs.re,ec,fun pins' H' s' ex C dd sm xr J1 th1=>?_⟩) (fun f s1 q=>?_) fun _ _ z=>z
   rotate_left
   ·cases f with
    | next=>obtain ⟨_,_,_,z⟩:=q;exact z.elim
    | brk=>obtain ⟨_,_,_,z⟩:=q;exact z.elim
    | cont=>obtain ⟨_,_,_,z⟩:=q;exact z.elim
    | ret u=>obtain ⟨_,_,_,_,_,z⟩:=q;exact z.elim
   have J:=inv_of_try I.ok J1
   have xr:XRel X.K H' c' C dd:=xr
   have xc:XC X.K c'.1 C:=xr.1
   have hm:X.mg x=some (.ref C):=by
    have:=PySem.W.mg_of (mg:=X.mg) (h:=s'.heap) J.kIn (J.mod.glob.keeps J.bk) xc.1
    rw [hcx] at this;exact this
   refine note_thr hex hst hfl J (thr_of_try th1) fun s2 c2=>land c2 fun s3 c3=>?_
   obtain ⟨tl,ns,nm,qn,bs,hd,sn,sub,ab,col,dd',s0',s1',s2',s3',s5',hC,hbs⟩:=clsO c3.inv.kIn xc
   obtain ⟨oe,vs,_,_,_,he,hcl,_⟩:=c3.ex
   refine wpAny_handleBy_cons (codeAny_handlers_test (ld_globA c3.inv hg hm ?_ hdb)) (by intro q;cases q)
   refine wpAny_excMatches_sub_self hC he hcl hbs ?_
   refine codeAny_handlers_suite (land c3 fun s4 c4=>?_)
   have rs5:RS X.K H0 H' σ ρ:=rs.up sm
   split at e
   ·rename_i ρ' e'
    cases e
    refine wpAny_mono (hh (.ref ex) pins s4 _ _ { nx:=fun σ' H2=>D.nx σ' H2,rt:=fun _ _=>False } (inv_han c4.inv _) ⟨_,.nx ρ',rs5,e',fun σ' H2 st rs'=>k σ' H2 ((stb sm).trans st) rs'⟩) (fun f s6 q=>?_) fun _ _ z=>z.elim
    cases f with
    | next =>
     obtain ⟨σ',H2,I6,q⟩:=q
     exact ⟨_,H2,inv_of_han I.ok I6,q⟩
    | brk=>obtain ⟨_,_,_,z⟩:=q;exact z.elim
    | cont=>obtain ⟨_,_,_,z⟩:=q;exact z.elim
    | ret u=>obtain ⟨_,_,_,_,_,z⟩:=q;exact z.elim
   ·rename_i d e'
    cases e
    refine wpAny_mono (hh (.ref ex) pins s4 _ _ { nx:=fun _ _=>False,rt:=D.rt } (inv_han c4.inv _) ⟨_,.rt d,rs5,e',k⟩) (fun f s6 q=>?_) fun _ _ z=>z.elim
    cases f with
    | next=>obtain ⟨_,_,_,z⟩:=q;exact z.elim
    | brk=>obtain ⟨_,_,_,z⟩:=q;exact z.elim
    | cont=>obtain ⟨_,_,_,z⟩:=q;exact z.elim
    | ret u =>
     obtain ⟨v,σ',H2,I6,rv,q⟩:=q
     exact ⟨v,_,H2,inv_of_han I.ok I6,rv,q⟩
   ·cases e
  ·cases e
 ·refine wpAny_mono (hb pins s σ H D (I.wish _) ⟨ρ,fl,rs,e,k⟩) (fun f s1 q=>?_) fun _ _ z=>z.elim
  have q:=q.unwish
  cases f with
  | next=>exact wpAny_execs_nil q
  | brk=>exact q
  | cont=>exact q
  | ret u=>exact q
def kvJ (kvs:List (List Nat×Int)):List (Key×V):=kvs.map fun p=>(Sum.inr ⟨p.1.toArray⟩,V.int p.2)
theorem kvJ_val (kvs:List (List Nat×Int)) (k:List Nat):valV (kvJ kvs) (Sum.inr ⟨k.toArray⟩)=(Z.valI kvs k).map fun v=>V.int v:=by
 induction kvs with
 | nil=>rfl
 | cons x r ih =>
  by_cases h:x.1=k
  ·rw [show kvJ (x :: r)=(Sum.inr ⟨x.1.toArray⟩,V.int x.2) :: kvJ r from rfl,valV_pos (key_inj.mpr h)]
   unfold Z.valI
   rw [List.find?_cons,decide_eq_true h]
   rfl
  ·rw [show kvJ (x :: r)=(Sum.inr ⟨x.1.toArray⟩,V.int x.2) :: kvJ r from rfl,valV_neg (fun z=>h (key_inj.mp z)),ih]
   unfold Z.valI
   rw [List.find?_cons,decide_eq_false h]
def cI (kvs:List (List Nat×Int)):List (TE×TE):=kvs.map fun p=>(tC (.str ⟨p.1.toArray⟩),tC (.int p.2))
theorem pairs_cI (kvs:List (List Nat×Int)) (σ:St) (H:Hp) (Q:List (V×V)→Hp→Prop) (h:Q (kvs.map fun p=>(V.str ⟨p.1.toArray⟩,V.int p.2)) H):tPairs (cI kvs) σ H Q:=by
 induction kvs generalizing Q with
 | nil=>exact h
 | cons x r ih=>exact ih _ h
def ConstI (X:Cx) (pos:Pos) (ks:List (Option Expr)) (vs:List Expr) (kvs:List (List Nat×Int)):Prop:=PPs X pos ks vs (cI kvs)
theorem ci_nil:ConstI X pos [] [] []:=pps_nil
theorem ci_cons {ks:List (Option Expr)} {vs:List Expr} {kvs:List (List Nat×Int)} {x:Str} {n:Int} {j j':Nat} {q q':Pos} {k:List Nat} (hx:x=⟨k.toArray⟩) (h:ConstI X pos ks vs kvs) :
  ConstI X pos (some (.Constant (.str x) j q) :: ks) (.Constant (.int n) j' q' :: vs) ((k,n) :: kvs):=by
 subst hx
 exact pps_cons pe_str pe_int h
theorem de_dix (hu:X.A.units+64 < cLine) {ks:List (Option Expr)} {vs:List Expr} {kvs:List (List Nat×Int)} {kx:Expr} {p:Pos} {fk:Z.EF} (hc:ConstI X p ks vs kvs) (hk:DE X kx fk) (hm:mergeK [] (kvJ kvs)=kvJ kvs) (hl15:kvs.length≤15)
  (hall:ks.all (·.isSome)=true:=by rfl) (hl:ks.length=vs.length:=by rfl) (h0:ks≠[]:=by exact List.cons_ne_nil _ _) (h15:ks.length≤15:=by exact Nat.le_of_ble_eq_true rfl) (hs:NoSl kx:=by intro _ _;rfl) :
  DE X (.Subscript (.Dict ks vs p) kx pos) (Z.eDIx kvs fk):=PE.imp (pe_dget (by lia) (pe_disp hc hall hl h0 h15) hk hs) fun σ H Q ⟨ρ,d,r,e,k⟩=>by
 obtain ⟨dk,ek,e⟩:=Z.Res.bind_ok e
 obtain ⟨k',n,rfl,hv,rfl⟩:=Z.dIxK_ok e
 intro q hq
 refine pairs_cI kvs σ _ _ ?_
 refine ⟨upd_same,kvJ kvs,?_,by unfold kvJ;rw [List.length_map];exact hl15,?_⟩
 ·unfold kvJ
  rw [List.map_map]
  rfl
 ·rw [hm,upd_upd]
  have s1:Same H (upd H q (.dK (kvJ kvs))):=upd_Same hq
  refine ⟨ρ,_,r.up s1,ek,fun u H2 s2 d2=>?_⟩
  have d2':u=V.str (mkS k'):=by
   simp only [Den] at d2
   exact d2
  subst d2'
  have hq2:H2 q=some (.dK (kvJ kvs)):=s2 _ _ upd_same
  refine ⟨q,V.int n,rfl,?_,k _ _ (s1.trans s2) (by simp only [Den])⟩
  have g:=DGet.k (k:=Sum.inr (mkS k')) hq2
  have e2:valV (kvJ kvs) (Sum.inr (mkS k'))=some (V.int n):=by
   have:=kvJ_val kvs k'
   rw [hv] at this
   exact this
  rw [e2] at g
  exact g
end
end ZS
namespace ZQ
open PySem PySem.Spec PyProof.Rows L2 ZS PySem.W
section
variable {X:Cx} {H0:Hp} {a:Expr} {pos:Pos} {f:Z.XF}
theorem xr_set {i:Nat} {x:Str} {pos':Pos} (hN:X.N.Nodup) (hi:X.N[i]?=some x) (hx:Loc X.env.scope x) (h:QXE X a f) (hs:swapsWith a (some (.Name x pos')) pos.line X.env=pure false:=by rfl) (hf:X.fn x=true∨X.env.scope.names.lookup x=some .local:=by first | exact .inl rfl | exact .inr rfl | assumption):QXR X (.Assign [.Name x pos'] a pos) f:=⟨ZS.xr_set hN hi hx h.p hs hf⟩
theorem ds_tryN {body suite:List Stmt} {b0:Stmt} {x:Str} {np hpos pos:Pos} {c:List Nat} {g h:Z.SF} {xb:Z.XF} (hex:X.ex=[]) (hst:X.stack=X.env :: X.outer) (hfl:X.env.frame=some X.env.locals)
  (hg:Gl X x) (hcx:(⟨c.toArray⟩:Str)=x)
  (hb:QSs X.nox H0 body g) (hxb:∀ pn E,QXRs (tryX X pn E) body xb) (hh:∀ ev,QSs (hanX X ev).nox H0 (b0 :: suite) h) (hdb:(x==("__debug__" : Str))=false:=by decide +kernel) :
  QS X H0 (.Try body [.ExceptHandler (some (.Name x np)) none (b0 :: suite) hpos] [] [] pos) (Z.sTryN g xb c h):=⟨ZS.ds_tryN hex hst hfl hg hcx hb.p (fun pn E=>(hxb pn E).p) (fun ev=>(hh ev).p) hdb⟩
theorem de_dix (hu:X.A.units+64 < cLine) {ks:List (Option Expr)} {vs:List Expr} {kvs:List (List Nat×Int)} {kx:Expr} {p:Pos} {fk:Z.EF} (hc:ConstI X p ks vs kvs) (hk:QE X kx fk) (hm:mergeK [] (kvJ kvs)=kvJ kvs) (hl15:kvs.length≤15)
  (hall:ks.all (·.isSome)=true:=by rfl) (hl:ks.length=vs.length:=by rfl) (h0:ks≠[]:=by exact List.cons_ne_nil _ _) (h15:ks.length≤15:=by exact Nat.le_of_ble_eq_true rfl) (hs:NoSl kx:=by intro _ _;rfl) :
  QE X (.Subscript (.Dict ks vs p) kx pos) (Z.eDIx kvs fk):=⟨ZS.de_dix hu hc hk.p hm hl15 hall hl h0 h15 hs⟩
end
end ZQ
noncomputable section
namespace Z
def Ok {α:Type} (r:Res α) (Q:α→Prop):Prop:=∃ a,r=.ok a∧Q a
theorem Ok.intro {α:Type} {r:Res α} {Q:α→Prop} {a:α} (h:r=.ok a) (q:Q a):Ok r Q:=⟨a,h,q⟩
theorem Ok.imp {α:Type} {r:Res α} {P Q:α→Prop} (h:Ok r P) (k:∀ a,P a→Q a):Ok r Q:=let ⟨a,e,p⟩:=h;⟨a,e,k a p⟩
theorem Ok.eq {α:Type} {r:Res α} {a:α} (h:Ok r fun x=>x=a):r=.ok a:=by obtain ⟨x,e,rfl⟩:=h;exact e
@[simp] theorem Ok_ok {α:Type} (a:α) (Q:α→Prop):Ok (.ok a) Q↔Q a:=⟨fun ⟨_,e,q⟩=>by cases e;exact q,fun q=>⟨a,rfl,q⟩⟩
@[simp] theorem Ok_bad {α:Type} (Q:α→Prop):Ok (.bad:Res α) Q↔False:=⟨fun ⟨_,e,_⟩=>(by cases e),False.elim⟩
@[simp] theorem Ok_bind {α β:Type} (r:Res α) (f:α→Res β) (Q:β→Prop):Ok (r.bind f) Q↔Ok r fun a=>Ok (f a) Q:=by
 cases r with
 | ok a=>simp
 | bad=>simp
@[simp] theorem Ok_map {α β:Type} (r:Res α) (f:α→β) (Q:β→Prop):Ok (r.map f) Q↔Ok r fun a=>Q (f a):=by
 cases r with
 | ok a=>simp
 | bad=>simp
@[simp] theorem Ok_guard {α:Type} (p:Prop) (r:Res α) (Q:α→Prop):Ok (guard p r) Q↔p∧Ok r Q:=by
 constructor
 ·rintro ⟨a,e,q⟩
  obtain ⟨h,e⟩:=guard_ok e
  exact ⟨h,a,e,q⟩
 ·rintro ⟨h,k⟩
  rw [guard_pos h];exact k
@[simp] theorem Ok_ite {α:Type} {c:Prop} [Decidable c] (r r':Res α) (Q:α→Prop):Ok (if c then r else r') Q↔if c then Ok r Q else Ok r' Q:=by split<;>rfl
abbrev v (d:D):Option L:=some (.val d)
abbrev vi (i:Int):Option L:=some (.val (.int i))
abbrev vs (cs:List Nat):Option L:=some (.val (.str cs))
abbrev ow (xs:List D):Option L:=some (.own xs)
def asW:Option (Option L)→Res D
 | some (some (.val d))=>.ok d
 | some (some (.own xs))=>.ok (.lst xs)
 | some (some (.bor xs))=>.ok (.lst xs)
 | _=>.bad
def asV:Option (Option L)→Res D
 | some (some (.val d))=>.ok d
 | _=>.bad
@[simp] theorem eW_a (i:Nat) (ρ:Env):eW i ρ=asW ρ[i]?:=by
 unfold eW asW
 cases ρ[i]? with
 | none=>rfl
 | some o=>cases o with
  | none=>rfl
  | some l=>cases l<;>rfl
@[simp] theorem eV_a (i:Nat) (ρ:Env):eV i ρ=asV ρ[i]?:=by
 unfold eV asV
 cases ρ[i]? with
 | none=>rfl
 | some o=>cases o with
  | none=>rfl
  | some l=>cases l<;>rfl
@[simp] theorem asW_val (d:D):asW (some (some (.val d)))=.ok d:=rfl
@[simp] theorem asW_own (xs:List D):asW (some (some (.own xs)))=.ok (.lst xs):=rfl
@[simp] theorem asW_bor (xs:List D):asW (some (some (.bor xs)))=.ok (.lst xs):=rfl
@[simp] theorem asV_val (d:D):asV (some (some (.val d)))=.ok d:=rfl
theorem ret_ok {b:SF} {ρ:Env} {d:D} (h:Ok (b ρ) fun fl=>retK (.ok fl)=.ok d):retK (b ρ)=.ok d:=by
 obtain ⟨fl,e,q⟩:=h;rw [e,q]
theorem ret_Ok {b:SF} {ρ:Env} {P:D→Prop} (h:Ok (b ρ) fun fl=>Ok (retK (.ok fl)) P):Ok (retK (b ρ)) P:=by
 obtain ⟨fl,e,q⟩:=h;rw [e];exact q
@[simp] theorem sCont_a (ρ:Env):sCont ρ=.ok (.ct ρ):=rfl
@[simp] theorem sBreak_a (ρ:Env):sBreak ρ=.ok (.bk ρ):=rfl
@[simp] theorem sGet_a (e:EF) (g:GF) (ρ:Env):sGet e g ρ=(e ρ).bind fun d=>(g d ρ).bind fun ρ'=>.ok (.nx ρ'):=rfl
@[simp] theorem gTup2 (i j:Nat) (a b:D) (ρ:Env):gTup [i,j] (.tup [a,b]) ρ=.ok ((ρ.set i (v a)).set j (v b)):=rfl
def appK (i:Nat) (ρ:Env) (d:D):Option (Option L)→Res Fl
 | some (some (.own xs))=>guard (xs.length < line) (.ok (.nx (ρ.set i (ow (xs++[d])))))
 | _=>.bad
@[simp] theorem sAppend_a (i:Nat) (e:EF) (ρ:Env):sAppend i e ρ=(e ρ).bind fun d=>appK i ρ d ρ[i]?:=rfl
@[simp] theorem appK_own (i:Nat) (ρ:Env) (d:D) (xs:List D):appK i ρ d (some (some (.own xs)))=guard (xs.length < line) (.ok (.nx (ρ.set i (ow (xs++[d]))))):=rfl
def extK (i:Nat) (ρ:Env) (ys:List D):Option (Option L)→Res Fl
 | some (some (.own xs))=>guard (xs.length+ys.length≤line) (.ok (.nx (ρ.set i (ow (xs++ys)))))
 | _=>.bad
@[simp] theorem sExt_a (i:Nat) (l:LF) (ρ:Env):sExt i l ρ=(l ρ).bind fun ys=>extK i ρ ys ρ[i]?:=rfl
@[simp] theorem extK_own (i:Nat) (ρ:Env) (ys xs:List D):extK i ρ ys (some (some (.own xs)))=guard (xs.length+ys.length≤line) (.ok (.nx (ρ.set i (ow (xs++ys))))):=rfl
def frzK (i:Nat) (ρ:Env):Option (Option L)→Env
 | some (some (.own xs))=>ρ.set i (v (.lst xs))
 | _=>ρ
@[simp] theorem sFrz_a (i:Nat) (a:SF) (ρ:Env):sFrz i a ρ=a (frzK i ρ ρ[i]?):=by
 unfold sFrz frz frzK
 cases ρ[i]? with
 | none=>rfl
 | some o=>cases o with
  | none=>rfl
  | some l=>cases l<;>rfl
@[simp] theorem frzK_own (i:Nat) (ρ:Env) (xs:List D):frzK i ρ (some (some (.own xs)))=ρ.set i (v (.lst xs)):=rfl
@[simp] theorem frzK_val (i:Nat) (ρ:Env) (d:D):frzK i ρ (some (some (.val d)))=ρ:=rfl
@[simp] theorem frzK_none (i:Nat) (ρ:Env):frzK i ρ (some none)=ρ:=rfl
def catK:D→D→Res (List D)
 | .lst xs,.lst ys=>guard (xs.length+ys.length≤line) (.ok (xs++ys))
 | _,_=>.bad
theorem lCat_k (a b:EF) (ρ:Env):lCat a b ρ=(a ρ).bind fun x=>(b ρ).bind fun y=>catK x y:=rfl
@[simp] theorem catK_lst (xs ys:List D):catK (.lst xs) (.lst ys)=guard (xs.length+ys.length≤line) (.ok (xs++ys)):=rfl
def slK (l h:Option Int):D→Res (List D)
 | .lst xs=>.ok (cut xs l h)
 | _=>.bad
theorem lSl_k (a:EF) (lo hi:PF) (ρ:Env):lSl a lo hi ρ=(a ρ).bind fun x=>(lo ρ).bind fun l=>(hi ρ).bind fun h=>slK l h x:=rfl
@[simp] theorem slK_lst (l h:Option Int) (xs:List D):slK l h (.lst xs)=.ok (cut xs l h):=rfl
@[simp] theorem oSl_tup (xs:List D) (l h:Option Int):oSl (.tup xs) l h=.ok (.tup (cut xs l h)):=rfl
@[simp] theorem oSl_str' (cs:List Nat) (l h:Option Int):oSl (.str cs) l h=guard (cs.length≤line) (.ok (.str (cut cs l h))):=rfl
@[simp] theorem oAdd_str' (a b:List Nat):oAdd (.str a) (.str b)=guard (a.length+b.length≤line) (.ok (.str (a++b))):=rfl
@[simp] theorem oAdd_tup' (a b:List D):oAdd (.tup a) (.tup b)=guard (a.length+b.length≤line) (.ok (.tup (a++b))):=rfl
@[simp] theorem oNeg_int (a:Int):oNeg (.int a)=.ok (.int (-a)):=rfl
@[simp] theorem oIsN_non:oIsN .non=.ok (.bl true):=rfl
@[simp] theorem oIsN_tup (xs:List D):oIsN (.tup xs)=.ok (.bl false):=rfl
@[simp] theorem oNotN_non:oNotN .non=.ok (.bl false):=rfl
@[simp] theorem oNotN_tup (xs:List D):oNotN (.tup xs)=.ok (.bl true):=rfl
theorem oPow_nat (a b:Nat) (hb:b≤1000000) (ha:a < 18446744073709551616):oPow (.int (a:Int)) (.int (b:Int))=.ok (.int ((a ^ b:Nat):Int)):=by
 have h:(0:Int)≤b∧(b:Int)≤1000000∧(a:Int).natAbs < 2 ^ 64:=⟨by lia,by lia,by rw [Int.natAbs_natCast];exact ha⟩
 show guard _ _=_
 rw [guard_pos h,Int.toNat_natCast,Int.natCast_pow]
@[simp] theorem p10_60:oPow (.int 10) (.int 60)=.ok (.int 1000000000000000000000000000000000000000000000000000000000000):=oPow_nat 10 60 (by decide) (by decide)
@[simp] theorem p10_59:oPow (.int 10) (.int 59)=.ok (.int 100000000000000000000000000000000000000000000000000000000000):=oPow_nat 10 59 (by decide) (by decide)
@[simp] theorem p10_55:oPow (.int 10) (.int 55)=.ok (.int 10000000000000000000000000000000000000000000000000000000):=oPow_nat 10 55 (by decide) (by decide)
@[simp] theorem p10_50:oPow (.int 10) (.int 50)=.ok (.int 100000000000000000000000000000000000000000000000000):=oPow_nat 10 50 (by decide) (by decide)
@[simp] theorem p7919_9:oPow (.int 7919) (.int 9)=.ok (.int 122470950010456506152021579891552879):=oPow_nat 7919 9 (by decide) (by decide)
def atK:Option D→Res D
 | some d=>.ok d
 | none=>.bad
@[simp] theorem atK_some (d:D):atK (some d)=.ok d:=rfl
theorem oIx_tup (xs:List D) (i:Int):oIx (.tup xs) (.int i)=atK ((ixZ xs.length i).bind fun j=>xs[j]?):=by
 show (match (ixZ xs.length i).bind fun j=>xs[j]? with | some v=>Res.ok v | none=>.bad)=_
 cases (ixZ xs.length i).bind fun j=>xs[j]?<;>rfl
theorem oIx_lst (xs:List D) (i:Int):oIx (.lst xs) (.int i)=atK ((ixZ xs.length i).bind fun j=>xs[j]?):=by
 show (match (ixZ xs.length i).bind fun j=>xs[j]? with | some v=>Res.ok v | none=>.bad)=_
 cases (ixZ xs.length i).bind fun j=>xs[j]?<;>rfl
theorem ix_at {xs:List D} {i:Int} {j:Nat} {d:D} (h:i=j) (e:xs[j]?=some d):oIx (.tup xs) (.int i)=.ok d∧oIx (.lst xs) (.int i)=.ok d:=by
 subst h
 have hj:j < xs.length:=(List.getElem?_eq_some_iff.mp e).1
 have:ixZ xs.length (j:Int)=some j:=by simp [ixZ,hj]
 rw [oIx_tup,oIx_lst,this]
 simp [e]
theorem ix_some {xs:List D} {i:Int} (h0:0≤i) (h1:i < xs.length):∃ d∈xs,oIx (.lst xs) (.int i)=.ok d∧oIx (.tup xs) (.int i)=.ok d:=by
 have hj:i.toNat < xs.length:=by lia
 refine ⟨xs[i.toNat],List.getElem_mem hj,?_⟩
 have:=ix_at (xs:=xs) (i:=i) (j:=i.toNat) (d:=xs[i.toNat]) (by lia) (List.getElem?_eq_getElem hj)
 exact ⟨this.2,this.1⟩
def turn (I:Env→Prop) (Q:Fl→Prop):Fl→Prop
 | .nx ρ=>I ρ
 | .ct ρ=>I ρ
 | .bk ρ=>Q (.nx ρ)
 | .rt d=>Q (.rt d)
@[simp] theorem turn_nx (I:Env→Prop) (Q:Fl→Prop) (ρ:Env):turn I Q (.nx ρ)↔I ρ:=Iff.rfl
@[simp] theorem turn_ct (I:Env→Prop) (Q:Fl→Prop) (ρ:Env):turn I Q (.ct ρ)↔I ρ:=Iff.rfl
@[simp] theorem turn_bk (I:Env→Prop) (Q:Fl→Prop) (ρ:Env):turn I Q (.bk ρ)↔Q (.nx ρ):=Iff.rfl
@[simp] theorem turn_rt (I:Env→Prop) (Q:Fl→Prop) (d:D):turn I Q (.rt d)↔Q (.rt d):=Iff.rfl
theorem for_ix {g:GF} {b:SF} {Q:Fl→Prop} (I:Nat→Env→Prop):∀ (ds:List D) (ρ:Env) (i:Nat),I i ρ→(∀ j d ρ,ds[j]?=some d→I (i+j) ρ→Ok (g d ρ) fun ρ1=>Ok (b ρ1) (turn (I (i+j+1)) Q))→(∀ ρ,I (i+ds.length) ρ→Q (.nx ρ))→Ok (forGo g b ds ρ) Q
 | [],ρ,i,h,_,e=>by simpa [forGo] using e ρ h
 | d :: ds,ρ,i,h,k,e=>by
  obtain ⟨ρ1,e1,fl,e2,t⟩:=k 0 d ρ rfl h
  have ih:=fun ρ' (h':I (i+1) ρ')=>for_ix I (g:=g) (b:=b) (Q:=Q) ds ρ' (i+1) h' (fun j x ρ hj hP=>by
   have:=k (j+1) x ρ (by simpa using hj) (by simpa [Nat.add_assoc,Nat.add_comm 1 j] using hP)
   simpa [Nat.add_assoc,Nat.add_comm 1 j] using this) (fun ρ hP=>e ρ (by simpa [Nat.add_assoc,Nat.add_comm 1] using hP))
  unfold forGo
  rw [e1,Res.ok_bind,e2,Res.ok_bind]
  cases fl with
  | nx ρ'=>exact ih ρ' (by simpa using t)
  | ct ρ'=>exact ih ρ' (by simpa using t)
  | bk ρ'=>simpa using t
  | rt d=>simpa using t
theorem for_at {g:GF} {b:SF} {Q:Fl→Prop} (I:Nat→Env→Prop) {ds:List D} {ρ:Env} (h0:I 0 ρ) (hs:∀ j d ρ,ds[j]?=some d→I j ρ→Ok (g d ρ) fun ρ1=>Ok (b ρ1) (turn (I (j+1)) Q)) (he:∀ ρ,I ds.length ρ→Q (.nx ρ)):Ok (forGo g b ds ρ) Q :=
 for_ix I ds ρ 0 h0 (fun j d ρ hd hI=>by rw [Nat.zero_add] at hI ⊢;exact hs j d ρ hd hI) (fun ρ h=>he ρ (by rwa [Nat.zero_add] at h))
theorem for_all {g:GF} {b:SF} {Q:Fl→Prop} (I:Env→Prop) {ds:List D} {ρ:Env} (h0:I ρ) (hs:∀ d∈ds,∀ ρ,I ρ→Ok (g d ρ) fun ρ1=>Ok (b ρ1) (turn I Q)) (he:∀ ρ,I ρ→Q (.nx ρ)):Ok (forGo g b ds ρ) Q :=
 for_at (fun _=>I) h0 (fun j d ρ hd hI=>hs d (List.mem_of_getElem? hd) ρ hI) he
theorem comp_enc {α:Type} (enc:α→D) {g:GF} {t:TF} {e:EF} {ρ:Env} (f:α→Bool) (h:α→D):∀ {xs:List α} {Q:List D→Prop},(∀ x∈xs,Ok (g (enc x) ρ) fun ρ1=>Ok (t ρ1) fun c=>c=f x∧(f x=true→Ok (e ρ1) fun y=>y=h x))→Q ((xs.filter f).map h)→Ok (compGo g t e ρ (xs.map enc)) Q:=by
 intro xs Q hs hq
 refine ⟨_,?_,hq⟩
 clear hq
 induction xs with
 | nil=>rfl
 | cons x xs ih =>
  obtain ⟨ρ1,e1,c,e2,hc,k⟩:=hs x List.mem_cons_self
  have ih':=ih fun y hy=>hs y (List.mem_cons_of_mem _ hy)
  cases hf:f x with
  | true =>
   rw [hf] at hc
   have:=(k hf).eq
   simp [compGo,e1,e2,hc,this,ih',hf]
  | false =>
   rw [hf] at hc
   simp [compGo,e1,e2,hc,ih',hf]
theorem allEq_map {α:Type} [DecidableEq α] {f:D→D→Option Bool} {h:α→D} (k:∀ x y,f (h x) (h y)=some (decide (x=y))):∀ (xs ys:List α),allEq f (xs.map h) (ys.map h)=some (decide (xs=ys))
 | [],[]=>rfl
 | [],_ :: _=>rfl
 | _ :: _,[]=>rfl
 | x :: xs,y :: ys=>by simp [allEq,k,allEq_map k xs ys]
end Z
end
set_option maxRecDepth 4000
noncomputable section
namespace KA
open Z
def b_is_letter:SF:=(sRet (eAnd (eB oEq (eU oLen (eW 0)) (eC (.int 1))) (eChain oLe oLe (eC (.str [97])) (eW 0) (eC (.str [122])))))
def fn_is_letter:List D→Res D:=fn 1 1 b_is_letter
theorem fe_is_letter (x0:D):fn_is_letter [x0]=retK (b_is_letter [some (.val x0)]):=fn_a _ _ _ _ rfl
def b_law_cell_at:SF:=(sSeq (sIf (tE (eB oLt (eW 1) (eU oLen (eW 0)))) (sRet (eB oIx (eW 0) (eW 1))) sNext) (sRet (eC (.int 0))))
def fn_law_cell_at:List D→Res D:=fn 2 2 b_law_cell_at
theorem fe_law_cell_at (x0 x1:D):fn_law_cell_at [x0,x1]=retK (b_law_cell_at [some (.val x0),some (.val x1)]):=fn_a _ _ _ _ rfl
def b_law_mixed:SF:=(sSeq (sIf (tE (eB oEq (eB oMod (eB oDiv (eW 0) (eC (.int 1000003))) (eC (.int 2))) (eC (.int 1)))) (sRet (eB oMod (eB oShr (eB oDiv (eW 0) (eC (.int 2000006))) (eB oMul (eC (.int 12)) (eW 1))) (eC (.int 4096)))) sNext) (sSeq (sSet 2 (eB oMod (eB oMul (eB oAdd (eB oAdd (eB oMod (eW 0) (eC (.int 2147483647))) (eB oMul (eB oMul (eC (.int 7919)) (eW 1)) (eW 1))) (eW 1)) (eC (.int 48271))) (eC (.int 2147483647)))) (sSeq (sSet 2 (eB oMod (eB oMul (eW 2) (eW 2)) (eC (.int 1000003)))) (sRet (eB oMod (eB oAdd (eB oAdd (eB oMul (eW 2) (eW 2)) (eB oMul (eC (.int 69621)) (eW 2))) (eW 1)) (eC (.int 998244353)))))))
def fn_law_mixed:List D→Res D:=fn 2 3 b_law_mixed
theorem fe_law_mixed (x0 x1:D):fn_law_mixed [x0,x1]=retK (b_law_mixed [some (.val x0),some (.val x1),none]):=fn_a _ _ _ _ rfl
def b_law_letters:SF:=(sSeq (sSet 1 (eC (.str letters))) (sRet (eL (lDisp (aCons (eB oIx (eW 1) (eB oMod (eB oDiv (eW 0) (eC (.int 100))) (eC (.int 26)))) (aCons (eB oIx (eW 1) (eB oMod (eB oDiv (eW 0) (eC (.int 2600))) (eC (.int 26)))) aNil))))))
def fn_law_letters:List D→Res D:=fn 1 2 b_law_letters
theorem fe_law_letters (x0:D):fn_law_letters [x0]=retK (b_law_letters [some (.val x0),none]):=fn_a _ _ _ _ rfl
def b_law_hall:SF:=(sSeq (sSet 4 (eB oAdd (eC (.int 1)) (eB oMod (eW 1) (eW 2)))) (sSeq (sSet 5 (eB oAdd (eC (.int 1)) (eB oMod (eB oDiv (eW 1) (eC (.int 8))) (eW 3)))) (sSeq (sSet 6 (eL (lCat (eL (lCat (eL (lDisp (aCons (eC (.str [46])) (aCons (eC (.str [46])) (aCons (eC (.str [61])) (aCons (eC (.str [46])) aNil)))))) (eCall fn_law_letters (aCons (eV 1) aNil)))) (eL (lDisp (aCons (eC (.str [35])) (aCons (eC (.str [46])) aNil))))))) (sSeq (sSet 7 (eCall fn_law_cell_at (aCons (eV 0) (aCons (eC (.int 0)) aNil)))) (sSeq (sOwn 8 (lDisp aNil)) (sSeq (sFor (iRng1 (eB oMul (eW 4) (eW 5))) (gName 9) (sSeq (sIf (tE (eB oEq (eB oMod (eW 9) (eW 5)) (eC (.int 0)))) (sAppend 8 (eC (.str []))) sNext) (sSeq (sSet 10 (eB oIx (eW 6) (eB oMod (eCall fn_law_mixed (aCons (eCall fn_law_cell_at (aCons (eV 0) (aCons (eV 9) aNil))) (aCons (eV 9) aNil))) (eC (.int 8))))) (sSeq (sIf (tE (eB oEq (eB oMod (eB oDiv (eW 1) (eC (.int 67600))) (eC (.int 2))) (eC (.int 1)))) (sSeq (sSet 10 (eB oIx (eC (.str signs)) (eB oMod (eW 7) (eC (.int 29))))) (sSet 7 (eB oDiv (eW 7) (eC (.int 29))))) sNext) (sPut 8 (eU oNeg (eC (.int 1))) (eB oAdd (eB oIx (eW 8) (eU oNeg (eC (.int 1)))) (eW 10))))))) (sRet (eU oTuple (eW 8)))))))))
def fn_law_hall:List D→Res D:=fn 4 11 b_law_hall
theorem fe_law_hall (x0 x1 x2 x3:D):fn_law_hall [x0,x1,x2,x3]=retK (b_law_hall [some (.val x0),some (.val x1),some (.val x2),some (.val x3),none,none,none,none,none,none,none]):=fn_a _ _ _ _ rfl
end KA
end
set_option maxRecDepth 8000
namespace KA
open Z
def Ints (xs:List D):Prop:=∀ d∈xs,∃ c,d=.int c
theorem cell_at {xs:List D} (hx:Ints xs) {k:Int} (h:0≤k):∃ c,fn_law_cell_at [.lst xs,.int k]=.ok (.int c):=by
 by_cases hk:k < xs.length
 ·obtain ⟨d,hd,e,_⟩:=ix_some h hk
  obtain ⟨c,rfl⟩:=hx d hd
  refine ⟨c,?_⟩
  rw [fe_law_cell_at]
  refine ret_ok ?_
  simp [b_law_cell_at,hk,e]
 ·refine ⟨0,?_⟩
  rw [fe_law_cell_at]
  refine ret_ok ?_
  simp [b_law_cell_at,hk]
theorem mixed (c:Int) {k:Int} (h0:0≤k) (h1:k≤1000):∃ m,fn_law_mixed [.int c,.int k]=.ok (.int m)∧0≤m:=by
 have f1:mulFits 12 k:=mulFits_l (by decide) (by decide)
 have f2:mulFits 7919 k:=mulFits_l (by decide) (by decide)
 have f3:mulFits (7919*k) k:=mulFits_r (by lia) (by lia)
 have f4:∀ x,mulFits x 48271:=fun x=>mulFits_r (by decide) (by decide)
 have f5:∀ x:Int,mulFits (x % 2147483647) (x % 2147483647):=fun x=>mulFits_l (by lia) (by lia)
 have f6:∀ x:Int,mulFits (x % 1000003) (x % 1000003):=fun x=>mulFits_l (by lia) (by lia)
 have f7:∀ x:Int,mulFits 69621 x:=fun x=>mulFits_l (by decide) (by decide)
 have hk:(0:Int)≤12*k:=by lia
 rw [fe_law_mixed]
 have:Ok (retK (b_law_mixed [v (.int c),v (.int k),none])) fun d=>∃ m,d=.int m∧0≤m:=by
  refine ret_Ok ?_
  by_cases h:c / 1000003 % 2=1
  ·simp [b_law_mixed,divFits_of,f1,hk,h]
   lia
  ·simp [b_law_mixed,divFits_of,f1,f2,f3,f4,f5,f6,f7,hk,h]
   lia
 obtain ⟨d,e,m,rfl,hm⟩:=this
 exact ⟨m,e,hm⟩
theorem letter_at (z:Int):∃ q∈letters,oIx (.str letters) (.int (z % 26))=.ok (.str [q]) :=
 ix_str (by lia) (by simp [letters];lia) (by decide)
theorem sign_of (z:Int):∃ q∈signs,oIx (.str signs) (.int (z % 29))=.ok (.str [q]) :=
 ix_str (by lia) (by simp [signs];lia) (by decide)
theorem letters_sign {q:Nat} (h:q∈letters):q∈signs:=(by decide:∀ q∈letters,q∈signs) q h
theorem letters_ok (h:Int):∃ a b,a∈letters∧b∈letters∧fn_law_letters [.int h]=.ok (.lst [.str [a],.str [b]]):=by
 obtain ⟨a,ha,ea⟩:=letter_at (h / 100)
 obtain ⟨b,hb,eb⟩:=letter_at (h / 2600)
 refine ⟨a,b,ha,hb,?_⟩
 rw [fe_law_letters]
 refine ret_ok ?_
 simp [b_law_letters,divFits_of,ea,eb,line]
abbrev Rows:=List (List Nat)
def Shape (L:Nat) (k:Nat) (rows:Rows):Prop:=(k=0∧rows=[])∨∃ full last,rows=full++[last]∧(∀ x∈full,x.length=L)∧1≤last.length∧last.length≤L∧k=full.length*L+last.length
theorem Shape.end {L R:Nat} {rows:Rows} (hL:1≤L) (hR:1≤R) (h:Shape L (R*L) rows):rows.length=R∧∀ x∈rows,x.length=L:=by
 rcases h with ⟨h,_⟩ | ⟨full,last,rfl,hf,h1,h2,h3⟩
 ·have:=Nat.mul_le_mul hR hL;lia
 ·have hlt:full.length < R:=by
   apply Nat.lt_of_mul_lt_mul_right (a:=L)
   lia
  obtain ⟨m,hm⟩:∃ m,R=full.length+1+m:=⟨R-(full.length+1),by lia⟩
  have e:R*L=full.length*L+L+m*L:=by rw [hm,Nat.add_mul,Nat.add_mul,Nat.one_mul]
  have hm0:m=0:=by
   rcases Nat.eq_zero_or_pos m with h | h
   ·exact h
   ·have:=Nat.mul_le_mul h hL;lia
  subst hm0
  refine ⟨by simp;lia,fun x hx=>?_⟩
  rcases List.mem_append.mp hx with hx | hx
  ·exact hf x hx
  ·rw [List.mem_singleton] at hx;subst hx;lia
theorem Shape.len {L k:Nat} {rows:Rows} (hL:1≤L) (h:Shape L k rows):rows.length≤k:=by
 rcases h with ⟨h,rfl⟩ | ⟨full,last,rfl,hf,h1,h2,h3⟩
 ·simp
 ·have:full.length*1≤full.length*L:=Nat.mul_le_mul_left _ hL
  simp;lia
def fresh (L j:Nat) (rows:Rows):Rows:=if j % L=0 then rows++[[]] else rows
theorem Shape.step {L j : Nat} {rows : Rows} (hL : 1 ≤ L) (h : Shape L j rows) : ∃ full last, fresh L j rows = full ++ [last] ∧ last.length < L ∧ (∀ s, Shape L (j + 1) (full ++ [last ++ [s]])) ∧ ((∀ x ∈ rows, ∀ c ∈ x, c ∈ signs) → (∀ x ∈ full, ∀ c ∈ x, c ∈ signs) ∧ ∀ c ∈ last, c ∈ signs) := by
 rcases h with ⟨rfl,rfl⟩ | ⟨full,last,rfl,hf,h1,h2,h3⟩
 ·refine ⟨[],[],by simp [fresh],by simp;lia,fun s=>Or.inr ⟨[],[s],rfl,by simp,by simp,by simpa using hL,by simp⟩,by simp⟩
 ·by_cases e:last.length=L
  ·have e0:j % L=0:=by rw [h3,e,←Nat.succ_mul];exact Nat.mul_mod_left _ _
   refine ⟨full++[last],[],by simp [fresh,e0],by simp;lia,fun s=>Or.inr ⟨full++[last],[s],rfl,?_,by simp,by simpa using hL,?_⟩,fun h=>⟨h,by simp⟩⟩
   ·intro x hx
    rcases List.mem_append.mp hx with hx | hx
    ·exact hf x hx
    ·rw [List.mem_singleton] at hx;subst hx;exact e
   ·simp [Nat.succ_mul];lia
  ·have e0:j % L≠0:=by
    rw [h3,Nat.add_comm,Nat.add_mul_mod_self_right,Nat.mod_eq_of_lt (by lia)];lia
   refine ⟨full,last,by simp [fresh,e0],by lia,fun s=>Or.inr ⟨full,last++[s],rfl,hf,by simp,by simp;lia,by simp;lia⟩,fun h=>⟨fun x hx=>h x (List.mem_append_left _ hx),h last (by simp)⟩⟩
structure Hall (R L:Nat) (rows:Rows):Prop where
 r1:1≤R
 r2:R≤6
 l1:1≤L
 l2:L≤12
 len:rows.length=R
 each:∀ x∈rows,x.length=L
 sg:∀ x∈rows,∀ c∈x,c∈signs
noncomputable def bApp:SF:=(sIf (tE (eB oEq (eB oMod (eW 9) (eW 5)) (eC (.int 0)))) (sAppend 8 (eC (.str []))) sNext)
theorem app_ok (x0 x1 x2 x3 x4 x6 x7 x10:Option Z.L) (L j:Nat) (hL:1≤L) (rows:Rows) (hr:rows.length < 16777216):bApp [x0,x1,x2,x3,x4,vi L,x6,x7,ow (rows.map .str),vi j,x10]=.ok (.nx [x0,x1,x2,x3,x4,vi L,x6,x7,ow ((fresh L j rows).map .str),vi j,x10]):=by
 have h0:0 < L:=by lia
 by_cases e:j % L=0
 ·have e':(j:Int) % (L:Int)=0:=by exact_mod_cast e
  simp [bApp,h0,e',fresh,e,hr,line,guard_pos]
 ·have e':¬ (j:Int) % (L:Int)=0:=by exact_mod_cast e
  simp [bApp,h0,e',fresh,e,hr,line]
noncomputable def bCell:SF:=(sSet 10 (eB oIx (eW 6) (eB oMod (eCall fn_law_mixed (aCons (eCall fn_law_cell_at (aCons (eV 0) (aCons (eV 9) aNil))) (aCons (eV 9) aNil))) (eC (.int 8)))))
def Sg (sg:List D):Prop:=sg.length=8∧∀ d∈sg,∃ c∈signs,d=.str [c]
theorem cell_ok {xs sg:List D} (hx:Ints xs) (hs:Sg sg) (j:Nat) (hj:j≤1000) (x1 x2 x3 x4 x5 x7 x8 x10:Option Z.L):∃ s∈signs,bCell [v (.lst xs),x1,x2,x3,x4,x5,v (.lst sg),x7,x8,vi j,x10]=.ok (.nx [v (.lst xs),x1,x2,x3,x4,x5,v (.lst sg),x7,x8,vi j,vs [s]]):=by
 obtain ⟨c,ec⟩:=cell_at hx (k:=(j:Int)) (by lia)
 obtain ⟨m,em,hm⟩:=mixed c (k:=(j:Int)) (by lia) (by lia)
 obtain ⟨d,hd,ed,_⟩:=ix_some (xs:=sg) (i:=m % 8) (Int.emod_nonneg _ (by decide)) (by rw [hs.1];lia)
 obtain ⟨s,hs,rfl⟩:=hs.2 d hd
 exact ⟨s,hs,by simp [bCell,ec,em,ed]⟩
noncomputable def bMode:SF:=(sIf (tE (eB oEq (eB oMod (eB oDiv (eW 1) (eC (.int 67600))) (eC (.int 2))) (eC (.int 1)))) (sSeq (sSet 10 (eB oIx (eC (.str signs)) (eB oMod (eW 7) (eC (.int 29))))) (sSet 7 (eB oDiv (eW 7) (eC (.int 29))))) sNext)
theorem mode_ok (h c:Int) (s:Nat) (hs:s∈signs) (x0 x2 x3 x4 x5 x6 x8 x9:Option Z.L):∃ c',∃ s'∈signs,bMode [x0,vi h,x2,x3,x4,x5,x6,vi c,x8,x9,vs [s]]=.ok (.nx [x0,vi h,x2,x3,x4,x5,x6,vi c',x8,x9,vs [s']]):=by
 obtain ⟨a,ha,ea⟩:=sign_of c
 by_cases e:h / 67600 % 2=1
 ·exact ⟨c / 29,a,ha,by simp [bMode,divFits_of,guard_pos,e,ea]⟩
 ·exact ⟨c,s,hs,by simp [bMode,divFits_of,guard_pos,e]⟩
theorem ix_last (full:Rows) (last:List Nat):oIx (.lst ((full++[last]).map D.str)) (.int (-1))=.ok (.str last):=by
 have e:ixZ ((full++[last]).map D.str).length (-1)=some full.length:=by
  simp [ixZ];lia
 simp only [oIx,e]
 simp
theorem put_last (full:Rows) (last s:List Nat):ixZ ((full++[last]).map D.str).length (-1)=some full.length∧((full++[last]).map D.str).set full.length (.str s)=(full++[s]).map D.str:=by
 refine ⟨by simp [ixZ];lia,?_⟩
 simp
noncomputable def bPut:SF:=(sPut 8 (eU oNeg (eC (.int 1))) (eB oAdd (eB oIx (eW 8) (eU oNeg (eC (.int 1)))) (eW 10)))
theorem put_ok (full:Rows) (last:List Nat) (s:Nat) (hl:last.length < 100) (x0 x1 x2 x3 x4 x5 x6 x7 x9:Option Z.L):bPut [x0,x1,x2,x3,x4,x5,x6,x7,ow ((full++[last]).map .str),x9,vs [s]]=.ok (.nx [x0,x1,x2,x3,x4,x5,x6,x7,ow ((full++[last++[s]]).map .str),x9,vs [s]]):=by
 have e1:=ix_last full last
 obtain ⟨e2,e3⟩:=put_last full last (last++[s])
 have e4:oAdd (.str last) (.str [s])=.ok (.str (last++[s])):=by rw [oAdd_str',guard_pos];simp [line];lia
 simp only [bPut,sPut,eB_a,eU_a,eC_a,eW_a,asW_val,asW_own,oNeg_int,Res.bind,List.getElem?_cons_succ,List.getElem?_cons_zero,e1,e4,e2,e3,List.set_cons_succ,List.set_cons_zero]
theorem eb:b_law_hall=(sSeq (sSet 4 (eB oAdd (eC (.int 1)) (eB oMod (eW 1) (eW 2)))) (sSeq (sSet 5 (eB oAdd (eC (.int 1)) (eB oMod (eB oDiv (eW 1) (eC (.int 8))) (eW 3)))) (sSeq (sSet 6 (eL (lCat (eL (lCat (eL (lDisp (aCons (eC (.str [46])) (aCons (eC (.str [46])) (aCons (eC (.str [61])) (aCons (eC (.str [46])) aNil)))))) (eCall fn_law_letters (aCons (eV 1) aNil)))) (eL (lDisp (aCons (eC (.str [35])) (aCons (eC (.str [46])) aNil))))))) (sSeq (sSet 7 (eCall fn_law_cell_at (aCons (eV 0) (aCons (eC (.int 0)) aNil)))) (sSeq (sOwn 8 (lDisp aNil)) (sSeq (sFor (iRng1 (eB oMul (eW 4) (eW 5))) (gName 9) (sSeq bApp (sSeq bCell (sSeq bMode bPut)))) (sRet (eU oTuple (eW 8))))))))):=rfl
theorem hall {xs:List D} (hx:Ints xs) (h:Int):∃ (R L:Nat) (rows:Rows),Hall R L rows∧fn_law_hall [.lst xs,.int h,.int 6,.int 12]=.ok (.tup (rows.map .str)):=by
 obtain ⟨R,hR⟩:∃ R:Nat,1+h % 6=R:=⟨(1+h % 6).toNat,by lia⟩
 obtain ⟨L,hL⟩:∃ L:Nat,1+h / 8 % 12=L:=⟨(1+h / 8 % 12).toNat,by lia⟩
 have r1:1≤R:=by lia
 have r2:R≤6:=by lia
 have l1:1≤L:=by lia
 have l2:L≤12:=by lia
 have rl:R*L≤72:=Nat.mul_le_mul r2 l2
 have f1:mulFits (R:Int) (L:Int):=mulFits_l (by lia) (by lia)
 have eR:((R:Int)*(L:Int)).toNat=R*L:=by rw [←Int.natCast_mul,Int.toNat_natCast]
 obtain ⟨c0,e0⟩:=cell_at hx (k:=0) (by decide)
 obtain ⟨a,b,ha,hb,el⟩:=letters_ok h
 have hsg:Sg [.str [46],.str [46],.str [61],.str [46],.str [a],.str [b],.str [35],.str [46]]:=by
  refine ⟨rfl,fun d hd=>?_⟩
  have k46:46∈signs:=by decide
  have k61:61∈signs:=by decide
  have k35:35∈signs:=by decide
  simp only [List.mem_cons,List.not_mem_nil,or_false] at hd
  rcases hd with rfl | rfl | rfl | rfl | rfl | rfl | rfl | rfl
  ·exact ⟨_,k46,rfl⟩
  ·exact ⟨_,k46,rfl⟩
  ·exact ⟨_,k61,rfl⟩
  ·exact ⟨_,k46,rfl⟩
  ·exact ⟨_,letters_sign ha,rfl⟩
  ·exact ⟨_,letters_sign hb,rfl⟩
  ·exact ⟨_,k35,rfl⟩
  ·exact ⟨_,k46,rfl⟩
 have:Ok (retK (b_law_hall [v (.lst xs),v (.int h),v (.int 6),v (.int 12),none,none,none,none,none,none,none])) fun d=>∃ rows,Hall R L rows∧d=.tup (rows.map .str):=by
  refine ret_Ok ?_
  rw [eb]
  simp [divFits_of,hR,hL,lCat_k,el,line,e0,f1,eR]
  refine for_at (fun i ρ=>∃ rows c o9 o10,Shape L i rows∧(∀ x∈rows,∀ c∈x,c∈signs)∧ρ=[v (.lst xs),vi h,vi 6,vi 12,vi R,vi L,v (.lst [.str [46],.str [46],.str [61],.str [46],.str [a],.str [b],.str [35],.str [46]]),vi c,ow (rows.map .str),o9,o10]) ⟨[],c0,none,none,.inl ⟨rfl,rfl⟩,by simp,rfl⟩ ?_ ?_
  ·rintro j d ρ hd ⟨rows,c,o9,o10,hsh,hsn,rfl⟩
   obtain ⟨hj,rfl⟩:=ints_at hd
   obtain ⟨full,last,ef,hl,hn,hsn2⟩:=hsh.step l1
   have hr:rows.length < 16777216:=by have:=hsh.len l1;lia
   obtain ⟨s,hs,es⟩:=cell_ok hx hsg j (by lia) (vi h) (vi 6) (vi 12) (vi R) (vi L) (vi c) (ow ((fresh L j rows).map .str)) o10
   obtain ⟨c',s',hs',em⟩:=mode_ok h c s hs (v (.lst xs)) (vi 6) (vi 12) (vi R) (vi L) (v (.lst [.str [46],.str [46],.str [61],.str [46],.str [a],.str [b],.str [35],.str [46]])) (ow ((fresh L j rows).map .str)) (vi j)
   have q1:=app_ok (v (.lst xs)) (vi h) (vi 6) (vi 12) (vi R) (v (.lst [.str [46],.str [46],.str [61],.str [46],.str [a],.str [b],.str [35],.str [46]])) (vi c) o10 L j l1 rows hr
   have q2:=put_ok full last s' (by lia) (v (.lst xs)) (vi h) (vi 6) (vi 12) (vi R) (vi L) (v (.lst [.str [46],.str [46],.str [61],.str [46],.str [a],.str [b],.str [35],.str [46]])) (vi c') (vi j)
   rw [←ef] at q2
   refine ⟨_,rfl,?_⟩
   simp only [List.set_cons_succ,List.set_cons_zero]
   rw [sSeq_a,q1,Res.bind,seqK_nx,sSeq_a,es,Res.bind,seqK_nx,sSeq_a,em,Res.bind,seqK_nx,q2]
   refine ⟨_,rfl,full++[last++[s']],c',_,_,hn s',?_,rfl⟩
   obtain ⟨g1,g2⟩:=hsn2 hsn
   intro x hx c hc
   rcases List.mem_append.mp hx with hx | hx
   ·exact g1 x hx c hc
   ·rw [List.mem_singleton] at hx
    subst hx
    rcases List.mem_append.mp hc with hc | hc
    ·exact g2 c hc
    ·rw [List.mem_singleton] at hc;subst hc;exact hs'
  ·rintro ρ ⟨rows,c,o9,o10,hsh,hsn,rfl⟩
   rw [ints_len] at hsh
   obtain ⟨q1,q2⟩:=hsh.end l1 r1
   simp
   exact ⟨rows,⟨r1,r2,l1,l2,q1,q2,hsn⟩,rfl⟩
 rw [←fe_law_hall] at this
 obtain ⟨d,e,rows,H,rfl⟩:=this
 exact ⟨R,L,rows,H,e⟩
theorem is_letter_one (c:Nat):fn_is_letter [.str [c]]=.ok (.bl (decide (97≤c)&&decide (c≤122))):=by
 rw [fe_is_letter]
 refine ret_ok ?_
 by_cases h1:c < 97
 ·simp [b_is_letter,ltC,line,h1,Nat.not_le.mpr h1]
 ·by_cases h2:122 < c
  ·simp [b_is_letter,ltC,line,h1,h2,Nat.not_le.mpr h2,Nat.not_lt.mp h1]
  ·simp [b_is_letter,ltC,line,h1,h2,Nat.not_lt.mp h1,Nat.not_lt.mp h2]
theorem all_map {α:Type} (f:α→Bool) (xs:List α):allB (xs.map fun x=>D.bl (f x))=some (xs.all f):=by
 have:=allB_bl (xs.map f)
 rw [List.map_map] at this
 rw [show (xs.map fun x=>D.bl (f x))=xs.map (D.bl∘f) from rfl,this]
 congr 1
 induction xs with
 | nil=>rfl
 | cons x xs ih=>simp
def rowC (cs:List Nat):Bool:=decide (1≤cs.length∧cs.length≤12)&&cs.all fun c=>decide (c∈signs)
def rowB:D→Bool
 | .str cs=>rowC cs
 | _=>false
def Fit (d:D):Prop:=∀ cs,d=.str cs→cs.length≤1000
def lenD:D→Nat
 | .str cs=>cs.length
 | _=>0
def hallT (xs:List D):Bool:=decide (1≤xs.length∧xs.length≤6)&&xs.all rowB&&xs.all fun d=>lenD d==lenD (xs.headD .non)
theorem Hall.b {R L:Nat} {rows:Rows} (H:Hall R L rows):hallT (rows.map .str)=true:=by
 unfold hallT
 have h1:=H.r1
 have h2:=H.r2
 have h3:=H.l1
 have h4:=H.l2
 simp only [Bool.and_eq_true,decide_eq_true_eq,List.length_map,H.len,List.all_eq_true]
 refine ⟨⟨⟨h1,h2⟩,fun d hd=>?_⟩,fun d hd=>?_⟩
 ·obtain ⟨r,hr,rfl⟩:=List.mem_map.mp hd
  simp only [rowB,rowC,Bool.and_eq_true,decide_eq_true_eq,List.all_eq_true,H.each r hr]
  exact ⟨⟨h3,h4⟩,H.sg r hr⟩
 ·obtain ⟨r,hr,rfl⟩:=List.mem_map.mp hd
  cases rows with
  | nil=>cases hr
  | cons x xs=>simp [lenD,H.each r hr,H.each x List.mem_cons_self]
end KA
set_option maxRecDepth 4000
noncomputable section
namespace KS
open Z KA
def t_0:List Nat:=[48,49,50,51,52,53,54,55,56,57]
def b_is_whole:SF:=(sRet (eAnd (eU (oIsTy .int) (eW 0)) (eNot (eU (oIsTy .bool) (eW 0)))))
def fn_is_whole:List D→Res D:=fn 1 1 b_is_whole
theorem fe_is_whole (x0:D):fn_is_whole [x0]=retK (b_is_whole [some (.val x0)]):=fn_a _ _ _ _ rfl
def b_is_whole_within:SF:=(sRet (eAnd (eCall fn_is_whole (aCons (eV 0) aNil)) (eChain oLe oLe (eW 1) (eW 0) (eW 2))))
def fn_is_whole_within:List D→Res D:=fn 3 3 b_is_whole_within
theorem fe_is_whole_within (x0 x1 x2:D):fn_is_whole_within [x0,x1,x2]=retK (b_is_whole_within [some (.val x0),some (.val x1),some (.val x2)]):=fn_a _ _ _ _ rfl
def b_is_name:SF:=(sSeq (sIf (tOr (tNot (tE (eU (oIsTy .str) (eW 0)))) (tNot (tE (eChain oLe oLe (eC (.int 1)) (eU oLen (eW 0)) (eC (.int 8)))))) (sRet (eC (.bl false))) sNext) (sRet (eU oAll (eL (lComp (iSeq (eW 0)) 1 [] (gName 0) tTrue (eCall KA.fn_is_letter (aCons (eV 0) aNil)))))))
def fn_is_name:List D→Res D:=fn 1 1 b_is_name
theorem fe_is_name (x0:D):fn_is_name [x0]=retK (b_is_name [some (.val x0)]):=fn_a _ _ _ _ rfl
def b_is_kind:SF:=(sRet (eAnd (eU (oIsTy .str) (eW 0)) (eOr (eB oEq (eW 0) (eC (.str []))) (eCall KA.fn_is_letter (aCons (eV 0) aNil)))))
def fn_is_kind:List D→Res D:=fn 1 1 b_is_kind
theorem fe_is_kind (x0:D):fn_is_kind [x0]=retK (b_is_kind [some (.val x0)]):=fn_a _ _ _ _ rfl
def b_is_amount:SF:=(sRet (eCall fn_is_whole_within (aCons (eV 0) (aCons (eV 1) (aCons (eB oSub (eB oPow (eC (.int 10)) (eC (.int 60))) (eC (.int 1))) aNil)))))
def fn_is_amount:List D→Res D:=fn 2 2 b_is_amount
theorem fe_is_amount (x0 x1:D):fn_is_amount [x0,x1]=retK (b_is_amount [some (.val x0),some (.val x1)]):=fn_a _ _ _ _ rfl
def b_is_wish:SF:=(sSeq (sIf (tOr (tNot (tE (eU (oIsTy .tuple) (eW 0)))) (tE (eB oNe (eU oLen (eW 0)) (eC (.int 2))))) (sRet (eC (.bl false))) sNext) (sRet (eAnd (eCall fn_is_whole_within (aCons (eB oIx (eW 0) (eC (.int 0))) (aCons (eC (.int 0)) (aCons (eC (.int 5)) aNil)))) (eCall fn_is_amount (aCons (eB oIx (eW 0) (eC (.int 1))) (aCons (eC (.int 1)) aNil))))))
def fn_is_wish:List D→Res D:=fn 1 1 b_is_wish
theorem fe_is_wish (x0:D):fn_is_wish [x0]=retK (b_is_wish [some (.val x0)]):=fn_a _ _ _ _ rfl
def b_are_wishes:SF:=(sSeq (sIf (tOr (tNot (tE (eU (oIsTy .tuple) (eW 0)))) (tNot (tE (eU oAll (eL (lComp (iSeq (eW 0)) 1 [] (gName 0) tTrue (eCall fn_is_wish (aCons (eV 0) aNil)))))))) (sRet (eC (.bl false))) sNext) (sRet (eU oAll (eL (lComp (iRng1 (eB oSub (eU oLen (eW 0)) (eC (.int 1)))) 1 [0] (gName 0) tTrue (eB oLt (eB oIx (eB oIx (eW 1) (eW 0)) (eC (.int 0))) (eB oIx (eB oIx (eW 1) (eB oAdd (eW 0) (eC (.int 1)))) (eC (.int 0)))))))))
def fn_are_wishes:List D→Res D:=fn 1 1 b_are_wishes
theorem fe_are_wishes (x0:D):fn_are_wishes [x0]=retK (b_are_wishes [some (.val x0)]):=fn_a _ _ _ _ rfl
def b_asks_for_seats:SF:=(sSeq (sIf (tNot (tE (eCall fn_is_whole_within (aCons (eB oIx (eW 0) (eC (.int 1))) (aCons (eC (.int 1)) (aCons (eC (.int 12)) aNil)))))) (sRet (eC (.bl false))) sNext) (sSeq (sIf (tNot (tE (eCall fn_is_whole_within (aCons (eB oIx (eW 0) (eC (.int 2))) (aCons (eC (.int 1)) (aCons (eC (.int 3)) aNil)))))) (sRet (eC (.bl false))) sNext) (sSeq (sIf (tNot (tE (eCall fn_is_whole_within (aCons (eB oIx (eW 0) (eC (.int 4))) (aCons (eC (.int 0)) (aCons (eB oMul (eB oIx (eW 0) (eC (.int 1))) (eB oIx (eW 0) (eC (.int 2)))) aNil)))))) (sRet (eC (.bl false))) sNext) (sRet (eAnd (eCall fn_is_kind (aCons (eB oIx (eW 0) (eC (.int 3))) aNil)) (eCall fn_is_whole_within (aCons (eB oIx (eW 0) (eC (.int 5))) (aCons (eC (.int 0)) (aCons (eC (.int 6)) aNil)))))))))
def fn_asks_for_seats:List D→Res D:=fn 1 1 b_asks_for_seats
theorem fe_asks_for_seats (x0:D):fn_asks_for_seats [x0]=retK (b_asks_for_seats [some (.val x0)]):=fn_a _ _ _ _ rfl
def b_is_group:SF:=(sSeq (sIf (tOr (tNot (tE (eU (oIsTy .tuple) (eW 0)))) (tE (eB oNe (eU oLen (eW 0)) (eC (.int 8))))) (sRet (eC (.bl false))) sNext) (sSeq (sIf (tOr (tNot (tE (eCall fn_is_name (aCons (eB oIx (eW 0) (eC (.int 0))) aNil)))) (tNot (tE (eCall fn_asks_for_seats (aCons (eV 0) aNil))))) (sRet (eC (.bl false))) sNext) (sRet (eAnd (eCall fn_is_amount (aCons (eB oIx (eW 0) (eC (.int 6))) (aCons (eC (.int 0)) aNil))) (eCall fn_are_wishes (aCons (eB oIx (eW 0) (eC (.int 7))) aNil))))))
def fn_is_group:List D→Res D:=fn 1 1 b_is_group
theorem fe_is_group (x0:D):fn_is_group [x0]=retK (b_is_group [some (.val x0)]):=fn_a _ _ _ _ rfl
def b_show_group:SF:=(sSeq (sOwn 1 (lDisp (aCons (eB oIx (eW 0) (eC (.int 0))) (aCons (eB oAdd (eB oAdd (eU oStr (eB oIx (eW 0) (eC (.int 1)))) (eC (.str [120]))) (eU oStr (eB oIx (eW 0) (eC (.int 2))))) aNil)))) (sSeq (sIf (tE (eB oNe (eB oIx (eW 0) (eC (.int 3))) (eC (.str [])))) (sExt 1 (lDisp (aCons (eC (.str [107,105,110,100])) (aCons (eB oIx (eW 0) (eC (.int 3))) aNil)))) sNext) (sSeq (sFor (iSeq (eTup (aCons (eTup (aCons (eC (.str [119,105,100,101])) (aCons (eC (.int 4)) aNil))) (aCons (eTup (aCons (eC (.str [103,97,112])) (aCons (eC (.int 5)) aNil))) (aCons (eTup (aCons (eC (.str [119,111,114,116,104])) (aCons (eC (.int 6)) aNil))) aNil))))) (gTup [2,3]) (sIf (tE (eB oGt (eB oIx (eW 0) (eW 3)) (eC (.int 0)))) (sExt 1 (lDisp (aCons (eV 2) (aCons (eU oStr (eB oIx (eW 0) (eW 3))) aNil)))) sNext)) (sSeq (sFor (iSeq (eB oIx (eW 0) (eC (.int 7)))) (gName 4) (sExt 1 (lDisp (aCons (eC (.str [114,111,119])) (aCons (eU oStr (eB oIx (eW 4) (eC (.int 0)))) (aCons (eU oStr (eB oIx (eW 4) (eC (.int 1)))) aNil)))))) (sRet (eB oJoin (eC (.str [32])) (eW 1)))))))
def fn_show_group:List D→Res D:=fn 1 5 b_show_group
theorem fe_show_group (x0:D):fn_show_group [x0]=retK (b_show_group [some (.val x0),none,none,none,none]):=fn_a _ _ _ _ rfl
def b_number_in:SF:=(sSeq (sIf (tOr (tNot (tE (eChain oLe oLe (eC (.int 1)) (eU oLen (eW 0)) (eC (.int 60))))) (tNot (tE (eU oAll (eL (lComp (iSeq (eW 0)) 1 [] (gName 0) tTrue (eB oInS (eW 0) (eC (.str t_0))))))))) (sRet (eC .non)) sNext) (sRet (eU oIntT (eW 0))))
def fn_number_in:List D→Res D:=fn 1 1 b_number_in
theorem fe_number_in (x0:D):fn_number_in [x0]=retK (b_number_in [some (.val x0)]):=fn_a _ _ _ _ rfl
def b_wishes_in:SF:=(sRet (eU oTuple (eL (lComp (iRng3 (eC (.int 0)) (eB oSub (eU oLen (eW 0)) (eC (.int 2))) (eC (.int 3))) 1 [0] (gName 0) tTrue (eTup (aCons (eCall fn_number_in (aCons (eB oIx (eW 1) (eB oAdd (eW 0) (eC (.int 1)))) aNil)) (aCons (eCall fn_number_in (aCons (eB oIx (eW 1) (eB oAdd (eW 0) (eC (.int 2)))) aNil)) aNil)))))))
def fn_wishes_in:List D→Res D:=fn 1 1 b_wishes_in
theorem fe_wishes_in (x0:D):fn_wishes_in [x0]=retK (b_wishes_in [some (.val x0)]):=fn_a _ _ _ _ rfl
def b_group_in:SF:=(sSeq (sSet 1 (eB oPart (eB oIx (eW 0) (eC (.int 1))) (eC (.str [120])))) (sSeq (sTD 2 [([107,105,110,100],[]),([119,105,100,101],[48]),([103,97,112],[48]),([119,111,114,116,104],[48])]) (sSeq (sSet 3 (eC (.int 2))) (sSeq (sFor (iSeq (eTup (aCons (eC (.str [107,105,110,100])) (aCons (eC (.str [119,105,100,101])) (aCons (eC (.str [103,97,112])) (aCons (eC (.str [119,111,114,116,104])) aNil)))))) (gName 4) (sIf (tAnd (tE (eB oLt (eB oAdd (eW 3) (eC (.int 1))) (eU oLen (eW 0)))) (tE (eB oEq (eB oIx (eW 0) (eW 3)) (eW 4)))) (sSeq (sTPut 2 (eV 4) (eB oIx (eW 0) (eB oAdd (eW 3) (eC (.int 1))))) (sSet 3 (eB oAddI (eV 3) (eC (.int 2))))) sNext)) (sRet (eTup (aCons (eB oIx (eW 0) (eC (.int 0))) (aCons (eCall fn_number_in (aCons (eB oIx (eW 1) (eC (.int 0))) aNil)) (aCons (eCall fn_number_in (aCons (eB oIx (eW 1) (eC (.int 2))) aNil)) (aCons (eTGet 2 (eC (.str [107,105,110,100]))) (aCons (eCall fn_number_in (aCons (eTGet 2 (eC (.str [119,105,100,101]))) aNil)) (aCons (eCall fn_number_in (aCons (eTGet 2 (eC (.str [103,97,112]))) aNil)) (aCons (eCall fn_number_in (aCons (eTGet 2 (eC (.str [119,111,114,116,104]))) aNil)) (aCons (eCall fn_wishes_in (aCons (eL (lSl (eW 0) (pAt (eW 3)) pNo)) aNil)) aNil))))))))))))))
def fn_group_in:List D→Res D:=fn 1 5 b_group_in
theorem fe_group_in (x0:D):fn_group_in [x0]=retK (b_group_in [some (.val x0),none,none,none,none]):=fn_a _ _ _ _ rfl
def b_read_group:SF:=(sSeq (sIf (tNot (tE (eU (oIsTy .str) (eW 0)))) sBad sNext) (sSeq (sSet 1 (eL (lSplit (eW 0) (eC (.str [32]))))) (sSeq (sIf (tE (eB oLt (eU oLen (eW 1)) (eC (.int 2)))) sBad sNext) (sSeq (sSet 2 (eCall fn_group_in (aCons (eV 1) aNil))) (sSeq (sIf (tOr (tNot (tE (eCall fn_is_group (aCons (eV 2) aNil)))) (tE (eB oNe (eCall fn_show_group (aCons (eV 2) aNil)) (eW 0)))) sBad sNext) (sRet (eV 2)))))))
def fn_read_group:List D→Res D:=fn 1 3 b_read_group
theorem fe_read_group (x0:D):fn_read_group [x0]=retK (b_read_group [some (.val x0),none,none]):=fn_a _ _ _ _ rfl
end KS
end
set_option maxRecDepth 8000
namespace KS
open Z KA
theorem dec_digits (n:Nat):∀ c∈decC n,48≤c∧c≤57:=by
 intro c hc
 obtain ⟨ch,hch,e⟩:=List.mem_map.mp hc
 have r:=PyProof.Rows.digit_range (Nat.isDigit_of_mem_toDigits (by decide) (by decide) hch)
 rw [←e]
 exact r
theorem dec_val (n:Nat):valC (decC n)=n:=PySem.W.KIN.val_back n
theorem dec_ne (n:Nat):decC n≠[]:=by
 intro e
 have h:=dec_val n
 have h2:=List.map_eq_nil_iff.mp e
 have:=Nat.length_toDigits_pos (b:=10) (n:=n)
 rw [h2] at this
 simp at this
theorem dec_len {n k:Nat} (hk:0 < k) (h:n < 10 ^ k):(decC n).length≤k:=by
 unfold decC
 rw [List.length_map]
 exact (Nat.length_toDigits_le_iff (by decide) hk).mpr h
theorem figs (c:Nat):t_0.contains c=decide (48≤c∧c≤57):=by
 by_cases h:c < 128
 ·exact (by decide:∀ c < 128,t_0.contains c=decide (48≤c∧c≤57)) c h
 ·have h2:c∉t_0:=fun m=>h ((by decide:∀ c∈t_0,c < 128) c m)
  rw [Bool.eq_iff_iff]
  simp [h2]
  lia
theorem fig_comp (cs:List Nat):Ok (compGo (gName 0) tTrue (eB oInS (eW 0) (eC (.str t_0))) [none] (cs.map fun c=>.str [c])) fun ds=>ds=cs.map fun c=>D.bl (decide (48≤c∧c≤57)) :=
 comp_enc (fun c=>D.str [c]) (fun _=>true) (fun c=>.bl (decide (48≤c∧c≤57))) (xs:=cs) (Q:=fun ds=>ds=cs.map fun c=>D.bl (decide (48≤c∧c≤57))) (fun c _=>by
  have e:oInS (.str [c]) (.str t_0)=.ok (.bl (decide (48≤c∧c≤57))):=by
   show Res.ok (D.bl (t_0.contains c))=_
   rw [figs]
  simp [e]) (by rw [List.filter_eq_self.mpr (fun _ _=>rfl)])
def numD (cs:List Nat):D:=if 1≤cs.length∧cs.length≤60∧∀ c∈cs,48≤c∧c≤57 then .int (valC cs) else .non
theorem number_ok (cs : List Nat) (h : cs.length ≤ 16777216) : fn_number_in [.str cs] = .ok (numD cs) := by
 rw [fe_number_in]
 refine ret_ok ?_
 unfold numD
 by_cases h1:1≤cs.length
 ·by_cases h2:cs.length≤60
  ·have e1:(1:Int)≤(cs.length:Int):=by lia
   have e2:(cs.length:Int)≤60:=by lia
   by_cases h3:∀ c∈cs,48≤c∧c≤57
   ·have e3:(cs.all fun c=>decide (48≤c∧c≤57))=true:=by
     rw [List.all_eq_true]
     exact fun c hc=>decide_eq_true (h3 c hc)
    have e4:oIntT (.str cs)=.ok (.int (valC cs)):=guard_pos ⟨by intro z;rw [z] at h1;simp at h1,by lia,h3⟩
    have e5:oAll (.lst (cs.map fun c=>D.bl (decide (48≤c∧c≤57))))=.ok (.bl true):=by simp only [oAll,all_map,e3]
    rw [if_pos ⟨h1,h2,h3⟩]
    simp [b_number_in,h,e1,e2,line,lComp_a,capt]
    refine (fig_comp cs).imp ?_
    rintro ds rfl
    rw [e5]
    simp [e4]
   ·have e3:(cs.all fun c=>decide (48≤c∧c≤57))=false:=by
     rw [Bool.eq_false_iff]
     intro z
     exact h3 fun c hc=>of_decide_eq_true (List.all_eq_true.mp z c hc)
    have e5:oAll (.lst (cs.map fun c=>D.bl (decide (48≤c∧c≤57))))=.ok (.bl false):=by simp only [oAll,all_map,e3]
    rw [if_neg (fun z=>h3 z.2.2)]
    simp [b_number_in,h,e1,e2,line,lComp_a,capt]
    refine (fig_comp cs).imp ?_
    rintro ds rfl
    rw [e5]
    simp
  ·have e2:¬ (cs.length:Int)≤60:=by lia
   simp [b_number_in,h,h1,h2,e2,line]
 ·have e1:¬ (1:Int)≤(cs.length:Int):=by lia
  simp [b_number_in,h,h1,e1,line]
theorem num_dec {n:Nat} (h:n < 10 ^ 60):numD (decC n)=.int n:=by
 unfold numD
 rw [if_pos ⟨List.length_pos_iff.mpr (dec_ne n),dec_len (by decide) h,dec_digits n⟩,dec_val]
theorem number_dec {n:Nat} (h:n < 10 ^ 60):fn_number_in [.str (decC n)]=.ok (.int n):=by
 rw [number_ok _ (Nat.le_trans (dec_len (by decide) h) (by decide)),num_dec h]
structure Gp where
 nm:List Nat
 w:Nat
 d:Nat
 kd:List Nat
 wi:Nat
 ga:Nat
 wo:Nat
 ws:List (Nat×Nat)
def encW (p:Nat×Nat):D:=.tup [.int p.1,.int p.2]
def encS (g:Gp):D:=.tup [.str g.nm,.int g.w,.int g.d,.str g.kd,.int g.wi,.int g.ga,.int g.wo,.tup (g.ws.map encW)]
structure GpOk (g:Gp):Prop where
 n1:1≤g.nm.length
 n2:g.nm.length≤8
 nl:∀ c∈g.nm,c∈letters
 w1:1≤g.w
 w2:g.w≤12
 d1:1≤g.d
 d2:g.d≤3
 kd:g.kd=[]∨∃ c∈letters,g.kd=[c]
 wi:g.wi≤g.w*g.d
 ga:g.ga≤6
 wo:g.wo < 10 ^ 60
 wl:g.ws.length≤6
 wr:∀ p∈g.ws,p.1≤5∧1≤p.2∧p.2 < 10 ^ 60
 up:(g.ws.map (·.1)).Pairwise (· < ·)
abbrev cKind:List Nat:=[107,105,110,100]
abbrev cWide:List Nat:=[119,105,100,101]
abbrev cGap:List Nat:=[103,97,112]
abbrev cWorth:List Nat:=[119,111,114,116,104]
abbrev cRow:List Nat:=[114,111,119]
def sizeW (g:Gp):List Nat:=decC g.w++[120]++decC g.d
def kindW (k:List Nat):Rows:=if k=[] then [] else [cKind,k]
def numW (key:List Nat) (n:Nat):Rows:=if 0 < n then [key,decC n] else []
def wishW (p:Nat×Nat):Rows:=[cRow,decC p.1,decC p.2]
def wordsG (g:Gp):Rows:=[g.nm,sizeW g]++kindW g.kd++numW cWide g.wi++numW cGap g.ga++numW cWorth g.wo++(g.ws.map wishW).flatten
theorem for_cons {g:GF} {b:SF} {Q:Fl→Prop} {d:D} {r:List D} {ρ:Env} (h:Ok (g d ρ) fun ρ1=>Ok (b ρ1) (turn (fun ρ2=>Ok (forGo g b r ρ2) Q) Q)):Ok (forGo g b (d :: r) ρ) Q:=by
 obtain ⟨ρ1,e1,fl,e2,h⟩:=h
 unfold forGo
 rw [e1,Res.ok_bind,e2,Res.ok_bind]
 cases fl with
 | nx ρ=>exact h
 | ct ρ=>exact h
 | bk ρ=>exact ⟨_,rfl,h⟩
 | rt d=>exact ⟨_,rfl,h⟩
theorem for_nil {g:GF} {b:SF} {Q:Fl→Prop} {ρ:Env} (h:Q (.nx ρ)):Ok (forGo g b [] ρ) Q:=⟨_,rfl,h⟩
theorem lt70 {n:Nat} (h:n < 10 ^ 60):(n:Int) < 10 ^ 70:=by
 have:n < 10 ^ 70:=Nat.lt_trans h (by decide)
 exact_mod_cast this
theorem str_dec {n:Nat} (h:n < 10 ^ 60):oStr (.int n)=.ok (.str (decC n)):=oStr_a n (lt70 h)
section
variable {g:Gp}
theorem wi_lt (k:GpOk g):g.wi < 10 ^ 60:=by
 have h1:=k.wi
 have h2:g.w*g.d≤12*3:=Nat.mul_le_mul k.w2 k.d2
 exact Nat.lt_of_le_of_lt (Nat.le_trans h1 h2) (by decide)
theorem small_lt {n:Nat} (h:n≤100):n < 10 ^ 60:=Nat.lt_of_le_of_lt h (by decide)
noncomputable def bShow:SF:=(sIf (tE (eB oGt (eB oIx (eW 0) (eW 3)) (eC (.int 0)))) (sExt 1 (lDisp (aCons (eV 2) (aCons (eU oStr (eB oIx (eW 0) (eW 3))) aNil)))) sNext)
theorem show_step {ws:Rows} {key:List Nat} {k:Int} {n:Nat} (e:oIx (encS g) (.int k)=.ok (.int n)) (hn:n < 10 ^ 60) (hl:ws.length≤100) (x2 x3 x4:Option L) :
  Ok (gTup [2,3] (.tup [.str key,.int k]) [v (encS g),ow (ws.map .str),x2,x3,x4]) fun ρ1=>Ok (bShow ρ1) fun fl=>fl=.nx [v (encS g),ow ((ws++numW key n).map .str),v (.str key),vi k,x4]:=by
 have es:=str_dec hn
 have hl':ws.length+2≤16777216:=by lia
 by_cases h:0 < n
 ·have h':(0:Int) < (n:Int):=by lia
  simp -implicitDefEqProofs [bShow,e,h,es,numW,line,hl']
 ·have h':¬ (0:Int) < (n:Int):=by lia
  simp -implicitDefEqProofs [bShow,e,h,numW]
theorem join_sp {ts:Rows} (hl:ts.length≤1000) (h:∀ x∈ts,x.length≤1000):oJoin (.str [32]) (.lst (ts.map .str))=.ok (.str (gluedC [32] ts)):=by
 have h1:(ts.map List.length).sum≤ts.length*1000:=by
  clear hl
  induction ts with
  | nil=>simp
  | cons x r ih =>
   have:=ih fun y hy=>h y (List.mem_cons_of_mem _ hy)
   have:=h x List.mem_cons_self
   simp only [List.map_cons,List.sum_cons,List.length_cons]
   lia
 show (match textsD (ts.map D.str) with | some ts=>guard ((ts.map List.length).sum+ts.length*1≤line) (Res.ok (D.str (gluedC [32] ts))) | none=>Res.bad)=_
 rw [textsD_map]
 simp only
 rw [guard_pos]
 simp only [line]
 lia
theorem numW_len (key:List Nat) (n:Nat):(numW key n).length≤2:=by unfold numW;split<;>simp
theorem kindW_len (k:List Nat):(kindW k).length≤2:=by unfold kindW;split<;>simp
theorem wish_len (ws:List (Nat×Nat)):((ws.map wishW).flatten).length=3*ws.length:=by
 induction ws with
 | nil=>rfl
 | cons p r ih=>simp only [List.map_cons,List.flatten_cons,List.length_append,ih,List.length_cons];simp [wishW];lia
theorem words_len (k:GpOk g):(wordsG g).length≤28:=by
 have:=numW_len cWide g.wi
 have:=numW_len cGap g.ga
 have:=numW_len cWorth g.wo
 have:=kindW_len g.kd
 have:=k.wl
 simp only [wordsG,List.length_append,wish_len,List.length_cons,List.length_nil]
 lia
theorem num_each {key:List Nat} {n:Nat} (hk:key.length≤60) (hn:n < 10 ^ 60):∀ x∈numW key n,x.length≤121:=by
 intro x hx
 unfold numW at hx
 split at hx
 ·rcases List.mem_cons.mp hx with rfl | hx
  ·lia
  ·rw [List.mem_singleton.mp hx]
   have:=dec_len (by decide) hn
   lia
 ·cases hx
theorem words_each (k : GpOk g) : ∀ x ∈ wordsG g, x.length ≤ 121 := by
 intro x hx
 simp only [wordsG,List.mem_append] at hx
 rcases hx with ((((hx | hx) | hx) | hx) | hx) | hx
 ·rcases List.mem_cons.mp hx with rfl | hx
  ·have:=k.n2;lia
  ·rw [List.mem_singleton.mp hx]
   have h1:=dec_len (n:=g.w) (k:=60) (by decide) (small_lt (by have:=k.w2;lia))
   have h2:=dec_len (n:=g.d) (k:=60) (by decide) (small_lt (by have:=k.d2;lia))
   simp only [sizeW,List.length_append,List.length_cons,List.length_nil]
   lia
 ·unfold kindW at hx
  split at hx
  ·cases hx
  ·rcases List.mem_cons.mp hx with rfl | hx
   ·decide
   ·rw [List.mem_singleton.mp hx]
    rcases k.kd with h | ⟨c,_,h⟩<;>rw [h]<;>simp
 ·exact num_each (by decide) (wi_lt k) x hx
 ·exact num_each (by decide) (small_lt (by have:=k.ga;lia)) x hx
 ·exact num_each (by decide) k.wo x hx
 ·obtain ⟨y,hy,hx⟩:=List.mem_flatten.mp hx
  obtain ⟨p,hp,rfl⟩:=List.mem_map.mp hy
  obtain ⟨h1,h2,h3⟩:=k.wr p hp
  have l1:=dec_len (n:=p.1) (k:=60) (by decide) (small_lt (by lia))
  have l2:=dec_len (n:=p.2) (k:=60) (by decide) h3
  simp only [wishW,List.mem_cons,List.not_mem_nil,or_false] at hx
  rcases hx with rfl | rfl | rfl
  ·decide
  ·lia
  ·lia
theorem seq_ok {a b:SF} {ρ ρ1:Env} {Q:Fl→Prop} (h:Ok (a ρ) fun fl=>fl=.nx ρ1) (k:Ok (b ρ1) Q):Ok (sSeq a b ρ) Q:=by
 obtain ⟨fl,e,rfl⟩:=h
 rw [sSeq_a,e,Res.ok_bind]
 exact k
theorem ex0:oIx (encS g) (.int 0)=.ok (.str g.nm):=rfl
theorem ex1:oIx (encS g) (.int 1)=.ok (.int g.w):=rfl
theorem ex2:oIx (encS g) (.int 2)=.ok (.int g.d):=rfl
theorem ex3:oIx (encS g) (.int 3)=.ok (.str g.kd):=rfl
theorem ex4:oIx (encS g) (.int 4)=.ok (.int g.wi):=rfl
theorem ex5:oIx (encS g) (.int 5)=.ok (.int g.ga):=rfl
theorem ex6:oIx (encS g) (.int 6)=.ok (.int g.wo):=rfl
theorem ex7:oIx (encS g) (.int 7)=.ok (.tup (g.ws.map encW)):=rfl
theorem ne_nilS (k:List Nat):oNe (.str k) (.str [])=.ok (.bl (decide (k≠[]))):=by cases k<;>rfl
noncomputable def bs1:SF:=sOwn 1 (lDisp (aCons (eB oIx (eW 0) (eC (.int 0))) (aCons (eB oAdd (eB oAdd (eU oStr (eB oIx (eW 0) (eC (.int 1)))) (eC (.str [120]))) (eU oStr (eB oIx (eW 0) (eC (.int 2))))) aNil)))
noncomputable def bs2:SF:=sIf (tE (eB oNe (eB oIx (eW 0) (eC (.int 3))) (eC (.str [])))) (sExt 1 (lDisp (aCons (eC (.str [107,105,110,100])) (aCons (eB oIx (eW 0) (eC (.int 3))) aNil)))) sNext
noncomputable def bs3:SF:=sFor (iSeq (eTup (aCons (eTup (aCons (eC (.str [119,105,100,101])) (aCons (eC (.int 4)) aNil))) (aCons (eTup (aCons (eC (.str [103,97,112])) (aCons (eC (.int 5)) aNil))) (aCons (eTup (aCons (eC (.str [119,111,114,116,104])) (aCons (eC (.int 6)) aNil))) aNil))))) (gTup [2,3]) bShow
noncomputable def bs4:SF:=sFor (iSeq (eB oIx (eW 0) (eC (.int 7)))) (gName 4) (sExt 1 (lDisp (aCons (eC (.str [114,111,119])) (aCons (eU oStr (eB oIx (eW 4) (eC (.int 0)))) (aCons (eU oStr (eB oIx (eW 4) (eC (.int 1)))) aNil)))))
theorem hbs:b_show_group=sSeq bs1 (sSeq bs2 (sSeq bs3 (sSeq bs4 (sRet (eB oJoin (eC (.str [32])) (eW 1)))))):=rfl
theorem bs1_ok (k:GpOk g):Ok (bs1 [v (encS g),none,none,none,none]) fun fl=>fl=.nx [v (encS g),ow ([g.nm,sizeW g].map .str),none,none,none]:=by
 have sw:=str_dec (small_lt (n:=g.w) (by have:=k.w2;lia))
 have sd:=str_dec (small_lt (n:=g.d) (by have:=k.d2;lia))
 have lw:=dec_len (n:=g.w) (k:=60) (by decide) (small_lt (by have:=k.w2;lia))
 have ld:=dec_len (n:=g.d) (k:=60) (by decide) (small_lt (by have:=k.d2;lia))
 have q1:(decC g.w).length+1≤16777216:=by lia
 have q2:(decC g.w).length+1+(decC g.d).length≤16777216:=by lia
 simp -implicitDefEqProofs [bs1,ex0,ex1,ex2,sw,sd,line,q1,q2,sizeW]
theorem bs2_ok:Ok (bs2 [v (encS g),ow ([g.nm,sizeW g].map .str),none,none,none]) fun fl=>fl=.nx [v (encS g),ow (([g.nm,sizeW g]++kindW g.kd).map .str),none,none,none]:=by
 by_cases h:g.kd=[]
 ·simp -implicitDefEqProofs [bs2,ex3,ne_nilS,h,kindW]
 ·simp -implicitDefEqProofs [bs2,ex3,ne_nilS,h,kindW,line]
theorem bs3_ok (k:GpOk g):Ok (bs3 [v (encS g),ow (([g.nm,sizeW g]++kindW g.kd).map .str),none,none,none]) fun fl=>∃ x2 x3,fl=.nx [v (encS g),ow (([g.nm,sizeW g]++kindW g.kd++numW cWide g.wi++numW cGap g.ga++numW cWorth g.wo).map .str),x2,x3,none]:=by
 have hk:=kindW_len g.kd
 have h1:=numW_len cWide g.wi
 have h2:=numW_len cGap g.ga
 have hi:∀ ρ,iSeq (eTup (aCons (eTup (aCons (eC (.str [119,105,100,101])) (aCons (eC (.int 4)) aNil))) (aCons (eTup (aCons (eC (.str [103,97,112])) (aCons (eC (.int 5)) aNil))) (aCons (eTup (aCons (eC (.str [119,111,114,116,104])) (aCons (eC (.int 6)) aNil))) aNil)))) ρ=.ok [.tup [.str cWide,.int 4],.tup [.str cGap,.int 5],.tup [.str cWorth,.int 6]]:=fun ρ=>by
  have g2:∀ a b:D,guard ([a,b].length≤line) (Res.ok (D.tup [a,b]))=.ok (.tup [a,b]):=fun a b=>guard_pos (by simp [line])
  have g3:∀ a b c:D,guard ([a,b,c].length≤line) (Res.ok (D.tup [a,b,c]))=.ok (.tup [a,b,c]):=fun a b c=>guard_pos (by simp [line])
  show (((guard ([D.str [119,105,100,101],.int 4].length≤line) (Res.ok (D.tup [.str [119,105,100,101],.int 4]))).bind fun x=>((guard ([D.str [103,97,112],.int 5].length≤line) (Res.ok (D.tup [.str [103,97,112],.int 5]))).bind fun x=>((guard ([D.str [119,111,114,116,104],.int 6].length≤line) (Res.ok (D.tup [.str [119,111,114,116,104],.int 6]))).bind fun x=>Res.ok [x]).bind fun xs=>.ok (x :: xs)).bind fun xs=>.ok (x :: xs)).bind fun xs=>guard (xs.length≤line) (.ok (.tup xs))).bind iterD=_
  rw [g2,g2,g2]
  simp only [Res.ok_bind]
  rw [g3]
  rfl
 unfold bs3
 rw [sFor_a,hi,Res.ok_bind]
 refine for_cons ((show_step ex4 (wi_lt k) (by simp;lia) none none none).imp fun ρ1 h=>h.imp ?_)
 rintro fl rfl
 rw [turn_nx]
 refine for_cons ((show_step ex5 (small_lt (by have:=k.ga;lia)) (by simp;lia) _ _ none).imp fun ρ1 h=>h.imp ?_)
 rintro fl rfl
 rw [turn_nx]
 refine for_cons ((show_step ex6 k.wo (by simp;lia) _ _ none).imp fun ρ1 h=>h.imp ?_)
 rintro fl rfl
 rw [turn_nx]
 exact for_nil ⟨_,_,rfl⟩
theorem bs4_ok (k:GpOk g) (hw:Rows) (hl:hw.length≤20) (x2 x3:Option L):Ok (bs4 [v (encS g),ow (hw.map .str),x2,x3,none]) fun fl=>∃ x4,fl=.nx [v (encS g),ow ((hw++(g.ws.map wishW).flatten).map .str),x2,x3,x4]:=by
 unfold bs4
 have hi:iSeq (eB oIx (eW 0) (eC (.int 7))) [v (encS g),ow (hw.map .str),x2,x3,none]=.ok (g.ws.map encW):=by
  simp -implicitDefEqProofs [ex7]
 rw [sFor_a,hi,Res.ok_bind]
 refine for_at (fun i ρ=>∃ x4,ρ=[v (encS g),ow ((hw++((g.ws.take i).map wishW).flatten).map .str),x2,x3,x4]) ⟨none,by simp⟩ ?_ ?_
 ·rintro j d ρ hj ⟨x4,rfl⟩
  rw [List.getElem?_map] at hj
  obtain ⟨p,hp,rfl⟩:=Option.map_eq_some_iff.mp hj
  obtain ⟨r1,r2,r3⟩:=k.wr p (List.mem_of_getElem? hp)
  have s1:=str_dec (small_lt (n:=p.1) (by lia))
  have s2:=str_dec r3
  have i0:oIx (encW p) (.int 0)=.ok (.int p.1):=rfl
  have i1:oIx (encW p) (.int 1)=.ok (.int p.2):=rfl
  have wl:=wish_len (g.ws.take j)
  have tl:(g.ws.take j).length≤6:=by have:=k.wl;rw [List.length_take];lia
  have ht:g.ws.take (j+1)=g.ws.take j++[p]:=by rw [List.take_add_one,hp];rfl
  obtain ⟨W,hW⟩:∃ W,W=hw++((g.ws.take j).map wishW).flatten:=⟨_,rfl⟩
  have hn:hw++((g.ws.take (j+1)).map wishW).flatten=W++wishW p:=by rw [ht,hW];simp
  rw [hn,←hW]
  have hWl:W.length+3≤16777216:=by rw [hW,List.length_append];lia
  clear hW hn ht
  simp -implicitDefEqProofs [i0,i1,s1,s2,line,hWl,wishW]
 ·rintro ρ ⟨x4,rfl⟩
  rw [List.length_map,List.take_length]
  exact ⟨x4,rfl⟩
theorem show_ok (k:GpOk g):fn_show_group [encS g]=.ok (.str (gluedC [32] (wordsG g))):=by
 have hk:=kindW_len g.kd
 have h1:=numW_len cWide g.wi
 have h2:=numW_len cGap g.ga
 have h3:=numW_len cWorth g.wo
 have ej:=join_sp (ts:=wordsG g) (by have:=words_len k;lia) fun x hx=>by have:=words_each k x hx;lia
 rw [fe_show_group,hbs]
 refine ret_ok (seq_ok (bs1_ok k) (seq_ok bs2_ok ?_))
 rw [sSeq_a,Ok_bind]
 refine (bs3_ok k).imp ?_
 rintro fl ⟨x2,x3,rfl⟩
 rw [seqK_nx,sSeq_a,Ok_bind]
 refine (bs4_ok k _ (by simp;lia) x2 x3).imp ?_
 rintro fl ⟨x4,rfl⟩
 rw [seqK_nx]
 show Ok (sRet (eB oJoin (eC (.str [32])) (eW 1)) [v (encS g),ow ((wordsG g).map .str),x2,x3,x4]) _
 simp -implicitDefEqProofs [ej]
abbrev eg (g:Gp) (x9 x10 x11:Option L):Env:=[v (encS g),vs g.nm,vi g.w,vi g.d,vs g.kd,vi g.wi,vi g.ga,vi g.wo,v (.tup (g.ws.map encW)),x9,x10,x11]
end
end KS
namespace KS
open Z KA
theorem le60 {n:Nat} (h:n < 10 ^ 60):(n:Int)≤10 ^ 60-1:=by
 have h2:(n:Int) < 10 ^ 60:=by exact_mod_cast h
 exact Int.le_sub_one_of_lt h2
theorem whole_int (n:Int):fn_is_whole [.int n]=.ok (.bl true):=by
 rw [fe_is_whole];exact ret_ok (by simp [b_is_whole,isTy])
theorem whole_non:fn_is_whole [.non]=.ok (.bl false):=by
 rw [fe_is_whole];exact ret_ok (by simp [b_is_whole,isTy])
theorem within_int (n a b:Int):fn_is_whole_within [.int n,.int a,.int b]=.ok (.bl (decide (a≤n∧n≤b))):=by
 rw [fe_is_whole_within]
 refine ret_ok ?_
 by_cases h1:a≤n
 ·simp [b_is_whole_within,whole_int,h1]
 ·simp [b_is_whole_within,whole_int,h1]
theorem within_non (a b:Int):fn_is_whole_within [.non,.int a,.int b]=.ok (.bl false):=by
 rw [fe_is_whole_within];exact ret_ok (by simp [b_is_whole_within,whole_non])
theorem amount_int (n a:Int):fn_is_amount [.int n,.int a]=.ok (.bl (decide (a≤n∧n≤10 ^ 60-1))):=by
 rw [fe_is_amount]
 refine ret_ok ?_
 simp [b_is_amount,within_int]
theorem amount_non (a:Int):fn_is_amount [.non,.int a]=.ok (.bl false):=by
 rw [fe_is_amount]
 refine ret_ok ?_
 simp [b_is_amount,within_non]
theorem let_mem (c:Nat):decide (c∈letters)=(decide (97≤c)&&decide (c≤122)):=by
 by_cases h:c < 128
 ·exact (by decide:∀ c < 128,decide (c∈letters)=(decide (97≤c)&&decide (c≤122))) c h
 ·have h1:c∉letters:=fun m=>h ((by decide:∀ c∈letters,c < 128) c m)
  have h2:¬ c≤122:=by lia
  simp [h1,h2]
theorem letter_one (c:Nat):fn_is_letter [.str [c]]=.ok (.bl (decide (c∈letters))):=by rw [is_letter_one,let_mem]
theorem name_comp (cs:List Nat):Ok (compGo (gName 0) tTrue (eCall KA.fn_is_letter (aCons (eV 0) aNil)) [none] (cs.map fun c=>.str [c])) fun ds=>ds=cs.map fun c=>D.bl (decide (c∈letters)) :=
 comp_enc (fun c=>D.str [c]) (fun _=>true) (fun c=>.bl (decide (c∈letters))) (xs:=cs) (Q:=fun ds=>ds=cs.map fun c=>D.bl (decide (c∈letters))) (fun c _=>by simp [letter_one]) (by rw [List.filter_eq_self.mpr (fun _ _=>rfl)])
def nameB (cs:List Nat):Bool:=decide (1≤cs.length∧cs.length≤8)&&cs.all fun c=>decide (c∈letters)
theorem name_ok (cs:List Nat) (h:cs.length≤16777216):fn_is_name [.str cs]=.ok (.bl (nameB cs)):=by
 rw [fe_is_name]
 refine ret_ok ?_
 unfold nameB
 by_cases h1:1≤cs.length
 ·by_cases h2:cs.length≤8
  ·have e1:(1:Int)≤(cs.length:Int):=by lia
   have e2:(cs.length:Int)≤8:=by lia
   simp [b_is_name,isTy,h,h1,h2,e1,e2,line,lComp_a,capt]
   refine (name_comp cs).imp ?_
   rintro ds rfl
   simp [oAll,all_map]
  ·have e2:¬ (cs.length:Int)≤8:=by lia
   simp [b_is_name,isTy,h,h1,h2,e2,line]
 ·have e1:¬ (1:Int)≤(cs.length:Int):=by lia
  simp [b_is_name,isTy,h,h1,e1,line]
def kindB (cs:List Nat):Bool:=cs==[] || (decide (cs.length=1)&&cs.all fun c=>decide (c∈letters))
theorem letter_ok (cs:List Nat) (h:cs.length≤16777216):fn_is_letter [.str cs]=.ok (.bl (decide (cs.length=1)&&cs.all fun c=>decide (c∈letters))):=by
 cases cs with
 | nil=>rw [fe_is_letter];exact ret_ok (by simp [b_is_letter,line])
 | cons c r =>
  cases r with
  | nil=>rw [letter_one];simp
  | cons c' r =>
   rw [fe_is_letter]
   refine ret_ok ?_
   have e:¬ ((r.length:Int)+1+1=1):=by lia
   have h':r.length+1+1≤16777216:=by simpa using h
   simp [b_is_letter,line,h',e]
theorem kind_ok (cs:List Nat) (h:cs.length≤16777216):fn_is_kind [.str cs]=.ok (.bl (kindB cs)):=by
 have hl:=letter_ok cs h
 rw [fe_is_kind]
 refine ret_ok ?_
 unfold kindB
 have en:oEq (.str cs) (.str [])=.ok (.bl (decide (cs=[]))):=by cases cs<;>rfl
 by_cases h0:cs=[]
 ·subst h0
  have en':oEq (.str []) (.str [])=.ok (.bl true):=rfl
  simp [b_is_kind,isTy,en']
 ·have hb:(cs==[])=false:=by simpa using h0
  simp [b_is_kind,isTy,en,h0,hl,hb]
section
variable {g:Gp}
theorem wish_ok {p:Nat×Nat} (h:p.1≤5∧1≤p.2∧p.2 < 10 ^ 60):fn_is_wish [encW p]=.ok (.bl true):=by
 have i0:oIx (encW p) (.int 0)=.ok (.int p.1):=rfl
 have i1:oIx (encW p) (.int 1)=.ok (.int p.2):=rfl
 have w1:=within_int p.1 0 5
 have w2:=amount_int p.2 1
 have q1:decide ((0:Int)≤(p.1:Int)∧(p.1:Int)≤5)=true:=decide_eq_true (by lia)
 have q2:decide ((1:Int)≤(p.2:Int)∧(p.2:Int)≤10 ^ 60-1)=true:=decide_eq_true ⟨by lia,le60 h.2.2⟩
 rw [q1] at w1
 rw [q2] at w2
 rw [fe_is_wish]
 refine ret_ok ?_
 have ty:isTy .tuple (encW p)=true:=rfl
 have ln:oLen (encW p)=.ok (.int 2):=rfl
 simp [b_is_wish,ty,ln,i0,i1,w1,w2]
theorem wish_comp (hw:∀ p∈g.ws,p.1≤5∧1≤p.2∧p.2 < 10 ^ 60):Ok (compGo (gName 0) tTrue (eCall fn_is_wish (aCons (eV 0) aNil)) [none] (g.ws.map encW)) fun ds=>ds=g.ws.map fun _=>D.bl true :=
 comp_enc encW (fun _=>true) (fun _=>.bl true) (xs:=g.ws) (Q:=fun ds=>ds=g.ws.map fun _=>D.bl true) (fun p hp=>by simp [wish_ok (hw p hp)]) (by rw [List.filter_eq_self.mpr (fun _ _=>rfl)])
theorem rise_comp (hu:(g.ws.map (·.1)).Pairwise (· < ·)):Ok (compGo (gName 0) tTrue (eB oLt (eB oIx (eB oIx (eW 1) (eW 0)) (eC (.int 0))) (eB oIx (eB oIx (eW 1) (eB oAdd (eW 0) (eC (.int 1)))) (eC (.int 0)))) [none,v (.tup (g.ws.map encW))] ((List.range (g.ws.length-1)).map fun n=>D.int (n:Nat))) fun ds=>ds=(List.range (g.ws.length-1)).map fun _=>D.bl true :=
 comp_enc (fun n:Nat=>D.int (n:Nat)) (fun _=>true) (fun _=>.bl true) (xs:=List.range (g.ws.length-1)) (Q:=fun ds=>ds=(List.range (g.ws.length-1)).map fun _=>D.bl true) (fun n hn=>by
  have hn':=List.mem_range.mp hn
  have l1:n < g.ws.length:=by lia
  have l2:n+1 < g.ws.length:=by lia
  have i1:oIx (.tup (g.ws.map encW)) (.int (n:Nat))=.ok (encW g.ws[n]):=(ix_at (j:=n) rfl (by rw [List.getElem?_map,List.getElem?_eq_getElem l1];rfl)).1
  have i2:oIx (.tup (g.ws.map encW)) (.int ((n:Nat)+1))=.ok (encW g.ws[n+1]):=(ix_at (j:=n+1) (by lia) (by rw [List.getElem?_map,List.getElem?_eq_getElem l2];rfl)).1
  have j1:∀ p,oIx (encW p) (.int 0)=.ok (.int p.1):=fun p=>rfl
  have lt:g.ws[n].1 < g.ws[n+1].1:=by
   have:=List.pairwise_iff_getElem.mp hu n (n+1) (by simp;lia) (by simp;lia) (by lia)
   simpa using this
  have lt':((g.ws[n].1:Nat):Int) < (g.ws[n+1].1:Nat):=by lia
  simp [i1,i2,j1,lt']) (by rw [List.filter_eq_self.mpr (fun _ _=>rfl)])
theorem all_true {α:Type} (xs:List α):oAll (.lst (xs.map fun _=>D.bl true))=.ok (.bl true):=by
 have:=all_map (fun _:α=>true) xs
 simp only [oAll,this]
 simp
theorem wishes_are (k:GpOk g):fn_are_wishes [.tup (g.ws.map encW)]=.ok (.bl true):=by
 have hl:g.ws.length≤16777216:=by have:=k.wl;lia
 have e1:«zints» 0 (g.ws.length-1)=(List.range (g.ws.length-1)).map fun n=>D.int (n:Nat):=by
  unfold «zints»
  exact List.map_congr_left fun n _=>by simp
 rw [fe_are_wishes]
 refine ret_ok ?_
 simp [b_are_wishes,isTy,line,hl,lComp_a,capt]
 refine (wish_comp k.wr).imp ?_
 rintro ds rfl
 rw [all_true]
 simp [line,hl]
 rw [e1]
 refine ⟨by lia,(rise_comp k.up).imp ?_⟩
 rintro ds rfl
 rw [all_true]
 simp
theorem asks_ok (k:GpOk g):fn_asks_for_seats [encS g]=.ok (.bl true):=by
 have w1:=within_int g.w 1 12
 have w2:=within_int g.d 1 3
 have w3:=within_int g.wi 0 ((g.w:Int)*(g.d:Int))
 have w4:=within_int g.ga 0 6
 rw [decide_eq_true (show (1:Int)≤(g.w:Int)∧(g.w:Int)≤12 from ⟨by have:=k.w1;lia,by have:=k.w2;lia⟩)] at w1
 rw [decide_eq_true (show (1:Int)≤(g.d:Int)∧(g.d:Int)≤3 from ⟨by have:=k.d1;lia,by have:=k.d2;lia⟩)] at w2
 rw [decide_eq_true (show (0:Int)≤(g.wi:Int)∧(g.wi:Int)≤(g.w:Int)*(g.d:Int) from ⟨by lia,by have:=k.wi;exact_mod_cast this⟩)] at w3
 rw [decide_eq_true (show (0:Int)≤(g.ga:Int)∧(g.ga:Int)≤6 from ⟨by lia,by have:=k.ga;lia⟩)] at w4
 have wk:=kind_ok g.kd (by rcases k.kd with h | ⟨c,_,h⟩<;>rw [h]<;>simp)
 have wk':kindB g.kd=true:=by
  rcases k.kd with h | ⟨c,hc,h⟩<;>rw [h]
  ·rfl
  ·simp [kindB,hc]
 rw [wk'] at wk
 have m:mulFits (g.w:Int) (g.d:Int):=mulFits_l (by lia) (by have:=k.w2;lia)
 rw [fe_asks_for_seats]
 refine ret_ok ?_
 simp [b_asks_for_seats,ex1,ex2,ex3,ex4,ex5,w1,w2,w3,w4,wk,m]
theorem group_is (k:GpOk g):fn_is_group [encS g]=.ok (.bl true):=by
 have hn:=name_ok g.nm (by have:=k.n2;lia)
 have hn':nameB g.nm=true:=by
  unfold nameB
  rw [decide_eq_true ⟨k.n1,k.n2⟩,Bool.true_and,List.all_eq_true]
  exact fun c hc=>decide_eq_true (k.nl c hc)
 rw [hn'] at hn
 have ha:=asks_ok k
 have hw:=wishes_are k
 have ho:=amount_int g.wo 0
 rw [decide_eq_true (show (0:Int)≤(g.wo:Int)∧(g.wo:Int)≤10 ^ 60-1 from ⟨by lia,le60 k.wo⟩)] at ho
 have ty:isTy .tuple (encS g)=true:=rfl
 have ln:oLen (encS g)=.ok (.int 8):=rfl
 rw [fe_is_group]
 refine ret_ok ?_
 simp [b_is_group,ty,ln,ex0,ex6,ex7,hn,ha,ho,hw]
theorem dec_no {n c:Nat} (h:c < 48∨57 < c):c∉decC n:=fun m=>by
 have:=dec_digits n c m
 lia
theorem let_no {c:Nat} (h:c∈letters):c≠32:=by
 rintro rfl
 exact absurd h (by decide)
theorem words_no (k : GpOk g) : ∀ x ∈ wordsG g, 32 ∉ x := by
 have dn:∀ n:Nat,32∉decC n:=fun n=>dec_no (by decide)
 intro x hx
 simp only [wordsG,List.mem_append] at hx
 have hnum:∀ {key:List Nat} {n:Nat},32∉key→x∈numW key n→32∉x:=by
  intro key n hk hx
  unfold numW at hx
  split at hx
  ·rcases List.mem_cons.mp hx with rfl | hx
   ·exact hk
   ·rw [List.mem_singleton.mp hx];exact dn n
  ·cases hx
 rcases hx with ((((hx | hx) | hx) | hx) | hx) | hx
 ·rcases List.mem_cons.mp hx with rfl | hx
  ·exact fun m=>let_no (k.nl _ m) rfl
  ·rw [List.mem_singleton.mp hx,sizeW]
   simp only [List.mem_append,not_or]
   exact ⟨⟨dn _,by decide⟩,dn _⟩
 ·unfold kindW at hx
  split at hx
  ·cases hx
  ·rcases List.mem_cons.mp hx with rfl | hx
   ·decide
   ·rw [List.mem_singleton.mp hx]
    rcases k.kd with h | ⟨c,hc,h⟩<;>rw [h]
    ·simp
    ·intro m
     exact let_no hc (List.mem_singleton.mp m).symm
 ·exact hnum (by decide) hx
 ·exact hnum (by decide) hx
 ·exact hnum (by decide) hx
 ·obtain ⟨y,hy,hx⟩:=List.mem_flatten.mp hx
  obtain ⟨p,hp,rfl⟩:=List.mem_map.mp hy
  simp only [wishW,List.mem_cons,List.not_mem_nil,or_false] at hx
  rcases hx with rfl | rfl | rfl
  ·decide
  ·exact dn _
  ·exact dn _
theorem glue_len {m:Nat}:∀ (ts:Rows),(∀ x∈ts,x.length≤m)→(gluedC [32] ts).length≤ts.length*(m+1)
 | [],_=>by simp [gluedC]
 | [x],h=>by have:=h x (by simp);simp [gluedC];lia
 | x :: y :: r,h=>by
  have h1:=h x (by simp)
  have h2:=glue_len (y :: r) fun z hz=>h z (List.mem_cons_of_mem _ hz)
  simp only [gluedC,List.length_append,List.length_cons,List.length_nil] at h2 ⊢
  rw [Nat.add_mul,Nat.add_mul] at *
  lia
theorem at_one (cs:List Nat) (c i:Nat):PySem.StrLaws.At (⟨cs.toArray⟩:PySem.Str) ⟨#[c]⟩ (⟨cs.toArray⟩:PySem.Str).length i↔cs[i]?=some c:=by
 have:=PySem.StrLaws.subAt_one (⟨cs.toArray⟩:PySem.Str) c i
 rw [show (⟨cs.toArray⟩:PySem.Str).cps.toList=cs from rfl] at this
 exact this
theorem occ_one (cs:List Nat) (c:Nat):(PySem.Builtin.Str.occurrences ⟨cs.toArray⟩ ⟨#[c]⟩ 0 cs.length 1=[]∧c∉cs)∨∃ i r,PySem.Builtin.Str.occurrences ⟨cs.toArray⟩ ⟨#[c]⟩ 0 cs.length 1=i :: r∧cs[i]?=some c∧∀ k,k < i→cs[k]?≠some c:=by
 have hl:(⟨cs.toArray⟩:PySem.Str).length=cs.length:=by show cs.toArray.size=cs.length;simp
 rcases PySem.StrLaws.occ_head (⟨cs.toArray⟩:PySem.Str) ⟨#[c]⟩ 1 (Nat.le_refl _) with ⟨h,hn⟩ | ⟨i,r,h,ha,hn⟩
 ·left
  rw [hl] at h
  refine ⟨h,fun m=>?_⟩
  obtain ⟨i,hi⟩:=List.mem_iff_getElem?.mp m
  exact hn i ((at_one cs c i).mpr hi)
 ·right
  rw [hl] at h
  exact ⟨i,r,h,(at_one cs c i).mp ha,fun k hk z=>hn k hk ((at_one cs c k).mpr z)⟩
theorem part_at {c : Nat} {a b : List Nat} (h : c ∉ a) : partC c (a ++ c :: b) = (a, [c], b) := by
 have ha:(a++c :: b)[a.length]?=some c:=by simp
 unfold partC
 rcases occ_one (a++c :: b) c with ⟨_,hn⟩ | ⟨i,r,e,hi,hm⟩
 ·exact absurd (List.mem_append.mpr (.inr List.mem_cons_self)) hn
 ·rw [e]
  have e1:i=a.length:=by
   rcases Nat.lt_trichotomy i a.length with hlt | heq | hgt
   ·rw [List.getElem?_append_left hlt] at hi
    exact absurd (List.mem_of_getElem? hi) h
   ·exact heq
   ·exact absurd ha (hm _ hgt)
  subst e1
  simp
theorem part_none {c:Nat} {a:List Nat} (h:c∉a):partC c a=(a,[],[]):=by
 unfold partC
 rcases occ_one a c with ⟨e,_⟩ | ⟨i,r,_,hi,_⟩
 ·rw [e]
 ·exact absurd (List.mem_of_getElem? hi) h
def sizeD (g:Gp):D:=.tup [.str (decC g.w),.str [120],.str (decC g.d)]
theorem part_ok (k:GpOk g):oPart (.str (sizeW g)) (.str [120])=.ok (sizeD g):=by
 have lw:=dec_len (n:=g.w) (k:=60) (by decide) (small_lt (by have:=k.w2;lia))
 have ld:=dec_len (n:=g.d) (k:=60) (by decide) (small_lt (by have:=k.d2;lia))
 have hl:(sizeW g).length≤line:=by simp only [sizeW,line,List.length_append,List.length_cons,List.length_nil];lia
 show guard ((sizeW g).length≤line) _=_
 rw [guard_pos hl,show sizeW g=decC g.w++120 :: decC g.d by simp [sizeW],part_at (dec_no (by decide))]
 rfl
theorem byThrees (ws : List (Nat × Nat)) (hl : ws.length ≤ 100) (hw : ∀ p ∈ ws, p.1 < 10 ^ 60 ∧ p.2 < 10 ^ 60) : fn_wishes_in [.lst ((ws.map wishW).flatten.map .str)] = .ok (.tup (ws.map encW)) := by
 have len:=wish_len ws
 have e3:ints3 0 ws.length=(List.range ws.length).map fun n=>D.int ((n:Nat)*3):=by
  unfold ints3
  exact List.map_congr_left fun n _=>by simp
 have at1:∀ (n:Nat) (h:n < ws.length),((ws.map wishW).flatten.map D.str)[3*n+1]?=some (.str (decC ws[n].1))∧((ws.map wishW).flatten.map D.str)[3*n+2]?=some (.str (decC ws[n].2)):=by
  clear e3 hl len hw
  induction ws with
  | nil=>intro n h;cases h
  | cons p r ih =>
   intro n h
   cases n with
   | zero=>exact ⟨rfl,rfl⟩
   | succ n =>
    have:=ih n (by simpa using h)
    rw [show 3*(n+1)+1=(3*n+1)+1+1+1 by lia,show 3*(n+1)+2=(3*n+2)+1+1+1 by lia]
    simpa [wishW] using this
 obtain ⟨f,hf⟩:∃ f:Nat→D,∀ n (h:n < ws.length),f n=encW ws[n]:=⟨fun n=>if h:n < ws.length then encW ws[n] else .non,fun n h=>by simp [h]⟩
 have lenI:(((ws.map wishW).flatten.map D.str).length:Int)=3*(ws.length:Int):=by rw [List.length_map,len];push_cast;rfl
 have hl':((ws.map wishW).flatten.map D.str).length≤16777216:=by rw [List.length_map];lia
 generalize (ws.map wishW).flatten.map D.str=WD at at1 lenI hl' ⊢
 have ec:Ok (compGo (gName 0) tTrue (eTup (aCons (eCall fn_number_in (aCons (eB oIx (eW 1) (eB oAdd (eW 0) (eC (.int 1)))) aNil)) (aCons (eCall fn_number_in (aCons (eB oIx (eW 1) (eB oAdd (eW 0) (eC (.int 2)))) aNil)) aNil))) [none,v (.lst WD)] ((List.range ws.length).map fun n=>D.int ((n:Nat)*3))) fun ds=>ds=ws.map encW:=by
  refine comp_enc (fun n:Nat=>D.int ((n:Nat)*3)) (fun _=>true) f (xs:=List.range ws.length) (fun n hn=>?_) ?_
  ·have hn':=List.mem_range.mp hn
   obtain ⟨a1,a2⟩:=at1 n hn'
   have i1:oIx (.lst WD) (.int ((n:Nat)*3+1))=.ok (.str (decC ws[n].1)):=(ix_at (j:=3*n+1) (by push_cast;lia) a1).2
   have i2:oIx (.lst WD) (.int ((n:Nat)*3+2))=.ok (.str (decC ws[n].2)):=(ix_at (j:=3*n+2) (by push_cast;lia) a2).2
   obtain ⟨p1,p2⟩:=hw ws[n] (List.getElem_mem hn')
   have d1:=number_dec p1
   have d2:=number_dec p2
   have hg:=hf n hn'
   unfold encW at hg
   simp -implicitDefEqProofs [i1,i2,d1,d2,line,hg]
  ·rw [List.filter_eq_self.mpr (fun _ _=>rfl)]
   refine List.ext_getElem (by simp) fun n h1 h2=>?_
   have h2':n < ws.length:=by simpa using h2
   simp [hf n h2']
 rw [fe_wishes_in]
 refine ret_ok ?_
 have sz:((3*(ws.length:Int)-2+2) / 3).toNat=ws.length:=by lia
 have g1:(3*(ws.length:Int)-2)≤1000000000:=by lia
 have g0:-1000000000≤(3*(ws.length:Int)-2):=by lia
 have hr:ws.length≤16777216:=by lia
 have hb:byD (.int 0) (.int (3*(ws.length:Int)-2)) (.int 3)=.ok ((List.range ws.length).map fun n=>D.int ((n:Nat)*3)):=by
  rw [byD_a,guard_pos ⟨rfl,by decide,by decide,g0,g1⟩,Int.sub_zero,sz,e3]
 have oL:oLen (.lst WD)=.ok (.int (3*(ws.length:Int))):=by
  rw [←lenI]
  first | rfl | simp [line,hl']
 simp -implicitDefEqProofs [b_wishes_in,oL,hb,lComp_a,capt,line,hr]
 refine ec.imp ?_
 rintro ds rfl
 simp
end
end KS
namespace KS
open Z KA
section
variable {g:Gp}
abbrev td (a b c d:List Nat):Option L:=some (.tdc [(cKind,a),(cWide,b),(cGap,c),(cWorth,d)])
noncomputable def bG:SF:=(sIf (tAnd (tE (eB oLt (eB oAdd (eW 3) (eC (.int 1))) (eU oLen (eW 0)))) (tE (eB oEq (eB oIx (eW 0) (eW 3)) (eW 4)))) (sSeq (sTPut 2 (eV 4) (eB oIx (eW 0) (eB oAdd (eW 3) (eC (.int 1))))) (sSet 3 (eB oAddI (eV 3) (eC (.int 2))))) sNext)
theorem bG_hit {WD:Rows} {x1:Option L} {T:List (List Nat×List Nat)} {at':Nat} {key val:List Nat} (h1:WD[at']?=some key) (h2:WD[at'+1]?=some val) (hl:WD.length≤100000) (hT:T.length < 10) (x4:Option L) :
  Ok (gName 4 (.str key) [v (.lst (WD.map .str)),x1,some (.tdc T),vi (at':Nat),x4]) fun ρ1=>Ok (bG ρ1) fun fl=>fl=.nx [v (.lst (WD.map .str)),x1,some (.tdc (putT T key val)),vi ((at'+2:Nat)),vs key]:=by
 have l2:at'+1 < WD.length:=(List.getElem?_eq_some_iff.mp h2).1
 have i1:oIx (.lst (WD.map .str)) (.int (at':Nat))=.ok (.str key):=(ix_at (j:=at') rfl (by rw [List.getElem?_map,h1];rfl)).2
 have i2:oIx (.lst (WD.map .str)) (.int ((at':Nat)+1))=.ok (.str val):=(ix_at (j:=at'+1) (by lia) (by rw [List.getElem?_map,h2];rfl)).2
 have hl':WD.length≤16777216:=by lia
 have q:((at':Nat):Int)+1 < (WD.length:Int):=by lia
 have eq:oEq (.str key) (.str key)=.ok (.bl true):=by
  have:eqD (.str key) (.str key)=some true:=by show some (key==key)=_;simp
  simp [oEq,this]
 have hT':T.length < 16777216:=by lia
 simp -implicitDefEqProofs [bG,i1,i2,hl',q,eq,line,hT']
theorem bG_miss {WD:Rows} {x1 x2:Option L} {at':Nat} {key:List Nat} (h:∀ w,WD[at']?=some w→w≠key) (hl:WD.length≤100000) (x4:Option L) :
  Ok (gName 4 (.str key) [v (.lst (WD.map .str)),x1,x2,vi (at':Nat),x4]) fun ρ1=>Ok (bG ρ1) fun fl=>fl=.nx [v (.lst (WD.map .str)),x1,x2,vi (at':Nat),vs key]:=by
 have hl':WD.length≤16777216:=by lia
 by_cases q:((at':Nat):Int)+1 < (WD.length:Int)
 ·have l1:at' < WD.length:=by lia
  have i1:oIx (.lst (WD.map .str)) (.int (at':Nat))=.ok (.str WD[at']):=(ix_at (j:=at') rfl (by rw [List.getElem?_map,List.getElem?_eq_getElem l1];rfl)).2
  have ne:=h _ (List.getElem?_eq_getElem l1)
  have eq:oEq (.str WD[at']) (.str key)=.ok (.bl false):=by
   have:eqD (.str WD[at']) (.str key)=some false:=by show some (WD[at']==key)=_;simp [ne]
   simp [oEq,this]
  simp -implicitDefEqProofs [bG,i1,hl',q,eq,line]
 ·simp -implicitDefEqProofs [bG,hl',q,line]
theorem head_num {key:List Nat} {n:Nat} {rest:Rows} {w:List Nat} (h:(numW key n++rest)[0]?=some w):w=key∨rest[0]?=some w:=by
 unfold numW at h
 split at h
 ·left
  simpa using h.symm
 ·right
  simpa using h
theorem head_wish {ws:List (Nat×Nat)} {w:List Nat} (h:(ws.map wishW).flatten[0]?=some w):w=cRow:=by
 cases ws with
 | nil=>simp at h
 | cons p r=>simp [wishW] at h;exact h.symm
theorem at_len {pre part rest:Rows} {i:Nat}:(pre++part++rest)[pre.length+i]?=(part++rest)[i]?:=by
 rw [List.append_assoc,List.getElem?_append_right (by lia)]
 congr 1
 lia
theorem step_part {pre rest:Rows} {key val:List Nat} {b:Bool} {x1:Option L} {T:List (List Nat×List Nat)} (hl:(pre++(if b then [key,val] else [])++rest).length≤100000) (hT:T.length < 10) (hh:∀ w,rest[0]?=some w→w≠key) (x4:Option L) :
  Ok (gName 4 (.str key) [v (.lst ((pre++(if b then [key,val] else [])++rest).map .str)),x1,some (.tdc T),vi (pre.length:Nat),x4]) fun ρ1=>Ok (bG ρ1) fun fl =>
   fl=.nx [v (.lst ((pre++(if b then [key,val] else [])++rest).map .str)),x1,some (.tdc (if b then putT T key val else T)),vi ((pre++(if b then [key,val] else [])).length:Nat),vs key]:=by
 cases b with
 | true =>
  have h1:(pre++[key,val]++rest)[pre.length]?=some key:=by have:=at_len (pre:=pre) (part:=[key,val]) (rest:=rest) (i:=0);rw [Nat.add_zero] at this;rw [this];rfl
  have h2:(pre++[key,val]++rest)[pre.length+1]?=some val:=by rw [at_len];rfl
  have:=bG_hit (x1:=x1) (T:=T) h1 h2 hl hT x4
  simp only [if_true] at this ⊢
  rw [show (pre++[key,val]).length=pre.length+2 by simp]
  exact this
 | false =>
  have:=bG_miss (x1:=x1) (x2:=some (.tdc T)) (WD:=pre++[]++rest) (at':=pre.length) (key:=key) (fun w hw=>by
   have h:=at_len (pre:=pre) (part:=[]) (rest:=rest) (i:=0)
   rw [Nat.add_zero] at h
   rw [h] at hw
   exact hh w (by simpa using hw)) hl x4
  simp only [Bool.false_eq_true,if_false] at this ⊢
  rw [show (pre++([]:Rows)).length=pre.length by simp]
  exact this
theorem numW_if (key:List Nat) (n:Nat):numW key n=if decide (0 < n) then [key,decC n] else []:=by unfold numW;by_cases h:0 < n<;>simp [h]
theorem kindW_if (k:List Nat):kindW k=if decide (k≠[]) then [cKind,k] else []:=by unfold kindW;by_cases h:k=[]<;>simp [h]
theorem cut_tail (xs ys:List D):cut (xs++ys) (some (xs.length:Int)) none=ys:=by
 have:¬ (xs.length:Int) < 0:=by lia
 simp [cut,sIx,this]
noncomputable def bg1:SF:=sSet 1 (eB oPart (eB oIx (eW 0) (eC (.int 1))) (eC (.str [120])))
noncomputable def bg4:SF:=sFor (iSeq (eTup (aCons (eC (.str [107,105,110,100])) (aCons (eC (.str [119,105,100,101])) (aCons (eC (.str [103,97,112])) (aCons (eC (.str [119,111,114,116,104])) aNil)))))) (gName 4) bG
noncomputable def bg5:SF:=(sRet (eTup (aCons (eB oIx (eW 0) (eC (.int 0))) (aCons (eCall fn_number_in (aCons (eB oIx (eW 1) (eC (.int 0))) aNil)) (aCons (eCall fn_number_in (aCons (eB oIx (eW 1) (eC (.int 2))) aNil)) (aCons (eTGet 2 (eC (.str [107,105,110,100]))) (aCons (eCall fn_number_in (aCons (eTGet 2 (eC (.str [119,105,100,101]))) aNil)) (aCons (eCall fn_number_in (aCons (eTGet 2 (eC (.str [103,97,112]))) aNil)) (aCons (eCall fn_number_in (aCons (eTGet 2 (eC (.str [119,111,114,116,104]))) aNil)) (aCons (eCall fn_wishes_in (aCons (eL (lSl (eW 0) (pAt (eW 3)) pNo)) aNil)) aNil))))))))))
theorem hbg:b_group_in=sSeq bg1 (sSeq (sTD 2 [(cKind,[]),(cWide,[48]),(cGap,[48]),(cWorth,[48])]) (sSeq (sSet 3 (eC (.int 2))) (sSeq bg4 bg5))):=rfl
theorem bg4_ok (k:GpOk g):Ok (bg4 [v (.lst ((wordsG g).map .str)),v (sizeD g),td [] [48] [48] [48],vi 2,none]) fun fl=>∃ x4,fl=.nx [v (.lst ((wordsG g).map .str)),v (sizeD g),td g.kd (decC g.wi) (decC g.ga) (decC g.wo),vi (([g.nm,sizeW g]++kindW g.kd++numW cWide g.wi++numW cGap g.ga++numW cWorth g.wo).length:Nat),x4]:=by
 have hi:∀ ρ,iSeq (eTup (aCons (eC (.str [107,105,110,100])) (aCons (eC (.str [119,105,100,101])) (aCons (eC (.str [103,97,112])) (aCons (eC (.str [119,111,114,116,104])) aNil))))) ρ=.ok [.str cKind,.str cWide,.str cGap,.str cWorth]:=fun ρ=>by
  show (guard ([D.str cKind,.str cWide,.str cGap,.str cWorth].length≤line) (Res.ok (D.tup [.str cKind,.str cWide,.str cGap,.str cWorth]))).bind iterD=_
  rw [guard_pos (by simp [line])]
  rfl
 have hl:=words_len k
 unfold bg4
 rw [sFor_a,hi,Res.ok_bind]
 have k1:=kindW_if g.kd
 have n1:=numW_if cWide g.wi
 have n2:=numW_if cGap g.ga
 have n3:=numW_if cWorth g.wo
 have e1:[g.nm,sizeW g]++(if decide (g.kd≠[]) then [cKind,g.kd] else [])++(numW cWide g.wi++(numW cGap g.ga++(numW cWorth g.wo++(g.ws.map wishW).flatten)))=wordsG g:=by rw [←k1];simp [wordsG]
 have e2:([g.nm,sizeW g]++kindW g.kd)++(if decide (0 < g.wi) then [cWide,decC g.wi] else [])++(numW cGap g.ga++(numW cWorth g.wo++(g.ws.map wishW).flatten))=wordsG g:=by rw [←n1];simp [wordsG]
 have e3:([g.nm,sizeW g]++kindW g.kd++numW cWide g.wi)++(if decide (0 < g.ga) then [cGap,decC g.ga] else [])++(numW cWorth g.wo++(g.ws.map wishW).flatten)=wordsG g:=by rw [←n2];simp [wordsG]
 have e4:([g.nm,sizeW g]++kindW g.kd++numW cWide g.wi++numW cGap g.ga)++(if decide (0 < g.wo) then [cWorth,decC g.wo] else [])++(g.ws.map wishW).flatten=wordsG g:=by rw [←n3];simp [wordsG]
 have t1:(if decide (g.kd≠[]) then putT [(cKind,[]),(cWide,[48]),(cGap,[48]),(cWorth,[48])] cKind g.kd else [(cKind,[]),(cWide,[48]),(cGap,[48]),(cWorth,[48])])=[(cKind,g.kd),(cWide,[48]),(cGap,[48]),(cWorth,[48])]:=by
  by_cases h:g.kd=[]
  ·simp [h]
  ·rw [decide_eq_true h,if_pos rfl];rfl
 have d0:decC 0=[48]:=by decide
 have t2:(if decide (0 < g.wi) then putT [(cKind,g.kd),(cWide,[48]),(cGap,[48]),(cWorth,[48])] cWide (decC g.wi) else [(cKind,g.kd),(cWide,[48]),(cGap,[48]),(cWorth,[48])])=[(cKind,g.kd),(cWide,decC g.wi),(cGap,[48]),(cWorth,[48])]:=by
  by_cases h:0 < g.wi
  ·rw [decide_eq_true h,if_pos rfl];rfl
  ·rw [show g.wi=0 by lia,d0];rfl
 have t3:(if decide (0 < g.ga) then putT [(cKind,g.kd),(cWide,decC g.wi),(cGap,[48]),(cWorth,[48])] cGap (decC g.ga) else [(cKind,g.kd),(cWide,decC g.wi),(cGap,[48]),(cWorth,[48])])=[(cKind,g.kd),(cWide,decC g.wi),(cGap,decC g.ga),(cWorth,[48])]:=by
  by_cases h:0 < g.ga
  ·rw [decide_eq_true h,if_pos rfl];rfl
  ·rw [show g.ga=0 by lia,d0];rfl
 have t4:(if decide (0 < g.wo) then putT [(cKind,g.kd),(cWide,decC g.wi),(cGap,decC g.ga),(cWorth,[48])] cWorth (decC g.wo) else [(cKind,g.kd),(cWide,decC g.wi),(cGap,decC g.ga),(cWorth,[48])])=[(cKind,g.kd),(cWide,decC g.wi),(cGap,decC g.ga),(cWorth,decC g.wo)]:=by
  by_cases h:0 < g.wo
  ·rw [decide_eq_true h,if_pos rfl];rfl
  ·rw [show g.wo=0 by lia,d0];rfl
 have hd4:∀ w,(g.ws.map wishW).flatten[0]?=some w→w=cRow:=fun w h=>head_wish h
 have hd3:∀ w,(numW cWorth g.wo++(g.ws.map wishW).flatten)[0]?=some w→w=cWorth∨w=cRow:=fun w h=>(head_num h).imp id (hd4 w)
 have hd2:∀ w,(numW cGap g.ga++(numW cWorth g.wo++(g.ws.map wishW).flatten))[0]?=some w→w=cGap∨w=cWorth∨w=cRow:=fun w h=>(head_num h).imp id (hd3 w)
 have hd1:∀ w,(numW cWide g.wi++(numW cGap g.ga++(numW cWorth g.wo++(g.ws.map wishW).flatten)))[0]?=some w→w=cWide∨w=cGap∨w=cWorth∨w=cRow:=fun w h=>(head_num h).imp id (hd2 w)
 have s1:=step_part (pre:=[g.nm,sizeW g]) (b:=decide (g.kd≠[])) (key:=cKind) (val:=g.kd) (x1:=v (sizeD g)) (T:=[(cKind,[]),(cWide,[48]),(cGap,[48]),(cWorth,[48])]) (rest:=numW cWide g.wi++(numW cGap g.ga++(numW cWorth g.wo++(g.ws.map wishW).flatten))) (by rw [e1];lia) (by decide) (fun w h=>by rcases hd1 w h with rfl | rfl | rfl | rfl<;>decide) none
 rw [e1,t1,←k1] at s1
 have s2:=step_part (pre:=[g.nm,sizeW g]++kindW g.kd) (b:=decide (0 < g.wi)) (key:=cWide) (val:=decC g.wi) (x1:=v (sizeD g)) (T:=[(cKind,g.kd),(cWide,[48]),(cGap,[48]),(cWorth,[48])]) (rest:=numW cGap g.ga++(numW cWorth g.wo++(g.ws.map wishW).flatten)) (by rw [e2];lia) (by show 4 < 10;decide) (fun w h=>by rcases hd2 w h with rfl | rfl | rfl<;>decide) (vs cKind)
 rw [e2,t2,←n1] at s2
 have s3:=step_part (pre:=[g.nm,sizeW g]++kindW g.kd++numW cWide g.wi) (b:=decide (0 < g.ga)) (key:=cGap) (val:=decC g.ga) (x1:=v (sizeD g)) (T:=[(cKind,g.kd),(cWide,decC g.wi),(cGap,[48]),(cWorth,[48])]) (rest:=numW cWorth g.wo++(g.ws.map wishW).flatten) (by rw [e3];lia) (by show 4 < 10;decide) (fun w h=>by rcases hd3 w h with rfl | rfl<;>decide) (vs cWide)
 rw [e3,t3,←n2] at s3
 have s4:=step_part (pre:=[g.nm,sizeW g]++kindW g.kd++numW cWide g.wi++numW cGap g.ga) (b:=decide (0 < g.wo)) (key:=cWorth) (val:=decC g.wo) (x1:=v (sizeD g)) (T:=[(cKind,g.kd),(cWide,decC g.wi),(cGap,decC g.ga),(cWorth,[48])]) (rest:=(g.ws.map wishW).flatten) (by rw [e4];lia) (by show 4 < 10;decide) (fun w h=>by rw [hd4 w h];decide) (vs cGap)
 rw [e4,t4,←n3] at s4
 refine for_cons (s1.imp fun ρ1 h=>h.imp ?_)
 rintro fl rfl
 rw [turn_nx]
 refine for_cons (s2.imp fun ρ1 h=>h.imp ?_)
 rintro fl rfl
 rw [turn_nx]
 refine for_cons (s3.imp fun ρ1 h=>h.imp ?_)
 rintro fl rfl
 rw [turn_nx]
 refine for_cons (s4.imp fun ρ1 h=>h.imp ?_)
 rintro fl rfl
 rw [turn_nx]
 exact for_nil ⟨_,rfl⟩
theorem group_in_ok (k:GpOk g):fn_group_in [.lst ((wordsG g).map .str)]=.ok (encS g):=by
 have i0:oIx (.lst ((wordsG g).map .str)) (.int 0)=.ok (.str g.nm):=(ix_at (j:=0) rfl rfl).2
 have i1:oIx (.lst ((wordsG g).map .str)) (.int 1)=.ok (.str (sizeW g)):=(ix_at (j:=1) rfl rfl).2
 have ep:=part_ok k
 rw [fe_group_in,hbg]
 refine ret_ok ?_
 refine seq_ok (ρ1:=[v (.lst ((wordsG g).map .str)),v (sizeD g),none,none,none]) (by simp -implicitDefEqProofs [bg1,i1,ep]) ?_
 refine seq_ok (ρ1:=[v (.lst ((wordsG g).map .str)),v (sizeD g),td [] [48] [48] [48],none,none]) ⟨_,rfl,rfl⟩ ?_
 refine seq_ok (ρ1:=[v (.lst ((wordsG g).map .str)),v (sizeD g),td [] [48] [48] [48],vi 2,none]) ⟨_,rfl,rfl⟩ ?_
 rw [sSeq_a,Ok_bind]
 refine (bg4_ok k).imp ?_
 rintro fl ⟨x4,rfl⟩
 rw [seqK_nx]
 have j0:oIx (sizeD g) (.int 0)=.ok (.str (decC g.w)):=rfl
 have j2:oIx (sizeD g) (.int 2)=.ok (.str (decC g.d)):=rfl
 have n1:=number_dec (small_lt (n:=g.w) (by have:=k.w2;lia))
 have n2:=number_dec (small_lt (n:=g.d) (by have:=k.d2;lia))
 have n3:=number_dec (wi_lt k)
 have n4:=number_dec (small_lt (n:=g.ga) (by have:=k.ga;lia))
 have n5:=number_dec k.wo
 have hw:=byThrees g.ws (by have:=k.wl;lia) fun p hp=>by
  obtain ⟨h1,h2,h3⟩:=k.wr p hp
  exact ⟨small_lt (by lia),h3⟩
 obtain ⟨pre,hpre⟩:∃ pre,pre=[g.nm,sizeW g]++kindW g.kd++numW cWide g.wi++numW cGap g.ga++numW cWorth g.wo:=⟨_,rfl⟩
 have hcut:cut ((wordsG g).map D.str) (some (pre.length:Int)) none=(g.ws.map wishW).flatten.map D.str:=by
  have:(wordsG g).map D.str=pre.map D.str++(g.ws.map wishW).flatten.map D.str:=by rw [hpre,←List.map_append];rfl
  rw [this]
  have h2:=cut_tail (pre.map D.str) ((g.ws.map wishW).flatten.map D.str)
  rw [List.length_map] at h2
  exact h2
 rw [←hpre]
 have v1:∀ a b c d:List Nat,valT [(cKind,a),(cWide,b),(cGap,c),(cWorth,d)] cKind=some a:=fun a b c d=>rfl
 have v2:∀ a b c d:List Nat,valT [(cKind,a),(cWide,b),(cGap,c),(cWorth,d)] cWide=some b:=fun a b c d=>rfl
 have v3:∀ a b c d:List Nat,valT [(cKind,a),(cWide,b),(cGap,c),(cWorth,d)] cGap=some c:=fun a b c d=>rfl
 have v4:∀ a b c d:List Nat,valT [(cKind,a),(cWide,b),(cGap,c),(cWorth,d)] cWorth=some d:=fun a b c d=>rfl
 generalize (wordsG g).map D.str=WD at i0 hcut ⊢
 generalize (g.ws.map wishW).flatten.map D.str=WW at hcut hw
 simp -implicitDefEqProofs [bg5,i0,j0,j2,n1,n2,n3,n4,n5,lSl_k,hcut,hw,v1,v2,v3,v4,line,encS]
theorem read_ok (k:GpOk g):fn_read_group [.str (gluedC [32] (wordsG g))]=.ok (encS g):=by
 have hlen:=words_len k
 have gl:=glue_len (m:=121) (wordsG g) (words_each k)
 have hg:(gluedC [32] (wordsG g)).length≤10000:=by lia
 have hc:cutC 32 (gluedC [32] (wordsG g))=wordsG g:=cutC_glued (fun e=>by have:=congrArg List.length e;simp [wordsG] at this) (words_no k)
 have es:splK (.str (gluedC [32] (wordsG g))) (.str [32])=.ok ((wordsG g).map .str):=by
  rw [splK_a,hc,guard_pos]
  simp only [line]
  lia
 have h2:2≤(wordsG g).length:=by simp only [wordsG,List.length_append,List.length_cons,List.length_nil];lia
 have hi:=group_in_ok k
 have hgr:=group_is k
 have hs:=show_ok k
 have q:¬ (((wordsG g).length:Nat):Int) < 2:=by lia
 have hl':(wordsG g).length≤16777216:=by lia
 have en:∀ t:List Nat,oNe (.str t) (.str t)=.ok (.bl false):=fun t=>by
  have:eqD (.str t) (.str t)=some true:=by show some (t==t)=_;simp
  simp [oNe,this]
 rw [fe_read_group]
 refine ret_ok ?_
 simp -implicitDefEqProofs [b_read_group,isTy,es,hl',q,hi,hgr,hs,en,line]
end
end KS
namespace KS
open Z KA
theorem nat_of {z:Int} (h:0≤z):∃ n:Nat,z=n:=⟨z.toNat,by lia⟩
theorem ints_nat (n:Nat):«zints» 0 n=(List.range n).map fun i=>D.int (i:Nat):=by
 unfold «zints»
 exact List.map_congr_left fun n _=>by simp
def one (c:Nat):D:=.str [c]
def NmOk (nm:List Nat):Prop:=1≤nm.length∧nm.length≤8∧∀ c∈nm,c∈letters
structure WsOk (n:Nat) (ws:List (Nat×Nat)):Prop where
 l:ws.length≤n
 r:∀ p∈ws,p.1 < n∧1≤p.2∧p.2 < 10 ^ 60
 up:(ws.map (·.1)).Pairwise (· < ·)
theorem WsOk.next {n:Nat} {ws:List (Nat×Nat)} (h:WsOk n ws):WsOk (n+1) ws:=⟨by have:=h.l;lia,fun p hp=>by obtain ⟨a,b⟩:=h.r p hp;exact ⟨by lia,b⟩,h.up⟩
theorem WsOk.snoc {n:Nat} {ws:List (Nat×Nat)} (h:WsOk n ws) {a:Nat} (h1:1≤a) (h2:a < 10 ^ 60):WsOk (n+1) (ws++[(n,a)]):=by
 refine ⟨by have:=h.l;simp;lia,fun p hp=>?_,?_⟩
 ·rcases List.mem_append.mp hp with hp | hp
  ·obtain ⟨a,b⟩:=h.r p hp;exact ⟨by lia,b⟩
  ·rw [List.mem_singleton.mp hp];exact ⟨by lia,h1,h2⟩
 ·rw [List.map_append,List.pairwise_append]
  refine ⟨h.up,by simp,fun x hx y hy=>?_⟩
  obtain ⟨p,hp,rfl⟩:=List.mem_map.mp hx
  simp at hy
  rw [hy]
  exact (h.r p hp).1
theorem pick {xs:List D} {i:Int} {Q:D→Prop} (h0:0≤i) (h1:i < xs.length) (h:∀ d∈xs,Q d):Ok (oIx (.lst xs) (.int i)) Q:=by
 obtain ⟨d,hd,e,_⟩:=ix_some h0 h1
 exact ⟨d,e,h d hd⟩
end KS
namespace KS
open Z KA
def Nm (d:D):Prop:=d=.non∨∃ n:Nat,n < 10 ^ 60∧d=.int n
theorem val_snoc (cs:List Nat) (c:Nat):valC (cs++[c])=valC cs*10+(c-48):=by unfold valC;rw [List.foldl_append];rfl
theorem val_lt:∀ (k:Nat) (cs:List Nat),cs.length=k→(∀ c∈cs,48≤c∧c≤57)→valC cs < 10 ^ k
 | 0,cs,h,_=>by rw [List.length_eq_zero_iff.mp h];decide
 | k+1,cs,h,hd=>by
  have hne:cs≠[]:=by intro z;rw [z] at h;simp at h
  obtain ⟨ys,y,rfl⟩:∃ ys y,cs=ys++[y]:=⟨_,_,(List.dropLast_concat_getLast hne).symm⟩
  have:=val_lt k ys (by simpa using h) fun c hc=>hd c (List.mem_append.mpr (.inl hc))
  have hy:=hd y (by simp)
  rw [val_snoc,Nat.pow_succ]
  lia
theorem numD_nm (cs:List Nat):Nm (numD cs):=by
 unfold numD
 split
 ·rename_i h
  refine .inr ⟨_,?_,rfl⟩
  exact Nat.lt_of_lt_of_le (val_lt cs.length cs rfl h.2.2) (Nat.pow_le_pow_right (by decide) h.2.1)
 ·exact .inl rfl
theorem wishes_any (W:Rows) (hl:W.length≤100000) (hw:∀ x∈W,x.length≤16777216):∃ ps:List (D×D),(∀ p∈ps,Nm p.1∧Nm p.2)∧ps.length≤100000∧fn_wishes_in [.lst (W.map .str)]=.ok (.tup (ps.map fun p=>.tup [p.1,p.2])):=by
 obtain ⟨n,hn⟩:∃ n:Nat,n=(((W.length:Int)-2-0+2) / 3).toNat:=⟨_,rfl⟩
 have hn3:3*n≤W.length:=by lia
 have e3:ints3 0 n=(List.range n).map fun n=>D.int ((n:Nat)*3):=by
  unfold ints3
  exact List.map_congr_left fun n _=>by simp
 obtain ⟨f,hf⟩:∃ f:Nat→List Nat,∀ i,i < W.length→W[i]?=some (f i):=⟨fun i=>if h:i < W.length then W[i] else [],fun i h=>by simp [h]⟩
 have ec:Ok (compGo (gName 0) tTrue (eTup (aCons (eCall fn_number_in (aCons (eB oIx (eW 1) (eB oAdd (eW 0) (eC (.int 1)))) aNil)) (aCons (eCall fn_number_in (aCons (eB oIx (eW 1) (eB oAdd (eW 0) (eC (.int 2)))) aNil)) aNil))) [none,v (.lst (W.map .str))] ((List.range n).map fun n=>D.int ((n:Nat)*3))) fun ds=>ds=(List.range n).map fun i=>D.tup [numD (f (3*i+1)),numD (f (3*i+2))]:=by
  refine comp_enc (fun n:Nat=>D.int ((n:Nat)*3)) (fun _=>true) (fun i=>D.tup [numD (f (3*i+1)),numD (f (3*i+2))]) (xs:=List.range n) (fun i hi=>?_) ?_
  ·have hi':=List.mem_range.mp hi
   have a1:=hf (3*i+1) (by lia)
   have a2:=hf (3*i+2) (by lia)
   have i1:oIx (.lst (W.map .str)) (.int ((i:Nat)*3+1))=.ok (.str (f (3*i+1))):=(ix_at (j:=3*i+1) (by push_cast;lia) (by rw [List.getElem?_map,a1];rfl)).2
   have i2:oIx (.lst (W.map .str)) (.int ((i:Nat)*3+2))=.ok (.str (f (3*i+2))):=(ix_at (j:=3*i+2) (by push_cast;lia) (by rw [List.getElem?_map,a2];rfl)).2
   have d1:=number_ok _ (hw _ (List.mem_of_getElem? a1))
   have d2:=number_ok _ (hw _ (List.mem_of_getElem? a2))
   generalize D.lst (W.map .str)=WD at i1 i2 ⊢
   simp -implicitDefEqProofs [i1,i2,d1,d2,line]
  ·rw [List.filter_eq_self.mpr (fun _ _=>rfl)]
 refine ⟨(List.range n).map fun i=>(numD (f (3*i+1)),numD (f (3*i+2))),?_,by simp;lia,?_⟩
 ·intro p hp
  obtain ⟨i,_,rfl⟩:=List.mem_map.mp hp
  exact ⟨numD_nm _,numD_nm _⟩
 rw [fe_wishes_in]
 refine ret_ok ?_
 have g1:((W.length:Int)-2)≤1000000000:=by lia
 have g0:-1000000000≤((W.length:Int)-2):=by lia
 have hr:n≤16777216:=by lia
 have hb:byD (.int 0) (.int ((W.length:Int)-2)) (.int 3)=.ok ((List.range n).map fun n=>D.int ((n:Nat)*3)):=by
  rw [byD_a,guard_pos ⟨rfl,by decide,by decide,g0,g1⟩,←hn,e3]
 have oL:oLen (.lst (W.map .str))=.ok (.int (W.length:Int)):=by
  have:(W.map D.str).length≤16777216:=by rw [List.length_map];lia
  first | (rw [←List.length_map (f:=D.str)];rfl) | simp [line,this]
 simp -implicitDefEqProofs [b_wishes_in,oL,hb,lComp_a,capt,line,hr]
 refine ec.imp ?_
 rintro ds rfl
 simp
theorem part_any (cs : List Nat) (h : cs.length ≤ 16777216) : ∃ a m b : List Nat, a.length ≤ cs.length ∧ b.length ≤ cs.length ∧ ((m = [120] ∧ cs = a ++ 120 :: b ∧ 120 ∉ a) ∨ (m = [] ∧ a = cs ∧ b = [] ∧ 120 ∉ cs)) ∧ oPart (.str cs) (.str [120]) = .ok (.tup [.str a, .str m, .str b]) := by
 have hp:oPart (.str cs) (.str [120])=.ok (.tup [.str (partC 120 cs).1,.str (partC 120 cs).2.1,.str (partC 120 cs).2.2]):=guard_pos h
 by_cases hm:120∈cs
 ·have hex:∃ a b,cs=a++120 :: b∧120∉a:=by
   rcases occ_one cs 120 with ⟨_,hn⟩ | ⟨i,r,_,hi,hmn⟩
   ·exact absurd hm hn
   ·refine ⟨cs.take i,cs.drop (i+1),?_,?_⟩
    ·obtain ⟨hil,hie⟩:=List.getElem?_eq_some_iff.mp hi
     have h1:cs.drop i=cs[i] :: cs.drop (i+1):=List.drop_eq_getElem_cons hil
     rw [hie] at h1
     rw [←h1,List.take_append_drop]
    ·intro hmem
     obtain ⟨k,hk⟩:=List.mem_iff_getElem?.mp hmem
     rw [List.getElem?_take] at hk
     split at hk
     ·rename_i hki;exact hmn k hki hk
     ·cases hk
  obtain ⟨a,b,hab,hna⟩:=hex
  subst hab
  rw [part_at hna] at hp
  exact ⟨a,[120],b,by rw [List.length_append];lia,by rw [List.length_append,List.length_cons];lia,.inl ⟨rfl,rfl,hna⟩,hp⟩
 ·rw [part_none hm] at hp
  exact ⟨cs,[],[],Nat.le_refl _,by simp,.inr ⟨rfl,rfl,rfl,hm⟩,hp⟩
theorem bG_any {W : Rows} (hl : W.length ≤ 100000) {x1 : Option L} {T : List (List Nat × List Nat)} (hT : T.length < 10) {at' : Nat} {key : List Nat} (x4 : Option L) :
  Ok (gName 4 (.str key) [v (.lst (W.map .str)),x1,some (.tdc T),vi (at':Nat),x4]) fun ρ1=>Ok (bG ρ1) fun fl=>∃ (T':List (List Nat×List Nat)) (a':Nat),(T'=T∨∃ val∈W,T'=putT T key val)∧fl=.nx [v (.lst (W.map .str)),x1,some (.tdc T'),vi (a':Nat),vs key]:=by
 by_cases h:∃ val,W[at']?=some key∧W[at'+1]?=some val
 ·obtain ⟨val,h1,h2⟩:=h
  refine (bG_hit (x1:=x1) h1 h2 hl hT x4).imp fun ρ1 h=>h.imp fun fl e=>?_
  exact ⟨_,_,.inr ⟨val,List.mem_of_getElem? h2,rfl⟩,e⟩
 ·by_cases hk:W[at']?=some key
  ·-- the word stands at the end
   have hn:¬ at'+1 < W.length:=fun hlt=>h ⟨W[at'+1],hk,List.getElem?_eq_getElem hlt⟩
   have q:¬ ((at':Nat):Int)+1 < (W.length:Int):=by lia
   have hl':W.length≤16777216:=by lia
   have:Ok (gName 4 (.str key) [v (.lst (W.map .str)),x1,some (.tdc T),vi (at':Nat),x4]) fun ρ1=>Ok (bG ρ1) fun fl=>fl=.nx [v (.lst (W.map .str)),x1,some (.tdc T),vi (at':Nat),vs key]:=by
    simp -implicitDefEqProofs [bG,hl',q,line]
   exact this.imp fun ρ1 h=>h.imp fun fl e=>⟨_,_,.inl rfl,e⟩
  ·refine (bG_miss (x1:=x1) (x2:=some (.tdc T)) (WD:=W) (at':=at') (key:=key) (fun w hw e=>hk (by rw [hw,e])) hl x4).imp fun ρ1 h=>h.imp fun fl e=>?_
   exact ⟨_,_,.inl rfl,e⟩
theorem group_any {W : Rows} (h2 : 2 ≤ W.length) (hl : W.length ≤ 100000) (hw : ∀ x ∈ W, x.length ≤ 16777216) : ∃ (nm kd : List Nat) (N1 N2 N4 N5 N6 : D) (ps : List (D × D)), nm ∈ W ∧ (kd = [] ∨ kd ∈ W) ∧ Nm N1 ∧ Nm N2 ∧ Nm N4 ∧ Nm N5 ∧ Nm N6 ∧ (∀ p ∈ ps, Nm p.1 ∧ Nm p.2) ∧ ps.length ≤ 100000 ∧
  fn_group_in [.lst (W.map .str)]=.ok (.tup [.str nm,N1,N2,.str kd,N4,N5,N6,.tup (ps.map fun p=>.tup [p.1,p.2])]):=by
 have l0:0 < W.length:=by lia
 have l1:1 < W.length:=by lia
 have i0:oIx (.lst (W.map .str)) (.int 0)=.ok (.str W[0]):=(ix_at (j:=0) rfl (by rw [List.getElem?_map,List.getElem?_eq_getElem l0];rfl)).2
 have i1:oIx (.lst (W.map .str)) (.int 1)=.ok (.str W[1]):=(ix_at (j:=1) rfl (by rw [List.getElem?_map,List.getElem?_eq_getElem l1];rfl)).2
 have m0:W[0]∈W:=List.getElem_mem l0
 have m1:W[1]∈W:=List.getElem_mem l1
 obtain ⟨sa,sm,sb,hsa,hsb,_,ep⟩:=part_any W[1] (hw _ m1)
 have hw1:=hw _ m1
 have:Ok (retK (b_group_in [v (.lst (W.map .str)),none,none,none,none])) fun d=>∃ (kd:List Nat) (N1 N2 N4 N5 N6:D) (ps:List (D×D)),(kd=[]∨kd∈W)∧Nm N1∧Nm N2∧Nm N4∧Nm N5∧Nm N6∧(∀ p∈ps,Nm p.1∧Nm p.2)∧ps.length≤100000 ∧
   d=.tup [.str W[0],N1,N2,.str kd,N4,N5,N6,.tup (ps.map fun p=>.tup [p.1,p.2])]:=by
  refine ret_Ok ?_
  rw [hbg]
  refine seq_ok (ρ1:=[v (.lst (W.map .str)),v (.tup [.str sa,.str sm,.str sb]),none,none,none]) (by simp -implicitDefEqProofs [bg1,i1,ep]) ?_
  refine seq_ok (ρ1:=[v (.lst (W.map .str)),v (.tup [.str sa,.str sm,.str sb]),td [] [48] [48] [48],none,none]) ⟨_,rfl,rfl⟩ ?_
  refine seq_ok (ρ1:=[v (.lst (W.map .str)),v (.tup [.str sa,.str sm,.str sb]),td [] [48] [48] [48],vi 2,none]) ⟨_,rfl,rfl⟩ ?_
  rw [sSeq_a,Ok_bind]
  have b4:Ok (bg4 [v (.lst (W.map .str)),v (.tup [.str sa,.str sm,.str sb]),td [] [48] [48] [48],vi 2,none]) fun fl=>∃ (a b c d:List Nat) (n:Nat) (x4:Option L),(a=[]∨a∈W)∧(b=[48]∨b∈W)∧(c=[48]∨c∈W)∧(d=[48]∨d∈W)∧fl=.nx [v (.lst (W.map .str)),v (.tup [.str sa,.str sm,.str sb]),td a b c d,vi (n:Nat),x4]:=by
   have hi:∀ ρ,iSeq (eTup (aCons (eC (.str [107,105,110,100])) (aCons (eC (.str [119,105,100,101])) (aCons (eC (.str [103,97,112])) (aCons (eC (.str [119,111,114,116,104])) aNil))))) ρ=.ok [.str cKind,.str cWide,.str cGap,.str cWorth]:=fun ρ=>by
    show (guard ([D.str cKind,.str cWide,.str cGap,.str cWorth].length≤line) (Res.ok (D.tup [.str cKind,.str cWide,.str cGap,.str cWorth]))).bind iterD=_
    rw [guard_pos (by simp [line])]
    rfl
   unfold bg4
   rw [sFor_a,hi,Res.ok_bind]
   have P1:∀ a b c d v:List Nat,putT [(cKind,a),(cWide,b),(cGap,c),(cWorth,d)] cKind v=[(cKind,v),(cWide,b),(cGap,c),(cWorth,d)]:=fun _ _ _ _ _=>rfl
   have P2:∀ a b c d v:List Nat,putT [(cKind,a),(cWide,b),(cGap,c),(cWorth,d)] cWide v=[(cKind,a),(cWide,v),(cGap,c),(cWorth,d)]:=fun _ _ _ _ _=>rfl
   have P3:∀ a b c d v:List Nat,putT [(cKind,a),(cWide,b),(cGap,c),(cWorth,d)] cGap v=[(cKind,a),(cWide,b),(cGap,v),(cWorth,d)]:=fun _ _ _ _ _=>rfl
   have P4:∀ a b c d v:List Nat,putT [(cKind,a),(cWide,b),(cGap,c),(cWorth,d)] cWorth v=[(cKind,a),(cWide,b),(cGap,c),(cWorth,v)]:=fun _ _ _ _ _=>rfl
   refine for_cons ((bG_any hl (at':=2) (by show 4 < 10;decide) none).imp fun ρ1 h=>h.imp ?_)
   rintro fl ⟨T1,a1,hT1,rfl⟩
   rw [turn_nx]
   obtain ⟨a,rfl,ha⟩:∃ a,T1=[(cKind,a),(cWide,[48]),(cGap,[48]),(cWorth,[48])]∧(a=[]∨a∈W):=by
    rcases hT1 with rfl | ⟨x,hx,rfl⟩
    ·exact ⟨[],rfl,.inl rfl⟩
    ·exact ⟨x,P1 _ _ _ _ _,.inr hx⟩
   refine for_cons ((bG_any hl (by show 4 < 10;decide) _).imp fun ρ1 h=>h.imp ?_)
   rintro fl ⟨T2,a2,hT2,rfl⟩
   rw [turn_nx]
   obtain ⟨b,rfl,hb⟩:∃ b,T2=[(cKind,a),(cWide,b),(cGap,[48]),(cWorth,[48])]∧(b=[48]∨b∈W):=by
    rcases hT2 with rfl | ⟨x,hx,rfl⟩
    ·exact ⟨[48],rfl,.inl rfl⟩
    ·exact ⟨x,P2 _ _ _ _ _,.inr hx⟩
   refine for_cons ((bG_any hl (by show 4 < 10;decide) _).imp fun ρ1 h=>h.imp ?_)
   rintro fl ⟨T3,a3,hT3,rfl⟩
   rw [turn_nx]
   obtain ⟨c,rfl,hc⟩:∃ c,T3=[(cKind,a),(cWide,b),(cGap,c),(cWorth,[48])]∧(c=[48]∨c∈W):=by
    rcases hT3 with rfl | ⟨x,hx,rfl⟩
    ·exact ⟨[48],rfl,.inl rfl⟩
    ·exact ⟨x,P3 _ _ _ _ _,.inr hx⟩
   refine for_cons ((bG_any hl (by show 4 < 10;decide) _).imp fun ρ1 h=>h.imp ?_)
   rintro fl ⟨T4,a4,hT4,rfl⟩
   rw [turn_nx]
   obtain ⟨d,rfl,hd⟩:∃ d,T4=[(cKind,a),(cWide,b),(cGap,c),(cWorth,d)]∧(d=[48]∨d∈W):=by
    rcases hT4 with rfl | ⟨x,hx,rfl⟩
    ·exact ⟨[48],rfl,.inl rfl⟩
    ·exact ⟨x,P4 _ _ _ _ _,.inr hx⟩
   exact for_nil ⟨a,b,c,d,a4,_,ha,hb,hc,hd,rfl⟩
  refine b4.imp ?_
  rintro fl ⟨a,b,c,d,n,x4,ha,hb,hc,hd,rfl⟩
  rw [seqK_nx]
  have hx:∀ {x:List Nat},(x=[48]∨x∈W)→x.length≤16777216:=fun {x} h=>by
   rcases h with rfl | h
   ·decide
   ·exact hw x h
  have n1:=number_ok sa (by lia)
  have n2:=number_ok sb (by lia)
  have n4:=number_ok b (hx hb)
  have n5:=number_ok c (hx hc)
  have n6:=number_ok d (hx hd)
  have v1:∀ a b c d:List Nat,valT [(cKind,a),(cWide,b),(cGap,c),(cWorth,d)] cKind=some a:=fun a b c d=>rfl
  have v2:∀ a b c d:List Nat,valT [(cKind,a),(cWide,b),(cGap,c),(cWorth,d)] cWide=some b:=fun a b c d=>rfl
  have v3:∀ a b c d:List Nat,valT [(cKind,a),(cWide,b),(cGap,c),(cWorth,d)] cGap=some c:=fun a b c d=>rfl
  have v4:∀ a b c d:List Nat,valT [(cKind,a),(cWide,b),(cGap,c),(cWorth,d)] cWorth=some d:=fun a b c d=>rfl
  obtain ⟨X,hX,hXl,hXw⟩:∃ X:Rows,cut (W.map D.str) (some (n:Int)) none=X.map D.str∧X.length≤100000∧∀ x∈X,x.length≤16777216:=by
   refine ⟨cut W (some (n:Int)) none,?_,Nat.le_trans (Z.cut_len W _ _) hl,fun x hx=>hw x (mem_cut hx)⟩
   simp only [cut,List.length_map,List.map_take,List.map_drop]
  obtain ⟨ps,hps,hpl,ew⟩:=wishes_any X hXl hXw
  have j0:oIx (.tup [.str sa,.str sm,.str sb]) (.int 0)=.ok (.str sa):=rfl
  have j2:oIx (.tup [.str sa,.str sm,.str sb]) (.int 2)=.ok (.str sb):=rfl
  generalize W.map D.str=WD at i0 hX ⊢
  generalize X.map D.str=XD at hX ew
  have hv:bg5 [v (.lst WD),v (.tup [.str sa,.str sm,.str sb]),td a b c d,vi (n:Nat),x4]=.ok (.rt (.tup [.str W[0],numD sa,numD sb,.str a,numD b,numD c,numD d,.tup (ps.map fun p=>.tup [p.1,p.2])])):=by
   simp -implicitDefEqProofs [bg5,i0,j0,j2,n1,n2,n4,n5,n6,lSl_k,hX,ew,v1,v2,v3,v4,line,guard_pos]
  rw [hv]
  exact ⟨_,rfl,_,rfl,a,_,_,_,_,_,ps,ha,numD_nm _,numD_nm _,numD_nm _,numD_nm _,numD_nm _,hps,hpl,rfl⟩
 rw [←fe_group_in] at this
 obtain ⟨d,e,kd,N1,N2,N4,N5,N6,ps,h⟩:=this
 obtain ⟨hk,h1,h2',h4,h5,h6,hp,hpl,rfl⟩:=h
 exact ⟨W[0],kd,N1,N2,N4,N5,N6,ps,m0,hk,h1,h2',h4,h5,h6,hp,hpl,e⟩
def inB (d:D) (a b:Int):Bool:=match d with
 | .int n=>decide (a≤n∧n≤b)
 | _=>false
theorem within_nm {d:D} (h:Nm d) (a b:Int):fn_is_whole_within [d,.int a,.int b]=.ok (.bl (inB d a b)):=by
 rcases h with rfl | ⟨n,_,rfl⟩
 ·exact within_non a b
 ·exact within_int n a b
theorem amount_nm {d:D} (h:Nm d) (a:Int):fn_is_amount [d,.int a]=.ok (.bl (inB d a (10 ^ 60-1))):=by
 rcases h with rfl | ⟨n,_,rfl⟩
 ·exact amount_non a
 ·exact amount_int n a
theorem inB_nat {d:D} (hN:Nm d) {a b:Int} (h:inB d a b=true):∃ n:Nat,d=.int n∧a≤n∧(n:Int)≤b∧n < 10 ^ 60:=by
 rcases hN with rfl | ⟨n,hn,rfl⟩
 ·cases h
 ·have:=of_decide_eq_true h
  exact ⟨n,rfl,this.1,this.2,hn⟩
def pairD (p:D×D):D:=.tup [p.1,p.2]
def wishB (p:D×D):Bool:=inB p.1 0 5&&inB p.2 1 (10 ^ 60-1)
theorem wish_nm {p:D×D} (h:Nm p.1∧Nm p.2):fn_is_wish [pairD p]=.ok (.bl (wishB p)):=by
 have i0:oIx (pairD p) (.int 0)=.ok p.1:=rfl
 have i1:oIx (pairD p) (.int 1)=.ok p.2:=rfl
 have w1:=within_nm h.1 0 5
 have w2:=amount_nm h.2 1
 have ty:isTy .tuple (pairD p)=true:=rfl
 have ln:oLen (pairD p)=.ok (.int 2):=rfl
 rw [fe_is_wish]
 refine ret_ok ?_
 unfold wishB
 cases h1:inB p.1 0 5<;>simp -implicitDefEqProofs [b_is_wish,ty,ln,i0,i1,w1,w2,h1]
theorem wish_comp_any {ps:List (D×D)} (hp:∀ p∈ps,Nm p.1∧Nm p.2):Ok (compGo (gName 0) tTrue (eCall fn_is_wish (aCons (eV 0) aNil)) [none] (ps.map pairD)) fun ds=>ds=ps.map fun p=>D.bl (wishB p) :=
 comp_enc pairD (fun _=>true) (fun p=>.bl (wishB p)) (xs:=ps) (Q:=fun ds=>ds=ps.map fun p=>D.bl (wishB p)) (fun p hp'=>by simp -implicitDefEqProofs [wish_nm (hp p hp')]) (by rw [List.filter_eq_self.mpr (fun _ _=>rfl)])
theorem wishes_nat {ps:List (D×D)} (hp:∀ p∈ps,Nm p.1∧Nm p.2) (h:ps.all wishB=true):∃ ws:List (Nat×Nat),(∀ p∈ws,p.1≤5∧1≤p.2∧p.2 < 10 ^ 60)∧ps.map pairD=ws.map encW:=by
 induction ps with
 | nil=>exact ⟨[],by simp,rfl⟩
 | cons p r ih =>
  rw [List.all_cons,Bool.and_eq_true] at h
  obtain ⟨ws,h1,h2⟩:=ih (fun q hq=>hp q (List.mem_cons_of_mem _ hq)) h.2
  obtain ⟨hp1,hp2⟩:=hp p List.mem_cons_self
  have hw:=h.1
  unfold wishB at hw
  rw [Bool.and_eq_true] at hw
  obtain ⟨a,ea,ha1,ha2,_⟩:=inB_nat hp1 hw.1
  obtain ⟨b,eb,hb1,hb2,hb3⟩:=inB_nat hp2 hw.2
  refine ⟨(a,b) :: ws,?_,?_⟩
  ·intro q hq
   rcases List.mem_cons.mp hq with rfl | hq
   ·exact ⟨by lia,by lia,hb3⟩
   ·exact h1 q hq
  ·rw [List.map_cons,List.map_cons,h2]
   show D.tup [p.1,p.2] :: _=_
   rw [ea,eb]
   rfl
theorem rise_iff : ∀ ws : List (Nat × Nat), ((List.range (ws.length - 1)).all fun n => decide ((ws.getD n (0, 0)).1 < (ws.getD (n + 1) (0, 0)).1)) = true ↔ (ws.map (·.1)).Pairwise (· < ·) := by
 intro ws
 constructor
 ·intro h
  rw [List.all_eq_true] at h
  have step:∀ n,n+1 < ws.length→(ws.getD n (0,0)).1 < (ws.getD (n+1) (0,0)).1:=fun n hn=>of_decide_eq_true (h n (List.mem_range.mpr (by lia)))
  have mono:∀ m n,n < m→m < ws.length→(ws.getD n (0,0)).1 < (ws.getD m (0,0)).1:=by
   intro m
   induction m with
   | zero=>intro n hn;cases hn
   | succ m ih =>
    intro n hn hm
    rcases Nat.lt_or_ge n m with h | h
    ·exact Nat.lt_trans (ih n h (by lia)) (step m hm)
    ·have:n=m:=by lia
     subst this
     exact step n hm
  rw [List.pairwise_iff_getElem]
  intro i j hi hj hij
  have hi':i < ws.length:=by simpa using hi
  have hj':j < ws.length:=by simpa using hj
  have:=mono j i hij hj'
  simpa [List.getD_eq_getElem?_getD,List.getElem?_eq_getElem hi',List.getElem?_eq_getElem hj'] using this
 ·intro h
  rw [List.all_eq_true]
  intro n hn
  have hn':=List.mem_range.mp hn
  have l1:n < ws.length:=by lia
  have l2:n+1 < ws.length:=by lia
  have:=List.pairwise_iff_getElem.mp h n (n+1) (by simp;lia) (by simp;lia) (by lia)
  refine decide_eq_true ?_
  simpa [List.getD_eq_getElem?_getD,List.getElem?_eq_getElem l1,List.getElem?_eq_getElem l2] using this
theorem rise_any (ws:List (Nat×Nat)):Ok (compGo (gName 0) tTrue (eB oLt (eB oIx (eB oIx (eW 1) (eW 0)) (eC (.int 0))) (eB oIx (eB oIx (eW 1) (eB oAdd (eW 0) (eC (.int 1)))) (eC (.int 0)))) [none,v (.tup (ws.map encW))] ((List.range (ws.length-1)).map fun n=>D.int (n:Nat))) fun ds=>ds=(List.range (ws.length-1)).map fun n=>D.bl (decide ((ws.getD n (0,0)).1 < (ws.getD (n+1) (0,0)).1)) :=
 comp_enc (fun n:Nat=>D.int (n:Nat)) (fun _=>true) (fun n=>.bl (decide ((ws.getD n (0,0)).1 < (ws.getD (n+1) (0,0)).1))) (xs:=List.range (ws.length-1)) (Q:=fun ds=>ds=(List.range (ws.length-1)).map fun n=>D.bl (decide ((ws.getD n (0,0)).1 < (ws.getD (n+1) (0,0)).1))) (fun n hn=>by
  have hn':=List.mem_range.mp hn
  have l1:n < ws.length:=by lia
  have l2:n+1 < ws.length:=by lia
  have i1:oIx (.tup (ws.map encW)) (.int (n:Nat))=.ok (encW ws[n]):=(ix_at (j:=n) rfl (by rw [List.getElem?_map,List.getElem?_eq_getElem l1];rfl)).1
  have i2:oIx (.tup (ws.map encW)) (.int ((n:Nat)+1))=.ok (encW ws[n+1]):=(ix_at (j:=n+1) (by lia) (by rw [List.getElem?_map,List.getElem?_eq_getElem l2];rfl)).1
  have j1:∀ p,oIx (encW p) (.int 0)=.ok (.int p.1):=fun p=>rfl
  have g1:ws.getD n (0,0)=ws[n]:=by rw [List.getD_eq_getElem?_getD,List.getElem?_eq_getElem l1];rfl
  have g2:ws.getD (n+1) (0,0)=ws[n+1]:=by rw [List.getD_eq_getElem?_getD,List.getElem?_eq_getElem l2];rfl
  rw [g1,g2]
  generalize D.tup (ws.map encW)=WW at i1 i2 ⊢
  simp -implicitDefEqProofs [i1,i2,j1]) (by rw [List.filter_eq_self.mpr (fun _ _=>rfl)])
theorem are_any {ps:List (D×D)} (hp:∀ p∈ps,Nm p.1∧Nm p.2) (hl:ps.length≤100000):(∃ b,fn_are_wishes [.tup (ps.map pairD)]=.ok (.bl b)∧(b=true→∃ ws:List (Nat×Nat),(∀ p∈ws,p.1≤5∧1≤p.2∧p.2 < 10 ^ 60)∧(ws.map (·.1)).Pairwise (· < ·)∧ps.map pairD=ws.map encW)):=by
 have hl':ps.length≤16777216:=by lia
 have aw:=all_map wishB ps
 cases hb:ps.all wishB with
 | false =>
  rw [hb] at aw
  refine ⟨false,?_,fun z=>nomatch z⟩
  rw [fe_are_wishes]
  refine ret_ok ?_
  simp -implicitDefEqProofs [b_are_wishes,isTy,line,hl',lComp_a,capt]
  refine (wish_comp_any hp).imp ?_
  rintro ds rfl
  have:oAll (.lst (ps.map fun p=>D.bl (wishB p)))=.ok (.bl false):=by simp only [oAll,aw]
  rw [this]
  simp
 | true =>
  rw [hb] at aw
  obtain ⟨ws,h1,h2⟩:=wishes_nat hp hb
  have hlen:ps.length=ws.length:=by have:=congrArg List.length h2;simpa using this
  have aw2:=all_map (fun n=>decide ((ws.getD n (0,0)).1 < (ws.getD (n+1) (0,0)).1)) (List.range (ws.length-1))
  have e1:«zints» 0 (ws.length-1)=(List.range (ws.length-1)).map fun n=>D.int (n:Nat):=by
   unfold «zints»
   exact List.map_congr_left fun n _=>by simp
  refine ⟨_,?_,fun z=>⟨ws,h1,(rise_iff ws).mp z,h2⟩⟩
  rw [fe_are_wishes]
  refine ret_ok ?_
  simp -implicitDefEqProofs [b_are_wishes,isTy,line,hl',lComp_a,capt]
  refine (wish_comp_any hp).imp ?_
  rintro ds rfl
  have:oAll (.lst (ps.map fun p=>D.bl (wishB p)))=.ok (.bl true):=by simp only [oAll,aw]
  rw [this,h2]
  have hwl:ws.length≤16777216:=by lia
  simp -implicitDefEqProofs [line,hwl]
  rw [hlen,e1]
  refine ⟨by lia,(rise_any ws).imp ?_⟩
  rintro ds rfl
  simp only [oAll,aw2]
  simp
end KS
namespace KS
open Z KA
theorem nameB_ok {cs:List Nat} (h:nameB cs=true):NmOk cs:=by
 unfold nameB at h
 rw [Bool.and_eq_true,decide_eq_true_eq,List.all_eq_true] at h
 exact ⟨h.1.1,h.1.2,fun c hc=>of_decide_eq_true (h.2 c hc)⟩
theorem kindB_ok {cs:List Nat} (h:kindB cs=true):cs=[]∨∃ c∈letters,cs=[c]:=by
 unfold kindB at h
 rw [Bool.or_eq_true,beq_iff_eq,Bool.and_eq_true,decide_eq_true_eq,List.all_eq_true] at h
 rcases h with h | ⟨h1,h2⟩
 ·exact .inl h
 ·obtain ⟨c,rfl⟩:=List.length_eq_one_iff.mp h1
  exact .inr ⟨c,of_decide_eq_true (h2 c (by simp)),rfl⟩
theorem asks_any {nm kd : List Nat} {N1 N2 N4 N5 N6 X : D} (hk : kd.length ≤ 16777216) (h1 : Nm N1) (h2 : Nm N2) (h4 : Nm N4) (h5 : Nm N5) : ∃ b, fn_asks_for_seats [.tup [.str nm, N1, N2, .str kd, N4, N5, N6, X]] = .ok (.bl b) ∧
  (b=true→∃ w d wi ga:Nat,N1=.int w∧N2=.int d∧N4=.int wi∧N5=.int ga∧1≤w∧w≤12∧1≤d∧d≤3∧wi≤w*d∧ga≤6∧kindB kd=true):=by
 have i1:oIx (.tup [.str nm,N1,N2,.str kd,N4,N5,N6,X]) (.int 1)=.ok N1:=rfl
 have i2:oIx (.tup [.str nm,N1,N2,.str kd,N4,N5,N6,X]) (.int 2)=.ok N2:=rfl
 have i3:oIx (.tup [.str nm,N1,N2,.str kd,N4,N5,N6,X]) (.int 3)=.ok (.str kd):=rfl
 have i4:oIx (.tup [.str nm,N1,N2,.str kd,N4,N5,N6,X]) (.int 4)=.ok N4:=rfl
 have i5:oIx (.tup [.str nm,N1,N2,.str kd,N4,N5,N6,X]) (.int 5)=.ok N5:=rfl
 generalize D.tup [.str nm,N1,N2,.str kd,N4,N5,N6,X]=GG at i1 i2 i3 i4 i5 ⊢
 have w1:=within_nm h1 1 12
 have w2:=within_nm h2 1 3
 have w5:=within_nm h5 0 6
 have wk:=kind_ok kd hk
 rw [fe_asks_for_seats]
 cases b1:inB N1 1 12 with
 | false =>
  rw [b1] at w1
  exact ⟨false,ret_ok (by simp -implicitDefEqProofs [b_asks_for_seats,i1,w1]),fun z=>nomatch z⟩
 | true =>
  rw [b1] at w1
  obtain ⟨w,rfl,hw1,hw2,_⟩:=inB_nat h1 b1
  cases b2:inB N2 1 3 with
  | false =>
   rw [b2] at w2
   exact ⟨false,ret_ok (by simp -implicitDefEqProofs [b_asks_for_seats,i1,i2,w1,w2]),fun z=>nomatch z⟩
  | true =>
   rw [b2] at w2
   obtain ⟨d,rfl,hd1,hd2,_⟩:=inB_nat h2 b2
   have m:mulFits (w:Int) (d:Int):=mulFits_l (by lia) (by lia)
   have w4:=within_nm h4 0 ((w:Int)*(d:Int))
   cases b4:inB N4 0 ((w:Int)*(d:Int)) with
   | false =>
    rw [b4] at w4
    exact ⟨false,ret_ok (by simp -implicitDefEqProofs [b_asks_for_seats,i1,i2,i4,w1,w2,w4,m]),fun z=>nomatch z⟩
   | true =>
    rw [b4] at w4
    obtain ⟨wi,rfl,hwi1,hwi2,_⟩:=inB_nat h4 b4
    cases bk:kindB kd with
    | false =>
     rw [bk] at wk
     exact ⟨false,ret_ok (by simp -implicitDefEqProofs [b_asks_for_seats,i1,i2,i3,i4,w1,w2,w4,wk,m]),fun z=>nomatch z⟩
    | true =>
     rw [bk] at wk
     refine ⟨inB N5 0 6,ret_ok (by simp -implicitDefEqProofs [b_asks_for_seats,i1,i2,i3,i4,i5,w1,w2,w4,w5,wk,m]),fun z=>?_⟩
     obtain ⟨ga,rfl,hg1,hg2,_⟩:=inB_nat h5 z
     exact ⟨w,d,wi,ga,rfl,rfl,rfl,rfl,by lia,by lia,by lia,by lia,by exact_mod_cast hwi2,by lia,rfl⟩
theorem group_test {nm kd : List Nat} {N1 N2 N4 N5 N6 : D} {ps : List (D × D)} (hn : nm.length ≤ 16777216) (hk : kd.length ≤ 16777216) (h1 : Nm N1) (h2 : Nm N2) (h4 : Nm N4) (h5 : Nm N5) (h6 : Nm N6) (hp : ∀ p ∈ ps, Nm p.1 ∧ Nm p.2) (hpl : ps.length ≤ 100000) :
  ∃ b,fn_is_group [.tup [.str nm,N1,N2,.str kd,N4,N5,N6,.tup (ps.map pairD)]]=.ok (.bl b)∧(b=true→∃ g,GpOk g∧D.tup [.str nm,N1,N2,.str kd,N4,N5,N6,.tup (ps.map pairD)]=encS g):=by
 have i0:oIx (.tup [.str nm,N1,N2,.str kd,N4,N5,N6,.tup (ps.map pairD)]) (.int 0)=.ok (.str nm):=rfl
 have i6:oIx (.tup [.str nm,N1,N2,.str kd,N4,N5,N6,.tup (ps.map pairD)]) (.int 6)=.ok N6:=rfl
 have i7:oIx (.tup [.str nm,N1,N2,.str kd,N4,N5,N6,.tup (ps.map pairD)]) (.int 7)=.ok (.tup (ps.map pairD)):=rfl
 have ty:isTy .tuple (.tup [.str nm,N1,N2,.str kd,N4,N5,N6,.tup (ps.map pairD)])=true:=rfl
 have ln:oLen (.tup [.str nm,N1,N2,.str kd,N4,N5,N6,.tup (ps.map pairD)])=.ok (.int 8):=rfl
 have wn:=name_ok nm hn
 obtain ⟨ba,wa,ha⟩:=asks_any (nm:=nm) (N6:=N6) (X:=.tup (ps.map pairD)) hk h1 h2 h4 h5
 have w6:=amount_nm h6 0
 obtain ⟨bw,ww,hw⟩:=are_any hp hpl
 obtain ⟨GG,hGG⟩:∃ GG,GG=D.tup [.str nm,N1,N2,.str kd,N4,N5,N6,.tup (ps.map pairD)]:=⟨_,rfl⟩
 rw [←hGG] at i0 i6 i7 ty ln wa ⊢
 rw [fe_is_group]
 cases bn:nameB nm with
 | false =>
  rw [bn] at wn
  exact ⟨false,ret_ok (by simp -implicitDefEqProofs [b_is_group,ty,ln,i0,wn]),fun z=>nomatch z⟩
 | true =>
  rw [bn] at wn
  cases ba with
  | false=>exact ⟨false,ret_ok (by simp -implicitDefEqProofs [b_is_group,ty,ln,i0,wn,wa]),fun z=>nomatch z⟩
  | true =>
   cases b6:inB N6 0 (10 ^ 60-1) with
   | false =>
    rw [b6] at w6
    exact ⟨false,ret_ok (by simp -implicitDefEqProofs [b_is_group,ty,ln,i0,i6,wn,wa,w6]),fun z=>nomatch z⟩
   | true =>
    rw [b6] at w6
    refine ⟨bw,ret_ok (by simp -implicitDefEqProofs [b_is_group,ty,ln,i0,i6,i7,wn,wa,w6,ww]),fun z=>?_⟩
    obtain ⟨ws,hw1,hw2,hw3⟩:=hw z
    obtain ⟨w,d,wi,ga,rfl,rfl,rfl,rfl,q1,q2,q3,q4,q5,q6,q7⟩:=ha rfl
    obtain ⟨wo,rfl,_,_,hwo⟩:=inB_nat h6 b6
    have hN:=nameB_ok bn
    have hwl:ws.length≤6:=by
     have hs:∀ (l:List Nat) (m:Nat),l.Pairwise (· < ·)→(∀ x∈l,m≤x∧x≤5)→l.length+m≤6∨l=[]:=by
      intro l
      induction l with
      | nil=>intro m _ _;exact .inr rfl
      | cons a r ih =>
       intro m hp hm
       left
       obtain ⟨hm1,hm2⟩:=hm a List.mem_cons_self
       rcases ih (a+1) (List.pairwise_cons.mp hp).2 (fun x hx=>⟨(List.pairwise_cons.mp hp).1 x hx,(hm x (List.mem_cons_of_mem _ hx)).2⟩) with h | h
       ·simp only [List.length_cons];lia
       ·rw [h];simp only [List.length_cons,List.length_nil];lia
     rcases hs (ws.map (·.1)) 0 hw2 (fun x hx=>by
      obtain ⟨p,hp,rfl⟩:=List.mem_map.mp hx
      exact ⟨by lia,(hw1 p hp).1⟩) with h | h
     ·simpa using h
     ·rw [List.map_eq_nil_iff.mp h];decide
    refine ⟨⟨nm,w,d,kd,wi,ga,wo,ws⟩,⟨hN.1,hN.2.1,hN.2.2,q1,q2,q3,q4,kindB_ok q7,q5,q6,hwo,hwl,hw1,hw2⟩,?_⟩
    rw [hGG,hw3]
    rfl
theorem cut_ne (c:Nat):∀ cs,cutC c cs≠[]
 | []=>by simp [cutC]
 | x :: r=>by
  rw [cutC]
  split
  ·simp
  ·split<;>simp
theorem cut_lens (c : Nat) : ∀ cs : List Nat, (cutC c cs).length ≤ cs.length + 1 ∧ ∀ x ∈ cutC c cs, x.length ≤ cs.length
 | []=>by simp [cutC]
 | y :: r=>by
  obtain ⟨h1,h2⟩:=cut_lens c r
  rw [cutC]
  split
  ·refine ⟨by simp;lia,fun x hx=>?_⟩
   rcases List.mem_cons.mp hx with rfl | hx
   ·simp
   ·have:=h2 x hx;simp;lia
  ·split
   ·rename_i e;exact absurd e (cut_ne c r)
   ·rename_i p ps e
    rw [e] at h1 h2
    refine ⟨by simp at h1 ⊢;lia,fun x hx=>?_⟩
    rcases List.mem_cons.mp hx with rfl | hx
    ·have:=h2 p List.mem_cons_self;simp;lia
    ·have:=h2 x (List.mem_cons_of_mem _ hx);simp;lia
end KS
set_option maxRecDepth 4000
noncomputable section
namespace K14
open Z KA KS
def t_1:List Nat:=[97,32,103,114,111,117,112,32,105,115,32,114,101,97,100,32,102,114,111,109,32,97,32,116,101,120,116,32,97,108,111,110,101]
def t_2:List Nat:=[97,32,103,114,111,117,112,32,105,115,32,119,114,105,116,116,101,110,32,105,110,32,116,119,111,32,119,111,114,100,115,32,97,116,32,108,101,97,115,116]
def t_3:List Nat:=[116,104,105,115,32,116,101,120,116,32,105,115,32,110,111,116,32,104,111,119,32,97,32,103,114,111,117,112,32,105,115,32,119,114,105,116,116,101,110]
def b_law_piece:SF:=(sSeq (sSet 2 (eB oIx (eL (lDisp (aCons (eC (.int 1)) (aCons (eC (.int 2)) (aCons (eC (.int 0)) (aCons (eC (.int 6)) (aCons (eC (.int 1)) (aCons (eC (.int 3)) (aCons (eC (.int 7)) (aCons (eC (.int 1)) aNil)))))))))) (eB oMod (eCall KA.fn_law_mixed (aCons (eV 0) (aCons (eB oAdd (eC (.int 30)) (eW 1)) aNil))) (eC (.int 8))))) (sSeq (sSet 3 (eB oMod (eCall KA.fn_law_mixed (aCons (eV 0) (aCons (eB oAdd (eC (.int 40)) (eW 1)) aNil))) (eC (.int 7)))) (sSeq (sSet 4 (eL (lDisp (aCons (eTup (aCons (eC (.int 0)) (aCons (eC (.str [107,105,110,100,32,97])) aNil))) (aCons (eTup (aCons (eC (.int 1)) (aCons (eB oAdd (eC (.str [119,105,100,101,32])) (eU oStr (eW 2))) aNil))) (aCons (eTup (aCons (eC (.int 2)) (aCons (eB oAdd (eC (.str [103,97,112,32])) (eU oStr (eW 2))) aNil))) (aCons (eTup (aCons (eC (.int 3)) (aCons (eB oAdd (eC (.str [119,111,114,116,104,32])) (eU oStr (eW 2))) aNil))) aNil))))))) (sSeq (sSet 4 (eL (lCat (eW 4) (eL (lDisp (aCons (eTup (aCons (eB oAdd (eC (.int 4)) (eW 3)) (aCons (eB oAdd (eB oAdd (eB oAdd (eC (.str [114,111,119,32])) (eU oStr (eW 3))) (eC (.str [32]))) (eU oStr (eW 2))) aNil))) (aCons (eTup (aCons (eB oAdd (eC (.int 4)) (eW 3)) (aCons (eB oAdd (eB oAdd (eC (.str [114,111,119,32])) (eU oStr (eW 3))) (eC (.str [32,53]))) aNil))) aNil))))))) (sSeq (sGet (eB oIx (eW 4) (eB oMod (eCall KA.fn_law_mixed (aCons (eV 0) (aCons (eB oAdd (eC (.int 50)) (eW 1)) aNil))) (eC (.int 6)))) (gTup [5,6])) (sSeq (sSet 7 (eL (lSplit (eW 6) (eC (.str [32]))))) (sSeq (sSet 8 (eDIx [([119,105,100,101],3),([103,97,112],6),([119,111,114,116,104],7),([114,111,119],7),([107,105,110,100],7)] (eB oIx (eW 7) (eC (.int 0))))) (sSeq (sSet 9 (eAnd (eB oNe (eB oIx (eW 7) (eU oNeg (eC (.int 1)))) (eC (.str [48]))) (eAnd (eOr (eB oEq (eB oIx (eW 7) (eC (.int 0))) (eC (.str [107,105,110,100]))) (eB oLe (eU oIntT (eB oIx (eW 7) (eU oNeg (eC (.int 1))))) (eW 8))) (eB oLt (eW 5) (eC (.int 10)))))) (sRet (eTup (aCons (eV 5) (aCons (eV 6) (aCons (eV 9) aNil)))))))))))))
def fn_law_piece:List D→Res D:=fn 2 10 b_law_piece
theorem fe_law_piece (x0 x1:D):fn_law_piece [x0,x1]=retK (b_law_piece [some (.val x0),some (.val x1),none,none,none,none,none,none,none,none]):=fn_a _ _ _ _ rfl
def b_law_sorted:SF:=(sSeq (sSet 1 (eL (lOf (eW 0)))) (sSeq (sOwn 2 (lDisp aNil)) (sSeq (sWhile 100 (tE (eB oNe (eW 1) (eL (lDisp aNil)))) (sSeq (sSet 3 (eU oMin1 (eL (lComp (iSeq (eW 1)) 1 [] (gName 0) tTrue (eB oIx (eW 0) (eC (.int 0))))))) (sSeq (sExt 2 (lSl (eL (lComp (iSeq (eW 1)) 1 [3] (gName 0) (tE (eB oEq (eB oIx (eW 0) (eC (.int 0))) (eW 1))) (eV 0))) pNo (pAt (eC (.int 1))))) (sSet 1 (eL (lComp (iSeq (eW 1)) 1 [3] (gName 0) (tE (eB oNe (eB oIx (eW 0) (eC (.int 0))) (eW 1))) (eV 0))))))) (sFrz 2 (sRet (eV 2))))))
def fn_law_sorted:List D→Res D:=fn 1 4 b_law_sorted
theorem fe_law_sorted (x0:D):fn_law_sorted [x0]=retK (b_law_sorted [some (.val x0),none,none,none]):=fn_a _ _ _ _ rfl
def xb_read_group:XF:=(xSeq (sIf (tNot (tE (eU (oIsTy .str) (eW 0)))) sBad sNext) (xIf (tNot (tE (eU (oIsTy .str) (eW 0)))) (xRaise [78,111,84,101,120,116] (eC (.str t_1))) xNo) (xSeq (sSet 1 (eL (lSplit (eW 0) (eC (.str [32]))))) xNo (xSeq (sIf (tE (eB oLt (eU oLen (eW 1)) (eC (.int 2)))) sBad sNext) (xIf (tE (eB oLt (eU oLen (eW 1)) (eC (.int 2)))) (xRaise [78,111,84,101,120,116] (eC (.str t_2))) xNo) (xSeq (sSet 2 (eCall KS.fn_group_in (aCons (eV 1) aNil))) xNo (xSeq (sIf (tOr (tNot (tE (eCall KS.fn_is_group (aCons (eV 2) aNil)))) (tE (eB oNe (eCall KS.fn_show_group (aCons (eV 2) aNil)) (eW 0)))) sBad sNext) (xIf (tOr (tNot (tE (eCall KS.fn_is_group (aCons (eV 2) aNil)))) (tE (eB oNe (eCall KS.fn_show_group (aCons (eV 2) aNil)) (eW 0)))) (xRaise [78,111,84,101,120,116] (eC (.str t_3))) xNo) xNo)))))
def fx_read_group:List D→Option XN:=fx 1 3 xb_read_group
theorem fxe_read_group (x0:D):fx_read_group [x0]=xb_read_group [some (.val x0),none,none]:=fx_a _ _ _ _ rfl
def b_law_right:SF:=(sSeq (sSet 1 (eL (lComp (iRng1 (eB oMod (eCall KA.fn_law_mixed (aCons (eV 0) (aCons (eC (.int 1)) aNil))) (eC (.int 6)))) 1 [0] (gName 0) tTrue (eCall fn_law_piece (aCons (eV 1) (aCons (eV 0) aNil)))))) (sSeq (sIf (tE (eB oGt (eB oMod (eCall KA.fn_law_mixed (aCons (eV 0) (aCons (eC (.int 2)) aNil))) (eC (.int 3))) (eC (.int 0)))) (sSet 1 (eCall fn_law_sorted (aCons (eV 1) aNil))) sNext) (sSeq (sSet 2 (eB oJoin (eC (.str [32])) (eL (lCat (eL (lDisp (aCons (eC (.str [98,111])) (aCons (eC (.str [51,120,49])) aNil)))) (eL (lComp (iSeq (eW 1)) 1 [] (gName 0) tTrue (eB oIx (eW 0) (eC (.int 1))))))))) (sSeq (sSet 3 (eL (lComp (iSeq (eW 1)) 1 [] (gName 0) tTrue (eB oIx (eW 0) (eC (.int 0)))))) (sSeq (sSet 4 (eAnd (eB oEq (eW 3) (eL (lSortS (eW 3)))) (eB oNotIn (eC (.bl false)) (eL (lComp (iSeq (eW 1)) 1 [] (gName 0) tTrue (eB oIx (eW 0) (eC (.int 2)))))))) (sSeq (sTryN (sSet 5 (eCall KS.fn_read_group (aCons (eV 2) aNil))) (xCall fx_read_group (aCons (eV 2) aNil)) [78,111,84,101,120,116] (sRet (eNot (eV 4)))) (sSeq (sIf (tOr (tNot (tE (eV 4))) (tOr (tE (eU oNotT (eCall KS.fn_is_group (aCons (eV 5) aNil)))) (tE (eB oNe (eCall KS.fn_show_group (aCons (eV 5) aNil)) (eW 2))))) (sRet (eC (.bl false))) sNext) (sRet (eAnd (eB oEq (eSl (eW 5) pNo (pAt (eC (.int 3)))) (eTup (aCons (eC (.str [98,111])) (aCons (eC (.int 3)) (aCons (eC (.int 1)) aNil))))) (eAnd (eB oEq (eB oEq (eB oIx (eW 5) (eC (.int 3))) (eC (.str [97]))) (eB oIn (eC (.int 0)) (eW 3))) (eB oEq (eB oGt (eB oIx (eW 5) (eC (.int 4))) (eC (.int 0))) (eB oIn (eC (.int 1)) (eW 3)))))))))))))
def fn_law_right:List D→Res D:=fn 1 6 b_law_right
theorem fe_law_right (x0:D):fn_law_right [x0]=retK (b_law_right [some (.val x0),none,none,none,none,none]):=fn_a _ _ _ _ rfl
def b_law:SF:=(sSeq (sFor (iSeq (eL (lCat (eL (lDisp (aCons (eCall KA.fn_law_cell_at (aCons (eV 0) (aCons (eC (.int 0)) aNil))) aNil))) (eL (lSl (eW 0) (pAt (eC (.int 1))) (pAt (eC (.int 30)))))))) (gName 1) (sIf (tNot (tE (eCall fn_law_right (aCons (eV 1) aNil)))) (sRet (eC (.bl false))) sNext)) (sRet (eC (.bl true))))
def fn_law:List D→Res D:=fn 1 2 b_law
theorem fe_law (x0:D):fn_law [x0]=retK (b_law [some (.val x0),none]):=fn_a _ _ _ _ rfl
end K14
end
set_option maxRecDepth 8000
namespace K14
open Z KA KS
abbrev NT:XN:=([78,111,84,101,120,116],[])
def Wr (t:List Nat):Prop:=∃ g,GpOk g∧t=gluedC [32] (wordsG g)
theorem split_any {t:List Nat} (h:t.length≤90000):splK (.str t) (.str [32])=.ok ((cutC 32 t).map .str):=by
 rw [splK_a,guard_pos]
 simp only [line];lia
theorem x_text {t : List Nat} (h : t.length ≤ 90000) (hn : ¬ Wr t) : fx_read_group [.str t] = some NT := by
 obtain ⟨l1,l2⟩:=cut_lens 32 t
 have es:=split_any h
 have hl:(cutC 32 t).length≤16777216:=by lia
 rw [fxe_read_group]
 by_cases h2:(cutC 32 t).length < 2
 ·have q:((cutC 32 t).length:Int) < 2:=by lia
  simp -implicitDefEqProofs [xb_read_group,xSeq,xIf,xNo,xRaise,isTy,es,hl,line,q]
 ·have q:¬ ((cutC 32 t).length:Int) < 2:=by lia
  obtain ⟨nm,kd,N1,N2,N4,N5,N6,ps,m0,mk,h1,h2',h4,h5,h6,hp,hpl,eg⟩:=group_any (W:=cutC 32 t) (by lia) (by lia) fun x hx=>by have:=l2 x hx;lia
  have hkd:kd.length≤16777216:=by
   rcases mk with rfl | mk
   ·simp
   ·have:=l2 kd mk;lia
  obtain ⟨b,eb,hb⟩:=group_test (nm:=nm) (kd:=kd) (ps:=ps) (by have:=l2 nm m0;lia) hkd h1 h2' h4 h5 h6 hp hpl
  have epd:(ps.map fun p=>D.tup [p.1,p.2])=ps.map pairD:=rfl
  rw [epd] at eg
  cases b with
  | false =>
   generalize D.tup [.str nm,N1,N2,.str kd,N4,N5,N6,.tup (ps.map pairD)]=GG at eg eb
   simp -implicitDefEqProofs [xb_read_group,xSeq,xIf,xNo,xRaise,isTy,es,hl,line,q,eg,eb]
  | true =>
   obtain ⟨g,kg,e⟩:=hb rfl
   rw [e] at eg eb
   have hs:=show_ok kg
   have hne:gluedC [32] (wordsG g)≠t:=fun z=>hn ⟨g,kg,z.symm⟩
   have en:oNe (.str (gluedC [32] (wordsG g))) (.str t)=.ok (.bl true):=by
    have:eqD (.str (gluedC [32] (wordsG g))) (.str t)=some false:=by show some (gluedC [32] (wordsG g)==t)=_;simp [hne]
    simp [oNe,this]
   simp -implicitDefEqProofs [xb_read_group,xSeq,xIf,xNo,xRaise,isTy,es,hl,line,q,eg,eb,hs,en]
theorem wr_cut {t:List Nat} (h:Wr t):∃ g,GpOk g∧cutC 32 t=wordsG g∧t=gluedC [32] (wordsG g):=by
 obtain ⟨g,k,rfl⟩:=h
 exact ⟨g,k,cutC_glued (fun e=>by have:=congrArg List.length e;simp [wordsG] at this) (words_no k),rfl⟩
theorem x_none {g:Gp} (kg:GpOk g):fx_read_group [.str (gluedC [32] (wordsG g))]=none:=by
 have hc:cutC 32 (gluedC [32] (wordsG g))=wordsG g:=cutC_glued (fun e=>by have:=congrArg List.length e;simp [wordsG] at this) (words_no kg)
 have wl:=words_len kg
 have hlen:(gluedC [32] (wordsG g)).length≤90000:=by
  have h1:=glue_len (m:=121) (wordsG g) (words_each kg)
  have:(wordsG g).length*122≤28*122:=Nat.mul_le_mul_right _ wl
  lia
 have es:=split_any hlen
 rw [hc] at es
 have hl:(wordsG g).length≤16777216:=by lia
 have h2:¬ ((wordsG g).length:Int) < 2:=by
  have:2≤(wordsG g).length:=by unfold wordsG;simp
  lia
 have eg:=group_in_ok kg
 have eb:=group_is kg
 have hs:=show_ok kg
 have en:oNe (.str (gluedC [32] (wordsG g))) (.str (gluedC [32] (wordsG g)))=.ok (.bl false):=by
  have:eqD (.str (gluedC [32] (wordsG g))) (.str (gluedC [32] (wordsG g)))=some true:=by show some (gluedC [32] (wordsG g)==gluedC [32] (wordsG g))=_;simp
  simp [oNe,this]
 rw [fxe_read_group]
 simp -implicitDefEqProofs [xb_read_group,xSeq,xIf,xNo,xRaise,isTy,es,hl,line,h2,eg,eb,hs,en]
inductive Pc where
 | kd
 | nm (k:Nat) (n:Nat)
 | rw (r n:Nat)
namespace Pc
def key:Nat→List Nat
 | 0=>cWide
 | 1=>cGap
 | _=>cWorth
def lim:Nat→Nat
 | 0=>3
 | 1=>6
 | _=>7
def rnk:Pc→Nat
 | kd=>0
 | nm k _=>1+k
 | rw r _=>4+r
def words:Pc→Rows
 | kd=>[cKind,[97]]
 | nm k n=>[key k,decC n]
 | rw r n=>[cRow,decC r,decC n]
def good:Pc→Bool
 | kd=>true
 | nm k n=>decide (n≠0∧n≤lim k)
 | rw r n=>decide (n≠0∧n≤7∧r < 6)
def Fit:Pc→Prop
 | kd=>True
 | nm k n=>k < 3∧n≤7
 | rw r n=>r≤6∧n≤7
end Pc
def flat (ps:List Pc):Rows:=(ps.map Pc.words).flatten
theorem flat_cons (p:Pc) (ps:List Pc):flat (p :: ps)=p.words++flat ps:=by simp [flat]
theorem dec_inj {a b:Nat} (h:decC a=decC b):a=b:=by have:=congrArg valC h;rwa [dec_val,dec_val] at this
theorem key_ne (k:Nat):Pc.key k≠cKind∧Pc.key k≠cRow:=by
 unfold Pc.key;split<;>decide
theorem key_inj_K14 {j k:Nat} (hj:j < 3) (hk:k < 3) (h:Pc.key j=Pc.key k):j=k :=
 (by decide:∀ j < 3,∀ k < 3,Pc.key j=Pc.key k→j=k) j hj k hk h
theorem flat_nil {ps:List Pc} (h:flat ps=[]):ps=[]:=by
 cases ps with
 | nil=>rfl
 | cons p ps=>rw [flat_cons] at h;cases p<;>simp [Pc.words] at h
theorem flat_kd {ps:List Pc} {x:List Nat} {R:Rows} (h:flat ps=cKind :: x :: R):∃ ps',ps=.kd :: ps'∧flat ps'=R:=by
 cases ps with
 | nil=>simp [flat] at h
 | cons p ps =>
  rw [flat_cons] at h
  cases p with
  | kd=>simp [Pc.words] at h;exact ⟨ps,rfl,h.2⟩
  | nm k n=>simp [Pc.words] at h;exact absurd h.1 (key_ne k).1
  | rw r n=>simp [Pc.words] at h
theorem flat_nm {ps:List Pc} (hok:∀ p∈ps,p.Fit) {k:Nat} (hk:k < 3) {m:Nat} {R:Rows} (h:flat ps=Pc.key k :: decC m :: R):∃ ps',ps=.nm k m :: ps'∧flat ps'=R:=by
 cases ps with
 | nil=>simp [flat] at h
 | cons p ps =>
  rw [flat_cons] at h
  have ho:=hok p List.mem_cons_self
  cases p with
  | kd=>simp only [Pc.words,List.cons_append,List.nil_append,List.cons.injEq] at h;exact absurd h.1.symm (key_ne k).1
  | nm k' n =>
   simp only [Pc.words,List.cons_append,List.nil_append,List.cons.injEq] at h
   obtain ⟨h1,h2,h3⟩:=h
   have:=key_inj_K14 ho.1 hk h1
   subst this
   rw [dec_inj h2]
   exact ⟨ps,rfl,h3⟩
  | rw r n=>simp only [Pc.words,List.cons_append,List.nil_append,List.cons.injEq] at h;exact absurd h.1.symm (key_ne k).2
theorem flat_rw {ps:List Pc} {r m:Nat} {R:Rows} (h:flat ps=cRow :: decC r :: decC m :: R):∃ ps',ps=.rw r m :: ps'∧flat ps'=R:=by
 cases ps with
 | nil=>simp [flat] at h
 | cons p ps =>
  rw [flat_cons] at h
  cases p with
  | kd=>simp [Pc.words] at h
  | nm k' n=>simp only [Pc.words,List.cons_append,List.nil_append,List.cons.injEq] at h;exact absurd h.1 (key_ne k').2
  | rw r' n =>
   simp only [Pc.words,List.cons_append,List.nil_append,List.cons.injEq] at h
   obtain ⟨_,h1,h2,h3⟩:=h
   rw [dec_inj h1,dec_inj h2]
   exact ⟨ps,rfl,h3⟩
theorem flat_rows {ws:List (Nat×Nat)}:∀ {ps:List Pc},flat ps=(ws.map wishW).flatten→ps=ws.map fun p=>.rw p.1 p.2:=by
 induction ws with
 | nil=>intro ps h;exact flat_nil h
 | cons w ws ih =>
  intro ps h
  obtain ⟨ps',rfl,h'⟩:=flat_rw (r:=w.1) (m:=w.2) (R:=(ws.map wishW).flatten) (by rw [h];simp [wishW])
  rw [ih h'];rfl
def kdP (k:List Nat):List Pc:=if k=[] then [] else [.kd]
def nmP (k n:Nat):List Pc:=if 0 < n then [.nm k n] else []
def pcs (kd:List Nat) (wi ga wo:Nat) (ws:List (Nat×Nat)):List Pc:=kdP kd++(nmP 0 wi++(nmP 1 ga++(nmP 2 wo++ws.map fun p=>.rw p.1 p.2)))
theorem back_nm {ps:List Pc} (hok:∀ p∈ps,p.Fit) {k:Nat} (hk:k < 3) {n:Nat} {R:Rows} (h:flat ps=numW (Pc.key k) n++R):∃ ps',ps=nmP k n++ps'∧flat ps'=R∧∀ p∈ps',p.Fit:=by
 unfold numW at h
 unfold nmP
 by_cases hn:0 < n
 ·rw [if_pos hn] at h ⊢
  obtain ⟨ps',rfl,h'⟩:=flat_nm hok hk h
  exact ⟨ps',rfl,h',fun p hp=>hok p (List.mem_cons_of_mem _ hp)⟩
 ·rw [if_neg hn] at h ⊢
  exact ⟨ps,rfl,h,hok⟩
theorem back {ps:List Pc} (hok:∀ p∈ps,p.Fit) {kd:List Nat} {wi ga wo:Nat} {ws:List (Nat×Nat)} (h:flat ps=kindW kd++(numW cWide wi++(numW cGap ga++(numW cWorth wo++(ws.map wishW).flatten)))):ps=pcs kd wi ga wo ws:=by
 have step:∃ ps',ps=kdP kd++ps'∧flat ps'=numW cWide wi++(numW cGap ga++(numW cWorth wo++(ws.map wishW).flatten))∧∀ p∈ps',p.Fit:=by
  unfold kindW at h
  unfold kdP
  by_cases hk:kd=[]
  ·rw [if_pos hk] at h ⊢
   exact ⟨ps,rfl,h,hok⟩
  ·rw [if_neg hk] at h ⊢
   obtain ⟨ps',rfl,h'⟩:=flat_kd h
   exact ⟨ps',rfl,h',fun p hp=>hok p (List.mem_cons_of_mem _ hp)⟩
 obtain ⟨p1,rfl,h1,o1⟩:=step
 obtain ⟨p2,rfl,h2,o2⟩:=back_nm o1 (k:=0) (by decide) h1
 obtain ⟨p3,rfl,h3,o3⟩:=back_nm o2 (k:=1) (by decide) h2
 obtain ⟨p4,rfl,h4,_⟩:=back_nm o3 (k:=2) (by decide) h3
 rw [flat_rows h4]
 rfl
def dueB (ps:List Pc):Bool:=decide ((ps.map fun p=>(p.rnk:Int)).Pairwise (· < ·))&&ps.all Pc.good
theorem due_of {kd:List Nat} {wi ga wo:Nat} {ws:List (Nat×Nat)} (h1:wi≤3) (h2:ga≤6) (h3:wo≤7) (h4:∀ p∈ws,p.1≤5∧1≤p.2∧p.2≤7) (h5:(ws.map (·.1)).Pairwise (· < ·)):dueB (pcs kd wi ga wo ws)=true:=by
 have hr:(ws.map fun p=>Pc.rw p.1 p.2).Pairwise fun a b=>a.rnk < b.rnk:=by
  rw [List.pairwise_map] at h5 ⊢
  exact h5.imp fun h=>by show 4+_ < 4+_;lia
 have hm:∀ p∈ws.map (fun p=>Pc.rw p.1 p.2),4≤p.rnk:=fun p hp=>by
  obtain ⟨q,_,rfl⟩:=List.mem_map.mp hp
  show 4≤4+_;lia
 have step:∀ (k n:Nat) (qs:List Pc),qs.Pairwise (fun a b=>a.rnk < b.rnk)→(∀ p∈qs,2+k≤p.rnk)→(nmP k n++qs).Pairwise (fun a b=>a.rnk < b.rnk)∧∀ p∈nmP k n++qs,1+k≤p.rnk:=fun k n qs hp hq=>by
  unfold nmP
  split
  ·refine ⟨List.pairwise_cons.mpr ⟨fun b hb=>by have:=hq b hb;show 1+k < _;lia,hp⟩,fun p hp=>?_⟩
   rcases List.mem_cons.mp hp with rfl | hp
   ·exact Nat.le_refl _
   ·have:=hq p hp;lia
  ·exact ⟨hp,fun p hp=>by have:=hq p hp;lia⟩
 obtain ⟨c1,c2⟩:=step 2 wo _ hr hm
 obtain ⟨b1,b2⟩:=step 1 ga _ c1 c2
 obtain ⟨a1,a2⟩:=step 0 wi _ b1 b2
 have k1:(pcs kd wi ga wo ws).Pairwise fun a b=>a.rnk < b.rnk:=by
  unfold pcs kdP
  split
  ·exact a1
  ·exact List.pairwise_cons.mpr ⟨fun b hb=>by have:=a2 b hb;show 0 < _;lia,a1⟩
 unfold dueB
 rw [Bool.and_eq_true,decide_eq_true_iff,List.pairwise_map]
 refine ⟨k1.imp fun h=>by lia,?_⟩
 rw [List.all_eq_true]
 intro p hp
 have gn:∀ (k n:Nat),n≤Pc.lim k→∀ p∈nmP k n,p.good=true:=fun k n hn p hp=>by
  unfold nmP at hp
  split at hp
  ·rw [List.mem_singleton.mp hp];exact decide_eq_true ⟨by lia,hn⟩
  ·cases hp
 unfold pcs at hp
 rcases List.mem_append.mp hp with hp | hp
 ·unfold kdP at hp
  split at hp
  ·cases hp
  ·rw [List.mem_singleton.mp hp];rfl
 rcases List.mem_append.mp hp with hp | hp
 ·exact gn 0 wi h1 p hp
 rcases List.mem_append.mp hp with hp | hp
 ·exact gn 1 ga h2 p hp
 rcases List.mem_append.mp hp with hp | hp
 ·exact gn 2 wo h3 p hp
 obtain ⟨q,hq,rfl⟩:=List.mem_map.mp hp
 have:=h4 q hq
 exact decide_eq_true ⟨by lia,this.2.2,by lia⟩
theorem take_nm {k : Nat} (hk : k < 3) {ps : List Pc} (hok : ∀ p ∈ ps, p.Fit) (hp : ps.Pairwise fun a b => a.rnk < b.rnk) (hg : ∀ p ∈ ps, p.good = true) (hm : ∀ p ∈ ps, 1 + k ≤ p.rnk) :
  ∃ n ps',ps=nmP k n++ps'∧n≤Pc.lim k∧(∀ p∈ps',p.Fit∧p.good=true∧2+k≤p.rnk)∧ps'.Pairwise (fun a b=>a.rnk < b.rnk):=by
 cases ps with
 | nil=>exact ⟨0,[],rfl,Nat.zero_le _,fun p hp=>(nomatch hp),.nil⟩
 | cons p ps =>
  obtain ⟨q1,q2⟩:=List.pairwise_cons.mp hp
  by_cases hr:p.rnk=1+k
  ·have ho:=hok p List.mem_cons_self
   have hgp:=hg p List.mem_cons_self
   cases p with
   | kd=>have:(0:Nat)=1+k:=hr;lia
   | rw r n=>have:4+r=1+k:=hr;lia
   | nm k' n =>
    have e:1+k'=1+k:=hr
    obtain rfl:k'=k:=by lia
    have hgp:=of_decide_eq_true hgp
    refine ⟨n,ps,?_,hgp.2,fun b hb=>⟨hok b (List.mem_cons_of_mem _ hb),hg b (List.mem_cons_of_mem _ hb),?_⟩,q2⟩
    ·unfold nmP;rw [if_pos (by lia)];rfl
    ·have:=q1 b hb
     have e2:(Pc.nm k' n).rnk=1+k':=rfl
     lia
  ·refine ⟨0,p :: ps,rfl,Nat.zero_le _,fun b hb=>⟨hok b hb,hg b hb,?_⟩,hp⟩
   have h0:=hm p List.mem_cons_self
   rcases List.mem_cons.mp hb with rfl | hb
   ·lia
   ·have:=q1 b hb;lia
theorem take_rows : ∀ {ps : List Pc}, (∀ p ∈ ps, p.Fit ∧ p.good = true ∧ 4 ≤ p.rnk) → ps.Pairwise (fun a b => a.rnk < b.rnk) → ∃ ws : List (Nat × Nat), ps = ws.map (fun p => .rw p.1 p.2) ∧ (∀ p ∈ ws, p.1 ≤ 5 ∧ 1 ≤ p.2 ∧ p.2 ≤ 7) ∧ (ws.map (·.1)).Pairwise (· < ·)
 | [],_,_=>⟨[],rfl,by simp,.nil⟩
 | p :: ps,h,hp=>by
  obtain ⟨q1,q2⟩:=List.pairwise_cons.mp hp
  obtain ⟨ws,rfl,h1,h2⟩:=take_rows (fun b hb=>h b (List.mem_cons_of_mem _ hb)) q2
  obtain ⟨ho,hg,hr⟩:=h p List.mem_cons_self
  cases p with
  | kd=>have:4≤0:=hr;lia
  | nm k n=>have:4≤1+k:=hr;have:=ho.1;lia
  | rw r n =>
   have hg:=of_decide_eq_true hg
   refine ⟨(r,n) :: ws,rfl,fun b hb=>?_,?_⟩
   ·rcases List.mem_cons.mp hb with rfl | hb
    ·exact ⟨by show r≤5;lia,by show 1≤n;lia,hg.2.1⟩
    ·exact h1 b hb
   ·rw [List.map_cons,List.pairwise_cons]
    refine ⟨fun x hx=>?_,h2⟩
    obtain ⟨q,hq,rfl⟩:=List.mem_map.mp hx
    have:=q1 (.rw q.1 q.2) (List.mem_map.mpr ⟨q,hq,rfl⟩)
    have e:4+r < 4+q.1:=this
    show r < q.1;lia
theorem of_due {ps : List Pc} (hok : ∀ p ∈ ps, p.Fit) (h : dueB ps = true) : ∃ kd wi ga wo ws, ps = pcs kd wi ga wo ws ∧ (kd = [] ∨ kd = [97]) ∧ wi ≤ 3 ∧ ga ≤ 6 ∧ wo ≤ 7 ∧ (∀ p ∈ ws, p.1 ≤ 5 ∧ 1 ≤ p.2 ∧ p.2 ≤ 7) ∧ (ws.map (·.1)).Pairwise (· < ·) := by
 unfold dueB at h
 rw [Bool.and_eq_true,decide_eq_true_iff,List.pairwise_map,List.all_eq_true] at h
 have hp:ps.Pairwise fun a b=>a.rnk < b.rnk:=h.1.imp fun h=>by lia
 have step:∃ kd ps',ps=kdP kd++ps'∧(kd=[]∨kd=[97])∧(∀ p∈ps',p.Fit∧p.good=true∧1≤p.rnk)∧ps'.Pairwise (fun a b=>a.rnk < b.rnk):=by
  cases ps with
  | nil=>exact ⟨[],[],rfl,.inl rfl,fun p hp=>(nomatch hp),.nil⟩
  | cons p ps =>
   obtain ⟨q1,q2⟩:=List.pairwise_cons.mp hp
   by_cases hr:p.rnk=0
   ·cases p with
    | kd=>exact ⟨[97],ps,rfl,.inr rfl,fun b hb=>⟨hok b (List.mem_cons_of_mem _ hb),h.2 b (List.mem_cons_of_mem _ hb),by have:=q1 b hb;lia⟩,q2⟩
    | nm k n=>have:1+k=0:=hr;lia
    | rw r n=>have:4+r=0:=hr;lia
   ·refine ⟨[],p :: ps,rfl,.inl rfl,fun b hb=>⟨hok b hb,h.2 b hb,?_⟩,hp⟩
    rcases List.mem_cons.mp hb with rfl | hb
    ·lia
    ·have:=q1 b hb;lia
 obtain ⟨kd,p1,rfl,hk,a1,a2⟩:=step
 obtain ⟨wi,p2,rfl,hwi,b1,b2⟩:=take_nm (k:=0) (by decide) (fun p hp=>(a1 p hp).1) a2 (fun p hp=>(a1 p hp).2.1) fun p hp=>(a1 p hp).2.2
 obtain ⟨ga,p3,rfl,hga,c1,c2⟩:=take_nm (k:=1) (by decide) (fun p hp=>(b1 p hp).1) b2 (fun p hp=>(b1 p hp).2.1) fun p hp=>(b1 p hp).2.2
 obtain ⟨wo,p4,rfl,hwo,d1,d2⟩:=take_nm (k:=2) (by decide) (fun p hp=>(c1 p hp).1) c2 (fun p hp=>(c1 p hp).2.1) fun p hp=>(c1 p hp).2.2
 obtain ⟨ws,rfl,e1,e2⟩:=take_rows d1 d2
 exact ⟨kd,wi,ga,wo,ws,rfl,hk,hwi,hga,hwo,e1,e2⟩
def textP (p:Pc):List Nat:=gluedC [32] p.words
def encP_K14 (p:Pc):D:=.tup [.int p.rnk,.str (textP p),.bl p.good]
theorem dec_small {n:Nat} (h:n≤7):decC n=[48+n]:=(by decide +kernel:∀ n≤7,decC n=[48+n]) n h
theorem str_small {n:Nat} (h:n≤7):oStr (.int n)=.ok (.str [48+n]):=by rw [str_dec (small_lt (by lia)),dec_small h]
theorem intT_small {n:Nat} (h:n≤7):oIntT (.str [48+n])=.ok (.int n):=by
 have e:valC [48+n]=n:=(by decide +kernel:∀ n≤7,valC [48+n]=n) n h
 show guard _ _=_
 rw [guard_pos ⟨by simp,by simp,fun c hc=>by rw [List.mem_singleton.mp hc];lia⟩,e]
theorem ne_zero {n:Nat}:oNe (.str [48+n]) (.str [48])=.ok (.bl (decide (n≠0))):=by
 have:eqD (.str [48+n]) (.str [48])=some (decide (n=0)):=by
  show some ([48+n]==[48])=_
  congr 1
  rw [Bool.eq_iff_iff]
  simp
 unfold oNe
 rw [this]
 simp
noncomputable def bp5:SF:=(sSeq (sSet 7 (eL (lSplit (eW 6) (eC (.str [32]))))) (sSeq (sSet 8 (eDIx [([119,105,100,101],3),([103,97,112],6),([119,111,114,116,104],7),([114,111,119],7),([107,105,110,100],7)] (eB oIx (eW 7) (eC (.int 0))))) (sSeq (sSet 9 (eAnd (eB oNe (eB oIx (eW 7) (eU oNeg (eC (.int 1)))) (eC (.str [48]))) (eAnd (eOr (eB oEq (eB oIx (eW 7) (eC (.int 0))) (eC (.str [107,105,110,100]))) (eB oLe (eU oIntT (eB oIx (eW 7) (eU oNeg (eC (.int 1))))) (eW 8))) (eB oLt (eW 5) (eC (.int 10)))))) (sRet (eTup (aCons (eV 5) (aCons (eV 6) (aCons (eV 9) aNil))))))))
theorem words_ok14 (p:Pc) (h:p.Fit):p.words≠[]∧(∀ x∈p.words,32∉x)∧p.words.length≤3∧∀ x∈p.words,x.length≤5:=by
 cases p with
 | kd=>exact ⟨by simp [Pc.words],by decide,by decide,by decide⟩
 | nm k n =>
  have hk:k=0∨k=1∨k=2:=by have:=h.1;lia
  have hd:=dec_small h.2
  refine ⟨by simp [Pc.words],?_,by simp [Pc.words],?_⟩
  ·intro x hx
   rcases (by simpa [Pc.words] using hx:x=_∨x=_) with rfl | rfl
   ·rcases hk with rfl | rfl | rfl<;>decide
   ·rw [hd];simp;lia
  ·intro x hx
   rcases (by simpa [Pc.words] using hx:x=_∨x=_) with rfl | rfl
   ·rcases hk with rfl | rfl | rfl<;>decide
   ·rw [hd];simp
 | rw r n =>
  have hd:=dec_small h.2
  have hr:=dec_small (n:=r) (by have:=h.1;lia)
  refine ⟨by simp [Pc.words],?_,by simp [Pc.words],?_⟩
  ·intro x hx
   rcases (by simpa [Pc.words] using hx:x=_∨x=_∨x=_) with rfl | rfl | rfl
   ·decide
   ·rw [hr];simp;lia
   ·rw [hd];simp;lia
  ·intro x hx
   rcases (by simpa [Pc.words] using hx:x=_∨x=_∨x=_) with rfl | rfl | rfl
   ·decide
   ·rw [hr];simp
   ·rw [hd];simp
theorem text_len (p:Pc) (h:p.Fit):(textP p).length≤18:=by
 obtain ⟨_,_,h3,h4⟩:=words_ok14 p h
 have:=glue_len (m:=5) p.words h4
 unfold textP
 lia
theorem bp5_ok {p:Pc} (h:p.Fit) (x0 x1 x2 x3 x4:Option L):Ok (bp5 [x0,x1,x2,x3,x4,vi p.rnk,vs (textP p),none,none,none]) fun fl=>fl=.rt (encP_K14 p):=by
 have hc:cutC 32 (textP p)=p.words:=cutC_glued (words_ok14 p h).1 (words_ok14 p h).2.1
 have hl:=text_len p h
 have es:=split_any (t:=textP p) (by lia)
 rw [hc] at es
 have hll:p.words.length≤16777216:=by have:=(words_ok14 p h).2.2.1;lia
 cases p with
 | kd =>
  have i0:oIx (.lst (Pc.kd.words.map .str)) (.int 0)=.ok (.str cKind):=rfl
  have im:oIx (.lst (Pc.kd.words.map .str)) (.int (-1))=.ok (.str [97]):=rfl
  have v0:dIxK [([119,105,100,101],3),([103,97,112],6),([119,111,114,116,104],7),([114,111,119],7),([107,105,110,100],7)] (.str cKind)=.ok (.int 7):=rfl
  have n0:oNe (.str [97]) (.str [48])=.ok (.bl true):=rfl
  have e0:oEq (.str cKind) (.str [107,105,110,100])=.ok (.bl true):=rfl
  have r0:((Pc.kd.rnk:Nat):Int) < 10:=by decide
  unfold encP_K14
  generalize Pc.kd.words.map D.str=WW at es i0 im hll
  generalize textP Pc.kd=tx at es
  simp -implicitDefEqProofs [bp5,es,line,i0,im,v0,n0,e0,r0,Pc.good]
 | nm k n =>
  have hd:=dec_small h.2
  have hk:k=0∨k=1∨k=2:=by have:=h.1;lia
  have i0:oIx (.lst ((Pc.nm k n).words.map .str)) (.int 0)=.ok (.str (Pc.key k)):=rfl
  have im:oIx (.lst ((Pc.nm k n).words.map .str)) (.int (-1))=.ok (.str [48+n]):=by rw [←hd];rfl
  have v0:dIxK [([119,105,100,101],3),([103,97,112],6),([119,111,114,116,104],7),([114,111,119],7),([107,105,110,100],7)] (.str (Pc.key k))=.ok (.int (Pc.lim k:Nat)):=by
   rcases hk with rfl | rfl | rfl<;>rfl
  have e0:oEq (.str (Pc.key k)) (.str [107,105,110,100])=.ok (.bl false):=by
   rcases hk with rfl | rfl | rfl<;>rfl
  have r0:(((Pc.nm k n).rnk:Nat):Int) < 10:=by show ((1+k:Nat):Int) < 10;lia
  have t0:=intT_small h.2
  have z0:=ne_zero (n:=n)
  unfold encP_K14
  have hg:(Pc.nm k n).good=decide (n≠0∧n≤Pc.lim k):=rfl
  rw [hg]
  generalize (Pc.nm k n).words.map D.str=WW at es i0 im hll
  generalize textP (Pc.nm k n)=tx at es
  generalize (Pc.nm k n).rnk=rk at r0
  by_cases hz:n=0
  ·subst hz
   simp -implicitDefEqProofs [bp5,es,line,i0,im,v0,z0]
  ·by_cases hle:n≤Pc.lim k
   ·have hle':(n:Int)≤(Pc.lim k:Nat):=by lia
    simp -implicitDefEqProofs [bp5,es,line,i0,im,v0,z0,e0,r0,t0,hz,hle,hle']
   ·have hle':¬ (n:Int)≤(Pc.lim k:Nat):=by lia
    simp -implicitDefEqProofs [bp5,es,line,i0,im,v0,z0,e0,r0,t0,hz,hle,hle']
 | rw r n =>
  have hd:=dec_small h.2
  have hr6:=h.1
  have i0:oIx (.lst ((Pc.rw r n).words.map .str)) (.int 0)=.ok (.str cRow):=rfl
  have im:oIx (.lst ((Pc.rw r n).words.map .str)) (.int (-1))=.ok (.str [48+n]):=by rw [←hd];rfl
  have v0:dIxK [([119,105,100,101],3),([103,97,112],6),([119,111,114,116,104],7),([114,111,119],7),([107,105,110,100],7)] (.str cRow)=.ok (.int 7):=rfl
  have e0:oEq (.str cRow) (.str [107,105,110,100])=.ok (.bl false):=rfl
  have t0:=intT_small h.2
  have z0:=ne_zero (n:=n)
  have hle':(n:Int)≤7:=by have:=h.2;lia
  have hle:n≤7:=h.2
  unfold encP_K14
  have hg:(Pc.rw r n).good=decide (n≠0∧n≤7∧r < 6):=rfl
  rw [hg]
  have hrk:(((Pc.rw r n).rnk:Nat):Int) < 10↔r < 6:=by show ((4+r:Nat):Int) < 10↔_;lia
  generalize (Pc.rw r n).words.map D.str=WW at es i0 im hll
  generalize textP (Pc.rw r n)=tx at es
  generalize (Pc.rw r n).rnk=rk at hrk
  by_cases hz:n=0
  ·subst hz
   simp -implicitDefEqProofs [bp5,es,line,i0,im,v0,z0]
  ·by_cases hr:r < 6
   ·have r0:=hrk.mpr hr
    simp -implicitDefEqProofs [bp5,es,line,i0,im,v0,z0,e0,r0,t0,hz,hle,hle',hr]
   ·have r0:¬ ((rk:Nat):Int) < 10:=fun z=>hr (hrk.mp z)
    simp -implicitDefEqProofs [bp5,es,line,i0,im,v0,z0,e0,r0,t0,hz,hle,hle',hr]
theorem e_piece:b_law_piece=(sSeq (sSet 2 (eB oIx (eL (lDisp (aCons (eC (.int 1)) (aCons (eC (.int 2)) (aCons (eC (.int 0)) (aCons (eC (.int 6)) (aCons (eC (.int 1)) (aCons (eC (.int 3)) (aCons (eC (.int 7)) (aCons (eC (.int 1)) aNil)))))))))) (eB oMod (eCall KA.fn_law_mixed (aCons (eV 0) (aCons (eB oAdd (eC (.int 30)) (eW 1)) aNil))) (eC (.int 8))))) (sSeq (sSet 3 (eB oMod (eCall KA.fn_law_mixed (aCons (eV 0) (aCons (eB oAdd (eC (.int 40)) (eW 1)) aNil))) (eC (.int 7)))) (sSeq (sSet 4 (eL (lDisp (aCons (eTup (aCons (eC (.int 0)) (aCons (eC (.str [107,105,110,100,32,97])) aNil))) (aCons (eTup (aCons (eC (.int 1)) (aCons (eB oAdd (eC (.str [119,105,100,101,32])) (eU oStr (eW 2))) aNil))) (aCons (eTup (aCons (eC (.int 2)) (aCons (eB oAdd (eC (.str [103,97,112,32])) (eU oStr (eW 2))) aNil))) (aCons (eTup (aCons (eC (.int 3)) (aCons (eB oAdd (eC (.str [119,111,114,116,104,32])) (eU oStr (eW 2))) aNil))) aNil))))))) (sSeq (sSet 4 (eL (lCat (eW 4) (eL (lDisp (aCons (eTup (aCons (eB oAdd (eC (.int 4)) (eW 3)) (aCons (eB oAdd (eB oAdd (eB oAdd (eC (.str [114,111,119,32])) (eU oStr (eW 3))) (eC (.str [32]))) (eU oStr (eW 2))) aNil))) (aCons (eTup (aCons (eB oAdd (eC (.int 4)) (eW 3)) (aCons (eB oAdd (eB oAdd (eC (.str [114,111,119,32])) (eU oStr (eW 3))) (eC (.str [32,53]))) aNil))) aNil))))))) (sSeq (sGet (eB oIx (eW 4) (eB oMod (eCall KA.fn_law_mixed (aCons (eV 0) (aCons (eB oAdd (eC (.int 50)) (eW 1)) aNil))) (eC (.int 6)))) (gTup [5,6])) bp5))))):=rfl
theorem glue2 (a b:List Nat):gluedC [32] [a,b]=a++[32]++b:=by simp [gluedC]
theorem glue3 (a b c:List Nat):gluedC [32] [a,b,c]=a++[32]++b++[32]++c:=by simp [gluedC]
theorem piece_ok (c : Int) {k : Nat} (hk : k ≤ 10) : ∃ p : Pc, p.Fit ∧ fn_law_piece [.int c, .int k] = .ok (encP_K14 p) := by
 obtain ⟨m1,e1,h1⟩:=mixed c (k:=30+(k:Int)) (by lia) (by lia)
 obtain ⟨m2,e2,h2⟩:=mixed c (k:=40+(k:Int)) (by lia) (by lia)
 obtain ⟨m3,e3,h3⟩:=mixed c (k:=50+(k:Int)) (by lia) (by lia)
 obtain ⟨n,hn,en⟩:∃ n:Nat,n≤7∧oIx (.lst [.int 1,.int 2,.int 0,.int 6,.int 1,.int 3,.int 7,.int 1]) (.int (m1 % 8))=.ok (.int (n:Nat)):=by
  have:Ok (oIx (.lst [.int 1,.int 2,.int 0,.int 6,.int 1,.int 3,.int 7,.int 1]) (.int (m1 % 8))) fun d=>∃ n:Nat,n≤7∧d=.int (n:Nat):=pick (by lia) (by simp;lia) fun d hd=>by
   rcases (by simpa using hd:d=.int 1∨d=.int 2∨d=.int 0∨d=.int 6∨d=.int 1∨d=.int 3∨d=.int 7∨d=.int 1) with rfl | rfl | rfl | rfl | rfl | rfl | rfl | rfl
   ·exact ⟨1,by decide,rfl⟩
   ·exact ⟨2,by decide,rfl⟩
   ·exact ⟨0,by decide,rfl⟩
   ·exact ⟨6,by decide,rfl⟩
   ·exact ⟨1,by decide,rfl⟩
   ·exact ⟨3,by decide,rfl⟩
   ·exact ⟨7,by decide,rfl⟩
   ·exact ⟨1,by decide,rfl⟩
  obtain ⟨d,e,n,hn,rfl⟩:=this
  exact ⟨n,hn,e⟩
 obtain ⟨r,hr⟩:=nat_of (z:=m2 % 7) (by lia)
 have hr6:r≤6:=by lia
 have sn:=str_small hn
 have sr:=str_small (n:=r) (by lia)
 have dn:=dec_small hn
 have dr:=dec_small (n:=r) (by lia)
 have key:Ok (b_law_piece [v (.int c),vi k,none,none,none,none,none,none,none,none]) fun fl=>∃ p:Pc,p.Fit∧fl=.rt (encP_K14 p):=by
  rw [e_piece]
  simp -implicitDefEqProofs [e1,e2,e3,en,hr,sn,sr,line,lCat_k,oAdd_str]
  refine (pick (Q:=fun d=>∃ p:Pc,p.Fit∧d=.tup [.int p.rnk,.str (textP p)]) (by lia) (by simp;lia) fun d hd=>?_).imp ?_
  ·rcases (by simpa using hd:d=_∨d=_∨d=_∨d=_∨d=_∨d=_) with rfl | rfl | rfl | rfl | rfl | rfl
   ·exact ⟨.kd,trivial,rfl⟩
   ·exact ⟨.nm 0 n,⟨by decide,hn⟩,by unfold textP Pc.words;rw [glue2,dn];rfl⟩
   ·exact ⟨.nm 1 n,⟨by decide,hn⟩,by unfold textP Pc.words;rw [glue2,dn];rfl⟩
   ·exact ⟨.nm 2 n,⟨by decide,hn⟩,by unfold textP Pc.words;rw [glue2,dn];rfl⟩
   ·refine ⟨.rw r n,⟨hr6,hn⟩,?_⟩
    unfold textP Pc.words Pc.rnk
    rw [glue3,dn,dr,show ((4+r:Nat):Int)=4+(r:Int) by lia];rfl
   ·refine ⟨.rw r 5,⟨hr6,by decide⟩,?_⟩
    unfold textP Pc.words Pc.rnk
    rw [glue3,dr,dec_small (n:=5) (by decide),show ((4+r:Nat):Int)=4+(r:Int) by lia];rfl
  ·rintro d ⟨p,hp,rfl⟩
   refine ⟨_,rfl,?_⟩
   refine (bp5_ok hp _ _ _ _ _).imp ?_
   rintro fl rfl
   exact ⟨p,hp,rfl⟩
 obtain ⟨fl,e,p,hp,rfl⟩:=key
 exact ⟨p,hp,by rw [fe_law_piece,e];rfl⟩
noncomputable def bS:SF:=(sSeq (sSet 3 (eU oMin1 (eL (lComp (iSeq (eW 1)) 1 [] (gName 0) tTrue (eB oIx (eW 0) (eC (.int 0))))))) (sSeq (sExt 2 (lSl (eL (lComp (iSeq (eW 1)) 1 [3] (gName 0) (tE (eB oEq (eB oIx (eW 0) (eC (.int 0))) (eW 1))) (eV 0))) pNo (pAt (eC (.int 1))))) (sSet 1 (eL (lComp (iSeq (eW 1)) 1 [3] (gName 0) (tE (eB oNe (eB oIx (eW 0) (eC (.int 0))) (eW 1))) (eV 0))))))
theorem e_sorted:b_law_sorted=(sSeq (sSet 1 (eL (lOf (eW 0)))) (sSeq (sOwn 2 (lDisp aNil)) (sSeq (sWhile 100 (tE (eB oNe (eW 1) (eL (lDisp aNil)))) bS) (sFrz 2 (sRet (eV 2)))))):=rfl
theorem ex0 (p:Pc):oIx (encP_K14 p) (.int 0)=.ok (.int p.rnk):=rfl
theorem ex1 (p:Pc):oIx (encP_K14 p) (.int 1)=.ok (.str (textP p)):=rfl
theorem ex2 (p:Pc):oIx (encP_K14 p) (.int 2)=.ok (.bl p.good):=rfl
theorem min_int:∀ (ms:List Int) (b:Int),∃ m,(m=b∨m∈ms)∧goMn (.int b) (ms.map .int)=.ok (.int m)
 | [],b=>⟨b,.inl rfl,rfl⟩
 | a :: ms,b=>by
  have e:cmpDn false 6 (.int a) (.int b)=some (decide (a < b)):=rfl
  rw [List.map_cons,goMn,e]
  by_cases h:a < b
  ·rw [decide_eq_true h]
   obtain ⟨m,hm,em⟩:=min_int ms a
   exact ⟨m,.inr (by rcases hm with rfl | hm;exact List.mem_cons_self;exact List.mem_cons_of_mem _ hm),em⟩
  ·rw [decide_eq_false h]
   obtain ⟨m,hm,em⟩:=min_int ms b
   exact ⟨m,by rcases hm with rfl | hm;exact .inl rfl;exact .inr (List.mem_cons_of_mem _ hm),em⟩
theorem min_pcs {ps:List Pc} (h:ps≠[]):∃ p∈ps,oMin1 (.lst (ps.map fun p=>.int p.rnk))=.ok (.int p.rnk):=by
 cases ps with
 | nil=>exact absurd rfl h
 | cons p ps =>
  obtain ⟨m,hm,em⟩:=min_int (ps.map fun p=>(p.rnk:Int)) p.rnk
  have e2:oMin1 (.lst ((p :: ps).map fun p=>.int p.rnk))=.ok (.int m):=by
   rw [List.map_map] at em
   exact em
  rcases hm with rfl | hm
  ·exact ⟨p,List.mem_cons_self,e2⟩
  ·obtain ⟨q,hq,rfl⟩:=List.mem_map.mp hm
   exact ⟨q,List.mem_cons_of_mem _ hq,e2⟩
theorem bS_ok {ps out:List Pc} (h0:ps≠[]) (hl:ps.length≤100) (ho:out.length≤1000) (x0 x3:Option L):Ok (bS [x0,v (.lst (ps.map encP_K14)),ow (out.map encP_K14),x3]) fun fl=>∃ (ps' out':List Pc) (x3':Option L),ps'.length < ps.length∧(∀ p∈ps',p∈ps)∧out'.length≤out.length+1∧(∀ p∈out',p∈out∨p∈ps)∧fl=.nx [x0,v (.lst (ps'.map encP_K14)),ow (out'.map encP_K14),x3']:=by
 have hl2:ps.length≤16777216:=by lia
 simp -implicitDefEqProofs [bS,lComp_a,line,hl2,capt,capt1]
 refine comp_enc encP_K14 (fun _=>true) (fun p=>.int p.rnk) ?_ ?_
 ·intro p _
  simp -implicitDefEqProofs [ex0]
 rw [List.filter_eq_self.mpr (fun _ _=>rfl)]
 obtain ⟨q,hq,eq⟩:=min_pcs h0
 rw [eq]
 simp -implicitDefEqProofs [lComp_a,line,hl2,capt,capt1,lSl_k]
 refine comp_enc encP_K14 (fun p=>decide ((p.rnk:Int)=q.rnk)) encP_K14 ?_ ?_
 ·intro p _
  simp -implicitDefEqProofs [ex0]
  by_cases h:(p.rnk:Int)=q.rnk<;>simp [h]
 have hcut:cut ((ps.filter fun p=>decide ((p.rnk:Int)=q.rnk)).map encP_K14) none (some 1)=((ps.filter fun p=>decide ((p.rnk:Int)=q.rnk)).take 1).map encP_K14:=by
  generalize (ps.filter fun p=>decide ((p.rnk:Int)=q.rnk))=l
  cases l<;>simp [cut,sIx]
 rw [hcut]
 simp -implicitDefEqProofs [line,hl2,lComp_a]
 refine ⟨by lia,?_⟩
 refine comp_enc encP_K14 (fun p=>!decide ((p.rnk:Int)=q.rnk)) encP_K14 ?_ ?_
 ·intro p _
  simp -implicitDefEqProofs [ex0]
  by_cases h:(p.rnk:Int)=q.rnk<;>simp [h]
 refine ⟨ps.filter fun p=>!decide ((p.rnk:Int)=q.rnk),?_,fun p hp=>(List.mem_filter.mp hp).1,out++(ps.filter fun p=>decide ((p.rnk:Int)=q.rnk)).take 1,?_,fun p hp=>?_,rfl,?_⟩
 ·exact List.length_filter_lt_length_iff_exists.mpr ⟨q,hq,by simp⟩
 ·rw [List.length_append,List.length_take];lia
 ·rcases List.mem_append.mp hp with hp | hp
  ·exact .inl hp
  ·exact .inr (List.mem_filter.mp (List.mem_of_mem_take hp)).1
 ·rw [List.map_append,List.map_take]
def WQ (x0:Option L) (ps out:List Pc) (fl:Fl):Prop:=∃ (out':List Pc) (x1 x3':Option L),out'.length≤out.length+ps.length∧(∀ p∈out',p∈out∨p∈ps)∧fl=.nx [x0,x1,ow (out'.map encP_K14),x3']
theorem whileS : ∀ (n : Nat) {ps out : List Pc}, ps.length < n → ps.length ≤ 100 → out.length + ps.length ≤ 1000 → ∀ (x0 x3 : Option L), Ok (whileGo (tE (eB oNe (eW 1) (eL (lDisp aNil)))) bS n [x0, v (.lst (ps.map encP_K14)), ow (out.map encP_K14), x3]) (WQ x0 ps out)
 | 0,_,_,h,_,_,_,_=>by lia
 | n + 1, ps, out, h, hl, ho, x0, x3 => by
  unfold whileGo
  by_cases h0:ps=[]
  ·subst h0
   have e:oNe (.lst []) (.lst [])=.ok (.bl false):=rfl
   simp -implicitDefEqProofs [e]
   exact ⟨out,_,_,by simp,fun p hp=>.inl hp,rfl⟩
  ·have e:oNe (.lst (ps.map encP_K14)) (.lst [])=.ok (.bl true):=by
    cases ps with
    | nil=>exact absurd rfl h0
    | cons p ps=>rfl
   simp -implicitDefEqProofs [e]
   refine (bS_ok h0 hl (by lia) x0 x3).imp ?_
   rintro fl ⟨ps',out',x3',l1,m1,l2,m2,rfl⟩
   refine (whileS n (ps:=ps') (out:=out') (by lia) (by lia) (by lia) x0 x3').imp ?_
   rintro fl ⟨out2,x1,x3'',l3,m3,rfl⟩
   exact ⟨out2,x1,x3'',by lia,fun p hp=>by
    rcases m3 p hp with h | h
    ·exact m2 p h
    ·exact .inr (m1 p h),rfl⟩
theorem sorted_ok {ps:List Pc} (hl:ps.length≤50):∃ out:List Pc,out.length≤ps.length∧(∀ p∈out,p∈ps)∧fn_law_sorted [.lst (ps.map encP_K14)]=.ok (.lst (out.map encP_K14)):=by
 have hl2:ps.length≤16777216:=by lia
 have key:Ok (b_law_sorted [v (.lst (ps.map encP_K14)),none,none,none]) fun fl=>∃ out:List Pc,out.length≤ps.length∧(∀ p∈out,p∈ps)∧fl=.rt (.lst (out.map encP_K14)):=by
  rw [e_sorted]
  simp -implicitDefEqProofs [line,hl2,sWhile]
  refine (whileS 100 (ps:=ps) (out:=[]) (by lia) (by lia) (by simp;lia) (v (.lst (ps.map encP_K14))) none).imp ?_
  rintro fl ⟨out,x1,x3,l,m,rfl⟩
  simp -implicitDefEqProofs
  exact ⟨out,by simpa using l,fun p hp=>by simpa using m p hp,rfl⟩
 obtain ⟨fl,e,out,l,m,rfl⟩:=key
 exact ⟨out,l,m,by rw [fe_law_sorted,e];rfl⟩
theorem size_parts {a b:List Nat} {g:Gp} (hna:120∉a) (h:a++120 :: b=sizeW g):a=decC g.w∧b=decC g.d:=by
 have h1:=part_at (c:=120) (b:=b) hna
 have h2:=part_at (c:=120) (a:=decC g.w) (b:=decC g.d) (dec_no (by decide))
 have e:decC g.w++120 :: decC g.d=sizeW g:=by simp [sizeW]
 rw [e] at h2
 rw [h,h2] at h1
 injection h1 with h1 h3
 injection h3 with h3 h4
 exact ⟨h1.symm,h4.symm⟩
theorem glue_app:∀ {a b:Rows},a≠[]→b≠[]→gluedC [32] (a++b)=gluedC [32] a++[32]++gluedC [32] b
 | [],_,h,_=>absurd rfl h
 | [x],b,_,hb=>by
  cases b with
  | nil=>exact absurd rfl hb
  | cons y r=>rfl
 | x :: y :: r,b,_,hb=>by
  have ih:=glue_app (a:=y :: r) (b:=b) (by simp) hb
  show x++[32]++gluedC [32] ((y :: r)++b)=x++[32]++gluedC [32] (y :: r)++[32]++gluedC [32] b
  rw [ih]
  simp [List.append_assoc]
theorem glue_flat:∀ {ps:List Pc},(∀ p∈ps,p.Fit)→gluedC [32] (ps.map textP)=gluedC [32] (flat ps)
 | [],_=>rfl
 | p :: ps,h=>by
  have hp:=(words_ok14 p (h p List.mem_cons_self)).1
  by_cases h0:ps=[]
  ·subst h0
   show textP p=gluedC [32] (p.words++[])
   rw [List.append_nil];rfl
  ·rw [flat_cons,List.map_cons,show textP p :: ps.map textP=[textP p]++ps.map textP from rfl,glue_app (by simp) (by simpa using h0),glue_flat fun q hq=>h q (List.mem_cons_of_mem _ hq),glue_app hp fun e=>h0 (flat_nil e)]
   rfl
abbrev cBo:List Nat:=[98,111]
abbrev cSz:List Nat:=[51,120,49]
def textW (ps:List Pc):List Nat:=gluedC [32] ([cBo,cSz]++flat ps)
theorem text_eq {ps:List Pc} (h:∀ p∈ps,p.Fit):gluedC [32] ([cBo,cSz]++ps.map textP)=textW ps:=by
 unfold textW
 by_cases h0:ps=[]
 ·subst h0;rfl
 ·rw [glue_app (by simp) (by simpa using h0),glue_flat h,glue_app (by simp) fun e=>h0 (flat_nil e)]
theorem flat_mem {ps:List Pc} {x:List Nat} (h:x∈flat ps):∃ p∈ps,x∈p.words:=by
 unfold flat at h
 obtain ⟨l,hl,hx⟩:=List.mem_flatten.mp h
 obtain ⟨p,hp,rfl⟩:=List.mem_map.mp hl
 exact ⟨p,hp,hx⟩
theorem text_cut {ps:List Pc} (h:∀ p∈ps,p.Fit):cutC 32 (textW ps)=[cBo,cSz]++flat ps:=cutC_glued (by simp) fun x hx=>by
 rcases List.mem_append.mp hx with hx | hx
 ·rcases (by simpa using hx:x=cBo∨x=cSz) with rfl | rfl<;>decide
 ·obtain ⟨p,hp,hx⟩:=flat_mem hx
  exact (words_ok14 p (h p hp)).2.1 x hx
theorem words_eq (g:Gp):wordsG g=[g.nm,sizeW g]++(kindW g.kd++(numW cWide g.wi++(numW cGap g.ga++(numW cWorth g.wo++(g.ws.map wishW).flatten)))):=by simp [wordsG,List.append_assoc]
theorem flat_app (a b:List Pc):flat (a++b)=flat a++flat b:=by simp [flat]
theorem flat_nmP (k n:Nat):flat (nmP k n)=numW (Pc.key k) n:=by
 unfold nmP numW;split<;>rfl
theorem flat_pcs {kd:List Nat} (hk:kd=[]∨kd=[97]) (wi ga wo:Nat) (ws:List (Nat×Nat)):flat (pcs kd wi ga wo ws)=kindW kd++(numW cWide wi++(numW cGap ga++(numW cWorth wo++(ws.map wishW).flatten))):=by
 have h1:flat (kdP kd)=kindW kd:=by rcases hk with rfl | rfl<;>rfl
 have h2:flat (ws.map fun p=>Pc.rw p.1 p.2)=(ws.map wishW).flatten:=by
  unfold flat
  rw [List.map_map];rfl
 unfold pcs
 rw [flat_app,flat_app,flat_app,flat_app,h1,flat_nmP,flat_nmP,flat_nmP,h2]
 rfl
theorem due_wr {ps:List Pc} (h:∀ p∈ps,p.Fit) (hw:Wr (textW ps)):dueB ps=true:=by
 obtain ⟨g,k,hc,_⟩:=wr_cut hw
 rw [text_cut h,words_eq] at hc
 simp only [List.cons_append,List.nil_append,List.cons.injEq] at hc
 obtain ⟨_,hs,hf⟩:=hc
 have hsz:=size_parts (a:=[51]) (b:=[49]) (g:=g) (by decide) hs
 have w3:g.w=3:=dec_inj (hsz.1.symm.trans (dec_small (n:=3) (by decide)).symm)
 have d1:g.d=1:=dec_inj (hsz.2.symm.trans (dec_small (n:=1) (by decide)).symm)
 have hp:=back h hf
 have hwi:g.wi≤3:=by have:=k.wi;rw [w3,d1] at this;exact this
 have hm:∀ q∈pcs g.kd g.wi g.ga g.wo g.ws,q.Fit:=hp▸h
 have hwo:g.wo≤7:=by
  by_cases h0:0 < g.wo
  ·exact (hm (.nm 2 g.wo) (by unfold pcs;simp [nmP,h0])).2
  ·lia
 rw [hp]
 exact due_of hwi k.ga hwo (fun p hp=>⟨(k.wr p hp).1,(k.wr p hp).2.1,(hm (.rw p.1 p.2) (by
  unfold pcs
  simp only [List.mem_append,List.mem_map]
  exact .inr (.inr (.inr (.inr ⟨p,hp,rfl⟩))))).2⟩) k.up
theorem nodup_len14:∀ (xs ys:List Nat),xs.Nodup→(∀ x∈xs,x∈ys)→xs.length≤ys.length
 | [],_,_,_=>Nat.zero_le _
 | x :: xs,ys,hn,hs=>by
  have hx:x∈ys:=hs x List.mem_cons_self
  have hn':=List.nodup_cons.mp hn
  have:=nodup_len14 xs (ys.erase x) hn'.2 fun y hy=>by
   have:y≠x:=fun e=>hn'.1 (e▸hy)
   exact (List.mem_erase_of_ne this).mpr (hs y (List.mem_cons_of_mem _ hy))
  rw [List.length_erase_of_mem hx] at this
  have h0:0 < ys.length:=List.length_pos_of_mem hx
  simp only [List.length_cons]
  lia
theorem rank_pcs {kd:List Nat} {wi ga wo:Nat} {ws:List (Nat×Nat)} {p:Pc} (hp:p∈pcs kd wi ga wo ws):(p=.kd∧kd≠[])∨(p=.nm 0 wi∧0 < wi)∨2≤p.rnk:=by
 unfold pcs at hp
 rcases List.mem_append.mp hp with hp | hp
 ·unfold kdP at hp
  split at hp
  ·cases hp
  ·rename_i h;exact .inl ⟨List.mem_singleton.mp hp,h⟩
 rcases List.mem_append.mp hp with hp | hp
 ·unfold nmP at hp
  split at hp
  ·rename_i h;exact .inr (.inl ⟨List.mem_singleton.mp hp,h⟩)
  ·cases hp
 rcases List.mem_append.mp hp with hp | hp
 ·unfold nmP at hp
  split at hp
  ·rw [List.mem_singleton.mp hp];exact .inr (.inr (by show 2≤1+1;decide))
  ·cases hp
 rcases List.mem_append.mp hp with hp | hp
 ·unfold nmP at hp
  split at hp
  ·rw [List.mem_singleton.mp hp];exact .inr (.inr (by show 2≤1+2;decide))
  ·cases hp
 obtain ⟨q,_,rfl⟩:=List.mem_map.mp hp
 exact .inr (.inr (by show 2≤4+_;lia))
theorem wr_due {ps : List Pc} (h : ∀ p ∈ ps, p.Fit) (hd : dueB ps = true) : ∃ g, GpOk g ∧ textW ps = gluedC [32] (wordsG g) ∧ g.nm = cBo ∧ g.w = 3 ∧ g.d = 1 ∧ (g.kd = [97] ↔ (0 : Int) ∈ ps.map fun p => (p.rnk : Int)) ∧ (0 < g.wi ↔ (1 : Int) ∈ ps.map fun p => (p.rnk : Int)) := by
 obtain ⟨kd,wi,ga,wo,ws,rfl,hk,hwi,hga,hwo,hws,hup⟩:=of_due h hd
 have hwl:ws.length≤6:=by
  have hnd:(ws.map (·.1)).Nodup:=hup.imp fun {a b} (h:a < b)=>Nat.ne_of_lt h
  have:=nodup_len14 (ws.map (·.1)) (List.range 6) hnd fun x hx=>by
   obtain ⟨p,hp,rfl⟩:=List.mem_map.mp hx
   exact List.mem_range.mpr (by have:=(hws p hp).1;lia)
  simpa using this
 have hsz:sizeW ⟨cBo,3,1,kd,wi,ga,wo,ws⟩=cSz:=by
  show decC 3++[120]++decC 1=cSz
  rw [dec_small (n:=3) (by decide),dec_small (n:=1) (by decide)];rfl
 refine ⟨⟨cBo,3,1,kd,wi,ga,wo,ws⟩,⟨show 1≤2 by decide,show 2≤8 by decide,show ∀ c∈cBo,c∈letters by decide,show 1≤3 by decide,show 3≤12 by decide,show 1≤1 by decide,show 1≤3 by decide,?_,hwi,hga,small_lt (by show wo≤100;lia),hwl,fun p hp=>?_,hup⟩,?_,rfl,rfl,rfl,?_,?_⟩
 ·rcases hk with rfl | rfl
  ·exact .inl rfl
  ·exact .inr ⟨97,by decide,rfl⟩
 ·have:=hws p hp
  exact ⟨this.1,this.2.1,small_lt (by lia)⟩
 ·rw [words_eq,hsz]
  unfold textW
  rw [flat_pcs hk]
 ·show kd=[97]↔_
  constructor
  ·rintro rfl
   exact List.mem_map.mpr ⟨.kd,by unfold pcs kdP;simp,rfl⟩
  ·intro hm
   obtain ⟨p,hp,e⟩:=List.mem_map.mp hm
   rcases rank_pcs hp with ⟨_,h0⟩ | ⟨rfl,_⟩ | h2
   ·rcases hk with rfl | rfl
    ·exact absurd rfl h0
    ·rfl
   ·have e:((1+0:Nat):Int)=0:=e
    lia
   ·lia
 ·show 0 < wi↔_
  constructor
  ·intro h0
   exact List.mem_map.mpr ⟨.nm 0 wi,by unfold pcs nmP;simp [h0],rfl⟩
  ·intro hm
   obtain ⟨p,hp,e⟩:=List.mem_map.mp hm
   rcases rank_pcs hp with ⟨rfl,_⟩ | ⟨_,h0⟩ | h2
   ·have e:((0:Nat):Int)=1:=e
    lia
   ·exact h0
   ·lia
theorem eqIl (ps qs:List Int):oEq (.lst (ps.map D.int)) (.lst (qs.map D.int))=.ok (.bl (decide (ps=qs))):=by
 have:eqD (.lst (ps.map D.int)) (.lst (qs.map D.int))=some (decide (ps=qs)):=allEq_map (fun a b=>rfl) ps qs
 unfold oEq;rw [this]
theorem inI (c:Int) (cs:List Int):oIn (.int c) (.lst (cs.map D.int))=.ok (.bl (decide (c∈cs))):=by
 have:∀ cs:List Int,anyEq (.int c) (cs.map D.int)=some (decide (c∈cs)):=by
  intro cs
  induction cs with
  | nil=>rfl
  | cons q cs ih =>
   rw [List.map_cons,anyEq,ih,show eqD (.int q) (.int c)=some (decide (q=c)) from rfl]
   show some (decide (q=c) || decide (c∈cs))=_
   congr 1
   rw [Bool.eq_iff_iff]
   simp only [Bool.or_eq_true,decide_eq_true_eq,List.mem_cons]
   exact ⟨fun h=>h.imp Eq.symm id,fun h=>h.imp Eq.symm id⟩
 simp only [oIn,this]
theorem notin_good (ps:List Pc):oNotIn (.bl false) (.lst (ps.map fun p=>D.bl p.good))=.ok (.bl (ps.all Pc.good)):=by
 have:∀ ps:List Pc,anyEq (.bl false) (ps.map fun p=>D.bl p.good)=some (!ps.all Pc.good):=by
  intro ps
  induction ps with
  | nil=>rfl
  | cons p ps ih =>
   rw [List.map_cons,anyEq,ih,show eqD (.bl p.good) (.bl false)=some (p.good==false) from rfl]
   cases hg:p.good<;>simp [hg]
 simp only [oNotIn,this,Bool.not_not]
theorem eqBB (a b:Bool):oEq (.bl a) (.bl b)=.ok (.bl (a==b)):=by cases a<;>cases b<;>rfl
theorem pieces_comp (c:Int):∀ (n:Nat),n≤10→∃ ps:List Pc,ps.length=n∧(∀ p∈ps,p.Fit)∧compGo (gName 0) tTrue (eCall fn_law_piece (aCons (eV 1) (aCons (eV 0) aNil))) [none,vi c] («zints» 0 n)=.ok (ps.map encP_K14):=by
 intro n hn
 have h:∀ k:Nat,k≤10→∃ p:Pc,p.Fit∧fn_law_piece [.int c,.int k]=.ok (encP_K14 p):=fun k hk=>piece_ok c hk
 let f:Nat→Pc:=fun k=>if hk:k≤10 then (h k hk).choose else .kd
 have hf:∀ k,k≤10→(f k).Fit∧fn_law_piece [.int c,.int k]=.ok (encP_K14 (f k)):=fun k hk=>by
  show (if hk:k≤10 then (h k hk).choose else .kd).Fit∧fn_law_piece [.int c,.int k]=.ok (encP_K14 (if hk:k≤10 then (h k hk).choose else .kd))
  rw [dif_pos hk];exact (h k hk).choose_spec
 refine ⟨(List.range n).map f,by simp,fun p hp=>?_,?_⟩
 ·obtain ⟨k,hk,rfl⟩:=List.mem_map.mp hp
  exact (hf k (by have:=List.mem_range.mp hk;lia)).1
 ·have:=comp_enc (fun k:Nat=>D.int (k:Nat)) (g:=gName 0) (t:=tTrue) (e:=eCall fn_law_piece (aCons (eV 1) (aCons (eV 0) aNil))) (ρ:=[none,vi c]) (fun _=>true) (fun k=>encP_K14 (f k)) (xs:=List.range n) (Q:=fun ds=>ds=((List.range n).map f).map encP_K14) (fun k hk=>by
   have:=(hf k (by have:=List.mem_range.mp hk;lia)).2
   simp -implicitDefEqProofs [this]) (by rw [List.filter_eq_self.mpr (fun _ _=>rfl),List.map_map];rfl)
  rw [ints_nat]
  exact this.eq
noncomputable def r0:SF:=(sSet 1 (eL (lComp (iRng1 (eB oMod (eCall KA.fn_law_mixed (aCons (eV 0) (aCons (eC (.int 1)) aNil))) (eC (.int 6)))) 1 [0] (gName 0) tTrue (eCall fn_law_piece (aCons (eV 1) (aCons (eV 0) aNil))))))
noncomputable def r1:SF:=(sIf (tE (eB oGt (eB oMod (eCall KA.fn_law_mixed (aCons (eV 0) (aCons (eC (.int 2)) aNil))) (eC (.int 3))) (eC (.int 0)))) (sSet 1 (eCall fn_law_sorted (aCons (eV 1) aNil))) sNext)
noncomputable def r2:SF:=(sSet 2 (eB oJoin (eC (.str [32])) (eL (lCat (eL (lDisp (aCons (eC (.str [98,111])) (aCons (eC (.str [51,120,49])) aNil)))) (eL (lComp (iSeq (eW 1)) 1 [] (gName 0) tTrue (eB oIx (eW 0) (eC (.int 1)))))))))
noncomputable def r3:SF:=(sSet 3 (eL (lComp (iSeq (eW 1)) 1 [] (gName 0) tTrue (eB oIx (eW 0) (eC (.int 0))))))
noncomputable def r4:SF:=(sSet 4 (eAnd (eB oEq (eW 3) (eL (lSortS (eW 3)))) (eB oNotIn (eC (.bl false)) (eL (lComp (iSeq (eW 1)) 1 [] (gName 0) tTrue (eB oIx (eW 0) (eC (.int 2))))))))
noncomputable def r5:SF:=(sTryN (sSet 5 (eCall KS.fn_read_group (aCons (eV 2) aNil))) (xCall fx_read_group (aCons (eV 2) aNil)) [78,111,84,101,120,116] (sRet (eNot (eV 4))))
noncomputable def r6:SF:=(sIf (tOr (tNot (tE (eV 4))) (tOr (tE (eU oNotT (eCall KS.fn_is_group (aCons (eV 5) aNil)))) (tE (eB oNe (eCall KS.fn_show_group (aCons (eV 5) aNil)) (eW 2))))) (sRet (eC (.bl false))) sNext)
noncomputable def r7:SF:=(sRet (eAnd (eB oEq (eSl (eW 5) pNo (pAt (eC (.int 3)))) (eTup (aCons (eC (.str [98,111])) (aCons (eC (.int 3)) (aCons (eC (.int 1)) aNil))))) (eAnd (eB oEq (eB oEq (eB oIx (eW 5) (eC (.int 3))) (eC (.str [97]))) (eB oIn (eC (.int 0)) (eW 3))) (eB oEq (eB oGt (eB oIx (eW 5) (eC (.int 4))) (eC (.int 0))) (eB oIn (eC (.int 1)) (eW 3))))))
theorem e_right:b_law_right=(sSeq r0 (sSeq r1 (sSeq r2 (sSeq r3 (sSeq r4 (sSeq r5 (sSeq r6 r7))))))):=rfl
theorem r0_ok (c:Int):Ok (r0 [vi c,none,none,none,none,none]) fun fl=>∃ ps:List Pc,ps.length≤10∧(∀ p∈ps,p.Fit)∧fl=.nx [vi c,v (.lst (ps.map encP_K14)),none,none,none,none]:=by
 obtain ⟨m1,e1,h1⟩:=mixed c (k:=1) (by decide) (by decide)
 obtain ⟨n,hn⟩:=nat_of (z:=m1 % 6) (by lia)
 obtain ⟨ps,hl,ho,ec⟩:=pieces_comp c n (by lia)
 have hnl:n≤16777216:=by lia
 simp -implicitDefEqProofs [r0,e1,hn,lComp_a,line,hnl,capt,capt1,ec]
 exact ⟨ps,by lia,ho,rfl⟩
theorem r1_ok (c:Int) {ps:List Pc} (hl:ps.length≤10) (ho:∀ p∈ps,p.Fit):Ok (r1 [vi c,v (.lst (ps.map encP_K14)),none,none,none,none]) fun fl=>∃ ps:List Pc,ps.length≤10∧(∀ p∈ps,p.Fit)∧fl=.nx [vi c,v (.lst (ps.map encP_K14)),none,none,none,none]:=by
 obtain ⟨m2,e2,h2⟩:=mixed c (k:=2) (by decide) (by decide)
 obtain ⟨out,l,m,es⟩:=sorted_ok (ps:=ps) (by lia)
 by_cases hc:0 < m2 % 3
 ·simp -implicitDefEqProofs [r1,e2,hc,es]
  exact ⟨out,by lia,fun p hp=>ho p (m p hp),rfl⟩
 ·simp -implicitDefEqProofs [r1,e2,hc]
  exact ⟨ps,hl,ho,rfl⟩
abbrev rks (ps:List Pc):List Int:=ps.map fun p=>(p.rnk:Int)
theorem rest_ok (c:Int) {ps:List Pc} (hl:ps.length≤10) (ho:∀ p∈ps,p.Fit):Ok ((sSeq r2 (sSeq r3 (sSeq r4 (sSeq r5 (sSeq r6 r7))))) [vi c,v (.lst (ps.map encP_K14)),none,none,none,none]) fun fl=>fl=.rt (.bl true):=by
 have hl2:ps.length≤16777216:=by lia
 have hl3:2+ps.length≤16777216:=by lia
 have hj:=join_sp (ts:=[cBo,cSz]++ps.map textP) (by simp;lia) fun x hx=>by
  rcases List.mem_append.mp hx with hx | hx
  ·rcases (by simpa using hx:x=cBo∨x=cSz) with rfl | rfl<;>decide
  ·obtain ⟨p,hp,rfl⟩:=List.mem_map.mp hx
   have:=text_len p (ho p hp);lia
 rw [text_eq ho] at hj
 have h18:∀ k∈rks ps,0≤k∧k < 18:=fun k hk=>by
  obtain ⟨p,hp,rfl⟩:=List.mem_map.mp hk
  have hp:=ho p hp
  cases p with
  | kd=>exact ⟨by decide,by decide⟩
  | nm k n=>have:=hp.1;show 0≤((1+k:Nat):Int)∧((1+k:Nat):Int) < 18;lia
  | rw r n=>have:=hp.1;show 0≤((4+r:Nat):Int)∧((4+r:Nat):Int) < 18;lia
 have hso:=sortKS_l h18
 have heq:=eqIl (rks ps) (riseI (rks ps))
 have hdd:decide (rks ps=riseI (rks ps))=decide ((rks ps).Pairwise (· < ·)):=by
  rw [Bool.eq_iff_iff,decide_eq_true_iff,decide_eq_true_iff,←riseI_eq h18]
  exact eq_comm
 rw [hdd] at heq
 have hrl:(riseI (rks ps)).length≤16777216:=by
  have:=List.length_filter_le (fun k=>(rks ps).contains k) ((List.range 18).map fun (n:Nat)=>(n:Int))
  unfold riseI
  simp only [List.length_map,List.length_range] at this
  lia
 have s2:Ok (r2 [vi c,v (.lst (ps.map encP_K14)),none,none,none,none]) fun fl=>fl=.nx [vi c,v (.lst (ps.map encP_K14)),vs (textW ps),none,none,none]:=by
  simp -implicitDefEqProofs [r2,lComp_a,line,hl2,capt,capt1,lCat_k]
  refine comp_enc encP_K14 (fun _=>true) (fun p=>.str (textP p)) ?_ ?_
  ·intro p _
   simp -implicitDefEqProofs [ex1]
  rw [List.filter_eq_self.mpr (fun _ _=>rfl)]
  have e:([cBo,cSz]++ps.map textP).map D.str=.str [98,111] :: .str [51,120,49] :: ps.map fun p=>.str (textP p):=by simp
  rw [e] at hj
  simp -implicitDefEqProofs [hj,line,hl3]
 have s3:Ok (r3 [vi c,v (.lst (ps.map encP_K14)),vs (textW ps),none,none,none]) fun fl=>fl=.nx [vi c,v (.lst (ps.map encP_K14)),vs (textW ps),v (.lst ((rks ps).map .int)),none,none]:=by
  simp -implicitDefEqProofs [r3,lComp_a,line,hl2,capt,capt1]
  refine comp_enc encP_K14 (fun _=>true) (fun p=>.int p.rnk) ?_ ?_
  ·intro p _
   simp -implicitDefEqProofs [ex0]
  rw [List.filter_eq_self.mpr (fun _ _=>rfl)]
  simp
 have s4:Ok (r4 [vi c,v (.lst (ps.map encP_K14)),vs (textW ps),v (.lst ((rks ps).map .int)),none,none]) fun fl=>fl=.nx [vi c,v (.lst (ps.map encP_K14)),vs (textW ps),v (.lst ((rks ps).map .int)),v (.bl (dueB ps)),none]:=by
  have hd0:dueB ps=(decide ((rks ps).Pairwise (· < ·))&&ps.all Pc.good):=rfl
  rw [hd0]
  generalize hRS:(rks ps).map D.int=RS at hso heq ⊢
  by_cases hp:(rks ps).Pairwise (· < ·)
  ·rw [decide_eq_true hp] at heq ⊢
   simp -implicitDefEqProofs [r4,hso,heq,line,hrl,lComp_a,hl2,capt,capt1]
   refine comp_enc encP_K14 (fun _=>true) (fun p=>.bl p.good) ?_ ?_
   ·intro p _
    simp -implicitDefEqProofs [ex2]
   rw [List.filter_eq_self.mpr (fun _ _=>rfl),notin_good]
   simp
  ·rw [decide_eq_false hp] at heq ⊢
   simp -implicitDefEqProofs [r4,hso,heq,line,hrl]
 refine seq_ok s2 (seq_ok s3 (seq_ok s4 ?_))
 have hlen:(textW ps).length≤90000:=by
  rw [←text_eq ho]
  have:=glue_len (m:=18) ([cBo,cSz]++ps.map textP) fun x hx=>by
   rcases List.mem_append.mp hx with hx | hx
   ·rcases (by simpa using hx:x=cBo∨x=cSz) with rfl | rfl<;>decide
   ·obtain ⟨p,hp,rfl⟩:=List.mem_map.mp hx
    exact text_len p (ho p hp)
  rw [List.length_append,List.length_map] at this
  simp only [List.length_cons,List.length_nil] at this
  clear s2 s3 s4 hdd heq
  lia
 cases hd:dueB ps with
 | false =>
  have hn:¬ Wr (textW ps):=fun z=>by rw [due_wr ho z] at hd;cases hd
  have hx:=x_text hlen hn
  simp -implicitDefEqProofs [r5,sTryN,xCall,hx]
 | true =>
  obtain ⟨g,kg,ht,g1,g2,g3,g4,g5⟩:=wr_due ho hd
  have hx:=x_none kg
  have er:=read_ok kg
  have ei:=group_is kg
  have es:=show_ok kg
  rw [←ht] at hx er es
  have en:oNe (.str (textW ps)) (.str (textW ps))=.ok (.bl false):=by
   have:eqD (.str (textW ps)) (.str (textW ps))=some true:=by show some (textW ps==textW ps)=_;simp
   simp [oNe,this]
  have i3:=inI 0 (rks ps)
  have i4:=inI 1 (rks ps)
  have hc3:cut [D.str g.nm,.int g.w,.int g.d,.str g.kd,.int g.wi,.int g.ga,.int g.wo,.tup (g.ws.map encW)] none (some 3)=[.str g.nm,.int g.w,.int g.d]:=rfl
  have e3:oEq (.tup [.str g.nm,.int g.w,.int g.d]) (.tup [.str [98,111],.int 3,.int 1])=.ok (.bl true):=by rw [g1,g2,g3];rfl
  have k3:oEq (.str g.kd) (.str [97])=.ok (.bl (decide ((0:Int)∈rks ps))):=by
   have:eqD (.str g.kd) (.str [97])=some (decide ((0:Int)∈rks ps)):=by
    show some (g.kd==[97])=_
    congr 1
    rw [Bool.eq_iff_iff,decide_eq_true_iff,beq_iff_eq]
    exact g4
   simp [oEq,this]
  have k4:decide ((0:Int) < (g.wi:Int))=decide ((1:Int)∈rks ps):=by
   rw [Bool.eq_iff_iff,decide_eq_true_iff,decide_eq_true_iff,←g5]
   lia
  have x3:oIx (encS g) (.int 3)=.ok (.str g.kd):=rfl
  have x4:oIx (encS g) (.int 4)=.ok (.int g.wi):=rfl
  have xs:oSl (encS g) none (some 3)=.ok (.tup [.str g.nm,.int g.w,.int g.d]):=rfl
  generalize encS g=GG at er ei es x3 x4 xs
  generalize textW ps=tw at hx er es en
  generalize (rks ps).map D.int=RS at i3 i4
  simp -implicitDefEqProofs [r5,r6,r7,sTryN,xCall,hx,er,ei,es,en,xs,e3,x3,x4,k3,k4,i3,i4,eqBB,line]
  simpa using g5
theorem right_ok (c:Int):fn_law_right [.int c]=.ok (.bl true):=by
 rw [fe_law_right,e_right]
 refine ret_ok ?_
 obtain ⟨f0,e0,p0,l0,o0,rfl⟩:=r0_ok c
 refine seq_ok ⟨_,e0,rfl⟩ ?_
 obtain ⟨f1,e1,p1,l1,o1,rfl⟩:=r1_ok c l0 o0
 refine seq_ok ⟨_,e1,rfl⟩ ?_
 refine (rest_ok c l1 o1).imp ?_
 rintro fl rfl
 rfl
theorem mem_cut_K14 {xs:List D} {a b:Option Int} {x:D} (h:x∈cut xs a b):x∈xs:=by
 unfold cut at h
 exact List.mem_of_mem_drop (List.mem_of_mem_take h)
theorem holds (ns:List Int) (hn:ns.length≤63) (hb:∀ i∈ns,bits i≤2 ^ 20):fn_law [.lst (ns.map .int)]=.ok (.bl true):=by
 have hx:Ints (ns.map D.int):=fun d hd=>by
  obtain ⟨i,_,rfl⟩:=List.mem_map.mp hd
  exact ⟨i,rfl⟩
 obtain ⟨c0,e0⟩:=cell_at hx (k:=0) (by decide)
 have hl1:1+(cut (ns.map D.int) (some 1) (some 30)).length≤16777216:=by
  have:=Z.cut_len (ns.map D.int) (some 1) (some 30)
  rw [List.length_map] at this
  lia
 rw [fe_law]
 refine ret_ok ?_
 simp -implicitDefEqProofs [b_law,lSl_k,lCat_k,e0,line,hl1]
 refine for_all (fun ρ=>∃ x1,ρ=[v (.lst (ns.map .int)),x1]) ⟨none,rfl⟩ ?_ ?_
 ·rintro d hd ρ ⟨x1,rfl⟩
  obtain ⟨c,rfl⟩:∃ c,d=.int c:=by
   rcases List.mem_cons.mp hd with rfl | hd
   ·exact ⟨c0,rfl⟩
   ·exact hx d (mem_cut_K14 hd)
  simp -implicitDefEqProofs [right_ok c]
 ·rintro ρ ⟨x1,rfl⟩
  simp
end K14
set_option maxRecDepth 100000
namespace K14
open PySem PySem.Spec PyProof.Rows L2 ZQ KA KS
def top (i:Nat):Stmt:=PySem.Challenge.pw_besideseats_k14_whole_any_words.main.body.getD i (.Pass ⟨0,0,0,0⟩)
theorem bb_all:bootBuiltins "all" = some (.builtin "all"):=by kernel_rfl
theorem bb_bool:bootBuiltins "bool" = some (.type "bool"):=by kernel_rfl
theorem bb_int:bootBuiltins "int" = some (.type "int"):=by kernel_rfl
theorem bb_isinstance:bootBuiltins "isinstance" = some (.builtin "isinstance"):=by kernel_rfl
theorem bb_len:bootBuiltins "len" = some (.builtin "len"):=by kernel_rfl
theorem bb_list:bootBuiltins "list" = some (.type "list"):=by kernel_rfl
theorem bb_min:bootBuiltins "min" = some (.builtin "min"):=by kernel_rfl
theorem bb_set:bootBuiltins "set" = some (.type "set"):=by kernel_rfl
theorem bb_sorted:bootBuiltins "sorted" = some (.builtin "sorted"):=by kernel_rfl
theorem bb_str:bootBuiltins "str" = some (.type "str"):=by kernel_rfl
theorem bb_tuple:bootBuiltins "tuple" = some (.type "tuple"):=by kernel_rfl
section
variable {P:Program} {w:World} {K:PySem.W.Frag} {mg:Str→Option Value} {base:Heap}
abbrev s_is_whole:Stmt:=top 4
abbrev n_is_whole:List Str:=["thing"]
theorem sc_is_whole:FnScope n_is_whole n_is_whole (defScope s_is_whole):=⟨rfl,rfl,rfl,by decide +kernel,rfl,by decide +kernel,by decide +kernel⟩
abbrev T_is_whole (P:Program) (w:World) (K:PySem.W.Frag) (mg:Str→Option Value) (base:Heap):Prop:=ZS.Cal P w K mg base "is_whole" 1 n_is_whole (KS.fn_is_whole)
theorem ok_is_whole (d:ZS.Def K mg "is_whole" s_is_whole n_is_whole) (g_bool:mg "bool" = none) (g_int:mg "int" = none) (g_isinstance:mg "isinstance" = none):T_is_whole P w K mg base :=
 calQ (N:=n_is_whole) (b:=KS.b_is_whole) d sc_is_whole fun f cdv A outer s H E hr=>have nd:=sc_is_whole.nd;have hu:=hr.units;(dss_one (ds_ret (de_and (de_isinst .int rfl g_isinstance bb_isinstance rfl g_int bb_int (dw_v 0)) (de_one (de_not (de_isinst .bool rfl g_isinstance bb_isinstance rfl g_bool bb_bool (dw_v 0)))))))
abbrev s_is_whole_within:Stmt:=top 5
abbrev n_is_whole_within:List Str:=["thing", "least", "most"]
theorem sc_is_whole_within:FnScope n_is_whole_within n_is_whole_within (defScope s_is_whole_within):=⟨rfl,rfl,rfl,by decide +kernel,rfl,by decide +kernel,by decide +kernel⟩
abbrev T_is_whole_within (P:Program) (w:World) (K:PySem.W.Frag) (mg:Str→Option Value) (base:Heap):Prop:=ZS.Cal P w K mg base "is_whole_within" 2 n_is_whole_within (KS.fn_is_whole_within)
theorem ok_is_whole_within (d:ZS.Def K mg "is_whole_within" s_is_whole_within n_is_whole_within) (C_is_whole:T_is_whole P w K mg base):T_is_whole_within P w K mg base :=
 calQ (N:=n_is_whole_within) (b:=KS.b_is_whole_within) d sc_is_whole_within fun f cdv A outer s H E hr=>have nd:=sc_is_whole_within.nd;have hu:=hr.units;(dss_one (ds_ret (de_and (de_callC C_is_whole (hr.mono (by decide)) rfl (da_cName (de_v 0) da_nil)) (de_one (de_chain ZS.c_le ZS.c_le (dw_v 1) (dw_v 0) (dw_v 2))))))
abbrev s_is_letter:Stmt:=top 6
abbrev n_is_letter:List Str:=["text"]
theorem sc_is_letter:FnScope n_is_letter n_is_letter (defScope s_is_letter):=⟨rfl,rfl,rfl,by decide +kernel,rfl,by decide +kernel,by decide +kernel⟩
abbrev T_is_letter (P:Program) (w:World) (K:PySem.W.Frag) (mg:Str→Option Value) (base:Heap):Prop:=ZS.Cal P w K mg base "is_letter" 1 n_is_letter (KA.fn_is_letter)
theorem ok_is_letter (d:ZS.Def K mg "is_letter" s_is_letter n_is_letter) (g_len:mg "len" = none):T_is_letter P w K mg base :=
 calQ (N:=n_is_letter) (b:=KA.b_is_letter) d sc_is_letter fun f cdv A outer s H E hr=>have nd:=sc_is_letter.nd;have hu:=hr.units;(dss_one (ds_ret (de_and (de_cmpC (ZS.c_eq hu) (dw_e (de_len rfl g_len bb_len (dw_v 0))) (dw_e de_int) (nomark _)) (de_one (de_chain ZS.c_le ZS.c_le (dw_e (de_str (by decide +kernel))) (dw_v 0) (dw_e (de_str (by decide +kernel))))))))
abbrev s_is_name:Stmt:=top 22
abbrev n_is_name:List Str:=["thing"]
theorem sc_is_name:FnScope n_is_name n_is_name (defScope s_is_name):=⟨rfl,rfl,rfl,by decide +kernel,rfl,by decide +kernel,by decide +kernel⟩
abbrev T_is_name (P:Program) (w:World) (K:PySem.W.Frag) (mg:Str→Option Value) (base:Heap):Prop:=ZS.Cal P w K mg base "is_name" 2 n_is_name (KS.fn_is_name)
theorem ok_is_name (d:ZS.Def K mg "is_name" s_is_name n_is_name) (C_is_letter:T_is_letter P w K mg base) (g_all:mg "all" = none) (g_isinstance:mg "isinstance" = none) (g_len:mg "len" = none) (g_str:mg "str" = none) {t_MOST_LETTERS:Tok} (c_MOST_LETTERS:mg "MOST_LETTERS" = some (.int 8 t_MOST_LETTERS)):T_is_name P w K mg base :=
 calQ (N:=n_is_name) (b:=KS.b_is_name) d sc_is_name fun f cdv A outer s H E hr=>have nd:=sc_is_name.nd;have hu:=hr.units;(dss_cons (ds_if (dtw (dt_or (dt_not (dt_e (de_isinst .str rfl g_isinstance bb_isinstance rfl g_str bb_str (dw_v 0)))) (dt_or1 (dt_not (dt_chain ZS.c_le ZS.c_le (dw_e de_int) (dw_e (de_len rfl g_len bb_len (dw_v 0))) (dw_e (de_globI rfl c_MOST_LETTERS))))))) (dss_one (ds_ret de_bl)) dss_nil) (dss_one (ds_ret (de_all rfl g_all bb_all (dw_l (dl_comp rfl (di_seq (dw_v 0)) (N':=["sign"]) (n:=1) (is:=[]) (ZS.Blk.of (by kernel_rfl)) (ZS.gName_keep (by decide)) (fun _ _ _ _ _ _=>(dg_name (i:=0) (show List.Nodup (["sign"]:List Str) by decide +kernel) rfl (lo rfl))) (fun _ _ _ _ _=>tst_no) (fun _ _ _ _ _=>(de_callC C_is_letter (hr.mono (by decide)) rfl (da_cName (de_v 0) da_nil)))))))))
abbrev s_is_kind:Stmt:=top 23
abbrev n_is_kind:List Str:=["thing"]
theorem sc_is_kind:FnScope n_is_kind n_is_kind (defScope s_is_kind):=⟨rfl,rfl,rfl,by decide +kernel,rfl,by decide +kernel,by decide +kernel⟩
abbrev T_is_kind (P:Program) (w:World) (K:PySem.W.Frag) (mg:Str→Option Value) (base:Heap):Prop:=ZS.Cal P w K mg base "is_kind" 2 n_is_kind (KS.fn_is_kind)
theorem ok_is_kind (d:ZS.Def K mg "is_kind" s_is_kind n_is_kind) (C_is_letter:T_is_letter P w K mg base) (g_isinstance:mg "isinstance" = none) (g_str:mg "str" = none):T_is_kind P w K mg base :=
 calQ (N:=n_is_kind) (b:=KS.b_is_kind) d sc_is_kind fun f cdv A outer s H E hr=>have nd:=sc_is_kind.nd;have hu:=hr.units;(dss_one (ds_ret (de_and (de_isinst .str rfl g_isinstance bb_isinstance rfl g_str bb_str (dw_v 0)) (de_one (de_or (de_cmpC (ZS.c_eq hu) (dw_v 0) (dw_e (de_str (by decide +kernel))) (nomark _)) (de_one (de_callC C_is_letter (hr.mono (by decide)) rfl (da_cName (de_v 0) da_nil))))))))
abbrev s_is_amount:Stmt:=top 24
abbrev n_is_amount:List Str:=["thing", "least"]
theorem sc_is_amount:FnScope n_is_amount n_is_amount (defScope s_is_amount):=⟨rfl,rfl,rfl,by decide +kernel,rfl,by decide +kernel,by decide +kernel⟩
abbrev T_is_amount (P:Program) (w:World) (K:PySem.W.Frag) (mg:Str→Option Value) (base:Heap):Prop:=ZS.Cal P w K mg base "is_amount" 3 n_is_amount (KS.fn_is_amount)
theorem ok_is_amount (d:ZS.Def K mg "is_amount" s_is_amount n_is_amount) (C_is_whole_within:T_is_whole_within P w K mg base):T_is_amount P w K mg base :=
 calQ (N:=n_is_amount) (b:=KS.b_is_amount) d sc_is_amount fun f cdv A outer s H E hr=>have nd:=sc_is_amount.nd;have hu:=hr.units;(dss_one (ds_ret (de_callC C_is_whole_within (hr.mono (by decide)) rfl (da_cName (de_v 0) (da_cName (de_v 1) (da_cBin (de_sub (dw_e (de_pow (dw_e de_int) (dw_e de_int))) (dw_e de_int)) da_nil))))))
abbrev s_is_wish:Stmt:=top 25
abbrev n_is_wish:List Str:=["thing"]
theorem sc_is_wish:FnScope n_is_wish n_is_wish (defScope s_is_wish):=⟨rfl,rfl,rfl,by decide +kernel,rfl,by decide +kernel,by decide +kernel⟩
abbrev T_is_wish (P:Program) (w:World) (K:PySem.W.Frag) (mg:Str→Option Value) (base:Heap):Prop:=ZS.Cal P w K mg base "is_wish" 4 n_is_wish (KS.fn_is_wish)
theorem ok_is_wish (d:ZS.Def K mg "is_wish" s_is_wish n_is_wish) (C_is_amount:T_is_amount P w K mg base) (C_is_whole_within:T_is_whole_within P w K mg base) (g_isinstance:mg "isinstance" = none) (g_len:mg "len" = none) (g_tuple:mg "tuple" = none) {t_LAST_ROW:Tok} (c_LAST_ROW:mg "LAST_ROW" = some (.int 5 t_LAST_ROW)):T_is_wish P w K mg base :=
 calQ (N:=n_is_wish) (b:=KS.b_is_wish) d sc_is_wish fun f cdv A outer s H E hr=>have nd:=sc_is_wish.nd;have hu:=hr.units;(dss_cons (ds_if (dtw (dt_or (dt_not (dt_e (de_isinst .tuple rfl g_isinstance bb_isinstance rfl g_tuple bb_tuple (dw_v 0)))) (dt_or1 (dt_cmpC (ZS.c_ne hu) (dw_e (de_len rfl g_len bb_len (dw_v 0))) (dw_e de_int) (nomark _))))) (dss_one (ds_ret de_bl)) dss_nil) (dss_one (ds_ret (de_and (de_callC C_is_whole_within (hr.mono (by decide)) rfl (da_cSub (de_ix (dw_v 0) (dw_e de_int)) (da_cConst de_int (da_cName (de_globI rfl c_LAST_ROW) da_nil)))) (de_one (de_callC C_is_amount (hr.mono (by decide)) rfl (da_cSub (de_ix (dw_v 0) (dw_e de_int)) (da_cConst de_int da_nil))))))))
abbrev s_are_wishes:Stmt:=top 26
abbrev n_are_wishes:List Str:=["thing"]
theorem sc_are_wishes:FnScope n_are_wishes n_are_wishes (defScope s_are_wishes):=⟨rfl,rfl,rfl,by decide +kernel,rfl,by decide +kernel,by decide +kernel⟩
abbrev T_are_wishes (P:Program) (w:World) (K:PySem.W.Frag) (mg:Str→Option Value) (base:Heap):Prop:=ZS.Cal P w K mg base "are_wishes" 5 n_are_wishes (KS.fn_are_wishes)
theorem ok_are_wishes (d:ZS.Def K mg "are_wishes" s_are_wishes n_are_wishes) (C_is_wish:T_is_wish P w K mg base) (g_all:mg "all" = none) (g_isinstance:mg "isinstance" = none) (g_len:mg "len" = none) (g_range:mg "range" = none) (g_tuple:mg "tuple" = none):T_are_wishes P w K mg base :=
 calQ (N:=n_are_wishes) (b:=KS.b_are_wishes) d sc_are_wishes fun f cdv A outer s H E hr=>have nd:=sc_are_wishes.nd;have hu:=hr.units;(dss_cons (ds_if (dtw (dt_or (dt_not (dt_e (de_isinst .tuple rfl g_isinstance bb_isinstance rfl g_tuple bb_tuple (dw_v 0)))) (dt_or1 (dt_not (dt_e (de_all rfl g_all bb_all (dw_l (dl_comp rfl (di_seq (dw_v 0)) (N':=["wish"]) (n:=1) (is:=[]) (ZS.Blk.of (by kernel_rfl)) (ZS.gName_keep (by decide)) (fun _ _ _ _ _ _=>(dg_name (i:=0) (show List.Nodup (["wish"]:List Str) by decide +kernel) rfl (lo rfl))) (fun _ _ _ _ _=>tst_no) (fun _ _ _ _ _=>(de_callC C_is_wish (hr.mono (by decide)) rfl (da_cName (de_v 0) da_nil))))))))))) (dss_one (ds_ret de_bl)) dss_nil) (dss_one (ds_ret (de_all rfl g_all bb_all (dw_l (dl_comp rfl (di_j (dj_rng1 rfl g_range (de_sub (dw_e (de_len rfl g_len bb_len (dw_v 0))) (dw_e de_int)))) (N':=["k", "thing"]) (n:=1) (is:=[0]) (ZS.Blk.of (by kernel_rfl)) (ZS.gName_keep (by decide)) (fun _ _ _ _ _ _=>(dg_name (i:=0) (show List.Nodup (["k", "thing"]:List Str) by decide +kernel) rfl (lo rfl))) (fun _ _ _ _ _=>tst_no) (fun _ _ _ _ _=>(de_cmpC ZS.c_lt (dw_e (de_ix (dw_e (de_ix (dw_v 1) (dw_v 0))) (dw_e de_int))) (dw_e (de_ix (dw_e (de_ix (dw_v 1) (dw_e (de_add (dw_v 0) (dw_e de_int))))) (dw_e de_int))) (nomark _)))))))))
abbrev s_asks_for_seats:Stmt:=top 27
abbrev n_asks_for_seats:List Str:=["parts"]
theorem sc_asks_for_seats:FnScope n_asks_for_seats n_asks_for_seats (defScope s_asks_for_seats):=⟨rfl,rfl,rfl,by decide +kernel,rfl,by decide +kernel,by decide +kernel⟩
abbrev T_asks_for_seats (P:Program) (w:World) (K:PySem.W.Frag) (mg:Str→Option Value) (base:Heap):Prop:=ZS.Cal P w K mg base "asks_for_seats" 3 n_asks_for_seats (KS.fn_asks_for_seats)
theorem ok_asks_for_seats (d:ZS.Def K mg "asks_for_seats" s_asks_for_seats n_asks_for_seats) (C_is_kind:T_is_kind P w K mg base) (C_is_whole_within:T_is_whole_within P w K mg base) {t_DEPTH:Tok} (c_DEPTH:mg "DEPTH" = some (.int 2 t_DEPTH)) {t_GAP:Tok} (c_GAP:mg "GAP" = some (.int 5 t_GAP)) {t_KIND:Tok} (c_KIND:mg "KIND" = some (.int 3 t_KIND)) {t_MOST_DEPTH:Tok} (c_MOST_DEPTH:mg "MOST_DEPTH" = some (.int 3 t_MOST_DEPTH)) {t_MOST_GAP:Tok} (c_MOST_GAP:mg "MOST_GAP" = some (.int 6 t_MOST_GAP)) {t_MOST_WIDTH:Tok} (c_MOST_WIDTH:mg "MOST_WIDTH" = some (.int 12 t_MOST_WIDTH)) {t_WIDE:Tok} (c_WIDE:mg "WIDE" = some (.int 4 t_WIDE)) {t_WIDTH:Tok} (c_WIDTH:mg "WIDTH" = some (.int 1 t_WIDTH)):T_asks_for_seats P w K mg base :=
 calQ (N:=n_asks_for_seats) (b:=KS.b_asks_for_seats) d sc_asks_for_seats fun f cdv A outer s H E hr=>have nd:=sc_asks_for_seats.nd;have hu:=hr.units;(dss_cons (ds_if (dt_not (dt_e (de_callC C_is_whole_within (hr.mono (by decide)) rfl (da_cSub (de_ix (dw_v 0) (dw_e (de_globI rfl c_WIDTH))) (da_cConst de_int (da_cName (de_globI rfl c_MOST_WIDTH) da_nil)))))) (dss_one (ds_ret de_bl)) dss_nil) (dss_cons (ds_if (dt_not (dt_e (de_callC C_is_whole_within (hr.mono (by decide)) rfl (da_cSub (de_ix (dw_v 0) (dw_e (de_globI rfl c_DEPTH))) (da_cConst de_int (da_cName (de_globI rfl c_MOST_DEPTH) da_nil)))))) (dss_one (ds_ret de_bl)) dss_nil) (dss_cons (ds_if (dt_not (dt_e (de_callC C_is_whole_within (hr.mono (by decide)) rfl (da_cSub (de_ix (dw_v 0) (dw_e (de_globI rfl c_WIDE))) (da_cConst de_int (da_cBin (de_mul (dw_e (de_ix (dw_v 0) (dw_e (de_globI rfl c_WIDTH)))) (dw_e (de_ix (dw_v 0) (dw_e (de_globI rfl c_DEPTH))))) da_nil)))))) (dss_one (ds_ret de_bl)) dss_nil) (dss_one (ds_ret (de_and (de_callC C_is_kind (hr.mono (by decide)) rfl (da_cSub (de_ix (dw_v 0) (dw_e (de_globI rfl c_KIND))) da_nil)) (de_one (de_callC C_is_whole_within (hr.mono (by decide)) rfl (da_cSub (de_ix (dw_v 0) (dw_e (de_globI rfl c_GAP))) (da_cConst de_int (da_cName (de_globI rfl c_MOST_GAP) da_nil)))))))))))
abbrev s_is_group:Stmt:=top 28
abbrev n_is_group:List Str:=["thing"]
theorem sc_is_group:FnScope n_is_group n_is_group (defScope s_is_group):=⟨rfl,rfl,rfl,by decide +kernel,rfl,by decide +kernel,by decide +kernel⟩
abbrev T_is_group (P:Program) (w:World) (K:PySem.W.Frag) (mg:Str→Option Value) (base:Heap):Prop:=ZS.Cal P w K mg base "is_group" 6 n_is_group (KS.fn_is_group)
theorem ok_is_group (d:ZS.Def K mg "is_group" s_is_group n_is_group) (C_are_wishes:T_are_wishes P w K mg base) (C_asks_for_seats:T_asks_for_seats P w K mg base) (C_is_amount:T_is_amount P w K mg base) (C_is_name:T_is_name P w K mg base) (g_isinstance:mg "isinstance" = none) (g_len:mg "len" = none) (g_tuple:mg "tuple" = none) {t_NAME:Tok} (c_NAME:mg "NAME" = some (.int 0 t_NAME)) {t_PARTS:Tok} (c_PARTS:mg "PARTS" = some (.int 8 t_PARTS)) {t_WISHES:Tok} (c_WISHES:mg "WISHES" = some (.int 7 t_WISHES)) {t_WORTH:Tok} (c_WORTH:mg "WORTH" = some (.int 6 t_WORTH)):T_is_group P w K mg base :=
 calQ (N:=n_is_group) (b:=KS.b_is_group) d sc_is_group fun f cdv A outer s H E hr=>have nd:=sc_is_group.nd;have hu:=hr.units;(dss_cons (ds_if (dtw (dt_or (dt_not (dt_e (de_isinst .tuple rfl g_isinstance bb_isinstance rfl g_tuple bb_tuple (dw_v 0)))) (dt_or1 (dt_cmpC (ZS.c_ne hu) (dw_e (de_len rfl g_len bb_len (dw_v 0))) (dw_e (de_globI rfl c_PARTS)) (nomark _))))) (dss_one (ds_ret de_bl)) dss_nil) (dss_cons (ds_if (dtw (dt_or (dt_not (dt_e (de_callC C_is_name (hr.mono (by decide)) rfl (da_cSub (de_ix (dw_v 0) (dw_e (de_globI rfl c_NAME))) da_nil)))) (dt_or1 (dt_not (dt_e (de_callC C_asks_for_seats (hr.mono (by decide)) rfl (da_cName (de_v 0) da_nil))))))) (dss_one (ds_ret de_bl)) dss_nil) (dss_one (ds_ret (de_and (de_callC C_is_amount (hr.mono (by decide)) rfl (da_cSub (de_ix (dw_v 0) (dw_e (de_globI rfl c_WORTH))) (da_cConst de_int da_nil))) (de_one (de_callC C_are_wishes (hr.mono (by decide)) rfl (da_cSub (de_ix (dw_v 0) (dw_e (de_globI rfl c_WISHES))) da_nil))))))))
abbrev s_show_group:Stmt:=top 32
abbrev n_show_group:List Str:=["group", "words", "word", "part", "wish"]
abbrev p_show_group:List Str:=["group"]
theorem sc_show_group:FnScope n_show_group p_show_group (defScope s_show_group):=⟨rfl,rfl,rfl,by decide +kernel,rfl,by decide +kernel,by decide +kernel⟩
abbrev T_show_group (P:Program) (w:World) (K:PySem.W.Frag) (mg:Str→Option Value) (base:Heap):Prop:=ZS.Cal P w K mg base "show_group" 1 p_show_group (KS.fn_show_group)
theorem ok_show_group (d:ZS.Def K mg "show_group" s_show_group p_show_group) (g_str:mg "str" = none) {t_DEPTH:Tok} (c_DEPTH:mg "DEPTH" = some (.int 2 t_DEPTH)) {t_GAP:Tok} (c_GAP:mg "GAP" = some (.int 5 t_GAP)) {t_KIND:Tok} (c_KIND:mg "KIND" = some (.int 3 t_KIND)) {t_NAME:Tok} (c_NAME:mg "NAME" = some (.int 0 t_NAME)) {t_WIDE:Tok} (c_WIDE:mg "WIDE" = some (.int 4 t_WIDE)) {t_WIDTH:Tok} (c_WIDTH:mg "WIDTH" = some (.int 1 t_WIDTH)) {t_WISHES:Tok} (c_WISHES:mg "WISHES" = some (.int 7 t_WISHES)) {t_WORTH:Tok} (c_WORTH:mg "WORTH" = some (.int 6 t_WORTH)):T_show_group P w K mg base :=
 calQ (N:=n_show_group) (b:=KS.b_show_group) d sc_show_group fun f cdv A outer s H E hr=>have nd:=sc_show_group.nd;have hu:=hr.units;(dss_cons (ds_own (i:=1) nd rfl (lo rfl) (dl_disp (da_cSub (de_ix (dw_v 0) (dw_e (de_globI rfl c_NAME))) (da_cBin (de_add (dw_e (de_add (dw_e (de_str1 rfl g_str bb_str (dw_e (de_ix (dw_v 0) (dw_e (de_globI rfl c_WIDTH)))))) (dw_e (de_str (by decide +kernel))))) (dw_e (de_str1 rfl g_str bb_str (dw_e (de_ix (dw_v 0) (dw_e (de_globI rfl c_DEPTH))))))) da_nil)))) (dss_cons (ds_if (dt_cmpC (ZS.c_ne hu) (dw_e (de_ix (dw_v 0) (dw_e (de_globI rfl c_KIND)))) (dw_e (de_str (by decide +kernel))) (nomark _)) (dss_one (ds_ext (i:=1) (pv 1) (dl_disp (da_cConst (de_str (by decide +kernel)) (da_cSub (de_ix (dw_v 0) (dw_e (de_globI rfl c_KIND))) da_nil))))) dss_nil) (dss_cons (ds_for PassesOwn.never rfl (dj_seq (de_tup (da_cTuple (de_tup (da_cConst (de_str (by decide +kernel)) (da_cName (de_globI rfl c_WIDE) da_nil))) (da_cTuple (de_tup (da_cConst (de_str (by decide +kernel)) (da_cName (de_globI rfl c_GAP) da_nil))) (da_cTuple (de_tup (da_cConst (de_str (by decide +kernel)) (da_cName (de_globI rfl c_WORTH) da_nil))) da_nil))))) (dg_tup rfl (dgs_cons (i:=2) nd rfl (lo rfl) (dgs_cons (i:=3) nd rfl (lo rfl) dgs_nil)) rfl) (dss_one (ds_if (dt_cmpC ZS.c_gt (dw_e (de_ix (dw_v 0) (dw_v 3))) (dw_e de_int) (nomark _)) (dss_one (ds_ext (i:=1) (pv 1) (dl_disp (da_cName (de_v 2) (da_cCall (de_str1 rfl g_str bb_str (dw_e (de_ix (dw_v 0) (dw_v 3)))) da_nil))))) dss_nil))) (dss_cons (ds_for PassesOwn.never rfl (dj_seq (de_ix (dw_v 0) (dw_e (de_globI rfl c_WISHES)))) (dg_name (i:=4) nd rfl (lo rfl)) (dss_one (ds_ext (i:=1) (pv 1) (dl_disp (da_cConst (de_str (by decide +kernel)) (da_cCall (de_str1 rfl g_str bb_str (dw_e (de_ix (dw_v 4) (dw_e de_int)))) (da_cCall (de_str1 rfl g_str bb_str (dw_e (de_ix (dw_v 4) (dw_e de_int)))) da_nil))))))) (dss_one (ds_ret (de_join (de_str (by decide +kernel)) (dw_v 1))))))))
abbrev s_number_in:Stmt:=top 33
abbrev n_number_in:List Str:=["word"]
theorem sc_number_in:FnScope n_number_in n_number_in (defScope s_number_in):=⟨rfl,rfl,rfl,by decide +kernel,rfl,by decide +kernel,by decide +kernel⟩
abbrev T_number_in (P:Program) (w:World) (K:PySem.W.Frag) (mg:Str→Option Value) (base:Heap):Prop:=ZS.Cal P w K mg base "number_in" 1 n_number_in (KS.fn_number_in)
theorem ok_number_in (d:ZS.Def K mg "number_in" s_number_in n_number_in) (g_all:mg "all" = none) (g_int:mg "int" = none) (g_len:mg "len" = none) {t_FIGURES:Tok} (c_FIGURES:mg "FIGURES" = some (.str ⟨[48,49,50,51,52,53,54,55,56,57].toArray⟩ t_FIGURES)) {t_MOST_FIGURES:Tok} (c_MOST_FIGURES:mg "MOST_FIGURES" = some (.int 60 t_MOST_FIGURES)):T_number_in P w K mg base :=
 calQ (N:=n_number_in) (b:=KS.b_number_in) d sc_number_in fun f cdv A outer s H E hr=>have nd:=sc_number_in.nd;have hu:=hr.units;(dss_cons (ds_if (dtw (dt_or (dt_not (dt_chain ZS.c_le ZS.c_le (dw_e de_int) (dw_e (de_len rfl g_len bb_len (dw_v 0))) (dw_e (de_globI rfl c_MOST_FIGURES)))) (dt_or1 (dt_not (dt_e (de_all rfl g_all bb_all (dw_l (dl_comp rfl (di_seq (dw_v 0)) (N':=["sign"]) (n:=1) (is:=[]) (ZS.Blk.of (by kernel_rfl)) (ZS.gName_keep (by decide)) (fun _ _ _ _ _ _=>(dg_name (i:=0) (show List.Nodup (["sign"]:List Str) by decide +kernel) rfl (lo rfl))) (fun _ _ _ _ _=>tst_no) (fun _ _ _ _ _=>(de_cmpC ZS.c_inS (dw_v 0) (dw_e (de_globS rfl c_FIGURES)) (by with_unfolding_all rfl))))))))))) (dss_one (ds_ret de_non)) dss_nil) (dss_one (ds_ret (de_intT rfl g_int bb_int (dw_v 0)))))
abbrev s_wishes_in:Stmt:=top 34
abbrev n_wishes_in:List Str:=["words"]
theorem sc_wishes_in:FnScope n_wishes_in n_wishes_in (defScope s_wishes_in):=⟨rfl,rfl,rfl,by decide +kernel,rfl,by decide +kernel,by decide +kernel⟩
abbrev T_wishes_in (P:Program) (w:World) (K:PySem.W.Frag) (mg:Str→Option Value) (base:Heap):Prop:=ZS.Cal P w K mg base "wishes_in" 2 n_wishes_in (KS.fn_wishes_in)
theorem ok_wishes_in (d:ZS.Def K mg "wishes_in" s_wishes_in n_wishes_in) (C_number_in:T_number_in P w K mg base) (g_len:mg "len" = none) (g_range:mg "range" = none) (g_tuple:mg "tuple" = none):T_wishes_in P w K mg base :=
 calQ (N:=n_wishes_in) (b:=KS.b_wishes_in) d sc_wishes_in fun f cdv A outer s H E hr=>have nd:=sc_wishes_in.nd;have hu:=hr.units;(dss_one (ds_ret (de_tuple rfl g_tuple bb_tuple (dw_l (dl_comp rfl (di_j (dj_by3 rfl g_range de_int (de_sub (dw_e (de_len rfl g_len bb_len (dw_v 0))) (dw_e de_int)) de_int)) (N':=["k", "words"]) (n:=1) (is:=[0]) (ZS.Blk.of (by kernel_rfl)) (ZS.gName_keep (by decide)) (fun _ _ _ _ _ _=>(dg_name (i:=0) (show List.Nodup (["k", "words"]:List Str) by decide +kernel) rfl (lo rfl))) (fun _ _ _ _ _=>tst_no) (fun _ _ _ _ _=>(de_tup (da_cCall (de_callC C_number_in (hr.mono (by decide)) rfl (da_cSub (de_ix (dw_v 1) (dw_e (de_add (dw_v 0) (dw_e de_int)))) da_nil)) (da_cCall (de_callC C_number_in (hr.mono (by decide)) rfl (da_cSub (de_ix (dw_v 1) (dw_e (de_add (dw_v 0) (dw_e de_int)))) da_nil)) da_nil)))))))))
abbrev s_group_in:Stmt:=top 35
abbrev n_group_in:List Str:=["words", "size", "told", "at", "word"]
abbrev p_group_in:List Str:=["words"]
theorem sc_group_in:FnScope n_group_in p_group_in (defScope s_group_in):=⟨rfl,rfl,rfl,by decide +kernel,rfl,by decide +kernel,by decide +kernel⟩
abbrev T_group_in (P:Program) (w:World) (K:PySem.W.Frag) (mg:Str→Option Value) (base:Heap):Prop:=ZS.Cal P w K mg base "group_in" 3 p_group_in (KS.fn_group_in)
theorem ok_group_in (d:ZS.Def K mg "group_in" s_group_in p_group_in) (C_number_in:T_number_in P w K mg base) (C_wishes_in:T_wishes_in P w K mg base) (g_len:mg "len" = none):T_group_in P w K mg base :=
 calQ (N:=n_group_in) (b:=KS.b_group_in) d sc_group_in fun f cdv A outer s H E hr=>have nd:=sc_group_in.nd;have hu:=hr.units;(dss_cons (ds_set (i:=1) nd rfl (lo rfl) (de_part (dw_e (de_ix (dw_v 0) (dw_e de_int))) (dw_e (de_str (by decide +kernel))))) (dss_cons (ds_td (i:=2) nd rfl (lo rfl) (ZS.ct_cons (k:=[107,105,110,100]) (v:=[]) (by decide +kernel) (by decide +kernel) (ZS.ct_cons (k:=[119,105,100,101]) (v:=[48]) (by decide +kernel) (by decide +kernel) (ZS.ct_cons (k:=[103,97,112]) (v:=[48]) (by decide +kernel) (by decide +kernel) (ZS.ct_cons (k:=[119,111,114,116,104]) (v:=[48]) (by decide +kernel) (by decide +kernel) ZS.ct_nil)))) (by decide +kernel) (by decide)) (dss_cons (ds_set (i:=3) nd rfl (lo rfl) de_int) (dss_cons (ds_for PassesOwn.never rfl (dj_seq (de_tup (da_cConst (de_str (by decide +kernel)) (da_cConst (de_str (by decide +kernel)) (da_cConst (de_str (by decide +kernel)) (da_cConst (de_str (by decide +kernel)) da_nil)))))) (dg_name (i:=4) nd rfl (lo rfl)) (dss_one (ds_if (dtw (dt_and (dt_cmpC ZS.c_lt (dw_e (de_add (dw_v 3) (dw_e de_int))) (dw_e (de_len rfl g_len bb_len (dw_v 0))) (nomark _)) (dt_and1 (dt_cmpC (ZS.c_eq hu) (dw_e (de_ix (dw_v 0) (dw_v 3))) (dw_v 4) (nomark _))))) (dss_cons (ds_tput hu (i:=2) (pv 2) (de_v 4) (de_ix (dw_v 0) (dw_e (de_add (dw_v 3) (dw_e de_int))))) (dss_one (ds_addA (i:=3) nd rfl (lo rfl) de_int))) dss_nil))) (dss_one (ds_ret (de_tup (da_cSub (de_ix (dw_v 0) (dw_e de_int)) (da_cCall (de_callC C_number_in (hr.mono (by decide)) rfl (da_cSub (de_ix (dw_v 1) (dw_e de_int)) da_nil)) (da_cCall (de_callC C_number_in (hr.mono (by decide)) rfl (da_cSub (de_ix (dw_v 1) (dw_e de_int)) da_nil)) (da_cSub (de_tget hu (i:=2) (pv 2) (de_str (by decide +kernel))) (da_cCall (de_callC C_number_in (hr.mono (by decide)) rfl (da_cSub (de_tget hu (i:=2) (pv 2) (de_str (by decide +kernel))) da_nil)) (da_cCall (de_callC C_number_in (hr.mono (by decide)) rfl (da_cSub (de_tget hu (i:=2) (pv 2) (de_str (by decide +kernel))) da_nil)) (da_cCall (de_callC C_number_in (hr.mono (by decide)) rfl (da_cSub (de_tget hu (i:=2) (pv 2) (de_str (by decide +kernel))) da_nil)) (da_cCall (de_callC C_wishes_in (hr.mono (by decide)) rfl (da_cSub (de_l (dl_slice (dw_v 0) (dp_at (dw_v 3)) dp_no)) da_nil)) da_nil)))))))))))))))
abbrev s_read_group:Stmt:=top 36
abbrev n_read_group:List Str:=["text", "words", "group"]
abbrev p_read_group:List Str:=["text"]
theorem sc_read_group:FnScope n_read_group p_read_group (defScope s_read_group):=⟨rfl,rfl,rfl,by decide +kernel,rfl,by decide +kernel,by decide +kernel⟩
abbrev T_read_group (P:Program) (w:World) (K:PySem.W.Frag) (mg:Str→Option Value) (base:Heap):Prop:=ZS.Cal P w K mg base "read_group" 7 p_read_group (KS.fn_read_group)
theorem ok_read_group (d:ZS.Def K mg "read_group" s_read_group p_read_group) (C_group_in:T_group_in P w K mg base) (C_is_group:T_is_group P w K mg base) (C_show_group:T_show_group P w K mg base) (g_isinstance:mg "isinstance" = none) (g_len:mg "len" = none) (g_str:mg "str" = none):T_read_group P w K mg base :=
 calQ (N:=n_read_group) (b:=KS.b_read_group) d sc_read_group fun f cdv A outer s H E hr=>have nd:=sc_read_group.nd;have hu:=hr.units;(dss_cons (ds_if (dt_not (dt_e (de_isinst .str rfl g_isinstance bb_isinstance rfl g_str bb_str (dw_v 0)))) (dss_one ds_bad) dss_nil) (dss_cons (ds_set (i:=1) nd rfl (lo rfl) (de_l (dl_split (dw_v 0) (dw_e (de_str (by decide +kernel)))))) (dss_cons (ds_if (dt_cmpC ZS.c_lt (dw_e (de_len rfl g_len bb_len (dw_v 1))) (dw_e de_int) (nomark _)) (dss_one ds_bad) dss_nil) (dss_cons (ds_set (i:=2) nd rfl (lo rfl) (de_callC C_group_in (hr.mono (by decide)) rfl (da_cName (de_v 1) da_nil))) (dss_cons (ds_if (dtw (dt_or (dt_not (dt_e (de_callC C_is_group (hr.mono (by decide)) rfl (da_cName (de_v 2) da_nil)))) (dt_or1 (dt_cmpC (ZS.c_ne hu) (dw_e (de_callC C_show_group (hr.mono (by decide)) rfl (da_cName (de_v 2) da_nil))) (dw_v 0) (nomark _))))) (dss_one ds_bad) dss_nil) (dss_one (ds_ret (de_v 2))))))))
abbrev TX_read_group (P:Program) (w:World) (K:PySem.W.Frag) (mg:Str→Option Value) (base:Heap):Prop:=ZS.CalX P w K mg base "read_group" 7 p_read_group fx_read_group
theorem okx_read_group (d:ZS.Def K mg "read_group" s_read_group p_read_group) (C_group_in:T_group_in P w K mg base) (C_is_group:T_is_group P w K mg base) (C_show_group:T_show_group P w K mg base) (g_isinstance:mg "isinstance" = none) (g_len:mg "len" = none) (g_str:mg "str" = none) {A_NoText:Addr} (m_NoText:mg "NoText" = some (.ref A_NoText)) (x_NoText:ZS.XC K [78,111,84,101,120,116] A_NoText) (xi_NoText:PySem.W.excIn K A_NoText [.type "ValueError",.type "Exception",.type "BaseException",.type "object"] "ValueError.__new__" = true):TX_read_group P w K mg base :=
 calX (N:=n_read_group) (xb:=xb_read_group) d sc_read_group fun f cdv A outer s H E hr=>have nd:=sc_read_group.nd;have hu:=hr.units;(xss_cons (ds_if (dt_not (dt_e (de_isinst .str rfl g_isinstance bb_isinstance rfl g_str bb_str (dw_v 0)))) (dss_one ds_bad) dss_nil) (xs_if (dt_not (dt_e (de_isinst .str rfl g_isinstance bb_isinstance rfl g_str bb_str (dw_v 0)))) (xss_one (xs_raise rfl rfl rfl (by decide +kernel) x_NoText xi_NoText (de_str (by decide +kernel)))) xss_no) (xss_cons (ds_set (i:=1) nd rfl (lo rfl) (de_l (dl_split (dw_v 0) (dw_e (de_str (by decide +kernel)))))) xs_no (xss_cons (ds_if (dt_cmpC ZS.c_lt (dw_e (de_len rfl g_len bb_len (dw_v 1))) (dw_e de_int) (nomark _)) (dss_one ds_bad) dss_nil) (xs_if (dt_cmpC ZS.c_lt (dw_e (de_len rfl g_len bb_len (dw_v 1))) (dw_e de_int) (nomark _)) (xss_one (xs_raise rfl rfl rfl (by decide +kernel) x_NoText xi_NoText (de_str (by decide +kernel)))) xss_no) (xss_cons (ds_set (i:=2) nd rfl (lo rfl) (de_callC C_group_in (hr.mono (by decide)) rfl (da_cName (de_v 1) da_nil))) xs_no (xss_cons (ds_if (dtw (dt_or (dt_not (dt_e (de_callC C_is_group (hr.mono (by decide)) rfl (da_cName (de_v 2) da_nil)))) (dt_or1 (dt_cmpC (ZS.c_ne hu) (dw_e (de_callC C_show_group (hr.mono (by decide)) rfl (da_cName (de_v 2) da_nil))) (dw_v 0) (nomark _))))) (dss_one ds_bad) dss_nil) (xs_if (dtw (dt_or (dt_not (dt_e (de_callC C_is_group (hr.mono (by decide)) rfl (da_cName (de_v 2) da_nil)))) (dt_or1 (dt_cmpC (ZS.c_ne hu) (dw_e (de_callC C_show_group (hr.mono (by decide)) rfl (da_cName (de_v 2) da_nil))) (dw_v 0) (nomark _))))) (xss_one (xs_raise rfl rfl rfl (by decide +kernel) x_NoText xi_NoText (de_str (by decide +kernel)))) xss_no) xss_no)))))
abbrev s_law_cell_at:Stmt:=top 38
abbrev n_law_cell_at:List Str:=["_law_script", "_law_k"]
theorem sc_law_cell_at:FnScope n_law_cell_at n_law_cell_at (defScope s_law_cell_at):=⟨rfl,rfl,rfl,by decide +kernel,rfl,by decide +kernel,by decide +kernel⟩
abbrev T_law_cell_at (P:Program) (w:World) (K:PySem.W.Frag) (mg:Str→Option Value) (base:Heap):Prop:=ZS.Cal P w K mg base "_law_cell_at" 1 n_law_cell_at (KA.fn_law_cell_at)
theorem ok_law_cell_at (d:ZS.Def K mg "_law_cell_at" s_law_cell_at n_law_cell_at) (g_len:mg "len" = none):T_law_cell_at P w K mg base :=
 calQ (N:=n_law_cell_at) (b:=KA.b_law_cell_at) d sc_law_cell_at fun f cdv A outer s H E hr=>have nd:=sc_law_cell_at.nd;have hu:=hr.units;(dss_cons (ds_if (dt_cmpC ZS.c_lt (dw_v 1) (dw_e (de_len rfl g_len bb_len (dw_v 0))) (nomark _)) (dss_one (ds_ret (de_ix (dw_v 0) (dw_v 1)))) dss_nil) (dss_one (ds_ret de_int)))
abbrev s_law_mixed:Stmt:=top 39
abbrev n_law_mixed:List Str:=["_law_cell", "_law_k", "_law_number"]
abbrev p_law_mixed:List Str:=["_law_cell", "_law_k"]
theorem sc_law_mixed:FnScope n_law_mixed p_law_mixed (defScope s_law_mixed):=⟨rfl,rfl,rfl,by decide +kernel,rfl,by decide +kernel,by decide +kernel⟩
abbrev T_law_mixed (P:Program) (w:World) (K:PySem.W.Frag) (mg:Str→Option Value) (base:Heap):Prop:=ZS.Cal P w K mg base "_law_mixed" 1 p_law_mixed (KA.fn_law_mixed)
theorem ok_law_mixed (d:ZS.Def K mg "_law_mixed" s_law_mixed p_law_mixed)  : T_law_mixed P w K mg base :=
 calQ (N:=n_law_mixed) (b:=KA.b_law_mixed) d sc_law_mixed fun f cdv A outer s H E hr=>have nd:=sc_law_mixed.nd;have hu:=hr.units;(dss_cons (ds_if (dt_cmpC (ZS.c_eq hu) (dw_e (de_mod (dw_e (de_div (dw_v 0) (dw_e de_int))) (dw_e de_int))) (dw_e de_int) (nomark _)) (dss_one (ds_ret (de_mod (dw_e (de_shr (dw_e (de_div (dw_v 0) (dw_e de_int))) (dw_e (de_mul (dw_e de_int) (dw_v 1))))) (dw_e de_int)))) dss_nil) (dss_cons (ds_set (i:=2) nd rfl (lo rfl) (de_mod (dw_e (de_mul (dw_e (de_add (dw_e (de_add (dw_e (de_mod (dw_v 0) (dw_e de_int))) (dw_e (de_mul (dw_e (de_mul (dw_e de_int) (dw_v 1))) (dw_v 1))))) (dw_v 1))) (dw_e de_int))) (dw_e de_int))) (dss_cons (ds_set (i:=2) nd rfl (lo rfl) (de_mod (dw_e (de_mul (dw_v 2) (dw_v 2))) (dw_e de_int))) (dss_one (ds_ret (de_mod (dw_e (de_add (dw_e (de_add (dw_e (de_mul (dw_v 2) (dw_v 2))) (dw_e (de_mul (dw_e de_int) (dw_v 2))))) (dw_v 1))) (dw_e de_int)))))))
abbrev s_law_piece:Stmt:=top 40
abbrev n_law_piece:List Str:=["_law_cell", "_law_k", "_law_number", "_law_row", "_law_some", "_law_rank", "_law_text", "_law_words", "_law_least", "_law_good"]
abbrev p_law_piece:List Str:=["_law_cell", "_law_k"]
theorem sc_law_piece:FnScope n_law_piece p_law_piece (defScope s_law_piece):=⟨rfl,rfl,rfl,by decide +kernel,rfl,by decide +kernel,by decide +kernel⟩
abbrev T_law_piece (P:Program) (w:World) (K:PySem.W.Frag) (mg:Str→Option Value) (base:Heap):Prop:=ZS.Cal P w K mg base "_law_piece" 2 p_law_piece (fn_law_piece)
theorem ok_law_piece (d:ZS.Def K mg "_law_piece" s_law_piece p_law_piece) (C_law_mixed:T_law_mixed P w K mg base) (g_int:mg "int" = none) (g_str:mg "str" = none):T_law_piece P w K mg base :=
 calQ (N:=n_law_piece) (b:=b_law_piece) d sc_law_piece fun f cdv A outer s H E hr=>have nd:=sc_law_piece.nd;have hu:=hr.units;(dss_cons (ds_set (i:=2) nd rfl (lo rfl) (de_ix (dw_l (dl_disp (da_cConst de_int (da_cConst de_int (da_cConst de_int (da_cConst de_int (da_cConst de_int (da_cConst de_int (da_cConst de_int (da_cConst de_int da_nil)))))))))) (dw_e (de_mod (dw_e (de_callC C_law_mixed (hr.mono (by decide)) rfl (da_cName (de_v 0) (da_cBin (de_add (dw_e de_int) (dw_v 1)) da_nil)))) (dw_e de_int))))) (dss_cons (ds_set (i:=3) nd rfl (lo rfl) (de_mod (dw_e (de_callC C_law_mixed (hr.mono (by decide)) rfl (da_cName (de_v 0) (da_cBin (de_add (dw_e de_int) (dw_v 1)) da_nil)))) (dw_e de_int))) (dss_cons (ds_set (i:=4) nd rfl (lo rfl) (de_l (dl_disp (da_cTuple (de_tup (da_cConst de_int (da_cConst (de_str (by decide +kernel)) da_nil))) (da_cTuple (de_tup (da_cConst de_int (da_cBin (de_add (dw_e (de_str (by decide +kernel))) (dw_e (de_str1 rfl g_str bb_str (dw_v 2)))) da_nil))) (da_cTuple (de_tup (da_cConst de_int (da_cBin (de_add (dw_e (de_str (by decide +kernel))) (dw_e (de_str1 rfl g_str bb_str (dw_v 2)))) da_nil))) (da_cTuple (de_tup (da_cConst de_int (da_cBin (de_add (dw_e (de_str (by decide +kernel))) (dw_e (de_str1 rfl g_str bb_str (dw_v 2)))) da_nil))) da_nil))))))) (dss_cons (ds_set (i:=4) nd rfl (lo rfl) (de_l (dl_cat (dw_v 4) (dw_l (dl_disp (da_cTuple (de_tup (da_cBin (de_add (dw_e de_int) (dw_v 3)) (da_cBin (de_add (dw_e (de_add (dw_e (de_add (dw_e (de_str (by decide +kernel))) (dw_e (de_str1 rfl g_str bb_str (dw_v 3))))) (dw_e (de_str (by decide +kernel))))) (dw_e (de_str1 rfl g_str bb_str (dw_v 2)))) da_nil))) (da_cTuple (de_tup (da_cBin (de_add (dw_e de_int) (dw_v 3)) (da_cBin (de_add (dw_e (de_add (dw_e (de_str (by decide +kernel))) (dw_e (de_str1 rfl g_str bb_str (dw_v 3))))) (dw_e (de_str (by decide +kernel)))) da_nil))) da_nil))))))) (dss_cons (ds_get (de_ix (dw_v 4) (dw_e (de_mod (dw_e (de_callC C_law_mixed (hr.mono (by decide)) rfl (da_cName (de_v 0) (da_cBin (de_add (dw_e de_int) (dw_v 1)) da_nil)))) (dw_e de_int)))) (dg_tup rfl (dgs_cons (i:=5) nd rfl (lo rfl) (dgs_cons (i:=6) nd rfl (lo rfl) dgs_nil)) rfl)) (dss_cons (ds_set (i:=7) nd rfl (lo rfl) (de_l (dl_split (dw_v 6) (dw_e (de_str (by decide +kernel)))))) (dss_cons (ds_set (i:=8) nd rfl (lo rfl) (de_dix hu (ZS.ci_cons (k:=[119,105,100,101]) (by decide +kernel) (ZS.ci_cons (k:=[103,97,112]) (by decide +kernel) (ZS.ci_cons (k:=[119,111,114,116,104]) (by decide +kernel) (ZS.ci_cons (k:=[114,111,119]) (by decide +kernel) (ZS.ci_cons (k:=[107,105,110,100]) (by decide +kernel) ZS.ci_nil))))) (de_ix (dw_v 7) (dw_e de_int)) (by decide +kernel) (by decide))) (dss_cons (ds_set (i:=9) nd rfl (lo rfl) (de_and (de_cmpC (ZS.c_ne hu) (dw_e (de_ix (dw_v 7) (dw_e (de_neg (dw_e de_int))))) (dw_e (de_str (by decide +kernel))) (nomark _)) (de_and (de_or (de_cmpC (ZS.c_eq hu) (dw_e (de_ix (dw_v 7) (dw_e de_int))) (dw_e (de_str (by decide +kernel))) (nomark _)) (de_one (de_cmpC ZS.c_le (dw_e (de_intT rfl g_int bb_int (dw_e (de_ix (dw_v 7) (dw_e (de_neg (dw_e de_int))))))) (dw_v 8) (nomark _)))) (de_one (de_cmpC ZS.c_lt (dw_v 5) (dw_e de_int) (nomark _)))))) (dss_one (ds_ret (de_tup (da_cName (de_v 5) (da_cName (de_v 6) (da_cName (de_v 9) da_nil))))))))))))))
abbrev s_law_sorted:Stmt:=top 41
abbrev n_law_sorted:List Str:=["_law_pieces", "_law_left", "_law_found", "_law_least"]
abbrev p_law_sorted:List Str:=["_law_pieces"]
theorem sc_law_sorted:FnScope n_law_sorted p_law_sorted (defScope s_law_sorted):=⟨rfl,rfl,rfl,by decide +kernel,rfl,by decide +kernel,by decide +kernel⟩
abbrev T_law_sorted (P:Program) (w:World) (K:PySem.W.Frag) (mg:Str→Option Value) (base:Heap):Prop:=ZS.Cal P w K mg base "_law_sorted" 1 p_law_sorted (fn_law_sorted)
theorem ok_law_sorted (d:ZS.Def K mg "_law_sorted" s_law_sorted p_law_sorted) (g_list:mg "list" = none) (g_min:mg "min" = none):T_law_sorted P w K mg base :=
 calQ (N:=n_law_sorted) (b:=b_law_sorted) d sc_law_sorted fun f cdv A outer s H E hr=>have nd:=sc_law_sorted.nd;have hu:=hr.units;(dss_cons (ds_set (i:=1) nd rfl (lo rfl) (de_l (dl_list rfl g_list bb_list (dw_v 0)))) (dss_cons (ds_own (i:=2) nd rfl (lo rfl) (dl_disp da_nil)) (dss_cons (ds_while 100 PassesOwn.never (dt_cmpC (ZS.c_ne hu) (dw_v 1) (dw_l (dl_disp da_nil)) (nomark _)) (dss_cons (ds_set (i:=3) nd rfl (lo rfl) (de_min1 hu rfl g_min bb_min (dw_l (dl_comp rfl (di_seq (dw_v 1)) (N':=["_law_piece_here"]) (n:=1) (is:=[]) (ZS.Blk.of (by kernel_rfl)) (ZS.gName_keep (by decide)) (fun _ _ _ _ _ _=>(dg_name (i:=0) (show List.Nodup (["_law_piece_here"]:List Str) by decide +kernel) rfl (lo rfl))) (fun _ _ _ _ _=>tst_no) (fun _ _ _ _ _=>(de_ix (dw_v 0) (dw_e de_int))))))) (dss_cons (ds_ext (i:=2) (pv 2) (dl_slice (dw_l (dl_comp rfl (di_seq (dw_v 1)) (N':=["_law_piece_here", "_law_least"]) (n:=1) (is:=[3]) (ZS.Blk.of (by kernel_rfl)) (ZS.gName_keep (by decide)) (fun _ _ _ _ _ _=>(dg_name (i:=0) (show List.Nodup (["_law_piece_here", "_law_least"]:List Str) by decide +kernel) rfl (lo rfl))) (fun _ _ _ _ _=>(tst_one (dt_cmpC (ZS.c_eq hu) (dw_e (de_ix (dw_v 0) (dw_e de_int))) (dw_v 1) (nomark _)))) (fun _ _ _ _ _=>(de_v 0)))) dp_no (dp_at (dw_e de_int)))) (dss_one (ds_setC (i:=1) rfl nd rfl (lo rfl) (di_seq (dw_v 1)) (N':=["_law_piece_here", "_law_least"]) (n:=1) (is:=[3]) (ZS.Blk.of (by kernel_rfl)) (ZS.gName_keep (by decide)) (fun _ _ _ _ _ _=>(dg_name (i:=0) (show List.Nodup (["_law_piece_here", "_law_least"]:List Str) by decide +kernel) rfl (lo rfl))) (fun _ _ _ _ _=>(tst_one (dt_cmpC (ZS.c_ne hu) (dw_e (de_ix (dw_v 0) (dw_e de_int))) (dw_v 1) (nomark _)))) (fun _ _ _ _ _=>(de_v 0))))))) (dss_frz (i:=2) (dss_one (ds_ret (de_v 2)))))))
abbrev s_law_right:Stmt:=top 42
abbrev n_law_right:List Str:=["_law_cell", "_law_pieces", "_law_text", "_law_ranks", "_law_due", "_law_found"]
abbrev p_law_right:List Str:=["_law_cell"]
theorem sc_law_right:FnScope n_law_right p_law_right (defScope s_law_right):=⟨rfl,rfl,rfl,by decide +kernel,rfl,by decide +kernel,by decide +kernel⟩
abbrev T_law_right (P:Program) (w:World) (K:PySem.W.Frag) (mg:Str→Option Value) (base:Heap):Prop:=ZS.Cal P w K mg base "_law_right" 8 p_law_right (fn_law_right)
theorem ok_law_right (d:ZS.Def K mg "_law_right" s_law_right p_law_right) (C_law_mixed:T_law_mixed P w K mg base) (C_law_piece:T_law_piece P w K mg base) (C_law_sorted:T_law_sorted P w K mg base) (C_is_group:T_is_group P w K mg base) (C_read_group:T_read_group P w K mg base) (C_show_group:T_show_group P w K mg base) (g_range:mg "range" = none) (g_set:mg "set" = none) (g_sorted:mg "sorted" = none) (X_read_group:TX_read_group P w K mg base) {A_NoText:Addr} (m_NoText:mg "NoText" = some (.ref A_NoText)):T_law_right P w K mg base :=
 calQ (N:=n_law_right) (b:=b_law_right) d sc_law_right fun f cdv A outer s H E hr=>have nd:=sc_law_right.nd;have hu:=hr.units;(dss_cons (ds_setC (i:=1) rfl nd rfl (lo rfl) (di_j (dj_rng1 rfl g_range (de_mod (dw_e (de_callC C_law_mixed (hr.mono (by decide)) rfl (da_cName (de_v 0) (da_cConst de_int da_nil)))) (dw_e de_int)))) (N':=["_law_k", "_law_cell"]) (n:=1) (is:=[0]) (ZS.Blk.of (by kernel_rfl)) (ZS.gName_keep (by decide)) (fun _ _ _ _ _ _=>(dg_name (i:=0) (show List.Nodup (["_law_k", "_law_cell"]:List Str) by decide +kernel) rfl (lo rfl))) (fun _ _ _ _ _=>tst_no) (fun _ _ _ _ _=>(de_callC C_law_piece (hr.mono (by decide)) rfl (da_cName (de_v 1) (da_cName (de_v 0) da_nil))))) (dss_cons (ds_if (dt_cmpC ZS.c_gt (dw_e (de_mod (dw_e (de_callC C_law_mixed (hr.mono (by decide)) rfl (da_cName (de_v 0) (da_cConst de_int da_nil)))) (dw_e de_int))) (dw_e de_int) (nomark _)) (dss_one (ds_set (i:=1) nd rfl (lo rfl) (de_callC C_law_sorted (hr.mono (by decide)) rfl (da_cName (de_v 1) da_nil)))) dss_nil) (dss_cons (ds_set (i:=2) nd rfl (lo rfl) (de_join (de_str (by decide +kernel)) (dw_l (dl_cat (dw_l (dl_disp (da_cConst (de_str (by decide +kernel)) (da_cConst (de_str (by decide +kernel)) da_nil)))) (dw_l (dl_comp rfl (di_seq (dw_v 1)) (N':=["_law_piece_here"]) (n:=1) (is:=[]) (ZS.Blk.of (by kernel_rfl)) (ZS.gName_keep (by decide)) (fun _ _ _ _ _ _=>(dg_name (i:=0) (show List.Nodup (["_law_piece_here"]:List Str) by decide +kernel) rfl (lo rfl))) (fun _ _ _ _ _=>tst_no) (fun _ _ _ _ _=>(de_ix (dw_v 0) (dw_e de_int))))))))) (dss_cons (ds_setC (i:=3) rfl nd rfl (lo rfl) (di_seq (dw_v 1)) (N':=["_law_piece_here"]) (n:=1) (is:=[]) (ZS.Blk.of (by kernel_rfl)) (ZS.gName_keep (by decide)) (fun _ _ _ _ _ _=>(dg_name (i:=0) (show List.Nodup (["_law_piece_here"]:List Str) by decide +kernel) rfl (lo rfl))) (fun _ _ _ _ _=>tst_no) (fun _ _ _ _ _=>(de_ix (dw_v 0) (dw_e de_int)))) (dss_cons (ds_set (i:=4) nd rfl (lo rfl) (de_and (de_cmpC (ZS.c_eq hu) (dw_v 3) (dw_l (dl_sortS rfl g_sorted bb_sorted rfl g_set bb_set (dw_v 3))) (nomark _)) (de_one (de_cmpC (ZS.c_notIn hu) (dw_e de_bl) (dw_l (dl_comp rfl (di_seq (dw_v 1)) (N':=["_law_piece_here"]) (n:=1) (is:=[]) (ZS.Blk.of (by kernel_rfl)) (ZS.gName_keep (by decide)) (fun _ _ _ _ _ _=>(dg_name (i:=0) (show List.Nodup (["_law_piece_here"]:List Str) by decide +kernel) rfl (lo rfl))) (fun _ _ _ _ _=>tst_no) (fun _ _ _ _ _=>(de_ix (dw_v 0) (dw_e de_int))))) (by with_unfolding_all rfl))))) (dss_cons (ds_tryN rfl rfl rfl rfl (by decide +kernel) (dss_one (ds_set (i:=5) nd rfl (lo rfl) (de_callC C_read_group (hr.mono (by decide)) rfl (da_cName (de_v 2) da_nil)))) (fun _ _=>(xrs_one (xr_set (i:=5) nd rfl (lo rfl) (xe_call X_read_group (hr.mono (by decide)) rfl (da_cName (de_v 2) da_nil))))) (fun _=>(dss_one (ds_ret (de_not (de_v 4)))))) (dss_cons (ds_if (dtw (dt_or (dt_not (dt_e (de_v 4))) (dt_or (dt_notT (dw_e (de_callC C_is_group (hr.mono (by decide)) rfl (da_cName (de_v 5) da_nil)))) (dt_or1 (dt_cmpC (ZS.c_ne hu) (dw_e (de_callC C_show_group (hr.mono (by decide)) rfl (da_cName (de_v 5) da_nil))) (dw_v 2) (nomark _)))))) (dss_one (ds_ret de_bl)) dss_nil) (dss_one (ds_ret (de_and (de_cmpC (ZS.c_eq hu) (dw_e (de_slice (dw_v 5) dp_no (dp_at (dw_e de_int)))) (dw_e (de_tup (da_cConst (de_str (by decide +kernel)) (da_cConst de_int (da_cConst de_int da_nil))))) (nomark _)) (de_and (de_cmpC (ZS.c_eq hu) (dw_e (de_cmpC (ZS.c_eq hu) (dw_e (de_ix (dw_v 5) (dw_e de_int))) (dw_e (de_str (by decide +kernel))) (nomark _))) (dw_e (de_cmpC (ZS.c_in hu) (dw_e de_int) (dw_v 3) (by with_unfolding_all rfl))) (nomark _)) (de_one (de_cmpC (ZS.c_eq hu) (dw_e (de_cmpC ZS.c_gt (dw_e (de_ix (dw_v 5) (dw_e de_int))) (dw_e de_int) (nomark _))) (dw_e (de_cmpC (ZS.c_in hu) (dw_e de_int) (dw_v 3) (by with_unfolding_all rfl))) (nomark _))))))))))))))
abbrev s_law:Stmt:=top 43
abbrev n_law:List Str:=["_law_script", "_law_cell"]
abbrev p_law:List Str:=["_law_script"]
theorem sc_law:FnScope n_law p_law (defScope s_law):=⟨rfl,rfl,rfl,by decide +kernel,rfl,by decide +kernel,by decide +kernel⟩
theorem ok_law {f:Addr} {fd:FuncData} (F:Fun K "law" "law" s_law f fd) (C_law_cell_at:T_law_cell_at P w K mg base) (C_law_right:T_law_right P w K mg base):FnOk P w K mg base CX0 9 f fd p_law (ZS.spZ K fn_law) :=
 fnQ (N:=n_law) (b:=b_law) F sc_law fun cdv A outer s H E hr=>have nd:=sc_law.nd;have hu:=hr.units;(dss_cons (ds_for PassesOwn.never rfl (dj_seq (de_l (dl_cat (dw_l (dl_disp (da_cCall (de_callC C_law_cell_at (hr.mono (by decide)) rfl (da_cName (de_v 0) (da_cConst de_int da_nil))) da_nil))) (dw_l (dl_slice (dw_v 0) (dp_at (dw_e de_int)) (dp_at (dw_e de_int))))))) (dg_name (i:=1) nd rfl (lo rfl)) (dss_one (ds_if (dt_not (dt_e (de_callC C_law_right (hr.mono (by decide)) rfl (da_cName (de_v 1) da_nil)))) (dss_one (ds_ret de_bl)) dss_nil))) (dss_one (ds_ret de_bl)))
end
end K14
namespace K14
open PySem PySem.Spec PyProof.Rows L2 ZQ KA KS
theorem all_mk {l:PySem.W.OpenLaw} {w:World} {K:PySem.W.Frag} {h:Heap} {mg:Str→Option Value} {fa:Addr} (X:K.In h) (G:h.Ns mainGlobals mg) (hfa:mg "law" = some (.ref fa)) (a0:ZS.DefK K "is_whole" s_is_whole) (a1:ZS.DefK K "is_whole_within" s_is_whole_within) (a2:ZS.DefK K "is_letter" s_is_letter) (a3:ZS.DefK K "is_name" s_is_name) (a4:ZS.DefK K "is_kind" s_is_kind) (a5:ZS.DefK K "is_amount" s_is_amount) (a6:ZS.DefK K "is_wish" s_is_wish) (a7:ZS.DefK K "are_wishes" s_are_wishes) (a8:ZS.DefK K "asks_for_seats" s_asks_for_seats) (a9:ZS.DefK K "is_group" s_is_group) (a10:ZS.DefK K "show_group" s_show_group) (a11:ZS.DefK K "number_in" s_number_in) (a12:ZS.DefK K "wishes_in" s_wishes_in) (a13:ZS.DefK K "group_in" s_group_in) (a14:ZS.DefK K "read_group" s_read_group) (a15:ZS.DefK K "_law_cell_at" s_law_cell_at) (a16:ZS.DefK K "_law_mixed" s_law_mixed) (a17:ZS.DefK K "_law_piece" s_law_piece) (a18:ZS.DefK K "_law_sorted" s_law_sorted) (a19:ZS.DefK K "_law_right" s_law_right) (a20:ZS.DefK K "law" s_law) {t_DEPTH:Tok} (v_DEPTH:PySem.W.nsIn K mainGlobals "DEPTH" = some (some (.int 2 t_DEPTH))) {t_FIGURES:Tok} {u_FIGURES:Str} (v_FIGURES:PySem.W.nsIn K mainGlobals "FIGURES" = some (some (.str u_FIGURES t_FIGURES))) (q_FIGURES:u_FIGURES=⟨[48,49,50,51,52,53,54,55,56,57].toArray⟩) {t_GAP:Tok} (v_GAP:PySem.W.nsIn K mainGlobals "GAP" = some (some (.int 5 t_GAP))) {t_KIND:Tok} (v_KIND:PySem.W.nsIn K mainGlobals "KIND" = some (some (.int 3 t_KIND))) {t_LAST_ROW:Tok} (v_LAST_ROW:PySem.W.nsIn K mainGlobals "LAST_ROW" = some (some (.int 5 t_LAST_ROW))) {t_MOST_DEPTH:Tok} (v_MOST_DEPTH:PySem.W.nsIn K mainGlobals "MOST_DEPTH" = some (some (.int 3 t_MOST_DEPTH))) {t_MOST_FIGURES:Tok} (v_MOST_FIGURES:PySem.W.nsIn K mainGlobals "MOST_FIGURES" = some (some (.int 60 t_MOST_FIGURES))) {t_MOST_GAP:Tok} (v_MOST_GAP:PySem.W.nsIn K mainGlobals "MOST_GAP" = some (some (.int 6 t_MOST_GAP))) {t_MOST_LETTERS:Tok} (v_MOST_LETTERS:PySem.W.nsIn K mainGlobals "MOST_LETTERS" = some (some (.int 8 t_MOST_LETTERS))) {t_MOST_WIDTH:Tok} (v_MOST_WIDTH:PySem.W.nsIn K mainGlobals "MOST_WIDTH" = some (some (.int 12 t_MOST_WIDTH))) {t_NAME:Tok} (v_NAME:PySem.W.nsIn K mainGlobals "NAME" = some (some (.int 0 t_NAME))) {t_PARTS:Tok} (v_PARTS:PySem.W.nsIn K mainGlobals "PARTS" = some (some (.int 8 t_PARTS))) {t_WIDE:Tok} (v_WIDE:PySem.W.nsIn K mainGlobals "WIDE" = some (some (.int 4 t_WIDE))) {t_WIDTH:Tok} (v_WIDTH:PySem.W.nsIn K mainGlobals "WIDTH" = some (some (.int 1 t_WIDTH))) {t_WISHES:Tok} (v_WISHES:PySem.W.nsIn K mainGlobals "WISHES" = some (some (.int 7 t_WISHES))) {t_WORTH:Tok} (v_WORTH:PySem.W.nsIn K mainGlobals "WORTH" = some (some (.int 6 t_WORTH))) (n_all:PySem.W.nsIn K mainGlobals "all" = some none) (n_bool:PySem.W.nsIn K mainGlobals "bool" = some none) (n_int:PySem.W.nsIn K mainGlobals "int" = some none) (n_isinstance:PySem.W.nsIn K mainGlobals "isinstance" = some none) (n_len:PySem.W.nsIn K mainGlobals "len" = some none) (n_list:PySem.W.nsIn K mainGlobals "list" = some none) (n_min:PySem.W.nsIn K mainGlobals "min" = some none) (n_range:PySem.W.nsIn K mainGlobals "range" = some none) (n_set:PySem.W.nsIn K mainGlobals "set" = some none) (n_sorted:PySem.W.nsIn K mainGlobals "sorted" = some none) (n_str:PySem.W.nsIn K mainGlobals "str" = some none) (n_tuple:PySem.W.nsIn K mainGlobals "tuple" = some none) {A_NoText:Addr} (w_NoText:PySem.W.nsIn K mainGlobals "NoText" = some (some (.ref A_NoText))) (xc_NoText:ZS.xcIn K A_NoText=true) (xi_NoText:PySem.W.excIn K A_NoText [.type "ValueError",.type "Exception",.type "BaseException",.type "object"] "ValueError.__new__" = true) :
  ∃ fd:FuncData,(∀ (s:Shared) (v:Value),BindsTo s fd ⟨[v],[]⟩ [("_law_script",v)])∧∀ base:Heap,K.In base→base.Ns mainGlobals mg→FnOk l.prog w K mg base CX0 9 fa fd ["_law_script"] (ZS.spZ K fn_law):=by
 have c_DEPTH:=PySem.W.mg_of X G v_DEPTH
 subst q_FIGURES
 have c_FIGURES:=PySem.W.mg_of X G v_FIGURES
 have c_GAP:=PySem.W.mg_of X G v_GAP
 have c_KIND:=PySem.W.mg_of X G v_KIND
 have c_LAST_ROW:=PySem.W.mg_of X G v_LAST_ROW
 have c_MOST_DEPTH:=PySem.W.mg_of X G v_MOST_DEPTH
 have c_MOST_FIGURES:=PySem.W.mg_of X G v_MOST_FIGURES
 have c_MOST_GAP:=PySem.W.mg_of X G v_MOST_GAP
 have c_MOST_LETTERS:=PySem.W.mg_of X G v_MOST_LETTERS
 have c_MOST_WIDTH:=PySem.W.mg_of X G v_MOST_WIDTH
 have c_NAME:=PySem.W.mg_of X G v_NAME
 have c_PARTS:=PySem.W.mg_of X G v_PARTS
 have c_WIDE:=PySem.W.mg_of X G v_WIDE
 have c_WIDTH:=PySem.W.mg_of X G v_WIDTH
 have c_WISHES:=PySem.W.mg_of X G v_WISHES
 have c_WORTH:=PySem.W.mg_of X G v_WORTH
 have g_all:=PySem.W.mg_none_of X G n_all
 have g_bool:=PySem.W.mg_none_of X G n_bool
 have g_int:=PySem.W.mg_none_of X G n_int
 have g_isinstance:=PySem.W.mg_none_of X G n_isinstance
 have g_len:=PySem.W.mg_none_of X G n_len
 have g_list:=PySem.W.mg_none_of X G n_list
 have g_min:=PySem.W.mg_none_of X G n_min
 have g_range:=PySem.W.mg_none_of X G n_range
 have g_set:=PySem.W.mg_none_of X G n_set
 have g_sorted:=PySem.W.mg_none_of X G n_sorted
 have g_str:=PySem.W.mg_none_of X G n_str
 have g_tuple:=PySem.W.mg_none_of X G n_tuple
 have m_NoText:=PySem.W.mg_of X G w_NoText
 have x_NoText:ZS.XC K [78,111,84,101,120,116] A_NoText:=⟨by rw [show (⟨[78,111,84,101,120,116].toArray⟩:Str) = "NoText" from by decide +kernel];exact w_NoText,xc_NoText⟩
 obtain ⟨fd,hb,F⟩:=a20.law X G hfa (x := "_law_script") fun _ _ _ _ _ _ _ _=>.of_eq rfl
 refine ⟨fd,hb,fun base _ _=>?_⟩
 have C_is_whole:T_is_whole l.prog w K mg base:=ok_is_whole (a0.df X G fun _ _ _ _ _ _=>ZS.bd1 fun _=>rfl) g_bool g_int g_isinstance
 have C_is_whole_within:T_is_whole_within l.prog w K mg base:=ok_is_whole_within (a1.df X G fun _ _ _ _ _ _=>ZS.bd3 fun _ _ _=>rfl) C_is_whole
 have C_is_letter:T_is_letter l.prog w K mg base:=ok_is_letter (a2.df X G fun _ _ _ _ _ _=>ZS.bd1 fun _=>rfl) g_len
 have C_is_name:T_is_name l.prog w K mg base:=ok_is_name (a3.df X G fun _ _ _ _ _ _=>ZS.bd1 fun _=>rfl) C_is_letter g_all g_isinstance g_len g_str c_MOST_LETTERS
 have C_is_kind:T_is_kind l.prog w K mg base:=ok_is_kind (a4.df X G fun _ _ _ _ _ _=>ZS.bd1 fun _=>rfl) C_is_letter g_isinstance g_str
 have C_is_amount:T_is_amount l.prog w K mg base:=ok_is_amount (a5.df X G fun _ _ _ _ _ _=>ZS.bd2 fun _ _=>rfl) C_is_whole_within
 have C_is_wish:T_is_wish l.prog w K mg base:=ok_is_wish (a6.df X G fun _ _ _ _ _ _=>ZS.bd1 fun _=>rfl) C_is_amount C_is_whole_within g_isinstance g_len g_tuple c_LAST_ROW
 have C_are_wishes:T_are_wishes l.prog w K mg base:=ok_are_wishes (a7.df X G fun _ _ _ _ _ _=>ZS.bd1 fun _=>rfl) C_is_wish g_all g_isinstance g_len g_range g_tuple
 have C_asks_for_seats:T_asks_for_seats l.prog w K mg base:=ok_asks_for_seats (a8.df X G fun _ _ _ _ _ _=>ZS.bd1 fun _=>rfl) C_is_kind C_is_whole_within c_DEPTH c_GAP c_KIND c_MOST_DEPTH c_MOST_GAP c_MOST_WIDTH c_WIDE c_WIDTH
 have C_is_group:T_is_group l.prog w K mg base:=ok_is_group (a9.df X G fun _ _ _ _ _ _=>ZS.bd1 fun _=>rfl) C_are_wishes C_asks_for_seats C_is_amount C_is_name g_isinstance g_len g_tuple c_NAME c_PARTS c_WISHES c_WORTH
 have C_show_group:T_show_group l.prog w K mg base:=ok_show_group (a10.df X G fun _ _ _ _ _ _=>ZS.bd1 fun _=>rfl) g_str c_DEPTH c_GAP c_KIND c_NAME c_WIDE c_WIDTH c_WISHES c_WORTH
 have C_number_in:T_number_in l.prog w K mg base:=ok_number_in (a11.df X G fun _ _ _ _ _ _=>ZS.bd1 fun _=>rfl) g_all g_int g_len c_FIGURES c_MOST_FIGURES
 have C_wishes_in:T_wishes_in l.prog w K mg base:=ok_wishes_in (a12.df X G fun _ _ _ _ _ _=>ZS.bd1 fun _=>rfl) C_number_in g_len g_range g_tuple
 have C_group_in:T_group_in l.prog w K mg base:=ok_group_in (a13.df X G fun _ _ _ _ _ _=>ZS.bd1 fun _=>rfl) C_number_in C_wishes_in g_len
 have C_read_group:T_read_group l.prog w K mg base:=ok_read_group (a14.df X G fun _ _ _ _ _ _=>ZS.bd1 fun _=>rfl) C_group_in C_is_group C_show_group g_isinstance g_len g_str
 have X_read_group:TX_read_group l.prog w K mg base:=okx_read_group (a14.df X G fun _ _ _ _ _ _=>ZS.bd1 fun _=>rfl) C_group_in C_is_group C_show_group g_isinstance g_len g_str m_NoText x_NoText xi_NoText
 have C_law_cell_at:T_law_cell_at l.prog w K mg base:=ok_law_cell_at (a15.df X G fun _ _ _ _ _ _=>ZS.bd2 fun _ _=>rfl) g_len
 have C_law_mixed:T_law_mixed l.prog w K mg base:=ok_law_mixed (a16.df X G fun _ _ _ _ _ _=>ZS.bd2 fun _ _=>rfl) 
 have C_law_piece:T_law_piece l.prog w K mg base:=ok_law_piece (a17.df X G fun _ _ _ _ _ _=>ZS.bd2 fun _ _=>rfl) C_law_mixed g_int g_str
 have C_law_sorted:T_law_sorted l.prog w K mg base:=ok_law_sorted (a18.df X G fun _ _ _ _ _ _=>ZS.bd1 fun _=>rfl) g_list g_min
 have C_law_right:T_law_right l.prog w K mg base:=ok_law_right (a19.df X G fun _ _ _ _ _ _=>ZS.bd1 fun _=>rfl) C_law_mixed C_law_piece C_law_sorted C_is_group C_read_group C_show_group g_range g_set g_sorted X_read_group m_NoText
 exact ok_law F C_law_cell_at C_law_right
theorem walk {l:PySem.W.OpenLaw} {q:Program} {loose:List Str} {XP:(Str→Option Value)→Heap→Prop} {YP:World→Heap→Prop} {d:DefRec} {K:Params→PySem.W.Frag} (hn:l.most=some 63) (hdf:d.params.defaults=[])
  (hY:∀ (w:World) (h:Heap),YP w h→(K w.params).In h)
  (F:∀ (w:World) (mg:Str→Option Value) (fa:Addr) (h:Heap),(K w.params).In h→h.Ns mainGlobals mg→mg d.name=some (.ref fa) →
   ∃ fd:FuncData,(∀ (s:Shared) (u:Value),BindsTo s fd ⟨[u],[]⟩ [("_law_script",u)])∧∀ base:Heap,(K w.params).In base→base.Ns mainGlobals mg→FnOk l.prog w (K w.params) mg base CX0 9 fa fd ["_law_script"] (ZS.spZ (K w.params) fn_law)) (hL:∀ w:World,ZS.LamOk q (K w.params)) :
  PySem.W.WalkO q loose XP YP l.row.toRowW d [] (fun f vs=>PySem.call f vs) :=
 ZS.walk_B (n:=63) (k:=9) (x := "_law_script") (m:=fn_law) hn (by decide) hdf ⟨rfl,by decide,by decide⟩ hY F hL holds
end K14
namespace K14
open PySem PySem.Spec PyProof.Rows L2
abbrev km0:String := "besideseats.plain"
abbrev km1:String := "besideseats.groups"
abbrev km2:String := "besideseats.texts"
abbrev km3:String := "law_besideseats_k14_whole_any_words"
noncomputable def kd (P:Params) (n:String) (t:Nat) (v:Value):DictEntry:={ hash:=PyData.keyHash P (Str.ofString n),key:=.str (Str.ofString n) t,val:=v }
noncomputable def kc (n:String) (t l:Nat) (a b c d e f g h i j:Value) (u:Nat):Obj:={ cls:=.type "code",data:=.fields #[.str (Str.ofString n) t,.str (Str.ofString n) (t+1),.str (Str.ofString "/claim/cut.py") (t+2),.int l 0,a,.int 0 0,.int 0 0,b,c,.bool true,d,e,f,g,h,i,j,.int l 0,.str (Str.ofString "/claim/cut.py") u] }
noncomputable def kf (n:String) (i:Nat) (m:String) (t c:Nat) (v:Value:=.none):Obj:={ cls:=.type "function",data:=.func { name:=Str.ofString n,qualname:=Str.ofString n,params:=defArgs (top i),body:=.stmts (defBody (top i)),scope:=defScope (top i),globals:=3,closure:=[],defaults:=v,kwdefaults:=.none,pyModule:=.str (Str.ofString m) t,code:=.ref c } }
noncomputable def KK (P:Params):PySem.W.Frag:=(fun (_:Str.ofString "a" = Str.mk #[97])=>(nat_lit 3,{ cls:=.type "dict",data:=.dict #[kd P "__name__" 165 (.str (Str.ofString "law_besideseats_k14_whole_any_words") 375),kd P "__doc__" 166 .none,kd P "__package__" 167 .none,kd P "__loader__" 168 (.builtin "__main__.__loader__#opaque"),kd P "__spec__" 169 .none,kd P "__annotations__" 170 (.ref 6),kd P "__builtins__" 171 (.ref 4),kd P "__file__" 173 (.str (Str.ofString "/claim/cut.py") 172),kd P "__cached__" 174 .none,kd P "SeatError" 206 (.ref 24),kd P "NoText" 222 (.ref 37),kd P "is_whole" 231 (.ref 46),kd P "is_whole_within" 240 (.ref 53),kd P "is_letter" 247 (.ref 60),kd P "NAME" 251 (.int 0 250),kd P "WIDTH" 253 (.int 1 252),kd P "DEPTH" 255 (.int 2 254),kd P "KIND" 257 (.int 3 256),kd P "WIDE" 259 (.int 4 258),kd P "GAP" 261 (.int 5 260),kd P "WORTH" 263 (.int 6 262),kd P "WISHES" 265 (.int 7 264),kd P "PARTS" 267 (.int 8 266),kd P "MOST_LETTERS" 269 (.int 8 268),kd P "MOST_WIDTH" 271 (.int 12 270),kd P "MOST_DEPTH" 273 (.int 3 272),kd P "MOST_GAP" 275 (.int 6 274),kd P "LAST_ROW" 277 (.int 5 276),kd P "is_name" 283 (.ref 65),kd P "is_kind" 290 (.ref 72),kd P "is_amount" 298 (.ref 79),kd P "is_wish" 305 (.ref 86),kd P "are_wishes" 311 (.ref 91),kd P "asks_for_seats" 318 (.ref 98),kd P "is_group" 325 (.ref 105),kd P "FIGURES" 329 (.str (Str.ofString "0123456789") 328),kd P "MOST_FIGURES" 331 (.int 60 330),kd P "show_group" 342 (.ref 112),kd P "number_in" 348 (.ref 117),kd P "wishes_in" 354 (.ref 122),kd P "group_in" 365 (.ref 129),kd P "read_group" 374 (.ref 136),kd P "_law_cell_at" 384 (.ref 143),kd P "_law_mixed" 393 (.ref 150),kd P "_law_piece" 409 (.ref 157),kd P "_law_sorted" 415 (.ref 162),kd P "_law_right" 421 (.ref 167),kd P "law" 429 (.ref 174)] 48 }) ::
 (nat_lit 23,{ cls:=Value.type "dict",data:=Data.dict #[{ hash:=PyData.keyHash P (Str.ofString "__module__"),key:=Value.str (Str.ofString "__module__") 196,val:=Value.str (Str.ofString "besideseats.errors") 187 },{ hash:=PyData.keyHash P (Str.ofString "__firstlineno__"),key:=Value.str (Str.ofString "__firstlineno__") 200,val:=Value.int 2 199 },{ hash:=PyData.keyHash P (Str.ofString "__static_attributes__"),key:=Value.str (Str.ofString "__static_attributes__") 201,val:=Value.ref 22 },{ hash:=PyData.keyHash P (Str.ofString "__weakref__"),key:=Value.str (Str.ofString "__weakref__") 203,val:=Value.ref 25 },{ hash:=PyData.keyHash P (Str.ofString "__doc__"),key:=Value.str (Str.ofString "__doc__") 204,val:=Value.none }] 3 }) ::
 (nat_lit 24,{ cls:=Value.type "type",data:=Data.cls { name:=Str.ofString "SeatError",bases:=[Value.type "ValueError"],mro:=[Value.ref 24,Value.type "ValueError",Value.type "Exception",Value.type "BaseException",Value.type "object"],ns:=23,qualname:=Str.ofString "SeatError",subclasses:=[Value.ref 37] },slots:=#[some (Value.ref 15),none,some (Value.str (Str.ofString "SeatError") 189),some (Value.str (Str.ofString "SeatError") 197),some (Value.builtin "ValueError.__new__"),some (Value.bool true)] }) ::
 (nat_lit 36,{ cls:=Value.type "dict",data:=Data.dict #[{ hash:=PyData.keyHash P (Str.ofString "__module__"),key:=Value.str (Str.ofString "__module__") 214,val:=Value.str (Str.ofString "besideseats.errors") 187 },{ hash:=PyData.keyHash P (Str.ofString "__firstlineno__"),key:=Value.str (Str.ofString "__firstlineno__") 218,val:=Value.int 4 217 },{ hash:=PyData.keyHash P (Str.ofString "__static_attributes__"),key:=Value.str (Str.ofString "__static_attributes__") 219,val:=Value.ref 35 },{ hash:=PyData.keyHash P (Str.ofString "__doc__"),key:=Value.str (Str.ofString "__doc__") 220,val:=Value.none }] 2 }) ::
 (nat_lit 37,{ cls:=Value.type "type",data:=Data.cls { name:=Str.ofString "NoText",bases:=[Value.ref 24],mro:=[Value.ref 37,Value.ref 24,Value.type "ValueError",Value.type "Exception",Value.type "BaseException",Value.type "object"],ns:=36,qualname:=Str.ofString "NoText" },slots:=#[some (Value.ref 28),none,some (Value.str (Str.ofString "NoText") 207),some (Value.str (Str.ofString "NoText") 215),some (Value.builtin "ValueError.__new__"),some (Value.bool true)] }) ::
 (nat_lit 45,kc "is_whole" 225 7 (.int 1 0) (.int 3 0) (.ref 40) (.int 181 0) (.ref 41) .none (.ref 42) (.ref 43) (.ref 44) (.int 229 0) 230) ::
 (nat_lit 46,kf "is_whole" 4 km0 223 45) ::
 (nat_lit 52,kc "is_whole_within" 232 9 (.int 3 0) (.int 3 0) (.ref 47) (.int 181 0) (.ref 48) .none (.ref 49) (.ref 50) (.ref 51) (.int 238 0) 239) ::
 (nat_lit 53,kf "is_whole_within" 5 km0 223 52) ::
 (nat_lit 59,kc "is_letter" 241 11 (.int 1 0) (.int 3 0) (.ref 54) (.int 181 0) (.ref 55) .none (.ref 56) (.ref 57) (.ref 58) (.int 245 0) 246) ::
 (nat_lit 60,kf "is_letter" 6 km0 223 59) ::
 (nat_lit 64,kc "is_name" 278 28 (.int 1 0) (.int 3 0) (.ref 61) (.int 181 0) (.ref 62) .none .none .none (.ref 63) (.int 281 0) 282) ::
 (nat_lit 65,kf "is_name" 22 km1 248 64) ::
 (nat_lit 71,kc "is_kind" 284 32 (.int 1 0) (.int 3 0) (.ref 66) (.int 181 0) (.ref 67) .none (.ref 68) (.ref 69) (.ref 70) (.int 288 0) 289) ::
 (nat_lit 72,kf "is_kind" 23 km1 248 71) ::
 (nat_lit 78,kc "is_amount" 291 34 (.int 2 0) (.int 3 0) (.ref 73) (.int 181 0) (.ref 74) .none (.ref 75) (.ref 76) (.ref 77) (.int 296 0) 297) ::
 (nat_lit 79,kf "is_amount" 24 km1 248 78) ::
 (nat_lit 85,kc "is_wish" 299 36 (.int 1 0) (.int 3 0) (.ref 80) (.int 181 0) (.ref 81) .none (.ref 82) (.ref 83) (.ref 84) (.int 303 0) 304) ::
 (nat_lit 86,kf "is_wish" 25 km1 248 85) ::
 (nat_lit 90,kc "are_wishes" 306 40 (.int 1 0) (.int 3 0) (.ref 87) (.int 181 0) (.ref 88) .none .none .none (.ref 89) (.int 309 0) 310) ::
 (nat_lit 91,kf "are_wishes" 26 km1 248 90) ::
 (nat_lit 97,kc "asks_for_seats" 312 44 (.int 1 0) (.int 3 0) (.ref 92) (.int 181 0) (.ref 93) .none (.ref 94) (.ref 95) (.ref 96) (.int 316 0) 317) ::
 (nat_lit 98,kf "asks_for_seats" 27 km1 248 97) ::
 (nat_lit 104,kc "is_group" 319 52 (.int 1 0) (.int 3 0) (.ref 99) (.int 181 0) (.ref 100) .none (.ref 101) (.ref 102) (.ref 103) (.int 323 0) 324) ::
 (nat_lit 105,kf "is_group" 28 km1 248 104) ::
 (nat_lit 111,kc "show_group" 332 61 (.int 1 0) (.int 3 0) (.ref 106) (.int 181 0) (.ref 107) .none (.ref 108) (.ref 109) (.ref 110) (.int 340 0) 341) ::
 (nat_lit 112,kf "show_group" 32 km2 326 111) ::
 (nat_lit 116,kc "number_in" 343 71 (.int 1 0) (.int 3 0) (.ref 113) (.int 181 0) (.ref 114) .none .none .none (.ref 115) (.int 346 0) 347) ::
 (nat_lit 117,kf "number_in" 33 km2 326 116) ::
 (nat_lit 121,kc "wishes_in" 349 75 (.int 1 0) (.int 3 0) (.ref 118) (.int 181 0) (.ref 119) .none .none .none (.ref 120) (.int 352 0) 353) ::
 (nat_lit 122,kf "wishes_in" 34 km2 326 121) ::
 (nat_lit 128,kc "group_in" 355 77 (.int 1 0) (.int 3 0) (.ref 123) (.int 181 0) (.ref 124) .none (.ref 125) (.ref 126) (.ref 127) (.int 363 0) 364) ::
 (nat_lit 129,kf "group_in" 35 km2 326 128) ::
 (nat_lit 135,kc "read_group" 366 86 (.int 1 0) (.int 3 0) (.ref 130) (.int 181 0) (.ref 131) .none (.ref 132) (.ref 133) (.ref 134) (.int 372 0) 373) ::
 (nat_lit 136,kf "read_group" 36 km2 326 135) ::
 (nat_lit 142,kc "_law_cell_at" 377 97 (.int 2 0) (.int 3 0) (.ref 137) (.int 181 0) (.ref 138) .none (.ref 139) (.ref 140) (.ref 141) (.int 382 0) 383) ::
 (nat_lit 143,kf "_law_cell_at" 38 km3 375 142) ::
 (nat_lit 149,kc "_law_mixed" 385 101 (.int 2 0) (.int 3 0) (.ref 144) (.int 181 0) (.ref 145) .none (.ref 146) (.ref 147) (.ref 148) (.int 391 0) 392) ::
 (nat_lit 150,kf "_law_mixed" 39 km3 375 149) ::
 (nat_lit 156,kc "_law_piece" 394 107 (.int 2 0) (.int 3 0) (.ref 151) (.int 181 0) (.ref 152) .none (.ref 153) (.ref 154) (.ref 155) (.int 407 0) 408) ::
 (nat_lit 157,kf "_law_piece" 40 km3 375 156) ::
 (nat_lit 161,kc "_law_sorted" 410 117 (.int 1 0) (.int 3 0) (.ref 158) (.int 181 0) (.ref 159) .none .none .none (.ref 160) (.int 413 0) 414) ::
 (nat_lit 162,kf "_law_sorted" 41 km3 375 161) ::
 (nat_lit 166,kc "_law_right" 416 125 (.int 1 0) (.int 3 0) (.ref 163) (.int 181 0) (.ref 164) .none .none .none (.ref 165) (.int 419 0) 420) ::
 (nat_lit 167,kf "_law_right" 42 km3 375 166) ::
 (nat_lit 173,kc "law" 422 139 (.int 1 0) (.int 3 0) (.ref 168) (.int 181 0) (.ref 169) .none (.ref 170) (.ref 171) (.ref 172) (.int 427 0) 428) ::
 (nat_lit 174,kf "law" 43 km3 375 173) :: []) (by kernel_rfl)
def KA:List Addr:=[nat_lit 3,nat_lit 23,nat_lit 24,nat_lit 36,nat_lit 37,nat_lit 45,nat_lit 46,nat_lit 52,nat_lit 53,nat_lit 59,nat_lit 60,nat_lit 64,nat_lit 65,nat_lit 71,nat_lit 72,nat_lit 78,nat_lit 79,nat_lit 85,nat_lit 86,nat_lit 90,nat_lit 91,nat_lit 97,nat_lit 98,nat_lit 104,nat_lit 105,nat_lit 111,nat_lit 112,nat_lit 116,nat_lit 117,nat_lit 121,nat_lit 122,nat_lit 128,nat_lit 129,nat_lit 135,nat_lit 136,nat_lit 142,nat_lit 143,nat_lit 149,nat_lit 150,nat_lit 156,nat_lit 157,nat_lit 161,nat_lit 162,nat_lit 166,nat_lit 167,nat_lit 173,nat_lit 174]
end K14
namespace PySem.W.Fast
def tw10309347749129223877:Unit:=()
def tw5550162942859071857:Unit:=()
def tw15948876438916950088:Unit:=()
def tw8937785579098716271:Unit:=()
def tw8637173720637013153:Unit:=()
def tw13908774974889898054:Unit:=()
def tw8839694891652303656:Unit:=()
def tw3520748896981466579:Unit:=()
end PySem.W.Fast
open PySem PySem.W PyProof.Rows
set_option maxRecDepth 100000 in
set_option maxHeartbeats 0 in
theorem PySem.Challenge.cw_besideseats_k14_whole_any_words_holds : PySem.Challenge.rw_besideseats_k14_whole_any_words.Holds := by
 w_on;o_law;o_head (PySem.W.kHook K14.KK K14.KA (fun _=>by kernel_rfl));(case hw=>w_witness2)
 k_fill
 refine K14.walk (l:=PySem.Challenge.rw_besideseats_k14_whole_any_words) rfl rfl (fun w h Y=>PySem.W.kIn_of Y) ?F ?L
 case L =>
  intro w
  refine' ZS.lam_ok (r1:=_) (r2:=_) ?n ?h1 ?h2 ?g1 ?g2 ?ne
  (case n=>kernel_rfl)
  (case h1=>refine' ZS.tab_none ?a1;(case a1=>k_is))
  (case g1=>exact .inl rfl)
  (case h2=>refine' ZS.tab_none ?a2;(case a2=>k_is))
  (case g2=>exact .inl rfl)
  (case ne=>exact fun c P c' P' e1 e2=>by first | (cases e1;done) | (cases e2;done) | (cases e1;cases e2;decide))
 case F =>
  intro w mg fa h KX G hmg
  refine' K14.all_mk KX G hmg ?a0 ?a1 ?a2 ?a3 ?a4 ?a5 ?a6 ?a7 ?a8 ?a9 ?a10 ?a11 ?a12 ?a13 ?a14 ?a15 ?a16 ?a17 ?a18 ?a19 ?a20 ?v_DEPTH ?v_FIGURES ?q_FIGURES ?v_GAP ?v_KIND ?v_LAST_ROW ?v_MOST_DEPTH ?v_MOST_FIGURES ?v_MOST_GAP ?v_MOST_LETTERS ?v_MOST_WIDTH ?v_NAME ?v_PARTS ?v_WIDE ?v_WIDTH ?v_WISHES ?v_WORTH ?n_all ?n_bool ?n_int ?n_isinstance ?n_len ?n_list ?n_min ?n_range ?n_set ?n_sorted ?n_str ?n_tuple ?w_NoText ?xc_NoText ?xi_NoText
  (case v_DEPTH=>k_is)
  (case v_FIGURES=>k_is)
  (case v_GAP=>k_is)
  (case v_KIND=>k_is)
  (case v_LAST_ROW=>k_is)
  (case v_MOST_DEPTH=>k_is)
  (case v_MOST_FIGURES=>k_is)
  (case v_MOST_GAP=>k_is)
  (case v_MOST_LETTERS=>k_is)
  (case v_MOST_WIDTH=>k_is)
  (case v_NAME=>k_is)
  (case v_PARTS=>k_is)
  (case v_WIDE=>k_is)
  (case v_WIDTH=>k_is)
  (case v_WISHES=>k_is)
  (case v_WORTH=>k_is)
  (case q_FIGURES=>first | rfl | kernel_rfl | decide +kernel)
  (case w_NoText=>k_is)
  (case xc_NoText=>kernel_rfl)
  (case xi_NoText=>kernel_rfl)
  all_goals first | k_is | (refine' ZS.DefK.mk' ?a ?l ?c ?k;(case a=>k_is);(case l=>k_is);(case c=>k_is);(case k=>k_is))
#print axioms PySem.Challenge.cw_besideseats_k14_whole_any_words_holds
