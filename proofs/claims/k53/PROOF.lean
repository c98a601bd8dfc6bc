import PyProof.Rows.All
import Wide.All
import OpenK.AllK
import Wide.FinOn
import Lean
import KE.KMinKey
import PyProof.WalkInts
import PyProof.SeqI3
import PyProof.Rows.CallKwBuiltin
import KE.KIsAll
import PyProof.StrBlock
import PyProof.Rows.StrLen
import KE.KIntText
import PyProof.StrLawsFirst
import PyProof.StrLawsIn
import PyProof.InstStoreFacts
import PyProof.EqAt
import PyProof.EqKinds
import PyProof.TupleCall
import KE.KLam
import PySem.Challenge.RW_besideseats_k53_too_many_ways
set_option Elab.async false
set_option linter.all false
set_option maxRecDepth 100000
set_option genSizeOf false
set_option compiler.extract_closed false
set_option bootstrap.genMatcherCode false
open Option renaming some→Y!,none→AC,getD_none→Yi
open Bool renaming false→Z!,true→AT,or_eq_true→Yl,and_true→ZA
open PySem.Str renaming ofString→At
open PySem.W renaming Frag→Ch,nsIn→EQ,keepIn→Ev,kitOne→FB,Frag→FS,findIn→Go,fnOf→Ix,excIn→KF,tabIn→KM,codeIn→KT,hideAll_none→WP,tabObj→Wp,looks_clsIn→YG,codeRec_of→YL,set_plain→Yc,specialIn→Yd,OpenLaw→Yu,instObj→Yv,CodeHd→Yy,lookIn→Yz
open List renaming replicate→Da,range→Do,lookup→Gc,flatMap_append→YF,contains_cons→YI,countP_append→YJ,filter_append→YK,ext_getElem?→YU,flatMap_cons→YV,getElem_take→YW,pairwise_map→YX,cons_append→Yg,zipIdx_cons→Yh,filter_map→Yq,length_nil→Yr,zipIdx_nil→Ys,forIn_nil→Yx,sum_cons→ZC
open PySem renaming wpAny→Db
open PySem.Builtin.Builtins renaming bindParams→FM
open PySem.Builtin.SmallTypes renaming nextOf→Fa,ownedTupleIsFree→Fk,ownedTupleHandOut→Op
open False renaming elim→GE
open PySem.Heap renaming SameBut→GM,ExtBut→Uf,MadeExcOf→WF,get?_update_ne→YE
open ForInStep renaming yield→GT
open PySem.Builtin.Slice renaming slicePlaces→IN,sliceAdjust→On,sliceApplied→SC
open PySem.Builtin.Tuple renaming tupleExact→IR,tupleItemsOf→SL
open PySem.SeqAt renaming EqAt→NE,RcNeAt→Pi,RcAt→SZ
open PySem.Value renaming none→No,builtin→TW
open PySem.Obj renaming mapFields→Os
open True renaming intro→PP
open PySem.W.WData renaming weightAll→Ps,weight→Rs
open Array renaming toList→Re,toList_append→XV
open Sum renaming inr→Sc,inl→UF
open Or renaming inr→Tl,inl→ZF
abbrev Y':=@List
abbrev Z':=@PySem.Addr
abbrev Y_:=@Option
abbrev Z_:=@PySem.Value
abbrev γ:=@PySem.Expr
abbrev δ:=@PySem.Shared
abbrev ε:=@PySem.Stmt
abbrev ζ:=@PySem.Obj
abbrev η:=@PySem.Heap
abbrev θ:=@PySem.World
abbrev ι:=@PySem.Program
abbrev μ:=@PySem.Scope
abbrev ν:=@PySem.Around
abbrev ξ:=@PySem.FuncData
abbrev ο:=@PySem.Keyword
def T0:=@PySem.wpAny_bind
def Y0:=@PySem.wpAny_pure
def Z0:=@Nat.le_refl
def v0:=@if_neg
def W1:=@PySem.Heap.get?_push_of_some
def Y1:=@PySem.Heap.lt_size
def Z1:=@if_pos
def M2:=@List.getElem?_eq_getElem
def Y2:=@List.mem_cons
def Z2:=@List.size_toArray
def P3:=@Ne.symm
def Y3:=@List.getElem?_eq_some_iff
def Z3:=@List.getElem?_map
def Y4:=@Option.some.inj
def Z4:=@Nat.ne_of_lt
def v4:=@List.length_map
def Y5:=@PySem.Heap.get?_push_size
def Z5:=@PySem.wpAny_mono
def Y6:=@List.mem_cons_of_mem
def Z6:=@Nat.lt_of_lt_of_le
def v6:=@PySem.wpAny_holding
def Y7:=@List.map_cons
def Z7:=@List.mem_cons_self
def Y8:=@congrArg
def Z8:=@if_true
def f8:=@PySem.W.mg_of
def Y9:=@PySem.sizeLine_eq
def Z9:=@PySem.wpAny_seqItems
def A00:=@List.length_take
def A01:=@List.mem_of_getElem?
def A02:=@PySem.wpAny_field
def A03:=@List.mem_singleton
def A04:=@PySem.wpAny_tryCatch
def A05:=@List.mem_range
def A06:=@Nat.le_trans
def A07:=@beq_iff_eq
def A08:=@List.length_range
def A09:=@List.mem_map
def A10:=@List.mem_append_right
def A11:=@Bool.false_eq_true
def A12:=@List.not_mem_nil
def A13:=@PySem.wpAny_letGo
def A14:=@List.getElem?_set_ne
def A15:=@List.getElem?_replicate
def A16:=@List.getElem?_append_left
def A17:=@Bool.and_eq_true
def A18:=@PySem.Heap.get?_update_other
def A19:=@Option.map_eq_some_iff
def A20:=@PySem.F.plain_max_loop
def A21:=@List.map_map
def A22:=@or_false
def A23:=@List.getElem?_set
def A24:=@PySem.W.mg_none_of
def A25:=@List.getElem?_set_self
def A26:=@List.getElem?_append_right
def A27:=@List.all_eq_true
def A28:=@List.lookup_cons
def A29:=@PySem.plainId_quiet
def A30:=@List.mem_filter
def A31:=@Nat.ne_of_gt
def A32:=@PySem.wpAny_Call_Name_kw
def A33:=@if_false
def A34:=@PySem.wpAny_newObj_type
def A35:=@PySem.Heap.get?_update_self
def A36:=@PySem.Heap.size_push
def A37:=@decide_eq_false
def A38:=@Nat.lt_succ_self
def A39:=@PySem.wpAny_truthy_bool
def A40:=@PySem.mem_of_lookup
def A41:=@PySem.Obj.data_mapFields
def A42:=@List.mem_append
def A43:=@PySem.wpAny_pyIter_list
def A44:=@PySem.wpAny_call
def A45:=@List.nodup_cons
def A46:=@List.map_nil
def A47:=@Option.map_some
def A48:=@PySem.codeAny_builtin
def A49:=@PySem.Around.under_plainId
def A50:=@PySem.wpAny_updateSeq
def A51:=@Nat.lt_irrefl
def A52:=@Nat.le_of_lt
def A53:=@List.append_nil
def A54:=@PySem.codeAny_mono
def A55:=@List.length_append
def A56:=@List.getElem_range
def A57:=@Nat.le_succ
def A58:=@List.length_cons
def A59:=@not_or
def A60:=@beq_eq_false_iff_ne
def A61:=@Option.isSome_iff_exists
def A62:=@PySem.call_meets
def A63:=@beq_self_eq_true
def A64:=@PySem.W.kia_one
def A65:=@of_decide_eq_true
def A66:=@Nat.add_comm
def A67:=@PySem.F.plain_min_loop
def A68:=@List.getElem?_of_mem
def A69:=@List.length_filter_le
def A70:=@List.mem_append_left
def A71:=@PySem.wpAny_standAt
def A72:=@PySem.W.callWith_K
def A73:=@PySem.wpAny_callSpecial?_slot
def A74:=@PyProof.Rows.slot_tuple_getitem
def A75:=@PySem.wpAny_call_entry
def A76:=@List.range_succ
def A77:=@Nat.zero_le
def A78:=@PySem.wpAny_rule
def A79:=@List.drop_eq_getElem_cons
def A80:=@Bool.eq_iff_iff
def A81:=@List.take_length
def A82:=@PySem.wpAny_setField_rec
def A83:=@Int.le_refl
def A84:=@PySem.F.entry_max_loop
def A85:=@PySem.W.looks_findIn
def A86:=@List.mem_flatMap
def A87:=@PySem.wpAny_passesOwn
def A88:=@Bool.false_ne_true
def A89:=@List.length_replicate
def A90:=@List.getElem_mem
def A91:=@List.map_append
def A92:=@List.lookup_cons_self
def A93:=@Nat.lt_succ_of_lt
def A94:=@PySem.Walks.list
def A95:=@List.nodup_nil
def A96:=@not_false_eq_true
def A97:=@PySem.wpAny_attempt
def A98:=@Option.bind_some
def A99:=@Option.some.injEq
def B00:=@PySem.F.slot_tuple_mul
def B01:=@PySem.wpAny_ite_false
def B02:=@Array.getElem?_eq_some_iff
def B03:=@PySem.wpAny_loadPart
def B04:=@PySem.wpAny_loadPart_at
def B05:=@Nat.mul_le_mul
def B06:=@List.filter_cons_of_neg
def B07:=@PySem.Heap.get?_none_of_le
def B08:=@PySem.wpAny_execs_nil
def B09:=@List.of_mem_zip
def B10:=@PyProof.Rows.callWith_type1
def B11:=@Bool.and_false
def B12:=@List.map_congr_left
def B13:=@PySem.wpAny_pyIter_tuple
def B14:=@List.forIn_cons
def B15:=@List.append_assoc
def B16:=@List.countP_cons
def B17:=@List.take_add_one
def B18:=@PySem.F.slot_tuple_iterator_next
def B19:=@PySem.wpAny_setField
def B20:=@PySem.Obj.isFreed_of_fields
def B21:=@Nat.not_lt
def B22:=@PySem.wpAny_onRaise
def B23:=@PySem.F.slot_zip_next
def B24:=@List.replicate_succ
def B25:=@List.nil_append
def B26:=@WP
def B27:=@PySem.F.excAttr_ValueError
def B28:=@Nat.zero_add
def B29:=@List.pairwise_cons
def B30:=@List.filterMap_cons
def B31:=@PySem.Calls.Name_function_global
def B32:=@Array.length_toList
def B33:=@List.mem_filterMap
def B34:=@PySem.W.cellsFrom_some
def B35:=@PySem.Around.frames_deeper
def B36:=@PySem.wpAny_loadPart'
def B38:=@PySem.noFill_tuple_add
def B40:=@PySem.F.slot_tuple_add
def B41:=@PySem.F.entry_tuple_add
def B42:=@PySem.F.args_tuple_add_2
def B43:=@List.length_drop
def B46:=@List.drop_length
def B47:=@PySem.SeqAt.EqAt.same
def B48:=@List.all_cons
def B49:=@List.any_cons
def B50:=@List.getElem_of_mem
def B51:=@PySem.F.plainAttrs_list
def B52:=@PySem.Obj.cls_mapFields
def B53:=@PySem.wpAny_updateSeq_pair
def B54:=@PySem.wpAny_pyIter_zip
def B55:=@Nat.min_eq_left
def B56:=@List.foldl_cons
def B57:=@decide_false
def B58:=@List.take_of_length_le
def B59:=@PySem.F.entry_tuple_mul
def B60:=@PySem.F.args_tuple_mul_2
def B61:=@decide_eq_true_eq
def B62:=@PySem.F.entry_min_loop
def B63:=@Bool.not_eq_true'
def B64:=@PySem.codeAny_call_builtin
def B65:=@PySem.F.excBase_ValueError
def B66:=@Nat.add_assoc
def B67:=@Nat.succ_mul
def B68:=@Nat.mul_le_mul_right
def B72:=@List.getElem?_take_of_lt
def B74:=@PySem.wpAny_newFunctionEnv_cells
def B75:=@List.eq_nil_of_length_eq_zero
def B76:=@List.cons_lt_cons_iff
def B77:=@List.getElem?_eq_none
def B79:=@List.set_eq_of_length_le
def B80:=@List.range_succ_eq_map
def B81:=@PySem.F.entry_tuple_iterator_next
def B82:=@PySem.F.args_tuple_iterator_next_1
def B83:=@List.getElem?_cons_zero
def B84:=@List.drop_eq_nil_of_le
def B85:=@PySem.plainObj_wpAny_Assign_Attribute
def B86:=@List.pairwise_lt_range
def B87:=@List.filter_cons_of_pos
def B88:=@List.pairwise_iff_getElem
namespace L2
open PySem PySem.Spec PyProof.Rows
abbrev Se(a:γ)(es:Y' γ)(E:PySem.Env):Prop:=starEach (a::es) E=(Z!,eval a E)::starEach es E
abbrev Nd(x:Str):Prop:=(x==("__debug__":Str))=Z!
abbrev Pn(p:Pos)(es:Y' γ)(E:PySem.Env):Prop:=(backTo p<|starEach es E).any (·.1)=Z!
end L2
open L2 (Se Nd Pn)
namespace L2
open PySem PySem.Spec PyProof.Rows
abbrev Key:=Sum Int Str
def G2:Key->Z_->Bool
|.inl k,v=>Value.isInt k v
|.inr x,v=>Value.isStrOf x v
def Q1(w:θ):Key->Int
|.inl k=>hashInt k
|.inr x=>hashStr w x
theorem cj:∀{k}{v},G2 k v=AT->(∃i t,k=UF i/\v=Value.int i t)\/(∃x t,k=Sc x/\v=Value.str x t)
|.inl i,v,h=>by obtain⟨t,e⟩:=Value.isInt_shape h;exact .inl ⟨i,t,rfl,e⟩
|.inr x,v,h=>by obtain⟨t,e⟩:=Value.isStrOf_shape h;exact .inr ⟨x,t,rfl,e⟩
theorem IQ(a b:Int):decide ((UF a:Key)=UF b)=(a==b):=by
 by_cases e:a=b
 .subst e;simp
 .have h:¬(UF a:Key)=UF b:=λ q=>e<|Sum.inl.inj q;rw[A37 h];exact(A60.mpr e).symm
theorem IL(a b:Str):decide ((Sc a:Key)=Sc b)=decide (a=b):=by
 by_cases e:a=b
 .subst e;simp
 .have h:¬(Sc a:Key)=Sc b:=λ q=>e<|Sum.inr.inj q;rw[A37 h,A37 e]
theorem IP(a:Int)(b:Str):decide ((UF a)=Sc b)=Z!:=A37 λ q=>nomatch q
theorem IM(a:Str)(b:Int):decide ((Sc a)=UF b)=Z!:=A37 λ q=>nomatch q
def yA (prog:ι) (w:θ):PySem.KeyKind prog w Key where
 is:=G2
 hash:=Q1 w
 inj:=λ v a b ha hb=>by
  rcases cj ha with⟨i,t,rfl,rfl⟩|⟨x,t,rfl,rfl⟩
  .rcases cj hb with⟨j,u,rfl,e⟩|⟨y,u,rfl,e⟩
   .injection e with e1 _;rw[e1]
   .exact nomatch e
  .rcases cj hb with⟨j,u,rfl,e⟩|⟨y,u,rfl,e⟩
   .exact nomatch e
   .injection e with e1 _;rw[e1]
 byValue:=λ k v h=>by rcases cj h with⟨i,t,rfl,rfl⟩|⟨x,t,rfl,rfl⟩<;>rfl
 pyHash:=λ hv h=>by
  rcases cj hv with⟨i,t,rfl,rfl⟩|⟨x,t,rfl,rfl⟩
  .exact wpAny_pyHash_int h
  .exact wpAny_pyHash_str h
 eqBool:=λ hu hv h=>by
  rcases cj hu with⟨i,t,rfl,rfl⟩|⟨x,t,rfl,rfl⟩
  .rcases cj hv with⟨j,u,rfl,rfl⟩|⟨y,u,rfl,rfl⟩
   .rw[IQ]at h;exact wpAny_eqBool_int h
   .rw[IP]at h;exact SeqAt.EqAt.int_str i t y u _ _ _ _ h
  .rcases cj hv with⟨j,u,rfl,rfl⟩|⟨y,u,rfl,rfl⟩
   .rw[IM]at h;exact SeqAt.EqAt.str_int x t j u _ _ _ _ h
   .rw[IL]at h;exact wpAny_eqBool_str h
 «strs»:=λ k x t v h=>by
  rcases cj h with⟨i,u,rfl,e⟩|⟨y,u,rfl,e⟩
  .exact nomatch e
  .injection e with e1 _
   subst e1;cases v<;>rfl
inductive V where
|non|bl (b:Bool)|int (i:Int)|str (x:Str)|KQ (b:Array UInt8)|Ky (b:UInt64)|ref (a:Addr)|ty (n:String)
deriving DecidableEq
def RelV:V->Z_->Prop
|.non,u=>u=No
|.bl b,u=>u=Value.bool b
|.int i,u=>∃t,u=Value.int i t
|.str x,u=>∃t,u=Value.str x t
|.KQ b,u=>∃t,u=Value.bytes b t
|.Ky b,u=>∃t,u=Value.float b t
|.ref a,u=>u=Value.ref a
|.ty n,u=>u=Value.type n
abbrev Vals:Y' V->Y' Z_->Prop:=Paired RelV
theorem Vals.length(r:Vals xs us):xs.length=us.length:=Paired.length r
theorem Vals.get:∀{xs}{us}{i:Nat} {x},Vals xs us->xs[i]?=Y! x->∃u,us[i]?=Y! u/\RelV x u
|_,_,_,_,.nil,e=>by simp at e
|_,_,0,_,.cons r _,e=>by simp at e;subst e;exact⟨_,rfl,r⟩
|_,_,i+1,x,.cons _ t,e=>by obtain⟨u,h1,h2⟩:=Vals.get (i:=i) (x:=x) t (by simpa using e);exact⟨u,by simpa using h1,h2⟩
theorem Vals.set(r:RelV x u):∀{xs}{us} i,Vals xs us->Vals (xs.set i x) (us.set i u)
|_,_,_,.nil=>.nil
|_,_,0,.cons _ t=>.cons r t
|_,_,i+1,.cons q t=>.cons q<|Vals.set r i t
theorem Vals.append:∀{xs ys}{us ws},Vals xs us->Vals ys ws->Vals (xs++ys) (us++ws)
|_,_,_,_,.nil,s=>s
|_,_,_,_,.cons r t,s=>.cons r<|Vals.append t s
theorem Vals.take:∀{xs}{us} n,Vals xs us->Vals (xs.take n) (us.take n)
|_,_,0,_=>.nil
|_,_,_+1,.nil=>.nil
|_,_,n+1,.cons r t=>.cons r<|Vals.take n t
theorem Vals.drop:∀{xs}{us} n,Vals xs us->Vals (xs.drop n) (us.drop n)
|_,_,0,r=>r
|_,_,_+1,.nil=>.nil
|_,_,n+1,.cons _ t=>Vals.drop n t
def xU:Y_ V->Y_ Z_->Prop
|some v,Y! u=>RelV v u
|none,AC=>True
|_,_=>False
def KV{κ:Type}:Y' (κ×V)->Y' (κ×Z_)->Prop:=Paired λ(p:κ×V) (q:κ×Z_)=>p.1=q.1/\RelV p.2 q.2
def kV:Key->V
|.inl i=>.int i
|.inr x=>.str x
inductive HO where
|lst (xs:List V)
|tup (xs:List V)
|dK (dG:List (Key×V))|dT (dG:List (List Key×V))
|set (S:Int->Bool) (n:Nat)
|ins (C dx:Addr) (fs:List (Str×V))
|own (x:Addr)
|xd (fs:List (Str×V))
|met (f x:Addr)
|zE (lo hi:Int)
|c5 (o:Obj) (u:HO)
|Be (q:Str)
|D5 (q:Str)
 |ext (φ:Heap->Prop)
abbrev Hp:=Z'->Y_ HO
def KU:HO->Prop
|.Be _=>True
|.D5 _=>True
|_=>False
def upd(H:Hp)(a:Z')(o:HO):Hp:=λ b=>if b=a then Y! o else H b
theorem aI:upd H a o a=Y! o:=by unfold upd;rw[Z1 rfl]
theorem aA(h:b≠a):upd H a o b=H b:=by unfold upd;rw[v0 h]
theorem L?{H:Hp}(h:H a=Y! o)(h':H b=Y! u)(d:o≠u):a≠b:=by intro e;subst e;rw[h]at h';exact d<|Y4 h'
theorem aP{H:Hp}(h:H a=Y! o)(h':H b=AC):a≠b:=by intro e;subst e;rw[h]at h';cases h'
section
variable (P:ι) (w:θ)
def m9(h:η)(a:Z')(xs:Array Z_):Prop:=∃n,h.get? a=Y! {cls:=.type "tuple",data:=.seq xs n}
theorem m9.is(p:m9 h a xs):IsTup h a xs:=by obtain⟨n,e⟩:=p;exact⟨_,e,rfl,n,rfl⟩
theorem m9.new(h:η)(xs:Array Z_):m9 (h.push {cls:=.type "tuple",data:=.seq xs}) h.objs.size xs:=⟨_,Y5 _ rfl⟩
def dP(H:Hp)(h:η)(a:Z'):HO->Prop
|.lst xs=>xs.length<=sizeLine/\∃(aU:Y' Z_) (n:Nat),Vals xs aU/\h.get? a=Y! {cls:=.type "list",data:=.seq aU.toArray n}
|.tup xs=>xs.length<=sizeLine/\∃aU:Y' Z_,Vals xs aU/\m9 h a aU.toArray
|.dK dG=>dG.length<=sizeLine/\(a==sysModules)=Z!/\∃vs,KV dG vs/\h.DictOf (yA P w) a vs
|.dT dG=>dG.length<=sizeLine/\(a==sysModules)=Z!/\∃xs:Y' (Y' Key×Z'×Z_),
 Paired (λ(p:Y' Key×V) (q:Y' Key×Z'×Z_)=>p.1=q.1/\H q.2.1=Y! (.tup<|p.1.map kV)/\RelV p.2 q.2.2) dG xs /\
 ∃o es ep,h.get? a=Y! o/\o.ExactDict/\o.data=.dict es ep/\es.toList=xs.map (entryOfKey<|tupleKind<|yA P w)/\(xs.map (·.1)).Nodup
|.set S n=>h.SetOf (intKind P w) a S n
|.ins C dx fs=>H dx=Y! (.own a)/\fs.length<=1000/\dx≠a/\h.get? a=Y! (Yv C dx) /\
 ∃mA,h.Ns1 dx mA/\(∀f,xU (fs.lookup f) (mA f))/\PySem.Within mA (fs.map (·.1))
|.own _=>∃o,h.get? a=Y! o
|.xd fs=>∃mA,h.Ns1 a mA/\∀f,xU (fs.lookup f) (mA f)
|.zE lo hi=>∃t u v,h.get? a=Y! {cls:=.type "range",data:=.fields #[.int lo t,.int hi u,.int 1 v]}
|.c5 o u=>h.get? a=Y! o/\dP H h a u
|.Be q=>∃ps:Array Z_,h.get? a=Y! {cls:=.none,data:=.fields ps}/\TriplesOk ps.toList/\∀pos cv,codeAmong pos ps.toList=Y! cv->∃c,cv=.ref c/\H c=Y! (.D5 q)
|.D5 q=>h.CodeRec (.ref a) q
|.met f x=>h.get? a=Y! (PySem.W.methodObj (.ref f)<|.ref x)
|.ext φ=>φ h/\(∃o,h.get? a=Y! o)/\∀h1 h2:η,φ h1->(∀o,h1.get? a=Y! o->h2.get? a=Y! o)->φ h2
def mm(H:Hp)(h:η):Prop:=∀a o,H a=Y! o->dP P w H h a o
end
section
theorem dP.lt(x:dP P w H h a o):a<h.objs.size:=by
 cases o with
 |lst xs=>obtain⟨_,_,_,_,e⟩:=x;exact Y1 e
 |tup xs=>obtain⟨_,_,_,p⟩:=x;exact p.is.lt
 |dK dG=>obtain⟨_,_,_,_,o,_,_,e,_⟩:=x;exact Y1 e
 |dT dG=>obtain⟨_,_,_,_,o,_,_,e,_⟩:=x;exact Y1 e
 |set S n=>obtain⟨o,_,_,_,e,_⟩:=x;exact Y1 e
 |ins C dx fs=>obtain⟨_,_,_,e,_⟩:=x;exact Y1 e
 |own y=>obtain⟨_,e⟩:=x;exact Y1 e
 |xd fs=>obtain⟨_,⟨_,_,_,e,_⟩,_⟩:=x;exact Y1 e
 |zE lo hi=>obtain⟨_,_,_,e⟩:=x;exact Y1 e
 |c5 ob u=>obtain⟨e,_⟩:=x;exact Y1 e
 |Be q=>obtain⟨_,e,_⟩:=x;exact Y1 e
 |D5 q=>obtain⟨_,_,_,_,e1,e2,_⟩:=x;cases e1;exact Y1 e2
 |met f y=>exact Y1<|x
 |ext φ=>obtain⟨_,⟨_,e⟩,_⟩:=x;exact Y1 e
theorem Paired.Cc:∀{l₁}{l₂},Paired F l₁ l₂->(∀a b,F a b->G a b)->Paired G l₁ l₂
|_,_,.nil,_=>.nil
|_,_,.cons r t,f=>.cons (f _ _ r)<|Paired.Cc t f
theorem dP.j!(x:dP P w H h a o)(k:∀b u,(b=a\/H b=Y! (.own a))->h.get? b=Y! u->h'.get? b=Y! u)
 (ho:∀b,H b=Y! (.own a)->H' b=Y! (.own a)) (ht:∀b xs,H b=Y! (.tup xs)->H' b=Y! (.tup xs)) (hp:∀b u,KU u->H b=Y! u->H' b=Y! u):dP P w H' h' a o:=by
 induction o with
 |lst xs=>obtain⟨z,aU,n,r,e⟩:=x;exact⟨z,aU,n,r,k _ _ (.inl rfl) e⟩
 |tup xs=>obtain⟨z,aU,r,ob,e⟩:=x;exact⟨z,aU,r,ob,k _ _ (.inl rfl) e⟩
 |dK dG=>obtain⟨z,y,vs,r,ob,es,ep,e,c⟩:=x;exact⟨z,y,vs,r,ob,es,ep,k _ _ (.inl rfl) e,c⟩
 |dT dG=>obtain⟨z,y,xs,r,ob,es,ep,e,c⟩:=x;exact⟨z,y,xs,Paired.Cc r λ p q z=>⟨z.1,ht _ _ z.2.1,z.2.2⟩,ob,es,ep,k _ _ (.inl rfl) e,c⟩
 |set S n=>obtain⟨ob,es,ep,t,e,c⟩:=x;exact⟨ob,es,ep,t,k _ _ (.inl rfl) e,c⟩
 |ins C dx fs=>obtain⟨d,z,ne,e,mA,⟨od,es,ep,e2,c⟩,r⟩:=x;exact⟨ho _ d,z,ne,k _ _ (.inl rfl) e,mA,⟨od,es,ep,k _ _ (.inr d) e2,c⟩,r⟩
 |own y=>obtain⟨ob,e⟩:=x;exact⟨ob,k _ _ (.inl rfl) e⟩
 |xd fs=>obtain⟨mA,⟨od,es,ep,e,c⟩,r⟩:=x;exact⟨mA,⟨od,es,ep,k _ _ (.inl rfl) e,c⟩,r⟩
 |zE lo hi=>obtain⟨t,u,v,e⟩:=x;exact⟨t,u,v,k _ _ (.inl rfl) e⟩
 |c5 ob u ih=>obtain⟨e,q⟩:=x;exact⟨k _ _ (.inl rfl) e,ih q⟩
 |Be q=>obtain⟨ps,e,t,g⟩:=x;exact⟨ps,k a _ (.inl rfl) e,t,λ pos cv r=>let ⟨c,e1,e2⟩:=g pos cv r;⟨c,e1,hp c _ trivial e2⟩⟩
 |D5 q=>obtain⟨c,oc,vs,t,e1,e2,r⟩:=x;cases e1;exact⟨a,oc,vs,t,rfl,k a _ (.inl rfl) e2,r⟩
 |met f y=>have e:=x;exact k a _ (.inl rfl) e
 |ext φ=>obtain⟨p,⟨o,e⟩,st⟩:=x;exact⟨st _ _ p λ o q=>k _ _ (.inl rfl) q,⟨o,k _ _ (.inl rfl) e⟩,st⟩
theorem mm.lt(x:mm P w H h)(e:H a=Y! o):a<h.objs.size:=(x a o e).lt
theorem mm.fresh(x:mm P w H h)(e:h.objs.size<=a):H a=AC:=by
 cases q:H a with
 |none=>rfl
 |some u=>exact absurd (Z6 (x.lt q) e)<|A51 _
theorem mm.kept(x:mm P w H h)(k:∀b u,h.get? b=Y! u->h'.get? b=Y! u):mm P w H h':=λ a o e=>(x a o e).j! (λ b u _ q=>k b u q) (λ _ q=>q) (λ _ _ q=>q) λ _ _ _ q=>q
theorem mm.laid(x:mm P w H h)(k:∀b u,h.get? b=Y! u->h'.get? b=Y! u)(hp:h.objs.size<=a)(new:dP P w (upd H a o) h' a o):mm P w (upd H a o) h':=λ b u e=>by
 have hn:=x.fresh hp;by_cases hb:b=a
 .subst hb;rw[aI]at e;cases e;exact new
 .rw[aA hb]at e;exact(x b u e).j! (λ c v _ q=>k c v q) (λ c q=>by rw[aA<|aP q hn];exact q) (λ c xs q=>by rw[aA<|aP q hn];exact q) λ c v _ q=>by rw[aA<|aP q hn];exact q
end
def Rd(H:Hp)(a:Z')(u:HO):Prop:=H a=Y! u\/∃o,H a=Y! (.c5 o u)
theorem Rd.ok(r:Rd H a u)(x:mm P w H h):dP P w H h a u:=by
 rcases r with r|⟨o,r⟩
 .exact x a u r
 .obtain⟨_,q⟩:=x a _ r;exact q
def Po:Y_ HO->Prop
|some<|.lst _=>True
|some<|.dK _=>True
|some<|.dT _=>True
|some<|.set _ _=>True
|some<|.ins _ _ _=>True
|some<|.ext _=>True
|_=>False
section
theorem mm.write (ok:mm P w H h) (mu:Po (H x)) (he:e=x\/H e=Y! (.own x)) (k:∀ b u,b≠e->h.get? b=Y! u->h'.get? b=Y! u) (Kv:∃ u,h'.get? e=Y! u)
 (new:dP P w (upd H x o') h' x o'):mm P w (upd H x o') h':=λ b u q=>by
 have L6:∀c y,H c=Y! (.own y)->c≠x:=λ c y r z=>by subst z;rw[r]at mu;exact mu
 have QD:∀c xs,H c=Y! (.tup xs)->c≠x:=λ c xs r z=>by subst z;rw[r]at mu;exact mu
 have QH:∀c u,KU u->H c=Y! u->c≠x:=λ c u p r z=>by subst z;rw[r]at mu;cases u<;>first|exact p|exact mu
 by_cases hb:b=x
 .subst hb;rw[aI]at q;cases q;exact new
 .rw[aA hb]at q;by_cases Jn:b=e
  .have q':H b=Y! (.own x):=by
    rcases he with z|z
    .exact absurd (Jn.trans z) hb
    .rw[Jn];exact z
   rw[q]at q';cases q';obtain⟨v,hv⟩:=Kv;exact⟨v,by rw[Jn];exact hv⟩
  .refine(ok b u q).j! (λ c v hc r=>k c v ?_ r) (λ c r=>by rw[aA<|L6 c b r];exact r) (λ c xs r=>by rw[aA<|QD c xs r];exact r) λ c v p r=>by rw[aA<|QH c v p r];exact r
   rcases hc with rfl|hc
   .exact Jn
   .rintro rfl;rcases he with z|z
    .exact L6 c b hc z
    .rw[hc]at z;cases z;exact hb rfl
end
structure Un(fs ex:List Addr)(H H':Hp)(h h':Heap):Prop where
 keep:∀b o,h.get? b=Y! o->H b=AC->b∉fs->b∉ex->h'.get? b=Y! o
 slot:∀b o,h.get? b=Y! o->H b=AC->b∈fs->b∉ex->∃sl,h'.get? b=Y! {o with slots:=sl}
 free:∀b o,h.get? b=Y! o->H b=AC->b∉ex->H' b=AC
 there:∀b o,h.get? b=Y! o->b∉ex->∃o',h'.get? b=Y! o'
 nK:∀b xs,H b=Y! (.tup xs)->H' b=Y! (.tup xs)
 mU:∀b o u,H b=Y! (.c5 o u)->H' b=Y! (.c5 o u)
 kI:∀b u,KU u->H b=Y! u->H' b=Y! u
section
theorem Un.any(u:Un fs ex H H1 h h1)(q:h.get? b=Y! ob)(n:H b=AC)(hx:b∉ex):∃sl,h1.get? b=Y! {ob with slots:=sl}:=by
 by_cases hb:b∈fs
 .exact u.slot b ob q n hb hx
 .exact⟨_,u.keep b ob q n hb hx⟩
theorem Un.kept(k:∀b u,h.get? b=Y! u->h'.get? b=Y! u):Un fs ex H H h h':=
 ⟨λ b ob q _ _ _=>k b ob q,λ b ob q _ _ _=>⟨_,k b ob q⟩,λ _ _ _ n _=>n,λ b ob q _=>⟨ob,k b ob q⟩,λ _ _ q=>q,λ _ _ _ q=>q,λ _ _ _ q=>q⟩
theorem Un.refl:Un fs ex H H h h:=Un.kept λ _ _ q=>q
theorem Un.laid(k:∀b u,h.get? b=Y! u->h'.get? b=Y! u)(hp:h.objs.size<=a)(hn:H a=AC):Un fs ex H (upd H a o) h h' where
 keep:=λ b u q _ _ _=>k b u q
 slot:=λ b u q _ _ _=>⟨_,k b u q⟩
 free:=λ b u q n _=>by rw[aA<|Z4<|Z6 (Y1 q) hp];exact n
 there:=λ b u q _=>⟨u,k b u q⟩
 nK:=λ b xs q=>by rw[aA<|aP q hn];exact q
 mU:=λ b u xs q=>by rw[aA<|aP q hn];exact q
 kI:=λ b u _ q=>by rw[aA<|aP q hn];exact q
theorem Un.write(mu:Po (H x))(he:e=x\/H e=Y! (.own x))(k:∀b u,b≠e->h.get? b=Y! u->h'.get? b=Y! u)(Kv:∃u,h'.get? e=Y! u):Un fs ex H (upd H x o) h h':=by
 have hx:∀b,H b=AC->b≠x:=λ b n z=>by subst z;rw[n]at mu;exact mu
 have hb:∀b,H b=AC->b≠e:=λ b n z=>by
  subst z;rcases he with r|r
  .exact hx b n r
  .rw[n]at r;cases r
 have hm:∀b u,H b=Y! u->¬Po (Y! u)->b≠x:=λ b u q nm z=>by subst z;rw[q]at mu;exact nm mu
 refine⟨λ b u q n _ _=>k b u (hb b n) q,λ b u q n _ _=>⟨_,k b u (hb b n) q⟩,λ b u q n _=>by rw[aA<|hx b n];exact n,λ b u q _=>?_,
  λ b xs q=>by rw[aA<|hm b _ q λ z=>z];exact q,λ b u xs q=>by rw[aA<|hm b _ q λ z=>z];exact q,λ b u p q=>by rw[aA<|hm b _ q λ z=>by cases u<;>first|exact p|exact z];exact q⟩
 by_cases Jn:b=e
 .subst Jn;exact Kv
 .exact⟨u,k b u Jn q⟩
end
def Hv(h:η)(H:Hp):Y' Z':=(Do h.objs.size).filter λ a=>(H a).isSome
def qy(h:η)(H:Hp):η:=PySem.W.hideAll h<|Hv h H
theorem z6(h:η)(H:Hp):(qy h H).objs.size=h.objs.size:=PySem.W.hideAll_size _ _
theorem CD(e:h.get? b=Y! o)(n:H b=AC):(qy h H).get? b=Y! o:=
 PySem.W.hideAll_get _ e λ hm=>by have q:=(A30.mp hm).2;rw[n]at q;simp at q
theorem E5(e:(qy h H).get? b=Y! o):h.get? b=Y! o/\H b=AC:=by
 have e':=PySem.W.of_hideAll _ e;refine⟨e',?_⟩;cases q:H b with
 |none=>rfl
 |some x=>have hm:b∈Hv h H:=A30.mpr ⟨A05.mpr<|Y1 e',by simp[q]⟩;have z:(qy h H).get? b=AC:=WP _ hm;rw[z]at e;cases e
def Gs(g h:η)(L:Z'):Y' (Z'×ζ):=(Do h.objs.size).filterMap λ a=>if a=L\/(g.get? a).isSome=AT then AC else(h.get? a).map λ o=>(a,o)
def rest(g h:η)(L d:Z'):Y' (Z'×ζ):=(Gs g h L).filter λ p=>decide<|p.1≠d
structure Mod(K:Ch)(mg:Str->Option Value)(base:Heap):Prop where
 AI:K.In base
 glob:base.Ns mainGlobals mg
 blt:∃mb,base.Ns builtinsNs mb/\∀x:Str,x≠ "__name__" -> mb x=bootBuiltins x
 nolimit:base.NoLimit
def cg:Y' Str:=["best_among","paper_beside"]
def gM(x:Str):Str:=x++ ".<locals>."++ "<lambda>"
def BMain(mg:Str->Y_ Z_)(base:η):Prop:=∃bm ob,mg "__builtins__"=Y! (.ref bm)/\bm≠builtinsNs/\base.get? bm=Y! ob/\ob.cls=.type "module" /\ ob.dict=Y! builtinsNs/\ob.data=.plain
def rK(K:Ch)(mg:Str->Y_ Z_)(base:η)(H:Hp):Prop:=∀x∈cg,∀c P,KM K x=Y! (c,P)->H P=Y! (.Be<|gM x)/\Yy base c P/\BMain mg base
theorem rK.up{K:Ch}(t:rK K mg base H)(u:∀b o,KU o->H b=Y! o->H' b=Y! o):rK K mg base H':=λ x hx c P e=>⟨u _ _ trivial (t x hx c P e).1,(t x hx c P e).2⟩
structure Cx where
 prog:Program
 w:World
 K:Ch
 mg:Str->Option Value
 base:Heap
 A:Around
 N:List Str
 s₀:Shared
 H₀:Hp
 env:Env
 outer:List Env
 stack:List Env
 ex:List Addr
 fn:Str->Bool
 calm:Bool
 pn:List (Addr×Obj)
 xe:Value->Shared->Prop
def pJ(l:Y' Env):Y' Z':=l.filterMap (·.frame)
abbrev Cx.fs(X:Cx):Y' Z':=pJ X.outer
def AD(sc:μ)(x:Str):Prop:=sc.names.lookup x=Y! .local\/sc.names.lookup x=Y! .cell\/sc.names.lookup x=Y! .free
def Loc(sc:μ)(x:Str):Prop:=sc.names.lookup x=Y! .local\/sc.names.lookup x=Y! .cell
def Look(env:Env)(h:η)(m:Str->Y_ Z_)(x:Str)(u:Z_):Prop:=
 (env.kindOf x=Y! .local/\m x=Y! u)\/((env.kindOf x=Y! .cell\/env.kindOf x=Y! .free)/\∃c,env.cells.lookup x=Y! c/\h.IsCell c (Y! u))
structure Cx.Ok(X:Cx):Prop where
 mod:Mod X.K X.mg X.base
 kind:X.env.scope.kind=.function
 glob:X.env.globals=mainGlobals
 blt:X.env.builtins=builtinsNs
 above:X.s₀.heap.objs.size<=X.env.locals
 inj:∀x y c,X.env.cells.lookup x=Y! c->X.env.cells.lookup y=Y! c->x=y
 has:∀x,(X.env.kindOf x=Y! .cell\/X.env.kindOf x=Y! .free)->∃c,X.env.cells.lookup x=Y! c
 Ha:∀x c,X.fn x=AT->X.env.cells.lookup x=Y! c->X.s₀.heap.objs.size<=c
 hd:X.calm=AT->X.A.handled=AC
 frames:X.A.frames=Y! X.stack
 Bo:X.stack=X.outer\/(X.stack=X.env::X.outer/\X.env.frame=Y! X.env.locals)
 Nk:∀b∈X.ex,b≠X.env.locals/\∀x c,X.env.cells.lookup x=Y! c->c≠b
 bs:∀b o,X.base.get? b=Y! o->X.s₀.heap.get? b=Y! o/\X.H₀ b=AC
 As:X.base.objs.size<=X.s₀.heap.objs.size
 sQ:∀b o,X.base.get? b=Y! o->b∉X.ex
 xA:∀b∈X.ex,b∉X.fs
 jk:X.s₀.heap.FunFrames X.base X.outer
 CM:∀b∈X.fs,X.H₀ b=AC
structure Inv(X:Cx)(π:List (Addr×Obj))(σ:List (Option V))(H:Hp)(s:Shared):Prop where
 ok:X.Ok
 os:s.os=X.s₀.os
 bare:AllBare s.gens
 base:Un X.fs X.ex X.H₀ H X.s₀.heap s.heap
 loc:∃m,s.heap.Ns X.env.locals m/\∀(i:Nat)(x:Str)(v:V),X.N[i]?=Y! x->σ[i]?=Y! (Y! v)->AD X.env.scope x->∃u,RelV v u/\Look X.env s.heap m x u
 cell:∀x c,X.env.cells.lookup x=Y! c->∃v,s.heap.IsCell c v
 free:H X.env.locals=AC
 dJ:∀x c,X.env.cells.lookup x=Y! c->H c=AC
 pin:∀p∈X.pn++π,s.heap.get? p.1=Y! p.2/\H p.1=AC/\p.1≠X.env.locals/\p.1∉X.fs/\∀v,p.2.data≠.cell v
 bI:mm X.prog X.w H s.heap
 len:σ.length=X.N.length
 tab:rK X.K X.mg X.base H
section
variable {X:Cx}
theorem Cx.Ok.QO(ok:X.Ok)(e:X.base.get? b=Y! o):b∉X.fs:=λ hb=>by have:=(ok.jk.mem hb).1;rw[e]at this;cases this
theorem Inv.bs(I:Inv X π σ H s):∀b o,X.base.get? b=Y! o->s.heap.get? b=Y! o/\H b=AC:=λ b o e=>⟨I.base.keep b o (I.ok.bs b o e).1 (I.ok.bs b o e).2 (I.ok.QO e)<|I.ok.sQ b o e,I.base.free b o (I.ok.bs b o e).1 (I.ok.bs b o e).2<|I.ok.sQ b o e⟩
theorem Inv.bk(I:Inv X π σ H s):∀b o,X.base.get? b=Y! o->s.heap.get? b=Y! o:=λ b o e=>(I.bs b o e).1
theorem Inv.mod(I:Inv X π σ H s):Mod X.K X.mg X.base:=I.ok.mod
theorem Inv.jm(I:Inv X π σ H s):X.K.In s.heap:=I.ok.mod.AI.keeps I.bk
theorem Inv.nolimit(I:Inv X π σ H s):s.heap.NoLimit:=I.ok.mod.nolimit.keeps I.bk
theorem Inv.lt(I:Inv X π σ H s):X.env.locals<s.heap.objs.size:=let ⟨_,hn,_⟩:=I.loc;hn.lt
theorem Inv.sz(I:Inv X π σ H s):X.s₀.heap.objs.size<=s.heap.objs.size:=A06 I.ok.above<|A52 I.lt
theorem Inv.Iq(I:Inv X π σ H s)(h:s.heap.objs.size<=a):a∉X.fs:=λ hb=>by obtain⟨_,o,ho,_⟩:=I.ok.jk.mem hb;exact absurd (Z6 (Y1 ho)<|A06 I.sz h)<|A51 _
theorem Inv.Dl(I:Inv X π σ H s):∀x c,X.env.cells.lookup x=Y! c->c≠X.env.locals:=λ x c e z=>by obtain⟨v,o,ho,hd⟩:=I.cell x c e;obtain⟨m,⟨o',es,ep,k9,nV,_⟩,_⟩:=I.loc;rw[z,k9]at ho;cases ho;rw[nV]at hd;cases hd
theorem Inv.jk(I:Inv X π σ H s):s.heap.FunFrames X.base X.outer:=by
 have all:∀l,(∀b∈pJ l,b∈X.fs)->X.s₀.heap.FunFrames X.base l->s.heap.FunFrames X.base l:=by
  intro l
  induction l with
  |nil=>intro _ _;trivial
  |cons env r ih=>intro hs hl;obtain⟨hk,⟨L,o,hf,hn,ho,hd⟩,hr⟩:=hl;have hL:=hs L (by unfold pJ;rw[B30,hf];exact Z7);obtain⟨sl,e⟩:=I.base.slot L o ho (I.ok.CM L hL) hL λ z=>I.ok.xA L z hL;exact⟨hk,⟨L,_,hf,hn,e,hd⟩,ih (λ b hb=>hs b (by unfold pJ;rw[B30,hf];exact Y6 _ hb)) hr⟩
 exact all _ (λ _ hb=>hb) I.ok.jk
theorem Inv.stack(I:Inv X π σ H s):s.heap.FunFrames X.base X.stack:=by
 rcases I.ok.Bo with e|⟨e,hf⟩
 .rw[e];exact I.jk
 .rw[e];obtain⟨m,hn,_⟩:=I.loc;refine .cons (by rw[I.ok.kind];decide) hf hn ?_ I.jk;exact B07<|A06 I.ok.As I.ok.above
theorem Inv.mB(I:Inv X π σ H s):∀b∈pJ X.stack,b∈X.env.locals::X.fs:=λ b hb=>by
 rcases I.ok.Bo with e|⟨e,hf⟩
 .rw[e]at hb;exact Y6 _ hb
 .rw[e]at hb;unfold pJ at hb;rw[B30,hf]at hb;exact hb
theorem Inv.oh(I:Inv X π σ H s):∀b∈pJ X.stack,H b=AC:=λ b hb=>by
 rcases Y2.mp (I.mB b hb)with e|hb
 .rw[e];exact I.free
 .obtain⟨_,o,ho,_⟩:=I.ok.jk.mem hb;exact I.base.free b o ho (I.ok.CM b hb) λ z=>I.ok.xA b z hb
theorem Inv.step{ch:Y' Z'}(I:Inv X π σ H s)
 (v?:∀b∈ch,(b∈X.ex\/X.s₀.heap.objs.size<=b)/\b≠X.env.locals/\(∀x c,X.env.cells.lookup x=Y! c->c≠b)/\∀p∈X.pn++π,p.1≠b)
 (keep:∀b o,b≠X.env.locals->b∉X.fs->b∉ch->s.heap.get? b=Y! o->H b=AC->h'.get? b=Y! o)
 (slot:∀b o,b≠X.env.locals->b∈X.fs->b∉ch->s.heap.get? b=Y! o->H b=AC->∃sl,h'.get? b=Y! {o with slots:=sl}) (free:∀b o,b∉ch->s.heap.get? b=Y! o->H b=AC->H' b=AC)
 (there:∀b o,b∉ch->s.heap.get? b=Y! o->∃o',h'.get? b=Y! o')
 (nK:∀b xs,H b=Y! (.tup xs)->H' b=Y! (.tup xs)) (mU:∀b o u,H b=Y! (.c5 o u)->H' b=Y! (.c5 o u)) (kI:∀b u,KU u->H b=Y! u->H' b=Y! u)
 (ns:∀m,s.heap.Ns X.env.locals m->h'.Ns X.env.locals m) (bI:mm X.prog X.w H' h') (hg:AllBare g') :
 Inv X π σ H' {s with heap:=h',gens:=g',drawn:=d',toks:=t'}:=by
 have L_:∀b o,X.s₀.heap.get? b=Y! o->b≠X.env.locals:=λ b o e=>Z4<|Z6 (Y1 e) I.ok.above;have B?:∀b o,X.s₀.heap.get? b=Y! o->b∉X.ex->b∉ch:=λ b o e hx hb=>by
  rcases(v? b hb).1 with z|z
  .exact hx z
  .exact absurd (Z6 (Y1 e) z)<|A51 _
 have cellK:∀x c,X.env.cells.lookup x=Y! c->∀v,s.heap.IsCell c v->h'.IsCell c v:=λ x c e v ⟨o,ho,hd⟩=>by
  have uU:=λ z=>(v? c z).2.2.1 x c e rfl;by_cases hc:c∈X.fs
  .obtain⟨sl,q⟩:=slot c o (I.Dl x c e) hc uU ho (I.dJ x c e);exact⟨_,q,hd⟩
  .exact⟨o,keep c o (I.Dl x c e) hc uU ho<|I.dJ x c e,hd⟩
 refine⟨I.ok,I.os,hg,⟨λ b o e n hb hx=>?_,λ b o e n hb hx=>?_,λ b o e n hx=>?_,λ b o e hx=>?_,λ b xs e=>nK b xs<|I.base.nK b xs e,λ b o xs e=>mU b o xs<|I.base.mU b o xs e,λ b u p e=>kI b u p<|I.base.kI b u p e⟩,?_,λ x c e=>?_,?_,λ x c e=>?_,λ p hp=>?_,bI,I.len,I.tab.up kI⟩
 .exact keep b o (L_ b o e) hb (B? b o e hx) (I.base.keep b o e n hb hx)<|I.base.free b o e n hx
 .obtain⟨sl,e1⟩:=I.base.slot b o e n hb hx;obtain⟨P9,e2⟩:=slot b _ (L_ b o e) hb (B? b o e hx) e1 (I.base.free b o e n hx);exact⟨P9,e2⟩
 .obtain⟨o',e1⟩:=I.base.there b o e hx;exact free b o' (B? b o e hx) e1<|I.base.free b o e n hx
 .obtain⟨o',e1⟩:=I.base.there b o e hx;exact there b o' (B? b o e hx) e1
 .obtain⟨m,hn,hl⟩:=I.loc;refine⟨m,ns m hn,λ i x v e1 e2 e3=>?_⟩;obtain⟨u,r,l⟩:=hl i x v e1 e2 e3;refine⟨u,r,?_⟩;rcases l with l|⟨k,c,e,z⟩
  .exact .inl l
  .exact .inr ⟨k,c,e,cellK x c e _ z⟩
 .obtain⟨v,z⟩:=I.cell x c e;exact⟨v,cellK x c e v z⟩
 .obtain⟨m,⟨o,_,_,ho,_⟩,_⟩:=I.loc;exact free _ o (λ z=>(v? _ z).2.1 rfl) ho I.free
 .obtain⟨v,o,ho,hd⟩:=I.cell x c e;exact free c o (λ z=>(v? c z).2.2.1 x c e rfl) ho<|I.dJ x c e
 .obtain⟨e,n,ne,nf,d⟩:=I.pin p hp;have uU:=λ z=>(v? p.1 z).2.2.2 p hp rfl;exact⟨keep p.1 p.2 ne nf uU e n,free p.1 p.2 uU e n,ne,nf,d⟩
theorem Inv.un(I:Inv X π σ H s)(u:Un X.fs [] H H' s.heap h')(bI:mm X.prog X.w H' h'):Inv X π σ H' {s with heap:=h',toks:=t'}:=by
 obtain⟨m,⟨o,es,ep,ho,r⟩,_⟩:=id I.loc;obtain⟨sl,hL⟩:=u.any ho I.free (by simp);exact I.step (ch:=[]) (λ _ z=>nomatch z) (λ b o _ hb _ e n=>u.keep b o e n hb (by simp)) (λ b o _ hb _ e n=>u.slot b o e n hb (by simp)) (λ b o _ e n=>u.free b o e n (by simp)) (λ b o _ e=>u.there b o e (by simp)) u.nK u.mU u.kI (λ m' hm=>by obtain⟨o',R9,R!,k9,r'⟩:=hm;rw[ho]at k9;cases k9;exact⟨_,R9,R!,hL,r'⟩) bI I.bare
theorem Inv.call(I:Inv X π σ H s)(u:Un (pJ X.stack) ch H H' s.heap h')(bI:mm X.prog X.w H' h')(hg:AllBare g')
 (v?:∀b∈ch,(b∈X.ex\/X.s₀.heap.objs.size<=b)/\b≠X.env.locals/\(∀x c,X.env.cells.lookup x=Y! c->c≠b)/\∀p∈X.pn++π,p.1≠b) :
 Inv X π σ H' {s with heap:=h',gens:=g',drawn:=d',toks:=t'}:=by
 obtain⟨m,⟨o,es,ep,ho,r⟩,_⟩:=id I.loc;obtain⟨sl,hL⟩:=u.any ho I.free λ z=>(v? _ z).2.1 rfl;exact I.step v? (λ b o hL hb hc e n=>u.keep b o e n (λ z=>(Y2.mp<|I.mB b z).elim hL hb) hc) (λ b o _ _ hc e n=>u.any e n hc) (λ b o hc e n=>u.free b o e n hc) (λ b o hc e=>u.there b o e hc) u.nK u.mU u.kI (λ m' hm=>by obtain⟨o',R9,R!,k9,r'⟩:=hm;rw[ho]at k9;cases k9;exact⟨_,R9,R!,hL,r'⟩) bI hg
theorem Inv.turned(I:Inv X π σ H s)(k:∀b o,b≠it->s.heap.get? b=Y! o->h'.get? b=Y! o)(hn:H it=AC)(hL:it≠X.env.locals)
 (h1:it∈X.ex\/X.s₀.heap.objs.size<=it) (h2:∀x c,X.env.cells.lookup x=Y! c->c≠it) (h3:∀p∈X.pn++π,p.1≠it):Inv X π σ H {s with heap:=h',toks:=t'}:=by
 have Tg:∀b u,H b=Y! u->b≠it:=λ b u e z=>by rw[z,hn]at e;cases e
 refine I.step (ch:=[it]) (λ b hb=>?_) (λ b o _ _ hc e _=>k b o (λ z=>hc (by simp[z])) e) (λ b o _ _ hc e _=>⟨_,k b o (λ z=>hc (by simp[z])) e⟩) (λ _ _ _ _ n=>n)
  (λ b o hc e=>⟨o,k b o (λ z=>hc (by simp[z])) e⟩) (λ _ _ e=>e) (λ _ _ _ e=>e) (λ _ _ _ e=>e) (λ m hm=>?_) (λ b u e=>?_) I.bare
 .have e:b=it:=by simpa using hb
  subst e;exact⟨h1,hL,h2,h3⟩
 .obtain⟨o,es,ep,ho,r⟩:=hm;exact⟨o,es,ep,k _ o (P3 hL) ho,r⟩
 .refine(I.bI b u e).j! (λ c v hc q=>k c v ?_ q) (λ _ q=>q) (λ _ _ q=>q) λ _ _ _ q=>q;rcases hc with z|z
  .rw[z];exact Tg b u e
  .exact Tg c _ z
theorem Inv.tok(I:Inv X π σ H s)(t:Nat):Inv X π σ H {s with toks:=t}:=I.un Un.refl I.bI
theorem Inv.kept(I:Inv X π σ H s)(k:∀b u,s.heap.get? b=Y! u->h'.get? b=Y! u):Inv X π σ H {s with heap:=h',toks:=t'}:=I.un (Un.kept k)<|I.bI.kept k
theorem Inv.laid(I:Inv X π σ H s)(k:∀b u,s.heap.get? b=Y! u->h'.get? b=Y! u)(hp:s.heap.objs.size<=a)(new:dP X.prog X.w (upd H a o) h' a o):
 Inv X π σ (upd H a o) {s with heap:=h',toks:=t'}:=I.un (Un.laid k hp<|I.bI.fresh hp)<|I.bI.laid k hp new
theorem Inv.write(I:Inv X π σ H s)(mu:Po (H x))(he:e=x\/H e=Y! (.own x))(k:∀b u,b≠e->s.heap.get? b=Y! u->h'.get? b=Y! u)(Kv:∃u,h'.get? e=Y! u)
 (new:dP X.prog X.w (upd H x o) h' x o):Inv X π σ (upd H x o) {s with heap:=h',toks:=t'}:=I.un (Un.write mu he k Kv)<|I.bI.write mu he k Kv new
theorem Inv.yr(I:Inv X π σ H s)(h:∀p∈i_,s.heap.get? p.1=Y! p.2/\H p.1=AC/\p.1≠X.env.locals/\p.1∉X.fs/\∀v,p.2.data≠.cell v):Inv X i_ σ H s:=
 ⟨I.ok,I.os,I.bare,I.base,I.loc,I.cell,I.free,I.dJ,λ p hp=>(A42.mp hp).elim (λ z=>I.pin p<|A70 _ z)<|h p,I.bI,I.len,I.tab⟩
theorem ph{N:Y' Str}(hN:N.Nodup){i j:Nat}(a:N[i]?=Y! x)(b:N[j]?=Y! x):i=j:=by obtain⟨h1,e1⟩:=Y3.mp a;obtain⟨h2,e2⟩:=Y3.mp b;exact(List.getElem_inj hN).mp<|e1.trans e2.symm
theorem qT (I:Inv X π σ H s) (hN:X.N.Nodup) (hi:X.N[i]?=Y! x) (hx:Loc X.env.scope x) (r:RelV v u)
 (h:∀s',Inv X π (σ.set i<|some v) H s'->(∃a,GM a s.heap s'.heap/\(a=X.env.locals\/X.env.cells.lookup x=Y! a))/\(X.env.scope.names.lookup x=Y! .local->s.toks<s'.toks)->Q () s') (hf:X.fn x=AT\/X.env.scope.names.lookup x=Y! .local:=by first|exact .inl rfl|exact .inr rfl|assumption):Db M A (storeName X.env x u) Q E s:=by
 obtain⟨m,hn,hl⟩:=id I.loc;have RI:(X.env.scope.kind==.class||(X.env.scope.kind==.module&&X.env.locals != X.env.globals))=Z!:=by rw[I.ok.kind];rfl
 have TU:i<σ.length:=by rw[I.len];exact(Y3.mp hi).1
 have Dl:=I.Dl;have tracked:∀{a}{h'},(∃o,s.heap.get? a=Y! o/\H a=AC)->GM a s.heap h'->mm X.prog X.w H h':=λ {a h'} ha hs b ob e=>by
  obtain⟨_,_,kA⟩:=ha;refine(I.bI b ob e).j! (λ c w' hc q=>(hs.2 c ?_).trans q) (λ _ q=>q) (λ _ _ q=>q) λ _ _ _ q=>q;rintro rfl;rcases hc with rfl|hc
  .rw[kA]at e;cases e
  .rw[kA]at hc;cases hc
 rcases hx with hk|hk
 .refine wpAny_storeName_local hk hn (λ h' DZ hs=>?_) RI;obtain⟨oL,_,_,TK,_⟩:=id hn;refine h _ ⟨I.ok,I.os,I.bare,⟨λ b o e n hb hx=>?_,λ b o e n hb hx=>?_,I.base.free,λ b o e hx=>?_,I.base.nK,I.base.mU,I.base.kI⟩,⟨_,DZ,λ j y v' e1 e2 e3=>?_⟩,λ y c e=>?_,I.free,I.dJ,λ p hp=>?_,tracked ⟨oL,TK,I.free⟩ hs,by simpa using I.len,I.tab⟩ ⟨⟨_,hs,.inl rfl⟩,λ _=>A38 _⟩
  .exact(hs.2 b<|Z4<|Z6 (Y1 e) I.ok.above).trans<|I.base.keep b o e n hb hx
  .obtain⟨sl,e1⟩:=I.base.slot b o e n hb hx;exact⟨sl,(hs.2 b<|Z4<|Z6 (Y1 e) I.ok.above).trans e1⟩
  .obtain⟨o',e1⟩:=I.base.there b o e hx;exact⟨o',(hs.2 b<|Z4<|Z6 (Y1 e) I.ok.above).trans e1⟩
  .by_cases hj:j=i
   .subst hj;rw[hi]at e1;cases e1;rw[A25 TU]at e2;cases e2;exact⟨u,r,.inl ⟨hk,by simp⟩⟩
   .rw[A14<|P3 hj]at e2;obtain⟨u',r',q⟩:=hl j y v' e1 e2 e3;refine⟨u',r',?_⟩;rcases q with⟨k,e⟩|⟨k,c,e,z⟩
    .refine .inl ⟨k,?_⟩;have:y≠x:=λ e=>hj<|ph hN e1<|e▸hi;simp[this,e]
    .exact .inr ⟨k,c,e,z.sameBut hs<|Dl y c e⟩
  .obtain⟨w',z⟩:=I.cell y c e;exact⟨w',z.sameBut hs<|Dl y c e⟩
  .obtain⟨e,n,ne,nf,d⟩:=I.pin p hp;exact⟨(hs.2 p.1 ne).trans e,n,ne,nf,d⟩
 .have MV:X.fn x=AT:=by
   rcases hf with z|z
   .exact z
   .rw[z]at hk;cases hk
  obtain⟨c,hc⟩:=I.ok.has x (.inl hk);obtain⟨w',z⟩:=I.cell x c hc;refine wpAny_storeName_cell I.ok.kind hk hc z λ h' v_ hs=>?_;obtain⟨oc,OS,Ri⟩:=id z;refine h {s with heap:=h'} ⟨I.ok,I.os,I.bare,⟨λ b o e n hb hx=>?_,λ b o e n hb hx=>?_,I.base.free,λ b o e hx=>?_,I.base.nK,I.base.mU,I.base.kI⟩,⟨m,hn.sameBut hs<|P3<|Dl x c hc,λ j y v' e1 e2 e3=>?_⟩,λ y c' e=>?_,I.free,I.dJ,λ p hp=>?_,tracked ⟨oc,OS,I.dJ x c hc⟩ hs,by simpa using I.len,I.tab⟩ ⟨⟨c,hs,.inr hc⟩,λ z=>absurd (hk.symm.trans z) (by decide)⟩
  .exact(hs.2 b<|Z4<|Z6 (Y1 e)<|I.ok.Ha x c MV hc).trans<|I.base.keep b o e n hb hx
  .obtain⟨sl,e1⟩:=I.base.slot b o e n hb hx;exact⟨sl,(hs.2 b<|Z4<|Z6 (Y1 e)<|I.ok.Ha x c MV hc).trans e1⟩
  .obtain⟨o',e1⟩:=I.base.there b o e hx;exact⟨o',(hs.2 b<|Z4<|Z6 (Y1 e)<|I.ok.Ha x c MV hc).trans e1⟩
  .by_cases hj:j=i
   .subst hj;rw[hi]at e1;cases e1;rw[A25 TU]at e2;cases e2;exact⟨u,r,.inr ⟨.inl hk,c,hc,v_⟩⟩
   .rw[A14<|P3 hj]at e2;obtain⟨u',r',q⟩:=hl j y v' e1 e2 e3;refine⟨u',r',?_⟩;rcases q with q|⟨k,c',e,z'⟩
    .exact .inl q
    .refine .inr ⟨k,c',e,z'.sameBut hs ?_⟩;rintro rfl;exact hj<|ph hN e1<|I.ok.inj _ _ _ e hc▸hi
  .by_cases O0:c'=c
   .subst O0;exact⟨_,v_⟩
   .obtain⟨w2,z2⟩:=I.cell y c' e;exact⟨w2,z2.sameBut hs O0⟩
  .obtain⟨e,n,ne,nf,d⟩:=I.pin p hp;refine⟨(hs.2 p.1 ?_).trans e,n,ne,nf,d⟩;intro q;rw[q,OS]at e;have q':=Y4 e;exact d w' (by rw[<-q'];exact Ri)
theorem lN(I:Inv X π σ H s)(hN:X.N.Nodup)(hi:X.N[i]?=Y! x)(hx:Loc X.env.scope x)(r:RelV v u)
 (h:∀s',Inv X π (σ.set i<|some v) H s'->Q () s') (hf:X.fn x=AT\/X.env.scope.names.lookup x=Y! .local:=by first|exact .inl rfl|exact .inr rfl|assumption):Db M A (storeName X.env x u) Q E s:=
 qT I hN hi hx r (λ s' I' _=>h s' I') hf
theorem Inv.Dn(I:Inv X π σ H s)(ho:s'.os=s.os)(u:Un (pJ X.stack) ch H H' s.heap s'.heap)(bI:mm X.prog X.w H' s'.heap)(hg:AllBare s'.gens)
 (v?:∀b∈ch,(b∈X.ex\/X.s₀.heap.objs.size<=b)/\b≠X.env.locals/\(∀x c,X.env.cells.lookup x=Y! c->c≠b)/\∀p∈X.pn++π,p.1≠b):Inv X π σ H' s':=by
 obtain⟨h',g',d',t',o'⟩:=s';have e:=ho;subst e;exact I.call u bI hg v?
end
abbrev XK:=Z_->Y_ Z'->Hp->Prop
abbrev St:=Y'<|Y_ V
abbrev VK:=V->Hp->Prop
abbrev TE:=St->Hp->VK->Prop
abbrev TT:=St->Hp->(Bool->Hp->Prop)->Prop
abbrev TA:=St->Hp->(Y' V->Hp->Prop)->Prop
structure Ends where
 nx:St->Hp->Prop
 rt:VK
 bk:St->Hp->Prop:=λ _ _=>False
 ct:St->Hp->Prop:=λ _ _=>False
abbrev TS:=Ends->St->Hp->Prop
def EP(X:Cx)(π:Y' (Z'×ζ))(σ:St)(Q:VK)(u:Z_)(s':δ):Prop:=∃v H',Inv X π σ H' s'/\RelV v u/\Q v H'
def TP(X:Cx)(π:Y' (Z'×ζ))(σ:St)(Q:Bool->Hp->Prop)(b:Bool)(s':δ):Prop:=∃H',Inv X π σ H' s'/\Q b H'
def AP(X:Cx)(π:Y' (Z'×ζ))(σ:St)(Q:Y' V->Hp->Prop)(us:Y' Z_)(s':δ):Prop:=∃vs H',Inv X π σ H' s'/\Vals vs us/\Q vs H'
def SP(X:Cx)(π:Y' (Z'×ζ))(D:Ends)(f:Flow)(s':δ):Prop:=
 match f with
 |.next=>∃σ' H',Inv X π σ' H' s'/\D.nx σ' H'
 |.brk=>∃σ' H',Inv X π σ' H' s'/\D.bk σ' H'
 |.cont=>∃σ' H',Inv X π σ' H' s'/\D.ct σ' H'
 |.ret u=>∃v σ' H',Inv X π σ' H' s'/\RelV v u/\D.rt v H'
def PE(X:Cx)(e:γ)(t:TE):Prop:=
 ∀(π:Y' (Z'×ζ))(s:δ)(σ:St)(H:Hp)(Q:VK),Inv X π σ H s->t σ H Q->Db (model X.prog X.w) X.A (eval e X.env) (EP X π σ Q) X.xe s
def PT(X:Cx)(e:γ)(t:TT):Prop:=
 ∀(π:Y' (Z'×ζ))(s:δ)(σ:St)(H:Hp)(Q:Bool->Hp->Prop),Inv X π σ H s->t σ H Q->Db (model X.prog X.w) X.A (isTrue e X.env<|eval e X.env) (TP X π σ Q) X.xe s
def PW(X:Cx)(e:γ)(t:TT):Prop:=
 ∀(whole:Sem Z_)(π:Y' (Z'×ζ))(s:δ)(σ:St)(H:Hp)(Q:Bool->Hp->Prop),Inv X π σ H s->t σ H Q->Db (model X.prog X.w) X.A (isTrue e X.env whole) (TP X π σ Q) X.xe s
theorem PW.pt(h:PW X e t):PT X e t:=h _
def PA(X:Cx)(es:Y' γ)(t:TA):Prop:=
 ∀(pos:Pos)(π:Y' (Z'×ζ))(s:δ)(σ:St)(H:Hp)(Q:Y' V->Hp->Prop),Inv X π σ H s->t σ H Q->Db (model X.prog X.w) X.A (spliced<|backTo pos<|starEach es X.env) (AP X π σ Q) X.xe s
def PS(X:Cx)(st:ε)(t:TS):Prop:=
 ∀(π:Y' (Z'×ζ))(s:δ)(σ:St)(H:Hp)(D:Ends),Inv X π σ H s->t D σ H->Db (model X.prog X.w) X.A (exec st X.env) (SP X π D) X.xe s
def n9(X:Cx)(st:Y' ε)(t:TS):Prop:=
 ∀(π:Y' (Z'×ζ))(s:δ)(σ:St)(H:Hp)(D:Ends),Inv X π σ H s->t D σ H->Db (model X.prog X.w) X.A (execs st X.env) (SP X π D) X.xe s
theorem b8{M:Model}{A:ν}{E:Z_->δ->Prop}{s:δ}(h:Db M A t Q E s)(hQ:∀a s,Q a s->Q' a s):Db M A t Q' E s:=Z5 h hQ λ _ _ x=>x
section
def fE(i:Nat):TE:=λ σ H Q=>∃v,σ[i]?=Y! (Y! v)/\Q v H
def tC(v:V):TE:=λ _ H Q=>Q v H
theorem iL(hN:X.N[i]?=Y! x)(hv:AD X.env.scope x)(hd:(x==("__debug__"))=Z!:=by decide)(lD:(x==("__classdict__"))=Z!:=by decide):PE X (.Name x pos) (fE i):=by
 intro π s σ H Q I h;obtain⟨v,e,h⟩:=h;obtain⟨m,hn,hl⟩:=I.loc;obtain⟨u,r,l⟩:=hl i x v hN e hv;have fin:EP X π σ Q u s:=⟨v,H,I,r,h⟩
 rcases l with⟨hk,hm⟩|⟨hk,c,hc,nA⟩
 .exact wpAny_Name (wpAny_loadName_local I.ok.kind hk hn hm fin) hd
 .rcases hk with hk|hk
  .exact wpAny_Name (wpAny_loadName_cell I.ok.kind hk hc nA fin) hd
  .exact wpAny_Name (wpAny_loadName_free I.ok.kind hk hc nA fin lD) hd
theorem H!:PE X (.Constant (.int i) j pos) (tC<|.int i):=λ _ _ _ H _ I h=>wpAny_Constant_int ⟨.int i,H,I.tok _,⟨_,rfl⟩,h⟩
theorem LG:PE X (.Constant (.bool b) j pos) (tC<|.bl b):=λ _ _ _ H _ I h=>Constant_bool ⟨.bl b,H,I,rfl,h⟩
theorem o9:PE X (.Constant .none j pos) (tC .non):=λ _ _ _ H _ I h=>Constant_none ⟨.non,H,I,rfl,h⟩
theorem HY:PE X (.Constant (.str x) j pos) (tC<|.str x):=λ _ _ _ H _ I h=>Calls.Constant_str ⟨.str x,H,I.tok _,⟨_,rfl⟩,h⟩
def Gl(X:Cx)(x:Str):Prop:=X.env.kindOf x=Y! .globalImplicit
theorem gW(I:Inv X π σ H s)(hg:Gl X x)(hm:X.mg x=Y! u)(h:Q u s)
 (hd:(x==("__debug__"))=Z!:=by decide):Db (model X.prog X.w) X.A (eval (.Name x pos) X.env) Q E s:=
 B31 I.ok.kind hg (Calls.loadGlobal_global (by rw[I.ok.glob];exact I.mod.glob.keeps I.bk) hm h) hd
theorem iN(I:Inv X π σ H s)(hg:Gl X x)(hm:X.mg x=AC)(hv:bootBuiltins x=Y! u)(h:Q u s)
 (hn:x≠ "__name__":=by decide) (hd:(x==("__debug__"))=Z!:=by decide):Db (model X.prog X.w) X.A (eval (.Name x pos) X.env) Q E s:=by
 obtain⟨mb,h1,h2⟩:=I.mod.blt;exact B31 I.ok.kind hg (Calls.loadGlobal_builtin (by rw[I.ok.glob];exact I.mod.glob.keeps I.bk) hm (by rw[I.ok.blt];exact h1.keeps I.bk) ((h2 x hn).trans hv) h) hd
theorem sD(hg:Gl X x)(hm:X.mg x=Y! u)(r:RelV v u)(hd:(x==("__debug__"))=Z!:=by decide):PE X (.Name x pos) (tC v):=
 λ _ _ _ H _ I h=>gW I hg hm ⟨v,H,I,r,h⟩ hd
theorem yu(hg:Gl X x)(hm:X.mg x=AC)(hv:bootBuiltins x=Y! u)(r:RelV v u)(hn:x≠ "__name__":=by decide)(hd:(x==("__debug__"))=Z!:=by decide):PE X (.Name x pos) (tC v):=
 λ _ _ _ H _ I h=>iN I hg hm hv ⟨v,H,I,r,h⟩ hn hd
def tB(t:TE):TT:=λ σ H Q=>t σ H λ x H1=>∃c,x=.bl c/\Q c H1
theorem HQ(h:PE X e t)(he:∀whole,isTrue e X.env whole=(do let v ←whole;standAt e.pos;holding [v] (truthy v)):=by intro _;rfl):PT X e (tB t):=by intro π s σ H Q I hw;refine isTrue_plain (b8 (h π s σ H _ I hw) λ v s1 ⟨x,H1,I1,r1,q1⟩=>?_)<|he _;obtain⟨d,rfl,q⟩:=q1;cases r1;exact A39 ⟨H1,I1,q⟩
variable {rest:Y' γ}
def r!(t u:TT):TT:=λ σ H Q=>t σ H λ c H1=>if c=AT then u σ H1 Q else Q Z! H1
def yc(t u:TT):TT:=λ σ H Q=>t σ H λ c H1=>if c=AT then Q AT H1 else u σ H1 Q
def lM(t:TT):TT:=λ σ H Q=>t σ H λ c H1=>Q (!c) H1
theorem pw_and1(ha:PT X a tA):PW X (.BoolOp .And [a] pos) tA:=by
 intro wh π s σ H Q I h;refine isTrue_and<|b8 (ha π s σ H Q I h) λ c s1 e=>?_;cases c with
 |true=>exact isTrue_and_nil e
 |false=>exact e
theorem pw_or1(ha:PT X a tA):PW X (.BoolOp .Or [a] pos) tA:=by
 intro wh π s σ H Q I h;refine isTrue_or<|b8 (ha π s σ H Q I h) λ c s1 e=>?_;cases c with
 |false=>exact isTrue_or_nil e
 |true=>exact e
theorem pw_and(ha:PT X a tA)(hb:PW X (.BoolOp .And (b::rest) pos) PY):PW X (.BoolOp .And (a::b::rest) pos) (r! tA PY):=by
 intro wh π s σ H Q I h;refine isTrue_and<|b8 (ha π s σ H _ I h) λ c s1 ⟨H1,I1,q1⟩=>?_;cases c with
 |true=>exact hb wh π s1 σ H1 Q I1 q1
 |false=>exact⟨H1,I1,q1⟩
theorem pw_or(ha:PT X a tA)(hb:PW X (.BoolOp .Or (b::rest) pos) PY):PW X (.BoolOp .Or (a::b::rest) pos) (yc tA PY):=by
 intro wh π s σ H Q I h;refine isTrue_or<|b8 (ha π s σ H _ I h) λ c s1 ⟨H1,I1,q1⟩=>?_;cases c with
 |true=>exact⟨H1,I1,q1⟩
 |false=>exact hb wh π s1 σ H1 Q I1 q1
theorem HR(ha:PT X a tA):PT X (.UnaryOp .Not a pos) (lM tA):=by intro π s σ H Q I h;exact isTrue_not<|ha π s σ H (λ c H1=>Q (!c) H1) I h
def Lb(ta tb:TE):TE:=λ σ H Q=>ta σ H λ x H1=>∃c,x=.bl c/\if c=AT then tb σ H1 Q else Q (.bl Z!) H1
def PN(ta tb:TE):TE:=λ σ H Q=>ta σ H λ x H1=>∃c,x=.bl c/\if c=AT then Q (.bl AT) H1 else tb σ H1 Q
theorem HZ(h:PE X a t):PE X (.BoolOp op [a] pos) t:=λ π s σ H Q I hw=>BoolOp_one<|h π s σ H Q I hw
theorem H?(ha:PE X a ta)(hb:PE X (.BoolOp .And (b::rest) pos) tb):PE X (.BoolOp .And (a::b::rest) pos) (Lb ta tb):=by
 intro π s σ H Q I h;refine BoolOp_and<|b8 (ha π s σ H _ I h) λ v s1 ⟨x,H1,I1,r1,q1⟩=>?_;obtain⟨c,rfl,q1⟩:=q1;cases r1;refine A39 ?_;cases c with
 |true=>exact hb π s1 σ H1 Q I1 q1
 |false=>exact⟨.bl Z!,H1,I1,rfl,q1⟩
theorem LC(ha:PE X a ta)(hb:PE X (.BoolOp .Or (b::rest) pos) tb):PE X (.BoolOp .Or (a::b::rest) pos) (PN ta tb):=by
 intro π s σ H Q I h;refine BoolOp_or<|b8 (ha π s σ H _ I h) λ v s1 ⟨x,H1,I1,r1,q1⟩=>?_;obtain⟨c,rfl,q1⟩:=q1;cases r1;refine A39 ?_;cases c with
 |false=>exact hb π s1 σ H1 Q I1 q1
 |true=>exact⟨.bl AT,H1,I1,rfl,q1⟩
def U?(t:TT)(ta tb:TE):TE:=λ σ H Q=>t σ H λ c H1=>if c=AT then ta σ H1 Q else tb σ H1 Q
theorem BR(hc:PT X c tA)(ha:PE X a ta)(hb:PE X b tb):PE X (.IfExp c a b pos) (U? tA ta tb):=by
 intro π s σ H Q I h;refine wpAny_IfExp<|b8 (hc π s σ H _ I h) λ d s1 ⟨H1,I1,q1⟩=>?_;cases d with
 |true=>exact ha π s1 σ H1 Q I1 q1
 |false=>exact hb π s1 σ H1 Q I1 q1
end
def gJ (K:Ch) (H:Hp) (a:Z') (xs:Y' V):Prop:=
 Rd H a (.lst xs) \/
  ∃(o:ζ) (aU:Array Z_) (n:Nat),K.lookup a=Y! o/\o.cls=.type "list" /\ o.dict=AC/\o.data=.seq aU n/\aU.size<=sizeLine/\Vals xs aU.toList
def jW (K:Ch) (H:Hp) (a:Z') (xs:Y' V):Prop:=
 Rd H a (.tup xs) \/
  ∃(o:ζ) (aU:Array Z_) (n:Nat),K.lookup a=Y! o/\o.cls=.type "tuple" /\ (o.data=.seq aU n/\o.dict=AC/\o.slots=#[])/\aU.size<=sizeLine/\Vals xs aU.toList
def So:Z_->Y_ V
|.none=>Y! .non
|.bool b=>Y!<|.bl b
|.int i _=>Y!<|.int i
|.str x _=>Y!<|.str x
|.bytes b _=>Y!<|.KQ b
|.float b _=>Y!<|.Ky b
|.ref a=>Y!<|.ref a
|.type n=>Y!<|.ty n
|_=>AC
theorem RelV.abs(r:RelV x u):So u=Y! x:=by
 cases x with
 |non=>cases r;rfl
 |bl _=>cases r;rfl
 |int _=>obtain⟨t,rfl⟩:=r;rfl
 |str _=>obtain⟨t,rfl⟩:=r;rfl
 |KQ _=>obtain⟨t,rfl⟩:=r;rfl
 |Ky _=>obtain⟨t,rfl⟩:=r;rfl
 |ref _=>cases r;rfl
 |ty _=>cases r;rfl
theorem RelV.inj(r:RelV x u)(q:RelV y u):x=y:=Y4<|r.abs.symm.trans q.abs
theorem Vals.inj:∀{xs ys}{us},Vals xs us->Vals ys us->xs=ys
|_,_,_,.nil,.nil=>rfl
|_,_,_,.cons r t,.cons r' t'=>by rw[r.inj r',Vals.inj t t']
section
theorem gJ.of{K:Ch}(h:H a=Y! (.lst xs)):gJ K H a xs:=.inl<|.inl h
theorem jW.of{K:Ch}(h:H a=Y! (.tup xs)):jW K H a xs:=.inl<|.inl h
theorem Inv.list(I:Inv X π σ H s)(h:gJ X.K H a xs):∃aU,Vals xs aU/\PlainL s.heap a aU.toArray/\xs.length<=sizeLine:=by
 rcases h with h|⟨o,aU,n,hk,hc,hd,hs,hz,r⟩
 .obtain⟨z,aU,n,r,e⟩:=h.ok I.bI;exact⟨aU,r,⟨_,n,e,rfl,rfl,rfl⟩,z⟩
 .refine⟨_,r,⟨o,n,I.jm a o hk,hc,hd,by simpa using hs⟩,?_⟩;have e:=r.length;simp only[B32]at e;lia
theorem Inv.tuple(I:Inv X π σ H s)(h:jW X.K H a xs):∃aU,Vals xs aU/\IsTup s.heap a aU.toArray/\xs.length<=sizeLine:=by
 rcases h with h|⟨o,aU,n,hk,hc,hs,hz,r⟩
 .obtain⟨z,aU,r,p⟩:=h.ok I.bI;exact⟨aU,r,p.is,z⟩
 .refine⟨_,r,⟨o,I.jm a o hk,hc,n,by simpa using hs.1⟩,?_⟩;have e:=r.length;simp only[B32]at e;lia
theorem Inv.lT(I:Inv X π σ H s)(h:gJ X.K H a xs)(h':gJ X.K H a ys):xs=ys:=by
 obtain⟨aU,r,⟨o,n,e,_,_,d⟩,_⟩:=I.list h;obtain⟨mJ,r',⟨o',n',e',_,_,d'⟩,_⟩:=I.list h';rw[e]at e';cases e';rw[d]at d';injection d' with d1 _
 have:aU=mJ:=by simpa using Y8 Re d1
 subst this;exact r.inj r'
theorem Inv.my(I:Inv X π σ H s)(h:jW X.K H a xs)(h':jW X.K H a ys):xs=ys:=by
 obtain⟨aU,r,⟨o,e,_,n,d⟩,_⟩:=I.tuple h;obtain⟨mJ,r',⟨o',e',_,n',d'⟩,_⟩:=I.tuple h';rw[e]at e';cases e';rw[d]at d';injection d' with d1 _
 have:aU=mJ:=by simpa using Y8 Re d1
 subst this;exact r.inj r'
end
abbrev Cx.wish(X:Cx)(E:Z_->δ->Prop):Cx:={X with xe:=E}
abbrev Cx.fy(X:Cx):Cx:=X.wish λ _ _=>False
theorem Cx.Ok.wish{X:Cx}(ok:X.Ok)(E:Z_->δ->Prop):(X.wish E).Ok:=
 ⟨ok.mod,ok.kind,ok.glob,ok.blt,ok.above,ok.inj,ok.has,ok.Ha,ok.hd,ok.frames,ok.Bo,ok.Nk,ok.bs,ok.As,ok.sQ,ok.xA,ok.jk,ok.CM⟩
theorem Cx.Ok.eF{X:Cx}(ok:(X.wish E).Ok):X.Ok:=
 ⟨ok.mod,ok.kind,ok.glob,ok.blt,ok.above,ok.inj,ok.has,ok.Ha,ok.hd,ok.frames,ok.Bo,ok.Nk,ok.bs,ok.As,ok.sQ,ok.xA,ok.jk,ok.CM⟩
section
theorem Inv.wish(I:Inv X π σ H s)(E:Z_->δ->Prop):Inv (X.wish E) π σ H s:=⟨I.ok.wish E,I.os,I.bare,I.base,I.loc,I.cell,I.free,I.dJ,I.pin,I.bI,I.len,I.tab⟩
theorem Inv.eF(I:Inv (X.wish E) π σ H s):Inv X π σ H s:=⟨I.ok.eF,I.os,I.bare,I.base,I.loc,I.cell,I.free,I.dJ,I.pin,I.bI,I.len,I.tab⟩
theorem SP.eF(h:SP (X.wish E) π D f s'):SP X π D f s':=by
 cases f with
 |next=>obtain⟨σ',H',I,q⟩:=h;exact⟨σ',H',I.eF,q⟩
 |brk=>obtain⟨σ',H',I,q⟩:=h;exact⟨σ',H',I.eF,q⟩
 |cont=>obtain⟨σ',H',I,q⟩:=h;exact⟨σ',H',I.eF,q⟩
 |ret u=>obtain⟨v,σ',H',I,r,q⟩:=h;exact⟨v,σ',H',I.eF,r,q⟩
theorem PE.fy(h:PE X.fy e t):PE X e t:=λ π s σ H Q I hw=>Z5 (h π s σ H Q (I.wish _) hw) (λ _ _ ⟨v,H',I',r,q⟩=>⟨v,H',I'.eF,r,q⟩) λ _ _ z=>GE z
theorem PT.fy(h:PT X.fy e t):PT X e t:=λ π s σ H Q I hw=>Z5 (h π s σ H Q (I.wish _) hw) (λ _ _ ⟨H',I',q⟩=>⟨H',I'.eF,q⟩) λ _ _ z=>GE z
theorem n9.fy{st:Y' ε}(h:n9 X.fy st t):n9 X st t:=λ π s σ H D I hw=>Z5 (h π s σ H D (I.wish _) hw) (λ _ _ q=>q.eF) λ _ _ z=>GE z
end
section
variable {st:ε}{rest:Y' ε}
def K!:TS:=λ D σ H=>D.nx σ H
def PL(t u:TS):TS:=λ D σ H=>t {D with nx:=u D} σ H
theorem EN:n9 X [] K!:=λ _ _ σ H _ I h=>B08 ⟨σ,H,I,h⟩
theorem jz(h1:PS X st t)(h2:n9 X rest u):n9 X (st::rest) (PL t u):=by
 intro π s σ H D I h;refine wpAny_execs_cons<|b8 (h1 π s σ H {D with nx:=u D} I h) λ f s1 q=>?_;cases f with
 |next=>obtain⟨σ',H',I',q⟩:=q;exact h2 π s1 σ' H' D I' q
 |ret v=>exact q
 |brk=>exact q
 |cont=>exact q
theorem j1(h1:PS X st t):n9 X [st] t:=by
 intro π s σ H D I h;refine wpAny_execs_cons<|b8 (h1 π s σ H D I h) λ f s1 q=>?_;cases f with
 |next=>exact B08 q
 |ret v=>exact q
 |brk=>exact q
 |cont=>exact q
theorem Inv.quiet(I:Inv X π σ H s):interactive X.env=Z!:=by simp[interactive,I.ok.kind]
def K?(te:TE):TS:=λ D σ H=>te σ H λ _ H1=>D.nx σ H1
theorem oo(he:PE X e te)(hs:swapsWith e AC pos.line X.env=pure Z!:=by rfl):PS X (.Expr e pos) (K? te):=by intro π s σ H D I h;exact wpAny_Expr_any (b8 (he π s σ H _ I h) λ v s1 ⟨x,H1,I1,r1,q1⟩=>⟨σ,H1,I1,q1⟩) I.quiet hs
def PM(te:TE):TS:=λ D σ H=>te σ H D.rt
theorem wL(he:PE X e te):PS X (.Return (Y! e) pos) (PM te):=by intro π s σ H D I h;exact wpAny_Return_some<|b8 (he π s σ H _ I h) λ v s1 ⟨x,H1,I1,r1,q1⟩=>⟨x,σ,H1,I1,r1,q1⟩
def PU(c:TT)(t u:TS):TS:=λ D σ H=>c σ H λ b H1=>if b=AT then t D σ H1 else u D σ H1
theorem BM(hc:PT X c tc)(ha:n9 X a t)(hb:n9 X b u):PS X (.If c a b pos) (PU tc t u):=by
 intro π s σ H D I h;refine wpAny_If<|b8 (hc π s σ H _ I h) λ d s1 ⟨H1,I1,q1⟩=>?_;cases d with
 |true=>exact ha π s1 σ H1 D I1 q1
 |false=>exact hb π s1 σ H1 D I1 q1
end
abbrev TG:=V->St->Hp->(St->Hp->Prop)->Prop
abbrev JY:=Y' V->St->Hp->(St->Hp->Prop)->Prop
def PG (X:Cx) (target:γ) (t:TG):Prop:=
 ∀ (π:Y' (Z'×ζ)) (s:δ) (σ:St) (H:Hp) (v:V) (u:Z_) (Q:St->Hp->Prop),Inv X π σ H s->RelV v u->t v σ H Q ->
  Db (model X.prog X.w) X.A (assign target X.env u) (λ _ s'=>∃σ' H',Inv X π σ' H' s'/\Q σ' H') X.xe s
def Dx (X:Cx) (ts:Y' γ) (t:JY):Prop:=
 ∀ (π:Y' (Z'×ζ)) (s:δ) (σ:St) (H:Hp) (vs:Y' V) (us:Y' Z_) (Q:St->Hp->Prop),Inv X π σ H s->Vals vs us->t vs σ H Q ->
  Db (model X.prog X.w) X.A (assignInOrder ((assignEach ts X.env).map (·.2)) us) (λ _ s'=>∃σ' H',Inv X π σ' H' s'/\Q σ' H') X.xe s
abbrev NJ:=V->V->V->Hp->(Hp->Prop)->Prop
def NO (X:Cx) (t:NJ):Prop:=
 ∀ (π:Y' (Z'×ζ)) (s:δ) (σ:St) (H:Hp) (o i v:V) (ov iv u:Z_) (Q:Hp->Prop),Inv X π σ H s->RelV o ov->RelV i iv->RelV v u->t o i v H Q ->
  Db (model X.prog X.w) X.A (setItem ov iv u) (λ _ s'=>∃H',Inv X π σ H' s'/\Q H') X.xe s
abbrev Uu:=V->V->Hp->VK->Prop
def Xg (X:Cx) (op:Operator) (t:Uu):Prop:=
 ∀ (π:Y' (Z'×ζ)) (s:δ) (σ:St) (H:Hp) (x y:V) (v u:Z_) (Q:VK),Inv X π σ H s->RelV x v->RelV y u->t x y H Q ->
  Db (model X.prog X.w) X.A (inplaceOp op v u) (EP X π σ Q) X.xe s
section
def br(i:Nat):TG:=λ v σ H Q=>Q (σ.set i<|some v) H
theorem sC(hN:X.N.Nodup)(hi:X.N[i]?=Y! x)(hx:Loc X.env.scope x)(hf:X.fn x=AT\/X.env.scope.names.lookup x=Y! .local:=by first|exact .inl rfl|exact .inr rfl|assumption):PG X (.Name x pos) (br i):=by intro π s σ H v u Q I r h;exact wpAny_assign_Name<|lN I hN hi hx r (λ s' I'=>⟨_,H,I',h⟩) hf
def RY:JY:=λ vs σ H Q=>vs=[]/\Q σ H
def Nc(t:TG)(u:JY):JY:=λ vs σ H Q=>∃v r,vs=v::r/\t v σ H λ σ' H'=>u r σ' H' Q
theorem EW:Dx X [] RY:=by intro π s σ H vs us Q I r h;obtain⟨e,h⟩:=h;subst e;cases r;exact assignInOrder_nil ⟨σ,H,I,h⟩
theorem BP(h1:PG X e t)(h2:Dx X es u)
 (hs:(assignEach (e::es) X.env).map (·.2)=assign e X.env::(assignEach es X.env).map (·.2):=by rfl):Dx X (e::es) (Nc t u):=by
 intro π s σ H vs us Q I r h;obtain⟨v,vr,e1,h⟩:=h;subst e1;cases r with
 |cons r rr=>rw[hs];refine assignInOrder_cons<|b8 (h1 π s σ H _ _ _ I r h) λ _ s1 ⟨σ1,H1,I1,q1⟩=>?_;exact h2 π s1 σ1 H1 _ _ Q I1 rr q1
def iT(K:Ch)(n:Nat)(t:JY):TG:=λ v σ H Q=>∃a xs,v=.ref a/\jW K H a xs/\xs.length=n/\t xs σ H Q
theorem BQ(hc:X.calm=AT)(h:Dx X es t)
 (hn:(assignEach es X.env).length=n:=by rfl) (vb:(assignEach es X.env).findIdx? (·.1)=AC:=by rfl):PG X (.Tuple es k pos) (iT X.K n t):=by
 intro π s σ H v u Q I r hw;obtain⟨a,xs,e1,hq,hl,hw⟩:=hw;subst e1;cases r;obtain⟨aU,rv,ht,hz⟩:=I.tuple hq;refine assign_Tuple_tuple (I.ok.hd hc) ht (by simp[hn,<-hl,rv.length]) vb λ h' hx=>?_;have I1:=I.kept (t':=s.toks) λ b o e=>hx b o (Z4<|Y1 e) e;exact h π _ σ H xs _ Q I1 (by simpa using rv) hw
def M_(to ti:TE)(t:NJ):TG:=λ v σ H Q=>to σ H λ o H1=>ti σ H1 λ i H2=>t o i v H2 λ H3=>Q σ H3
theorem HV(ho:PE X o to)(hi:PE X i ti)(hs:NO X t)
 (ha:∀v,assign (.Subscript o i pos) X.env v=(do
  let ov ←holding [v] (eval o X.env)
  let iv ←holding [v,ov] (eval i X.env)
  standAt pos
  holding [v,ov,iv] (setItem ov iv v)
  release [v,ov,iv] []):=by intro _;rfl):PG X (.Subscript o i pos) (M_ to ti t):=by
 intro π s σ H v u Q I r h;rw[ha];refine T0<|v6<|b8 (ho π s σ H _ I h) λ ov s1 ⟨x,H1,I1,r1,q1⟩=>?_;refine T0<|v6<|b8 (hi π s1 σ H1 _ I1 q1) λ iv s2 ⟨y,H2,I2,r2,q2⟩=>?_;refine T0<|A71<|T0<|v6<|b8 (hs π s2 σ H2 x y v ov iv u _ I2 r1 r2 r q2) λ _ s3 ⟨H3,I3,q3⟩=>?_;exact wpAny_release ⟨σ,H3,I3,q3⟩
def La(te:TE)(g:TG):TS:=λ D σ H=>te σ H λ x H1=>g x σ H1 D.nx
theorem BN(he:PE X e te)(hg:PG X tg g)(hs:swapsWithSole [tg] e pos.line X.env=pure Z!:=by rfl)(hw:swappedStores [tg] e X.env=pure AC:=by rfl)
 (h1:(assignEach [tg] X.env).map (·.2)=[assign tg X.env]:=by rfl):PS X (.Assign [tg] e pos) (La te g):=by
 intro π s σ H D I h;refine wpAny_Assign_stores (b8 (he π s σ H _ I h) λ v s1 ⟨x,H1,I1,r1,q1⟩=>?_) hs hw;rw[h1];exact b8 (hg π s1 σ H1 x v _ I1 r1 q1) λ _ s2 q=>q
theorem o5(hN:X.N.Nodup)(hi:X.N[i]?=Y! x)(hx:Loc X.env.scope x)(he:PE X e te)(hs:swapsWith e (Y!<|.Name x pos') pos.line X.env=pure Z!:=by rfl)(hf:X.fn x=AT\/X.env.scope.names.lookup x=Y! .local:=by first|exact .inl rfl|exact .inr rfl|assumption):
 PS X (.Assign [.Name x pos'] e pos) (La te<|br i):=by
 intro π s σ H D I h;refine wpAny_Assign_Name (b8 (he π s σ H _ I h) λ v s1 ⟨y,H1,I1,r1,q1⟩=>?_) hs;exact lN I1 hN hi hx r1 (λ s2 I2=>⟨_,H1,I2,q1⟩) hf
def PZ(i:Nat)(te:TE)(ti:Uu):TS:=λ D σ H=>∃x,σ[i]?=Y! (Y! x)/\te σ H λ y H1=>ti x y H1 λ z H2=>D.nx (σ.set i<|some z) H2
theorem HU (hN:X.N.Nodup) (hi:X.N[i]?=Y! x) (hx:Loc X.env.scope x) (he:PE X e te) (ho:Xg X op ti) (hf:X.fn x=AT\/X.env.scope.names.lookup x=Y! .local:=by first|exact .inl rfl|exact .inr rfl|assumption) :
 PS X (.AugAssign (.Name x pos') op e pos) (PZ i te ti):=by
 intro π s σ H D I h;obtain⟨v,e1,h⟩:=h;obtain⟨m,hn,hl⟩:=I.loc;have UR:AD X.env.scope x:=by rcases hx with k|k;exact .inl k;exact .inr<|.inl k
 obtain⟨u,r,l⟩:=hl i x v hi e1 UR;refine wpAny_AugAssign_Name ?_;have go:Db (model X.prog X.w) X.A (eval e X.env) (λ w s₂=>Db (model X.prog X.w) X.A (inplaceOp op u w) (λ r s₃=>Db (model X.prog X.w) X.A (storeName X.env x r) (λ _=>SP X π D .next) X.xe s₃) X.xe s₂) X.xe s:=by refine b8 (he π s σ H _ I h) λ w s1 ⟨y,H1,I1,r1,q1⟩=>?_;refine b8 (ho π s1 σ H1 v y u w _ I1 r r1 q1) λ z s2 ⟨zv,H2,I2,r2,q2⟩=>?_;exact lN I2 hN hi hx r2 (λ s3 I3=>⟨_,H2,I3,q2⟩) hf
 rcases l with⟨hk,hm⟩|⟨hk,c,hc,nA⟩
 .exact wpAny_loadName_local I.ok.kind hk hn hm go
 .rcases hk with hk|hk
  .exact wpAny_loadName_cell I.ok.kind hk hc nA go
  .rcases hx with k|k
   .have:X.env.scope.names.lookup x=Y! .free:=hk;rw[k]at this;cases this
   .have:X.env.scope.names.lookup x=Y! .free:=hk;rw[k]at this;cases this
end
section
end
structure It where
 go:Nat->Hp->Prop
 zf:Nat->Hp->V->Hp->Prop
 stop:Nat->Hp->Prop
def m_(X:Cx)(π:Y' (Z'×ζ))(H:Hp)(b:Z'):Prop:=
 H b=AC/\b≠X.env.locals/\b∉X.fs/\(b∈X.ex\/X.s₀.heap.objs.size<=b)/\(∀x c,X.env.cells.lookup x=Y! c->c≠b)/\∀p∈X.pn++π,p.1≠b
theorem Inv.qB(I:Inv X π σ H s)(hb:s.heap.objs.size<=b)(hn:H' b=AC):m_ X π H' b:=by
 refine⟨hn,A31<|Z6 I.lt hb,I.Iq hb,.inr<|A06 I.sz hb,λ x c e z=>?_,λ p hp z=>?_⟩
 .obtain⟨v,q⟩:=I.cell x c e;exact absurd (Z6 q.lt (by rw[z];exact hb))<|A51 _
 .exact absurd (Z6 (Y1 (I.pin p hp).1) (by rw[z];exact hb))<|A51 _
structure Turn(P:Program)(w:World)(K:Ch)(tg:Expr)(J:It)(fp:List Addr)(it:Addr)(tn:Nat->Heap->Prop):Prop where
 mem:it∈fp
 obj:∀i h,tn i h->∀b∈fp,∃o,h.get? b=Y! o/\∀v,o.data≠.cell v
 keep:∀i h h',tn i h->(∀b∈fp,∀o,h.get? b=Y! o->h'.get? b=Y! o)->tn i h'
 item:∀(X:Cx),X.prog=P->X.w=w->X.K=K->X.calm=AT->∀(i:Nat)(π:List (Addr×Obj))(s:Shared)(σ:St)(H:Hp)(E:Value->Shared->Prop),Inv X π σ H s->(∀b∈fp,m_ X π H b)->tn i s.heap->J.go i H ->
  Db (model P w) X.A (pyNext<|.ref it) (λ r s1=>∃u,r=Y! u /\
   Db (model P w) X.A (letOwnedTupleGo tg (.ref it) u) (λ _ s2=>∃x H',Inv X π σ H' s2/\RelV x u/\J.zf i H x H'/\tn (i+1) s2.heap/\∀b∈fp,H' b=AC) E s1) E s
 done:∀(X:Cx),X.prog=P->X.w=w->X.K=K->X.calm=AT->∀(i:Nat)(π:List (Addr×Obj))(s:Shared)(σ:St)(H:Hp)(E:Value->Shared->Prop),Inv X π σ H s->(∀b∈fp,m_ X π H b)->tn i s.heap->J.stop i H ->
  Db (model P w) X.A (pyNext<|.ref it) (λ r s1=>r=AC/\Inv X π σ H s1) E s
 self:∀(A:Around)(i:Nat)(s:Shared)(Q:Value->Shared->Prop)(E:Value->Shared->Prop),tn i s.heap->Q (.ref it) s->Db (model P w) A (pyIter<|.ref it) Q E s
abbrev TI:=St->Hp->(It->Hp->Prop)->Prop
def Pk(X:Cx)(π:Y' (Z'×ζ))(σ:St)(tg:γ)(R:It->Hp->Prop)(OK:Z_)(s2:δ):Prop:=
 ∃(it:Z')(fp:Y' Z')(tn:Nat->η->Prop)(J:It)(H':Hp),OK=.ref it/\Inv X π σ H' s2/\Turn X.prog X.w X.K tg J fp it tn/\tn 0 s2.heap/\(∀b∈fp,m_ X π H' b)/\R J H'
def PI (X:Cx) (tg iter:γ) (wi:TI):Prop:=
 ∀ (π:Y' (Z'×ζ)) (s:δ) (σ:St) (H:Hp) (R:It->Hp->Prop),Inv X π σ H s->wi σ H R ->
  Db (model X.prog X.w) X.A (eval iter X.env) (λ v s1=>Db (model X.prog X.w) X.A (pyIter v) (Pk X π σ tg R) X.xe s1) X.xe s
theorem vd (ho:s.heap.get? it=Y! o) (hc:o.cls=.type n) (hd:o.data=.fields vs)
    (hn:["enumerate","zip","dict_itemiterator","dict_reverseitemiterator","odict_iterator","itertools.zip_longest","itertools.pairwise"].contains n=Z!) (hQ:Q () s):Db M A (letOwnedTupleGo tg (.ref it) u) Q E s:=by
  cases tg<;>first
    |exact Y0 hQ
    | (cases u<;>first
        |exact Y0 hQ
        | (refine T0<|wpAny_load ho ?_
           rw[hc,hd];show Db M A (if(["enumerate","zip","dict_itemiterator","dict_reverseitemiterator","odict_iterator","itertools.zip_longest","itertools.pairwise"].contains n&&vs[0]?==Y! _)=AT then _ else _) Q E s;rw[v0 (by intro h;rw[hn,Bool.false_and]at h;cases h)];exact Y0 hQ))
def Pp(K:Ch)(a:Z'):It:=
 ⟨λ i H=>∃xs x,gJ K H a xs/\xs[i]?=Y! x,λ i H x H'=>H'=H/\∀xs,gJ K H a xs->xs[i]?=Y! x,λ i H=>∃xs,gJ K H a xs/\xs.length<=i⟩
def UA(K:Ch)(a:Z'):It:=
 ⟨λ i H=>∃xs x,jW K H a xs/\xs[i]?=Y! x,λ i H x H'=>H'=H/\∀xs,jW K H a xs->xs[i]?=Y! x,λ i H=>∃xs,jW K H a xs/\xs.length<=i⟩
def Hf(lo:Int)(n:Nat):It:=⟨λ i _=>i<n,λ i H x H'=>H'=H/\x=.int (lo+i),λ i _=>n<=i⟩
theorem qQ{K:Ch}(a it:Z'):Turn P w K tg (Pp K a) [it] it (λ i h=>h.IsListIter it a i) where
 mem:=by simp
 obj:=λ i h st b hb=>by
  have e:b=it:=by simpa using hb
  subst e;obtain⟨o,e,c,d⟩:=st;exact⟨o,e,λ v z=>by rw[d]at z;cases z⟩
 keep:=λ i h h' st k=>st.at λ o e=>k it (by simp) o e
 item:=by intro X hP hw hK hc i π s σ H E I hf st hg;subst hP hw hK;obtain⟨xs,x,hq,hx⟩:=hg;obtain⟨aU,rv,p,hz⟩:=I.list hq;obtain⟨u,hu,ru⟩:=rv.get hx;obtain⟨f0,f1,f2,f3,f4,f5⟩:=hf it (by simp);refine wpAny_pyNext_list_item st p.isList (by simpa using hu) λ h' uC sb=>?_;have I1:=I.turned (t':=s.toks) (λ b o hb e=>(sb.2 b hb).trans e) f0 f1 f3 f4 f5;obtain⟨o,e,c,d⟩:=id uC;exact⟨u,rfl,vd e c d (by decide) ⟨x,H,I1,ru,⟨rfl,λ ys hy=>by rw[I.lT hy hq];exact hx⟩,uC,λ b hb=>(hf b hb).1⟩⟩
 done:=by intro X hP hw hK hc i π s σ H E I hf st hg;subst hP hw hK;obtain⟨xs,hq,hx⟩:=hg;obtain⟨aU,rv,p,hz⟩:=I.list hq;obtain⟨f0,f1,f2,f3,f4,f5⟩:=hf it (by simp);have hl:=rv.length;exact wpAny_pyNext_list_end (I.ok.hd hc) st p.isList (by simp;lia) λ h' eb=>⟨rfl,I.turned (λ b o hb e=>eb b o hb e) f0 f1 f3 f4 f5⟩
 self:=λ _ _ _ _ _ st h=>wpAny_pyIter_listiter st h
theorem wA{K:Ch}(a it:Z'):Turn P w K tg (UA K a) [it] it (λ i h=>h.IsTupleIter it a i) where
 mem:=by simp
 obj:=λ i h st b hb=>by
  have e:b=it:=by simpa using hb
  subst e;obtain⟨o,e,c,d⟩:=st;exact⟨o,e,λ v z=>by rw[d]at z;cases z⟩
 keep:=λ i h h' st k=>st.at λ o e=>k it (by simp) o e
 item:=by intro X hP hw hK hc i π s σ H E I hf st hg;subst hP hw hK;obtain⟨xs,x,hq,hx⟩:=hg;obtain⟨aU,rv,p,hz⟩:=I.tuple hq;obtain⟨u,hu,ru⟩:=rv.get hx;obtain⟨f0,f1,f2,f3,f4,f5⟩:=hf it (by simp);refine wpAny_pyNext_tuple_item st (p) (by simpa using hu) λ h' uC sb=>?_;have I1:=I.turned (t':=s.toks) (λ b o hb e=>(sb.2 b hb).trans e) f0 f1 f3 f4 f5;obtain⟨o,e,c,d⟩:=id uC;exact⟨u,rfl,vd e c d (by decide) ⟨x,H,I1,ru,⟨rfl,λ ys hy=>by rw[I.my hy hq];exact hx⟩,uC,λ b hb=>(hf b hb).1⟩⟩
 done:=by intro X hP hw hK hc i π s σ H E I hf st hg;subst hP hw hK;obtain⟨xs,hq,hx⟩:=hg;obtain⟨aU,rv,p,hz⟩:=I.tuple hq;obtain⟨f0,f1,f2,f3,f4,f5⟩:=hf it (by simp);have hl:=rv.length;exact wpAny_pyNext_tuple_end (I.ok.hd hc) st (p) (by simp;lia) λ h' eb=>⟨rfl,I.turned (λ b o hb e=>eb b o hb e) f0 f1 f3 f4 f5⟩
 self:=λ _ _ _ _ _ st h=>wpAny_pyIter_tupleiter st h
theorem wB{K:Ch}(it:Z')(lo:Int)(n:Nat):Turn P w K tg (Hf lo n) [it] it (λ i h=>IsRangeIter h it (lo+(i)*1) ((n)-(i)) 1) where
 mem:=by simp
 obj:=λ i h st b hb=>by
  have e:b=it:=by simpa using hb
  subst e;exact⟨_,st,λ v z=>by have z':=z;cases z'⟩
 keep:=λ i h h' st k=>k it (by simp) _ st
 item:=by intro X hP hw hK hc i π s σ H E I hf st hg;subst hP hw hK;obtain⟨f0,f1,f2,f3,f4,f5⟩:=hf it (by simp);have W:=Walks.range (prog:=X.prog) (w:=X.w) (I.ok.hd hc) it lo 1 n;refine W.item i s _ _ hg st λ v h' tk hv uC kk=>?_;obtain⟨t,rfl⟩:=hv;have I1:Inv X π σ H {s with heap:=h',toks:=tk}:=I.turned (λ b o hb e=>kk b o (by simpa using hb) e) f0 f1 f3 f4 f5;refine⟨_,rfl,vd uC rfl rfl (by decide) ⟨.int<|lo+i,H,I1,⟨t,?_⟩,⟨rfl,rfl⟩,uC,λ b hb=>(hf b hb).1⟩⟩;rw[Int.mul_one]
 done:=by intro X hP hw hK hc i π s σ H E I hf st hg;subst hP hw hK;obtain⟨f0,f1,f2,f3,f4,f5⟩:=hf it (by simp);exact wpAny_pyNext_range_end (I.ok.hd hc) st (by have:n<=i:=hg;lia) λ h' eb=>⟨rfl,I.turned (λ b o hb e=>eb b o hb e) f0 f1 f3 f4 f5⟩
 self:=λ _ _ _ _ _ st h=>wpAny_pyIter_rangeiter st h
section
def Mx(K:Ch)(tl:TE):TI:=λ σ H R=>tl σ H λ x H1=>∃a,x=.ref a/\(∃xs,gJ K H1 a xs)/\R (Pp K a) H1
theorem ET(hl:PE X l tl):PI X tg l (Mx X.K tl):=by
 intro π s σ H R I h;refine b8 (hl π s σ H _ I h) λ v s1 ⟨x,H1,I1,r1,q1⟩=>?_;obtain⟨a,e,⟨xs,hq⟩,q⟩:=q1;subst e;cases r1;obtain⟨aU,rv,p,hz⟩:=I1.list hq;refine A43 p.isList ?_;refine⟨_,[s1.heap.objs.size],_,_,H1,rfl,I1.kept λ b o e=>W1 _ e,qQ a _,⟨_,Y5 _ rfl,rfl,rfl⟩,λ b hb=>?_,q⟩;have e:b=s1.heap.objs.size:=by simpa using hb
 subst e;exact I1.qB (Z0 _)<|I1.bI.fresh<|Z0 _
def dX(ta:TA):TI:=λ σ H R=>ta σ H λ vs H1=>∃j:Int,vs=[.int j]/\-(2^62)<=j/\j<2^62/\R (Hf 0 j.toNat) H1
def u_(ta:TA):TI:=λ σ H R=>ta σ H λ vs H1=>∃i j:Int,vs=[.int i,.int j]/\(-(2^62)<=i/\i<2^62/\-(2^62)<=j/\j<2^62)/\R (Hf i (j-i).toNat) H1
def PV(wi:TI)(g:TG)(tb:TS):TS:=λ D σ H=>wi σ H λ J H1=>∃W:Nat->Nat->St->Hp->Prop,(∃m,W 0 m σ H1)/\∀i m σ H,W i m σ H ->
 (J.stop i H/\D.nx σ H)\/(J.go i H/\∃N:St->Hp->Prop,(∀σ' H',N σ' H'->∃m',m'<m/\W (i+1) m' σ' H')/\∀x H',J.zf i H x H'->g x σ H' λ σ2 H2=>tb {D with nx:=N,ct:=N,bk:=D.nx} σ2 H2)
def o6(fp:Y' Z')(h:η):Y' (Z'×ζ):=fp.filterMap λ b=>(h.get? b).map λ o=>(b,o)
theorem iM(hb:b∈fp)(e:h.get? b=Y! o):(b,o)∈o6 fp h:=B33.mpr ⟨b,hb,by rw[e];rfl⟩
theorem zJ(hp:p∈o6 fp h):p.1∈fp/\h.get? p.1=Y! p.2:=by
 obtain⟨b,hb,e⟩:=B33.mp hp;cases q:h.get? b with
 |none=>rw[q]at e;cases e
 |some o=>rw[q]at e;have e':=Y4 e;subst e';exact⟨hb,q⟩
theorem Inv.pinned(I:Inv X π σ H s)(hf:∀b∈fp,m_ X π H b)(ho:∀b∈fp,∃o,s.heap.get? b=Y! o/\∀v,o.data≠.cell v):Inv X (π++o6 fp s.heap) σ H s:=
 I.yr λ p hp=>(A42.mp hp).elim (λ z=>I.pin p<|A10 _ z) λ z=>by obtain⟨hb,e⟩:=zJ z;obtain⟨f0,f1,f2,_⟩:=hf p.1 hb;obtain⟨o,e',d⟩:=ho p.1 hb;rw[e]at e';cases e';exact⟨e,f0,f1,f2,d⟩
theorem Inv.lH(I:Inv X (π++pl) σ H s):Inv X π σ H s:=I.yr λ p hp=>I.pin p<|A10 _<|A70 _ hp
theorem HS(hp:PassesOwn (model X.prog X.w) X.A X.env X.xe)(hc:X.calm=AT)(hi:PI X tg iter wi)(hg:PG X tg g)(hb:n9 X body tb)
 (hs:∀x,foldedSetIterable iter X.env x=pure x:=by intro _;rfl):PS X (.For tg iter body [] pos) (PV wi g tb):=by
 intro π s σ H D I h;refine wpAny_For (b8 (hi π s σ H _ I h) λ v s1 h1=>b8 h1 λ OK s2 h2=>?_) hs;obtain⟨it,fp,tn,J,H2,e,I2,T,zB,f2,W,⟨m0,w0⟩,turn⟩:=h2;subst e
 -- PD stays true of Hx xk objects through Hx loop
 have wG:∀{H'},(∀b∈fp,H' b=AC)->∀b∈fp,m_ X π H' b:=λ hn b hb=>⟨hn b hb,(f2 b hb).2⟩
 refine codeAny_forLoop_any (λ n s'=>∃i σ' H',Inv X π σ' H' s'/\tn i s'.heap/\(∀b∈fp,H' b=AC)/\W i n σ' H') ?_ m0 ⟨0,σ,H2,I2,zB,λ b hb=>(f2 b hb).1,w0⟩;rintro n s3 ⟨i,σ3,H3,I3,Bp,Nh,w3⟩;rcases turn i n σ3 H3 w3 with⟨stop,qn⟩|⟨go,N,hN,step⟩
 .refine A87 hp<|b8 (T.done X rfl rfl rfl hc i π s3 σ3 H3 X.xe I3 (wG Nh) Bp stop) λ r s4 ⟨hr,I4⟩=>?_;subst hr;exact B08 ⟨σ3,H3,I4,qn⟩
 .refine A87 hp<|b8 (T.item X rfl rfl rfl hc i π s3 σ3 H3 X.xe I3 (wG Nh) Bp go) λ r s4 ⟨u,hr,h4⟩=>?_;subst hr;refine A87 hp<|b8 h4 λ _ s5 ⟨x,H5,I5,r5,y5,r_,R1⟩=>?_;have SE:=I5.pinned (wG R1)<|T.obj _ _ r_;refine A87 hp<|b8 (hg _ s5 σ3 H5 x u _ SE r5<|step x H5 y5) λ _ s6 ⟨σ6,H6,I6,q6⟩=>?_;refine A87 hp<|b8 (hb _ s6 σ6 H6 _ I6 q6) λ f s7 q7=>?_;have again:∀{σ7}{H7},Inv X (π++o6 fp s5.heap) σ7 H7 s7->N σ7 H7->∃m,m<n/\∃i σ' H',Inv X π σ' H' s7/\tn i s7.heap/\(∀b∈fp,H' b=AC)/\W i m σ' H':=λ {σ7 H7} I7 n7=>by obtain⟨m',hm,w7⟩:=hN σ7 H7 n7;refine⟨m',hm,i+1,σ7,H7,I7.lH,T.keep _ _ _ r_ λ b hb o e=>(I7.pin (b,o)<|A10 _<|A10 _<|iM hb e).1,λ b hb=>?_,w7⟩;obtain⟨o,e,d⟩:=T.obj _ _ r_ b hb;exact(I7.pin (b,o)<|A10 _<|A10 _<|iM hb e).2.1
  cases f with
  |next=>obtain⟨σ7,H7,I7,n7⟩:=q7;exact again I7 n7
  |cont=>obtain⟨σ7,H7,I7,n7⟩:=q7;exact again I7 n7
  |brk=>obtain⟨σ7,H7,I7,q7⟩:=q7;exact⟨σ7,H7,I7.lH,q7⟩
  |ret v=>obtain⟨x7,σ7,H7,I7,r7,q7⟩:=q7;exact⟨x7,σ7,H7,I7.lH,r7,q7⟩
end
abbrev R2:=V->V->Hp->VK->Prop
def iG (X:Cx) (f:Z_->Z_->Sem Z_) (r:R2):Prop:=
 ∀ (π:Y' (Z'×ζ)) (s:δ) (σ:St) (H:Hp) (x y:V) (v u:Z_) (Q:VK),Inv X π σ H s->RelV x v->RelV y u->r x y H Q ->
  Db (model X.prog X.w) X.A (f v u) (EP X π σ Q) X.xe s
def Sr (X:Cx) (f:Z_->Sem Z_) (r:V->Hp->VK->Prop):Prop:=
 ∀ (π:Y' (Z'×ζ)) (s:δ) (σ:St) (H:Hp) (x:V) (v:Z_) (Q:VK),Inv X π σ H s->RelV x v->r x H Q ->
  Db (model X.prog X.w) X.A (f v) (EP X π σ Q) X.xe s
def jX (X:Cx) (f:Z_) (r:Y' V->Hp->VK->Prop):Prop:=
 ∀ (π:Y' (Z'×ζ)) (s:δ) (σ:St) (H:Hp) (xs:Y' V) (us:Y' Z_) (Q:VK),Inv X π σ H s->Vals xs us->r xs H Q ->
  Db (model X.prog X.w) X.A (call f us) (EP X π σ Q) X.xe s
def Hz(r:R2)(ta tb:TE):TE:=λ σ H Q=>ta σ H λ x H1=>tb σ H1 λ y H2=>r x y H2 Q
def U7(r:V->Hp->VK->Prop)(ta:TE):TE:=λ σ H Q=>ta σ H λ x H1=>r x H1 Q
def rI(C:Int->Int->Prop)(g:Int->Int->V):R2:=λ x y H Q=>∃i j,x=.int i/\y=.int j/\C i j/\Q (g i j) H
def BJ(g:Int->Int->V):R2:=λ x y H Q=>∃i j,x=.int i/\y=.int j/\Q (g i j) H
def rU(g:Int->V):V->Hp->VK->Prop:=λ x H Q=>∃i,x=.int i/\Q (g i) H
section
theorem JQ(ha:PE X a ta)(hb:PE X b tb){R:V->V->Hp->Prop}(I:Inv X π σ H s)
 (h:ta σ H λ x H1=>tb σ H1 λ y H2=>R x y H2){f:Z_->Z_->Sem Z_}
 (hf:∀v u s2 x y H2,Inv X π σ H2 s2->RelV x v->RelV y u->R x y H2->Db (model X.prog X.w) X.A (f v u) Q X.xe s2) :
 Db (model X.prog X.w) X.A (eval a X.env) (λ v s₁=>Db (model X.prog X.w) X.A (eval b X.env) (λ u s₂=>Db (model X.prog X.w) X.A (f v u) Q X.xe s₂) X.xe s₁) X.xe s:=by
 refine b8 (ha π s σ H _ I h) λ v s1 ⟨x,H1,I1,r1,q1⟩=>?_;refine b8 (hb π s1 σ H1 _ I1 q1) λ u s2 ⟨y,H2,I2,r2,q2⟩=>?_;exact hf v u s2 x y H2 I2 r1 r2 q2
theorem GU(ho:iG X (binaryOp op) r)(ha:PE X a ta)(hb:PE X b tb):PE X (.BinOp a op b pos) (Hz r ta tb):=by intro π s σ H Q I h;exact wpAny_BinOp<|JQ ha hb I h λ v u s2 x y H2 I2 rx ry q=>ho π s2 σ H2 x y v u Q I2 rx ry q
theorem Lz(ho:Sr X (unaryOp op) r)(ha:PE X a ta):PE X (.UnaryOp op a pos) (U7 r ta):=by intro π s σ H Q I h;exact UnaryOp_<|b8 (ha π s σ H _ I h) λ v s1 ⟨x,H1,I1,r1,q1⟩=>ho π s1 σ H1 x v Q I1 r1 q1
theorem Oi{g:Int->Int->Int}
 (rule:∀i j t u s Q E,C i j->Q (.int (g i j) s.toks) {s with toks:=s.toks+1}->Db (model X.prog X.w) X.A (f (.int i t)<|.int j u) Q E s) :
 iG X f (rI C λ i j=>.int<|g i j):=by
 intro π s σ H x y v u Q I rx ry h;obtain⟨i,j,rfl,rfl,hc,q⟩:=h;obtain⟨t,rfl⟩:=rx;obtain⟨t',rfl⟩:=ry;exact rule i j t t' s _ _ hc ⟨.int _,H,I.tok _,⟨_,rfl⟩,q⟩
theorem Ii{g:Int->Int->Int}
 (rule:∀i j t u s Q E,Q (.int (g i j) s.toks) {s with toks:=s.toks+1}->Db (model X.prog X.w) X.A (f (.int i t)<|.int j u) Q E s) :
 iG X f (BJ λ i j=>.int<|g i j):=by
 intro π s σ H x y v u Q I rx ry h;obtain⟨i,j,rfl,rfl,q⟩:=h;obtain⟨t,rfl⟩:=rx;obtain⟨t',rfl⟩:=ry;exact rule i j t t' s _ _ ⟨.int _,H,I.tok _,⟨_,rfl⟩,q⟩
theorem E4{g:Int->Int->Bool}
 (rule:∀i j t u s Q E,Q (.bool<|g i j) s->Db (model X.prog X.w) X.A (f (.int i t)<|.int j u) Q E s) :
 iG X f (BJ λ i j=>.bl<|g i j):=by
 intro π s σ H x y v u Q I rx ry h;obtain⟨i,j,rfl,rfl,q⟩:=h;obtain⟨t,rfl⟩:=rx;obtain⟨t',rfl⟩:=ry;exact rule i j t t' s _ _ ⟨.bl _,H,I,rfl,q⟩
theorem Ih:iG X (binaryOp .Add) (BJ λ i j=>.int<|i+j):=Ii λ _ _ _ _ _ _ _ q=>add_int q
theorem Ib:iG X (binaryOp .Sub) (BJ λ i j=>.int<|i-j):=Ii λ _ _ _ _ _ _ _ q=>sub_int q
theorem Ie:iG X (binaryOp .Mod) (rI (λ _ j=>0<j) λ i j=>.int<|i % j):=Oi λ i j _ _ _ _ _ hc q=>by exact mod_int' (by lia) (by rw[Int.fmod_eq_emod_of_nonneg i (by lia)];exact q)
theorem Fx:iG X (inplaceOp .Add) (BJ λ i j=>.int<|i+j):=Ii λ _ _ _ _ _ _ _ q=>iadd_int q
theorem US{g:Int->Int}
 (rule:∀i t s Q E,Q (.int (g i) s.toks) {s with toks:=s.toks+1}->Db (model X.prog X.w) X.A (f<|.int i t) Q E s) :
 Sr X f (rU λ i=>.int<|g i):=by
 intro π s σ H x v Q I rx h;obtain⟨i,rfl,q⟩:=h;obtain⟨t,rfl⟩:=rx;exact rule i t s _ _ ⟨.int _,H,I.tok _,⟨_,rfl⟩,q⟩
theorem Hr:Sr X (unaryOp .USub) (rU λ i=>.int<|-i):=US λ _ _ _ _ _ q=>neg_int q
end
section
theorem xx(I:Inv X π σ H s)(q:Q (.bl k) H)(e:k=k'):EP X π σ Q (.bool k') s:=by subst e;exact⟨.bl k,H,I,rfl,q⟩
theorem LH:iG X (compareOp .Lt) (BJ λ i j=>.bl<|decide<|i<j):=E4 λ _ _ _ _ _ _ _ q=>lt_int q
theorem LI:iG X (compareOp .LtE) (BJ λ i j=>.bl<|decide<|i<=j):=E4 λ _ _ _ _ _ _ _ q=>le_int q
theorem LJ:iG X (compareOp .Gt) (BJ λ i j=>.bl<|decide<|j<i):=E4 λ _ _ _ _ _ _ _ q=>gt_int q
theorem LK:iG X (compareOp .GtE) (BJ λ i j=>.bl<|decide<|j<=i):=E4 λ _ _ _ _ _ _ _ q=>ge_int q
theorem BV:iG X (compareOp .Is) (λ x y H Q=>y=.non/\Q (.bl<|decide<|x=.non) H):=by
 intro π s σ H x y v u Q I rx ry h;obtain⟨rfl,q⟩:=h;cases ry;refine is_none_gen<|xx I q ?_;cases x<;>first
  |(cases rx;rfl)
  |(obtain⟨t,rfl⟩:=rx;rfl)
theorem yv:iG X (compareOp .IsNot) (λ x y H Q=>y=.non/\Q (.bl<|!decide (x=.non)) H):=by
 intro π s σ H x y v u Q I rx ry h;obtain⟨rfl,q⟩:=h;cases ry;refine isnot_none_gen<|xx I q ?_;cases x<;>first
  |(cases rx;rfl)
  |(obtain⟨t,rfl⟩:=rx;rfl)
theorem iG.or(h:iG X f r)(h':iG X f r'):iG X f (λ x y H Q=>r x y H Q\/r' x y H Q):=by
 intro π s σ H x y v u Q I rx ry q;rcases q with q|q
 .exact h π s σ H x y v u Q I rx ry q
 .exact h' π s σ H x y v u Q I rx ry q
theorem kP(b:γ)(h:op≠.In:=by decide)(h2:op≠.NotIn:=by decide):behindInMarks op b=Z!:=by
 have e1:(op==CmpOp.In)=Z!:=by cases op<;>first|rfl|exact absurd rfl h
 have e2:(op==CmpOp.NotIn)=Z!:=by cases op<;>first|rfl|exact absurd rfl h2
 cases b<;>simp[behindInMarks,e1,e2]
theorem sE(ho:iG X (compareOp op) r)(ha:PE X a ta)(hb:PE X b tb)(hm:behindInMarks op b=Z!):PE X (.Compare a [op] [b] pos) (Hz r ta tb):=by intro π s σ H Q I h;exact wpAny_Compare1 (JQ ha hb I h λ v u s2 x y H2 I2 rx ry q=>ho π s2 σ H2 x y v u Q I2 rx ry q) hm
def Bj(t:TE):TT:=λ σ H Q=>t σ H λ x H'=>∃k,x=.bl k/\Q k H'
theorem oj(ho:iG X (compareOp op) r)(ha:PE X a ta)(hb:PE X b tb)(hm:behindInMarks op b=Z!):PT X (.Compare a [op] [b] pos) (Bj<|Hz r ta tb):=by
 intro π s σ H Q I h;refine wpAny_isTrue_Compare1 (b8 (ha π s σ H _ I h) λ v s1 ⟨x,H1,I1,r1,q1⟩=>b8 (hb π s1 σ H1 _ I1 q1) λ u s2 ⟨y,H2,I2,r2,q2⟩=>b8 (ho π s2 σ H2 x y v u _ I2 r1 r2 q2) λ c s3 ⟨z,H3,I3,r3,k,e,q3⟩=>?_) hm
 subst e;cases r3;exact A39 ⟨H3,I3,q3⟩
def Bl(r r':R2)(ta tb tc:TE):TE:=λ σ H Q=>ta σ H λ x H1=>tb σ H1 λ y H2=>r x y H2 λ z H3=>∃k,z=.bl k /\
 (if k=AT then tc σ H3 λ w' H4=>r' y w' H4 Q else Q (.bl Z!) H3)
theorem BL(ho:iG X (compareOp op) r)(k9:iG X (compareOp DQ) r')(ha:PE X a ta)(hb:PE X b tb)(hc:PE X c tc)
 (hm:lastMarks [op,DQ] [b,c]=Z!:=by with_unfolding_all rfl):PT X (.Compare a [op,DQ] [b,c] pos) (Bj<|Bl r r' ta tb tc):=by
 intro π s σ H Q I h;refine isTrue_chain (b8 (ha π s σ H _ I h) λ v s1 ⟨x,H1,I1,r1,q1⟩=>test_link<|b8 (hb π s1 σ H1 _ I1 q1) λ u s2 ⟨y,H2,I2,r2,q2⟩=>b8 (ho π s2 σ H2 x y v u _ I2 r1 r2 q2) λ d s3 ⟨z,H3,I3,r3,k,e,q3⟩=>?_) hm
 subst e;cases r3;refine A39 ?_;cases k with
 |false=>obtain⟨k',e',q'⟩:=q3;cases e';exact ite_ff ⟨H3,I3,q'⟩
 |true=>refine ite_tt<|test_last<|b8 (hc π s3 σ H3 _ I3 q3) λ w' s4 ⟨z',H4,I4,r4,q4⟩=>b8 (k9 π s4 σ H4 y z' u w' _ I4 r2 r4 q4) λ d' s5 ⟨z2,H5,I5,r5,k2,e2,q5⟩=>?_;subst e2;cases r5;exact A39 ⟨H5,I5,q5⟩
theorem pq:(sizeLine)<2^63:=by rw[Y9];decide
theorem wQ:iG X (binaryOp .Add) (λ x y H Q=>∃i j,x=.str i/\y=.str j/\i.length+j.length<=sizeLine/\Q (.str<|i++j) H):=by intro π s σ H x y v u Q I rx ry h;obtain⟨i,j,rfl,rfl,hz,q⟩:=h;obtain⟨t,rfl⟩:=rx;obtain⟨t',rfl⟩:=ry;exact add_str (λ t' tk=>⟨.str _,H,I.tok _,⟨_,rfl⟩,q⟩) hz
theorem vals1(r:Vals [x] us):∃u,us=[u]/\RelV x u:=by
 cases r with
 |cons r1 r2=>cases r2;exact⟨_,rfl,r1⟩
theorem vals2(r:Vals [x,y] us):∃u w',us=[u,w']/\RelV x u/\RelV y w':=by
 cases r with
 |cons r1 r2=>
  cases r2 with
  |cons r3 r4=>cases r4;exact⟨_,_,rfl,r1,r3⟩
theorem Ao(hc:X.calm=AT):jX X (.builtin "max") (λ xs H Q=>∃i j,xs=[.int i,.int j]/\Q (.int<|if j>i then j else i) H):=by
 intro π s σ H xs us Q I r h;obtain⟨i,j,rfl,q⟩:=h;obtain⟨u,w',rfl,⟨t,rfl⟩,⟨t',rfl⟩⟩:=vals2 r;refine max_two_ints (I.ok.hd hc) λ h' tk k=>⟨_,H,I.kept k,?_,q⟩
 by_cases hj:j>i
 .rw[Z1 hj,Z1 hj];exact⟨_,rfl⟩
 .rw[v0 hj,v0 hj];exact⟨_,rfl⟩
theorem Ap:jX X (.type "int") (λ xs H Q=>(∃i,xs=[.int i]/\Q (.int i) H)\/∃k,xs=[.bl k]/\Q (.int<|if k then 1 else 0) H):=by
 intro π s σ H xs us Q I r h;rcases h with⟨i,rfl,q⟩|⟨k,rfl,q⟩
 .obtain⟨u,rfl,t,rfl⟩:=vals1 r;exact call_int_int ⟨.int i,H,I,⟨_,rfl⟩,q⟩
 .obtain⟨u,rfl,r1⟩:=vals1 r;cases r1;exact call_int_bool ⟨.int _,H,I.tok _,⟨_,rfl⟩,q⟩
def SA(K:Ch)(x:V)(H:Hp)(n:Nat):Prop:=
 match x with
 |.str y=>y.length<=sizeLine/\n=y.length
 |.KQ y=>y.size<=sizeLine/\n=y.size
 |.ref p=>(∃xs,gJ K H p xs/\n=xs.length)\/∃xs,jW K H p xs/\n=xs.length
 |_=>False
theorem Dm:jX X (.builtin "len") (λ xs H Q=>∃x n,xs=[x]/\SA X.K x H n/\Q (.int n) H):=by
 intro π s σ H xs us Q I r h;obtain⟨x,n,rfl,e,q⟩:=h;obtain⟨u,rfl,rx⟩:=vals1 r;have hl:=pq;have hs:=Y9;cases x with
 |str y=>obtain⟨t,rfl⟩:=rx;obtain⟨hy,e'⟩:y.length<=sizeLine/\n=y.length:=e;subst e';exact len_str (by lia) ⟨.int _,H,I.tok _,⟨_,rfl⟩,q⟩
 |KQ y=>obtain⟨t,rfl⟩:=rx;obtain⟨hy,e'⟩:y.size<=sizeLine/\n=y.size:=e;subst e';exact PySem.W.len_bytes (by lia) ⟨.int _,H,I.tok _,⟨_,rfl⟩,q⟩
 |ref p=>
  cases rx;have e':=e;rcases e' with⟨xs,hx,e'⟩|⟨xs,hx,e'⟩
  .subst e';obtain⟨aU,r',pl,hz⟩:=I.list hx;have ς:=r'.length;exact Calls.call_len_list pl.isList (by simp only[Z2];lia) ⟨.int _,H,I.tok _,⟨_,by simp only[Z2];rw[ς]⟩,q⟩
  .subst e';obtain⟨aU,r',pl,hz⟩:=I.tuple hx;have ς:=r'.length;exact len_tuple pl (by simp only[Z2];lia) ⟨.int _,H,I.tok _,⟨_,by simp only[Z2];rw[ς]⟩,q⟩
 |_=>exact(e).elim
end
structure Xh(h:Heap)(x dx C:Addr)(mA:Str->Option Value):Prop where
 obj:h.get? x=Y! (Yv C dx)
 ns:h.Ns1 dx mA
 ne:dx≠x
theorem zP{h:η}(n:h.Ns1 dx mA):∃od,h.get? dx=Y! od/\∀name,Yz name od=Y! (mA name):=by
 obtain⟨o,es,ep,ho,hd,hk,_,hm⟩:=n;refine⟨o,ho,λ name=>?_⟩;have e:=hm name;unfold nsFind findBy at e;rw[<-Array.find?_toList]at e;unfold Yz;rw[hd];dsimp only;split
 .rename_i y q;rw[q]at e;exact Y8 Y! e
 .rename_i q;rw[q]at e;have a:es.toList.any (·.refKey)=Z!:=by rw[List.any_eq_false];intro y hy;obtain⟨z,t,Rt⟩:=hk y (Array.mem_toList_iff.mp hy);simp[DictEntry.refKey,Rt]
  have a':¬es.toList.any (·.refKey)=AT:=by rw[a];exact A88
  rw[v0 a'];exact Y8 Y! e
section
variable {K:Ch}
end
def nP(f:Str)(v:V):Y' (Str×V)->Y' (Str×V)
|[]=>[(f,v)]
|(g,x)::r=>if g=f then(g,v)::r else(g,x)::nP f v r
theorem nz (f g:Str) (v:V):∀ fs,(nP f v fs).lookup g=if g=f then Y! v else fs.lookup g
|[]=>by
 show Gc g [(f,v)]=_;by_cases h:g=f
 .have hb:=A07.mpr h;simp only[Gc,hb,Z1 h]
 .have hb:=A60.mpr h;simp only[Gc,hb,v0 h]
|(k,x)::r=>by
 have ih:=nz f g v r;rw[show nP f v _=(if k=f then(k,v)::r else(k,x)::nP f v r)from rfl];by_cases hk:k=f
 .rw[Z1 hk];by_cases h:g=k
  .have hb:=A07.mpr h;simp only[Gc,hb,Z1<|h.trans hk]
  .have hb:=A60.mpr h;simp only[Gc,hb,v0 λ e:g=f=>h<|e.trans hk.symm]
 .rw[v0 hk];by_cases h:g=k
  .have hb:=A07.mpr h;simp only[Gc,hb,v0 λ e=>hk<|h.symm.trans e]
  .have hb:=A60.mpr h;simp only[Gc,hb];exact ih
theorem mH (f:Str) (v:V):∀ fs,f∈(nP f v fs).map (·.1)/\∀ g,g∈fs.map (·.1)->g∈(nP f v fs).map (·.1)
|[]=>⟨by simp[nP],λ g h=>by simp at h⟩
|(k,x)::r=>by
 obtain⟨i1,i2⟩:=mH f v r;rw[show nP f v _=(if k=f then(k,v)::r else(k,x)::nP f v r)from rfl];by_cases hk:k=f
 .rw[Z1 hk];subst hk;exact⟨by simp,λ g h=>by simpa using h⟩
 .rw[v0 hk];refine⟨?_,λ g h=>?_⟩
  .rw[Y7];exact Y6 _ i1
  .rw[Y7]at h ⊢;rcases Y2.mp h with e|e
   .exact Y2.mpr<|.inl e
   .exact Y6 _<|i2 g e
theorem xU.some_of(r:xU (Y! v) o):∃u,o=Y! u/\RelV v u:=by
 cases o with
 |none=>exact(r).elim
 |some u=>exact⟨u,rfl,r⟩
theorem z9(r:RelV v u):PySem.W.handedIn u=AT:=by
 cases v with
 |non=>cases (r);rfl
 |bl b=>cases (r);rfl
 |int i=>obtain⟨t,e⟩:=(r);cases e;rfl
 |str x=>obtain⟨t,e⟩:=(r);cases e;rfl
 |KQ b=>obtain⟨t,e⟩:=(r);cases e;rfl
 |Ky b=>obtain⟨t,e⟩:=(r);cases e;rfl
 |ref a=>cases (r);rfl
 |ty n=>cases (r);rfl
section
end
structure UG(K:Ch)(C:Addr):Prop where
 pg:PySem.W.plainGet K C Str.empty=AT
 hd:PySem.W.hasDictIn K C=AT
 po:PySem.W.plainOver K C=AT
 sa:Go K (.ref C) "__setattr__"=Y! (Y!<|.builtin "object.__setattr__")
structure Ya(K:Ch)(C:Addr)(f:Str)(v:V)(u:Value):Prop where
 at_:Go K (.ref C) f=Y! (Y! u)
 rel:RelV v u
 get:Yd K u "__get__"=Y! AC
 cp:PySem.W.copiedNames.contains f=Z!
structure Meth(K:Ch)(C:Addr)(m:Str)(f:Addr):Prop where
 at_:Go K (.ref C) m=Y! (Y!<|.ref f)
 fn:PySem.W.isFn K (.ref f)=AT
 kp:Ev K (.ref f)=AT
section
theorem Gr(hb:attributeBase e f env (eval e env)=eval e env)
 (h:Db (model prog w) A (eval e env) (λ o s₁=>Db (model prog w) A (getAttr o f AT) Q E s₁) E s):Db (model prog w) A (eval (.Attribute e f pos) env) Q E s:=
 Attribute_any_ h (by rw[arm_eval_Attribute,hb])
end
section
end
section
inductive p? (K:Ch) (H:Hp):V->Value->Prop where
| non:p? K H .non (.type "NoneType")
| bl (x:Bool):p? K H (.bl x) (.type "bool")
| int (i:Int):p? K H (.int i) (.type "int")
| str (x:Str):p? K H (.str x) (.type "str")
| Ky (x:UInt64):p? K H (.Ky x) (.type "float")
| lst {a:Addr}{xs:List V}(e:H a=Y! (.lst xs)):p? K H (.ref a) (.type "list")
| c5 {a:Addr}{o:Obj}{xs:List V}(e:H a=Y! (.c5 o<|.lst xs)):p? K H (.ref a) (.type "list")
| tup {a:Addr}{xs:List V}(e:H a=Y! (.tup xs)):p? K H (.ref a) (.type "tuple")
| dK {a:Addr}{dG:List (Key×V)}(e:H a=Y! (.dK dG)):p? K H (.ref a) (.type "dict")
| dT {a:Addr}{dG:List (List Key×V)}(e:H a=Y! (.dT dG)):p? K H (.ref a) (.type "dict")
| ins {a C dx:Addr}{fs:List (Str×V)}(e:H a=Y! (.ins C dx fs)) (cl:UG K C) (ha:Go K (.ref C) "__class__"=Y! (Y!<|.builtin "object.__class__"))
 (hn:Yd K (.builtin "object.__class__") "__get__"=Y! (Y!<|.builtin "getset_descriptor.__get__")) (MC:PySem.W.takesIn K (.builtin "object.__class__")=Y! AT)
 (hm:PySem.W.mroIn K C (.type "object")=Y! AT):p? K H (.ref a) (.ref C)
end
structure bK(k:Nat)(A:Around):Prop where
 hd:A.handled=AC
 dp:A.depth+3*k+5<recursionLimit
 un:A.units+16*k+200<cLine
theorem bK.mono(r:bK k A)(h:j<=k):bK j A:=⟨r.hd,by have:=r.dp;lia,by have:=r.un;lia⟩
theorem bK.deeper(r:bK (k+1) A)(env:Env):bK k (A.deeper env):=
 ⟨r.hd,by have:=r.dp;show A.depth+1+3*k+5<_;lia,by have:=r.un;show A.units+3+16*k+200<_;lia⟩
theorem bK.in1(r:bK (k+1) A):bK k A.in1:=
 ⟨r.hd,by have:=r.dp;lia,by have:=r.un;lia⟩
theorem w8{A:ν}{C:Z'}{us:Y' Z_}{kw:Y' (Str×Z_)}:(A.under<|.builtin "type.__call__" ⟨.ref C::us,kw⟩).depth=A.depth+1:=by first| rfl| simp[Around.under,Code.weight,Code.isCreation,Code.isGuard,Code.isCaller,Code.frames,Code.isFrame,guardIds]
theorem w6{A:ν}:(A.under<|.builtin "type.__call__" ⟨.ref C::us,kw⟩).units=A.units+1:=by first| rfl| simp[Around.under,Code.cUnits,Code.frames,Code.isFrame]
theorem bK.make(r:bK (k+1) A)(C:Z')(us:Y' Z_)(kw:Y' _):bK k (A.under<|.builtin "type.__call__" ⟨.ref C::us,kw⟩):=
 ⟨r.hd,by have:=r.dp;rw[w8];lia,by have:=r.un;rw[w6];lia⟩
theorem bK.depth(r:bK k A):A.depth<recursionLimit:=by have:=r.dp;lia
theorem bK.units(r:bK k A):A.units+64<cLine:=by have:=r.un;lia
def Bk:TA:=λ _ H Q=>Q [] H
def oU(ta:TE)(tr:TA):TA:=λ σ H Q=>ta σ H λ x H1=>tr σ H1 λ xs H2=>Q (x::xs) H2
section
theorem bM:PA X [] Bk:=λ _ _ _ _ H Q I h=>Calls.spliced_nil ⟨[],H,I,.nil,h⟩
theorem aS(ha:PE X e te)(hr:PA X es t)(hs:Se e es X.env:=by rfl):PA X (e::es) (oU te t):=by intro pos π s σ H Q I h;rw[hs];refine Calls.spliced_cons<|b8 (ha π s σ H _ I h) λ u s1 ⟨x,H1,I1,r1,q1⟩=>?_;exact b8 (hr pos π s1 σ H1 _ I1 q1) λ us s2 ⟨xs,H2,I2,r2,q2⟩=>⟨x::xs,H2,I2,.cons r1 r2,q2⟩
def PK(t:TA):TE:=λ σ H Q=>t σ H λ xs H1=>xs.length<=sizeLine/\∀p,H1 p=AC->Q (.ref p) (upd H1 p<|.tup xs)
def PR(t:TA):TE:=λ σ H Q=>t σ H λ xs H1=>xs.length<=sizeLine/\∀p,H1 p=AC->Q (.ref p) (upd H1 p<|.lst xs)
theorem HX(h:PA X es t):PE X (.Tuple es x1 pos) (PK t):=by intro π s σ H Q I hq;refine wpAny_Tuple_spliced<|b8 (h pos π s σ H _ I hq) λ us s1 ⟨xs,H1,I1,r,z,q⟩=>⟨by rw[<-r.length];exact z,?_⟩;have hf:=I1.bI.fresh<|Z0 _;refine⟨.ref _,_,I1.laid (λ b u e=>W1 _ e) (Z0 _) ?_,rfl,q _ hf⟩;exact⟨z,us,r,m9.new _ _⟩
theorem wN(h:PA X es t):PE X (.List es pos) (PR t):=by intro π s σ H Q I hq;refine wpAny_List_spliced<|b8 (h pos π s σ H _ I hq) λ us s1 ⟨xs,H1,I1,r,z,q⟩=>⟨by rw[<-r.length];exact z,?_⟩;have hf:=I1.bI.fresh<|Z0 _;refine⟨.ref _,_,I1.laid (λ b u e=>W1 _ e) (Z0 _) ?_,rfl,q _ hf⟩;exact⟨z,us,0,r,Y5 _ rfl⟩
end
abbrev Sp:=Y' V->Hp->VK->XK->Prop
abbrev J5:=Y' Env->Hp->δ->XK->Z_->δ->Prop
structure t5(P:Program)(w:World)(K:Ch)(mg:Str->Option Value)(base:Heap)(A:Around)(outer:List Env)(s:Shared)(H:Hp):Prop where
 frames:A.frames=Y! outer
 mod:Mod K mg base
 bs:∀b o,base.get? b=Y! o->s.heap.get? b=Y! o/\H b=AC
 As:base.objs.size<=s.heap.objs.size
 jk:s.heap.FunFrames base outer
 CM:∀b∈pJ outer,H b=AC
 bI:mm P w H s.heap
 bare:AllBare s.gens
 tab:rK K mg base H
def CE(outer:Y' Env)(P:ι)(w:θ)(H:Hp)(s:δ)(Q:VK)(u:Z_)(s':δ):Prop:=
 ∃v H',s'.os=s.os/\AllBare s'.gens/\Un (pJ outer) [] H H' s.heap s'.heap/\mm P w H' s'.heap/\RelV v u/\Q v H'
def CR(CX:J5)(outer:Y' Env)(P:ι)(w:θ)(H:Hp)(s:δ)(Q:VK)(E:XK)(r:Result)(s':δ):Prop:=
 match r with
 |.ok<|.ret u=>CE outer P w H s Q u s'
 |.ok _=>False
 |.error e=>CX outer H s E e s'
structure dI(P:Program)(w:World)(K:Ch)(mg:Str->Option Value)(base:Heap)(CX:J5)(k:Nat)(f:Addr)(fd:FuncData)(ps:List Str)(sp:Sp):Prop where
 len:∀vs H Q E,sp vs H Q E->vs.length=ps.length
 run:∀(A:Around)(outer:List Env)(s:Shared)(H:Hp)(args:Args)(us:List Value)(vs:List V)(Q:VK)(E:XK),bK k A->t5 P w K mg base A outer s H->BindsTo s fd args (ps.zip us)->Vals vs us->sp vs H Q E ->
  codeAny (model P w) A (.call (.ref f) args) (CR CX outer P w H s Q E) s
theorem t5.make{K:Ch}(e:t5 P w K mg base A outer s H)(C:Z')(us:Y' Z_)(kw:Y' _):
 t5 P w K mg base (A.under<|.builtin "type.__call__" ⟨.ref C::us,kw⟩) outer s H:=⟨by first| exact e.frames| (simpa[Around.under,Code.envs,Code.isFrame,pushEnvs]using e.frames),e.mod,e.bs,e.As,e.jk,e.CM,e.bI,e.bare,e.tab⟩
section
theorem Inv.F3(I:Inv X π σ H s):t5 X.prog X.w X.K X.mg X.base X.A X.stack s H:=
 ⟨I.ok.frames,I.ok.mod,I.bs,A06 I.ok.As I.sz,I.stack,I.oh,I.bI,I.bare,I.tab⟩
theorem Inv.after(I:Inv X π σ H s)(h:CE X.stack X.prog X.w H s Q u s'):EP X π σ Q u s':=by obtain⟨v,H',os,bare,un,bI,r,q⟩:=h;obtain⟨hh,g,d,t,Qw⟩:=s';obtain rfl:Qw=s.os:=os;exact⟨v,H',I.call un bI bare λ b z=>absurd z (by simp),r,q⟩
end
def K_(sp:Sp)(Nt:Y' V)(E:XK)(t:TA):TE:=λ σ H Q=>t σ H λ vs H1=>sp (vs++Nt) H1 Q E
def Binds(K:Ch)(fd:ξ)(ps:Y' Str)(ds:Y' Z_):Prop:=
 ∀(s:δ)(us:Y' Z_),K.In s.heap->(us++ds).length=ps.length->BindsTo s fd ⟨us,[]⟩ (ps.zip<|us++ds)
theorem Binds.all{K:Ch}(h:∀us,us.length=ps.length->bindArgs fd ⟨us,[]⟩=pure (ps.zip us)):Binds K fd ps []:=λ s us _ hl=>by rw[A53]at hl ⊢;exact .of_eq<|h us hl
def Passes(CX:J5)(X:Cx)(E:XK):Prop:=∀(π:Y' (Z'×ζ))(σ:St)(H:Hp)(s:δ)(e:Z_)(s':δ),Inv X π σ H s->CX X.stack H s E e s'->X.xe e s'
section
theorem HG(F:dI X.prog X.w X.K X.mg X.base CX k f fd ps sp)(hr:bK k X.A)(hb:Binds X.K fd ps ds)(hd:Vals Nt ds)(hx:Passes CX X E)
 (I:Inv X π σ H s) (r:Vals vs us) (h:sp (vs++Nt) H Q E):Db (model X.prog X.w) X.A (call (.ref f) us) (EP X π σ Q) X.xe s:=by
 have r2:=r.append hd;have hl:(us++ds).length=ps.length:=by rw[<-r2.length];exact F.len _ _ _ _ h
 refine A44<|A54 (F.run X.A _ s H ⟨us,[]⟩ _ _ Q E hr I.F3 (hb s us I.jm hl) r2 h) λ r s' hq=>?_;cases r with
 |error e=>exact hx π σ H s e s' I hq
 |ok fl=>
  cases fl with
  |ret u=>exact I.after hq
  |next=>exact GE hq
  |brk=>exact GE hq
  |cont=>exact GE hq
theorem yt(F:dI X.prog X.w X.K X.mg X.base CX k f fd ps sp)(hr:bK k X.A)(hg:Gl X x)(hm:X.mg x=Y! (.ref f))(hk:Ev X.K (.ref f)=AT)(hb:Binds X.K fd ps ds)(hd:Vals Nt ds)(hx:Passes CX X E)
 (ha:PA X (e::es) t) (c_:(x==("__debug__"))=Z!:=by decide) (he:Se e es X.env:=by rfl) (da:Pn pos es X.env:=by rfl) :
 PE X (.Call (.Name x p) (e::es) [] pos) (K_ sp Nt E t):=by
 intro π s σ H Q I h;refine A32<|gW I hg hm ?_ c_;refine A72 I.ok.mod.AI hk (b8 (ha pos π s σ H _ I h) λ us s1 ⟨vs,H1,I1,r,q⟩=>⟨I1.jm,?_⟩) he da;exact HG F hr hb hd hx I1 r q
structure Mk(K:Ch)(C f:Addr):Prop where
 makes:PySem.W.makesIn K C=AT
 init:Go K (.ref C) "__init__"=Y! (Y!<|.ref f)
 fn:PySem.W.isFn K (.ref f)=AT
 kp:Ev K (.ref C)=AT
end
section
structure SD(K:Ch)(fd:FuncData)(ps ks:List Str)(g:List Value->List Value->List Value)(gV:List V->List V->List V):Prop where
 to:∀(s:Shared)(us ws:List Value),K.In s.heap->(g us ws).length=ps.length->BindsTo s fd ⟨us,ks.zip ws⟩ (ps.zip<|g us ws)
 rel:∀{vs:List V}{us:List Value}{zs:List V}{ws:List Value},Vals vs us->Vals zs ws->Vals (gV vs zs) (g us ws)
end
structure a6(N P:List Str)(sc:Scope):Prop where
 kind:sc.kind=.function
 co:sc.isCoroutine=Z!
 gen:sc.isGenerator=Z!
 nd:N.Nodup
 pre:N.take P.length=P
 par:∀x∈P,sc.names.lookup x=Y! .local\/sc.names.lookup x=Y! .cell
 Ir:∀y∈sc.names,y.2≠.free
theorem rE{kindOf:Str->Y_ NameKind}:∀{binds}{m},(∀v,(x,v)∉binds)->bindL kindOf binds m x=m x
|[],_,_=>rfl
|(n,v)::r,m,h=>by
 unfold bindL;rw[rE λ w hw=>h w<|Y6 _ hw];split
 .have:x≠n:=by rintro rfl;exact h v Z7
  simp[this]
 .rfl
theorem rG{kindOf:Str->Y_ NameKind}:∀{binds}{m},(∀v,(x,v)∉binds)->bindC kindOf binds m x=m x
|[],_,_=>rfl
|(n,v)::r,m,h=>by
 unfold bindC;rw[rG λ w hw=>h w<|Y6 _ hw];split
 .rfl
 .have:x≠n:=by rintro rfl;exact h v Z7
  simp[this]
theorem rF{kindOf:Str->Y_ NameKind}{x:Str}{v:Z_}:∀{P:Y' Str}{vs}{i:Nat} {m},P.Nodup->P[i]?=Y! x->vs[i]?=Y! v->kindOf x=Y! .local ->
 bindL kindOf (P.zip vs) m x=Y! v
|[],_,_,_,_,h,_,_=>by simp at h
|_::_,[],_,_,_,_,h,_=>by simp at h
|p::P,w::vs,0,m,nd,h1,h2,hk=>by simp at h1 h2;subst h1;subst h2;show bindL kindOf ((p,w)::P.zip vs) m p=_;unfold bindL;rw[rE λ v hv=>(A45.mp nd).1 (B09 hv).1,Z1 hk];simp
|p::P,w::vs,i+1,m,nd,h1,h2,hk=>by show bindL kindOf ((p,w)::P.zip vs) m x=_;unfold bindL;exact rF (i:=i) (A45.mp nd).2 (by simpa using h1) (by simpa using h2) hk
theorem rH{kindOf:Str->Y_ NameKind}{x:Str}{v:Z_}:∀{P:Y' Str}{vs:Y' Z_}{i:Nat}{m:Str->Y_ Z_},P.Nodup->P[i]?=Y! x->vs[i]?=Y! v->kindOf x≠Y! .local ->
 bindC kindOf (P.zip vs) m x=Y! v
|[],_,_,_,_,h,_,_=>by simp at h
|_::_,[],_,_,_,_,h,_=>by simp at h
|p::P,w::vs,0,m,nd,h1,h2,hk=>by simp at h1 h2;subst h1;subst h2;show bindC kindOf ((p,w)::P.zip vs) m p=_;unfold bindC;rw[rG λ v hv=>(A45.mp nd).1 (B09 hv).1,v0 hk];simp
|p::P,w::vs,i+1,m,nd,h1,h2,hk=>by show bindC kindOf ((p,w)::P.zip vs) m x=_;unfold bindC;exact rH (i:=i) (A45.mp nd).2 (by simpa using h1) (by simpa using h2) hk
def start(N:Y' Str)(vs:Y' V):St:=vs.map Y!++Da (N.length-vs.length) AC
def ee(CX:J5)(P:ι)(w:θ)(K:Ch)(mg:Str->Y_ Z_)(base:η)(N:Y' Str)(qual:Str)(scope:μ)(f:Z')(cd:Z_)(A:ν)(outer:Y' Env)(s:δ)(H:Hp)(E:XK):Cx where
 prog:=P
 w:=w
 K:=K
 mg:=mg
 base:=base
 A:=A.deeper<|envOfC qual scope s.heap.objs.size f cd
 N:=N
 s₀:=s
 H₀:=H
 env:=envOfC qual scope s.heap.objs.size f cd
 outer:=outer
 stack:=envOfC qual scope s.heap.objs.size f cd::outer
 ex:=[]
 calm:=AT
 fn:=λ _=>AT
 pn:=[]
 xe:=λ e s'=>Db (model P w) (A.deeper<|envOfC qual scope s.heap.objs.size f cd) (leaving (envOfC qual scope s.heap.objs.size f cd) e) (λ _ J9=>CX outer H s E e J9) (λ e' J9=>CX outer H s E e' J9) s'
theorem vL{sc:μ}(h:sc.names.lookup x=Y! .cell):∃c,(cellsFrom n sc.names []).lookup x=Y! c:=by have q:=B34 _ n []<|.inl h;exact A61.mp q
theorem rg {K:FS}
 (S:a6 N ps scope) (hd:A.handled=AC) (e0:t5 P w K mg base A outer s H) (hl:vs.length=ps.length) (r:Vals vs us)
 (x:InCallC s s.heap.objs.size (bindL (envOfC qual scope s.heap.objs.size f cd).kindOf (ps.zip us) λ _=>AC) (cellsFrom (s.heap.objs.size+1) scope.names []) (bindC (envOfC qual scope s.heap.objs.size f cd).kindOf (ps.zip us) λ _=>AC) s1) :
 Inv (ee CX P w K mg base N qual scope f cd A outer s H E) [] (start N vs) H s1:=by
 have da:ps.length<=N.length:=by have:=Y8 List.length S.pre;rw[A00]at this;lia
 obtain⟨h1,tk,rfl,hk⟩:=x.done;have Iu:∀b,b∉(ee CX P w K mg base N qual scope f cd A outer s H E).ex:=λ b z=>absurd (show b∈([]:Y' Z')from z) (by simp);refine⟨⟨e0.mod,S.kind,rfl,rfl,Z0 _,λ y z c h1 h2=>?_,λ y hy=>?_,λ y c _ h=>?_,λ _=>hd,B35 e0.frames,.inr ⟨rfl,rfl⟩,λ b z=>absurd z<|Iu b,e0.bs,e0.As,λ b _ _=>Iu b,λ b z=>absurd z<|Iu b,e0.jk,e0.CM⟩,
  rfl,e0.bare,Un.kept hk,⟨_,x.toInCall.ns,λ i y v h1 h2 h3=>?_⟩,λ y c h=>⟨_,x.cell y c h⟩,e0.bI.fresh<|Z0 _,λ y c h=>?_,λ p hp=>absurd (show p∈([]:Y' (Z'×ζ))from hp) (by simp),e0.bI.kept hk,?_,e0.tab⟩
 .exact name_of_addr x.apart (A40 h1)<|A40 h2
 .have hy:=hy;rcases hy with hy|hy
  .exact vL hy
  .exact absurd rfl<|S.Ir _<|A40 hy
 .exact A52<|x.above y c<|A40 h
 .have hi:i<vs.length:=by
   unfold start at h2;by_cases hi:i<vs.length
   .exact hi
   .rw[A26 (by simpa using hi)]at h2;rw[A15]at h2;split at h2<;>cases h2
  have ha:vs[i]?=Y! v:=by
   unfold start at h2;rw[A16 (by simpa using hi),Z3]at h2;cases e:vs[i]? with
   |none=>rw[e]at h2;cases h2
   |some a=>rw[e]at h2;cases h2;rfl
  obtain⟨u,hu,rv⟩:=r.get ha;have hp:ps[i]?=Y! y:=by rw[<-S.pre,B72 (by lia)];exact h1
  have Th:ps.Nodup:=by rw[<-S.pre];exact S.nd.sublist<|List.take_sublist _ _
  refine⟨u,rv,?_⟩;rcases S.par y (A01 hp)with k|k
  .exact .inl ⟨k,rF Th hp hu k⟩
  .obtain⟨c,e⟩:=vL (n:=s.heap.objs.size+1) k;refine .inr ⟨.inl k,c,e,?_⟩;have q:=x.cell y c e;rw[rH Th hp hu (by show scope.names.lookup y≠_;rw[k];decide)]at q;exact q
 .exact e0.bI.fresh<|A52<|x.above y c<|A40 h
 .unfold start;show _=N.length;rw[A55,v4,A89];lia
theorem rp{K:Ch}{dV kV doc pm ba ct oc:Z_}
 (lk:K.lookup f=Y! ⟨oc,od,.func<|PySem.W.fnOf name qual params body scope dV kV doc pm an ba ct,qe⟩) (lD:KT K ba qual=AT) (S:a6 N ps scope)
 (len:∀vs H Q E,sp vs H Q E->vs.length=ps.length)
 (vc:∀A outer s H vs Q E,bK k (A.deeper<|envOfC qual scope s.heap.objs.size f ba)->sp vs H Q E ->
  ∃t,n9 (ee CX P w K mg base N qual scope f ba A outer s H E) body t/\t {nx:=λ _ H'=>Q .non H',rt:=Q} (start N vs) H) :
 dI P w K mg base CX (k+1) f (Ix name qual params body scope dV kV doc pm an ba ct) ps sp:=by
 refine⟨len,λ A outer s H args us vs Q E hr e0 hb r zZ=>?_⟩;have hl:=len _ _ _ _ zZ;have KX:=e0.mod.AI.keeps λ b o e=>(e0.bs b o e).1;have lim:=e0.mod.nolimit.keeps λ b o e=>(e0.bs b o e).1;have CC:∀y∈ps.zip us,scope.names.lookup y.1=Y! .local\/(scope.names.lookup y.1=Y! .cell/\((cellsFrom (s.heap.objs.size+1) scope.names []).lookup y.1).isSome=AT):=λ⟨n,v⟩ hy=>by
  rcases S.par n (B09 hy).1 with q|q
  .exact .inl q
  .exact .inr ⟨q,B34 _ _ _<|.inl q⟩
 refine codeAny_call_function hr.depth (KX _ _ lk) rfl S.co S.gen rfl (YL KX lD)<|hb _ _ _ _ ?_;refine B74 S.kind CC λ env he s1 x=>?_;subst he;refine⟨lim.keeps x.toInCall.keep,codeAny_func ?_⟩;obtain⟨t,ht,hq⟩:=vc A outer s H vs Q E (hr.deeper _) zZ;have I:Inv (ee CX P w K mg base N qual scope f ba A outer s H E) [] (start N vs) H s1:=rg S hr.hd e0 hl r x;refine Z5 (ht [] s1 (start N vs) H _ I hq) (λ fl s' hs=>?_) λ e s' hs=>hs;have fin:∀{σ'}{H'}{v}{u},Inv (ee CX P w K mg base N qual scope f ba A outer s H E) [] σ' H' s'->RelV v u->Q v H'->CE outer P w H s Q u s':=
  λ {σ' H' v u} J rv q=>⟨v,H',J.os,J.bare,J.base,J.bI,rv,q⟩
 cases fl with
 |ret u=>obtain⟨v,σ',H',J,rv,q⟩:=hs;exact fin J rv q
 |next=>obtain⟨σ',H',J,q⟩:=hs;exact fin (v:=V.non) (u:=No) J rfl q
 |brk=>obtain⟨_,_,_,q⟩:=hs;exact GE q
 |cont=>obtain⟨_,_,_,q⟩:=hs;exact GE q
section
variable {id T:String}
def N6(r:Y' V->Hp->VK->Prop)(t:TA):TE:=λ σ H Q=>t σ H λ vs H1=>r vs H1 Q
theorem fq(hc:jX X (.builtin id) r)(hg:Gl X x)(hm:X.mg x=AC)(hv:bootBuiltins x=Y! (.builtin id))(ha:PA X (e::es) t)(hn:x≠ "__name__":=by decide)(c_:(x==("__debug__"))=Z!:=by decide)
 (he:Se e es X.env:=by rfl) (da:Pn pos es X.env:=by rfl):PE X (.Call (.Name x p) (e::es) [] pos) (N6 r t):=by
 intro π s σ H Q I h;refine A32<|iN I hg hm hv ?_ hn c_;exact PyProof.Rows.callWith_builtin1 (b8 (ha pos π s σ H _ I h) λ us s1 ⟨vs,H1,I1,r1,q1⟩=>hc π s1 σ H1 vs us Q I1 r1 q1) he da
theorem j3(hc:jX X (.type T) r)(hg:Gl X x)(hm:X.mg x=AC)(hv:bootBuiltins x=Y! (.type T))(ha:PA X (e::es) t)(hn:x≠ "__name__":=by decide)(c_:(x==("__debug__"))=Z!:=by decide)
 (he:Se e es X.env:=by rfl) (da:Pn pos es X.env:=by rfl):PE X (.Call (.Name x p) (e::es) [] pos) (N6 r t):=by
 intro π s σ H Q I h;refine A32<|iN I hg hm hv ?_ hn c_;exact B10 (b8 (ha pos π s σ H _ I h) λ us s1 ⟨vs,H1,I1,r1,q1⟩=>hc π s1 σ H1 vs us Q I1 r1 q1) he da
end
end L2
namespace HT
open PySem PyProof.Rows
section
open PySem.SeqAt
open PySem.AutoSeq1 (wpAny_loadPart')
open PySem.MeetsSeq PySem.MeetsSeq2 PySem.MeetsSeq3
end
section
theorem Gi(ht:IsTup s.heap t vs.toArray)(hb:IsTup s.heap b ws.toArray)(hv:vs≠[])
 (h1:ws=[]->Q (.ref t) s) (h2:ws≠[]->Q (.ref s.heap.objs.size) {s with heap:=s.heap.push {cls:=.type "tuple",data:=.seq (vs++ws).toArray}})
 (DV:vs.length+ws.length<=sizeLine):Db (model prog w) A (binaryOp .Add (.ref t)<|.ref b) Q E s:=by
 obtain⟨⟨cls,dd,data,sl⟩,ho,hc,n,hd⟩:=id ht;obtain⟨⟨Sj,O9,data2,N!⟩,FD,yL,n2,hd2⟩:=id hb;simp only at hc hd yL hd2;subst hc hd yL hd2;have e:vs.toArray++ws.toArray=(vs++ws).toArray:=by simp
 by_cases hw:ws=[]
 .exact concat_meets ⟨_,ho,rfl⟩ ⟨_,FD,rfl⟩ B38 seq_tuple_add B40 B41 (B42 _ _)
   (tuple_addW1 t b _ _ n n2 dd O9 sl N! (by simpa using hv) (by simp[hw])) ⟨ho,FD,h1 hw⟩
 .refine concat_meets ⟨_,ho,rfl⟩ ⟨_,FD,rfl⟩ B38 seq_tuple_add B40 B41 (B42 _ _)
   (tuple_addW2 t b vs.toArray ws.toArray n n2 dd O9 sl N! (by simpa using hv) (by simpa using hw) (by rw[Z2,Z2];exact DV)) ⟨ho,FD,?_⟩
  rw[e];exact h2 hw
def cM(n d:Nat):Y_ Int->Nat
|none=>d
|some v=>if v<0 then(v+(n:Int)).toNat else min v.toNat n
theorem sk(n d:Nat)(hd:d<=n)(o:Y_ Int):cM n d o<=n:=by
 cases o with
 |none=>exact hd
 |some v=>
  show(if v<0 then(v+(n)).toNat else min _ n)<=n;by_cases hv:v<0
  .rw[Z1 hv];lia
  .rw[v0 hv];exact Nat.min_le_right _ _
theorem y7(v:Int)(n d:Nat):(if v<0 then max (v+(n)) 0 else min v (n))=((cM n d<|some v)):=by
 show(if v<0 then max _ 0 else min v (n))=(((if v<0 then(v+(n)).toNat else min _ n)))
 by_cases hv:v<0
 .simp only[Z1 hv];lia
 .simp only[v0 hv];lia
theorem xT(lo hi:Y_ Int)(n:Nat):On lo hi 1 (n)=(((cM n 0 lo):Int),((cM n n hi):Int)):=by
 have h1:¬((1)<0):=by lia
 unfold On;simp only[A33];refine Prod.ext ?_ ?_
 .cases lo with
  |none=>rfl
  |some v=>exact y7 v n 0
 .cases hi with
  |none=>rfl
  |some v=>exact y7 v n n
theorem wM(i j:Nat):IN (i) (j) 1=j-i:=by
 unfold IN;have h1:(1)>0:=by lia
 simp only[Int.ediv_one];split<;>lia
theorem oW(p:IsPart v o)(h:Q o s):Db (model prog w) A (Builtin.Slice.slicePartIndex v) Q E s:=by
 cases p with
 |none=>exact slicePart_none h
 |int i t=>exact slicePart_int h
theorem ir{lo hi:Y_ Int}{Q:Int×Int×Nat->δ->Prop}(hs:s.heap.IsSliceOf sl vl vu .none)(pl:IsPart vl lo)(pu:IsPart vu hi)
 (h:Q (((cM n 0 lo)),1,cM n n hi-cM n 0 lo) s):Db (model prog w) A (SC (.ref sl)<|pure<|n) Q E s:=by
 obtain⟨os,Je,v!,M0⟩:=id hs;unfold SC Builtin.Slice.sliceFields;refine T0<|T0<|A02 Je M0 rfl<|T0<|A02 Je M0 rfl<|T0<|A02 Je M0 rfl<|Y0 ?_;refine T0<|slicePart_none ?_;rw[v0 (by decide)];refine T0<|oW pl<|T0<|oW pu<|T0<|Y0 ?_;show Db _ _ (match On lo hi 1 (n)with|(lo,hi)=>pure (lo,(1:Int),IN lo hi 1)) _ _ s;rw[xT];show Db _ _ (pure (((cM n 0 lo):Int),(1),IN ((cM n 0 lo)) ((cM n n hi)) 1)) _ _ s;rw[wM];exact Y0 h
theorem BO(xs:Array Z_)(i k:Nat):((Do k).filterMap λ(m:Nat)=>xs[((i)+(m:Int)*1).toNat]?).toArray=((xs.toList.drop i).take k).toArray:=by
 have e:(λ(m:Nat)=>xs[((i)+(m:Int)*1).toNat]?)=λ m=>xs[i+m]?:=by
  funext m
  have:((i)+(m:Int)*1).toNat=i+m:=by lia
  rw[this]
 rw[e];have:=pick_run xs i k;rw[List.filterMap_map]at this;have e2:((λ x=>xs[x]?)∘λ x=>i+x)=λ m=>xs[i+m]?:=rfl;rw[e2]at this;rw[this]
theorem l8{lo hi:Y_ Int}(ht:IsTup s.heap t items)(hs:s.heap.IsSliceOf sl vl vu .none)(pl:IsPart vl lo)(pu:IsPart vu hi)
 (hw:¬(cM items.size 0 lo=0/\cM items.size items.size hi=items.size))
 (h:Q (.ref s.heap.objs.size) {s with heap:=s.heap.push {cls:=.type "tuple",data:=.seq ((items.toList.drop<|cM items.size 0 lo).take<|cM items.size items.size hi-cM items.size 0 lo).toArray}})
 (DV:items.size<=sizeLine):Db (model prog w) A (getItem (.ref t)<|.ref sl) Q E s:=by
 have yK:sizeOk (.seq ((items.toList.drop<|cM items.size 0 lo).take<|cM items.size items.size hi-cM items.size 0 lo).toArray):=by show((items.toList.drop<|cM items.size 0 lo).take<|cM items.size items.size hi-cM items.size 0 lo).toArray.size<=sizeLine;rw[Z2,A00,B43,B32];lia
 have hj:cM items.size items.size hi<=items.size:=sk _ _ (Z0 _) hi;obtain⟨os,Je,v!,M0⟩:=id hs;have RT:s.TypeIs (.ref sl) "slice":=⟨os,Je,v!⟩
 unfold getItem
 try with_reducible refine v6 ?_
 first|refine T0<|Y0 ?_|skip
 refine T0<|wpAny_sequenceKey ht.typeIs (by decide) ?_;refine T0 (A73 (name:=At "__getitem__") ht.typeIs A74
  <|A75 A74 ht.typeIs entry_tuple_getitem ?_<|args_tuple_getitem _ _)
 show Db _ _ (SL (.ref t)>>=_) _ _ s;refine T0<|tupleItemsOf_ ht ?_;refine T0<|wpAny_typeOf RT ?_;rw[Z1 (by decide)];refine T0<|ir hs pl pu ?_;have MK:¬((((cM items.size 0 lo:Nat):Int)==0&&(1:Int)==1&&(cM items.size items.size hi-cM items.size 0 lo)==items.size)=AT):=by intro q;rw[A17,A17]at q;have q1:((cM items.size 0 lo:Nat):Int)=0:=eq_of_beq q.1.1;have q2:cM items.size items.size hi-cM items.size 0 lo=items.size:=eq_of_beq q.2;exact hw ⟨by lia,by lia⟩
 show Db _ _ (if(((cM items.size 0 lo:Nat):Int)==0&&(1:Int)==1&&(cM items.size items.size hi-cM items.size 0 lo)==items.size)=AT then _ else _) _ _ s;rw[v0 MK,BO]
 first
  |exact T0 (m:=IR _)<|A34 (Y0 ⟨_,rfl,Y0 h⟩) yK
  |exact T0 (m:=IR _)<|A34 (T0<|Y0<|Y0 ⟨_,rfl,Y0 h⟩) yK
  |exact T0<|T0 (m:=IR _)<|A34 (Y0<|Y0 ⟨_,rfl,Y0 h⟩) yK
  |exact T0<|T0 (m:=IR _)<|A34 (Y0 ⟨_,rfl,Y0 h⟩) yK
end
end HT
namespace L2
open PySem PySem.Spec PyProof.Rows
abbrev TO:=St->Hp->(Y_ Int->Hp->Prop)->Prop
def PO (X:Cx) (e:Y_ γ) (t:TO):Prop:=
 ∀ (π:Y' (Z'×ζ)) (s:δ) (σ:St) (H:Hp) (Q:Y_ Int->Hp->Prop),Inv X π σ H s->t σ H Q ->
  Db (model X.prog X.w) X.A (evalPart e X.env) (λ u s'=>∃o H',Inv X π σ H' s'/\IsPart u o/\Q o H') X.xe s
def Eu:TO:=λ _ H Q=>Q AC H
def K'(t:TE):TO:=λ σ H Q=>t σ H λ x H1=>∃i,x=.int i/\Q (Y! i) H1
section
variable {lo hi:Y_ γ}
theorem ES:PO X AC Eu:=by intro π s σ H Q I h;rw[evalPart_none];exact Y0 ⟨AC,H,I,.none,h⟩
theorem ER(h:PE X e te):PO X (Y! e) (K' te):=by intro π s σ H Q I hw;rw[evalPart_some];refine b8 (h π s σ H _ I hw) λ u s1 ⟨x,H1,I1,r1,q1⟩=>?_;obtain⟨i,rfl,q⟩:=q1;obtain⟨t,rfl⟩:=r1;exact⟨_,H1,I1,.int i t,q⟩
def Gv (X:Cx) (r:V->Y_ Int->Y_ Int->Hp->VK->Prop):Prop:=
 ∀ (π:Y' (Z'×ζ)) (s:δ) (σ:St) (H:Hp) (x:V) (v vl vu:Z_) (lo hi:Y_ Int) (sl:Z') (Q:VK),Inv X π σ H s->RelV x v->s.heap.IsSliceOf sl vl vu .none->IsPart vl lo->IsPart vu hi->r x lo hi H Q ->
  ∃T id,typeLookup (.type T) "__getitem__"=pure (Y!<|.builtin id)/\s.TypeIs v T/\Db (model X.prog X.w) X.A (getItem v<|.ref sl) (EP X π σ Q) X.xe s
theorem Gv.or(h:Gv X r)(h':Gv X r'):Gv X (λ x lo hi H Q=>r x lo hi H Q\/r' x lo hi H Q):=by
 intro π s σ H x v vl vu lo hi sl Q I rx hs pl pu q;rcases q with q|q
 .exact h π s σ H x v vl vu lo hi sl Q I rx hs pl pu q
 .exact h' π s σ H x v vl vu lo hi sl Q I rx hs pl pu q
def U8(r:V->Y_ Int->Y_ Int->Hp->VK->Prop)(te:TE)(tl th:TO):TE:=λ σ H Q=>te σ H λ x H1=>tl σ H1 λ l H2=>th σ H2 λ u H3=>r x l u H3 Q
theorem uH(hr:Gv X r)(he:PE X e te)(hl:PO X lo tl)(hu:PO X hi th):PE X (.Subscript e (.Slice lo hi AC p2) pos) (U8 r te tl th):=by intro π s σ H Q I h;refine Subscript_<|b8 (he π s σ H _ I h) λ v s1 ⟨x,H1,I1,r1,q1⟩=>?_;refine wpAny_Slice<|b8 (hl π s1 σ H1 _ I1 q1) λ vl s2 ⟨l,H2,I2,pl,q2⟩=>b8 (hu π s2 σ H2 _ I2 q2) λ vu s3 ⟨u,H3,I3,pu,q3⟩=>?_;rw[evalPart_none];refine Y0 ?_;have I4:Inv X π σ H3 {s3 with heap:=s3.heap.push {cls:=.type "slice",data:=.fields #[vl,vu,.none]}}:=I3.kept λ b ob q=>W1 _ q;obtain⟨T,id,hT,ht,hg⟩:=hr π {s3 with heap:=s3.heap.push {cls:=.type "slice",data:=.fields #[vl,vu,.none]}} σ H3 x v vl vu l u _ Q I4 r1 (Heap.IsSliceOf.new ..) pl pu q3;exact tail_any ht hT hg (by with_unfolding_all rfl)
def qH(xs:Y' V)(lo hi:Y_ Int):Y' V:=(xs.drop<|HT.cM xs.length 0 lo).take<|HT.cM xs.length xs.length hi-HT.cM xs.length 0 lo
theorem nC(xs:Y' V)(lo hi:Y_ Int):(qH xs lo hi).length<=xs.length:=by unfold qH;rw[A00,B43];lia
def Qr(K:Ch):V->Y_ Int->Y_ Int->Hp->VK->Prop:=λ x lo hi H Q=>∃a xs,x=.ref a/\jW K H a xs /\
 ¬(HT.cM xs.length 0 lo=0/\HT.cM xs.length xs.length hi=xs.length)/\∀p,H p=AC->Q (.ref p) (upd H p<|.tup<|qH xs lo hi)
theorem HC:Gv X (Qr X.K):=by
 intro π s σ H x v vl vu lo hi sl Q I rx hs pl pu h;obtain⟨a,xs,rfl,hx,hw,q⟩:=h;cases rx;obtain⟨aU,r,ht,hz⟩:=I.tuple hx;have ς:aU.toArray.size=xs.length:=by rw[Z2];exact r.length.symm
 refine⟨"tuple",_,A74.lookup,ht.typeIs,?_⟩;refine HT.l8 ht hs pl pu (by rw[ς];exact hw) ?_ (by rw[ς];exact hz);rw[ς];refine⟨.ref _,_,I.laid (λ b ob q=>W1 _ q) (Z0 _) ?_,rfl,q _<|I.bI.fresh<|Z0 _⟩;exact⟨A06 (nC xs lo hi) hz,_,(r.drop _).take _,m9.new _ _⟩
def Lv(K:Ch):R2:=λ x y H Q=>∃a b xs ys,x=.ref a/\y=.ref b/\jW K H a xs/\jW K H b ys/\xs≠[]/\xs.length+ys.length<=sizeLine /\
 (ys=[]->Q (.ref a) H)/\(ys≠[]->∀p,H p=AC->Q (.ref p) (upd H p<|.tup<|xs++ys))
theorem Vals.oy(r:Vals xs us):us=[]↔xs=[]:=by
 cases r with
 |nil=>simp
 |cons _ _=>simp
theorem E3:iG X (binaryOp .Add) (Lv X.K):=by intro π s σ H x y v u Q I rx ry h;obtain⟨a,b,xs,ys,rfl,rfl,ha,hb,hx,hz,q1,q2⟩:=h;cases rx;cases ry;obtain⟨aU,r1,p1,_⟩:=I.tuple ha;obtain⟨gD,r2,p2,_⟩:=I.tuple hb;refine HT.Gi p1 p2 (λ z=>hx<|r1.oy.mp z) (λ z=>⟨.ref a,H,I,rfl,q1<|r2.oy.mp z⟩) (λ z=>?_) (by rw[<-r1.length,<-r2.length];exact hz);refine⟨.ref _,_,I.laid (λ b ob q=>W1 _ q) (Z0 _) ?_,rfl,q2 (λ w=>z<|r2.oy.mpr w) _<|I.bI.fresh<|Z0 _⟩;exact⟨by rw[A55];exact hz,_,r1.append r2,m9.new _ _⟩
end
def Kk(n:Nat)(i:Int):Y_ Nat:=if 0<=i then(if i<n then Y! i.toNat else AC)else if -(n:Int)<=i then Y! (i+n).toNat else AC
def JV{α:Type}(xs:Y' α)(i:Int):Y_ α:=(Kk xs.length i).bind λ j=>xs[j]?
theorem yE(h:Kk n i=Y! j):seqIndex? i n=Y! j/\j<n/\-(n)<=i/\i<n:=by
 unfold Kk at h;by_cases h0:0<=i
 .rw[Z1 h0]at h;by_cases h1:i<n
  .rw[Z1 h1]at h;have e:=Y4 h;exact⟨by rw[seqIndex_of h0 h1,e],by lia,by lia,h1⟩
  .rw[v0 h1]at h;cases h
 .rw[v0 h0]at h;by_cases h1:-(n)<=i
  .rw[Z1 h1]at h;have e:=Y4 h;exact⟨by rw[seqIndex_neg (by lia) h1,e],by lia,h1,by lia⟩
  .rw[v0 h1]at h;cases h
theorem tX(h:JV xs i=Y! v):∃j,seqIndex? i xs.length=Y! j/\xs[j]?=Y! v/\j<xs.length/\-(xs.length)<=i/\i<xs.length:=by
 unfold JV at h;cases e:Kk _ i with
 |none=>rw[e]at h;cases h
 |some j=>rw[e]at h;obtain⟨h1,h2,h3,h4⟩:=yE e;exact⟨j,h1,h,h2,h3,h4⟩
def zb(b:γ):Prop:=∀o i,subscripted b Z! o i=operate [o,i] (getItem o i)
def Gz (X:Cx) (r:R2):Prop:=
 ∀ (value slice:γ) (π:Y' (Z'×ζ)) (s:δ) (σ:St) (H:Hp) (x y:V) (v u:Z_) (Q:VK),Inv X π σ H s->RelV x v->RelV y u->r x y H Q ->
  subscripted slice Z! v u=operate [v,u] (getItem v u)->Db (model X.prog X.w) X.A (subscriptTail value slice v u) (EP X π σ Q) X.xe s
def Sz (X:Cx) (id:String) (r:V->Y' V->Hp->VK->Prop):Prop:=
 ∀ (π:Y' (Z'×ζ)) (s:δ) (σ:St) (H:Hp) (x:V) (xs:Y' V) (v:Z_) (us:Y' Z_) (Q:VK),Inv X π σ H s->RelV x v->Vals xs us->r x xs H Q ->
  Db (model X.prog X.w) X.A (call (.builtin id)<|v::us) (EP X π σ Q) X.xe s
section
theorem Gz.or(h:Gz X r)(h':Gz X r'):Gz X (λ x y H Q=>r x y H Q\/r' x y H Q):=by
 intro value slice π s σ H x y v u Q I rx ry q hs;rcases q with q|q
 .exact h value slice π s σ H x y v u Q I rx ry q hs
 .exact h' value slice π s σ H x y v u Q I rx ry q hs
theorem LD(hr:Gz X r)(ha:PE X a ta)(hb:PE X b tb)(hs:zb b):PE X (.Subscript a b pos) (Hz r ta tb):=by intro π s σ H Q I h;exact Subscript_<|JQ ha hb I h λ v u s2 x y H2 I2 rx ry q=>hr a b π s2 σ H2 x y v u Q I2 rx ry q<|hs _ _
def Ls(K:Ch):R2:=λ x y H Q=>∃p xs i v,x=.ref p/\y=.int i/\gJ K H p xs/\JV xs i=Y! v/\Q v H
def Lq(K:Ch):R2:=λ x y H Q=>∃p xs i v,x=.ref p/\y=.int i/\jW K H p xs/\JV xs i=Y! v/\Q v H
def Lr:R2:=λ x y H Q=>∃z i c,x=.str z/\y=.int i/\z.length<=sizeLine/\JV z.cps.toList i=Y! c/\Q (.str ⟨#[c]⟩) H
theorem Ft:Gz X (Ls X.K):=by
 intro value slice π s σ H x y v u Q I rx ry h hs;obtain⟨p,xs,i,z,rfl,rfl,hq,he,q⟩:=h;cases rx;obtain⟨t,rfl⟩:=ry;obtain⟨aU,r,pl,hz⟩:=I.list hq;obtain⟨j,h1,h2,h3,h4,h5⟩:=tX he;obtain⟨w,ew,Qj⟩:=r.get h2;have hl:=r.length;have hn:=pq;have fin:EP X π σ Q w s:=⟨z,H,I,Qj,q⟩
 by_cases h0:0<=i
 .have hj:i.toNat=j:=by rw[seqIndex_of h0 h5]at h1;exact Y4 h1
  exact item_listR pl.isList h0 (by lia) (by rw[hj];simpa using ew) fin hs
 .have hj:(i+(aU.toArray.size)).toNat=j:=by rw[seqIndex_neg (by lia) h4]at h1;rw[Z2,<-hl];exact Y4 h1
  exact subscriptTail_builtinR pl.isList.typeIs slot_list_getitem.lookup
   (wpAny_getItem_list_neg pl.isList (by lia) (by rw[Z2]<;>lia) (by lia) (by rw[hj];simpa using ew) ⟨rfl,fin⟩) hs
theorem IT:Gz X (Lq X.K):=by
 intro value slice π s σ H x y v u Q I rx ry h hs;obtain⟨p,xs,i,z,rfl,rfl,hq,he,q⟩:=h;cases rx;obtain⟨t,rfl⟩:=ry;obtain⟨aU,r,pl,hz⟩:=I.tuple hq;obtain⟨j,h1,h2,h3,h4,h5⟩:=tX he;obtain⟨w,ew,Qj⟩:=r.get h2;have hl:=r.length;have hn:=pq;have fin:EP X π σ Q w s:=⟨z,H,I,Qj,q⟩
 exact subscriptTail_builtinR pl.typeIs slot_tuple_getitem.lookup
  (getItem_tuple pl (by lia) (by lia) (by rw[Z2,<-hl];exact h1) (by simpa using ew) ⟨rfl,fin⟩) hs
theorem xh:Gz X Lr:=by
 intro value slice π s σ H x y v u Q I rx ry h hs;obtain⟨z,i,c,rfl,rfl,hz,he,q⟩:=h;obtain⟨t,rfl⟩:=rx;obtain⟨t',rfl⟩:=ry;obtain⟨j,h1,h2,h3,h4,h5⟩:=tX he;have hl:z.cps.toList.length=z.length:=by simp[Str.length]
 rw[hl]at h1 h4 h5;have hn:=pq;exact tail_any (typeIs_str s z t) slot_str_getitem.lookup (getItem_str (by have e1:decide (i < -(2^63))=Z!:=A37 (by lia);have e2:decide (i≥2^63)=Z!:=A37 (by lia);rw[e1,e2,Bool.or_false]) (by rw[h1];simpa using h2) ⟨.str ⟨#[c]⟩,H,I.tok _,⟨_,rfl⟩,q⟩) hs
def Vo(K:Ch):R2:=λ x y H Q=>Ls K x y H Q\/Lq K x y H Q\/Lr x y H Q
theorem IU:Gz X (Vo X.K):=Ft.or<|IT.or xh
theorem w5(aU:Y' Z_)(n j:Nat)(u:Z_):Obj.mapSeq (·.setIfInBounds j u) {cls:=.type "list",data:=.seq aU.toArray n}={cls:=.type "list",data:=.seq (aU.set j u).toArray n}:=by simp[Obj.mapSeq]
theorem Inv.lst{π:Y' _}{σ:St}{H:Hp}{s:δ}{p:Z'}{xs:Y' V}(I:Inv X π σ H s)(h:H p=Y! (.lst xs)):
 ∃aU n,Vals xs aU/\s.heap.get? p=Y! {cls:=.type "list",data:=.seq aU.toArray n}/\xs.length<=sizeLine:=by
 obtain⟨z,aU,n,r,e⟩:=I.bI p _ h;exact⟨aU,n,r,e,z⟩
theorem Inv.IG{aU mJ:Y' Z_}(I:Inv X π σ H s)(h:H p=Y! (.lst xs))
 (ho:s.heap.get? p=Y! {cls:=.type "list",data:=.seq aU.toArray n}) (hf:f {cls:=.type "list",data:=.seq aU.toArray n}={cls:=.type "list",data:=.seq mJ.toArray n'}) (r:Vals ys mJ) (hz:ys.length<=sizeLine) (t:Nat) :
 Inv X π σ (upd H p<|.lst ys) {s with heap:=s.heap.update p f,toks:=t}:=by
 have e:(s.heap.update p f).get? p=Y! {cls:=.type "list",data:=.seq mJ.toArray n'}:=by rw[A35 f ho (by rw[hf]<;>rfl),hf]
 refine I.write (by rw[h];trivial) (.inl rfl) (λ b u hb q=>(A18 _ _<|P3 hb).trans q) ⟨_,e⟩ ?_;exact⟨hz,mJ,n',r,e⟩
def GR:V->V->V->Hp->(Hp->Prop)->Prop:=λ o i v H Q=>∃p xs k j,o=.ref p/\i=.int k/\H p=Y! (.lst xs)/\Kk xs.length k=Y! j/\Q (upd H p<|.lst<|xs.set j v)
theorem set_list:NO X GR:=by
 intro π s σ H o i v ov iv u Q I ro ri rv h;obtain⟨p,xs,k,j,rfl,rfl,hp,hj,q⟩:=h;cases ro;obtain⟨t,rfl⟩:=ri;obtain⟨aU,n,r,ho,hz⟩:=I.lst hp;obtain⟨h1,h2,h3,h4⟩:=yE hj;have hl:=r.length;have hn:=pq;have I':=
  I.IG hp ho (w5 aU n j u) (r.set rv j) (by rw[List.length_set];exact hz) s.toks
 by_cases h0:0<=k
 .have hk:k.toNat=j:=by rw[seqIndex_of h0 h4]at h1;exact Y4 h1
  exact PySem.W.ki_setAt ho h0 (by lia) (by rw[Z2,<-hl];exact h4) (by rw[hk];exact⟨_,I',q⟩)
 .have hk:(k+(aU.toArray.size)).toNat=j:=by rw[seqIndex_neg (by lia) h3]at h1;rw[Z2,<-hl];exact Y4 h1
  exact PySem.W.ki_setBack ho (by lia) (by rw[Z2,<-hl];exact h3) (by lia) (by rw[hk];exact⟨_,I',q⟩)
theorem sf(lo hi:Y_ Int)(n:Nat):(sliceBounds lo hi AC n).1=((HT.cM n 0 lo))/\(sliceBounds lo hi AC n).2.1=((HT.cM n n hi))/\(sliceBounds lo hi AC n).2.2=1:=by
 refine⟨?_,?_,rfl⟩
 .cases lo with
  |none=>simp[sliceBounds,HT.cM]
  |some i=>
   simp only[sliceBounds,HT.cM,Yi,Z8];by_cases h:i<0
   .simp only[h]<;>lia
   .simp only[h,A33]<;>lia
 .cases hi with
  |none=>simp[sliceBounds,HT.cM]
  |some i=>
   simp only[sliceBounds,HT.cM,Yi,show(1)>0 by decide,Z8];by_cases h:i<0
   .simp only[h,Z8]<;>lia
   .simp only[h,A33]<;>lia
theorem qm(aU:Y' Z_)(lo hi:Y_ Int):slicePick aU.toArray lo hi AC=((aU.drop<|HT.cM aU.length 0 lo).take<|HT.cM aU.length aU.length hi-HT.cM aU.length 0 lo).toArray:=by obtain⟨h1,h2,h3⟩:=sf lo hi aU.toArray.size;unfold slicePick;rw[h1,h2,h3];simp only[sliceRange_one,pick_run]<;>rfl
def Qt(K:Ch):V->Y_ Int->Y_ Int->Hp->VK->Prop:=λ x lo hi H Q=>∃a xs,x=.ref a/\gJ K H a xs/\∀p,H p=AC->Q (.ref p) (upd H p<|.lst<|qH xs lo hi)
theorem EC:Gv X (Qt X.K):=by intro π s σ H x v vl vu lo hi sl Q I rx hs pl pu h;obtain⟨a,xs,rfl,hx,q⟩:=h;cases rx;obtain⟨aU,r,ht,hz⟩:=I.list hx;have ς:=r.length;refine⟨"list",_,slot_list_getitem.lookup,ht.isList.typeIs,?_⟩;refine wpAny_getItem_list_slice ht.isList hs pl pu .none (by simp) ?_ (by rw[Z2]<;>lia);rw[qm,<-ς];refine⟨.ref _,_,I.laid (λ b ob q=>W1 _ q) (Z0 _) ?_,rfl,q _<|I.bI.fresh<|Z0 _⟩;exact⟨A06 (nC xs lo hi) hz,_,0,(r.drop _).take _,Y5 _ rfl⟩
theorem tP:jX X (.type "list") (λ xs H Q=>∃p ys,xs=[.ref p]/\(gJ X.K H p ys\/jW X.K H p ys)/\∀l,H l=AC->Q (.ref l) (upd H l<|.lst ys)):=by
 intro π s σ H xs us Q I r h;obtain⟨p,ys,rfl,hq,q⟩:=h;obtain⟨u,rfl,rx⟩:=vals1 r;cases rx;have fin:∀aU,Vals ys aU->ys.length<=sizeLine->∀h' c',(∀b o',s.heap.get? b=Y! o'->h'.get? b=Y! o') ->
  h'.get? s.heap.objs.size=Y! {cls:=.type "list",dict:=AC,data:=.seq aU.toArray c',slots:=#[]}->EP X π σ Q _ {s with heap:=h'}:=λ aU r' hz h' c' kp e=>
  ⟨.ref _,_,I.laid kp (Z0 _)<|show dP _ X.w _ h' _ (.lst ys)from⟨hz,aU,c',r',e⟩,rfl,q _<|I.bI.fresh<|Z0 _⟩
 rcases hq with hq|hq
 .obtain⟨aU,r',pl,hz⟩:=I.list hq;have ς:=r'.length;obtain⟨o,ho,hc,n,hd⟩:=pl.isList;exact call_list_seq p (.inl rfl) ho hc hd (λ h' c' kp e=>fin aU r' hz h' c' kp e) (by simp only[Z2]<;>lia)
 .obtain⟨aU,r',pl,hz⟩:=I.tuple hq;have ς:=r'.length;obtain⟨o,ho,hc,n,hd⟩:=pl;exact call_list_seq p (.inr rfl) ho hc hd (λ h' c' kp e=>fin aU r' hz h' c' kp e) (by simp only[Z2]<;>lia)
theorem qI:jX X (.type "tuple") (λ xs H Q=>∃p ys,xs=[.ref p]/\((gJ X.K H p ys/\∀l,H l=AC->Q (.ref l) (upd H l<|.tup ys))\/(jW X.K H p ys/\Q (.ref p) H))):=by
 intro π s σ H xs us Q I r h;obtain⟨p,ys,rfl,h⟩:=h;obtain⟨u,rfl,rx⟩:=vals1 r;cases rx;rcases h with⟨hq,q⟩|⟨hq,q⟩
 .obtain⟨aU,r',pl,hz⟩:=I.list hq;have ς:=r'.length;refine call_tuple_list pl.isList (λ h' kp=>?_) (by simp only[Z2]<;>lia);have I1:=I.kept (t':=s.toks) kp;have I2:=
   I1.laid (t':=s.toks) (λ b o e=>W1 _ e) (Z0 _)<|show dP _ X.w _ _ _ (.tup ys)from⟨hz,aU,r',m9.new _ _⟩
  exact⟨.ref _,_,I2,rfl,q _<|I1.bI.fresh<|Z0 _⟩
 .obtain⟨aU,r',pl,hz⟩:=I.tuple hq;exact call_tuple_same pl ⟨.ref p,H,I,rfl,q⟩
def SS(K:Ch)(T:String)(x:V)(H:Hp):Prop:=match x with
|.str _=>T="str"
|.int _=>T="int"
| .ref p=>(T="list" /\ ∃xs,gJ K H p xs)\/(T="tuple" /\ ∃o,K.lookup p=Y! o/\o.cls=.type "tuple" /\ o.dict=AC) \/
 (T="dict" /\ ((∃dG,H p=Y! (.dK dG))\/∃dG,H p=Y! (.dT dG)))\/(T="set" /\ ∃S n,H p=Y! (.set S n))
|_=>False
theorem Ht (I:Inv X π σ H s) (r:RelV x v) (ty:SS X.K T x H) :
 s.TypeIs v T/\∀a,v=.ref a->∃ob,s.heap.get? a=Y! ob/\ob.dict=AC:=by
 cases x with
 |str z=>obtain⟨t,rfl⟩:=r;cases (ty);exact⟨typeIs_str s z t,λ _ e=>nomatch e⟩
 |int i=>obtain⟨t,rfl⟩:=r;cases (ty);exact⟨typeIs_int s i t,λ _ e=>nomatch e⟩
 |ref p=>
  cases r;rcases ty with⟨rfl,xs,hq⟩|⟨rfl,o,hk,hc,hd⟩|⟨rfl,hk⟩|⟨rfl,S,n,hk⟩
  .obtain⟨aU,_,pl,_⟩:=I.list hq;refine⟨pl.isList.typeIs,λ a e=>?_⟩;cases e;obtain⟨o,n,e,c,hd,_⟩:=pl;exact⟨o,e,hd⟩
  .refine⟨⟨o,I.jm p o hk,hc⟩,λ a e=>?_⟩;cases e;exact⟨o,I.jm _ o hk,hd⟩
  .have z:∃o,s.heap.get? p=Y! o/\o.ExactDict:=by
    rcases hk with⟨dG,hk⟩|⟨dG,hk⟩
    .obtain⟨_,_,_,_,o,_,_,e,ex,_⟩:=I.bI p _ hk;exact⟨o,e,ex⟩
    .obtain⟨_,_,_,_,o,_,_,e,ex,_⟩:=I.bI p _ hk;exact⟨o,e,ex⟩
   obtain⟨o,e,ex⟩:=z;refine⟨⟨o,e,ex.1⟩,λ a e2=>?_⟩;cases e2;exact⟨o,e,ex.2.1⟩
  .obtain⟨o,_,_,_,e,ex,_⟩:=I.bI p _ hk;refine⟨⟨o,e,ex.1⟩,λ a e2=>?_⟩;cases e2;exact⟨o,e,ex.2.1⟩
 |_=>exact GE ty
def PX(K:Ch)(T:String)(r:V->Y' V->Hp->VK->Prop)(to:TE)(t:TA):TE:=λ σ H Q=>to σ H λ x H1=>SS K T x H1/\t σ H1 λ xs H2=>r x xs H2 Q
variable {T id:String}
theorem BS(pa:PlainAttrs T)(slot:Slot T name id)(VR:typeOf (.builtin id)=pure (.type "method_descriptor"))(hm:Sz X id r)(ho:PE X o to)(ha:PA X (e::es) t)
 (pF:attributeBase o name X.env (eval o X.env)=eval o X.env:=by rfl)
 (xq:((backTo ia<|starEach (e::es) X.env).all (λ x=>!x.1)&&(backToKw ia<|keywordEach [] X.env).all (λ x=>x.1.isSome)
  && decide ((e::es).length+([]:Y' ο).length+(if([]:Y' ο).isEmpty then 0 else 1)<30))=AT:=by rfl)
 (pD:(apos.endLine==ia.line)=AT:=by rfl) (hs:Se e es X.env:=by rfl) (k8:Pn ia es X.env:=by rfl) :
 PE X (.Call (.Attribute o name apos) (e::es) [] ia) (PX X.K T r to t):=by
 intro π s σ H Q I h;refine wpAny_Call_method_late pF xq pD rfl<|b8 (ho π s σ H _ I h) λ v s1 ⟨x,H1,I1,r1,ty,q1⟩=>?_;obtain⟨h1,h2⟩:=Ht I1 r1 ty;refine⟨T,id,pa,slot,VR,h1,h2,?_⟩;have hA:=ha ia π s1 σ H1 _ I1 q1;rw[hs]at hA ⊢;refine Calls.callWith_builtin (by show(Z!||(backTo ia _).any _)=Z!;rw[k8]<;>rfl)<|Calls.evalArgs_plain ?_;exact b8 hA λ us s2 ⟨vs,H2,I2,r2,q2⟩=>hm π s2 σ H2 x vs v us Q I2 r1 r2 q2
/- xs.append(e),list.index on a Ca tuple .. are Sz facts of 06m -/
end
def Ux (X:Cx) (id:String) (r:V->Y' V->Hp->VK->Prop):Prop:=
 ∀ (π:Y' (Z'×ζ)) (s:δ) (σ:St) (H:Hp) (x:V) (xs:Y' V) (v:Z_) (us:Y' Z_) (Q:VK),Inv X π σ H s->RelV x v->Vals xs us->r x xs H Q ->
  Db (model X.prog X.w) X.A (call (.builtin id)<|v::us) (EP X π σ Q) X.xe s
theorem Vals.one:∀{x}{us},Vals [x] us->∃u,us=[u]/\RelV x u
|_,_,.cons r .nil=>⟨_,rfl,r⟩
section
theorem Inv.Mi{aU mJ:Y' Z_}(I:Inv X π σ H s)(hH:H l=Y! (.lst xs))
 (e:s.heap.get? l=Y! {cls:=.type "list",data:=.seq aU.toArray n}) (hf:f aU.toArray=mJ.toArray) (hv:Vals ys mJ) (hz:ys.length<=sizeLine) :
 Inv X π σ (upd H l<|.lst ys) {s with heap:=s.heap.update l<|Obj.mapSeq f,toks:=t'}:=by
 have q:=PySem.IsL.update e f;rw[hf]at q;refine I.write (by rw[hH];exact trivial) (.inl rfl) (λ b' u hb hu=>(A18 _ _<|P3 hb).trans hu) ⟨_,q⟩ ?_;exact⟨hz,mJ,_,hv,q⟩
theorem Inv.fresh(I:Inv X π σ H s):H s.heap.objs.size=AC:=I.bI.fresh<|Z0 _
theorem Inv.IH(I:Inv X π σ H s)(hH:H l=Y! (.lst xs)):xs.length<=sizeLine/\∃aU n,Vals xs aU/\xs.length=aU.length/\s.heap.get? l=Y! {cls:=.type "list",data:=.seq aU.toArray n}:=by obtain⟨z,aU,n,r,e⟩:=I.bI l _ hH;exact⟨z,aU,n,r,r.length,e⟩
theorem B7(h:n<=sizeLine):Builtin.List.listTooLong n=Z!:=by exact A37 (by lia)
end
section
def yo:V->Y' V->Hp->VK->Prop:=λ x vs H Q=>∃l xs y,x=.ref l/\vs=[y]/\H l=Y! (.lst xs)/\xs.length<sizeLine/\Q .non (upd H l<|.lst<|xs++[y])
theorem qZ:Ux X "list.append" yo:=by intro π s σ H x vs v us Q I rx rv h;obtain⟨l,xs,y,rfl,rfl,hH,hz,q⟩:=h;cases rx;obtain⟨u,rfl,ru⟩:=rv.one;obtain⟨z,aU,n,r,hl,e⟩:=I.IH hH;refine A62 F.slot_list_append ⟨_,e,rfl⟩ F.entry_list_append (F.args_list_append_2 _ _) (PySem.list_append l _ n u (by rw[Z2];lia)) ⟨e,?_⟩;refine⟨.non,_,I.Mi hH e (by simp) (r.append<|.cons ru .nil) ?_,rfl,q⟩;rw[A55,List.length_singleton];lia
def yn:V->Y' V->Hp->VK->Prop:=λ x vs H Q=>∃l b xs zs,x=.ref l/\vs=[.ref b]/\H l=Y! (.lst xs)/\H b=Y! (.lst zs)/\xs.length+zs.length<=sizeLine/\Q .non (upd H l<|.lst<|xs++zs)
theorem zN:Ux X "list.extend" yn:=by
 intro π s σ H x vs v us Q I rx rv h;obtain⟨l,b,xs,zs,rfl,rfl,hH,hB,hz,q⟩:=h;cases rx;obtain⟨u,rfl,ru⟩:=rv.one;cases ru;obtain⟨z,aU,n,r,hl,e⟩:=I.IH hH;obtain⟨z2,gD,n2,r2,Kt,e2⟩:=I.IH hB;have DV:aU.toArray.size+gD.toArray.size<=sizeLine:=by rw[Z2,Z2];lia
 have MM:¬(!aU.toArray.isEmpty&&Builtin.List.listTooLong (aU.toArray.size+gD.toArray.size))=AT:=by rw[B7 DV,B11];exact A88
 refine A62 F.slot_list_extend ⟨_,e,rfl⟩ F.entry_list_extend (F.args_list_extend_2 _ _)
  (AutoSeq1.list_extend_list_list_0 l _ n b _ n2 MM (by rw[Z2];lia) (by lia)) ⟨e,e2,?_⟩
 refine⟨.non,_,I.Mi hH e (by simp) (r.append r2) ?_,rfl,q⟩;rw[A55];lia
end
section
set_option maxRecDepth 100000 in
end
section
end
end L2
namespace SN
open PySem PySem.W PySem.Calls PyProof.Rows
theorem nT:∀ns vs,WellAll P h vs (ns.map WData.int)->IntsAre vs ns:=by
 intro ns
 induction ns with
 |nil=>intro vs w;rw[A46]at w;cases w;exact .nil
 |cons n ns ih=>
  intro vs w;rw[Y7]at w;cases w with
  |cons a b=>cases a;exact .cons _ _<|ih _ b
theorem zC{l:OpenLaw}(hn:l.most=Y! n)
 (FA:l.row.toRowW.claim.pre args=AT) (Q_:WellAll P h vals args) :
 ∃a vs ns,vals=[Value.ref a]/\args=[WData.list (ns.map WData.int)]/\h.get? a=Y! {cls:=.type "list",data:=.seq vs.toArray}/\IntsAre vs ns/\ns.length<=n:=by
 have VY:=(pre_splitW FA).1;have hc:l.pre.holds [] {args:=args}=AT:=(pre_splitW FA).2;obtain⟨d,r,rfl,h1,h2⟩:=hasAllW_cons VY;obtain rfl:=hasAllW_nil h2;obtain⟨xs,rfl,h3⟩:=hasW_list h1;obtain⟨ns,rfl⟩:=items_int h3;have ς:ns.length<=n:=by
  have h4:(WTm.not<|.lt (.lit<|.int<|n)<|.len<|.arg 0).holds [] {args:=[.list (ns.map .int)]}=AT:=by have h4:=(holds_andW hc).1;rw[hn]at h4;exact h4
  have h5:=condW_of h4<|w_not<|w_lt w_lit<|w_len_list<|w_arg rfl;rw[v4]at h5;refine Nat.le_of_not_lt λ q=>?_;have q':(n)<((ns.length)):=by lia
  first
   |(rw[decide_eq_true q']at h5;exact absurd h5 (by decide))
   |(simp at h5;lia)
 cases Q_ with
 |cons w1 w2=>
  cases w2;cases w1 with
  |list ho hall=>exact⟨_,_,ns,rfl,rfl,ho,nT ns _ hall,ς⟩
theorem zF(l:OpenLaw)(args:Y' WData):l.row.toRowW.claim.post args (.bool AT) args=AT:=
 postW_of
  (show WShape.has [] _ .bool=AT by first|rfl|decide|simp[WShape.armsAll])
  (w_eq_bool (w_res rfl) w_lit) rfl
section
variable {K:Frag}
end
end SN
namespace L2
open PySem PySem.Spec PyProof.Rows
theorem qO:∀{vs}{ns},IntsAre vs ns->Vals (ns.map V.int) vs
|_,_,.nil=>.nil
|_,_,.cons n t h=>.cons ⟨t,rfl⟩<|qO h
def Gx(H:Hp):Prop:=∀b,H b=AC\/(∃o xs,H b=Y! (.c5 o<|.lst xs))\/∃q,H b=Y! (.Be q)
def TabAt(K:Ch)(x:Str)(b:Z'):Prop:=x∈cg/\∃c,KM K x=Y! (c,b)
theorem Fi{K:Ch}(one:∀x y c P c',x∈cg->y∈cg->KM K x=Y! (c,P)->KM K y=Y! (c',P)->x=y)(h:TabAt K x b)(g:TabAt K y b):x=y:=by obtain⟨h1,c,h2⟩:=h;obtain⟨g1,d,g2⟩:=g;exact one x y c b d h1 g1 h2 g2
open Classical in
noncomputable def wF(K:Ch)(a:Z')(u:HO)(s:Bool):Hp:=λ b=>if h:∃x,TabAt K x b then Y! (.Be<|gM h.choose)else if s=AT/\b=a then Y! u else AC
theorem Cm {P:ι} {w:θ} {K:FS} {mg mb:Str->Y_ Z_} {CX:J5} {k:Nat} {fa a:Z'} {fd:ξ} {x:Str} {sp:Sp} {s₁:δ} {vs:Y' Z_} {ns:Y' Int}
 (KX:K.In s₁.heap) (DX:s₁.heap.Ns mainGlobals mg) (hb:s₁.heap.Ns builtinsNs mb) (Wr:∀x:Str,x≠ "__name__" -> mb x=bootBuiltins x) (Rq:s₁.heap.NoLimit) (hg:s₁.gens=#[])
 (ha:s₁.heap.get? a=Y! {cls:=.type "list",data:=.seq vs.toArray}) (hi:IntsAre vs ns) (hl:ns.length<=sizeLine) (hr:bK k callerA)
 (F:∀base:η,K.In base->base.Ns mainGlobals mg->dI P w K mg base CX k fa fd [x] sp) (jG:∀(s:δ)(u:Z_),BindsTo s fd ⟨[u],[]⟩ [(x,u)])
 (zZ:∀H:Hp,Gx H->gJ K H a (ns.map V.int)->sp [.ref a] H (λ v _=>v=.bl AT) λ _ _ _=>False)
 (WG:∀H e s',CX [] H s₁ (λ _ _ _=>False) e s'->False)
 (one:∀x y c P c',x∈cg->y∈cg->KM K x=Y! (c,P)->KM K y=Y! (c',P)->x=y)
 (tab:∀x∈cg,∀c P,KM K x=Y! (c,P)->(Yy s₁.heap c P/\s₁.heap.get? P=Y! (Wp #[]))/\s₁.heap.TableAt c P #[]) (bm:BMain mg s₁.heap) (L!:PySem.W.noTabs K=AT) :
 codeAny (model P w) callerA (.call (.ref fa) ⟨[.ref a],[]⟩) (λ r s'=>r=.ok (.ret<|.bool AT)/\OldK s₁.heap s'.heap/\s'.os=s₁.os/\AllBare s'.gens) s₁:=by
 have rv:=qO hi;have QZ:=hi.length;have Es:∀{b}{y},TabAt K y b->s₁.heap.get? b=Y! (Wp #[]):=λ {b y} ⟨h1,c,h2⟩=>(tab y h1 c b h2).1.2;have GZ:∀{b}{o},s₁.heap.get? b=Y! o->o≠Wp #[]->¬∃y,TabAt K y b:=λ {b o} e n ⟨y,h⟩=>by have:=Es h;rw[e]at this;exact n<|Y4 this
 have Us:∀{b}{u}{q}{y},TabAt K y b->wF K a u q b=Y! (.Be<|gM y):=λ {b u q y} h=>by
  have hh:∃x,TabAt K x b:=⟨y,h⟩
  unfold wF;rw[dif_pos hh];rw[Fi one hh.choose_spec h]
 have at2:∀{b}{u}{q},(¬∃y,TabAt K y b)->wF K a u q b=if q=AT/\b=a then Y! u else AC:=λ {b u q} h=>by unfold wF;rw[dif_neg h]
 -- from an abstract heap in SQ nothing but Hx HE and Hx tables may be tracked
 have core:∀u q,(∃o xs,u=.c5 o (.lst xs))->gJ K (wF K a u q) a (ns.map V.int)->(q=AT->dP P w (wF K a u q) s₁.heap a u)->(q=AT->K.lookup a=AC) ->
  codeAny (model P w) callerA (.call (.ref fa) ⟨[.ref a],[]⟩) (λ r s'=>r=.ok (.ret<|.bool AT)/\OldK s₁.heap s'.heap/\s'.os=s₁.os/\AllBare s'.gens) s₁:=by
  intro u q hu hS TB hK;generalize RU:wF K a u q=H at hS TB;have na:¬∃y,TabAt K y a:=GZ ha λ z=>by cases z
  have of:∀{b}{v},H b=Y! v->(∃y,TabAt K y b/\v=.Be (gM y))\/(q=AT/\b=a/\v=u):=λ {b v} e=>by
   by_cases hb:∃y,TabAt K y b
   .obtain⟨y,hy⟩:=hb;rw[<-RU,Us hy]at e;cases e;exact .inl ⟨y,hy,rfl⟩
   .rw[<-RU,at2 hb]at e;split at e
    .rename_i hc;cases e;exact .inr ⟨hc.1,hc.2,rfl⟩
    .cases e
  have bI:mm P w H s₁.heap:=λ b v e=>by
   rcases of e with⟨y,hy,rfl⟩|⟨hq,rfl,rfl⟩
   .exact⟨#[],Es hy,trivial,λ pos cv z=>nomatch z⟩
   .exact TB hq
  have hO:Gx H:=λ b=>by
   cases e:H b with
   |none=>exact .inl rfl
   |some v=>
    rcases of e with⟨y,_,rfl⟩|⟨_,_,rfl⟩
    .exact .inr<|.inr ⟨_,rfl⟩
    .obtain⟨o,xs,rfl⟩:=hu;exact .inr<|.inl ⟨o,xs,rfl⟩
  have oH:∀{b}{o},s₁.heap.get? b=Y! o->H b=AC->(qy s₁.heap H).get? b=Y! o:=λ e n=>CD e n;have Iu:∀{b}{o},s₁.heap.get? b=Y! o->(∀xs n,o.data≠.seq xs n)->(∀xs,o.data≠.fields xs\/o.cls≠.none)->H b=AC:=λ {b o} e d d2=>by
   cases r:H b with
   |none=>rfl
   |some v=>
    rcases of r with⟨y,hy,_⟩|⟨_,RP,_⟩
    .rw[Es hy]at e;cases e;rcases d2 #[]with z|z
     .exact absurd rfl z
     .exact absurd rfl z
    .rw[RP,ha]at e;cases e;exact absurd rfl<|d _ _
  have OA:∀{b:Z'}{m:Str->Y_ Z_},s₁.heap.Ns b m->(qy s₁.heap H).Ns b m:=λ {b m} ⟨o,es,ep,e,d,r⟩=>⟨o,es,ep,oH e (Iu e (λ xs n z=>by rw[d]at z;cases z) λ xs=>.inl λ z=>by rw[d]at z;cases z),d,r⟩
  have T5:K.In (qy s₁.heap H):=λ b o e=>oH (KX b o e) (by
   cases r:H b with
   |none=>rfl
   |some v=>
    rcases of r with⟨y,hy,_⟩|⟨hq,RP,_⟩
    .have e2:=KX b o e;rw[Es hy]at e2;cases e2;have h2:=A27.mp L! _<|PySem.W.mem_of_lookupK e;exact absurd (show Z!=AT from h2) A88
    .rw[RP,hK hq]at e;cases e)
  have hM:Mod K mg (qy s₁.heap H):=⟨T5,OA DX,⟨mb,OA hb,Wr⟩,let ⟨mc,h1,h2⟩:=Rq;⟨mc,OA h1,h2⟩⟩
  have hT:rK K mg (qy s₁.heap H) H:=λ y hy c p e=>by obtain⟨⟨⟨o,vs,file,tf,flags,tg,VI,text,tt,e1,e2,e3,r⟩,_⟩,_⟩:=tab y hy c p e;obtain⟨Xa,ob,b1,b2,b3,b4,b5,b6⟩:=bm;refine⟨by rw[<-RU];exact Us ⟨hy,c,e⟩,⟨o,vs,file,tf,flags,tg,VI,text,tt,oH e1 (Iu e1 (λ xs n z=>by rw[e3]at z;cases z) λ xs=>.inr λ z=>by rw[e2]at z;cases z),e2,e3,r⟩,Xa,ob,b1,b2,oH b3 (Iu b3 (λ xs n z=>by rw[b6]at z;cases z) λ xs=>.inr λ z=>by rw[b4]at z;cases z),b4,b5,b6⟩
  have e0:t5 P w K mg (qy s₁.heap H) callerA [] s₁ H:=⟨rfl,hM,λ b o e=>E5 e,Nat.le_of_eq<|z6 _ _,trivial,λ b hb=>absurd (show b∈([]:Y' Z')from hb) (by simp),bI,.of_eq hg,hT⟩
  refine A54 ((F _ T5<|OA DX).run callerA [] s₁ H ⟨[.ref a],[]⟩ [.ref a] [.ref a] _ _ hr e0 (jG s₁<|.ref a) (.cons rfl .nil)<|zZ H hO hS) λ r s' h=>?_;cases r with
  |error e=>exact(WG H e s' h).elim
  |ok fl=>
   cases fl with
   |next=>exact GE h
   |brk=>exact GE h
   |cont=>exact GE h
   |ret u'=>
    obtain⟨v,H',os,bare,un,MI,r',q'⟩:=h;have q':v=.bl AT:=q';subst q';obtain rfl:u'=Value.bool AT:=r';refine⟨rfl,⟨λ b o e=>?_,λ b o e=>un.there b o e (by simp)⟩,os,bare⟩;cases r:H b with
    |none=>exact .inl<|un.keep b o e r (by intro z;exact absurd (show b∈([]:Y' Z')from z) (by simp)) (by simp)
    |some v=>
     rcases of r with⟨y,hy,rfl⟩|⟨_,_,rfl⟩
     .have r2:=un.kI b (.Be<|gM y) trivial r;obtain⟨ps,g1,_⟩:=MI b _ r2;obtain⟨h1,c,h2⟩:=hy;have tb:=(tab y h1 c b h2).2;have e3:o={cls:=.none,data:=.fields #[]}:=Y4<|e.symm.trans tb.2;subst e3;exact .inr<|.inl ⟨tb.isCodeTable,rfl,#[],ps,rfl,by rw[g1];simp⟩
     .obtain⟨ob,xs,rfl⟩:=hu;have z2:=un.mU b ob _ r;obtain⟨e1,_⟩:=bI b _ r;obtain⟨e2,_⟩:=MI b _ z2;rw[e]at e1;cases e1;exact .inl e2
 have na:¬∃y,TabAt K y a:=GZ ha λ z=>by cases z
 cases hk:K.lookup a with
 |some o=>
  -- Hx HE is one of Hx Ca own objects
  have e:=KX a o hk;rw[ha]at e;cases e;exact core (.c5 {cls:=.type "list",data:=.seq vs.toArray}<|.lst []) Z! ⟨_,_,rfl⟩ (.inr ⟨_,vs.toArray,_,hk,rfl,rfl,rfl,by rw[Z2,QZ];exact hl,by simpa using rv⟩) (λ z=>nomatch z) λ z=>nomatch z
 | none=>refine core (.c5 {cls:=.type "list",data:=.seq vs.toArray}<|.lst<|ns.map V.int) AT ⟨_,_,rfl⟩ (.inl<|.inr ⟨{cls:=.type "list",data:=.seq vs.toArray},by rw[at2 na];exact Z1 ⟨rfl,rfl⟩⟩) (λ _=>⟨ha,by rw[v4];exact hl,vs,_,rv,ha⟩) λ _=>hk
def a_(s:ε):Arguments:=match s with
|.FunctionDef _ a _ _ _ _ _ _ _ _=>a
|_=>{posonlyargs:=[],args:=[],vararg:=AC,kwonlyargs:=[],kw_defaults:=[],kwarg:=AC,defaults:=[]}
def aE(s:ε):Y' ε:=match s with
|.FunctionDef _ _ b _ _ _ _ _ _ _=>b
|_=>[]
def ak(s:ε):μ:=match s with
|.FunctionDef _ _ _ _ _ _ sc _ _ _=>sc
|_=>{kind:=.function,names:=[],isGenerator:=Z!,isCoroutine:=Z!}
abbrev jc:J5:=λ _ _ _ _ _ _=>False
abbrev E0:XK:=λ _ _ _=>False
theorem GV:Passes jc X E0:=λ _ _ _ _ _ _ _ h=>h.elim
structure xV(K:Ch)(x qual:Str)(st:Stmt)(f:Addr)(fd:FuncData):Prop where
 ex:∃(oc:Value)(od:Option Addr)(kV doc pm:Value)(an:Option Addr)(ba ct:Value)(qe:Array (Option Value)),
  fd=Ix x qual (a_ st) (aE st) (ak st) .none kV doc pm an ba ct/\K.lookup f=Y! ⟨oc,od,.func fd,qe⟩/\KT K ba qual=AT
 kp:Ev K (.ref f)=AT
section
variable {K:Ch}
theorem xV.ok{st:ε}(F:xV K x qual st f fd)(S:a6 N ps (ak st))(len:∀vs H Q E,sp vs H Q E->vs.length=ps.length)
 (vc:∀ba A outer s H vs Q E,bK k (A.deeper<|envOfC qual (ak st) s.heap.objs.size f ba)->sp vs H Q E ->
  ∃t,n9 (ee jc P w K mg base N qual (ak st) f ba A outer s H E).fy (aE st) t/\t {nx:=λ _ H'=>Q .non H',rt:=Q} (start N vs) H):dI P w K mg base jc (k+1) f fd ps sp:=by
 obtain⟨oc,od,kV,doc,pm,an,ba,ct,qe,rfl,lk,lD⟩:=F.ex;refine rp lk lD S len λ A outer s H vs Q E hr zZ=>?_;obtain⟨t,h,q⟩:=vc ba A outer s H vs Q E hr zZ;exact⟨t,h.fy,q⟩
theorem xV.binds{st:ε}(F:xV K x qual st f fd)
 (h:∀kV doc pm an ba ct us,us.length=ps.length->bindArgs (Ix x qual (a_ st) (aE st) (ak st) .none kV doc pm an ba ct) ⟨us,[]⟩=pure (ps.zip us)):Binds K fd ps []:=by
 obtain⟨oc,od,kV,doc,pm,an,ba,ct,qe,rfl,lk,lD⟩:=F.ex;exact .all<|h kV doc pm an ba ct
theorem tm{st:ε}{kV doc pm ba ct:Z_}(l:K.lookup f=Y! ⟨oc,od,.func<|PySem.W.fnOf x qual (a_ st) (aE st) (ak st) .none kV doc pm an ba ct,qe⟩)
 (c:KT K ba qual=AT) (k:Ev K (.ref f)=AT):xV K x qual st f (Ix x qual (a_ st) (aE st) (ak st) .none kV doc pm an ba ct):=⟨⟨oc,od,kV,doc,pm,an,ba,ct,qe,rfl,l,c⟩,k⟩
end
section
theorem pv(i:Nat)(hN:X.N[i]?=Y! x:=by rfl)(hv:AD X.env.scope x:=by first| exact ZF rfl| exact Tl<|Or.inl rfl| exact Tl<|Or.inr rfl)(hd:(x==("__debug__"))=Z!:=by decide)
 (lD:(x==("__classdict__"))=Z!:=by decide):PE X (.Name x pos) (fE i):=iL hN hv hd lD
end
def ax(H H':Hp):Prop:=∀b o,H b=Y! o->H' b=Y! o
theorem ax.refl(H:Hp):ax H H:=λ _ _ h=>h
theorem ax.trans(a:ax H H1)(b:ax H1 H2):ax H H2:=λ c o h=>b c o<|a c o h
theorem ax.free(e:ax H H')(h:H' l=Option.none):H l=Option.none:=by
 cases q:H l with
 |none=>rfl
 |some o=>rw[e l o q]at h;cases h
theorem ax.seq{K:Ch}(e:ax H H')(h:gJ K H a xs):gJ K H' a xs:=by
 rcases h with(h|⟨o,h⟩)|h
 .exact .inl<|.inl<|e _ _ h
 .exact .inl<|.inr ⟨o,e _ _ h⟩
 .exact .inr h
section
variable {κ:Type}[DecidableEq κ]
end
section
variable {P:ι}{w:θ}{H:Hp}{h:η}{a:Z'}
end
section
variable {X:Cx}{π:Y' (Z'×ζ)}{σ:St}{H:Hp}{s:δ}{a:Z'}{y v:V}{u r:Z_}{o:Y_ V}{A:ν}{E:Z_->δ->Prop}
end
section
variable {X:Cx}{σ:St}{H:Hp}{s:δ}{a:Z'}{dG:Y' (Key×V)}{k:Key}{u:Z_}{A:ν}{E:Z_->δ->Prop}
end
section
variable {X:Cx}{o i e value:γ}{pos pos' UX:Pos}{td ty tv:TE}
end
section
end
end L2
set_option genSizeOf true
noncomputable section
namespace Z
inductive D where
|non
|bl (b:Bool)
|int (i:Int)
|str (cs:List Nat)
|tup (xs:List D)
|lst (xs:List D)
|dct (ks:List (Sum Int<|List Nat)) (vs:List D)
inductive Res (α:Type) where
|ok (a:α)
|bad
namespace Res
def bind{α β:Type}(r:Res α)(f:α->Res β):Res β:=
 match r with
 |ok a=>f a
 |bad=>bad
@[simp] theorem sN(a:α)(f:α->Res β):(Res.ok a).bind f=f a:=rfl
@[simp] theorem NB(f:α->Res β):(Res.bad).bind f=bad:=rfl
def map{α β:Type}(f:α->β)(r:Res α):Res β:=
 match r with
 |ok a=>ok<|f a
 |bad=>bad
@[simp] theorem QX(a:α)(f:α->β):(Res.ok a).map f=ok (f a):=rfl
@[simp] theorem OD(f:α->β):(Res.bad).map f=bad:=rfl
theorem aw{f:α->Res β}(h:r.bind f=ok b):∃a,r=ok a/\f a=ok b:=by
 cases r with
 |ok a=>exact⟨a,rfl,h⟩
 |bad=>cases h
end Res
open Classical in
def guard{α:Type}(p:Prop)(r:Res α):Res α:=if p then r else .bad
@[simp] theorem guard_true(r:Res α):guard True r=r:=by exact Z1 trivial
theorem guard_pos{r:Res α}(h:p):guard p r=r:=by exact Z1 h
theorem pG{a:α}(h:guard p r=.ok a):p/\r=.ok a:=by
 unfold guard at h;split at h
 .rename_i q;exact⟨q,h⟩
 .cases h
inductive L where
|val (d:D)
|own (xs:List D)
|bor (d:D)
|dc (k:List (List Int) ⊕ List (List Nat×List Nat))
|CU (ks:List (List Int))
|Mw (ps:List (Int×Int))
|exc (c:List Nat×List (List Nat×D))
abbrev DK:=Y' (Y' Int) ⊕ Y' (Y' Nat×Y' Nat)
abbrev Env:=Y'<|Y_ L
abbrev EF:=Env->Res D
abbrev LF:=Env->Res (Y' D)
abbrev TF:=Env->Res Bool
abbrev AF:=Env->Res (Y' D)
inductive Fl where
|nx (ρ:Env)
|rt (d:D)
|bk (ρ:Env)
|ct (ρ:Env)
abbrev SF:=Env->Res Fl
abbrev GF:=D->Env->Res Env
abbrev line:Nat:=16777216
def G?:Y' (Y' Nat):=[[104,97,108,108],[103,117,101,115,116,115],[104,101,108,100],[112,108,97,99,101,115]]
def Bc(a kd:Nat)(ks:Y' (Y' Nat))(vs:Y' D):D:=.dct (.inl a::.inl kd::ks.map .inr) vs
def eC(d:D)(_:Env):Res D:=.ok d
def eV(i:Nat)(ρ:Env):Res D:=match ρ[i]? with
|some<|some<|.val d=>.ok d
|_=>.bad
def eW(i:Nat)(ρ:Env):Res D:=match ρ[i]? with
|some<|some<|.val d=>.ok d
|some<|some<|.own xs=>.ok<|.lst xs
|some<|some<|.bor<|.lst xs=>.ok<|.lst xs
|_=>.bad
def eB(op:D->D->Res D)(a b:EF)(ρ:Env):Res D:=(a ρ).bind λ x=>(b ρ).bind λ y=>op x y
def eU(op:D->Res D)(a:EF)(ρ:Env):Res D:=(a ρ).bind op
def C9(a b:EF)(ρ:Env):Res D:=(a ρ).bind λ x=>match x with
|.bl c=>if c then b ρ else .ok (.bl Z!)
|_=>.bad
def KI(a b:EF)(ρ:Env):Res D:=(a ρ).bind λ x=>match x with
|.bl c=>if c then .ok (.bl AT)else b ρ
|_=>.bad
def pS(op DQ:D->D->Res D)(a b c:EF)(ρ:Env):Res D:=(a ρ).bind λ x=>(b ρ).bind λ y=>(op x y).bind λ z=>match z with
|.bl k=>if k then(c ρ).bind λ w=>DQ y w else .ok (.bl Z!)
|_=>.bad
def Nq(t:TF)(a b:EF)(ρ:Env):Res D:=(t ρ).bind λ c=>if c then a ρ else b ρ
def eL(l:LF)(ρ:Env):Res D:=(l ρ).map D.lst
def az(_:Env):Res (Y' D):=.ok []
def ae(a:EF)(r:AF)(ρ:Env):Res (Y' D):=(a ρ).bind λ x=>(r ρ).bind λ xs=>.ok<|x::xs
def ft(as:AF)(ρ:Env):Res (Y' D):=(as ρ).bind λ xs=>guard (xs.length<=line)<|.ok xs
def d?(as:AF)(ρ:Env):Res D:=(as ρ).bind λ xs=>guard (xs.length<=line)<|.ok<|.tup xs
def aB(f:Y' D->Res D)(as:AF)(ρ:Env):Res D:=(as ρ).bind f
def tE(a:EF)(ρ:Env):Res Bool:=(a ρ).bind λ x=>match x with
|.bl c=>.ok c
|_=>.bad
def r!(a b:TF)(ρ:Env):Res Bool:=(a ρ).bind λ c=>if c then b ρ else .ok Z!
def yc(a b:TF)(ρ:Env):Res Bool:=(a ρ).bind λ c=>if c then .ok AT else b ρ
def lM(a:TF)(ρ:Env):Res Bool:=(a ρ).bind λ c=>.ok !c
def bits(a:Int):Nat:=if a=0 then 0 else a.natAbs.log2+1
def bS:D->D->Res D
|.int a,.int b=>.ok<|.int<|a+b
|.str a,.str b=>guard (a.length+b.length<=line)<|.ok<|.str<|a++b
|.tup a,.tup b=>guard (a.length+b.length<=line)<|.ok<|.tup<|a++b
|_,_=>.bad
def uP:D->D->Res D
|.int a,.int b=>.ok<|.int<|a-b
|_,_=>.bad
def j4(a b:Int):Prop:=((-18446744073709551616<a/\a<18446744073709551616)\/(-18446744073709551616<b/\b<18446744073709551616)\/(bits a<=16777216/\bits b<=16777216))
def nR:D->D->Res D
|.int a,.int b=>guard (j4 a b)<|.ok<|.int<|a*b
|_,_=>.bad
def mj(b:Int):Prop:=0<b/\b<1809251394333065553493296640760748560207343510400633813116524750123642650624
def oDiv:D->D->Res D
|.int a,.int b=>guard (mj b)<|.ok<|.int<|a / b
|_,_=>.bad
def oMod:D->D->Res D
|.int a,.int b=>guard (0<b)<|.ok<|.int<|a % b
|_,_=>.bad
def B4:D->Res D
|.int a=>.ok<|.int<|-a
|_=>.bad
def Fg:Y' Nat->Y' Nat->Bool
|[],[]=>Z!
|[],_::_=>AT
|_::_,[]=>Z!
|a::as,b::bs=>if a<b then AT else if a=b then Fg as bs else Z!
def oLt:D->D->Res D
|.int a,.int b=>.ok<|.bl<|decide<|a<b
|_,_=>.bad
def oLe:D->D->Res D
|.int a,.int b=>.ok<|.bl<|decide<|a<=b
|.str a,.str b=>.ok<|.bl<|!(Fg b a)
|_,_=>.bad
def E?:D->D->Res D
|.int a,.int b=>.ok<|.bl<|decide<|b<a
|_,_=>.bad
def Kc:D->D->Res D
|.int a,.int b=>.ok<|.bl<|decide<|b<=a
|_,_=>.bad
def AO:D->D->Y_ Bool
|.non,.non=>Y! AT
|.bl a,.bl b=>Y!<|a==b
|.bl a,.int b=>Y!<|(if a then 1 else 0)==b
|.int a,.bl b=>Y!<|a==(if b then 1 else 0)
|.int a,.int b=>Y!<|a==b
|.str a,.str b=>Y!<|a==b
|.non,.bl _=>Y! Z!
|.non,.int _=>Y! Z!
|.non,.str _=>Y! Z!
|.bl _,.non=>Y! Z!
|.bl _,.str _=>Y! Z!
|.int _,.non=>Y! Z!
|.int _,.str _=>Y! Z!
|.str _,.non=>Y! Z!
|.str _,.bl _=>Y! Z!
|.str _,.int _=>Y! Z!
|_,_=>AC
def allEq(f:D->D->Y_ Bool):Y' D->Y' D->Y_ Bool
|[],[]=>Y! AT
|[],_::_=>Y! Z!
|_::_,[]=>Y! Z!
|a::as,b::bs=>match f a b,allEq f as bs with
 |some x,Y! y=>Y!<|x&&y
 |_,_=>AC
def eP:Nat->D->D->Y_ Bool
|n+1,.tup a,.tup b=>allEq (eP n) a b
|n+1,.lst a,.lst b=>allEq (eP n) a b
|_,.tup _,.lst _=>Y! Z!
|_,.lst _,.tup _=>Y! Z!
|_,.tup _,.non=>Y! Z!
|_,.tup _,.bl _=>Y! Z!
|_,.tup _,.int _=>Y! Z!
|_,.tup _,.str _=>Y! Z!
|_,.non,.tup _=>Y! Z!
|_,.bl _,.tup _=>Y! Z!
|_,.int _,.tup _=>Y! Z!
|_,.str _,.tup _=>Y! Z!
|_,.lst _,.non=>Y! Z!
|_,.lst _,.bl _=>Y! Z!
|_,.lst _,.int _=>Y! Z!
|_,.lst _,.str _=>Y! Z!
|_,.non,.lst _=>Y! Z!
|_,.bl _,.lst _=>Y! Z!
|_,.int _,.lst _=>Y! Z!
|_,.str _,.lst _=>Y! Z!
|_,x,y=>AO x y
def ij:D->D->Y_ Bool:=eP 6
def oEq(a b:D):Res D:=match ij a b with
|some x=>.ok<|.bl x
|none=>.bad
def qv(a b:D):Res D:=match ij a b with
|some x=>.ok<|.bl !x
|none=>.bad
def fH:D->Res D
|.non=>.ok<|.bl AT
|_=>.ok<|.bl Z!
def jC:D->Res D
|.non=>.ok<|.bl Z!
|_=>.ok<|.bl AT
def iE(x:D):Y' D->Y_ Bool
|[]=>Y! Z!
|y::r=>match ij y x,iE x r with
 |some a,Y! b=>Y!<|a||b
 |_,_=>AC
def GY:D->D->Res D
|x,.tup ys=>match iE x ys with
 |some b=>.ok<|.bl b
 |none=>.bad
|x,.lst ys=>match iE x ys with
 |some b=>.ok<|.bl b
 |none=>.bad
|_,_=>.bad
def pe:D->D->Res D
|x,.tup ys=>match iE x ys with
 |some b=>.ok<|.bl !b
 |none=>.bad
|x,.lst ys=>match iE x ys with
 |some b=>.ok<|.bl !b
 |none=>.bad
|_,_=>.bad
def b!:D->Res D
|.str t=>guard (t.length<=line)<|.ok<|.int t.length
|.tup xs=>.ok<|.int xs.length
|.lst xs=>.ok<|.int xs.length
|_=>.bad
inductive Ty where
|bool|int|str|tuple|list|dict
def mK:Ty->D->Bool
|.bool,.bl _=>AT
|.int,.bl _=>AT
|.int,.int _=>AT
|.str,.str _=>AT
|.tuple,.tup _=>AT
|.list,.lst _=>AT
|.dict,.dct _ _=>AT
|_,_=>Z!
def uR(t:Ty)(x:D):Res D:=.ok<|.bl<|mK t x
def rd(n:Nat)(i:Int):Y_ Nat:=if 0<=i then(if i<n then Y! i.toNat else AC)else if -(n:Int)<=i then Y! (i+n).toNat else AC
def a!:D->D->Res D
|.tup xs,.int i=>match (rd xs.length i).bind λ j=>xs[j]? with
 |some v=>.ok v
 |none=>.bad
|.lst xs,.int i=>match (rd xs.length i).bind λ j=>xs[j]? with
 |some v=>.ok v
 |none=>.bad
| .str cs,.int i=>guard (cs.length<=line) (match (rd cs.length i).bind λ j=>cs[j]? with
 |some c=>.ok<|.str [c]
 | none=>.bad)
|_,_=>.bad
def cM(n d:Nat):Y_ Int->Nat
|none=>d
|some i=>if i<0 then(i+n).toNat else min i.toNat n
def cut{α:Type}(xs:Y' α)(lo hi:Y_ Int):Y' α:=(xs.drop<|cM xs.length 0 lo).take<|cM xs.length xs.length hi-cM xs.length 0 lo
abbrev PF:=Env->Res (Y_ Int)
def DN(_:Env):Res (Y_ Int):=.ok AC
def DO(a:EF)(ρ:Env):Res (Y_ Int):=(a ρ).bind λ x=>match x with
|.int i=>.ok<|some i
|_=>.bad
def GX:D->Y_ Int->Y_ Int->Res D
|.str cs,lo,hi=>guard (cs.length<=line)<|.ok<|.str<|cut cs lo hi
|.tup xs,lo,hi=>.ok<|.tup<|cut xs lo hi
|_,_,_=>.bad
def F4(a:EF)(lo hi:PF)(ρ:Env):Res D:=(a ρ).bind λ x=>(lo ρ).bind λ l=>(hi ρ).bind λ h=>GX x l h
def Mm(a:EF)(lo hi:PF)(ρ:Env):Res (Y' D):=(a ρ).bind λ x=>(lo ρ).bind λ l=>(hi ρ).bind λ h=>match x with
|.lst xs=>.ok<|cut xs l h
|_=>.bad
def allB:Y' D->Y_ Bool
|[]=>Y! AT
|.bl b::r=>(allB r).map (b&&·)
|_::_=>AC
def sP:D->Res D
|.lst xs=>match allB xs with
 |some b=>.ok<|.bl b
 |none=>.bad
|_=>.bad
def pA:D->Res (Y' D)
|.tup xs=>.ok xs
|.lst xs=>.ok xs
|.str cs=>.ok<|cs.map λ c=>.str [c]
|_=>.bad
def iR(a:EF)(ρ:Env):Res (Y' D):=(a ρ).bind pA
def zints(lo:Int)(n:Nat):Y' D:=(Do n).map λ i=>D.int<|lo+(i:Nat)
def dX(a:EF)(ρ:Env):Res (Y' D):=(a ρ).bind λ x=>match x with
|.int j=>.ok<|zints 0 j.toNat
|_=>.bad
def u_(a b:EF)(ρ:Env):Res (Y' D):=(a ρ).bind λ x=>(b ρ).bind λ y=>match x,y with
|.int i,.int j=>.ok<|zints i (j-i).toNat
|_,_=>.bad
def br(i:Nat)(d:D)(ρ:Env):Res Env:=.ok<|ρ.set i<|some<|.val d
def jH:Y' Nat->Y' D->Env->Res Env
|[],[],ρ=>.ok ρ
|i::is,d::ds,ρ=>jH is ds<|ρ.set i<|some<|.val d
|_,_,_=>.bad
def iT(is:Y' Nat)(d:D)(ρ:Env):Res Env:=match d with
|.tup ds=>jH is ds ρ
|_=>.bad
def p7(ρ:Env)(i:Nat):Y_ L:=match ρ[i]? with
|some<|some<|.val d=>Y!<|.val d
|some<|some<|.bor d=>Y!<|.bor d
|some<|some<|.CU ks=>Y!<|.CU ks
|some<|some<|.own xs=>Y!<|.bor<|.lst xs
|_=>AC
def fM(ρ:Env)(is:Y' Nat):Env:=is.map<|p7 ρ
def b_(g:GF)(t:TF)(e:EF)(ρ:Env):Y' D->Res (Y' D)
|[]=>.ok []
|d::r=>(g d ρ).bind λ ρ1=>(t ρ1).bind λ c=>if c then(e ρ1).bind λ y=>(b_ g t e ρ r).bind λ ys=>.ok (y::ys)else b_ g t e ρ r
def bY(it:LF)(n:Nat)(is:Y' Nat)(g:GF)(t:TF)(e:EF)(ρ:Env):Res (Y' D):=(it ρ).bind λ ds=>guard (ds.length<=line)<|b_ g t e (Da n AC++fM ρ is) ds
def fi(_:Env):Res Bool:=.ok AT
def bj(ρ:Env):Res Fl:=.ok<|.nx ρ
def aN(a b:SF)(ρ:Env):Res Fl:=(a ρ).bind λ fl=>match fl with
|.nx ρ'=>b ρ'
|o=>.ok o
def bq(i:Nat)(e:EF)(ρ:Env):Res Fl:=(e ρ).bind λ d=>.ok<|.nx<|ρ.set i<|some<|.val d
def nO(i:Nat)(e:LF)(ρ:Env):Res Fl:=(e ρ).bind λ xs=>.ok<|.nx<|ρ.set i<|some<|.own xs
def EK(e:EF)(g:GF)(ρ:Env):Res Fl:=(e ρ).bind λ d=>(g d ρ).bind λ ρ'=>.ok<|.nx ρ'
def gO(t:TF)(a b:SF)(ρ:Env):Res Fl:=(t ρ).bind λ c=>if c then a ρ else b ρ
def aY(e:EF)(ρ:Env):Res Fl:=(e ρ).bind λ d=>.ok<|.rt d
def GL(e:EF)(ρ:Env):Res Fl:=(e ρ).bind λ _=>.ok<|.nx ρ
def c5(i:Nat)(ρ:Env):Env:=match ρ[i]? with
|some<|some<|.own xs=>ρ.set i<|some<|.val<|.lst xs
|_=>ρ
def BB(i:Nat)(a:SF)(ρ:Env):Res Fl:=a<|c5 i ρ
def dR(i:Nat)(e:EF)(ρ:Env):Res Fl:=(e ρ).bind λ d=>match ρ[i]? with
|some<|some<|.own xs=>guard (xs.length<line)<|.ok<|.nx<|ρ.set i<|some<|.own<|xs++[d]
|_=>.bad
def BA(i:Nat)(k e:EF)(ρ:Env):Res Fl:=(e ρ).bind λ d=>(k ρ).bind λ z=>match z,ρ[i]? with
| .int z,Y!<|some<|.own xs=>(match rd xs.length z with
 |some j=>.ok<|.nx<|ρ.set i<|some<|.own<|xs.set j d
 | none=>.bad)
|_,_=>.bad
def jI(g:GF)(b:SF):Y' D->Env->Res Fl
|[],ρ=>.ok<|.nx ρ
|d::r,ρ=>(g d ρ).bind λ ρ1=>(b ρ1).bind λ fl=>match fl with
 |.nx ρ'=>jI g b r ρ'
 |.ct ρ'=>jI g b r ρ'
 |.bk ρ'=>.ok<|.nx ρ'
 |.rt d=>.ok<|.rt d
def jx(it:LF)(g:GF)(b:SF)(ρ:Env):Res Fl:=(it ρ).bind λ ds=>jI g b ds ρ
def start(n:Nat)(ds:Y' D):Env:=ds.map (λ d=>Y!<|.val d)++Da (n-ds.length) AC
def fn(ps n:Nat)(b:SF)(ds:Y' D):Res D:=if ds.length=ps then(match b (start n ds)with
|.ok<|.rt d=>.ok d
|.ok<|.nx _=>.ok .non
| _=>.bad)else .bad
def QY:Bool->D->L
|true,.lst xs=>.bor<|.lst xs
|true,.dct ks vs=>.bor<|.dct ks vs
|_,d=>.val d
def startB(n:Nat)(bs:Y' Bool)(ds:Y' D):Env:=(List.zipWith (λ b d=>Y!<|QY b d) bs ds)++Da (n-ds.length) AC
end Z
end
set_option genSizeOf false
noncomputable section
namespace Z
@[simp] theorem W8(d:D)(ρ:Env):eC d ρ=.ok d:=rfl
@[simp] theorem W9(o:D->D->Res D)(a b:EF)(ρ:Env):eB o a b ρ=(a ρ).bind λ x=>(b ρ).bind λ y=>o x y:=rfl
@[simp] theorem W6(o:D->Res D)(a:EF)(ρ:Env):eU o a ρ=(a ρ).bind o:=rfl
@[simp] theorem W7(l:LF)(ρ:Env):eL l ρ=(l ρ).map D.lst:=rfl
@[simp] theorem Sq(ρ:Env):az ρ=.ok []:=rfl
@[simp] theorem Pd(a:EF)(r:AF)(ρ:Env):ae a r ρ=(a ρ).bind λ x=>(r ρ).bind λ xs=>.ok (x::xs):=rfl
@[simp] theorem O8(f:Y' D->Res D)(as:AF)(ρ:Env):aB f as ρ=(as ρ).bind f:=rfl
@[simp] theorem Oc(ρ:Env):bj ρ=.ok (.nx ρ):=rfl
@[simp] theorem P!(i:Nat)(e:EF)(ρ:Env):bq i e ρ=(e ρ).bind λ d=>.ok (.nx<|ρ.set i<|some<|.val d):=rfl
@[simp] theorem Qa(i:Nat)(e:LF)(ρ:Env):nO i e ρ=(e ρ).bind λ d=>.ok (.nx<|ρ.set i<|some<|.own d):=rfl
@[simp] theorem P_(e:EF)(ρ:Env):aY e ρ=(e ρ).bind λ d=>.ok (.rt d):=rfl
@[simp] theorem S7(t:TF)(a b:SF)(ρ:Env):gO t a b ρ=(t ρ).bind λ c=>if c then a ρ else b ρ:=rfl
@[simp] theorem Up(t:TF)(a b:EF)(ρ:Env):Nq t a b ρ=(t ρ).bind λ c=>if c then a ρ else b ρ:=rfl
@[simp] theorem Qd(it:LF)(g:GF)(b:SF)(ρ:Env):jx it g b ρ=(it ρ).bind λ ds=>jI g b ds ρ:=rfl
def Bx(b:SF):Fl->Res Fl
|.nx ρ'=>b ρ'
|o=>.ok o
@[simp] theorem P?(a b:SF)(ρ:Env):aN a b ρ=(a ρ).bind (Bx b):=rfl
@[simp] theorem N_(b:SF)(ρ:Env):Bx b (.nx ρ)=b ρ:=rfl
@[simp] theorem N?(b:SF)(d:D):Bx b (.rt d)=.ok (.rt d):=rfl
@[simp] theorem Ob(b:SF)(ρ:Env):Bx b (.bk ρ)=.ok (.bk ρ):=rfl
@[simp] theorem Oa(b:SF)(ρ:Env):Bx b (.ct ρ)=.ok (.ct ρ):=rfl
def K7:D->Res Bool
|.bl c=>.ok c
|_=>.bad
@[simp] theorem Vd(a:EF)(ρ:Env):tE a ρ=(a ρ).bind K7:=rfl
@[simp] theorem N3(c:Bool):K7 (.bl c)=.ok c:=rfl
@[simp] theorem N5(ρ:Env):fi ρ=.ok AT:=rfl
@[simp] theorem P0(a b:TF)(ρ:Env):r! a b ρ=(a ρ).bind λ c=>if c then b ρ else .ok Z!:=rfl
@[simp] theorem S0(a b:TF)(ρ:Env):yc a b ρ=(a ρ).bind λ c=>if c then .ok AT else b ρ:=rfl
@[simp] theorem PQ(a:TF)(ρ:Env):lM a ρ=(a ρ).bind λ c=>.ok !c:=rfl
def y9(f:Bool->Res D):D->Res D
|.bl c=>f c
|_=>.bad
@[simp] theorem NA(f:Bool->Res D)(c:Bool):y9 f (.bl c)=f c:=rfl
@[simp] theorem Sf(a b:EF)(ρ:Env):C9 a b ρ=(a ρ).bind (y9 λ c=>if c then b ρ else .ok (.bl Z!)):=rfl
@[simp] theorem Uo(a b:EF)(ρ:Env):KI a b ρ=(a ρ).bind (y9 λ c=>if c then .ok (.bl AT)else b ρ):=rfl
@[simp] theorem Nr(o o':D->D->Res D)(a b c:EF)(ρ:Env):pS o o' a b c ρ=(a ρ).bind λ x=>(b ρ).bind λ y=>(o x y).bind (y9 λ k=>if k then(c ρ).bind λ w=>o' y w else .ok (.bl Z!)):=rfl
@[simp] theorem L5(a b:Int):bS (.int a) (.int b)=.ok (.int<|a+b):=rfl
@[simp] theorem LL(a b:Int):uP (.int a) (.int b)=.ok (.int<|a-b):=rfl
@[simp] theorem LO(a b:Int):nR (.int a) (.int b)=guard (j4 a b) (.ok<|.int<|a*b):=rfl
@[simp] theorem LZ(a b:Int):oDiv (.int a) (.int b)=guard (mj b) (.ok<|.int<|a / b):=rfl
@[simp] theorem LP(a b:Int):oMod (.int a) (.int b)=guard (0<b) (.ok<|.int<|a % b):=rfl
@[simp] theorem Oo(a b:Int):oLt (.int a) (.int b)=.ok (.bl<|decide<|a<b):=rfl
@[simp] theorem Ot(a b:Int):oLe (.int a) (.int b)=.ok (.bl<|decide<|a<=b):=rfl
@[simp] theorem Oq(a b:Y' Nat):oLe (.str a) (.str b)=.ok (.bl<|!(Fg b a)):=rfl
@[simp] theorem Ow(a b:Int):E? (.int a) (.int b)=.ok (.bl<|decide<|b<a):=rfl
@[simp] theorem Ox(a b:Int):Kc (.int a) (.int b)=.ok (.bl<|decide<|b<=a):=rfl
@[simp] theorem Oz(a b:Int):oEq (.int a) (.int b)=.ok (.bl<|a==b):=rfl
@[simp] theorem QC(a b:Bool):oEq (.bl a) (.bl b)=.ok (.bl<|a==b):=rfl
@[simp] theorem Oy(a b:Y' Nat):oEq (.str a) (.str b)=.ok (.bl<|a==b):=rfl
@[simp] theorem Om(a b:Int):qv (.int a) (.int b)=.ok (.bl<|!(a==b)):=rfl
@[simp] theorem Qz(a b:Bool):qv (.bl a) (.bl b)=.ok (.bl<|!(a==b)):=rfl
@[simp] theorem Ol(a b:Y' Nat):qv (.str a) (.str b)=.ok (.bl<|!(a==b)):=rfl
@[simp] theorem LS(a:Y' Nat):b! (.str a)=guard (a.length<=line) (.ok<|.int a.length):=rfl
@[simp] theorem LR(a:Y' D):b! (.tup a)=.ok (.int a.length):=rfl
@[simp] theorem LU(a:Y' D):b! (.lst a)=.ok (.int a.length):=rfl
@[simp] theorem Ou(t:Ty)(x:D):uR t x=.ok (.bl<|mK t x):=rfl
@[simp] theorem Tb(ρ:Env):DN ρ=.ok AC:=rfl
def Ms:D->Res (Y_ Int)
|.int i=>.ok<|some i
|_=>.bad
@[simp] theorem Mr(i:Int):Ms (.int i)=.ok (Y! i):=rfl
@[simp] theorem Tc(a:EF)(ρ:Env):DO a ρ=(a ρ).bind Ms:=rfl
@[simp] theorem Um(a:EF)(lo hi:PF)(ρ:Env):F4 a lo hi ρ=(a ρ).bind λ x=>(lo ρ).bind λ l=>(hi ρ).bind λ h=>GX x l h:=rfl
@[simp] theorem Q6(a:EF)(ρ:Env):iR a ρ=(a ρ).bind pA:=rfl
def GQ:D->Res (Y' D)
|.int j=>.ok<|zints 0 j.toNat
|_=>.bad
@[simp] theorem OO(a:EF)(ρ:Env):dX a ρ=(a ρ).bind GQ:=rfl
@[simp] theorem J!(j:Int):GQ (.int j)=.ok (zints 0 j.toNat):=rfl
def GN:D->D->Res (Y' D)
|.int i,.int j=>.ok<|zints i (j-i).toNat
|_,_=>.bad
@[simp] theorem ON(a b:EF)(ρ:Env):u_ a b ρ=(a ρ).bind λ x=>(b ρ).bind λ y=>GN x y:=rfl
@[simp] theorem J'(i j:Int):GN (.int i) (.int j)=.ok (zints i (j-i).toNat):=rfl
@[simp] theorem Kl(xs:Y' D):pA (.tup xs)=.ok xs:=rfl
@[simp] theorem Kn(xs:Y' D):pA (.lst xs)=.ok xs:=rfl
@[simp] theorem Km(cs:Y' Nat):pA (.str cs)=.ok (cs.map λ c=>.str [c]):=rfl
@[simp] theorem O4(i:Nat)(d:D)(ρ:Env):br i d ρ=.ok (ρ.set i<|some<|.val d):=rfl
theorem cY(it:LF)(n:Nat)(is:Y' Nat)(g:GF)(t:TF)(e:EF)(ρ:Env):bY it n is g t e ρ=(it ρ).bind λ ds=>guard (ds.length<=line) (b_ g t e (Da n AC++fM ρ is) ds):=rfl
@[simp] theorem OE(as:AF)(ρ:Env):ft as ρ=(as ρ).bind λ xs=>guard (xs.length<=line) (.ok xs):=rfl
@[simp] theorem Sd(as:AF)(ρ:Env):d? as ρ=(as ρ).bind λ xs=>guard (xs.length<=line) (.ok<|.tup xs):=rfl
def cf:Res Fl->Res D
|.ok<|.rt d=>.ok d
|.ok<|.nx _=>.ok .non
|_=>.bad
@[simp] theorem Of(d:D):cf (.ok<|.rt d)=.ok d:=rfl
@[simp] theorem Og(ρ:Env):cf (.ok<|.nx ρ)=.ok .non:=rfl
theorem c9(ps n:Nat)(b:SF)(ds:Y' D)(h:ds.length=ps):fn ps n b ds=cf (b<|start n ds):=by
 unfold fn;rw[Z1 h];cases b _ with
 |bad=>rfl
 |ok f=>cases f<;>rfl
theorem xh(h0:0<=i)(h1:i<cs.length)(hl:cs.length<=line):∃c∈cs,a! (.str cs) (.int i)=.ok (.str [c]):=by
 have hj:i.toNat<cs.length:=by lia
 refine⟨cs[i.toNat],A90 hj,?_⟩;simp[a!,hl,rd,h0,h1]
@[simp] theorem u9(lo:Int)(n:Nat):(zints lo n).length=n:=by simp[zints]
theorem ml(xs:Y' α)(lo hi:Y_ Int):(cut xs lo hi).length<=xs.length:=by unfold cut;rw[A00,B43];lia
@[simp] theorem Tn(xs:Y' D)(a:EF)(lo hi:PF)(ρ:Env)(h:a ρ=.ok (.lst xs)):Mm a lo hi ρ=(lo ρ).bind λ l=>(hi ρ).bind λ h=>.ok (cut xs l h):=by unfold Mm;rw[h];rfl
theorem E7(cs:Y' Nat)(lo hi:Y_ Int)(h:cs.length<=line):GX (.str cs) lo hi=.ok (.str<|cut cs lo hi):=guard_pos h
theorem pZ:∀ds,(∀d∈ds,(g d ρ).bind e=.ok (h d))->b_ g fi e ρ ds=.ok (ds.map h)
|[],_=>rfl
|d::ds,k=>by have h1:=k d Z7;have h2:=pZ ds λ x hx=>k x<|Y6 _ hx;obtain⟨ρ1,e1,e2⟩:=Res.aw h1;simp[b_,e1,e2,h2]
theorem kF:∀ds,(∀d∈ds,∃ρ1,g d ρ=.ok ρ1/\t ρ1=.ok (p d)/\(p d=AT->e ρ1=.ok (h d)))->b_ g t e ρ ds=.ok ((ds.filter p).map h)
|[],_=>rfl
|d::ds,k=>by
 obtain⟨ρ1,e1,e2,e3⟩:=k d Z7;have h2:=kF ds λ x hx=>k x<|Y6 _ hx;cases hp:p d with
 |true=>simp[b_,e1,e2,hp,e3 hp,h2]
 |false=>simp[b_,e1,e2,hp,h2]
theorem y_:∀(bs:Y' Bool),allB (bs.map D.bl)=Y! (bs.all id)
|[]=>rfl
|b::bs=>by simp[allB,y_ bs]
@[simp high] theorem X4(a:α)(l:Y' α):(a::l)[0]?=Y! a:=rfl
@[simp high] theorem X3(a:α)(l:Y' α)(n:Nat):(a::l)[n+1]?=l[n]?:=rfl
@[simp high] theorem HA(a x:α)(l:Y' α):(a::l).set 0 x=x::l:=rfl
@[simp high] theorem XB(a x:α)(l:Y' α)(n:Nat):(a::l).set (n+1) x=a::l.set n x:=rfl
end Z
end
set_option maxHeartbeats 4000000
namespace ZS
open PySem PySem.Spec PyProof.Rows L2
abbrev Fl(X:Cx)(x:Str):Prop:=X.fn x=AT\/X.env.scope.names.lookup x=Y! .local
end ZS
local macro_rules
| `(tactic|trivial)=>`(tactic|first|exact ZF rfl|exact Tl rfl)
open ZS (Fl)
namespace ZS
open PySem PySem.Spec PyProof.Rows L2
abbrev St:=L2.St
def zV:Sum Int (Y' Nat)->Key
|.inl i=>.inl i
|.inr cs=>.inr ⟨cs.toArray⟩
def Hh(K:Ch)(H:Hp)(a:Z')(xs:Y' V):Prop:=
 (∃ o,H a=Y! (.c5 o<|.lst xs)) \/
  ∃(o:ζ) (aU:Array Z_) (n:Nat),K.lookup a=Y! o/\o.cls=.type "list" /\ o.dict=AC/\o.data=.seq aU n/\aU.size<=sizeLine/\Vals xs aU.toList
theorem Hh.sq{K:Ch}(h:Hh K H a xs):gJ K H a xs:=by
 rcases h with⟨o,h⟩|h
 .exact .inl<|.inr ⟨o,h⟩
 .exact .inr h
structure iF(H H':Hp):Prop where
 tup:∀a xs,H a=Y! (.tup xs)->H' a=Y! (.tup xs)
 c5:∀a o u,H a=Y! (.c5 o u)->H' a=Y! (.c5 o u)
theorem iF.refl(H:Hp):iF H H:=⟨λ _ _ h=>h,λ _ _ _ h=>h⟩
theorem iF.trans{H H1 H2:Hp}(a:iF H H1)(b:iF H1 H2):iF H H2:=⟨λ c xs h=>b.tup c xs<|a.tup c xs h,λ c o u h=>b.c5 c o u<|a.c5 c o u h⟩
theorem lC(s:ax H H'):iF H H':=⟨λ _ _ h=>s _ _ h,λ _ _ _ h=>s _ _ h⟩
theorem Ey(h:H p=Y! o)(n1:∀xs,o≠.tup xs)(n2:∀ob x,o≠.c5 ob x):iF H (upd H p u):=
 ⟨λ a xs e=>by rw[aA (by rintro rfl;rw[h]at e;exact n1 xs<|Y4 e)];exact e,λ a ob x e=>by rw[aA (by rintro rfl;rw[h]at e;exact n2 ob x<|Y4 e)];exact e⟩
theorem fS(h:H p=Y! (.lst xs)):iF H (upd H p u):=Ey h (λ _ z=>nomatch z) λ _ _ z=>nomatch z
theorem Hh.mono{K:Ch}(e:iF H H')(h:Hh K H a xs):Hh K H' a xs:=by
 rcases h with⟨o,h⟩|h
 .exact .inl ⟨o,e.c5 _ _ _ h⟩
 .exact .inr h
theorem fj{K:Ch}(e:iF H H')(h:jW K H a xs):jW K H' a xs:=by
 rcases h with(h|⟨o,h⟩)|h
 .exact .inl<|.inl<|e.tup _ _ h
 .exact .inl<|.inr ⟨o,e.c5 _ _ _ h⟩
 .exact .inr h
mutual
def Den(K:Ch)(H:Hp):Z.D->V->Prop
|.non,v=>v=.non
|.bl b,v=>v=.bl b
|.int i,v=>v=.int i
|.str cs,v=>v=.str ⟨cs.toArray⟩
|.tup ds,v=>∃a vs,v=.ref a/\jW K H a vs/\ay K H ds vs
|.lst ds,v=>∃a vs,v=.ref a/\Hh K H a vs/\ay K H ds vs
|.dct ks ds,v=>∃a o dG,v=.ref a/\H a=Y! (.c5 o<|.dK dG)/\dG.map (·.1)=ks.map zV/\ay K H ds (dG.map (·.2))/\∀i r,ks≠.inl i::r
def ay(K:Ch)(H:Hp):Y' Z.D->Y' V->Prop
|[],vs=>vs=[]
|d::ds,vs=>∃v r,vs=v::r/\Den K H d v/\ay K H ds r
end
section
variable {K:Ch}{H H':Hp}
mutual
theorem Den.mono(e:iF H H'):∀(d:Z.D)(v:V),Den K H d v->Den K H' d v
|.non,v,h=>by simp only[Den]at h ⊢;exact h
|.bl b,v,h=>by simp only[Den]at h ⊢;exact h
|.int i,v,h=>by simp only[Den]at h ⊢;exact h
|.str cs,v,h=>by simp only[Den]at h ⊢;exact h
|.tup ds,v,h=>by simp only[Den]at h ⊢;obtain⟨a,vs,e1,q,r⟩:=h;exact⟨a,vs,e1,fj e q,ay.mono e ds vs r⟩
|.lst ds,v,h=>by simp only[Den]at h ⊢;obtain⟨a,vs,e1,q,r⟩:=h;exact⟨a,vs,e1,q.mono e,ay.mono e ds vs r⟩
|.dct ks ds,v,h=>by simp only[Den]at h ⊢;obtain⟨a,o,dG,e1,q,k,r,n⟩:=h;exact⟨a,o,dG,e1,e.c5 _ _ _ q,k,ay.mono e ds _ r,n⟩
theorem ay.mono(e:iF H H'):∀(ds:Y' Z.D)(vs:Y' V),ay K H ds vs->ay K H' ds vs
|[],vs,h=>by simp only[ay]at h ⊢;exact h
|d::ds,vs,h=>by simp only[ay]at h ⊢;obtain⟨v,r,e1,q,t⟩:=h;exact⟨v,r,e1,Den.mono e d v q,ay.mono e ds r t⟩
end
theorem Den.up(h:Den K H d v)(e:ax H H'):Den K H' d v:=Den.mono (lC e) d v h
theorem Den.ups(h:Den K H d v)(e:iF H H'):Den K H' d v:=Den.mono e d v h
theorem ay.ups(h:ay K H ds vs)(e:iF H H'):ay K H' ds vs:=ay.mono e ds vs h
theorem ay.up(h:ay K H ds vs)(e:ax H H'):ay K H' ds vs:=ay.mono (lC e) ds vs h
theorem ay.nil:ay K H [] []:=by simp only[ay]
theorem ay.cons{d:Z.D}{ds:Y' Z.D}{v:V}{vs:Y' V}(h:Den K H d v)(t:ay K H ds vs):ay K H (d::ds) (v::vs):=by simp only[ay];exact⟨v,vs,rfl,h,t⟩
theorem ay.length:∀{ds}{vs},ay K H ds vs->vs.length=ds.length
|[],vs,h=>by simp only[ay]at h;subst h;rfl
|d::ds,vs,h=>by simp only[ay]at h;obtain⟨v,r,rfl,_,t⟩:=h;simp[ay.length t]
theorem ay.get:∀{ds}{vs}{i:Nat} {d},ay K H ds vs->ds[i]?=Y! d->∃v,vs[i]?=Y! v/\Den K H d v
|[],_,_,_,_,e=>by simp at e
|x::ds,vs,0,d,h,e=>by simp only[ay]at h;obtain⟨v,r,rfl,q,_⟩:=h;simp at e;subst e;exact⟨v,rfl,q⟩
|x::ds,vs,i+1,d,h,e=>by simp only[ay]at h;obtain⟨v,r,rfl,_,t⟩:=h;obtain⟨u,h1,h2⟩:=ay.get t (by simpa using e);exact⟨u,by simpa using h1,h2⟩
theorem ay.append:∀{ds es}{vs us},ay K H ds vs->ay K H es us->ay K H (ds++es) (vs++us)
|[],_,_,_,h,g=>by simp only[ay]at h;subst h;exact g
|d::ds,es,vs,us,h,g=>by simp only[ay]at h;obtain⟨v,r,rfl,q,t⟩:=h;exact ay.cons q<|ay.append t g
theorem ay.drop:∀{ds}{vs} n,ay K H ds vs->ay K H (ds.drop n) (vs.drop n)
|_,_,0,h=>by simpa using h
|[],vs,_+1,h=>by simp only[ay]at h;subst h;simpa using ay.nil
|d::ds,vs,n+1,h=>by simp only[ay]at h;obtain⟨v,r,rfl,q,t⟩:=h;simpa using ay.drop n t
theorem ay.take:∀{ds}{vs} n,ay K H ds vs->ay K H (ds.take n) (vs.take n)
|_,_,0,h=>by simpa using ay.nil
|[],vs,_+1,h=>by simp only[ay]at h;subst h;simpa using ay.nil
|d::ds,vs,n+1,h=>by simp only[ay]at h;obtain⟨v,r,rfl,q,t⟩:=h;simpa using ay.cons q (ay.take n t)
theorem ay.set:∀{ds}{vs}{d}{v} n,ay K H ds vs->Den K H d v->ay K H (ds.set n d) (vs.set n v)
|[],vs,_,_,_,h,_=>by simp only[ay]at h;subst h;simpa using ay.nil
|x::ds,vs,d,v,0,h,q=>by simp only[ay]at h;obtain⟨u,r,rfl,_,t⟩:=h;simpa using ay.cons q t
|x::ds,vs,d,v,n+1,h,q=>by simp only[ay]at h;obtain⟨u,r,rfl,p,t⟩:=h;simpa using ay.cons p (ay.set n t q)
theorem ay.zints:∀(ns:Y' Int),ay K H (ns.map Z.D.int) (ns.map V.int)
|[]=>ay.nil
|n::ns=>ay.cons (by simp only[Den])<|ay.zints ns
def bc(K:Ch)(H:Hp)(d:Z.D)(v:V):Prop:=Den K H d v\/∃ds a vs,d=.lst ds/\v=.ref a/\H a=Y! (.lst vs)/\ay K H ds vs
theorem bc.up(h:bc K H d v)(e:ax H H'):bc K H' d v:=by
 rcases h with h|⟨ds,a,vs,e1,e2,q,t⟩
 .exact .inl<|h.up e
 .exact .inr ⟨ds,a,vs,e1,e2,e _ _ q,t.up e⟩
theorem bc.mz(h:bc K H d v)(n:∀ds,d≠.lst ds):Den K H d v:=by
 rcases h with h|⟨ds,a,vs,e1,_⟩
 .exact h
 .exact absurd e1<|n ds
theorem bc.non(h:bc K H .non v):v=.non:=by have:=h.mz λ _ z=>nomatch z;simpa only[Den]using this
theorem bc.bl(h:bc K H (.bl b) v):v=.bl b:=by have:=h.mz λ _ z=>nomatch z;simpa only[Den]using this
theorem bc.int(h:bc K H (.int i) v):v=.int i:=by have:=h.mz λ _ z=>nomatch z;simpa only[Den]using this
theorem bc.str(h:bc K H (.str cs) v):v=.str ⟨cs.toArray⟩:=by have:=h.mz λ _ z=>nomatch z;simpa only[Den]using this
theorem bc.tup{ds:Y' Z.D}{v:V}(h:bc K H (.tup ds) v):∃a vs,v=.ref a/\jW K H a vs/\ay K H ds vs:=by have:=h.mz λ _ z=>nomatch z;simpa only[Den]using this
theorem bc.lst{ds:Y' Z.D}{v:V}(h:bc K H (.lst ds) v):∃a vs,v=.ref a/\gJ K H a vs/\ay K H ds vs:=by
 rcases h with h|⟨es,a,vs,e1,e2,q,t⟩
 .simp only[Den]at h;obtain⟨a,vs,e,q,t⟩:=h;exact⟨a,vs,e,q.sq,t⟩
 .cases e1;exact⟨a,vs,e2,.inl<|.inl q,t⟩
theorem bc.dct(h:bc K H (.dct ks ds) v):∃a o dG,v=.ref a/\H a=Y! (.c5 o<|.dK dG)/\dG.map (·.1)=ks.map zV/\ay K H ds (dG.map (·.2))/\∀i r,ks≠.inl i::r:=by have:=h.mz λ _ z=>nomatch z;simpa only[Den]using this
theorem j9:Den K H .non .non:=by simp only[Den]
theorem cy:Den K H (.bl b) (.bl b):=by simp only[Den]
theorem cu:Den K H (.int i) (.int i):=by simp only[Den]
theorem j8:Den K H (.str cs) (.str ⟨cs.toArray⟩):=by simp only[Den]
theorem d_(h:jW K H a vs)(t:ay K H ds vs):Den K H (.tup ds) (.ref a):=by simp only[Den];exact⟨a,vs,rfl,h,t⟩
theorem tK(h:Hh K H a vs)(t:ay K H ds vs):Den K H (.lst ds) (.ref a):=by simp only[Den];exact⟨a,vs,rfl,h,t⟩
end
def vW(K:Ch)(c:Str)(C:Z'):Prop:=EQ K mainGlobals c=Y! (Y!<|.ref C)/\UG K C
def KS(K:Ch)(H:Hp)(kd:Nat)(ks:Y' (Y' Nat))(ds:Y' Z.D)(u:HO):Prop:=
 (kd=0/\ks=Z.G?.take ks.length/\∃ C dx fs,u=.ins C dx fs/\vW K "Desk" C/\fs.map (·.1)=ks.map (λ c=>(⟨c.toArray⟩:Str))/\ay K H ds (fs.map (·.2))) \/
  kd=1/\∃dG:Y' (Key×V),u=.dK dG/\dG.map (·.1)=ks.map (λ c=>(Sc ⟨c.toArray⟩:Key))/\ay K H ds (dG.map (·.2))
theorem KS.ups{K:Ch}(h:KS K H kd ks ds u)(e:iF H H'):KS K H' kd ks ds u:=by
 rcases h with⟨h0,hk,C,dx,fs,h1,h2,h3,h4⟩|⟨h0,dG,h1,h2,h3⟩
 .exact .inl ⟨h0,hk,C,dx,fs,h1,h2,h3,h4.ups e⟩
 .exact .inr ⟨h0,dG,h1,h2,h3.ups e⟩
def Ut(K:Ch)(H:Hp)(d:Z.D)(v:V):Prop:=∃a kd ks ds u,d=Z.Bc a kd ks ds/\v=.ref a/\H a=Y! u/\KS K H kd ks ds u
def kn(K:Ch)(H:Hp)(d:Z.D)(v:V):Prop:=bc K H d v\/Ut K H d v
theorem kn.up{K:Ch}(h:kn K H d v)(e:ax H H'):kn K H' d v:=by
 rcases h with h|⟨a,kd,ks,ds,u,e1,e2,q,t⟩
 .exact .inl<|h.up e
 .exact .inr ⟨a,kd,ks,ds,u,e1,e2,e _ _ q,t.ups<|lC e⟩
def zd(K:Ch)(H:Hp)(d:Z.D)(v:V):Prop:=bc K H d v\/∃a kd ks ds u,d=Z.Bc a kd ks ds/\v=.ref a/\H a=Y! u
theorem kn.z{K:Ch}(h:kn K H d v):zd K H d v:=by
 rcases h with h|⟨a,kd,ks,ds,u,e1,e2,q,_⟩
 .exact .inl h
 .exact .inr ⟨a,kd,ks,ds,u,e1,e2,q⟩
theorem kn.Bc{K:Ch}(h:kn K H (.dct (.inl a::r) ds) v):Ut K H (.dct (.inl a::r) ds) v:=by
 rcases h with h|h
 .obtain⟨_,_,_,_,_,_,_,n⟩:=h.dct;exact absurd rfl<|n _ _
 .exact h
theorem zd.re{K:Ch}(h:zd K H0 d v)(r:kn K H d v)(h0:ax H0 H)(hs:ax H0 H')(st:iF H H'):kn K H' d v:=by
 rcases h with h|⟨a,kd,ks,ds,u,rfl,rfl,q⟩
 .exact .inl<|h.up hs
 .obtain⟨a',VC,Tp,Sh,u',e1,e2,q',t⟩:=r.Bc;cases e2;have:=(h0 _ _ q).symm.trans q';cases this;exact .inr ⟨_,VC,Tp,Sh,u,e1,rfl,hs _ _ q,t.ups st⟩
theorem kn.lst{K:Ch}{H:Hp}{ds:Y' Z.D}{v:V}(h:kn K H (.lst ds) v):bc K H (.lst ds) v:=by
 rcases h with h|⟨a,kd,ks,es,u,e1,_⟩
 .exact h
 .cases e1
def R?(x:Y' Int×Z'×Z_):DictEntry:={hash:=reduceHash<|Builtin.Tuple.tupleHashOf<|x.1.map hashInt,key:=.ref x.2.1,val:=x.2.2}
def NT(a:Z')(ks:Y' (Y' Int))(as:Y' Z')(h:η):Prop:=ks.length<=sizeLine/\(a==sysModules)=Z!/\∃(xs:Y' (Y' Int×Z'×Z_))(o:ζ)(es:Array DictEntry)(ep:Nat),xs.map (·.1)=ks/\xs.map (·.2.1)=as/\h.get? a=Y! o/\o.ExactDict/\o.data=.dict es ep/\es.toList=xs.map R?/\ks.Nodup
abbrev NS(a:Z')(ks:Y' (Y' Int))(as:Y' Z'):HO:=.ext<|NT a ks as
def m?(K:Ch)(H:Hp)(ks:Y' (Y' Int))(as:Y' Z'):Prop:=Paired (λ(k:Y' Int) (b:Z')=>Den K H (.tup<|k.map .int)<|.ref b) ks as
def Vx(dG:Y' (Y' Nat×Y' Nat)):Y' (Key×V):=dG.map λ p=>(Sc ⟨p.1.toArray⟩,V.str ⟨p.2.toArray⟩)
def UE(a:Z'):Z.DK->Y' Z'->HO
|.inl ks,as=>NS a ks as
|.inr dG,_=>.dK<|Vx dG
def Pr(K:Ch)(H:Hp):Z.DK->Y' Z'->Prop
|.inl ks,as=>m? K H ks as
|.inr _,_=>True
theorem yY:UE a k as≠.lst xs:=by cases k<;>exact λ z=>nomatch z
def Vy(ps:Y' (Int×Int)):Y' (Key×V):=ps.map λ p=>(UF p.1,V.int p.2)
def nF(K:Ch)(C:Z'):Bool:=match K.lookup C with
|some ⟨.type "type",_,.cls cd,sl⟩=>(match cd.mro,sl.toList with
 |.ref C'::tl,[_,_,_,_,Y! (.builtin n),_]=>C'==C&&n=="ValueError.__new__" && !cd.hasDel&&tl.contains (.type "BaseException")
 | _,_=>Z!)
|_=>Z!
def XC(K:Ch)(c:Y' Nat)(C:Z'):Prop:=EQ K mainGlobals ⟨c.toArray⟩=Y! (Y!<|.ref C)/\nF K C=AT
def XD(K:Ch)(H:Hp):Y_ Z'->Y' (Y' Nat×Z.D)->Prop
|none,fs=>fs=[]
|some dx,fs=>fs≠[]/\∃od dG,H dx=Y! (.c5 od<|.xd dG)/\Paired (λ(p:Str×V) (q:Y' Nat×Z.D)=>p.1=⟨q.1.toArray⟩/\Den K H q.2 p.2) dG fs
theorem XD.ups{K:Ch}(h:XD K H dd fs)(e:iF H H'):XD K H' dd fs:=by
 cases dd with
 |none=>exact h
 |some dx=>obtain⟨n,od,dG,q,p⟩:=h;exact⟨n,od,dG,e.c5 _ _ _ q,Paired.Cc p λ _ _ z=>⟨z.1,z.2.ups e⟩⟩
def lA(K:Ch)(H:Hp)(c:Y' Nat×Y' (Y' Nat×Z.D))(C:Z')(dd:Y_ Z'):Prop:=XC K c.1 C/\XD K H dd c.2
theorem lA.ups{K:Ch}(h:lA K H c C dd)(e:iF H H'):lA K H' c C dd:=⟨h.1,h.2.ups e⟩
def RL(K:Ch)(H:Hp):Z.L->V->Prop
|.val d,v=>Den K H d v
|.own ds,v=>∃a vs,v=.ref a/\H a=Y! (.lst vs)/\ay K H ds vs
|.bor d,v=>kn K H d v
|.dc k,v=>∃a as,v=.ref a/\H a=Y! (UE a k as)/\Pr K H k as
|.CU ks,v=>∃a o as,v=.ref a/\H a=Y! (.c5 o<|NS a ks as)/\m? K H ks as
|.Mw ps,v=>∃a o,v=.ref a/\H a=Y! (.c5 o<|.dK<|Vy ps)
|.exc c,v=>∃a o u C,v=.ref a/\H a=Y! (.c5 o u)/\o.cls=.ref C/\(∃vs,o.data=.fields vs)/\lA K H c C o.dict
theorem m?.ups{K:Ch}(h:m? K H ks as)(e:iF H H'):m? K H' ks as:=Paired.Cc h λ _ _ d=>Den.ups d e
theorem Pr.ups{K:Ch}(h:Pr K H k as)(e:iF H H'):Pr K H' k as:=by
 cases k with
 |inl ks=>exact m?.ups (h) e
 |inr _=>exact PP
structure RE(K:Ch)(H:Hp)(σ:St)(ρ:Z.Env):Prop where
 len:ρ.length=σ.length
 get:∀(i:Nat)(l:Z.L),ρ[i]?=Y! (Y! l)->∃v,σ[i]?=Y! (Y! v)/\RL K H l v
 sep:∀(i j:Nat)(xs ys:List Z.D)(a:Addr),ρ[i]?=Y! (Y!<|.own xs)->ρ[j]?=Y! (Y!<|.own ys)->σ[i]?=Y! (Y!<|.ref a)->σ[j]?=Y! (Y!<|.ref a)->i=j
section
variable {K:Ch}{H H':Hp}{σ:St}{ρ:Z.Env}
theorem RL.up(h:RL K H l v)(e:ax H H'):RL K H' l v:=by
 cases l with
 |val d=>exact Den.up (h) e
 |own ds=>obtain⟨a,vs,e1,q,t⟩:=h;exact⟨a,vs,e1,e _ _ q,t.up e⟩
 |bor d=>exact kn.up (h) e
 |dc ks=>obtain⟨a,as,e1,q,t⟩:=h;exact⟨a,as,e1,e _ _ q,t.ups<|lC e⟩
 |CU ks=>obtain⟨a,o,as,e1,q,t⟩:=h;exact⟨a,o,as,e1,e _ _ q,t.ups<|lC e⟩
 |Mw ps=>obtain⟨a,o,e1,q⟩:=h;exact⟨a,o,e1,e _ _ q⟩
 |exc c=>obtain⟨a,o,u,C,e1,q,r1,r2,r3⟩:=h;exact⟨a,o,u,C,e1,e _ _ q,r1,r2,r3.ups<|lC e⟩
theorem RE.up(h:RE K H σ ρ)(e:ax H H'):RE K H' σ ρ:=
 ⟨h.len,λ i l q=>let ⟨v,h1,h2⟩:=h.get i l q;⟨v,h1,h2.up e⟩,h.sep⟩
theorem bV(h:H a=AC):ax H (upd H a o):=λ b u e=>by rw[aA<|aP e h];exact e
end
def tZ(K:Ch)(f:Z.EF):TE:=λ σ H Q=>∃ρ d,RE K H σ ρ/\f ρ=.ok d/\∀v H',ax H H'->Den K H' d v->Q v H'
def GI(K:Ch)(f:Z.EF):TE:=λ σ H Q=>∃ρ d,RE K H σ ρ/\f ρ=.ok d/\∀v H',ax H H'->bc K H' d v->Q v H'
def SX(K:Ch)(f:Z.LF):TE:=λ σ H Q=>∃ρ ds,RE K H σ ρ/\f ρ=.ok ds/\∀a vs H',ax H H'->H a=AC->H' a=Y! (.lst vs)->ay K H' ds vs->Q (.ref a) H'
def K9(K:Ch)(f:Z.TF):TT:=λ σ H Q=>∃ρ b,RE K H σ ρ/\f ρ=.ok b/\∀H',ax H H'->Q b H'
def U6(K:Ch)(f:Z.AF):TA:=λ σ H Q=>∃ρ ds,RE K H σ ρ/\f ρ=.ok ds/\∀vs H',ax H H'->ay K H' ds vs->Q vs H'
def U1(K:Ch)(f:Z.PF):TO:=λ σ H Q=>∃ρ o,RE K H σ ρ/\f ρ=.ok o/\∀H',ax H H'->Q o H'
abbrev DE(X:Cx)(e:γ)(f:Z.EF):Prop:=PE X e<|tZ X.K f
structure _root_.ZQ.QE(X:Cx)(e:Expr)(f:Z.EF):Prop where p:DE X e f
abbrev DW(X:Cx)(e:γ)(f:Z.EF):Prop:=PE X e<|GI X.K f
structure _root_.ZQ.QW(X:Cx)(e:Expr)(f:Z.EF):Prop where p:DW X e f
abbrev DL(X:Cx)(e:γ)(f:Z.LF):Prop:=PE X e<|SX X.K f
structure _root_.ZQ.QL(X:Cx)(e:Expr)(f:Z.LF):Prop where p:DL X e f
abbrev DT(X:Cx)(e:γ)(f:Z.TF):Prop:=PT X e<|K9 X.K f
structure _root_.ZQ.QT(X:Cx)(e:Expr)(f:Z.TF):Prop where p:DT X e f
abbrev Xq(X:Cx)(e:γ)(f:Z.TF):Prop:=PW X e<|K9 X.K f
structure _root_.ZQ.JZ(X:Cx)(e:Expr)(f:Z.TF):Prop where p:Xq X e f
abbrev DA(X:Cx)(es:Y' γ)(f:Z.AF):Prop:=PA X es<|U6 X.K f
structure _root_.ZQ.QA(X:Cx)(es:List Expr)(f:Z.AF):Prop where p:DA X es f
abbrev DP(X:Cx)(e:Y_ γ)(f:Z.PF):Prop:=PO X e<|U1 X.K f
structure _root_.ZQ.QP(X:Cx)(e:Option Expr)(f:Z.PF):Prop where p:DP X e f
section
variable {X:Cx}{e a b c:γ}{es:Y' γ}{pos:Pos}{f fa fb fc:Z.EF}
theorem PE.imp(h:PE X e t)(k:∀σ H Q,t' σ H Q->t σ H Q):PE X e t':=λ π s σ H Q I w=>h π s σ H Q I<|k σ H Q w
theorem PT.imp(h:PT X e t)(k:∀σ H Q,t' σ H Q->t σ H Q):PT X e t':=λ π s σ H Q I w=>h π s σ H Q I<|k σ H Q w
theorem PW.imp(h:PW X e t)(k:∀σ H Q,t' σ H Q->t σ H Q):PW X e t':=λ whole π s σ H Q I w=>h whole π s σ H Q I<|k σ H Q w
theorem PA.imp(h:PA X es t)(k:∀σ H Q,t' σ H Q->t σ H Q):PA X es t':=λ p π s σ H Q I w=>h p π s σ H Q I<|k σ H Q w
theorem PO.imp(h:PO X o t)(k:∀σ H Q,t' σ H Q->t σ H Q):PO X o t':=λ π s σ H Q I w=>h π s σ H Q I<|k σ H Q w
theorem Dj(h:PE X e (tC v))(hd:∀H,Den X.K H d v):DE X e (Z.eC d):=PE.imp h λ σ H Q ⟨ρ,d',_,e,k⟩=>by have e':=e;cases e';exact k v H (ax.refl H)<|hd H
theorem _root_.ZQ.av:ZQ.QE X (.Constant (.int i) j pos) (Z.eC<|.int i):=⟨Dj H! λ _=>cu⟩
theorem _root_.ZQ.dM:ZQ.QE X (.Constant (.bool x) j pos) (Z.eC<|.bl x):=⟨Dj LG λ _=>cy⟩
theorem _root_.ZQ.iX:ZQ.QE X (.Constant .none j pos) (Z.eC .non):=⟨Dj o9 λ _=>j9⟩
theorem _root_.ZQ.bJ(h:x=⟨cs.toArray⟩:=by decide +kernel):ZQ.QE X (.Constant (.str x) j pos) (Z.eC<|.str cs):=⟨by subst h;exact Dj HY λ _=>j8⟩
theorem Nn(h:Z.eV i ρ=.ok d):ρ[i]?=Y! (Y!<|.val d):=by
 unfold Z.eV at h;split at h
 .rename_i d' q;cases h;exact q
 .cases h
theorem Nm(h:Z.eW i ρ=.ok d):ρ[i]?=Y! (Y!<|.val d)\/(∃xs,ρ[i]?=Y! (Y!<|.own xs)/\d=.lst xs)\/∃xs,ρ[i]?=Y! (Y!<|.bor<|.lst xs)/\d=.lst xs:=by
 unfold Z.eW at h;split at h
 .rename_i d' q;cases h;exact .inl q
 .rename_i xs q;cases h;exact .inr<|.inl ⟨xs,q,rfl⟩
 .rename_i xs q;cases h;exact .inr<|.inr ⟨xs,q,rfl⟩
 .cases h
theorem JE(h:PE X e (fE i)):DE X e (Z.eV i):=PE.imp h λ σ H Q ⟨ρ,d,r,e,k⟩=>by obtain⟨v,h1,h2⟩:=r.get i _ (Nn e);exact⟨v,h1,k v H (ax.refl H) h2⟩
theorem Jy(h:PE X e (fE i)):DW X e (Z.eW i):=PE.imp h λ σ H Q ⟨ρ,d,r,e,k⟩=>by
 rcases Nm e with q|⟨xs,q,rfl⟩|⟨xs,q,rfl⟩
 rotate_left;rotate_left
 .obtain⟨v,h1,h2⟩:=r.get i _ q;exact⟨v,h1,k v H (ax.refl H)<|kn.lst h2⟩
 .obtain⟨v,h1,h2⟩:=r.get i _ q;exact⟨v,h1,k v H (ax.refl H)<|.inl h2⟩
 .obtain⟨v,h1,a,vs,rfl,h2,h3⟩:=r.get i _ q;exact⟨_,h1,k _ H (ax.refl H)<|.inr ⟨xs,a,vs,rfl,rfl,h2,h3⟩⟩
theorem _root_.ZQ.ag(hN:X.N[i]?=Y! x:=by rfl)(hv:AD X.env.scope x:=by first| exact ZF rfl| exact Tl<|Or.inl rfl| exact Tl<|Or.inr rfl)(hd:(x==("__debug__"))=Z!:=by decide +kernel)
 (lD:(x==("__classdict__"))=Z!:=by decide +kernel):ZQ.QE X (.Name x pos) (Z.eV i):=⟨JE<|iL hN hv hd lD⟩
theorem _root_.ZQ.aj(hN:X.N[i]?=Y! x:=by rfl)(hv:AD X.env.scope x:=by first| exact ZF rfl| exact Tl<|Or.inl rfl| exact Tl<|Or.inr rfl)(hd:(x==("__debug__"))=Z!:=by decide +kernel)
 (lD:(x==("__classdict__"))=Z!:=by decide +kernel):ZQ.QW X (.Name x pos) (Z.eW i):=⟨Jy<|iL hN hv hd lD⟩
theorem Gd(hg:Gl X x)(hm:X.mg x=Y! u)(r:RelV v u)(hd:∀H,Den X.K H d v)(hb:(x==("__debug__"))=Z!:=by decide +kernel):DE X (.Name x pos) (Z.eC d):=
 Dj (sD hg hm r hb) hd
theorem _root_.ZQ.aq(h:ZQ.QE X e f):ZQ.QW X e f:=⟨PE.imp h.p λ σ H Q ⟨ρ,d,r,e,k⟩=>⟨ρ,d,r,e,λ v H' s q=>k v H' s<|.inl q⟩⟩
theorem _root_.ZQ.n4(h:ZQ.QL X e l):ZQ.QW X e (Z.eL l):=⟨PE.imp h.p λ σ H Q ⟨ρ,d,r,e,k⟩=>by
 unfold Z.eL at e;cases q:l ρ with
 |bad=>rw[q]at e;cases e
 |ok ds=>rw[q]at e;cases e;exact⟨ρ,ds,r,q,λ a vs H' s hn h1 h2=>k _ H' s<|.inr ⟨ds,a,vs,rfl,rfl,h1,h2⟩⟩⟩
theorem kW(I:Inv X π σ H s)(h:H p=Y! (.lst xs)):∃o,Inv X π σ (upd H p<|.c5 o<|.lst xs) s:=by
 obtain⟨z,aU,n,r,ho⟩:=I.bI p _ h;refine⟨_,I.un (H':=upd H p (.c5 {cls:=.type "list",data:=.seq aU.toArray n} _)) ?_ ?_⟩
 .have ne:∀b,H b=AC->b≠p:=λ b e q=>by rw[q,h]at e;cases e
  refine⟨λ b o q _ _ _=>q,λ b o q _ _ _=>⟨_,q⟩,λ b o q e _=>by rw[aA<|ne b e];exact e,λ b o q _=>⟨o,q⟩,λ b ys e=>?_,λ b o u e=>?_,λ b u pr e=>?_⟩
  .have:b≠p:=by rintro rfl;rw[h]at e;cases e
   rw[aA this];exact e
  .have:b≠p:=by rintro rfl;rw[h]at e;cases e
   rw[aA this];exact e
  .have:b≠p:=by rintro rfl;rw[h]at e;cases e;exact pr
   rw[aA this];exact e
 .intro b u e;by_cases hb:b=p
  .subst hb;rw[aI]at e;cases e;exact⟨ho,z,aU,n,r,ho⟩
  .rw[aA hb]at e;refine(I.bI b u e).j! (λ c w _ q=>q) (λ c q=>?_) (λ c ys q=>?_) λ c v pr q=>?_
   .have:c≠p:=by rintro rfl;rw[h]at q;cases q
    rw[aA this];exact q
   .have:c≠p:=by rintro rfl;rw[h]at q;cases q
    rw[aA this];exact q
   .have:c≠p:=by rintro rfl;rw[h]at q;cases q;exact pr
    rw[aA this];exact q
theorem Bz(s:ax H H1)(hn:H p=AC):ax H (upd H1 p<|.c5 o<|.lst xs):=λ b u e=>by rw[aA<|aP e hn];exact s b u e
theorem _root_.ZQ.xH(h:ZQ.QL X e l):ZQ.QE X e (Z.eL l):=⟨by
 have h:=h.p;intro π s σ H Q I w;obtain⟨ρ,d,r,e,k⟩:=w;unfold Z.eL at e;cases q:l ρ with
 |bad=>rw[q]at e;cases e
 |ok ds=>rw[q]at e;cases e;refine b8 (h π s σ H (λ v H1=>∃a vs,v=.ref a/\ax H H1/\H a=AC/\H1 a=Y! (.lst vs)/\ay X.K H1 ds vs) I ⟨ρ,ds,r,q,λ a vs H1 s1 hn h1 h2=>⟨a,vs,rfl,s1,hn,h1,h2⟩⟩) ?_;rintro u s' ⟨v,H1,I1,rv,a,vs,rfl,s1,hn,h1,h2⟩;obtain⟨o,I2⟩:=kW I1 h1;exact⟨_,_,I2,rv,k _ _ (Bz s1 hn)<|tK (.inl ⟨o,aI⟩)<|h2.ups<|fS h1⟩⟩
def AR(K:Ch)(r:R2)(o:Z.D->Z.D->Z.Res Z.D):Prop:=∀(x y:V)(dx dy d:Z.D)(H:Hp)(Q:VK),bc K H dx x->bc K H dy y->o dx dy=.ok d->(∀v H',ax H H'->Den K H' d v->Q v H')->r x y H Q
theorem two(hz:AR X.K r o):∀σ H Q,tZ X.K (Z.eB o fa fb) σ H Q->Hz r (GI X.K fa) (GI X.K fb) σ H Q:=by rintro σ H Q ⟨ρ,d,re,e,k⟩;obtain⟨x,ea,e⟩:=Z.Res.aw e;obtain⟨y,eb,e⟩:=Z.Res.aw e;exact⟨ρ,x,re,ea,λ v H1 s1 d1=>⟨ρ,y,re.up s1,eb,λ u H2 s2 d2=>hz _ _ _ _ _ H2 Q (d1.up s2) d2 e λ w H' s3 dw=>k w H' ((s1.trans s2).trans s3) dw⟩⟩
theorem rB(hr:iG X (binaryOp op) r)(hz:AR X.K r o)(ha:DW X a fa)(hb:DW X b fb):DE X (.BinOp a op b pos) (Z.eB o fa fb):=
 PE.imp (GU hr ha hb)<|two hz
theorem oq{K:Ch}{g:Int->Int->Int}(h:∀dx dy d,o dx dy=.ok d->∃i j,dx=.int i/\dy=.int j/\C i j/\d=.int (g i j)):AR K (rI C λ i j=>.int<|g i j) o:=by intro x y dx dy d H Q h1 h2 e k;obtain⟨i,j,rfl,rfl,hc,rfl⟩:=h _ _ _ e;exact⟨i,j,h1.int,h2.int,hc,k _ H (ax.refl H) cu⟩
theorem jA{K:Ch}{gd:Int->Int->Z.D}(h:∀dx dy d,o dx dy=.ok d->∃i j,dx=.int i/\dy=.int j/\d=gd i j)(hg:∀i j H,Den K H (gd i j) (g i j)):AR K (BJ g) o:=by intro x y dx dy d H Q h1 h2 e k;obtain⟨i,j,rfl,rfl,rfl⟩:=h _ _ _ e;exact⟨i,j,h1.int,h2.int,k _ H (ax.refl H)<|hg i j H⟩
theorem _root_.ZQ.pX(ha:ZQ.QW X a fa)(hb:ZQ.QW X b fb):ZQ.QE X (.BinOp a .Sub b pos) (Z.eB Z.uP fa fb):=⟨have ha:=ha.p;have hb:=hb.p;rB Ib (jA (λ dx dy d e=>by
 unfold Z.uP at e;split at e
 .cases e;exact⟨_,_,rfl,rfl,rfl⟩
 .cases e) λ _ _ _=>cu) ha hb⟩
def DC(i j:Int):Prop:=IntMulOk i j
theorem EZ:iG X (binaryOp .Mult) (rI DC λ i j=>.int<|i*j):=Oi λ _ _ _ _ _ _ _ hc q=>mul_int q hc
theorem Gn(i:Int):Z.bits i=Builtin.Int.intBits i:=by
 unfold Z.bits Builtin.Int.intBits;by_cases h:i=0
 .subst h;simp
 .first
   |(simp;done)
   |(rw[v0];simp;done)
theorem pj(h:Z.j4 i j):IntMulOk i j:=by
 rcases h with h|h|⟨h1,h2⟩
 .exact IntMulOk.of_left<|intBits_le_64 (by lia) (by lia)
 .exact IntMulOk.of_right<|intBits_le_64 (by lia) (by lia)
 .rw[Gn]at h1 h2;exact mulOk_of_bits h1 h2 (by decide)
theorem _root_.ZQ.xG(ha:ZQ.QW X a fa)(hb:ZQ.QW X b fb):ZQ.QE X (.BinOp a .Mult b pos) (Z.eB Z.nR fa fb):=⟨have ha:=ha.p;have hb:=hb.p;rB EZ (oq λ dx dy d e=>by
 unfold Z.nR at e;split at e
 .unfold Z.guard at e;split at e
  .rename_i h;cases e;exact⟨_,_,rfl,rfl,pj h,rfl⟩
  .cases e
 .cases e) ha hb⟩
def NV(_ j:Int):Prop:=Z.mj j
theorem xF(h:Z.mj j):0<j/\j.natAbs.log2<9000:=by
 have h0:=h.1;have h1:=h.2;have hn:j.natAbs≠0:=by lia
 have h2:j.natAbs<2^250:=by
  have:(2)^250=1809251394333065553493296640760748560207343510400633813116524750123642650624:=by decide
  lia
 have:=(Nat.log2_lt hn).mpr h2;exact⟨h0,by lia⟩
theorem E1:iG X (binaryOp .FloorDiv) (rI NV λ i j=>.int<|i / j):=Oi λ i j _ _ _ _ _ hc q=>by obtain⟨h0,h1⟩:=xF hc;have e:=Int.fdiv_eq_ediv_of_nonneg i<|Int.le_of_lt h0;exact floordiv_int (Int.ne_of_gt h0) (by rw[e];exact q)<|.inl<|PyProof.noPylong_of_log2 h1
theorem _root_.ZQ.jR(ha:ZQ.QW X a fa)(hb:ZQ.QW X b fb):ZQ.QE X (.BinOp a .FloorDiv b pos) (Z.eB Z.oDiv fa fb):=⟨have ha:=ha.p;have hb:=hb.p;rB E1 (oq λ dx dy d e=>by
 unfold Z.oDiv at e;split at e
 .unfold Z.guard at e;split at e
  .rename_i h;cases e;exact⟨_,_,rfl,rfl,h,rfl⟩
  .cases e
 .cases e) ha hb⟩
theorem _root_.ZQ.iY(ha:ZQ.QW X a fa)(hb:ZQ.QW X b fb):ZQ.QE X (.BinOp a .Mod b pos) (Z.eB Z.oMod fa fb):=⟨have ha:=ha.p;have hb:=hb.p;rB Ie (oq λ dx dy d e=>by
 unfold Z.oMod at e;split at e
 .unfold Z.guard at e;split at e
  .rename_i h;cases e;exact⟨_,_,rfl,rfl,h,rfl⟩
  .cases e
 .cases e) ha hb⟩
def Lu(K:Ch):R2:=λ x y H Q=>∃a b xs ys,x=.ref a/\y=.ref b/\jW K H a xs/\jW K H b ys/\xs.length+ys.length<=sizeLine /\
 (xs=[]->Q (.ref b) H)/\(ys=[]->Q (.ref a) H)/\(∀p,H p=AC->Q (.ref p) (upd H p<|.tup<|xs++ys))
theorem E2:iG X (binaryOp .Add) (Lu X.K):=by
 intro π s σ H x y v u Q I rx ry h;obtain⟨p,q,xs,ys,rfl,rfl,hp,hq,hz,q0,q1,q2⟩:=h;by_cases hx:xs=[]
 .cases rx;cases ry;obtain⟨aU,r1,ht,_⟩:=I.tuple hp;obtain⟨gD,r2,hb,_⟩:=I.tuple hq;obtain⟨⟨cls,dd,data,sl⟩,ho,hc,n,hd⟩:=id ht;obtain⟨⟨Sj,O9,data2,N!⟩,FD,yL,n2,hd2⟩:=id hb;simp only at hc hd yL hd2;subst hc hd yL hd2;have e0:=r1.oy.mpr hx;exact concat_meets ⟨_,ho,rfl⟩ ⟨_,FD,rfl⟩ B38 seq_tuple_add B40 B41 (B42 _ _)
   (tuple_addW0 p q _ _ n n2 dd O9 sl N! (by simp[e0])) ⟨ho,FD,⟨.ref q,H,I,rfl,q0 hx⟩⟩
 .exact E3 π s σ H _ _ v u Q I rx ry ⟨p,q,xs,ys,rfl,rfl,hp,hq,hx,hz,q1,λ _=>q2⟩
theorem Ew(a b:Y' Nat):(⟨a.toArray⟩)++(⟨b.toArray⟩:Str)=⟨(a++b).toArray⟩:=by show(⟨a.toArray++b.toArray⟩:Str)=_;simp
theorem _root_.ZQ.aX(ha:ZQ.QW X a fa)(hb:ZQ.QW X b fb):ZQ.QE X (.BinOp a .Add b pos) (Z.eB Z.bS fa fb):=⟨have ha:=ha.p;have hb:=hb.p;rB (Ih.or<|wQ.or E2) (λ x y dx dy d H Q h1 h2 e k=>by
 unfold Z.bS at e;split at e
 .cases e;exact .inl ⟨_,_,h1.int,h2.int,k _ H (ax.refl H) cu⟩
 .unfold Z.guard at e;split at e
  .rename_i as bs h;cases e;refine .inr<|.inl ⟨_,_,h1.str,h2.str,?_,?_⟩
   .show as.toArray.size+bs.toArray.size<=sizeLine;rw[Y9];simpa using h
   .rw[Ew];exact k _ H (ax.refl H) j8
  .cases e
 .unfold Z.guard at e;split at e
  .rename_i as bs h;cases e;obtain⟨p,xs,rfl,hp,t1⟩:=h1.tup;obtain⟨q,ys,rfl,hq,t2⟩:=h2.tup;refine .inr<|.inr ⟨p,q,xs,ys,rfl,rfl,hp,hq,?_,?_,?_,?_⟩
   .rw[t1.length,t2.length,Y9];exact h
   .rintro rfl;have:=B75 (by rw[<-t1.length];rfl);subst this;exact k _ H (ax.refl H)<|d_ hq t2
   .rintro rfl;have:=B75 (by rw[<-t2.length];rfl);subst this;rw[A53]at k;exact k _ H (ax.refl H)<|d_ hp t1
   .intro z hn;have s1:ax H (upd H z<|.tup<|xs++ys):=bV hn;exact k _ _ s1<|d_ (.inl<|.inl aI)<|(t1.append t2).up s1
  .cases e
 .cases e) ha hb⟩
theorem _root_.ZQ.JG(ha:ZQ.QW X a fa):ZQ.QE X (.UnaryOp .USub a pos) (Z.eU Z.B4 fa):=⟨PE.imp (Lz Hr ha.p) λ σ H Q ⟨ρ,d,r,e,k⟩=>by
 obtain⟨x,ea,e⟩:=Z.Res.aw e;refine⟨ρ,x,r,ea,λ v H1 s1 d1=>?_⟩;unfold Z.B4 at e;split at e
 .cases e;exact⟨_,d1.int,k _ H1 s1 cu⟩
 .cases e⟩
end
end ZS
namespace ZS
section
open PySem Builtin Builtin.Str
theorem uY(t:Y' Nat):(⟨t.toArray⟩:Str).length=t.length:=by simp[Str.length]
theorem y8(n d:Nat)(i:Int):max 0 (min (if i<0 then i+(n)else i)<|n)=((Z.cM n d<|some i)):=by
 show max 0 (min (if i<0 then i+(n)else i)<|n)=(((if i<0 then(i+(n)).toNat else min _ n)))
 by_cases h:i<0
 .simp only[Z1 h];lia
 .simp only[v0 h];lia
theorem Vg(a b:Nat):sliceRange (a) (b) 1=(Do<|b-a).map (λ k=>a+k):=by
 unfold sliceRange;simp only[show(1:Int)>0 by decide,Z8];have e:(if(a)<(b:Int)then((b)-(a:Int)+1-1) / 1 else 0).toNat=b-a:=by
  split
  .rw[Int.ediv_one];lia
  .lia
 rw[e];apply B12;intro k _;lia
theorem idxs(lo hi:Y_ Int)(n:Nat):strSliceIndices lo hi 1 n=(Do<|Z.cM n n hi-Z.cM n 0 lo).map (λ k=>Z.cM n 0 lo+k):=by
 unfold strSliceIndices;simp only[show(1:Int)>0 by decide,Z8];rw[<-Vg];cases lo with
 |none=>
  cases hi with
  |none=>rfl
  |some j=>simp only[y8 n n j];rfl
 |some i=>
  cases hi with
  |none=>simp only[y8 n 0 i];rfl
  |some j=>simp only[y8 n 0 i,y8 n n j]
theorem sk(n d:Nat)(hd:d<=n)(o:Y_ Int):Z.cM n d o<=n:=by
 cases o with
 |none=>exact hd
 |some v=>show(if v<0 then(v+(n)).toNat else min _ n)<=n;split<;>lia
theorem pick(cs:Y' Nat):∀k a,a+k<=cs.length->((Do k).map λ j=>a+j).filterMap (λ i=>cs.toArray[i]?)=(cs.drop a).take k:=by
 intro k
 induction k with
 |zero=>intro a _;simp
 |succ k ih=>
  intro a h;rw[A76,A91,List.filterMap_append,ih a (by lia)];have iS:a+k<cs.length:=by lia
  rw[List.take_succ];simp[iS]
theorem Ld(cs:Y' Nat)(lo hi:Y_ Int):Txt.slice ⟨cs.toArray⟩ lo hi=⟨(Z.cut cs lo hi).toArray⟩:=by
 unfold Txt.slice;rw[uY,idxs];have h1:=sk _ cs.length (Z0 _) hi;have h0:=sk cs.length 0 (A77 _) lo;have hp:((Do<|Z.cM cs.length cs.length hi-Z.cM cs.length 0 lo).map λ k=>Z.cM cs.length 0 lo+k).filterMap (λ i=>cs.toArray[i]?)=Z.cut cs lo hi:=by exact pick cs _ _ (by lia)
 split
 .rename_i hh;have ς:(Do<|Z.cM cs.length cs.length hi-Z.cM cs.length 0 lo).length=cs.length:=by simp only[A63,Bool.true_and,A07,v4]at hh;exact hh
  rw[A08]at ς;unfold Z.cut;have e0:Z.cM cs.length 0 lo=0:=by lia
  have e1:Z.cM cs.length cs.length hi-Z.cM cs.length 0 lo=cs.length:=by lia
  rw[e1,e0];simp
 .rw[hp]
end
open PySem PySem.Spec PyProof.Rows L2
section
variable {X:Cx}
theorem JI(hr:iG X (compareOp op) r)(hz:AR X.K r o)(ha:DW X a fa)(hb:DW X b fb)(hm:behindInMarks op b=Z!):DE X (.Compare a [op] [b] pos) (Z.eB o fa fb):=
 PE.imp (sE hr ha hb hm)<|two hz
theorem yR(h:PT X e (Bj t))(k:∀σ H Q,tZ X.K f σ H Q->t σ H Q):DT X e (Z.tE f):=PT.imp h λ σ H Q ⟨ρ,b,r,e,q⟩=>by
 obtain⟨x,ea,e⟩:=Z.Res.aw e;refine k σ H _ ⟨ρ,x,r,ea,λ v H' s d=>?_⟩;split at e
 .cases e;simp only[Den]at d;exact⟨_,d,q H' s⟩
 .cases e
theorem JA(hr:iG X (compareOp op) r)(hz:AR X.K r o)(ha:DW X a fa)(hb:DW X b fb)(hm:behindInMarks op b=Z!):DT X (.Compare a [op] [b] pos) (Z.tE<|Z.eB o fa fb):=
 yR (oj hr ha hb hm)<|two hz
structure AS(X:Cx)(op:CmpOp)(o:Z.D->Z.D->Z.Res Z.D):Prop where
 ex:∃r,iG X (compareOp op) r/\AR X.K r o
theorem _root_.ZQ.c6(h:AS X op o)(ha:ZQ.QW X a fa)(hb:ZQ.QW X b fb)(hm:behindInMarks op b=Z!:=by first|exact kP _|with_unfolding_all rfl):ZQ.QE X (.Compare a [op] [b] pos) (Z.eB o fa fb):=
 ⟨let ⟨_,hr,hz⟩:=h.ex;JI hr hz ha.p hb.p hm⟩
theorem _root_.ZQ.aF(h:AS X op o)(ha:ZQ.QW X a fa)(hb:ZQ.QW X b fb)(hm:behindInMarks op b=Z!:=by first|exact kP _|with_unfolding_all rfl):ZQ.QT X (.Compare a [op] [b] pos) (Z.tE<|Z.eB o fa fb):=
 ⟨let ⟨_,hr,hz⟩:=h.ex;JA hr hz ha.p hb.p hm⟩
theorem Am(hz:AR X.K r o)(Q8:AR X.K r' o'):∀σ H Q,tZ X.K (Z.pS o o' fa fb fc) σ H Q->Bl r r' (GI X.K fa) (GI X.K fb) (GI X.K fc) σ H Q:=by
 rintro σ H Q ⟨ρ,d,re,e,k⟩;obtain⟨x,ea,e⟩:=Z.Res.aw e;obtain⟨y,eb,e⟩:=Z.Res.aw e;obtain⟨z,eo,e⟩:=Z.Res.aw e;refine⟨ρ,x,re,ea,λ v H1 s1 d1=>⟨ρ,y,re.up s1,eb,λ u H2 s2 d2=>hz _ _ _ _ _ H2 _ (d1.up s2) d2 eo λ w H3 s3 dw=>?_⟩⟩;have DH:=(s1.trans s2).trans s3;split at e
 .rename_i q;simp only[Den]at dw;refine⟨_,dw,?_⟩;cases q with
  |true=>simp only[Z8]at e ⊢;obtain⟨t,ec,e⟩:=Z.Res.aw e;exact⟨ρ,t,re.up DH,ec,λ v' H4 s4 d4=>Q8 _ _ _ _ _ H4 Q ((d2.up s3).up s4) d4 e λ w' H5 s5 W_=>k w' H5 ((DH.trans s4).trans s5) W_⟩
  |false=>simp only[A11]at e ⊢;cases e;exact k _ H3 DH cy
 .cases e
theorem _root_.ZQ.vw(h:AS X op o)(h':AS X DQ o')(ha:ZQ.QW X a fa)(hb:ZQ.QW X b fb)(hc:ZQ.QW X c fc)
 (hm:lastMarks [op,DQ] [b,c]=Z!:=by with_unfolding_all rfl):ZQ.QT X (.Compare a [op,DQ] [b,c] pos) (Z.tE<|Z.pS o o' fa fb fc):=
 ⟨let ⟨_,hr,hz⟩:=h.ex;let ⟨_,V0,Q8⟩:=h'.ex;yR (BL hr V0 ha.p hb.p hc.p hm) (Am hz Q8)⟩
theorem JM:AS X .Lt Z.oLt:=⟨_,LH,jA (λ dx dy d e=>by
 unfold Z.oLt at e;split at e
 .cases e;exact⟨_,_,rfl,rfl,rfl⟩
 .cases e) λ _ _ _=>cy⟩
theorem Ar:AS X .Gt Z.E?:=⟨_,LJ,jA (λ dx dy d e=>by
 unfold Z.E? at e;split at e
 .cases e;exact⟨_,_,rfl,rfl,rfl⟩
 .cases e) λ _ _ _=>cy⟩
theorem JN:AS X .GtE Z.Kc:=⟨_,LK,jA (λ dx dy d e=>by
 unfold Z.Kc at e;split at e
 .cases e;exact⟨_,_,rfl,rfl,rfl⟩
 .cases e) λ _ _ _=>cy⟩
theorem zI:iG X (compareOp .LtE) (λ x y H Q=>∃i j,x=.str i/\y=.str j/\Q (.bl<|!decide (j.cps.toList<i.cps.toList)) H):=by intro π s σ H x y v u Q I rx ry h;obtain⟨i,j,rfl,rfl,q⟩:=h;obtain⟨t,rfl⟩:=rx;obtain⟨t',rfl⟩:=ry;exact PySem.P.le_str<|xx I q rfl
theorem Ci:∀a b,Z.Fg a b=decide (a<b)
|[],[]=>by simp[Z.Fg]
|[],_::_=>by simp[Z.Fg]
|_::_,[]=>by simp[Z.Fg]
|a::as,b::bs=>by
 unfold Z.Fg;rw[Ci];by_cases h:a<b
 .simp[B76]
 .by_cases h2:a=b
  .subst h2;simp
  .simp[B76]
theorem m5:AS X .LtE Z.oLe:=⟨_,LI.or zI,λ x y dx dy d H Q h1 h2 e k=>by
 unfold Z.oLe at e;split at e
 .cases e;exact .inl ⟨_,_,h1.int,h2.int,k _ H (ax.refl H) cy⟩
 .cases e;refine .inr ⟨_,_,h1.str,h2.str,?_⟩;rename_i as bs;have q:=k (.bl<|!Z.Fg bs as) H (ax.refl H) cy;rw[Ci]at q;exact q
 .cases e⟩
def Mq:Z.D->Bool
|.non=>AT
|_=>Z!
theorem B8{K:Ch}(h:bc K H d v):decide (v=.non)=Mq d:=by
 cases d with
 |non=>rw[h.non];rfl
 |bl b=>rw[h.bl];rfl
 |int i=>rw[h.int];rfl
 |str cs=>rw[h.str];rfl
 |tup ds=>obtain⟨a,vs,rfl,_⟩:=h.tup;rfl
 |lst ds=>obtain⟨a,vs,rfl,_⟩:=h.lst;rfl
 |dct ks ds=>obtain⟨a,o,dG,rfl,_⟩:=h.dct;rfl
theorem yI:∀σ H Q,tZ X.K (Z.eU Z.fH fa) σ H Q->Hz (λ x y H Q=>y=.non/\Q (.bl<|decide<|x=.non) H) (GI X.K fa) (tC .non) σ H Q:=by rintro σ H Q ⟨ρ,d,r,e,k⟩;obtain⟨x,ea,e⟩:=Z.Res.aw e;refine⟨ρ,x,r,ea,λ v H1 s1 d1=>⟨rfl,?_⟩⟩;rw[B8 d1];cases x<;>(cases e;exact k _ H1 s1 cy)
theorem B6:∀σ H Q,tZ X.K (Z.eU Z.jC fa) σ H Q->Hz (λ x y H Q=>y=.non/\Q (.bl<|!decide (x=.non)) H) (GI X.K fa) (tC .non) σ H Q:=by rintro σ H Q ⟨ρ,d,r,e,k⟩;obtain⟨x,ea,e⟩:=Z.Res.aw e;refine⟨ρ,x,r,ea,λ v H1 s1 d1=>⟨rfl,?_⟩⟩;rw[B8 d1];cases x<;>(cases e;exact k _ H1 s1 cy)
theorem _root_.ZQ.JH(ha:ZQ.QW X a fa):ZQ.QE X (.Compare a [.Is] [.Constant .none j pos'] pos) (Z.eU Z.fH fa):=⟨PE.imp (sE BV ha.p o9<|kP _) yI⟩
theorem _root_.ZQ.h_(ha:ZQ.QW X a fa):ZQ.QT X (.Compare a [.Is] [.Constant .none j pos'] pos) (Z.tE<|Z.eU Z.fH fa):=⟨yR (oj BV ha.p o9<|kP _) yI⟩
theorem _root_.ZQ.oB(ha:ZQ.QW X a fa):ZQ.QT X (.Compare a [.IsNot] [.Constant .none j pos'] pos) (Z.tE<|Z.eU Z.jC fa):=⟨yR (oj yv ha.p o9<|kP _) B6⟩
theorem _root_.ZQ.k_(h:ZQ.QE X a fa):ZQ.QE X (.BoolOp op [a] pos) fa:=⟨HZ h.p⟩
theorem _root_.ZQ.xI{rest:Y' γ}(ha:ZQ.QE X a fa)(hb:ZQ.QE X (.BoolOp .And (b::rest) pos) fb):ZQ.QE X (.BoolOp .And (a::b::rest) pos) (Z.C9 fa fb):=⟨PE.imp (H? ha.p hb.p) λ σ H Q ⟨ρ,d,r,e,k⟩=>by
 obtain⟨x,ea,e⟩:=Z.Res.aw e;refine⟨ρ,x,r,ea,λ v H1 s1 d1=>?_⟩;split at e
 .rename_i q;simp only[Den]at d1;refine⟨q,d1,?_⟩;cases q with
  |true=>simp only[Z8]at e ⊢;exact⟨ρ,d,r.up s1,e,λ w H' s2 dw=>k w H' (s1.trans s2) dw⟩
  |false=>simp only[A11]at e ⊢;cases e;exact k _ H1 s1 cy
 .cases e⟩
theorem _root_.ZQ.yX{rest:Y' γ}(ha:ZQ.QE X a fa)(hb:ZQ.QE X (.BoolOp .Or (b::rest) pos) fb):ZQ.QE X (.BoolOp .Or (a::b::rest) pos) (Z.KI fa fb):=⟨PE.imp (LC ha.p hb.p) λ σ H Q ⟨ρ,d,r,e,k⟩=>by
 obtain⟨x,ea,e⟩:=Z.Res.aw e;refine⟨ρ,x,r,ea,λ v H1 s1 d1=>?_⟩;split at e
 .rename_i q;simp only[Den]at d1;refine⟨q,d1,?_⟩;cases q with
  |false=>simp only[A11]at e ⊢;exact⟨ρ,d,r.up s1,e,λ w H' s2 dw=>k w H' (s1.trans s2) dw⟩
  |true=>simp only[Z8]at e ⊢;cases e;exact k _ H1 s1 cy
 .cases e⟩
theorem Hy:∀σ H Q,K9 X.K (Z.tE f) σ H Q->tB (tZ X.K f) σ H Q:=by
 rintro σ H Q ⟨ρ,b,r,e,q⟩;obtain⟨x,ea,e⟩:=Z.Res.aw e;refine⟨ρ,x,r,ea,λ v H' s d=>?_⟩;split at e
 .cases e;simp only[Den]at d;exact⟨_,d,q H' s⟩
 .cases e
theorem _root_.ZQ.iD(h:ZQ.QE X e f)(he:∀whole,isTrue e X.env whole=(do let v ←whole;standAt e.pos;holding [v] (truthy v)):=by intro _;rfl):ZQ.QT X e (Z.tE f):=⟨PT.imp (HQ h.p he) Hy⟩
theorem _root_.ZQ.iW(h:ZQ.QT X a t):ZQ.QT X (.UnaryOp .Not a pos) (Z.lM t):=⟨PT.imp (HR h.p) λ σ H Q ⟨ρ,b,r,e,q⟩=>by obtain⟨x,ea,e⟩:=Z.Res.aw e;cases e;exact⟨ρ,x,r,ea,λ H' s=>q H' s⟩⟩
theorem _root_.ZQ.oC(h:ZQ.QT X a t):ZQ.JZ X (.BoolOp .And [a] pos) t:=⟨pw_and1 h.p⟩
theorem _root_.ZQ.pT(h:ZQ.QT X a t):ZQ.JZ X (.BoolOp .Or [a] pos) t:=⟨pw_or1 h.p⟩
theorem _root_.ZQ.pU{rest:Y' γ}(ha:ZQ.QT X a t)(hb:ZQ.JZ X (.BoolOp .And (b::rest) pos) u):ZQ.JZ X (.BoolOp .And (a::b::rest) pos) (Z.r! t u):=⟨PW.imp (pw_and ha.p hb.p) λ σ H Q ⟨ρ,d,r,e,k⟩=>by
 obtain⟨x,ea,e⟩:=Z.Res.aw e;refine⟨ρ,x,r,ea,λ H1 s1=>?_⟩;cases x with
 |true=>simp only[Z8]at e ⊢;exact⟨ρ,d,r.up s1,e,λ H' s2=>k H'<|s1.trans s2⟩
 |false=>simp only[A11]at e ⊢;cases e;exact k H1 s1⟩
theorem _root_.ZQ.kE{rest:Y' γ}(ha:ZQ.QT X a t)(hb:ZQ.JZ X (.BoolOp .Or (b::rest) pos) u):ZQ.JZ X (.BoolOp .Or (a::b::rest) pos) (Z.yc t u):=⟨PW.imp (pw_or ha.p hb.p) λ σ H Q ⟨ρ,d,r,e,k⟩=>by
 obtain⟨x,ea,e⟩:=Z.Res.aw e;refine⟨ρ,x,r,ea,λ H1 s1=>?_⟩;cases x with
 |false=>simp only[A11]at e ⊢;exact⟨ρ,d,r.up s1,e,λ H' s2=>k H'<|s1.trans s2⟩
 |true=>simp only[Z8]at e ⊢;cases e;exact k H1 s1⟩
theorem _root_.ZQ.F5(h:ZQ.JZ X e t):ZQ.QT X e t:=⟨h.p.pt⟩
theorem _root_.ZQ.pY(hc:ZQ.QT X c t)(ha:ZQ.QE X a fa)(hb:ZQ.QE X b fb):ZQ.QE X (.IfExp c a b pos) (Z.Nq t fa fb):=⟨PE.imp (BR hc.p ha.p hb.p) λ σ H Q ⟨ρ,d,r,e,k⟩=>by
 obtain⟨x,ea,e⟩:=Z.Res.aw e;refine⟨ρ,x,r,ea,λ H1 s1=>?_⟩;cases x with
 |true=>simp only[Z8]at e ⊢;exact⟨ρ,d,r.up s1,e,λ w H' s2 dw=>k w H' (s1.trans s2) dw⟩
 |false=>simp only[A11]at e ⊢;exact⟨ρ,d,r.up s1,e,λ w H' s2 dw=>k w H' (s1.trans s2) dw⟩⟩
theorem _root_.ZQ.ai:ZQ.QA X [] Z.az:=⟨PA.imp bM λ σ H Q ⟨ρ,ds,r,e,k⟩=>by cases e;exact k [] H (ax.refl H) ay.nil⟩
theorem iZ(ha:DE X e f)(hr:DA X es g)(hs:Se e es X.env:=by rfl):DA X (e::es) (Z.ae f g):=PA.imp (aS ha hr hs) λ σ H Q ⟨ρ,ds,r,e,k⟩=>by obtain⟨x,ea,e⟩:=Z.Res.aw e;obtain⟨xs,eb,e⟩:=Z.Res.aw e;cases e;exact⟨ρ,x,r,ea,λ v H1 s1 d1=>⟨ρ,xs,r.up s1,eb,λ vs H2 s2 d2=>k _ H2 (s1.trans s2)<|ay.cons (d1.up s2) d2⟩⟩
theorem _root_.ZQ.bG(h:ZQ.QA X es g):ZQ.QE X (.Tuple es x1 pos) (Z.d? g):=⟨PE.imp (HX h.p) λ σ H Q ⟨ρ,d,r,e,k⟩=>by
 obtain⟨xs,ea,e⟩:=Z.Res.aw e;unfold Z.guard at e;split at e
 .rename_i hl;cases e;refine⟨ρ,xs,r,ea,λ vs H1 s1 d1=>⟨by rw[d1.length,Y9];exact hl,λ q hq=>?_⟩⟩;have s2:ax H1 (upd H1 q<|.tup vs):=bV hq;exact k _ _ (s1.trans s2)<|d_ (.inl<|.inl aI)<|d1.up s2
 .cases e⟩
theorem _root_.ZQ.cK(h:ZQ.QA X es g):ZQ.QL X (.List es pos) (Z.ft g):=⟨PE.imp (wN h.p) λ σ H Q ⟨ρ,d,r,e,k⟩=>by
 obtain⟨xs,ea,e⟩:=Z.Res.aw e;unfold Z.guard at e;split at e
 .rename_i hl;cases e;refine⟨ρ,_,r,ea,λ vs H1 s1 d1=>⟨by rw[d1.length,Y9];exact hl,λ q hq=>?_⟩⟩;have s2:ax H1 (upd H1 q<|.lst vs):=bV hq;exact k q vs _ (s1.trans s2) (s1.free hq) aI<|d1.up s2
 .cases e⟩
end
end ZS
namespace ZS
open PySem PySem.Spec PyProof.Rows L2
def K4:Z.Ty->String
|.bool=> "bool"|.int=> "int"|.str=> "str"|.tuple=> "tuple"|.list=> "list"|.dict=> "dict"
def UT:Z.D->String
|.non=> "NoneType"|.bl _=> "bool"|.int _=> "int"|.str _=> "str"|.tup _=> "tuple"|.lst _=> "list"|.dct _ _=> "dict"
theorem Fn(K:Ch)(t:Z.Ty)(d:Z.D):FB K (.type<|UT d) (.type<|K4 t)=Y! (Z.mK t d):=by cases t<;>cases d<;>kernel_rfl
section
theorem Ct(t:Z.Ty)(I:Inv X π σ H s)(hd:bc X.K H d v)(r:RelV v u)
 (h:∀tk,Q (.bool<|Z.mK t d) {s with toks:=tk}):Db (model X.prog X.w) A (call (.builtin "isinstance") [u,.type (K4 t)]) Q E s:=by
 have e:=Fn X.K t d;cases d with
 |non=>rw[hd.non]at r;cases (r);exact A64 PySem.W.kitx_none I.jm PP e (λ z=>nomatch z) h
 |bl y=>rw[hd.bl]at r;cases (r);exact A64 PySem.W.kitx_bool I.jm PP e (λ z=>nomatch z) h
 |int i=>rw[hd.int]at r;obtain⟨t',q⟩:=(r);cases q;exact A64 PySem.W.kitx_int I.jm PP e (λ z=>nomatch z) h
 |str cs=>rw[hd.str]at r;obtain⟨t',q⟩:=(r);cases q;exact A64 PySem.W.kitx_str I.jm PP e (λ z=>nomatch z) h
 |tup ds=>obtain⟨a,vs,rfl,hq,_⟩:=hd.tup;cases (r);obtain⟨aU,_,⟨o,h1,h2,_⟩,_⟩:=I.tuple hq;exact A64 PySem.W.kitx_tuple I.jm ⟨o,h1,h2⟩ e (λ z=>nomatch z) h
 |lst ds=>obtain⟨a,vs,rfl,hq,_⟩:=hd.lst;cases (r);obtain⟨aU,_,⟨o,n,h1,h2,_⟩,_⟩:=I.list hq;exact A64 PySem.W.kitx_list I.jm ⟨o,h1,h2⟩ e (λ z=>nomatch z) h
 |dct ks ds=>
  obtain⟨a,o,dG,rfl,hq,_⟩:=hd.dct;cases (r);obtain⟨_,_,_,_,_,o',es,ep,h1,h2,_⟩:=(I.bI a _ hq)
  exact A64 PySem.W.kitx_dict I.jm ⟨o',h1,h2.1⟩ e (λ z=>nomatch z) h
theorem _root_.ZQ.m3(t:Z.Ty)(hg:Gl X x)(hm:X.mg x=AC)(hv:bootBuiltins x=Y! (.builtin "isinstance"))(Wh:Gl X y)(V':X.mg y=AC)(Kr:bootBuiltins y=Y! (.type<|K4 t))(ha:ZQ.QW X a fa)
 (hn:x≠ "__name__":=by decide +kernel) (c_:(x==("__debug__"))=Z!:=by decide +kernel) (DY:y≠ "__name__":=by decide +kernel) (RC:(y==("__debug__"))=Z!:=by decide +kernel)
 (he:starEach (a::[.Name y p2]) X.env=(Z!,eval a X.env)::starEach [.Name y p2] X.env:=by rfl) (da:(backTo pos<|starEach [.Name y p2] X.env).any (·.1)=Z!:=by rfl) (AL:starEach ((.Name y p2)::[]) X.env=(Z!,eval (.Name y p2) X.env)::starEach [] X.env:=by rfl) :
 ZQ.QE X (.Call (.Name x p1) [a,.Name y p2] [] pos) (Z.eU (Z.uR t) fa):=⟨by
 have hc:jX X (.builtin "isinstance") (λ xs H Q=>∃v d,xs=[v,.ty (K4 t)]/\bc X.K H d v/\Q (.bl<|Z.mK t d) H):=by intro π s σ H xs us Q I r h;obtain⟨v,d,rfl,hd,q⟩:=h;obtain⟨u,w',rfl,r1,r2⟩:=vals2 r;cases (r2);exact Ct t I hd r1 λ tk=>⟨.bl _,H,I.tok _,rfl,q⟩
 refine PE.imp (fq hc hg hm hv (aS ha.p (aS (yu (v:=.ty (K4 t)) Wh V' Kr rfl DY RC) bM AL) he) hn c_ he da) λ σ H Q ⟨ρ,d,r,e,k⟩=>?_;obtain⟨x,ea,e⟩:=Z.Res.aw e;cases e;exact⟨ρ,x,r,ea,λ v H1 s1 d1=>⟨v,x,rfl,d1,k _ H1 s1 cy⟩⟩⟩
theorem _root_.ZQ.a7{x:Str}(hm:X.mg x=AC)(ha:ZQ.QW X a fa)(hn:x≠ "__name__":=by decide +kernel)(c_:(x == ("__debug__"))=Z!:=by decide +kernel)(he:Se a [] X.env:=by rfl)(da:Pn pos [] X.env:=by rfl)(hg:Gl X x:=by rfl)(hv:bootBuiltins x=Y! (.builtin "len"):=by kernel_rfl):ZQ.QE X (.Call (.Name x p1) [a] [] pos) (Z.eU Z.b! fa):=
 ⟨PE.imp (fq Dm hg hm hv (aS ha.p bM he) hn c_ he da) λ σ H Q ⟨ρ,d,r,e,k⟩=>by
  obtain⟨x,ea,e⟩:=Z.Res.aw e;refine⟨ρ,x,r,ea,λ v H1 s1 d1=>?_⟩;unfold Z.b! at e;split at e
  .unfold Z.guard at e;split at e
   .rename_i cs hl;cases e;rw[d1.str];refine⟨_,_,rfl,⟨?_,?_⟩,k _ H1 s1 cu⟩
    .show cs.toArray.size<=sizeLine;rw[Y9];simpa using hl
    .show cs.length=cs.toArray.size;simp
   .cases e
  .cases e;obtain⟨q,vs,rfl,hq,t⟩:=d1.tup;refine⟨_,_,rfl,.inr ⟨vs,hq,rfl⟩,?_⟩;rw[t.length];exact k _ H1 s1 cu
  .cases e;obtain⟨q,vs,rfl,hq,t⟩:=d1.lst;refine⟨_,_,rfl,.inl ⟨vs,hq,rfl⟩,?_⟩;rw[t.length];exact k _ H1 s1 cu
  .cases e⟩
theorem IV(n:Nat)(i:Int):Z.rd n i=Kk n i:=rfl
theorem Ur{K:Ch}(t:ay K H ds vs)(h:((Z.rd ds.length i).bind λ j=>ds[j]?)=Y! d):∃v,JV vs i=Y! v/\Den K H d v:=by
 unfold JV;rw[t.length,<-IV];cases q:Z.rd _ i with
 |none=>rw[q]at h;cases h
 |some j=>rw[q]at h;exact t.get h
theorem _root_.ZQ.aD(ha:ZQ.QW X a fa)(hb:ZQ.QW X b fb)(hs:zb b:=by intro _ _;rfl):ZQ.QE X (.Subscript a b pos) (Z.eB Z.a! fa fb):=⟨PE.imp (LD IU ha.p hb.p hs) (two λ x y dx dy d H Q h1 h2 e k=>by
 unfold Z.a! at e;split at e
 .obtain⟨q,vs,rfl,hq,t⟩:=h1.tup;split at e
  .rename_i v hv;cases e;obtain⟨w,e1,dw⟩:=Ur t hv;exact .inr<|.inl ⟨q,vs,_,w,rfl,h2.int,hq,e1,k w H (ax.refl H) dw⟩
  .cases e
 .obtain⟨q,vs,rfl,hq,t⟩:=h1.lst;split at e
  .rename_i v hv;cases e;obtain⟨w,e1,dw⟩:=Ur t hv;exact .inl ⟨q,vs,_,w,rfl,h2.int,hq,e1,k w H (ax.refl H) dw⟩
  .cases e
 .unfold Z.guard at e;split at e
  .rename_i cs i hl;split at e
   .rename_i c hc;cases e;refine .inr<|.inr ⟨_,_,c,h1.str,h2.int,?_,?_,?_⟩
    .show cs.toArray.size<=sizeLine;rw[Y9];simpa using hl
    .exact hc
    .exact k _ H (ax.refl H)<|j8
   .cases e
  .cases e
 .cases e)⟩
theorem _root_.ZQ.rq:ZQ.QP X AC Z.DN:=⟨PO.imp ES λ σ H Q ⟨ρ,o,r,e,k⟩=>by cases e;exact k H<|ax.refl H⟩
theorem _root_.ZQ.rA(h:ZQ.QW X e f):ZQ.QP X (Y! e) (Z.DO f):=⟨PO.imp (ER h.p) λ σ H Q ⟨ρ,o,r,e,k⟩=>by
 obtain⟨x,ea,e⟩:=Z.Res.aw e;refine⟨ρ,x,r,ea,λ v H1 s1 d1=>?_⟩;split at e
 .cases e;exact⟨_,d1.int,k H1 s1⟩
 .cases e⟩
theorem mC(n d:Nat)(o:Y_ Int):Z.cM n d o=HT.cM n d o:=by cases o<;>rfl
theorem xJ{K:Ch}(t:ay K H ds vs)(lo hi:Y_ Int):ay K H (Z.cut ds lo hi) (qH vs lo hi):=by unfold Z.cut qH;rw[mC,mC,t.length];exact(t.drop _).take _
theorem Aj{lo hi:Y_ Int}(h1:HT.cM xs.length 0 lo=0)(h2:HT.cM xs.length xs.length hi=xs.length):Z.cut xs lo hi=xs:=by unfold Z.cut;rw[mC,mC,h1,h2];simp
def Qq(K:Ch):V->Y_ Int->Y_ Int->Hp->VK->Prop:=λ x lo hi H Q=>∃a xs,x=.ref a/\jW K H a xs/\(qH xs lo hi=xs->Q (.ref a) H)/\∀p,H p=AC->Q (.ref p) (upd H p<|.tup<|qH xs lo hi)
theorem kj{lo hi:Y_ Int}(ht:IsTup s.heap t items)(hs:s.heap.IsSliceOf sl vl vu .none)(pl:IsPart vl lo)(pu:IsPart vu hi)
 (hw:HT.cM items.size 0 lo=0/\HT.cM items.size items.size hi=items.size)
 (h:Q (.ref t) s):Db (model prog w) A (getItem (.ref t)<|.ref sl) Q E s:=by
 obtain⟨os,Je,v!,M0⟩:=id hs;have RT:s.TypeIs (.ref sl) "slice":=⟨os,Je,v!⟩
 unfold getItem
 try with_reducible refine v6 ?_
 first|refine T0<|Y0 ?_|skip
 refine T0<|wpAny_sequenceKey ht.typeIs (by decide) ?_;refine T0 (A73 (name:=At "__getitem__") ht.typeIs A74
 <|A75 A74 ht.typeIs entry_tuple_getitem ?_<|args_tuple_getitem _ _)
 show Db _ _ (SL (.ref t)>>=_) _ _ s;refine T0<|tupleItemsOf_ ht ?_;refine T0<|wpAny_typeOf RT ?_;rw[Z1 (by decide)];refine T0<|HT.ir hs pl pu ?_;have Q9:(((HT.cM items.size 0 lo):Int)==0&&(1:Int)==1&&(HT.cM items.size items.size hi-HT.cM items.size 0 lo)==items.size)=AT:=by rw[hw.1,hw.2];simp
 show Db _ _ (if(((HT.cM items.size 0 lo:Nat):Int)==0&&(1:Int)==1&&(HT.cM items.size items.size hi-HT.cM items.size 0 lo)==items.size)=AT then _ else _) _ _ s;rw[Z1 Q9];refine T0 ?_;unfold Builtin.Tuple.tupleIsExact;refine T0<|wpAny_typeOf ht.typeIs ?_;refine Y0 ?_;rw[Z1<|A63 _];refine T0<|A78 ?_;exact Y0 ⟨.ref t,rfl,Y0 h⟩
theorem EA:Gv X (Qq X.K):=by
 intro π s σ H x v vl vu lo hi sl Q I rx hs pl pu h;obtain⟨a,xs,rfl,hx,q1,q2⟩:=h;by_cases hw:HT.cM xs.length 0 lo=0/\HT.cM xs.length xs.length hi=xs.length
 .cases rx;obtain⟨aU,r,ht,hz⟩:=I.tuple hx;have ς:aU.toArray.size=xs.length:=by rw[Z2];exact r.length.symm
  refine⟨"tuple",_,A74.lookup,ht.typeIs,?_⟩;refine kj ht hs pl pu (by rw[ς];exact hw) ⟨.ref a,H,I,rfl,q1 ?_⟩;have:=Aj hw.1 hw.2;unfold Z.cut at this;rw[mC,mC]at this;exact this
 .exact HC π s σ H _ v vl vu lo hi sl Q I rx hs pl pu ⟨a,xs,rfl,hx,hw,q2⟩
def Qs:V->Y_ Int->Y_ Int->Hp->VK->Prop:=λ x lo hi H Q=>∃z,x=.str z/\z.length<=sizeLine/\Q (.str<|Txt.slice z lo hi) H
theorem BU(h:IsPart v o):∃q,v=partValue q/\q.map (·.1)=o:=by
 cases h with
 |none=>exact⟨AC,rfl,rfl⟩
 |int i t=>exact⟨Y! (i,t),rfl,rfl⟩
theorem EB:Gv X Qs:=by intro π s σ H x v vl vu lo hi sl Q I rx hs pl pu h;obtain⟨z,rfl,hz,q⟩:=h;obtain⟨t,rfl⟩:=rx;obtain⟨ql,rfl,rfl⟩:=BU pl;obtain⟨qu,rfl,rfl⟩:=BU pu;refine⟨"str",_,F.slot_str_getitem.lookup,typeIs_str _ _ _,?_⟩;refine wpAny_getItem_str_slice (st:=AC) hs rfl ?_;refine post_val_or_str ⟨A06 (Txt.slice_le z _ _) hz,λ t' k=>⟨.str _,H,I.tok _,⟨t',rfl⟩,q⟩⟩
theorem _root_.ZQ.jQ{lo hi:Y_ γ}(ha:ZQ.QW X a fa)(hl:ZQ.QP X lo gl)(hh:ZQ.QP X hi gh):ZQ.QE X (.Subscript a (.Slice lo hi AC p2) pos) (Z.F4 fa gl gh):=
 ⟨have hl:=hl.p;PE.imp (uH (EB.or EA) ha.p hl hh.p) λ σ H Q ⟨ρ,d,r,e,k⟩=>by
  obtain⟨x,ea,e⟩:=Z.Res.aw e;obtain⟨l,el,e⟩:=Z.Res.aw e;obtain⟨h,eh,e⟩:=Z.Res.aw e;refine⟨ρ,x,r,ea,λ v H1 s1 d1=>⟨ρ,l,r.up s1,el,λ H2 s2=>⟨ρ,h,(r.up s1).up s2,eh,λ H3 s3=>?_⟩⟩⟩;have DH:=(s1.trans s2).trans s3;have d3:=(d1.up s2).up s3;unfold Z.GX at e;split at e
  .unfold Z.guard at e;split at e
   .rename_i cs _ _ hl;cases e;refine .inl ⟨_,d3.str,?_,?_⟩
    .show cs.toArray.size<=sizeLine;rw[Y9];simpa using hl
    .rw[Ld];exact k _ H3 DH j8
   .cases e
  .cases e;obtain⟨q,vs,rfl,hq,t⟩:=d3.tup;refine .inr ⟨q,vs,rfl,hq,λ hw=>?_,λ z hz=>?_⟩
   .have:=xJ t l h;rw[hw]at this;exact k _ H3 DH<|d_ hq this
   .have s4:ax H3 (upd H3 z<|.tup<|qH vs l h):=bV hz;exact k _ _ (DH.trans s4)<|d_ (.inl<|.inl aI)<|(xJ t l h).up s4
  .cases e⟩
theorem _root_.ZQ.Dd{lo hi:Y_ γ}(ha:ZQ.QW X a fa)(hl:ZQ.QP X lo gl)(hh:ZQ.QP X hi gh):ZQ.QL X (.Subscript a (.Slice lo hi AC p2) pos) (Z.Mm fa gl gh):=
 ⟨PE.imp (uH EC ha.p hl.p hh.p) λ σ H Q ⟨ρ,d,r,e,k⟩=>by
  obtain⟨x,ea,e⟩:=Z.Res.aw e;obtain⟨l,el,e⟩:=Z.Res.aw e;obtain⟨h,eh,e⟩:=Z.Res.aw e;refine⟨ρ,x,r,ea,λ v H1 s1 d1=>⟨ρ,l,r.up s1,el,λ H2 s2=>⟨ρ,h,(r.up s1).up s2,eh,λ H3 s3=>?_⟩⟩⟩;have DH:=(s1.trans s2).trans s3;have d3:=(d1.up s2).up s3;split at e
  .cases e;obtain⟨q,vs,rfl,hq,t⟩:=d3.lst;refine⟨q,vs,rfl,hq,λ z hz=>?_⟩;have s4:ax H3 (upd H3 z<|.lst<|qH vs l h):=bV hz;exact k z _ _ (DH.trans s4) (DH.free hz) aI<|(xJ t l h).up s4
  .cases e⟩
def t8(K:Ch)(m:Y' Z.D->Z.Res Z.D):Sp:=λ vs H Q _=>∃ds d,ay K H ds vs/\m ds=.ok d/\∀v H',ax H H'->Den K H' d v->Q v H'
theorem Ge(F:dI X.prog X.w X.K X.mg X.base jc k g fd ps (t8 X.K m))(hr:bK k X.A)(hg:Gl X x)(hm:X.mg x=Y! (.ref g))(hk:Ev X.K (.ref g)=AT)(hb:Binds X.K fd ps [])
 (ha:DA X (e::es) ar) (c_:(x==("__debug__"))=Z!:=by decide +kernel) (he:Se e es X.env:=by rfl) (da:Pn pos es X.env:=by rfl) :
 DE X (.Call (.Name x p1) (e::es) [] pos) (Z.aB m ar):=
 PE.imp (yt F hr hg hm hk hb .nil GV ha c_ he da) λ σ H Q ⟨ρ,d,r,e,k⟩=>by obtain⟨ds,ea,e⟩:=Z.Res.aw e;refine⟨ρ,ds,r,ea,λ vs H1 s1 d1=>?_⟩;show t8 X.K m _ H1 Q E0;rw[A53];exact⟨ds,d,d1,e,λ v H' s2 dv=>k v H' (s1.trans s2) dv⟩
end
structure AE(K:Ch)(J:It)(S:Hp->Prop)(ds:List Z.D):Prop where
 go:∀(i:Nat)(d:Z.D)(H1:Hp),S H1->ds[i]?=Y! d->J.go i H1
 zf:∀(i:Nat)(d:Z.D)(H1 H2:Hp)(x:V),S H1->ds[i]?=Y! d->J.zf i H1 x H2->ax H1 H2/\Den K H2 d x
 stop:∀(H1:Hp),S H1->J.stop ds.length H1
def U5(K:Ch)(f:Z.LF):TI:=λ σ H R=>∃ρ ds,RE K H σ ρ/\f ρ=.ok ds/\∀J H',ax H H'->AE K J (ax H') ds->R J H'
def U4(K:Ch)(f:Z.LF):TI:=λ σ H R=>∃ρ ds,RE K H σ ρ/\f ρ=.ok ds/\∀J H',ax H H'->AE K J (iF H') ds->R J H'
abbrev DI(X:Cx)(tg e:γ)(f:Z.LF):Prop:=PI X tg e<|U5 X.K f
structure _root_.ZQ.QI(X:Cx)(tg e:Expr)(f:Z.LF):Prop where p:DI X tg e f
abbrev DJ(X:Cx)(tg e:γ)(f:Z.LF):Prop:=PI X tg e<|U4 X.K f
structure _root_.ZQ.QJ(X:Cx)(tg e:Expr)(f:Z.LF):Prop where p:DJ X tg e f
section
variable {X:Cx}{tg e a b:γ}{es:Y' γ}{pos p:Pos}{f fa fb:Z.EF}
theorem PI.imp(h:PI X tg e t)(k:∀σ H R,t' σ H R->t σ H R):PI X tg e t':=λ π s σ H R I w=>h π s σ H R I<|k σ H R w
theorem AE.imp{K:Ch}(h:AE K J S ds)(k:∀H,S' H->S H):AE K J S' ds:=
 ⟨λ i d H1 s=>h.go i d H1<|k _ s,λ i d H1 H2 x s=>h.zf i d H1 H2 x<|k _ s,λ H1 s=>h.stop H1<|k _ s⟩
theorem _root_.ZQ.vB(h:ZQ.QJ X tg e g):ZQ.QI X tg e g:=⟨PI.imp h.p λ σ H R ⟨ρ,ds,r,e,k⟩=>⟨ρ,ds,r,e,λ J H' s z=>k J H' s<|z.imp λ _ q=>lC q⟩⟩
theorem Fu{K:Ch}(h:jW K H q vs)(t:ay K H ds vs):AE K (UA K q) (iF H) ds where
 go:=λ i d H1 s hi=>by obtain⟨v,h1,_⟩:=t.get hi;exact⟨vs,v,fj s h,h1⟩
 zf:=λ i d H1 H2 x s hi y=>by obtain⟨e,y⟩:=y;obtain⟨v,h1,h2⟩:=t.get hi;have:=y vs<|fj s h;rw[h1]at this;cases this;subst e;exact⟨ax.refl _,h2.ups s⟩
 stop:=λ H1 s=>⟨vs,fj s h,by rw[t.length];exact Z0 _⟩
theorem Fw{K:Ch}(h:∀H1,S H1->gJ K H1 q vs)(t:∀H1,S H1->ay K H1 ds vs)(t0:ay K H ds vs):AE K (Pp K q) S ds where
 go:=λ i d H1 s hi=>by obtain⟨v,h1,_⟩:=t0.get hi;exact⟨vs,v,h H1 s,h1⟩
 zf:=λ i d H1 H2 x s hi y=>by obtain⟨e,y⟩:=y;obtain⟨v,h1,h2⟩:=(t H1 s).get hi;have:=y vs<|h H1 s;rw[h1]at this;cases this;subst e;exact⟨ax.refl _,h2⟩
 stop:=λ H1 s=>⟨vs,h H1 s,by rw[t0.length];exact Z0 _⟩
theorem ints_get(lo:Int)(n i:Nat)(d:Z.D)(h:(Z.zints lo n)[i]?=Y! d):i<n/\d=.int (lo+i):=by
 unfold Z.zints at h;rw[Z3]at h;cases q:(Do n)[i]? with
 |none=>rw[q]at h;cases h
 |some j=>rw[q]at h;cases h;obtain⟨h1,h2⟩:=Y3.mp q;rw[A08]at h1;rw[A56]at h2;subst h2;exact⟨h1,rfl⟩
theorem yG{K:Ch}(lo:Int)(n:Nat):AE K (Hf lo n) S (Z.zints lo n) where
 go:=λ i d H1 s hi=>(ints_get lo n i d hi).1
 zf:=λ i d H1 H2 x s hi y=>by obtain⟨e,y⟩:=y;obtain⟨_,rfl⟩:=ints_get lo n i d hi;subst e;rw[y];exact⟨ax.refl _,cu⟩
 stop:=λ H1 s=>by unfold Z.zints;rw[v4,A08];exact Z0 _
theorem zx{K:Ch}(it:Z')(lo:Int)(n:Nat):Turn P w K tg (Hf lo n) [it] it (λ i h=>IsLongIter h it (lo+(i)*1) ((n)-(i)) 1) where
 mem:=by simp
 obj:=λ i h st b hb=>by
  have e:b=it:=by simpa using hb
  subst e;exact⟨_,st,λ v z=>by have z':=z;cases z'⟩
 keep:=λ i h h' st k=>k it (by simp) _ st
 item:=by intro X hP hw hK hc i π s σ H E I hf st hg;subst hP hw hK;obtain⟨f0,f1,f2,f3,f4,f5⟩:=hf it (by simp);have W:=Walks.longrange (prog:=X.prog) (w:=X.w) (I.ok.hd hc) it lo 1 n;refine W.item i s _ _ hg st λ v h' tk hv uC kk=>?_;obtain⟨t,rfl⟩:=hv;have I1:Inv X π σ H {s with heap:=h',toks:=tk}:=I.turned (λ b o hb e=>kk b o (by simpa using hb) e) f0 f1 f3 f4 f5;refine⟨_,rfl,vd uC rfl rfl (by decide) ⟨.int _,H,I1,⟨t,?_⟩,⟨rfl,rfl⟩,uC,λ b hb=>(hf b hb).1⟩⟩;rw[Int.mul_one]
 done:=by intro X hP hw hK hc i π s σ H E I hf st hg;subst hP hw hK;obtain⟨f0,f1,f2,f3,f4,f5⟩:=hf it (by simp);exact wpAny_pyNext_long_end (I.ok.hd hc) st (by have:n<=i:=hg;lia) λ h' eb=>⟨rfl,I.turned (λ b o hb e=>eb b o hb e) f0 f1 f3 f4 f5⟩
 self:=λ _ _ _ _ _ st h=>wpAny_pyIter_longiter st h
theorem range_any{lo hi:Int}{t u v:Tok}{tk:Nat}(I:Inv X π σ H s)
 (q:R (Hf lo (hi-lo).toNat) H):Db (model X.prog X.w) X.A (pyIter<|.ref s.heap.objs.size) (Pk X π σ tg R) E {s with heap:=s.heap.push {cls:=.type "range",data:=.fields #[.int lo t,.int hi u,.int 1 v]},toks:=tk}:=by
 have I1:Inv X π σ H {s with heap:=s.heap.push {cls:=.type "range",data:=.fields #[.int lo t,.int hi u,.int 1 v]},toks:=tk}:=I.kept λ b o e=>W1 _ e;have e1:lo+((0:Nat):Int)*1=lo:=by simp
 have e2:(((hi-lo).toNat:Nat):Int)-((0:Nat):Int)=Builtin.Range.rangeSize lo hi 1:=by rw[rangeSize_one];split<;>lia
 cases hs:Builtin.Range.small lo hi 1 with
 |true=>
  refine wpAny_pyIter_range (IsRange.new ..) hs ?_;refine⟨(s.heap.push {cls:=.type "range",data:=.fields #[.int lo t,.int hi u,.int 1 v]}).objs.size,[(s.heap.push {cls:=.type "range",data:=.fields #[.int lo t,.int hi u,.int 1 v]}).objs.size],_,_,H,rfl,
   I1.kept (t':=tk) λ b o e=>W1 _ e,wB _ lo (hi-lo).toNat,?_,λ b hb=>?_,q⟩
  .show IsRangeIter _ _ (lo+((0:Nat):Int)*1) ((((hi-lo).toNat:Nat):Int)-((0:Nat):Int)) 1;rw[e1,e2];exact Y5 _ rfl
  .have e:b=(s.heap.push {cls:=.type "range",data:=.fields #[.int lo t,.int hi u,.int 1 v]}).objs.size:=by simpa using hb
   subst e;exact I1.qB (Z0 _)<|I1.bI.fresh<|Z0 _
 |false=>
  refine wpAny_pyIter_longrange (IsRange.new ..) hs ?_;refine⟨(s.heap.push {cls:=.type "range",data:=.fields #[.int lo t,.int hi u,.int 1 v]}).objs.size,[(s.heap.push {cls:=.type "range",data:=.fields #[.int lo t,.int hi u,.int 1 v]}).objs.size],_,_,H,rfl,
   I1.kept (t':=tk) λ b o e=>W1 _ e,zx _ lo (hi-lo).toNat,?_,λ b hb=>?_,q⟩
  .show IsLongIter _ _ (lo+((0:Nat):Int)*1) ((((hi-lo).toNat:Nat):Int)-((0:Nat):Int)) 1;rw[e1,e2];exact Y5 _ rfl
  .have e:b=(s.heap.push {cls:=.type "range",data:=.fields #[.int lo t,.int hi u,.int 1 v]}).objs.size:=by simpa using hb
   subst e;exact I1.qB (Z0 _)<|I1.bI.fresh<|Z0 _
def NI(ta:TA):TI:=λ σ H R=>ta σ H λ vs H1=>∃j:Int,vs=[.int j]/\R (Hf 0 j.toNat) H1
def NH(ta:TA):TI:=λ σ H R=>ta σ H λ vs H1=>∃i j:Int,vs=[.int i,.int j]/\R (Hf i (j-i).toNat) H1
theorem EV(hg:Gl X "range")(hm:X.mg "range"=AC)(ha:PA X [a] ta)(hs:starEach [a] X.env=[(Z!,eval a X.env)]:=by rfl):PI X tg (.Call (.Name "range" p) [a] [] pos) (NI ta):=by
 intro π s σ H R I h;refine Call_<|iN I hg hm boot_range<|B10 (b8 (ha pos π s σ H _ I h) λ us s1 ⟨vs,H1,I1,r1,q1⟩=>?_) hs rfl;obtain⟨j,e,q⟩:=q1;subst e;cases r1 with
 |cons r rr=>cases rr;obtain⟨t,rfl⟩:=r;exact call_range_1<|range_any I1 (by simpa using q)
theorem EU(hg:Gl X "range")(hm:X.mg "range"=AC)(ha:PA X [a,b] ta)(hs:starEach [a,b] X.env=[(Z!,eval a X.env),(Z!,eval b X.env)]:=by rfl)(v7:starEach [b] X.env=[(Z!,eval b X.env)]:=by rfl):
 PI X tg (.Call (.Name "range" p) [a,b] [] pos) (NH ta):=by
 intro π s σ H R I h;refine Call_<|iN I hg hm boot_range<|B10 (b8 (ha pos π s σ H _ I h) λ us s1 ⟨vs,H1,I1,r1,q1⟩=>?_) (by rw[hs,v7]) (by rw[v7];rfl);obtain⟨i,j,e,q⟩:=q1;subst e;cases r1 with
 |cons r rr=>
  cases rr with
  |cons r' rr=>cases rr;obtain⟨t,rfl⟩:=r;obtain⟨t',rfl⟩:=r';exact call_range_2<|range_any I1 q
theorem _root_.ZQ.cq(hm:X.mg "range"=AC)(ha:ZQ.QE X a fa)(hs:starEach [a] X.env=[(Z!,eval a X.env)]:=by rfl)(rh:Se a [] X.env:=by rfl)(hg:Gl X "range":=by rfl):ZQ.QJ X tg (.Call (.Name "range" p) [a] [] pos) (Z.dX fa):=
 ⟨PI.imp (EV hg hm (aS ha.p bM rh) hs) λ σ H R ⟨ρ,ds,r,e,k⟩=>by
  obtain⟨x,ea,e⟩:=Z.Res.aw e;refine⟨ρ,x,r,ea,λ v H1 s1 d1=>?_⟩;split at e
  .rename_i j;cases e;simp only[Den]at d1;exact⟨j,by rw[d1],k _ H1 s1<|yG 0 _⟩
  .cases e⟩
theorem _root_.ZQ.vA(hm:X.mg "range"=AC)(ha:ZQ.QE X a fa)(hb:ZQ.QE X b fb)(hs:starEach [a,b] X.env=[(Z!,eval a X.env),(Z!,eval b X.env)]:=by rfl)(v7:starEach [b] X.env=[(Z!,eval b X.env)]:=by rfl)(h1:Se a [b] X.env:=by rfl)(h2:Se b [] X.env:=by rfl)(hg:Gl X "range":=by rfl):ZQ.QJ X tg (.Call (.Name "range" p) [a,b] [] pos) (Z.u_ fa fb):=
 ⟨PI.imp (EU hg hm (aS ha.p (aS hb.p bM h2) h1) hs v7) λ σ H R ⟨ρ,ds,r,e,k⟩=>by
  obtain⟨x,ea,e⟩:=Z.Res.aw e;obtain⟨y,eb,e⟩:=Z.Res.aw e;obtain⟨i,j,rfl,rfl,rfl⟩:∃i j,x=.int i/\y=.int j/\ds=Z.zints i (j-i).toNat:=by
   split at e
   .cases e;exact⟨_,_,rfl,rfl,rfl⟩
   .cases e
  refine⟨ρ,_,r,ea,λ v H1 s1 d1=>⟨ρ,_,r.up s1,eb,λ u H2 s2 d2=>?_⟩⟩;simp only[Den]at d1 d2;exact⟨i,j,by rw[d1,d2],k _ H2 (s1.trans s2)<|yG i (j-i).toNat⟩⟩
def UB(z:Str):It:=⟨λ i _=>i<z.cps.size,λ i H x H'=>H'=H/\∃c,z.cps[i]?=Y! c/\x=.str ⟨#[c]⟩,λ i _=>i=z.cps.size⟩
theorem Bb{K:Ch}(z:Str)(it:Z')(n:String)(hn:["enumerate","zip","dict_itemiterator","dict_reverseitemiterator","odict_iterator","itertools.zip_longest","itertools.pairwise"].contains n=Z!)(t:Tok)
 (W:∀A,A.handled=AC->Walks P w A it [it] [it] z.cps.size (SignAt z) (λ i h=>h.IsStrIter it n z t i)) (self:∀A i s Q E,s.heap.IsStrIter it n z t i->Q (.ref it) s->Db (model P w) A (pyIter<|.ref it) Q E s) :
 Turn P w K tg (UB z) [it] it (λ i h=>h.IsStrIter it n z t i) where
 mem:=by simp
 obj:=λ i h st b hb=>by
  have e:b=it:=by simpa using hb
  subst e;obtain⟨o,e,c,d⟩:=st;exact⟨o,e,λ v z=>by rw[d]at z;cases z⟩
 keep:=λ i h h' st k=>by obtain⟨o,e,c,d⟩:=st;exact⟨o,k it (by simp) o e,c,d⟩
 item:=by intro X hP hw hK hc i π s σ H E I hf st hg;subst hP hw hK;obtain⟨f0,f1,f2,f3,f4,f5⟩:=hf it (by simp);refine(W X.A<|I.ok.hd hc).item i s _ _ hg st λ v h' tk hv uC kk=>?_;obtain⟨c,u,O0,rfl⟩:=hv;have I1:Inv X π σ H {s with heap:=h',toks:=tk}:=I.turned (λ b o hb e=>kk b o (by simpa using hb) e) f0 f1 f3 f4 f5;obtain⟨o,e,c',d⟩:=id uC;exact⟨_,rfl,vd e c' d hn ⟨.str ⟨#[c]⟩,H,I1,⟨u,rfl⟩,⟨rfl,c,O0,rfl⟩,uC,λ b hb=>(hf b hb).1⟩⟩
 done:=by intro X hP hw hK hc i π s σ H E I hf st hg;subst hP hw hK;obtain⟨f0,f1,f2,f3,f4,f5⟩:=hf it (by simp);have Wi:=hg;subst Wi;exact(W X.A<|I.ok.hd hc).done s _ _ st λ h' tk kk=>⟨rfl,I.turned (λ b o hb e=>kk b o (by simpa using hb) e) f0 f1 f3 f4 f5⟩
 self:=self
theorem Fv{K:Ch}(cs:Y' Nat):AE K (UB ⟨cs.toArray⟩) S (cs.map λ c=>.str [c]) where
 go:=λ i d H1 s hi=>by show i<cs.toArray.size;obtain⟨h1,_⟩:=Y3.mp hi;simpa using h1
 zf:=λ i d H1 H2 x s hi y=>by
  obtain⟨e,c,hc,rfl⟩:=y;have v_:cs[i]?=Y! c:=by simpa using hc
  rw[Z3,v_]at hi;cases hi;subst e;exact⟨ax.refl _,j8 ⟩
 stop:=λ H1 s=>by show(cs.map λ c=>Z.D.str [c]).length=cs.toArray.size;simp
theorem Bw(I:Inv X π σ H s)(rv:RelV v u)(hd:bc X.K H d v)(hi:Z.pA d=.ok ds)
 (hS:∀H1,S H1->iF H H1) (hL:∀es q vs,d=.lst es->v=.ref q->gJ X.K H q vs->∀H1,S H1->gJ X.K H1 q vs)
 (k:∀J,AE X.K J S ds->R J H):Db (model X.prog X.w) X.A (pyIter u) (Pk X π σ tg R) E s:=by
 unfold Z.pA at hi;split at hi
 .cases hi;obtain⟨q,vs,rfl,hq,t⟩:=hd.tup;cases rv;obtain⟨aU,r',pl,hz⟩:=I.tuple hq;refine B13 (pl) ?_;refine⟨s.heap.objs.size,[s.heap.objs.size],_,_,H,rfl,I.kept λ b o e=>W1 _ e,wA q _,⟨_,Y5 _ rfl,rfl,rfl⟩,λ b hb=>?_,k _<|(Fu hq t).imp hS⟩;have e:b=s.heap.objs.size:=by simpa using hb
  subst e;exact I.qB (Z0 _)<|I.bI.fresh<|Z0 _
 .cases hi;obtain⟨q,vs,rfl,hq,t⟩:=hd.lst;cases rv;obtain⟨aU,r',pl,hz⟩:=I.list hq;refine A43 pl.isList ?_;refine⟨s.heap.objs.size,[s.heap.objs.size],_,_,H,rfl,I.kept λ b o e=>W1 _ e,qQ q _,⟨_,Y5 _ rfl,rfl,rfl⟩,λ b hb=>?_,
   k _<|Fw (λ H1 s1=>hL _ q vs rfl rfl hq H1 s1) (λ H1 s1=>t.ups<|hS H1 s1) t⟩
  have e:b=s.heap.objs.size:=by simpa using hb
  subst e;exact I.qB (Z0 _)<|I.bI.fresh<|Z0 _
 .cases hi;rename_i cs;rw[hd.str]at rv;obtain⟨t,rfl⟩:=rv;have fin:∀n (hn:["enumerate","zip","dict_itemiterator","dict_reverseitemiterator","odict_iterator","itertools.zip_longest","itertools.pairwise"].contains n=Z!)
   (W:∀A,A.handled=AC->Walks X.prog X.w A s.heap.objs.size [s.heap.objs.size] [s.heap.objs.size] (⟨cs.toArray⟩:Str).cps.size (SignAt ⟨cs.toArray⟩) (λ i h=>h.IsStrIter s.heap.objs.size n ⟨cs.toArray⟩ t i))
   (self:∀A i s' Q E,s'.heap.IsStrIter s.heap.objs.size n ⟨cs.toArray⟩ t i->Q (.ref s.heap.objs.size) s'->Db (model X.prog X.w) A (pyIter<|.ref s.heap.objs.size) Q E s'),
   Pk X π σ tg R (.ref s.heap.objs.size) {s with heap:=s.heap.push {cls:=.type n,data:=.fields #[.str ⟨cs.toArray⟩ t,.int 0 0]}}:=by
   intro n hn W self;refine⟨s.heap.objs.size,[s.heap.objs.size],_,_,H,rfl,I.kept λ b o e=>W1 _ e,Bb ⟨cs.toArray⟩ _ n hn t W self,⟨_,Y5 _ rfl,rfl,rfl⟩,λ b hb=>?_,k _<|Fv cs⟩;have e:b=s.heap.objs.size:=by simpa using hb
   subst e;exact I.qB (Z0 _)<|I.bI.fresh<|Z0 _
  cases ha:(⟨cs.toArray⟩:Str).cps.all (· < 128)
  .exact wpAny_pyIter_wide ha<|fin "str_iterator" (by decide) (λ A' hA=>Walks.strWide hA _ _ t) λ _ _ _ _ _ st hQ=>wpAny_pyIter_striter_wide st hQ
  .exact wpAny_pyIter_ascii ha<|fin "str_ascii_iterator" (by decide) (λ A' hA=>Walks.strAscii hA _ _ t) λ _ _ _ _ _ st hQ=>wpAny_pyIter_striter_ascii st hQ
 .cases hi
theorem _root_.ZQ.fK(ha:ZQ.QW X a fa):ZQ.QI X tg a (Z.iR fa):=⟨by intro π s σ H R I w;obtain⟨ρ,ds,r,e,k⟩:=w;obtain⟨d,ea,e⟩:=Z.Res.aw e;refine b8 (ha.p π s σ H (λ v H1=>ax H H1/\bc X.K H1 d v) I ⟨ρ,d,r,ea,λ v H1 s1 d1=>⟨s1,d1⟩⟩) ?_;rintro u s1 ⟨v,H1,I1,rv,sm,hd⟩;exact Bw I1 rv hd e (λ _ q=>lC q) (λ _ _ _ _ _ hq H2 s2=>s2.seq hq) λ J z=>k J H1 sm z⟩
theorem _root_.ZQ.xE(ha:ZQ.QE X a fa):ZQ.QJ X tg a (Z.iR fa):=⟨by intro π s σ H R I w;obtain⟨ρ,ds,r,e,k⟩:=w;obtain⟨d,ea,e⟩:=Z.Res.aw e;refine b8 (ha.p π s σ H (λ v H1=>ax H H1/\Den X.K H1 d v) I ⟨ρ,d,r,ea,λ v H1 s1 d1=>⟨s1,d1⟩⟩) ?_;rintro u s1 ⟨v,H1,I1,rv,sm,hd⟩;refine Bw I1 rv (.inl hd) e (λ _ q=>q) (λ es q vs e1 e2 hq H2 s2=>?_) λ J z=>k J H1 sm z;subst e1;simp only[Den]at hd;obtain⟨q',J7,e3,hz,_⟩:=hd;rw[e2]at e3;cases e3;rw[I1.lT hq hz.sq];exact(hz.mono s2).sq⟩
def gK(H0:Hp)(σ:St)(ρ:Z.Env):Prop:=(∀(i j:Nat)(ks ls:Z.DK)(a:Z'),ρ[i]?=Y! (Y!<|.dc ks)->ρ[j]?=Y! (Y!<|.dc ls)->σ[i]?=Y! (Y!<|.ref a)->σ[j]?=Y! (Y!<|.ref a)->i=j) /\
 ∀(i:Nat)(ks:Z.DK)(q:Z'),ρ[i]?=Y! (Y!<|.dc ks)->σ[i]?=Y! (Y!<|.ref q)->H0 q=AC
theorem gK.non(h:∀(i:Nat)(ks:Z.DK),ρ[i]?≠Y! (Y!<|.dc ks)):gK H0 σ ρ:=⟨λ i _ ks _ _ e=>absurd e<|h i ks,λ i ks _ e=>absurd e<|h i ks⟩
structure RS(K:Ch)(H0 H:Hp)(σ:St)(ρ:Z.Env):Prop where
 same:ax H0 H
 re:RE K H σ ρ
 fresh:∀(i:Nat)(xs:List Z.D)(q:Addr),ρ[i]?=Y! (Y!<|.own xs)->σ[i]?=Y! (Y!<|.ref q)->H0 q=AC
 n5:∀(i:Nat)(d:Z.D),ρ[i]?=Y! (Y!<|.bor d)->∃v,σ[i]?=Y! (Y! v)/\zd K H0 d v
 G!:gK H0 σ ρ
def O6(K:Ch)(H0 H:Hp)(D:Ends):Z.Fl->Prop
|.nx ρ'=>∀σ' H',iF H H'->RS K H0 H' σ' ρ'->D.nx σ' H'
|.rt d=>∀v H',ax H0 H'->Den K H' d v->D.rt v H'
|.bk ρ'=>∀σ' H',iF H H'->RS K H0 H' σ' ρ'->D.bk σ' H'
|.ct ρ'=>∀σ' H',iF H H'->RS K H0 H' σ' ρ'->D.ct σ' H'
def tS(K:Ch)(H0:Hp)(g:Z.SF):TS:=λ D σ H=>∃ρ fl,RS K H0 H σ ρ/\g ρ=.ok fl/\O6 K H0 H D fl
abbrev DS(X:Cx)(H0:Hp)(st:ε)(g:Z.SF):Prop:=PS X st<|tS X.K H0 g
structure _root_.ZQ.QS(X:Cx)(H0:Hp)(st:Stmt)(g:Z.SF):Prop where p:DS X H0 st g
abbrev Hi(X:Cx)(H0:Hp)(st:Y' ε)(g:Z.SF):Prop:=n9 X st<|tS X.K H0 g
structure _root_.ZQ.rM(X:Cx)(H0:Hp)(st:List Stmt)(g:Z.SF):Prop where p:Hi X H0 st g
theorem PS.imp{st:ε}(h:PS X st t)(k:∀D σ H,t' D σ H->t D σ H):PS X st t':=λ π s σ H D I w=>h π s σ H D I<|k D σ H w
theorem n9.imp{st:Y' ε}(h:n9 X st t)(k:∀D σ H,t' D σ H->t D σ H):n9 X st t':=λ π s σ H D I w=>h π s σ H D I<|k D σ H w
theorem RS.up{K:Ch}(h:RS K H0 H σ ρ)(e:ax H H'):RS K H0 H' σ ρ:=⟨h.same.trans e,h.re.up e,h.fresh,h.n5,h.G!⟩
theorem O6.up{K:Ch}(h:O6 K H0 H D fl)(e:iF H H1):O6 K H0 H1 D fl:=by
 cases fl with
 |nx ρ'=>exact λ σ' H' s r=>h σ' H' (e.trans s) r
 |rt d=>exact h
 |bk ρ'=>exact λ σ' H' s r=>h σ' H' (e.trans s) r
 |ct ρ'=>exact λ σ' H' s r=>h σ' H' (e.trans s) r
theorem aK{α:Type}{l:Y' _}{x:Y_ α}{y:α}(h:(l.set i x)[j]?=Y! (Y! y)):(i=j/\i<l.length/\x=Y! y)\/(i≠j/\l[j]?=Y! (Y! y)):=by
 by_cases G6:i=j
 .subst G6;by_cases hl:i<l.length
  .rw[A25 hl]at h;exact .inl ⟨rfl,hl,Y4 h⟩
  .rw[B77 (by simpa using hl)]at h;cases h
 .rw[A14 G6]at h;exact .inr ⟨G6,h⟩
theorem gK.set(h:gK H0 σ ρ)(n:∀ks,l≠.dc ks):gK H0 (σ.set i<|some v) (ρ.set i<|some l):=by
 have get:∀(j:Nat) ks,(ρ.set i _)[j]?=Y! _->ρ[j]?=Y! _/\(σ.set i<|some v)[j]?=σ[j]?:=λ j ks e=>by
  rcases aK e with⟨_,_,e⟩|⟨hj,e⟩
  .exact absurd (Y4 e)<|n ks
  .exact⟨e,A14 hj⟩
 exact⟨λ j k ks ls a e1 e2 e3 e4=>h.1 j k ks ls a (get j ks e1).1 (get k ls e2).1 (by rw[<-(get j ks e1).2];exact e3) (by rw[<-(get k ls e2).2];exact e4),λ j ks q e1 e2=>h.2 j ks q (get j ks e1).1 (by rw[<-(get j ks e1).2];exact e2)⟩
theorem gK.Lh(h:gK H0 σ ρ)(n:∀ks,l≠.dc ks):gK H0 σ (ρ.set i<|some l):=by
 have get:∀(j:Nat) ks,(ρ.set i _)[j]?=Y! _->ρ[j]?=Y! _:=λ j ks e=>by
  rcases aK e with⟨_,_,e⟩|⟨hj,e⟩
  .exact absurd (Y4 e)<|n ks
  .exact e
 exact⟨λ j k ks ls a e1 e2 e3 e4=>h.1 j k ks ls a (get j ks e1) (get k ls e2) e3 e4,λ j ks q e1 e2=>h.2 j ks q (get j ks e1) e2⟩
theorem RS.EH{K:FS}(h:RS K H0 H σ ρ)(hd:Den K H d v):RS K H0 H (σ.set i<|some v) (ρ.set i<|some<|.val d):=by
 have getσ:∀j,i≠j->(σ.set i<|some v)[j]?=σ[j]?:=λ j hj=>A14 hj;refine⟨h.same,⟨by simp[h.re.len],λ j l e=>?_,λ j k xs ys q e1 e2 e3 e4=>?_⟩,λ j xs q e1 e2=>?_,λ j xs e1=>?_,h.G!.set λ _ z=>nomatch z⟩
 .rcases aK e with⟨rfl,hl,e⟩|⟨hj,e⟩
  .cases e;exact⟨v,A25 (by rw[<-h.re.len];exact hl),hd⟩
  .rw[getσ j hj];exact h.re.get j l e
 .rcases aK e1 with⟨_,_,e⟩|⟨hj,e1⟩
  .cases e
  .rcases aK e2 with⟨_,_,e⟩|⟨hk,e2⟩
   .cases e
   .rw[getσ j hj]at e3;rw[getσ k hk]at e4;exact h.re.sep j k xs ys q e1 e2 e3 e4
 .rcases aK e1 with⟨_,_,e⟩|⟨hj,e1⟩
  .cases e
  .rw[getσ j hj]at e2;exact h.fresh j xs q e1 e2
 .rcases aK e1 with⟨_,_,e⟩|⟨hj,e1⟩
  .cases e
  .rw[getσ j hj];exact h.n5 j xs e1
theorem RS.Li{K:FS}(h:RS K H0 H σ ρ)(hq:H q=Y! (.lst vs))(t:ay K H ds vs)(h0:H0 q=AC)
 (nq:∀j xs,j≠i->ρ[j]?=Y! (Y!<|.own xs)->σ[j]?≠Y! (Y!<|.ref q)):RS K H0 H (σ.set i<|some<|.ref q) (ρ.set i<|some<|.own ds):=by
 have getσ:∀j,i≠j->(σ.set i<|some<|V.ref q)[j]?=σ[j]?:=λ j hj=>A14 hj;refine⟨h.same,⟨by simp[h.re.len],λ j l e=>?_,λ j k xs ys p e1 e2 e3 e4=>?_⟩,λ j xs p e1 e2=>?_,λ j xs e1=>?_,h.G!.set λ _ z=>nomatch z⟩
 .rcases aK e with⟨rfl,hl,e⟩|⟨hj,e⟩
  .cases e;exact⟨_,A25 (by rw[<-h.re.len];exact hl),q,vs,rfl,hq,t⟩
  .rw[getσ j hj];exact h.re.get j l e
 .rcases aK e1 with⟨rfl,hl,_⟩|⟨hj,e1⟩
  .rcases aK e2 with⟨rfl,_,_⟩|⟨hk,e2⟩
   .rfl
   .rw[A25 (by rw[<-h.re.len];exact hl)]at e3;cases e3;rw[getσ k hk]at e4;exact absurd e4<|nq k ys (P3 hk) e2
  .rcases aK e2 with⟨rfl,hl,_⟩|⟨hk,e2⟩
   .rw[A25 (by rw[<-h.re.len];exact hl)]at e4;cases e4;rw[getσ j hj]at e3;exact absurd e3<|nq j xs (P3 hj) e1
   .rw[getσ j hj]at e3;rw[getσ k hk]at e4;exact h.re.sep j k xs ys p e1 e2 e3 e4
 .rcases aK e1 with⟨rfl,hl,_⟩|⟨hj,e1⟩
  .rw[A25 (by rw[<-h.re.len];exact hl)]at e2;cases e2;exact h0
  .rw[getσ j hj]at e2;exact h.fresh j xs p e1 e2
 .rcases aK e1 with⟨_,_,e⟩|⟨hj,e1⟩
  .cases e
  .rw[getσ j hj];exact h.n5 j xs e1
theorem RS.chg{K:FS}(h:RS K H0 H σ ρ)(ei:ρ[i]?=Y! (Y!<|.own xs))(si:σ[i]?=Y! (Y!<|.ref q))(hq:H q=Y! (.lst us))(t:ay K H ds vs):
 RS K H0 (upd H q<|.lst vs) σ (ρ.set i<|some<|.own ds):=by
 have st:iF H (upd H q<|.lst vs):=fS hq;have h0:=h.fresh i xs q ei si;have hs:ax H0 (upd H q<|.lst vs):=λ b u e=>by rw[aA<|aP e h0];exact h.same b u e
 refine⟨hs,⟨by simp[h.re.len],λ j l e=>?_,λ j k D9 ys p e1 e2 e3 e4=>?_⟩,λ j D9 p e1 e2=>?_,λ j D9 e1=>?_,h.G!.Lh λ _ z=>nomatch z⟩
 .rcases aK e with⟨rfl,hl,e⟩|⟨hj,e⟩
  .cases e;exact⟨.ref q,si,q,vs,rfl,aI,t.ups st⟩
  .obtain⟨v,e1,r⟩:=h.re.get j l e;refine⟨v,e1,?_⟩;cases l with
   |val d=>exact Den.ups (r) st
   |own zs=>
    obtain⟨q',ws,rfl,ki,t'⟩:=r;have:q'≠q:=by rintro rfl;exact hj<|h.re.sep i j xs zs q' ei e si e1
    exact⟨q',ws,rfl,by rw[aA this];exact ki,t'.ups st⟩
   |bor zs=>obtain⟨v',e2,r2⟩:=h.n5 j zs e;rw[e1]at e2;cases e2;exact r2.re r h.same hs st
   |dc ks=>
    obtain⟨q',as,rfl,ki,t'⟩:=r;have:q'≠q:=by rintro rfl;rw[hq]at ki;exact yY (Y4 ki).symm
    exact⟨q',as,rfl,by rw[aA this];exact ki,t'.ups st⟩
   |CU ks=>obtain⟨q',o',as,rfl,ki,t'⟩:=r;exact⟨q',o',as,rfl,st.c5 _ _ _ ki,t'.ups st⟩
   |Mw ps=>obtain⟨q',o',rfl,ki⟩:=r;exact⟨q',o',rfl,st.c5 _ _ _ ki⟩
   |exc c=>obtain⟨q',o',u',C',rfl,ki,r1,r2,r3⟩:=r;exact⟨q',o',u',C',rfl,st.c5 _ _ _ ki,r1,r2,r3.ups st⟩
 .have old:∀{j:Nat}{zs},(ρ.set i<|some<|Z.L.own ds)[j]?=Y! (Y!<|.own zs)->∃UN,ρ[j]?=Y! (Y!<|.own UN):=λ {j zs} e=>by
   rcases aK e with⟨rfl,_,_⟩|⟨_,e⟩
   .exact⟨xs,ei⟩
   .exact⟨zs,e⟩
  obtain⟨_,o1⟩:=old e1;obtain⟨_,o2⟩:=old e2;exact h.re.sep j k _ _ p o1 o2 e3 e4
 .rcases aK e1 with⟨rfl,_,_⟩|⟨_,e1⟩
  .exact h.fresh i xs p ei e2
  .exact h.fresh j D9 p e1 e2
 .rcases aK e1 with⟨_,_,e⟩|⟨_,e1⟩
  .cases e
  .exact h.n5 j D9 e1
theorem RS.c5{K:FS}{H0 H:Hp}{σ:St}{ρ:Z.Env}{i:Nat}{xs:Y' Z.D}{q:Z'}{us:Y' V}{o:ζ}(h:RS K H0 H σ ρ)(ei:ρ[i]?=Y! (Y!<|.own xs))(si:σ[i]?=Y! (Y!<|.ref q))(hq:H q=Y! (.lst us))(t:ay K H xs us):
 RS K H0 (upd H q<|.c5 o<|.lst us) σ (ρ.set i<|some<|.val<|.lst xs):=by
 have st:iF H (upd H q<|.c5 o<|.lst us):=fS hq;have h0:=h.fresh i xs q ei si;have hs:ax H0 (upd H q<|.c5 o<|.lst us):=λ b u e=>by rw[aA<|aP e h0];exact h.same b u e
 refine⟨hs,⟨by simp[h.re.len],λ j l e=>?_,λ j k D9 ys p e1 e2 e3 e4=>?_⟩,λ j D9 p e1 e2=>?_,λ j D9 e1=>?_,h.G!.Lh λ _ z=>nomatch z⟩
 .rcases aK e with⟨rfl,hl,e⟩|⟨hj,e⟩
  .cases e;exact⟨_,si,tK (.inl ⟨o,aI⟩)<|t.ups st⟩
  .obtain⟨v,e1,r⟩:=h.re.get j l e;refine⟨v,e1,?_⟩;cases l with
   |val d=>exact Den.ups (r) st
   |own zs=>
    obtain⟨q',ws,rfl,ki,t'⟩:=r;have:q'≠q:=by rintro rfl;exact hj<|h.re.sep i j xs zs q' ei e si e1
    exact⟨q',ws,rfl,by rw[aA this];exact ki,t'.ups st⟩
   |bor zs=>obtain⟨v',e2,r2⟩:=h.n5 j zs e;rw[e1]at e2;cases e2;exact r2.re r h.same hs st
   |dc ks=>
    obtain⟨q',as,rfl,ki,t'⟩:=r;have:q'≠q:=by rintro rfl;rw[hq]at ki;exact yY (Y4 ki).symm
    exact⟨q',as,rfl,by rw[aA this];exact ki,t'.ups st⟩
   |CU ks=>obtain⟨q',o',as,rfl,ki,t'⟩:=r;exact⟨q',o',as,rfl,st.c5 _ _ _ ki,t'.ups st⟩
   |Mw ps=>obtain⟨q',o',rfl,ki⟩:=r;exact⟨q',o',rfl,st.c5 _ _ _ ki⟩
   |exc c=>obtain⟨q',o',u',C',rfl,ki,r1,r2,r3⟩:=r;exact⟨q',o',u',C',rfl,st.c5 _ _ _ ki,r1,r2,r3.ups st⟩
 .rcases aK e1 with⟨_,_,e⟩|⟨_,e1⟩
  .cases e
  .rcases aK e2 with⟨_,_,e⟩|⟨_,e2⟩
   .cases e
   .exact h.re.sep j k _ _ p e1 e2 e3 e4
 .rcases aK e1 with⟨_,_,e⟩|⟨_,e1⟩
  .cases e
  .exact h.fresh j D9 p e1 e2
 .rcases aK e1 with⟨_,_,e⟩|⟨_,e1⟩
  .cases e
  .exact h.n5 j D9 e1
variable {H0:Hp}{st:ε}{vY:Y' ε}{g u:Z.SF}
theorem _root_.ZQ.aM:ZQ.rM X H0 [] Z.bj:=⟨n9.imp EN λ D σ H ⟨ρ,fl,rs,e,k⟩=>by cases e;exact k σ H (iF.refl H) rs⟩
theorem _root_.ZQ.au(h:ZQ.QS X H0 st g):ZQ.rM X H0 [st] g:=⟨j1 h.p⟩
theorem _root_.ZQ.ao(h1:ZQ.QS X H0 st g)(h2:ZQ.rM X H0 vY u):ZQ.rM X H0 (st::vY) (Z.aN g u):=⟨n9.imp (jz h1.p h2.p) λ D σ H ⟨ρ,fl,rs,e,k⟩=>by
 obtain⟨f1,e1,e⟩:=Z.Res.aw e;refine⟨ρ,f1,rs,e1,?_⟩;cases f1 with
 |nx ρ'=>exact λ σ' H' s r=>⟨ρ',fl,r,e,k.up s⟩
 |rt d=>cases e;exact k
 |bk ρ'=>cases e;exact k
 |ct ρ'=>cases e;exact k⟩
theorem _root_.ZQ.aC(h:ZQ.QE X a fa):ZQ.QS X H0 (.Return (Y! a) pos) (Z.aY fa):=⟨PS.imp (wL h.p) λ D σ H ⟨ρ,fl,rs,e,k⟩=>by obtain⟨d,ea,e⟩:=Z.Res.aw e;cases e;exact⟨ρ,d,rs.re,ea,λ v H' s dv=>k v H' (rs.same.trans s) dv⟩⟩
theorem _root_.ZQ.F9(h:ZQ.QE X a fa)(hs:swapsWith a AC pos.line X.env=pure Z!:=by rfl):ZQ.QS X H0 (.Expr a pos) (Z.GL fa):=⟨PS.imp (oo h.p hs) λ D σ H ⟨ρ,fl,rs,e,k⟩=>by obtain⟨d,ea,e⟩:=Z.Res.aw e;cases e;exact⟨ρ,d,rs.re,ea,λ v H' s dv=>k σ H' (lC s)<|rs.up s⟩⟩
theorem _root_.ZQ.bo(hc:ZQ.QT X c t)(h1:ZQ.rM X H0 b1 g)(h2:ZQ.rM X H0 b2 u):ZQ.QS X H0 (.If c b1 b2 pos) (Z.gO t g u):=⟨PS.imp (BM hc.p h1.p h2.p) λ D σ H ⟨ρ,fl,rs,e,k⟩=>by
 obtain⟨x,ea,e⟩:=Z.Res.aw e;refine⟨ρ,x,rs.re,ea,λ H1 s1=>?_⟩;cases x with
 |true=>simp only[Z8]at e ⊢;exact⟨ρ,fl,rs.up s1,e,k.up<|lC s1⟩
 |false=>simp only[A11]at e ⊢;exact⟨ρ,fl,rs.up s1,e,k.up<|lC s1⟩⟩
theorem _root_.ZQ.aH(he:ZQ.QE X a fa)(hs:swapsWith a (Y!<|.Name x pos') pos.line X.env=pure Z!:=by rfl)(hf:Fl X x:=by trivial)(hN:X.N.Nodup:=by first|assumption|exact A65 (by kernel_rfl))(hi:X.N[i]?=Y! x:=by rfl)(hx:Loc X.env.scope x:=by exact lo rfl):ZQ.QS X H0 (.Assign [.Name x pos'] a pos) (Z.bq i fa):=⟨PS.imp (o5 hN hi hx he.p hs hf) λ D σ H ⟨ρ,fl,rs,e,k⟩=>by obtain⟨d,ea,e⟩:=Z.Res.aw e;cases e;exact⟨ρ,d,rs.re,ea,λ v H' s dv=>k _ H' (lC s)<|(rs.up s).EH dv⟩⟩
theorem RS.Tf{K:Ch}(h:RS K H1 H σ ρ)(hq:H q=AC)(j:Nat)(xs:Y' Z.D)(e:ρ[j]?=Y! (Y!<|.own xs)):σ[j]?≠Y! (Y!<|.ref q):=λ z=>by obtain⟨v,e1,q',vs,rfl,h2,_⟩:=h.re.get j _ e;rw[z]at e1;cases e1;rw[hq]at h2;cases h2
theorem _root_.ZQ.fZ(he:ZQ.QL X a l)(hs:swapsWith a (Y!<|.Name x pos') pos.line X.env=pure Z!:=by rfl)(hf:Fl X x:=by trivial)(hN:X.N.Nodup:=by first|assumption|exact A65 (by kernel_rfl))(hi:X.N[i]?=Y! x:=by rfl)(hx:Loc X.env.scope x:=by exact lo rfl):ZQ.QS X H0 (.Assign [.Name x pos'] a pos) (Z.nO i l):=⟨PS.imp (o5 hN hi hx he.p hs hf) λ D σ H ⟨ρ,fl,rs,e,k⟩=>by obtain⟨d,ea,e⟩:=Z.Res.aw e;cases e;refine⟨ρ,d,rs.re,ea,λ q vs H' s hn h1 t=>k _ H' (lC s)<|(rs.up s).Li h1 t (rs.same.free hn) λ j xs _ e=>?_⟩;exact rs.Tf hn j xs e⟩
def tG(K:Ch)(H0:Hp)(g:Z.GF):TG:=λ v σ H Q=>∃ρ d ρ',RS K H0 H σ ρ/\Den K H d v/\g d ρ=.ok ρ'/\∀σ' H',ax H H'->RS K H0 H' σ' ρ'->Q σ' H'
def U_(K:Ch)(H0:Hp)(is:Y' Nat):JY:=λ vs σ H Q=>∃ρ ds ρ',RS K H0 H σ ρ/\ay K H ds vs/\Z.jH is ds ρ=.ok ρ'/\∀σ' H',ax H H'->RS K H0 H' σ' ρ'->Q σ' H'
abbrev DG(X:Cx)(H0:Hp)(tg:γ)(g:Z.GF):Prop:=PG X tg<|tG X.K H0 g
structure _root_.ZQ.QG(X:Cx)(H0:Hp)(tg:Expr)(g:Z.GF):Prop where p:DG X H0 tg g
abbrev Xr(X:Cx)(H0:Hp)(PH:Y' γ)(is:Y' Nat):Prop:=Dx X PH<|U_ X.K H0 is
structure _root_.ZQ.NN(X:Cx)(H0:Hp)(PH:List Expr)(is:List Nat):Prop where p:Xr X H0 PH is
theorem PG.imp(h:PG X tg t)(k:∀v σ H Q,t' v σ H Q->t v σ H Q):PG X tg t':=λ π s σ H v u Q I r w=>h π s σ H v u Q I r<|k v σ H Q w
theorem Dx.imp(h:Dx X es t)(k:∀v σ H Q,t' v σ H Q->t v σ H Q):Dx X es t':=λ π s σ H v u Q I r w=>h π s σ H v u Q I r<|k v σ H Q w
theorem _root_.ZQ.bx(hf:Fl X x:=by trivial)(hN:X.N.Nodup:=by first|assumption|exact A65 (by kernel_rfl))(hi:X.N[i]?=Y! x:=by rfl)(hx:Loc X.env.scope x:=by exact lo rfl):ZQ.QG X H0 (.Name x pos) (Z.br i):=
 ⟨PG.imp (sC hN hi hx hf) λ v σ H Q ⟨ρ,d,ρ',rs,hd,e,k⟩=>by cases e;exact k _ H (ax.refl H)<|rs.EH hd⟩
theorem _root_.ZQ.f7:ZQ.NN X H0 [] []:=⟨Dx.imp EW λ vs σ H Q ⟨ρ,ds,ρ',rs,hd,e,k⟩=>by
 cases ds with
 |nil=>simp only[ay]at hd;cases e;exact⟨hd,k σ H (ax.refl H) rs⟩
 |cons d ds=>cases e⟩
theorem _root_.ZQ.aT(h2:ZQ.NN X H0 es is)(hs:(assignEach ((.Name x pos)::es) X.env).map (·.2)=assign (.Name x pos) X.env::(assignEach es X.env).map (·.2):=by rfl)(hf:Fl X x:=by trivial)(hN:X.N.Nodup:=by first|assumption|exact A65 (by kernel_rfl))(hi:X.N[i]?=Y! x:=by rfl)(hx:Loc X.env.scope x:=by exact lo rfl):ZQ.NN X H0 (.Name x pos::es) (i::is):=
 ⟨have h2:=h2.p;Dx.imp (BP (sC hN hi hx hf) h2 hs) λ vs σ H Q ⟨ρ,ds,ρ',rs,hd,e,k⟩=>by
  cases ds with
  |nil=>cases e
  |cons d ds=>simp only[ay]at hd;obtain⟨v,r,rfl,h1,h2⟩:=hd;exact⟨v,r,rfl,_,ds,ρ',rs.EH h1,h2,e,k⟩⟩
theorem _root_.ZQ.k?(hc:X.calm=AT)(h:ZQ.NN X H0 es is)(hl:is.length=n)(hn:(assignEach es X.env).length=n:=by rfl)(vb:(assignEach es X.env).findIdx? (·.1)=AC:=by rfl):ZQ.QG X H0 (.Tuple es x1 pos) (Z.iT is):=
 ⟨PG.imp (BQ hc h.p hn vb) λ v σ H Q ⟨ρ,d,ρ',rs,hd,e,k⟩=>by
  unfold Z.iT at e;split at e
  .rename_i ds;obtain⟨q,vs,rfl,hq,t⟩:=bc.tup (.inl hd);have ς:∀is ds ρ ρ',Z.jH is ds ρ=.ok ρ'->ds.length=is.length:=by
    intro is
    induction is with
    |nil=>intro ds ρ ρ' e;cases ds with
     |nil=>rfl
     |cons d ds=>cases e
    |cons i is ih=>intro ds ρ ρ' e;cases ds with
     |nil=>cases e
     |cons d ds=>simp[ih ds _ _ e]
   exact⟨q,vs,rfl,hq,by rw[t.length,ς is ds ρ ρ' e];exact hl,ρ,ds,ρ',rs,t,e,k⟩
  .cases e⟩
theorem _root_.ZQ.C?{g:Z.GF}(he:ZQ.QE X a fa)(hg:ZQ.QG X H0 tg g)(hs:swapsWithSole [tg] a pos.line X.env=pure Z!:=by rfl)(hw:swappedStores [tg] a X.env=pure AC:=by rfl)
 (h1:(assignEach [tg] X.env).map (·.2)=[assign tg X.env]:=by rfl):ZQ.QS X H0 (.Assign [tg] a pos) (Z.EK fa g):=⟨PS.imp (BN he.p hg.p hs hw h1) λ D σ H ⟨ρ,fl,rs,e,k⟩=>by
 obtain⟨d,ea,e⟩:=Z.Res.aw e;obtain⟨ρ',eb,e⟩:=Z.Res.aw e;cases e;exact⟨ρ,d,rs.re,ea,λ v H' s dv=>⟨ρ,d,ρ',rs.up s,dv,eb,λ σ2 H2 s2 r2=>k σ2 H2 ((lC s).trans<|lC s2) r2⟩⟩⟩
theorem _root_.ZQ.cJ(hi:ZQ.QJ X tg iter it)(hg:ZQ.QG X H0 tg G)(hb:ZQ.rM X H0 body g)(hs:∀x,foldedSetIterable iter X.env x=pure x:=by intro _;rfl)(hp:PassesOwn (model X.prog X.w) X.A X.env X.xe:=by exact PassesOwn.never)(hc:X.calm=AT:=by rfl):ZQ.QS X H0 (.For tg iter body [] pos) (Z.jx it G g):=⟨PS.imp (HS hp hc hi.p hg.p hb.p hs) λ D σ H ⟨ρ,fl,rs,e,k⟩=>by
 obtain⟨ds,ei,e⟩:=Z.Res.aw e;refine⟨ρ,ds,rs.re,ei,λ J H1 s1 z=>?_⟩;refine⟨λ i m σ' H'=>m=ds.length-i/\i<=ds.length/\∃ρ',RS X.K H0 H' σ' ρ'/\iF H1 H'/\Z.jI G g (ds.drop i) ρ'=.ok fl,⟨ds.length,by simp,A77 _,ρ,rs.up s1,iF.refl H1,by simpa using e⟩,?_⟩;rintro i m σ2 H2 ⟨rfl,OX,ρ2,r2,s2,e2⟩;by_cases iS:i<ds.length
 .obtain⟨d,hd⟩:∃d,ds[i]?=Y! d:=⟨ds[i],by simp[iS]⟩
  have pE:ds.drop i=d::ds.drop (i+1):=by
   rw[A79 iS];have:ds[i]=d:=by have:=M2 iS;rw[this]at hd;exact Y4 hd
   rw[this]
  rw[pE]at e2;obtain⟨ρ3,eg,e2⟩:=Z.Res.aw e2;obtain⟨f3,eb,e2⟩:=Z.Res.aw e2;refine .inr ⟨z.go i d H2 s2 hd,λ σ' H'=>∃ρ',RS X.K H0 H' σ' ρ'/\iF H1 H'/\Z.jI G g _ ρ'=.ok fl,λ σ' H' w=>⟨_,by lia,rfl,iS,w⟩,λ x H3 y=>?_⟩;obtain⟨sy,dx⟩:=z.zf i d H2 H3 x s2 hd y;replace s2:=s2.trans<|lC sy;refine⟨ρ2,d,ρ3,r2.up sy,dx,eg,λ σ4 H4 Vh r4=>⟨ρ3,f3,r4,eb,?_⟩⟩;have s4:=lC Vh;cases f3 with
  |nx ρ5=>exact λ σ5 H5 s5 r5=>⟨ρ5,r5,(s2.trans s4).trans s5,e2⟩
  |ct ρ5=>exact λ σ5 H5 s5 r5=>⟨ρ5,r5,(s2.trans s4).trans s5,e2⟩
  |bk ρ5=>cases e2;exact λ σ5 H5 s5 r5=>k σ5 H5 ((lC s1).trans<|(s2.trans s4).trans s5) r5
  |rt d5=>cases e2;exact k
 .have:i=ds.length:=by lia
  subst this;rw[B46]at e2;cases e2;exact .inl ⟨z.stop H2 s2,k σ2 H2 ((lC s1).trans s2) r2⟩⟩
theorem _root_.ZQ.F6(h:ZQ.rM X H0 vY g):ZQ.rM X H0 vY (Z.BB i g):=⟨by
 have h:=h.p;intro π s σ H D I w;obtain⟨ρ,fl,rs,e,k⟩:=w;unfold Z.BB Z.c5 at e;split at e
 .rename_i xs ei;obtain⟨v,si,q,us,rfl,hq,t⟩:=rs.re.get i _ ei;obtain⟨o,I2⟩:=kW I hq;exact h π s σ _ D I2 ⟨_,fl,rs.c5 ei si hq t,e,k.up<|fS hq⟩
 .exact h π s σ H D I ⟨ρ,fl,rs,e,k⟩⟩
theorem Ai(ho:PE X o (fE i))(ha:DE X a fa)(hs:swapsWith (.Call (.Attribute o "append" p1) [a] [] p2) AC pos.line X.env=pure Z!:=by rfl)(rh:Se a [] X.env:=by rfl)
 (RN:PE X (.Call (.Attribute o "append" p1) [a] [] p2) (PX X.K "list" yo (fE i)<|oU (tZ X.K fa) Bk)) :
 DS X H0 (.Expr (.Call (.Attribute o "append" p1) [a] [] p2) pos) (Z.dR i fa):=PS.imp (oo RN hs) λ D σ H ⟨ρ,fl,rs,e,k⟩=>by
 obtain⟨d,ea,e⟩:=Z.Res.aw e;split at e
 .rename_i xs ei;unfold Z.guard at e;split at e
  .rename_i hl;cases e;obtain⟨v,si,q,us,rfl,hq,t⟩:=rs.re.get i _ ei;refine⟨_,si,.inl ⟨rfl,us,gJ.of hq⟩,ρ,d,rs.re,ea,λ v' H1 s1 dv=>?_⟩;have Jd:=s1 _ _ hq;refine⟨q,us,v',rfl,rfl,Jd,by rw[t.length,Y9];exact hl,?_⟩;exact k σ _ ((lC s1).trans<|fS Jd)<|(rs.up s1).chg ei si Jd<|(t.up s1).append<|ay.cons dv ay.nil
  .cases e
 .cases e
theorem JC(hk:DE X kx fk)(ha:DE X a fa)(I_:PG X (.Subscript o kx p1) (M_ (fE i) (tZ X.K fk) GR))(hs:swapsWithSole [.Subscript o kx p1] a pos.line X.env=pure Z!:=by rfl)(hw:swappedStores [.Subscript o kx p1] a X.env=pure AC:=by rfl)
 (h1:(assignEach [.Subscript o kx p1] X.env).map (·.2)=[assign (.Subscript o kx p1) X.env]:=by rfl):DS X H0 (.Assign [.Subscript o kx p1] a pos) (Z.BA i fk fa):=PS.imp (BN ha I_ hs hw h1) λ D σ H ⟨ρ,fl,rs,e,k⟩=>by
 obtain⟨d,ea,e⟩:=Z.Res.aw e;obtain⟨z,ek,e⟩:=Z.Res.aw e;split at e
 .rename_i z xs ei;split at e
  .rename_i j hj;cases e;obtain⟨v,si,q,us,rfl,hq,t⟩:=rs.re.get i _ ei;refine⟨ρ,d,rs.re,ea,λ v' H1 s1 dv=>⟨_,si,ρ,_,rs.re.up s1,ek,λ w H2 s2 dw=>?_⟩⟩;have Jc:=s2 _ _<|s1 _ _ hq;simp only[Den]at dw;refine⟨q,us,z,j,rfl,dw,Jc,by rw[t.length];exact hj,?_⟩;have Qg:=s1.trans s2;exact k σ _ ((lC Qg).trans<|fS Jc)<|(rs.up Qg).chg ei si Jc<|(t.up Qg).set j<|dv.up s2
  .cases e
 .cases e
end
theorem lg:∀(names:Y' (Str×NameKind)) acc,(∀y∈names,y.2=.free->∃c,env.cells.lookup y.1=Y! c)->(∀x c,acc.lookup x=Y! c->env.cells.lookup x=Y! c) ->
 ∃cl,(forIn names acc λ(x) (cs:Y' (Str×Z'))=>(if(x.2==NameKind.free)=AT then do let c ←cellOf env x.1;pure (GT<|(x.1,c)::cs)else pure (GT cs):Sem (ForInStep<|Y'<|Str×Z')))=pure cl /\
  (∀x c,cl.lookup x=Y! c->env.cells.lookup x=Y! c)/\(∀x,(acc.lookup x).isSome=AT->(cl.lookup x).isSome=AT)/\(∀y∈names,y.2=.free->(cl.lookup y.1).isSome=AT)
|[],acc,_,ha=>⟨acc,rfl,ha,λ _ h=>h,λ y hy=>by cases hy⟩
|(n,k)::r,acc,hn,ha=>by
 by_cases hk:k=.free
 .subst hk;obtain⟨c,hc⟩:=hn (n,.free) Z7 rfl;have Wv:∀x d,((n,c)::acc).lookup x=Y! d->env.cells.lookup x=Y! d:=λ x d e=>by
   rw[A28]at e;split at e
   .rename_i q;cases e;rw[A07.mp q];exact hc
   .exact ha x d e
  obtain⟨cl,e,h1,h2,h3⟩:=lg r ((n,c)::acc) (λ y hy=>hn y<|Y6 _ hy) Wv;have self:=h2 n (by rw[A92];rfl);refine⟨cl,?_,h1,λ x hx=>h2 x ?_,λ y hy hf=>?_⟩
  .rw[B14];simp only[A63,Z8];have:cellOf env n=pure c:=by unfold cellOf;rw[hc]
   rw[this];exact e
  .rw[A28];split
   .rfl
   .exact hx
  .rcases Y2.mp hy with rfl|hy
   .exact self
   .exact h3 y hy hf
 .obtain⟨cl,e,h1,h2,h3⟩:=lg r acc (λ y hy=>hn y<|Y6 _ hy) ha;have hb:(k==NameKind.free)=Z!:=by simpa using hk
  refine⟨cl,?_,h1,h2,λ y hy hf=>?_⟩
  .rw[B14];simp only[hb,A11,A33];exact e
  .rcases Y2.mp hy with rfl|hy
   .exact absurd hf hk
   .exact h3 y hy hf
theorem e!(hn:∀y∈scope.names,y.2=.free->∃c,env.cells.lookup y.1=Y! c):
 ∃cl,closureFor scope env=pure cl/\(∀x c,cl.lookup x=Y! c->env.cells.lookup x=Y! c)/\(∀y∈scope.names,y.2=.free->(cl.lookup y.1).isSome=AT):=by
 obtain⟨cl,e,h1,_,h3⟩:=lg _ [] hn (λ x c e=>by cases e);refine⟨cl,?_,h1,h3⟩;unfold closureFor
 first
  |exact e
  |(simp only[bind_pure];exact e)
  |(rw[e];rfl)
theorem gC{env:Env}{x:Str}:∀(names:Y' _),(names.map λ(n,k)=>if(k == NameKind.free&&env.scope.kind == .function&&env.kindOf n == Y! .cell)=AT then(n,NameKind.cell)else(n,k)).lookup x=(names.lookup x).map λ k=>if(k == NameKind.free&&env.scope.kind == .function&&env.kindOf x == Y! .cell)=AT then NameKind.cell else k
|[]=>rfl
|(n,k)::r=>by
 have ih:=@gC env x r;show Gc x ((if(k==NameKind.free&&env.scope.kind==.function&&env.kindOf n==Y! .cell)=AT then(n,NameKind.cell)else(n,k))::_)=_;by_cases hx:x=n
 .subst hx;by_cases hc:(k==NameKind.free&&env.scope.kind==.function&&env.kindOf x==Y! .cell)=AT
  .rw[Z1 hc,A92,A92,A47,Z1 hc]
  .rw[v0 hc,A92,A92,A47,v0 hc]
 .have hb:(x==n)=Z!:=by simpa using hx
  by_cases hc:(k==NameKind.free&&env.scope.kind==.function&&env.kindOf n==Y! .cell)=AT
  .rw[Z1 hc,A28,A28,hb];exact ih
  .rw[v0 hc,A28,A28,hb];exact ih
abbrev jS(X:Cx)(N':Y' Str)(scope:μ)(cl:Y' (Str×Z'))(C:Z')(fp:Y' Z')(s₂:δ)(H₂:Hp):Cx:=
 {prog:=X.prog,w:=X.w,K:=X.K,mg:=X.mg,base:=X.base,A:=X.A,N:=N',s₀:=s₂,H₀:=H₂,env:=compEnvC scope cl C X.env,outer:=X.stack,stack:=X.stack,ex:=fp,fn:=λ _=>Z!,calm:=X.calm,pn:=[],xe:=λ _ _=>False}
structure n?(N N':List Str)(n:Nat)(is:List Nat)(sc Ia:Scope):Prop where
 kind:sc.kind=.function
 cell:∀y∈sc.names,y.2≠.cell
 loc:∀y∈sc.names,y.2=.local->sc.names.lookup y.1=Y! .local
 free:∀y∈sc.names,y.2=.free->Ia.names.lookup y.1=Y! .cell\/Ia.names.lookup y.1=Y! .free
 len:N'.length=n+is.length
 Uq:∀(j i:Nat),is[j]?=Y! i->∃x,N'[n+j]?=Y! x/\N[i]?=Y! x/\sc.names.lookup x=Y! .free
 own:∀(j:Nat),j<n->∃x,N'[j]?=Y! x/\sc.names.lookup x=Y! .local
section
variable {X:Cx}{tg e a b elt iter:γ}{ifs:Y' γ}{pos:Pos}{N':Y' Str}{n:Nat}{is:Y' Nat}{scope:μ}
def kK(σ:St)(n:Nat)(is:Y' Nat):St:=Da n AC++is.map λ i=>(σ[i]?).join
theorem dN(n:Nat)(is:Y' Nat)(ρ:Z.Env)(i:Nat)(xs:Y' Z.D):(Da n AC++Z.fM ρ is:Z.Env)[i]?≠Y! (Y!<|.own xs):=by
 intro e;by_cases hi:i<n
 .rw[A16 (by simpa using hi),A15]at e;split at e<;>cases e
 .rw[A26 (by simpa using hi)]at e;unfold Z.fM at e;rw[Z3]at e;cases q:is[i-(Da n<|none).length]? with
  |none=>rw[q]at e;cases e
  |some j=>rw[q]at e;have e':=Y4 e;unfold Z.p7 at e';split at e'<;>cases e'
theorem m4(n:Nat)(is:Y' Nat)(ρ:Z.Env)(i:Nat)(ks:Z.DK):(Da n AC++Z.fM ρ is:Z.Env)[i]?≠Y! (Y!<|.dc ks):=by
 intro e;by_cases hi:i<n
 .rw[A16 (by simpa using hi),A15]at e;split at e<;>cases e
 .rw[A26 (by simpa using hi)]at e;unfold Z.fM at e;rw[Z3]at e;cases q:is[i-(Da n<|none).length]? with
  |none=>rw[q]at e;cases e
  |some j=>rw[q]at e;have e':=Y4 e;unfold Z.p7 at e';split at e'<;>cases e'
theorem BI{K:FS}(h:RE K H σ ρ)(s:ax H H'):RS K H H' (kK σ n is) (Da n AC++Z.fM ρ is):=by
 have key:∀(i:Nat) l,(Da n AC++Z.fM ρ is)[i]?=Y! (Y! l)->∃v,(kK σ n is)[i]?=Y! (Y! v)/\RL K H l v:=?_;refine⟨s,⟨by simp[kK,Z.fM],λ i l e=>let ⟨v,h1,h2⟩:=key i l e;⟨v,h1,h2.up s⟩,λ i j xs ys q e1=>absurd e1<|dN n is ρ i xs⟩,λ i xs q e1=>absurd e1<|dN n is ρ i xs,λ i xs e1=>let ⟨v,h1,h2⟩:=key i _ e1;⟨v,h1,kn.z h2⟩,gK.non<|m4 n is ρ⟩;intro i l e;by_cases hi:i<n
 .rw[A16 (by simpa using hi),A15]at e;split at e<;>cases e
 .rw[A26 (by simpa using hi)]at e;unfold kK;rw[A26 (by simpa using hi)];simp only[A89]at e ⊢;unfold Z.fM at e;rw[Z3]at e ⊢;cases q:is[i-n]? with
  |none=>rw[q]at e;cases e
  |some j=>
   rw[q]at e;have e':=Y4 e;unfold Z.p7 at e';split at e'
   .rename_i d hd;cases e';obtain⟨v,h1,h2⟩:=h.get j _ hd;refine⟨v,?_,h2⟩;simp[h1]
   .rename_i d hd;cases e';obtain⟨v,h1,h2⟩:=h.get j _ hd;refine⟨v,?_,h2⟩;simp[h1]
   .rename_i d hd;cases e';obtain⟨v,h1,h2⟩:=h.get j _ hd;refine⟨v,?_,h2⟩;simp[h1]
   .rename_i xs hd;cases e';obtain⟨v,h1,a,vs,rfl,h3,h4⟩:=h.get j _ hd;refine⟨_,?_,.inl<|.inr ⟨xs,a,vs,rfl,rfl,h3,h4⟩⟩;simp[h1]
   .cases e'
theorem km(I:Nat->δ->Prop)
 (turn:∀ n s,I n s->Db (model prog w) A (pyNext it) (λ r s₁=>match r with
  |none=>R (.ok .next) s₁
  | some v=>Db (model prog w) A (letOwnedTupleGo target it v) (λ _ s₁=>Db (model prog w) A (assign target env v) (λ _ s₂=>
   Db (model prog w) A (forIn ifs AT λ c r=>if r=AT then do let ok ←isTrue c env (eval c env);pure (GT ok)else pure (GT r)) (λ ok s₃=>
    if ok=AT then Db (model prog w) A (eval elt env) (λ x s₄=>Db (model prog w) A (call (.builtin "list.append") [acc,x]) (λ _ s₅=>∃m,m<n/\I m s₅) (λ _ _=>False) s₄) (λ _ _=>False) s₃
    else ∃m,m<n/\I m s₃) (λ _ _=>False) s₂) (λ _ _=>False) s₁) (λ _ _=>False) s₁) (λ _ _=>False) s)
 (n:Nat) (h:I n s) :
 codeAny (model prog w) A (.compLoop (.ListComp elt [⟨target,iter,ifs,0⟩] scope pos) 0 it acc env) R s:=by
 refine codeAny_loop rfl I (λ n s hI=>?_) n h;refine wpAny_noted ?_;rw[compTurn_list];refine T0<|A71<|T0<|Z5 (turn n s hI) (λ r s₁ h₁=>?_) λ _ _ h'=>h'.elim;cases r with
 |none=>exact Y0 h₁
 |some v=>
  refine T0<|Z5 h₁ (λ _ s₁ h₁=>?_) λ _ _ h'=>h'.elim;refine T0<|Z5 h₁ (λ _ s₂ h₂=>T0<|Z5 h₂ (λ ok s₃ h₃=>?_) λ _ _ h'=>h'.elim) λ _ _ h'=>h'.elim;cases ok with
  |false=>exact Y0 ⟨rfl,h₃⟩
  |true=>exact T0<|T0<|Z5 h₃ (λ x s₄ h₄=>T0<|Z5 h₄ (λ _ s₅ h₅=>Y0<|Y0 ⟨rfl,h₅⟩) λ _ _ h'=>h'.elim) λ _ _ h'=>h'.elim
structure Off(X:Cx)(π:List (Addr×Obj))(H:Hp)(C:Addr):Prop where
 free:H C=AC
 loc:C≠X.env.locals
 new:X.s₀.heap.objs.size<=C
 cell:∀x c,X.env.cells.lookup x=Y! c->c≠C
 pin:∀p∈X.pn++π,p.1≠C
theorem Off.inv(o:Off X π H C)(I:Inv X π σ H s)(hs:GM C s.heap h'):Inv X π σ H {s with heap:=h'}:=
 I.turned (λ b ob hb e=>(hs.2 b hb).trans e) o.free o.loc (.inr o.new) o.cell o.pin
def Ph(X:Cx)(π:Y' (Z'×ζ))(σ:St)(H₂:Hp)(ys:Y' Z.D)(acc:Z_)(C:Z')(s':δ):Prop:=
 ∃D H' vs m,acc=.ref D/\s'.heap.Ns C m/\Inv X π σ H' s'/\Off X π H' C/\H₂ D=AC/\ax H₂ H'/\H' D=Y! (.lst vs)/\ay X.K H' ys vs
def Va(K:Ch)(R:Hp->Z.D->V->Prop)(H0:Hp)(g:Z.GF):TG:=λ v σ H Q=>∃ρ d ρ',RS K H0 H σ ρ/\R H d v/\g d ρ=.ok ρ'/\∀σ' H',ax H H'->RS K H0 H' σ' ρ'->Q σ' H'
theorem vH{R:Hp->Z.D->V->Prop}{it:Z'}{fp:Y' Z'}{tn:Nat->η->Prop}{J:It}{π:Y' (Z'×ζ)}{σ:St}{ρ:Z.Env}{H₂:Hp}{s₂:δ}{E:Z_->δ->Prop}{cl:Y' (Str×Z')}{G:Z.GF}{t:Z.TF}{fe:Z.EF}{ds ys:Y' Z.D}
 (bD:X.calm=AT) (B:n? X.N N' n is scope X.env.scope) (I2:Inv X π σ H₂ s₂) (T:Turn X.prog X.w X.K tg J fp it tn) (HA:tn 0 s₂.heap) (fo:∀b∈fp,m_ X π H₂ b) (zg:∀(i:Nat)(d:Z.D)(H1:Hp),ax H₂ H1->ds[i]?=Y! d->J.go i H1) (zy:∀(i:Nat)(d:Z.D)(H1 H2:Hp)(x:V),ax H₂ H1->ds[i]?=Y! d->J.zf i H1 x H2->ax H1 H2/\R H2 d x) (UM:∀(H1:Hp),ax H₂ H1->J.stop ds.length H1) (re:RE X.K H₂ σ ρ)
 (fW:∀x c,cl.lookup x=Y! c->X.env.cells.lookup x=Y! c) (mP:∀y∈scope.names,y.2=.free->(cl.lookup y.1).isSome=AT)
 (hG:∀d ρ ρ1,G d ρ=.ok ρ1->ρ1.length=ρ.length/\∀i,n<=i->ρ1[i]?=ρ[i]?)
 (hg:∀C s H H0,PG (jS X N' scope cl C fp s H) tg (Va X.K R H0 G))
 (ht:∀ C s s' H i_ (σ':St) (H':Hp) (Q:Bool->Hp->Prop),Inv (jS X N' scope cl C fp s H) i_ σ' H' s'->K9 X.K t σ' H' Q ->
  Db (model X.prog X.w) X.A (forIn ifs AT λ c r=>if r=AT then do let ok ←isTrue c (compEnvC scope cl C X.env) (eval c<|compEnvC scope cl C X.env);pure (GT ok)else pure (GT r)) (TP (jS X N' scope cl C fp s H) i_ σ' Q) (λ _ _=>False) s')
 (he:∀C s H,DE (jS X N' scope cl C fp s H) elt fe) (ς:ds.length<=Z.line) (W2:Z.b_ G t fe (Da n AC++Z.fM ρ is) ds=.ok ys) :
 Db (model X.prog X.w) X.A (newList []) (λ acc s₃=>Db (model X.prog X.w) X.A (newFunctionEnv scope X.env.globals cl [] X.env.qual AC .none<|some X.env) (λ Gh s₄=>codeAny (model X.prog X.w) X.A (.compStart (.ListComp elt [⟨tg,iter,ifs,0⟩] scope pos) 0 (.ref it) acc {Gh with scope:=relabel scope X.env}) (λ r s'=>r=.ok .next/\Ph X π σ H₂ ys acc Gh.locals s') s₄) E s₃) E s₂:=by
 refine A34<|wpAny_newFunctionEnv B.cell (by intro y hy;simp at hy) (λ h₁ FE Cz=>?_) B.kind;dsimp only at FE Cz ⊢;generalize CI:s₂.heap.push {cls:=.type "list",dict:=AC,data:=.seq ([]:Y' Z_).toArray}=HH at FE Cz ⊢;have hC:HH.objs.size=s₂.heap.objs.size+1:=by rw[<-CI,A36]
 have O2:s₂.heap.objs.size≠HH.objs.size:=by rw[hC];exact Z4<|A38 _
 have below:∀b,b<s₂.heap.objs.size->b≠HH.objs.size/\b≠s₂.heap.objs.size:=λ b hb=>⟨by rw[hC];exact Z4<|A93 hb,Z4 hb⟩
 have old:∀b o,s₂.heap.get? b=Y! o->h₁.get? b=Y! o:=λ b o e=>Cz.extBut b o (below b<|Y1 e).1<|W1 _<|CI▸W1 _ e;have M6:h₁.get? s₂.heap.objs.size=Y! {cls:=.type "list",data:=.seq ([]:Y' Z_).toArray}:=Cz.extBut _ _ O2<|W1 _<|CI▸Y5 _ rfl;have WN:∀b∈fp,∃o,s₂.heap.get? b=Y! o/\∀v,o.data≠.cell v:=T.obj 0 _ HA;have Jt:∀b∈fp,b<s₂.heap.objs.size:=λ b hb=>let ⟨_,e,_⟩:=WN b hb;Y1 e;generalize hD:s₂.heap.objs.size=D at O2 below old M6 hC ⊢;generalize X2:HH.objs.size=C at FE Cz O2 below hC ⊢;have AN:H₂ D=AC:=I2.bI.fresh (by rw[hD];exact Z0 _);have WD:H₂ C=AC:=I2.bI.fresh (by rw[hD,hC];exact A57 _)
 -- Hx O! context is in order
 have ok:(jS X N' scope cl C fp s₂ H₂).Ok:=by
  refine⟨I2.ok.mod,B.kind,I2.ok.glob,I2.ok.blt,by show s₂.heap.objs.size<=C;rw[hD,hC];exact A57 _,λ x y c e1 e2=>I2.ok.inj x y c (fW x c e1)<|fW y c e2,λ x hx=>?_,λ x c hf=>(by cases hf),I2.ok.hd,I2.ok.frames,.inl rfl,
   λ b hb=>⟨(below b (by rw[<-hD];exact Jt b hb)).1,λ x c e=>(fo b hb).2.2.2.2.1 x c<|fW x c e⟩,I2.bs,A06 I2.ok.As I2.sz,λ b o e hb=>?_,λ b hb z=>?_,I2.stack,I2.oh⟩
  .have AJ:(relabel scope X.env).names.lookup x=Y! .cell\/(relabel scope X.env).names.lookup x=Y! .free:=hx;have e:=gC (env:=X.env) (x:=x) scope.names;have e':(relabel scope X.env).names.lookup x=_:=e;rw[e']at AJ;cases q:scope.names.lookup x with
   |none=>rw[q]at AJ;rcases AJ with h|h<;>cases h
   |some k=>
    have hm:=A40 q;have hk:k=.free:=by
     rw[q]at AJ;simp only[A47]at AJ;by_cases hc:(k==NameKind.free&&X.env.scope.kind==.function&&X.env.kindOf x==Y! .cell)=AT
     .rw[A17,A17]at hc;exact A07.mp hc.1.1
     .rw[v0 hc]at AJ;rcases AJ with h|h
      .exact absurd (Y4 h)<|B.cell _ hm
      .exact Y4 h
    subst hk;exact A61.mp<|mP _ hm rfl
  .rcases(fo b hb).2.2.2.1 with q|q
   .exact I2.ok.sQ b o e q
   .exact absurd (Z6 (Y1 (I2.ok.bs b o e).1) q)<|A51 _
  .rcases Y2.mp (I2.mB b z)with q|q
   .exact(fo b hb).2.1 q
   .exact(fo b hb).2.2.1 q
 have Hd:mm X.prog X.w (upd H₂ D<|.lst []) h₁:=I2.bI.laid old (by rw[hD];exact Z0 _) ⟨A77 _,[],_,.nil,M6⟩;have ne2:∀b,b<s₂.heap.objs.size->b≠D:=λ b hb=>by rw[<-hD];exact Z4 hb
 have p6:∀x c,X.env.cells.lookup x=Y! c->c<s₂.heap.objs.size/\∀v,s₂.heap.IsCell c v->h₁.IsCell c v:=λ x c e=>by obtain⟨v,o,ho,hd⟩:=I2.cell x c e;exact⟨Y1 ho,λ v' ⟨o',k9,nV⟩=>⟨o',old c o' k9,nV⟩⟩
 have I4:Inv (jS X N' scope cl C fp s₂ H₂) [] (kK σ n is) (upd H₂ D<|.lst []) {s₂ with heap:=h₁,toks:=s₂.toks+([]:Y' (Str×Z_)).length}:=by
  refine⟨ok,rfl,I2.bare,Un.laid old (by rw[hD];exact Z0 _) AN,⟨_,FE,λ i x v e1 e2 e3=>?_⟩,λ x c e=>?_,by show upd H₂ D (.lst []) C=AC;rw[aA<|P3 O2];exact WD,λ x c e=>?_,λ p hp=>absurd (show p∈([]:Y' (Z'×ζ))from hp) (by simp),Hd,by simp[kK,B.len],I2.tab.up λ b u _ e=>by rw[aA<|aP e AN];exact e⟩
  .unfold kK at e2;by_cases hi:i<n
   .rw[A16 (by simpa using hi),A15]at e2;split at e2<;>cases e2
   .rw [A26 (by simpa using hi),Z3] at e2;simp only[A89]at e2;cases q:is[i-n]? with
    |none=>rw[q]at e2;cases e2
    |some j=>
     rw[q]at e2;simp only[A47]at e2;obtain⟨x',c1,c2,c3⟩:=B.Uq (i-n) j q;have Wb:n+(i-n)=i:=by lia
     rw[Wb]at c1;have G':N'[i]?=Y! x:=e1;rw[c1]at G';cases G';have hσ:σ[j]?=Y! (Y! v):=by
      cases r:σ[j]? with
      |none=>rw[r]at e2;cases e2
      |some y=>
       rw[r]at e2;have:y=Y! v:=by simpa using e2
       rw[this]
     obtain⟨m,hn,hl⟩:=I2.loc;have hm:=A40 c3;have hk:=B.free _ hm rfl;have I?:AD X.env.scope x:=by
      rcases hk with k|k
      .exact .inr<|.inl k
      .exact .inr<|.inr k
     obtain⟨u,ru,lk⟩:=hl j x v c2 hσ I?;refine⟨u,ru,?_⟩;rcases lk with⟨k1,_⟩|⟨k1,c,hc,nA⟩
     .have Fp:X.env.scope.names.lookup x=Y! .local:=k1;rcases hk with k|k
      .rw[k]at Fp;cases Fp
      .rw[k]at Fp;cases Fp
     .obtain⟨c',v_⟩:=A61.mp (mP _ hm rfl);have:c'=c:=by have:=fW x c' v_;rw[hc]at this;exact(Y4 this).symm
      subst this;refine .inr ⟨?_,c',v_,(p6 x c' hc).2 _ nA⟩;show(relabel scope X.env).names.lookup x=Y! .cell\/(relabel scope X.env).names.lookup x=Y! .free;have e:=gC (env:=X.env) (x:=x) scope.names;have e':(relabel scope X.env).names.lookup x=_:=e;rw[e',c3];simp only[A47];split
      .exact .inl rfl
      .exact .inr rfl
  .obtain⟨v,hv⟩:=I2.cell x c (fW x c e);exact⟨v,(p6 x c<|fW x c e).2 v hv⟩
  .have iS:=(p6 x c<|fW x c e).1;rw[aA<|ne2 c iS];exact I2.dJ x c<|fW x c e
 have Vl:RS X.K H₂ (upd H₂ D<|.lst []) (kK σ n is) (Da n AC++Z.fM ρ is):=BI re<|bV AN;have S4:tn 0 h₁:=T.keep 0 _ _ HA λ b hb o e=>old b o e;have WM:∀b∈fp,(upd H₂ D<|.lst []) b=AC:=λ b hb=>by rw[aA<|ne2 b<|Jt b hb];exact(fo b hb).1
 -- PD stays true of Hx xk objects
 have wG:∀{H'},(∀b∈fp,H' b=AC)->∀b∈fp,m_ (jS X N' scope cl C fp s₂ H₂) [] H' b:=λ hn b hb=>by
  refine⟨hn b hb,(below b (by rw[<-hD];exact Jt b hb)).1,?_,.inl hb,λ x c e=>(fo b hb).2.2.2.2.1 x c<|fW x c e,λ p hp=>absurd (show p∈([]:Y' (Z'×ζ))from hp) (by simp)⟩;intro q;rcases Y2.mp (I2.mB b q)with q|q
  .exact(fo b hb).2.1 q
  .exact(fo b hb).2.2.1 q
 have loop:codeAny (model X.prog X.w) X.A (.compLoop (.ListComp elt [⟨tg,iter,ifs,0⟩] scope pos) 0 (.ref it) (.ref D)<|compEnvC scope cl C X.env) (λ r s'=>r=.ok .next/\Ph X π σ H₂ ys (.ref D) C s')
  {s₂ with heap:=h₁,toks:=s₂.toks+([]:Y' (Str×Z_)).length}:=by
  refine km (λ m s'=>∃i σ' H' vs zs,m=ds.length+1-i/\i<=ds.length/\vs.length<=i/\Inv (jS X N' scope cl C fp s₂ H₂) [] σ' H' s'/\tn i s'.heap/\(∀b∈fp,H' b=AC)/\H' D=Y! (.lst vs)/\ax H₂ H' /\
   RS X.K H₂ H' σ' (Da n AC++Z.fM ρ is)/\(∃rest,Z.b_ G t fe (Da n AC++Z.fM ρ is) (ds.drop i)=.ok rest/\zs++rest=ys)/\ay X.K H' zs vs) ?_ (ds.length+1)
   ⟨0,kK σ n is,_,[],[],rfl,A77 _,Z0 _,I4,S4,WM,aI,bV AN,Vl,⟨ys,by simpa using W2,rfl⟩,ay.nil⟩
  .rintro m s' ⟨i,σ3,H3,vs,zs,rfl,OX,I!,I3,Bp,Nh,O3,yh,Qm,⟨rest,er,ez⟩,dz⟩;by_cases iS:i<ds.length
   .obtain⟨d,hd⟩:∃d,ds[i]?=Y! d:=⟨ds[i],by simp[iS]⟩
    have pE:ds.drop i=d::ds.drop (i+1):=by
     rw[A79 iS];have:ds[i]=d:=by have:=M2 iS;rw[this]at hd;exact Y4 hd
     rw[this]
    rw[pE]at er;unfold Z.b_ at er;obtain⟨ρ1,eg,er⟩:=Z.Res.aw er;obtain⟨c1,ec,er⟩:=Z.Res.aw er;refine b8 (T.item (jS X N' scope cl C fp s₂ H₂) rfl rfl rfl bD i [] s' σ3 H3 (λ _ _=>False) I3 (wG Nh) Bp<|zg i d H3 yh hd) λ r s4 ⟨u,hr,h4⟩=>?_;subst hr;refine b8 h4 λ _ s5 ⟨x,H5,I5,r5,y5,r_,R1⟩=>?_;obtain⟨sy,dx⟩:=zy i d H3 H5 x yh hd y5;replace Qm:=Qm.up sy;replace yh:=yh.trans sy;replace O3:=sy _ _ O3;replace dz:=dz.up sy;have SE:=I5.pinned (wG R1)<|T.obj _ _ r_;have Oe:RS X.K H₂ H5 σ3 (Da n AC++Z.fM ρ is):=Qm;refine b8 (hg C s₂ H₂ H₂ _ s5 σ3 H5 x u (λ σ6 H6=>ax H5 H6/\RS X.K H₂ H6 σ6 ρ1) SE r5 ⟨_,d,ρ1,Oe,dx,eg,λ σ' H' s' r'=>⟨s',r'⟩⟩) λ _ s6 ⟨σ6,H6,I6,Vf,Od⟩=>?_;refine b8 (ht C s₂ s6 H₂ _ σ6 H6 (λ b H7=>b=c1/\ax H6 H7) I6 ⟨ρ1,c1,Od.re,ec,λ H7 s7=>⟨rfl,s7⟩⟩) λ ok s7 ⟨H7,I7,e7,P7⟩=>?_;subst e7;have Br:ax H5 H7:=Vf.trans P7;have Ql:RE X.K H7 σ6 ρ1:=Od.re.up P7;have S!:∀{H9},ax H7 H9->RS X.K H₂ H9 σ6 (Da n AC++Z.fM ρ is):=λ {H9} s9=>by
     obtain⟨gl,gk⟩:=hG d _ ρ1 eg;refine⟨(Od.same.trans P7).trans s9,⟨by rw[<-gl];exact Ql.len,λ j l e=>?_,λ j k xs ys q e1=>absurd e1<|dN n is ρ j xs⟩,λ j xs q e1=>absurd e1<|dN n is ρ j xs,λ j xs e=>?_,gK.non<|m4 n is ρ⟩;rotate_left
     .by_cases hj:n<=j
      .rw[<-gk j hj]at e;exact Od.n5 j xs e
      .rw[A16 (by simp;lia),A15]at e;split at e<;>cases e
     by_cases hj:n<=j
     .rw[<-gk j hj]at e;exact(Ql.up s9).get j l e
     .rw[A16 (by simp;lia),A15]at e;split at e<;>cases e
    have fin:∀{H9}{s9} K0 NW,Inv (jS X N' scope cl C fp s₂ H₂) ([]++o6 fp s5.heap) σ6 H9 s9->H9 D=Y! (.lst K0)->K0.length<=i+1->ax H₂ H9->RS X.K H₂ H9 σ6 (Da n AC++Z.fM ρ is) ->
     (∃ rest,Z.b_ G t fe (Da n AC++Z.fM ρ is) (ds.drop<|i+1)=.ok rest/\NW++rest=ys)->ay X.K H9 NW K0->∃ m,m<ds.length+1-i/\∃ i σ' H' vs zs,m=ds.length+1-i/\i<=ds.length/\vs.length<=i/\Inv (jS X N' scope cl C fp s₂ H₂) [] σ' H' s9/\tn i s9.heap/\(∀ b∈fp,H' b=AC)/\H' D=Y! (.lst vs)/\ax H₂ H' /\
      RS X.K H₂ H' σ' (Da n AC++Z.fM ρ is)/\(∃rest,Z.b_ G t fe (Da n AC++Z.fM ρ is) (ds.drop i)=.ok rest/\zs++rest=ys)/\ay X.K H' zs vs:=by
     intro H9 s9 K0 NW I9 WC VP Lg Vm WW W!;refine⟨ds.length+1-(i+1),by lia,i+1,σ6,H9,K0,NW,rfl,iS,VP,I9.lH,T.keep _ _ _ r_ λ b hb o e=>(I9.pin (b,o)<|A10 _<|A10 _<|iM hb e).1,λ b hb=>?_,WC,Lg,Vm,WW,W!⟩;obtain⟨o,e,_⟩:=T.obj _ _ r_ b hb;exact(I9.pin (b,o)<|A10 _<|A10 _<|iM hb e).2.1
    have T7:H7 D=Y! (.lst vs):=Br _ _ O3;cases ok with
    |false=>simp only[A11,A33]at er ⊢;exact fin vs zs I7 T7 (Nat.le_succ_of_le I!) (yh.trans Br) (S!<|ax.refl _) ⟨rest,er,ez⟩<|dz.up Br
    |true=>
     simp only[Z8]at er ⊢;obtain⟨y,ey,er⟩:=Z.Res.aw er;obtain⟨Ln,WX,er⟩:=Z.Res.aw er;cases er;refine b8 (he C s₂ H₂ _ s7 σ6 H7 (λ v H8=>ax H7 H8/\Den X.K H8 y v) I7 ⟨ρ1,y,Ql,ey,λ v H8 s8 d8=>⟨s8,d8⟩⟩) λ u8 s8 ⟨v8,H8,I8,Vj,N8,dy⟩=>?_;have T6:H8 D=Y! (.lst vs):=N8 _ _ T7;have P8:ax H₂ H8:=(yh.trans Br).trans N8;refine b8 (qZ (X:=jS X N' scope cl C fp s₂ H₂) _ s8 σ6 H8 (.ref D) [v8] (.ref D) [u8] (λ v H9=>v=.non/\H9=upd H8 D (.lst<|vs++[v8])) I8 rfl (.cons Vj .nil) ⟨D,vs,v8,rfl,rfl,T6,?_,rfl,rfl⟩) λ _ s9 ⟨v9,H9,I9,_,_,e9⟩=>?_
     .rw[Y9];have:Z.line=16777216:=rfl;lia
     subst e9;have GJ:iF H8 (upd H8 D<|.lst<|vs++[v8]):=fS T6;have Lg:ax H₂ (upd H8 D<|.lst<|vs++[v8]):=λ b o e=>by rw[aA<|aP e AN];exact P8 b o e
     have J?:=S! N8;refine fin (vs++[v8]) (zs++[y]) I9 aI (by simp;lia) Lg ⟨Lg,⟨J?.re.len,λ j l e=>?_,λ j k xs ys q e1=>absurd e1<|dN n is ρ j xs⟩,λ j xs q e1=>absurd e1<|dN n is ρ j xs,J?.n5,J?.G!⟩ ⟨Ln,WX,by rw[B15];exact ez⟩<|(((dz.up Br).up N8).append<|ay.cons dy ay.nil).ups GJ;obtain⟨v,h1,h2⟩:=J?.re.get j l e;refine⟨v,h1,?_⟩;cases l with
     |val dd=>exact Den.ups (show Den X.K H8 dd v from h2) GJ
     |own xs=>exact absurd e<|dN n is ρ j xs
     |bor xs=>obtain⟨v',h3,h4⟩:=J?.n5 j xs e;rw[h1]at h3;cases h3;exact h4.re h2 J?.same Lg GJ
     |dc ks=>exact absurd e<|m4 n is ρ j ks
     |CU ks=>obtain⟨q',o',as,rfl,ki,t'⟩:=h2;exact⟨q',o',as,rfl,GJ.c5 _ _ _ ki,t'.ups GJ⟩
     |Mw ps=>obtain⟨q',o',rfl,ki⟩:=h2;exact⟨q',o',rfl,GJ.c5 _ _ _ ki⟩
     |exc c=>obtain⟨q',o',u',C',rfl,ki,r1,r2,r3⟩:=h2;exact⟨q',o',u',C',rfl,GJ.c5 _ _ _ ki,r1,r2,r3.ups GJ⟩
   .have:i=ds.length:=by lia
    subst this;rw[B46]at er;cases er;rw[A53]at ez;subst ez;refine b8 (T.done (jS X N' scope cl C fp s₂ H₂) rfl rfl rfl bD _ [] s' σ3 H3 (λ _ _=>False) I3 (wG Nh) Bp<|UM H3 yh) λ r s4 ⟨hr,J4⟩=>?_;subst hr;obtain⟨m',DZ,_⟩:=J4.loc;have B?:∀b o,s₂.heap.get? b=Y! o->b≠C:=λ b o e=>(below b (by rw[<-hD];exact Y1 e)).1;have I9:Inv X π σ H3 s4:=I2.Dn (s':=s4) J4.os J4.base J4.bI J4.bare λ b hb=>⟨(fo b hb).2.2.2.1,(fo b hb).2.1,(fo b hb).2.2.2.2.1,(fo b hb).2.2.2.2.2⟩
    have P4:s₂.heap.objs.size<=C:=by rw[hD,hC];exact A57 _
    refine⟨rfl,D,H3,vs,m',rfl,DZ,I9,⟨J4.free,?_,A06 I2.sz P4,λ x c e=>?_,λ p hp=>?_⟩,AN,yh,O3,dz⟩
    .exact A31<|Z6 I2.lt P4
    .exact Z4<|Z6 (p6 x c e).1 P4
    .exact B? p.1 p.2 (I2.pin p hp).1
 have vb:codeAny (model X.prog X.w) X.A (.compStart (.ListComp elt [⟨tg,iter,ifs,0⟩] scope pos) 0 (.ref it) (.ref D)<|compEnvC scope cl C X.env) (λ r s'=>r=.ok .next/\Ph X π σ H₂ ys (.ref D) C s')
  {s₂ with heap:=h₁,toks:=s₂.toks+([]:Y' (Str×Z_)).length}:=codeAny_compStart_list loop<|T.self _ 0 _ _ _ S4 loop
 exact vb
theorem dH(h:k<n)(d:Z.D)(ρ ρ1:Z.Env)(e:Z.br k d ρ=.ok ρ1):ρ1.length=ρ.length/\∀i,n<=i->ρ1[i]?=ρ[i]?:=by cases e;exact⟨by simp,λ i hi=>A14 (by lia)⟩
theorem nB:∀ks,(∀k∈ks,k<n)->∀ds ρ ρ1,Z.jH ks ds ρ=.ok ρ1->ρ1.length=ρ.length/\∀i,n<=i->ρ1[i]?=ρ[i]?
|[],_,[],ρ,ρ1,e=>by cases e;exact⟨rfl,λ _ _=>rfl⟩
|[],_,_::_,_,_,e=>by cases e
|_::_,_,[],_,_,e=>by cases e
|k::ks,h,d::ds,ρ,ρ1,e=>by obtain⟨h1,h2⟩:=nB ks (λ k hk=>h k<|Y6 _ hk) ds _ ρ1 e;refine⟨by rw[h1];simp,λ i hi=>?_⟩;rw[h2 i hi];have:=h k Z7;exact A14 (by lia)
theorem j5(h:∀k∈ks,k<n)(d:Z.D)(ρ ρ1:Z.Env)(e:Z.iT ks d ρ=.ok ρ1):ρ1.length=ρ.length/\∀i,n<=i->ρ1[i]?=ρ[i]?:=by
 unfold Z.iT at e;split at e
 .exact nB ks h _ ρ ρ1 e
 .cases e
def KR(X:Cx)(ifs:Y' γ)(t:Z.TF):Prop:=∀(π:Y' (Z'×ζ))(s:δ)(σ:St)(H:Hp)(Q:Bool->Hp->Prop),Inv X π σ H s->K9 X.K t σ H Q ->
 Db (model X.prog X.w) X.A (forIn ifs AT λ c r=>if r=AT then do let ok ←isTrue c X.env (eval c X.env);pure (GT ok)else pure (GT r)) (TP X π σ Q) X.xe s
structure _root_.ZQ.Dw(X:Cx)(ifs:List Expr)(t:Z.TF):Prop where p:KR X ifs t
theorem _root_.ZQ.rZ:ZQ.Dw X [] Z.fi:=⟨λ π s σ H Q I ⟨ρ,b,r,e,k⟩=>by cases e;exact wpAny_tests_nil ⟨H,I,k H<|ax.refl H⟩⟩
theorem _root_.ZQ.fR(h:ZQ.QT X c t):ZQ.Dw X [c] t:=⟨λ π s σ H Q I w=>wpAny_tests_one<|h.p π s σ H Q I w⟩
theorem vI(bD:X.calm=AT)(hi:DI X tg iter it)(B:n? X.N N' n is scope X.env.scope)
 (hG:∀d ρ ρ1,G d ρ=.ok ρ1->ρ1.length=ρ.length/\∀i,n<=i->ρ1[i]?=ρ[i]?)
 (hg:∀cl C fp s H H0,DG (jS X N' scope cl C fp s H) H0 tg G) (ht:∀cl C fp s H,KR (jS X N' scope cl C fp s H) ifs t) (he:∀cl C fp s H,DE (jS X N' scope cl C fp s H) elt fe)
 (hs:∀x,foldedSetIterable iter X.env x=pure x)
 (I:Inv X π σ H s) (re:RE X.K H σ ρ) (ec:Z.bY it n is G t fe ρ=.ok ys)
 (fin:∀acc C s' H₂,ax H H₂->Ph X π σ H₂ ys acc C s'->compPost (model X.prog X.w) X.A X.xe use Q acc C (.ok .next) s') :
 Db (model X.prog X.w) X.A (comprehension (.ListComp elt [⟨tg,iter,ifs,0⟩] scope pos) scope X.env ps (newList []) Z! (eval iter X.env) use) Q X.xe s:=by
 obtain⟨ds,ei,ec⟩:=Z.Res.aw ec;unfold Z.guard at ec;split at ec
 .rename_i ς;have kA:∀y∈scope.names,y.2=.free->∃c,X.env.cells.lookup y.1=Y! c:=λ y hy hf=>I.ok.has y.1<|B.free y hy hf;obtain⟨cl,h!,fW,mP⟩:=e! kA;refine wpAny_comprehension_free rfl hs h! B.kind B.loc ?_;refine b8 (hi π s σ H (λ J H₂=>ax H H₂/\AE X.K J _ ds) I ⟨ρ,ds,re,ei,λ J H' s' z=>⟨s',z⟩⟩) λ x s₁ h₁=>?_;refine b8 h₁ λ OK s₂ ⟨VE,fp,tn,J,H₂,e2,I2,T,HA,fo,sm,z⟩=>?_;subst e2;refine b8 (vH (R:=Den X.K) (iter:=iter) (pos:=pos) bD B I2 T HA fo z.go z.zf z.stop (re.up sm) fW mP hG (λ C s H H0=>hg cl C fp s H H0) (λ C s s' H' i_ σ' Hg Q' I' w=>ht cl C fp s H' i_ s' σ' Hg Q' I' w) (λ C s H=>he cl C fp s H) ς ec) λ acc s₃ h₃=>?_;refine b8 h₃ λ Gh s₄ h₄=>A54 h₄ λ r s' ⟨er,HK⟩=>?_;subst er;exact fin acc _ s' H₂ sm HK
 .cases ec
theorem _root_.ZQ.cn(hi:ZQ.QI X tg iter it)(he:∀{cl C fp s H},ZQ.QE (jS X N' scope cl C fp s H) elt fe)(ht:∀{cl C fp s H},ZQ.Dw (jS X N' scope cl C fp s H) ifs t:=by exact rZ)(hg:∀{cl C fp s H H0},ZQ.QG (jS X N' scope cl C fp s H) H0 tg G:=by exact bx)(bD:X.calm=AT:=by rfl)(B:n? X.N N' n is scope X.env.scope:=by exact ZS.n?.of (by kernel_rfl))(hG:∀d ρ ρ1,G d ρ=.ok ρ1->ρ1.length=ρ.length/\∀i,n<=i->ρ1[i]?=ρ[i]?:=by exact ZS.dH (by decide))(hs:∀x,foldedSetIterable iter X.env x=pure x:=by intro _;rfl):ZQ.QL X (.ListComp elt [⟨tg,iter,ifs,0⟩] scope pos) (Z.bY it n is G t fe):=⟨by have hg:∀cl C fp s H H0,DG (jS X N' scope cl C fp s H) H0 tg G:=λ _ _ _ _ _ _=>hg.p;have ht:∀cl C fp s H,KR (jS X N' scope cl C fp s H) ifs t:=λ _ _ _ _ _=>ht.p;have he:∀cl C fp s H,DE (jS X N' scope cl C fp s H) elt fe:=λ _ _ _ _ _=>he.p;intro π s σ H Q I w;obtain⟨ρ,ys,re,e,k⟩:=w;rw[eval_ListComp];refine vI bD hi.p B hG hg ht he hs I re e λ acc C s' H₂ sm HK=>?_;obtain⟨D,H',vs,m,rfl,DX,I',off,AN,GK,hD,dz⟩:=HK;exact⟨m,DX,λ h' G4=>⟨.ref D,H',off.inv I' G4,rfl,k D vs H' (sm.trans GK) (sm.free AN) hD dz⟩⟩⟩
theorem Dk(bD:X.calm=AT)(hN:X.N.Nodup)(MO:X.N[i]?=Y! x)(hx:Loc X.env.scope x)
 (MF:swapsWith (.ListComp elt [⟨tg,iter,ifs,0⟩] scope pos) (Y!<|.Name x px) Bq.line X.env=pure AT) (hi:DI X tg iter it) (B:n? X.N N' n is scope X.env.scope) (hG:∀d ρ ρ1,G d ρ=.ok ρ1->ρ1.length=ρ.length/\∀i,n<=i->ρ1[i]?=ρ[i]?)
 (hg:∀cl C fp s H H0,DG (jS X N' scope cl C fp s H) H0 tg G) (ht:∀cl C fp s H,KR (jS X N' scope cl C fp s H) ifs t) (he:∀cl C fp s H,DE (jS X N' scope cl C fp s H) elt fe)
 (hs:∀x,foldedSetIterable iter X.env x=pure x) (hf:X.fn x=AT\/X.env.scope.names.lookup x=Y! .local) (I:Inv X π σ H s) (re:RE X.K H σ ρ) (e:Z.bY it n is G t fe ρ=.ok ys)
 (k:∀q vs H',ax H H'->H q=AC->H' q=Y! (.lst vs)->ay X.K H' ys vs->∃Hg,(∀s',Inv X π (σ.set i<|some<|.ref q) H' s'->Inv X π (σ.set i<|some<|.ref q) Hg s')/\D.nx (σ.set i<|some<|.ref q) Hg) :
 Db (model X.prog X.w) X.A (exec (.Assign [.Name x px] (.ListComp elt [⟨tg,iter,ifs,0⟩] scope pos) Bq) X.env) (SP X π D) X.xe s:=by
 rw[exec_Assign_Name_used _ _ _ _ MF];refine T0<|A71<|T0 ?_;refine T0<|Z5 (vI bD hi B hG hg ht he hs I re e λ acc C s' H₂ sm HK=>?_) (λ _ s' hq=>Y0<|Y0 hq) λ _ _ e=>e;obtain⟨q,H',vs,m,rfl,DX,I',off,AN,GK,hD,dz⟩:=HK;obtain⟨Hg,hI,V8⟩:=k q vs H' (sm.trans GK) (sm.free AN) hD dz;refine wpAny_assign_Name<|qT I' hN MO hx (v:=.ref q) rfl (λ J9 Xo ⟨⟨a,sb,ha⟩,_⟩=>?_) hf;have WE:C≠a:=by
  rcases ha with rfl|ha
  .exact off.loc
  .exact λ z=>off.cell x a ha z.symm
 refine⟨m,DX.sameBut sb WE,λ h' G4=>⟨_,Hg,?_,V8⟩⟩;exact hI _<|off.inv Xo G4
theorem F8(bD:X.calm=AT)(hN:X.N.Nodup)(MO:X.N[i]?=Y! x)(hx:Loc X.env.scope x)
 (hi:DI X tg iter it) (B:n? X.N N' n is scope X.env.scope) (hG:∀d ρ ρ1,G d ρ=.ok ρ1->ρ1.length=ρ.length/\∀i,n<=i->ρ1[i]?=ρ[i]?)
 (hg:∀cl C fp s H H0,DG (jS X N' scope cl C fp s H) H0 tg G) (ht:∀cl C fp s H,KR (jS X N' scope cl C fp s H) ifs t) (he:∀cl C fp s H,DE (jS X N' scope cl C fp s H) elt fe)
 (MF:swapsWith (.ListComp elt [⟨tg,iter,ifs,0⟩] scope pos) (Y!<|.Name x px) Bq.line X.env=pure AT:=by rfl)
 (hs:∀x,foldedSetIterable iter X.env x=pure x:=by intro _;rfl) (hf:Fl X x:=by trivial) :
 DS X H0 (.Assign [.Name x px] (.ListComp elt [⟨tg,iter,ifs,0⟩] scope pos) Bq) (Z.nO i<|Z.bY it n is G t fe):=by
 intro π s σ H D I w;obtain⟨ρ,fl,rs,e,k⟩:=w;obtain⟨ys,ey,e⟩:=Z.Res.aw e;cases e;refine Dk bD hN MO hx MF hi B hG hg ht he hs hf I rs.re ey λ q vs H' s' hn h1 t'=>⟨H',λ _ j=>j,?_⟩
 exact k _ H' (lC s')<|(rs.up s').Li h1 t' (rs.same.free hn) λ j xs _ e=>rs.Tf hn j xs e
theorem _root_.ZQ.j7(bD:X.calm=AT)(hN:X.N.Nodup)(MO:X.N[i]?=Y! x)(hx:Loc X.env.scope x)
 (hi:ZQ.QI X tg iter it) (B:n? X.N N' n is scope X.env.scope) (hG:∀d ρ ρ1,G d ρ=.ok ρ1->ρ1.length=ρ.length/\∀i,n<=i->ρ1[i]?=ρ[i]?)
 (hg:∀cl C fp s H H0,ZQ.QG (jS X N' scope cl C fp s H) H0 tg G) (ht:∀cl C fp s H,ZQ.Dw (jS X N' scope cl C fp s H) ifs t) (he:∀cl C fp s H,ZQ.QE (jS X N' scope cl C fp s H) elt fe)
 (MF:swapsWith (.ListComp elt [⟨tg,iter,ifs,0⟩] scope pos) (Y!<|.Name x px) Bq.line X.env=pure AT:=by rfl)
 (hs:∀x,foldedSetIterable iter X.env x=pure x:=by intro _;rfl) (hf:Fl X x:=by trivial) :
 ZQ.QS X H0 (.Assign [.Name x px] (.ListComp elt [⟨tg,iter,ifs,0⟩] scope pos) Bq) (Z.bq i<|Z.eL<|Z.bY it n is G t fe):=⟨by
 have hg:=λ y0 y1 y2 y3 y4 y5=>(hg y0 y1 y2 y3 y4 y5).p;have ht:=λ y0 y1 y2 y3 y4=>(ht y0 y1 y2 y3 y4).p;have he:=λ y0 y1 y2 y3 y4=>(he y0 y1 y2 y3 y4).p;have h1:DS X H0 _ _:=F8 bD hN MO hx hi.p B hG hg ht he MF hs hf;intro π s σ H D I w;obtain⟨ρ,fl,rs,e,k⟩:=w;obtain⟨d,ed,e⟩:=Z.Res.aw e;cases e;unfold Z.eL at ed;cases ey:Z.bY it n is G t fe ρ with
 |bad=>rw[ey]at ed;cases ed
 |ok ys=>
  rw[ey]at ed;cases ed;refine b8 (h1 π s σ H {D with nx:=λ σ' H'=>iF H H'/\RS X.K H0 H' σ' _} I ⟨ρ,.nx<|ρ.set i<|some<|.own ys,rs,by show(Z.bY it n is G t fe ρ).bind _=_;rw[ey];rfl,λ σ' H' s' r'=>⟨s',r'⟩⟩) λ WQ s' h=>?_;cases WQ with
  |next=>
   obtain⟨σ',H',I',uC,vZ⟩:=h;by_cases hl:i<ρ.length
   .have ei:(ρ.set i<|some<|Z.L.own ys)[i]?=Y! (Y!<|.own ys):=A25 hl;obtain⟨v,si,q,us,rfl,hq,t'⟩:=vZ.re.get i _ ei;obtain⟨o,I2⟩:=kW I' hq;have r2:=vZ.c5 (o:=o) ei si hq t';rw[List.set_set]at r2;exact⟨σ',_,I2,k σ' _ (uC.trans<|fS hq) r2⟩
   .have e0:ρ.set i (Y!<|Z.L.own ys)=ρ:=B79 (by lia);have e1:ρ.set i (Y!<|Z.L.val<|.lst ys)=ρ:=B79 (by lia);rw[e0]at vZ;have k':=k;rw[e1]at k';exact⟨σ',H',I',k' σ' H' uC vZ⟩
  |brk=>exact h
  |cont=>exact h
  |ret u=>exact h⟩
end
section
variable {P:ι}{w:θ}{K:Ch}{mg:Str->Y_ Z_}{base:η}
theorem jZ(t:ay K H ds vs)(hl:vs.length<=N.length):RS K H H (L2.start N vs) (Z.start N.length ds):=by
 have G0:∀(i:Nat) xs,(Z.start N.length ds)[i]?≠Y! (Y!<|.own xs):=by
  intro i xs e;unfold Z.start at e;by_cases hi:i<ds.length
  .rw[A16 (by simpa using hi),Z3]at e;cases q:ds[i]? with
   |none=>rw[q]at e;cases e
   |some d=>rw[q]at e;cases e
  .rw[A26 (by simpa using hi),A15]at e;split at e<;>cases e
 have L':∀(i:Nat) xs,(Z.start N.length ds)[i]?≠Y! (Y!<|.bor xs):=by
  intro i xs e;unfold Z.start at e;by_cases hi:i<ds.length
  .rw[A16 (by simpa using hi),Z3]at e;cases q:ds[i]? with
   |none=>rw[q]at e;cases e
   |some d=>rw[q]at e;cases e
  .rw[A26 (by simpa using hi),A15]at e;split at e<;>cases e
 have L9:∀(i:Nat) ks,(Z.start N.length ds)[i]?≠Y! (Y!<|.dc ks):=by
  intro i ks e;unfold Z.start at e;by_cases hi:i<ds.length
  .rw[A16 (by simpa using hi),Z3]at e;cases q:ds[i]? with
   |none=>rw[q]at e;cases e
   |some d=>rw[q]at e;cases e
  .rw[A26 (by simpa using hi),A15]at e;split at e<;>cases e
 have ς:=t.length;refine⟨ax.refl H,⟨?_,λ i l e=>?_,λ i j xs ys q e1=>absurd e1<|G0 i xs⟩,λ i xs q e1=>absurd e1<|G0 i xs,λ i xs e1=>absurd e1<|L' i xs,gK.non L9⟩
 .unfold Z.start L2.start;simp;lia
 .unfold Z.start at e;by_cases hi:i<ds.length
  .rw[A16 (by simpa using hi),Z3]at e;cases q:ds[i]? with
   |none=>rw[q]at e;cases e
   |some d=>rw[q]at e;cases e;obtain⟨v,h1,h2⟩:=t.get q;refine⟨v,?_,h2⟩;unfold L2.start;rw[A16 (by simp;lia),Z3,h1];rfl
  .rw[A26 (by simpa using hi),A15]at e;split at e<;>cases e
theorem Uk{st:ε}(F:xV K x qual st f fd)(S:a6 N ps (ak st))
 (hb:∀ ba A outer s H E,bK k (A.deeper<|envOfC qual (ak st) s.heap.objs.size f ba) ->
  Hi (ee jc P w K mg base N qual (ak st) f ba A outer s H E).fy H (aE st) b):dI P w K mg base jc (k+1) f fd ps (t8 K<|Z.fn ps.length N.length b):=by
 have ς:∀vs H Q E,t8 K (Z.fn ps.length N.length b) vs H Q E->vs.length=ps.length:=λ vs H Q E ⟨ds,d,t,e,_⟩=>by
  unfold Z.fn at e;split at e
  .rename_i h;rw[t.length];exact h
  .cases e
 refine F.ok S ς λ ba A outer s H vs Q E hr h=>⟨_,hb ba A outer s H E hr,?_⟩;have hl:=ς vs H Q E h;obtain⟨ds,d,t,e,k⟩:=h;have da:ps.length<=N.length:=by have:=Y8 List.length S.pre;rw[A00]at this;lia
 have rs:RS K H H _ (Z.start N.length ds):=jZ t (by lia);unfold Z.fn at e;split at e
 .cases eb:b (Z.start N.length ds)with
  |bad=>rw[eb]at e;cases e
  |ok fl=>
   rw[eb]at e;refine⟨_,fl,rs,eb,?_⟩;cases fl with
   |rt d'=>cases e;exact λ v H' s' dv=>k v H' s' dv
   |nx ρ'=>cases e;exact λ σ' H' _ vZ=>k .non H' vZ.same j9
   |bk ρ'=>cases e
   |ct ρ'=>cases e
 .cases e
end
def Hc(N N':Y' Str)(n:Nat)(is:Y' Nat)(sc Ia:μ):Bool:=
 (sc.kind==.function)&&sc.names.all (λ y=>y.2 != .cell)&&sc.names.all (λ y=>y.2 != .local||sc.names.lookup y.1==Y! .local) &&
 sc.names.all (λ y=>y.2 != .free||Ia.names.lookup y.1==Y! .cell||Ia.names.lookup y.1==Y! .free)&&(N'.length==n+is.length) &&
 (Do is.length).all (λ j=>match is[j]?,N'[n+j]? with
  |some i,Y! x=>N[i]?==Y! x&&sc.names.lookup x==Y! .free
  | _,_=>Z!) &&
 (Do n).all (λ j=>match N'[j]? with
  |some x=>sc.names.lookup x==Y! .local
  | none=>Z!)
theorem n?.of(h:Hc N N' n is sc Ia=AT):n? N N' n is sc Ia:=by
 unfold Hc at h;simp only[A17,A27,A07,Yl,bne_iff_ne,A05]at h;obtain⟨⟨⟨⟨⟨⟨h1,h2⟩,h3⟩,h4⟩,h5⟩,h6⟩,h7⟩:=h;refine⟨h1,h2,λ y hy e=>?_,λ y hy e=>?_,h5,λ j i e=>?_,λ j hj=>?_⟩
 .rcases h3 y hy with q|q
  .exact absurd e q
  .exact q
 .rcases h4 y hy with(q|q)|q
  .exact absurd e q
  .exact .inl q
  .exact .inr q
 .have hj:=(Y3.mp e).1;have q:=h6 j hj;rw[e]at q;cases r:N'[n+j]? with
  |none=>rw[r]at q;cases q
  |some x=>rw[r]at q;simp only[A17,A07]at q;exact⟨x,rfl,q.1,q.2⟩
 .have q:=h7 j hj;cases r:N'[j]? with
  |none=>rw[r]at q;cases q
  |some x=>rw[r]at q;exact⟨x,rfl,A07.mp q⟩
structure Def(K:Ch)(mg:Str->Option Value)(x:Str)(st:Stmt)(ps:List Str):Prop where
 ex:∃f fd,xV K x x st f fd/\mg x=Y! (.ref f)/\Binds K fd ps []
structure gL(P:Program)(w:World)(K:Ch)(mg:Str->Option Value)(base:Heap)(x:Str)(k:Nat)(ps:List Str)(m:List Z.D->Z.Res Z.D):Prop where
 ex:∃g fd,dI P w K mg base jc k g fd ps (t8 K m)/\mg x=Y! (.ref g)/\Ev K (.ref g)=AT/\Binds K fd ps []
theorem gL.mk'{K:Ch}{st:ε}(d:Def K mg x st ps)(S:a6 N ps (ak st))
 (hb:∀ f ba A outer s H E,bK k (A.deeper<|envOfC x (ak st) s.heap.objs.size f ba) ->
  Hi (ee jc P w K mg base N x (ak st) f ba A outer s H E).fy H (aE st) b):gL P w K mg base x (k+1) ps (Z.fn ps.length N.length b):=by
 obtain⟨f,fd,F,hm,CG⟩:=d.ex;exact⟨f,fd,Uk F S<|hb f,hm,F.kp,CG⟩
section
variable {X:Cx}{e:γ}{es:Y' γ}{pos:Pos}
theorem _root_.ZQ.ah(C:gL X.prog X.w X.K X.mg X.base x k ps m)(ha:ZQ.QA X (e::es) ar)(c_:(x==("__debug__"))=Z!:=by decide +kernel)(he:Se e es X.env:=by rfl)(da:Pn pos es X.env:=by rfl)(hr:bK k X.A:=by first| assumption| exact L2.bK.mono (by assumption) (by first| decide| lia))(hg:Gl X x:=by rfl):ZQ.QE X (.Call (.Name x p1) (e::es) [] pos) (Z.aB m ar):=
 ⟨let ⟨_,_,F,hm,hk,hb⟩:=C.ex;Ge F hr hg hm hk hb ha.p c_ he da⟩
end
theorem _root_.ZQ.bz(hm:X.mg x=Y! (.int i t))(hb:Nd x:=by decide +kernel)(hg:Gl X x:=by rfl):ZQ.QE X (.Name x pos) (Z.eC<|.int i):=
 ⟨Gd (v:=.int i) hg hm ⟨t,rfl⟩ (λ _=>cu) hb⟩
theorem wH{K:Ch}{ns:Y' Int}(hO:Gx H)(h:gJ K H a (ns.map V.int)):Den K H (.lst<|ns.map Z.D.int) (.ref a):=by
 refine tK ?_<|ay.zints ns;rcases h with(h|⟨o,h⟩)|h
 .rcases hO a with z|⟨o,xs,z⟩|⟨q,z⟩
  .rw[h]at z;cases z
  .rw[h]at z;cases z
  .rw[h]at z;cases z
 .exact .inl ⟨o,h⟩
 .exact .inr h
theorem II{K:Ch}{ns:Y' Int}(hO:Gx H)(h:gJ K H a (ns.map V.int))(e:m [.lst (ns.map .int)]=.ok (.bl AT)):t8 K m [.ref a] H (λ v _=>v=.bl AT) λ _ _ _=>False:=
 ⟨_,_,ay.cons (wH hO h) ay.nil,e,λ v H' _ d=>by simpa only[Den]using d⟩
section
variable {X:Cx}{e a b:γ}{pos:Pos}{f fa fb:Z.EF}
theorem uz(x y:Y' Nat):((⟨x.toArray⟩)==(⟨y.toArray⟩:Str))=(x==y):=by
 rw[A80,A07,A07];constructor
 .intro h;injection h with h;simpa using h
 .rintro rfl;rfl
theorem Vn{K:Ch}(h:Z.AO d1 d2=Y! k)(h1:bc K H d1 v1)(h2:bc K H d2 v2)(r1:RelV v1 u1)(r2:RelV v2 u2):SZ A s u1 u2 k/\NE A s u1 u2 k/\Pi A s u1 u2 (!k):=by
 unfold Z.AO at h;split at h
 .cases h;rw[h1.non]at r1;rw[h2.non]at r2;cases r1;cases r2;exact⟨SeqAt.RcAt.none_none,B47 _,SeqAt.RcNeAt.none_none⟩
 .cases h;rw[h1.bl]at r1;rw[h2.bl]at r2;cases r1;cases r2;exact⟨SeqAt.RcAt.bool_bool _ _,SeqAt.EqAt.bool_bool _ _,SeqAt.RcNeAt.bool_bool _ _⟩
 .cases h;rw[h1.bl]at r1;rw[h2.int]at r2;cases r1;obtain⟨t,rfl⟩:=r2;exact⟨SeqAt.RcAt.bool_int _ _ _,SeqAt.EqAt.bool_int _ _ _,SeqAt.RcNeAt.bool_int _ _ _⟩
 .cases h;rw[h1.int]at r1;rw[h2.bl]at r2;cases r2;obtain⟨t,rfl⟩:=r1;exact⟨SeqAt.RcAt.int_bool _ _ _,SeqAt.EqAt.int_bool _ _ _,SeqAt.RcNeAt.int_bool _ _ _⟩
 .cases h;rw[h1.int]at r1;rw[h2.int]at r2;obtain⟨t,rfl⟩:=r1;obtain⟨t',rfl⟩:=r2;exact⟨SeqAt.RcAt.int_int _ _ _ _,SeqAt.EqAt.int_int _ _ _ _,SeqAt.RcNeAt.int_int _ _ _ _⟩
 .cases h;rw[h1.str]at r1;rw[h2.str]at r2;obtain⟨t,rfl⟩:=r1;obtain⟨t',rfl⟩:=r2;rw[<-uz];exact⟨SeqAt.RcAt.str_str _ _ _ _,SeqAt.EqAt.str_str _ _ _ _,SeqAt.RcNeAt.str_str _ _ _ _⟩
 .cases h;rw[h1.non]at r1;rw[h2.bl]at r2;cases r1;cases r2;exact⟨SeqAt.RcAt.none_bool _,SeqAt.EqAt.none_bool _,SeqAt.RcNeAt.none_bool _⟩
 .cases h;rw[h1.non]at r1;rw[h2.int]at r2;cases r1;obtain⟨t,rfl⟩:=r2;exact⟨SeqAt.RcAt.none_int _ _,SeqAt.EqAt.none_int _ _,SeqAt.RcNeAt.none_int _ _⟩
 .cases h;rw[h1.non]at r1;rw[h2.str]at r2;cases r1;obtain⟨t,rfl⟩:=r2;exact⟨SeqAt.RcAt.none_str _ _,SeqAt.EqAt.none_str _ _,SeqAt.RcNeAt.none_str _ _⟩
 .cases h;rw[h1.bl]at r1;rw[h2.non]at r2;cases r1;cases r2;exact⟨SeqAt.RcAt.bool_none _,SeqAt.EqAt.bool_none _,SeqAt.RcNeAt.bool_none _⟩
 .cases h;rw[h1.bl]at r1;rw[h2.str]at r2;cases r1;obtain⟨t,rfl⟩:=r2;exact⟨SeqAt.RcAt.bool_str _ _ _,SeqAt.EqAt.bool_str _ _ _,SeqAt.RcNeAt.bool_str _ _ _⟩
 .cases h;rw[h1.int]at r1;rw[h2.non]at r2;cases r2;obtain⟨t,rfl⟩:=r1;exact⟨SeqAt.RcAt.int_none _ _,SeqAt.EqAt.int_none _ _,SeqAt.RcNeAt.int_none _ _⟩
 .cases h;rw[h1.int]at r1;rw[h2.str]at r2;obtain⟨t,rfl⟩:=r1;obtain⟨t',rfl⟩:=r2;exact⟨SeqAt.RcAt.int_str _ _ _ _,SeqAt.EqAt.int_str _ _ _ _,SeqAt.RcNeAt.int_str _ _ _ _⟩
 .cases h;rw[h1.str]at r1;rw[h2.non]at r2;cases r2;obtain⟨t,rfl⟩:=r1;exact⟨SeqAt.RcAt.str_none _ _,SeqAt.EqAt.str_none _ _,SeqAt.RcNeAt.str_none _ _⟩
 .cases h;rw[h1.str]at r1;rw[h2.bl]at r2;cases r2;obtain⟨t,rfl⟩:=r1;exact⟨SeqAt.RcAt.str_bool _ _ _,SeqAt.EqAt.str_bool _ _ _,SeqAt.RcNeAt.str_bool _ _ _⟩
 .cases h;rw[h1.str]at r1;rw[h2.int]at r2;obtain⟨t,rfl⟩:=r1;obtain⟨t',rfl⟩:=r2;exact⟨SeqAt.RcAt.str_int _ _ _ _,SeqAt.EqAt.str_int _ _ _ _,SeqAt.RcNeAt.str_int _ _ _ _⟩
 .cases h
def D3(g:Z.D->Z.D->Y_ Bool)(as bs:Y' Z.D)(j:Nat):Bool:=match as[j]?,bs[j]? with
|some x,Y! y=>(g x y).getD Z!
|_,_=>AT
theorem jV:∀{as bs}{k},Z.allEq g as bs=Y! k->k=((Do<|min as.length bs.length).all (D3 g as bs)&&as.length == bs.length)/\∀j x y,as[j]?=Y! x->bs[j]?=Y! y->g x y=Y! (D3 g as bs j)
|[],[],k,h=>by cases h;exact⟨rfl,λ j x y e=>by simp at e⟩
|[],_::_,k,h=>by cases h;exact⟨by simp,λ j x y e=>by simp at e⟩
|_::_,[],k,h=>by cases h;exact⟨by simp,λ j x y _ e=>by simp at e⟩
|a::as,b::bs,k,h=>by
 unfold Z.allEq at h;split at h
 .rename_i p q e1 e2;cases h;obtain⟨h1,h2⟩:=jV e2;refine⟨?_,λ j x y ex ey=>?_⟩
  .have:min (a::as).length (b::bs).length=min as.length bs.length+1:=by simp only[A58];lia
   rw[this,B80,B48,List.all_map,h1];have e0:D3 g (a::as) (b::bs) 0=p:=by simp[D3,e1]
   have es:(D3 g (a::as) (b::bs)∘Nat.succ)=D3 g as bs:=by funext j;simp[D3]
   have el:((a::as).length==(b::bs).length)=(as.length==bs.length):=by rw[A80];simp
   rw[e0,es,el,Bool.and_assoc]
  .cases j with
   |zero=>simp at ex ey;subst ex ey;simp[D3,e1]
   |succ j=>have:=h2 j x y (by simpa using ex) (by simpa using ey);simpa[D3]using this
 .cases h
theorem u7(I:Inv X π σ H s)(n:Nat)(hu:A.units+n<cLine)
 (ih:∀ {A} {d1 d2} {v1 v2} {u1 u2} {k},A.units+n<cLine->Z.eP n d1 d2=Y! k->bc X.K H d1 v1->bc X.K H d2 v2->RelV v1 u1->RelV v2 u2->SZ A s u1 u2 k/\NE A s u1 u2 k/\Pi A s u1 u2 (!k))
  (hk:Z.allEq (Z.eP n) as bs=Y! k) (ta:ay X.K H as vs) (tb:ay X.K H bs ws) (ra:Vals vs aU) (rb:Vals ws gD) :
  ∀j h1 (h2:j<gD.toArray.size),NE A s aU.toArray[j] gD.toArray[j] (D3 (Z.eP n) as bs j):=by
 intro j TR OW;have la:=ta.length;have lb:=tb.length;have Oh:=ra.length;have Qp:=rb.length;simp only[Z2]at TR OW;obtain⟨x,ex⟩:∃x,as[j]?=Y! x:=⟨as[j]'(by lia),M2 (by lia)⟩
 obtain⟨y,ey⟩:∃y,bs[j]?=Y! y:=⟨bs[j]'(by lia),M2 (by lia)⟩
 obtain⟨vx,R7,dx⟩:=ta.get ex;obtain⟨vy,G9,dy⟩:=tb.get ey;obtain⟨ux,WU,rx⟩:=ra.get R7;obtain⟨uy,WT,ry⟩:=rb.get G9;have e1:aU.toArray[j]=ux:=by have:=M2 TR;rw[WU]at this;simpa using(Y4 this).symm
 have e2:gD.toArray[j]=uy:=by have:=M2 OW;rw[WT]at this;simpa using(Y4 this).symm
 rw[e1,e2];exact(ih hu ((jV hk).2 j x y ex ey) (.inl dx) (.inl dy) rx ry).2.1
theorem CZ{K:Ch}(h:Z.AO d1 d2=Y! k)(h1:bc K H d1 v)(h2:bc K H d2 v):k=AT:=by
 unfold Z.AO at h;split at h<;>first
  |(cases h;rfl)
  |(cases h;done)
  |(have e:=h1.bl.symm.trans h2.bl;cases h;injection e with e;subst e;simp)
  |(have e:=h1.int.symm.trans h2.int;cases h;injection e with e;subst e;simp)
  |(have e:=h1.str.symm.trans h2.str;cases h;injection e with e;rw[<-uz,e];simp)
  |(have e:=h1.bl.symm.trans h2.int;cases e)
  |(have e:=h1.int.symm.trans h2.bl;cases e)
  |(have e:=h1.non.symm.trans h2.bl;cases e)
  |(have e:=h1.non.symm.trans h2.int;cases e)
  |(have e:=h1.non.symm.trans h2.str;cases e)
  |(have e:=h1.bl.symm.trans h2.non;cases e)
  |(have e:=h1.bl.symm.trans h2.str;cases e)
  |(have e:=h1.int.symm.trans h2.non;cases e)
  |(have e:=h1.int.symm.trans h2.str;cases e)
  |(have e:=h1.str.symm.trans h2.non;cases e)
  |(have e:=h1.str.symm.trans h2.bl;cases e)
  |(have e:=h1.str.symm.trans h2.int;cases e)
theorem pB{K:Ch}(ih:∀{d1 d2}{v}{k},Z.eP n d1 d2=Y! k->bc K H d1 v->bc K H d2 v->k=AT)(h:Z.allEq (Z.eP n) as bs=Y! k)(ta:ay K H as vs)(tb:ay K H bs vs):k=AT:=by
 obtain⟨h1,h2⟩:=jV h;have la:=ta.length;have lb:=tb.length;rw[h1,show(as.length==bs.length)=AT by simp;lia,ZA,A27];intro j hj;rw[A05]at hj;obtain⟨x,ex⟩:∃x,as[j]?=Y! x:=⟨as[j]'(by lia),M2 (by lia)⟩
 obtain⟨y,ey⟩:∃y,bs[j]?=Y! y:=⟨bs[j]'(by lia),M2 (by lia)⟩
 obtain⟨vx,R7,dx⟩:=ta.get ex;obtain⟨vy,G9,dy⟩:=tb.get ey;rw[R7]at G9;cases G9;exact ih (h2 j x y ex ey) (.inl dx)<|.inl dy
theorem sA{a:Z'}(I:Inv X π σ H s)(h:jW X.K H a xs)(h':gJ X.K H a ys):False:=by obtain⟨aU,r,⟨o,e,c,n,d⟩,_⟩:=I.tuple h;obtain⟨mJ,r',⟨o',n',e',c',_⟩,_⟩:=I.list h';rw[e]at e';cases e';rw[c]at c';injection c' with z;exact absurd z (by decide)
def sq:Z.D->Bool
|.tup _=>AT
|.lst _=>AT
|_=>Z!
def dc:Z.D->Bool
|.dct _ _=>AT
|_=>Z!
theorem C0(n:Nat)(h:(sq d1=Z!/\sq d2=Z!)\/dc d1=AT\/dc d2=AT):Z.eP n d1 d2=Z.AO d1 d2:=by cases d1<;>cases d2<;>cases n<;>first|rfl|(simp[sq,dc]at h)
theorem Ac(I:Inv X π σ H s)(n:Nat)(ih:∀m,m<n->∀{d1 d2}{v}{k},Z.eP m d1 d2=Y! k->bc X.K H d1 v->bc X.K H d2 v->k=AT)(h:Z.eP n d1 d2=Y! k)(h1:bc X.K H d1 v)(h2:bc X.K H d2 v):k=AT:=by
 cases d1<;>cases d2
 case tup.tup=>
  cases n with
  |zero=>cases h
  |succ n=>obtain⟨_,_,e,q,ta⟩:=h1.tup;obtain⟨_,_,e',q',tb⟩:=h2.tup;rw[e]at e';cases e';have:=I.my q q';subst this;exact pB (ih n<|A38 n) h ta tb
 case tup.lst=>obtain⟨_,_,e,q,_⟩:=h1.tup;obtain⟨_,_,e',q',_⟩:=h2.lst;rw[e]at e';cases e';exact(sA I q q').elim
 case lst.tup=>obtain⟨_,_,e,q,_⟩:=h1.lst;obtain⟨_,_,e',q',_⟩:=h2.tup;rw[e]at e';cases e';exact(sA I q' q).elim
 case lst.lst=>
  cases n with
  |zero=>cases h
  |succ n=>obtain⟨_,_,e,q,ta⟩:=h1.lst;obtain⟨_,_,e',q',tb⟩:=h2.lst;rw[e]at e';cases e';have:=I.lT q q';subst this;exact pB (ih n<|A38 n) h ta tb
 all_goals try (refine CZ ((C0 n ?_).symm.trans h) h1 h2;simp[sq,dc];done)
 all_goals first|(obtain⟨_,_,e,_⟩:=h2.tup;rw[e]at h1)|(obtain⟨_,_,e,_⟩:=h2.lst;rw[e]at h1)|(obtain⟨_,_,e,_⟩:=h1.tup;rw[e]at h2)|(obtain⟨_,_,e,_⟩:=h1.lst;rw[e]at h2)
 all_goals first|cases h1.non|cases h1.bl|cases h1.int|cases h1.str|cases h2.non|cases h2.bl|cases h2.int|cases h2.str
theorem vt(I:Inv X π σ H s)(n:Nat):∀{d1 d2}{v}{k},Z.eP n d1 d2=Y! k->bc X.K H d1 v->bc X.K H d2 v->k=AT:=by
 induction n using Nat.strongRecOn with
 |_ n ih=>exact Ac I n ih
theorem Qo(I:Inv X π σ H s)(n:Nat)(ih:∀m,m<n->∀{A}{d1 d2}{v1 v2}{u1 u2}{k},A.units+m<cLine->Z.eP m d1 d2=Y! k->bc X.K H d1 v1->bc X.K H d2 v2->RelV v1 u1->RelV v2 u2->SZ A s u1 u2 k/\NE A s u1 u2 k/\Pi A s u1 u2 (!k))(hu:A.units+n<cLine)(h:Z.eP n d1 d2=Y! k)(h1:bc X.K H d1 v1)(h2:bc X.K H d2 v2)(r1:RelV v1 u1)(r2:RelV v2 u2):
 SZ A s u1 u2 k/\NE A s u1 u2 k/\Pi A s u1 u2 (!k):=by
 have dQ:A.units<cLine:=by lia
 have qk:∀{ds}{v}{u},bc X.K H (.tup ds) v->RelV v u->∃q aU,u=.ref q/\s.heap.IsTuple q aU:=λ hd rv=>by obtain⟨q,vs,rfl,hq,_⟩:=hd.tup;cases rv;obtain⟨aU,_,p,_⟩:=I.tuple hq;exact⟨q,aU.toArray,rfl,p⟩
 have qx:∀{ds}{v}{u},bc X.K H (.lst ds) v->RelV v u->∃q aU,u=.ref q/\s.heap.IsList q aU:=λ hd rv=>by obtain⟨q,vs,rfl,hq,_⟩:=hd.lst;cases rv;obtain⟨aU,_,p,_⟩:=I.list hq;exact⟨q,aU.toArray,rfl,p.isList⟩
 cases d1<;>cases d2
 case non.tup=>
  obtain rfl:k=Z!:=by cases n<;>cases h<;>rfl
  rw[h1.non]at r1;cases r1;obtain⟨q2,gD,rfl,p2⟩:=qk h2 r2;exact⟨SeqAt.RcAt.none_tuple p2 dQ,SeqAt.EqAt.none_tuple p2 dQ,SeqAt.RcNeAt.none_tuple p2 dQ⟩
 case non.lst=>
  obtain rfl:k=Z!:=by cases n<;>cases h<;>rfl
  rw[h1.non]at r1;cases r1;obtain⟨q2,gD,rfl,p2⟩:=qx h2 r2;exact⟨SeqAt.RcAt.none_list p2 dQ,SeqAt.EqAt.none_list p2 dQ,SeqAt.RcNeAt.none_list p2 dQ⟩
 case bl.tup=>
  obtain rfl:k=Z!:=by cases n<;>cases h<;>rfl
  rw[h1.bl]at r1;cases r1;obtain⟨q2,gD,rfl,p2⟩:=qk h2 r2;exact⟨SeqAt.RcAt.bool_tuple _ p2 dQ,SeqAt.EqAt.bool_tuple _ p2 dQ,SeqAt.RcNeAt.bool_tuple _ p2 dQ⟩
 case bl.lst=>
  obtain rfl:k=Z!:=by cases n<;>cases h<;>rfl
  rw[h1.bl]at r1;cases r1;obtain⟨q2,gD,rfl,p2⟩:=qx h2 r2;exact⟨SeqAt.RcAt.bool_list _ p2 dQ,SeqAt.EqAt.bool_list _ p2 dQ,SeqAt.RcNeAt.bool_list _ p2 dQ⟩
 case int.tup=>
  obtain rfl:k=Z!:=by cases n<;>cases h<;>rfl
  rw[h1.int]at r1;obtain⟨t1,rfl⟩:=r1;obtain⟨q2,gD,rfl,p2⟩:=qk h2 r2;exact⟨SeqAt.RcAt.int_tuple _ _ p2 dQ,SeqAt.EqAt.int_tuple _ _ p2 dQ,SeqAt.RcNeAt.int_tuple _ _ p2 dQ⟩
 case int.lst=>
  obtain rfl:k=Z!:=by cases n<;>cases h<;>rfl
  rw[h1.int]at r1;obtain⟨t1,rfl⟩:=r1;obtain⟨q2,gD,rfl,p2⟩:=qx h2 r2;exact⟨SeqAt.RcAt.int_list _ _ p2 dQ,SeqAt.EqAt.int_list _ _ p2 dQ,SeqAt.RcNeAt.int_list _ _ p2 dQ⟩
 case str.tup=>
  obtain rfl:k=Z!:=by cases n<;>cases h<;>rfl
  rw[h1.str]at r1;obtain⟨t1,rfl⟩:=r1;obtain⟨q2,gD,rfl,p2⟩:=qk h2 r2;exact⟨SeqAt.RcAt.str_tuple _ _ p2 dQ,SeqAt.EqAt.str_tuple _ _ p2 dQ,SeqAt.RcNeAt.str_tuple _ _ p2 dQ⟩
 case str.lst=>
  obtain rfl:k=Z!:=by cases n<;>cases h<;>rfl
  rw[h1.str]at r1;obtain⟨t1,rfl⟩:=r1;obtain⟨q2,gD,rfl,p2⟩:=qx h2 r2;exact⟨SeqAt.RcAt.str_list _ _ p2 dQ,SeqAt.EqAt.str_list _ _ p2 dQ,SeqAt.RcNeAt.str_list _ _ p2 dQ⟩
 case tup.non=>
  obtain rfl:k=Z!:=by cases n<;>cases h<;>rfl
  obtain⟨q1,sW,rfl,p1⟩:=qk h1 r1;rw[h2.non]at r2;cases r2;exact⟨SeqAt.RcAt.tuple_none p1 dQ,SeqAt.EqAt.tuple_none p1 dQ,SeqAt.RcNeAt.tuple_none p1 dQ⟩
 case tup.bl=>
  obtain rfl:k=Z!:=by cases n<;>cases h<;>rfl
  obtain⟨q1,sW,rfl,p1⟩:=qk h1 r1;rw[h2.bl]at r2;cases r2;exact⟨SeqAt.RcAt.tuple_bool _ p1 dQ,SeqAt.EqAt.tuple_bool _ p1 dQ,SeqAt.RcNeAt.tuple_bool _ p1 dQ⟩
 case tup.int=>
  obtain rfl:k=Z!:=by cases n<;>cases h<;>rfl
  obtain⟨q1,sW,rfl,p1⟩:=qk h1 r1;rw[h2.int]at r2;obtain⟨t2,rfl⟩:=r2;exact⟨SeqAt.RcAt.tuple_int _ _ p1 dQ,SeqAt.EqAt.tuple_int _ _ p1 dQ,SeqAt.RcNeAt.tuple_int _ _ p1 dQ⟩
 case tup.str=>
  obtain rfl:k=Z!:=by cases n<;>cases h<;>rfl
  obtain⟨q1,sW,rfl,p1⟩:=qk h1 r1;rw[h2.str]at r2;obtain⟨t2,rfl⟩:=r2;exact⟨SeqAt.RcAt.tuple_str _ _ p1 dQ,SeqAt.EqAt.tuple_str _ _ p1 dQ,SeqAt.RcNeAt.tuple_str _ _ p1 dQ⟩
 case tup.lst=>
  obtain rfl:k=Z!:=by cases n<;>cases h<;>rfl
  obtain⟨q1,sW,rfl,p1⟩:=qk h1 r1;obtain⟨q2,gD,rfl,p2⟩:=qx h2 r2;exact⟨SeqAt.RcAt.tuple_list p1 p2 dQ,SeqAt.EqAt.tuple_list p1 p2 dQ,SeqAt.RcNeAt.tuple_list p1 p2 dQ⟩
 case lst.non=>
  obtain rfl:k=Z!:=by cases n<;>cases h<;>rfl
  obtain⟨q1,sW,rfl,p1⟩:=qx h1 r1;rw[h2.non]at r2;cases r2;exact⟨SeqAt.RcAt.list_none p1 dQ,SeqAt.EqAt.list_none p1 dQ,SeqAt.RcNeAt.list_none p1 dQ⟩
 case lst.bl=>
  obtain rfl:k=Z!:=by cases n<;>cases h<;>rfl
  obtain⟨q1,sW,rfl,p1⟩:=qx h1 r1;rw[h2.bl]at r2;cases r2;exact⟨SeqAt.RcAt.list_bool _ p1 dQ,SeqAt.EqAt.list_bool _ p1 dQ,SeqAt.RcNeAt.list_bool _ p1 dQ⟩
 case lst.int=>
  obtain rfl:k=Z!:=by cases n<;>cases h<;>rfl
  obtain⟨q1,sW,rfl,p1⟩:=qx h1 r1;rw[h2.int]at r2;obtain⟨t2,rfl⟩:=r2;exact⟨SeqAt.RcAt.list_int _ _ p1 dQ,SeqAt.EqAt.list_int _ _ p1 dQ,SeqAt.RcNeAt.list_int _ _ p1 dQ⟩
 case lst.str=>
  obtain rfl:k=Z!:=by cases n<;>cases h<;>rfl
  obtain⟨q1,sW,rfl,p1⟩:=qx h1 r1;rw[h2.str]at r2;obtain⟨t2,rfl⟩:=r2;exact⟨SeqAt.RcAt.list_str _ _ p1 dQ,SeqAt.EqAt.list_str _ _ p1 dQ,SeqAt.RcNeAt.list_str _ _ p1 dQ⟩
 case lst.tup=>
  obtain rfl:k=Z!:=by cases n<;>cases h<;>rfl
  obtain⟨q1,sW,rfl,p1⟩:=qx h1 r1;obtain⟨q2,gD,rfl,p2⟩:=qk h2 r2;exact⟨SeqAt.RcAt.list_tuple p1 p2 dQ,SeqAt.EqAt.list_tuple p1 p2 dQ,SeqAt.RcNeAt.list_tuple p1 p2 dQ⟩
 case tup.tup as bs=>
  cases n with
  |zero=>cases h
  |succ n=>
   have hk:=h;have hs:=λ(z:v1=v2)=>vt I (n+1) (d1:=.tup as) (d2:=.tup bs) (v:=v1) h h1<|z▸h2;obtain⟨q,vs,rfl,hq,ta⟩:=h1.tup;obtain⟨q',ws,rfl,ki,tb⟩:=h2.tup;cases r1;cases r2;obtain⟨aU,ra,pa,_⟩:=I.tuple hq;obtain⟨gD,rb,pb,_⟩:=I.tuple ki;have hi:=u7 I n (A:=A.in1) (show A.units+1+n<cLine by lia) (ih n<|A38 n) hk ta tb ra rb;have e:=(jV hk).1;have la:=ta.length;have lb:=tb.length;have Oh:=ra.length;have Qp:=rb.length;have t1:=SeqAt.RcAt.tuples (s:=s) (A:=A) (pa) (pb) dQ hi;have t2:=SeqAt.RcNeAt.tuples (s:=s) (A:=A) (pa) (pb) dQ hi;simp only[Z2]at t1 t2;rw[<-Oh,<-Qp,la,lb,<-e]at t1 t2;refine⟨t1,?_,t2⟩;by_cases MH:q=q'
   .subst MH;rw[hs rfl];exact B47 _
   .exact SeqAt.EqAt.of_refs MH t1
 case lst.lst as bs=>
  cases n with
  |zero=>cases h
  |succ n=>
   have hk:=h;have hs:=λ(z:v1=v2)=>vt I (n+1) (d1:=.lst as) (d2:=.lst bs) (v:=v1) h h1<|z▸h2;obtain⟨q,vs,rfl,hq,ta⟩:=h1.lst;obtain⟨q',ws,rfl,ki,tb⟩:=h2.lst;cases r1;cases r2;obtain⟨aU,ra,pa,_⟩:=I.list hq;obtain⟨gD,rb,pb,_⟩:=I.list ki;have e:=(jV hk).1;have la:=ta.length;have lb:=tb.length;have Oh:=ra.length;have Qp:=rb.length;have t:SZ A s (.ref q) (.ref q') k/\Pi A s (.ref q) (.ref q') (!k):=by
    by_cases ς:as.length=bs.length
    .have hi:=u7 I n (A:=A.in1) (show A.units+1+n<cLine by lia) (ih n<|A38 n) hk ta tb ra rb;have t1:=SeqAt.RcAt.lists (s:=s) (A:=A) pa.isList pb.isList (by simp only[Z2];lia) dQ hi;have t2:=SeqAt.RcNeAt.lists (s:=s) (A:=A) pa.isList pb.isList (by simp only[Z2];lia) dQ hi;simp only[Z2]at t1 t2;rw[<-Oh,la]at t1 t2;rw[ς,Nat.min_self,A63,ZA,<-ς]at e;rw[<-e]at t1 t2;exact⟨t1,t2⟩
    .have:(as.length==bs.length)=Z!:=by simpa using ς
     rw[this,B11]at e;subst e;exact⟨SeqAt.RcAt.lists_lengths pa.isList pb.isList (by simp only[Z2,bne_iff_ne,ne_eq];lia) dQ,SeqAt.RcNeAt.lists_lengths pa.isList pb.isList (by simp only[Z2,bne_iff_ne,ne_eq];lia) dQ⟩
   refine⟨t.1,?_,t.2⟩;by_cases MH:q=q'
   .subst MH;rw[hs rfl];exact B47 _
   .exact SeqAt.EqAt.of_refs MH t.1
 all_goals (refine Vn ((C0 n ?_).symm.trans h) h1 h2 r1 r2;simp[sq,dc])
theorem Lo(I:Inv X π σ H s)(n:Nat):∀{A}{d1 d2}{v1 v2}{u1 u2}{k},A.units+n<cLine->Z.eP n d1 d2=Y! k->bc X.K H d1 v1->bc X.K H d2 v2->RelV v1 u1->RelV v2 u2->SZ A s u1 u2 k/\NE A s u1 u2 k/\Pi A s u1 u2 (!k):=by
 induction n using Nat.strongRecOn with
 |_ n ih=>exact Qo I n ih
theorem fN(hu:X.A.units+64<cLine):AS X .Eq Z.oEq:=by
 have ho:iG X (compareOp .Eq) (λ x y H Q=>∃d1 d2 k,bc X.K H d1 x/\bc X.K H d2 y/\Z.ij d1 d2=Y! k/\Q (.bl k) H):=by intro π s σ H x y v u Q I rx ry h;obtain⟨d1,d2,k,h1,h2,e,q⟩:=h;exact(Lo I 6 (by lia) e h1 h2 rx ry).1 _ X.w X.xe _ ⟨.bl k,H,I,rfl,q⟩
 exact⟨_,ho,λ x y dx dy d H Q h1 h2 e k=>by
  unfold Z.oEq at e;split at e
  .rename_i z hz;cases e;exact⟨dx,dy,z,h1,h2,hz,k _ H (ax.refl H) cy⟩
  .cases e⟩
theorem Gk(hu:X.A.units+64<cLine):AS X .NotEq Z.qv:=by
 have ho:iG X (compareOp .NotEq) (λ x y H Q=>∃d1 d2 k,bc X.K H d1 x/\bc X.K H d2 y/\Z.ij d1 d2=Y! k/\Q (.bl<|!k) H):=by intro π s σ H x y v u Q I rx ry h;obtain⟨d1,d2,k,h1,h2,e,q⟩:=h;exact(Lo I 6 (by lia) e h1 h2 rx ry).2.2 _ X.w X.xe _ ⟨.bl<|!k,H,I,rfl,q⟩
 exact⟨_,ho,λ x y dx dy d H Q h1 h2 e k=>by
  unfold Z.qv at e;split at e
  .rename_i z hz;cases e;exact⟨dx,dy,z,h1,h2,hz,k _ H (ax.refl H) cy⟩
  .cases e⟩
theorem Cp:∀{a b},zV a=zV b->a=b
|.inl a,.inl b,h=>by injection h with h;rw[h]
|.inl _,.inr _,h=>by cases h
|.inr _,.inl _,h=>by cases h
|.inr a,.inr b,h=>by
 injection h with h
 injection h with h
 have:a=b:=by simpa using Y8 Re h
 rw[this]
theorem q_:∀{a b:Y' _},a.map zV=b.map zV->a=b
|[],[],_=>rfl
|[],_::_,h=>by cases h
|_::_,[],h=>by cases h
|a::as,b::bs,h=>by simp only[Y7,List.cons.injEq]at h;rw[Cp h.1,q_ h.2]
theorem yZ{a:Z'}(I:Inv X π σ H s)(hq:H a=Y! (.c5 o<|.dK dG)):∃o',s.heap.get? a=Y! o'/\o'.cls=.type "dict":=by
 obtain⟨_,_,_,_,_,o',es,ep,h1,h2,_⟩:=(I.bI a _ hq)
 exact⟨o',h1,h2.1⟩
theorem BG{a:Z'}(I:Inv X π σ H s)(h:jW X.K H a xs)(h':H a=Y! (.c5 o<|.dK dG)):False:=by obtain⟨aU,r,⟨o1,e,c,n,d⟩,_⟩:=I.tuple h;obtain⟨o2,e',c'⟩:=yZ I h';rw[e]at e';cases e';rw[c]at c';injection c' with z;exact absurd z (by decide)
theorem BH{a:Z'}(I:Inv X π σ H s)(h:gJ X.K H a xs)(h':H a=Y! (.c5 o<|.dK dG)):False:=by obtain⟨aU,r,⟨o1,n,e,c,_⟩,_⟩:=I.list h;obtain⟨o2,e',c'⟩:=yZ I h';rw[e]at e';cases e';rw[c]at c';injection c' with z;exact absurd z (by decide)
mutual
theorem Den.inj{π:Y' (Z'×ζ)}{σ:St}{H:Hp}{s:δ}(I:Inv X π σ H s):∀(d1 d2:Z.D)(v:V),Den X.K H d1 v->Den X.K H d2 v->d1=d2
|.non,d2,v,h1,h2=>by
 simp only[Den]at h1;subst h1;cases d2<;>simp only[Den]at h2<;>first|rfl|(cases h2;done)|skip
 case tup=>obtain⟨_,_,e,_⟩:=h2;cases e
 case lst=>obtain⟨_,_,e,_⟩:=h2;cases e
 case dct=>obtain⟨_,_,_,e,_⟩:=h2;cases e
|.bl b,d2,v,h1,h2=>by
 simp only[Den]at h1;subst h1;cases d2<;>simp only[Den]at h2<;>first|(injection h2 with h2;rw[h2])|(cases h2;done)|skip
 case tup=>obtain⟨_,_,e,_⟩:=h2;cases e
 case lst=>obtain⟨_,_,e,_⟩:=h2;cases e
 case dct=>obtain⟨_,_,_,e,_⟩:=h2;cases e
|.int i,d2,v,h1,h2=>by
 simp only[Den]at h1;subst h1;cases d2<;>simp only[Den]at h2<;>first|(injection h2 with h2;rw[h2])|(cases h2;done)|skip
 case tup=>obtain⟨_,_,e,_⟩:=h2;cases e
 case lst=>obtain⟨_,_,e,_⟩:=h2;cases e
 case dct=>obtain⟨_,_,_,e,_⟩:=h2;cases e
|.str cs,d2,v,h1,h2=>by
 simp only[Den]at h1;subst h1;cases d2<;>simp only[Den]at h2<;>first|(injection h2 with h2;injection h2 with h2;have:=Y8 Re h2;simp at this;rw[this])|(cases h2;done)|skip
 case tup=>obtain⟨_,_,e,_⟩:=h2;cases e
 case lst=>obtain⟨_,_,e,_⟩:=h2;cases e
 case dct=>obtain⟨_,_,_,e,_⟩:=h2;cases e
|.tup ds,d2,v,h1,h2=>by
 simp only[Den]at h1;obtain⟨a,vs,rfl,q,t⟩:=h1;cases d2<;>simp only[Den]at h2
 case tup es=>obtain⟨a',J7,e,q',t'⟩:=h2;cases e;rw[I.my q' q]at t';rw[ay.inj I ds es vs t t']
 case lst es=>obtain⟨a',J7,e,q',t'⟩:=h2;cases e;exact(sA I q q'.sq).elim
 case dct ks es=>obtain⟨a',o,dG,e,q',_⟩:=h2;cases e;exact(BG I q q').elim
 all_goals cases h2
|.lst ds,d2,v,h1,h2=>by
 simp only[Den]at h1;obtain⟨a,vs,rfl,q,t⟩:=h1;cases d2<;>simp only[Den]at h2
 case lst es=>obtain⟨a',J7,e,q',t'⟩:=h2;cases e;rw[I.lT q'.sq q.sq]at t';rw[ay.inj I ds es vs t t']
 case tup es=>obtain⟨a',J7,e,q',t'⟩:=h2;cases e;exact(sA I q' q.sq).elim
 case dct ks es=>obtain⟨a',o,dG,e,q',_⟩:=h2;cases e;exact(BH I q.sq q').elim
 all_goals cases h2
|.dct ks ds,d2,v,h1,h2=>by
 simp only[Den]at h1;obtain⟨a,o,dG,rfl,q,hk,t,_⟩:=h1;cases d2<;>simp only[Den]at h2
 case lst es=>obtain⟨a',J7,e,q',t'⟩:=h2;cases e;exact(BH I q'.sq q).elim
 case tup es=>obtain⟨a',J7,e,q',t'⟩:=h2;cases e;exact(BG I q' q).elim
 case dct Tp es=>obtain⟨a',o',Vw,e,q',MN,t',_⟩:=h2;cases e;rw[q]at q';cases q';rw[ay.inj I ds es _ t t',q_<|hk.symm.trans MN]
 all_goals cases h2
theorem ay.inj{π:Y' (Z'×ζ)}{σ:St}{H:Hp}{s:δ}(I:Inv X π σ H s):∀(d1 d2:Y' Z.D)(v:Y' V),ay X.K H d1 v->ay X.K H d2 v->d1=d2
|[],d2,v,h1,h2=>by
 simp only[ay]at h1;subst h1;cases d2 with
 |nil=>rfl
 |cons d ds=>simp only[ay]at h2;obtain⟨_,_,e,_⟩:=h2;cases e
|d::ds,d2,v,h1,h2=>by
 simp only[ay]at h1;obtain⟨u,r,rfl,q,t⟩:=h1;cases d2 with
 |nil=>simp only[ay]at h2;cases h2
 |cons d' Sh=>simp only[ay]at h2;obtain⟨u',r',e,q',t'⟩:=h2;cases e;rw[Den.inj I d d' u q q',ay.inj I ds Sh r t t']
end
theorem p!:∀{ys}{k},Z.iE x ys=Y! k->k=ys.any (λ y=>(Z.ij y x).getD Z!)/\∀y∈ys,Z.ij y x=Y! ((Z.ij y x).getD Z!)
|[],k,h=>by cases h;exact⟨rfl,λ y hy=>by cases hy⟩
|y::ys,k,h=>by
 unfold Z.iE at h;split at h
 .rename_i a b ea eb;cases h;obtain⟨h1,h2⟩:=p! eb;refine⟨by rw[B49,ea,h1];rfl,λ z hz=>?_⟩;rcases Y2.mp hz with rfl|hz
  .rw[ea];rfl
  .exact h2 z hz
 .cases h
theorem sX(I:Inv X π σ H s)(hu:A.units+60<cLine)(hx:bc X.K H x v)(rx:RelV v u):∀{ys}{vs}{us},ay X.K H ys vs->Vals vs us->(∀y∈ys,Z.ij y x=Y! ((Z.ij y x).getD Z!)) ->
 ∃e,(∀w∈us,NE A s w u (e w))/\us.any e=ys.any (λ y=>(Z.ij y x).getD Z!):=by
 intro ys vs us;have key:∀{ys}{vs}{us},ay X.K H ys vs->Vals vs us->(∀y∈ys,Z.ij y x=Y! ((Z.ij y x).getD Z!))->(∀w∈us,∃b,NE A s w u b)/\∀e,(∀w∈us,∀y vy,Den X.K H y vy->RelV vy w->y∈ys->e w=(Z.ij y x).getD Z!)->us.any e=ys.any (λ y=>(Z.ij y x).getD Z!):=by
  intro ys
  induction ys with
  |nil=>intro vs us t r _;simp only[ay]at t;subst t;cases r;exact⟨λ w hw=>(by cases hw),λ _ _=>rfl⟩
  |cons y ys ih=>
   intro vs us t r hh;simp only[ay]at t;obtain⟨vy,vr,rfl,dy,tr⟩:=t;cases r with
   |cons ry rr=>
    obtain⟨h1,h2⟩:=ih tr rr (λ z hz=>hh z<|Y6 _ hz);refine⟨λ w hw=>?_,λ e he=>?_⟩
    .rcases Y2.mp hw with rfl|hw
     .exact⟨_,(Lo I 6 (by lia) (hh y Z7) (.inl dy) hx ry rx).2.1⟩
     .exact h1 w hw
    .rw[B49,B49,he _ Z7 y vy dy ry Z7,h2 e λ w hw z vz dz rz hz=>he w (Y6 _ hw) z vz dz rz<|Y6 _ hz]
 intro t r hh
 classical
 let e:=λ w=>if h:∃y vy,Den X.K H y vy/\RelV vy w/\y∈ys then(Z.ij h.choose x).getD Z! else Z!
 have he:∀w y vy,Den X.K H y vy->RelV vy w->y∈ys->e w=(Z.ij y x).getD Z!:=by
  intro w y vy dy ry hy;have hex:∃y vy,Den X.K H y vy/\RelV vy w/\y∈ys:=⟨y,vy,dy,ry,hy⟩
  show(if h:_ then _ else _)=_;rw[dif_pos hex];obtain⟨UQ,Sg,Qi,IZ⟩:=hex.choose_spec;have ev:=Qi.inj ry;subst ev;rw[Den.inj I _ _ _ Sg dy]
 refine⟨e,λ w hw=>?_,(key t r hh).2 e λ w hw y vy dy ry hy=>he w y vy dy ry hy⟩;obtain⟨j,hj,ej⟩:=B50 hw;have hl:=r.length;have ht:=t.length;obtain⟨y,ey⟩:∃y,ys[j]?=Y! y:=⟨ys[j]'(by lia),M2 (by lia)⟩
 obtain⟨vy,G9,dy⟩:=t.get ey;obtain⟨u',R8,Lm⟩:=r.get G9;have:u'=w:=by have:=M2 hj;rw[R8,ej]at this;exact Y4 this
 subst this;have hy:=A01 ey;rw[he _ y vy dy Lm hy];exact(Lo I 6 (by lia) (hh y hy) (.inl dy) hx Lm rx).2.1
theorem Ig(hu:X.A.units+64<cLine):iG X (compareOp .In) (λ x y H Q=>∃d ys q vs k,bc X.K H d x/\y=.ref q/\(gJ X.K H q vs\/jW X.K H q vs)/\ay X.K H ys vs/\Z.iE d ys=Y! k/\Q (.bl k) H):=by
 intro π s σ H x y v u Q I rx ry h;obtain⟨d,ys,q,vs,k,hd,rfl,hq,t,e,k'⟩:=h;cases ry;obtain⟨e1,e2⟩:=p! e;subst e1;rcases hq with hq|hq
 .obtain⟨aU,r,pl,hz⟩:=I.list hq;obtain⟨f,hf,z8⟩:=sX I (A:=X.A.in1) (show X.A.units+1+60<cLine by lia) hd rx t r e2;refine SeqAt.in_listAt f pl.isList (λ w hw=>hf w (by simpa using hw)) ⟨.bl _,H,I,rfl,?_⟩;rw[show aU.toArray.any f=aU.any f by simp,z8];exact k'
 .obtain⟨aU,r,pl,hz⟩:=I.tuple hq;obtain⟨f,hf,z8⟩:=sX I (A:=X.A.in1) (show X.A.units+1+60<cLine by lia) hd rx t r e2;refine SeqAt.in_tupleAt f pl (λ w hw=>hf w (by simpa using hw)) ⟨.bl _,H,I,rfl,?_⟩;rw[show aU.toArray.any f=aU.any f by simp,z8];exact k'
theorem zH(hu:X.A.units+64<cLine):iG X (compareOp .NotIn) (λ x y H Q=>∃d ys q vs k,bc X.K H d x/\y=.ref q/\(gJ X.K H q vs\/jW X.K H q vs)/\ay X.K H ys vs/\Z.iE d ys=Y! k/\Q (.bl<|!k) H):=by
 intro π s σ H x y v u Q I rx ry h;obtain⟨d,ys,q,vs,k,hd,rfl,hq,t,e,k'⟩:=h;cases ry;obtain⟨e1,e2⟩:=p! e;subst e1;rcases hq with hq|hq
 .obtain⟨aU,r,pl,hz⟩:=I.list hq;obtain⟨f,hf,z8⟩:=sX I (A:=X.A.in1) (show X.A.units+1+60<cLine by lia) hd rx t r e2;refine SeqAt.notIn_listAt f pl.isList (λ w hw=>hf w (by simpa using hw)) ⟨.bl _,H,I,rfl,?_⟩;rw[show aU.toArray.any f=aU.any f by simp,z8];exact k'
 .obtain⟨aU,r,pl,hz⟩:=I.tuple hq;obtain⟨f,hf,z8⟩:=sX I (A:=X.A.in1) (show X.A.units+1+60<cLine by lia) hd rx t r e2;refine SeqAt.notIn_tupleAt f pl (λ w hw=>hf w (by simpa using hw)) ⟨.bl _,H,I,rfl,?_⟩;rw[show aU.toArray.any f=aU.any f by simp,z8];exact k'
theorem Sl(hu:X.A.units+64<cLine):AS X .In Z.GY:=⟨_,Ig hu,λ x y dx dy d H Q h1 h2 e k=>by
 unfold Z.GY at e;split at e
 .split at e
  .rename_i b hb;cases e;obtain⟨q,vs,rfl,hq,t⟩:=h2.tup;exact⟨dx,_,q,vs,b,h1,rfl,.inr hq,t,hb,k _ H (ax.refl H) cy⟩
  .cases e
 .split at e
  .rename_i b hb;cases e;obtain⟨q,vs,rfl,hq,t⟩:=h2.lst;exact⟨dx,_,q,vs,b,h1,rfl,.inl hq,t,hb,k _ H (ax.refl H) cy⟩
  .cases e
 .cases e⟩
theorem Gj(hu:X.A.units+64<cLine):AS X .NotIn Z.pe:=⟨_,zH hu,λ x y dx dy d H Q h1 h2 e k=>by
 unfold Z.pe at e;split at e
 .split at e
  .rename_i b hb;cases e;obtain⟨q,vs,rfl,hq,t⟩:=h2.tup;exact⟨dx,_,q,vs,b,h1,rfl,.inr hq,t,hb,k _ H (ax.refl H) cy⟩
  .cases e
 .split at e
  .rename_i b hb;cases e;obtain⟨q,vs,rfl,hq,t⟩:=h2.lst;exact⟨dx,_,q,vs,b,h1,rfl,.inl hq,t,hb,k _ H (ax.refl H) cy⟩
  .cases e
 .cases e⟩
theorem y?:∀{xs}{k},Z.allB xs=Y! k->∃bs:Y' Bool,xs=bs.map Z.D.bl/\k=bs.all id
|[],k,h=>by cases h;exact⟨[],rfl,rfl⟩
|x::xs,k,h=>by
 cases x with
 |bl b=>
  have h':(Z.allB xs).map _=Y! k:=h;cases q:Z.allB xs with
  |none=>rw[q]at h';cases h'
  |some k'=>rw[q]at h';cases h';obtain⟨bs,rfl,rfl⟩:=y? q;exact⟨b::bs,rfl,rfl⟩
 |non=>cases h
 |int _=>cases h
 |str _=>cases h
 |tup _=>cases h
 |lst _=>cases h
 |dct _ _=>cases h
theorem vD{K:Ch}:∀{bs:Y' Bool}{vs},ay K H (bs.map Z.D.bl) vs->vs=bs.map V.bl
|[],vs,h=>by simp only[A46]at h;subst h;rfl
|b::bs,vs,h=>by simp only[Y7]at h;obtain⟨v,r,rfl,hv,ht⟩:=h;simp only[Den]at hv;rw[hv,vD ht];rfl
theorem all_range(bs:Y' Bool):((Do bs.length).all λ i=>bs[i]?.getD AT)=bs.all id:=by
 induction bs with
 |nil=>rfl
 |cons b bs ih=>
  rw[A58,B80,B48,List.all_map,B48];have:((λ i=>((b::bs)[i]?).getD AT)∘Nat.succ)=λ i=>bs[i]?.getD AT:=by funext i;simp
  rw[this,ih];simp
theorem Aq(hc:X.calm=AT):jX X (.builtin "all") (λ xs H Q=>∃(q:Z') (bs:Y' Bool),xs=[.ref q]/\gJ X.K H q (bs.map V.bl)/\Q (.bl<|bs.all id) H):=by
 intro π s σ H xs us Q I r h;obtain⟨q,bs,rfl,hq,k⟩:=h;obtain⟨u,rfl,ru⟩:=vals1 r;cases ru;obtain⟨aU,rv,pl,hz⟩:=I.list hq;have hl:=rv.length;rw[v4]at hl;have iS:q<s.heap.objs.size:=by obtain⟨_,e,_⟩:=pl.isList;exact Y1 e
 have hh:X.A.in1.handled=AC:=I.ok.hd hc;refine call_all_walk<|A43 pl.isList ?_;refine⟨_,[s.heap.objs.size,q],[s.heap.objs.size],_,_,_,λ i=>bs[i]?.getD AT,rfl,A94 hh _ q (Z4 iS) _,⟨⟨_,Y5 _ rfl,rfl,rfl⟩,pl.isList.push _⟩,?_,λ h' tk hk=>?_⟩
 .intro i v s' Q' E' hv hQ;have hi:aU[i]?=Y! v:=by simpa using hv
  obtain⟨OY,_⟩:=Y3.mp hi;have hb:(bs.map V.bl)[i]?=Y! (V.bl<|bs[i]'(by lia)):=by rw[Z3,M2];rfl
  obtain⟨u,hu,ru⟩:=rv.get hb;rw[hi]at hu;cases hu;cases ru;refine A39 ?_;have:bs[i]?.getD AT=bs[i]'(by lia):=by rw[M2];rfl
  rw[<-this];exact hQ
 .have I1:Inv X π σ H {s with heap:=s.heap.push {cls:=.type "list_iterator",data:=.fields #[.ref q,.int 0 0]}}:=I.kept λ b o e=>W1 _ e;obtain⟨f0,f1,f2,f3,f4,f5⟩:=I.qB (Z0 s.heap.objs.size) I.fresh;have I2:=I1.turned (t':=tk) (λ b o hb e=>hk b o (by simpa using hb) e) f0 f1 f3 f4 f5;refine⟨.bl _,H,I2,rfl,?_⟩;have e:(Do aU.toArray.size).all (λ i=>bs[i]?.getD AT)=bs.all id:=by rw[Z2,<-hl,all_range]
  rw[e];exact k
theorem _root_.ZQ.oG(hm:X.mg x=AC)(ha:ZQ.QW X a fa)(hc:X.calm=AT:=by rfl)(hn:x≠ "__name__":=by decide +kernel)(c_:(x == ("__debug__"))=Z!:=by decide +kernel)(he:Se a [] X.env:=by rfl)(da:Pn pos [] X.env:=by rfl)(hg:Gl X x:=by rfl)(hv:bootBuiltins x=Y! (.builtin "all"):=by kernel_rfl):ZQ.QE X (.Call (.Name x p1) [a] [] pos) (Z.eU Z.sP fa):=
 ⟨PE.imp (fq (Aq hc) hg hm hv (aS ha.p bM he) hn c_ he da) λ σ H Q ⟨ρ,d,r,e,k⟩=>by
  obtain⟨x,ea,e⟩:=Z.Res.aw e;refine⟨ρ,x,r,ea,λ v H1 s1 d1=>?_⟩;unfold Z.sP at e;split at e
  .split at e
   .rename_i xs k' hk;cases e;obtain⟨bs,rfl,rfl⟩:=y? hk;obtain⟨q,vs,rfl,hq,t⟩:=d1.lst;rw[vD t]at hq;exact⟨q,bs,rfl,hq,k _ H1 s1 cy⟩
   .cases e
  .cases e⟩
end
section
theorem _root_.ZQ.aJ(ha:ZQ.QE X (.Constant v j p) f)(hr:ZQ.QA X es g):ZQ.QA X ((.Constant v j p)::es) (Z.ae f g):=⟨iZ ha.p hr.p rfl⟩
theorem _root_.ZQ.aa(ha:ZQ.QE X (.Name x p) f)(hr:ZQ.QA X es g):ZQ.QA X ((.Name x p)::es) (Z.ae f g):=⟨iZ ha.p hr.p rfl⟩
theorem _root_.ZQ.gg(ha:ZQ.QE X (.Tuple xs j p) f)(hr:ZQ.QA X es g):ZQ.QA X ((.Tuple xs j p)::es) (Z.ae f g):=⟨iZ ha.p hr.p rfl⟩
theorem _root_.ZQ.f'(ha:ZQ.QE X (.BinOp x o y p) f)(hr:ZQ.QA X es g):ZQ.QA X ((.BinOp x o y p)::es) (Z.ae f g):=⟨iZ ha.p hr.p rfl⟩
theorem _root_.ZQ.bp(ha:ZQ.QE X (.Call x xs ks p) f)(hr:ZQ.QA X es g):ZQ.QA X ((.Call x xs ks p)::es) (Z.ae f g):=⟨iZ ha.p hr.p rfl⟩
theorem _root_.ZQ.cL(ha:ZQ.QE X (.Subscript x y p) f)(hr:ZQ.QA X es g):ZQ.QA X ((.Subscript x y p)::es) (Z.ae f g):=⟨iZ ha.p hr.p rfl⟩
theorem _root_.ZQ.vE(ha:ZQ.QE X (.Attribute x n p) f)(hr:ZQ.QA X es g):ZQ.QA X ((.Attribute x n p)::es) (Z.ae f g):=⟨iZ ha.p hr.p rfl⟩
end
end ZS
namespace ZQ
open PySem PySem.Spec PyProof.Rows L2 ZS
section
theorem _root_.ZS.D0(h1:sc.kind=.function:=by rfl)(h2:sc.isCoroutine=Z!:=by rfl)(h3:sc.isGenerator=Z!:=by rfl)(h4:N.Nodup:=by decide +kernel)(h5:N.take P.length=P:=by rfl)(h6:∀x∈P,sc.names.lookup x=Y! .local\/sc.names.lookup x=Y! .cell:=by decide +kernel)(h7:∀y∈sc.names,y.2≠.free:=by decide +kernel):a6 N P sc:=⟨h1,h2,h3,h4,h5,h6,h7⟩
theorem bO{K:Ch}{st:ε}(d:ZS.Def K mg x st ps)(hb:∀{f}{ba}{A}{outer}{s}{H}{E},N.Nodup->(A.deeper<|envOfC x (ak st) s.heap.objs.size f ba).units+64<cLine->bK k (A.deeper<|envOfC x (ak st) s.heap.objs.size f ba)->rM (ee jc P w K mg base N x (ak st) f ba A outer s H E).fy H (aE st) b)(S:a6 N ps (ak st):=by exact ZS.D0):ZS.gL P w K mg base x (k+1) ps (Z.fn ps.length N.length b):=ZS.gL.mk' d S λ f ba A outer s H E hr=>(hb S.nd hr.units hr).p
theorem R6{K:Ch}{st:ε}(F:xV K x qual st f fd)(hb:∀{ba}{A}{outer}{s}{H}{E},N.Nodup->(A.deeper<|envOfC qual (ak st) s.heap.objs.size f ba).units+64<cLine->bK k (A.deeper<|envOfC qual (ak st) s.heap.objs.size f ba)->rM (ee jc P w K mg base N qual (ak st) f ba A outer s H E).fy H (aE st) b)(S:a6 N ps (ak st):=by exact ZS.D0):dI P w K mg base jc (k+1) f fd ps (ZS.t8 K<|Z.fn ps.length N.length b):=ZS.Uk F S λ ba A outer s H E hr=>(hb S.nd hr.units hr).p
end
end ZQ
noncomputable section
namespace Z
def dU:D->Res D
|.lst xs=>.ok<|.tup xs
|.tup xs=>.ok<|.tup xs
|_=>.bad
@[simp] theorem Io(xs:Y' D):dU (.lst xs)=.ok (.tup xs):=rfl
@[simp] theorem Im(xs:Y' D):dU (.tup xs)=.ok (.tup xs):=rfl
def Fh:Y' Nat:=[97,98,99,100,101,102,103,104,105,106,107,108,109,110,111,112,113,114,115,116,117,118,119,120,121,122]
def signs:Y' Nat:=[46,61,35,97,98,99,100,101,102,103,104,105,106,107,108,109,110,111,112,113,114,115,116,117,118,119,120,121,122]
def wY:D->D->Res D
|.int i,.int j=>.ok<|.int<|max i j
|_,_=>.bad
@[simp] theorem LQ(i j:Int):wY (.int i) (.int j)=.ok (.int<|max i j):=rfl
def wZ:D->Res D
|.int i=>.ok<|.int i
|.bl b=>.ok<|.int<|if b then 1 else 0
|_=>.bad
@[simp] theorem LX(i:Int):wZ (.int i)=.ok (.int i):=rfl
@[simp] theorem Ov(b:Bool):wZ (.bl b)=.ok (.int<|if b then 1 else 0):=rfl
def Q0(a:EF)(ρ:Env):Res (Y' D):=(a ρ).bind λ x=>match x with
|.lst xs=>.ok xs
|.tup xs=>.ok xs
|_=>.bad
def Cj:D->Res (Y' D)
|.lst xs=>.ok xs
|.tup xs=>.ok xs
|_=>.bad
@[simp] theorem To(a:EF)(ρ:Env):Q0 a ρ=(a ρ).bind Cj:=rfl
@[simp] theorem Kj(xs:Y' D):Cj (.lst xs)=.ok xs:=rfl
@[simp] theorem Ki(xs:Y' D):Cj (.tup xs)=.ok xs:=rfl
def p0(x:D):Y' D->Y_ Nat
|[]=>Y! 0
|y::r=>match ij y x,p0 x r with
 |some a,Y! b=>Y!<|b+(if a then 1 else 0)
 |_,_=>AC
def sO:D->D->Res D
|.lst ys,x=>match p0 x ys with
 |some n=>.ok<|.int n
 |none=>.bad
|_,_=>.bad
def uw:Y' D->Y_ Int
|[]=>Y! 0
|.int i::r=>(uw r).map (i+·)
|_::_=>AC
def B2:D->Res D
|.lst xs=>match uw xs with
 |some i=>.ok<|.int i
 |none=>.bad
|_=>.bad
theorem qS:∀(ns:Y' Int),uw (ns.map D.int)=Y! ns.sum
|[]=>rfl
|n::ns=>by simp[uw,qS ns]
def zD(i:Nat)(l:LF)(ρ:Env):Res Fl:=(l ρ).bind λ ys=>match ρ[i]? with
|some<|some<|.own xs=>guard (xs.length+ys.length<=line)<|.ok<|.nx<|ρ.set i<|some<|.own<|xs++ys
|_=>.bad
def pair(a b:D):D:=.tup [a,b]
def jn:Y' D->Y' D->Y' D
|a::as,b::bs=>pair a b::jn as bs
|_,_=>[]
def EI:D->Res (Y' D)
|.tup xs=>.ok xs
|.lst xs=>.ok xs
|_=>.bad
@[simp] theorem Lj(xs:Y' D):EI (.tup xs)=.ok xs:=rfl
@[simp] theorem Lk(xs:Y' D):EI (.lst xs)=.ok xs:=rfl
def Hu:D->Res (Y' D)
|.tup xs=>.ok xs
|_=>.bad
@[simp] theorem K5(xs:Y' D):Hu (.tup xs)=.ok xs:=rfl
def zY(a b:EF)(ρ:Env):Res (Y' D):=(a ρ).bind λ x=>(b ρ).bind λ y=>(EI x).bind λ xs=>(Hu y).bind λ ys=>.ok<|jn xs ys
@[simp] theorem Q5(a b:EF)(ρ:Env):zY a b ρ=(a ρ).bind λ x=>(b ρ).bind λ y=>(EI x).bind λ xs=>(Hu y).bind λ ys=>.ok (jn xs ys):=rfl
end Z
end
namespace ZS
open PySem PySem.Spec PyProof.Rows L2
section
variable {X:Cx}
theorem _root_.ZQ.cT(hm:X.mg x=AC)(ha:ZQ.QW X a fa)(hn:x≠ "__name__":=by decide +kernel)(c_:(x==("__debug__"))=Z!:=by decide +kernel)(he:Se a [] X.env:=by rfl)(da:Pn pos [] X.env:=by rfl)(hg:Gl X x:=by rfl)(hv:bootBuiltins x=Y! (.type "tuple"):=by kernel_rfl):ZQ.QE X (.Call (.Name x p1) [a] [] pos) (Z.eU Z.dU fa):=
 ⟨PE.imp (j3 qI hg hm hv (aS ha.p bM he) hn c_ he da) λ σ H Q ⟨ρ,d,r,e,k⟩=>by
  obtain⟨x,ea,e⟩:=Z.Res.aw e;refine⟨ρ,x,r,ea,λ v H1 s1 d1=>?_⟩;unfold Z.dU at e;split at e
  .cases e;obtain⟨q,vs,rfl,hq,t⟩:=d1.lst;refine⟨q,vs,rfl,.inl ⟨hq,λ l hl=>?_⟩⟩;have s2:ax H1 (upd H1 l<|.tup vs):=bV hl;exact k _ _ (s1.trans s2)<|d_ (.inl<|.inl aI)<|t.up s2
  .cases e;obtain⟨q,vs,rfl,hq,t⟩:=d1.tup;exact⟨q,vs,rfl,.inr ⟨hq,k _ H1 s1<|d_ hq t⟩⟩
  .cases e⟩
end
end ZS
namespace ZQ
open PySem PySem.Spec PyProof.Rows L2 ZS
section
theorem jO(ho:PE X o (fE i))(ha:QE X a fa)(hs:swapsWith (.Call (.Attribute o "append" p1) [a] [] p2) AC pos.line X.env=pure Z!:=by rfl)(rh:Se a [] X.env:=by rfl)
 (pF:attributeBase o "append" X.env (eval o X.env)=eval o X.env:=by rfl)
 (xq:((backTo p2<|starEach (a::[]) X.env).all (λ x=>!x.1)&&(backToKw p2<|keywordEach [] X.env).all (λ x=>x.1.isSome)
  && decide ((a::[]).length+([]:Y' ο).length+(if([]:Y' ο).isEmpty then 0 else 1)<30))=AT:=by rfl)
 (pD:(p1.endLine==p2.line)=AT:=by rfl) (k8:Pn p2 [] X.env:=by rfl) :
 QS X H0 (.Expr (.Call (.Attribute o "append" p1) [a] [] p2) pos) (Z.dR i fa):=
 ⟨ZS.Ai ho ha.p hs rh<|BS B51 PySem.F.slot_list_append PySem.F.type_list_append qZ ho (aS ha.p bM rh) pF xq pD rh k8⟩
theorem F7(ho:PE X o (fE i))(hk:QE X kx fk)(ha:QE X a fa)
 (RQ:∀ v,assign (.Subscript o kx p1) X.env v=(do
  let ov ←holding [v] (eval o X.env)
  let iv ←holding [v,ov] (eval kx X.env)
  standAt p1
  holding [v,ov,iv] (setItem ov iv v)
  release [v,ov,iv] []):=by intro _;rfl) (hs:swapsWithSole [.Subscript o kx p1] a pos.line X.env=pure Z!:=by rfl) (hw:swappedStores [.Subscript o kx p1] a X.env=pure AC:=by rfl)
 (h1:(assignEach [.Subscript o kx p1] X.env).map (·.2)=[assign (.Subscript o kx p1) X.env]:=by rfl):QS X H0 (.Assign [.Subscript o kx p1] a pos) (Z.BA i fk fa):=⟨ZS.JC hk.p ha.p (HV ho hk.p set_list RQ) hs hw h1⟩
end
end ZQ
namespace ZS
open PySem PySem.Spec PyProof.Rows L2
section
variable {X:Cx}
theorem ID(i j:Int):(if j>i then j else i)=max i j:=by split<;>lia
theorem _root_.ZQ.oF(hg:Gl X x)(hm:X.mg x=AC)(hv:bootBuiltins x=Y! (.builtin "max"))(ha:ZQ.QW X a fa)(hb:ZQ.QW X b fb)(hc:X.calm=AT:=by rfl)(hn:x≠ "__name__":=by decide +kernel)(c_:(x==("__debug__"))=Z!:=by decide +kernel)
 (he:Se a [b] X.env:=by rfl) (AL:Se b [] X.env:=by rfl) (da:(backTo pos<|starEach [b] X.env).any (·.1)=Z!:=by rfl):ZQ.QE X (.Call (.Name x p1) [a,b] [] pos) (Z.eB Z.wY fa fb):=
 ⟨PE.imp (fq (Ao hc) hg hm hv (aS ha.p (aS hb.p bM AL) he) hn c_ he da) λ σ H Q ⟨ρ,d,r,e,k⟩=>by
  obtain⟨x,ea,e⟩:=Z.Res.aw e;obtain⟨y,eb,e⟩:=Z.Res.aw e;refine⟨ρ,x,r,ea,λ v H1 s1 d1=>⟨ρ,y,r.up s1,eb,λ u H2 s2 d2=>?_⟩⟩;obtain⟨i,j,rfl,rfl,rfl⟩:∃i j,x=.int i/\y=.int j/\d=.int (max i j):=by
   unfold Z.wY at e;split at e
   .cases e;exact⟨_,_,rfl,rfl,rfl⟩
   .cases e
  refine⟨i,j,by rw[d1.int,d2.int],?_⟩;rw[ID];exact k _ H2 (s1.trans s2) cu⟩
theorem _root_.ZQ.Gb(hg:Gl X x)(hm:X.mg x=AC)(hv:bootBuiltins x=Y! (.type "int"))(ha:ZQ.QW X a fa)(hn:x≠ "__name__":=by decide +kernel)(c_:(x==("__debug__"))=Z!:=by decide +kernel)
 (he:Se a [] X.env:=by rfl) (da:Pn pos [] X.env:=by rfl):ZQ.QE X (.Call (.Name x p1) [a] [] pos) (Z.eU Z.wZ fa):=
 ⟨PE.imp (j3 Ap hg hm hv (aS ha.p bM he) hn c_ he da) λ σ H Q ⟨ρ,d,r,e,k⟩=>by
  obtain⟨x,ea,e⟩:=Z.Res.aw e;refine⟨ρ,x,r,ea,λ v H1 s1 d1=>?_⟩;unfold Z.wZ at e;split at e
  .cases e;exact .inl ⟨_,by rw[d1.int],k _ H1 s1 cu⟩
  .cases e;exact .inr ⟨_,by rw[d1.bl],k _ H1 s1 cu⟩
  .cases e⟩
theorem _root_.ZQ.F!(hg:Gl X x)(hm:X.mg x=AC)(hv:bootBuiltins x=Y! (.type "list"))(ha:ZQ.QW X a fa)(hn:x≠ "__name__":=by decide +kernel)(c_:(x==("__debug__"))=Z!:=by decide +kernel)
 (he:Se a [] X.env:=by rfl) (da:Pn pos [] X.env:=by rfl):ZQ.QL X (.Call (.Name x p1) [a] [] pos) (Z.Q0 fa):=
 ⟨PE.imp (j3 tP hg hm hv (aS ha.p bM he) hn c_ he da) λ σ H Q ⟨ρ,d,r,e,k⟩=>by
  obtain⟨x,ea,e⟩:=Z.Res.aw e;refine⟨ρ,x,r,ea,λ v H1 s1 d1=>?_⟩;split at e
  .cases e;obtain⟨q,vs,rfl,hq,t⟩:=d1.lst;refine⟨q,vs,rfl,.inl hq,λ l hl=>?_⟩;have s2:ax H1 (upd H1 l<|.lst vs):=bV hl;exact k l _ _ (s1.trans s2) (s1.free hl) aI<|t.up s2
  .cases e;obtain⟨q,vs,rfl,hq,t⟩:=d1.tup;refine⟨q,vs,rfl,.inr hq,λ l hl=>?_⟩;have s2:ax H1 (upd H1 l<|.lst vs):=bV hl;exact k l _ _ (s1.trans s2) (s1.free hl) aI<|t.up s2
  .cases e⟩
theorem Ah(hs:swapsWith (.Call (.Attribute o "extend" p1) [a] [] p2) AC pos.line X.env=pure Z!:=by rfl)
 (RN:PE X (.Call (.Attribute o "extend" p1) [a] [] p2) (PX X.K "list" yn (fE i)<|oU (SX X.K l) Bk)) :
 DS X H0 (.Expr (.Call (.Attribute o "extend" p1) [a] [] p2) pos) (Z.zD i l):=PS.imp (oo RN hs) λ D σ H ⟨ρ,fl,rs,e,k⟩=>by
 obtain⟨ys,ea,e⟩:=Z.Res.aw e;split at e
 .rename_i xs ei;unfold Z.guard at e;split at e
  .rename_i hl;cases e;obtain⟨v,si,q,us,rfl,hq,t⟩:=rs.re.get i _ ei;refine⟨_,si,.inl ⟨rfl,us,gJ.of hq⟩,ρ,ys,rs.re,ea,λ c vs H1 s1 hn hc tc=>?_⟩;have Jd:=s1 _ _ hq;refine⟨q,c,us,vs,rfl,rfl,Jd,hc,by rw[t.length,tc.length,Y9];exact hl,?_⟩;exact k σ _ ((lC s1).trans<|fS Jd)<|(rs.up s1).chg ei si Jd<|(t.up s1).append tc
  .cases e
 .cases e
theorem vK:∀{ys}{k},Z.p0 x ys=Y! k->k=ys.countP (λ y=>(Z.ij y x).getD Z!)/\∀y∈ys,Z.ij y x=Y! ((Z.ij y x).getD Z!)
|[],k,h=>by cases h;exact⟨rfl,λ y hy=>by cases hy⟩
|y::ys,k,h=>by
 unfold Z.p0 at h;split at h
 .rename_i a b ea eb;cases h;obtain⟨h1,h2⟩:=vK eb;refine⟨by rw[B16,ea,h1];rfl,λ z hz=>?_⟩;rcases Y2.mp hz with rfl|hz
  .rw[ea];rfl
  .exact h2 z hz
 .cases h
theorem Gg(I:Inv X π σ H s)(hu:A.units+60<cLine)(hx:bc X.K H x v)(rx:RelV v u)(t:ay X.K H ys vs)(r:Vals vs us)(hh:∀y∈ys,Z.ij y x=Y! ((Z.ij y x).getD Z!)):
 ∃e,(∀w∈us,NE A s w u (e w))/\us.countP e=ys.countP (λ y=>(Z.ij y x).getD Z!):=by
 classical
 let e:=λ w=>if h:∃y vy,Den X.K H y vy/\RelV vy w/\y∈ys then(Z.ij h.choose x).getD Z! else Z!
 have he:∀w y vy,Den X.K H y vy->RelV vy w->y∈ys->e w=(Z.ij y x).getD Z!:=by
  intro w y vy dy ry hy;have hex:∃y vy,Den X.K H y vy/\RelV vy w/\y∈ys:=⟨y,vy,dy,ry,hy⟩
  show(if h:_ then _ else _)=_;rw[dif_pos hex];obtain⟨UQ,Sg,Qi,IZ⟩:=hex.choose_spec;have ev:=Qi.inj ry;subst ev;rw[Den.inj I _ _ _ Sg dy]
 have cnt:∀{zs}{vs}{us},ay X.K H zs vs->Vals vs us->(∀z∈zs,z∈ys)->us.countP e=zs.countP (λ y=>(Z.ij y x).getD Z!):=by
  intro zs
  induction zs with
  |nil=>intro vs us t r _;simp only[ay]at t;subst t;cases r;rfl
  |cons z zs ih=>
   intro vs us t r hm;simp only[ay]at t;obtain⟨vy,vr,rfl,dy,tr⟩:=t;cases r with
   |cons ry rr=>rw[B16,B16,ih tr rr λ w hw=>hm w<|Y6 _ hw,he _ z vy dy ry<|hm z Z7]
 refine⟨e,λ w hw=>?_,cnt t r λ _ h=>h⟩;obtain⟨j,hj,ej⟩:=B50 hw;have hl:=r.length;have ht:=t.length;obtain⟨y,ey⟩:∃y,ys[j]?=Y! y:=⟨ys[j]'(by lia),M2 (by lia)⟩
 obtain⟨vy,G9,dy⟩:=t.get ey;obtain⟨u',R8,Lm⟩:=r.get G9;have:u'=w:=by have:=M2 hj;rw[R8,ej]at this;exact Y4 this
 subst this;have hy:=A01 ey;rw[he _ y vy dy Lm hy];exact(Lo I 6 (by lia) (hh y hy) (.inl dy) hx Lm rx).2.1
def HM(K:Ch):V->Y' V->Hp->VK->Prop:=λ x vs H Q=>∃d ys q us v k,x=.ref q/\vs=[v]/\gJ K H q us/\ay K H ys us/\bc K H d v/\Z.p0 d ys=Y! k/\Q (.int k) H
theorem B_(hu:X.A.units+64<cLine):Sz X "list.count" (HM X.K):=by intro π s σ H x vs v us Q I rx rv h;obtain⟨d,ys,q,Xz,v',k,rfl,rfl,hq,t,hd,e,k'⟩:=h;cases rx;obtain⟨u,rfl,ru⟩:=rv.one;obtain⟨e1,e2⟩:=vK e;subst e1;obtain⟨aU,r,pl,hz⟩:=I.list hq;obtain⟨f,hf,z8⟩:=Gg I (A:=X.A.in1) (show X.A.units+1+60<cLine by lia) hd ru t r e2;obtain⟨⟨cls,dd,data,sl⟩,ho,hc,n,nV⟩:=id pl.isList;simp only at hc nV;subst hc nV;refine A62 F.slot_list_count ⟨_,ho,rfl⟩ F.entry_list_count (F.args_list_count_2 _ _) (SeqAt.list_countAt q _ n dd sl u f) ⟨ho,λ w hw=>hf w (by simpa using hw),?_⟩;refine⟨.int _,H,I.tok _,⟨_,rfl⟩,?_⟩;rw[z8];exact k'
theorem _root_.ZQ.Dh(hu:X.A.units+64<cLine)(ho:ZQ.QW X o fa)(hb:ZQ.QW X b fb)
 (pF:attributeBase o "count" X.env (eval o X.env)=eval o X.env:=by rfl)
 (xq:((backTo p2<|starEach (b::[]) X.env).all (λ x=>!x.1)&&(backToKw p2<|keywordEach [] X.env).all (λ x=>x.1.isSome)
  && decide ((b::[]).length+([]:Y' ο).length+(if([]:Y' ο).isEmpty then 0 else 1)<30))=AT:=by rfl)
 (pD:(p1.endLine==p2.line)=AT:=by rfl) (rh:Se b [] X.env:=by rfl) (k8:Pn p2 [] X.env:=by rfl) :
 ZQ.QE X (.Call (.Attribute o "count" p1) [b] [] p2) (Z.eB Z.sO fa fb):=
 ⟨PE.imp (BS B51 PySem.F.slot_list_count PySem.F.type_list_count (B_ hu) ho.p (aS hb.p bM rh) pF xq pD rh k8) λ σ H Q ⟨ρ,d,r,e,k⟩=>by
  obtain⟨x,ea,e⟩:=Z.Res.aw e;obtain⟨y,eb,e⟩:=Z.Res.aw e;refine⟨ρ,x,r,ea,λ v H1 s1 d1=>?_⟩;unfold Z.sO at e;split at e
  .rename_i ys _;split at e
   .rename_i n hn;cases e;obtain⟨q,vs,rfl,hq,t⟩:=d1.lst;refine⟨.inl ⟨rfl,vs,hq⟩,ρ,y,r.up s1,eb,λ u H2 s2 d2=>?_⟩;exact⟨y,ys,q,vs,u,n,rfl,rfl,s2.seq hq,t.up s2,d2,hn,k _ H2 (s1.trans s2) cu⟩
   .cases e
  .cases e⟩
theorem ye:∀{xs}{k},Z.uw xs=Y! k->∃ns:Y' Int,xs=ns.map Z.D.int/\k=ns.sum
|[],k,h=>by cases h;exact⟨[],rfl,rfl⟩
|x::xs,k,h=>by
 cases x with
 |int b=>
  have h':(Z.uw xs).map _=Y! k:=h;cases q:Z.uw xs with
  |none=>rw[q]at h';cases h'
  |some k'=>rw[q]at h';cases h';obtain⟨bs,rfl,rfl⟩:=ye q;exact⟨b::bs,rfl,rfl⟩
 |non=>cases h
 |bl _=>cases h
 |str _=>cases h
 |tup _=>cases h
 |lst _=>cases h
 |dct _ _=>cases h
theorem mZ{K:Ch}:∀{ns:Y' Int}{vs},ay K H (ns.map Z.D.int) vs->vs=ns.map V.int
|[],vs,h=>by simp only[A46]at h;subst h;rfl
|b::bs,vs,h=>by simp only[Y7]at h;obtain⟨v,r,rfl,hv,ht⟩:=h;simp only[Den]at hv;rw[hv,mZ ht];rfl
theorem EO(ns:Y' Int):preSum (λ i=>ns[i]?.getD 0) ns.length=ns.sum:=by
 have key:∀k,k<=ns.length->preSum (λ i=>ns[i]?.getD 0) k=(ns.take k).sum:=by
  intro k
  induction k with
  |zero=>intro _;simp[preSum]
  |succ k ih=>
   intro hk;have e:preSum (λ i=>ns[i]?.getD 0) (k+1)=preSum (λ i=>ns[i]?.getD 0) k+ns[k]?.getD 0:=rfl;have Rb:∀(xs ys:Y' Int),(xs++ys).sum=xs.sum+ys.sum:=λ xs ys=>by
    induction xs with
    |nil=>simp
    |cons x xs ih=>simp only[Yg,ZC];lia
   rw[e,ih (by lia),B17,Rb,M2<|show k<ns.length by lia];simp
 have:=key _<|Z0 _;rwa [A81]at this
theorem An(hc:X.calm=AT):jX X (.builtin "sum") (λ xs H Q=>∃(q:Z') (ns:Y' Int),xs=[.ref q]/\gJ X.K H q (ns.map V.int)/\Q (.int ns.sum) H):=by
 intro π s σ H xs us Q I r h;obtain⟨q,ns,rfl,hq,k⟩:=h;obtain⟨u,rfl,ru⟩:=vals1 r;cases ru;obtain⟨aU,rv,pl,hz⟩:=I.list hq;have hl:=rv.length;rw[v4]at hl;have iS:q<s.heap.objs.size:=by obtain⟨_,e,_⟩:=pl.isList;exact Y1 e
 have hh:X.A.in1.handled=AC:=I.ok.hd hc;refine call_sum_walkG<|A43 pl.isList ?_;refine⟨s.heap.objs.size,[s.heap.objs.size,q],[s.heap.objs.size],aU.toArray.size,_,_,λ i=>ns[i]?.getD 0,rfl,A94 hh s.heap.objs.size q (Z4 iS) aU.toArray,⟨⟨_,Y5 _ rfl,rfl,rfl⟩,pl.isList.push _⟩,?_,?_,λ h' tk t' hk=>?_⟩
 .intro b hb;rw[A36];rcases Y2.mp hb with rfl|hb
  .exact A38 _
  .rw[A03.mp hb];exact A93 iS
 .intro i v hv;have hi:aU[i]?=Y! v:=by simpa using hv
  obtain⟨OY,_⟩:=Y3.mp hi;have hb:(ns.map V.int)[i]?=Y! (V.int<|ns[i]'(by lia)):=by rw[Z3,M2];rfl
  obtain⟨u,hu,ru⟩:=rv.get hb;rw[hi]at hu;cases hu;obtain⟨t,rfl⟩:=ru;exact⟨t,by show Value.int _ t=Value.int (ns[i]?.getD 0) t;rw[M2];rfl⟩
 .have I1:Inv X π σ H {s with heap:=s.heap.push {cls:=.type "list_iterator",data:=.fields #[.ref q,.int 0 0]}}:=I.kept λ b o e=>W1 _ e;obtain⟨f0,f1,f2,f3,f4,f5⟩:=I.qB (Z0 s.heap.objs.size) I.fresh;have I2:=I1.turned (t':=tk) (λ b o hb e=>hk b o (by simpa using hb) e) f0 f1 f3 f4 f5;refine⟨.int _,H,I2,⟨t',rfl⟩,?_⟩;rw[Z2,<-hl,EO];exact k
theorem _root_.ZQ.yV(hm:X.mg x=AC)(ha:ZQ.QW X a fa)(hc:X.calm=AT:=by rfl)(hn:x≠ "__name__":=by decide +kernel)(c_:(x == ("__debug__"))=Z!:=by decide +kernel)(he:Se a [] X.env:=by rfl)(da:Pn pos [] X.env:=by rfl)(hg:Gl X x:=by rfl)(hv:bootBuiltins x=Y! (.builtin "sum"):=by kernel_rfl):ZQ.QE X (.Call (.Name x p1) [a] [] pos) (Z.eU Z.B2 fa):=
 ⟨PE.imp (fq (An hc) hg hm hv (aS ha.p bM he) hn c_ he da) λ σ H Q ⟨ρ,d,r,e,k⟩=>by
  obtain⟨x,ea,e⟩:=Z.Res.aw e;refine⟨ρ,x,r,ea,λ v H1 s1 d1=>?_⟩;unfold Z.B2 at e;split at e
  .split at e
   .rename_i xs k' hk;cases e;obtain⟨bs,rfl,rfl⟩:=ye hk;obtain⟨q,vs,rfl,hq,t⟩:=d1.lst;rw[mZ t]at hq;exact⟨q,bs,rfl,hq,k _ H1 s1 cu⟩
   .cases e
  .cases e⟩
end
end ZS
namespace ZQ
open PySem PySem.Spec PyProof.Rows L2 ZS
section
theorem xD(ho:PE X o (fE i))(ha:QL X a l)(hs:swapsWith (.Call (.Attribute o "extend" p1) [a] [] p2) AC pos.line X.env=pure Z!:=by rfl)(rh:Se a [] X.env:=by rfl)
 (pF:attributeBase o "extend" X.env (eval o X.env)=eval o X.env:=by rfl)
 (xq:((backTo p2<|starEach (a::[]) X.env).all (λ x=>!x.1)&&(backToKw p2<|keywordEach [] X.env).all (λ x=>x.1.isSome)
  && decide ((a::[]).length+([]:Y' ο).length+(if([]:Y' ο).isEmpty then 0 else 1)<30))=AT:=by rfl)
 (pD:(p1.endLine==p2.line)=AT:=by rfl) (k8:Pn p2 [] X.env:=by rfl) :
 QS X H0 (.Expr (.Call (.Attribute o "extend" p1) [a] [] p2) pos) (Z.zD i l):=
 ⟨ZS.Ah hs<|BS B51 PySem.F.slot_list_extend PySem.F.type_list_extend zN ho (aS ha.p bM rh) pF xq pD rh k8⟩
end
end ZQ
namespace ZS
open PySem PySem.Spec PyProof.Rows L2 PySem.W
theorem ni:∀{ns:Y' Int},i∈ns->Rs (.int i)<=Ps (ns.map WData.int)
|[],h=>by cases h
|n::ns,h=>by
 rcases Y2.mp h with rfl|h
 .simp only[Y7,Ps];lia
 .have:=ni h;simp only[Y7,Ps];lia
theorem vM{ns:Y' Int}(h:WData.layableAll [WData.list (ns.map WData.int)]=AT):∀i∈ns,Z.bits i<=2^20:=by
 intro i hi;have h1:=A27.mp h _ Z7;unfold WData.layable at h1;rw[A17]at h1;have h3:Rs (.list<|ns.map WData.int)=Ps (ns.map WData.int):=by simp only[Rs]
 have h4:=ni hi;have h5:Rs (.int i)=Z.bits i:=by
  simp only[Rs];unfold Z.bits;by_cases hz:i=0
  .subst hz;rfl
  .rw[v0 hz,v0 (by simpa using hz)]
 lia
def Dy(q:ι)(K:Frag):Prop:=noTabs K=AT/\(∀x∈cg,∀c P,tabIn K x=Y! (c,P)->∃d,(recsOf q).find? (λ e=>e.name==x)=Y! d) /\
 ∀x y c P c',x∈cg->y∈cg->tabIn K x=Y! (c,P)->tabIn K y=Y! (c',P)->x=y
theorem oR{K:Frag}(h:nsIn K mainGlobals x=Y! (Y!<|.ref f))(h2:K.lookup f=Y! ⟨o1,d1,.func fd,s1⟩)(h3:fd.code=.ref c)
 (h4:K.lookup c=Y! ⟨o2,d2,.fields vs,s2⟩) (h5:vs[11]?=Y! (.ref p)):tabIn K x=Y! (c,p):=by
 unfold tabIn;rw[h];dsimp only;rw[h2];dsimp only;rw[h3];dsimp only;rw[h4];dsimp only;rw[h5]
theorem dW{p:Str->Prop}(h1:p "best_among")(h2:p "paper_beside"):∀x∈cg,p x:=by
 intro x hx;rcases Y2.mp hx with rfl|hx
 .exact h1
 .rw[A03.mp hx];exact h2
theorem IJ{K:Frag}(n:noTabs K=AT)(h1:tabIn K "best_among"=r1)(h2:tabIn K "paper_beside"=r2)(g1:r1=AC\/((recsOf q).find? λ e=>e.name==At "best_among").isSome=AT)(g2:r2=AC\/((recsOf q).find? λ e=>e.name==At "paper_beside").isSome=AT)
 (ne:∀c P c' P',r1=Y! (c,P)->r2=Y! (c',P')->P≠P'):Dy q K:=by
 refine⟨n,dW (λ c P e=>?_) λ c P e=>?_,λ x y c P c' hx hy=>?_⟩
 .rcases g1 with z|z
  .rw[h1,z]at e;cases e
  .exact A61.mp z
 .rcases g2 with z|z
  .rw[h2,z]at e;cases e
  .exact A61.mp z
 .refine dW (p:=λ x=>tabIn K x=Y! (c,P)->tabIn K y=Y! (c',P)->x=y) (λ e1=>?_) (λ e1=>?_) x hx
  .refine dW (p:=λ y=>tabIn K y=Y! (c',P)-> "best_among"=y) (λ _=>rfl) (λ e2=>?_) y hy;exact absurd rfl<|ne c P c' P (h1.symm.trans e1)<|h2.symm.trans e2
  .refine dW (p:=λ y=>tabIn K y=Y! (c',P)-> "paper_beside"=y) (λ e2=>?_) (λ _=>rfl) y hy;exact absurd rfl<|ne c' P c P (h1.symm.trans e2)<|h2.symm.trans e1
theorem Hn{l:OpenLaw}{n k:Nat}{q:ι}{loose:Y' Str}{XP:(Str->Y_ Z_)->η->Prop}{YP:θ->η->Prop}{d:DefRec}{K:Params->Frag}{m:Y' Z.D->Z.Res Z.D}{x:Str}
 (hn:l.most=Y! n) (DY:n<=sizeLine) (RA:d.params.defaults=[]) (hr:bK k callerA)
 (hY:∀w h,YP w h->(K w.params).In h)
 (F:∀ w mg fa h,(K w.params).In h->h.Ns mainGlobals mg->mg d.name=Y! (.ref fa) ->
  ∃fd:ξ,(∀(s:δ)(u:Z_),BindsTo s fd ⟨[u],[]⟩ [(x,u)]) /\
   ∀base:η,(K w.params).In base->base.Ns mainGlobals mg->dI l.prog w (K w.params) mg base jc k fa fd [x] (t8 (K w.params) m)) (hL:∀w:θ,Dy q (K w.params))
 (hold:∀ns:Y' Int,ns.length<=n->(∀i∈ns,Z.bits i<=2^20)->m [.lst (ns.map .int)]=.ok (.bl AT)) :
 WalkO q loose XP YP l.row.toRowW d [] (λ f vs=>PySem.call f vs):=by
 intro w s₀ s₁ mg mb G Y fa o pm cd doc dV kV ho hd lD hD Rp hg args vals as FA Rr XU Q_ XZ;cases Dflts.none hD RA;cases Dflts.noKw hD;obtain⟨a,vs,ns,rfl,rfl,Rj,hints,ς⟩:=SN.zC hn FA Q_;have KX:=hY w _ Y;obtain⟨fd,hb,hF⟩:=F w mg fa _ KX G.T.g Rp;have C:=Cm KX G.T.g G.T.b G.T.builtins G.T.nolimit hg Rj hints (A06 ς DY) hr hF hb (λ H hO hS=>II hO hS<|hold ns ς<|vM Rr) (λ H e s' z=>z)
  (hL w).2.2 (λ y hy c p e=>let ⟨d,hd⟩:=(hL w).2.1 y hy c p e;let T:=tab_of G.T KX hd e;⟨T,T.1.tab T.2⟩) G.T.bmain (hL w).1
 refine enter_call<|A54 C λ r s' hq=>?_;obtain⟨rfl,h2,h3,h4⟩:=hq;exact⟨.inl ⟨.bool AT,.bool AT,[],rfl,λ _=>rfl,.bool AT,SN.zF l _,λ _=>⟨List.Pairwise.nil,λ _ hm=>(nomatch hm)⟩⟩,h2,h3,h4⟩
end ZS
namespace ZS
open PySem PySem.Spec PyProof.Rows L2
section
theorem w4(hit:s.heap.IsTupleIter it t i)(ht:s.heap.IsTuple t items)(hx:items[i]?=Y! x)
 (hQ:∀h',h'.IsTupleIter it t (i+1)->GM it s.heap h'->Q x {s with heap:=h'}):Db (model prog w) A (Fa<|.ref it) Q E s:=by
 obtain⟨ob,CB,h!,kB⟩:=id hit;obtain⟨ot,FC,_,nt,MZ⟩:=ht;refine T0<|A73 hit.typeIs B18<|A75 B18 hit.typeIs B81 ?_<|B82 _;show Db _ _ (field _ 0>>=_) _ _ _;refine T0<|A02 CB kB (x:=.ref t) rfl ?_;have MK:¬(Value.ref t==No)=AT:=A88;rw[v0 MK];refine T0<|A02 CB kB rfl ?_;refine T0<|Z9 FC MZ ?_;simp only[Int.toNat_natCast,hx];refine T0<|B19 CB kB (by simp)<|Y0 ⟨x,rfl,Y0<|hQ _ ⟨_,A35 _ CB<|B20<|A41 kB _,(B52 ..).trans h!,?_⟩<|Heap.SameBut.update ..⟩;rw[A41 kB];simp[rawInt]
theorem zL(hh:A.handled=AC)(hit:s.heap.IsTupleIter it t i)(ht:s.heap.IsTuple t items)(hx:items[i]?=AC)
 (hE:∀h' e,Uf it s.heap h'->(∃o,h'.get? e=Y! o/\o.cls=.type "StopIteration")->E (.ref e) {s with heap:=h'}):Db (model prog w) A (Fa<|.ref it) Q E s:=by
 obtain⟨ob,CB,h!,kB⟩:=id hit;obtain⟨ot,FC,_,nt,MZ⟩:=ht;refine T0<|A73 hit.typeIs B18<|A75 B18 hit.typeIs B81 ?_<|B82 _;show Db _ _ (field _ 0>>=_) _ _ _;refine T0<|A02 CB kB (x:=.ref t) rfl ?_;have MK:¬(Value.ref t==No)=AT:=A88;rw[v0 MK];refine T0<|A02 CB kB rfl ?_;refine T0<|Z9 FC MZ ?_;simp only[Int.toNat_natCast,hx];refine T0<|A78<|T0<|B19 CB kB (by simp) ?_;refine T0 ?_;simp only[newExc,newTuple];refine T0<|A34 ?_ (by size_fits);refine T0<|wpAny_of_eq (by first|rfl|(simp only[firstArgMember];rfl)) ?_;refine A34 ?_ (by size_fits);simp only[raiseNew];refine T0<|wpAny_handled ?_
 first|rw[hh]|rw[hh]
 exact T0<|Y0<|wpAny_throw<|hE _ _ (((Heap.SameBut.update ..).extBut.push _).push _) ⟨_,Y5 _ rfl,rfl⟩
end
theorem JD(hh:A.handled=AC)(it t:Z')(qf:t≠it)(items:Array Z_):
 Draws prog w A it [it,t] items.size (λ i v=>items[i]?=Y! v) (λ i h=>h.IsTupleIter it t i/\h.IsTuple t items) where
 live:=λ _ _ st=>let ⟨o,ho,_⟩:=st.1;⟨o,ho⟩
 frame:=λ _ _ _ st hk=>by obtain⟨⟨o,e,r⟩,⟨o2,e2,r2⟩⟩:=st;exact⟨⟨o,hk it (by simp) o e,r⟩,⟨o2,hk t (by simp) o2 e2,r2⟩⟩
 item:=λ i s Q E hi st hQ=>by refine w4 st.1 st.2 (x:=items[i]) (by simp) λ h' Rv G4=>?_;exact hQ _ h' _ (by simp) ⟨Rv,st.2.extBut G4.extBut qf⟩ G4
 done:=λ s Q E st hE=>zL hh st.1 st.2 (by simp) hE
theorem Er{ch:Y' Z'}(I:Inv X π σ H s)(k:∀b o,b∉ch->s.heap.get? b=Y! o->h'.get? b=Y! o)(hf:∀b∈ch,m_ X π H b):Inv X π σ H {s with heap:=h',toks:=t'}:=by
 have uU:∀b u,H b=Y! u->b∉ch:=λ b u e hb=>by rw[(hf b hb).1]at e;cases e
 refine I.step (λ b hb=>?_) (λ b o _ _ hc e _=>k b o hc e) (λ b o _ _ hc e _=>⟨_,k b o hc e⟩) (λ _ _ _ _ n=>n)
  (λ b o hc e=>⟨o,k b o hc e⟩) (λ _ _ e=>e) (λ _ _ _ e=>e) (λ _ _ _ e=>e) (λ m hm=>?_) (λ b u e=>?_) I.bare
 .obtain⟨f0,f1,f2,f3,f4,f5⟩:=hf b hb;exact⟨f3,f1,f4,f5⟩
 .obtain⟨o,es,ep,ho,r⟩:=hm;exact⟨o,es,ep,k _ o (λ hb=>(hf _ hb).2.1 rfl) ho,r⟩
 .refine(I.bI b u e).j! (λ c v hc q=>k c v ?_ q) (λ _ q=>q) (λ _ _ q=>q) λ _ _ _ q=>q;rcases hc with z|z
  .rw[z];exact uU b u e
  .exact uU c _ z
theorem Ep{ch:Y' Z'}(I:Inv X π σ H s)(k:∀b o,b∉ch->s.heap.get? b=Y! o->h'.get? b=Y! o)(hf:∀b∈ch,m_ X π H b)
 (hT:s.heap.objs.size<=T) (Wy:m9 h' T us.toArray) (r:Vals xs us) (hz:xs.length<=sizeLine):Inv X π σ (upd H T<|.tup xs) {s with heap:=h',toks:=t'}:=by
 have hn:=I.bI.fresh hT;have uU:∀b u,H b=Y! u->b∉ch:=λ b u e hb=>by rw[(hf b hb).1]at e;cases e
 have up:∀b u,H b=Y! u->upd H T (.tup xs) b=Y! u:=λ b u e=>by rw[aA<|aP e hn];exact e
 have lt:∀b o,s.heap.get? b=Y! o->b≠T:=λ b o e z=>by rw[z]at e;exact absurd (Y1 e)<|B21.mpr hT
 refine I.step (λ b hb=>?_) (λ b o _ _ hc e _=>k b o hc e) (λ b o _ _ hc e _=>⟨_,k b o hc e⟩) (λ b o _ e n=>by rw[aA<|lt b o e];exact n)
  (λ b o hc e=>⟨o,k b o hc e⟩) (λ b ys e=>up b _ e) (λ b o u e=>up b _ e) (λ b u _ e=>up b _ e) (λ m hm=>?_) (λ b u e=>?_) I.bare
 .obtain⟨f0,f1,f2,f3,f4,f5⟩:=hf b hb;exact⟨f3,f1,f4,f5⟩
 .obtain⟨o,es,ep,ho,q⟩:=hm;exact⟨o,es,ep,k _ o (λ hb=>(hf _ hb).2.1 rfl) ho,q⟩
 .by_cases hb:b=T
  .subst hb;rw[aI]at e;cases e;exact⟨hz,us,r,Wy⟩
  .rw[aA hb]at e;refine(I.bI b u e).j! (λ c v hc q=>k c v ?_ q) (λ c q=>?_) (λ c ys q=>up c _ q) λ c v _ q=>up c _ q
   .rcases hc with z|z
    .rw[z];exact uU b u e
    .exact uU c _ z
   .exact up c _ q
structure NR where
 at_:Nat->Hp->V->Prop
 end_:Nat->Hp->Prop
structure Src(P:Program)(w:World)(K:Ch)(J:NR)(it:Addr)(Mt:Nat->Heap->Prop):Prop where
 obj:∀i h,Mt i h->∃o,h.get? it=Y! o/\(∀v,o.data≠.cell v)/\o.cls≠.type "enumerate" /\ o.cls≠.type "zip" /\ o.cls≠.type "tuple"
 keep:∀i h h',Mt i h->(∀o,h.get? it=Y! o->h'.get? it=Y! o)->Mt i h'
 draw:∀(X:Cx),X.prog=P->X.w=w->X.K=K->X.calm=AT->∀(i:Nat)(π:List (Addr×Obj))(s:Shared)(σ:St)(H:Hp),Inv X π σ H s->Mt i s.heap->((∃y,J.at_ i H y)\/J.end_ i H) ->
  ∃(fp:List Addr) (n:Nat) (Pv:Nat->Value->Prop) (S:Nat->Heap->Prop),Draws P w X.A.in1 it fp n Pv S/\S i s.heap/\it∈fp/\(∀b∈fp,b=it\/∃o,s.heap.get? b=Y! o/\o.cls≠.type "enumerate" /\ o.cls≠.type "zip" /\ (H b=AC->∃o',K.lookup b=Y! o')) /\
   ((∃y,J.at_ i H y)->i<n/\∀u,Pv i u->∃y,RelV y u/\J.at_ i H y)/\(J.end_ i H->i=n)/\∀j h,S j h->Mt j h
def Cy(K:Ch)(t:Z')(vs:Y' V):NR:=⟨λ i H y=>jW K H t vs/\vs[i]?=Y! y,λ i H=>jW K H t vs/\vs.length=i⟩
def IX(K:Ch)(t:Z')(vs:Y' V):NR:=⟨λ i H y=>gJ K H t vs/\vs[i]?=Y! y,λ i H=>gJ K H t vs/\vs.length=i⟩
theorem se{K:FS}:Src P w K (Cy K t xs) it (λ i h=>h.IsTupleIter it t i) where
 obj:=λ i h st=>by obtain⟨o,e,c,d⟩:=st;exact⟨o,e,λ v z=>(by rw[d]at z;cases z),by rw[c];decide,by rw[c];decide,by rw[c];decide⟩
 keep:=λ i h h' st k=>let ⟨o,e,r⟩:=st;⟨o,k o e,r⟩
 draw:=by
  intro X hP hw hK hc i π s σ H I st hg;subst hP hw hK;have hq:jW X.K H t xs:=by rcases hg with⟨y,h,_⟩|⟨h,_⟩<;>exact h
  obtain⟨aU,r,p,hz⟩:=I.tuple hq;obtain⟨ot,FC,Jm,nt,MZ⟩:=id p;obtain⟨oi,MJ,M1,Wm⟩:=id st;have qf:t≠it:=by rintro rfl;rw[FC]at MJ;cases MJ;rw[Jm]at M1;injection M1 with z;exact absurd z (by decide)
  refine⟨[it,t],_,_,_,JD (A:=X.A.in1) (I.ok.hd hc) it t qf _,⟨st,p⟩,by simp,λ b hb=>?_,λ⟨y,_,MA⟩=>?_,λ⟨_,hl⟩=>?_,λ j h q=>q.1⟩
  .rcases Y2.mp hb with rfl|hb
   .exact .inl rfl
   .rw[A03]at hb;subst hb;refine .inr ⟨ot,FC,by rw[Jm];decide,by rw[Jm];decide,λ hn=>?_⟩;rcases hq with(z|⟨o,z⟩)|⟨o,_,_,z,_⟩
    .rw[hn]at z;cases z
    .rw[hn]at z;cases z
    .exact⟨o,z⟩
  .obtain⟨u,hu,ru⟩:=r.get MA;refine⟨by rw[Z2];exact(Y3.mp hu).1,λ u' Ks=>⟨y,?_,hq,MA⟩⟩;have:aU[i]?=Y! u':=by simpa using Ks
   rw[hu]at this;cases this;exact ru
  .rw[Z2,<-r.length,hl]
theorem Ez{K:FS}:Src P w K (IX K t xs) it (λ i h=>h.IsListIter it t i) where
 obj:=λ i h st=>by obtain⟨o,e,c,d⟩:=st;exact⟨o,e,λ v z=>(by rw[d]at z;cases z),by rw[c];decide,by rw[c];decide,by rw[c];decide⟩
 keep:=λ i h h' st k=>let ⟨o,e,r⟩:=st;⟨o,k o e,r⟩
 draw:=by
  intro X hP hw hK hc i π s σ H I st hg;subst hP hw hK;have hq:gJ X.K H t xs:=by rcases hg with⟨y,h,_⟩|⟨h,_⟩<;>exact h
  obtain⟨aU,r,p,hz⟩:=I.list hq;obtain⟨ot,FC,Jm,nt,MZ⟩:=id p.isList;obtain⟨oi,MJ,M1,Wm⟩:=id st;have qf:t≠it:=by rintro rfl;rw[FC]at MJ;cases MJ;rw[Jm]at M1;injection M1 with z;exact absurd z (by decide)
  refine⟨[it,t],_,_,_,Draws.list (A:=X.A.in1) (I.ok.hd hc) it t qf _,⟨st,p.isList⟩,by simp,λ b hb=>?_,λ⟨y,_,MA⟩=>?_,λ⟨_,hl⟩=>?_,λ j h q=>q.1⟩
  .rcases Y2.mp hb with rfl|hb
   .exact .inl rfl
   .rw[A03]at hb;subst hb;refine .inr ⟨ot,FC,by rw[Jm];decide,by rw[Jm];decide,λ hn=>?_⟩;rcases hq with(z|⟨o,z⟩)|⟨o,_,_,z,_⟩
    .rw[hn]at z;cases z
    .rw[hn]at z;cases z
    .exact⟨o,z⟩
  .obtain⟨u,hu,ru⟩:=r.get MA;refine⟨by rw[Z2];exact(Y3.mp hu).1,λ u' Ks=>⟨y,?_,hq,MA⟩⟩;have:aU[i]?=Y! u':=by simpa using Ks
   rw[hu]at this;cases this;exact ru
  .rw[Z2,<-r.length,hl]
section
end
structure SG(z TI TO i1 i2:Addr)(f1 f2:List Addr):Prop where
 ne:[z,TI,TO,i1,i2].Nodup
 a1:z∉f1/\TO∉f1/\i2∉f1
 a2:z∉f2/\TO∉f2/\i1∉f2
section
theorem ze{z TI TO i1 i2:Z'}{Q:Z_->δ->Prop}(F:SG z TI TO i1 i2 f1 f2)(D1:Draws prog w A i1 f1 n1 P1 S1)(D2:Draws prog w A i2 f2 n2 P2 S2)
 (hz:IsZip s.heap z TI TO .none) (z!:IsPair s.heap TI (.ref i1) (.ref i2)) (AM:IsPair s.heap TO a b) (h1:S1 k s.heap) (h2:S2 k s.heap) (G5:k<n1) (Wa:k<n2)
 (hQ:∀x y h' tk,P1 k x->P2 k y->IsZip h' z TI TO (rawInt s.heap.objs.size)->IsPair h' TO x y->S1 (k+1) h'->S2 (k+1) h'->IsPair h' s.heap.objs.size x y->(∀c o,c∉[z,TO,i1,i2]->s.heap.get? c=Y! o->h'.get? c=Y! o)->Q (.ref s.heap.objs.size) {s with heap:=h',toks:=tk}) :
 Db (model prog w) A (Builtin.«zip.__next__» ⟨[.ref z],[]⟩) (λ fin s'=>∃v,fin=.done (.ret v)/\Q v s') E s:=by
 have ne:=F.ne;simp only[A45,Y2,A12,A22,A59,A95,and_true,A96]at ne;obtain⟨⟨KW,DF,GD,Hj⟩,⟨TITO,TIi1,TIi2⟩,⟨TOi1,TOi2⟩,i12⟩:=ne;obtain⟨NY,JX,My⟩:=F.a1;obtain⟨NX,Gu,IY⟩:=F.a2;obtain⟨hp,gs,dr,SV,os⟩:=s;show Db _ _ (field (.ref z) 2>>=_) _ _ _;refine T0<|A02 hz rfl (x:=.bool Z!) rfl ?_;show Db _ _ (field (.ref z) 3>>=_) _ _ _;refine T0<|A02 hz rfl (x:=.ref TI) rfl<|T0<|Z9 z! rfl ?_;show Db _ _ (Fk (.ref z)>>=_) _ _ _;refine T0 ?_;unfold Fk;refine T0<|A02 hz rfl (x:=.none) rfl<|Y0 ?_;simp only[Z8];refine T0<|A78<|T0<|A02 hz rfl (x:=.ref TO) rfl<|T0<|A82 hz (by simp) λ g1 G3 e1=>?_;have G3:=G3;have e1:=e1;refine T0 ?_;simp only[Yh,Ys,B14,Yx];refine T0<|T0<|B22 ?_;show Db _ _ (Fa (.ref i1)>>=_) _ _ _;refine T0<|D1.item k _ _ _ G5 (D1.frame k hp g1 h1 λ c hc o q=>e1.extBut c o (λ y=>NY<|y▸hc) q) λ x g2 t2 hx T8 e2=>Y0 ?_;have e2:=e2;have CH:=e2.extBut _ _ TOi1<|e1.extBut _ _ (P3 DF) AM;refine T0<|Z9 CH rfl<|T0<|B53 CH λ g3 FO e3=>?_;have FO:=FO;have e3:GM TO g2 g3:=e3;refine T0<|A13<|Y0 ?_;refine T0<|T0<|B22 ?_;show Db _ _ (Fa (.ref i2)>>=_) _ _ _;have RV:S2 k g3:=D2.frame k hp g3 h2 λ c hc o q=>e3.extBut c o (λ y=>Gu<|y▸hc)<|e2.extBut c o (λ y=>IY<|y▸hc)<|e1.extBut c o (λ y=>NX<|y▸hc) q;refine T0<|D2.item k _ _ _ Wa RV λ y g4 t4 hy WJ e4=>Y0 ?_;have e4:GM i2 g3 g4:=e4;have M8:IsPair g4 TO x b:=e4.extBut _ _ TOi2 FO;refine T0<|Z9 M8 rfl<|T0<|B53 M8 λ g5 FN e5=>?_;have FN:IsPair g5 TO x y:=FN;have e5:GM TO g4 g5:=e5;refine T0<|A13<|Y0<|Y0 ?_;refine T0<|Z9 FN rfl<|T0<|wpAny_newTuple ?_;have DV:g5.objs.size=hp.objs.size:=by rw[e5.1,e4.1,e3.1,e2.1,e1.1]
 have Tx:IsZip g5 z TI TO .ellipsis:=e5.extBut _ _ DF<|e4.extBut _ _ Hj<|e3.extBut _ _ DF<|e2.extBut _ _ GD G3;have Mz:z<g5.objs.size:=Y1 Tx;show Db _ _ (Op (.ref z) (.ref g5.objs.size)>>=_) _ _ _;refine T0 ?_;unfold Op;have VM:IsZip (g5.push {cls:=.type "tuple",data:=.seq #[x,y]}) z TI TO .ellipsis:=W1 _ Tx;refine T0<|A82 VM (by simp) λ g7 Q7 e7=>?_;have Q7:IsZip g7 z TI TO (rawInt g5.objs.size):=Q7;refine A82 Q7 (by simp) λ g8 OP e8=>?_;have OP:IsZip g8 z TI TO (rawInt g5.objs.size):=OP;have up:∀c o,c≠z->g5.get? c=Y! o->g8.get? c=Y! o:=λ c o h q=>e8.extBut _ _ h<|e7.extBut _ _ h<|W1 _ q;have T4:IsPair g8 g5.objs.size x y:=e8.extBut _ _ (A31 Mz)<|e7.extBut _ _ (A31 Mz)<|Y5 _ rfl;have s1:S1 (k+1) g8:=D1.frame _ g2 g8 T8 λ c hc o q=>up c o (λ y=>NY<|y▸hc)<|e5.extBut c o (λ y=>JX<|y▸hc)<|e4.extBut c o (λ y=>My<|y▸hc)<|e3.extBut c o (λ y=>JX<|y▸hc) q;have s2:S2 (k+1) g8:=D2.frame _ g4 g8 WJ λ c hc o q=>up c o (λ y=>NX<|y▸hc)<|e5.extBut c o (λ y=>Gu<|y▸hc) q;have kp:∀c o,c∉[z,TO,i1,i2]->hp.get? c=Y! o->g8.get? c=Y! o:=λ c o hc q=>by simp only[Y2,A12,A22,A59]at hc;exact up c o hc.1<|e5.extBut _ _ hc.2.1<|e4.extBut _ _ hc.2.2.2<|e3.extBut _ _ hc.2.1<|e2.extBut _ _ hc.2.2.1<|e1.extBut _ _ hc.1 q
 rw[DV]at OP T4;refine Y0 ⟨_,rfl,?_⟩;show Q (.ref g5.objs.size) _;rw[DV];exact hQ x y g8 t4 hx hy OP (up _ _ (P3 DF) FN) s1 s2 T4 kp
theorem AU{z TI TO i1 i2:Z'}(F:SG z TI TO i1 i2 f1 f2)(D1:Draws prog w A i1 f1 n1 P1 S1)(D2:Draws prog w A i2 f2 n2 P2 S2)
 (hz:IsZip s.heap z TI TO .none) (z!:IsPair s.heap TI (.ref i1) (.ref i2)) (AM:IsPair s.heap TO a b) (h1:S1 k s.heap) (h2:S2 k s.heap) (Rz:k=n1\/(k<n1/\k=n2))
 (hE:∀h' e tk,(∀c o,c∉[z,TO,i1,i2]->s.heap.get? c=Y! o->h'.get? c=Y! o)->(∃o,h'.get? e=Y! o/\o.cls=.type "StopIteration")->E (.ref e) {s with heap:=h',toks:=tk}) :
 Db (model prog w) A (Builtin.«zip.__next__» ⟨[.ref z],[]⟩) Q E s:=by
 have ne:=F.ne;simp only[A45,Y2,A12,A22,A59,A95,and_true,A96]at ne;obtain⟨⟨KW,DF,GD,Hj⟩,⟨TITO,TIi1,TIi2⟩,⟨TOi1,TOi2⟩,i12⟩:=ne;obtain⟨NY,JX,My⟩:=F.a1;obtain⟨NX,Gu,IY⟩:=F.a2;obtain⟨hp,gs,dr,SV,os⟩:=s;show Db _ _ (field (.ref z) 2>>=_) _ _ _;refine T0<|A02 hz rfl (x:=.bool Z!) rfl ?_;show Db _ _ (field (.ref z) 3>>=_) _ _ _;refine T0<|A02 hz rfl (x:=.ref TI) rfl<|T0<|Z9 z! rfl ?_;show Db _ _ (Fk (.ref z)>>=_) _ _ _;refine T0 ?_;unfold Fk;refine T0<|A02 hz rfl (x:=.none) rfl<|Y0 ?_;simp only[Z8];refine T0<|A78<|T0<|A02 hz rfl (x:=.ref TO) rfl<|T0<|A82 hz (by simp) λ g1 G3 e1=>?_;have G3:=G3;have e1:=e1;refine T0 ?_;simp only[Yh,Ys,B14,Yx];refine T0<|T0<|B22 ?_;show Db _ _ (Fa (.ref i1)>>=_) _ _ _;have T9:=D1.frame k hp g1 h1 λ c hc o q=>e1.extBut c o (λ y=>NY<|y▸hc) q;rcases Rz with rfl|⟨G5,rfl⟩
 .refine T0<|D1.done _ _ _ T9 λ g2 e e2 he=>?_;obtain⟨oe,Jf,M3⟩:=he;have e2:=e2;have OQ:IsZip g2 z TI TO .ellipsis:=e2 _ _ GD G3;have Ry:e≠z:=λ q=>by subst q;rw[OQ]at Jf;cases Jf;simp at M3
  refine A82 OQ (by simp) λ g3 _ e3=>hE g3 e SV (λ c o hc q=>?_) ⟨oe,e3.extBut _ _ Ry Jf,M3⟩;simp only[Y2,A12,A22,A59]at hc;exact e3.extBut _ _ hc.1<|e2 _ _ hc.2.2.1<|e1.extBut _ _ hc.1 q
 .refine T0<|D1.item k _ _ _ G5 T9 λ x g2 t2 hx T8 e2=>Y0 ?_;have e2:GM i1 g1 g2:=e2;have CH:IsPair g2 TO a b:=e2.extBut _ _ TOi1<|e1.extBut _ _ (P3 DF) AM;refine T0<|Z9 CH rfl<|T0<|B53 CH λ g3 FO e3=>?_;have e3:GM TO g2 g3:=e3;refine T0<|A13<|Y0 ?_;refine T0<|T0<|B22 ?_;show Db _ _ (Fa (.ref i2)>>=_) _ _ _;have RV:S2 k g3:=D2.frame k hp g3 h2 λ c hc o q=>e3.extBut c o (λ y=>Gu<|y▸hc)<|e2.extBut c o (λ y=>IY<|y▸hc)<|e1.extBut c o (λ y=>NX<|y▸hc) q;refine T0<|D2.done _ _ _ RV λ g4 e e4 he=>?_;obtain⟨oe,Jf,M3⟩:=he;have e4:Uf i2 g3 g4:=e4;have Tz:IsZip g4 z TI TO .ellipsis:=e4 _ _ Hj<|e3.extBut _ _ DF<|e2.extBut _ _ GD G3;have Ry:e≠z:=λ q=>by subst q;rw[Tz]at Jf;cases Jf;simp at M3
  refine A82 Tz (by simp) λ g5 _ e5=>hE g5 e t2 (λ c o hc q=>?_) ⟨oe,e5.extBut _ _ Ry Jf,M3⟩;simp only[Y2,A12,A22,A59]at hc;exact e5.extBut _ _ hc.1<|e4 _ _ hc.2.2.2<|e3.extBut _ _ hc.2.1<|e2.extBut _ _ hc.2.2.1<|e1.extBut _ _ hc.1 q
end
def Pq(J1 J2:NR):It:=⟨λ i H=>(∃y,J1.at_ i H y)/\∃y,J2.at_ i H y,
 λ i H x H'=>∃T y1 y2,H T=AC/\x=.ref T/\H'=upd H T (.tup [y1,y2])/\J1.at_ i H y1/\J2.at_ i H y2,
 λ i H=>(J1.end_ i H/\((∃y,J2.at_ i H y)\/J2.end_ i H))\/((∃y,J1.at_ i H y)/\J2.end_ i H)⟩
theorem L7(I:Inv X π σ H s)(f:m_ X π H b)(h:X.K.lookup b=Y! o):False:=by
 have hb:=I.ok.mod.AI b o h;rcases f.2.2.2.1 with z|z
 .exact I.ok.sQ b o hb z
 .exact absurd (Y1 (I.ok.bs b o hb).1)<|B21.mpr z
def UZ(z TI TO i1 i2:Z')(n1 n2:Nat->η->Prop)(i:Nat)(h:η):Prop:=IsZip h z TI TO .none/\IsPair h TI (.ref i1) (.ref i2)/\(∃a b,IsPair h TO a b)/\n1 i h/\n2 i h
theorem uI(p:IsPair h T a b):∃o,h.get? T=Y! o/\∀v,o.data≠.cell v:=
 ⟨_,p,λ v z=>by have z':=z;cases z'⟩
theorem ur{K:FS}{z TI TO i1 i2:Z'}(S1:Src P w K J1 i1 n1)(S2:Src P w K J2 i2 n2)(nd:[z,TI,TO,i1,i2].Nodup):
 Turn P w K (.Tuple elts x1 pos) (Pq J1 J2) [z,TI,TO,i1,i2] z (UZ z TI TO i1 i2 n1 n2):=by
 have O7:∀{X}{π}{σ}{H}{s}{f1 f2},X.K=K->Inv X π σ H s->(∀b∈[z,TI,TO,i1,i2],m_ X π H b) ->
  (∀b∈f1,b=i1\/∃o,s.heap.get? b=Y! o/\o.cls≠.type "enumerate" /\ o.cls≠.type "zip" /\ (H b=AC->∃o',K.lookup b=Y! o')) ->
  (∀b∈f2,b=i2\/∃o,s.heap.get? b=Y! o/\o.cls≠.type "enumerate" /\ o.cls≠.type "zip" /\ (H b=AC->∃o',K.lookup b=Y! o'))->SG z TI TO i1 i2 f1 f2:=by
  intro X π σ H s f1 f2 hK I hf g1 g2;subst hK;have Ma:=nd;simp only[A45,Y2,A12,A22,A59,A95,and_true,A96]at Ma;obtain⟨⟨KW,DF,GD,Hj⟩,⟨TITO,TIi1,TIi2⟩,⟨TOi1,TOi2⟩,i12⟩:=Ma;have QU:∀b,b∈[z,TI,TO,i1,i2]->b≠i1->b∉f1:=λ b hb qf hm=>by
   rcases g1 b hm with q|⟨o,_,_,_,q⟩
   .exact qf q
   .obtain⟨o',h'⟩:=q (hf b hb).1;exact L7 I (hf b hb) h'
  have QR:∀b,b∈[z,TI,TO,i1,i2]->b≠i2->b∉f2:=λ b hb qf hm=>by
   rcases g2 b hm with q|⟨o,_,_,_,q⟩
   .exact qf q
   .obtain⟨o',h'⟩:=q (hf b hb).1;exact L7 I (hf b hb) h'
  exact⟨nd,⟨QU z (by simp) GD,QU TO (by simp) TOi1,QU i2 (by simp)<|P3 i12⟩,⟨QR z (by simp) Hj,QR TO (by simp) TOi2,QR i1 (by simp) i12⟩⟩
 refine⟨by simp,λ i h st b hb=>?_,λ i h h' st k=>?_,?_,?_,λ A i s Q E st hQ=>B54 st.1 hQ⟩
 .obtain⟨hz,z!,⟨a,b',AM⟩,h1,h2⟩:=st;simp only[Y2,A12,A22]at hb;rcases hb with rfl|rfl|rfl|rfl|rfl
  .exact⟨_,hz,λ v z=>by have z':Data.fields _=Data.cell v:=z;cases z'⟩
  .exact uI z!
  .exact uI AM
  .obtain⟨o,q,r,_⟩:=S1.obj i h h1;exact⟨o,q,r⟩
  .obtain⟨o,q,r,_⟩:=S2.obj i h h2;exact⟨o,q,r⟩
 .obtain⟨hz,z!,⟨a,b',AM⟩,h1,h2⟩:=st;exact⟨k z (by simp) _ hz,k TI (by simp) _ z!,⟨a,b',k TO (by simp) _ AM⟩,S1.keep i h h' h1 λ o q=>k i1 (by simp) o q,S2.keep i h h' h2 λ o q=>k i2 (by simp) o q⟩
 .intro X hP hw hK hc i π s σ H E I hf st hg;obtain⟨hz,z!,⟨a,b',AM⟩,h1,h2⟩:=st;obtain⟨f1,m1,P1,T1,D1,rh,_,Jl,Jo,_,MQ⟩:=S1.draw X hP hw hK hc i π s σ H I h1 (.inl hg.1);obtain⟨f2,m2,P2,T2,D2,v7,_,Jk,M4,_,MP⟩:=S2.draw X hP hw hK hc i π s σ H I h2 (.inl hg.2);obtain⟨OY,xn⟩:=Jo hg.1;obtain⟨Wc,Kr⟩:=M4 hg.2;have FR:=O7 hK I hf Jl Jk;subst hP hw hK;have hT:s.TypeIs (.ref z) "zip":=⟨_,hz,rfl⟩
  unfold pyNext;refine T0<|A97<|A73 (name:=At "__next__") hT B23<|A75 B23 hT F.entry_zip_next (ze FR D1 D2 hz z! AM rh v7 OY Wc λ x y h' tk px py z' UY Qh S8 tt kp=>Y0 ?_)<|F.args_zip_next_1 _;refine⟨_,rfl,?_⟩;obtain⟨y1,r1,a1⟩:=xn x px;obtain⟨y2,r2,a2⟩:=Kr y py;have lt:∀{c o},s.heap.get? c=Y! o->c≠s.heap.objs.size:=λ q=>Z4<|Y1 q;have Wx:H s.heap.objs.size=AC:=I.fresh;have Ww:s.heap.objs.size≠z:=(lt hz).symm;refine wpAny_letOwnedTupleGo_zip z' λ Jp OQ z0=>?_;have Ma:=nd;simp only[A45,Y2,A12,A22,A59,A95,and_true,A96]at Ma;obtain⟨⟨KW,DF,GD,Hj⟩,⟨TITO,TIi1,TIi2⟩,⟨TOi1,TOi2⟩,i12⟩:=Ma;have UU:m9 Jp s.heap.objs.size [x,y].toArray:=⟨_,z0.extBut _ _ Ww tt⟩
  have I2:Inv X π σ (upd H s.heap.objs.size<|.tup [y1,y2]) {s with heap:=Jp,toks:=tk}:=
   Ep (ch:=[z,TO,i1,i2]) I (λ b o hb q=>z0.extBut b o (λ e=>hb (by simp[e]))<|kp b o hb q) (λ b hb=>hf b (by simp only[Y2,A12,A22]at hb ⊢;rcases hb with e|e|e|e<;>simp[e])) (Z0 _) UU (.cons r1<|.cons r2 .nil) (by show 2<=sizeLine;decide)
  have k1:n1 (i+1) Jp:=S1.keep _ _ _ (MQ _ _ Qh) λ o q=>z0.extBut i1 o (P3 GD) q;have k2:n2 (i+1) Jp:=S2.keep _ _ _ (MP _ _ S8) λ o q=>z0.extBut i2 o (P3 Hj) q;have VD:IsPair Jp TI (.ref i1) (.ref i2):=z0.extBut _ _ (P3 KW)<|kp TI _ (by simp only[Y2,A12,A22,A59];exact⟨P3 KW,TITO,TIi1,TIi2⟩) z!;refine⟨.ref _,_,I2,rfl,⟨_,y1,y2,Wx,rfl,rfl,a1,a2⟩,⟨OQ,VD,⟨x,y,z0.extBut _ _ (P3 DF) UY⟩,k1,k2⟩,λ b hb=>?_⟩;have Ws:b≠s.heap.objs.size:=by
   simp only[Y2,A12,A22]at hb;rcases hb with rfl|rfl|rfl|rfl|rfl
   .exact lt hz
   .exact lt z!
   .exact lt AM
   .obtain⟨o,q,_⟩:=S1.obj i _ h1;exact lt q
   .obtain⟨o,q,_⟩:=S2.obj i _ h2;exact lt q
  rw[aA Ws];exact(hf b hb).1
 .intro X hP hw hK hc i π s σ H E I hf st hg;obtain⟨hz,z!,⟨a,b',AM⟩,h1,h2⟩:=st;have g1:(∃y,J1.at_ i H y)\/J1.end_ i H:=by
   rcases hg with⟨q,_⟩|⟨q,_⟩
   .exact .inr q
   .exact .inl q
  have g2:(∃y,J2.at_ i H y)\/J2.end_ i H:=by
   rcases hg with⟨_,q⟩|⟨_,q⟩
   .exact q
   .exact .inr q
  obtain⟨f1,m1,P1,T1,D1,rh,_,Jl,Jo,MX,MQ⟩:=S1.draw X hP hw hK hc i π s σ H I h1 g1;obtain⟨f2,m2,P2,T2,D2,v7,_,Jk,M4,MW,MP⟩:=S2.draw X hP hw hK hc i π s σ H I h2 g2;have FR:=O7 hK I hf Jl Jk;have he:i=m1\/(i<m1/\i=m2):=by
   rcases hg with⟨q,_⟩|⟨q,q2⟩
   .exact .inl<|MX q
   .exact .inr ⟨(Jo q).1,MW q2⟩
  subst hP hw hK;have hT:s.TypeIs (.ref z) "zip":=⟨_,hz,rfl⟩
  unfold pyNext;refine T0<|A97<|A73 (name:=At "__next__") hT B23<|A75 B23 hT F.entry_zip_next (AU FR D1 D2 hz z! AM rh v7 he λ h' e tk kp hx=>?_)<|F.args_zip_next_1 _;obtain⟨o,ho,CF⟩:=hx;refine T0<|wpAny_isInstance (T:="StopIteration") (b:=AT) ⟨o,ho,CF⟩ isSubtype_stop<|Y0 ⟨rfl,?_⟩;exact Er (ch:=[z,TO,i1,i2]) I kp λ b hb=>hf b (by simp only[Y2,A12,A22]at hb ⊢;rcases hb with e| e| e| e<;>simp[e])
abbrev zh(T1 T2:String)(h:η)(l1 l2:Z'):η:=((((h.push {cls:=.type T1,data:=.fields #[.ref l1,.int 0 0]}).push {cls:=.type T2,data:=.fields #[.ref l2,.int 0 0]}).push {cls:=.type "tuple",data:=.seq #[.ref h.objs.size,.ref (h.objs.size+1)]}).push {cls:=.type "tuple",data:=.seq #[.none,.none]}).push
 {cls:=.type "zip",data:=.fields #[.none,.bool Z!,.bool Z!,.ref (h.objs.size+2),.ref (h.objs.size+3)]}
theorem uV(l1 l2:Z')(xs ys:Array Z_):Meets (Builtin.«zip.__new__» ⟨[.type "zip",.ref l1,.ref l2],[]⟩) (λ _ R s=>s.heap.IsTuple l1 xs/\s.heap.IsTuple l2 ys/\R (.ok<|.ret<|.ref<|s.heap.objs.size+4) {s with heap:=zh "tuple_iterator" "tuple_iterator" s.heap l1 l2}):=
 .of_wp λ prog w A R s h=>by
  obtain⟨hp,gs,dr,tk,os⟩:=s;obtain⟨OV,Kt,h⟩:=h;have I_:=sub_zip;have q1:=OV;have q2:Heap.IsTuple (Shared.heap ⟨hp.push {cls:=.type "tuple_iterator",data:=.fields #[.ref l1,.int 0 0]},gs,dr,tk,os⟩) l2 ys:=Heap.IsTuple.push Kt _
  wp_walk using B13 q1,B13 q2
  simp only[A36]at h ⊢;exact⟨_,rfl,h⟩
theorem uW(l1 l2:Z')(xs ys:Array Z_):Meets (Builtin.«zip.__new__» ⟨[.type "zip",.ref l1,.ref l2],[]⟩) (λ _ R s=>s.heap.IsList l1 xs/\s.heap.IsTuple l2 ys/\R (.ok<|.ret<|.ref<|s.heap.objs.size+4) {s with heap:=zh "list_iterator" "tuple_iterator" s.heap l1 l2}):=
 .of_wp λ prog w A R s h=>by
  obtain⟨hp,gs,dr,tk,os⟩:=s;obtain⟨OV,Kt,h⟩:=h;have I_:=sub_zip;have q1:=OV;have q2:Heap.IsTuple (Shared.heap ⟨hp.push {cls:=.type "list_iterator",data:=.fields #[.ref l1,.int 0 0]},gs,dr,tk,os⟩) l2 ys:=Heap.IsTuple.push Kt _
  wp_walk using A43 q1,B13 q2
  simp only[A36]at h ⊢;exact⟨_,rfl,h⟩
theorem t?(T1 T2:String)(h:η)(l1 l2:Z'):IsZip (zh T1 T2 h l1 l2) (h.objs.size+4) (h.objs.size+2) (h.objs.size+3) .none/\IsPair (zh T1 T2 h l1 l2) (h.objs.size+2) (.ref h.objs.size) (.ref<|h.objs.size+1)/\IsPair (zh T1 T2 h l1 l2) (h.objs.size+3) .none .none /\
 (zh T1 T2 h l1 l2).get? h.objs.size=Y! {cls:=.type T1,data:=.fields #[.ref l1,.int 0 0]}/\(zh T1 T2 h l1 l2).get? (h.objs.size+1)=Y! {cls:=.type T2,data:=.fields #[.ref l2,.int 0 0]}/\∀c o,h.get? c=Y! o->(zh T1 T2 h l1 l2).get? c=Y! o:=by
 have z1:(h.push {cls:=.type T1,data:=.fields #[.ref l1,.int 0 0]}).objs.size=h.objs.size+1:=A36 ..;have z2:((h.push {cls:=.type T1,data:=.fields #[.ref l1,.int 0 0]}).push {cls:=.type T2,data:=.fields #[.ref l2,.int 0 0]}).objs.size=h.objs.size+2:=by rw[A36,z1]
 have z3:(((h.push {cls:=.type T1,data:=.fields #[.ref l1,.int 0 0]}).push {cls:=.type T2,data:=.fields #[.ref l2,.int 0 0]}).push {cls:=.type "tuple",data:=.seq #[.ref h.objs.size,.ref (h.objs.size+1)]}).objs.size=h.objs.size+3:=by rw[A36,z2]
 have z4:((((h.push {cls:=.type T1,data:=.fields #[.ref l1,.int 0 0]}).push {cls:=.type T2,data:=.fields #[.ref l2,.int 0 0]}).push {cls:=.type "tuple",data:=.seq #[.ref h.objs.size,.ref (h.objs.size+1)]}).push {cls:=.type "tuple",data:=.seq #[.none,.none]}).objs.size=h.objs.size+4:=by rw[A36,z3]
 refine⟨?_,?_,?_,?_,?_,λ c o q=>?_⟩
 .skip
  rw[<-z4];exact Y5 _ rfl
 .skip
  rw[<-z2];exact W1 _<|W1 _<|Y5 _ rfl
 .skip
  rw[<-z3];exact W1 _<|Y5 _ rfl
 .exact W1 _<|W1 _<|W1 _<|W1 _<|Y5 _ rfl
 .skip
  rw[<-z1];exact W1 _<|W1 _<|W1 _<|Y5 _ rfl
 .exact W1 _<|W1 _<|W1 _<|W1 _<|W1 _ q
theorem oK:∀xs ys (i:Nat),(Z.jn xs ys)[i]?=(xs[i]?).bind λ x=>(ys[i]?).map λ y=>Z.pair x y
|[],ys,i=>by cases ys<;>simp[Z.jn]
|x::xs,[],i=>by simp[Z.jn]
|x::xs,y::ys,0=>by simp[Z.jn]
|x::xs,y::ys,i+1=>by simp[Z.jn,oK xs ys i]
theorem t!:∀xs ys,(Z.jn xs ys).length=min xs.length ys.length
|[],ys=>by cases ys<;>simp[Z.jn]
|x::xs,[]=>by simp[Z.jn]
|x::xs,y::ys=>by simp[Z.jn,t! xs ys]
structure Gives(K:Ch)(J:NR)(S:Hp->Prop)(ds:List Z.D):Prop where
 at_:∀(i:Nat) d H1,S H1->ds[i]?=Y! d->(∃y,J.at_ i H1 y)/\∀y,J.at_ i H1 y->Den K H1 d y
 end_:∀H1,S H1->J.end_ ds.length H1
theorem yF{K:FS}(g1:Gives K J1 S xs)(g2:Gives K J2 S ys):AE K (Pq J1 J2) S (Z.jn xs ys) where
 go:=λ i d H1 s hi=>by
  rw[oK]at hi;cases q:xs[i]? with
  |none=>rw[q]at hi;cases hi
  |some x=>
   rw[q]at hi;cases q2:ys[i]? with
   |none=>simp[q2]at hi
   |some y=>exact⟨(g1.at_ i x H1 s q).1,(g2.at_ i y H1 s q2).1⟩
 zf:=λ i d H1 H2 x s hi y=>by
  obtain⟨T,y1,y2,hT,rfl,rfl,a1,a2⟩:=y;rw[oK]at hi;cases q:xs[i]? with
  |none=>rw[q]at hi;cases hi
  |some x=>
   rw[q]at hi;cases q2:ys[i]? with
   |none=>simp[q2]at hi
   |some y=>simp only[q2,A98,A47,A99]at hi;subst hi;have sm:ax H1 (upd H1 T<|.tup [y1,y2]):=bV hT;exact⟨sm,d_ (.inl<|.inl aI)<|ay.cons (((g1.at_ i x H1 s q).2 y1 a1).up sm)<|ay.cons (((g2.at_ i y H1 s q2).2 y2 a2).up sm) ay.nil⟩
 stop:=λ H1 s=>by
  rw[t!];have e1:=g1.end_ H1 s;have e2:=g2.end_ H1 s;rcases Nat.lt_trichotomy _ _ with h|h|h
  .rw[B55<|A52 h];exact .inl ⟨e1,.inl (g2.at_ _ _ H1 s<|M2 h).1⟩
  .rw[B55<|Nat.le_of_eq h];rw[<-h]at e2;exact .inl ⟨e1,.inr e2⟩
  .rw[Nat.min_eq_right<|A52 h];exact .inr ⟨(g1.at_ _ _ H1 s<|M2 h).1,e2⟩
theorem mQ{K:Ch}(h:jW K H q vs)(t:ay K H ds vs):Gives K (Cy K q vs) (iF H) ds:=
 ⟨λ i d H1 s hi=>by obtain⟨y,hy,dy⟩:=t.get hi;refine⟨⟨y,fj s h,hy⟩,λ y' IZ=>?_⟩;have:=IZ.2;rw[hy]at this;cases this;exact dy.ups s,λ H1 s=>⟨fj s h,t.length⟩⟩
theorem z?{K:Ch}(h:Hh K H q vs)(t:ay K H ds vs):Gives K (IX K q vs) (iF H) ds:=
 ⟨λ i d H1 s hi=>by obtain⟨y,hy,dy⟩:=t.get hi;refine⟨⟨y,(h.mono s).sq,hy⟩,λ y' IZ=>?_⟩;have:=IZ.2;rw[hy]at this;cases this;exact dy.ups s,λ H1 s=>⟨(h.mono s).sq,t.length⟩⟩
section
variable {X:Cx}{a b:γ}{pos p p2:Pos}{fa fb:Z.EF}{elts:Y' γ}{x1:Nat}
theorem yN(I:Inv X π σ H s):∀b∈[s.heap.objs.size+4,s.heap.objs.size+2,s.heap.objs.size+3,s.heap.objs.size,s.heap.objs.size+1],m_ X π H b:=λ b hb=>by
 have h:s.heap.objs.size<=b:=by simp only[Y2,A12]at hb;lia
 exact I.qB h<|I.bI.fresh h
theorem yz(n:Nat):[n+4,n+2,n+3,n,n+1].Nodup:=by simp only[A45,Y2,A12,A95,A96];lia
theorem _root_.ZQ.oE(hm:X.mg "zip"=AC)(ha:ZQ.QE X a fa)(hb:ZQ.QE X b fb)(hs:starEach [a,b] X.env=[(Z!,eval a X.env),(Z!,eval b X.env)]:=by rfl)(v7:starEach [b] X.env=[(Z!,eval b X.env)]:=by rfl)(h1:Se a [b] X.env:=by rfl)(h2:Se b [] X.env:=by rfl)(hg:Gl X "zip":=by rfl):ZQ.QJ X (.Tuple elts x1 p2) (.Call (.Name "zip" p) [a,b] [] pos) (Z.zY fa fb):=⟨by
 intro π s σ H R I w;obtain⟨ρ,ds,r,e,k⟩:=w;obtain⟨d1,ea,e⟩:=Z.Res.aw e;obtain⟨d2,eb,e⟩:=Z.Res.aw e;obtain⟨xs,ex,e⟩:=Z.Res.aw e;obtain⟨ys,ey,e⟩:=Z.Res.aw e;cases e;refine Call_<|iN I hg hm (by kernel_rfl:bootBuiltins "zip"=Y! (.type "zip"))<|B10 (b8 ((aS ha.p (aS hb.p bM h2) h1) pos π s σ H (λ vs H1=>∃v u,vs=[v,u]/\ax H H1/\Den X.K H1 d1 v/\Den X.K H1 d2 u) I ⟨ρ,d1,r,ea,λ v H1 s1 q1=>⟨ρ,d2,r.up s1,eb,λ u H2 s2 q2=>⟨v,u,rfl,s1.trans s2,q1.up s2,q2⟩⟩⟩) λ us s1 ⟨vs,H1,I1,r1,q1⟩=>?_) (by rw[hs,v7]) (by rw[v7];rfl);obtain⟨v,u,rfl,sm,RH,hd2⟩:=q1;obtain⟨u1,u2,rfl,S9,Vk⟩:=vals2 r1;have RG:∃Pt,d2=.tup Pt/\Pt=ys:=by
  cases d2 with
  |tup Pt=>cases ey;exact⟨_,rfl,rfl⟩
  |non=>cases ey
  |bl _=>cases ey
  |int _=>cases ey
  |str _=>cases ey
  |lst _=>cases ey
  |dct _ _=>cases ey
 obtain⟨_,rfl,rfl⟩:=RG;obtain⟨q2,SR,rfl,Jc,t2⟩:=bc.tup (.inl hd2);cases Vk;obtain⟨gD,XJ,S?,_⟩:=I1.tuple Jc;cases d1 with
 |tup UO=>cases ex;obtain⟨q,vs,rfl,hq,t⟩:=bc.tup (.inl RH);cases S9;obtain⟨aU,rv,pt,hz⟩:=I1.tuple hq;obtain⟨f1,f2,f3,f4,f5,f6⟩:=t? "tuple_iterator" "tuple_iterator" s1.heap q q2;refine callType_new F.called_zip (by decide) (F.typeCall_zip_2 _ _) (F.newCall_zip_2 _ _) (λ obj=>F.args_object_init_3 obj _ _) F.entry_zip_new (uV q q2 aU.toArray gD.toArray) ⟨pt,S?,⟨_,f1,rfl⟩,B54 f1 ?_⟩;exact⟨_,[s1.heap.objs.size+4,s1.heap.objs.size+2,s1.heap.objs.size+3,s1.heap.objs.size,s1.heap.objs.size+1],_,Pq (Cy X.K q vs)<|Cy X.K q2 SR,H1,rfl,I1.kept f6,ur se se<|yz _,⟨f1,f2,⟨_,_,f3⟩,⟨_,f4,rfl,rfl⟩,⟨_,f5,rfl,rfl⟩⟩,yN I1,k _ H1 sm<|yF (mQ hq t)<|mQ Jc t2⟩
 |lst UO=>cases ex;simp only[Den]at RH;obtain⟨q,vs,rfl,hq,t⟩:=RH;cases S9;obtain⟨aU,rv,pt,hz⟩:=I1.list hq.sq;obtain⟨f1,f2,f3,f4,f5,f6⟩:=t? "list_iterator" "tuple_iterator" s1.heap q q2;refine callType_new F.called_zip (by decide) (F.typeCall_zip_2 _ _) (F.newCall_zip_2 _ _) (λ obj=>F.args_object_init_3 obj _ _) F.entry_zip_new (uW q q2 aU.toArray gD.toArray) ⟨pt.isList,S?,⟨_,f1,rfl⟩,B54 f1 ?_⟩;exact⟨_,[s1.heap.objs.size+4,s1.heap.objs.size+2,s1.heap.objs.size+3,s1.heap.objs.size,s1.heap.objs.size+1],_,Pq (IX X.K q vs)<|Cy X.K q2 SR,H1,rfl,I1.kept f6,ur Ez se<|yz _,⟨f1,f2,⟨_,_,f3⟩,⟨_,f4,rfl,rfl⟩,⟨_,f5,rfl,rfl⟩⟩,yN I1,k _ H1 sm<|yF (z? hq t)<|mQ Jc t2⟩
 |non=>cases ex
 |bl _=>cases ex
 |int _=>cases ex
 |str _=>cases ex
 |dct _ _=>cases ex⟩
end
end ZS
namespace ZQ
open PySem PySem.Spec PyProof.Rows L2 ZS
section
end
end ZQ
noncomputable section
namespace Z
def wX:D->D->Res D
|.str [c],.int n=>guard (0<=n/\n<=16777216)<|.ok<|.str<|List.replicate n.toNat c
|_,_=>.bad
theorem Ip(c:Nat)(n:Int):wX (.str [c]) (.int n)=guard (0<=n/\n<=16777216) (.ok<|.str<|List.replicate n.toNat c):=rfl
theorem E8(h:wX x y=.ok d):∃c n,x=.str [c]/\y=.int n/\0<=n/\n<=16777216/\d=.str (Da n.toNat c):=by
 unfold wX at h;split at h
 .obtain⟨⟨h0,h1⟩,e⟩:=pG h;cases e;exact⟨_,_,rfl,rfl,h0,h1,rfl⟩
 .cases h
end Z
end
namespace ZS
open PySem PySem.Spec PyProof.Rows L2
theorem Ic:iG X (binaryOp .Mult) (λ x y H Q=>∃i n,x=.str i/\y=.int n/\MulOk i n/\Q (.str<|Txt.mul i n) H):=by intro π s σ H x y v u Q I rx ry h;obtain⟨i,n,rfl,rfl,hz,q⟩:=h;obtain⟨t,rfl⟩:=rx;obtain⟨t',rfl⟩:=ry;exact SB.mul hz λ t' k=>⟨.str _,H,I.tok _,⟨_,rfl⟩,q⟩
theorem vh(c:Nat):∀n xs,(Da n<|#[c]).foldl (·++·) xs.toArray=(xs++Da n c).toArray
|0,xs=>by simp
|n+1,xs=>by rw[B24,B56,show xs.toArray++(#[c])=(xs++[c]).toArray by simp,vh];simp[B24]
theorem mul_one(c:Nat)(h0:0<=n):Txt.mul ⟨[c].toArray⟩ n=⟨(Da n.toNat c).toArray⟩:=by
 unfold Txt.mul;by_cases h1:n<1
 .have:n=0:=by lia
  subst this;rfl
 .rw[v0 h1];by_cases h2:n=1
  .subst h2;rfl
  .have:¬(n==1||(⟨[c].toArray⟩:Str).length==0)=AT:=by simp[h2,Str.length]
   rw[v0 this];have:=vh c n.toNat [];rw[B25]at this;exact Y8 _ this
theorem zM(c:Nat)(h0:0<=n)(h1:n<=16777216):MulOk ⟨[c].toArray⟩ n:=by
 refine⟨?_,λ h _=>?_,λ h _=>?_⟩
 .have a:¬n < -(2^63):=by lia
  have b:¬n≥(2^63):=by lia
  simp only[a,b,B57,Bool.or_self]
 .have e:(⟨[c].toArray⟩:Str).length=1:=rfl;rw[e];have:1<=((2^63-1)) / n:=(Int.le_ediv_iff_mul_le (by lia)).mpr (by lia);lia
 .have e:(⟨[c].toArray⟩:Str).length=1:=rfl;rw[e,Nat.one_mul];have:¬n.toNat>sizeLine:=by rw[Y9];lia
  exact A37 this
theorem _root_.ZQ.JF(ha:ZQ.QW X a fa)(hb:ZQ.QW X b fb):ZQ.QE X (.BinOp a .Mult b pos) (Z.eB Z.wX fa fb):=⟨rB Ic (λ x y dx dy d H Q h1 h2 e k=>by obtain⟨c,n,rfl,rfl,h0,h3,rfl⟩:=Z.E8 e;refine⟨_,_,h1.str,h2.int,zM c h0 h3,?_⟩;rw[mul_one c h0];exact k _ H (ax.refl H) j8) ha.p hb.p⟩
end ZS
namespace ZQ
open PySem PySem.Spec PyProof.Rows L2 ZS
end ZQ
noncomputable section
namespace Z
end Z
end
namespace ZS
open PySem PySem.Spec PyProof.Rows L2
section
variable {X:Cx}
theorem vC{K:Ch}(h:Den K H d w):∀n,ay K H (Da n d) (Da n w)
|0=>ay.nil
|n+1=>ay.cons h<|vC h n
end
end ZS
namespace ZQ
open PySem PySem.Spec PyProof.Rows L2 ZS
section
end
end ZQ
noncomputable section
namespace Z
def z_(is:Y' Nat)(d:D)(ρ:Env):Res Env:=match d with
|.tup ds=>jH is ds ρ
|.lst ds=>jH is ds ρ
|_=>.bad
end Z
end
namespace ZS
open PySem PySem.Spec PyProof.Rows L2
def SI(K:Ch)(H:Hp)(b:Bool)(d:Z.D)(v:V):Prop:=if b=AT then kn K H d v else Den K H d v
def vV(K:Ch)(H:Hp):Y' Bool->Y' Z.D->Y' V->Prop
|[],[],vs=>vs=[]
|b::bs,d::ds,vs=>∃v r,vs=v::r/\SI K H b d v/\vV K H bs ds r
|_,_,_=>False
def PJ(K:Ch)(bs:Y' Bool)(f:Z.AF):TA:=λ σ H Q=>∃ρ ds,RE K H σ ρ/\f ρ=.ok ds/\∀vs H',ax H H'->vV K H' bs ds vs->Q vs H'
abbrev Xs(X:Cx)(es:Y' γ)(bs:Y' Bool)(f:Z.AF):Prop:=PA X es<|PJ X.K bs f
structure _root_.ZQ.X!(X:Cx)(es:List Expr)(bs:List Bool)(f:Z.AF):Prop where p:Xs X es bs f
section
def Le(K:Ch)(bs:Y' Bool)(m:Y' Z.D->Z.Res Z.D):Sp:=λ vs H Q _=>∃ds d,vV K H bs ds vs/\m ds=.ok d/\∀v H',ax H H'->Den K H' d v->Q v H'
end
section
variable {K:Ch}
structure Xv(P:Program)(w:World)(K:Ch)(mg:Str->Option Value)(base:Heap)(x:Str)(k:Nat)(ps:List Str)(bs:List Bool)(m:List Z.D->Z.Res Z.D):Prop where
 ex:∃g fd,dI P w K mg base jc k g fd ps (Le K bs m)/\mg x=Y! (.ref g)/\Ev K (.ref g)=AT/\Binds K fd ps []
end
section
end
end ZS
namespace ZQ
open PySem PySem.Spec PyProof.Rows L2 ZS
section
end
end ZQ
namespace ZS
open PySem PySem.Spec PyProof.Rows L2
section
theorem pV(qf:l≠it):∀n i s Q,s.heap.IsListIter it l i->s.heap.IsList l items->i+n<=items.size ->
 (∀h',h'.IsListIter it l (i+n)->GM it s.heap h'->Q ((items.toList.drop i).take n) {s with heap:=h'})->Db (model prog w) A (draw (.ref it) n) Q E s
|0,i,s,Q,hit,_,_,hQ=>by exact Y0 (by simpa using hQ _ hit (Heap.SameBut.refl ..))
|n+1,i,s,Q,hit,ht,hle,hQ=>by
 have iS:i<items.size:=by lia
 refine T0<|wpAny_pyNext_list_item hit ht (x:=items[i]) (by simp[iS]) λ h₁ Ji MD=>?_;refine T0<|v6<|pV qf n _ _ _ Ji (ht.extBut MD.extBut qf) (by lia) λ h₂ Ru VV=>Y0 ?_;have hd:items.toList.drop i=items[i]::items.toList.drop (i+1):=by simp[A79,iS]
 have:=hQ h₂ (by rw[show i+(n+1)=i+1+n by lia];exact Ru)<|MD.trans VV;rw[hd,List.take_succ_cons]at this;exact this
theorem lI(hh:A.handled=AC)(ht:s.heap.IsList t items)
 (hQ:∀h',Uf s.heap.objs.size s.heap h'->Q items.toList {s with heap:=h'}):Db (model prog w) A (unpackItems (.ref t) items.size AC) Q E s:=by
 have iS:t≠s.heap.objs.size:=by obtain⟨o,ho,_⟩:=ht;exact Z4<|Y1 ho
 refine T0 ?_
 .skip
  refine T0<|wpAny_specialOf ht.typeIs slot_list_iter.lookup ?_;refine Y0 ?_;simp only[A11,A33];refine T0<|v6<|A43 ht ?_;refine T0<|v6<|pV iS _ 0 _ _ ⟨_,Y5 _ rfl,rfl,rfl⟩ (ht.push _) (by lia) λ h₁ Ji MD=>?_;have hall:List.take items.size (List.drop 0 items.toList)=items.toList:=by rw[List.drop_zero];exact B58 (by simp)
  rw[hall];rw[v0 (by simp)];have VQ:=(ht.push _).extBut MD.extBut iS;refine T0<|v6<|wpAny_pyNext_list_end hh Ji VQ (by simp) λ h₂ Wl=>?_;simp only[Option.isSome_none,A11,A33];refine Y0<|hQ h₂ λ b o hb e=>Wl b o hb<|MD.extBut b o hb<|W1 _ e
theorem ly(hh:A.handled=AC)(ht:s.heap.IsList t items)
 (hn:(assignEach elts env).length=items.size) (MG:(assignEach elts env).findIdx? (·.1)=AC)
 (h:∀h',Uf s.heap.objs.size s.heap h'->Db (model prog w) A (assignInOrder ((assignEach elts env).map (·.2)) items.toList) Q E {s with heap:=h'}) :
 Db (model prog w) A (assign (.Tuple elts x1 pos) env<|.ref t) Q E s:=by
 rw[assign_Tuple];refine T0<|A71 ?_;unfold unpack;rw[hn,MG];exact T0<|v6<|lI hh ht h
end
section
def Nb(K:Ch)(n:Nat)(t:JY):TG:=λ v σ H Q=>∃a xs,v=.ref a/\gJ K H a xs/\xs.length=n/\t xs σ H Q
theorem HW(hc:X.calm=AT)(h:Dx X es t)
 (hn:(assignEach es X.env).length=n:=by rfl) (vb:(assignEach es X.env).findIdx? (·.1)=AC:=by rfl):PG X (.Tuple es k pos) (Nb X.K n t):=by
 intro π s σ H v u Q I r hw;obtain⟨a,xs,e1,hq,hl,hw⟩:=hw;subst e1;cases r;obtain⟨aU,rv,ht,hz⟩:=I.list hq;refine ly (I.ok.hd hc) ht.isList (by simp[hn,<-hl,rv.length]) vb λ h' hx=>?_;have I1:=I.kept (t':=s.toks) λ b o e=>hx b o (Z4<|Y1 e) e;exact h π _ σ H xs _ Q I1 (by simpa using rv) hw
theorem pH:∀is ds ρ ρ',Z.jH is ds ρ=.ok ρ'->ds.length=is.length:=by
 intro is
 induction is with
 |nil=>intro ds ρ ρ' e;cases ds with
  |nil=>rfl
  |cons d ds=>cases e
 |cons i is ih=>intro ds ρ ρ' e;cases ds with
  |nil=>cases e
  |cons d ds=>simp[ih ds _ _ e]
theorem _root_.ZQ.De(hc:X.calm=AT)(h:ZQ.NN X H0 es is)(hl:is.length=n)(hn:(assignEach es X.env).length=n:=by rfl)(vb:(assignEach es X.env).findIdx? (·.1)=AC:=by rfl):ZQ.QG X H0 (.Tuple es x1 pos) (Z.z_ is):=⟨by
 have h:=h.p;intro π s σ H v u Q I r hw;obtain⟨ρ,d,ρ',rs,hd,e,k⟩:=hw;unfold Z.z_ at e;split at e
 .rename_i ds;obtain⟨q,vs,rfl,hq,t⟩:=bc.tup (.inl hd);exact BQ hc h hn vb π s σ H _ u Q I r ⟨q,vs,rfl,hq,by rw[t.length,pH is ds ρ ρ' e];exact hl,ρ,ds,ρ',rs,t,e,k⟩
 .rename_i ds;obtain⟨q,vs,rfl,hq,t⟩:=bc.lst (.inl hd);exact HW hc h hn vb π s σ H _ u Q I r ⟨q,vs,rfl,hq,by rw[t.length,pH is ds ρ ρ' e];exact hl,ρ,ds,ρ',rs,t,e,k⟩
 .cases e⟩
end
end ZS
namespace ZQ
open PySem PySem.Spec PyProof.Rows L2 ZS
section
end
end ZQ
namespace ZS
open PySem PySem.Spec PyProof.Rows L2
section
end
section
variable {e st:γ}
end
end ZS
namespace ZQ
open PySem PySem.Spec PyProof.Rows L2 ZS
section
end
end ZQ
noncomputable section
namespace Z
def sr(_:Env):Res Fl:=.bad
@[simp] theorem Qf(ρ:Env):sr ρ=.bad:=rfl
def uQ:D->D->Res D
|.tup [d],.int n=>guard (0<=n/\n<=1000000)<|.ok<|.tup<|List.replicate n.toNat d
|_,_=>.bad
theorem B3(h:uQ x y=.ok d):∃e n,x=.tup [e]/\y=.int n/\0<=n/\n<=1000000/\d=.tup (Da n.toNat e):=by
 unfold uQ at h;split at h
 .obtain⟨⟨h0,h1⟩,e⟩:=pG h;cases e;exact⟨_,_,rfl,rfl,h0,h1,rfl⟩
 .cases h
end Z
end
namespace ZS
open PySem PySem.Spec PyProof.Rows L2
theorem _root_.ZQ.tJ{st:ε}:ZQ.QS X H0 st Z.sr:=⟨λ _ _ _ _ _ _ ⟨_,_,_,e,_⟩=>nomatch e⟩
theorem _root_.ZQ.yS:ZQ.rM X H0 vY Z.sr:=⟨λ _ _ _ _ _ _ ⟨_,_,_,e,_⟩=>nomatch e⟩
theorem Dq{K:Ch}(C:gL P w K mg base x k ps m)(hm:∀ds d,m ds≠.ok d:=by intro ds d h;unfold Z.fn at h;split at h<;>cases h):gL P w K mg base x k ps (λ _=>.bad):=by
 obtain⟨g,fd,F,h⟩:=C.ex;have:t8 K m=t8 K λ _=>.bad:=by
  funext vs H Q E
  refine propext ⟨λ⟨ds,d,_,e,_⟩=>absurd e<|hm ds d,λ⟨ds,d,_,e,_⟩=>nomatch e⟩
 rw[this]at F;exact⟨g,fd,F,h⟩
structure GA(K:Ch)(x qual:Str)(st:Stmt)(f:Addr)(fd:FuncData):Prop where
 ex:∃(oc:Value)(od:Option Addr)(dV kV doc pm:Value)(an:Option Addr)(ba ct:Value)(qe:Array (Option Value)),
  fd=Ix x qual (a_ st) (aE st) (ak st) dV kV doc pm an ba ct/\K.lookup f=Y! ⟨oc,od,.func fd,qe⟩/\KT K ba qual=AT
 kp:Ev K (.ref f)=AT
section
variable {K:Ch}
theorem GA.ok{st:ε}(F:GA K x qual st f fd)(S:a6 N ps (ak st))(len:∀vs H Q E,sp vs H Q E->vs.length=ps.length)
 (vc:∀ ba A outer s H vs Q E,bK k (A.deeper<|envOfC qual (ak st) s.heap.objs.size f ba)->sp vs H Q E ->
  ∃t,n9 (ee jc P w K mg base N qual (ak st) f ba A outer s H E).fy (aE st) t/\t {nx:=λ _ H'=>Q .non H',rt:=Q} (start N vs) H):dI P w K mg base jc (k+1) f fd ps sp:=by
 obtain⟨oc,od,dV,kV,doc,pm,an,ba,ct,qe,rfl,lk,lD⟩:=F.ex;refine rp lk lD S len λ A outer s H vs Q E hr zZ=>?_;obtain⟨t,h,q⟩:=vc ba A outer s H vs Q E hr zZ;exact⟨t,h.fy,q⟩
theorem R5{st:ε}(F:GA K x qual st f fd)(S:a6 N ps (ak st))
 (hb:∀ ba A outer s H E,bK k (A.deeper<|envOfC qual (ak st) s.heap.objs.size f ba) ->
  Hi (ee jc P w K mg base N qual (ak st) f ba A outer s H E).fy H (aE st) b):dI P w K mg base jc (k+1) f fd ps (t8 K<|Z.fn ps.length N.length b):=by
 have ς:∀vs H Q E,t8 K (Z.fn ps.length N.length b) vs H Q E->vs.length=ps.length:=λ vs H Q E ⟨ds,d,t,e,_⟩=>by
  unfold Z.fn at e;split at e
  .rename_i h;rw[t.length];exact h
  .cases e
 refine F.ok S ς λ ba A outer s H vs Q E hr h=>⟨_,hb ba A outer s H E hr,?_⟩;have hl:=ς vs H Q E h;obtain⟨ds,d,t,e,k⟩:=h;have da:ps.length<=N.length:=by have:=Y8 List.length S.pre;rw[A00]at this;lia
 have rs:RS K H H (L2.start N vs) (Z.start N.length ds):=jZ t (by lia);unfold Z.fn at e;split at e
 .cases eb:b (Z.start N.length ds)with
  |bad=>rw[eb]at e;cases e
  |ok fl=>
   rw[eb]at e;refine⟨_,fl,rs,eb,?_⟩;cases fl with
   |rt d'=>cases e;exact λ v H' s' dv=>k v H' s' dv
   |nx ρ'=>cases e;exact λ σ' H' _ vZ=>k .non H' vZ.same j9
   |bk ρ'=>cases e
   |ct ρ'=>cases e
 .cases e
structure AG(K:Ch)(mg:Str->Option Value)(x:Str)(st:Stmt)(ps:List Str):Prop where
 ex:∃f fd,GA K x x st f fd/\mg x=Y! (.ref f)/\Binds K fd ps []/\Binds K fd ps [.none]
structure ng(P:Program)(w:World)(K:Ch)(mg:Str->Option Value)(base:Heap)(x:Str)(k:Nat)(ps:List Str)(m:List Z.D->Z.Res Z.D):Prop where
 ex:∃g fd,dI P w K mg base jc k g fd ps (t8 K m)/\mg x=Y! (.ref g)/\Ev K (.ref g)=AT/\Binds K fd ps []/\Binds K fd ps [.none]
theorem ng.full(C:ng P w K mg base x k ps m):gL P w K mg base x k ps m:=
 let ⟨g,fd,h1,h2,h3,h4,_⟩:=C.ex;⟨g,fd,h1,h2,h3,h4⟩
theorem ng.mk'{st:ε}(d:AG K mg x st ps)(S:a6 N ps (ak st))
 (hb:∀ f ba A outer s H E,bK k (A.deeper<|envOfC x (ak st) s.heap.objs.size f ba) ->
  Hi (ee jc P w K mg base N x (ak st) f ba A outer s H E).fy H (aE st) b):ng P w K mg base x (k+1) ps (Z.fn ps.length N.length b):=by
 obtain⟨f,fd,F,hm,CG,O1⟩:=d.ex;exact⟨f,fd,R5 F S<|hb f,hm,F.kp,CG,O1⟩
theorem F?{st:ε}{ps:Y' Str}{f t:Z'}{oc:Z_}{od an:Y_ Z'}{qe:Array (Y_ Z_)}{kV doc pm ba ct tc:Z_}{td:Y_ Z'}{tn:Nat}{UW:Array (Y_ Z_)}
 (l:K.lookup f=Y! ⟨oc,od,.func<|PySem.W.fnOf x x (a_ st) (aE st) (ak st) (.ref t) kV doc pm an ba ct,qe⟩)
 (c:KT K ba x=AT) (k:Ev K (.ref f)=AT) (lt:K.lookup t=Y! ⟨tc,td,.seq #[.none] tn,UW⟩) (hm:mg x=Y! (.ref f))
 (h1:∀us,us.length=ps.length->∃kk,bindArgs (Ix x x (a_ st) (aE st) (ak st) (.ref t) kV doc pm an ba ct) ⟨us,[]⟩=seqItems? (.ref t)>>=kk/\kk (Y! #[.none])=pure (ps.zip us))
 (h2:∀us,us.length+1=ps.length->∃kk,bindArgs (Ix x x (a_ st) (aE st) (ak st) (.ref t) kV doc pm an ba ct) ⟨us,[]⟩=seqItems? (.ref t)>>=kk/\kk (Y! #[.none])=pure (ps.zip<|us++[.none])):AG K mg x st ps:=by
 refine⟨f,_,⟨⟨oc,od,.ref t,kV,doc,pm,an,ba,ct,qe,rfl,l,c⟩,k⟩,hm,λ s us hK hl=>?_,λ s us hK hl=>?_⟩
 .rw[A53]at hl ⊢;obtain⟨kk,e1,e2⟩:=h1 us hl;exact BindsTo.of_defaults (T:=t) (items:=#[.none]) rfl (hK t _ lt) rfl e1 e2
 .obtain⟨kk,e1,e2⟩:=h2 us (by simpa using hl);exact BindsTo.of_defaults (T:=t) (items:=#[.none]) rfl (hK t _ lt) rfl e1 e2
end
section
end
end ZS
namespace ZQ
open PySem PySem.Spec PyProof.Rows L2 ZS
section
theorem lj{K:Ch}{st:ε}(d:ZS.AG K mg x st ps)(hb:∀{f}{ba}{A}{outer}{s}{H}{E},N.Nodup->(A.deeper<|envOfC x (ak st) s.heap.objs.size f ba).units+64<cLine->bK k (A.deeper<|envOfC x (ak st) s.heap.objs.size f ba)->rM (ee jc P w K mg base N x (ak st) f ba A outer s H E).fy H (aE st) b)(S:a6 N ps (ak st):=by exact ZS.D0):ZS.ng P w K mg base x (k+1) ps (Z.fn ps.length N.length b):=ZS.ng.mk' d S λ f ba A outer s H E hr=>(hb S.nd hr.units hr).p
end
end ZQ
namespace PySem
open Sem (wp)
open Builtin
theorem mF:fillsNumberSlot (.type "tuple") "mul"=pure Z!:=
 fillsNumberSlot_seq B00.lookup (by decide +kernel) F.slot_tuple_rmul.lookup (by decide +kernel)
theorem sx:seqRepeat? (.type "tuple")=pure (Y!<|.builtin "tuple.__mul__"):=by unfold seqRepeat?;rw[seqSlot_of (name:="__mul__") B00.lookup (by decide +kernel),seqSlot_of (name:="__rmul__") F.slot_tuple_rmul.lookup (by decide +kernel)];rfl
theorem iQ(a:Int)(t:Tok)(l:Z')(items:Array Z_)(n:Nat)(dd:Y_ Z')(sl:Array _):
 Meets (Builtin.«int.__rmul__» ⟨[.int a t,.ref l],[]⟩) (λ _ R s=>s.heap.get? l=Y! {cls:=.type "tuple",dict:=dd,data:=.seq items n,slots:=sl}/\R (.ok<|.ret Value.notImplemented) s):=
 .of_wp λ prog w A R s h=>by obtain⟨hp,g,d,tk,os⟩:=s;obtain⟨hl,h⟩:=h;wp_walk;exact⟨_,rfl,h⟩
theorem nN(a:Int)(t:Tok)(l:Z')(x:Z_)(n:Nat)(dd:Y_ Z')(sl:Array _)(h0:a=0):
 Meets (Builtin.«tuple.__mul__» ⟨[.ref l,.int a t],[]⟩) (λ _ R s=>s.heap.get? l=Y! {cls:=.type "tuple",dict:=dd,data:=.seq #[x] n,slots:=sl}/\R (.ok<|.ret<|.ref s.heap.objs.size) {s with heap:=s.heap.push {cls:=.type "tuple",data:=.seq #[]}}):=
 .of_wp λ prog w A R s h=>by
  obtain⟨hp,g,d,tk,os⟩:=s;obtain⟨hl,h⟩:=h;subst h0
  wp_walk
  exact⟨_,rfl,h⟩
theorem nM(a:Int)(t:Tok)(l:Z')(x:Z_)(n:Nat)(dd:Y_ Z')(sl:Array _)(h0:a=1):
 Meets (Builtin.«tuple.__mul__» ⟨[.ref l,.int a t],[]⟩) (λ _ R s=>s.heap.get? l=Y! {cls:=.type "tuple",dict:=dd,data:=.seq #[x] n,slots:=sl}/\R (.ok<|.ret<|.ref l) s):=
 .of_wp λ prog w A R s h=>by
  obtain⟨hp,g,d,tk,os⟩:=s;obtain⟨hl,h⟩:=h;subst h0
  wp_walk
  exact⟨_,rfl,h⟩
theorem nL(a:Int)(t:Tok)(l:Z')(x:Z_)(n:Nat)(dd:Y_ Z')(sl:Array _)(h1:¬(decide (a < -(2^63))||decide (a≥2^63))=AT)(h2:¬((#[x]).isEmpty||a==1)=AT)(h3:¬(decide (a<=0)||(#[x]).isEmpty)=AT)(h4:¬((#[x]).size)*a>(2^63-1) / 8)(h5:¬Tuple.tupleTooMany (((#[x]).size)*a)=AT)(h6:((Da a.toNat #[x]).foldl (·++·) #[]).size<=sizeLine):
 Meets (Builtin.«tuple.__mul__» ⟨[.ref l,.int a t],[]⟩) (λ _ R s=>s.heap.get? l=Y! {cls:=.type "tuple",dict:=dd,data:=.seq #[x] n,slots:=sl}/\R (.ok<|.ret<|.ref s.heap.objs.size) {s with heap:=s.heap.push {cls:=.type "tuple",data:=.seq ((Da a.toNat #[x]).foldl (·++·) #[])}}):=
 .of_wp λ prog w A R s h=>by
  obtain⟨hp,g,d,tk,os⟩:=s;obtain⟨hl,h⟩:=h
  wp_walk
  refine B01 (by simpa using h1) ?_
  wp_walk
  refine B01 (by simpa using h2) ?_
  wp_walk
  refine B01 (by simpa using h3) ?_
  wp_walk
  refine B01 (A37 h4) ?_
  wp_walk
  refine B01 (by simpa using h5) ?_
  wp_walk
  exact⟨_,rfl,h⟩
end PySem
namespace ZS
open PySem PySem.Spec PyProof.Rows L2
section
def Lp(K:Ch):R2:=λ x y H Q=>∃l k w,x=.ref l/\y=.int k/\jW K H l [w]/\0<=k/\k<=1000000/\(k=1->Q (.ref l) H)/\(k≠1->∀p,H p=AC->Q (.ref p) (upd H p<|.tup<|List.replicate k.toNat w))
theorem rn(v:Z_):∀k acc,List.foldl (λ x1 x2=>x1++x2) acc (Da k #[v])=acc++(Da k v).toArray
|0,acc=>by simp
|k+1,acc=>by rw[B24,B56,rn,B24];apply Array.toList_inj.mp;simp
theorem qN(r:RelV w u):∀k,Vals (Da k w) (Da k u)
|0=>.nil
|k+1=>.cons r<|qN r k
theorem EY:iG X (binaryOp .Mult) (Lp X.K):=by
 intro π s σ H x y v u Q I rx ry h;obtain⟨l,k,w,rfl,rfl,hq,h0,h1,q1,q2⟩:=h;cases rx;obtain⟨t,rfl⟩:=ry;obtain⟨aU,r,ht,hz⟩:=I.tuple hq;obtain⟨x,rfl,rx⟩:=vals1 r;obtain⟨⟨cls,dd,data,sl⟩,ho,hc,n,hd⟩:=id ht;simp only at hc hd;subst hc hd;have e:=ho;refine wpAny_binaryOp_repeat_ref (by decide) ⟨_,e,rfl⟩ (λ s'=>typeIs_int s' k t) mF F.fills_int_mul F.slot_int_rmul sx F.slot_int_index.lookup
 <|A62 F.slot_int_rmul (typeIs_int s k t) F.entry_int_rmul (F.args_int_rmul_2 _ _) (iQ k t l #[x] n dd sl) ⟨e,rfl,⟨_,e,rfl⟩,?_⟩
 by_cases G5:k=1
 .exact A62 B00 ⟨_,e,rfl⟩ B59 (B60 _ _) (nM k t l x n dd sl G5) ⟨e,⟨.ref l,H,I,rfl,q1 G5⟩⟩
 .by_cases TN:k=0
  .refine A62 B00 ⟨_,e,rfl⟩ B59 (B60 _ _) (nN k t l x n dd sl TN) ⟨e,?_⟩;have q:=q2 G5 _<|I.bI.fresh<|Z0 s.heap.objs.size;rw[TN]at q;refine⟨.ref _,_,I.laid (λ b ob z=>W1 _ z) (Z0 _) ?_,rfl,q⟩;exact⟨A77 _,[],.nil,m9.new _ _⟩
  .skip
   have hf:=rn x k.toNat #[];rw[Array.empty_append]at hf;have hs:(1000000)<=sizeLine:=by decide
   refine A62 B00 ⟨_,e,rfl⟩ B59 (B60 _ _) (nL k t l x n dd sl ?_ ?_ ?_ ?_ ?_ ?_) ⟨e,?_⟩
   .simp;lia
   .simp;lia
   .simp;lia
   .show ¬((1))*k>(2^63-1) / 8;lia
   .show ¬(decide<|((1))*k>(sizeLine))=AT;rw[B61];have:=Int.ofNat_le.mpr hs;generalize (sizeLine)=z at this ⊢;lia
   .rw[hf,Z2,A89];lia
   .rw[hf];refine⟨.ref _,_,I.laid (λ b ob z=>W1 _ z) (Z0 _) ?_,rfl,q2 G5 _<|I.bI.fresh<|Z0 _⟩;exact⟨by rw[A89];lia,_,qN rx k.toNat,m9.new _ _⟩
theorem _root_.ZQ.yW(ha:ZQ.QW X a fa)(hb:ZQ.QW X b fb):ZQ.QE X (.BinOp a .Mult b pos) (Z.eB Z.uQ fa fb):=⟨PE.imp (GU EY ha.p hb.p) λ σ H Q ⟨ρ,d,r,e,k⟩=>by
 obtain⟨x,ea,e⟩:=Z.Res.aw e;obtain⟨y,eb,e⟩:=Z.Res.aw e;obtain⟨d0,n,rfl,rfl,h0,h1,rfl⟩:=Z.B3 e;refine⟨ρ,_,r,ea,λ v H1 s1 d1=>⟨ρ,_,r.up s1,eb,λ u H2 s2 d2=>?_⟩⟩;obtain⟨q,vs,rfl,hq,t⟩:=d1.tup;simp only[ay]at t;obtain⟨w,r',rfl,dw,rfl⟩:=t;refine⟨q,n,w,rfl,d2.int,?_,h0,h1,λ hn=>?_,λ hn p hp=>?_⟩
 .exact fj (lC s2) hq
 .subst hn;exact k _ H2 (s1.trans s2)<|d_ (fj (lC s2) hq)<|ay.cons (dw.up s2) ay.nil
 .have s3:ax H2 (upd H2 p<|.tup<|List.replicate n.toNat w):=bV hp;exact k _ _ ((s1.trans s2).trans s3)<|d_ (jW.of aI)<|vC ((dw.up s2).up s3) _⟩
end
end ZS
namespace ZQ
open PySem PySem.Spec PyProof.Rows L2 ZS
section
end
end ZQ
noncomputable section
namespace Z
end Z
end
namespace ZS
open PySem PySem.Spec PyProof.Rows L2
section
end
section
end
end ZS
namespace ZQ
open PySem PySem.Spec PyProof.Rows L2 ZS
section
end
end ZQ
noncomputable section
namespace Z
end Z
end
namespace ZS
open PySem PySem.Spec PyProof.Rows L2
section
end
section
end
end ZS
namespace ZQ
open PySem PySem.Spec PyProof.Rows L2 ZS
section
end
end ZQ
namespace PySem
namespace F
end F
section
end
end PySem
noncomputable section
namespace Z
end Z
end
namespace PySem
section
variable {prog:ι}{w:θ}{A:ν}{s:δ}{R:Result->δ->Prop}
variable {I:Z'}{fp wr:Y' Z'}{G:Array GenState->Array GenState->Prop}{n:Nat}{P:Nat->Z_->Prop}{St:Nat->δ->Prop}
end
section
end
end PySem
namespace ZS
open PySem PySem.Spec PyProof.Rows L2
section
variable {X:Cx}{a:γ}{pos p p1 p2:Pos}{fa:Z.EF}
end
end ZS
namespace ZQ
open PySem PySem.Spec PyProof.Rows L2 ZS
section
end
end ZQ
noncomputable section
namespace Z
end Z
end
namespace ZS
open PySem PySem.Spec PyProof.Rows L2
theorem Sm{ps:Y' Str}(h:∀a0,bindArgs fd ⟨[a0],[]⟩=pure (ps.zip [a0])):∀us,us.length=1->bindArgs fd ⟨us,[]⟩=pure (ps.zip us)
|[a0],_=>h a0
theorem Av{ps:Y' Str}(h:∀a0 a1,bindArgs fd ⟨[a0,a1],[]⟩=pure (ps.zip [a0,a1])):∀us,us.length=2->bindArgs fd ⟨us,[]⟩=pure (ps.zip us)
|[a0,a1],_=>h a0 a1
theorem wa{ps:Y' Str}(h:∀a0 a1 a2,bindArgs fd ⟨[a0,a1,a2],[]⟩=pure (ps.zip [a0,a1,a2])):∀us,us.length=3->bindArgs fd ⟨us,[]⟩=pure (ps.zip us)
|[a0,a1,a2],_=>h a0 a1 a2
theorem JR{ps:Y' Str}(h:∀a0 a1 a2 a3,bindArgs fd ⟨[a0,a1,a2,a3],[]⟩=pure (ps.zip [a0,a1,a2,a3])):∀us,us.length=4->bindArgs fd ⟨us,[]⟩=pure (ps.zip us)
|[a0,a1,a2,a3],_=>h a0 a1 a2 a3
theorem O?{ps:Y' Str}(h:∀a0 a1 a2 a3 a4,bindArgs fd ⟨[a0,a1,a2,a3,a4],[]⟩=pure (ps.zip [a0,a1,a2,a3,a4])):∀us,us.length=5->bindArgs fd ⟨us,[]⟩=pure (ps.zip us)
|[a0,a1,a2,a3,a4],_=>h a0 a1 a2 a3 a4
def Ss(H0 H1:Hp):Hp->Prop:=λ H2=>iF H1 H2/\ax H0 H2
def U3(K:Ch)(H0:Hp)(f:Z.LF):TI:=λ σ H R=>∃ρ ds,RS K H0 H σ ρ/\f ρ=.ok ds/\∀J H',ax H H'->AE K J (Ss H0 H') ds->R J H'
abbrev DK(X:Cx)(H0:Hp)(tg e:γ)(f:Z.LF):Prop:=PI X tg e<|U3 X.K H0 f
structure _root_.ZQ.QK(X:Cx)(H0:Hp)(tg e:Expr)(f:Z.LF):Prop where p:DK X H0 tg e f
section
end
end ZS
namespace ZQ
open PySem PySem.Spec PyProof.Rows L2 ZS
section
end
end ZQ
noncomputable section
namespace Z
end Z
namespace ZS
open PySem PySem.Spec PyProof.Rows L2
section
end
section
end
end ZS
namespace ZQ
open PySem PySem.Spec PyProof.Rows L2 ZS
section
end
end ZQ
namespace ZS
open PySem PySem.Spec PyProof.Rows L2
section
variable {X:Cx}{a:γ}{pos:Pos}{fa:Z.EF}
end
end ZS
namespace ZQ
open PySem PySem.Spec PyProof.Rows L2 ZS
section
variable {X:Cx}{a:γ}{pos:Pos}{fa:Z.EF}{H0:Hp}
end
end ZQ
noncomputable section
namespace Z
end Z
namespace ZS
open PySem PySem.Spec PyProof.Rows L2
section
variable {X:Cx}{H0:Hp}{pos:Pos}
end
end ZS
namespace ZQ
open PySem PySem.Spec PyProof.Rows L2 ZS
section
variable {X:Cx}{H0:Hp}{pos:Pos}
end
end ZQ
noncomputable section
namespace Z
def uS:D->D->Res D
|.int a,.int b=>.ok<|.int<|a+b
|_,_=>.bad
@[simp] theorem Kf(a b:Int):uS (.int a) (.int b)=.ok (.int<|a+b):=rfl
def u?:Y' D->Y_ (Y' Int)
|[]=>Y! []
|.int i::r=>(u? r).map (i::·)
|_::_=>AC
theorem u!:∀{ds}{ns},u? ds=Y! ns->ds=ns.map .int
|[],ns,h=>by cases h;rfl
|d::r,ns,h=>by
 cases d with
 |int i=>obtain⟨ms,e,rfl⟩:=A19.mp (h);rw[u! e];rfl
 |non=>cases h
 |bl _=>cases h
 |str _=>cases h
 |tup _=>cases h
 |lst _=>cases h
 |dct _ _=>cases h
@[simp] theorem zX:∀ns,u? (ns.map .int)=Y! ns
|[]=>rfl
|n::ns=>by show(u? _).map _=_;rw[zX];rfl
def Kh(k:Int):Y' Int->Int
|[]=>k
|n::ns=>ns.foldl max n
theorem fold_max:∀(ns:Y' Int) n,n<=ns.foldl max n/\(∀m∈ns,m<=ns.foldl max n)/\(ns.foldl max n=n\/ns.foldl max n∈ns)
|[],n=>⟨A83 _,by simp,.inl rfl⟩
|m::ns,n=>by
 obtain⟨a,b,c⟩:=fold_max ns (max n m);rw[B56];refine⟨by lia,λ x hx=>?_,?_⟩
 .rcases Y2.mp hx with rfl|hx
  .lia
  .exact b x hx
 .rcases c with c|c
  .rw[c];by_cases h:n<=m
   .rw[show max n m=m by lia];exact .inr Z7
   .rw[show max n m=n by lia];exact .inl rfl
  .exact .inr<|Y6 _ c
theorem IC(h:M∈ns)(g:∀m∈ns,m<=M):Kh k ns=M:=by
 cases ns with
 |nil=>cases h
 |cons n ns=>
  obtain⟨a,b,c⟩:=fold_max ns n;show ns.foldl max n=M;have h1:M<=ns.foldl max n:=by
   rcases Y2.mp h with rfl|h
   .exact a
   .exact b M h
  have h2:ns.foldl max n<=M:=by
   rcases c with c|c
   .rw[c];exact g n Z7
   .exact g _<|Y6 _ c
  lia
def yy:D->D->Res D
|.lst ds,.int k=>match u? ds with
 |some ns=>.ok<|.int<|Kh k ns
 |none=>.bad
|_,_=>.bad
theorem B5(h:yy x y=.ok d):∃ns k,x=.lst (ns.map .int)/\y=.int k/\d=.int (Kh k ns):=by
 unfold yy at h;split at h
 .split at h
  .rename_i ns e;cases h;exact⟨ns,_,by rw[u! e],rfl,rfl⟩
  .cases h
 .cases h
end Z
end
noncomputable section
namespace Z
end Z
end
namespace ZS
open PySem PySem.Spec PyProof.Rows L2
section
theorem Np(h:Z.eV i ρ=.ok d):ρ[i]?=Y! (Y!<|.val d):=by
 unfold Z.eV at h;split at h
 .rename_i e;cases h;exact e
 .cases h
theorem C_(hN:X.N.Nodup)(hi:X.N[i]?=Y! x)(hx:Loc X.env.scope x)(hr:iG X (inplaceOp op) r)(hz:AR X.K r o)(he:DE X a fa)(hf:X.fn x=AT\/X.env.scope.names.lookup x=Y! .local):
 DS X H0 (.AugAssign (.Name x pos') op a pos) (Z.bq i<|Z.eB o (Z.eV i) fa):=PS.imp (HU hN hi hx he hr hf) λ D σ H ⟨ρ,fl,rs,e,k⟩=>by
 obtain⟨d,ea,e⟩:=Z.Res.aw e;cases e;obtain⟨dx,e1,ea⟩:=Z.Res.aw ea;obtain⟨dy,e2,ea⟩:=Z.Res.aw ea;obtain⟨v,si,dv⟩:=rs.re.get i _ (Np e1);refine⟨v,si,ρ,dy,rs.re,e2,λ y H1 s1 W?=>?_⟩;exact hz v y dx dy d H1 _ (.inl<|Den.up dv s1) (.inl W?) ea λ z H2 s2 dz=>k _ H2 (lC<|s1.trans s2)<|(rs.up<|s1.trans s2).EH dz
theorem Cw:iG X (inplaceOp .Mult) (rI DC λ i j=>.int<|i*j):=Oi λ _ _ _ _ _ _ _ hc q=>imul_int q hc
theorem H_{K:Ch}:AR K (rI DC λ i j=>.int<|i*j) Z.nR:=oq λ dx dy d e=>by
 unfold Z.nR at e;split at e
 .unfold Z.guard at e;split at e
  .rename_i h;cases e;exact⟨_,_,rfl,rfl,pj h,rfl⟩
  .cases e
 .cases e
theorem EX{K:Ch}:AR K (BJ λ i j=>.int<|i+j) Z.uS:=jA (λ dx dy d e=>by
 unfold Z.uS at e;split at e
 .cases e;exact⟨_,_,rfl,rfl,rfl⟩
 .cases e) λ _ _ _=>cu
end
end ZS
namespace ZQ
open PySem PySem.Spec PyProof.Rows L2 ZS
section
theorem yU(hN:X.N.Nodup)(hi:X.N[i]?=Y! x)(hx:Loc X.env.scope x)(he:QE X a fa)(hf:Fl X x:=by trivial):
 QS X H0 (.AugAssign (.Name x pos') .Mult a pos) (Z.bq i<|Z.eB Z.nR (Z.eV i) fa):=⟨ZS.C_ hN hi hx Cw H_ he.p hf⟩
theorem F'(hN:X.N.Nodup)(hi:X.N[i]?=Y! x)(hx:Loc X.env.scope x)(he:QE X a fa)(hf:Fl X x:=by trivial):
 QS X H0 (.AugAssign (.Name x pos') .Add a pos) (Z.bq i<|Z.eB Z.uS (Z.eV i) fa):=⟨ZS.C_ hN hi hx Fx EX he.p hf⟩
end
end ZQ
namespace Pe
open PySem PySem.Spec PyProof.Rows
section
variable {St:Nat->η->Prop}
abbrev two(b:Z_)(c:Nat):ζ:={cls:=.type "list",data:=.seq #[b,b] c}
abbrev lp(I S:Z')(kw:Y' (Str×Z_)):Code:=.builtin "max.loop" ⟨[.ref I,.none,.ref S],kw⟩
theorem nm:(toString "max"++toString ".loop")="max.loop":=by decide
theorem go(W:Walks prog w A.in1 I fp wr n P St)(hc:CmpOf prog w A.in1 .Gt P bt)(out:S∉fp)(kw:Y' (Str×Z_)):
 ∀k j s b c,n=j+1+k->St (j+1) s.heap->P (argBest bt j) b->s.heap.get? S=Y! (two b c) ->
  (∀v h' tk,P (argBest bt<|n-1) v->(∀a o,a≠S->a∉wr->s.heap.get? a=Y! o->h'.get? a=Y! o)->R (.ok<|.ret v) {s with heap:=h',toks:=tk}) ->
  codeAny (model prog w) A (lp I S kw) R s:=by
 have ow:=λ z=>out<|W.sub S z;have J_:∀{h:η}{a}{o} f,a≠S->h.get? a=Y! o->(h.update S f).get? a=Y! o:=λ f ne e=>(A18 _ _<|P3 ne).trans e;intro k
 induction k with
 |zero=>intro j s b c hn st pb gS fin;refine A48 A84 ?_;rw[A49 A20<|⟨[.ref I,.none,.ref S],kw⟩];refine T0<|Z9 gS rfl<|T0<|A04<|W.done s _ _ (by rw[hn];exact st) λ h1 t1 k1=>?_;have g1:=k1 S _ ow gS;refine T0<|A50 g1 rfl<|T0<|A13<|Y0 ?_;refine fin b _ t1 (by rw[hn];exact pb) λ a o ne nw e=>J_ _ ne<|k1 a o nw e
 |succ k ih=>
  intro j s b c hn st pb gS fin;refine A48 A84 ?_;rw[A49 A20<|⟨[.ref I,.none,.ref S],kw⟩];refine T0<|Z9 gS rfl<|T0<|A04<|W.item (j+1) s _ _ (by lia) st λ v h1 t1 pv sd k1=>?_;have g1:=k1 S _ ow gS;refine T0<|Y0 ?_;refine T0<|A04<|v6<|T0<|hc (j+1) (argBest bt j) v b _ _ _ pv pb<|T0<|v6<|A39<|T0<|A13<|Y0 ?_;have j!:=λ f=>W.frame _ _ _ sd λ a ha o e=>J_ f (λ z=>out<|z▸ha) e;cases q:bt (j+1) (argBest bt j)with
  |true=>simp only[Z8];refine T0<|A50 g1 rfl<|T0<|A13 ?_;rw[nm];refine Y0 ⟨A29 A20 _,ih (j+1) _ v _ (by lia) (j! _) (by simp only[argBest,q,Z8];exact pv) (A35 _ g1 rfl) λ v' h2 t2 Lx k2=>?_⟩;exact fin v' h2 t2 Lx λ a o ne nw e=>k2 a o ne nw<|J_ _ ne<|k1 a o nw e
  |false=>simp only[A11,A33];refine T0<|A13 ?_;rw[nm];refine Y0 ⟨A29 A20 _,ih (j+1) _ b c (by lia) sd (by simp only[argBest,q,A11,A33];exact pb) g1 λ v' h2 t2 Lx k2=>?_⟩;exact fin v' h2 t2 Lx λ a o ne nw e=>k2 a o ne nw<|k1 a o nw e
theorem first(W:Walks prog w A.in1 I fp wr n P St)(hc:CmpOf prog w A.in1 .Gt P bt)(out:S∉fp)(st:St 0 s.heap)(gS:s.heap.get? S=Y! {cls:=.type "list",data:=.seq #[] c})
 (none_:n=0->∀h' tk,(∀a o,a≠S->a∉wr->s.heap.get? a=Y! o->h'.get? a=Y! o)->R (.ok<|.ret d) {s with heap:=h',toks:=tk})
 (fin:0<n->∀v h' tk,P (argBest bt<|n-1) v->(∀a o,a≠S->a∉wr->s.heap.get? a=Y! o->h'.get? a=Y! o)->R (.ok<|.ret v) {s with heap:=h',toks:=tk}) :
 codeAny (model prog w) A (lp I S [(x,d)]) R s:=by
 have ow:=λ z=>out<|W.sub S z;have J_:∀{h:η}{a}{o} f,a≠S->h.get? a=Y! o->(h.update S f).get? a=Y! o:=λ f ne e=>(A18 _ _<|P3 ne).trans e;refine A48 A84 ?_;rw[A49 A20 _];by_cases h0:n=0
 .subst h0;refine T0<|Z9 gS rfl<|T0<|A04<|W.done s _ _ st λ h1 t1 k1=>?_;refine T0<|A78<|Y0 ?_;exact none_ rfl h1 t1 λ a o _ nw e=>k1 a o nw e
 .have hp:=Nat.pos_of_ne_zero h0;refine T0<|Z9 gS rfl<|T0<|A04<|W.item 0 s _ _ hp st λ v h1 t1 pv sd k1=>?_;have g1:=k1 S _ ow gS;refine T0<|Y0 ?_;refine T0<|A50 g1 rfl ?_;rw[nm];refine Y0 ⟨A29 A20 _,go W hc out [(x,d)] (n-1) 0 _ v _ (by lia) (W.frame _ _ _ sd λ a ha o e=>J_ _ (λ z=>out<|z▸ha) e) pv (A35 _ g1 rfl) λ v' h2 t2 Lx k2=>?_⟩;exact fin hp v' h2 t2 Lx λ a o ne nw e=>k2 a o ne nw<|J_ _ ne<|k1 a o nw e
theorem args(a d:Z_):argsOk "max" ⟨[a],[(At "default",d)]⟩:=by kernel_rfl
theorem binds(d:Z_):FM "max" ["key","default"] 0 ⟨[],[(At "default",d)]⟩=pure [AC,Y! d]:=by kernel_rfl
theorem call
 (h:Db (model prog w) A.in1 (pyIter x) (λ it s2=>∃ I fp wr n P St bt,it=.ref I/\Walks prog w A.in1 I fp wr n P St/\St 0 s2.heap/\(∀ b∈fp,b<s2.heap.objs.size)/\CmpOf prog w A.in1 .Gt P bt /\
  (n=0->∀h' tk,(∀a o,a∉wr->s2.heap.get? a=Y! o->h'.get? a=Y! o)->Q d {s2 with heap:=h',toks:=tk}) /\
  (0<n->∀v h' tk,P (argBest bt<|n-1) v->(∀a o,a∉wr->s2.heap.get? a=Y! o->h'.get? a=Y! o)->Q v {s2 with heap:=h',toks:=tk})) E s) :
 Db (model prog w) A (PySem.call (.builtin "max") [x] [(At "default",d)]) Q E s:=by
 refine kmk_tree PySem.F.kind_max PySem.F.plain_max PySem.F.entry_max (args x d) ?_;show Db _ A.in1 (FM "max" ["key","default"] 0 ⟨[],[(At "default",d)]⟩>>=_) _ _ s;rw[binds];refine T0<|Y0<|T0<|Y0<|T0<|Z5 h (λ it s2 q=>?_) λ _ _ e=>e;obtain⟨I,fp,wr,n,P,St,bt,rfl,W,st,lt,hc,q0,q1⟩:=q;refine T0<|A34 ?_;have out:=λ z=>A51 _<|lt _ z;have keep:∀{h':η},(∀a o,a≠s2.heap.objs.size->a∉wr->(s2.heap.push {cls:=.type "list",data:=.seq #[]}).get? a=Y! o->h'.get? a=Y! o)->∀a o,a∉wr->s2.heap.get? a=Y! o->h'.get? a=Y! o:=
  λ k a o nw e=>k a o (Z4<|Y1 e) nw<|W1 _ e
 rw[nm];refine Y0 ⟨A29 A20 _,first W hc out (W.frame _ _ _ st λ a _ o e=>W1 _ e) (Y5 _ rfl) (λ z h' tk k=>q0 z h' tk<|keep k) λ z v h' tk pv k=>q1 z v h' tk pv<|keep k⟩
end
section
variable {St:Nat->η->Prop}
end
end Pe
namespace ZS
open PySem PySem.Spec PyProof.Rows L2
section
variable {X:Cx}
theorem Fc(bD:X.calm=AT)(I:Inv X π σ H s)(hq:gJ X.K H q (ns.map V.int))(w:Q (.int<|Z.Kh k ns) H):
 Db (model X.prog X.w) X.A (call (.builtin "max") [.ref q] [(At "default",.int k t)]) (EP X π σ Q) X.xe s:=by
 obtain⟨aU,rv,pl,hz⟩:=I.list hq;have hl:=rv.length;rw[v4]at hl;have iS:q<s.heap.objs.size:=by obtain⟨_,e,_⟩:=pl.isList;exact Y1 e
 have hh:X.A.in1.handled=AC:=I.ok.hd bD;have item:∀(i:Nat) v,aU.toArray[i]?=Y! v->∃u,v=Value.int (ns[i]?.getD 0) u:=by
  intro i v hv;have hi:aU[i]?=Y! v:=by simpa using hv
  obtain⟨OY,_⟩:=Y3.mp hi;have hb:(ns.map V.int)[i]?=Y! (V.int<|ns[i]'(by lia)):=by rw[Z3,M2];rfl
  obtain⟨u,hu,ru⟩:=rv.get hb;rw[hi]at hu;cases hu;obtain⟨u,rfl⟩:=ru;exact⟨u,by rw[M2];rfl⟩
 have I1:Inv X π σ H {s with heap:=s.heap.push {cls:=.type "list_iterator",data:=.fields #[.ref q,.int 0 0]}}:=I.kept λ b o e=>W1 _ e;obtain⟨f0,f1,f2,f3,f4,f5⟩:=I.qB (Z0 s.heap.objs.size) I.fresh;have I2:∀h' tk,(∀b o,b∉[s.heap.objs.size]->(s.heap.push {cls:=.type "list_iterator",data:=.fields #[.ref q,.int 0 0]}).get? b=Y! o->h'.get? b=Y! o)->Inv X π σ H {s with heap:=h',toks:=tk}:=λ h' tk hk=>by have z:=I1.turned (t':=tk) (λ b o hb e=>hk b o (by simpa using hb) e) f0 f1 f3 f4 f5;exact z
 refine Pe.call<|A43 pl.isList ?_;refine⟨s.heap.objs.size,[s.heap.objs.size,q],[s.heap.objs.size],aU.toArray.size,_,_,λ i j=>decide<|ns[i]?.getD 0>ns[j]?.getD 0,rfl,A94 hh s.heap.objs.size q (Z4 iS) aU.toArray,⟨⟨_,Y5 _ rfl,rfl,rfl⟩,pl.isList.push _⟩,?_,CmpOf.ints_gt (λ i=>ns[i]?.getD 0) item,λ h0 h' tk hk=>?_,λ hp v h' tk hv hk=>?_⟩
 .intro b hb;rw[A36];rcases Y2.mp hb with rfl|hb
  .exact A38 _
  .rw[A03.mp hb];exact A93 iS
 .refine⟨.int k,H,I2 h' tk hk,⟨t,rfl⟩,?_⟩;have:ns=[]:=by rw[Z2]at h0;exact List.length_eq_zero_iff.mp (by lia)
  subst this;exact w
 .obtain⟨u,rfl⟩:=item _ _ hv;obtain⟨b1,b2⟩:=argBest_gt (λ i=>ns[i]?.getD 0) (aU.toArray.size-1);rw[Z2]at hp;have hM:ns[argBest (λ i j=>decide<|ns[i]?.getD 0>ns[j]?.getD 0) (aU.toArray.size-1)]?.getD 0=Z.Kh k ns:=by
   refine(Z.IC ?_ λ m hm=>?_).symm
   .rw[Z2]at b1 ⊢;rw[M2 (by lia)];exact A90 _
   .obtain⟨j,hj,rfl⟩:=B50 hm;have:=b2 j (by rw[Z2];lia);rw[M2 hj]at this;exact this
  refine⟨.int<|Z.Kh k ns,H,I2 h' tk hk,⟨u,by rw[hM]⟩,w⟩
theorem _root_.ZQ.F_(hg:Gl X x)(hm:X.mg x=AC)(hv:bootBuiltins x=Y! (.builtin "max"))(ha:ZQ.QW X a fa)(hb:ZQ.QE X c fc)(hc:X.calm=AT:=by rfl)(hn:x≠ "__name__":=by decide +kernel)(c_:(x==("__debug__"))=Z!:=by decide +kernel)
 (he:Se a [] X.env:=by rfl) (FJ:backTo pos (starEach (a::[]) X.env)=(Z!,eval a X.env)::backTo pos (starEach [] X.env):=by rfl) (da:(backTo pos<|starEach (a::[]) X.env).any (·.1)=Z!:=by rfl) :
 ZQ.QE X (.Call (.Name x p1) [a] [⟨Y!<|Str.ofString "default",c,kp⟩] pos) (Z.eB Z.yy fa fc):=⟨by
 intro π s σ H Q I h;obtain⟨ρ,d,r,e,k⟩:=h;obtain⟨dx,ea,e⟩:=Z.Res.aw e;obtain⟨dy,eb,e⟩:=Z.Res.aw e;obtain⟨ns,n,rfl,rfl,rfl⟩:=Z.B5 e;refine A32<|iN I hg hm hv ?_ hn c_;refine callWith_kw ?_ FJ da;refine b8 (aS ha.p bM he pos π s σ H (λ vs H1=>∃v,vs=[v]/\ax H H1/\bc X.K H1 _ v) I ⟨ρ,_,r,ea,λ v H1 s1 d1=>⟨v,rfl,s1,d1⟩⟩) λ us s1 ⟨vs,H1,I1,r1,q1⟩=>?_;obtain⟨v,rfl,sm,d1⟩:=q1;obtain⟨u,rfl,ru⟩:=vals1 r1;refine kws_cons<|b8 (hb.p π s1 σ H1 (λ y H2=>ax H1 H2/\y=.int n) I1 ⟨ρ,_,r.up sm,eb,λ y H2 s2 dy=>⟨s2,by simpa only[Den]using dy⟩⟩) λ w s2 ⟨y,H2,I2,r2,q2⟩=>kws_nil ?_;obtain⟨qc,rfl⟩:=q2;obtain⟨t,rfl⟩:=r2;obtain⟨q,vs,rfl,hq,tt⟩:=(d1.up qc).lst;rw[mZ tt]at hq;cases ru;exact Fc hc I2 hq<|k _ H2 (sm.trans qc) cu⟩
end
end ZS
namespace ZQ
open PySem PySem.Spec PyProof.Rows L2 ZS
section
end
end ZQ
namespace ZS
open PySem PySem.Spec PyProof.Rows L2
section
end
end ZS
namespace ZQ
open PySem PySem.Spec PyProof.Rows L2 ZS
section
end
end ZQ
noncomputable section
namespace Z
def xf(e:EF)(ρ:Env)(d:D):Res Int:=(e<|some (.val d)::ρ).bind λ y=>match y with
|.int k=>.ok k
|_=>.bad
theorem Fo(h:xf e ρ d=.ok k):e (Y! (.val d)::ρ)=.ok (.int k):=by
 obtain⟨y,e1,e2⟩:=Res.aw h;split at e2
 .cases e2;exact e1
 .cases e2
theorem IS(h:e (Y! (.val d)::ρ)=.ok (.int k)):xf e ρ d=.ok k:=by unfold xf;rw[h];rfl
def AQ(mx:Bool)(k kb:Int):Bool:=if mx=AT then decide (k>kb)else decide (k<kb)
def CJ(mx:Bool)(e:D->Res Int)(b:D)(kb:Int):Y' D->Res D
|[]=>.ok b
|d::r=>(e d).bind λ k=>if AQ mx k kb=AT then CJ mx e d k r else CJ mx e b kb r
def pickK(mx:Bool)(z:Res D)(e:D->Res Int):Y' D->Res D
|[]=>z
|d::r=>(e d).bind λ k=>CJ mx e d k r
def vv(mx:Bool)(z:Res D)(a:EF)(is:Y' Nat)(e:EF)(ρ:Env):Res D:=(a ρ).bind λ x=>match x with
|.lst ds=>pickK mx z (xf e<|fM ρ is) ds
|_=>.bad
end Z
end
noncomputable section
namespace Z
end Z
end
namespace ZS
open PySem PySem.Spec PyProof.Rows L2 PySem.W
section
theorem Off.Iq(o:Off X π H C)(ok:X.Ok):C∉X.fs:=λ hb=>by obtain⟨_,ob,ho,_⟩:=ok.jk.mem hb;exact absurd (Z6 (Y1 ho) o.new)<|A51 _
theorem Off.L8(o:Off X π H C)(I:Inv X π σ H s):C∉pJ X.stack:=λ hb=>by
 rcases Y2.mp (I.mB C hb)with z|z
 .exact o.loc z
 .exact o.Iq I.ok z
theorem Off.up(o:Off X π H C)(h:H' C=AC):Off X π H' C:=⟨h,o.loc,o.new,o.cell,o.pin⟩
theorem Off.fresh(I:Inv X π σ H s)(hC:s.heap.objs.size<=C)(h:H' C=AC):Off X π H' C where
 free:=h
 loc:=A31<|Z6 I.lt hC
 new:=A06 I.sz hC
 cell:=λ x c e=>by obtain⟨v,o,ho,_⟩:=I.cell x c e;exact Z4<|Z6 (Y1 ho) hC
 pin:=λ p hp=>Z4<|Z6 (Y1 (I.pin p hp).1) hC
theorem Al{pos q:Pos}(l:Y' Z_)(h:TriplesOk l)(e:codeAmong q (l++[rawInt pos.line,rawInt pos.col,c])=Y! cv):codeAmong q l=Y! cv\/cv=c:=by
 fun_induction TriplesOk l with
 |case1=>
  simp only[B25,codeAmong,rawInt]at e;split at e
  .cases e;exact .inr rfl
  .cases e
 |case2 a t b u x rest ih=>
  simp only[Yg,codeAmong]at e ⊢;split at e
  .rename_i hc;rw[Z1 hc];exact .inl e
  .rename_i hc;rw[v0 hc];exact ih h e
 |case3 l h1 h2=>exact h.elim
structure zc(X:Cx)(π:List (Addr×Obj))(q:Str)(params:Arguments)(body:Expr)(scope:Scope)(cl:List (Str×Addr))(H:Hp)(s:Shared)(f c':Addr)(pm nD:Value):Prop where
 off:Off X π H f
 obj:s.heap.get? f=Y! (kla_obj "<lambda>" q params body scope cl pm c' nD)
 code:H c'=Y! (.D5 q)
theorem uZ(hx:x∈cg)(ht:tabIn X.K x=Y! (c,P))(G7:X.env.code=.ref c)(hq:X.env.qual++ "<lambda>"=gM x)
 (sZ:defaultsOf params X.env=([],[])) (h!:closureFor scope X.env=pure cl) (I:Inv X π σ H s) :
 Db (model X.prog X.w) X.A (eval (.Lambda params body scope pos) X.env) (λ r s'=>∃f c' pm nD H',r=.ref f/\Inv X π σ H' s'/\ax H H'/\zc X π (gM x) params body scope cl H' s' f c' pm nD) X.xe s:=by
 refine kla_eval sZ ?_;rw[hq];obtain⟨hT,hC,bm,ob,b1,b2,b3,b4,b5,b6⟩:=I.tab x hx c P ht;obtain⟨ps,g,N4,am⟩:=I.bI P _ hT;have TV:=I.mod.glob.keeps I.bk;have He:∀b o,X.base.get? b=Y! o->b≠P:=λ b o e z=>by have:=(I.bs b o e).2;rw[z,hT]at this;cases this
 have Wf:mainGlobals≠P:=by obtain⟨o,es,ep,e,_⟩:=I.mod.glob;exact He _ _ e
 have Wt:bm≠mainGlobals:=λ z=>by obtain⟨o,es,ep,e,hd,_⟩:=I.mod.glob;rw[z,e]at b3;cases b3;rw[hd]at b6;cases b6
 have hB:s.heap.BuiltinsAt X.mg P:=⟨bm,ob,b1,b2,Wt,He _ _ b3,I.bk _ _ b3,b4,b5,b6⟩
 cases hf:codeAmong pos ps.toList with
 | some cv=>obtain⟨c',rfl,v_⟩:=am pos cv hf;refine kla_makeFunctionHit (mg:=X.mg) h! I.ok.glob TV G7 (hC.keeps I.bk) g N4 hf hB λ nD h' tk hk DV=>?_;have I':Inv X π σ H {s with heap:=h'.push<|kla_obj "<lambda>" (gM x) params body scope cl ((X.mg "__name__").getD .none) c' nD,toks:=tk}:=I.kept λ b u e=>W1 _<|hk b u e;exact⟨_,c',_,nD,H,rfl,I',ax.refl H,⟨Off.fresh I DV<|I.bI.fresh DV,Y5 _ rfl,v_⟩⟩
 |none=>
  refine kla_makeFunction (mg:=X.mg) h! I.ok.glob TV G7 (hC.keeps I.bk) g N4 hf Wf hB λ c' nD h' tk AJ OZ iS Jb VU=>?_;have hn:H c'=AC:=I.bI.fresh OZ;have kp:∀b o,b≠P->s.heap.get? b=Y! o->(h'.push<|kla_obj "<lambda>" (gM x) params body scope cl ((X.mg "__name__").getD .none) c' nD).get? b=Y! o:=λ b o hb e=>W1 _<|AJ b o hb e;have QV:∀b,H b=AC->b≠P:=λ b e z=>by rw[z,hT]at e;cases e
  have Iw:∀b u,H b=Y! u->b≠c':=λ b u e=>aP e hn;have Vv:∀b o,s.heap.get? b=Y! o->b≠c':=λ b o e=>Z4<|Z6 (Y1 e) OZ;have hP:(h'.push<|kla_obj "<lambda>" (gM x) params body scope cl ((X.mg "__name__").getD .none) c' nD).get? P=Y! (tabObj<|ps++#[rawInt pos.line,rawInt pos.col,.ref c']):=W1 _ VU;have un:Un X.fs [] H (upd H c'<|.D5<|gM x) s.heap (h'.push<|kla_obj "<lambda>" (gM x) params body scope cl ((X.mg "__name__").getD .none) c' nD):=by
   refine⟨λ b o e n _ _=>kp b o (QV b n) e,λ b o e n _ _=>⟨o.slots,kp b o (QV b n) e⟩,λ b o e n _=>by rw[aA<|Vv b o e];exact n,λ b o e _=>?_,λ b xs e=>by rw[aA<|Iw _ _ e];exact e,λ b o u e=>by rw[aA<|Iw _ _ e];exact e,λ b u _ e=>by rw[aA<|Iw _ _ e];exact e⟩;by_cases hb:b=P
   .exact⟨_,hb▸hP⟩
   .exact⟨o,kp b o hb e⟩
  have bI:mm X.prog X.w (upd H c'<|.D5<|gM x) (h'.push<|kla_obj "<lambda>" (gM x) params body scope cl ((X.mg "__name__").getD .none) c' nD):=λ b u e=>by
   by_cases hb:b=c'
   .subst hb;rw[aI]at e;cases e;obtain⟨c2,oc,vs,t,e2,OS,r⟩:=Jb;cases e2;exact⟨_,oc,vs,t,rfl,W1 _ OS,r⟩
   .rw[aA hb]at e;by_cases TZ:b=P
    .subst TZ;rw[hT]at e;cases e;refine⟨_,hP,by rw[XV];exact TriplesOk_snoc _ _ _ _ N4,λ p cv e2=>?_⟩;rw[XV]at e2;rcases Al _ N4 e2 with z|rfl
     .obtain⟨c2,e3,e4⟩:=am p cv z;exact⟨c2,e3,by rw[aA<|Iw _ _ e4];exact e4⟩
     .exact⟨c',rfl,aI⟩
    .refine(I.bI b u e).j! (λ b2 v hc q=>kp b2 v ?_ q) (λ b2 q=>by rw[aA<|Iw _ _ q];exact q) (λ b2 xs q=>by rw[aA<|Iw _ _ q];exact q) λ b2 v _ q=>by rw[aA<|Iw _ _ q];exact q
     rcases hc with rfl|hc
     .exact TZ
     .exact L? hc hT λ z=>nomatch z
  have MV:(upd H c'<|.D5<|gM x) h'.objs.size=AC:=by rw[aA<|A31 iS];exact I.bI.fresh<|A52<|Nat.lt_of_le_of_lt OZ iS
  exact⟨_,c',_,nD,_,rfl,I.un (t':=tk) un bI,bV hn,⟨Off.fresh I (A52<|Nat.lt_of_le_of_lt OZ iS) MV,Y5 _ rfl,aI⟩⟩
end
abbrev w9(X:Cx)(N':Y' Str)(q:Str)(scope:μ)(cl:Y' (Str×Z'))(f c':Z')(s₂:δ)(H₂:Hp):Cx:=
 {prog:=X.prog,w:=X.w,K:=X.K,mg:=X.mg,base:=X.base,A:=X.A.in1.deeper<|envX q scope s₂.heap.objs.size f (.ref c') cl,N:=N',s₀:=s₂,H₀:=H₂,env:=envX q scope s₂.heap.objs.size f (.ref c') cl,outer:=X.stack,stack:=envX q scope s₂.heap.objs.size f (.ref c') cl::X.stack,ex:=[],fn:=λ _=>Z!,calm:=AT,pn:=[],xe:=λ _ _=>False}
section
theorem HJ{K:Ch}(h:RE K H σ ρ)(hd:Den K H d v):RE K H (Y! v::kK σ 0 is) (Y! (.val d)::Z.fM ρ is):=by
 have R:=BI (n:=0) (is:=is) h<|ax.refl H;refine⟨by simp[kK,Z.fM],λ i l e=>?_,λ i j xs ys a e1=>?_⟩
 .cases i with
  |zero=>simp only[B83,A99]at e;subst e;exact⟨v,rfl,hd⟩
  |succ i=>obtain⟨u,h1,h2⟩:=R.re.get i l (by simpa using e);exact⟨u,by simpa using h1,h2⟩
 .cases i with
  |zero=>simp at e1
  |succ i=>exact absurd (by simpa using e1)<|dN 0 is ρ i xs
theorem u0(bD:X.calm=AT)(l7:X.A.in1.depth<recursionLimit)(B:n? X.N N' 1 is scope X.env.scope)(DU:N'[0]?=Y! x)(sY:scope.isGenerator=Z!)(CF:scope.isCoroutine=Z!)
 (jG:∀u,bindArgs (kla_fn "<lambda>" q params body scope cl pm (.ref c') nD) ⟨[u],[]⟩=pure [(x,u)])
 (fW:∀x c,cl.lookup x=Y! c->X.env.cells.lookup x=Y! c) (mP:∀y∈scope.names,y.2=.free->(cl.lookup y.1).isSome=AT)
 (he:∀cl f c' s H,DE (w9 X N' q scope cl f c' s H) body fe)
 (L:zc X π q params body scope cl H s f c' pm nD) (I:Inv X π σ H s) (re:RE X.K H σ ρ) (rv:RelV v u) (dv:Den X.K H d v) (ek:Z.xf fe (Z.fM ρ is) d=.ok k) :
 Db (model X.prog X.w) X.A.in1 (call (.ref f) [u]) (λ r s'=>∃t H',r=.int k t/\ax H H'/\Un (pJ X.stack) [] H H' s.heap s'.heap/\mm X.prog X.w H' s'.heap/\AllBare s'.gens/\s'.os=s.os) E s:=by
 have Jb:=I.bI c' _ L.code;obtain⟨x0,MB,Q!⟩:=B.own 0 (Nat.zero_lt_one);rw[DU]at MB;cases MB;refine A44<|kla_callFunE l7 L.obj rfl CF sY rfl Jb ?_;rw[jG];refine Y0<|wpAny_newFunctionEnv B.cell (λ y hy=>by rw[A03.mp hy];exact Q!) (λ h₁ DX TC=>⟨I.nolimit.fresh _ TC,?_⟩) B.kind;show codeAny _ _ (.expr body<|envX q scope s.heap.objs.size f (.ref c') cl) _ _;have old:=λ b o e=>TC.extBut b o (Z4<|Y1 e)<|W1 _ e;have Jj:=I.bI.fresh<|Z0 _;have ok:(w9 X N' q scope cl f c' s H).Ok:=by
  refine⟨I.ok.mod,B.kind,rfl,rfl,Z0 _,λ x y c e1 e2=>I.ok.inj x y c (fW x c e1)<|fW y c e2,λ y hy=>?_,λ y c hf=>(by cases hf),λ _=>I.ok.hd bD,B35 I.ok.frames,.inr ⟨rfl,rfl⟩,
   λ b hb=>absurd (show b∈([]:Y' Z')from hb) (by simp),I.bs,A06 I.ok.As I.sz,λ b o _ hb=>absurd (show b∈([]:Y' Z')from hb) (by simp),λ b hb=>absurd (show b∈([]:Y' Z')from hb) (by simp),I.stack,I.oh⟩
  have IZ:=hy;rcases IZ with z|z
  .exact absurd rfl<|B.cell _<|A40 z
  .exact A61.mp<|mP _ (A40 z) rfl
 have p6:∀x c,X.env.cells.lookup x=Y! c->c<s.heap.objs.size/\∀v,s.heap.IsCell c v->h₁.IsCell c v:=λ x c e=>by obtain⟨v,o,ho,hd⟩:=I.cell x c e;exact⟨Y1 ho,λ v' ⟨o',k9,nV⟩=>⟨o',old c o' k9,nV⟩⟩
 have I4:Inv (w9 X N' q scope cl f c' s H) [] (Y! v::kK σ 0 is) H {s with heap:=h₁,toks:=s.toks + [(x,u)].length}:=by
  refine⟨ok,rfl,I.bare,Un.kept old,⟨_,DX,λ i y w e1 e2 e3=>?_⟩,λ y c e=>?_,Jj,λ y c e=>I.dJ y c<|fW y c e,λ p hp=>absurd (show p∈([]:Y' (Z'×ζ))from hp) (by simp),I.bI.kept old,?_,I.tab⟩
  .cases i with
   |zero=>have G':=e1;rw[DU]at G';cases G';simp only[B83,A99]at e2;subst e2;refine⟨u,rv,.inl ⟨Q!,?_⟩⟩;simp
   |succ i=>
    have D4:(kK σ 0 is)[i]?=Y! (Y! w):=by simpa using e2
    unfold kK at D4;simp only[List.replicate_zero,B25,Z3]at D4;cases r:is[i]? with
    |none=>rw[r]at D4;cases D4
    |some j=>
     rw[r]at D4;simp only[A47]at D4;obtain⟨x',c1,c2,c3⟩:=B.Uq i j r;have G':=e1;rw[show i+1=1+i from A66 _ _,c1]at G';cases G';have hσ:σ[j]?=Y! (Y! w):=by
      cases r2:σ[j]? with
      |none=>rw[r2]at D4;cases D4
      |some z=>
       rw[r2]at D4;have:z=Y! w:=by simpa using D4
       rw[this]
     obtain⟨m,hn,hl⟩:=I.loc;have hm:=A40 c3;have hk:=B.free _ hm rfl;have I?:AD X.env.scope y:=by
      rcases hk with k|k
      .exact .inr<|.inl k
      .exact .inr<|.inr k
     obtain⟨u',ru,lk⟩:=hl j y w c2 hσ I?;refine⟨u',ru,?_⟩;rcases lk with⟨k1,_⟩|⟨k1,c,hc,nA⟩
     .have Fp:X.env.scope.names.lookup y=Y! .local:=k1;rcases hk with k|k
      .rw[k]at Fp;cases Fp
      .rw[k]at Fp;cases Fp
     .obtain⟨O',v_⟩:=A61.mp (mP _ hm rfl);have:O'=c:=by have:=fW y O' v_;rw[hc]at this;exact(Y4 this).symm
      subst this;exact .inr ⟨.inr c3,O',v_,(p6 y O' hc).2 _ nA⟩
  .obtain⟨v',hv⟩:=I.cell y c (fW y c e);exact⟨v',(p6 y c<|fW y c e).2 v' hv⟩
  .have:=B.len;simp[kK,this,A66]
 refine kla_codeExpr<|Z5 (he cl f c' s H [] _ _ H (λ v' H'=>ax H H'/\v'=.int k) I4 ⟨_,_,HJ re dv,Z.Fo ek,λ v' H' s' d'=>⟨s',by simpa only[Den]using d'⟩⟩) (λ r s' hq=>?_) λ e s' hq=>hq.elim;obtain⟨v',H',J,Qk,sm,rfl⟩:=hq;obtain⟨t,rfl⟩:=Qk;exact⟨t,H',rfl,sm,J.base,J.bI,J.bare,J.os⟩
end
abbrev held(b:Z_)(k:Z_)(c:Nat):ζ:={cls:=.type "list",data:=.seq #[b,k] c}
structure Uz(X:Cx)(π:List (Addr×Obj))(σ:St)(H₀:Hp)(l I S:Addr)(vs:List V)(H:Hp)(s:Shared)(j i:Nat)(kb:Int):Prop where
 inv:Inv X π σ H s
 sm:ax H₀ H
 it:s.heap.IsListIter I l j
 wV:Off X π H I
 mE:Off X π H S
 best:∃b v tb c,vs[i]?=Y! v/\RelV v b/\s.heap.get? S=Y! (held b (.int kb tb) c)
section
theorem lV(bD:X.calm=AT)(I1:Inv X π σ H s)(hq:gJ X.K H l vs)(it:s.heap.IsListIter I l j)(oI:Off X π H I)(hj:j<vs.length)
 (h:∀u v h' tk,vs[j]?=Y! v->RelV v u->Inv X π σ H {s with heap:=h',toks:=tk}->h'.IsListIter I l (j+1)->(∀b o,b≠I->s.heap.get? b=Y! o->h'.get? b=Y! o)->Q (Y! u) {s with heap:=h',toks:=tk}) :
 Db (model X.prog X.w) X.A.in1 (pyNext<|.ref I) Q E s:=by
 obtain⟨aU,rv,pl,hz⟩:=I1.list hq;have hl:=rv.length;have hh:=I1.ok.hd bD;have qf:l≠I:=by rintro rfl;obtain⟨o,e,hc,_⟩:=pl.isList;obtain⟨o2,e2,yL,_⟩:=it;rw[e]at e2;cases e2;rw[hc]at yL;exact absurd (Value.type.inj yL) (by decide)
 have W:=A94 (prog:=X.prog) (w:=X.w) (A:=X.A.in1) hh I l qf aU.toArray;refine W.item j s Q E (by rw[Z2,<-hl];exact hj) ⟨it,pl.isList⟩ λ u h' tk pv st k1=>?_;have hv:aU[j]?=Y! u:=by simpa using pv
 obtain⟨v,Kr⟩:∃v,vs[j]?=Y! v:=⟨vs[j],by simp[hj]⟩
 obtain⟨u',Ks,Vi⟩:=rv.get Kr;rw[hv]at Ks;cases Ks;have kp:=λ b o hb e=>k1 b o (by simpa using hb) e;exact h u v h' tk Kr Vi (I1.turned kp oI.free oI.loc (.inr oI.new) oI.cell oI.pin) st.1 kp
theorem pw(bD:X.calm=AT)(I1:Inv X π σ H s)(hq:gJ X.K H l vs)(it:s.heap.IsListIter I l j)(oI:Off X π H I)(hj:j=vs.length)
 (h:∀h' tk,Inv X π σ H {s with heap:=h',toks:=tk}->(∀b o,b≠I->s.heap.get? b=Y! o->h'.get? b=Y! o)->Q AC {s with heap:=h',toks:=tk}) :
 Db (model X.prog X.w) X.A.in1 (pyNext<|.ref I) Q E s:=by
 obtain⟨aU,rv,pl,hz⟩:=I1.list hq;have hl:=rv.length;have hh:=I1.ok.hd bD;have qf:l≠I:=by rintro rfl;obtain⟨o,e,hc,_⟩:=pl.isList;obtain⟨o2,e2,yL,_⟩:=it;rw[e]at e2;cases e2;rw[hc]at yL;exact absurd (Value.type.inj yL) (by decide)
 have W:=A94 (prog:=X.prog) (w:=X.w) (A:=X.A.in1) hh I l qf aU.toArray;refine W.done s Q E ⟨by rw[Z2,<-hl,<-hj];exact it,pl.isList⟩ λ h' tk k1=>?_;have kp:=λ b o hb e=>k1 b o (by simpa using hb) e;exact h h' tk (I1.turned kp oI.free oI.loc (.inr oI.new) oI.cell oI.pin) kp
def vU(X:Cx)(π:Y' (Z'×ζ))(σ:St)(H₀:Hp)(f:Z')(St:Hp->δ->Prop)(e:Z.D->Z.Res Int):Prop:=
 ∀(H:Hp)(s:δ)(u:Z_)(v:V)(d:Z.D)(k:Int),Inv X π σ H s->ax H₀ H->St H s->RelV v u->Den X.K H d v->e d=.ok k ->
  Db (model X.prog X.w) X.A.in1 (call (.ref f) [u]) (λ r s'=>∃t H',r=.int k t/\ax H H'/\Un (pJ X.stack) [] H H' s.heap s'.heap/\mm X.prog X.w H' s'.heap/\AllBare s'.gens/\s'.os=s.os) (λ _ _=>False) s
structure Dv(X:Cx)(π:List (Addr×Obj))(σ:St)(f:Addr)(St:Hp->Shared->Prop):Prop where
 off:∀H s,St H s->Off X π H f
 un:∀H H' s s',Inv X π σ H s->St H s->ax H H'->H' f=AC->(∀o,s.heap.get? f=Y! o->s'.heap.get? f=Y! o)->St H' s'
end
section
variable {St:Hp->δ->Prop}
theorem Ba(h:Q (.bool<|decide<|k>kb) s):Db (model prog w) A (richCompare .Gt (.int k t)<|.int kb tb) Q E s:=
 CmpOf.ints_gt (λ i=>if i=0 then k else kb) (λ i v h=>h) 0 1 _ _ _ _ _ ⟨t,rfl⟩ ⟨tb,rfl⟩ h
theorem zw(h:Q (.bool<|decide<|k<kb) s):Db (model prog w) A (richCompare .Lt (.int k t)<|.int kb tb) Q E s:=
 CmpOf.ints_lt (λ i=>if i=0 then k else kb) (λ i v h=>h) 0 1 _ _ _ _ _ ⟨t,rfl⟩ ⟨tb,rfl⟩ h
theorem oz(KO:vU X π σ H₀ f St e)(SY:Dv X π σ f St)(Iv:Inv X π σ H s)(sm:ax H₀ H)(st:St H s)(rv:RelV v u)(dv:Den X.K H d v)(ek:e d=.ok k)
 (oI:Off X π H I) (oS:Off X π H S){oi os:ζ}(gI:s.heap.get? I=Y! oi) (gS:s.heap.get? S=Y! os) (gf:∃o,s.heap.get? f=Y! o)
 (h:∀t H' s',Inv X π σ H' s'->ax H H'->St H' s'->Off X π H' I->Off X π H' S->s'.heap.get? I=Y! oi->s'.heap.get? S=Y! os->(∃o,s'.heap.get? f=Y! o)->Q (.int k t) s') :
 Db (model X.prog X.w) X.A.in1 (call (.ref f) [u]) Q E s:=by
 refine Z5 (KO H s u v d k Iv sm st rv dv ek) (λ x s' hq=>?_) λ _ _ z=>z.elim;obtain⟨t,H',rfl,GK,un,bI,bare,Qw⟩:=hq;have Xm:=Iv.Dn Qw un bI bare λ b hb=>absurd hb (by simp);have of:=SY.off H s st;have kp:∀{b}{o},Off X π H b->s.heap.get? b=Y! o->s'.heap.get? b=Y! o/\H' b=AC:=λ {b o} ob e=>⟨un.keep b o e ob.free (ob.L8 Iv) (by simp),un.free b o e ob.free (by simp)⟩
 obtain⟨fo,gf⟩:=gf;exact h t H' s' Xm GK (SY.un H H' s s' Iv st GK (kp of gf).2 λ o e=>(kp of e).1) (oI.up (kp oI gI).2) (oS.up (kp oS gS).2) (kp oI gI).1 (kp oS gS).1 ⟨fo,(kp of gf).1⟩
theorem w_(bD:X.calm=AT)(KO:vU X π σ H₀ f St e)(SY:Dv X π σ f St)(s?:S≠I)(xu:f≠I)(xt:f≠S)(hl:gJ X.K H₀ l vs)(dn:ay X.K H₀ ds vs)
 (fin:∀H s u v,Inv X π σ H s->ax H₀ H->RelV v u->Den X.K H r v->R (.ok<|.ret u) s) :
 ∀n j i H s kb db,ds.length=j+n->ds[i]?=Y! db->Z.CJ AT e db kb (ds.drop j)=.ok r->Uz X π σ H₀ l I S vs H s j i kb->St H s->(∃o,s.heap.get? f=Y! o) ->
  codeAny (model X.prog X.w) X.A (.builtin "max.loop" ⟨[.ref I,.ref f,.ref S],kw⟩) R s:=by
 have nm:(toString "max"++toString ".loop")="max.loop":=by decide
 have ς:=dn.length;intro n
 induction n with
 |zero=>
  intro j i H s kb db hn c_ eg L st gf;obtain⟨b,v,tb,c,hv,rb,gS⟩:=L.best;refine A48 A84 ?_;rw[A49 A20 _];refine T0<|Z9 gS rfl<|T0<|A04<|pw bD L.inv (L.sm.seq hl) L.it L.wV (by lia) λ h1 t1 I1 k1=>?_;have g1:=k1 S _ s? gS;refine T0<|A50 g1 rfl<|T0<|A13<|Y0 ?_;have hr:db=r:=by rw[B84 (by lia)]at eg;unfold Z.CJ at eg;cases eg;rfl
  subst hr;obtain⟨v',va,dv⟩:=dn.get c_;rw[hv]at va;cases va;exact fin H _ b v (I1.turned (t':=t1) (λ b o hb e=>(A18 _ _<|P3 hb).trans e) L.mE.free L.mE.loc (.inr L.mE.new) L.mE.cell L.mE.pin) L.sm rb<|dv.up L.sm
 |succ n ih=>
  intro j i H s kb db hn c_ eg L st gf;obtain⟨b,v,tb,c,hv,rb,gS⟩:=L.best;have hj:j<ds.length:=by lia
  obtain⟨dj,FH⟩:∃d,ds[j]?=Y! d:=⟨ds[j],by simp[hj]⟩
  have pE:ds.drop j=dj::ds.drop (j+1):=by
   rw[A79 hj];have:ds[j]=dj:=by have:=M2 hj;rw[this]at FH;exact Y4 FH
   rw[this]
  rw[pE]at eg;unfold Z.CJ at eg;obtain⟨k,ek,eg⟩:=Z.Res.aw eg;refine A48 A84 ?_;rw[A49 A20 _];refine T0<|Z9 gS rfl<|T0<|A04<|lV bD L.inv (L.sm.seq hl) L.it L.wV (by lia) λ u v1 h1 t1 xn BD I1 Q2 k1=>?_;have g1:=k1 S _ s? gS;obtain⟨oI,gI,rI⟩:=id Q2;obtain⟨of,gf⟩:=gf;have FP:=k1 f _ xu gf;obtain⟨v',va,dv⟩:=dn.get FH;rw[xn]at va;cases va;have sd:St H {s with heap:=h1,toks:=t1}:=SY.un H H s _ L.inv st (ax.refl H) (SY.off H s st).free λ o e=>k1 f o xu e;refine T0<|A04<|v6<|oz KO SY I1 L.sm sd BD (dv.up L.sm) ek L.wV L.mE gI g1 ⟨of,FP⟩ λ t2 H2 s2 I2 qc zB LY wW FQ Js M'=>?_;refine T0<|A04<|v6<|T0<|Ba<|T0<|v6<|A39<|T0<|A13<|Y0 ?_;have Bs:=L.sm.trans qc;have IW:s2.heap.IsListIter I l (j+1):=⟨oI,FQ,rI⟩
  by_cases hb:k>kb
  .simp only[hb,decide_true,Z8];refine T0<|A50 Js rfl<|T0<|A13 ?_;rw[nm];rw[Z1 (by unfold Z.AQ;simpa using hb)]at eg;have kp:∀b o,b≠S->s2.heap.get? b=Y! o->(s2.heap.update S<|Obj.mapSeq λ _=>#[u,.int k t2]).get? b=Y! o:=λ b o hb e=>(A18 _ _<|P3 hb).trans e;have I3:=I2.turned (t':=s2.toks) kp wW.free wW.loc (.inr wW.new) wW.cell wW.pin;refine Y0 ⟨A29 A20 _,ih (j+1) j H2 _ k dj (by lia) FH eg ⟨I3,Bs,⟨oI,kp I _ (P3 s?) FQ,rI⟩,LY,wW,u,v1,t2,_,xn,BD,A35 _ Js rfl⟩ (SY.un H2 H2 s2 _ I2 zB (ax.refl H2) (SY.off H2 s2 zB).free λ o e=>kp f o xt e)<|let ⟨o,e⟩:=M';⟨o,kp f o xt e⟩⟩
  .simp only[hb,B57,A11,A33];refine T0<|A13 ?_;rw[nm];rw[v0 (by unfold Z.AQ;simpa using hb)]at eg;exact Y0 ⟨A29 A20 _,ih (j+1) i H2 s2 kb db (by lia) c_ eg ⟨I2,Bs,IW,LY,wW,b,v,tb,c,hv,rb,Js⟩ zB M'⟩
theorem w?(bD:X.calm=AT)(KO:vU X π σ H₀ f St e)(SY:Dv X π σ f St)(s?:S≠I)(xu:f≠I)(xt:f≠S)(hl:gJ X.K H₀ l vs)(dn:ay X.K H₀ ds vs)
 (fin:∀H s u v,Inv X π σ H s->ax H₀ H->RelV v u->Den X.K H r v->R (.ok<|.ret u) s) :
 ∀n j i H s kb db,ds.length=j+n->ds[i]?=Y! db->Z.CJ Z! e db kb (ds.drop j)=.ok r->Uz X π σ H₀ l I S vs H s j i kb->St H s->(∃o,s.heap.get? f=Y! o) ->
  codeAny (model X.prog X.w) X.A (.builtin "min.loop" ⟨[.ref I,.ref f,.ref S],kw⟩) R s:=by
 have nm:(toString "min"++toString ".loop")="min.loop":=by decide
 have ς:=dn.length;intro n
 induction n with
 |zero=>
  intro j i H s kb db hn c_ eg L st gf;obtain⟨b,v,tb,c,hv,rb,gS⟩:=L.best;refine A48 B62 ?_;rw[A49 A67 _];refine T0<|Z9 gS rfl<|T0<|A04<|pw bD L.inv (L.sm.seq hl) L.it L.wV (by lia) λ h1 t1 I1 k1=>?_;have g1:=k1 S _ s? gS;refine T0<|A50 g1 rfl<|T0<|A13<|Y0 ?_;have hr:db=r:=by rw[B84 (by lia)]at eg;unfold Z.CJ at eg;cases eg;rfl
  subst hr;obtain⟨v',va,dv⟩:=dn.get c_;rw[hv]at va;cases va;exact fin H _ b v (I1.turned (λ b o hb e=>(A18 _ _<|P3 hb).trans e) L.mE.free L.mE.loc (.inr L.mE.new) L.mE.cell L.mE.pin) L.sm rb<|dv.up L.sm
 |succ n ih=>
  intro j i H s kb db hn c_ eg L st gf;obtain⟨b,v,tb,c,hv,rb,gS⟩:=L.best;have hj:j<ds.length:=by lia
  obtain⟨dj,FH⟩:∃d,ds[j]?=Y! d:=⟨ds[j],by simp[hj]⟩
  have pE:ds.drop j=dj::ds.drop (j+1):=by
   rw[A79 hj];have:ds[j]=dj:=by have:=M2 hj;rw[this]at FH;exact Y4 FH
   rw[this]
  rw[pE]at eg;unfold Z.CJ at eg;obtain⟨k,ek,eg⟩:=Z.Res.aw eg;refine A48 B62 ?_;rw[A49 A67 _];refine T0<|Z9 gS rfl<|T0<|A04<|lV bD L.inv (L.sm.seq hl) L.it L.wV (by lia) λ u v1 h1 t1 xn BD I1 Q2 k1=>?_;have g1:=k1 S _ s? gS;obtain⟨oI,gI,rI⟩:=id Q2;obtain⟨of,gf⟩:=gf;have FP:=k1 f _ xu gf;obtain⟨v',va,dv⟩:=dn.get FH;rw[xn]at va;cases va;have sd:St H {s with heap:=h1,toks:=t1}:=SY.un H H s _ L.inv st (ax.refl H) (SY.off H s st).free λ o e=>k1 f o xu e;refine T0<|A04<|v6<|oz KO SY I1 L.sm sd BD (dv.up L.sm) ek L.wV L.mE gI g1 ⟨of,FP⟩ λ t2 H2 s2 I2 qc zB LY wW FQ Js M'=>?_;refine T0<|A04<|v6<|T0<|zw<|T0<|v6<|A39<|T0<|A13<|Y0 ?_;have Bs:=L.sm.trans qc;have IW:s2.heap.IsListIter I l (j+1):=⟨oI,FQ,rI⟩
  by_cases hb:k<kb
  .simp only[hb,decide_true,Z8];refine T0<|A50 Js rfl<|T0<|A13 ?_;rw[nm];rw[Z1 (by unfold Z.AQ;simpa using hb)]at eg;have kp:∀b o,b≠S->s2.heap.get? b=Y! o->(s2.heap.update S<|Obj.mapSeq λ _=>#[u,.int k t2]).get? b=Y! o:=λ b o hb e=>(A18 _ _<|P3 hb).trans e;have I3:=I2.turned (t':=s2.toks) kp wW.free wW.loc (.inr wW.new) wW.cell wW.pin;refine Y0 ⟨A29 A67 _,ih (j+1) j H2 _ k dj (by lia) FH eg ⟨I3,Bs,⟨oI,kp I _ (P3 s?) FQ,rI⟩,LY,wW,u,v1,t2,_,xn,BD,A35 _ Js rfl⟩ (SY.un H2 H2 s2 _ I2 zB (ax.refl H2) (SY.off H2 s2 zB).free λ o e=>kp f o xt e)<|let ⟨o,e⟩:=M';⟨o,kp f o xt e⟩⟩
  .simp only[hb,B57,A11,A33];refine T0<|A13 ?_;rw[nm];rw[v0 (by unfold Z.AQ;simpa using hb)]at eg;exact Y0 ⟨A29 A67 _,ih (j+1) i H2 s2 kb db (by lia) c_ eg ⟨I2,Bs,IW,LY,wW,b,v,tb,c,hv,rb,Js⟩ zB M'⟩
end
def qa(X:Cx)(nm:Str):Prop:=∃c P,nm∈cg/\tabIn X.K nm=Y! (c,P)/\X.env.code=.ref c/\X.env.qual++ "<lambda>"=gM nm
theorem Ay(a k:Z_):argsOk "max" ⟨[a],[(At "key",k),(At "default",.none)]⟩:=by kernel_rfl
theorem xM(k:Z_):FM "max" ["key","default"] 0 ⟨[],[(At "key",k),(At "default",.none)]⟩=pure [Y! k,Y! .none]:=by kernel_rfl
section
variable {St:Hp->δ->Prop}
theorem FZ(bD:X.calm=AT)(KO:vU X π σ H f St e)(SY:Dv X π σ f St)(Iv:Inv X π σ H s)(st:St H s)(gf:∃o,s.heap.get? f=Y! o)(hl:gJ X.K H l vs)(dn:ay X.K H ds vs)(ek:Z.pickK AT (.ok .non) e ds=.ok r)
 (k:∀v H',ax H H'->Den X.K H' r v->Q v H'):Db (model X.prog X.w) X.A (call (.builtin "max") [.ref l]<|[(At "key",.ref f),(At "default",.none)]) (EP X π σ Q) X.xe s:=by
 have nm:(toString "max"++toString ".loop")="max.loop":=by decide
 have ς:=dn.length;obtain⟨fo,gf⟩:=gf;obtain⟨aU,rv,pl,hz⟩:=Iv.list hl;refine kmk_tree PySem.F.kind_max PySem.F.plain_max PySem.F.entry_max (Ay _ _) ?_;show Db (model X.prog X.w) X.A.in1 (FM "max" ["key","default"] 0 ⟨[],[(At "key",.ref f),(At "default",.none)]⟩>>=_) _ _ s;rw[xM];refine T0<|Y0<|T0<|Y0<|T0<|A43 pl.isList ?_;refine T0<|A34 ?_;rw[nm];generalize CI:s.heap.push {cls:=.type "list_iterator",data:=.fields #[.ref l,.int 0 0]}=HH;have hS:HH.objs.size=s.heap.objs.size+1:=by rw[<-CI,A36]
 have R0:HH.get? s.heap.objs.size=Y! {cls:=.type "list_iterator",data:=.fields #[.ref l,.int 0 0]}:=by rw[<-CI];exact Y5 _ rfl
 have IK:∀b o,s.heap.get? b=Y! o->(HH.push {cls:=.type "list",data:=.seq ([]).toArray}).get? b=Y! o:=λ b o e=>W1 _ (by rw[<-CI];exact W1 _ e);have I1:=Iv.kept (t':=s.toks) IK;have oI:=Off.fresh Iv (Z0 _)<|Iv.bI.fresh<|Z0 _;have oS:Off X π H HH.objs.size:=Off.fresh Iv (by rw[hS];exact A57 _)<|Iv.bI.fresh (by rw[hS];exact A57 _);have s?:HH.objs.size≠s.heap.objs.size:=by rw[hS];exact A31<|A38 _
 have xu:=Z4<|Y1 gf;have xt:f≠HH.objs.size:=by rw[hS];exact Z4<|A93<|Y1 gf
 have gS:(HH.push {cls:=.type "list",data:=.seq ([]).toArray}).get? HH.objs.size=Y! {cls:=.type "list",data:=.seq ([]).toArray}:=Y5 _ rfl;have gI:(HH.push {cls:=.type "list",data:=.seq ([]).toArray}).get? s.heap.objs.size=Y! {cls:=.type "list_iterator",data:=.fields #[.ref l,.int 0 0]}:=W1 _ R0;have sd:St H {s with heap:=HH.push {cls:=.type "list",data:=.seq ([]).toArray}}:=SY.un H H s _ Iv st (ax.refl H) (SY.off H s st).free λ o e=>IK f o e;have FP:=IK f fo gf;generalize WA:HH.objs.size=S at oS s? xt gS;generalize WB:s.heap.objs.size=I at oI s? xu gI;generalize rh:({s with heap:=HH.push {cls:=.type "list",data:=.seq ([]).toArray}})=s1 at I1 sd;have e1:HH.push {cls:=.type "list",data:=.seq ([]).toArray}=s1.heap:=by rw[<-rh]
 rw[e1]at gS gI FP;refine Y0 ⟨A29 A20 _,?_⟩;refine A48 A84 ?_;rw[A49 A20 _];cases ds with
 |nil=>refine T0<|Z9 gS rfl<|T0<|A04<|pw (j:=0) bD I1 hl ⟨_,gI,rfl,rfl⟩ oI (by simp at ς;simp[ς]) λ h1 t1 I2 k1=>?_;refine T0<|A78<|Y0 ?_;cases ek;exact⟨.non,H,I2,rfl,k .non H (ax.refl H) j9⟩
 |cons d0 dr=>unfold Z.pickK at ek;obtain⟨k0,Sa,ek⟩:=Z.Res.aw ek;refine T0<|Z9 gS rfl<|T0<|A04<|lV (j:=0) bD I1 hl ⟨_,gI,rfl,rfl⟩ oI (by simp at ς;lia) λ u v1 h1 t1 xn BD I2 IW k1=>?_;have g1:=k1 S _ s? gS;obtain⟨oi,FQ,rI⟩:=id IW;obtain⟨v',va,dv⟩:=dn.get (i:=0) (d:=d0) rfl;rw[xn]at va;cases va;have zB:St H {s1 with heap:=h1,toks:=t1}:=SY.un H H s1 _ I1 sd (ax.refl H) (SY.off H s1 sd).free λ o e=>k1 f o xu e;refine T0<|A04<|v6<|oz KO SY I2 (ax.refl H) zB BD dv Sa oI oS FQ g1 ⟨fo,k1 f _ xu FP⟩ λ t3 H3 s3 I3 yh Bp QB zK RZ Na RW=>?_;refine T0<|A50 Na rfl ?_;rw[nm];have kp:∀b o,b≠S->s3.heap.get? b=Y! o->(s3.heap.update S<|Obj.mapSeq λ _=>#[u,.int k0 t3]).get? b=Y! o:=λ b o hb e=>(A18 _ _<|P3 hb).trans e;have I4:=I3.turned (t':=s3.toks) kp zK.free zK.loc (.inr zK.new) zK.cell zK.pin;exact Y0 ⟨A29 A20 _,w_ bD KO SY s? xu xt hl dn (λ H5 s5 u5 v5 I5 yg HF Jz=>⟨v5,H5,I5,HF,k v5 H5 yg Jz⟩) dr.length 1 0 H3 _ k0 d0 (by simp;lia) rfl ek ⟨I4,yh,⟨oi,kp _ _ (P3 s?) RZ,rI⟩,QB,zK,u,v1,t3,_,xn,BD,A35 _ Na rfl⟩ (SY.un H3 H3 s3 _ I3 Bp (ax.refl H3) (SY.off H3 s3 Bp).free λ o e=>kp f o xt e)<|let ⟨o,e⟩:=RW;⟨o,kp f o xt e⟩⟩
end
section
theorem tN(hL:qa X nm)(l7:X.A.in1.depth<recursionLimit)(hg:Gl X x)(hm:X.mg x=AC)(hv:bootBuiltins x=Y! (.builtin "max"))(ha:DW X a fa)
 (B:n? X.N N' 1 is scope X.env.scope) (DU:N'[0]?=Y! y) (he:∀cl f c' s H,DE (w9 X N' (gM nm) scope cl f c' s H) body fe)
 (jG:∀q cl pm c' nD u,bindArgs (kla_fn "<lambda>" q params body scope cl pm (.ref c') nD) ⟨[u],[]⟩=pure [(y,u)])
 (sZ:defaultsOf params X.env=([],[]):=by rfl) (sY:scope.isGenerator=Z!:=by rfl) (CF:scope.isCoroutine=Z!:=by rfl)
 (hc:X.calm=AT:=by rfl) (hn:x≠ "__name__":=by decide +kernel) (c_:Nd x:=by decide +kernel)
 (Ja:Se a [] X.env:=by rfl) (FJ:backTo pos (starEach (a::[]) X.env)=(Z!,eval a X.env)::backTo pos (starEach [] X.env):=by rfl) (da:(backTo pos<|starEach (a::[]) X.env).any (·.1)=Z!:=by rfl) :
 DE X (.Call (.Name x p1) [a] [⟨Y!<|Str.ofString "key",.Lambda params body scope lp,kp⟩,⟨Y!<|Str.ofString "default",.Constant .none jj cp,Vz⟩] pos) (Z.vv AT (.ok .non) fa is fe):=by
 intro π s σ H Q I h;obtain⟨ρ,d,r,e,k⟩:=h;obtain⟨dx,ea,e⟩:=Z.Res.aw e;obtain⟨c,P,h1,h2,h3,h4⟩:=hL;split at e
 .rename_i ds;refine A32<|iN I hg hm hv ?_ hn c_;refine callWith_kw ?_ FJ da;refine b8 (aS ha bM Ja pos π s σ H (λ vs H1=>∃v,vs=[v]/\ax H H1/\bc X.K H1 (.lst ds) v) I ⟨ρ,_,r,ea,λ v H1 s1 d1=>⟨v,rfl,s1,d1⟩⟩) λ us s1 ⟨vs,H1,I1,r1,q1⟩=>?_;obtain⟨v,rfl,sm,d1⟩:=q1;obtain⟨u,rfl,ru⟩:=vals1 r1;have kA:∀y∈scope.names,y.2=.free->∃c,X.env.cells.lookup y.1=Y! c:=λ y hy hf=>I1.ok.has y.1<|B.free y hy hf;obtain⟨cl,h!,fW,mP⟩:=e! kA;refine kws_cons<|b8 (uZ h1 h2 h3 h4 sZ h! I1) λ w s2 ⟨f,c',pm,nD,H2,ew,I2,qc,LA⟩=>?_;subst ew;refine kws_cons<|Constant_none<|kws_nil ?_;obtain⟨q,vs,rfl,hq,tt⟩:=(d1.up qc).lst;cases ru;have Qn:=(r.up sm).up qc;refine FZ (St:=λ H s=>zc X π (gM nm) params body scope cl H s f c' pm nD) hc (λ H5 s5 u5 v5 d5 k5 I5 yg r_ HF Jz R_=>?_) ⟨λ _ _ st=>st.off,λ H5 H6 s5 s6 I5 r_ yg Rx Rl=>⟨r_.off.up Rx,Rl _ r_.obj,yg _ _ r_.code⟩⟩ I2 LA ⟨_,LA.obj⟩ hq tt e λ v' H' s' d'=>k v' H' ((sm.trans qc).trans s') d';exact u0 (x:=y) hc l7 B DU sY CF (λ u=>jG _ _ _ _ _ u) fW mP he r_ I5 (Qn.up yg) HF Jz R_
 .cases e
end
theorem Ax(a k:Z_):argsOk "min" ⟨[a],[(At "key",k)]⟩:=by kernel_rfl
theorem xK(k:Z_):FM "min" ["key","default"] 0 ⟨[],[(At "key",k)]⟩=pure [Y! k,AC]:=by kernel_rfl
section
variable {St:Hp->δ->Prop}
theorem FY(bD:X.calm=AT)(KO:vU X π σ H f St e)(SY:Dv X π σ f St)(Iv:Inv X π σ H s)(st:St H s)(gf:∃o,s.heap.get? f=Y! o)(hl:gJ X.K H l vs)(dn:ay X.K H ds vs)(ek:Z.pickK Z! .bad e ds=.ok r)
 (k:∀v H',ax H H'->Den X.K H' r v->Q v H'):Db (model X.prog X.w) X.A (call (.builtin "min") [.ref l]<|[(At "key",.ref f)]) (EP X π σ Q) X.xe s:=by
 have nm:(toString "min"++toString ".loop")="min.loop":=by decide
 have ς:=dn.length;obtain⟨fo,gf⟩:=gf;obtain⟨aU,rv,pl,hz⟩:=Iv.list hl;refine kmk_tree PySem.F.kind_min PySem.F.plain_min PySem.F.entry_min (Ax _ _) ?_;show Db (model X.prog X.w) X.A.in1 (FM "min" ["key","default"] 0 ⟨[],[(At "key",.ref f)]⟩>>=_) _ _ s;rw[xK];refine T0<|Y0<|T0<|Y0<|T0<|A43 pl.isList ?_;refine T0<|A34 ?_;rw[nm];generalize CI:s.heap.push {cls:=.type "list_iterator",data:=.fields #[.ref l,.int 0 0]}=HH;have hS:HH.objs.size=s.heap.objs.size+1:=by rw[<-CI,A36]
 have R0:HH.get? s.heap.objs.size=Y! {cls:=.type "list_iterator",data:=.fields #[.ref l,.int 0 0]}:=by rw[<-CI];exact Y5 _ rfl
 have IK:∀b o,s.heap.get? b=Y! o->(HH.push {cls:=.type "list",data:=.seq ([]).toArray}).get? b=Y! o:=λ b o e=>W1 _ (by rw[<-CI];exact W1 _ e);have I1:=Iv.kept (t':=s.toks) IK;have oI:=Off.fresh Iv (Z0 _)<|Iv.bI.fresh<|Z0 _;have oS:Off X π H HH.objs.size:=Off.fresh Iv (by rw[hS];exact A57 _)<|Iv.bI.fresh (by rw[hS];exact A57 _);have s?:HH.objs.size≠s.heap.objs.size:=by rw[hS];exact A31<|A38 _
 have xu:=Z4<|Y1 gf;have xt:f≠HH.objs.size:=by rw[hS];exact Z4<|A93<|Y1 gf
 have gS:(HH.push {cls:=.type "list",data:=.seq ([]).toArray}).get? HH.objs.size=Y! {cls:=.type "list",data:=.seq ([]).toArray}:=Y5 _ rfl;have gI:(HH.push {cls:=.type "list",data:=.seq ([]).toArray}).get? s.heap.objs.size=Y! {cls:=.type "list_iterator",data:=.fields #[.ref l,.int 0 0]}:=W1 _ R0;have sd:St H {s with heap:=HH.push {cls:=.type "list",data:=.seq ([]).toArray}}:=SY.un H H s _ Iv st (ax.refl H) (SY.off H s st).free λ o e=>IK f o e;have FP:=IK f fo gf;generalize WA:HH.objs.size=S at oS s? xt gS;generalize WB:s.heap.objs.size=I at oI s? xu gI;generalize rh:({s with heap:=HH.push {cls:=.type "list",data:=.seq ([]).toArray}})=s1 at I1 sd;have e1:HH.push {cls:=.type "list",data:=.seq ([]).toArray}=s1.heap:=by rw[<-rh]
 rw[e1]at gS gI FP;refine Y0 ⟨A29 A67 _,?_⟩;refine A48 B62 ?_;rw[A49 A67 _];cases ds with
 |nil=>cases ek
 |cons d0 dr=>unfold Z.pickK at ek;obtain⟨k0,Sa,ek⟩:=Z.Res.aw ek;refine T0<|Z9 gS rfl<|T0<|A04<|lV (j:=0) bD I1 hl ⟨_,gI,rfl,rfl⟩ oI (by simp at ς;lia) λ u v1 h1 t1 xn BD I2 IW k1=>?_;have g1:=k1 S _ s? gS;obtain⟨oi,FQ,rI⟩:=id IW;obtain⟨v',va,dv⟩:=dn.get (i:=0) (d:=d0) rfl;rw[xn]at va;cases va;have zB:St H {s1 with heap:=h1,toks:=t1}:=SY.un H H s1 _ I1 sd (ax.refl H) (SY.off H s1 sd).free λ o e=>k1 f o xu e;refine T0<|A04<|v6<|oz KO SY I2 (ax.refl H) zB BD dv Sa oI oS FQ g1 ⟨fo,k1 f _ xu FP⟩ λ t3 H3 s3 I3 yh Bp QB zK RZ Na RW=>?_;refine T0<|A50 Na rfl ?_;rw[nm];have kp:∀b o,b≠S->s3.heap.get? b=Y! o->(s3.heap.update S<|Obj.mapSeq λ _=>#[u,.int k0 t3]).get? b=Y! o:=λ b o hb e=>(A18 _ _<|P3 hb).trans e;have I4:=I3.turned (t':=s3.toks) kp zK.free zK.loc (.inr zK.new) zK.cell zK.pin;exact Y0 ⟨A29 A67 _,w? bD KO SY s? xu xt hl dn (λ H5 s5 u5 v5 I5 yg HF Jz=>⟨v5,H5,I5,HF,k v5 H5 yg Jz⟩) dr.length 1 0 H3 _ k0 d0 (by simp;lia) rfl ek ⟨I4,yh,⟨oi,kp _ _ (P3 s?) RZ,rI⟩,QB,zK,u,v1,t3,_,xn,BD,A35 _ Na rfl⟩ (SY.un H3 H3 s3 _ I3 Bp (ax.refl H3) (SY.off H3 s3 Bp).free λ o e=>kp f o xt e)<|let ⟨o,e⟩:=RW;⟨o,kp f o xt e⟩⟩
end
section
theorem tL(hL:qa X nm)(l7:X.A.in1.depth<recursionLimit)(hg:Gl X x)(hm:X.mg x=AC)(hv:bootBuiltins x=Y! (.builtin "min"))(ha:DW X a fa)
 (B:n? X.N N' 1 is scope X.env.scope) (DU:N'[0]?=Y! y) (he:∀cl f c' s H,DE (w9 X N' (gM nm) scope cl f c' s H) body fe)
 (jG:∀q cl pm c' nD u,bindArgs (kla_fn "<lambda>" q params body scope cl pm (.ref c') nD) ⟨[u],[]⟩=pure [(y,u)])
 (sZ:defaultsOf params X.env=([],[]):=by rfl) (sY:scope.isGenerator=Z!:=by rfl) (CF:scope.isCoroutine=Z!:=by rfl)
 (hc:X.calm=AT:=by rfl) (hn:x≠ "__name__":=by decide +kernel) (c_:(x==("__debug__"))=Z!:=by decide +kernel)
 (Ja:Se a [] X.env:=by rfl) (FJ:backTo pos (starEach (a::[]) X.env)=(Z!,eval a X.env)::backTo pos (starEach [] X.env):=by rfl) (da:(backTo pos<|starEach (a::[]) X.env).any (·.1)=Z!:=by rfl) :
 DE X (.Call (.Name x p1) [a] [⟨Y!<|Str.ofString "key",.Lambda params body scope lp,kp⟩] pos) (Z.vv Z! .bad fa is fe):=by
 intro π s σ H Q I h;obtain⟨ρ,d,r,e,k⟩:=h;obtain⟨dx,ea,e⟩:=Z.Res.aw e;obtain⟨c,P,h1,h2,h3,h4⟩:=hL;split at e
 .rename_i ds;refine A32<|iN I hg hm hv ?_ hn c_;refine callWith_kw ?_ FJ da;refine b8 (aS ha bM Ja pos π s σ H (λ vs H1=>∃v,vs=[v]/\ax H H1/\bc X.K H1 (.lst ds) v) I ⟨ρ,_,r,ea,λ v H1 s1 d1=>⟨v,rfl,s1,d1⟩⟩) λ us s1 ⟨vs,H1,I1,r1,q1⟩=>?_;obtain⟨v,rfl,sm,d1⟩:=q1;obtain⟨u,rfl,ru⟩:=vals1 r1;have kA:∀y∈scope.names,y.2=.free->∃c,X.env.cells.lookup y.1=Y! c:=λ y hy hf=>I1.ok.has y.1<|B.free y hy hf;obtain⟨cl,h!,fW,mP⟩:=e! kA;refine kws_cons<|b8 (uZ h1 h2 h3 h4 sZ h! I1) λ w s2 ⟨f,c',pm,nD,H2,ew,I2,qc,LA⟩=>?_;subst ew;refine kws_nil ?_;obtain⟨q,vs,rfl,hq,tt⟩:=(d1.up qc).lst;cases ru;have Qn:=(r.up sm).up qc;refine FY (St:=λ H s=>zc X π (gM nm) params body scope cl H s f c' pm nD) hc (λ H5 s5 u5 v5 d5 k5 I5 yg r_ HF Jz R_=>?_) ⟨λ _ _ st=>st.off,λ H5 H6 s5 s6 I5 r_ yg Rx Rl=>⟨r_.off.up Rx,Rl _ r_.obj,yg _ _ r_.code⟩⟩ I2 LA ⟨_,LA.obj⟩ hq tt e λ v' H' s' d'=>k v' H' ((sm.trans qc).trans s') d';exact u0 hc l7 B DU sY CF (λ u=>jG _ _ _ _ _ u) fW mP he r_ I5 (Qn.up yg) HF Jz R_
 .cases e
end
theorem uF(r:bK (k+2) A)(env:PySem.Env):bK k (A.in1.deeper env):=(bK.in1 r).deeper env
theorem BF(r:bK k A):A.in1.depth<recursionLimit:=r.depth
def Gy(K:Frag)(mg:Str->Y_ Z_)(x:Str):Prop:=∃c P,tabIn K x=Y! (c,P)/\∀f fd oc od sl,mg x=Y! (.ref f)->K.lookup f=Y! ⟨oc,od,.func fd,sl⟩->fd.code=.ref c
theorem Fj{K:Frag}(X:K.In h)(G:h.Ns mainGlobals mg)(t:tabIn K x=Y! (c,P)):Gy K mg x:=⟨c,P,t,λ f fd oc od sl hm hl=>law_code X G t hm (X _ _ hl) rfl⟩
def J0(K:Frag)(x:Str)(ba:Z_):Prop:=∃c P,ba=.ref c/\tabIn K x=Y! (c,P)
theorem yD{K:Frag}(h:J0 K x cd)(hx:x∈cg):
 qa (ee CX P w K mg base N x scope f cd A outer s H E).fy x:=by
 obtain⟨c,p,e,t⟩:=h;exact⟨c,p,hx,t,e,rfl⟩
section
variable {K:Ch}
theorem R4{st:ε}(F:xV K x qual st f fd)(S:a6 N ps (ak st))
 (hb:∀ A outer s H E,bK k (A.deeper<|envOfC qual (ak st) s.heap.objs.size f fd.code) ->
  Hi (ee jc P w K mg base N qual (ak st) f fd.code A outer s H E).fy H (aE st) b):dI P w K mg base jc (k+1) f fd ps (t8 K<|Z.fn ps.length N.length b):=by
 have ς:∀vs H Q E,t8 K (Z.fn ps.length N.length b) vs H Q E->vs.length=ps.length:=λ vs H Q E ⟨ds,d,t,e,_⟩=>by
  unfold Z.fn at e;split at e
  .rename_i h;rw[t.length];exact h
  .cases e
 obtain⟨oc,od,kV,doc,pm,an,ba,ct,qe,rfl,lk,lD⟩:=F.ex;refine rp lk lD S ς λ A outer s H vs Q E hr h=>?_;refine⟨_,n9.fy<|hb A outer s H E hr,?_⟩;have hl:=ς vs H Q E h;obtain⟨ds,d,t,e,k⟩:=h;have da:ps.length<=N.length:=by have:=Y8 List.length S.pre;rw[A00]at this;lia
 have rs:RS K H H (L2.start N vs) (Z.start N.length ds):=jZ t (by lia);unfold Z.fn at e;split at e
 .cases eb:b (Z.start N.length ds)with
  |bad=>rw[eb]at e;cases e
  |ok fl=>
   rw[eb]at e;refine⟨_,fl,rs,eb,?_⟩;cases fl with
   |rt d'=>cases e;exact λ v H' s' dv=>k v H' s' dv
   |nx ρ'=>cases e;exact λ σ' H' _ vZ=>k .non H' vZ.same j9
   |bk ρ'=>cases e
   |ct ρ'=>cases e
 .cases e
theorem Sk{st:ε}(d:Def K mg x st ps)(S:a6 N ps (ak st))(L:Gy K mg x)
 (hb:∀ f ba A outer s H E,J0 K x ba->bK k (A.deeper<|envOfC x (ak st) s.heap.objs.size f ba) ->
  Hi (ee jc P w K mg base N x (ak st) f ba A outer s H E).fy H (aE st) b):gL P w K mg base x (k+1) ps (Z.fn ps.length N.length b):=by
 obtain⟨f,fd,F,hm,CG⟩:=d.ex;obtain⟨c,p,t,hc⟩:=L;have Wk:fd.code=.ref c:=by obtain⟨oc,od,kV,doc,pm,an,ba,ct,qe,e,lk,lD⟩:=F.ex;exact hc f fd _ _ _ hm lk
 exact⟨f,fd,R4 F S λ A outer s H E hr=>hb f _ A outer s H E ⟨c,p,Wk,t⟩ hr,hm,F.kp,CG⟩
end
end ZS
namespace ZQ
open PySem PySem.Spec PyProof.Rows L2 PySem.W ZS
section
theorem tN(hL:qa X nm)(l7:X.A.in1.depth<recursionLimit)(hg:Gl X x)(hm:X.mg x=AC)(hv:bootBuiltins x=Y! (.builtin "max"))(ha:QW X a fa)
 (B:n? X.N N' 1 is scope X.env.scope) (DU:N'[0]?=Y! y) (he:∀cl f c' s H,QE (w9 X N' (gM nm) scope cl f c' s H) body fe)
 (jG:∀q cl pm c' nD u,bindArgs (kla_fn "<lambda>" q params body scope cl pm (.ref c') nD) ⟨[u],[]⟩=pure [(y,u)])
 (sZ:defaultsOf params X.env=([],[]):=by rfl) (sY:scope.isGenerator=Z!:=by rfl) (CF:scope.isCoroutine=Z!:=by rfl)
 (hc:X.calm=AT:=by rfl) (hn:x≠ "__name__":=by decide +kernel) (c_:Nd x:=by decide +kernel)
 (Ja:Se a [] X.env:=by rfl) (FJ:backTo pos (starEach (a::[]) X.env)=(Z!,eval a X.env)::backTo pos (starEach [] X.env):=by rfl) (da:(backTo pos<|starEach (a::[]) X.env).any (·.1)=Z!:=by rfl) :
 QE X (.Call (.Name x p1) [a] [⟨Y!<|Str.ofString "key",.Lambda params body scope lp,kp⟩,⟨Y!<|Str.ofString "default",.Constant .none jj cp,Vz⟩] pos) (Z.vv AT (.ok .non) fa is fe):=
 ⟨ZS.tN hL l7 hg hm hv ha.p B DU (λ cl f c' s H=>(he cl f c' s H).p) jG sZ sY CF hc hn c_ Ja FJ da⟩
theorem tL(hL:qa X nm)(l7:X.A.in1.depth<recursionLimit)(hg:Gl X x)(hm:X.mg x=AC)(hv:bootBuiltins x=Y! (.builtin "min"))(ha:QW X a fa)
 (B:n? X.N N' 1 is scope X.env.scope) (DU:N'[0]?=Y! y) (he:∀cl f c' s H,QE (w9 X N' (gM nm) scope cl f c' s H) body fe)
 (jG:∀q cl pm c' nD u,bindArgs (kla_fn "<lambda>" q params body scope cl pm (.ref c') nD) ⟨[u],[]⟩=pure [(y,u)])
 (sZ:defaultsOf params X.env=([],[]):=by rfl) (sY:scope.isGenerator=Z!:=by rfl) (CF:scope.isCoroutine=Z!:=by rfl)
 (hc:X.calm=AT:=by rfl) (hn:x≠ "__name__":=by decide +kernel) (c_:(x==("__debug__"))=Z!:=by decide +kernel)
 (Ja:Se a [] X.env:=by rfl) (FJ:backTo pos (starEach (a::[]) X.env)=(Z!,eval a X.env)::backTo pos (starEach [] X.env):=by rfl) (da:(backTo pos<|starEach (a::[]) X.env).any (·.1)=Z!:=by rfl) :
 QE X (.Call (.Name x p1) [a] [⟨Y!<|Str.ofString "key",.Lambda params body scope lp,kp⟩] pos) (Z.vv Z! .bad fa is fe):=
 ⟨ZS.tL hL l7 hg hm hv ha.p B DU (λ cl f c' s H=>(he cl f c' s H).p) jG sZ sY CF hc hn c_ Ja FJ da⟩
end
theorem G_{K:Ch}{st:ε}(d:ZS.Def K mg x st ps)(S:a6 N ps (ak st))(L:ZS.Gy K mg x)
 (hb:∀ f ba A outer s H E,ZS.J0 K x ba->bK k (A.deeper<|envOfC x (ak st) s.heap.objs.size f ba) ->
  rM (ee jc P w K mg base N x (ak st) f ba A outer s H E).fy H (aE st) b):ZS.gL P w K mg base x (k+1) ps (Z.fn ps.length N.length b):=
 ZS.Sk d S L λ f ba A outer s H E hl hr=>(hb f ba A outer s H E hl hr).p
end ZQ
namespace ZS
open PySem PySem.Spec PyProof.Rows L2 PySem.W
def cz(K:Frag)(n:Str)(st:ε):Prop:=∃(f:Z')(od an:Y_ Z')(sl:Array (Y_ Z_))(oc kV dc pm cd ct:Z_),nsIn K mainGlobals n=Y! (Y!<|.ref f)/\K.lookup f=Y! ⟨oc,od,.func<|fnOf n n (a_ st) (aE st) (ak st) .none kV dc pm an cd ct,sl⟩/\codeIn K cd n=AT/\keepIn K (.ref f)=AT
def jb(K:Frag)(n:Str)(st:ε):Prop:=∃(f t:Z')(od an td:Y_ Z')(sl ts:Array (Y_ Z_))(tn:Nat)(oc kV dc pm cd ct tc:Z_),nsIn K mainGlobals n=Y! (Y!<|.ref f)/\K.lookup f=Y! ⟨oc,od,.func<|fnOf n n (a_ st) (aE st) (ak st) (.ref t) kV dc pm an cd ct,sl⟩/\codeIn K cd n=AT/\keepIn K (.ref f)=AT/\K.lookup t=Y! ⟨tc,td,.seq #[.none] tn,ts⟩
def qb(K:Frag)(n:Str)(st:ε):Prop:=cz K n st/\∃c p,tabIn K n=Y! (c,p)
section
variable {K:Frag}{st:ε}
theorem cz.mk'{oc kV dc pm cd ct:Z_}(a:nsIn K mainGlobals n=Y! (Y!<|.ref f))(l:K.lookup f=Y! ⟨oc,od,.func<|fnOf n n (a_ st) (aE st) (ak st) .none kV dc pm an cd ct,sl⟩)(c:codeIn K cd n=AT)(k:keepIn K (.ref f)=AT):cz K n st:=⟨f,od,an,sl,oc,kV,dc,pm,cd,ct,a,l,c,k⟩
theorem jb.mk'{oc kV dc pm cd ct tc:Z_}(a:nsIn K mainGlobals n=Y! (Y!<|.ref f))(l:K.lookup f=Y! ⟨oc,od,.func<|fnOf n n (a_ st) (aE st) (ak st) (.ref t) kV dc pm an cd ct,sl⟩)(c:codeIn K cd n=AT)(k:keepIn K (.ref f)=AT)(q:K.lookup t=Y! ⟨tc,td,.seq #[.none] tn,ts⟩):jb K n st:=⟨f,t,od,an,td,sl,ts,tn,oc,kV,dc,pm,cd,ct,tc,a,l,c,k,q⟩
theorem qb.mk'{oc kV dc pm ct to:Z_}(a:nsIn K mainGlobals n=Y! (Y!<|.ref f))(l:K.lookup f=Y! ⟨oc,od,.func<|fnOf n n (a_ st) (aE st) (ak st) .none kV dc pm an (.ref cc) ct,sl⟩)(c:codeIn K (.ref cc) n=AT)(k:keepIn K (.ref f)=AT)(tl:K.lookup cc=Y! ⟨to,td,.fields tv,ts⟩)(tp:tv[11]?=Y! (.ref pp)):qb K n st:=⟨⟨f,od,an,sl,oc,kV,dc,pm,_,ct,a,l,c,k⟩,cc,pp,oR a l rfl tl tp⟩
theorem cz.df(d:cz K n st)(X:K.In h)(G:h.Ns mainGlobals mg)(hb:∀kV doc pm an ba ct us,us.length=ps.length->bindArgs (fnOf n n (a_ st) (aE st) (ak st) .none kV doc pm an ba ct) ⟨us,[]⟩=pure (ps.zip us)):Def K mg n st ps:=by obtain⟨f,od,an,sl,oc,kV,dc,pm,cd,ct,a,l,c,k⟩:=d;have F:=tm l c k;exact⟨f,_,F,mg_of X G a,F.binds hb⟩
theorem jb.df(d:jb K n st)(X:K.In h)(G:h.Ns mainGlobals mg)
 (h1:∀t kV doc pm an ba ct us,us.length=ps.length->∃kk,bindArgs (fnOf n n (a_ st) (aE st) (ak st) (.ref t) kV doc pm an ba ct) ⟨us,[]⟩=seqItems? (.ref t)>>=kk/\kk (Y! #[.none])=pure (ps.zip us))
 (h2:∀t kV doc pm an ba ct us,us.length+1=ps.length->∃kk,bindArgs (fnOf n n (a_ st) (aE st) (ak st) (.ref t) kV doc pm an ba ct) ⟨us,[]⟩=seqItems? (.ref t)>>=kk/\kk (Y! #[.none])=pure (ps.zip<|us++[.none])):AG K mg n st ps:=by
 obtain⟨f,t,od,an,td,sl,ts,tn,oc,kV,dc,pm,cd,ct,tc,a,l,c,k,q⟩:=d;exact F? l c k q (mg_of X G a) (h1 t kV dc pm an cd ct)<|h2 t kV dc pm an cd ct
theorem cz.law(d:cz K n st)(X:K.In h)(G:h.Ns mainGlobals mg)(z8:mg n=Y! (.ref fa))(hb:∀kV doc pm an ba ct s v,BindsTo s (fnOf n n (a_ st) (aE st) (ak st) .none kV doc pm an ba ct) ⟨[v],[]⟩ [(x,v)]):∃fd,(∀s v,BindsTo s fd ⟨[v],[]⟩ [(x,v)])/\xV K n n st fa fd:=by obtain⟨f,od,an,sl,oc,kV,dc,pm,cd,ct,a,l,c,k⟩:=d;have e:=z8.symm.trans<|mg_of X G a;cases e;exact⟨_,hb kV dc pm an cd ct,tm l c k⟩
theorem qb.lam(d:qb K n st)(X:K.In h)(G:h.Ns mainGlobals mg):Gy K mg n:=let ⟨c,p,t⟩:=d.2;Fj X G t
end
end ZS
namespace ZQ
open PySem PySem.Spec L2
def Mj(sc:μ)(x:Str):Bool:=match sc.names.lookup x with
|some .local=>AT
|some .cell=>AT
|_=>Z!
theorem lo(h:Mj sc x=AT):Loc sc x:=by
 unfold Mj at h;split at h
 .rename_i e;exact .inl e
 .rename_i e;exact .inr e
 .cases h
end ZQ
namespace ZS
open PySem PySem.Spec PyProof.Rows L2
section
open PySem.SeqAt
open PySem.AutoSeq1 (wpAny_loadPart')
open PySem.MeetsSeq PySem.MeetsSeq2 PySem.MeetsSeq3
end
section
open PySem.SeqAt
open PySem.AutoSeq1 (wpAny_loadPart')
open PySem.MeetsSeq PySem.MeetsSeq2 PySem.MeetsSeq3
end
section
variable {X:Cx}
end
end ZS
namespace ZS
open PySem PySem.Spec PyProof.Rows L2 PySem.W
structure X_(X:Cx)(π:List (Addr×Obj))(σ:St)(H:Hp)(l I S:Addr)(s:Shared)(j:Nat)(db:Z.D):Prop where
 inv:Inv X π σ H s
 it:s.heap.IsListIter I l j
 wV:Off X π H I
 mE:Off X π H S
 best:∃b v c,Den X.K H db v/\RelV v b/\s.heap.get? S=Y! (held b b c)
section
end
section
end
end ZS
namespace ZQ
open PySem PySem.Spec PyProof.Rows L2 ZS
section
end
end ZQ
noncomputable section
namespace Z
abbrev XN:=Y' Nat×Y' (Y' Nat×D)
abbrev XF:=Env->Y_ XN
def og(_:Env):Y_ XN:=AC
def bL(m:Y' D->Y_ XN)(as:AF)(ρ:Env):Y_ XN:=match as ρ with
|.ok ds=>m ds
|.bad=>AC
def t7(a:EF)(r:XF)(ρ:Env):Y_ XN:=match a ρ with
|.ok _=>r ρ
|.bad=>AC
def c!(a:SF)(xa xb:XF)(ρ:Env):Y_ XN:=match xa ρ with
|some c=>Y! c
|none=>match a ρ with
 |.ok<|.nx ρ'=>xb ρ'
 |_=>AC
def uc(t:TF)(a b:XF)(ρ:Env):Y_ XN:=match t ρ with
|.ok c=>if c then a ρ else b ρ
|.bad=>AC
def rQ(c:Y' Nat)(a:EF)(ρ:Env):Y_ XN:=match a ρ with
|.ok _=>Y! (c,[])
|.bad=>AC
def fx(ps n:Nat)(b:XF)(ds:Y' D):Y_ XN:=if ds.length=ps then b (start n ds)else AC
theorem qA(ps n:Nat)(b:XF)(ds:Y' D)(h:ds.length=ps):fx ps n b ds=b (start n ds):=Z1 h
def EJ(b:SF)(xb:XF)(c:Y' Nat)(i:Nat)(h:SF)(ρ:Env):Res Fl:=match xb ρ with
| some c'=>if c'.1=c then(match h (ρ.set i<|some<|.exc c')with
 |.ok<|.nx ρ'=>.ok<|.nx<|ρ'.set i AC
 |.ok<|.rt d=>.ok<|.rt d
 | _=>.bad)else .bad
|none=>b ρ
def iC(i:Nat)(f:Y' Nat->Y_ Bool)(ρ:Env):Res D:=match ρ[i]? with
| some<|some<|.exc c=>(match f c.1 with
 |some b=>.ok<|.bl b
 | none=>.bad)
|_=>.bad
def v3(c0:Y' Nat)(b:Bool)(c:Y' Nat):Y_ Bool:=if c=c0 then Y! b else AC
def O5(n:Nat)(b:SF)(c:XN):Res D:=match b (Y! (.exc c)::Da (n-1) AC)with
|.ok<|.rt d=>.ok d
|.ok<|.nx _=>.ok .non
|_=>.bad
def tI(f:XN->Res D)(i:Nat)(ρ:Env):Res D:=match ρ[i]? with
|some<|some<|.exc c=>f c
|_=>.bad
end Z
end
namespace ZS
open PySem PySem.Spec PyProof.Rows L2 PySem.W
theorem B0(x:dP P w H h a o):∃ob,h.get? a=Y! ob:=by
 cases o with
 |lst xs=>obtain⟨_,_,_,_,e⟩:=x;exact⟨_,e⟩
 |tup xs=>obtain⟨_,_,_,tn⟩:=x;obtain⟨ob,e,_⟩:=tn.is;exact⟨_,e⟩
 |dK dG=>obtain⟨_,_,_,_,o,_,_,e,_⟩:=x;exact⟨_,e⟩
 |dT dG=>obtain⟨_,_,_,_,o,_,_,e,_⟩:=x;exact⟨_,e⟩
 |set S n=>obtain⟨o,_,_,_,e,_⟩:=x;exact⟨_,e⟩
 |ins C dx fs=>obtain⟨_,_,_,e,_⟩:=x;exact⟨_,e⟩
 |own y=>obtain⟨_,e⟩:=x;exact⟨_,e⟩
 |xd fs=>obtain⟨_,⟨_,_,_,e,_⟩,_⟩:=x;exact⟨_,e⟩
 |zE lo hi=>obtain⟨_,_,_,e⟩:=x;exact⟨_,e⟩
 |c5 ob u=>obtain⟨e,_⟩:=x;exact⟨_,e⟩
 |Be q=>obtain⟨_,e,_⟩:=x;exact⟨_,e⟩
 |D5 q=>obtain⟨_,_,_,_,e1,e2,_⟩:=x;cases e1;exact⟨_,e2⟩
 |met f y=>exact⟨_,(x)⟩
 |ext φ=>obtain⟨_,⟨_,e⟩,_⟩:=x;exact⟨_,e⟩
section
variable {X:Cx}{π:Y' (Z'×ζ)}{σ:St}{H H':Hp}{s:δ}{h':η}
theorem yf{ch:Y' Z'}(I:Inv X π σ H s)
 (v?:∀b∈ch,X.s₀.heap.get? b=AC/\b≠X.env.locals/\(∀x c,X.env.cells.lookup x=Y! c->c≠b)/\∀p∈X.pn++π,p.1≠b)
 (keep:∀b o,b≠X.env.locals->b∉X.fs->b∉ch->s.heap.get? b=Y! o->H b=AC->h'.get? b=Y! o)
 (slot:∀b o,b≠X.env.locals->b∈X.fs->b∉ch->s.heap.get? b=Y! o->H b=AC->∃sl,h'.get? b=Y! {o with slots:=sl}) (free:∀b o,b∉ch->s.heap.get? b=Y! o->H b=AC->H' b=AC)
 (there:∀b o,b∉ch->s.heap.get? b=Y! o->∃o',h'.get? b=Y! o')
 (nK:∀b xs,H b=Y! (.tup xs)->H' b=Y! (.tup xs)) (mU:∀b o u,H b=Y! (.c5 o u)->H' b=Y! (.c5 o u)) (kI:∀b u,KU u->H b=Y! u->H' b=Y! u)
 (ns:∀m,s.heap.Ns X.env.locals m->h'.Ns X.env.locals m) (bI:mm X.prog X.w H' h') (hg:AllBare g') :
 Inv X π σ H' {s with heap:=h',gens:=g',drawn:=d',toks:=t'}:=by
 have L_:∀b o,X.s₀.heap.get? b=Y! o->b≠X.env.locals:=λ b o e=>Z4<|Z6 (Y1 e) I.ok.above;have B?:∀b o,X.s₀.heap.get? b=Y! o->b∉ch:=λ b o e hb=>by rw[(v? b hb).1]at e;cases e
 have cellK:∀x c,X.env.cells.lookup x=Y! c->∀v,s.heap.IsCell c v->h'.IsCell c v:=λ x c e v ⟨o,ho,hd⟩=>by
  have uU:=λ z=>(v? c z).2.2.1 x c e rfl;by_cases hc:c∈X.fs
  .obtain⟨sl,q⟩:=slot c o (I.Dl x c e) hc uU ho (I.dJ x c e);exact⟨_,q,hd⟩
  .exact⟨o,keep c o (I.Dl x c e) hc uU ho<|I.dJ x c e,hd⟩
 refine⟨I.ok,I.os,hg,⟨λ b o e n hb hx=>?_,λ b o e n hb hx=>?_,λ b o e n hx=>?_,λ b o e hx=>?_,λ b xs e=>nK b xs<|I.base.nK b xs e,λ b o xs e=>mU b o xs<|I.base.mU b o xs e,λ b u p e=>kI b u p<|I.base.kI b u p e⟩,?_,λ x c e=>?_,?_,λ x c e=>?_,λ p hp=>?_,bI,I.len,I.tab.up kI⟩
 .exact keep b o (L_ b o e) hb (B? b o e) (I.base.keep b o e n hb hx)<|I.base.free b o e n hx
 .obtain⟨sl,e1⟩:=I.base.slot b o e n hb hx;obtain⟨P9,e2⟩:=slot b _ (L_ b o e) hb (B? b o e) e1 (I.base.free b o e n hx);exact⟨P9,e2⟩
 .obtain⟨o',e1⟩:=I.base.there b o e hx;exact free b o' (B? b o e) e1<|I.base.free b o e n hx
 .obtain⟨o',e1⟩:=I.base.there b o e hx;exact there b o' (B? b o e) e1
 .obtain⟨m,hn,hl⟩:=I.loc;refine⟨m,ns m hn,λ i x v e1 e2 e3=>?_⟩;obtain⟨u,r,l⟩:=hl i x v e1 e2 e3;refine⟨u,r,?_⟩;rcases l with l|⟨k,c,e,z⟩
  .exact .inl l
  .exact .inr ⟨k,c,e,cellK x c e _ z⟩
 .obtain⟨v,z⟩:=I.cell x c e;exact⟨v,cellK x c e v z⟩
 .obtain⟨m,⟨o,_,_,ho,_⟩,_⟩:=I.loc;exact free _ o (λ z=>(v? _ z).2.1 rfl) ho I.free
 .obtain⟨v,o,ho,hd⟩:=I.cell x c e;exact free c o (λ z=>(v? c z).2.2.1 x c e rfl) ho<|I.dJ x c e
 .obtain⟨e,n,ne,nf,d⟩:=I.pin p hp;have uU:=λ z=>(v? p.1 z).2.2.2 p hp rfl;exact⟨keep p.1 p.2 ne nf uU e n,free p.1 p.2 uU e n,ne,nf,d⟩
structure lB(X:Cx)(π:List (Addr×Obj))(H:Hp)(s:Shared)(a:Addr):Prop where
 free:H a=AC
 new:X.s₀.heap.get? a=AC
 pin:∀p∈X.pn++π,p.1≠a
 Q3:∃o vs,s.heap.get? a=Y! o/\o.data=.fields vs
theorem lB.loc(o:lB X π H s a)(I:Inv X π σ H s):a≠X.env.locals:=λ z=>by obtain⟨ob,vs,e,d⟩:=o.Q3;obtain⟨m,⟨o',es,ep,k9,nV,_⟩,_⟩:=I.loc;rw[z,k9]at e;cases e;rw[nV]at d;cases d
theorem lB.cell(o:lB X π H s a)(I:Inv X π σ H s)(x:Str)(c:Z')(hc:X.env.cells.lookup x=Y! c):c≠a:=λ z=>by obtain⟨ob,vs,e,d⟩:=o.Q3;obtain⟨v,o',k9,nV⟩:=I.cell x c hc;rw[z,e]at k9;cases k9;rw[d]at nV;cases nV
theorem absent(I:Inv X π σ H s)(h:s.heap.get? a=AC):H a=AC/\X.s₀.heap.get? a=AC\/a∈X.ex:=by
 by_cases hx:a∈X.ex
 .exact .inr hx
 .refine .inl ⟨?_,?_⟩
  .cases e:H a with
   |none=>rfl
   |some u=>obtain⟨ob,q⟩:=B0 (I.bI a u e);rw[h]at q;cases q
  .cases e:X.s₀.heap.get? a with
   |none=>rfl
   |some o=>obtain⟨o',q⟩:=I.base.there a o e hx;rw[h]at q;cases q
theorem Inv.snap(I:Inv X π σ H s)(off:∀a∈l,lB X π H s a)(k1:(hideAll s.heap<|pJ X.stack++l).StaysIn h')
 (k4:∀b o,s.heap.get? b=Y! o->(∀vs,o.data≠.fields vs)->∃sl,h'.get? b=Y! {o with slots:=sl}):Inv X π σ H {s with heap:=h',toks:=t'}:=by
 have OM:=λ b o n1 n2 e=>k1 b o<|hideAll_get _ e λ z=>(A42.mp z).elim n1 n2;have Hv:∀b u,H b=Y! u->b∉pJ _/\b∉l:=λ b u e=>⟨λ z=>(by rw[I.oh b z]at e;cases e),λ z=>(by rw[(off b z).free]at e;cases e)⟩
 refine yf I (λ b hb=>⟨(off b hb).new,(off b hb).loc I,(off b hb).cell I,(off b hb).pin⟩) (λ b o hL hf hc e n=>OM b o (λ z=>(Y2.mp<|I.mB b z).elim hL hf) hc e) (λ b o hL hf hc e n=>?_) (λ _ _ _ _ n=>n) (λ b o hc e=>?_) (λ _ _ e=>e) (λ _ _ _ e=>e) (λ _ _ _ e=>e) (λ m hm=>?_) (λ b u e=>?_) I.bare
 .obtain⟨_,o',k9,nV⟩:=I.jk.mem hf;rw[e]at k9;cases k9;exact k4 b o e nV
 .by_cases hz:b∈pJ X.stack
  .obtain⟨_,o',k9,nV⟩:=I.stack.mem hz;rw[e]at k9;cases k9;obtain⟨sl,q⟩:=k4 b o e nV;exact⟨_,q⟩
  .exact⟨o,OM b o hz hc e⟩
 .obtain⟨o,es,ep,ho,hd,r⟩:=hm;obtain⟨sl,q⟩:=k4 _ o ho (λ vs z=>by rw[hd]at z;cases z);exact⟨_,es,ep,q,hd,r⟩
 .refine(I.bI b u e).j! (λ c v hc q=>?_) (λ _ q=>q) (λ _ _ q=>q) λ _ _ _ q=>q;rcases hc with rfl|hc
  .exact OM c v (Hv c u e).1 (Hv c u e).2 q
  .exact OM c v (Hv c _ hc).1 (Hv c _ hc).2 q
theorem uD(hex:X.ex=[])(I:Inv X π σ H s)(off:∀a∈l,lB X π H s a)(k2:h'.FunFrames (hideAll s.heap<|pJ X.stack++l) X.stack)
 (hT:(hideAll s.heap<|pJ X.stack++l).get? T=AC) (Wz:h'.get? T=Y! oT) (hd:oT.data=.fields ts):H T=AC/\X.s₀.heap.get? T=AC/\∀p∈X.pn++π,p.1≠T:=by
 have Vs:T∉pJ _:=λ z=>by obtain⟨_,o',k9,nV⟩:=k2.mem z;rw[Wz]at k9;cases k9;exact nV ts hd
 by_cases hl:T∈l
 .exact⟨(off T hl).free,(off T hl).new,(off T hl).pin⟩
 .have hn:s.heap.get? T=AC:=by
   cases e:s.heap.get? T with
   |none=>rfl
   |some o=>rw[hideAll_get _ e λ z=>(A42.mp z).elim Vs hl]at hT;cases hT
  rcases absent I hn with z|z
  .exact⟨z.1,z.2,λ p hp q=>by rw[<-q,(I.pin p hp).1]at hn;cases hn⟩
  .rw[hex]at z;cases z
end
theorem C4{rest:Y' PySem.Env}
 (fr:A.frames=Y! (env::rest)) (ff:s.heap.FunFrames ground (env::rest)) (el:env.frame=Y! L) (ge:s.heap.get? e=Y! oe) (st:ground.StaysIn s.heap) (ne:ground.get? e=AC) (de:oe.data=.fields fl) (sz:1<fl.size)
 (k:∀ h' T oT ts,ground.StaysIn h'->h'.FunFrames ground (env::rest)->h'.get? e=Y! (oe.mapFields (·.setIfInBounds 1<|.ref T))->ground.get? T=AC->T≠e->h'.get? T=Y! oT->oT.data=.fields ts->3<ts.size ->
  (∀b o,s.heap.get? b=Y! o->(∀vs,o.data≠.fields vs)->∃sl,h'.get? b=Y! {o with slots:=sl})->Q () {s with heap:=h'}) :
 Db M A (do let a ←frameOf env;let pl ←entryPlaceOf L nx;let b ←EntryCells.newEntry TY a .none (rawInt L) .none pl;setField (.ref e) 1 b) Q E s:=by
 have out:e∉(env::rest).filterMap (·.frame):=λ z=>by obtain⟨_,o,go,no⟩:=ff.mem z;rw[ge]at go;cases go;exact no fl de
 refine T0<|wpAny_frameOf_fun fr ff el λ h1 so=>T0<|wpAny_entryPlaceOf λ pl ip=>?_;unfold EntryCells.newEntry newFields;refine T0<|A34 ?_<|ip.sizeOk5 _ _ _ _ _;generalize Rn:({cls:=.type "traceback",dict:=AC,data:=.fields ([TY,.ref L,.none,rawInt L,.none]++(if pl.isEmpty then Da 6 No else pl)).toArray}:ζ)=new;have Nu:new.data=.fields ([TY,.ref L,.none,rawInt L,.none]++(if pl.isEmpty then Da 6 No else pl)).toArray:=by rw[<-Rn]
 have ge1:=(so.2.1 e out).trans ge;have sd:ground.StaysIn h1:=λ b o q=>(so.2.1 b λ z=>by rw[(ff.mem z).1]at q;cases q).trans<|st b o q;have T?:=W1 (h:=h1) new ge1;refine B19 T? de sz ?_;have Te:=A31<|Y1 ge1;have d3:=A41 de (·.setIfInBounds 1<|Value.ref h1.objs.size);have WL:=A35 (Os (·.setIfInBounds 1<|Value.ref h1.objs.size)) T?<|B20 d3;have gT:=(A18 (h1.push new) (Os (·.setIfInBounds 1<|Value.ref h1.objs.size))<|P3 Te).trans<|Y5 h1<|B20 Nu;have hold:∀b o,b≠e->h1.get? b=Y! o->((h1.push new).update e (Os (·.setIfInBounds 1<|Value.ref h1.objs.size))).get? b=Y! o:=λ b o n q=>by rw[A18 _ _<|P3 n];exact W1 _ q
 have apart:∀b o,s.heap.get? b=Y! o->(∀vs,o.data≠.fields vs)->b≠e:=λ b o q n z=>by rw[z,ge]at q;cases q;exact n fl de
 refine k _ h1.objs.size new _ (λ b o q=>hold b o (λ z=>by rw[z,ne]at q;cases q)<|sd b o q) (ff.of_keeps λ b o q n=>?_) WL sd.fresh Te gT Nu (by simp only[Z2,A55,A58,Yr];lia) λ b o q n=>?_
 .obtain⟨sl,z⟩:=so.2.2 b o q;exact⟨_,hold b _ (apart b o q n) z,rfl⟩
 .obtain⟨sl,z⟩:=so.2.2 b o q;exact⟨sl,hold b _ (apart b o q n) z⟩
theorem jD(o:ζ)(f:Array Z_->Array Z_):(o.mapFields f).dict=o.dict:=by obtain⟨_,_,d,_⟩:=o;cases d<;>rfl
structure D6(X:Cx)(π:List (Addr×Obj))(H:Hp)(s:Shared)(e C:Addr)(dd:Option Addr):Prop where
 off:lB X π H s e
 ex:∃oe vs,s.heap.get? e=Y! oe/\oe.cls=.ref C/\oe.dict=dd/\oe.data=.fields vs/\(vs[1]?=Y! .none\/∃T oT ts,vs[1]?=Y! (.ref T)/\T≠e/\lB X π H s T/\s.heap.get? T=Y! oT/\oT.data=.fields ts/\ts[3]?=Y! .none)
def Sy(h0:η)(H':Hp)(h':η)(e C:Z')(dd:Y_ Z'):Prop:=h0.get? e=AC/\H' e=AC/\∃oe vs T oT ts,h'.get? e=Y! oe/\oe.cls=.ref C/\oe.dict=dd/\oe.data=.fields vs/\vs[1]?=Y! (.ref T)/\T≠e/\H' T=AC/\h0.get? T=AC/\h'.get? T=Y! oT/\oT.data=.fields ts/\ts[3]?=Y! .none
def vX(P:ι)(w:θ):J5:=λ outer H s E ev s'=>∃e C dd H',ev=.ref e/\s'.os=s.os/\AllBare s'.gens/\Un (pJ outer) [] H H' s.heap s'.heap/\mm P w H' s'.heap/\Sy s.heap H' s'.heap e C dd/\E (.ref C) dd H'
theorem Bn:∀env∈l,∀a,env.frame=Y! a->a∈pJ l++as:=λ env he a ha=>A70 _<|B33.mpr ⟨env,he,ha⟩
section
variable {X:Cx}{π:Y' (Z'×ζ)}{σ:St}{H:Hp}{s:δ}
structure NU(X:Cx)(π:List (Addr×Obj))(σ:St)(H:Hp)(s:Shared)(e C:Addr)(dd:Option Addr)(lands:Bool):Prop where
 inv:Inv X π σ H s
 off:lB X π H s e
 ex:∃oe vs T oT ts,s.heap.get? e=Y! oe/\oe.cls=.ref C/\oe.dict=dd/\oe.data=.fields vs/\vs[1]?=Y! (.ref T)/\T≠e/\lB X π H s T/\s.heap.get? T=Y! oT/\oT.data=.fields ts/\3<ts.size/\(lands=AT->ts[3]?=Y! .none)
theorem uT(hex:X.ex=[])(vb:X.stack=X.env::X.outer)(AK:X.env.frame=Y! X.env.locals)(I:Inv X π σ H s)(t:D6 X π H s e C dd)
 (k:∀s',NU X π σ H s' e C dd Z!->Q () s'):Db M X.A (noteFrame (.ref e) X.env) Q E s:=by
 obtain⟨oe,vs,he,h!,t9,hd,h1⟩:=t.ex;have TX:X.A.frames=Y! (X.env::X.outer):=by rw[<-vb];exact I.ok.frames
 have Bo:=I.stack;rw[vb]at Bo;unfold noteFrame;simp only[AK];rcases h1 with h1|⟨T,oT,ts,h1,M7,DR,gT,dT,h3⟩
 .have off:∀a∈[e],lB X π H s a:=λ a ha=>by rw[A03.mp ha];exact t.off
  refine T0<|A02 he hd h1 ?_;rw[v0 (by decide)];refine C4 TX (funFrames_hide Bo Bn) AK he (λ b o=>of_hideAll _) (B26 _<|A10 _<|A03.mpr rfl) hd (B02.mp h1).1 λ h' T' DR K6 k1 k2 g1 g2 g3 g4 g5 g6 k4=>k _ ?_;rw[<-vb]at k1 k2 g2;have J:=Inv.snap (t':=s.toks) I off k1 k4;obtain⟨n1,n2,n3⟩:=uD hex I off k2 g2 g4 g5;have sz:=(B02.mp h1).1;exact⟨J,⟨t.off.free,t.off.new,t.off.pin,_,_,g1,A41 hd _⟩,_,_,T',DR,K6,g1,(B52 _ _).trans h!,(jD _ _).trans t9,A41 hd _,by simp[sz],g3,⟨n1,n2,n3,DR,K6,g4,g5⟩,g4,g5,g6,λ z=>nomatch z⟩
 .have off:∀a∈[e,T],lB X π H s a:=λ a ha=>by
   rcases Y2.mp ha with rfl|ha
   .exact t.off
   .rw[A03.mp ha];exact DR
  refine T0<|A02 he hd h1 ?_;rw[Z1 (by simp)];refine T0<|A02 gT dT h3 ?_;rw[v0 (by simp[rawInt])];refine T0<|B19 gT dT (B02.mp h3).1 ?_;have other:∀b,b≠T->(s.heap.update T (Os (·.setIfInBounds 3 No))).get? b=s.heap.get? b:=λ b hb=>A18 _ _<|P3 hb;have apart:∀b o,s.heap.get? b=Y! o->(∀vs,o.data≠.fields vs)->b≠T:=λ b o q n z=>by rw[z,gT]at q;cases q;exact n ts dT
  have VG:T∈pJ (X.env::X.outer)++[e,T]:=A10 _ (by simp);refine C4 TX ((funFrames_hide Bo Bn).of_keeps λ b o q n=>⟨o,(other b<|apart b o q n).trans q,rfl⟩) AK ((other e<|P3 M7).trans he)
   (λ b o q=>(other b λ z=>by rw[z,B26 _ VG]at q;cases q).trans<|of_hideAll _ q) (B26 _<|A10 _ (by simp)) hd (B02.mp h1).1 λ h' T' Td K6 k1 k2 g1 g2 g3 g4 g5 g6 k4=>k _ ?_
  rw[<-vb]at k1 k2 g2;have J:=Inv.snap (t':=s.toks) I off k1 λ b o q n=>k4 b o ((other b<|apart b o q n).trans q) n;obtain⟨n1,n2,n3⟩:=uD hex I off k2 g2 g4 g5;have sz:=(B02.mp h1).1;exact⟨J,⟨t.off.free,t.off.new,t.off.pin,_,_,g1,A41 hd _⟩,_,_,T',Td,K6,g1,(B52 _ _).trans h!,(jD _ _).trans t9,A41 hd _,by simp[sz],g3,⟨n1,n2,n3,Td,K6,g4,g5⟩,g4,g5,g6,λ z=>nomatch z⟩
theorem land(c:NU X π σ H s e C dd l)(k:∀s',NU X π σ H s' e C dd AT->Q () s'):Db M A (setFlight (.ref e) AC) Q E s:=by
 obtain⟨oe,vs,T,oT,ts,he,h!,t9,hd,h1,M7,DR,gT,dT,h3,_⟩:=c.ex;refine wpAny_setFlight_none he hd h1 gT dT h3<|k _ ?_;have other:∀b o,b≠T->s.heap.get? b=Y! o->(s.heap.update T (Os (·.setIfInBounds 3 .none))).get? b=Y! o:=λ b o hb q=>(A18 _ _<|P3 hb).trans q;have Uj:=A35 (Os (·.setIfInBounds 3 No)) gT<|B20<|A41 dT _;have off:∀a∈[T],lB X π H s a:=λ a ha=>by rw[A03.mp ha];exact DR
 have J:=Inv.snap (t':=s.toks) c.inv off (λ b o q=>by
  by_cases hb:b=T
  .rw[hb,B26 _<|A10 _<|A03.mpr rfl]at q;cases q
  .exact other b o hb<|of_hideAll _ q) λ b o q n=>⟨_,other b o (λ z=>by rw[z,gT]at q;cases q;exact n ts dT) q⟩
 have AL:=other e oe (P3 M7) he;exact⟨J,⟨c.off.free,c.off.new,c.off.pin,oe,vs,AL,hd⟩,oe,vs,T,_,_,AL,h!,t9,hd,h1,M7,⟨DR.free,DR.new,DR.pin,_,_,Uj,A41 dT _⟩,Uj,A41 dT _,by simpa using h3,λ _=>by simp[h3]⟩
end
theorem zQ{K:Ch}
 (I:Inv (ee (vX P w) P w K mg base N qual scope f cd A outer s0 H0 E) π σ H s) (t:D6 (ee (vX P w) P w K mg base N qual scope f cd A outer s0 H0 E) π H s e C dd) (hE:E (.ref C) dd H) :
 (ee (vX P w) P w K mg base N qual scope f cd A outer s0 H0 E).xe (.ref e) s:=by
 show Db _ (ee (vX P w) P w K mg base N qual scope f cd A outer s0 H0 E).A _ (λ _ J9=>vX P w outer H0 s0 E _ J9) _ s;refine T0<|uT rfl rfl rfl I t λ s1 c1=>land c1 λ s2 c2=>?_;obtain⟨oe,vs,T,oT,ts,q1,q2,qd,q3,q4,q5,q6,q7,q8,q9,Qu⟩:=c2.ex;exact⟨e,C,dd,H,rfl,c2.inv.os,c2.inv.bare,c2.inv.base,c2.inv.bI,⟨c2.off.new,c2.off.free,oe,vs,T,oT,ts,q1,q2,qd,q3,q4,q5,q6.free,q6.new,q7,q8,Qu rfl⟩,hE⟩
theorem Hw(hex:X.ex=[])(I:Inv X π σ H s)(c:vX X.prog X.w X.stack H s E ev s'):
 ∃e C dd H',ev=.ref e/\Inv X π σ H' s'/\D6 X π H' s' e C dd/\E (.ref C) dd H':=by
 obtain⟨e,C,dd,H',rfl,os,bare,un,bI,⟨ne,fe,oe,vs,T,oT,ts,q1,q2,qd,q3,q4,q5,q6,q7,q8,q9,Qu⟩,hE⟩:=c;have J:=I.Dn os un bI bare λ b hb=>absurd hb (by simp);have ab:∀a,s.heap.get? a=AC->X.s₀.heap.get? a=AC/\∀p∈X.pn++π,p.1≠a:=λ a h=>by
  rcases absent I h with z|z
  .exact⟨z.2,λ p hp q=>by rw[<-q,(I.pin p hp).1]at h;cases h⟩
  .rw[hex]at z;cases z
 exact⟨e,C,dd,H',rfl,J,⟨⟨fe,(ab e ne).1,(ab e ne).2,oe,vs,q1,q3⟩,oe,vs,q1,q2,qd,q3,.inr ⟨T,oT,ts,q4,q5,⟨q6,(ab T q7).1,(ab T q7).2,oT,ts,q8,q9⟩,q8,q9,Qu⟩⟩,hE⟩
theorem r9(hex:X.ex=[])(I:Inv X π σ H s)(hm:WF s.heap h' e (.ref C) vs):
 Inv X π σ H {s with heap:=h'}/\D6 X π H {s with heap:=h'} e C AC:=by
 have J:=I.kept (t':=s.toks) hm.keeps;obtain⟨t,ht,_,_⟩:=hm.there;refine⟨J,?_⟩;rcases absent I hm.new with z|z
 .exact⟨⟨z.1,z.2,λ p hp q=>(by have:=(I.pin p hp).1;rw[q,hm.new]at this;cases this),_,_,ht,rfl⟩,_,_,ht,rfl,rfl,rfl,.inl rfl⟩
 .rw[hex]at z;cases z
section
theorem PA.fy(h:PA X.fy es t):PA X es t:=λ pos π s σ H Q I hw=>Z5 (h pos π s σ H Q (I.wish _) hw) (λ _ _ ⟨vs,H',I',r,q⟩=>⟨vs,H',I'.eF,r,q⟩) λ _ _ z=>GE z
theorem PS.fy{st:ε}(h:PS X.fy st t):PS X st t:=λ π s σ H D I hw=>Z5 (h π s σ H D (I.wish _) hw) (λ _ _ q=>q.eF) λ _ _ z=>GE z
def Pf(X:Cx)(σ:St)(H:Hp)(c:Z.XN):Prop:=∀π H' s e C dd,ax H H'->lA X.K H' c C dd->Inv X π σ H' s->D6 X π H' s e C dd->X.xe (.ref e) s
def Xw(X:Cx)(H0:Hp)(c:Z.XN):Prop:=∀π σ H' s e C dd,ax H0 H'->lA X.K H' c C dd->Inv X π σ H' s->D6 X π H' s e C dd->X.xe (.ref e) s
theorem Pf.up(h:Pf X σ H c)(e:ax H H'):Pf X σ H' c:=λ π H2 s a C dd sm=>h π H2 s a C dd<|e.trans sm
def xR(X:Cx)(f:Z.XF)(σ:St)(H:Hp):Prop:=∃ρ c,RE X.K H σ ρ/\f ρ=Y! c/\Pf X σ H c
abbrev XE(X:Cx)(e:γ)(f:Z.XF):Prop:=PE X e λ σ H _=>xR X f σ H
structure _root_.ZQ.Gw(X:Cx)(e:Expr)(f:Z.XF):Prop where p:XE X e f
abbrev XA(X:Cx)(es:Y' γ)(f:Z.XF):Prop:=PA X es λ σ H _=>xR X f σ H
structure _root_.ZQ.NM(X:Cx)(es:List Expr)(f:Z.XF):Prop where p:XA X es f
abbrev XT(X:Cx)(e:γ)(f:Z.XF):Prop:=PT X e λ σ H _=>xR X f σ H
structure _root_.ZQ.Uv(X:Cx)(e:Expr)(f:Z.XF):Prop where p:XT X e f
abbrev XR(X:Cx)(st:ε)(f:Z.XF):Prop:=PS X st λ _ σ H=>xR X f σ H
structure _root_.ZQ.Uw(X:Cx)(st:Stmt)(f:Z.XF):Prop where p:XR X st f
abbrev Xc(X:Cx)(vY:Y' ε)(f:Z.XF):Prop:=n9 X vY λ _ σ H=>xR X f σ H
structure _root_.ZQ.NL(X:Cx)(vY:List Stmt)(f:Z.XF):Prop where p:Xc X vY f
def xS(X:Cx)(H0:Hp)(f:Z.XF)(σ:St)(H:Hp):Prop:=∃ρ c,RS X.K H0 H σ ρ/\f ρ=Y! c/\Xw X H0 c
abbrev XS(X:Cx)(H0:Hp)(st:ε)(f:Z.XF):Prop:=PS X st λ _ σ H=>xS X H0 f σ H
structure _root_.ZQ.D7(X:Cx)(H0:Hp)(st:Stmt)(f:Z.XF):Prop where p:XS X H0 st f
abbrev Pg(X:Cx)(H0:Hp)(vY:Y' ε)(f:Z.XF):Prop:=n9 X vY λ _ σ H=>xS X H0 f σ H
structure _root_.ZQ.vT(X:Cx)(H0:Hp)(vY:List Stmt)(f:Z.XF):Prop where p:Pg X H0 vY f
theorem xS.r(h:xS X H0 f σ H):xR X f σ H:=by obtain⟨ρ,c,rs,e,k⟩:=h;exact⟨ρ,c,rs.re,e,λ π H' s a C dd sm=>k π σ H' s a C dd<|rs.same.trans sm⟩
end
def SJ(C:Z')(h:η):Prop:=∃(tl:Y' Z_)(ns:Z')(nm qn:Str)(bs:Y' Z_)(hd:Bool)(sn:Y' Str)(sub:Y' Z_)(ab:Bool)(col:Y_ Bool)(dd:Y_ Z')(s0 s1 s2 s3 s5:Y_ Z_),
 h.get? C=Y! (excClassObj nm qn C ns bs tl hd sn sub ab col dd s0 s1 s2 s3 s5 "ValueError.__new__")/\tl.contains (.type "BaseException")=AT
theorem Si{K:FS}(X:K.In h)(xc:XC K c C):SJ C h:=by
 have q:=xc.2;unfold nF at q;split at q
 .rename_i dd cd sl ho;split at q
  .rename_i C' tl s0 s1 s2 s3 id s5 e1 e2;simp only[A17,A07,B63]at q;obtain⟨⟨⟨rfl,rfl⟩,r1⟩,r2⟩:=q;cases cd;dsimp only at e1 r1;subst e1 r1;obtain rfl:sl=#[s0,s1,s2,s3,Y! (.builtin "ValueError.__new__"),s5]:=by cases sl;simp only at e2;rw[e2]
   exact⟨tl,_,_,_,_,_,_,_,_,_,dd,s0,s1,s2,s3,s5,X _ _ ho,r2⟩
  .cases q
 .cases q
def SK(C:Z')(h:η):Prop:=∃(tl:Y' Z_)(ns:Z')(nm qn:Str)(bs:Y' Z_)(hd:Bool)(sn:Y' Str)(sub:Y' Z_)(ab:Bool)(col:Y_ Bool)(dd:Y_ Z')(s0 s1 s2 s3 s5:Y_ Z_)(mN:Str->Y_ Z_),
 h.get? C=Y! (excClassObj nm qn C ns bs tl hd sn sub ab col dd s0 s1 s2 s3 s5 "ValueError.__new__")/\h.Ns ns mN/\mN "__init__"=AC/\OwnTail h [.type "ValueError",.type "Exception",.type "BaseException",.type "object"] tl
theorem Nw{K:FS}(X:K.In h)(q:excIn K C [.type "ValueError",.type "Exception",.type "BaseException",.type "object"] "ValueError.__new__"=AT):SK C h:=by
 unfold excIn at q;split at q
 .rename_i dd cd sl ho;split at q
  .rename_i C' tl s0 s1 s2 s3 id s5 e1 e2;simp only[A17,A07,B63]at q;obtain⟨⟨⟨⟨⟨rfl,rfl⟩,r1⟩,r2⟩,r3⟩,r4⟩:=q;cases cd;dsimp only at e1 r1 r3 r4;subst e1 r1;obtain rfl:sl=#[s0,s1,s2,s3,Y! (.builtin "ValueError.__new__"),s5]:=by cases sl;simp only at e2;rw[e2]
   exact⟨tl,_,_,_,_,_,_,_,_,_,dd,s0,s1,s2,s3,s5,_,X _ _ ho,.of_isNs<|isNs_of_in X r3,nsMap_none_of_in X r3 r4,tail_of_in X r2⟩
  .cases q
 .cases q
def N7(K:Ch)(m:Y' Z.D->Y_ Z.XN):Sp:=λ vs H _ E=>∃ds c,ay K H ds vs/\m ds=Y! c/\∀C dd H',ax H H'->lA K H' c C dd->E (.ref C) dd H'
structure i'(P:Program)(w:World)(K:Ch)(mg:Str->Option Value)(base:Heap)(x:Str)(k:Nat)(ps:List Str)(m:List Z.D->Option Z.XN):Prop where
 ex:∃g fd,dI P w K mg base (vX P w) k g fd ps (N7 K m)/\mg x=Y! (.ref g)/\Ev K (.ref g)=AT/\Binds K fd ps []
section
theorem _root_.ZQ.b7(C:i' X.prog X.w X.K X.mg X.base x k ps m)(hr:bK k X.A)(hg:Gl X x)
 (ha:ZQ.QA X.fy (e::es) ar) (hex:X.ex=[]:=by rfl) (c_:(x==("__debug__"))=Z!:=by decide +kernel) (he:Se e es X.env:=by rfl) (da:Pn pos es X.env:=by rfl) :
 ZQ.Gw X (.Call (.Name x p1) (e::es) [] pos) (Z.bL m ar):=⟨by
 obtain⟨g,fd,F,hm,hk,hb⟩:=C.ex;intro π s σ H Q I h;obtain⟨ρ,c,re,ec,kw⟩:=h;unfold Z.bL at ec;split at ec
 .rename_i ds ed;refine A32<|gW I hg hm ?_ c_;refine A72 I.ok.mod.AI hk (b8 (PA.fy ha.p pos π s σ H (λ vs H1=>ax H H1/\ay X.K H1 ds vs) I ⟨ρ,ds,re,ed,λ vs H1 s1 d1=>⟨s1,d1⟩⟩) λ us s1 ⟨vs,H1,I1,r,sm,d1⟩=>⟨I1.jm,?_⟩) he da;have zZ:N7 X.K m vs H1 (λ _ _=>False) (λ cv dd H'=>∃C,cv=.ref C/\lA X.K H' c C dd/\ax H1 H'):=⟨ds,c,d1,ec,λ C' dd H' s2 x2=>⟨C',rfl,x2,s2⟩⟩
  have hl:=F.len _ _ _ _ zZ;refine A44<|A54 (F.run X.A X.stack s1 H1 ⟨us,[]⟩ us vs _ _ hr I1.F3 (by have:=hb s1 us I1.jm (by rw[A53,<-r.length];exact hl);simpa using this) r zZ) λ rr s' hq=>?_;cases rr with
  |ok fl=>
   cases fl with
   |ret u=>obtain⟨v,H2,_,_,_,_,_,q⟩:=hq;exact q.elim
   |_=>exact hq.elim
  |error ev=>have hq:vX X.prog X.w X.stack H1 s1 (λ cv dd H'=>∃C,cv=.ref C/\lA X.K H' c C dd/\ax H1 H') ev s':=hq;obtain⟨a,C',dd,H',rfl,J,th,C2,hc,x2,s2⟩:=Hw hex I1 hq;cases hc;exact kw π H' s' a C' dd (sm.trans s2) x2 J th
 .cases ec⟩
theorem _root_.ZQ.ub(h:ZQ.Gw X e f)(ha:ZQ.QA X.fy es ar)(he:Se e es X.env:=by rfl):ZQ.NM X (e::es) f:=⟨aS h.p (PA.fy ha.p) he⟩
theorem _root_.ZQ.lG(h:ZQ.QE X.fy e fa)(ha:ZQ.NM X es f)(he:Se e es X.env:=by rfl):ZQ.NM X (e::es) (Z.t7 fa f):=
 ⟨PA.imp (aS (PE.fy h.p) ha.p he) λ σ H Q ⟨ρ,c,re,ec,kw⟩=>by
  unfold Z.t7 at ec;split at ec
  .rename_i d ed;exact⟨ρ,d,re,ed,λ v H1 s1 d1=>⟨ρ,c,re.up s1,ec,kw.up s1⟩⟩
  .cases ec⟩
theorem _root_.ZQ.rN(C:gL X.prog X.w X.K X.mg X.base x k ps m)(hr:bK k X.A)(hg:Gl X x)(ha:ZQ.NM X (e::es) f)
 (c_:(x==("__debug__"))=Z!:=by decide +kernel) (he:Se e es X.env:=by rfl) (da:Pn pos es X.env:=by rfl):ZQ.Gw X (.Call (.Name x p1) (e::es) [] pos) f:=⟨by
 obtain⟨g,fd,F,hm,hk,hb⟩:=C.ex;exact yt F hr hg hm hk hb .nil GV ha.p c_ he da⟩
theorem _root_.ZQ.D_(hg:Gl X x)(hm:X.mg x=AC)(hv:bootBuiltins x=Y! (.type T))(ha:ZQ.NM X (e::es) f)(hn:x≠ "__name__":=by decide +kernel)(c_:(x==("__debug__"))=Z!:=by decide +kernel)
 (he:Se e es X.env:=by rfl) (da:Pn pos es X.env:=by rfl):ZQ.Gw X (.Call (.Name x p1) (e::es) [] pos) f:=
 ⟨j3 (r:=λ _ _ _=>False) (λ _ _ _ _ _ _ _ _ _ h=>h.elim) hg hm hv ha.p hn c_ he da⟩
theorem _root_.ZQ.D8(h:ZQ.Gw X a f):ZQ.Uv X (.Compare a [.IsNot] [.Constant .none j pos'] pos) f:=⟨oj yv h.p o9<|kP _⟩
section
variable {st:ε}
theorem _root_.ZQ.oM{i:Nat}(hN:X.N.Nodup)(hi:X.N[i]?=Y! x)(hx:Loc X.env.scope x)(h:ZQ.Gw X a f)(hs:swapsWith a (Y!<|.Name x pos') pos.line X.env=pure Z!:=by rfl)(hf:Fl X x:=by trivial):ZQ.D7 X H0 (.Assign [.Name x pos'] a pos) f:=
 ⟨PS.imp (o5 hN hi hx h.p hs hf) λ D σ H q=>q.r⟩
theorem _root_.ZQ.hU(h:ZQ.Gw X a f):ZQ.D7 X H0 (.Return (Y! a) pos) f:=⟨PS.imp (wL h.p) λ D σ H q=>q.r⟩
theorem _root_.ZQ.D!(h:ZQ.Gw X a f)(hs:swapsWith a AC pos.line X.env=pure Z!:=by rfl):ZQ.Uw X (.Expr a pos) f:=⟨oo h.p hs⟩
theorem _root_.ZQ.Hl(h:ZQ.Gw X iter f)(hs:∀x,foldedSetIterable iter X.env x=pure x:=by intro _;rfl):ZQ.D7 X H0 (.For tg iter body [] pos) f:=⟨λ π s σ H D I q=>wpAny_For (Z5 (h.p π s σ H (λ _ _=>False) I q.r) (λ v s1 ⟨_,_,_,_,z⟩=>z.elim) λ _ _ z=>z) hs⟩
theorem _root_.ZQ.oN(hc:ZQ.QT X.fy c t)(h1:ZQ.vT X H0 b1 xa)(h2:ZQ.vT X H0 b2 xb):ZQ.D7 X H0 (.If c b1 b2 pos) (Z.uc t xa xb):=⟨PS.imp (BM (PT.fy hc.p) h1.p h2.p) λ D σ H ⟨ρ,c,rs,ec,kw⟩=>by
 unfold Z.uc at ec;split at ec
 .rename_i b eb;refine⟨ρ,b,rs.re,eb,λ H1 s1=>?_⟩;cases b with
  |true=>exact⟨ρ,c,rs.up s1,by simpa using ec,kw⟩
  |false=>exact⟨ρ,c,rs.up s1,by simpa using ec,kw⟩
 .cases ec⟩
theorem _root_.ZQ.Hk(hc:ZQ.Uv X c f)(h1:ZQ.rM X.fy H0 b1 g)(h2:ZQ.rM X.fy H0 b2 u):ZQ.D7 X H0 (.If c b1 b2 pos) f:=⟨PS.imp (BM hc.p (n9.fy h1.p)<|n9.fy h2.p) λ D σ H q=>q.r⟩
theorem _root_.ZQ.GG:ZQ.D7 X H0 st Z.og:=⟨λ _ _ _ _ _ _ ⟨_,_,_,e,_⟩=>nomatch e⟩
theorem _root_.ZQ.fA:ZQ.vT X H0 vY Z.og:=⟨λ _ _ _ _ _ _ ⟨_,_,_,e,_⟩=>nomatch e⟩
theorem _root_.ZQ.dC(h:ZQ.D7 X H0 st f):ZQ.vT X H0 [st] f:=⟨j1 h.p⟩
theorem _root_.ZQ.D'(h:ZQ.Uw X st f):ZQ.NL X [st] f:=⟨j1 h.p⟩
theorem _root_.ZQ.bR(h1:ZQ.QS X.fy H0 st g)(x1:ZQ.D7 X H0 st xa)(x2:ZQ.vT X H0 vY xb):ZQ.vT X H0 (st::vY) (Z.c! g xa xb):=⟨by
 have h1:=h1.p;have x2:=x2.p;intro π s σ H D I h;obtain⟨ρ,c,rs,ec,kw⟩:=h;unfold Z.c! at ec;split at ec
 .rename_i c' e1;cases ec;exact jz x1.p x2 π s σ H D I ⟨ρ,c,rs,e1,kw⟩
 .split at ec
  .rename_i ρ' e2;refine jz (PS.fy h1) x2 π s σ H D I ⟨ρ,_,rs,e2,λ σ' H' _ vZ=>⟨ρ',c,vZ,ec,kw⟩⟩
  .cases ec⟩
theorem _root_.ZQ.AV(hc:X.calm=AT)(hex:X.ex=[])(hg:Gl X x)(FI:(⟨c.toArray⟩)=x)(xc:XC X.K c C)(xi:excIn X.K C [.type "ValueError",.type "Exception",.type "BaseException",.type "object"] "ValueError.__new__"=AT)(ha:ZQ.QE X.fy a fa)
 (c_:(x==("__debug__"))=Z!:=by decide +kernel) (he:Se a [] X.env:=by rfl) (da:(backTo ia<|starEach (a::[]) X.env).any (·.1)=Z!:=by rfl) :
 ZQ.D7 X H0 (.Raise (Y!<|.Call (.Name x np) [a] [] ia) AC pos) (Z.rQ c fa):=⟨by
 intro π s σ H D I h;obtain⟨ρ,c',rs,ec,kw⟩:=h;unfold Z.rQ at ec;split at ec
 .rename_i d ed;cases ec;have hm:X.mg x=Y! (.ref C):=by have:=f8 I.jm (I.mod.glob.keeps I.bk) xc.1;rw[FI]at this;exact this
  obtain⟨tl,ns,nm,qn,bs,hd,sn,sub,ab,col,dd,s0,s1,s2,s3,s5,mN,hC,hN,Rm,T⟩:=Nw I.mod.AI xi;refine wpAny_Raise_call_subT (nm:=nm) (q:=qn) (N:=ns) (bs:=bs) (bm:=tl) (hdct:=hd) (sn:=sn) (sub:=sub) (ab:=ab) (col:=col) (dd:=dd) (k0:=s0) (k1:=s1) (k2:=s2) (k3:=s3) (k5:=s5)
   F.excBase_ValueError (mN:=mN) (T.hasType F.excBase_ValueError.hasBase) (I.ok.hd hc) da Rm<|gW I hg hm ⟨rfl,?_⟩ c_
  have P:=aS (PE.fy ha.p) bM he ia π s σ H (λ vs H1=>ax H H1/\vs.length=1) I ⟨ρ,d,rs.re,ed,λ v H1 s1 d1=>⟨s1,rfl⟩⟩;rw[he]at P ⊢;refine Calls.evalArgs_plain<|Z5 P (λ us s1 ⟨vs,H1,I1,r,sm,hl⟩=>⟨rfl,?_,I1.bk _ _ hC,hN.keeps I1.bk,T.keeps I1.bk,λ h' ex Ro=>?_⟩) λ _ _ z=>z
  .skip
   rw[<-r.length,hl,Y9];decide
  .obtain⟨J,th⟩:=r9 hex I1 Ro;exact kw π σ H1 _ ex C AC (rs.same.trans sm) ⟨xc,rfl⟩ J th
 .cases ec⟩
end
end
section
variable {K:Ch}
theorem fnX{st:ε}{dV kV doc pm ba ct oc:Z_}
 (lk:K.lookup f=Y! ⟨oc,od,.func<|PySem.W.fnOf name qual (a_ st) (aE st) (ak st) dV kV doc pm an ba ct,qe⟩) (lD:KT K ba qual=AT) (S:a6 N ps (ak st))
 (hb:∀ A outer s H E,bK k (A.deeper<|envOfC qual (ak st) s.heap.objs.size f ba) ->
  Pg (ee (vX P w) P w K mg base N qual (ak st) f ba A outer s H E) H (aE st) xb):dI P w K mg base (vX P w) (k+1) f (Ix name qual (a_ st) (aE st) (ak st) dV kV doc pm an ba ct) ps (N7 K<|Z.fx ps.length N.length xb):=by
 have ς:∀vs H Q E,N7 K (Z.fx ps.length N.length xb) vs H Q E->vs.length=ps.length:=λ vs H Q E ⟨ds,d,t,e,_⟩=>by
  unfold Z.fx at e;split at e
  .rename_i h;rw[t.length];exact h
  .cases e
 refine rp lk lD S ς λ A outer s H vs Q E hr h=>?_;refine⟨_,hb A outer s H E hr,?_⟩;have hl:=ς vs H Q E h;obtain⟨ds,c,t,e,k⟩:=h;have da:ps.length<=N.length:=by have:=Y8 List.length S.pre;rw[A00]at this;lia
 have rs:RS K H H (L2.start N vs) (Z.start N.length ds):=jZ t (by lia);unfold Z.fx at e;split at e
 .exact⟨_,c,rs,e,λ π σ H' s' a C dd sm xc I th=>zQ I th<|k C dd H' sm xc⟩
 .cases e
theorem i'.mk'{st:ε}(d:Def K mg x st ps)(S:a6 N ps (ak st))
 (hb:∀ f ba A outer s H E,bK k (A.deeper<|envOfC x (ak st) s.heap.objs.size f ba) ->
  Pg (ee (vX P w) P w K mg base N x (ak st) f ba A outer s H E) H (aE st) xb):i' P w K mg base x (k+1) ps (Z.fx ps.length N.length xb):=by
 obtain⟨f,fd,F,hm,CG⟩:=d.ex;have kp:=F.kp;obtain⟨oc,od,kV,doc,pm,an,ba,ct,qe,rfl,lk,lD⟩:=F.ex;exact⟨f,_,fnX lk lD S<|hb f ba,hm,kp,CG⟩
theorem i'.Vu{st:ε}(d:AG K mg x st ps)(S:a6 N ps (ak st))
 (hb:∀ f ba A outer s H E,bK k (A.deeper<|envOfC x (ak st) s.heap.objs.size f ba) ->
  Pg (ee (vX P w) P w K mg base N x (ak st) f ba A outer s H E) H (aE st) xb):i' P w K mg base x (k+1) ps (Z.fx ps.length N.length xb):=by
 obtain⟨f,fd,F,hm,CG,_⟩:=d.ex;have kp:=F.kp;obtain⟨t,oc,od,kV,doc,pm,an,ba,ct,qe,rfl,lk,lD⟩:=F.ex;exact⟨f,_,fnX lk lD S<|hb f ba,hm,kp,CG⟩
end
section
theorem RS.EG{K:FS}(h:RS K H0 H σ ρ)(hd:RL K H (.exc c) v):RS K H0 H (σ.set i<|some v) (ρ.set i<|some<|.exc c):=by
 have getσ:∀j,i≠j->(σ.set i<|some v)[j]?=σ[j]?:=λ j hj=>A14 hj;refine⟨h.same,⟨by simp[h.re.len],λ j l e=>?_,λ j k xs ys q e1 e2 e3 e4=>?_⟩,λ j xs q e1 e2=>?_,λ j xs e1=>?_,h.G!.set λ _ z=>nomatch z⟩
 .rcases aK e with⟨rfl,hl,e⟩|⟨hj,e⟩
  .cases e;exact⟨v,A25 (by rw[<-h.re.len];exact hl),hd⟩
  .rw[getσ j hj];exact h.re.get j l e
 .rcases aK e1 with⟨_,_,e⟩|⟨hj,e1⟩
  .cases e
  .rcases aK e2 with⟨_,_,e⟩|⟨hk,e2⟩
   .cases e
   .rw[getσ j hj]at e3;rw[getσ k hk]at e4;exact h.re.sep j k xs ys q e1 e2 e3 e4
 .rcases aK e1 with⟨_,_,e⟩|⟨hj,e1⟩
  .cases e
  .rw[getσ j hj]at e2;exact h.fresh j xs q e1 e2
 .rcases aK e1 with⟨_,_,e⟩|⟨hj,e1⟩
  .cases e
  .rw[getσ j hj];exact h.n5 j xs e1
theorem gK.HD(h:gK H0 σ ρ):gK H0 (σ.set i AC) (ρ.set i AC):=by
 have g1:∀{j}{l},(ρ.set i AC)[j]?=Y! _->i≠j/\ρ[j]?=Y! (Y! l):=λ {j l} e=>by
  rcases aK e with⟨_,_,e⟩|z
  .cases e
  .exact z
 have g2:∀{j},i≠j->(σ.set i AC)[j]?=σ[j]?:=λ {j} hj=>A14 hj;refine⟨λ j k ks ls q e1 e2 e3 e4=>?_,λ j ks q e1 e2=>?_⟩
 .obtain⟨n1,e1⟩:=g1 e1;obtain⟨n2,e2⟩:=g1 e2;rw[g2 n1]at e3;rw[g2 n2]at e4;exact h.1 j k ks ls q e1 e2 e3 e4
 .obtain⟨n1,e1⟩:=g1 e1;rw[g2 n1]at e2;exact h.2 j ks q e1 e2
theorem RS.HD{K:Ch}(h:RS K H0 H σ ρ):RS K H0 H (σ.set i AC) (ρ.set i AC):=by
 have g1:∀{j}{l},(ρ.set i AC)[j]?=Y! _->i≠j/\ρ[j]?=Y! (Y! l):=λ {j l} e=>by
  rcases aK e with⟨_,_,e⟩|z
  .cases e
  .exact z
 have g2:∀{j},i≠j->(σ.set i AC)[j]?=σ[j]?:=λ {j} hj=>A14 hj;refine⟨h.same,⟨by simp[h.re.len],λ j l e=>?_,λ j k xs ys q e1 e2 e3 e4=>?_⟩,λ j xs q e1 e2=>?_,λ j xs e1=>?_,h.G!.HD⟩
 .obtain⟨n,e⟩:=g1 e;rw[g2 n];exact h.re.get j l e
 .obtain⟨n1,e1⟩:=g1 e1;obtain⟨n2,e2⟩:=g1 e2;rw[g2 n1]at e3;rw[g2 n2]at e4;exact h.re.sep j k xs ys q e1 e2 e3 e4
 .obtain⟨n,e1⟩:=g1 e1;rw[g2 n]at e2;exact h.fresh j xs q e1 e2
 .obtain⟨n,e1⟩:=g1 e1;rw[g2 n];exact h.n5 j xs e1
theorem NU.K8(c:NU X π σ H s e C dd l):∃oe u,oe.cls=.ref C/\oe.dict=dd/\(∃vs,oe.data=.fields vs)/\H e=AC/\Inv X π σ (upd H e<|.c5 oe u) s:=by
 obtain⟨oe,vs,T,oT,ts,he,h!,t9,hd,h1,M7,DR,gT,dT,h3,_⟩:=c.ex;have I:=c.inv;have ne:∀b u,H b=Y! u->b≠e:=λ b u q=>aP q c.off.free;refine⟨oe,.ext λ _=>True,h!,t9,⟨vs,hd⟩,c.off.free,?_⟩;have J:=yf (t':=s.toks) (d':=s.drawn) (H':=upd H e (.c5 oe<|.ext λ _=>True)) I (λ b hb=>by rw[A03.mp hb];exact⟨c.off.new,c.off.loc I,c.off.cell I,c.off.pin⟩) (λ b o _ _ _ q _=>q) (λ b o _ _ _ q _=>⟨o.slots,q⟩)
  (λ b o hb q n=>by rw[aA λ z=>hb<|A03.mpr z];exact n) (λ b o _ q=>⟨o,q⟩) (λ b xs q=>by rw[aA<|ne b _ q];exact q) (λ b o u q=>by rw[aA<|ne b _ q];exact q) (λ b u _ q=>by rw[aA<|ne b _ q];exact q) (λ m hm=>hm) (λ b u q=>?_) I.bare
 .exact J
 .by_cases hb:b=e
  .subst hb;rw[aI]at q;cases q;exact⟨he,trivial,⟨oe,he⟩,λ _ _ _ _=>trivial⟩
  .rw[aA hb]at q;exact(I.bI b u q).j! (λ c v _ z=>z) (λ c z=>by rw[aA<|ne c _ z];exact z) (λ c xs z=>by rw[aA<|ne c _ z];exact z) λ c v _ z=>by rw[aA<|ne c _ z];exact z
theorem name_goes(hN:X.N.Nodup)(hi:X.N[i]?=Y! n)(hl:X.env.scope.names.lookup n=Y! .local)(I:Inv X π σ H s)
 (k:∀s',Inv X π (σ.set i AC) H s'->Q () s'):Db M A (do bindName X.env n .none;unbindBehindTheSuite X.env n pos) Q E s:=by
 obtain⟨m,hn,V?⟩:=id I.loc;obtain⟨oL,_,_,TK,_⟩:=id hn;refine wpAny_nameGoes_keeps hl hn (by rw[I.ok.kind];rfl) λ h' v DZ hs=>k _ ?_;have lt:∀b o,X.s₀.heap.get? b=Y! o->b≠X.env.locals:=λ b o e=>Z4<|Z6 (Y1 e) I.ok.above;refine⟨I.ok,I.os,I.bare,⟨λ b o e n hb hx=>(hs.2 b<|lt b o e).trans<|I.base.keep b o e n hb hx,λ b o e n hb hx=>?_,I.base.free,λ b o e hx=>?_,I.base.nK,I.base.mU,I.base.kI⟩,⟨_,DZ,λ j y v' e1 e2 e3=>?_⟩,λ y c e=>?_,I.free,I.dJ,λ p hp=>?_,λ b u e=>?_,by simpa using I.len,I.tab⟩
 .obtain⟨sl,e1⟩:=I.base.slot b o e n hb hx;exact⟨sl,(hs.2 b<|lt b o e).trans e1⟩
 .obtain⟨o',e1⟩:=I.base.there b o e hx;exact⟨o',(hs.2 b<|lt b o e).trans e1⟩
 .have hj:j≠i:=λ z=>by
   subst z;rcases aK e2 with⟨_,_,e⟩|⟨n,_⟩
   .cases e
   .exact n rfl
  rw[A14<|P3 hj]at e2;obtain⟨u',r',q⟩:=V? j y v' e1 e2 e3;refine⟨u',r',?_⟩;rcases q with⟨k,e⟩|⟨k,c,e,z⟩
  .refine .inl ⟨k,?_⟩;have:y≠n:=λ e=>hj<|ph hN e1<|e▸hi;simp[this,e]
  .exact .inr ⟨k,c,e,z.sameBut hs<|I.Dl y c e⟩
 .obtain⟨w',z⟩:=I.cell y c e;exact⟨w',z.sameBut hs<|I.Dl y c e⟩
 .obtain⟨e,n,ne,nf,d⟩:=I.pin p hp;exact⟨(hs.2 p.1 ne).trans e,n,ne,nf,d⟩
 .refine(I.bI b u e).j! (λ c v hc q=>(hs.2 c ?_).trans q) (λ _ q=>q) (λ _ _ q=>q) λ _ _ _ q=>q;rintro rfl;rcases hc with rfl|hc
  .rw[I.free]at e;cases e
  .rw[I.free]at hc;cases hc
end
abbrev zz(X:Cx)(pn:Y' (Z'×ζ))(E:Z_->δ->Prop):Cx:={X with pn:=pn,xe:=E}
abbrev FL(X:Cx)(ev:Z_):Cx:={X with A:=X.A.mark<|some ev,calm:=Z!}
theorem Ij(ok:X.Ok)(pn:Y' _)(E:Z_->δ->Prop):(zz X pn E).Ok:=
 ⟨ok.mod,ok.kind,ok.glob,ok.blt,ok.above,ok.inj,ok.has,ok.Ha,ok.hd,ok.frames,ok.Bo,ok.Nk,ok.bs,ok.As,ok.sQ,ok.xA,ok.jk,ok.CM⟩
theorem Il(ok:X.Ok)(ev:Z_):(FL X ev).Ok:=
 ⟨ok.mod,ok.kind,ok.glob,ok.blt,ok.above,ok.inj,ok.has,ok.Ha,λ z=>(nomatch z),ok.frames,ok.Bo,ok.Nk,ok.bs,ok.As,ok.sQ,ok.xA,ok.jk,ok.CM⟩
section
theorem Fy(I:Inv X π σ H s)(E:Z_->δ->Prop):Inv (zz X (X.pn++π) E) [] σ H s:=⟨Ij I.ok _ E,I.os,I.bare,I.base,I.loc,I.cell,I.free,I.dJ,λ p hp=>I.pin p (by simpa using hp),I.bI,I.len,I.tab⟩
theorem xl(ok:X.Ok)(I:Inv (zz X (X.pn++π) E) i_ σ H s):Inv X π σ H s:=⟨ok,I.os,I.bare,I.base,I.loc,I.cell,I.free,I.dJ,λ p hp=>I.pin p<|A70 _ hp,I.bI,I.len,I.tab⟩
theorem pd(o:lB (zz X (X.pn++π) E) i_ H s a):lB X π H s a:=⟨o.free,o.new,λ p hp=>o.pin p<|A70 _ hp,o.Q3⟩
theorem wD(t:D6 (zz X (X.pn++π) E) i_ H s e C dd):D6 X π H s e C dd:=by
 obtain⟨oe,vs,he,h!,t9,hd,h1⟩:=t.ex;refine⟨pd t.off,oe,vs,he,h!,t9,hd,?_⟩;rcases h1 with h1|⟨T,oT,ts,h1,h2,h3,h4⟩
 .exact .inl h1
 .exact .inr ⟨T,oT,ts,h1,h2,pd h3,h4⟩
theorem yJ(I:Inv X π σ H s)(ev:Z_):Inv (FL X ev).fy π σ H s:=⟨(Il I.ok ev).wish _,I.os,I.bare,I.base,I.loc,I.cell,I.free,I.dJ,I.pin,I.bI,I.len,I.tab⟩
theorem pC(ok:X.Ok)(I:Inv (FL X ev).fy π σ H s):Inv X π σ H s:=⟨ok,I.os,I.bare,I.base,I.loc,I.cell,I.free,I.dJ,I.pin,I.bI,I.len,I.tab⟩
theorem Ck(I:Inv X π σ H s)(hg:Gl X x)(hm:X.mg x=Y! u)(h:Q u s)
 (hd:(x==("__debug__"))=Z!):Db M A (eval (.Name x pos) X.env) Q E s:=
 B31 I.ok.kind hg (Calls.loadGlobal_global (by rw[I.ok.glob];exact I.mod.glob.keeps I.bk) hm h) hd
end
section
theorem _root_.ZQ.JB(hex:X.ex=[])(vb:X.stack=X.env::X.outer)(AK:X.env.frame=Y! X.env.locals)
 (hN:X.N.Nodup) (hi:X.N[i]?=Y! n) (hl:X.env.scope.names.lookup n=Y! .local) (hg:Gl X x) (FI:(⟨c.toArray⟩)=x)
 (hb:ZQ.rM X.fy H0 body g) (Q?:∀pn E,ZQ.NL (zz X pn E) body xb) (hh:∀ev,ZQ.rM (FL X ev).fy H0 (b0::Lc) h) (c_:(x==("__debug__"))=Z!:=by decide +kernel) :
 ZQ.QS X H0 (.Try body [.ExceptHandler (Y!<|.Name x np) (Y! n) (b0::Lc) V1] [] [] pos) (Z.EJ g xb c i h):=⟨by
 have hb:=hb.p;have Q?:=λ pn E=>(Q? pn E).p;have hh:=λ ev=>(hh ev).p;intro π s σ H D I hyp;obtain⟨ρ,fl,rs,e,k⟩:=hyp;refine wpAny_Try_except ?_;unfold Z.EJ at e;split at e
 .rename_i c' ec;split at e
  .rename_i v_;subst v_;refine Z5 (Q? (X.pn++π) _ [] s σ H {nx:=λ _ _=>False,rt:=λ _ _=>False} (Fy I _) ⟨ρ,c',rs.re,ec,λ i_ H' s' ex C dd sm xr J1 U0=>?_⟩) (λ f s1 q=>?_) λ _ _ z=>z;rotate_left
   .cases f with
    |next=>obtain⟨_,_,_,z⟩:=q;exact z.elim
    |brk=>obtain⟨_,_,_,z⟩:=q;exact z.elim
    |cont=>obtain⟨_,_,_,z⟩:=q;exact z.elim
    |ret u=>obtain⟨_,_,_,_,_,z⟩:=q;exact z.elim
   have J:=xl I.ok J1;have xr:=xr;have xc:=xr.1;have hm:X.mg x=Y! (.ref C):=by have:=f8 J.jm (J.mod.glob.keeps J.bk) xc.1;rw[FI]at this;exact this
   refine uT hex vb AK J (wD U0) λ s2 c2=>land c2 λ s3 c3=>?_;obtain⟨tl,ns,nm,qn,bs,hd,sn,sub,ab,col,X5,XI,Qh,S8,XH,XG,hC,Wo⟩:=Si c3.inv.jm xc;obtain⟨oe,vs,_,_,_,he,h!,_⟩:=c3.ex;refine wpAny_handleBy_cons (codeAny_handlers_test<|Ck c3.inv hg hm ?_ c_) (by intro q;cases q);refine wpAny_excMatches_sub_self hC he h! Wo ?_;refine codeAny_handlers_suite_as<|land c3 λ s4 c4=>?_;obtain⟨Qy,u4,RJ,RB,RD,fe,I4⟩:=c4.K8;refine lN I4 hN hi (.inl hl) (show RelV (.ref ex) (.ref ex)from rfl) (λ s5 I5=>?_)<|.inr hl;have yg:ax H (upd H' ex<|.c5 Qy u4):=sm.trans<|bV fe;have Oe:RS X.K H0 (upd H' ex<|.c5 Qy u4) (σ.set i<|some<|.ref ex) (ρ.set i<|some<|.exc c'):=(rs.up yg).EG ⟨ex,Qy,u4,C,rfl,aI,RJ,RD,by rw[RB];exact xr.ups<|lC<|bV fe⟩;split at e
   .rename_i ρ' eh;cases e;refine Z5 (hh (.ref ex) π s5 _ _ {nx:=λ σ' H2=>D.nx (σ'.set i AC) H2,rt:=λ _ _=>False} (yJ I5 _) ⟨_,.nx ρ',Oe,eh,λ σ' H2 st vZ=>k (σ'.set i AC) H2 ((lC yg).trans st) vZ.HD⟩) (λ f s6 q=>?_) λ _ _ z=>z.elim;cases f with
    |next=>obtain⟨σ',H2,I6,q⟩:=q;exact name_goes hN hi hl (pC I.ok I6) λ s7 I7=>⟨_,H2,I7,q⟩
    |brk=>obtain⟨_,_,_,z⟩:=q;exact z.elim
    |cont=>obtain⟨_,_,_,z⟩:=q;exact z.elim
    |ret u=>obtain⟨_,_,_,_,_,z⟩:=q;exact z.elim
   .rename_i d eh;cases e;refine Z5 (hh (.ref ex) π s5 _ _ {nx:=λ _ _=>False,rt:=D.rt} (yJ I5 _) ⟨_,.rt d,Oe,eh,k⟩) (λ f s6 q=>?_) λ _ _ z=>z.elim;cases f with
    |next=>obtain⟨_,_,_,z⟩:=q;exact z.elim
    |brk=>obtain⟨_,_,_,z⟩:=q;exact z.elim
    |cont=>obtain⟨_,_,_,z⟩:=q;exact z.elim
    |ret u=>obtain⟨v,σ',H2,I6,rv,q⟩:=q;exact name_goes hN hi hl (pC I.ok I6) λ s7 I7=>⟨v,_,H2,I7,rv,q⟩
   .cases e
  .cases e
 .refine Z5 (hb π s σ H D (I.wish _) ⟨ρ,fl,rs,e,k⟩) (λ f s1 q=>?_) λ _ _ z=>z.elim;have q:=q.eF;cases f with
  |next=>exact B08 q
  |brk=>exact q
  |cont=>exact q
  |ret u=>exact q⟩
end
structure gN(K:Ch)(C:Addr):Prop where
 ga:findIn K (.ref C) "__getattribute__"=Y! (Y!<|.builtin "BaseException.__getattribute__")
 gn:findIn K (.ref C) "__getattr__"=Y! AC
 cl:findIn K (.ref C) "__class__"=Y! (Y!<|.builtin "object.__class__")
 hn:specialIn K (.builtin "object.__class__") "__get__"=Y! (Y!<|.builtin "getset_descriptor.__get__")
 tk:takesIn K (.builtin "object.__class__")=Y! AT
 mo:mroIn K C (.type "object")=Y! AT
 mb:mroIn K C (.type "BaseException")=Y! AT
section
variable {K:Ch}
theorem F1(k:gN K C)(X:K.In s.heap)(I:InstAt s.heap x ox C od)(h:Q (Y!<|.ref C) {s with toks:=s.toks+1}):Db (model prog w) A (getAttr? (.ref x) "__class__") Q E s:=by
 have hf:findObj K C od "__class__"=Y! (.bind (.builtin "getset_descriptor.__get__")<|.builtin "object.__class__"):=by
  have:=k.mo;unfold mroIn at this;cases e:clsIn K C with
  |none=>rw[e]at this;cases this
  |some cd=>unfold findObj;rw[e];simp only[A98,k.cl,k.hn,k.tk]
 obtain⟨hh,g,d,t,os⟩:=s;have L0:=I.type (M:=model prog w);have L1:=A85 (M:=model prog w) X k.ga;have L2:=A85 (M:=model prog w) X k.gn;have L3:=looks_find (M:=model prog w) X I hf;have L4:=looks_mroIn (M:=model prog w) X k.mb;have LB:Looks (model prog w) hh (isInstance (.ref x)<|.type "BaseException") AT:=L0.andThen L4;unfold getAttr? getAttrBy? getAttrBy;refine T0<|wpAny_mkText<|T0<|A97<|v6<|T0<|L0.at<|T0<|L1.at ?_;dsimp only;rw[show(TW "BaseException.__getattribute__"== TW "object.__getattribute__")=Z! from by decide +kernel,B11,v0 (by decide)];unfold getAttrByItsOwn hookBefore;refine T0 ?_;rw[Z1<|show onTheHeap (.ref C)=AT from rfl];refine L2.at ?_;refine T0<|A97<|v6 ?_;unfold callGetattribute;rw[v0 (by decide)];unfold boundAndCalled;rw[B27.ga.bind<|.ref x];refine T0<|Y0 ?_;refine A44<|B64 B27.ga.plain F.entry_bexc_ga ?_;have hk:builtinKind "BaseException.__getattribute__"=Y! .slot:=by decide +kernel
 have xo:splitId "BaseException.__getattribute__"=Y! ("BaseException","__getattribute__"):=by decide +kernel
 have M5:=F.args_bexc_ga (.ref x)<|.str "__class__" t;simp only[checkBuiltinCall,hk,xo];refine T0<|LB.at ?_
 repeat (any_goals (first|assumption|with_reducible refine LB.at ?_|wp_step))
 refine B03 I.at_<|Y0 ?_;rw[I.cls];refine T0<|L3.at ?_;dsimp only;unfold Builtin.ObjectAttr.bindTo;dsimp only;refine T0<|v6<|A44<|class_get X I k.mo ?_;refine Y0 ?_;exact Y0<|Y0 h
theorem u6(k:gN K C):KitX K (.ref x) (.ref C) (λ h=>InstAt h x ox C od) where
 ty:=λ _ _ _ I=>I.type
 it:=λ _ _ X _=>by
  have:=k.mo;unfold mroIn clsIn at this;split at this
  .rename_i ho;intro A' Q' E' s' kp q;exact T0<|B03 (kp _ _<|X _ _ ho)<|Y0 q
  .cases this
 ne:=λ h tp dd aU n sl X VT=>by
  have:=k.mo;unfold mroIn clsIn at this;split at this
  .rename_i ho;refine Bool.eq_false_iff.mpr λ q=>?_;have e:=Value.ref.inj<|A07.mp q;subst e;have z:=(X _ _ ho).symm.trans VT;cases z
  .cases this
 ca:=λ X I h=>F1 k X I h
end
def nE(K:Ch)(c0:Y' Nat)(cv:Z_)(b:Bool):Prop:=∃C,nsIn K mainGlobals ⟨c0.toArray⟩=Y! (Y!<|.ref C)/\gN K C/\kitOne K (.ref C) cv=Y! b
theorem Cv{K:Ch}(h:nE K c0 cv b)(e:Z.v3 c0 b c=Y! b')(xc:XC K c C):gN K C/\kitOne K (.ref C) cv=Y! b':=by
 unfold Z.v3 at e;split at e
 .rename_i hc;subst hc;cases e;obtain⟨C',e1,k,e2⟩:=h;have:=xc.1.symm.trans e1;cases this;exact⟨k,e2⟩
 .cases e
section
variable {X:Cx}
theorem KY(I:Inv X π σ H s)(hp:H p=Y! (.c5 o u))(hc:o.cls=.ref C)(hd:∃vs,o.data=.fields vs)(xr:lA X.K H c C o.dict)
 (k:gN X.K C) (e:kitOne X.K (.ref C) cv=Y! b) (h:∀tk,Q (.bool b) {s with toks:=tk}):Db (model X.prog X.w) A (call (.builtin "isinstance") [.ref p,cv]) Q E s:=by
 obtain⟨g1,_⟩:=(I.bI p _ hp)
 obtain⟨vs,hd⟩:=hd;have nc:notCls o=AT:=by unfold notCls;rw[hd]
 have xd:=xr.2;cases t9:o.dict with
 |none=>exact kia_one (u6 (od:=AC) k) I.jm ⟨g1,hc,nc,by rw[t9];trivial⟩ e (λ z=>nomatch z) h
 |some dx=>
  rw[t9]at xd;obtain⟨_,od,dG,q,_⟩:=xd;obtain⟨g2,_⟩:=(I.bI dx _ q)
  exact kia_one (u6 (od:=Y! od) k) I.jm ⟨g1,hc,nc,by rw[t9];exact g2⟩ e (λ z=>nomatch z) h
theorem p8(rc:∀u,RelV cV u->u=cv):jX X (.builtin "isinstance") (λ xs H Q=>∃p o u C c b,xs=[.ref p,cV]/\H p=Y! (.c5 o u)/\o.cls=.ref C/\(∃vs,o.data=.fields vs)/\lA X.K H c C o.dict/\gN X.K C/\kitOne X.K (.ref C) cv=Y! b/\Q (.bl b) H):=by intro π s σ H xs us Q I r h;obtain⟨p,o,u,C,c,b,rfl,h1,h2,h3,h4,h5,h6,q⟩:=h;obtain⟨v1,v2,rfl,r1,r2⟩:=vals2 r;cases (r1);cases rc v2 r2;exact KY I h1 h2 h3 h4 h5 h6 λ tk=>⟨.bl b,H,I.tok _,rfl,q⟩
theorem yH(hK:nE X.K c0 cv b):∀σ H Q,tZ X.K (Z.iC i<|Z.v3 c0 b) σ H Q ->
 N6 (λ xs H Q=>∃p o u C c b,xs=[.ref p,cV]/\H p=Y! (.c5 o u)/\o.cls=.ref C/\(∃vs,o.data=.fields vs)/\lA X.K H c C o.dict/\gN X.K C/\kitOne X.K (.ref C) cv=Y! b/\Q (.bl b) H) (oU (fE i)<|oU (tC cV) Bk) σ H Q:=λ σ H Q ⟨ρ,d,r,e,k⟩=>by
 unfold Z.iC at e;split at e
 .rename_i c hi;split at e
  .rename_i b' eb;cases e;obtain⟨v,hv,p,o,u,C,rfl,h1,h2,h3,h4⟩:=r.get i _ hi;obtain⟨k1,k2⟩:=Cv hK eb h4.1;exact⟨_,hv,p,o,u,C,c,b',rfl,h1,h2,h3,h4,k1,k2,k _ H (ax.refl H) cy⟩
  .cases e
 .cases e
theorem _root_.ZQ.f9(hg:Gl X x)(hm:X.mg x=AC)(hv:bootBuiltins x=Y! (.builtin "isinstance"))(ha:PE X a (fE i))(MR:Gl X y)(ML:X.mg y=Y! (.ref D))(hK:nE X.K c0 (.ref D) b)
 (hn:x≠ "__name__":=by decide +kernel) (c_:(x==("__debug__"))=Z!:=by decide +kernel) (MY:(y==("__debug__"))=Z!:=by decide +kernel)
 (he:starEach (a::[.Name y p2]) X.env=(Z!,eval a X.env)::starEach [.Name y p2] X.env:=by rfl) (da:(backTo pos<|starEach [.Name y p2] X.env).any (·.1)=Z!:=by rfl) (AL:starEach ((.Name y p2)::[]) X.env=(Z!,eval (.Name y p2) X.env)::starEach [] X.env:=by rfl) :
 ZQ.QE X (.Call (.Name x p1) [a,.Name y p2] [] pos) (Z.iC i<|Z.v3 c0 b):=
 ⟨PE.imp (fq (p8 (cV:=.ref D) λ u r=>r) hg hm hv (aS ha (aS (sD (v:=.ref D) MR ML rfl MY) bM AL) he) hn c_ he da)<|yH hK⟩
theorem _root_.ZQ.Ga(hg:Gl X x)(hm:X.mg x=AC)(hv:bootBuiltins x=Y! (.builtin "isinstance"))(ha:PE X a (fE i))(MR:Gl X y)(ML:X.mg y=AC)(VO:bootBuiltins y=Y! (.type T))(hK:nE X.K c0 (.type T) b)
 (hn:x≠ "__name__":=by decide +kernel) (c_:(x==("__debug__"))=Z!:=by decide +kernel) (V7:y≠ "__name__":=by decide +kernel) (MY:(y==("__debug__"))=Z!:=by decide +kernel)
 (he:starEach (a::[.Name y p2]) X.env=(Z!,eval a X.env)::starEach [.Name y p2] X.env:=by rfl) (da:(backTo pos<|starEach [.Name y p2] X.env).any (·.1)=Z!:=by rfl) (AL:starEach ((.Name y p2)::[]) X.env=(Z!,eval (.Name y p2) X.env)::starEach [] X.env:=by rfl) :
 ZQ.QE X (.Call (.Name x p1) [a,.Name y p2] [] pos) (Z.iC i<|Z.v3 c0 b):=
 ⟨PE.imp (fq (p8 (cV:=.ty T) λ u r=>r) hg hm hv (aS ha (aS (yu (v:=.ty T) MR ML VO rfl V7 MY) bM AL) he) hn c_ he da)<|yH hK⟩
end
structure rL(k:Nat)(A:Around):Prop where
 dp:A.depth+3*k+5<recursionLimit
 un:A.units+16*k+200<cLine
theorem bK.Wu(r:bK k A)(ev:Y_ Z_):rL k (A.mark ev):=⟨r.dp,r.un⟩
abbrev Nv(P:ι)(w:θ)(K:Ch)(mg:Str->Y_ Z_)(base:η)(N:Y' Str)(qual:Str)(scope:μ)(f:Z')(cd:Z_)(A:ν)(outer:Y' PySem.Env)(s:δ)(H:Hp):Cx:=
 {ee jc P w K mg base N qual scope f cd A outer s H E0 with calm:=Z!}
section
variable {K:Ch}
def Su(P:ι)(w:θ)(K:Ch)(mg:Str->Y_ Z_)(base:η)(k:Nat)(g:Z')(fd:ξ)(ps:Y' Str)(m:Z.XN->Z.Res Z.D):Prop:=
 ∀(A:ν)(outer:Y' PySem.Env)(s:δ)(H:Hp)(args:Args)(u:Z_)(v:V)(Q:VK)(c:Z.XN)(d:Z.D),rL k A->t5 P w K mg base A outer s H->BindsTo s fd args (ps.zip [u])->RelV v u->RL K H (.exc c) v->m c=.ok d->(∀v' H',ax H H'->Den K H' d v'->Q v' H') ->
  codeAny (model P w) A (.call (.ref g) args) (CR jc outer P w H s Q E0) s
structure GB(P:Program)(w:World)(K:Ch)(mg:Str->Option Value)(base:Heap)(x:Str)(k:Nat)(ps:List Str)(m:Z.XN->Z.Res Z.D):Prop where
 ex:∃g fd,Su P w K mg base k g fd ps m/\mg x=Y! (.ref g)/\Ev K (.ref g)=AT/\Binds K fd ps []/\ps.length=1
theorem zA(hN:1<=N.length)(h:RL K H (.exc c) v):RS K H H (L2.start N [v]) (Y! (.exc c)::Da (N.length-1) AC):=by
 have base:RS K H H (Da N.length<|none) (Da N.length<|none):=by
  have nn:∀i l,(Da N.length (AC:Y_ Z.L))[i]?≠Y! (Y! l):=λ i l e=>by rw[A15]at e;split at e<;>cases e
  refine⟨ax.refl H,⟨by simp,λ i l e=>absurd e<|nn i l,λ i j xs ys a e=>absurd e<|nn i _⟩,λ i xs q e=>absurd e<|nn i _,λ i xs e=>absurd e<|nn i _,⟨λ i j ks ls q e=>absurd e<|nn i _,λ i ks q e=>absurd e<|nn i _⟩⟩
 have e1:L2.start N [v]=(Da N.length<|none).set 0 (Y! v):=by
  unfold L2.start;obtain⟨n,hn⟩:∃n,N.length=n+1:=⟨N.length-1,by lia⟩
  rw[hn];rfl
 have e2:(Y! (Z.L.exc c)::Da (N.length-1) AC)=(Da N.length<|none).set 0 (Y!<|.exc c):=by
  obtain⟨n,hn⟩:∃n,N.length=n+1:=⟨N.length-1,by lia⟩
  rw[hn];rfl
 rw[e1,e2];exact base.EG h
theorem JL{x:Str}{k:Nat}{st:ε}{N ps:Y' Str}{b:Z.SF}(d:Def K mg x st ps)(S:a6 N ps (ak st))(h1:ps.length=1)
 (hb:∀ f ba A outer s H,rL k (A.deeper<|envOfC x (ak st) s.heap.objs.size f ba) ->
  Hi (Nv P w K mg base N x (ak st) f ba A outer s H).fy H (aE st) b):GB P w K mg base x (k+1) ps (Z.O5 N.length b):=by
 obtain⟨f,fd,F,hm,CG⟩:=d.ex;have kp:=F.kp;obtain⟨oc,od,kV,doc,pm,an,ba,ct,qe,rfl,lk,lD⟩:=F.ex;refine⟨f,_,?_,hm,kp,CG,h1⟩;intro A outer s H args u v Q c dd hr e0 Wq rv rl em hq;have KX:K.In s.heap:=e0.mod.AI.keeps λ b o e=>(e0.bs b o e).1;have lim:s.heap.NoLimit:=e0.mod.nolimit.keeps λ b o e=>(e0.bs b o e).1;have CC:∀y∈ps.zip [u],(ak st).names.lookup y.1=Y! .local\/((ak st).names.lookup y.1=Y! .cell/\((cellsFrom (s.heap.objs.size+1) (ak st).names []).lookup y.1).isSome=AT):=λ⟨n,v⟩ hy=>by
  rcases S.par n (B09 hy).1 with q|q
  .exact .inl q
  .exact .inr ⟨q,B34 _ _ _<|.inl q⟩
 have da:ps.length<=N.length:=by have:=Y8 List.length S.pre;rw[A00]at this;lia
 refine codeAny_call_function (by have:=hr.dp;lia) (KX _ _ lk) rfl S.co S.gen rfl (YL KX lD)<|Wq _ _ _ _ ?_;refine B74 S.kind CC λ env he s1 x1=>?_;subst he;refine⟨lim.keeps x1.toInCall.keep,codeAny_func ?_⟩;have e1:t5 P w K mg base ({A with handled:=AC}) outer s H:=⟨e0.frames,e0.mod,e0.bs,e0.As,e0.jk,e0.CM,e0.bI,e0.bare,e0.tab⟩
 have I0:Inv (ee jc P w K mg base N x (ak st) f ba {A with handled:=AC} outer s H E0) [] (L2.start N [v]) H s1:=rg S rfl e1 (by rw[h1];rfl) (.cons rv .nil) x1;have ok:(Nv P w K mg base N x (ak st) f ba A outer s H).Ok:=let ok:=I0.ok
  ⟨ok.mod,ok.kind,ok.glob,ok.blt,ok.above,ok.inj,ok.has,ok.Ha,λ z=>(nomatch z),B35 e0.frames,ok.Bo,ok.Nk,ok.bs,ok.As,ok.sQ,ok.xA,ok.jk,ok.CM⟩
 have I:Inv (Nv P w K mg base N x (ak st) f ba A outer s H).fy [] (L2.start N [v]) H s1:=⟨ok.wish _,I0.os,I0.bare,I0.base,I0.loc,I0.cell,I0.free,I0.dJ,I0.pin,I0.bI,I0.len,I0.tab⟩
 have room:rL k (A.deeper<|envOfC x (ak st) s.heap.objs.size f ba):=⟨by have:=hr.dp;show A.depth+1+3*k+5<_;lia,by have:=hr.un;show A.units+3+16*k+200<_;lia⟩
 have rs:=zA (N:=N) (by lia) rl;unfold Z.O5 at em;have fin:∀{σ'}{H'}{v'}{u'}{s'},Inv (Nv P w K mg base N x (ak st) f ba A outer s H).fy [] σ' H' s'->RelV v' u'->Q v' H'->CE outer P w H s Q u' s':=
  λ {σ' H' v' u' s'} J rv q=>⟨v',H',J.os,J.bare,J.base,J.bI,rv,q⟩
 split at em
 .rename_i d' eb;cases em;refine Z5 (hb f ba A outer s H room [] s1 _ H {nx:=λ _ _=>False,rt:=Q} I ⟨_,.rt dd,rs,eb,λ v' H' s' dv=>hq v' H' s' dv⟩) (λ fl s' hs=>?_) λ _ _ z=>z.elim;cases fl with
  |ret u'=>obtain⟨v',σ',H',J,Qk,q⟩:=hs;exact fin J Qk q
  |next=>obtain⟨_,_,_,q⟩:=hs;exact q.elim
  |brk=>obtain⟨_,_,_,q⟩:=hs;exact q.elim
  |cont=>obtain⟨_,_,_,q⟩:=hs;exact q.elim
 .rename_i ρ' eb;cases em;refine Z5 (hb f ba A outer s H room [] s1 _ H {nx:=λ _ H'=>Q .non H',rt:=λ _ _=>False} I ⟨_,.nx ρ',rs,eb,λ σ' H' _ vZ=>hq .non H' vZ.same j9⟩) (λ fl s' hs=>?_) λ _ _ z=>z.elim;cases fl with
  |ret u'=>obtain⟨_,_,_,_,_,q⟩:=hs;exact q.elim
  |next=>obtain⟨σ',H',J,q⟩:=hs;exact fin (v':=V.non) (u':=No) J rfl q
  |brk=>obtain⟨_,_,_,q⟩:=hs;exact q.elim
  |cont=>obtain⟨_,_,_,q⟩:=hs;exact q.elim
 .cases em
end
section
theorem _root_.ZQ.Di(C:GB X.prog X.w X.K X.mg X.base x k ps m)(hr:rL k X.A)(hg:Gl X x)(ha:PE X a (fE i))
 (c_:(x==("__debug__"))=Z!:=by decide +kernel) (he:Se a [] X.env:=by rfl) (da:Pn pos [] X.env:=by rfl) :
 ZQ.QE X (.Call (.Name x p1) [a] [] pos) (Z.tI m i):=⟨by
 obtain⟨g,fd,F,hm,hk,hb,h1⟩:=C.ex;intro π s σ H Q I h;obtain⟨ρ,d,re,e,kk⟩:=h;unfold Z.tI at e;split at e
 .rename_i c hi;obtain⟨v,hv,rl⟩:=re.get i _ hi;refine A32<|gW I hg hm ?_ c_;refine A72 I.ok.mod.AI hk (b8 (aS ha bM he pos π s σ H (λ vs H1=>vs=[v]/\H1=H) I ⟨v,hv,rfl,rfl⟩) λ us s1 ⟨vs,H1,I1,r,q⟩=>⟨I1.jm,?_⟩) he da;obtain⟨rfl,rfl⟩:=q;obtain⟨u,rfl,ru⟩:=vals1 r;refine A44<|A54 (F X.A _ s1 H1 ⟨[u],[]⟩ u v Q c d hr I1.F3 (by have:=hb s1 [u] I1.jm (by rw[h1];rfl);simpa using this) ru rl e kk) λ rr s' hq=>?_;cases rr with
  |error ev=>exact hq.elim
  |ok fl=>
   cases fl with
   |ret u'=>exact I1.after hq
   |_=>exact hq.elim
 .cases e⟩
end
end ZS
namespace ZQ
open PySem PySem.Spec PyProof.Rows L2 ZS PySem.W
section
end
section
variable {K:Ch}
theorem Dp{st:ε}(d:Def K mg x st ps)(hb:∀{f}{ba}{A}{outer}{s}{H}{E},N.Nodup->(A.deeper<|envOfC x (ak st) s.heap.objs.size f ba).units+64<cLine->bK k (A.deeper<|envOfC x (ak st) s.heap.objs.size f ba)->vT (ee (vX P w) P w K mg base N x (ak st) f ba A outer s H E) H (aE st) xb)(S:a6 N ps (ak st):=by exact ZS.D0):i' P w K mg base x (k+1) ps (Z.fx ps.length N.length xb):=i'.mk' d S λ f ba A outer s H E hr=>(hb S.nd hr.units hr).p
theorem lh{st:ε}(d:AG K mg x st ps)(hb:∀{f}{ba}{A}{outer}{s}{H}{E},N.Nodup->(A.deeper<|envOfC x (ak st) s.heap.objs.size f ba).units+64<cLine->bK k (A.deeper<|envOfC x (ak st) s.heap.objs.size f ba)->vT (ee (vX P w) P w K mg base N x (ak st) f ba A outer s H E) H (aE st) xb)(S:a6 N ps (ak st):=by exact ZS.D0):i' P w K mg base x (k+1) ps (Z.fx ps.length N.length xb):=i'.Vu d S λ f ba A outer s H E hr=>(hb S.nd hr.units hr).p
theorem JL{st:ε}(d:Def K mg x st ps)(S:a6 N ps (ak st))(h1:ps.length=1)
 (hb:∀ f ba A outer s H,rL k (A.deeper<|envOfC x (ak st) s.heap.objs.size f ba) ->
  rM (Nv P w K mg base N x (ak st) f ba A outer s H).fy H (aE st) b):GB P w K mg base x (k+1) ps (Z.O5 N.length b):=ZS.JL d S h1 λ f ba A outer s H hr=>(hb f ba A outer s H hr).p
end
end ZQ
noncomputable section
namespace Z
end Z
end
namespace ZS
open PySem PySem.Spec PyProof.Rows L2 PySem.W
section
end
section
def Ve(vs:Y' V):TA:=λ _ H Q=>Q vs H
def Xi(K:Ch)(c0:Y' Nat)(as:Y' Z'):Prop:=∃C,nsIn K mainGlobals ⟨c0.toArray⟩=Y! (Y!<|.ref C)/\gN K C/\kitAny K (.ref C) (as.map Value.ref)=Y! Z!
structure X?(X:Cx)(c0:List Nat)(es:List Expr)(as:List Addr):Prop where
 pa:PA X es (Ve<|as.map V.ref)
 k:Xi X.K c0 as
end
end ZS
namespace ZQ
open PySem PySem.Spec PyProof.Rows L2 ZS PySem.W
section
end
end ZQ
noncomputable section
namespace Z
end Z
end
namespace ZS
open PySem PySem.Spec PyProof.Rows L2 PySem.W
section
end
section
end
end ZS
namespace ZQ
open PySem PySem.Spec PyProof.Rows L2 ZS PySem.W
section
end
end ZQ
namespace ZS
open PySem PySem.Spec PyProof.Rows L2 PySem.W
def ou:Y' Z_->Bool
|.ref _::r=>ou r
|l=>l==[.type "ValueError",.type "Exception",.type "BaseException",.type "object"]
theorem wK(self:Z_)(e:ou l=AT):refuseLoop self "__setattr__" l=pure ()/\l.contains (.type "object")=AT/\l.isEmpty=Z!:=by
 induction l with
 |nil=>cases e
 |cons a r ih=>
  unfold ou at e;split at e
  .rename_i c r' q;cases q;obtain⟨h1,h2,_⟩:=ih e;exact⟨by rw[refuseLoop_ref];exact h1,by rw[YI,h2,Bool.or_true],rfl⟩
  .rw[A07.mp e];exact⟨PySem.F.store_ValueError.passes self,by decide +kernel,rfl⟩
structure mq(K:Frag)(C:Addr):Prop where
 sa:findIn K (.ref C) "__setattr__"=Y! (Y!<|.builtin "object.__setattr__")
 mr:(clsIn K C).any (λ cd=>ou cd.mro)=AT
 hd:hasDictIn K C=AT
section
variable {K:Frag}
theorem vq(k:mq K C)(X:K.In s.heap)(I:InstAt s.heap x ox C od)(ht:findIn K (.ref C) name=Y! AC)
 (h:∀ b,Db (model prog w) A.in1 (Builtin.ObjectAttr.storeInOwnDict (.ref x) (.ref C) (.str name tk) name v b)
  (λ fin s'=>match fin with| .done f=>R (.ok f) s'| .again c'=>c'.quiet=AT/\codeAny (model prog w) A c' R s') (λ e s'=>R (.error e) s') s) :
 codeAny (model prog w) A (.call (.builtin "object.__setattr__") ⟨[.ref x,.str name tk,v],[]⟩) R s:=by
 have SF:=PySem.F.store_object;obtain⟨cd,hc,ho⟩:=any_some k.mr;obtain⟨r1,r2,r3⟩:=wK (.ref x) ho;have sub:Looks (model prog w) _ (isInstance _ _) AT:=I.type.andThen<|looks_mroIn X (by unfold mroIn;rw[hc,A98,v0 (by rw[r3];decide),r2]);have hm:Looks (model prog w) _ (mroOf<|.ref C) _:=(looks_clsIn X hc).andThen .now;refine B64 SF.slot.plain SF.entry<|@check_slot (model prog w) _ _ s "object.__setattr__" "object" "__setattr__" (.ref x) [.str name tk,v] [] _ SF.kind SF.split sub (SF.args (.ref x) (.str name tk) v) ?_;rw[osa_eq,refuse_eq];refine T0<|T0<|I.type.here<|T0<|hm.here ?_;rw[r1];exact Y0<|T0<|I.type.here<|T0<|(A85 X ht).here<|T0<|Y0<|h _
theorem CW(k:mq K C)(X:K.In s.heap)(hx:s.heap.get? x=Y! ox)(h!:ox.cls=.ref C)(hd:ox.dict=AC)(kB:∃vs,ox.data=.fields vs)(ht:findIn K (.ref C) name=Y! AC)
 (h:∀h' dx,s.heap.objs.size<=dx->h'.get? x=Y! {ox with dict:=Y! dx}->h'.Ns1 dx (λ y=>if y=name then Y! v else AC)->(∀b o,b≠x->s.heap.get? b=Y! o->h'.get? b=Y! o)->∀tk,Q () {s with heap:=h',toks:=tk}) :
 Db (model prog w) A (setAttr (.ref x) name v) Q E s:=by
 obtain⟨vs,kB⟩:=kB;have I:InstAt _ x ox C AC:=⟨hx,h!,by unfold notCls;rw[kB],by rw[hd];trivial⟩
 refine Yc X I k.sa<|vq k X I ht λ b=>?_;obtain⟨cd,hc,nV⟩:=any_some k.hd;obtain⟨oc,Vq,Vr,qe⟩:=ox;dsimp only at h! hd kB;subst h! hd kB;have Kq:=Z4<|Y1 hx;have MB:(s.heap.push {cls:=.type "dict",data:=.dict #[]}).get? x=Y! _:=W1 _ hx;refine T0<|Y0<|T0<|T0<|B03 hx<|T0<|PySem.W.Looks.here (YG X hc) ?_;rw[nV];refine T0<|wpAny_alloc'<|T0<|wpAny_update' MB<|Y0 ?_;have FF:((s.heap.push {cls:=.type "dict",data:=.dict #[]}).update x λ o=>{cls:=o.cls,dict:=Y! s.heap.objs.size,data:=o.data,slots:=o.slots}).get? s.heap.objs.size=Y! {cls:=.type "dict",data:=.dict #[]}:=
  (YE _ _ _ _ Kq.symm).trans<|Heap.get?_push_at rfl rfl
 have V9:((s.heap.push {cls:=.type "dict",data:=.dict #[]}).update x λ o=>{cls:=o.cls,dict:=Y! s.heap.objs.size,data:=o.data,slots:=o.slots}).Ns s.heap.objs.size (λ _=>AC):=⟨_,#[],_,FF,rfl,λ e he=>absurd he (by simp),λ _=>rfl⟩
 refine T0<|Y0<|T0<|wpAny_nsSet1 (Heap.Ns1.of_empty V9) λ h' DY v7=>?_;obtain⟨oD,WV,W0,Rk,RF,RK⟩:=DY.count (Within.cons name v Within.nil);refine T0<|wpAny_lookBehind Rk (by rw[RF];exact pastItsLine_dict<|A06 RK (by rw[A58,Yr,Y9];lia))<|Y0 ?_;refine h h' s.heap.objs.size (Z0 _) ((v7.2 x Kq).trans<|A35 _ MB rfl) DY (λ b o hb q=>(v7.2 b<|Z4<|Y1 q).trans<|(YE _ _ _ _ hb).trans<|W1 _ q) _
theorem CV(k:mq K C)(X:K.In s.heap)(hx:s.heap.get? x=Y! ox)(h!:ox.cls=.ref C)(hd:ox.dict=Y! dx)(qf:dx≠x)(kB:∃vs,ox.data=.fields vs)(ht:findIn K (.ref C) name=Y! AC)
 (hn:s.heap.Ns1 dx mA) (hw:Within mA ns) (hz:ns.length<=1000)
 (h:∀h',h'.Ns1 dx (λ y=>if y=name then Y! v else mA y)->GM dx s.heap h'->∀tk,Q () {s with heap:=h',toks:=tk}) :
 Db (model prog w) A (setAttr (.ref x) name v) Q E s:=by
 obtain⟨vs,kB⟩:=kB;obtain⟨o0,_,_,OT,_⟩:=id hn;have I:InstAt _ x ox C (Y! o0):=⟨hx,h!,by unfold notCls;rw[kB],by rw[hd];exact OT⟩
 refine Yc X I k.sa<|vq k X I ht λ b=>?_;obtain⟨cd,hc,nV⟩:=any_some k.hd;obtain⟨oc,Vq,Vr,qe⟩:=ox;dsimp only at h! hd kB;subst h! hd kB;refine T0<|Y0<|T0<|T0<|B03 hx<|T0<|PySem.W.Looks.here (YG X hc) ?_;rw[nV];refine Y0<|T0<|Y0<|T0<|wpAny_nsSet1 hn λ h' DY v7=>?_;obtain⟨oD,WV,W0,Rk,RF,RK⟩:=DY.count (Within.cons name v hw);exact T0<|wpAny_lookBehind Rk (by rw[RF];exact pastItsLine_dict<|A06 RK (by rw[A58,Y9];lia))<|Y0<|h h' DY v7 _
theorem F0(k:gN K C)(kf:mq K C)(X:K.In s.heap)(hx:s.heap.get? x=Y! ox)(h!:ox.cls=.ref C)(hd:ox.dict=Y! dx)(kB:∃vs,ox.data=.fields vs)(ht:findIn K (.ref C) name=Y! AC)
 (hn:s.heap.Ns1 dx mA) (hv:mA name=Y! v) (hI:handedIn v=AT) (h:∀tk,Q v {s with toks:=tk}):Db (model prog w) A (getAttr (.ref x) name b) Q E s:=by
 obtain⟨vs,kB⟩:=kB;obtain⟨o0,OT,hl⟩:=zP hn;have I:InstAt s.heap x ox C (Y! o0):=⟨hx,h!,by unfold notCls;rw[kB],by rw[hd];exact OT⟩
 have hf:=PySem.W.findObj_own kf.hd ht rfl (by rw[hl,hv]);clear hn hx OT;obtain⟨hh,g,d,t,os⟩:=s;have L0:=I.type (M:=model prog w);have L1:=A85 (M:=model prog w) X k.ga;have L2:=A85 (M:=model prog w) X k.gn;have L3:=looks_find (M:=model prog w) X I hf;have L4:=looks_mroIn (M:=model prog w) X k.mb;have LB:Looks (model prog w) hh (isInstance (.ref x)<|.type "BaseException") AT:=L0.andThen L4;unfold getAttr getAttrBy;refine T0<|wpAny_mkText<|v6<|T0<|L0.at<|T0<|L1.at ?_;dsimp only;rw[show(TW "BaseException.__getattribute__"== TW "object.__getattribute__")=Z! from by decide +kernel,B11,v0 (by decide)];unfold getAttrByItsOwn hookBefore;refine T0 ?_;rw[Z1<|show onTheHeap (.ref C)=AT from rfl];refine L2.at ?_;refine T0<|A97<|v6 ?_;unfold callGetattribute;rw[v0 (by cases b<;>decide)];unfold boundAndCalled;rw[B27.ga.bind<|.ref x];refine T0<|Y0 ?_;refine A44<|B64 B27.ga.plain F.entry_bexc_ga ?_;have hk:builtinKind "BaseException.__getattribute__"=Y! .slot:=by decide +kernel
 have xo:splitId "BaseException.__getattribute__"=Y! ("BaseException","__getattribute__"):=by decide +kernel
 have M5:=F.args_bexc_ga (.ref x)<|.str name t;simp only[checkBuiltinCall,hk,xo];refine T0<|LB.at ?_
 repeat (any_goals (first|assumption|with_reducible refine LB.at ?_|wp_step))
 refine B03 I.at_<|Y0 ?_;rw[I.cls];refine T0<|L3.at ?_;dsimp only;refine Y0 ?_;show Db _ _ (handedOut v) Q E _;rw[handedOut_of hI];exact Y0<|h _
end
abbrev E6(e:Z')(o:ζ):HO:=.ext λ h=>h.get? e=Y! o
abbrev J6(d:Z')(fs:Y' (Str×V)):HO:=.ext λ h=>∃mA,h.Ns1 d mA/\(∀f,xU (fs.lookup f) (mA f))/\Within mA (fs.map (·.1))
theorem B1(q:h.get? e=Y! o):dP P w H h e (E6 e o):=⟨q,⟨_,q⟩,λ _ _ z k=>k _ z⟩
theorem AY(q:h.Ns1 d mA)(r:∀f,xU (fs.lookup f) (mA f))(wi:Within mA (fs.map (·.1))):dP P w H h d (J6 d fs):=
 ⟨⟨mA,q,r,wi⟩,let ⟨o,_,_,e,_⟩:=q;⟨o,e⟩,λ _ _ ⟨mA,q,r⟩ k=>⟨mA,q.at k,r⟩⟩
section
variable {σ:St}
theorem wC(I:Inv X π σ H s)(hn:H a=AC)(h0:X.s₀.heap.get? a=AC)(hl:a≠X.env.locals)(hc:∀x c,X.env.cells.lookup x=Y! c->c≠a)(hp:∀p∈X.pn++π,p.1≠a)(ok:dP X.prog X.w (upd H a o) s.heap a o):Inv X π σ (upd H a o) s:=by
 have ne:∀b u,H b=Y! u->b≠a:=λ b u q=>aP q hn;refine yf I (λ b hb=>by rw[A03.mp hb];exact⟨h0,hl,hc,hp⟩) (λ b o _ _ _ q _=>q) (λ b o _ _ _ q _=>⟨_,q⟩)
  (λ b o hb q n=>by rw[aA λ z=>hb<|A03.mpr z];exact n) (λ b o _ q=>⟨o,q⟩) (λ b xs q=>by rw[aA<|ne b _ q];exact q) (λ b o u q=>by rw[aA<|ne b _ q];exact q) (λ b u _ q=>by rw[aA<|ne b _ q];exact q) (λ m hm=>hm) (λ b u q=>?_) I.bare
 by_cases hb:b=a
 .subst hb;rw[aI]at q;cases q;exact ok
 .rw[aA hb]at q;exact(I.bI b u q).j! (λ c v _ z=>z) (λ c z=>by rw[aA<|ne c _ z];exact z) (λ c xs z=>by rw[aA<|ne c _ z];exact z) λ c v _ z=>by rw[aA<|ne c _ z];exact z
theorem O7{a:Z'}(I:Inv X π σ H s)(h:s.heap.objs.size<=a):H a=AC/\X.s₀.heap.get? a=AC/\a≠X.env.locals/\(∀x c,X.env.cells.lookup x=Y! c->c≠a)/\∀p∈X.pn++π,p.1≠a:=
 ⟨I.bI.fresh h,B07<|A06 I.sz h,A31<|Z6 I.lt h,λ x c e z=>by obtain⟨w',o,q,_⟩:=I.cell x c e;exact absurd (Y1 q)<|B21.mpr<|z▸h,λ p hp z=>absurd (Y1 (I.pin p hp).1)<|B21.mpr<|z▸h⟩
def Vc(C:Z')(j i:Nat)(f:Str):TS:=λ D σ H=>∃e oe v,σ[j]?=Y! (Y!<|.ref e)/\σ[i]?=Y! (Y! v)/\H e=Y! (E6 e oe)/\oe.cls=.ref C/\oe.dict=AC/\(∃ws,oe.data=.fields ws) /\
 ∀dx,H dx=AC->dx≠e->D.nx σ (upd (upd H e<|E6 e {oe with dict:=Y! dx}) dx<|J6 dx [(f,v)])
def Vb(C:Z')(j i:Nat)(f:Str):TS:=λ D σ H=>∃e oe v dx fs,σ[j]?=Y! (Y!<|.ref e)/\σ[i]?=Y! (Y! v)/\H e=Y! (E6 e oe)/\oe.cls=.ref C/\oe.dict=Y! dx/\(∃ws,oe.data=.fields ws)/\dx≠e/\H dx=Y! (J6 dx fs)/\fs.length<=100 /\
 D.nx σ (upd H dx<|J6 dx<|nP f v fs)
theorem GS(k:mq X.K C)(ht:findIn X.K (.ref C) f=Y! AC)(ho:PE X o (fE j))(hv:PE X value (fE i))(hs:swapsWith value (Y!<|.Attribute o f pos') pos.line X.env=pure Z!):PS X (.Assign [.Attribute o f pos'] value pos) (Vc C j i f):=by
 intro π s σ H D I ⟨e,oe,v,hj,hi,he,h!,hd,kB,q⟩;refine B85 (b8 (hv π s σ H (λ y H1=>y=v/\H1=H) I ⟨v,hi,rfl,rfl⟩) λ u s1 ⟨y,H1,I1,ry,q1,q2⟩=>b8 (ho π s1 σ H1 (λ y' H2=>y'=.ref e/\H2=H) I1 ⟨_,by rw[hj],rfl,q2⟩) λ ov s2 ⟨y',H2,I2,rx,q3,q4⟩=>?_) hs;subst q1 q3 q4;obtain rfl:ov=Value.ref e:=rx;have hx:=(I2.bI e _ he).1;refine CW k I2.jm hx h! hd kB ht λ h' dx FG AJ DZ kp tk=>?_;have J:Inv X π σ _ {s2 with heap:=h',toks:=tk}:=I2.write (by rw[he];exact PP) (.inl rfl) (λ b o hb z=>kp b o hb z) ⟨_,AJ⟩<|B1 AJ;have ne:=A31<|Z6 (Y1 hx) FG;obtain⟨f1,f2,f3,f4,f5⟩:=O7 I2 FG;exact⟨σ,_,wC J (by rw[aA ne];exact f1) f2 f3 f4 f5 (AY (fs:=[(f,_)]) DZ (λ g=>by
  by_cases z:g=f
  .subst z;simp only[A28,A63,Z8];exact ry
  .simp only[A28,A60.mpr z,List.lookup_nil,v0 z];trivial)<|Within.cons f u Within.nil),q dx f1 ne⟩
theorem Ly(k:mq X.K C)(ht:findIn X.K (.ref C) f=Y! AC)(ho:PE X o (fE j))(hv:PE X value (fE i))(hs:swapsWith value (Y!<|.Attribute o f pos') pos.line X.env=pure Z!):PS X (.Assign [.Attribute o f pos'] value pos) (Vb C j i f):=by
 intro π s σ H D I ⟨e,oe,v,dx,fs,hj,hi,he,h!,hd,kB,ne,FG,hl,q⟩;refine B85 (b8 (hv π s σ H (λ y H1=>y=v/\H1=H) I ⟨v,hi,rfl,rfl⟩) λ u s1 ⟨y,H1,I1,ry,q1,q2⟩=>b8 (ho π s1 σ H1 (λ y' H2=>y'=.ref e/\H2=H) I1 ⟨_,by rw[hj],rfl,q2⟩) λ ov s2 ⟨y',H2,I2,rx,q3,q4⟩=>?_) hs;subst q1 q3 q4;obtain rfl:ov=Value.ref e:=rx;have hx:=(I2.bI e _ he).1;obtain⟨mA,hn,hr,hw⟩:=(I2.bI dx _ FG).1;refine CV k I2.jm hx h! hd ne kB ht hn hw (by rw[v4];lia) λ h' DZ sb tk=>⟨σ,_,?_,q⟩
 refine I2.write (by rw[FG];exact PP) (.inl rfl) (λ b o hb z=>(sb.2 b hb).trans z) (let ⟨o,_,_,e,_⟩:=DZ;⟨o,e⟩)<|AY DZ (λ g=>?_) λ g hg=>?_
 .rw[nz];by_cases z:g=f
  .rw[Z1 z,Z1 z];exact ry
  .rw[v0 z,v0 z];exact hr g
 .by_cases z:g=f
  .rw[z];exact(mH f _ fs).1
  .refine(mH f _ fs).2 g<|hw g λ y=>hg ?_;rw[v0 z];exact y
end
def Lf(C:Z')(fs:Y' Str):Sp:=λ vs H Q _=>∃e oe as,vs=.ref e::as/\as.length=fs.length/\H e=Y! (E6 e oe)/\oe.cls=.ref C/\oe.dict=AC/\(∃ws,oe.data=.fields ws) /\
 ∀dx,H dx=AC->dx≠e->Q .non (upd (upd H e<|E6 e {oe with dict:=Y! dx}) dx<|J6 dx<|fs.zip as)
theorem rS:upd (upd H a o) a o'=upd H a o':=funext λ b=>by
 by_cases h:b=a
 .subst h;rw[aI,aI]
 .rw[aA h,aA h,aA h]
section
variable {K:Frag}
theorem Mv{st:ε}(k:mq K C)(ht:findIn K (.ref C) a=Y! AC)(F:xV K "__init__" qual st f fd)(hb:aE st=[.Assign [.Attribute (.Name "self" p1) a p2] (.Name a p3) p4])
 (S:a6 ["self",a] ["self",a] (ak st)) (hv:∀x∈(["self",a]:Y' Str),AD (ak st) x) (hd:(a==("__debug__"))=Z!) (hc:(a==("__classdict__"))=Z!):dI P w K mg base jc 1 f fd ["self",a] (Lf C [a]):=by
 obtain⟨oc,od,kV,doc,pm,an,ba,ct,qe,rfl,lk,lD⟩:=F.ex;refine rp lk lD S (λ vs H Q E ⟨e,oe,as,h,hl,_⟩=>by subst h;simp[hl]) λ A outer s H vs Q E hr ⟨e,oe,as,h,hl,he,h1,h2,h3,q⟩=>?_;rw[hb];refine⟨_,j1<|GS (j:=0) (i:=1) k ht (iL rfl (hv _<|.head _) (by decide) (by decide)) (iL rfl (hv _<|.tail _<|.head _) hd hc) rfl,?_⟩;subst h
 match as,hl with
 |[v],_=>exact⟨e,oe,v,rfl,rfl,he,h1,h2,h3,q⟩
theorem Mu{st:ε}(k:mq K C)(ht:findIn K (.ref C) a=Y! AC)(Ra:findIn K (.ref C) b=Y! AC)(F:xV K "__init__" qual st f fd)
 (hb:aE st=[.Assign [.Attribute (.Name "self" p1) a p2] (.Name a p3) p4,.Assign [.Attribute (.Name "self" q1) b q2] (.Name b q3) q4]) (qf:b≠a)
 (S:a6 ["self",a,b] ["self",a,b] (ak st)) (hv:∀x∈(["self",a,b]:Y' Str),AD (ak st) x) (hd:∀x∈[a,b],(x==("__debug__"))=Z!/\(x==("__classdict__"))=Z!):dI P w K mg base jc 1 f fd ["self",a,b] (Lf C [a,b]):=by
 obtain⟨oc,od,kV,doc,pm,an,ba,ct,qe,rfl,lk,lD⟩:=F.ex;refine rp lk lD S (λ vs H Q E ⟨e,oe,as,h,hl,_⟩=>by subst h;simp[hl]) λ A outer s H vs Q E hr ⟨e,oe,as,h,hl,he,h1,h2,h3,q⟩=>?_;rw[hb];refine⟨_,jz (GS (j:=0) (i:=1) k ht (iL rfl (hv _<|.head _) (by decide) (by decide)) (iL rfl (hv _<|.tail _<|.head _) (hd _<|.head _).1 (hd _<|.head _).2) rfl)
 <|j1<|Ly (C:=C) (j:=0) (i:=2) k Ra (iL rfl (hv _<|.head _) (by decide) (by decide)) (iL rfl (hv _<|.tail _<|.tail _<|.head _) (hd _<|.tail _<|.head _).1 (hd _<|.tail _<|.head _).2) rfl,?_⟩
 subst h
 match as,hl with
 |[v,u],_=>
  refine⟨e,oe,v,rfl,rfl,he,h1,h2,h3,λ dx n ne=>⟨e,{oe with dict:=Y! dx},u,dx,_,rfl,rfl,by rw[aA<|P3 ne,aI],h1,rfl,h3,ne,aI,by simp,?_⟩⟩;rw[rS];have:nP b u [(a,v)]=[a,b].zip [v,u]:=by unfold nP;rw[v0<|P3 qf];rfl
  rw[this];exact q dx n ne
end
abbrev K1:Y' Z_:=[.type "ValueError",.type "Exception",.type "BaseException",.type "object"]
def wb(K:Frag)(C:Z'):Bool:=match K.lookup C with
|some ⟨.type "type",_,.cls cd,sl⟩=>(match cd.mro,sl.toList with
 |.ref C'::bm,[_,_,_,_,Y! (.builtin n),_]=>C'==C&&n=="ValueError.__new__" && !cd.hasDel&&tailIn K K1 bm
 | _,_=>Z!)
|_=>Z!
def DB(C:Z')(h:η):Prop:=∃(tl:Y' Z_)(ns:Z')(nm qn:Str)(bs:Y' Z_)(hd:Bool)(sn:Y' Str)(sub:Y' Z_)(ab:Bool)(col:Y_ Bool)(dd:Y_ Z')(s0 s1 s2 s3 s5:Y_ Z_),
 h.get? C=Y! (excClassObj nm qn C ns bs tl hd sn sub ab col dd s0 s1 s2 s3 s5 "ValueError.__new__")/\OwnTail h K1 tl
theorem JK{K:Frag}(X:K.In h)(q:wb K C=AT):DB C h:=by
 unfold wb at q;split at q
 .rename_i dd cd sl ho;split at q
  .rename_i C' tl s0 s1 s2 s3 id s5 e1 e2;simp only[A17,A07,B63]at q;obtain⟨⟨⟨rfl,rfl⟩,r1⟩,r2⟩:=q;cases cd;dsimp only at e1 r1;subst e1 r1;obtain rfl:sl=#[s0,s1,s2,s3,Y! (.builtin "ValueError.__new__"),s5]:=by cases sl;simp only at e2;rw[e2]
   exact⟨tl,_,_,_,_,_,_,_,_,_,dd,s0,s1,s2,s3,s5,X _ _ ho,tail_of_in X r2⟩
  .cases q
 .cases q
section
variable {K:Frag}
theorem Aa{os:OsState}{rest:Y' Z_}(X:K.In h)(q:DB C h)(hi:findIn K (.ref C) "__init__"=Y! (Y!<|.ref fI))(hf:typeIn K (.ref fI)=Y! (.type "function"))(hrest:rest.length<=sizeLine)
 (hq:∀h' e,WF h h' e (.ref C) rest->Db (model prog w) A (call (.ref fI)<|.ref e::rest) (λ r s'=>r=.none/\Q (.done<|.ret<|.ref e) s') E ⟨h',g,d,t,os⟩) :
 Db (model prog w) A (Builtin.«type.__call__» ⟨.ref C::rest,[]⟩) Q E ⟨h,g,d,t,os⟩:=by
 obtain⟨tl,ns,nm,qn,bs,hd,sn,sub,ab,col,dd,s0,s1,s2,s3,s5,hC,T⟩:=q;have F:=B65
 repeat (first|with_reducible refine B04 hC ?_|with_reducible refine wpAny_madeBy_exc hC ?_|wp_step)
 refine codeAny_call_builtin_code (Code.quiet_builtin _ F.quiet)<|wpAny_check_new_subT F T hC<|codeAny_exc_new_subT F T hC ?_ hrest;show Db _ _ _ _ _ _;have kp:∀b o,h.get? b=Y! o->((h.push {cls:=.type "tuple",data:=.seq rest.toArray}).push {cls:=.ref C,data:=.fields #[.ref h.objs.size,.none,.none,.none,.bool Z!,.none]}).get? b=Y! o:=λ b o z=>W1 _<|W1 _ z;have WH:=kp _ _ hC;have X1:=X.keeps kp;have MU:((h.push {cls:=.type "tuple",data:=.seq rest.toArray}).push {cls:=.ref C,data:=.fields #[.ref h.objs.size,.none,.none,.none,.bool Z!,.none]}).get? (h.objs.size+1)=Y! {cls:=.ref C,data:=.fields #[.ref h.objs.size,.none,.none,.none,.bool Z!,.none]}:=by heap_get
 have Kw:(Value.ref C::tl).contains (.ref C)=AT:=by simp
 unfold isInstance
 repeat (first|with_reducible refine B04 MU ?_|(with_reducible refine wpAny_isSubtype_exc WH ?_;rw[Kw])|wp_step)
 show Db _ _ (typeLookup (.ref C) _) _ _ _;refine(A85 (M:=model prog w) X1 hi).at ?_;refine v6<|T0<|(bind_fn (M:=model prog w) X1 _ hf).at ?_;refine T0<|Z5 (hq _ (h.objs.size+1) ⟨kp,B07<|A57 _,h.objs.size,MU,B07<|Z0 _,W1 _<|Heap.get?_push_at rfl rfl⟩) (λ r s' hr=>?_) λ _ _ x=>x;obtain⟨rfl,hQ⟩:=hr
 wp_walk
 exact hQ
theorem Ab{rest:Y' Z_}(X:K.In s.heap)(q:DB C s.heap)(hi:findIn K (.ref C) "__init__"=Y! (Y!<|.ref fI))(hf:typeIn K (.ref fI)=Y! (.type "function"))(hrest:rest.length<=sizeLine)
 (hq:∀h' e,WF s.heap h' e (.ref C) rest->Db (model prog w) (A.under<|.builtin "type.__call__" ⟨.ref C::rest,[]⟩) (call (.ref fI)<|.ref e::rest) (λ r s'=>r=.none/\Q (.ref e) s') E {s with heap:=h'}) :
 Db (model prog w) A (call (.ref C) rest) Q E s:=by
 obtain⟨h,g,d,t,os⟩:=s;dsimp only at X q hq;obtain⟨tl,ns,nm,qn,bs,hd,sn,sub,ab,col,dd,s0,s1,s2,s3,s5,hC,T⟩:=id q;have f1:=tc_lookup;have f2:=tc_bind<|.ref C;have hT:(⟨h,g,d,t,os⟩:δ).TypeIs (.ref C) "type":=⟨_,hC,rfl⟩
 refine A44<|codeAny_of_tree ?_
 repeat (any_goals (first|assumption|with_reducible refine B04 hC ?_|wp_step))
 exact⟨rfl,codeAny_call_builtin_at (Code.quiet_builtin _ (by decide +kernel)) entry_typeCall<|wpAny_check_type_call_sub hC<|Aa X q hi hf hrest λ h' e hm=>hq h' e hm⟩
end
end ZS
noncomputable section
namespace Z
def n_(c:Y' Nat)(fs:Y' (Y' Nat))(as:AF)(ρ:Env):Y_ XN:=match as ρ with
|.ok ds=>if ds.length=fs.length then Y! (c,fs.zip ds)else AC
|.bad=>AC
def C8(i:Nat)(cs f:Y' Nat)(ρ:Env):Res D:=match ρ[i]? with
| some<|some<|.exc c=>if c.1=cs then(match c.2.lookup f with
 |some d=>.ok d
 | none=>.bad)else .bad
|_=>.bad
end Z
end
namespace ZS
open PySem PySem.Spec PyProof.Rows L2 PySem.W
section
variable {σ:St}
theorem El(I:Inv X π σ H s)(ha:H a=Y! (.ext φ)):Inv X π σ (λ b=>if b=a then AC else H b) s:=by
 have ne:∀b u,H b=Y! u->(∀φ,u≠.ext φ)->b≠a:=λ b u q z e=>by subst e;rw[ha]at q;cases q;exact z _ rfl
 have go:∀b u,H b=Y! u->(∀φ,u≠.ext φ)->(λ b=>if b=a then AC else H b) b=Y! u:=λ b u q z=>by show(if b=a then AC else H b)=_;rw[v0<|ne b u q z];exact q
 refine yf (ch:=[]) I (λ b hb=>nomatch hb) (λ b o _ _ _ q _=>q) (λ b o _ _ _ q _=>⟨_,q⟩)
  (λ b o _ q n=>by rw[n];split<;>rfl) (λ b o _ q=>⟨o,q⟩) (λ b xs q=>go b _ q λ _ z=>nomatch z) (λ b o u q=>go b _ q λ _ z=>nomatch z) (λ b u p q=>go b _ q λ φ z=>by subst z;exact p.elim) (λ m hm=>hm) (λ b u q=>?_) I.bare
 have q:=q;split at q
 .cases q
 .exact(I.bI b u q).j! (λ c v _ z=>z) (λ c z=>go c _ z λ _ y=>nomatch y) (λ c xs z=>go c _ z λ _ y=>nomatch y) λ c v p z=>go c _ z λ φ y=>by subst y;exact p.elim
theorem ym(hex:X.ex=[])(q:DB C s.heap)(hi:findIn X.K (.ref C) "__init__"=Y! (Y!<|.ref f))(hf:isFn X.K (.ref f)=AT)(F:dI X.prog X.w X.K X.mg X.base jc k f fd ("self":: fs) (Lf C fs))
 (hb:Binds X.K fd ("self":: fs) []) (hr:bK (k+1) X.A) (I:Inv X π σ H s) (r:Vals vs us) (hl:vs.length=fs.length) (hz:us.length<=100) :
 Db (model X.prog X.w) X.A (call (.ref C) us) (λ v s'=>∃e dx od H',v=.ref e/\Inv X π σ H' s'/\ax H H'/\H' dx=Y! (.c5 od<|.xd<|fs.zip vs)/\D6 X π H' s' e C (Y! dx)/\∃t,s'.heap.get? e=Y! {cls:=.ref C,dict:=Y! dx,data:=.fields #[.ref t,.none,.none,.none,.bool Z!,.none]}) X.xe s:=by
 refine Ab I.jm q hi (A07.mp hf) (by rw[Y9];lia) λ h' e hm=>?_;obtain⟨J,th⟩:=r9 hex I hm;obtain⟨oe,ws,he,hc,hd,kB,_⟩:=th.ex;obtain⟨tt,VS,_,_⟩:=hm.there;have J2:=wC J th.off.free th.off.new (th.off.loc J) (th.off.cell J) th.off.pin<|B1 he;have zZ:Lf C fs (.ref e::vs) (upd H e<|E6 e oe) (λ v H3=>v=.non/\∃dx,H dx=AC/\dx≠e/\H3=upd (upd H e<|E6 e {oe with dict:=Y! dx}) dx (J6 dx<|fs.zip vs)) (λ _ _ _=>False):=
  ⟨e,oe,vs,rfl,hl,aI,hc,hd,⟨ws,kB⟩,λ dx hn ne=>⟨rfl,dx,by rw[aA ne]at hn;exact hn,ne,by rw[rS]⟩⟩
 have r2:Vals (V.ref e::vs) (Value.ref e::us):=.cons rfl r;have Kt:(Value.ref e::us++[]).length=("self":: fs:Y' Str).length:=by simp[<-r.length,hl]
 refine A44<|A54 (F.run _ X.stack _ _ ⟨Value.ref e::us,[]⟩ (Value.ref e::us) _ _ _ (hr.make C us []) (J2.F3.make C us []) (by have:=hb _ (Value.ref e::us) J2.jm Kt;simpa using this) r2 zZ) λ rr s' hq=>?_;cases rr with
 |error ev=>exact hq.elim
 |ok fl=>
  cases fl with
  |ret u=>
   obtain⟨v,H3,I3,rv,ev,dx,hn,ne,rfl⟩:=J2.after hq;subst ev;obtain⟨⟨mA,n1,rr,_⟩,⟨od,T!⟩,_⟩:=(I3.bI dx _ aI)
   have hx:=(show dP X.prog X.w _ s'.heap e (E6 e {oe with dict:=Y! dx})from I3.bI e _ (by rw[aA<|P3 ne,aI])).1;have I4:=I3.write (o:=.c5 od (.xd<|fs.zip vs)) (t':=s'.toks) (h':=s'.heap) (by rw[aI];exact PP) (.inl rfl) (λ b o _ z=>z) ⟨_,T!⟩ ⟨T!,mA,n1,rr⟩;rw[rS]at I4;have I5:=El (a:=e) I4 (by rw[aA<|P3 ne,aI]);obtain rfl:=Y4 (he.symm.trans VS);cases kB;refine⟨rv,e,dx,od,_,rfl,I5,λ b o z=>?_,?_,⟨⟨?_,th.off.new,th.off.pin,_,_,hx,rfl⟩,_,_,hx,rfl,rfl,rfl,.inl rfl⟩,tt,hx⟩
   .show(if b=e then AC else upd _ dx _ b)=_;rw[v0<|aP z th.off.free,aA<|aP z hn,aA<|aP z th.off.free];exact z
   .skip
    rw[v0 ne,aI]
   .skip
    rw[Z1 rfl]
  |next=>exact hq.elim
  |brk=>exact hq.elim
  |cont=>exact hq.elim
theorem HL(hh:A.handled=AC)
 (h:Db M A x (λ v s₁=>∃e dx t,v=.ref e/\DB C s₁.heap/\s₁.heap.get? e=Y! {cls:=.ref C,dict:=dx,data:=.fields #[.ref t,.none,.none,.none,.bool Z!,.none]}/\E (.ref e) s₁) E s):Db M A (raiseStmt env (Y! x) AC) Q E s:=by
 refine T0<|Z5 h (λ v s₁ h₁=>?_) λ _ _ x=>x;obtain⟨e,dx,t,rfl,⟨tl,ns,nm,qn,bs,hd,sn,sub,ab,col,dd,s0,s1,s2,s3,s5,hC,T⟩,he,hE⟩:=h₁;have Wn:(Value.ref C::tl).contains (.type "BaseException")=AT:=by rw[YI,T.hasType B65.hasBase,Bool.or_true]
 obtain⟨hp,g,d,tk,os⟩:=s₁
 repeat (first|with_reducible refine B04 he ?_|with_reducible refine B04 hC ?_|(with_reducible refine wpAny_isSubtype_exc hC ?_;rw[Wn])|wp_step)
 exact wpAny_raiseNew_none hh hE
end
structure AH(P:Program)(w:World)(K:Frag)(mg:Str->Option Value)(base:Heap)(C:Addr)(k:Nat)(fz:List (List Nat)):Prop where
 ex:∃f fd,wb K C=AT/\keepIn K (.ref C)=AT/\findIn K (.ref C) "__init__"=Y! (Y!<|.ref f)/\isFn K (.ref f)=AT/\dI P w K mg base jc k f fd ("self":: fz.map λ f=>⟨f.toArray⟩) (Lf C<|fz.map λ f=>⟨f.toArray⟩)/\Binds K fd ("self":: fz.map λ f=>⟨f.toArray⟩) []
theorem kM{K:Frag}:∀{fz:Y' (Y' Nat)}{ds}{vs},ds.length=fz.length->ay K H ds vs->Paired (λ(p) (q)=>p.1=⟨q.1.toArray⟩/\Den K H q.2 p.2) ((fz.map λ f=>(⟨f.toArray⟩:Str)).zip vs) (fz.zip ds)
|[],[],vs,_,d=>.nil
|f::fz,d::ds,vs,h,dd=>by obtain⟨v,r,rfl,d1,d2⟩:=dd;exact .cons ⟨rfl,d1⟩<|kM (by simpa using h) d2
section
variable {H0:Hp}{pos:Pos}
theorem _root_.ZQ.zi{np ia:Pos}(hc:X.calm=AT)(hex:X.ex=[])(hg:Gl X x)(FI:(⟨c.toArray⟩)=x)(xc:XC X.K c C)(J:AH X.prog X.w X.K X.mg X.base C k fz)(hr:bK (k+1) X.A)(ha:ZQ.QA X.fy (e::es) ar)(Rw:fz≠[])(AK:fz.length<=100)
 (c_:(x==("__debug__"))=Z!:=by decide +kernel) (he:Se e es X.env:=by rfl) (da:Pn ia es X.env:=by rfl) :
 ZQ.D7 X H0 (.Raise (Y!<|.Call (.Name x np) (e::es) [] ia) AC pos) (Z.n_ c fz ar):=⟨by
 obtain⟨f,fd,xj,hk,hi,hf,F,hb⟩:=J.ex;intro π s σ H D I h;obtain⟨ρ,c',rs,ec,kw⟩:=h;unfold Z.n_ at ec;split at ec
 .rename_i ds ed;split at ec
  .rename_i hl;cases ec;have hm:X.mg x=Y! (.ref C):=by have:=f8 I.jm (I.mod.glob.keeps I.bk) xc.1;rw[FI]at this;exact this
   rw[arm_exec_Raise];refine T0<|A71<|HL (C:=C) (I.ok.hd hc) ?_;refine T0<|Z5 (A32<|gW I hg hm ?_ c_) (λ v s₃ h₃=>T0<|A71<|Y0 h₃) λ _ _ x=>x;refine A72 I.ok.mod.AI hk (b8 (PA.fy ha.p ia π s σ H (λ vs H1=>ax H H1/\ay X.K H1 ds vs) I ⟨ρ,ds,rs.re,ed,λ vs H1 s1 d1=>⟨s1,d1⟩⟩) λ us s1 ⟨vs,H1,I1,r,sm,d1⟩=>⟨I1.jm,?_⟩) he da;have I!:vs.length=fz.length:=by rw[<-hl];exact d1.length
   refine b8 (ym hex (JK I1.jm xj) hi hf F hb hr I1 r (by rw[I!,v4]) (us:=us) (by rw[<-r.length,I!];exact AK)) λ v s2 ⟨e2,dx,od,H2,hv,I2,qc,FG,th,t,CB⟩=>?_;exact⟨e2,Y! dx,t,hv,JK I2.jm xj,CB,kw π σ H2 s2 e2 C (Y! dx) (rs.same.trans<|sm.trans qc) ⟨xc,by
    refine⟨?_,od,_,FG,kM hl<|d1.up qc⟩;cases fz with
    |nil=>exact absurd rfl Rw
    |cons a l=>cases ds with
     |nil=>cases hl
     |cons b m=>exact λ z=>nomatch z⟩ I2 th⟩
  .cases ec
 .cases ec⟩
end
def Dz(K:Frag)(f:Str)(c:Y' Nat):Prop:=∃C,nsIn K mainGlobals ⟨c.toArray⟩=Y! (Y!<|.ref C)/\gN K C/\mq K C/\findIn K (.ref C) f=Y! AC
theorem kv{K:Frag}:∀{dG}{fs},Paired (λ(p:Str×V) (q:Y' Nat×Z.D)=>p.1=⟨q.1.toArray⟩/\Den K H q.2 p.2) dG fs->fs.lookup f=Y! d->∃v,dG.lookup ⟨f.toArray⟩=Y! v/\Den K H d v
|_,_,.nil,h=>nomatch h
|(g,v)::dG,(g',d')::fs,.cons ⟨h1,h2⟩ r,h=>by
 dsimp only at h1 h2;subst h1;rw[A28]at h;by_cases z:f=g'
 .subst z;rw[A63]at h;cases h;exact⟨v,by rw[A28,A63],h2⟩
 .rw[A60.mpr z]at h;obtain⟨u,e1,e2⟩:=kv r h;exact⟨u,by rw[A28,A60.mpr λ y=>z (by injection y with y;simpa using Y8 Re y)];exact e1,e2⟩
section
theorem _root_.ZQ.pW(ha:PE X a (fE i))(hf:(⟨fz.toArray⟩)=f)(hk:Dz X.K f cs)(hb:attributeBase a f X.env (eval a X.env)=eval a X.env:=by rfl):ZQ.QE X (.Attribute a f pos) (Z.C8 i cs fz):=⟨λ π s σ H Q I ⟨ρ,d,r,e,k⟩=>by
 unfold Z.C8 at e;split at e
 .rename_i c hi;split at e
  .rename_i hc;split at e
   .rename_i d' hl;cases e;obtain⟨v,hv,p,o,u,C,rfl,h1,h2,h3,h4⟩:=r.get i _ hi;obtain⟨C',n1,k1,k2,k3⟩:=hk;have e0:=h4.1.1;rw[hc]at e0;cases e0.symm.trans n1;have xd:=h4.2;cases t9:o.dict with
    |none=>rw[t9]at xd;have xd:=xd;rw[xd]at hl;cases hl
    |some dx=>
     rw[t9]at xd;obtain⟨_,od,dG,q,pr⟩:=xd;obtain⟨v,xn,dv⟩:=kv pr hl;refine Gr hb<|b8 (ha π s σ H (λ y H1=>y=.ref p/\H1=H) I ⟨_,hv,rfl,rfl⟩) λ u' s1 ⟨x,H1,I1,rx,q1,q2⟩=>?_;subst q1 q2;obtain rfl:u'=Value.ref p:=rx;obtain⟨g1,_⟩:=(I1.bI p _ h1)
     obtain⟨g2,mA,n2,rr⟩:=(I1.bI dx _ q)
     obtain⟨w1,hu,ru⟩:=xU.some_of (v:=v) (o:=mA f) (by rw[<-xn,hf];exact rr f);exact F0 k1 k2 I1.jm g1 h2 t9 h3 k3 n2 hu (z9 ru) λ tk=>⟨v,_,I1.tok _,ru,k v _ (ax.refl _) dv⟩
   .cases e
  .cases e
 .cases e⟩
end
end ZS
noncomputable section
namespace Z
end Z
end
noncomputable section
namespace Z
inductive UD where
|nx (ρ:Env)
|rt (d:D) (ts:List D)
abbrev SM:=Env->Res UD
def VF:Y_ L->Prop
|some<|.bor _=>True
|_=>False
def L!(ms:Y' Nat):Nat->Env->Prop
|_,[]=>True
|k,x::r=>(VF x->k∈ms)/\L! ms (k+1) r
open Classical in
def Ti(m:Y' D->Res (D×Y' D))(ds:Y' D):Res (Y' D):=if h:∃fs,∀x:Nat,m (Bc x 0 [] []::ds)=.ok (.non,[Bc x 0 G? fs])then .ok h.choose else .bad
open Classical in
def Xb(f:Nat->Res Fl):Res Fl:=if h:∃d,∀x,f x=.ok (.rt d)then .ok (.rt h.choose)else .bad
open Classical in
def XO(m:Y' D->Y_ XN)(d:D):Y_ XN:=if h:∃c,∀x:Nat,m [Bc x 0 [] [],d]=Y! c then Y! h.choose else AC
end Z
end
noncomputable section
namespace Z
abbrev SH:=Env->Res (D×Env)
def OJ:Nat->Y' Bool->Y' Nat
|_,[]=>[]
|k,AT::bs=>k::OJ (k+1) bs
|k,Z!::bs=>OJ (k+1) bs
abbrev NK:=Env->Res (Bool×Env)
end Z
end
namespace ZS
open PySem PySem.Spec PyProof.Rows L2 PySem.W
def Xd(K:Ch)(H:Hp)(kd:Nat)(d:Z.D)(v:V):Prop:=∃a ks ds u,d=Z.Bc a kd ks ds/\v=.ref a/\H a=Y! u/\KS K H kd ks ds u
def U2(K:Ch)(kd:Nat)(f:Z.EF):TE:=λ σ H Q=>∃ρ d,RE K H σ ρ/\f ρ=.ok d/\∀v H',ax H H'->Xd K H' kd d v->Q v H'
abbrev DM(X:Cx)(kd:Nat)(e:γ)(f:Z.EF):Prop:=PE X e<|U2 X.K kd f
structure _root_.ZQ.QM(X:Cx)(kd:Nat)(e:Expr)(f:Z.EF):Prop where p:DM X kd e f
section
structure Xt(P:Program)(w:World)(K:Ch)(mg:Str->Option Value)(base:Heap)(m:Str)(k:Nat)(ps:List Str)(bs:List Bool)(fn:List Z.D->Z.Res Z.D):Prop where
 ex:∃C g fd,vW K "Desk" C/\Meth K C m g/\dI P w K mg base jc k g fd ps (Le K bs fn)/\Binds K fd ps []
end
structure Xl(K:Ch)(m qual:Str)(st:Stmt)(ps:List Str):Prop where
 ex:∃C f fd,vW K "Desk" C/\Meth K C m f/\xV K m qual st f fd/\Binds K fd ps []
section
variable {K:Ch}
end
def HB(K:Ch)(bs:Y' Bool)(m:Y' Z.D->Y_ Z.XN):Sp:=λ vs H _ E=>∃ds c,vV K H bs ds vs/\m ds=Y! c/\∀C dd H',ax H H'->lA K H' c C dd->E (.ref C) dd H'
section
variable {K:Ch}
structure UJ(P:Program)(w:World)(K:Ch)(mg:Str->Option Value)(base:Heap)(x:Str)(k:Nat)(ps:List Str)(bs:List Bool)(m:List Z.D->Option Z.XN):Prop where
 ex:∃g fd,dI P w K mg base (vX P w) k g fd ps (HB K bs m)/\mg x=Y! (.ref g)/\Ev K (.ref g)=AT/\Binds K fd ps []
structure UH(P:Program)(w:World)(K:Ch)(mg:Str->Option Value)(base:Heap)(m:Str)(k:Nat)(ps:List Str)(bs:List Bool)(fx:List Z.D->Option Z.XN):Prop where
 ex:∃C g fd,vW K "Desk" C/\Meth K C m g/\dI P w K mg base (vX P w) k g fd ps (HB K bs fx)/\Binds K fd ps []
end
section
end
def over(H0 H:Hp)(as:Y' Z'):Hp:=λ b=>if b∈as then H b else H0 b
section
variable {K:Ch}
structure RM(K:Ch)(H0:Hp)(ms:List Nat)(as:List Addr)(H:Hp)(σ:St)(ρ:Z.Env):Prop where
 rs:RS K (over H0 H as) H σ ρ
 at_:Paired (λ(i:Nat) (a:Addr)=>∃kd ks vs,ρ[i]?=Y! (Y!<|.bor<|Z.Bc a kd ks vs)) ms as
 no:Z.L! ms 0 ρ
 nd:as.Nodup
 h0:∀a∈as,H0 a=AC
def P5:Y_ HO->Prop
|some<|.tup _=>True
|some<|.c5 _ _=>True
|_=>False
open Classical in
noncomputable def ov(H0 H:Hp)(as:Y' Z'):Hp:=λ b=>if b∈as\/P5 (H b)then H b else H0 b
def TH(K:Ch)(H:Hp)(as:Y' Z')(ts:Y' Z.D):Prop:=Paired (λ(a:Z') (t:Z.D)=>∃kd ks vs u,t=Z.Bc a kd ks vs/\H a=Y! u/\KS K H kd ks vs u) as ts
end
def WO(K:Ch)(H0:Hp)(ms:Y' Nat)(as:Y' Z')(H:Hp)(D:Ends):Z.UD->Prop
|.nx ρ'=>∀σ' H',iF H H'->RM K H0 ms as H' σ' ρ'->D.nx σ' H'
|.rt d ts=>∀v H',ax H0 H'->TH K H' as ts->Den K H' d v->D.rt v H'
def tM(K:Ch)(H0:Hp)(ms:Y' Nat)(as:Y' Z')(g:Z.SM):TS:=λ D σ H=>∃ρ fl,RM K H0 ms as H σ ρ/\g ρ=.ok fl/\WO K H0 ms as H D fl
abbrev MS(X:Cx)(H0:Hp)(ms:Y' Nat)(as:Y' Z')(st:ε)(g:Z.SM):Prop:=PS X st<|tM X.K H0 ms as g
structure _root_.ZQ.X9(X:Cx)(H0:Hp)(ms:List Nat)(as:List Addr)(st:Stmt)(g:Z.SM):Prop where p:MS X H0 ms as st g
abbrev Xk(X:Cx)(H0:Hp)(ms:Y' Nat)(as:Y' Z')(st:Y' ε)(g:Z.SM):Prop:=n9 X st<|tM X.K H0 ms as g
structure _root_.ZQ.Xf(X:Cx)(H0:Hp)(ms:List Nat)(as:List Addr)(st:List Stmt)(g:Z.SM):Prop where p:Xk X H0 ms as st g
section
variable {st:ε}
end
def wipe(H:Hp)(as:Y' Z'):Hp:=λ b=>if b∈as then AC else H b
def P6(K:Ch)(ms:Y' Nat)(bs:Y' Bool)(n:Nat)(fn:Y' Z.D->Z.Res (Z.D×Y' Z.D)):Sp:=λ vs H Q _=>∃ds as d ts,vV K H bs ds vs/\as.Nodup/\Paired (λ(i:Nat) (a:Z')=>∃kd ks vs,(Z.startB n bs ds)[i]?=Y! (Y!<|.bor<|Z.Bc a kd ks vs)) ms as/\Z.L! ms 0 (Z.startB n bs ds) /\
 fn ds=.ok (d,ts)/\∀v H',ax (wipe H as) H'->TH K H' as ts->Den K H' d v->Q v H'
section
variable {K:Ch}
end
structure Xn(K:Ch)(st:Stmt)(ps:List Str):Prop where
 ex:∃C f fd,vW K "Desk" C/\Mk K C f/\xV K "__init__" "Desk.__init__" st f fd/\Binds K fd ps []
structure Xu(P:Program)(w:World)(K:Ch)(mg:Str->Option Value)(base:Heap)(k:Nat)(ps:List Str)(n:Nat)(fn:List Z.D->Z.Res (Z.D×List Z.D)):Prop where
 ex:∃C f fd,vW K "Desk" C/\Mk K C f/\dI P w K mg base jc k f fd ps (P6 K [0] [AT,Z!] n fn)/\Binds K fd ps []
structure UI(P:Program)(w:World)(K:Ch)(mg:Str->Option Value)(base:Heap)(k:Nat)(ps:List Str)(fx:List Z.D->Option Z.XN):Prop where
 ex:∃C f fd,vW K "Desk" C/\Mk K C f/\dI P w K mg base (vX P w) k f fd ps (HB K [AT,Z!] fx)/\Binds K fd ps []
section
variable {K:Ch}
end
section
variable {rest:Y' ε}
end
section
end
def clsAt(s:ε)(j:Nat):ε:=match s with
|.ClassDef _ _ _ b _ _ _ _ _ _ _=>b.getD j<|.Pass ⟨0,0,0,0⟩
|s=>s
def p_(K:Frag)(C:Z')(m q:Str)(st:ε):Prop:=∃(f:Z')(od an:Y_ Z')(sl:Array (Y_ Z_))(oc kV dc pm cd ct:Z_),findIn K (.ref C) m=Y! (Y!<|.ref f)/\K.lookup f=Y! ⟨oc,od,.func<|fnOf m q (a_ st) (aE st) (ak st) .none kV dc pm an cd ct,sl⟩/\codeIn K cd q=AT/\keepIn K (.ref f)=AT/\isFn K (.ref f)=AT
section
variable {K:Frag}{st:ε}
theorem p_.mk'{oc kV dc pm cd ct:Z_}(a:findIn K (.ref C) m=Y! (Y!<|.ref f))(l:K.lookup f=Y! ⟨oc,od,.func<|fnOf m q (a_ st) (aE st) (ak st) .none kV dc pm an cd ct,sl⟩)(c:codeIn K cd q=AT)(k:keepIn K (.ref f)=AT)(i:isFn K (.ref f)=AT):p_ K C m q st:=⟨f,od,an,sl,oc,kV,dc,pm,cd,ct,a,l,c,k,i⟩
end
end ZS
namespace ZQ
open PySem PySem.Spec PyProof.Rows L2 ZS PySem.W
section
variable {st:ε}
end
section
variable {K:Ch}
end
end ZQ
namespace ZS
open PySem PySem.Spec PyProof.Rows L2 PySem.W
section
variable {K:Frag}{st:ε}
theorem Ny(d:p_ K C "__init__" q st)(xj:wb K C=AT)(kp:keepIn K (.ref C)=AT)(ef:mq K C)(ht:findIn K (.ref C) as=Y! AC)(ha:(⟨a.toArray⟩)=as)
 (hb:aE st=[.Assign [.Attribute (.Name "self" p1) as p2] (.Name as p3) p4])
 (RO:∀kV doc pm an ba ct us,us.length=2->bindArgs (fnOf "__init__" q (a_ st) (aE st) (ak st) .none kV doc pm an ba ct) ⟨us,[]⟩=pure ((["self",as]:Y' Str).zip us))
 (S:a6 ["self",as] ["self",as] (ak st)) (hv:∀x∈(["self",as]:Y' Str),AD (ak st) x) (hd:(as==("__debug__"))=Z!) (hc:(as==("__classdict__"))=Z!):AH P w K mg base C 1 [a]:=by
 obtain⟨f,od,an,sl,oc,kV,dc,pm,cd,ct,e1,l,c,k,i⟩:=d;have F:=tm l c k;refine⟨f,fnOf "__init__" q (a_ st) (aE st) (ak st) .none kV dc pm an cd ct,xj,kp,e1,i,?_,?_⟩
 .rw[Y7,A46,ha];exact Mv ef ht F hb S hv hd hc
 .rw[Y7,A46,ha];exact F.binds RO
theorem Nx(d:p_ K C "__init__" q st)(xj:wb K C=AT)(kp:keepIn K (.ref C)=AT)(ef:mq K C)(ht:findIn K (.ref C) as=Y! AC)(Ra:findIn K (.ref C) bs=Y! AC)(ha:(⟨a.toArray⟩)=as)(O1:(⟨b.toArray⟩)=bs)
 (hb:aE st=[.Assign [.Attribute (.Name "self" p1) as p2] (.Name as p3) p4,.Assign [.Attribute (.Name "self" q1) bs q2] (.Name bs q3) q4]) (qf:bs≠as)
 (RO:∀kV doc pm an ba ct us,us.length=3->bindArgs (fnOf "__init__" q (a_ st) (aE st) (ak st) .none kV doc pm an ba ct) ⟨us,[]⟩=pure ((["self",as,bs]:Y' Str).zip us))
 (S:a6 ["self",as,bs] ["self",as,bs] (ak st)) (hv:∀x∈(["self",as,bs]:Y' Str),AD (ak st) x) (hd:∀x∈[as,bs],(x==("__debug__"))=Z!/\(x==("__classdict__"))=Z!):AH P w K mg base C 1 [a,b]:=by
 obtain⟨f,od,an,sl,oc,kV,dc,pm,cd,ct,e1,l,c,k,i⟩:=d;have F:=tm l c k;refine⟨f,fnOf "__init__" q (a_ st) (aE st) (ak st) .none kV dc pm an cd ct,xj,kp,e1,i,?_,?_⟩
 .rw[Y7,Y7,A46,ha,O1];exact Mu ef ht Ra F hb qf S hv hd
 .rw[Y7,Y7,A46,ha,O1];exact F.binds RO
theorem tw(h1:nsIn K mainGlobals ⟨c.toArray⟩=Y! (Y!<|.ref C))(h2:gN K C)(h3:mq K C)(h4:findIn K (.ref C) f=Y! AC):Dz K f c:=⟨C,h1,h2,h3,h4⟩
theorem x?{l:Y' Str}(h:∀x∈l,sc.names.lookup x=Y! .local):∀x∈l,AD sc x:=λ x hx=>.inl<|h x hx
end
section
variable {K:Ch}
def Uy(as:Y' Z')(H H':Hp):Prop:=∀b o,b∉as->H b=Y! o->H' b=Y! o
end
def U'(K:Ch)(H0:Hp)(ms:Y' Nat)(as:Y' Z')(f:Z.SH):TE:=λ σ H Q=>∃ρ d ρ',RM K H0 ms as H σ ρ/\f ρ=.ok (d,ρ')/\∀v H',Uy as H H'->RM K H0 ms as H' σ ρ'->Den K H' d v->Q v H'
def S3(K:Ch)(H0:Hp)(ms:Y' Nat)(as:Y' Z')(f:Z.NK):TT:=λ σ H Q=>∃ρ b ρ',RM K H0 ms as H σ ρ/\f ρ=.ok (b,ρ')/\∀H',Uy as H H'->RM K H0 ms as H' σ ρ'->Q b H'
abbrev ME(X:Cx)(H0:Hp)(ms:Y' Nat)(as:Y' Z')(e:γ)(f:Z.SH):Prop:=PE X e<|U' X.K H0 ms as f
structure _root_.ZQ.X'(X:Cx)(H0:Hp)(ms:List Nat)(as:List Addr)(e:Expr)(f:Z.SH):Prop where p:ME X H0 ms as e f
abbrev MT(X:Cx)(H0:Hp)(ms:Y' Nat)(as:Y' Z')(e:γ)(f:Z.NK):Prop:=PT X e<|S3 X.K H0 ms as f
structure _root_.ZQ.X8(X:Cx)(H0:Hp)(ms:List Nat)(as:List Addr)(e:Expr)(f:Z.NK):Prop where p:MT X H0 ms as e f
abbrev Xj(X:Cx)(H0:Hp)(ms:Y' Nat)(as:Y' Z')(e:γ)(f:Z.NK):Prop:=PW X e<|S3 X.K H0 ms as f
structure _root_.ZQ.Xe(X:Cx)(H0:Hp)(ms:List Nat)(as:List Addr)(e:Expr)(f:Z.NK):Prop where p:Xj X H0 ms as e f
structure UL(P:Program)(w:World)(K:Ch)(mg:Str->Option Value)(base:Heap)(x:Str)(k:Nat)(ps:List Str)(bs:List Bool)(n:Nat)(fn:List Z.D->Z.Res (Z.D×List Z.D)):Prop where
 ex:∃g fd,dI P w K mg base jc k g fd ps (P6 K (Z.OJ 0 bs) bs n fn)/\mg x=Y! (.ref g)/\Ev K (.ref g)=AT/\Binds K fd ps []
structure UK(P:Program)(w:World)(K:Ch)(mg:Str->Option Value)(base:Heap)(m:Str)(k:Nat)(ps:List Str)(bs:List Bool)(n:Nat)(fn:List Z.D->Z.Res (Z.D×List Z.D)):Prop where
 ex:∃C g fd,vW K "Desk" C/\Meth K C m g/\dI P w K mg base jc k g fd ps (P6 K (Z.OJ 0 bs) bs n fn)/\Binds K fd ps []
section
variable {K:Ch}
end
section
variable {X:Cx}
end
section
variable {K:Ch}
end
section
variable {st:ε}
end
theorem lF{K:Frag}(h:(⟨c.toArray⟩)=x)(w:nsIn K mainGlobals x=Y! (Y!<|.ref C))(q:nF K C=AT):XC K c C:=⟨by rw[h];exact w,q⟩
theorem cW{K:Frag}(h:(⟨c.toArray⟩)=x)(w:nsIn K mainGlobals x=Y! (Y!<|.ref C))(k:gN K C)(q:kitOne K (.ref C) cv=Y! b):nE K c cv b:=⟨C,by rw[h];exact w,k,q⟩
end ZS
namespace ZQ
open PySem PySem.Spec PyProof.Rows L2 ZS PySem.W
section
end
section
variable {K:Ch}
end
end ZQ
noncomputable section
namespace Z
def zW(l:Y' (Y' Nat×Bool))(c:Y' Nat):Y_ Bool:=l.lookup c
end Z
end
namespace ZS
open PySem PySem.Spec PyProof.Rows L2 PySem.W
section
end
section
end
section
variable {X:Cx}
def qK(K:Frag)(l:Y' (Y' Nat×Bool))(cv:Z_):Prop:=∀p∈l,nE K p.1 cv p.2
theorem qK.nil{K:Frag}:qK K [] cv:=λ _ h=>nomatch h
theorem qK.cons{K:Frag}{cv:Z_}{c:Y' Nat}{b:Bool}{l:Y' _}(h:nE K c cv b)(t:qK K l cv):qK K ((c,b)::l) cv:=λ p hp=>by
 rcases Y2.mp hp with rfl|hp
 .exact h
 .exact t p hp
theorem qK.at{K:Frag}:∀{l}{c}{b},qK K l cv->Z.zW l c=Y! b->nE K c cv b
|[],_,_,_,e=>nomatch e
|p::l,c,b,h,e=>by
 unfold Z.zW at e;rw[A28]at e;split at e
 .rename_i q;cases e;have:c=p.1:=by simpa using q
  rw[this];exact h p Z7
 .exact qK.at (λ x hx=>h x<|Y6 _ hx) e
theorem Cu(hK:qK X.K l cv):∀σ H Q,tZ X.K (Z.iC i<|Z.zW l) σ H Q ->
 N6 (λ xs H Q=>∃p o u C c b,xs=[.ref p,cV]/\H p=Y! (.c5 o u)/\o.cls=.ref C/\(∃vs,o.data=.fields vs)/\lA X.K H c C o.dict/\gN X.K C/\kitOne X.K (.ref C) cv=Y! b/\Q (.bl b) H) (oU (fE i)<|oU (tC cV) Bk) σ H Q:=λ σ H Q ⟨ρ,d,r,e,k⟩=>by
 unfold Z.iC at e;split at e
 .rename_i c hi;split at e
  .rename_i b' eb;cases e;obtain⟨v,hv,p,o,u,C,rfl,h1,h2,h3,h4⟩:=r.get i _ hi;obtain⟨k1,k2⟩:=Cv (hK.at eb) (Z1 rfl) h4.1;exact⟨_,hv,p,o,u,C,c,b',rfl,h1,h2,h3,h4,k1,k2,k _ H (ax.refl H) cy⟩
  .cases e
 .cases e
theorem _root_.ZQ.Df(hg:Gl X x)(hm:X.mg x=AC)(hv:bootBuiltins x=Y! (.builtin "isinstance"))(ha:PE X a (fE i))(MR:Gl X y)(ML:X.mg y=Y! (.ref D))(hK:qK X.K l (.ref D))
 (hn:x≠ "__name__":=by decide +kernel) (c_:(x==("__debug__"))=Z!:=by decide +kernel) (MY:(y==("__debug__"))=Z!:=by decide +kernel)
 (he:starEach (a::[.Name y p2]) X.env=(Z!,eval a X.env)::starEach [.Name y p2] X.env:=by rfl) (da:(backTo pos<|starEach [.Name y p2] X.env).any (·.1)=Z!:=by rfl) (AL:starEach ((.Name y p2)::[]) X.env=(Z!,eval (.Name y p2) X.env)::starEach [] X.env:=by rfl) :
 ZQ.QE X (.Call (.Name x p1) [a,.Name y p2] [] pos) (Z.iC i<|Z.zW l):=
 ⟨PE.imp (fq (p8 (cV:=.ref D) λ u r=>r) hg hm hv (aS ha (aS (sD (v:=.ref D) MR ML rfl MY) bM AL) he) hn c_ he da)<|Cu hK⟩
end
end ZS
namespace ZQ
open PySem PySem.Spec PyProof.Rows L2 ZS
section
end
section
end
section
end
end ZQ
noncomputable section
namespace Z
abbrev QF:=Env->Res XN
def qV(i:Nat):QF:=λ ρ=>match ρ[i]? with
|some<|some<|.exc c=>.ok c
|_=>.bad
def EM(c:Y' Nat)(fa:EF):QF:=λ ρ=>(fa ρ).bind λ _=>.ok (c,[])
def EL(c:Y' Nat)(fs:Y' (Y' Nat))(as:AF):QF:=λ ρ=>(as ρ).bind λ ds=>if ds.length=fs.length then .ok (c,fs.zip ds)else .bad
def yj(i:Nat)(f:QF):SF:=λ ρ=>(f ρ).bind λ c=>.ok<|.nx<|ρ.set i<|some<|.exc c
def HP:Env->Res (Y' XN):=λ _=>.ok []
def jy(f:QF)(r:Env->Res (Y' XN)):Env->Res (Y' XN):=λ ρ=>(f ρ).bind λ c=>(r ρ).bind λ cs=>.ok<|c::cs
def gQ(cs:Y' XN)(d:D)(ρ:Env):Res Env:=match d with
| .int k=>(match cs[k.toNat]? with
 |some c=>.ok<|ρ.set 0<|some<|.exc c
 | none=>.bad)
|_=>.bad
def BC(as:Env->Res (Y' XN))(t:TF):SF:=λ ρ=>(as ρ).bind λ cs=>if cs.length<=100 then(match b_ (gQ cs) t (λ _=>.bad) [AC] ((Do cs.length).map λ k:Nat=>D.int (k:Int))with
|.ok []=>.ok<|.rt<|.bl AT
| _=>.bad)else .bad
end Z
end
namespace ZS
open PySem PySem.Spec PyProof.Rows L2 PySem.W
def tQ(K:Frag)(f:Z.QF):TE:=λ σ H Q=>∃ρ c,RE K H σ ρ/\f ρ=.ok c/\∀v H',ax H H'->RL K H' (.exc c) v->Q v H'
structure _root_.ZQ.QQ(X:Cx)(e:Expr)(f:Z.QF):Prop where p:PE X e (tQ X.K f)
def RX(K:Frag)(H:Hp)(c:Z.XN)(v:V):Prop:=RL K H (.exc c) v
def U9(K:Frag)(f:Z.Env->Z.Res (Y' Z.XN)):TA:=λ σ H Q=>∃ρ cs,RE K H σ ρ/\f ρ=.ok cs/\∀vs H',ax H H'->Paired (RX K H') cs vs->Q vs H'
structure _root_.ZQ.Pj(X:Cx)(es:List Expr)(f:Z.Env->Z.Res (List Z.XN)):Prop where p:PA X es (U9 X.K f)
section
variable {X:Cx}{H0:Hp}
theorem RX.up{K:Frag}{H H':Hp}{c:Z.XN}{v:V}(h:RX K H c v)(e:ax H H'):RX K H' c v:=RL.up h e
theorem _root_.ZQ.Lw{a:γ}{i:Nat}(ha:PE X a (fE i)):ZQ.QQ X a (Z.qV i):=⟨PE.imp ha λ σ H Q ⟨ρ,c,re,e,k⟩=>by
 unfold Z.qV at e;split at e
 .rename_i c' hi;cases e;obtain⟨v,hv,r⟩:=re.get i _ hi;exact⟨v,hv,k v H (ax.refl H) r⟩
 .cases e⟩
theorem _root_.ZQ.HN:ZQ.Pj X [] Z.HP:=⟨λ pos π s σ H Q I ⟨ρ,cs,re,e,k⟩=>by cases e;exact bM pos π s σ H Q I<|k [] H (ax.refl H) .nil⟩
theorem _root_.ZQ.fT{e:γ}{es:Y' γ}{f:Z.QF}{r:Z.Env->Z.Res (Y' Z.XN)}(h:ZQ.QQ X e f)(hr:ZQ.Pj X es r)(hs:Se e es X.env:=by rfl):ZQ.Pj X (e::es) (Z.jy f r):=
 ⟨λ pos π s σ H Q I ⟨ρ,cs,re,e,k⟩=>by
 obtain⟨c,e1,e⟩:=Z.Res.aw e;obtain⟨cr,e2,e⟩:=Z.Res.aw e;cases e;exact aS h.p hr.p hs pos π s σ H Q I ⟨ρ,c,re,e1,λ v H1 s1 d1=>⟨ρ,cr,re.up s1,e2,λ vs H2 s2 p2=>k _ H2 (s1.trans s2)<|.cons (RX.up d1 s2) p2⟩⟩⟩
theorem qR{π:Y' (Z'×ζ)}{σ:St}{H:Hp}{s:δ}{e C:Z'}{dd:Y_ Z'}{c:Z.XN}(I:Inv X π σ H s)(t:D6 X π H s e C dd)(xr:lA X.K H c C dd):∃H',Inv X π σ H' s/\ax H H'/\RX X.K H' c (.ref e):=by
 obtain⟨oe,vs,he,h!,t9,hd,_⟩:=t.ex;have J:=wC (o:=.c5 oe (.ext λ _=>True)) I t.off.free t.off.new (t.off.loc I) (t.off.cell I) t.off.pin ⟨he,trivial,⟨oe,he⟩,λ _ _ _ _=>trivial⟩;have sm:ax H (upd H e<|.c5 oe<|.ext λ _=>True):=λ b o q=>by rw[aA<|aP q t.off.free];exact q
 exact⟨_,J,sm,e,oe,_,C,rfl,aI,h!,⟨vs,hd⟩,by rw[t9];exact xr.ups<|lC sm⟩
theorem _root_.ZQ.o4{x:Str}{c:Y' Nat}{C:Z'}{a:γ}{fa:Z.EF}{np ia:Pos}(hex:X.ex=[])(hg:Gl X x)(FI:(⟨c.toArray⟩:Str)=x)(xc:XC X.K c C)(xi:excIn X.K C [.type "ValueError",.type "Exception",.type "BaseException",.type "object"] "ValueError.__new__"=AT)(hk:keepIn X.K (.ref C)=AT)(ha:ZQ.QE X a fa)
 (c_:Nd x:=by decide +kernel) (he:Se a [] X.env:=by rfl) (da:Pn ia [] X.env:=by rfl) :
 ZQ.QQ X (.Call (.Name x np) [a] [] ia) (Z.EM c fa):=⟨by
 intro π s σ H Q I h;obtain⟨ρ,c',re,ec,kw⟩:=h;obtain⟨d,ed,ec⟩:=Z.Res.aw ec;cases ec;have hm:X.mg x=Y! (.ref C):=by have:=f8 (mg:=X.mg) (h:=s.heap) I.jm (I.mod.glob.keeps I.bk) xc.1;rw[FI]at this;exact this
 refine A32<|gW I hg hm ?_ c_;refine A72 (h₀:=X.base) I.ok.mod.AI hk (b8 (aS ha.p bM he ia π s σ H (λ vs H1=>ax H H1/\vs.length=1) I ⟨ρ,d,re,ed,λ v H1 s1 d1=>⟨s1,rfl⟩⟩) λ us s1 ⟨vs,H1,I1,r,sm,hl⟩=>⟨I1.jm,?_⟩) he da;obtain⟨tl,ns,nm,qn,bs,hd,sn,sub,ab,col,dd,s0,Qh,s2,s3,s5,mN,hC,hN,Rm,T⟩:=Nw I.mod.AI xi;obtain⟨hp,g,dr,tk,os⟩:=s1;refine wpAny_call_exc_subT (hrest:=by rw[B25,<-r.length,hl,Y9];decide) B65 (T.keeps I1.bk) (I1.bk _ _ hC) (hN.keeps I1.bk) Rm λ h' ex Ro=>?_;obtain⟨J,th⟩:=r9 hex I1 Ro;obtain⟨H2,J2,qc,rx⟩:=qR (c:=(c,[])) J th ⟨xc,rfl⟩;exact⟨.ref ex,H2,J2,rfl,kw _ H2 (sm.trans qc) rx⟩⟩
theorem _root_.ZQ.BK{x:Str}{c:Y' Nat}{C:Z'}{k:Nat}{fz:Y' (Y' Nat)}{e:γ}{es:Y' γ}{ar:Z.AF}{np ia:Pos}(hex:X.ex=[])(hg:Gl X x)(FI:(⟨c.toArray⟩:Str)=x)(xc:XC X.K c C)(J:AH X.prog X.w X.K X.mg X.base C k fz)(hr:bK (k+1) X.A)(ha:ZQ.QA X (e::es) ar)(Rw:fz≠[])(AK:fz.length<=100)
 (c_:Nd x:=by decide +kernel) (he:Se e es X.env:=by rfl) (da:Pn ia es X.env:=by rfl) :
 ZQ.QQ X (.Call (.Name x np) (e::es) [] ia) (Z.EL c fz ar):=⟨by
 obtain⟨f,fd,xj,hk,hi,hf,F,hb⟩:=J.ex;intro π s σ H Q I h;obtain⟨ρ,c',re,ec,kw⟩:=h;obtain⟨ds,ed,ec⟩:=Z.Res.aw ec;split at ec
 .rename_i hl;cases ec;have hm:X.mg x=Y! (.ref C):=by have:=f8 (mg:=X.mg) (h:=s.heap) I.jm (I.mod.glob.keeps I.bk) xc.1;rw[FI]at this;exact this
  refine A32<|gW I hg hm ?_ c_;refine A72 (h₀:=X.base) I.ok.mod.AI hk (b8 (ha.p ia π s σ H (λ vs H1=>ax H H1/\ay X.K H1 ds vs) I ⟨ρ,ds,re,ed,λ vs H1 s1 d1=>⟨s1,d1⟩⟩) λ us s1 ⟨vs,H1,I1,r,sm,d1⟩=>⟨I1.jm,?_⟩) he da;have I!:vs.length=fz.length:=by rw[<-hl];exact d1.length
  refine b8 (ym hex (JK I1.jm xj) hi hf F hb hr I1 r (by rw[I!,v4]) (us:=us) (by rw[<-r.length,I!];exact AK)) λ v s2 ⟨e2,dx,od,H2,hv,I2,qc,FG,th,t,CB⟩=>?_;subst hv;obtain⟨H3,J3,yh,rx⟩:=qR (c:=(c,fz.zip ds)) I2 th ⟨xc,by
   refine⟨?_,od,_,FG,kM hl<|d1.up qc⟩;cases fz with
   |nil=>exact absurd rfl Rw
   |cons a l=>cases ds with
    |nil=>cases hl
    |cons b m=>exact λ z=>nomatch z⟩
  exact⟨.ref e2,H3,J3,rfl,kw _ H3 ((sm.trans qc).trans yh) rx⟩
 .cases ec⟩
theorem _root_.ZQ.yT{a:γ}{fa:Z.QF}{x:Str}{i:Nat}{pos pos':Pos}(he:ZQ.QQ X a fa)(hs:swapsWith a (Y!<|.Name x pos') pos.line X.env=pure Z!:=by rfl)(hf:Fl X x:=by trivial)(hN:X.N.Nodup:=by first|assumption|exact A65 (by kernel_rfl))(hi:X.N[i]?=Y! x:=by rfl)(hx:Loc X.env.scope x:=by exact lo rfl):
 ZQ.QS X H0 (.Assign [.Name x pos'] a pos) (Z.yj i fa):=⟨PS.imp (o5 hN hi hx he.p hs hf) λ D σ H ⟨ρ,fl,rs,e,k⟩=>by
 obtain⟨c,ea,e⟩:=Z.Res.aw e;cases e;exact⟨ρ,c,rs.re,ea,λ v H' s dv=>k _ H' (lC s)<|(rs.up s).EG dv⟩⟩
def U!(K:Frag)(i:Nat)(t:Z.TF):TE:=λ σ H Q=>∃a vs cs,σ[i]?=Y! (Y!<|.ref a)/\H a=Y! (.lst vs)/\Paired (RX K H) cs vs/\cs.length<=100/\Z.b_ (Z.gQ cs) t (λ _=>.bad) [AC] ((Do cs.length).map λ k:Nat=>Z.D.int (k:Int))=.ok []/\∀q H',ax H H'->H q=AC->H' q=Y! (.lst [])->Q (.ref q) H'
theorem kN{α β:Type}{F:α->β->Prop}:∀{l:Y' α}{m:Y' β},Paired F l m->l.length=m.length/\∀(i:Nat) a b,l[i]?=Y! a->m[i]?=Y! b->F a b
|_,_,.nil=>⟨rfl,λ i a b e=>nomatch e⟩
|_,_,.cons r t=>by
 obtain⟨h1,h2⟩:=kN t;refine⟨by simp[h1],λ i a b e1 e2=>?_⟩;cases i with
 |zero=>cases e1;cases e2;exact r
 |succ i=>exact h2 i a b e1 e2
theorem JJ{elt:γ}{y x:Str}{yp xp pos:Pos}{ifs:Y' γ}{scope:μ}{N':Y' Str}{i:Nat}{t:Z.TF}(bD:X.calm=AT)(hv:PE X (.Name x xp) (fE i))(B:n? X.N N' 1 [] scope X.env.scope)
 (hg:∀cl C fp s H,PG (jS X N' scope cl C fp s H) (.Name y yp) (L2.br 0)) (ht:∀cl C fp s H,KR (jS X N' scope cl C fp s H) ifs t) (hs:∀z,foldedSetIterable (.Name x xp) X.env z=pure z) :
 PE X (.ListComp elt [⟨.Name y yp,.Name x xp,ifs,0⟩] scope pos) (U! X.K i t):=by
 intro π s σ H Q I h;obtain⟨a,vs,cs,hσ,ha,pr,hl,ec,k⟩:=h;obtain⟨pl,pg⟩:=kN pr;rw[eval_ListComp];have kA:∀y∈scope.names,y.2=.free->∃c,X.env.cells.lookup y.1=Y! c:=λ y hy hf=>I.ok.has y.1<|B.free y hy hf;obtain⟨cl,h!,fW,mP⟩:=e! kA;refine wpAny_comprehension_free rfl hs h! B.kind B.loc ?_;refine b8 (ET (tg:=.Name y yp) hv π s σ H (λ J H₂=>J=Pp X.K a/\H₂=H) I ⟨.ref a,hσ,a,rfl,⟨vs,.inl<|.inl ha⟩,rfl,rfl⟩) λ XQ s₁ h₁=>?_;refine b8 h₁ λ OK s₂ ⟨VE,fp,tn,J,H₂,e2,I2,T,HA,fo,eJ,eH⟩=>?_;subst e2 eJ eH;have sq:∀{H1},ax H₂ H1->gJ X.K H1 a vs:=λ sm=>.inl<|.inl<|sm _ _ ha;have at_:∀{j:Nat}{d:Z.D},((Do cs.length).map λ k:Nat=>Z.D.int (k:Int))[j]?=Y! d->d=.int j/\∃c u,cs[j]?=Y! c/\vs[j]?=Y! u:=λ {j d} e=>by rw[Z3]at e;obtain⟨n,e1,e2⟩:=A19.mp e;obtain⟨h1,h2⟩:=Y3.mp e1;rw[A08]at h1;rw[A56]at h2;subst h2;exact⟨e2.symm,_,_,M2 h1,M2 (by rw[<-pl];exact h1)⟩
 have nn:∀{j:Nat}{l:Z.L},(σ.map λ _=>(AC:Y_ Z.L))[j]?=Y! (Y! l)->False:=λ {j l} e=>by rw[Z3]at e;obtain⟨_,_,e⟩:=A19.mp e;cases e
 have re:RE X.K H₂ σ (σ.map λ _=>AC):=⟨by simp,λ j l e=>(nn e).elim,λ j k xs ys q e=>(nn e).elim⟩
 refine b8 (vH (R:=λ H d v=>∃(j:Nat)(c:Z.XN),d=.int j/\cs[j]?=Y! c/\RX X.K H c v) (G:=Z.gQ cs) (t:=t) (fe:=λ _=>.bad) (iter:=.Name x xp) (pos:=pos) (elt:=elt) (ifs:=ifs) (is:=[]) (ys:=[]) bD B I2 T HA fo
  (λ j d H1 sm e=>by obtain⟨_,c,u,_,e2⟩:=at_ e;exact⟨vs,u,sq sm,e2⟩)
  (λ j d H1 H2 z sm e yl=>by obtain⟨rfl,c,u,e1,e2⟩:=at_ e;obtain⟨rfl,q⟩:=yl;have:=q vs<|sq sm;exact⟨ax.refl _,j,c,rfl,e1,RX.up (pg j c z e1 this) sm⟩)
  (λ H1 sm=>⟨vs,sq sm,by simp[<-pl]⟩) re fW mP ?_ ?_ (λ C s s' H' i_ σ' Hg Q' I' w=>ht cl C fp s H' i_ s' σ' Hg Q' I' w) ?_ (by simp;have:Z.line=16777216:=rfl;lia) ec) λ acc s₃ h₃=>?_
 .intro d ρ ρ1 e;unfold Z.gQ at e;split at e
  .split at e
   .cases e;exact⟨by simp,λ i hi=>A14 (by lia)⟩
   .cases e
  .cases e
 .intro C s H H0;refine PG.imp (hg cl C fp s H) λ v σ H Q ⟨ρ,d,ρ',rs,⟨j,c,e1,e2,rx⟩,e,kk⟩=>?_;subst e1;have e':Z.gQ cs (.int j) ρ=.ok (ρ.set 0<|some<|.exc c):=by simp[Z.gQ,e2]
  rw[e']at e;cases e;exact kk _ H (ax.refl H)<|rs.EG rx
 .intro C s H π s σ H Q I ⟨ρ,d,re,e,k⟩;cases e
 .refine b8 h₃ λ Gh s₄ h₄=>A54 h₄ λ r s' ⟨er,HK⟩=>?_;subst er;obtain⟨D,H',ws,m,rfl,DX,I',off,AN,GK,hD,dz⟩:=HK;have:ws=[]:=by
   cases ws with
   |nil=>rfl
   |cons w r=>exact absurd dz.length (by simp)
  subst this;exact⟨m,DX,λ h' G4=>⟨.ref D,H',off.inv I' G4,rfl,k D H' GK AN hD⟩⟩
theorem _root_.ZQ.C!{elt:γ}{es:Y' γ}{y x:Str}{yp xp px pos p1 p2 p3 p4 p5:Pos}{ifs:Y' γ}{scope:μ}{N':Y' Str}{i:Nat}{t:Z.TF}{f:Z.Env->Z.Res (Y' Z.XN)}(hu:X.A.units+64<cLine)(ha:ZQ.Pj X es f)
 (ht:∀{cl C fp s H},ZQ.Dw (jS X N' scope cl C fp s H) ifs t) (hv:PE X (.Name x xp) (fE i)) (hg:∀{cl C fp s H},PG (jS X N' scope cl C fp s H) (.Name y yp) (L2.br 0):=by exact sC (A65 (by kernel_rfl)) rfl<|lo rfl) (hi:X.N[i]?=Y! x:=by rfl) (bD:X.calm=AT:=by rfl) (B:n? X.N N' 1 [] scope X.env.scope:=by exact ZS.n?.of (by kernel_rfl))
 (VZ:∀z,foldedSetIterable (.Name x xp) X.env z=pure z:=by intro _;rfl) (hs:swapsWith (.List es p1) (Y!<|.Name x px) p2.line X.env=pure Z!:=by rfl) (hf:Fl X x:=by trivial) (hN:X.N.Nodup:=by first|assumption|exact A65 (by kernel_rfl)) (hx:Loc X.env.scope x:=by exact lo rfl) :
 ZQ.rM X H0 [.Assign [.Name x px] (.List es p1) p2,.Return (Y!<|.Compare (.ListComp elt [⟨.Name y yp,.Name x xp,ifs,0⟩] scope pos) [.Eq] [.List [] p3] p4) p5] (Z.BC f t):=⟨by
 obtain⟨r,hr,hz⟩:=(fN hu).ex;intro π s σ H D I w;refine jz (o5 hN hi hx (wN ha.p) hs hf) (j1<|wL<|sE hr (JJ bD hv B (λ _ _ _ _ _=>hg) (λ _ _ _ _ _=>ht.p) VZ) (wN bM) (by first|exact kP _|with_unfolding_all rfl)) π s σ H D I ?_;obtain⟨ρ,fl,rs,e,k⟩:=w;obtain⟨cs,ea,e⟩:=Z.Res.aw e;split at e
 .rename_i hl;split at e
  .rename_i ec;cases e;have il:i<σ.length:=by have:=(Y3.mp hi).1;rw[I.len];exact this
   refine⟨ρ,cs,rs.re,ea,λ vs H1 s1 p1=>⟨by rw[<-(kN p1).1,Y9];lia,λ p hp=>?_⟩⟩;have s2:ax H1 (upd H1 p<|.lst vs):=λ b o q=>by rw[aA<|aP q hp];exact q
   refine⟨p,vs,cs,A25 il,aI,Paired.Cc p1 λ _ _ z=>RX.up z s2,hl,ec,λ q H2 s3 hq hH=>⟨by simp,λ p3 V2=>?_⟩⟩;have s4:ax H2 (upd H2 p3<|.lst []):=λ b o q=>by rw[aA<|aP q V2];exact q
   refine hz _ _ (.lst []) (.lst []) (.bl AT) _ _ (.inr ⟨[],q,[],rfl,rfl,s4 _ _ hH,ay.nil⟩) (.inr ⟨[],p3,[],rfl,rfl,aI,ay.nil⟩) rfl λ v H5 s5 dv=>k v H5 ((((rs.same.trans s1).trans s2).trans s3).trans<|s4.trans s5) dv
  .cases e
 .cases e⟩
end
end ZS
noncomputable section
namespace Z
def Ok{α:Type}(r:Res α)(Q:α->Prop):Prop:=∃a,r=.ok a/\Q a
theorem Ok.eq(h:Ok r λ x=>x=a):r=.ok a:=by obtain⟨x,e,rfl⟩:=h;exact e
@[simp] theorem NP(a:α)(Q:α->Prop):Ok (.ok a) Q↔Q a:=⟨λ⟨_,e,q⟩=>by cases e;exact q,λ q=>⟨a,rfl,q⟩⟩
@[simp] theorem Sx(Q:α->Prop):Ok (.bad) Q↔False:=⟨λ⟨_,e,_⟩=>(by cases e),GE⟩
@[simp] theorem Pm(r:Res α)(f:α->Res β)(Q:β->Prop):Ok (r.bind f) Q↔Ok r λ a=>Ok (f a) Q:=by
 cases r with
 |ok a=>simp
 |bad=>simp
@[simp] theorem Sv(r:Res α)(f:α->β)(Q:β->Prop):Ok (r.map f) Q↔Ok r λ a=>Q (f a):=by
 cases r with
 |ok a=>simp
 |bad=>simp
@[simp] theorem NQ(p:Prop)(r:Res α)(Q:α->Prop):Ok (guard p r) Q↔p/\Ok r Q:=by
 constructor
 .rintro⟨a,e,q⟩;obtain⟨h,e⟩:=pG e;exact⟨h,a,e,q⟩
 .rintro⟨h,k⟩;rw[guard_pos h];exact k
@[simp] theorem Sw[Decidable c](r r':Res α)(Q:α->Prop):Ok (if c then r else r') Q↔if c then Ok r Q else Ok r' Q:=by split<;>rfl
abbrev v(d:D):Y_ L:=Y!<|.val d
abbrev vi(i:Int):Y_ L:=Y!<|.val<|.int i
abbrev vs(cs:Y' Nat):Y_ L:=Y!<|.val<|.str cs
abbrev ow(xs:Y' D):Y_ L:=Y!<|.own xs
def ND:Y_ (Y_ L)->Res D
|some<|some<|.val d=>.ok d
|some<|some<|.own xs=>.ok<|.lst xs
|some<|some<|.bor<|.lst xs=>.ok<|.lst xs
|_=>.bad
def Sn:Y_ (Y_ L)->Res D
|some<|some<|.val d=>.ok d
|_=>.bad
@[simp] theorem W4(i:Nat)(ρ:Env):eW i ρ=ND ρ[i]?:=by
 unfold eW ND;cases ρ[i]? with
 |none=>rfl
 |some o=>cases o with
  |none=>rfl
  |some l=>cases l<;>rfl
@[simp] theorem W5(i:Nat)(ρ:Env):eV i ρ=Sn ρ[i]?:=by
 unfold eV Sn;cases ρ[i]? with
 |none=>rfl
 |some o=>cases o with
  |none=>rfl
  |some l=>cases l<;>rfl
@[simp] theorem O_(d:D):ND (Y!<|some<|.val d)=.ok d:=rfl
@[simp] theorem Pa(xs:Y' D):ND (Y!<|some<|.own xs)=.ok (.lst xs):=rfl
@[simp] theorem Pb(xs:Y' D):ND (Y!<|some<|.bor<|.lst xs)=.ok (.lst xs):=rfl
@[simp] theorem Pc(d:D):Sn (Y!<|some<|.val d)=.ok d:=rfl
theorem a9{b:SF}(h:Ok (b ρ) λ fl=>cf (.ok fl)=.ok d):cf (b ρ)=.ok d:=by obtain⟨fl,e,q⟩:=h;rw[e,q]
theorem wI{b:SF}(h:Ok (b ρ) λ fl=>Ok (cf<|.ok fl) P):Ok (cf<|b ρ) P:=by obtain⟨fl,e,q⟩:=h;rw[e];exact q
@[simp] theorem Qb(e:EF)(g:GF)(ρ:Env):EK e g ρ=(e ρ).bind λ d=>(g d ρ).bind λ ρ'=>.ok (.nx ρ'):=rfl
@[simp] theorem Ui(i j:Nat)(a b:D)(ρ:Env):iT [i,j] (.tup [a,b]) ρ=.ok ((ρ.set i<|v a).set j<|v b):=rfl
def NG(i:Nat)(ρ:Env)(d:D):Y_ (Y_ L)->Res Fl
|some<|some<|.own xs=>guard (xs.length<line)<|.ok<|.nx<|ρ.set i<|ow<|xs++[d]
|_=>.bad
@[simp] theorem J8(i:Nat)(e:EF)(ρ:Env):dR i e ρ=(e ρ).bind λ d=>NG i ρ d ρ[i]?:=rfl
@[simp] theorem NF(i:Nat)(ρ:Env)(d:D)(xs:Y' D):NG i ρ d (Y!<|some<|.own xs)=guard (xs.length<line) (.ok<|.nx<|ρ.set i<|ow<|xs++[d]):=rfl
def Nj(i:Nat)(ρ:Env)(ys:Y' D):Y_ (Y_ L)->Res Fl
|some<|some<|.own xs=>guard (xs.length+ys.length<=line)<|.ok<|.nx<|ρ.set i<|ow<|xs++ys
|_=>.bad
@[simp] theorem Qe(i:Nat)(l:LF)(ρ:Env):zD i l ρ=(l ρ).bind λ ys=>Nj i ρ ys ρ[i]?:=rfl
@[simp] theorem Ni(i:Nat)(ρ:Env)(ys xs:Y' D):Nj i ρ ys (Y!<|some<|.own xs)=guard (xs.length+ys.length<=line) (.ok<|.nx<|ρ.set i<|ow<|xs++ys):=rfl
def CL(i:Nat)(ρ:Env):Y_ (Y_ L)->Env
|some<|some<|.own xs=>ρ.set i<|v<|.lst xs
|_=>ρ
@[simp] theorem Qc(i:Nat)(a:SF)(ρ:Env):BB i a ρ=a (CL i ρ ρ[i]?):=by
 unfold BB c5 CL;cases ρ[i]? with
 |none=>rfl
 |some o=>cases o with
  |none=>rfl
  |some l=>cases l<;>rfl
@[simp] theorem Ng(i:Nat)(ρ:Env)(xs:Y' D):CL i ρ (Y!<|some<|.own xs)=ρ.set i (v<|.lst xs):=rfl
@[simp] theorem Nf(i:Nat)(ρ:Env)(d:D):CL i ρ (Y!<|some<|.val d)=ρ:=rfl
@[simp] theorem Kx(i:Nat)(ρ:Env):CL i ρ (Y! AC)=ρ:=rfl
def S6(l h:Y_ Int):D->Res (Y' D)
|.lst xs=>.ok<|cut xs l h
|_=>.bad
theorem Ml(a:EF)(lo hi:PF)(ρ:Env):Mm a lo hi ρ=(a ρ).bind λ x=>(lo ρ).bind λ l=>(hi ρ).bind λ h=>S6 l h x:=rfl
@[simp] theorem N9(l h:Y_ Int)(xs:Y' D):S6 l h (.lst xs)=.ok (cut xs l h):=rfl
@[simp] theorem Oj(xs:Y' D)(l h:Y_ Int):GX (.tup xs) l h=.ok (.tup<|cut xs l h):=rfl
@[simp] theorem LM(cs:Y' Nat)(l h:Y_ Int):GX (.str cs) l h=guard (cs.length<=line) (.ok<|.str<|cut cs l h):=rfl
@[simp] theorem Ke(a b:Y' Nat):bS (.str a) (.str b)=guard (a.length+b.length<=line) (.ok<|.str<|a++b):=rfl
@[simp] theorem Kd(a b:Y' D):bS (.tup a) (.tup b)=guard (a.length+b.length<=line) (.ok<|.tup<|a++b):=rfl
@[simp] theorem LN(a:Int):B4 (.int a)=.ok (.int<|-a):=rfl
@[simp] theorem LW:fH .non=.ok (.bl AT):=rfl
@[simp] theorem LV(xs:Y' D):fH (.tup xs)=.ok (.bl Z!):=rfl
@[simp] theorem Kb:jC .non=.ok (.bl Z!):=rfl
@[simp] theorem Ka(xs:Y' D):jC (.tup xs)=.ok (.bl AT):=rfl
def atK:Y_ D->Res D
|some d=>.ok d
|none=>.bad
@[simp] theorem NC(d:D):atK (Y! d)=.ok d:=rfl
theorem E9(xs:Y' D)(i:Int):a! (.tup xs) (.int i)=atK ((rd xs.length i).bind λ j=>xs[j]?):=by show(match (rd _ i).bind λ j=>xs[j]? with|some v=>Res.ok v|none=>.bad)=_;cases (rd _ i).bind λ j=>xs[j]?<;>rfl
theorem E!(xs:Y' D)(i:Int):a! (.lst xs) (.int i)=atK ((rd xs.length i).bind λ j=>xs[j]?):=by show(match (rd _ i).bind λ j=>xs[j]? with|some v=>Res.ok v|none=>.bad)=_;cases (rd _ i).bind λ j=>xs[j]?<;>rfl
theorem ja{i:Int}{j:Nat}(h:i=j)(e:xs[j]?=Y! d):a! (.tup xs) (.int i)=.ok d/\a! (.lst xs) (.int i)=.ok d:=by
 subst h;have hj:=(Y3.mp e).1;have:rd xs.length (j)=Y! j:=by simp[rd,hj]
 rw[E9,E!,this];simp[e]
theorem Cs{i:Int}{j c:Nat}(h:i=j)(e:cs[j]?=Y! c)(hl:cs.length<=line):a! (.str cs) (.int i)=.ok (.str [c]):=by
 subst h;have hj:=(Y3.mp e).1;have:rd cs.length (j)=Y! j:=by simp[rd,hj]
 show guard _ _=_;rw[guard_pos hl,this];simp[e]
theorem Fq(h0:0<=i)(h1:i<xs.length):∃d∈xs,a! (.lst xs) (.int i)=.ok d/\a! (.tup xs) (.int i)=.ok d:=by
 have hj:i.toNat<xs.length:=by lia
 refine⟨xs[i.toNat],A90 hj,?_⟩;have:=ja (i:=i) (by lia)<|M2 hj;exact⟨this.2,this.1⟩
def turn(I:Env->Prop)(Q:Fl->Prop):Fl->Prop
|.nx ρ=>I ρ
|.ct ρ=>I ρ
|.bk ρ=>Q<|.nx ρ
|.rt d=>Q<|.rt d
@[simp] theorem N0(I:Env->Prop)(Q:Fl->Prop)(ρ:Env):turn I Q (.nx ρ)↔I ρ:=Iff.rfl
@[simp] theorem N1(I:Env->Prop)(Q:Fl->Prop)(ρ:Env):turn I Q (.ct ρ)↔I ρ:=Iff.rfl
@[simp] theorem N2(I:Env->Prop)(Q:Fl->Prop)(ρ:Env):turn I Q (.bk ρ)↔Q (.nx ρ):=Iff.rfl
@[simp] theorem NZ(I:Env->Prop)(Q:Fl->Prop)(d:D):turn I Q (.rt d)↔Q (.rt d):=Iff.rfl
theorem CN(I:Nat->Env->Prop):∀ds ρ i,I i ρ->(∀j d ρ,ds[j]?=Y! d->I (i+j) ρ->Ok (g d ρ) λ ρ1=>Ok (b ρ1) (turn (I<|i+j+1) Q))->(∀ρ,I (i+ds.length) ρ->Q (.nx ρ))->Ok (jI g b ds ρ) Q
|[],ρ,i,h,_,e=>by simpa[jI]using e ρ h
|d::ds,ρ,i,h,k,e=>by
 obtain⟨ρ1,e1,fl,e2,t⟩:=k 0 d ρ rfl h;have ih:=λ ρ' (h')=>CN I ds ρ' (i+1) h' (λ j x ρ hj hP=>by have:=k (j+1) x ρ (by simpa using hj) (by simpa[B66,A66 1 j]using hP);simpa[B66,A66 1 j]using this) λ ρ hP=>e ρ (by simpa[B66,A66 1]using hP)
 unfold jI;rw[e1,Res.sN,e2,Res.sN];cases fl with
 |nx ρ'=>exact ih ρ' (by simpa using t)
 |ct ρ'=>exact ih ρ' (by simpa using t)
 |bk ρ'=>simpa using t
 |rt d=>simpa using t
theorem fJ(I:Nat->Env->Prop)(h0:I 0 ρ)(hs:∀j d ρ,ds[j]?=Y! d->I j ρ->Ok (g d ρ) λ ρ1=>Ok (b ρ1) (turn (I<|j+1) Q))(he:∀ρ,I ds.length ρ->Q (.nx ρ)):Ok (jI g b ds ρ) Q:=
 CN I ds ρ 0 h0 (λ j d ρ hd hI=>by rw[B28]at hI ⊢;exact hs j d ρ hd hI) λ ρ h=>he ρ (by rwa [B28]at h)
theorem FU(I:Env->Prop)(h0:I ρ)(hs:∀d∈ds,∀ρ,I ρ->Ok (g d ρ) λ ρ1=>Ok (b ρ1) (turn I Q))(he:∀ρ,I ρ->Q (.nx ρ)):Ok (jI g b ds ρ) Q:=
 fJ (λ _=>I) h0 (λ j d ρ hd hI=>hs d (A01 hd) ρ hI) he
theorem Gf(p:D->Bool)(h:D->D)(hs:∀d∈ds,Ok (g d ρ) λ ρ1=>Ok (t ρ1) λ c=>c=p d/\(p d=AT->Ok (e ρ1) λ y=>y=h d))(hq:Q ((ds.filter p).map h)):Ok (b_ g t e ρ ds) Q:=by refine⟨_,kF ds λ d hd=>?_,hq⟩;obtain⟨ρ1,e1,c,e2,hc,k⟩:=hs d hd;exact⟨ρ1,e1,by rw[e2,hc],λ hp=>(k hp).eq⟩
theorem comp_map(h:D->D)(hs:∀d∈ds,Ok (g d ρ) λ ρ1=>Ok (e ρ1) λ y=>y=h d)(hq:Q (ds.map h)):Ok (b_ g fi e ρ ds) Q:=by refine⟨_,pZ ds λ d hd=>?_,hq⟩;obtain⟨ρ1,e1,k⟩:=hs d hd;rw[e1];exact k.eq
theorem dt{α:Type}(enc:α->D)(f:α->Bool)(h:α->D):∀{xs:Y' α}{Q},(∀x∈xs,Ok (g (enc x) ρ) λ ρ1=>Ok (t ρ1) λ c=>c=f x/\(f x=AT->Ok (e ρ1) λ y=>y=h x))->Q ((xs.filter f).map h)->Ok (b_ g t e ρ<|xs.map enc) Q:=by
 intro xs Q hs hq;refine⟨_,?_,hq⟩;clear hq
 induction xs with
 |nil=>rfl
 |cons x xs ih=>
  obtain⟨ρ1,e1,c,e2,hc,k⟩:=hs x Z7;have Tw:=ih λ y hy=>hs y<|Y6 _ hy;cases hf:f x with
  |true=>rw[hf]at hc;have:=(k hf).eq;simp[b_,e1,e2,hc,this,Tw,hf]
  |false=>rw[hf]at hc;simp[b_,e1,e2,hc,Tw,hf]
theorem m8{α:Type}[DecidableEq α]{h:α->D}(k:∀x y,f (h x) (h y)=Y! (decide<|x=y)):∀(xs ys:Y' α),allEq f (xs.map h) (ys.map h)=Y! (decide<|xs=ys)
|[],[]=>rfl
|[],_::_=>rfl
|_::_,[]=>rfl
|x::xs,y::ys=>by simp[allEq,k,m8 k xs ys]
end Z
end
set_option maxRecDepth 4000
noncomputable section
namespace KG
open Z
def oJ:SF:=(aY<|KI (eB GY (eW 0)<|d?<|ae (eC<|.str [46])<|ae (eC<|.str [61]) az)<|eB oEq (eW 0)<|eW 1)
def l9:Y' D->Res D:=fn 2 2 oJ
theorem CQ(x0 x1:D):l9 [x0,x1]=cf (oJ [Y! (.val x0),Y! (.val x1)]):=c9 _ _ _ _ rfl
def lr:SF:=(aN (nO 2<|ft az)<|aN (jx (u_ (eB a! (eW 1)<|eC<|.int 0)<|eB bS (eB a! (eW 1)<|eC<|.int 0)<|eB a! (eW 0)<|eC<|.int 2) (br 3)<|zD 2<|bY (u_ (eB a! (eW 1)<|eC<|.int 1)<|eB bS (eB a! (eW 1)<|eC<|.int 1)<|eB a! (eW 0)<|eC<|.int 1) 1 [3] (br 0) fi<|d?<|ae (eV 1)<|ae (eV 0) az)<|aY<|eU dU<|eW 2)
def g9:Y' D->Res D:=fn 2 4 lr
theorem vm(x0 x1:D):g9 [x0,x1]=cf (lr [Y! (.val x0),Y! (.val x1),AC,AC]):=c9 _ _ _ _ rfl
def e?:SF:=(aN (gO (tE<|eB oLt (eW 1)<|eU b!<|eW 0) (aY<|eB a! (eW 0)<|eW 1) bj)<|aY<|eC<|.int 0)
def cE:Y' D->Res D:=fn 2 2 e?
theorem jL(x0 x1:D):cE [x0,x1]=cf (e? [Y! (.val x0),Y! (.val x1)]):=c9 _ _ _ _ rfl
def eR:SF:=(aN (bq 2<|eB a! (eW 1)<|eC<|.int 0)<|aN (bq 3<|eB a! (eW 1)<|eC<|.int 1)<|aN (gO (r! (tE<|pS oLe oLt (eC<|.int 0) (eW 2)<|eU b!<|eW 0)<|tE<|pS oLe oLt (eC<|.int 0) (eW 3)<|eU b!<|eB a! (eW 0)<|eC<|.int 0) (aY<|eB a! (eB a! (eW 0)<|eW 2)<|eW 3) bj)<|aY<|eC .non)
def iV:Y' D->Res D:=fn 2 4 eR
theorem xy(x0 x1:D):iV [x0,x1]=cf (eR [Y! (.val x0),Y! (.val x1),AC,AC]):=c9 _ _ _ _ rfl
def xQ:SF:=(aN (bq 3<|eL<|bY (iR<|aB g9<|ae (eV 1)<|ae (eV 2) az) 1 [0] (br 0) fi<|aB iV<|ae (eV 1)<|ae (eV 0) az)<|aN (gO (lM<|tE<|eU sP<|eL<|bY (iR<|eW 3) 1 [1] (br 0) fi<|aB l9<|ae (eV 0)<|ae (eB a! (eW 1)<|eC<|.int 3) az) (aY<|eC<|.bl Z!) bj)<|aY<|eB Kc (eB sO (eW 3)<|eC<|.str [61])<|eB a! (eW 1)<|eC<|.int 4)
def l_:Y' D->Res D:=fn 3 4 xQ
theorem FW(x0 x1 x2:D):l_ [x0,x1,x2]=cf (xQ [Y! (.val x0),Y! (.val x1),Y! (.val x2),AC]):=c9 _ _ _ _ rfl
def jT:SF:=(aN (nO 2<|ft az)<|aN (jx (dX<|eU b!<|eW 0) (br 3)<|zD 2<|bY (dX<|eU b!<|eB a! (eW 0)<|eW 3) 1 [0,1,3] (br 0) (tE<|aB l_<|ae (eV 1)<|ae (eV 2)<|ae (d?<|ae (eV 3)<|ae (eV 0) az) az)<|d?<|ae (eV 3)<|ae (eV 0) az)<|aY<|eU dU<|eW 2)
def cH:Y' D->Res D:=fn 2 4 jT
theorem tx(x0 x1:D):cH [x0,x1]=cf (jT [Y! (.val x0),Y! (.val x1),AC,AC]):=c9 _ _ _ _ rfl
def j':SF:=(aN (gO (yc (tE<|eB oLe (eB bS (eB a! (eW 1)<|eC<|.int 0)<|eB a! (eW 0)<|eC<|.int 2)<|eB a! (eW 3)<|eC<|.int 0)<|tE<|eB oLe (eB bS (eB a! (eW 3)<|eC<|.int 0)<|eB a! (eW 2)<|eC<|.int 2)<|eB a! (eW 1)<|eC<|.int 0) (aY<|eC<|.bl AT) bj)<|aN (bq 4<|eB wY (eB a! (eW 0)<|eC<|.int 5)<|eB a! (eW 2)<|eC<|.int 5)<|aY<|KI (eB oLe (eB bS (eB bS (eB a! (eW 1)<|eC<|.int 1)<|eB a! (eW 0)<|eC<|.int 1)<|eW 4)<|eB a! (eW 3)<|eC<|.int 1)<|eB oLe (eB bS (eB bS (eB a! (eW 3)<|eC<|.int 1)<|eB a! (eW 2)<|eC<|.int 1)<|eW 4)<|eB a! (eW 1)<|eC<|.int 1)
def ma:Y' D->Res D:=fn 4 5 j'
theorem CT(x0 x1 x2 x3:D):ma [x0,x1,x2,x3]=cf (j' [Y! (.val x0),Y! (.val x1),Y! (.val x2),Y! (.val x3),AC]):=c9 _ _ _ _ rfl
def eQ:SF:=(aY<|eL<|bY (zY (eV 0)<|eV 1) 2 [] (iT [0,1]) (tE<|eU jC<|eW 1)<|d?<|ae (eV 0)<|ae (eV 1) az)
def bu:Y' D->Res D:=fn 2 2 eQ
theorem me(x0 x1:D):bu [x0,x1]=cf (eQ [Y! (.val x0),Y! (.val x1)]):=c9 _ _ _ _ rfl
def eS:SF:=(aY<|eU sP<|eL<|bY (iR<|eW 2) 2 [0,1] (iT [0,1]) fi<|aB ma<|ae (eV 2)<|ae (eV 3)<|ae (eV 0)<|ae (eV 1) az)
def ck:Y' D->Res D:=fn 3 3 eS
theorem mf(x0 x1 x2:D):ck [x0,x1,x2]=cf (eS [Y! (.val x0),Y! (.val x1),Y! (.val x2)]):=c9 _ _ _ _ rfl
def tU:SF:=(aN (bq 3<|aB bu<|ae (eV 1)<|ae (eV 2) az)<|aN (gO (lM<|tE<|eU sP<|eL<|bY (iR<|eW 3) 2 [0] (iT [0,1]) fi<|aB l_<|ae (eV 2)<|ae (eV 0)<|ae (eV 1) az) (aY<|eC<|.bl Z!) bj)<|aY<|eU sP<|eL<|bY (dX<|eU b!<|eW 3) 1 [3] (br 0) fi<|aB ck<|ae (eB a! (eB a! (eW 1)<|eW 0)<|eC<|.int 0)<|ae (eB a! (eB a! (eW 1)<|eW 0)<|eC<|.int 1)<|ae (eL<|Mm (eW 1) DN<|DO<|eW 0) az)
def gE:Y' D->Res D:=fn 3 4 tU
theorem CS(x0 x1 x2:D):gE [x0,x1,x2]=cf (tU [Y! (.val x0),Y! (.val x1),Y! (.val x2),AC]):=c9 _ _ _ _ rfl
end KG
end
namespace KG
open Z
abbrev Rows:=Y'<|Y' Nat
abbrev Pl:=Int×Int
structure Hall(rows:Rows)(C:Nat):Prop where
 r1:1<=rows.length
 r2:rows.length<=100
 c1:1<=C
 c2:C<=100
 len:∀x∈rows,x.length=C
structure G where
 name:List Nat
 w:Nat
 d:Nat
 kind:List Nat
 wide:Nat
 gap:Nat
 worth:D
 iI:D
structure GOk(g:G):Prop where
 w1:1<=g.w
 w2:g.w<=13
 d1:1<=g.d
 d2:g.d<=4
 kd:g.kind.length<=1
 wd:g.wide<=100
 gp:g.gap<=100
def bg(rows:Rows):D:=.tup<|rows.map .str
def aW(p:Pl):D:=.tup [.int p.1,.int p.2]
def bf(g:G):D:=.tup [.str g.name,.int g.w,.int g.d,.str g.kind,.int g.wide,.int g.gap,g.worth,g.iI]
def jM:Y_ Nat->D
|some c=>.str [c]
|none=>.non
@[simp] theorem Ta(p:Pl):a! (aW p) (.int 0)=.ok (.int p.1):=rfl
@[simp] theorem S_(p:Pl):a! (aW p) (.int 1)=.ok (.int p.2):=rfl
@[simp] theorem Uh(g:G):a! (bf g) (.int 0)=.ok (.str g.name):=rfl
@[simp] theorem Ug(g:G):a! (bf g) (.int 1)=.ok (.int g.w):=rfl
@[simp] theorem Ue(g:G):a! (bf g) (.int 2)=.ok (.int g.d):=rfl
@[simp] theorem Ud(g:G):a! (bf g) (.int 3)=.ok (.str g.kind):=rfl
@[simp] theorem Uc(g:G):a! (bf g) (.int 4)=.ok (.int g.wide):=rfl
@[simp] theorem Ub(g:G):a! (bf g) (.int 5)=.ok (.int g.gap):=rfl
@[simp] theorem Ua(g:G):a! (bf g) (.int 6)=.ok g.worth:=rfl
@[simp] theorem T_(g:G):a! (bf g) (.int 7)=.ok g.iI:=rfl
@[simp] theorem T3(rows:Rows):b! (bg rows)=.ok (.int rows.length):=by simp[bg]
@[simp] theorem SU(a b:Int):D.tup [.int a,.int b]=aW (a,b):=rfl
theorem fL(ρ:Env)(is:Y' Nat):fM ρ is=is.map (p7 ρ):=rfl
def rD:Y_ (Y_ L)->Y_ L
|some<|some<|.val d=>Y!<|.val d
|some<|some<|.bor d=>Y!<|.bor d
|some<|some<|.CU ks=>Y!<|.CU ks
|some<|some<|.own xs=>Y!<|.bor<|.lst xs
|_=>AC
theorem dF(ρ:Env)(i:Nat):p7 ρ i=rD ρ[i]?:=by
 unfold p7 rD;cases ρ[i]? with
 |none=>rfl
 |some o=>cases o with
  |none=>rfl
  |some l=>cases l<;>rfl
@[simp] theorem KP(d:D):rD (Y!<|some<|.bor d)=Y! (.bor d):=rfl
@[simp] theorem KN(ks:Y' _):rD (Y!<|some<|.CU ks)=Y! (.CU ks):=rfl
@[simp] theorem KL(xs:Y' D):rD (Y!<|some<|.own xs)=Y! (.bor<|.lst xs):=rfl
@[simp] theorem KJ(d:D):rD (Y!<|some<|.val d)=Y! (.val d):=rfl
theorem Hall.row(H:Hall rows C)(h:r<rows.length):∃row,rows[r]?=Y! row/\row.length=C/\a! (bg rows) (.int r)=.ok (.str row):=by refine⟨rows[r],M2 h,H.len _<|A90 h,(ja rfl ?_).1⟩;rw[Z3,M2];rfl
theorem Hall.BE(H:Hall rows C):∃row,row.length=C/\a! (bg rows) (.int 0)=.ok (.str row):=by obtain⟨row,_,h1,h2⟩:=H.row H.r1;exact⟨row,h1,h2⟩
def bW(rows:Rows)(p:Pl):Y_ Nat:=if 0<=p.1/\0<=p.2 then(rows[p.1.toNat]?).bind (λ r=>r[p.2.toNat]?)else AC
theorem EE(H:Hall rows C){p:Pl}(h1:0<=p.1)(h2:p.1<rows.length)(h3:0<=p.2)(h4:p.2<C):∃row c,a! (bg rows) (.int p.1)=.ok (.str row)/\row.length=C/\a! (.str row) (.int p.2)=.ok (.str [c])/\bW rows p=Y! c:=by
 obtain⟨row,e1,hl,e2⟩:=H.row (r:=p.1.toNat) (by lia);rw[Int.toNat_of_nonneg h1]at e2;have hc:p.2.toNat<row.length:=by lia
 have TM:=H.c2;refine⟨row,row[p.2.toNat],e2,hl,Cs (by lia) (M2 hc) (by simp only[line];lia),?_⟩;simp[bW,h1,h3,e1]
theorem Bv(H:Hall rows C){p:Pl}(h:¬(0<=p.1/\p.1<rows.length/\0<=p.2/\p.2<C)):bW rows p=AC:=by
 unfold bW;by_cases h0:0<=p.1/\0<=p.2
 .rw[Z1 h0];cases e:rows[p.1.toNat]? with
  |none=>rfl
  |some row=>obtain⟨h1,h2⟩:=Y3.mp e;have:=H.len row<|A01 e;simp only[A98];exact B77 (by lia)
 .rw[v0 h0]
theorem ED(H:Hall rows C)(p:Pl):iV [bg rows,aW p]=.ok (jM<|bW rows p):=by
 rw[xy];refine a9 ?_;obtain⟨BE,Jh,e0⟩:=H.BE;have yL:=H.c2;have z5:C<=line:=by simp only[line];lia
 by_cases h:0<=p.1/\p.1<rows.length/\0<=p.2/\p.2<C
 .obtain⟨row,c,e1,_,e2,e3⟩:=EE H h.1 h.2.1 h.2.2.1 h.2.2.2;simp[eR,e0,Jh,z5,h.1,h.2.1,h.2.2.1,h.2.2.2,e1,e2,e3,jM]
 .rw [Bv H h];by_cases a1:0<=p.1
  .by_cases a2:p.1<rows.length
   .by_cases a3:0<=p.2
    .have a4:¬p.2<C:=λ z=>h ⟨a1,a2,a3,z⟩;simp[eR,e0,Jh,z5,a1,a2,a3,a4,jM]
    .simp[eR,e0,Jh,z5,a1,a2,a3,jM]
   .simp[eR,e0,Jh,z5,a1,a2,jM]
  .simp[eR,e0,Jh,z5,a1,jM]
def hZ(kind:Y' Nat):Y_ Nat->Bool
|some c=>decide<|c=46\/c=61\/kind=[c]
|none=>Z!
theorem Jx(c:Y' Nat):ij (.str c) .non=Y! Z!:=rfl
theorem C3(c:Y' Nat):ij .non (.str c)=Y! Z!:=rfl
theorem C1(a b:Y' Nat):ij (.str a) (.str b)=Y! (a==b):=rfl
theorem VJ(c:Nat):GY (.str [c]) (.tup [.str [46],.str [61]])=.ok (.bl<|decide<|c=46\/c=61):=by
 simp only[GY,iE,C1];by_cases h1:c=46
 .subst h1;rfl
 .by_cases h2:c=61
  .subst h2;rfl
  .have WK:¬46=c:=λ h=>h1 h.symm;have Jp:¬61=c:=λ h=>h2 h.symm;simp[h1,h2,WK,Jp]
theorem Bf(s:Y_ Nat)(k:Y' Nat):l9 [jM s,.str k]=.ok (.bl<|hZ k s):=by
 rw[CQ];refine a9 ?_;cases s with
 |none=>simp[oJ,jM,hZ,line,GY,iE,C3,Jx,oEq]
 |some c=>
  simp[oJ,jM,hZ,line,VJ];by_cases h1:c=46
  .simp[h1]
  .by_cases h2:c=61
   .simp[h2]
   .by_cases h3:k=[c]
    .subst h3;simp[h1,h2]
    .have WI:¬[c]=k:=λ h=>h3 h.symm;simp[h1,h2,h3,WI]
def gw(w:Nat)(r c:Int):Y' Pl:=(Do w).map λ j=>(r,c+(j:Nat))
def iJ(w:Nat)(p:Pl)(n:Nat):Y' Pl:=(Do n).flatMap λ i=>gw w (p.1+(i:Nat)) p.2
def seats(g:G)(p:Pl):Y' Pl:=iJ g.w p g.d
theorem nr(w:Nat)(p:Pl)(n:Nat):iJ w p (n+1)=iJ w p n++gw w (p.1+(n)) p.2:=by simp[iJ,A76]
theorem su(w:Nat)(r c:Int):(gw w r c).length=w:=by simp[gw]
theorem oY(w:Nat)(p:Pl)(n:Nat):(iJ w p n).length=n*w:=by
 induction n with
 |zero=>simp[iJ]
 |succ n ih=>rw[nr,A55,ih,su,B67]
theorem ints_map(lo:Int)(n:Nat):zints lo n=(Do n).map λ i=>D.int (lo+(i:Nat)):=rfl
theorem ints_get(h:(zints lo n)[j]?=Y! d):j<n/\d=.int (lo+(j)):=by
 rw[ints_map,Z3]at h;cases q:(Do n)[j]? with
 |none=>rw[q]at h;cases h
 |some i=>rw[q]at h;obtain⟨h1,h2⟩:=Y3.mp q;rw[A08]at h1;rw[A56]at h2;subst h2;simp at h;exact⟨h1,h.symm⟩
theorem toNat_sub(a:Int)(n:Nat):(a+(n)-a).toNat=n:=by lia
theorem By(k:GOk g)(p:Pl):g9 [bf g,aW p]=.ok (.tup<|(seats g p).map aW):=by
 rw[vm];refine a9 ?_;have hw:=k.w2;have hd:=k.d2;simp[lr,toNat_sub];refine fJ (λ i ρ=>∃x,ρ=[v _,v _,ow ((iJ g.w p i).map aW),x]) ⟨AC,rfl⟩ ?_ ?_
 .rintro j d ρ hj ⟨x,rfl⟩;obtain⟨hj,rfl⟩:=ints_get hj;simp[cY,toNat_sub,fL,dF];refine⟨by lia,comp_map (λ d=>.tup [.int (p.1+(j)),d]) ?_ ?_⟩
  .rintro d hd;obtain⟨i,hi⟩:=A68 hd;obtain⟨_,rfl⟩:=ints_get hi;simp[line]
  .refine⟨?_,?_⟩
   .rw[v4,oY,u9];have:j*g.w<=4*13:=B05 (by lia) hw;lia
   .simp[nr,gw,ints_map]
 .rintro ρ ⟨x,rfl⟩;simp[seats]
def xZ(rows:Rows)(s:Pl):Bool:=bW rows s==Y! 61
def cF(rows:Rows)(g:G)(p:Pl):Bool:=(seats g p).all (λ s=>hZ g.kind<|bW rows s)&&decide (g.wide<=(seats g p).countP (xZ rows))
theorem vJ(rows:Rows):∀(ss:Y' Pl),p0 (.str [61]) (ss.map λ s=>jM<|bW rows s)=Y! (ss.countP<|xZ rows)
|[]=>rfl
|s::ss=>by
 rw[Y7,p0,vJ,B16];cases e:bW rows s with
 |none=>simp[jM,xZ,e,C3]
 |some c=>simp[jM,xZ,e,C1]
theorem all_map{α:Type}(f:α->Bool)(xs:Y' α):allB (xs.map λ x=>D.bl<|f x)=Y! (xs.all f):=by
 have:=y_<|xs.map f;rw[A21]at this;rw[show(xs.map λ x=>D.bl _)=xs.map (D.bl∘f)from rfl,this]
 congr 1
 induction xs with
 |nil=>rfl
 |cons x xs ih=>simp
theorem yO(H:Hall rows C)(k:GOk g)(p:Pl):l_ [bg rows,bf g,aW p]=.ok (.bl<|cF rows g p):=by
 rw[FW];refine a9 ?_;have ς:(seats g p).length<=16777216:=by rw[seats,oY];have:=B05 k.d2 k.w2;lia
 simp[xQ,cY,By k,line,fL,dF,ς];refine comp_map (λ d=>match d with|.tup [.int a,.int b]=>jM<|bW rows (a,b)|_=>.non) ?_ ?_
 .intro d hd;obtain⟨q,_,rfl⟩:=A09.mp hd;simp[ED H];rfl
 .have e1:(List.map aW<|seats g p).map (λ d=>match d with|.tup [.int a,.int b]=>jM<|bW rows (a,b)|_=>.non)=(seats g p).map λ s=>jM (bW rows s):=by rw[A21];rfl
  rw[e1];simp[cY,line,ς,fL,dF];refine comp_map (λ d=>match d with|.str [c]=>.bl<|hZ g.kind<|some c|_=>.bl Z!) ?_ ?_
  .intro d hd;obtain⟨q,_,rfl⟩:=A09.mp hd;simp[Bf];cases bW rows q<;>rfl
  .have e2:((seats g p).map λ s=>jM<|bW rows s).map (λ d=>match d with|.str [c]=>D.bl<|hZ g.kind<|some c|_=>D.bl Z!)=(seats g p).map λ s=>D.bl (hZ g.kind<|bW rows s):=by rw[A21];apply B12;intro s _;show(match jM (bW rows s)with|.str [c]=>D.bl<|hZ g.kind<|some c|_=>D.bl Z!)=_;cases bW rows s<;>rfl
   rw[e2];simp only[sP,all_map,NP];cases ha:(seats g p).all λ s=>hZ g.kind (bW rows s)with
   |false=>simp[cF,ha]
   |true=>simp[cF,ha,sO,vJ]
def i?(r C:Nat):Y' Pl:=(Do C).map λ(c:Nat)=>(((r:Nat):Int),((c:Nat):Int))
def gH(n C:Nat):Y' Pl:=(Do n).flatMap λ r=>i? r C
theorem lz(n C:Nat):gH (n+1) C=gH n C++i? n C:=by simp[gH,A76]
theorem qX(r C:Nat):(i? r C).length=C:=by simp[i?]
theorem rJ(n C:Nat):(gH n C).length=n*C:=by
 induction n with
 |zero=>simp[gH]
 |succ n ih=>rw[lz,A55,ih,qX,B67]
def places(rows:Rows)(C:Nat)(g:G):Y' Pl:=(gH rows.length C).filter<|cF rows g
theorem places_of_ok(H:Hall rows C)(k:GOk g):cH [bg rows,bf g]=.ok (.tup<|(places rows C g).map aW):=by
 rw[tx];refine a9 ?_;have yL:=H.c2;have XW:=H.r2;simp[jT,line];refine fJ (λ i ρ=>i<=rows.length/\∃x,ρ=[v _,v _,ow (((gH i C).filter<|cF rows g).map aW),x]) ⟨A77 _,AC,rfl⟩ ?_ ?_
 .rintro i d ρ hi ⟨_,x,rfl⟩;obtain⟨Wd,rfl⟩:=ints_get hi;obtain⟨row,_,hl,e1⟩:=H.row Wd;have z5:C<=16777216:=by lia
  simp[e1,hl,cY,line,fL,dF,z5];refine Gf (λ d=>match d with|.int c=>cF rows g ((i),c)|_=>Z!) (λ d=>.tup [.int (i),d]) ?_ ?_
  .intro d hd;obtain⟨c,hc⟩:=A68 hd;obtain⟨_,rfl⟩:=ints_get hc;simp[line,yO H k]
  .have e2:((zints 0 C).filter λ d=>match d with|.int c=>cF rows g ((i),c)|_=>Z!).map (λ d=>D.tup [.int (i),d])=((i? i C).filter<|cF rows g).map aW:=by
    rw[ints_map,i?,Yq,Yq,A21,A21]
    congr 1
    .funext c;simp
    .congr 1;funext c;simp
   rw[e2,lz,YK,A91];have h1:=A69 (cF rows g)<|gH i C;have h2:=A69 (cF rows g)<|i? i C;rw[rJ]at h1;rw[qX]at h2;have h3:i*C<=100*100:=B05 (by lia) yL;refine⟨?_,by lia,rfl⟩;rw[v4];lia
 .rintro ρ ⟨_,x,rfl⟩;simp[places]
def bH(g:G)(p:Pl)(h:G)(q:Pl):Bool:=decide<|p.1+g.d<=q.1\/q.1+h.d<=p.1\/p.2+g.w+max (g.gap:Int) (h.gap:Int)<=q.2\/q.2+h.w+max (g.gap:Int) (h.gap:Int)<=p.2
theorem Dt(g:G)(p:Pl)(h:G)(q:Pl):ma [bf g,aW p,bf h,aW q]=.ok (.bl<|bH g p h q):=by
 rw[CT];refine a9 ?_;by_cases h1:p.1+g.d<=q.1
 .simp[j',bH,h1]
 .by_cases h2:q.1+h.d<=p.1
  .simp[j',bH,h2]
  .by_cases h3:p.2+g.w+max (g.gap:Int) h.gap<=q.2
   .simp[j',bH,h1,h2,h3]
   .simp[j',bH,h1,h2,h3]
set_option maxRecDepth 8000
def Bd(ns:Y' Int):Prop:=∀i∈ns,bits i<=2^20
theorem tO(hb:Bd ns)(h:0<=k):∃c,cE [.lst (ns.map .int),.int k]=.ok (.int c)/\bits c<=2^20:=by
 by_cases hk:k<ns.length
 .have hj:k.toNat<ns.length:=by lia
  have e:=(ja (xs:=ns.map D.int) (i:=k) (j:=k.toNat) (d:=.int ns[k.toNat]) (by lia) (by simp)).2;refine⟨ns[k.toNat],?_,hb _<|A90 hj⟩;rw[jL];refine a9 ?_;simp[e?,hk,e]
 .refine⟨0,?_,by decide⟩;rw[jL];refine a9 ?_;simp[e?,hk]
structure UC(rows:Rows)(C:Nat):Prop extends Hall rows C where
 r6:rows.length<=6
 X6:C<=12
 sg:∀x∈rows,∀c∈x,c∈signs
structure GrpG(g:G):Prop extends GOk g where
 Xy:g.w<=12
 d3:g.d<=3
 kl:g.kind=[]\/∃c∈Fh,g.kind=[c]
 Xx:g.wide<=g.w*g.d
 g6:g.gap<=6
 UP:∃(wt:Int)(ws:List Pl),ws.length<=6/\g.worth=.int wt/\g.iI=.tup (ws.map aW)
end KG
noncomputable section
namespace KG
open Z
@[simp] theorem OL(b:Bool):mK .bool (.bl b)=AT:=rfl
@[simp] theorem Mo(xs:Y' D):mK .tuple (.tup xs)=AT:=rfl
@[simp] theorem Q4(p:Pl):mK .tuple (aW p)=AT:=rfl
@[simp] theorem Mp(i:Int):mK .int (.int i)=AT:=rfl
@[simp] theorem Ko(i:Int):mK .bool (.int i)=Z!:=rfl
theorem Ul(n:Nat)(p q:Pl):eP (n+1) (aW p) (aW q)=Y! (decide<|p=q):=by
 show allEq _ [.int p.1,.int p.2] [.int q.1,.int q.2]=_;have e:∀a b,eP n (.int a) (.int b)=Y! (decide<|a=b):=λ a b=>by cases n<;>rfl
 simp only[allEq,e]
 congr 1
 rw[A80];simp[Prod.ext_iff]
theorem Jw(n:Nat)(ps qs:Y' Pl):allEq (eP<|n+1) (ps.map aW) (qs.map aW)=Y! (decide<|ps=qs):=m8 (Ul n) ps qs
theorem R'(n:Nat)(ps qs:Y' Int):allEq (eP n) (ps.map D.int) (qs.map D.int)=Y! (decide<|ps=qs):=m8 (λ a b=>by cases n<;>rfl) ps qs
@[simp] theorem QV(ps qs:Y' Pl):qv (.lst<|ps.map aW) (.lst<|qs.map aW)=.ok (.bl<|!decide (ps=qs)):=by have:ij (.lst _) (.lst _)=Y! _:=Jw 4 ps qs;unfold qv;rw[this]
@[simp] theorem WZ(ps qs:Y' Pl):oEq (.lst<|ps.map aW) (.lst<|qs.map aW)=.ok (.bl<|decide<|ps=qs):=by have:ij (.lst _) (.lst _)=Y! _:=Jw 4 ps qs;unfold oEq;rw[this]
@[simp] theorem WY(ps qs:Y' Pl):oEq (.tup<|ps.map aW) (.tup<|qs.map aW)=.ok (.bl<|decide<|ps=qs):=by have:ij (.tup _) (.tup _)=Y! _:=Jw 4 ps qs;unfold oEq;rw[this]
@[simp] theorem XM(ps qs:Y' Int):qv (.lst<|ps.map D.int) (.lst<|qs.map D.int)=.ok (.bl<|!decide (ps=qs)):=by have:ij (.lst _) (.lst _)=Y! _:=R' 5 ps qs;unfold qv;rw[this]
theorem JW(p:Pl):∀(qs:Y' Pl),iE (aW p) (qs.map aW)=Y! (decide<|p∈qs)
|[]=>rfl
|q::qs=>by
 rw[Y7,iE,JW,show ij _ _=Y! _ from Ul 5 q p];show Y! _=_
 congr 1
 rw[A80];simp only[Yl,B61,Y2];exact⟨λ h=>h.imp Eq.symm id,λ h=>h.imp Eq.symm id⟩
@[simp] theorem VH(p:Pl)(qs:Y' Pl):GY (aW p) (.tup<|qs.map aW)=.ok (.bl<|decide<|p∈qs):=by simp only[GY,JW]
@[simp] theorem OB(p:Pl)(qs:Y' Pl):pe (aW p) (.tup<|qs.map aW)=.ok (.bl<|!decide (p∈qs)):=by simp only[pe,JW]
end KG
end
noncomputable section
namespace KG
open Z
def Cg(p q:Pl):Prop:=p.1<q.1\/p.1=q.1/\p.2<q.2
theorem sv(r C:Nat):(i? r C).Pairwise Cg:=by unfold i?;rw[YX];refine(B86).imp ?_;intro a b h;exact .inr ⟨rfl,by lia⟩
theorem q!(h:p∈i? r C):p.1=r/\0<=p.2/\p.2<C:=by obtain⟨c,hc,rfl⟩:=A09.mp h;rw[A05]at hc;exact⟨rfl,by lia,by lia⟩
theorem q?:p∈gH n C↔0<=p.1/\p.1<n/\0<=p.2/\p.2<C:=by
 constructor
 .intro h;obtain⟨r,hr,h⟩:=A86.mp h;rw[A05]at hr;obtain⟨h1,h2,h3⟩:=q! h;exact⟨by lia,by lia,h2,h3⟩
 .rintro⟨h1,h2,h3,h4⟩;refine A86.mpr ⟨p.1.toNat,A05.mpr (by lia),A09.mpr ⟨p.2.toNat,A05.mpr (by lia),?_⟩⟩;apply Prod.ext
  .lia
  .lia
theorem tY(n C:Nat):(gH n C).Pairwise Cg:=by
 induction n with
 |zero=>simp[gH]
 |succ n ih=>rw[lz,List.pairwise_append];refine⟨ih,sv n C,λ a ha b hb=>?_⟩;have h1:=q?.mp ha;have h2:=q! hb;exact .inl (by lia)
theorem qo(rows:Rows)(C:Nat)(g:G):(places rows C g).Pairwise Cg:=(tY _ _).filter _
theorem take_snoc{α:Type}{xs:Y' α}{x:α}(h:xs[i]?=Y! x):xs.take (i+1)=xs.take i++[x]:=by rw[B17,h];rfl
theorem places_len(H:Hall rows C)(g:G):(places rows C g).length<=10000:=by have h1:=A69 (cF rows g)<|gH rows.length C;rw[rJ]at h1;have:=B05 H.r2 H.c2;unfold places;lia
end KG
end
set_option maxRecDepth 4000
namespace KG
open Z
abbrev GP:=G×Pl
abbrev GO:=G×Y_ Pl
def bE:Y_ Pl->D
|none=>.non
|some p=>aW p
@[simp] theorem Kz(p:Pl):bE (Y! p)=aW p:=rfl
@[simp] theorem KD:bE AC=.non:=rfl
def mh(x:GP):D:=.tup [bf x.1,aW x.2]
def C5(x:GO):D:=.tup [bf x.1,bE x.2]
theorem GC:∀(xs:Y' GO),jn (xs.map λ x=>bf x.1) (xs.map λ x=>bE x.2)=xs.map C5
|[]=>rfl
|x::xs=>by simp[jn,GC xs];rfl
@[simp] theorem QN(o:Y_ Pl):jC (bE o)=.ok (.bl o.isSome):=by cases o<;>rfl
@[simp] theorem Tv(o:Y_ Pl):fH (bE o)=.ok (.bl o.isNone):=by cases o<;>rfl
@[simp] theorem gX(x:GP)(i j:Nat)(ρ:Env):iT [i,j] (mh x) ρ=.ok ((ρ.set i<|v<|bf x.1).set j<|v<|aW x.2):=rfl
@[simp] theorem gY(x:GO)(i j:Nat)(ρ:Env):iT [i,j] (C5 x) ρ=.ok ((ρ.set i<|v<|bf x.1).set j<|v<|bE x.2):=rfl
theorem pR{α:Type}(xs:Y' α):xs.filter (λ _=>AT)=xs:=List.filter_eq_self.mpr λ _ _=>rfl
def kJ:Y' GO->Y' GP
|[]=>[]
|(g,Y! p)::xs=>(g,p)::kJ xs
|(_,AC)::xs=>kJ xs
theorem sh:∀xs,(xs.filter λ x=>x.2.isSome).map C5=(kJ xs).map mh
|[]=>rfl
|(g,Y! p)::xs=>by rw[B87 (by rfl)];simp only[Y7,sh xs];rfl
|(g,AC)::xs=>by rw[B06 (by simp)];simp only[kJ,sh xs]
theorem lO:∀xs,(kJ xs).length<=xs.length
|[]=>Z0 _
|(g,Y! p)::xs=>by have:=lO xs;simp only[kJ,A58];lia
|(g,AC)::xs=>by have:=lO xs;simp only[kJ,A58];lia
theorem fV:∀{xs}{y},y∈kJ xs↔(y.1,Y! y.2)∈xs
|[],y=>by simp[kJ]
|(g,Y! p)::xs,y=>by
 simp only[kJ,Y2,fV,Prod.mk.injEq,A99];constructor
 .rintro(rfl|h)
  .exact .inl ⟨rfl,rfl⟩
  .exact .inr h
 .rintro(⟨h1,h2⟩|h)
  .left;rw[<-h1,<-h2]
  .exact .inr h
|(g,AC)::xs,y=>by simp only[kJ,Y2,fV,Prod.mk.injEq,reduceCtorEq,and_false,false_or]
theorem oQ(h:xs.length<=16777216):bu [.tup (xs.map λ x=>bf x.1),.tup (xs.map λ x=>bE x.2)]=.ok (.lst<|(kJ xs).map mh):=by
 rw[me];refine a9 ?_;simp[eQ,cY,GC,h];refine dt C5 (λ x=>x.2.isSome) C5 ?_ ?_
 .intro x hx;simp;exact λ _=>⟨by decide,rfl⟩
 .rw[sh]
theorem pf{α:Type}(f:α->Bool)(xs:Y' α):sP (.lst<|xs.map λ x=>D.bl<|f x)=.ok (.bl<|xs.all f):=by simp only[sP,all_map]
theorem Du(g:G)(p:Pl){xs:Y' GP}(h:xs.length<=16777216):ck [bf g,aW p,.lst (xs.map mh)]=.ok (.bl<|xs.all λ x=>bH g p x.1 x.2):=by
 rw[mf];refine a9 ?_;simp[eS,cY,fL,dF,h];refine dt mh (λ _=>AT) (λ x=>.bl<|bH g p x.1 x.2) ?_ ?_
 .intro x hx;simp[Dt]
 .rw[pR,pf];simp
theorem vF(xs:Y' α)(h:k<=xs.length):cut xs AC (Y!<|k)=xs.take k:=by
 have:¬(k:Int)<0:=by lia
 simp[cut,cM,this]
def pz(ss:Y' GP)(k:Nat):Bool:=match ss[k]? with
|some x=>(ss.take k).all λ y=>bH x.1 x.2 y.1 y.2
|none=>AT
def mI(rows:Rows)(ss:Y' GP):Bool:=(ss.all λ x=>cF rows x.1 x.2)&&(Do ss.length).all (pz ss)
theorem Cq(H:Hall rows C)(h6:xs.length<=6)(hg:∀x∈xs,GOk x.1):gE [bg rows,.tup (xs.map λ x=>bf x.1),.tup (xs.map λ x=>bE x.2)]=.ok (.bl<|mI rows<|kJ xs):=by
 rw[CS];refine a9 ?_;have Jh:=lO xs;have hl:(kJ xs).length<=16777216:=by lia
 have V!:xs.length<=16777216:=by lia
 have hk:∀x∈kJ xs,GOk x.1:=λ x hx=>hg _<|fV.mp hx;generalize VW:kJ xs=ss at Jh hl hk;simp[tU,cY,line,fL,dF,oQ V!,VW,hl];refine dt mh (λ _=>AT) (λ x=>.bl<|cF rows x.1 x.2) ?_ ?_
 .intro x hx;simp[yO H<|hk x hx]
 .rw [pR,pf];cases e:(ss.all λ x=>cF rows x.1 x.2)with
  |false=>simp[mI,e]
  |true=>
   simp[hl];refine Z.comp_map (λ d=>match d with|.int c=>.bl<|pz ss c.toNat|d=>d) ?_ ?_
   .intro d hd;obtain⟨j,hj⟩:=A68 hd;obtain⟨Ku,rfl⟩:=ints_get hj;obtain⟨x,ex⟩:∃x,ss[j]?=Y! x:=⟨_,M2 Ku⟩
    have i1:=(ja (d:=mh x) rfl (by rw[Z3,ex];rfl)).2;have i2:a! (mh x) (.int 0)=.ok (bf x.1):=rfl;have i3:a! (mh x) (.int 1)=.ok (aW x.2):=rfl;have ct:=vF (ss.map mh) (k:=j) (by rw[v4];lia);have af:=Du x.1 x.2 (xs:=ss.take j) (by rw[A00];lia);rw[List.map_take]at af;rw[Int.zero_add];simp[i1,i2,i3,Ml,ct,af,pz,ex]
   .have:(zints 0 ss.length).map (λ d=>match d with|.int c=>.bl<|pz ss c.toNat|d=>d)=(Do ss.length).map λ j=>D.bl (pz ss j):=by rw[ints_map,A21];refine B12 λ j _=>?_;simp
    rw[this,pf];simp[mI,e]
theorem xg:mI rows ss=AT↔(∀x∈ss,cF rows x.1 x.2=AT)/\ss.Pairwise λ a b=>bH b.1 b.2 a.1 a.2=AT:=by
 unfold mI;rw[A17,A27,A27,B88];refine and_congr_right λ _=>?_;constructor
 .intro h i j hi hj G6;have:=h j<|A05.mpr hj;rw[pz,M2]at this;rw[A27]at this;exact this ss[i]<|List.mem_iff_getElem.mpr ⟨i,by rw[A00];lia,by rw[YW]⟩
 .intro h k hk;rw[A05]at hk;rw[pz,M2];rw[A27];intro y hy;obtain⟨i,hi,rfl⟩:=List.mem_iff_getElem.mp hy;rw[A00]at hi;rw[YW];exact h i k (by lia) hk (by lia)
theorem m7(g:G)(p:Pl)(h:G)(q:Pl):bH g p h q=bH h q g p:=by unfold bH;rw[decide_eq_decide,Int.max_comm];lia
theorem oX:∀{xs},(kJ xs).Pairwise R↔xs.Pairwise λ a b=>∀p q,a.2=Y! p->b.2=Y! q->R (a.1,p) (b.1,q)
|[]=>by simp[kJ]
|(g,Y! p)::xs=>by
 simp only[kJ,B29,oX];refine and_congr_left λ _=>?_;constructor
 .intro h b hb p' q hp hq;cases hp;exact h (b.1,q)<|fV.mpr (by simp only[<-hq];exact hb)
 .intro h y hy;exact h _ (fV.mp hy) p y.2 rfl rfl
|(g,AC)::xs=>by simp only[kJ,B29,oX];exact⟨λ h=>⟨λ b hb p q hp=>(by cases hp),h⟩,λ h=>h.2⟩
end KG
set_option maxRecDepth 4000
noncomputable section
namespace KH
open Z KG
def i5:SF:=(aY<|eB bS (eB bS (F4 (eW 0) DN<|DO<|eW 1)<|d?<|ae (eV 2) az)<|F4 (eW 0) (DO<|eB bS (eW 1)<|eC<|.int 1) DN)
def cx:Y' D->Res D:=fn 3 3 i5
theorem qD(x0 x1 x2:D):cx [x0,x1,x2]=cf (i5 [Y! (.val x0),Y! (.val x1),Y! (.val x2)]):=c9 _ _ _ _ rfl
def i6:SF:=(aY<|eU dU<|eL<|bY (iR<|eW 0) 1 [1,2] (br 0) (tE<|aB KG.ck<|ae (eV 1)<|ae (eV 0)<|ae (eV 2) az)<|eV 0)
def cR:Y' D->Res D:=fn 3 3 i6
theorem qE(x0 x1 x2:D):cR [x0,x1,x2]=cf (i6 [Y! (.val x0),Y! (.val x1),Y! (.val x2)]):=c9 _ _ _ _ rfl
def dO:SF:=(aN (gO (yc (tE<|eB oLe (eB bS (eB a! (eW 1)<|eC<|.int 0)<|eB a! (eW 0)<|eC<|.int 2)<|eB a! (eW 3)<|eC<|.int 0)<|tE<|eB oLe (eB bS (eB a! (eW 3)<|eC<|.int 0)<|eB a! (eW 2)<|eC<|.int 2)<|eB a! (eW 1)<|eC<|.int 0) (aY<|eC<|.bl AT) bj)<|aN (bq 4<|eB wY (eB a! (eW 0)<|eC<|.int 5)<|eB a! (eW 2)<|eC<|.int 5)<|aY<|KI (eB oLe (eB bS (eB bS (eB a! (eW 1)<|eC<|.int 1)<|eB a! (eW 0)<|eC<|.int 1)<|eW 4)<|eB a! (eW 3)<|eC<|.int 1)<|eB oLe (eB bS (eB bS (eB a! (eW 3)<|eC<|.int 1)<|eB a! (eW 2)<|eC<|.int 1)<|eW 4)<|eB a! (eW 1)<|eC<|.int 1)
def d!:Y' D->Res D:=fn 4 5 dO
theorem tF(x0 x1 x2 x3:D):d! [x0,x1,x2,x3]=cf (dO [Y! (.val x0),Y! (.val x1),Y! (.val x2),Y! (.val x3),AC]):=c9 _ _ _ _ rfl
def lu:SF:=(aY<|eB bS (eB bS (F4 (eW 0) DN<|DO<|eW 1)<|d?<|ae (eV 2) az)<|F4 (eW 0) (DO<|eB bS (eW 1)<|eC<|.int 1) DN)
def jK:Y' D->Res D:=fn 3 3 lu
theorem vn(x0 x1 x2:D):jK [x0,x1,x2]=cf (lu [Y! (.val x0),Y! (.val x1),Y! (.val x2)]):=c9 _ _ _ _ rfl
end KH
end
set_option maxRecDepth 8000
namespace KH
open Z KG
theorem nS(g:G)(p:Pl)(h:G)(q:Pl):d! [bf g,aW p,bf h,aW q]=.ok (.bl<|bH g p h q):=by
 rw[tF];refine a9 ?_;by_cases h1:p.1+g.d<=q.1
 .simp[dO,bH,h1]
 .by_cases h2:q.1+h.d<=p.1
  .simp[dO,bH,h2]
  .by_cases h3:p.2+g.w+max (g.gap:Int) h.gap<=q.2
   .simp[dO,bH,h1,h2,h3]
   .simp[dO,bH,h1,h2,h3]
def Qx(xs:Y' GO)(g:G)(k:Nat)(p:Pl)(j:Nat):Bool:=decide (j=k)||match xs[j]? with
|some (h,Y! q)=>bH g p h q
|_=>AT
def openAt(xs:Y' GO)(g:G)(k:Nat)(p:Pl):Bool:=(Do xs.length).all<|Qx xs g k p
def lR(rows:Rows)(C:Nat)(xs:Y' GO)(g:G)(k:Nat):Y' Pl:=(places rows C g).filter<|openAt xs g k
def aL(xs:Y' GO):D:=.tup<|xs.map λ x=>bf x.1
def aG(xs:Y' GO):D:=.tup<|xs.map λ x=>bE x.2
theorem yi{k:Nat}(h:k<ds.length)(d:D):cut ds AC (Y!<|k)++(d::cut ds (Y!<|(k)+1) AC)=ds.set k d:=by
 have e1:cut ds AC _=ds.take k:=vF ds (by lia);have e2:cut ds (Y!<|(k)+1) AC=ds.drop (k+1):=by
  have:¬(k:Int)+1<0:=by lia
  have h3:((k:Int)+1).toNat=k+1:=by lia
  have h4:min (k+1) ds.length=k+1:=by lia
  simp[cut,cM,this,h4];rw[B58 (by simp)]
 rw[e1,e2,List.set_eq_take_append_cons_drop,Z1 h]
theorem Eg(h:k<ds.length)(hl:ds.length<=1000)(d:D):jK [.tup ds,.int (k:Nat),d]=.ok (.tup<|ds.set k d):=by
 rw[vn];refine a9 ?_;have c1:=ml ds AC<|some<|k;have c2:=ml ds (Y!<|(k)+1) AC;have g1:(cut ds AC<|some<|k).length+1<=16777216:=by lia
 have g2:(cut ds AC<|some<|k).length+1+(cut ds (Y!<|(k)+1) AC).length<=16777216:=by lia
 simp[lu,line,g1,g2,yi h]
theorem qg(h:k<ds.length)(hl:ds.length<=1000)(d:D):cx [.tup ds,.int (k:Nat),d]=.ok (.tup<|ds.set k d):=by
 rw[qD];refine a9 ?_;have c1:=ml ds AC<|some<|k;have c2:=ml ds (Y!<|(k)+1) AC;have g1:(cut ds AC<|some<|k).length+1<=16777216:=by lia
 have g2:(cut ds AC<|some<|k).length+1+(cut ds (Y!<|(k)+1) AC).length<=16777216:=by lia
 simp[i5,line,g1,g2,yi h]
theorem Ad(xs:Y' GO)(k:Nat)(g:G)(o:Y_ Pl):aG (xs.set k (g,o))=.tup ((xs.map λ x=>bE x.2).set k<|bE o):=by simp[aG]
def Good(rows:Rows)(xs:Y' GO):Prop:=∀(i:Nat)(g:G)(p:Pl),xs[i]?=Y! (g,Y! p)->cF rows g p=AT/\∀(j:Nat)(h:G)(q:Pl),xs[j]?=Y! (h,Y! q)->j≠i->bH g p h q=AT
theorem eI:openAt xs g k p=AT↔∀(j:Nat) h q,xs[j]?=Y! (h,Y! q)->j≠k->bH g p h q=AT:=by
 unfold openAt;rw[A27];constructor
 .intro h j hh q e hj;have hl:=(Y3.mp e).1;have:=h j<|A05.mpr hl;simpa[Qx,e,hj]using this
 .intro h j hj;unfold Qx;by_cases hk:j=k
  .simp[hk]
  .cases e:xs[j]? with
   |none=>simp
   |some y=>
    obtain⟨hh,o⟩:=y;cases o with
    |none=>simp
    |some q=>simp[h j hh q e hk]
theorem Good.put(h:Good rows xs)(hk:xs[k]?=Y! x)(hf:cF rows x.1 p=AT)(ho:openAt xs x.1 k p=AT):Good rows (xs.set k (x.1,Y! p)):=by
 rw[eI]at ho;have hl:=(Y3.mp hk).1;intro i g q e;rw[A23]at e;by_cases hi:k=i
 .subst hi;rw[Z1 rfl,Z1 hl]at e;cases e;refine⟨hf,λ j hh r ej hj=>?_⟩;rw[A23,v0 λ z=>hj z.symm]at ej;exact ho j hh r ej hj
 .rw[v0 hi]at e;obtain⟨h1,h2⟩:=h i g q e;refine⟨h1,λ j hh r ej hj=>?_⟩;rw[A23]at ej;by_cases Ku:k=j
  .subst Ku;rw[Z1 rfl,Z1 hl]at ej;cases ej;rw[m7];exact ho i g q e λ z=>hi z.symm
  .rw[v0 Ku]at ej;exact h2 j hh r ej hj
theorem Good.keeps(h:Good rows xs):mI rows (kJ xs)=AT:=by
 rw[xg];constructor
 .intro y hy;obtain⟨i,hi⟩:=A68 (fV.mp hy);exact(h i y.1 y.2 hi).1
 .rw[oX,B88];intro i j hi hj G6 p q ep eq;have e1:xs[i]?=Y! (xs[i].1,Y! p):=by rw[M2,<-ep]
  have e2:xs[j]?=Y! (xs[j].1,Y! q):=by rw[M2,<-eq]
  exact(h j _ q e2).2 i _ p e1 (by lia)
theorem qp(ps:Y' Pl)(g:G){ss:Y' GP}(hp:ps.length<=10000)(hs:ss.length<=6):cR [.tup (ps.map aW),bf g,.lst (ss.map mh)]=.ok (.tup<|(ps.filter λ p=>ss.all λ x=>bH g p x.1 x.2).map aW):=by
 rw[qE];refine a9 ?_;have V3:ps.length<=16777216:=by lia
 simp[i6,cY,fL,dF,V3];refine dt aW (λ p=>ss.all λ x=>bH g p x.1 x.2) aW ?_ ?_
 .intro p hp;simp[Du g p (xs:=ss) (by lia)]
 .rfl
theorem Bt(hk:xs[k]?=Y! x)(p:Pl):((kJ<|xs.set k (x.1,AC)).all λ y=>bH g p y.1 y.2)=openAt xs g k p:=by
 rw[A80,eI,A27];have hl:=(Y3.mp hk).1;constructor
 .intro h j hh q e hj;have hm:(hh,Y! q)∈xs.set k (x.1,AC):=by refine A01 (i:=j) ?_;rw[A23,v0 λ z=>hj z.symm];exact e
  exact h (hh,q)<|fV.mpr hm
 .intro h y hy;obtain⟨j,e⟩:=A68 (fV.mp hy);rw[A23]at e;by_cases hj:k=j
  .rw[Z1 hj]at e;subst hj;rw[Z1 hl]at e;exact nomatch Y8 Prod.snd (Y4 e)
  .rw[v0 hj]at e;exact h j y.1 y.2 e λ z=>hj z.symm
theorem qw(h:p∈places rows C g):cF rows g p=AT:=(A30.mp h).2
structure Xp(g:G):Prop extends GrpG g where
 pos:∃(wt:Int)(ws:List Pl),ws.length<=6/\0<=wt/\(∀p∈ws,0<=p.2)/\g.worth=.int wt/\g.iI=.tup (ws.map aW)
end KH
set_option maxRecDepth 4000
noncomputable section
namespace KB
open Z KG KH
def lq:SF:=(aY<|eB bS (eB a! (eW 0)<|eC<|.int 6)<|eU B2<|eL<|bY (iR<|eB a! (eW 0)<|eC<|.int 7) 1 [1] (br 0) (tE<|eB oEq (eB a! (eW 0)<|eC<|.int 0)<|eW 1)<|eB a! (eW 0)<|eC<|.int 1)
def fv:Y' D->Res D:=fn 2 2 lq
theorem vk(x0 x1:D):fv [x0,x1]=cf (lq [Y! (.val x0),Y! (.val x1)]):=c9 _ _ _ _ rfl
def ll:SF:=(aY<|eU B2<|eL<|bY (iR<|aB KG.bu<|ae (eV 0)<|ae (eV 1) az) 2 [] (iT [0,1]) fi<|aB fv<|ae (eV 0)<|ae (eB a! (eW 1)<|eC<|.int 0) az)
def bT:Y' D->Res D:=fn 2 2 ll
theorem vj(x0 x1:D):bT [x0,x1]=cf (ll [Y! (.val x0),Y! (.val x1)]):=c9 _ _ _ _ rfl
def gF:SF:=(aN (bq 3<|Nq (tE<|eU fH<|eW 2) (eB uQ (d?<|ae (eC .non) az)<|eU b!<|eW 1)<|eV 2)<|aN (gO (lM<|tE<|aB KG.gE<|ae (eV 0)<|ae (eV 1)<|ae (eV 3) az) sr bj)<|aY<|eV 3)
def aQ:Y' D->Res D:=fn 3 4 gF
theorem nZ(x0 x1 x2:D):aQ [x0,x1,x2]=cf (gF [Y! (.val x0),Y! (.val x1),Y! (.val x2),AC]):=c9 _ _ _ _ rfl
def xN:SF:=(aN (bq 3<|eC<|.int 1)<|aN (jx (zY (eV 1)<|aB aQ<|ae (eV 0)<|ae (eV 1)<|ae (eV 2) az) (iT [4,5])<|gO (tE<|eU fH<|eW 5) (bq 3<|eB nR (eV 3)<|eB bS (eU b!<|aB KG.cH<|ae (eV 0)<|ae (eV 4) az)<|eC<|.int 1) bj)<|aY<|eV 3)
def j6:Y' D->Res D:=fn 3 6 xN
theorem FV(x0 x1 x2:D):j6 [x0,x1,x2]=cf (xN [Y! (.val x0),Y! (.val x1),Y! (.val x2),AC,AC,AC]):=c9 _ _ _ _ rfl
def ib:SF:=(aN (bq 3<|aB j6<|ae (eV 0)<|ae (eV 1)<|ae (eV 2) az)<|aN (gO (tE<|eB E? (eW 3)<|eC<|.int 2000) sr bj)<|aY<|aB aQ<|ae (eV 0)<|ae (eV 1)<|ae (eV 2) az)
def bw:Y' D->Res D:=fn 3 4 ib
theorem pN(x0 x1 x2:D):bw [x0,x1,x2]=cf (ib [Y! (.val x0),Y! (.val x1),Y! (.val x2),AC]):=c9 _ _ _ _ rfl
def fO:SF:=(aN (bq 5<|aB KG.cH<|ae (eV 0)<|ae (eB a! (eW 1)<|eW 3) az)<|aN (nO 6<|ft az)<|aN (jx (iR<|eV 2) (br 7)<|aN (bq 8<|aB KG.bu<|ae (eV 1)<|ae (eV 7) az)<|aN (zD 6<|bY (iR<|aB KH.cR<|ae (eV 5)<|ae (eB a! (eW 1)<|eW 3)<|ae (eV 8) az) 1 [7,3] (br 0) fi<|aB KH.cx<|ae (eV 1)<|ae (eV 2)<|ae (eV 0) az)<|gO (tE<|eV 4) (dR 6<|eV 7) bj)<|BB 6<|aY<|eV 6)
def c8:Y' D->Res D:=fn 5 9 fO
theorem mW(x0 x1 x2 x3 x4:D):c8 [x0,x1,x2,x3,x4]=cf (fO [Y! (.val x0),Y! (.val x1),Y! (.val x2),Y! (.val x3),Y! (.val x4),AC,AC,AC,AC]):=c9 _ _ _ _ rfl
def fP:SF:=(aN (bq 4<|eL<|ft<|ae (eV 2) az)<|aN (jx (dX<|eU b!<|eW 1) (br 5)<|gO (tE<|eU fH<|eB a! (eW 2)<|eW 5) (bq 4<|aB c8<|ae (eV 0)<|ae (eV 1)<|ae (eV 4)<|ae (eV 5)<|ae (eV 3) az) bj)<|aY<|eV 4)
def bF:Y' D->Res D:=fn 4 6 fP
theorem mX(x0 x1 x2 x3:D):bF [x0,x1,x2,x3]=cf (fP [Y! (.val x0),Y! (.val x1),Y! (.val x2),Y! (.val x3),AC,AC]):=c9 _ _ _ _ rfl
def eA:SF:=(aY<|vv AT (.ok .non) (eW 1) [0]<|aB bT<|ae (eV 1)<|ae (eV 0) az)
def cS:Y' D->Res D:=fn 2 2 eA
theorem kD(x0 x1:D):cS [x0,x1]=cf (eA [Y! (.val x0),Y! (.val x1)]):=c9 _ _ _ _ rfl
def gG:SF:=(aN (bq 3<|aB bw<|ae (eV 0)<|ae (eV 1)<|ae (eV 2) az)<|aY<|aB cS<|ae (eV 1)<|ae (aB bF<|ae (eV 0)<|ae (eV 1)<|ae (eV 3)<|ae (eC<|.bl AT) az) az)
def bQ:Y' D->Res D:=fn 3 4 gG
theorem n0(x0 x1 x2:D):bQ [x0,x1,x2]=cf (gG [Y! (.val x0),Y! (.val x1),Y! (.val x2),AC]):=c9 _ _ _ _ rfl
def e_:SF:=(aN (bq 3<|aB bw<|ae (eV 0)<|ae (eV 1)<|ae (eV 2) az)<|aY<|aB cS<|ae (eV 1)<|ae (aB bF<|ae (eV 0)<|ae (eV 1)<|ae (eV 3)<|ae (eC<|.bl Z!) az) az)
def bZ:Y' D->Res D:=fn 3 4 e_
theorem pQ(x0 x1 x2:D):bZ [x0,x1,x2]=cf (e_ [Y! (.val x0),Y! (.val x1),Y! (.val x2),AC]):=c9 _ _ _ _ rfl
def tV:SF:=(aY<|aB bT<|ae (eV 1)<|ae (aB bQ<|ae (eV 0)<|ae (eV 1)<|ae (eV 2) az) az)
def di:Y' D->Res D:=fn 3 3 tV
end KB
end
set_option maxRecDepth 8000
namespace KB
open Z KG
open KH
theorem Cr(H:Hall rows C)(h6:xs.length<=6)(hg:∀x∈xs,GOk x.1)(hk:Good rows xs):KG.gE [bg rows,aL xs,aG xs]=.ok (.bl AT):=by have:=Cq H h6 hg;rw[hk.keeps]at this;exact this
theorem mY(H:Hall rows C)(h6:xs.length<=6)(hg:∀x∈xs,GOk x.1)(hk:Good rows xs):aQ [bg rows,aL xs,aG xs]=.ok (aG xs):=by rw[nZ];refine a9 ?_;have hN:fH (aG xs)=.ok _:=rfl;simp[gF,hN,Cr H h6 hg hk]
def PB:D->Int
|.int w=>w
|_=>0
def Qv:D->Pl
|.tup [.int a,.int b]=>(a,b)
|_=>(0,0)
def PC:D->Y' Pl
|.tup ds=>ds.map Qv
|_=>[]
def more(ws:Y' Pl)(row:Int):Int:=((ws.filter λ p=>decide<|p.1=row).map (·.2)).sum
def x!(g:G)(row:Int):Int:=PB g.worth+more (PC g.iI) row
def wO(x:GO):Int:=match x.2 with
|none=>0
|some p=>x! x.1 p.1
theorem xY(ws:Y' Pl):PC (.tup<|ws.map aW)=ws:=by show(ws.map aW).map Qv=ws;rw[A21];have:(Qv∘aW)=id:=funext λ p=>rfl;rw[this,List.map_id]
theorem GW(ns:Y' Int):B2 (.lst<|ns.map D.int)=.ok (.int ns.sum):=by show(match uw _ with|some i=>Res.ok _|none=>.bad)=_;rw[qS]
theorem ue(h:GrpG g)(row:Int):fv [bf g,.int row]=.ok (.int<|x! g row):=by
 obtain⟨wt,ws,hl,e1,e2⟩:=h.UP;rw[vk];refine a9 ?_;have TM:ws.length<=16777216:=by lia
 have e3:x! g row=wt+more ws row:=by unfold x!;rw[e1,e2,xY];rfl
 rw[e3];simp[lq,cY,fL,dF,e1,e2,TM];refine dt aW (λ p=>decide<|p.1=row) (λ p=>.int p.2) (λ p _=>?_) ?_
 .simp;rfl
 .rw[show(ws.filter λ p=>decide _).map (λ p=>D.int p.2)=((ws.filter λ p=>decide _).map _).map D.int from by rw[A21];rfl,GW];simp[more]
theorem r?:∀xs,((kJ xs).map λ y=>x! y.1 y.2.1).sum=(xs.map wO).sum
|[]=>rfl
|(g,AC)::xs=>by simp[kJ,wO,r? xs]
|(g,Y! p)::xs=>by simp[kJ,wO,r? xs]
theorem ud{xs:Y' GO}(h:xs.length<=6)(hg:∀x∈xs,GrpG x.1):bT [.tup (xs.map λ x=>bf x.1),.tup (xs.map λ x=>bE x.2)]=.ok (.int (xs.map wO).sum):=by
 rw[vj];refine a9 ?_;have et:=oQ (xs:=xs) (by lia);have VX:=lO xs;have Rc:(kJ xs).length<=16777216:=by lia
 simp[ll,et,cY,Rc];refine dt mh (λ _=>AT) (λ y=>.int<|x! y.1 y.2.1) (λ y hy=>?_) ?_
 .have:=ue (hg _<|fV.mp hy) y.2.1;have gX:∀ρ,iT [0,1] (mh y) ρ=.ok _:=λ ρ=>rfl;simp[this]
 .rw[pR,show(kJ xs).map (λ y=>D.int _)=((kJ xs).map λ y=>x! y.1 y.2.1).map D.int from by rw[A21];rfl,GW,r?];simp
def gt(g:G):Int:=PB g.worth+((PC g.iI).map (·.2)).sum
theorem A6{xs:Y' GO}(h6:xs.length<=6){k:Nat}(hk:xs[k]?=Y! (g,o))(p:Pl):KH.cx [aG xs,.int (k),aW p]=.ok (aG<|xs.set k (g,Y! p))/\KH.jK [aG xs,.int (k),aW p]=.ok (aG<|xs.set k (g,Y! p)):=by have hl:=(Y3.mp hk).1;have h1:=qg (ds:=xs.map λ x=>bE x.2) (k:=k) (by simp;lia) (by simp;lia)<|aW p;have h2:=Eg (ds:=xs.map λ x=>bE x.2) (k:=k) (by simp;lia) (by simp;lia)<|aW p;rw[Ad];exact⟨h1,h2⟩
theorem Bu{C:Nat}(hr:∀x∈rows,x.length=C)(h:bW rows s=Y! c):0<=s.1/\s.1<rows.length/\0<=s.2/\s.2<C:=by
 unfold bW at h;split at h
 .rename_i z;cases e:rows[s.1.toNat]? with
  |none=>rw[e]at h;cases h
  |some r=>rw[e]at h;have h:=h;have h1:=(Y3.mp h).1;have h2:=(Y3.mp e).1;have hl:=hr r<|A01 e;lia
 .cases h
theorem Ll(k:GOk g)(p:Pl):p∈seats g p:=by have hw:=k.w1;have hd:=k.d1;unfold seats iJ gw;simp only[A86,A05,A09];exact⟨0,by lia,0,by lia,by simp⟩
theorem CO(H:Hall rows C)(k:GOk g)(h:cF rows g p=AT):p∈places rows C g:=by
 refine A30.mpr ⟨q?.mpr ?_,h⟩;unfold cF at h;rw[A17,A27]at h;have:=h.1 p<|Ll k p;cases e:bW rows p with
 |none=>rw[e]at this;cases this
 |some c=>exact Bu H.len e
structure Ext(cs hs:List GO):Prop where
 gs:cs.map (·.1)=hs.map (·.1)
 sub:∀(i:Nat)(g:G)(p:Pl),cs[i]?=Y! (g,Y! p)->hs[i]?=Y! (g,Y! p)
theorem Ext.len(e:Ext cs hs):cs.length=hs.length:=by have:=Y8 List.length e.gs;rwa [v4,v4]at this
theorem Ext.at(e:Ext cs hs){k:Nat}(h:cs[k]?=Y! (g,o)):∃o',hs[k]?=Y! (g,o')/\(∀p,o=Y! p->o'=Y! p):=by
 have hl:=(Y3.mp h).1;rw[e.len]at hl;obtain⟨⟨g',o'⟩,e'⟩:∃x,hs[k]?=Y! x:=⟨_,M2 hl⟩
 have z:=Y8 (λ l=>l[k]?) e.gs;simp only[Z3,h,e',A47,A99]at z;subst z;refine⟨o',e',λ p hp=>?_⟩;subst hp;have:=e.sub k g p h;rw[e']at this;exact(Prod.mk.inj<|Y4 this).2
theorem zip_map{α:Type}(f h:α->D):∀xs:Y' α,jn (xs.map f) (xs.map h)=xs.map λ x=>.tup [f x,h x]
|[]=>rfl
|x::xs=>by simp[jn,zip_map f h xs];rfl
open KH
def dS:Y' Nat->Nat
|[]=>1
|n::r=>n*dS r
theorem iK:∀a b,dS (a++b)=dS a*dS b
|[],b=>by simp[dS]
|n::a,b=>by simp[dS,iK a b,Nat.mul_assoc]
theorem qY:∀{l},(∀n∈l,0<n)->0<dS l
|[],_=>Nat.one_pos
|n::l,h=>Nat.mul_pos (h n Z7)<|qY λ m hm=>h m<|Y6 _ hm
def hX(rows:Rows)(C:Nat)(x:GO):Nat:=match x.2 with
|none=>(places rows C x.1).length+1
|some _=>1
theorem A9(rows:Rows)(C:Nat)(x:GO):0<hX rows C x:=by unfold hX;split<;>lia
def cG(rows:Rows)(C:Nat)(xs:Y' GO):Nat:=dS<|xs.map<|hX rows C
theorem A7(xs:Y' GO):0<dS (xs.map<|hX rows C):=qY λ n hn=>by obtain⟨x,_,rfl⟩:=A09.mp hn;exact A9 rows C x
theorem zt(xs:Y' GO)(j:Nat):dS ((xs.take j).map<|hX rows C)<=cG rows C xs:=by
 unfold cG;have e:xs.map (hX rows C)=(xs.take j).map (hX rows C)++(xs.drop j).map (hX rows C):=by rw[<-A91,List.take_append_drop]
 rw[e,iK];exact Nat.le_mul_of_pos_right _<|A7 _
theorem jY{xs:Y' GO}(h:xs[j]?=Y! x):dS ((xs.take<|j+1).map<|hX rows C)=dS ((xs.take j).map<|hX rows C)*hX rows C x:=by rw[take_snoc h,A91,iK];simp[dS]
theorem rR(H:Hall rows C)(h6:xs.length<=6)(hg:∀x∈xs,GOk x.1)(ef:aQ [bg rows,aL xs,fd]=.ok (aG xs)):j6 [bg rows,aL xs,fd]=.ok (.int<|cG rows C xs):=by
 rw[FV];refine a9 ?_;simp[xN,ef];unfold aL aG at *;simp[zip_map];refine fJ (λ i ρ=>∃x4 x5,ρ=[v _,v _,v fd,vi (dS<|(xs.take i).map<|hX rows C),x4,x5]) ⟨AC,AC,rfl⟩ ?_ ?_
 .rintro j d ρ hj ⟨x4,x5,rfl⟩;rw[Z3]at hj;obtain⟨⟨g,o⟩,hx,rfl⟩:=A19.mp hj;have gX:∀ρ,iT [4,5] (.tup [bf g,bE o]) ρ=.ok _:=λ ρ=>rfl;rw[jY hx];generalize dS _=m;cases o with
  |some p=>have en:fH (aW p)=.ok _:=rfl;simp[gX,bE,en,hX]
  |none=>have pl:=places_of_ok H<|hg _<|A01 hx;have da:=places_len H g;rw[show hX rows C (g,AC)=(places rows C g).length+1 from rfl];generalize places rows C g=ps at pl da ⊢;have q1:j4 (m) ((ps.length)+1):=Tl<|Or.inl ⟨by lia,by lia⟩;simp[gX,bE,pl,q1]
 .rintro ρ ⟨x4,x5,rfl⟩;rw[v4,A81];simp[cG]
theorem oV(H:Hall rows C)(h6:xs.length<=6)(hg:∀x∈xs,GOk x.1)(ef:aQ [bg rows,aL xs,fd]=.ok (aG xs))(hw:cG rows C xs<=2000):bw [bg rows,aL xs,fd]=.ok (aG xs):=by
 have ew:=rR H h6 hg ef;rw[pN];refine a9 ?_;have:¬(2000:Int)<(cG rows C xs):=by lia
 simp[ib,ew,ef,this]
def iq(rows:Rows)(C:Nat)(sm:Bool)(g:G)(k:Nat)(cs:Y' GO):Y' (Y' GO):=(lR rows C cs g k).map (λ p=>cs.set k (g,Y! p))++if sm then[cs]else[]
theorem uB:(iq rows C sm g k cs).length<=(places rows C g).length+1:=by have:=A69 (openAt cs g k)<|places rows C g;unfold iq lR;cases sm<;>simp<;>lia
theorem pL{α β:Type}{f:α->Y' β}:∀{L:Y' α},(∀x∈L,(f x).length<=m)->(L.flatMap f).length<=L.length*m
|[],_=>by simp
|x::L,h=>by have:=pL λ y hy=>h y<|Y6 _ hy;have hx:=h x Z7;rw[YV,A55,A58,Nat.add_mul,Nat.one_mul];lia
theorem xv(h:cs.map (·.1)=xs.map (·.1)):aL cs=aL xs:=by have:=Y8 (List.map bf) h;rw[A21,A21]at this;exact Y8 D.tup this
theorem zG(H:Hall rows C){cs:Y' GO}(h6:cs.length<=6){k:Nat}(hk:cs[k]?=Y! (g,AC)):KH.cR [.tup ((places rows C g).map aW),bf g,.lst ((kJ cs).map mh)]=.ok (.tup<|(lR rows C cs g k).map aW):=by
 have hl:=(Y3.mp hk).1;have VX:=lO cs;have ho:=qp _ g (ss:=kJ cs) (places_len H g) (by lia);have Rf:cs.set k (g,AC)=cs:=by have:=(Y3.mp hk).2;rw[<-this];exact List.set_getElem_self hl
 have he:(places rows C g).filter (λ p=>(kJ cs).all λ x=>bH g p x.1 x.2)=lR rows C cs g k:=by refine List.filter_congr λ p _=>?_;have:=Bt (g:=g) hk p;simp only at this;rw[Rf]at this;exact this
 rw[he]at ho;exact ho
theorem uJ(H:Hall rows C){xs:Y' GO}(h6:xs.length<=6)(hg:∀x∈xs,GOk x.1){k:Nat}{g:G}(hk:xs[k]?=Y! (g,AC))(sm:Bool){L:Y' (Y' GO)}(hL:∀cs∈L,cs.map (·.1)=xs.map (·.1)/\cs[k]?=Y! (g,AC))(hB:L.length*((places rows C g).length+1)<=1000000):
 c8 [bg rows,aL xs,.lst (L.map aG),.int (k:Nat),.bl sm]=.ok (.lst<|(L.flatMap<|iq rows C sm g k).map aG):=by
 rw[mW];refine a9 ?_;have Tt:a! (aL xs) (.int (k:Nat))=.ok (bf g):=(ja (xs:=xs.map λ y:GO=>bf y.1) (i:=k) (j:=k) rfl (by rw[Z3,hk];rfl)).1;have pl:=places_of_ok H<|hg _<|A01 hk;simp[fO,Tt,pl,line];refine fJ (λ i ρ=>∃x7 x8,ρ=[v (bg rows),v (aL xs),v (.lst<|L.map aG),vi (k:Nat),v (.bl sm),v (.tup<|(places rows C g).map aW),ow (((L.take i).flatMap<|iq rows C sm g k).map aG),x7,x8]) ⟨AC,AC,by simp⟩ ?_ ?_
 .rintro i d ρ hi ⟨x7,x8,rfl⟩;rw[Z3]at hi;obtain⟨cs,v!,rfl⟩:=A19.mp hi;obtain⟨e1,e2⟩:=hL cs (A01 v!);have h!:cs.length<=6:=by have:=Y8 List.length e1;rw[v4,v4]at this;lia
  have ht:=oQ (xs:=cs) (by lia);rw[show D.tup (cs.map λ x=>bf x.1)=aL cs from rfl,show D.tup (cs.map λ x=>bE x.2)=aG cs from rfl,xv e1]at ht;have ho:=zG H h! e2;have OX:i<L.length:=(Y3.mp v!).1;have AK:((L.take i).flatMap<|iq rows C sm g k).length<=(L.take i).length*((places rows C g).length+1):=pL λ x _=>uB;rw[A00,B55<|A52 OX]at AK;have Wj:i*((places rows C g).length+1)+((places rows C g).length+1)<=L.length*((places rows C g).length+1):=by rw[<-B67];exact B68 _ OX
  rw[take_snoc v!,YF];generalize (L.take i).flatMap (iq rows C sm g k)=fs at AK;have V5:=A69 (openAt cs g k)<|places rows C g;have V4:(lR rows C cs g k).length<=(places rows C g).length:=V5;have FD:(lR rows C cs g k).length<=16777216:=by lia
  have TL:fs.length+(lR rows C cs g k).length<=16777216:=by lia
  have V6:fs.length+(lR rows C cs g k).length<16777216:=by lia
  simp[ht,Tt,ho,cY,fL,dF,line,FD];refine dt aW (λ _=>AT) (λ p=>aG<|cs.set k (g,Y! p)) (λ p hp=>?_) ?_
  .simp[(A6 h! e2 p).1]
  .rw[pR];cases sm with
   |true=>simp[line,TL,V6,iq]
   |false=>simp[line,TL,iq]
 .rintro ρ ⟨x7,x8,rfl⟩;rw[v4,A81];simp
open KH
def b?(rows:Rows)(C:Nat)(sm:Bool)(xs:Y' GO):Nat->Y' (Y' GO)
|0=>[xs]
|j+1=>match xs[j]? with
 |some (g,AC)=>(b? rows C sm xs j).flatMap<|iq rows C sm g j
 |_=>b? rows C sm xs j
section
variable {rows:Rows}{C:Nat}{sm:Bool}{xs:Y' GO}
theorem gv{j:Nat}(h:xs[j]?=Y! (g,AC)):b? rows C sm xs (j+1)=(b? rows C sm xs j).flatMap (iq rows C sm g j):=by simp only[b?,h]
theorem gu{j:Nat}(h:xs[j]?=Y! (g,Y! p)):b? rows C sm xs (j+1)=b? rows C sm xs j:=by simp only[b?,h]
theorem qW:∀{j},j<=xs.length->(b? rows C sm xs j).length<=dS ((xs.take j).map<|hX rows C)
|0,_=>by simp[b?,dS]
|j+1,hj=>by
 have ih:=qW (j:=j) (by lia);obtain⟨⟨g,o⟩,e⟩:∃x,xs[j]?=Y! x:=⟨_,M2 (by lia)⟩
 rw[jY e];cases o with
 |some p=>rw[gu e,show hX rows C (g,Y! p)=1 from rfl,Nat.mul_one];exact ih
 |none=>rw[gv e];exact A06 (pL λ x _=>uB)<|B68 _ ih
structure za(rows:Rows)(sm:Bool)(xs:List GO)(j:Nat)(z:List GO):Prop where
 gs:z.map (·.1)=xs.map (·.1)
 rest:∀i:Nat,j<=i->z[i]?=xs[i]?
 ext:Ext xs z
 good:Good rows z
 full:sm=Z!->∀(i:Nat)(g:G),i<j->z[i]?≠Y! (g,AC)
theorem Ex{j:Nat}(e:xs[j]?=Y! (g,AC))(h:za rows sm xs j z)(hy:y∈iq rows C sm g j z):za rows sm xs (j+1) y:=by
 have hz:=(h.rest j<|Z0 _).trans e;have hl:=(Y3.mp hz).1;rcases A42.mp hy with hy|hy
 .obtain⟨p,hp,rfl⟩:=A09.mp hy;obtain⟨h1,h2⟩:=A30.mp hp;have gs:(z.set j (g,Y! p)).map (·.1)=xs.map (·.1):=by
   rw[<-h.gs];refine YU λ i=>?_;rw[Z3,Z3,A23];split
   .rename_i ei;subst ei;rw[hz];rfl
   .rfl
  refine⟨gs,λ i hi=>?_,⟨gs.symm,λ i g' q ei=>?_⟩,h.good.put hz (KH.qw h1) h2,λ hs i g' hi=>?_⟩
  .rw[A23,v0 (by lia)];exact h.rest i (by lia)
  .have:=h.ext.sub i g' q ei;rw[A23];split
   .rename_i ej;subst ej;rw[hz]at this;cases this
   .exact this
  .rw[A23];split
   .rename_i ej;subst ej;intro q;cases q
   .exact h.full hs i g' (by lia)
 .cases sm with
  |false=>simp at hy
  |true=>
   have:y=z:=by simpa using hy
   subst this;exact⟨h.gs,λ i hi=>h.rest i (by lia),h.ext,h.good,λ hs=>nomatch hs⟩
theorem j0(hk:Good rows xs):∀{j},j<=xs.length->∀z∈b? rows C sm xs j,za rows sm xs j z
|0,_,z,hz=>by
 have:z=xs:=by simpa[b?]using hz
 subst this;exact⟨rfl,λ _ _=>rfl,⟨rfl,λ _ _ _ e=>e⟩,hk,λ _ i g hi=>absurd hi<|Nat.not_lt_zero _⟩
|j+1,hj,z,hz=>by
 obtain⟨⟨g,o⟩,e⟩:∃x,xs[j]?=Y! x:=⟨_,M2 (by lia)⟩
 have ih:=j0 hk (j:=j) (by lia);cases o with
 |some p=>
  rw[gu e]at hz;have h:=ih z hz;refine⟨h.gs,λ i hi=>h.rest i (by lia),h.ext,h.good,λ hs i g' hi=>?_⟩;by_cases G6:i=j
  .subst G6;rw[h.rest i<|Z0 _,e];intro q;cases q
  .exact h.full hs i g' (by lia)
 |none=>rw[gv e]at hz;obtain⟨y,hy,VL⟩:=A86.mp hz;exact Ex e (ih y hy) VL
theorem uE(H:Hall rows C)(hg:∀x∈xs,GOk x.1)(e:Ext xs z)(hz:Good rows z)(hs:sm=AT\/∀(i:Nat) g,z[i]?≠Y! (g,AC)):∀{j},j<=xs.length->z.take j++xs.drop j∈b? rows C sm xs j
|0,_=>by simp[b?]
|j+1,hj=>by
 have ih:=uE H hg e hz hs (j:=j) (by lia);have Mz:=e.len;obtain⟨⟨g,o⟩,ex⟩:∃x,xs[j]?=Y! x:=⟨_,M2 (by lia)⟩
 obtain⟨o',ez,ho⟩:=e.at ex;have TQ:j<xs.length:=by lia
 have X0:j<z.length:=by lia
 have d1:xs.drop j=(g,o)::xs.drop (j+1):=by rw[A79 TQ];rw[M2 TQ]at ex;rw[Y4 ex]
 have t1:=take_snoc ez;have tl:(z.take j).length=j:=by rw[A00];lia
 cases o with
 |some p=>rw[ho p rfl]at t1;rw[gu ex,t1,B15];rw[d1]at ih;exact ih
 |none=>
  rw[gv ex];refine A86.mpr ⟨_,ih,?_⟩;rw[d1];cases o' with
  |none=>
   rcases hs with rfl|hs
   .refine A10 _ ?_;rw[t1,B15];simp
   .exact absurd ez<|hs j g
  |some p=>
   refine A70 _<|A09.mpr ⟨p,?_,?_⟩
   .obtain⟨f,ap⟩:=hz j g p ez;refine A30.mpr ⟨CO H (hg _<|A01 ex) f,eI.mpr λ i g' q ei ne=>?_⟩;rw[<-d1]at ei;refine ap i g' q ?_ ne;by_cases hi:i<j
    .rw[A16 (by rw[tl];exact hi),B72 hi]at ei;exact ei
    .rw[A26 (by rw[tl];lia),List.getElem?_drop,tl,show j+(i-j)=i by lia]at ei;exact e.sub i g' q ei
   .rw[t1,B15,List.set_append_right _ _ (by rw[tl];exact Z0 _),tl,Nat.sub_self];rfl
theorem oZ(H:Hall rows C)(hg:∀x∈xs,GOk x.1)(e:Ext xs z)(hz:Good rows z)(hs:sm=AT\/∀(i:Nat) g,z[i]?≠Y! (g,AC)):z∈b? rows C sm xs xs.length:=by have:=uE H hg e hz hs<|Z0 _;rw[B46,A53,e.len,A81]at this;rw[e.len];exact this
theorem tu(H:Hall rows C)(h6:xs.length<=6)(hg:∀x∈xs,GOk x.1)(hk:Good rows xs)(hw:cG rows C xs<=2000):bF [bg rows,aL xs,aG xs,.bl sm]=.ok (.lst<|(b? rows C sm xs xs.length).map aG):=by
 rw[mX];refine a9 ?_;have hl:b! (aL xs)=.ok (.int xs.length):=by simp[aL]
 simp[fP,hl,line];refine fJ (λ i ρ=>∃x5,ρ=[v (bg rows),v (aL xs),v (aG xs),v (.bl sm),v (.lst<|(b? rows C sm xs i).map aG),x5]) ⟨AC,rfl⟩ ?_ ?_
 .rintro j d ρ hj ⟨x5,rfl⟩;obtain⟨Ku,rfl⟩:=ints_get hj;obtain⟨⟨g,o⟩,e⟩:∃x,xs[j]?=Y! x:=⟨_,M2 Ku⟩
  have ix:a! (aG xs) (.int<|j)=.ok (bE o):=(ja rfl (by rw[Z3,e];rfl)).1;cases o with
  |some p=>have en:fH (aW p)=.ok (.bl Z!):=rfl;rw[gu e];simp[ix,bE,en]
  |none=>
   have hi:=j0 (C:=C) (sm:=sm) hk (j:=j) (by lia);have ς:=qW (rows:=rows) (C:=C) (sm:=sm) (xs:=xs) (j:=j) (by lia);have h1:=zt (rows:=rows) (C:=C) xs<|j+1;rw[jY e,show hX rows C (g,AC)=(places rows C g).length+1 from rfl]at h1;have hB:(b? rows C sm xs j).length*((places rows C g).length+1)<=1000000:=by have:=B68 ((places rows C g).length+1) ς;lia
   have om:=uJ H h6 hg e sm (L:=b? rows C sm xs j) (λ cs v!=>⟨(hi cs v!).gs,((hi cs v!).rest j<|Z0 _).trans e⟩) hB;rw[gv e];simp[ix,bE,om]
 .rintro ρ ⟨x5,rfl⟩;rw[u9];simp
def bX{α:Type}(mx:Bool)(w:α->Int)(b:α):Y' α->α
|[]=>b
|x::r=>if AQ mx (w x) (w b)=AT then bX mx w x r else bX mx w b r
theorem o7{enc:α->D}:∀r b,(∀x∈r,e (enc x)=.ok (w x))->CJ mx e (enc b) (w b) (r.map enc)=.ok (enc<|bX mx w b r)
|[],b,_=>rfl
|x::r,b,h=>by
 have hx:=h x Z7;have hr:=λ y hy=>h y<|Y6 _ hy;rw[Y7];unfold CJ bX;rw[hx];simp only[Res.sN];split
 .exact o7 r x hr
 .exact o7 r b hr
theorem j2{w:α->Int}:∀r b,bX mx w b r=b\/bX mx w b r∈r
|[],b=>.inl rfl
|x::r,b=>by
 unfold bX;split
 .rcases j2 r x with h|h
  .rw[h];exact .inr Z7
  .exact .inr<|Y6 _ h
 .rcases j2 r b with h|h
  .exact .inl h
  .exact .inr<|Y6 _ h
theorem f?{w:α->Int}:∀r b,w b<=w (bX AT w b r)/\∀x∈r,w x<=w (bX AT w b r)
|[],b=>⟨A83 _,λ x h=>by cases h⟩
|x::r,b=>by
 unfold bX;by_cases hb:AQ AT (w x) (w b)=AT
 .rw[Z1 hb];obtain⟨h1,h2⟩:=f? (w:=w) r x;have:w b<w x:=by simpa[AQ]using hb
  exact⟨by lia,λ y hy=>by
   rcases Y2.mp hy with rfl|hy
   .exact h1
   .exact h2 y hy⟩
 .rw[v0 hb];obtain⟨h1,h2⟩:=f? (w:=w) r b;have:w x<=w b:=by simpa[AQ]using hb
  exact⟨h1,λ y hy=>by
   rcases Y2.mp hy with rfl|hy
   .lia
   .exact h2 y hy⟩
def wS(z:Y' GO):Int:=(z.map wO).sum
theorem Jq{z:Y' GO}(hg:∀x∈xs,GrpG x.1)(h:z.map (·.1)=xs.map (·.1)):∀x∈z,GrpG x.1:=λ x hx=>by
 have:x.1∈xs.map (·.1):=by rw[<-h];exact A09.mpr ⟨x,hx,rfl⟩
 obtain⟨y,hy,e⟩:=A09.mp this;rw[<-e];exact hg y hy
theorem sU{z:Y' GO}(h:z.map (·.1)=xs.map (·.1)):z.length=xs.length:=by have:=Y8 List.length h;rwa [v4,v4]at this
theorem wj(h6:xs.length<=6)(hg:∀x∈xs,GrpG x.1)(h:z.map (·.1)=xs.map (·.1)):bT [aL xs,aG z]=.ok (.int<|wS z):=by have:=ud (by rw[sU h];exact h6)<|Jq hg h;rw[show D.tup _=aL z from rfl,xv h]at this;exact this
theorem vS(h6:xs.length<=6)(hg:∀x∈xs,GrpG x.1)(hL:∀z∈b::r,z.map (·.1)=xs.map (·.1)):cS [aL xs,.lst ((b::r).map aG)]=.ok (aG<|bX AT wS b r):=by
 rw[kD];refine a9 ?_;have ke:∀z∈b::r,xf (aB bT<|ae (eV 1)<|ae (eV 0) az) [v (aL xs)] (aG z)=.ok (wS z):=λ z hz=>by refine IS ?_;simp[wj h6 hg<|hL z hz]
 have pk:=o7 (mx:=AT) r b λ z hz=>ke z<|Y6 _ hz;have kb:=ke b Z7;have e:vv AT (.ok .non) (eW 1) [0] (aB bT<|ae (eV 1)<|ae (eV 0) az) [v (aL xs),v (.lst<|(b::r).map aG)]=.ok (aG<|bX AT wS b r):=by show pickK AT (.ok .non) (xf _ [v _]) (aG b::r.map aG)=_;unfold pickK;dsimp only;rw[kb];exact pk
 simp only[Y7]at e;simp[eA,e]
theorem AA:cS [aL xs,.lst []]=.ok .non:=by rw[kD];refine a9 ?_;have e:vv AT _ (eW 1) [0] (aB bT<|ae (eV 1)<|ae (eV 0) az) [v (aL xs),v (.lst [])]=.ok .non:=rfl;simp[eA,e]
end
open KH
open KH
open KH
open KH
def Tj:Y_ Pl->Y_ Pl->Prop
|some p,Y! q=>Cg p q
|some _,AC=>True
|_,_=>False
def Ff(a b:Y' GO):Prop:=∃(i:Nat)(g:G)(o o':Y_ Pl),(∀j,j<i->a[j]?=b[j]?)/\a[i]?=Y! (g,o)/\b[i]?=Y! (g,o')/\Tj o o'
theorem yC(p:Pl):¬Cg p p:=by unfold Cg;lia
theorem IF(h:Tj o o'):o≠o':=by
 rintro rfl;cases o with
 |none=>exact h
 |some p=>exact yC p h
section
variable {C:Nat}{sm:Bool}
theorem sF(cs:Y' GO)(g:G)(k:Nat):(lR rows C cs g k).Pairwise Cg:=(qo rows C g).filter _
theorem uA{cs:Y' GO}{k:Nat}(hk:cs[k]?=Y! (g,AC)):(iq rows C sm g k cs).Pairwise Ff:=by
 have hl:=(Y3.mp hk).1;have at_:∀p,(cs.set k (g,Y! p))[k]?=Y! (g,Y! p):=λ p=>by rw[A23,Z1 rfl,Z1 hl]
 have off:∀p j,j<k->(cs.set k (g,Y! p))[j]?=cs[j]?:=λ p j hj=>by rw[A23,v0 (by lia)]
 refine List.pairwise_append.mpr ⟨?_,?_,?_⟩
 .rw[YX];exact(sF cs g k).imp λ {p q} h=>⟨k,g,_,_,λ j hj=>by rw[off p j hj,off q j hj],at_ p,at_ q,h⟩
 .cases sm<;>simp
 .intro a ha b hb;obtain⟨p,_,rfl⟩:=A09.mp ha;cases sm with
  |false=>simp at hb
  |true=>
   have:b=cs:=by simpa using hb
   subst this;exact⟨k,g,_,AC,λ j hj=>off p j hj,at_ p,hk,trivial⟩
theorem step_at(h:y∈iq rows C sm g k cs)(j:Nat)(hj:j≠k):y[j]?=cs[j]?:=by
 rcases A42.mp h with h|h
 .obtain⟨p,_,rfl⟩:=A09.mp h;rw[A23,v0<|P3 hj]
 .cases sm with
  |false=>simp at h
  |true=>
   have:y=cs:=by simpa using h
   rw[this]
theorem jv(hk:Good rows xs):∀{j},j<=xs.length->(b? rows C sm xs j).Pairwise Ff
|0,_=>by simp[b?]
|j+1,hj=>by
 have ih:=jv hk (j:=j) (by lia);have hi:=j0 (C:=C) (sm:=sm) hk (j:=j) (by lia);obtain⟨⟨g,o⟩,e⟩:∃x,xs[j]?=Y! x:=⟨_,M2 (by lia)⟩
 cases o with
 |some p=>rw[gu e];exact ih
 |none=>
  rw[gv e];refine List.pairwise_flatMap.mpr ⟨λ a ha=>uA<|((hi a ha).rest j<|Z0 _).trans e,List.Pairwise.imp_of_mem ?_ ih⟩;rintro a b ha hb ⟨i,g',o,o',h1,h2,h3,h4⟩ x hx y hy;have G6:i<j:=by refine Nat.lt_of_not_le λ z=>?_;have e1:=(hi a ha).rest i z;have e2:=(hi b hb).rest i z;rw[h2]at e1;rw[h3,<-e1]at e2;exact IF h4 (Prod.mk.inj<|Y4 e2).2.symm
  refine⟨i,g',o,o',λ m hm=>?_,?_,?_,h4⟩
  .rw[step_at hx m (by lia),step_at hy m (by lia)];exact h1 m hm
  .rw[step_at hx i (by lia)];exact h2
  .rw[step_at hy i (by lia)];exact h3
end
open Classical in
noncomputable def lU(le:Bool):Y' Pl->Y' Pl->Bool
|[],[]=>le
|[],_::_=>AT
|_::_,[]=>Z!
|p::ps,q::qs=>if p=q then lU le ps qs else decide (Cg p q)
def gx(z:Y' GO):Y' Pl:=z.filterMap (·.2)
def Full(z:Y' GO):Prop:=∀(i:Nat)(g:G),z[i]?≠Y! (g,AC)
theorem tq(h:Full (x::z)):(∃p,x.2=Y! p)/\Full z:=by
 refine⟨?_,λ i g e=>h (i+1) g (by simpa using e)⟩;obtain⟨g,o⟩:=x;cases o with
 |none=>exact absurd rfl<|h 0 g
 |some p=>exact⟨p,rfl⟩
theorem yq:∀{z},Full z->aG z=.tup ((gx z).map aW)/\(gx z).length=z.length
|[],_=>⟨rfl,rfl⟩
|(g,o)::z,h=>by
 obtain⟨⟨p,e⟩,hz⟩:=tq h;cases e;obtain⟨e1,e2⟩:=yq hz;unfold aG at e1 ⊢;injection e1 with e1
 refine⟨?_,by simp[gx]at e2 ⊢;exact e2⟩;rw[Y7,e1];simp[gx]
theorem Nl(p q:Pl):eP 5 (aW p) (aW q)=Y! (decide<|p=q):=by obtain⟨a,b⟩:=p;obtain⟨c,d⟩:=q;show(match Y! (a==c),(match Y! (b==d),Y! AT with|some x,Y! y=>Y!<|x&&y|_,_=>AC)with|some x,Y! y=>Y!<|x&&y|_,_=>AC)=_;by_cases h1:a=c<;>by_cases h2:b=d<;>simp[h1,h2]
open Classical in
theorem sT(le:Bool):∀{a b},Full a->Full b->Ff a b->lU le (gx a) (gx b)=AT/\lU le (gx b) (gx a)=Z!
|[],b,_,_,⟨i,g,o,o',_,h,_⟩=>by simp at h
|_::_,[],_,_,⟨i,g,o,o',_,_,h,_⟩=>by simp at h
|(ga,oa)::a,(gb,ob)::b,fa,fb,⟨i,g,o,o',h1,h2,h3,h4⟩=>by
 obtain⟨⟨p,e1⟩,WS⟩:=tq fa;obtain⟨⟨q,e2⟩,WR⟩:=tq fb;cases e1;cases e2;have ea:gx ((ga,Y! p)::a)=p::gx a:=by simp[gx]
 have eb:gx ((gb,Y! q)::b)=q::gx b:=by simp[gx]
 rw[ea,eb];cases i with
 |zero=>
  simp at h2 h3;obtain⟨rfl,rfl⟩:=h2;obtain⟨_,rfl⟩:=h3;have Rh:Cg p q:=h4;have ne:p≠q:=λ z=>yC q<|z▸Rh;have nq:¬Cg q p:=by unfold Cg at Rh ⊢;lia
  simp[lU,ne,P3 ne,Rh,nq]
 |succ i=>have h0:=h1 0<|Nat.succ_pos _;simp at h0;obtain⟨rfl,rfl⟩:=h0;obtain⟨r1,r2⟩:=sT le WS WR ⟨i,g,o,o',λ j hj=>by simpa using h1 (j+1) (by lia),by simpa using h2,by simpa using h3,h4⟩;simp only[lU,Z8];exact⟨r1,r2⟩
theorem FT(h:za rows Z! xs xs.length z):Full z:=λ i g e=>by have hl:=(Y3.mp e).1;rw[sU h.gs]at hl;exact h.full rfl i g hl e
open KH
theorem CY:∀ps:Y' Pl,allEq (eP 5) (ps.map aW) (ps.map aW)=Y! AT
|[]=>rfl
|p::ps=>by simp only[Y7,allEq,Nl,CY ps];simp
theorem F2(h:Full z):oEq (aG z) (aG z)=.ok (.bl AT):=by rw[(yq h).1];have:ij (.tup _) (.tup<|(gx z).map aW)=Y! AT:=CY _;unfold oEq;rw[this]
theorem kL(w:α->Int):∀r b,∃t,(b::r).filter (λ z=>decide<|w z=w (bX AT w b r))=bX AT w b r::t
|[],b=>⟨[],by simp[bX]⟩
|x::r,b=>by
 unfold bX;by_cases hb:AQ AT (w x) (w b)=AT
 .rw[Z1 hb];obtain⟨t,e⟩:=kL w r x;have h1:=(f? (w:=w) r x).1;have iS:w b<w x:=by simpa[AQ]using hb
  have:¬w b=w (bX AT w x r):=by lia
  exact⟨t,by rw[B06 (by simpa using this)];exact e⟩
 .rw[v0 hb];obtain⟨t,e⟩:=kL w r b;have h1:=(f? (w:=w) r b).1;have hle:w x<=w b:=by simpa[AQ]using hb
  by_cases he:w b=w (bX AT w b r)
  .rw[B87 (by simpa using he)]at e ⊢;injection e with e1 e2
   exact⟨_,by rw[<-e1]⟩
  .rw[B06 (by simpa using he)]at e;have hx:¬w x=w (bX AT w b r):=by lia
   exact⟨t,by rw[B06 (by simpa using he),B06 (by simpa using hx)];exact e⟩
theorem AB(H:Hall rows C)(h6:xs.length<=6)(hg:∀x∈xs,GrpG x.1)(hk:Good rows xs)(hw:cG rows C xs<=2000)(ef:aQ [bg rows,aL xs,fd]=.ok (aG xs)):
 bZ [bg rows,aL xs,fd]=.ok (match b? rows C Z! xs xs.length with|[]=>.non|b::r=>aG<|bX AT wS b r):=by
 have z7:=λ x hx=>(hg x hx).toGOk;have hi:=j0 (C:=C) (sm:=Z!) hk<|Z0 _;have fr:=tu (sm:=Z!) H h6 z7 hk hw;have sm:=oV H h6 z7 ef hw;rw[pQ];refine a9 ?_;cases e:b? rows C Z! xs _ with
 |nil=>rw[e]at fr;simp only[A46]at fr;simp[e_,sm,fr,AA]
 |cons b r=>rw[e]at hi fr;have am:=vS h6 hg λ z hz=>(hi z hz).gs;simp only[Y7]at am fr;simp[e_,sm,fr,am]
theorem o8(so:(b::r).Pairwise Ff):∀z∈b::r,wS z=wS (bX AT wS b r)->z=bX AT wS b r\/Ff (bX AT wS b r) z:=by
 obtain⟨t,ht⟩:=kL wS r b;intro z hz he;have S5:=so.filter λ z=>decide<|wS z=wS (bX AT wS b r);have hm:z∈(b::r).filter (λ z=>decide<|wS z=wS _):=A30.mpr ⟨hz,by simpa using he⟩;rw[ht]at S5 hm;rcases Y2.mp hm with h|h
 .exact .inl h
 .exact .inr<|(B29.mp S5).1 z h
theorem yB(fa:Full a)(fb:Full b)(h1:Ff a b)(h2:Ff b a):False:=by have e1:=(sT Z! fa fb h1).1;have e2:=(sT Z! fb fa h2).2;rw[e1]at e2;cases e2
structure DD(rows:Rows)(C:Nat)(xs m:List GO):Prop where
 ext:Ext xs m
 good:Good rows m
 full:Full m
 most:∀z,Ext xs z->Good rows z->Full z->wS z<=wS m/\(wS z=wS m->z=m\/Ff m z)
theorem vg(H:Hall rows C)(hg:∀x∈xs,GOk x.1)(e:Ext xs z)(gz:Good rows z)(fz:Full z):z∈b? rows C Z! xs xs.length:=oZ H hg e gz<|.inr fz
theorem Gp(H:Hall rows C)(hg:∀x∈xs,GOk x.1)(hk:Good rows xs)(e:b? rows C Z! xs xs.length=b::r):DD rows C xs (bX AT wS b r):=by
 have hi:=j0 (C:=C) (sm:=Z!) hk<|Z0 _;have so:=jv (C:=C) (sm:=Z!) hk<|Z0 _;rw[e]at hi so;have Jg:bX AT wS b r∈b::r:=by
  rcases j2 r b with h|h
  .rw[h];exact Z7
  .exact Y6 _ h
 obtain⟨h1,h2⟩:=f? (w:=wS) r b;refine⟨(hi _ Jg).ext,(hi _ Jg).good,FT<|hi _ Jg,λ z ez gz fz=>?_⟩;have hz:=vg H hg ez gz fz;rw[e]at hz;refine⟨?_,o8 so z hz⟩;rcases Y2.mp hz with rfl|h
 .exact h1
 .exact h2 z h
theorem DD.uniq(h:DD rows C xs m)(h':DD rows C xs m'):m'=m:=by
 have a:=h.most m' h'.ext h'.good h'.full;have b:=h'.most m h.ext h.good h.full;have e:wS m'=wS m:=by lia
 rcases a.2 e with z|z
 .exact z
 .rcases b.2 e.symm with y|y
  .exact y.symm
  .exact(yB h.full h'.full z y).elim
end KB
set_option maxRecDepth 4000
noncomputable section
namespace KC
open Z KG KH KB
def eu:SF:=(aN (bq 3<|aB KB.bF<|ae (eV 0)<|ae (eV 1)<|ae (aB KB.bw<|ae (eV 0)<|ae (eV 1)<|ae (eV 2) az)<|ae (eC<|.bl Z!) az)<|aY<|Nq (tE<|eB E? (eU b!<|eW 3)<|eC<|.int 0) (eB a! (eW 3)<|eC<|.int 0)<|eC .non)
def a8:Y' D->Res D:=fn 3 4 eu
theorem nY(x0 x1 x2:D):a8 [x0,x1,x2]=cf (eu [Y! (.val x0),Y! (.val x1),Y! (.val x2),AC]):=c9 _ _ _ _ rfl
def tW:SF:=(aY<|eL<|bY (iR<|eW 1) 1 [0] (br 0) fi<|aB KG.cH<|ae (eV 1)<|ae (eV 0) az)
def dm:Y' D->Res D:=fn 2 2 tW
def xO:SF:=(aY<|aB KH.cR<|ae (eB a! (eW 1)<|eW 3)<|ae (eB a! (eW 0)<|eW 3)<|ae (aB KG.bu<|ae (eV 0)<|ae (eV 2) az) az)
def fw:Y' D->Res D:=fn 4 4 xO
def jU(self:Y' D->Res D):SF:=(aN (bq 3<|eL<|bY (dX<|eU b!<|eW 0) 1 [2] (br 0) (tE<|eU fH<|eB a! (eW 1)<|eW 0)<|eV 0)<|aN (bq 4<|vv Z! .bad (eW 3) [0,1,2]<|eU b!<|aB fw<|ae (eV 1)<|ae (eV 2)<|ae (eV 3)<|ae (eV 0) az)<|aN (bq 5<|aB fw<|ae (eV 0)<|ae (eV 1)<|ae (eV 2)<|ae (eV 4) az)<|aN (gO (tE<|eB oEq (eW 5)<|d? az) (aY<|d?<|ae (eC<|.str [115,116,117,99,107])<|ae (eV 4) az) bj)<|aN (bq 6<|eL<|bY (iR<|eW 5) 1 [0,1,2,4] (br 0) fi<|aB self<|ae (eV 1)<|ae (eV 2)<|ae (aB KH.cx<|ae (eV 3)<|ae (eV 4)<|ae (eV 0) az) az)<|aY<|d?<|ae (eC<|.str [101,97,99,104])<|ae (eV 4)<|ae (eU dU<|eW 6) az)
def dE:Nat->Y' D->Res D
|0=>λ _=>.bad
|k+1=>fn 3 7<|jU<|dE k
def xP:SF:=(aN (gO (tE<|eU jC<|aB a8<|ae (eV 0)<|ae (eV 1)<|ae (eV 2) az) (aY<|eC .non) bj)<|aY<|aB (dE 9)<|ae (eV 1)<|ae (aB dm<|ae (eV 0)<|ae (eV 1) az)<|ae (aB KB.aQ<|ae (eV 0)<|ae (eV 1)<|ae (eV 2) az) az)
def jJ:Y' D->Res D:=fn 3 3 xP
end KC
end
set_option maxRecDepth 8000
namespace KC
open Z KG KB
open KH
section
theorem CP(H:Hall rows C)(h6:xs.length<=6)(hg:∀x∈xs,GOk x.1)(hk:Good rows xs)(hw:cG rows C xs<=2000)(ef:aQ [bg rows,aL xs,fd]=.ok (aG xs)):
 a8 [bg rows,aL xs,fd]=.ok (match b? rows C Z! xs xs.length with|[]=>.non|z::_=>aG z):=by
 have fr:=tu (sm:=Z!) H h6 hg hk hw;have sm:=oV H h6 hg ef hw;rw[nY];refine a9 ?_;cases e:b? rows C Z! xs _ with
 |nil=>rw[e]at fr;simp only[A46]at fr;simp[eu,sm,fr]
 |cons z r=>
  rw[e]at fr;simp only[Y7]at fr;have i0:=(ja (xs:=aG z::r.map aG) (i:=0) rfl rfl).2;have hl:(0)<(r.length)+1:=by lia
  simp[eu,sm,fr,i0]
end
end KC
set_option maxRecDepth 4000
noncomputable section
namespace n!
open Z KG KH KB KC
def Et:Y' Nat:=[116,104,111,115,101,32,116,104,97,116,32,97,114,101,32,116,111,108,100,32,102,97,115,116,32,100,111,110,39,116,32,107,101,101,112,32,116,104,101,32,104,97,108,108]
def n6:SF:=(aY<|eL<|bY (dX<|eU b!<|eW 0) 1 [0,1] (br 0) (r! (tE<|eU fH<|eB a! (eW 1)<|eW 0)<|tE<|eB pe (eW 0)<|eW 2)<|eV 0)
def eK:Y' D->Res D:=fn 2 2 n6
def vP:SF:=(aN (bq 4<|aB KB.bT<|ae (eV 0)<|ae (eV 2) az)<|aN (jx (iR<|aB eK<|ae (eV 2)<|ae (eV 3) az) (br 5)<|aN (bq 6<|eL<|bY (iR<|aB KC.fw<|ae (eV 0)<|ae (eV 1)<|ae (eV 2)<|ae (eV 5) az) 1 [0,5] (br 0) fi<|aB KB.fv<|ae (eB a! (eW 1)<|eW 2)<|ae (eB a! (eW 0)<|eC<|.int 0) az)<|bq 4<|eB uS (eV 4)<|eB yy (eW 6)<|eC<|.int 0)<|aY<|eV 4)
def l!:Y' D->Res D:=fn 4 7 vP
def kG(self:Y' D->Res D):SF:=(aN (gO (tE<|eB oLe (aB l!<|ae (eV 0)<|ae (eV 1)<|ae (eV 3)<|ae (eV 4) az)<|eW 2) (aY<|d?<|ae (eC<|.str [101,110,100]) az) bj)<|aN (bq 5<|eB a! (aB eK<|ae (eV 3)<|ae (eV 4) az)<|eC<|.int 0)<|aN (nO 6<|ft az)<|aN (jx (iR<|aB KC.fw<|ae (eV 0)<|ae (eV 1)<|ae (eV 3)<|ae (eV 5) az) (br 7)<|dR 6<|aB self<|ae (eV 0)<|ae (eV 1)<|ae (eV 2)<|ae (aB KH.cx<|ae (eV 3)<|ae (eV 5)<|ae (eV 7) az)<|ae (eV 4) az)<|aN (dR 6<|aB self<|ae (eV 0)<|ae (eV 1)<|ae (eV 2)<|ae (eV 3)<|ae (eB bS (eW 4)<|d?<|ae (eV 5) az) az)<|aY<|d?<|ae (eC<|.str [101,97,99,104])<|ae (eV 5)<|ae (eU dU<|eW 6) az)
def d6:Nat->Y' D->Res D
|0=>λ _=>.bad
|k+1=>fn 5 8<|kG<|d6 k
def Aw:SF:=(aN (bq 3<|aB KB.di<|ae (eV 0)<|ae (eV 1)<|ae (eV 2) az)<|aY<|aB (d6 9)<|ae (eV 1)<|ae (aB KC.dm<|ae (eV 0)<|ae (eV 1) az)<|ae (eV 3)<|ae (aB KB.aQ<|ae (eV 0)<|ae (eV 1)<|ae (eV 2) az)<|ae (d? az) az)
def pK:Y' D->Res D:=fn 3 4 Aw
def hJ:SF:=(aN (bq 1<|aB KG.cE<|ae (eV 0)<|ae (eC<|.int 0) az)<|aN (bq 2<|eU dU<|eL<|bY (dX<|eB bS (eC<|.int 1)<|eB oMod (eW 1)<|eC<|.int 6) 1 [1] (br 0) fi<|eB wX (eC<|.str [46])<|eB bS (eC<|.int 1)<|eB oMod (eB oDiv (eW 1)<|eC<|.int 6)<|eC<|.int 12)<|aN (nO 3<|ft az)<|aN (jx (dX<|eB bS (eC<|.int 2)<|eB oMod (eB oDiv (eW 1)<|eC<|.int 72)<|eC<|.int 5) (br 4)<|aN (bq 5<|aB KG.cE<|ae (eV 0)<|ae (eB bS (eC<|.int 2)<|eW 4) az)<|aN (bq 6<|eB bS (F4 (eC<|.str [97,98,99,100,101,102,103,104]) DN<|DO<|eB bS (eC<|.int 1)<|eB oMod (eB oDiv (eW 1)<|eC<|.int 360)<|eC<|.int 8)<|eB a! (eC<|.str [117,118,119,120,121,122])<|eW 4)<|dR 3<|d?<|ae (F4 (eW 6) (DO<|eU B4<|eC<|.int 8) DN)<|ae (eB bS (eC<|.int 1)<|eB oMod (eW 5)<|eC<|.int 3)<|ae (eB bS (eC<|.int 1)<|eB oDiv (eB oMod (eB oDiv (eW 5)<|eC<|.int 3)<|eC<|.int 5)<|eC<|.int 4)<|ae (eC<|.str [])<|ae (eC<|.int 0)<|ae (eB oMod (eB oDiv (eW 5)<|eC<|.int 15)<|eC<|.int 3)<|ae (eB oMod (eB oDiv (eW 5)<|eC<|.int 45)<|eC<|.int 4)<|ae (d? az) az)<|aY<|d?<|ae (eV 2)<|ae (eU dU<|eW 3) az)
def fY:Y' D->Res D:=fn 1 7 hJ
theorem tD(x0:D):fY [x0]=cf (hJ [Y! (.val x0),AC,AC,AC,AC,AC,AC]):=c9 _ _ _ _ rfl
def i8:SF:=(aN (bq 3<|eC<|.int 0)<|aN (nO 4<|ft az)<|aN (jx (dX<|eU b!<|eW 1) (br 5)<|aN (EK (eB a! (eW 1)<|eW 5)<|z_ [6,7,8,9,10,11,12,13])<|aN (bq 14<|eB bS (eW 3)<|eB nR (eC<|.int 2)<|eU wZ<|eB E? (eW 3)<|eC<|.int 0)<|gO (r! (tE<|eB oEq (eB oMod (eB oDiv (eW 2)<|eB a! (eL<|ft<|ae (eC<|.int 1)<|ae (eC<|.int 2)<|ae (eC<|.int 4)<|ae (eC<|.int 8)<|ae (eC<|.int 16)<|ae (eC<|.int 32) az)<|eW 5)<|eC<|.int 8)<|eC<|.int 5)<|r! (tE<|eB oLe (eB bS (eW 14)<|eW 7)<|eU b!<|eB a! (eW 0)<|eC<|.int 0)<|tE<|eB oLe (eW 8)<|eU b!<|eW 0) (aN (dR 4<|d?<|ae (eC<|.int 0)<|ae (eV 14) az)<|bq 3<|eB bS (eW 14)<|eW 7)<|dR 4<|eC .non)<|aY<|eU dU<|eW 4)
def g?:Y' D->Res D:=fn 3 15 i8
theorem vp(x0 x1 x2:D):g? [x0,x1,x2]=cf (i8 [Y! (.val x0),Y! (.val x1),Y! (.val x2),AC,AC,AC,AC,AC,AC,AC,AC,AC,AC,AC,AC]):=c9 _ _ _ _ rfl
def lx:SF:=(aN (bq 3<|eC<|.int 1)<|aN (jx (zY (eV 1)<|eV 2) (iT [4,5])<|gO (tE<|eU fH<|eW 5) (bq 3<|eB nR (eW 3)<|eB bS (eC<|.int 1)<|eB nR (eB wY (eC<|.int 0)<|eB uP (eB bS (eU b!<|eB a! (eW 0)<|eC<|.int 0)<|eC<|.int 1)<|eB a! (eW 4)<|eC<|.int 1)<|eB wY (eC<|.int 0)<|eB uP (eB bS (eU b!<|eW 0)<|eC<|.int 1)<|eB a! (eW 4)<|eC<|.int 2) bj)<|aY<|eV 3)
def g!:Y' D->Res D:=fn 3 6 lx
theorem vo(x0 x1 x2:D):g! [x0,x1,x2]=cf (lx [Y! (.val x0),Y! (.val x1),Y! (.val x2),AC,AC,AC]):=c9 _ _ _ _ rfl
def cw:SF:=(aN (gO (yc (tE<|iC 0<|v3 [84,111,111,71,114,101,97,116] Z!)<|yc (tE<|iC 0<|v3 [84,111,111,71,114,101,97,116] Z!)<|yc (tE<|iC 0<|v3 [84,111,111,71,114,101,97,116] Z!)<|tE<|iC 0<|v3 [84,111,111,71,114,101,97,116] Z!) (aY<|eC<|.bl Z!) bj)<|aN (gO (yc (tE<|iC 0<|v3 [84,111,111,71,114,101,97,116] Z!)<|yc (tE<|iC 0<|v3 [84,111,111,71,114,101,97,116] Z!)<|yc (tE<|iC 0<|v3 [84,111,111,71,114,101,97,116] Z!)<|tE<|iC 0<|v3 [84,111,111,71,114,101,97,116] Z!) (aY<|eC<|.bl Z!) bj)<|aY<|C9 (iC 0<|v3 [84,111,111,71,114,101,97,116] AT)<|iC 0<|v3 [84,111,111,71,114,101,97,116] AT)
def b9:XN->Res D:=O5 1 cw
theorem jl(c:XN):b9 c=cf (cw [Y! (.exc c)]):=rfl
def vQ:SF:=(aN (gO (tE<|eB oEq (eW 0)<|eC<|.int 0) (aY<|aB KC.a8<|ae (eV 1)<|ae (eV 2)<|ae (eV 3) az) bj)<|aN (gO (tE<|eB oEq (eW 0)<|eC<|.int 1) (aY<|aB KC.jJ<|ae (eV 1)<|ae (eV 2)<|ae (eV 3) az) bj)<|aN (gO (tE<|eB oEq (eW 0)<|eC<|.int 2) (aY<|aB KB.bZ<|ae (eV 1)<|ae (eV 2)<|ae (eV 3) az) bj)<|aN (gO (tE<|eB oEq (eW 0)<|eC<|.int 3) (aY<|aB KB.bQ<|ae (eV 1)<|ae (eV 2)<|ae (eV 3) az) bj)<|aN (gO (tE<|eB oEq (eW 0)<|eC<|.int 4) (aY<|aB KB.di<|ae (eV 1)<|ae (eV 2)<|ae (eV 3) az) bj)<|aY<|aB pK<|ae (eV 1)<|ae (eV 2)<|ae (eV 3) az)
def l?:Y' D->Res D:=fn 4 4 vQ
def fC:XF:=(c! (bq 3<|Nq (tE<|eU fH<|eW 2) (eB uQ (d?<|ae (eC .non) az)<|eU b!<|eW 1)<|eV 2) og<|c! (gO (lM<|tE<|aB KG.gE<|ae (eV 0)<|ae (eV 1)<|ae (eV 3) az) sr bj) (uc (lM<|tE<|aB KG.gE<|ae (eV 0)<|ae (eV 1)<|ae (eV 3) az) (rQ [78,111,83,101,97,116,105,110,103]<|eC<|.str Et) og) og)
def bP:Y' D->Y_ XN:=fx 3 4 fC
theorem mS(x0 x1 x2:D):bP [x0,x1,x2]=fC [Y! (.val x0),Y! (.val x1),Y! (.val x2),AC]:=qA _ _ _ _ rfl
def rP:XF:=(c! (bq 3<|eC<|.int 1) og<|c! (jx (zY (eV 1)<|aB KB.aQ<|ae (eV 0)<|ae (eV 1)<|ae (eV 2) az) (iT [4,5])<|gO (tE<|eU fH<|eW 5) (bq 3<|eB nR (eV 3)<|eB bS (eU b!<|aB KG.cH<|ae (eV 0)<|ae (eV 4) az)<|eC<|.int 1) bj) (t7 (eV 1)<|bL bP<|ae (eV 0)<|ae (eV 1)<|ae (eV 2) az) og)
def oA:Y' D->Y_ XN:=fx 3 6 rP
theorem CK(x0 x1 x2:D):oA [x0,x1,x2]=rP [Y! (.val x0),Y! (.val x1),Y! (.val x2),AC,AC,AC]:=qA _ _ _ _ rfl
def gj:XF:=(c! (bq 3<|aB KB.j6<|ae (eV 0)<|ae (eV 1)<|ae (eV 2) az) (bL oA<|ae (eV 0)<|ae (eV 1)<|ae (eV 2) az)<|c! (gO (tE<|eB E? (eW 3)<|eC<|.int 2000) sr bj) (uc (tE<|eB E? (eW 3)<|eC<|.int 2000) (n_ [84,111,111,71,114,101,97,116] [[109,97,110,121],[109,111,115,116]]<|ae (eV 3)<|ae (eC<|.int 2000) az) og)<|bL bP<|ae (eV 0)<|ae (eV 1)<|ae (eV 2) az)
def bN:Y' D->Y_ XN:=fx 3 4 gj
theorem nW(x0 x1 x2:D):bN [x0,x1,x2]=gj [Y! (.val x0),Y! (.val x1),Y! (.val x2),AC]:=qA _ _ _ _ rfl
def gm:XF:=(c! (bq 3<|aB KB.bw<|ae (eV 0)<|ae (eV 1)<|ae (eV 2) az) (bL bN<|ae (eV 0)<|ae (eV 1)<|ae (eV 2) az) og)
def dZ:Y' D->Y_ XN:=fx 3 4 gm
theorem nX(x0 x1 x2:D):dZ [x0,x1,x2]=gm [Y! (.val x0),Y! (.val x1),Y! (.val x2),AC]:=qA _ _ _ _ rfl
def fD:XF:=(c! (bq 3<|aB KB.bw<|ae (eV 0)<|ae (eV 1)<|ae (eV 2) az) (bL bN<|ae (eV 0)<|ae (eV 1)<|ae (eV 2) az) og)
def cQ:Y' D->Y_ XN:=fx 3 4 fD
theorem mT(x0 x1 x2:D):cQ [x0,x1,x2]=fD [Y! (.val x0),Y! (.val x1),Y! (.val x2),AC]:=qA _ _ _ _ rfl
def hV:XF:=(t7 (eV 1)<|bL cQ<|ae (eV 0)<|ae (eV 1)<|ae (eV 2) az)
def dh:Y' D->Y_ XN:=fx 3 3 hV
theorem pI(x0 x1 x2:D):dh [x0,x1,x2]=hV [Y! (.val x0),Y! (.val x1),Y! (.val x2)]:=qA _ _ _ _ rfl
def fB:XF:=(c! (bq 3<|aB KB.bF<|ae (eV 0)<|ae (eV 1)<|ae (aB KB.bw<|ae (eV 0)<|ae (eV 1)<|ae (eV 2) az)<|ae (eC<|.bl Z!) az) (t7 (eV 0)<|t7 (eV 1)<|bL bN<|ae (eV 0)<|ae (eV 1)<|ae (eV 2) az) og)
def cP:Y' D->Y_ XN:=fx 3 4 fB
theorem mR(x0 x1 x2:D):cP [x0,x1,x2]=fB [Y! (.val x0),Y! (.val x1),Y! (.val x2),AC]:=qA _ _ _ _ rfl
def jo:XF:=(c! (gO (tE<|eU jC<|aB KC.a8<|ae (eV 0)<|ae (eV 1)<|ae (eV 2) az) (aY<|eC .non) bj) (bL cP<|ae (eV 0)<|ae (eV 1)<|ae (eV 2) az)<|t7 (eV 1)<|t7 (aB KC.dm<|ae (eV 0)<|ae (eV 1) az)<|bL bP<|ae (eV 0)<|ae (eV 1)<|ae (eV 2) az)
def gZ:Y' D->Y_ XN:=fx 3 3 jo
theorem tj(x0 x1 x2:D):gZ [x0,x1,x2]=jo [Y! (.val x0),Y! (.val x1),Y! (.val x2)]:=qA _ _ _ _ rfl
def kH:XF:=(c! (bq 3<|aB KB.di<|ae (eV 0)<|ae (eV 1)<|ae (eV 2) az) (bL dh<|ae (eV 0)<|ae (eV 1)<|ae (eV 2) az)<|t7 (eV 1)<|t7 (aB KC.dm<|ae (eV 0)<|ae (eV 1) az)<|t7 (eV 3)<|bL bP<|ae (eV 0)<|ae (eV 1)<|ae (eV 2) az)
def iU:Y' D->Y_ XN:=fx 3 4 kH
theorem vf(x0 x1 x2:D):iU [x0,x1,x2]=kH [Y! (.val x0),Y! (.val x1),Y! (.val x2),AC]:=qA _ _ _ _ rfl
def cb:XF:=(c! (gO (tE<|eB oEq (eW 0)<|eC<|.int 0) (aY<|aB KC.a8<|ae (eV 1)<|ae (eV 2)<|ae (eV 3) az) bj) (uc (tE<|eB oEq (eW 0)<|eC<|.int 0) (bL cP<|ae (eV 1)<|ae (eV 2)<|ae (eV 3) az) og)<|c! (gO (tE<|eB oEq (eW 0)<|eC<|.int 1) (aY<|aB KC.jJ<|ae (eV 1)<|ae (eV 2)<|ae (eV 3) az) bj) (uc (tE<|eB oEq (eW 0)<|eC<|.int 1) (bL gZ<|ae (eV 1)<|ae (eV 2)<|ae (eV 3) az) og)<|c! (gO (tE<|eB oEq (eW 0)<|eC<|.int 2) (aY<|aB KB.bZ<|ae (eV 1)<|ae (eV 2)<|ae (eV 3) az) bj) (uc (tE<|eB oEq (eW 0)<|eC<|.int 2) (bL dZ<|ae (eV 1)<|ae (eV 2)<|ae (eV 3) az) og)<|c! (gO (tE<|eB oEq (eW 0)<|eC<|.int 3) (aY<|aB KB.bQ<|ae (eV 1)<|ae (eV 2)<|ae (eV 3) az) bj) (uc (tE<|eB oEq (eW 0)<|eC<|.int 3) (bL cQ<|ae (eV 1)<|ae (eV 2)<|ae (eV 3) az) og)<|c! (gO (tE<|eB oEq (eW 0)<|eC<|.int 4) (aY<|aB KB.di<|ae (eV 1)<|ae (eV 2)<|ae (eV 3) az) bj) (uc (tE<|eB oEq (eW 0)<|eC<|.int 4) (bL dh<|ae (eV 1)<|ae (eV 2)<|ae (eV 3) az) og)<|bL iU<|ae (eV 1)<|ae (eV 2)<|ae (eV 3) az)
def fX:Y' D->Y_ XN:=fx 4 4 cb
theorem qz(x0 x1 x2 x3:D):fX [x0,x1,x2,x3]=cb [Y! (.val x0),Y! (.val x1),Y! (.val x2),Y! (.val x3)]:=qA _ _ _ _ rfl
def ic:SF:=(aN (bq 5<|eL<|ft az)<|aN (EJ (GL<|aB l?<|ae (eV 0)<|ae (eV 1)<|ae (eV 2)<|ae (eV 3) az) (bL fX<|ae (eV 0)<|ae (eV 1)<|ae (eV 2)<|ae (eV 3) az) [84,111,111,71,114,101,97,116] 6<|bq 5<|eL<|ft<|ae (tI b9 6)<|ae (C8 6 [84,111,111,71,114,101,97,116] [109,97,110,121])<|ae (C8 6 [84,111,111,71,114,101,97,116] [109,111,115,116])<|ae (eU (uR .bool)<|C8 6 [84,111,111,71,114,101,97,116] [109,97,110,121])<|ae (eU (uR .bool)<|C8 6 [84,111,111,71,114,101,97,116] [109,111,115,116]) az)<|aY<|eB oEq (eW 5)<|eL<|ft<|ae (eC<|.bl AT)<|ae (eV 4)<|ae (eC<|.int 2000)<|ae (eC<|.bl Z!)<|ae (eC<|.bl Z!) az)
def d7:Y' D->Res D:=fn 5 7 ic
theorem pO(x0 x1 x2 x3 x4:D):d7 [x0,x1,x2,x3,x4]=cf (ic [Y! (.val x0),Y! (.val x1),Y! (.val x2),Y! (.val x3),Y! (.val x4),AC,AC]):=c9 _ _ _ _ rfl
def i7:SF:=(aN (nO 2<|ft az)<|aN (jx (dX<|eU b!<|eW 1) (br 3)<|aN (bq 4<|d? az)<|aN (gO (tE<|eB Kc (eU b!<|eW 0)<|eB a! (eB a! (eW 1)<|eW 3)<|eC<|.int 2) (bq 4<|d?<|ae (d?<|ae (eB uP (eU b!<|eW 0)<|eB a! (eB a! (eW 1)<|eW 3)<|eC<|.int 2)<|ae (eB bS (eC<|.int 1)<|eW 3) az) az) bj)<|dR 2<|eB bS (F4 (eB a! (eW 1)<|eW 3) DN<|DO<|eC<|.int 6)<|d?<|ae (eC<|.int 0)<|ae (eV 4) az)<|aY<|eU dU<|eW 2)
def eY:Y' D->Res D:=fn 2 5 i7
theorem qF(x0 x1:D):eY [x0,x1]=cf (i7 [Y! (.val x0),Y! (.val x1),AC,AC,AC]):=c9 _ _ _ _ rfl
def i9:SF:=(aN (nO 3<|Q0<|eW 2)<|aN (jx (dX<|eU b!<|eW 1) (br 4)<|gO (tE<|eU fH<|eB a! (eW 3)<|eW 4) (aN (nO 5<|ft az)<|aN (jx (dX<|eB uP (eB bS (eU b!<|eB a! (eW 0)<|eC<|.int 0)<|eC<|.int 1)<|eB a! (eB a! (eW 1)<|eW 4)<|eC<|.int 1) (br 6)<|aN (bq 7<|d?<|ae (eB uP (eU b!<|eW 0)<|eB a! (eB a! (eW 1)<|eW 4)<|eC<|.int 2)<|ae (eV 6) az)<|aN (bq 8<|eL<|bY (dX<|eU b!<|eW 1) 1 [3] (br 0) (tE<|eU jC<|eB a! (eW 1)<|eW 0)<|eV 0)<|aN (bq 8<|eL<|bY (iR<|eW 8) 1 [1,4,7,3] (br 0) (lM<|tE<|aB KH.d!<|ae (eB a! (eW 1)<|eW 2)<|ae (eV 3)<|ae (eB a! (eW 1)<|eW 0)<|ae (eB a! (eW 4)<|eW 0) az)<|eV 0)<|gO (r! (tE<|eB oEq (eW 8)<|eL<|ft az)<|tE<|eB Kc (eB a! (eW 7)<|eC<|.int 0)<|eC<|.int 0) (dR 5<|eV 7) bj)<|aN (gO (tE<|eB oEq (eW 5)<|eL<|ft az) (aY<|eC .non) bj)<|BA 3 (eV 4)<|eB a! (eW 5)<|eC<|.int 0) bj)<|aY<|eU dU<|eW 3)
def eZ:Y' D->Res D:=fn 3 9 i9
theorem qG(x0 x1 x2:D):eZ [x0,x1,x2]=cf (i9 [Y! (.val x0),Y! (.val x1),Y! (.val x2),AC,AC,AC,AC,AC,AC]):=c9 _ _ _ _ rfl
def cZ:SF:=(aN (bq 3<|aB eY<|ae (eV 0)<|ae (eV 1) az)<|aN (bq 4<|aB eZ<|ae (eV 0)<|ae (eV 3)<|ae (eV 2) az)<|aN (gO (tE<|eU fH<|eW 4) (aY<|eC<|.bl AT) bj)<|aY<|C9 (eB oEq (aB KB.bZ<|ae (eV 0)<|ae (eV 3)<|ae (eV 2) az)<|eW 4)<|eB oEq (aB KB.bQ<|ae (eV 0)<|ae (eV 3)<|ae (eV 2) az)<|eW 4)
def cI:Y' D->Res D:=fn 3 5 cZ
theorem k!(x0 x1 x2:D):cI [x0,x1,x2]=cf (cZ [Y! (.val x0),Y! (.val x1),Y! (.val x2),AC,AC]):=c9 _ _ _ _ rfl
def ie:SF:=(aN (yj 1<|EL [70,117,108,108] [[112,97,112,101,114]]<|ae (d?<|ae (eC<|.str [115,116,117,99,107])<|ae (eV 0) az) az)<|aN (yj 2<|EL [84,111,111,71,114,101,97,116] [[109,97,110,121],[109,111,115,116]]<|ae (eV 0)<|ae (eC<|.int 6) az)<|aN (gO (yc (tE<|eB qv (C8 1 [70,117,108,108] [112,97,112,101,114])<|d?<|ae (eC<|.str [115,116,117,99,107])<|ae (eV 0) az)<|yc (tE<|eB qv (C8 2 [84,111,111,71,114,101,97,116] [109,97,110,121])<|eW 0)<|tE<|eB qv (C8 2 [84,111,111,71,114,101,97,116] [109,111,115,116])<|eC<|.int 6) (aY<|eC<|.bl Z!) bj)<|BC (jy (EM [78,111,72,97,108,108]<|eC<|.str [120])<|jy (EM [78,111,71,114,111,117,112]<|eC<|.str [120])<|jy (EM [78,111,84,101,120,116]<|eC<|.str [120])<|jy (EM [78,111,83,101,97,116,105,110,103]<|eC<|.str [120])<|jy (EM [78,111,82,111,119]<|eC<|.str [120])<|jy (EM [78,111,78,97,109,101]<|eC<|.str [120])<|jy (EM [84,119,105,99,101]<|eC<|.str [120])<|jy (qV 1)<|jy (qV 2) HP)<|lM<|tE<|iC 0<|zW [([70,117,108,108],AT),([78,111,71,114,111,117,112],AT),([78,111,72,97,108,108],AT),([78,111,78,97,109,101],AT),([78,111,82,111,119],AT),([78,111,83,101,97,116,105,110,103],AT),([78,111,84,101,120,116],AT),([84,111,111,71,114,101,97,116],AT),([84,119,105,99,101],AT)])
def d9:Y' D->Res D:=fn 1 4 ie
theorem pP(x0:D):d9 [x0]=cf (ie [Y! (.val x0),AC,AC,AC]):=c9 _ _ _ _ rfl
def vR:SF:=(aN (EK (aB fY<|ae (eV 0) az)<|z_ [1,2])<|aN (gO (lM<|tE<|aB d9<|ae (eU b!<|eW 2) az) (aY<|eC<|.bl Z!) bj)<|aN (bq 3<|aB g?<|ae (eV 1)<|ae (eV 2)<|ae (aB KG.cE<|ae (eV 0)<|ae (eC<|.int 1) az) az)<|aN (bq 4<|aB g!<|ae (eV 1)<|ae (eV 2)<|ae (eV 3) az)<|aN (gO (tE<|eB qv (aB KB.j6<|ae (eV 1)<|ae (eV 2)<|ae (eV 3) az)<|eW 4) (aY<|eC<|.bl Z!) bj)<|aN (gO (tE<|eB E? (eW 4)<|eC<|.int 2000) (aN (jx (dX<|eC<|.int 6) (br 5)<|gO (lM<|tE<|aB d7<|ae (eV 5)<|ae (eV 1)<|ae (eV 2)<|ae (eV 3)<|ae (eV 4) az) (aY<|eC<|.bl Z!) bj)<|aY<|eC<|.bl AT) bj)<|aN (bq 6<|aB KC.a8<|ae (eV 1)<|ae (eV 2)<|ae (eV 3) az)<|aY<|C9 (KI (eU fH<|eW 6)<|eU (uR .tuple)<|eW 6)<|aB cI<|ae (eV 1)<|ae (eV 2)<|ae (eV 3) az)
def mV:Y' D->Res D:=fn 1 7 vR
theorem Ju(x0:D):mV [x0]=cf (vR [Y! (.val x0),AC,AC,AC,AC,AC,AC]):=c9 _ _ _ _ rfl
end n!
end
set_option maxRecDepth 8000
namespace n!
open Z KG KB KC
open KH
def aZ(R C:Nat):Rows:=Da R<|List.replicate C 46
theorem gc{R C:Nat}(h1:1<=R)(h2:R<=6)(h3:1<=C)(h4:C<=12):Hall (aZ R C) C:=
 ⟨by simp[aZ];lia,by simp[aZ];lia,h3,by lia,λ x hx=>by rw[List.eq_of_mem_replicate hx];simp⟩
theorem jP(R C:Nat):(aZ R C).length=R:=by simp[aZ]
theorem qU(R C:Nat)(p:Pl):bW (aZ R C) p=if 0<=p.1/\p.1<R/\0<=p.2/\p.2<C then Y! 46 else AC:=by
 unfold bW aZ;by_cases h:0<=p.1/\0<=p.2
 .rw[Z1 h,A15];by_cases h1:p.1<R
  .rw[Z1 (by lia)];simp only[A98,A15];by_cases h2:p.2<C
   .rw[Z1 (by lia),Z1 ⟨h.1,h1,h.2,h2⟩]
   .rw[v0 (by lia),v0 (by lia)]
  .rw[v0 (by lia),v0 (by lia)];rfl
 .rw[v0 h,v0 (by lia)]
theorem h9{g:G}{p s:Pl}:s∈seats g p↔(p.1<=s.1/\s.1<p.1+g.d)/\p.2<=s.2/\s.2<p.2+g.w:=by
 unfold seats iJ gw;simp only[A86,A09,A05];constructor
 .rintro⟨i,hi,j,hj,rfl⟩;dsimp only;lia
 .rintro⟨⟨h1,h2⟩,h3,h4⟩;refine⟨(s.1-p.1).toNat,by lia,(s.2-p.2).toNat,by lia,?_⟩
  ext<;>dsimp only<;>lia
structure Dg(g:G):Prop where
 kd:g.kind=[]
 wd:g.wide=0
 w1:1<=g.w
 w3:g.w<=3
 d1:1<=g.d
 d2:g.d<=2
 gp:g.gap<=2
 ws:∃(wt:Int)(ws:List Pl),ws.length<=6/\g.worth=.int wt/\g.iI=.tup (ws.map aW)
theorem Dg.ok{g:G}(h:Dg g):GrpG g:=
 ⟨⟨h.w1,by have:=h.w3;lia,h.d1,by have:=h.d2;lia,by rw[h.kd];simp,by rw[h.wd];simp,by have:=h.gp;lia⟩,by have:=h.w3;lia,by have:=h.d2;lia,.inl h.kd,by rw[h.wd];simp,by have:=h.gp;lia,h.ws⟩
theorem f_{R C:Nat}{g:G}(k:Dg g){p:Pl}:cF (aZ R C) g p=AT↔0<=p.1/\p.1+g.d<=R/\0<=p.2/\p.2+g.w<=C:=by
 unfold cF;rw[A17,A27];have w1:=k.w1;have d1:=k.d1;constructor
 .rintro⟨h,_⟩;have h1:=h p<|h9.mpr (by lia);have h2:=h (p.1+(g.d:Int)-1,p.2+(g.w:Int)-1)<|h9.mpr (by dsimp only;lia);rw[qU]at h1 h2;split at h1
  .split at h2
   .rename_i a b;dsimp only at a b;lia
   .cases h2
  .cases h1
 .intro h;refine⟨λ s hs=>?_,by rw[k.wd];simp⟩;have:=h9.mp hs;rw[qU,Z1 (by lia)];simp[hZ]
theorem vG(m:Nat):∀n:Nat,(Do n).countP (λ c=>decide<|c<m)=min m n
|0=>by simp
|n+1=>by
 rw[A76,YJ,vG m n];by_cases h:n<m
 .simp[h];lia
 .simp[h];lia
theorem Ak{R C:Nat}{g:G}(k:Dg g)(r:Nat):(i? r C).countP (cF (aZ R C) g)=if r+g.d<=R then C+1-g.w else 0:=by
 unfold i?;rw[List.countP_map];have w1:=k.w1;by_cases h:r+g.d<=R
 .rw[Z1 h];have:∀c∈Do C,((cF (aZ R C) g∘λ c:Nat=>(((r:Nat):Int),((c:Nat):Int))) c=AT↔(decide<|c<C+1-g.w)=AT):=λ c hc=>by rw[Function.comp_apply,f_ k,decide_eq_true_iff];dsimp only;lia
  rw[List.countP_congr this,vG];lia
 .rw[v0 h,List.countP_eq_zero];intro c _ e;rw[Function.comp_apply,f_ k]at e;dsimp only at e;lia
theorem rC{R C:Nat}{g:G}(k:Dg g):∀n:Nat,(gH n C).countP (cF (aZ R C) g)=min n (R+1-g.d)*(C+1-g.w)
|0=>by simp[gH]
|n+1=>by
 have ih:=rC k (R:=R) (C:=C) n;have d1:=k.d1;unfold gH at ih ⊢;rw[A76,YF,YJ,ih];simp only[YV,List.flatMap_nil,A53];rw[Ak k];by_cases h:n+g.d<=R
 .rw[Z1 h,show min (n+1) (R+1-g.d)=min n (R+1-g.d)+1 by lia,Nat.add_mul,Nat.one_mul]
 .rw[v0 h,show min (n+1) (R+1-g.d)=min n (R+1-g.d)by lia,Nat.add_zero]
theorem uG{R C:Nat}{g:G}(k:Dg g):(places (aZ R C) C g).length=(R+1-g.d)*(C+1-g.w):=by unfold places;rw[<-List.countP_eq_length_filter,rC k,jP];have d1:=k.d1;rw[show min R (R+1-g.d)=R+1-g.d by lia]
theorem Bm{α:Type}(f:α->Int):∀{l m:Y' α},l.length=m.length->(∀(i:Nat) a b,l[i]?=Y! a->m[i]?=Y! b->f a<=f b)->(l.map f).sum<=(m.map f).sum/\((l.map f).sum=(m.map f).sum->∀(i:Nat) a b,l[i]?=Y! a->m[i]?=Y! b->f a=f b)
|[],[],_,_=>⟨A83 _,λ _ i a b e=>nomatch e⟩
|[],_::_,h,_=>nomatch h
|_::_,[],h,_=>nomatch h
|a::l,b::m,h,k=>by
 obtain⟨h1,h2⟩:=Bm f (l:=l) (m:=m) (by simpa using h) λ i x y e1 e2=>k (i+1) x y e1 e2;have h0:=k 0 a b rfl rfl;simp only[Y7,ZC];refine⟨by lia,λ e i x y e1 e2=>?_⟩;cases i with
 |zero=>cases e1;cases e2;lia
 |succ i=>exact h2 (by lia) i x y e1 e2
open KH
def wl(R k:Nat)(g:G):Y' Pl:=if g.d<=R then[((R:Int)-g.d,1+(k:Int))]else[]
def jq(R k:Nat)(g:G):G:={g with worth:=.int 0,iI:=.tup<|(wl R k g).map aW}
theorem Eh{R k:Nat}{g:G}(h:Dg g):Dg (jq R k g):=
 ⟨h.kd,h.wd,h.w1,h.w3,h.d1,h.d2,h.gp,0,wl R k g,by unfold wl;split<;>simp,rfl,rfl⟩
theorem A!(R k:Nat)(g:G)(row:Int):x! (jq R k g) row=if g.d<=R/\row=(R:Int)-g.d then 1+(k:Int)else 0:=by
 unfold x! jq;dsimp only;rw[xY];unfold wl more PB;by_cases h:g.d<=R
 .rw[Z1 h];by_cases e:row=(R:Int)-g.d
  .simp[h,e]
  .have e':¬((R:Int)-g.d=row):=λ z=>e z.symm;simp[h,e,e']
 .rw[v0 h];simp[h]
structure Bh(R C:Nat)(xs zs:List GO)(k:Nat):Prop where
 gs:zs.map (·.1)=xs.map (·.1)
 rest:∀i:Nat,k<=i->zs[i]?=xs[i]?
 keep:∀(i:Nat)(g:G)(p:Pl),xs[i]?=Y! (g,Y! p)->zs[i]?=Y! (g,Y! p)
 good:Good (aZ R C) zs
 last:∀(i:Nat)(g:G),i<k->xs[i]?=Y! (g,AC)->∃c:Int,zs[i]?=Y! (g,Y! ((R:Int)-g.d,c)) /\
  ∀c':Int,cF (aZ R C) g ((R:Int)-g.d,c')=AT->(∀(j:Nat)(h:G)(q:Pl),j≠i->(j<i/\zs[j]?=Y! (h,Y! q)\/xs[j]?=Y! (h,Y! q))->bH g ((R:Int)-g.d,c') h q=AT)->c<=c'
theorem pM{α:Type}:∀{l m:Y' α},l.length=m.length->l=m\/∃(i:Nat)(a b:α),(∀j,j<i->l[j]?=m[j]?)/\l[i]?=Y! a/\m[i]?=Y! b/\a≠b
|[],[],_=>.inl rfl
|[],_::_,h=>nomatch h
|_::_,[],h=>nomatch h
|a::l,b::m,h=>by
 by_cases e:a=b
 .subst e;rcases pM (l:=l) (m:=m) (by simpa using h)with z|⟨i,x,y,h1,h2,h3,h4⟩
  .exact .inl (by rw[z])
  .refine .inr ⟨i+1,x,y,λ j hj=>?_,h2,h3,h4⟩;cases j with
   |zero=>rfl
   |succ j=>exact h1 j (by lia)
 .exact .inr ⟨0,a,b,λ j hj=>absurd hj (by lia),rfl,rfl,e⟩
section
variable {R C:Nat}{xs m:Y' GO}
theorem Cb{l l':Y' GO}(h:l.map (·.1)=l'.map (·.1)){i:Nat}{g:G}{o:Y_ Pl}(e:l[i]?=Y! (g,o)):∃o',l'[i]?=Y! (g,o'):=by have:=Y8 (·[i]?) h;simp only[Z3,e,A47]at this;obtain⟨⟨g',o'⟩,e1,e2⟩:=A19.mp this.symm;cases e2;exact⟨o',e1⟩
theorem i4(b:Bh R C xs m xs.length)(hW:∀(i:Nat)(g:G)(o:Y_ Pl),xs[i]?=Y! (g,o)->Dg g/\∀row:Int,x! g row=if g.d<=R/\row=(R:Int) - g.d then 1+(i:Int)else 0)
 {z:Y' GO}(ez:Ext xs z) (gz:Good (aZ R C) z):wS z<=wS m/\(wS z=wS m->Full z/\(z=m\/Ff m z)):=by
 have hl:z.length=m.length:=by rw[<-ez.len,sU b.gs]
 have pt:∀(i:Nat)(a c:GO),z[i]?=Y! a->m[i]?=Y! c->wO a<=wO c/\(wO a=wO c->a=c\/∃g c1 c2,xs[i]?=Y! (g,AC)/\a=(g,Y! ((R:Int) - g.d,c2))/\c=(g,Y! ((R:Int) - g.d,c1))):=by
  rintro i ⟨g,o⟩ ⟨g',o'⟩ e1 e2;obtain⟨o0,e0⟩:=Cb b.gs e2;obtain⟨o1,e3,e4⟩:=ez.at e0;rw[e1]at e3;cases e3;obtain⟨dg,hw⟩:=hW i g o0 e0;cases o0 with
  |some p=>have k1:=b.keep i g p e0;rw[e2]at k1;cases k1;have:=e4 p rfl;subst this;exact⟨A83 _,λ _=>.inl rfl⟩
  |none=>
   obtain⟨c1,e5,_⟩:=b.last i g (Y3.mp e0).1 e0;rw[e2]at e5;cases e5;have fr:=(f_ dg).mp (b.good i g _ e2).1;dsimp only at fr;have w2:wO (g,Y! ((R:Int)-(g.d:Int),c1))=1+(i:Int):=by show x! g ((R:Int)-(g.d:Int))=_;rw[hw,Z1 ⟨by lia,rfl⟩]
   rw[w2];cases o with
   |none=>have:wO (g,AC)=0:=rfl;rw[this];exact⟨by lia,λ e=>absurd e (by lia)⟩
   |some q=>
    have:wO (g,Y! q)=x! g q.1:=rfl;rw[this,hw];split
    .rename_i h;obtain⟨q1,q2⟩:=q;have h2:q1=(R:Int)-g.d:=h.2;subst h2;exact⟨A83 _,λ _=>.inr ⟨g,c1,q2,e0,rfl,rfl⟩⟩
    .exact⟨by lia,λ e=>absurd e (by lia)⟩
 obtain⟨h1,h2⟩:=Bm wO hl λ i a c e1 e2=>(pt i a c e1 e2).1;refine⟨h1,λ e=>?_⟩;have eq:=h2 e;have at_:∀(i:Nat)(a:GO),z[i]?=Y! a->∃c,m[i]?=Y! c:=λ i a e=>⟨_,M2 (by rw[<-hl];exact(Y3.mp e).1)⟩
 have fm:∀(i:Nat)(g:G),m[i]?≠Y! (g,AC):=λ i g e=>by
  obtain⟨o0,e0⟩:=Cb b.gs e;cases o0 with
  |some p=>have:=b.keep i g p e0;rw[e]at this;cases this
  |none=>obtain⟨c1,e5,_⟩:=b.last i g (Y3.mp e0).1 e0;rw[e]at e5;cases e5
 refine⟨λ i g e1=>?_,?_⟩
 .obtain⟨c,e2⟩:=at_ i _ e1;rcases(pt i _ c e1 e2).2 (eq i _ c e1 e2)with rfl|⟨g',c1,c2,_,q,_⟩
  .exact fm i g e2
  .cases q
 .rcases pM hl with z'|⟨i,a,c,h3,e1,e2,ne⟩
  .exact .inl z'
  .rcases(pt i a c e1 e2).2 (eq i a c e1 e2)with rfl|⟨g,c1,c2,e0,rfl,rfl⟩
   .exact absurd rfl ne
   .obtain⟨c0,e5,mn⟩:=b.last i g (Y3.mp e0).1 e0;rw[e2]at e5;cases e5;have gi:=gz i g _ e1;have le:=mn c2 gi.1 λ j h q hj hh=>by
     rcases hh with⟨lt,hh⟩|hh
     .rw[<-h3 j lt]at hh;exact gi.2 j h q hh hj
     .exact gi.2 j h q (ez.sub j h q hh) hj
    have qf:c1≠c2:=λ z=>ne (by rw[z]);exact .inr ⟨i,g,_,_,λ j hj=>(h3 j hj).symm,e2,e1,.inr ⟨rfl,by show c1<c2;lia⟩⟩
theorem vN(hR:1<=R)(rj:R<=6)(hC:1<=C)(ji:C<=12)(h6:xs.length<=6)(b:Bh R C xs m xs.length)(hW:∀(i:Nat)(g:G)(o:Y_ Pl),xs[i]?=Y! (g,o)->Dg g/\∀row:Int,x! g row=if g.d<=R/\row=(R:Int) - g.d then 1+(i:Int)else 0)
 (hk:Good (aZ R C) xs) (hw:cG (aZ R C) C xs<=2000){fd:D}(ef:KB.aQ [bg (aZ R C),aL xs,fd]=.ok (aG xs)) :
 Full m/\KB.bZ [bg (aZ R C),aL xs,fd]=.ok (aG m)/\KB.bQ [bg (aZ R C),aL xs,fd]=.ok (aG m):=by
 have H:=gc hR rj hC ji;have hd:∀x∈xs,Dg x.1:=λ x hx=>by obtain⟨i,e⟩:=A68 hx;exact(hW i x.1 x.2 e).1
 have hg:∀x∈xs,GrpG x.1:=λ x hx=>(hd x hx).ok;have z7:∀x∈xs,GOk x.1:=λ x hx=>(hg x hx).toGOk;have em:Ext xs m:=⟨b.gs.symm,b.keep⟩
 have fm:Full m:=(i4 b hW em b.good).2 rfl |>.1
 have bm:DD (aZ R C) C xs m:=⟨em,b.good,fm,λ z ez gz fz=>⟨(i4 b hW ez gz).1,λ e=>((i4 b hW ez gz).2 e).2⟩⟩
 refine⟨fm,?_,?_⟩
 .rw[AB H h6 hg hk hw ef];have mi:=vg H z7 em b.good fm;cases e:b? (aZ R C) C Z! xs xs.length with
  |nil=>rw[e]at mi;cases mi
  |cons b' r=>have:=bm.uniq<|Gp H z7 hk e;show Res.ok (aG<|bX AT wS b' r)=_;rw[this]
 .have hi:=j0 (C:=C) (sm:=AT) hk<|Z0 xs.length;have so:=jv (C:=C) (sm:=AT) hk<|Z0 xs.length;have fr:=tu (sm:=AT) H h6 z7 hk hw;have sm:=oV H h6 z7 ef hw;have mi:=oZ (sm:=AT) H z7 em b.good<|.inl rfl;cases e:b? (aZ R C) C AT xs xs.length with
  |nil=>rw[e]at mi;cases mi
  |cons b' r=>
   rw[e]at hi so fr mi;have am:=vS h6 hg λ z hz=>(hi z hz).gs;have mem:bX AT wS b' r∈b'::r:=by
    rcases j2 r b' with h|h
    .rw[h];exact Z7
    .exact Y6 _ h
   obtain⟨h1,h2⟩:=f? (w:=wS) r b';have up:wS m<=wS (bX AT wS b' r):=by
    rcases Y2.mp mi with rfl|h
    .exact h1
    .exact h2 m h
   have cm:=i4 b hW (hi _ mem).ext (hi _ mem).good;have we:wS (bX AT wS b' r)=wS m:=by have:=cm.1;lia
   have eq:bX AT wS b' r=m:=by
    rcases(cm.2 we).2 with z|z
    .exact z
    .rcases o8 so m mi we.symm with y|y
     .exact y.symm
     .exact(yB fm (cm.2 we).1 z y).elim
   rw[n0];refine a9 ?_;simp only[Y7]at am fr;simp[gG,sm,fr,am,eq]
end
set_option maxHeartbeats 1000000
open KH
theorem md(x b:Int)(h:0<b):oMod (.int x) (.int b)=.ok (.int<|x % b):=guard_pos h
theorem dv(x b:Int)(h:0<b)(h2:b<1000):oDiv (.int x) (.int b)=.ok (.int<|x / b):=by show guard (mj b) (Res.ok<|D.int<|x / b)=_;exact guard_pos ⟨h,Int.lt_trans h2 (by decide)⟩
theorem Jv(a b:Int):oEq (.int a) (.int b)=.ok (.bl<|decide<|a=b):=by by_cases h:a=b<;>simp[oEq,ij,eP,AO,h]
theorem HI(c n:Nat)(h:n<=16777216):wX (.str [c]) (.int (n:Nat))=.ok (.str<|List.replicate n c):=by rw[Ip,guard_pos (by simp;lia)];simp
theorem zE(n:Nat):«zints» 0 n=(Do n).map λ k=>D.int (k:Nat):=by rw[ints_map];refine B12 λ k _=>?_;simp
theorem Dc{ns:Y' Int}(hb:Bd ns):∃(R C:Nat)(gs:Y' G),1<=R/\R<=6/\1<=C/\C<=12/\2<=gs.length/\gs.length<=6/\(∀g∈gs,Dg g)/\fY [.lst (ns.map .int)]=.ok (.tup [bg (aZ R C),.tup (gs.map bf)]):=by
 obtain⟨c0,W3,_⟩:=tO hb (k:=0) (by decide);obtain⟨R,hR⟩:∃R:Nat,1+c0 % 6=(R:Int):=⟨(1+c0 % 6).toNat,by lia⟩
 obtain⟨C,hC⟩:∃C:Nat,1+c0 / 6 % 12=(C:Int):=⟨(1+c0 / 6 % 12).toNat,by lia⟩
 obtain⟨n,hn⟩:∃n:Nat,2+c0 / 72 % 5=(n:Int):=⟨(2+c0 / 72 % 5).toNat,by lia⟩
 have rj:R<=6:=by lia
 have ji:C<=12:=by lia
 have XX:n<=6:=by lia
 have n8:B4 (.int 8)=.ok (.int<|-8):=rfl;have key:Ok (cf<|hJ [v (.lst<|ns.map .int),AC,AC,AC,AC,AC,AC]) λ d=>∃gs:Y' G,gs.length=n/\(∀g∈gs,Dg g)/\d=.tup [bg (aZ R C),.tup (gs.map bf)]:=by
  refine wI ?_;have cm:bY (dX<|eB bS (eC<|.int 1)<|eB oMod (eW 1)<|eC<|.int 6) 1 [1] (br 0) fi (eB wX (eC<|.str [46])<|eB bS (eC<|.int 1)<|eB oMod (eB oDiv (eW 1)<|eC<|.int 6)<|eC<|.int 12) [v (.lst<|ns.map .int),vi c0,AC,AC,AC,AC,AC]=.ok ((aZ R C).map .str):=by
   refine Ok.eq ?_;simp[cY,line,fL,dF,md c0 6 (by decide),hR,show R<=16777216 by lia];rw[zE];refine dt (λ k:Nat=>D.int (k:Nat)) (λ _=>AT) (λ _=>D.str<|List.replicate C 46) (xs:=Do R) (λ k hk=>?_) ?_
   .simp[dv c0 6 (by decide) (by decide),md (c0 / 6) 12 (by decide),hC,HI 46 C (by lia)]
   .rw[pR];simp[aZ,List.map_const']
  simp[hJ,W3,cm,dv c0 72 (by decide) (by decide),md (c0 / 72) 5 (by decide),hn,show n<=16777216 by lia];rw[zE];refine fJ (λ i ρ=>∃(x4 x5 x6:Y_ L)(gs:Y' G),ρ=[v (.lst<|ns.map .int),vi c0,v (.tup<|(aZ R C).map .str),Y! (.own<|gs.map bf),x4,x5,x6]/\gs.length=i/\∀g∈gs,Dg g) ⟨AC,AC,AC,[],rfl,rfl,λ g h=>nomatch h⟩ ?_ ?_
  .rintro j d ρ hj ⟨x4,x5,x6,gs,rfl,hl,hg⟩;rw[Z3]at hj;obtain⟨k,hk,rfl⟩:=A19.mp hj;obtain⟨h1,h2⟩:=Y3.mp hk;rw[A08]at h1;rw[A56]at h2;subst h2;obtain⟨c,ec,_⟩:=tO hb (k:=2+(j:Nat)) (by lia);obtain⟨w,hw⟩:∃w:Nat,1+c % 3=(w:Int):=⟨(1+c % 3).toNat,by lia⟩
   obtain⟨dd,hd⟩:∃d:Nat,1+c / 3 % 5 / 4=(d:Int):=⟨(1+c / 3 % 5 / 4).toNat,by lia⟩
   obtain⟨gp,We⟩:∃g:Nat,c / 15 % 3=(g:Int):=⟨(c / 15 % 3).toNat,by lia⟩
   obtain⟨Kg,e1⟩:∃nm,cut [97,98,99,100,101,102,103,104] AC (Y!<|1+c0 / 360 % 8)=nm:=⟨_,rfl⟩
   have OV:Kg.length<=8:=by rw[<-e1];exact ml _ _ _
   obtain⟨u,hu⟩:∃u:Nat,a! (.str [117,118,119,120,121,122]) (.int (j:Nat))=.ok (.str [u]):=by obtain⟨c,_,e⟩:=xh (cs:=[117,118,119,120,121,122]) (i:=(j:Int)) (by lia) (by simp;lia) (by decide);exact⟨c,e⟩
   have ad:bS (.str Kg) (.str [u])=.ok (.str<|Kg++[u]):=by show guard _ _=_;exact guard_pos (by simp[line];lia)
   have sl:GX (.str<|Kg++[u]) (Y!<|-8) AC=.ok (.str<|cut (Kg++[u]) (Y!<|-8) AC):=E7 _ _ _ (by simp[line];lia);simp[ec,dv c0 360 (by decide) (by decide),md (c0 / 360) 8 (by decide),e1,hu,ad,n8,sl,md c 3 (by decide),hw,dv c 3 (by decide) (by decide),md (c / 3) 5 (by decide),dv (c / 3 % 5) 4 (by decide) (by decide),hd,dv c 15 (by decide) (by decide),md (c / 15) 3 (by decide),We,dv c 45 (by decide) (by decide),md (c / 45) 4 (by decide)];have z5:line=16777216:=rfl;refine⟨by lia,by lia,by lia,by lia,_,_,_,gs++[⟨cut (Kg++[u]) (Y!<|-8) AC,w,dd,[],0,gp,.int<|c / 45 % 4,.tup []⟩],⟨by simp[bf],rfl,rfl,rfl⟩,by simp[hl],λ g h=>?_⟩;rcases A42.mp h with h|h
   .exact hg g h
   .rw[A03.mp h];exact⟨rfl,rfl,by dsimp only;lia,by dsimp only;lia,by dsimp only;lia,by dsimp only;lia,by dsimp only;lia,c / 45 % 4,[],by decide,rfl,rfl⟩
  .rintro ρ ⟨x4,x5,x6,gs,rfl,hl,hg⟩;rw[v4,A08]at hl;simp;exact⟨by decide,gs,hl,hg,rfl,rfl⟩
 obtain⟨d,e,gs,h1,h2,rfl⟩:=key;exact⟨R,C,gs,by lia,rj,by lia,ji,by lia,by lia,h2,by rw[tD];exact e⟩
theorem rk{rows:Rows}{xs:Y' GO}{g:G}{o:Y_ Pl}(h:Good rows xs)(hn:∀p,o=Y! p->cF rows g p=AT/\∀(j:Nat)(k:G)(q:Pl),xs[j]?=Y! (k,Y! q)->bH g p k q=AT):Good rows (xs++[(g,o)]):=by
 have at_:∀{i:Nat}{x:GO},(xs++[(g,o)])[i]?=Y! x->xs[i]?=Y! x\/i=xs.length/\x=(g,o):=λ {i x} e=>by
  by_cases hi:i<xs.length
  .rw[A16 hi]at e;exact .inl e
  .rw[A26 (by lia)]at e;have:i=xs.length:=by have:=(Y3.mp e).1;simp at this;lia
   subst this;simp at e;exact .inr ⟨rfl,e.symm⟩
 intro i k p e;rcases at_ e with e0|⟨hi,e2⟩
 .refine⟨(h i k p e0).1,λ j l q ej hj=>?_⟩;rcases at_ ej with ej|⟨_,e2⟩
  .exact(h i k p e0).2 j l q ej hj
  .cases e2;rw[m7];exact(hn q rfl).2 i k p e0
 .cases e2;refine⟨(hn p rfl).1,λ j l q ej hj=>?_⟩;rcases at_ ej with ej|⟨OW,_⟩
  .exact(hn p rfl).2 j l q ej
  .exact absurd (OW.trans hi.symm) hj
theorem FX {R C:Nat} (hR:1<=R) (rj:R<=6) (hC:1<=C) (ji:C<=12) {gs:Y' G} (h6:gs.length<=6) (hg:∀ g∈gs,Dg g) (c:Int) :
 ∃xs:Y' GO,xs.map (·.1)=gs/\Good (aZ R C) xs/\g? [bg (aZ R C),.tup (gs.map bf),.int c]=.ok (aG xs):=by
 have H:=gc hR rj hC ji;obtain⟨row,CA,er⟩:=H.BE;have ς:b! (bg<|aZ R C)=.ok (.int R):=by simp[bg,jP]
 have key:Ok (cf<|i8 [v (bg<|aZ R C),v (.tup<|gs.map bf),vi c,AC,AC,AC,AC,AC,AC,AC,AC,AC,AC,AC,AC]) λ d=>∃ xs:Y' GO,xs.map (·.1)=gs/\Good (aZ R C) xs/\d=aG xs:=by
  refine wI ?_;simp[i8,show gs.length<=16777216 by lia];rw[zE];refine fJ (λ i ρ=>∃(x5 x6 x7 x8 x9 Pz Py Px Pw Pu:Y_ L)(xs:Y' GO)(col:Int),ρ=[v (bg<|aZ R C),v (.tup<|gs.map bf),vi c,vi col,Y! (.own<|xs.map λ x=>bE x.2),x5,x6,x7,x8,x9,Pz,Py,Px,Pw,Pu]/\xs.map (·.1)=gs.take i/\Good (aZ R C) xs/\0<=col/\col<=C/\∀x∈xs,∀p,x.2=Y! p->p.1=0/\0<=p.2/\p.2+x.1.w<=col)
   ⟨AC,AC,AC,AC,AC,AC,AC,AC,AC,AC,[],0,rfl,rfl,(by intro i g p e;simp at e),by lia,by lia,by simp⟩ ?_ ?_
  .rintro j d ρ hj ⟨x5,x6,x7,x8,x9,Pz,Py,Px,Pw,Pu,xs,col,rfl,hm,FF,h0,Kw,hp⟩;rw[Z3]at hj;obtain⟨k,hk,rfl⟩:=A19.mp hj;obtain⟨h1,h2⟩:=Y3.mp hk;rw[A08]at h1;rw[A56]at h2;subst h2;obtain⟨g,eg⟩:∃g,gs[j]?=Y! g:=⟨_,M2 h1⟩
   have dg:=hg g<|A01 eg;have ix:a! (.tup<|gs.map bf) (.int (j:Nat))=.ok (bf g):=(ja (xs:=gs.map bf) (i:=j) (j:=j) rfl (by rw[Z3,eg];rfl)).1;have gS:∀ρ:Env,z_ [6,7,8,9,10,11,12,13] (bf g) ρ=.ok ((((((((ρ.set 6<|v<|.str g.name).set 7<|vi g.w).set 8<|vi g.d).set 9<|v<|.str g.kind).set 10<|vi g.wide).set 11<|vi g.gap).set 12<|v g.worth).set 13<|v g.iI):=λ _=>rfl;have MC:gs.take (j+1)=gs.take j++[g]:=by rw[B17,eg];rfl
   have Q!:xs.length=j:=by have:=Y8 List.length hm;rw[v4,A00]at this;lia
   obtain⟨e,he,TJ⟩:∃e:Int,a! (.lst [.int 1,.int 2,.int 4,.int 8,.int 16,.int 32]) (.int (j:Nat))=.ok (.int e)/\0<e/\e<1000:=by obtain⟨d,hd,e,_⟩:=Fq (xs:=[.int 1,.int 2,.int 4,.int 8,.int 16,.int 32]) (i:=(j:Int)) (by lia) (by simp;lia);simp only[Y2,A12,A22]at hd;rcases hd with rfl|rfl|rfl|rfl|rfl|rfl<;>exact⟨_,e,by decide,by decide⟩
   obtain⟨th,OR⟩:∃th:Int,col+2*(if 0<col then 1 else 0)=th:=⟨_,rfl⟩
   have W':nR (.int 2) (.int<|if 0<col then 1 else 0)=.ok (.int<|2*(if 0<col then 1 else 0)):=by show guard _ _=_;exact guard_pos<|Or.inr<|Or.inl ⟨by split<;>decide,by split<;>decide⟩
   have ei:wZ (.bl<|decide<|0<col)=.ok (.int<|if 0<col then 1 else 0):=by by_cases h:0<col<;>simp[h,wZ]
   have M9:b! (.str row)=.ok (.int C):=by simp[CA];exact guard_pos (by have:line=16777216:=rfl;lia)
   simp[ix,gS,he,ei,W',OR,dv c e TJ.1 TJ.2,md (c / e) 8 (by decide),Jv,er,M9,ς];have z5:line=16777216:=rfl;have OU:∀o:Y_ Pl,(xs++[(g,o)]).map (·.1)=gs.take (j+1):=λ o=>by rw[MC,A91,hm];rfl
   have gn:Good (aZ R C) (xs++[(g,AC)]):=rk FF λ p e=>nomatch e
   have pn:∀(a:G)(b:Y_ Pl),(a,b)∈xs++[(g,AC)]->∀(p1 p2:Int),b=Y! (p1,p2)->p1=0/\0<=p2/\p2+(a.w:Int)<=col:=λ a b RR p1 p2 e=>by
    rcases A42.mp RR with z|z
    .exact hp _ z (p1,p2) e
    .cases A03.mp z;cases e
   refine⟨by lia,?_⟩;split
   .split
    .split
     .rename_i _ q2 q3;have w1:=dg.w1;have SW:0<=th:=by rw[<-OR];split<;>lia
      refine⟨by lia,by lia,_,_,_,_,_,_,_,_,_,_,xs++[(g,Y! (0,th))],_,⟨rfl,by simp,rfl,rfl,rfl,rfl,rfl,rfl,rfl,rfl,rfl,rfl⟩,OU _,rk FF ?_,by lia,q2,?_⟩
      .intro p e;cases e;refine⟨(f_ dg).mpr ⟨by simp,by simp;exact q3,SW,q2⟩,λ i k q ei=>?_⟩;obtain⟨a1,a2,a3⟩:=hp _ (A01 ei) q rfl;have dk:Dg k:=hg k (by
        have:k∈gs.take j:=by rw[<-hm];exact A09.mpr ⟨_,A01 ei,rfl⟩
        exact List.mem_of_mem_take this)
       have k1:=dk.w1;have k2:=dk.gp;have k3:=dg.gp;have cp:0<col:=by dsimp only at a3;lia
       rw[Z1 cp]at OR;dsimp only at a3;refine decide_eq_true<|.inr<|.inr<|.inr ?_;show q.2+(k.w:Int)+max (g.gap:Int) (k.gap:Int)<=th;lia
      .intro a b RR p1 p2 e;rcases A42.mp RR with z|z
       .obtain⟨a1,a2,a3⟩:=hp _ z (p1,p2) e;dsimp only at a1 a2 a3;refine⟨a1,a2,?_⟩;have:col<=th:=by rw[<-OR];split<;>lia
        lia
       .cases A03.mp z;cases e;exact⟨rfl,SW,A83 _⟩
     .exact⟨by lia,_,_,_,_,_,_,_,_,_,_,xs++[(g,AC)],_,⟨rfl,by simp[bE],rfl,rfl,rfl,rfl,rfl,rfl,rfl,rfl,rfl,rfl⟩,OU _,gn,h0,Kw,pn⟩
    .exact⟨by lia,_,_,_,_,_,_,_,_,_,_,xs++[(g,AC)],_,⟨rfl,by simp[bE],rfl,rfl,rfl,rfl,rfl,rfl,rfl,rfl,rfl,rfl⟩,OU _,gn,h0,Kw,pn⟩
   .exact⟨by lia,_,_,_,_,_,_,_,_,_,_,xs++[(g,AC)],_,⟨rfl,by simp[bE],rfl,rfl,rfl,rfl,rfl,rfl,rfl,rfl,rfl,rfl⟩,OU _,gn,h0,Kw,pn⟩
  .rintro ρ ⟨x5,x6,x7,x8,x9,Pz,Py,Px,Pw,Pu,xs,col,rfl,hm,FF,h0,Kw,hp⟩;rw[v4,A08,A81]at hm;simp;exact⟨xs,hm,FF,rfl⟩
 obtain⟨d,e,xs,h1,h2,rfl⟩:=key;exact⟨xs,h1,h2,by rw[vp];exact e⟩
open KH
theorem A8{R C:Nat}(hR:1<=R)(rj:R<=6)(hC:1<=C)(ji:C<=12){xs:Y' GO}(h6:xs.length<=6)(hg:∀x∈xs,Dg x.1):g! [bg (aZ R C),aL xs,aG xs]=.ok (.int<|cG (aZ R C) C xs):=by
 have H:=gc hR rj hC ji;obtain⟨row,CA,er⟩:=H.BE;have z5:line=16777216:=rfl;have ς:b! (bg<|aZ R C)=.ok (.int R):=by simp[bg,jP]
 have M9:b! (.str row)=.ok (.int C):=by simp[CA];exact guard_pos (by lia)
 rw[vo];refine a9 ?_;simp[lx];unfold aL aG at *;simp[zip_map];refine fJ (λ i ρ=>∃(x4 x5:Y_ L),ρ=[v (bg<|aZ R C),v (.tup<|xs.map λ x=>bf x.1),v (.tup<|xs.map λ x=>bE x.2),vi (dS ((xs.take i).map<|hX (aZ R C) C):Nat),x4,x5]) ⟨AC,AC,rfl⟩ ?_ ?_
 .rintro j d ρ hj ⟨x4,x5,rfl⟩;rw[Z3]at hj;obtain⟨⟨g,o⟩,hx,rfl⟩:=A19.mp hj;have gX:∀ρ:Env,iT [4,5] (.tup [bf g,bE o]) ρ=.ok ((ρ.set 4<|v<|bf g).set 5<|v<|bE o):=λ ρ=>rfl;rw[jY hx];generalize dS ((xs.take j).map<|hX (aZ R C) C)=m;have dg:=hg _<|A01 hx;cases o with
  |some p=>have en:fH (aW p)=.ok (.bl Z!):=rfl;simp[gX,bE,en,hX]
  |none=>
   have w1:=dg.w1;have d1:=dg.d1;have pl:=uG (R:=R) (C:=C) dg;rw[show hX (aZ R C) C (g,AC)=(places (aZ R C) C g).length+1 from rfl,pl];have i1:a! (bf g) (.int 1)=.ok (.int g.w):=rfl;have i2:a! (bf g) (.int 2)=.ok (.int g.d):=rfl;have e1:max (0:Int) ((C:Int)+1-(g.w:Int))=((C+1-g.w:Nat):Int):=by lia
   have e2:max (0:Int) ((R:Int)+1-(g.d:Int))=((R+1-g.d:Nat):Int):=by lia
   generalize hA:C+1-g.w=A at e1 ⊢;generalize hB:R+1-g.d=B at e2 ⊢;have bA:A<=12:=by lia
   have bB:B<=6:=by lia
   have X7:A*B<=12*6:=B05 bA bB;have q0:j4 (A:Int) (B:Int):=Tl<|Or.inl ⟨by lia,by lia⟩;have nn:(0:Int)<=(A:Int)*(B:Int):=Int.mul_nonneg (by lia) (by lia);have uu:(A:Int)*(B:Int)<=72:=by rw[<-Int.natCast_mul];lia
   have q1:j4 (m:Int) (1+(A:Int)*(B:Int)):=Tl<|Or.inl ⟨by lia,by lia⟩;simp[gX,bE,er,M9,ς,i1,i2,e1,e2,q0,q1];rw[Int.mul_comm (A:Int),Int.add_comm]
 .rintro ρ ⟨x4,x5,rfl⟩;rw[v4,A81];simp[cG]
abbrev Nz(n:Nat):XN:=([84,111,111,71,114,101,97,116],[([109,97,110,121],.int (n:Nat)),([109,111,115,116],.int 2000)])
section
variable {rows:Rows}{C:Nat}{xs:Y' GO}
theorem IA(H:Hall rows C)(h6:xs.length<=6)(hg:∀x∈xs,GOk x.1)(hk:Good rows xs):bP [bg rows,aL xs,aG xs]=AC:=by rw[mS];have ke:=Cr H h6 hg hk;have hN:fH (aG xs)=.ok (.bl Z!):=rfl;simp[fC,c!,og,uc,rQ,hN,ke]
theorem Iy(H:Hall rows C)(h6:xs.length<=6)(hg:∀x∈xs,GOk x.1)(hk:Good rows xs):oA [bg rows,aL xs,aG xs]=AC:=by have nf:=IA H h6 hg hk;rw[CK];unfold rP c!;simp[og,t7,bL,nf];split<;>rfl
theorem Eb(H:Hall rows C)(h6:xs.length<=6)(hg:∀x∈xs,GOk x.1)(hk:Good rows xs)(hw:2000<cG rows C xs):bN [bg rows,aL xs,aG xs]=Y! (Nz<|cG rows C xs):=by
 have nw:=Iy H h6 hg hk;have w:=rR H h6 hg<|mY H h6 hg hk;have gt:(2000:Int)<(cG rows C xs:Nat):=by lia
 rw[nW];simp[gj,c!,bL,nw,w,uc,gt,n_,Nz]
variable (h:bN [bg rows,aL xs,aG xs]=Y! c)
include h
theorem xX:cP [bg rows,aL xs,aG xs]=Y! c:=by rw[mR];simp[fB,c!,t7,bL,h]
theorem KZ:dZ [bg rows,aL xs,aG xs]=Y! c:=by rw[nX];simp[gm,c!,t7,bL,h]
theorem A1:cQ [bg rows,aL xs,aG xs]=Y! c:=by rw[mT];simp[fD,c!,t7,bL,h]
theorem xW:dh [bg rows,aL xs,aG xs]=Y! c:=by rw[pI];simp[hV,c!,t7,bL,A1 h]
theorem Hm:iU [bg rows,aL xs,aG xs]=Y! c:=by rw[vf];simp[kH,c!,t7,bL,xW h]
theorem Ec:gZ [bg rows,aL xs,aG xs]=Y! c:=by rw[tj];simp[jo,c!,t7,bL,xX h]
theorem Ed{w:Nat}(hw:w<6):fX [.int (w:Nat),bg rows,aL xs,aG xs]=Y! c:=by
 rw[qz];have b1:=xX h;have b2:=Ec h;have b3:=KZ h;have b4:=A1 h;have b5:=xW h;have b6:=Hm h
 match w,hw with
 |0,_=>simp[cb,c!,og,uc,bL,Jv,b1]
 |1,_=>simp[cb,c!,og,uc,bL,Jv,b2]
 |2,_=>simp[cb,c!,og,uc,bL,Jv,b3]
 |3,_=>simp[cb,c!,og,uc,bL,Jv,b4]
 |4,_=>simp[cb,c!,og,uc,bL,Jv,b5]
 |5,_=>simp[cb,c!,og,uc,bL,Jv,b6]
end
theorem Az(n:Nat):b9 (Nz n)=.ok (.bl AT):=by rw[jl];refine a9 ?_;simp[cw,iC,v3,Nz]
theorem wJ{rows:Rows}{C:Nat}{xs:Y' GO}{n:Nat}(h:bN [bg rows,aL xs,aG xs]=Y! (Nz n)){w:Nat}(hw:w<6):d7 [.int (w:Nat),bg rows,aL xs,aG xs,.int (n:Nat)]=.ok (.bl AT):=by
 have xa:=Ed h hw;have ap:=Az n;have t1:mK .bool (.int (n:Nat))=Z!:=rfl;have t2:mK .bool (.int 2000)=Z!:=rfl;have eq:oEq (.lst [.bl AT,.int (n:Nat),.int 2000,.bl Z!,.bl Z!]) (.lst [.bl AT,.int (n:Nat),.int 2000,.bl Z!,.bl Z!])=.ok (.bl AT):=by simp[oEq,ij,eP,allEq,AO]
 rw[pO];refine a9 ?_;simp[ic,EJ,bL,xa,tI,ap,C8,t1,t2,eq,Gc,line]
theorem FK(n:Nat):d9 [.int (n:Nat)]=.ok (.bl AT):=by
 rw[pP];refine a9 ?_;have e1:qv (.tup [.str [115,116,117,99,107],.int (n:Nat)]) (.tup [.str [115,116,117,99,107],.int (n:Nat)])=.ok (.bl Z!):=by simp[qv,ij,eP,allEq,AO]
 have e2:qv (.int (n:Nat)) (.int (n:Nat))=.ok (.bl Z!):=by simp[qv,ij,eP,allEq,AO]
 have e3:qv (.int 6) (.int 6)=.ok (.bl Z!):=by simp[qv,ij,eP,allEq,AO]
 simp[ie,yj,EL,C8,Gc,line,e1,e2,e3,BC,jy,HP,EM,qV];have e9:Do 9=[0,1,2,3,4,5,6,7,8]:=rfl;simp[e9,b_,gQ,iC,zW,Gc]
open KH
def gq(R:Nat):Nat->Y' G->Y' G
|_,[]=>[]
|k,g::gs=>jq R k g::gq R (k+1) gs
theorem uh(R:Nat):∀(gs:Y' G)(k i:Nat),(gq R k gs)[i]?=(gs[i]?).map (jq R<|k+i)
|[],k,i=>by simp[gq]
|g::gs,k,i=>by
 cases i with
 |zero=>simp[gq]
 |succ i=>simp[gq,uh R gs (k+1) i,A66,Nat.add_left_comm]
theorem qM(R:Nat):∀(gs:Y' G)(k:Nat),(gq R k gs).length=gs.length
|[],k=>rfl
|g::gs,k=>by simp[gq,qM R gs]
theorem zr{R C:Nat}(rj:R<=6){gs:Y' G}(h6:gs.length<=6)(hg:∀g∈gs,Dg g):eY [bg (aZ R C),.tup (gs.map bf)]=.ok (.tup<|(gq R 0 gs).map bf):=by
 have z5:line=16777216:=rfl;have ς:b! (bg<|aZ R C)=.ok (.int R):=by simp[bg,jP]
 rw[qF];refine a9 ?_;simp[i7,show gs.length<=16777216 by lia];rw[zE];refine fJ (λ i ρ=>∃(x3 x4:Y_ L),ρ=[v (bg<|aZ R C),v (.tup<|gs.map bf),Y! (.own<|((gq R 0 gs).take i).map bf),x3,x4]) ⟨AC,AC,rfl⟩ ?_ ?_
 .rintro j d ρ hj ⟨x3,x4,rfl⟩;rw[Z3]at hj;obtain⟨k,hk,rfl⟩:=A19.mp hj;obtain⟨h1,h2⟩:=Y3.mp hk;rw[A08]at h1;rw[A56]at h2;subst h2;obtain⟨g,eg⟩:∃g,gs[j]?=Y! g:=⟨_,M2 h1⟩
  have dg:=hg g<|A01 eg;have ix:a! (.tup<|gs.map bf) (.int (j:Nat))=.ok (bf g):=(ja (xs:=gs.map bf) (i:=j) (j:=j) rfl (by rw[Z3,eg];rfl)).1;have i2:a! (bf g) (.int 2)=.ok (.int g.d):=rfl;have sl:GX (bf g) AC (Y! 6)=.ok (.tup [.str g.name,.int g.w,.int g.d,.str g.kind,.int g.wide,.int g.gap]):=rfl;have ad:∀d:D,bS (.tup [.str g.name,.int g.w,.int g.d,.str g.kind,.int g.wide,.int g.gap]) (.tup [.int 0,d])=.ok (.tup [.str g.name,.int g.w,.int g.d,.str g.kind,.int g.wide,.int g.gap,.int 0,d]):=λ d=>by show guard _ _=_;exact guard_pos (by simp[line])
  have MC:(gq R 0 gs).take (j+1)=(gq R 0 gs).take j++[jq R j g]:=by rw[B17,uh,eg];simp
  have iS:((gq R 0 gs).take j).length<line:=by rw[A00];lia
  by_cases hd:g.d<=R
  .simp[ς,ix,i2,hd,sl,ad,MC,iS];refine⟨by lia,by lia,by lia,by rw[A00]at iS;exact iS,by simp[bf,jq,wl,hd]⟩
  .simp[ς,ix,i2,hd,sl,ad,MC,iS];refine⟨by lia,by rw[A00]at iS;exact iS,by simp[bf,jq,wl,hd]⟩
 .rintro ρ ⟨x3,x4,rfl⟩;rw[v4,A08,B58 (by rw[qM];exact Z0 _)];simp
open KH
theorem Bh.skip{R C:Nat}{xs zs:Y' GO}{k:Nat}(b:Bh R C xs zs k){g:G}{p:Pl}(e:xs[k]?=Y! (g,Y! p)):Bh R C xs zs (k+1):=
 ⟨b.gs,λ i hi=>b.rest i (by lia),b.keep,b.good,λ i h hi ei=>by
  have:i≠k:=λ z=>by subst z;rw[e]at ei;cases ei
  exact b.last i h (by lia) ei⟩
theorem Bh.put{R C:Nat}{xs zs:Y' GO}{k:Nat}(b:Bh R C xs zs k){g:G}(dg:Dg g)(e:xs[k]?=Y! (g,AC)){c:Nat}(hd:g.d<=R)(hc:c+g.w<=C)(op:openAt zs g k ((R:Int) - g.d,(c:Int))=AT)
 (mn:∀c':Nat,c'<c->openAt zs g k ((R:Int)-g.d,(c':Int))=Z!):Bh R C xs (zs.set k (g,Y! ((R:Int)-g.d,(c:Int)))) (k+1):=by
 have ek:zs[k]?=Y! (g,AC):=by rw[b.rest k<|Z0 k];exact e
 have hk:=(Y3.mp ek).1;have self:(zs.set k (g,Y! ((R:Int)-g.d,(c:Int))))[k]?=Y! (g,Y! ((R:Int)-g.d,(c:Int))):=A25 hk;have other:∀j,j≠k->(zs.set k (g,Y! ((R:Int)-g.d,(c:Int))))[j]?=zs[j]?:=λ j hj=>A14<|P3 hj;have DQ:=eI.mp op;refine⟨?_,λ i hi=>?_,λ i h p ei=>?_,?_,λ i h hi ei=>?_⟩
 .rw[List.map_set,<-b.gs];refine YU λ i=>?_;rw[A23];split
  .rename_i z;subst z;rw[Z3,ek];simp[hk]
  .rfl
 .rw[other i (by lia)];exact b.rest i (by lia)
 .have:i≠k:=λ z=>by subst z;rw[e]at ei;cases ei
  rw[other i this];exact b.keep i h p ei
 .intro i h p ei;by_cases z:i=k
  .subst z;rw[self]at ei;cases ei;refine⟨(f_ dg).mpr ⟨by lia,by lia,by lia,by lia⟩,λ j l q ej hj=>?_⟩;rw[other j hj]at ej;exact DQ j l q ej hj
  .rw[other i z]at ei;refine⟨(b.good i h p ei).1,λ j l q ej hj=>?_⟩;by_cases y:j=k
   .subst y;rw[self]at ej;cases ej;rw[m7];exact DQ i h p ei z
   .rw[other j y]at ej;exact(b.good i h p ei).2 j l q ej hj
 .by_cases z:i=k
  .subst z;rw[e]at ei;cases ei;refine⟨c,self,λ c' hf ha=>?_⟩;have fd:=(f_ dg).mp hf;dsimp only at fd;by_cases lt:c'<(c:Int)
   .have no:=mn c'.toNat (by lia);have yes:openAt zs g i ((R:Int)-g.d,(c'.toNat:Int))=AT:=by
     rw[show(c'.toNat:Int)=c' by lia];refine eI.mpr λ j l q ej hj=>ha j l q hj ?_;by_cases y:j<i
     .exact .inl ⟨y,by rw[other j hj];exact ej⟩
     .exact .inr (by rw[<-b.rest j (by lia)];exact ej)
    rw[yes]at no;cases no
   .show(c:Int)<=c';lia
  .obtain⟨c1,e1,m1⟩:=b.last i h (by lia) ei;refine⟨c1,by rw[other i z];exact e1,λ c' hf ha=>m1 c' hf λ j l q hj hh=>ha j l q hj ?_⟩;rcases hh with⟨y,hh⟩|hh
   .exact .inl ⟨y,by rw[other j (by lia)];exact hh⟩
   .exact .inr hh
def lQ(zs:Y' GO)(k:Nat):Bool:=match zs[k]? with
|some (_,Y! _)=>AT
|_=>Z!
def vO(zs:Y' GO)(g:G)(p:Pl)(j:Nat):Bool:=match zs[j]? with
|some (h,Y! q)=>!bH g p h q
|_=>Z!
theorem B9{zs:Y' GO}{g:G}{p:Pl}{k:Nat}(ek:zs[k]?=Y! (g,AC)):(((Do zs.length).filter<|lQ zs).filter<|vO zs g p).isEmpty=openAt zs g k p:=by
 rw[A80,eI,List.isEmpty_iff,List.filter_eq_nil_iff];constructor
 .intro h j l q ej hj;have hl:=(Y3.mp ej).1;have:=h j<|A30.mpr ⟨A05.mpr hl,by unfold lQ;rw[ej]⟩;unfold vO at this;rw[ej]at this;simpa using this
 .intro h j hj;unfold vO;split
  .rename_i l q ej;have:j≠k:=λ z=>by subst z;rw[ek]at ej;cases ej
   simp[h j l q ej this]
  .simp
theorem Fz(ks:Y' Nat):oEq (.lst<|ks.map λ n=>D.int (n:Nat)) (.lst [])=.ok (.bl ks.isEmpty):=by cases ks<;>rfl
section
variable {R C:Nat}{xs zs:Y' GO}
theorem lP{k:Nat}{g:G}{o:Y_ Pl}(e:zs[k]?=Y! (g,o)):a! (.lst<|zs.map λ x=>bE x.2) (.int (k:Nat))=.ok (bE o):=(ja (xs:=zs.map λ y:GO=>bE y.2) (i:=k) (j:=k) rfl (by rw[Z3,e];rfl)).2
theorem xw{k:Nat}{g:G}{o:Y_ Pl}(h:zs.map (·.1)=xs.map (·.1))(e:zs[k]?=Y! (g,o)):a! (aL xs) (.int (k:Nat))=.ok (bf g):=by rw[<-xv h];exact(ja (xs:=zs.map λ y:GO=>bf y.1) (i:=k) (j:=k) rfl (by rw[Z3,e];rfl)).1
theorem B!(h6:zs.length<=6)(hl:zs.length=xs.length){r0 r1 r2 r4 r5 r6 r7 r8:Y_ L}(h1:r1=v (aL xs)):
 bY (dX<|eU b!<|eW 1) 1 [3] (br 0) (tE<|eU jC<|eB a! (eW 1)<|eW 0) (eV 0) [r0,r1,r2,Y! (.own<|zs.map λ x=>bE x.2),r4,r5,r6,r7,r8]=.ok (((Do zs.length).filter<|lQ zs).map λ n=>D.int (n:Nat)):=by
 subst h1;have hle:b! (aL xs)=.ok (.int xs.length):=by simp[aL]
 refine Ok.eq ?_;simp[cY,line,fL,dF,hle,show xs.length<=16777216 by lia];rw[<-hl,zE];refine dt (λ n:Nat=>D.int (n:Nat)) (lQ zs) (λ n=>D.int (n:Nat)) (xs:=Do zs.length) (λ k hk=>?_) rfl;have MN:k<zs.length:=A05.mp hk;obtain⟨⟨g,o⟩,e⟩:∃x,zs[k]?=Y! x:=⟨_,M2 MN⟩
 cases o with
 |none=>have ix:a! (.lst<|zs.map λ x=>bE x.2) (.int (k:Nat))=.ok .non:=lP e;simp[ix,lQ,e]
 |some p=>have ix:a! (.lst<|zs.map λ x=>bE x.2) (.int (k:Nat))=.ok (aW p):=lP e;have en:jC (aW p)=.ok (.bl AT):=rfl;simp[ix,en,lQ,e]
theorem B'(h6:zs.length<=6)(h:zs.map (·.1)=xs.map (·.1)){g:G}{k:Nat}(ek:zs[k]?=Y! (g,AC))(p:Pl){r0 r2 r5 r6:Y_ L}:
 bY (iR<|eW 8) 1 [1,4,7,3] (br 0) (lM<|tE<|aB KH.d!<|ae (eB a! (eW 1)<|eW 2)<|ae (eV 3)<|ae (eB a! (eW 1)<|eW 0)<|ae (eB a! (eW 4)<|eW 0) az) (eV 0) [r0,v (aL xs),r2,Y! (.own<|zs.map λ x=>bE x.2),vi (k:Nat),r5,r6,v (aW p),v (.lst<|((Do zs.length).filter<|lQ zs).map λ n=>D.int (n:Nat))]=.ok ((((Do zs.length).filter<|lQ zs).filter<|vO zs g p).map λ n=>D.int (n:Nat)):=by
 refine Ok.eq ?_;have hf:((Do zs.length).filter<|lQ zs).length<=16777216:=by have:=A69 (lQ zs)<|List.range zs.length;rw[A08]at this;lia
 generalize V_:(Do zs.length).filter (lQ zs)=ks at hf;simp[cY,line,fL,dF,hf];refine dt (λ n:Nat=>D.int (n:Nat)) (vO zs g p) (λ n=>D.int (n:Nat)) (xs:=ks) (λ j hj=>?_) rfl;rw[<-V_]at hj;obtain⟨_,hs⟩:=A30.mp hj;unfold lQ at hs;split at hs
 .rename_i l q ej;have ix:a! (.lst<|zs.map λ x=>bE x.2) (.int (j:Nat))=.ok (aW q):=lP ej;have ig:=xw h ej;have ik:=xw h ek;have ap:=KH.nS g p l q;simp[ig,ik,ix,ap,vO,ej]
 .cases hs
def uL(R:Nat)(zs:Y' GO)(g:G)(k c:Nat):Bool:=decide (g.d<=R)&&openAt zs g k ((R:Int)-g.d,(c:Int))
def Vp(R:Nat)(g:G)(c:Nat):Pl:=((R:Int)-g.d,(c:Int))
def xB(R:Nat)(g:G)(c:Nat):D:=aW<|Vp R g c
theorem Au (hR:1<=R) (rj:R<=6) (hC:1<=C) (ji:C<=12) (h6:xs.length<=6) (hg:∀ x∈xs,Dg x.1) (hk:Good (aZ R C) xs) :
 Ok (eZ [bg (aZ R C),aL xs,aG xs]) λ d=>d=.non\/∃m,Bh R C xs m xs.length/\d=aG m:=by
 have H:=gc hR rj hC ji;obtain⟨row,CA,er⟩:=H.BE;have z5:line=16777216:=rfl;have ς:b! (bg<|aZ R C)=.ok (.int R):=by simp[bg,jP]
 have M9:b! (.str row)=.ok (.int C):=by simp[CA];exact guard_pos (by lia)
 have hle:b! (aL xs)=.ok (.int xs.length):=by simp[aL]
 rw[qG];refine wI ?_;simp[i9,aG,hle];rw[zE];refine fJ (λ i ρ=>∃(x4 x5 x6 x7 x8:Y_ L)(zs:Y' GO),ρ=[v (bg<|aZ R C),v (aL xs),v (.tup<|xs.map λ x=>bE x.2),Y! (.own<|zs.map λ x=>bE x.2),x4,x5,x6,x7,x8]/\Bh R C xs zs i)
  ⟨AC,AC,AC,AC,AC,xs,rfl,rfl,λ _ _=>rfl,λ _ _ _ e=>e,hk,λ i g hi=>absurd hi (by lia)⟩ ?_ ?_
 .rintro j d ρ hj ⟨x4,x5,x6,x7,x8,zs,rfl,b⟩;rw[Z3]at hj;obtain⟨k,MN,rfl⟩:=A19.mp hj;obtain⟨h1,h2⟩:=Y3.mp MN;rw[A08]at h1;rw[A56]at h2;subst h2;have Mz:zs.length=xs.length:=sU b.gs;obtain⟨⟨g,o⟩,eg⟩:∃x,xs[j]?=Y! x:=⟨_,M2 h1⟩
  have ez:zs[j]?=Y! (g,o):=by rw[b.rest j<|Z0 j];exact eg
  have dg:=hg _<|A01 eg;cases o with
  |some p=>have ix:a! (.lst<|zs.map λ x=>bE x.2) (.int (j:Nat))=.ok (aW p):=lP ez;have en:fH (aW p)=.ok (.bl Z!):=rfl;simp[ix,en];exact⟨_,_,_,_,_,zs,⟨rfl,rfl,rfl,rfl,rfl,rfl⟩,b.skip eg⟩
  |none=>
   have ix:a! (.lst<|zs.map λ x=>bE x.2) (.int (j:Nat))=.ok .non:=lP ez;have ig:=xw b.gs ez;have i1:a! (bf g) (.int 1)=.ok (.int g.w):=rfl;have i2:a! (bf g) (.int 2)=.ok (.int g.d):=rfl;have w1:=dg.w1;have hn:((C:Int)+1-(g.w:Int)).toNat=C+1-g.w:=by lia
   simp[ix,er,M9,ig,i1,hn];rw[zE];refine fJ (λ i ρ=>∃(x6 x7 x8:Y_ L),ρ=[v (bg<|aZ R C),v (aL xs),v (.tup<|xs.map λ x=>bE x.2),Y! (.own<|zs.map λ x=>bE x.2),vi (j:Nat),Y! (.own<|((Do i).filter<|uL R zs g j).map<|xB R g),x6,x7,x8])
    ⟨x6,x7,x8,rfl⟩ ?_ ?_
   .rintro c d ρ hc ⟨x6,x7,x8,rfl⟩;rw[Z3]at hc;obtain⟨c',v_,rfl⟩:=A19.mp hc;obtain⟨h3,h4⟩:=Y3.mp v_;rw[A08]at h3;rw[A56]at h4;subst h4;have n1:=@B! xs zs (by lia) Mz (v<|bg<|aZ R C) (v<|aL xs) (v<|.tup<|xs.map λ x=>bE x.2) (vi (j:Nat)) (Y!<|.own<|((Do c).filter<|uL R zs g j).map<|xB R g) (vi (c:Nat)) (v<|aW ((R:Int)-g.d,(c:Int))) x8 rfl;have n2:=@B' xs zs (by lia) b.gs g j ez ((R:Int)-g.d,(c:Int)) (v<|bg<|aZ R C) (v<|.tup<|xs.map λ x=>bE x.2) (Y!<|.own<|((Do c).filter<|uL R zs g j).map<|xB R g)<|vi (c:Nat);have ne:=Fz<|((Do zs.length).filter<|lQ zs).filter<|vO zs g ((R:Int)-g.d,(c:Int));rw[B9 ez]at ne;have i0:a! (aW ((R:Int)-g.d,(c:Int))) (.int 0)=.ok (.int<|(R:Int)-g.d):=rfl;have rs:(Do<|c+1).filter (uL R zs g j)=(Do c).filter (uL R zs g j)++(if uL R zs g j c=AT then[c]else[]):=by
     rw[A76,YK]
     congr 1
     rw[List.filter_cons];split<;>simp_all
    have lf:((Do c).filter<|uL R zs g j).length<line:=by have:=A69 (uL R zs g j)<|List.range c;rw[A08]at this;lia
    rw[rs];generalize v!:(Do c).filter (uL R zs g j)=cs at n1 n2 lf ⊢;generalize XY:(Do zs.length).filter (lQ zs)=Vt at n1 n2 ne;generalize DY:Vt.filter (vO zs g ((R:Int)-g.d,(c:Int)))=nl at n2 ne;by_cases ho:openAt zs g j ((R:Int)-g.d,(c:Int))=AT
    .rw[ho]at ne;by_cases hd:g.d<=R
     .simp[ς,ig,i2,n1,n2,ne,i0,ho,hd,line];have oc:uL R zs g j c=AT:=by simp[uL,hd,ho]
      simp[oc];exact⟨by rw[z5]at lf;exact lf,rfl⟩
     .simp[ς,ig,i2,n1,n2,ne,i0,ho,hd,line];simp[uL,hd]
    .have k9:openAt zs g j ((R:Int)-g.d,(c:Int))=Z!:=by simpa using ho
     rw[k9]at ne;simp[ς,ig,i2,n1,n2,ne,i0,k9,line];simp[uL,k9]
   .rintro ρ ⟨x6,x7,x8,rfl⟩;rw[v4,A08];generalize v!:(Do<|C+1-g.w).filter (uL R zs g j)=cs;cases cs with
    |nil=>have e0:oEq (.lst []) (.lst [])=.ok (.bl AT):=rfl;simp[e0]
    |cons c cr=>
     have e0:oEq (.lst<|xB R g c::cr.map (xB R g)) (.lst [])=.ok (.bl Z!):=rfl;have Tu:a! (.lst<|xB R g c::cr.map (xB R g)) (.int 0)=.ok (xB R g c):=(ja (xs:=xB R g c::cr.map (xB R g)) (i:=0) (j:=0) rfl rfl).2;simp[e0,Tu];have mem:∀c',c'∈c::cr->c'<C+1-g.w/\uL R zs g j c'=AT:=λ c' h=>by rw[<-v!]at h;obtain⟨a1,a2⟩:=A30.mp h;exact⟨A05.mp a1,a2⟩
     obtain⟨cl,co⟩:=mem c Z7;unfold uL at co;simp only[A17,B61]at co;have mn:∀c':Nat,c'<c->openAt zs g j ((R:Int)-g.d,(c':Int))=Z!:=λ c' lt=>by
      cases q:openAt zs g j ((R:Int)-g.d,(c':Int))with
      |false=>rfl
      |true=>
       have m1:c'∈c::cr:=by rw[<-v!];exact A30.mpr ⟨A05.mpr (by lia),by simp[uL,co.1,q]⟩
       have so:(c::cr).Pairwise (· < ·):=by rw[<-v!];exact B86.filter _
       rcases Y2.mp m1 with rfl|m1
       .exact absurd lt (by lia)
       .have:=(B29.mp so).1 c' m1;lia
     have b2:=b.put dg eg co.1 (by lia) co.2 mn;have iz:rd (zs.map λ x=>bE x.2).length (j:Int)=Y! j:=by rw[v4];unfold rd;simp[show j<zs.length by lia]
     have st:(zs.map λ x=>bE x.2).set j (xB R g c)=(zs.set j (g,Y! ((R:Int)-g.d,(c:Int)))).map λ x=>bE x.2:=by rw[List.map_set];rfl
     have pt:BA 3 (eV 4) (eB a! (eW 5)<|eC<|.int 0) [v (bg<|aZ R C),v (aL xs),v (.tup<|xs.map λ x=>bE x.2),Y! (.own<|zs.map λ x=>bE x.2),vi (j:Nat),Y! (.own<|xB R g c::cr.map (xB R g)),x6,x7,x8]=.ok (.nx [v (bg<|aZ R C),v (aL xs),v (.tup<|xs.map λ x=>bE x.2),Y! (.own<|(zs.set j (g,Y! ((R:Int)-g.d,(c:Int)))).map λ x=>bE x.2),vi (j:Nat),Y! (.own<|xB R g c::cr.map (xB R g)),x6,x7,x8]):=by rw[<-st];unfold BA;simp[Tu];rw[v4]at iz;simp[iz]
     rw[pt];exact⟨_,rfl,_,_,_,_,_,_,rfl,b2⟩
 .rintro ρ ⟨x4,x5,x6,x7,x8,zs,rfl,b⟩;rw[v4,A08]at b;simp;exact⟨zs,b,rfl⟩
end
open KH
def fQ(R:Nat)(k:Nat):Y' GO->Y' GO
|[]=>[]
|x::xs=>(jq R k x.1,x.2)::fQ R (k+1) xs
theorem oO(R:Nat):∀(xs:Y' GO)(k i:Nat),(fQ R k xs)[i]?=(xs[i]?).map λ x=>(jq R (k+i) x.1,x.2)
|[],k,i=>by simp[fQ]
|x::xs,k,i=>by
 cases i with
 |zero=>simp[fQ]
 |succ i=>simp[fQ,oO R xs (k+1) i,A66,Nat.add_left_comm]
theorem ug(R:Nat):∀(xs:Y' GO)(k:Nat),(fQ R k xs).map (·.1)=gq R k (xs.map (·.1))
|[],k=>rfl
|x::xs,k=>by simp[fQ,gq,ug R xs]
theorem uf(R:Nat):∀(xs:Y' GO)(k:Nat),(fQ R k xs).map (λ x=>bE x.2)=xs.map λ x=>bE x.2
|[],k=>rfl
|x::xs,k=>by simp[fQ,uf R xs]
theorem qL(R:Nat):∀(xs:Y' GO)(k:Nat),(fQ R k xs).length=xs.length
|[],k=>rfl
|x::xs,k=>by simp[fQ,qL R xs]
theorem wm{R C:Nat}{xs:Y' GO}(h:Good (aZ R C) xs):Good (aZ R C) (fQ R 0 xs):=by
 have at_:∀{i:Nat}{g:G}{p:Pl},(fQ R 0 xs)[i]?=Y! (g,Y! p)->∃g0,xs[i]?=Y! (g0,Y! p)/\g=jq R i g0:=λ {i g p} e=>by rw[oO,B28]at e;obtain⟨⟨g0,o⟩,e1,e2⟩:=A19.mp e;cases e2;exact⟨g0,e1,rfl⟩
 intro i g p e;obtain⟨g0,e0,rfl⟩:=at_ e;refine⟨(h i g0 p e0).1,λ j l q ej hj=>?_⟩;obtain⟨l0,e1,rfl⟩:=at_ ej;exact(h i g0 p e0).2 j l0 q e1 hj
theorem wk{R C:Nat}(xs:Y' GO)(k:Nat):cG (aZ R C) C (fQ R k xs)=cG (aZ R C) C xs:=by
 unfold cG
 congr 1
 induction xs generalizing k with
 |nil=>rfl
 |cons x xs ih=>
  simp only[fQ,Y7,ih]
  congr 1
section
variable {R C:Nat}{xs:Y' GO}
theorem p9(hR:1<=R)(rj:R<=6)(hC:1<=C)(ji:C<=12)(h6:xs.length<=6)(hg:∀x∈xs,Dg x.1)(hk:Good (aZ R C) xs)(hw:cG (aZ R C) C xs<=2000):
 cI [bg (aZ R C),aL xs,aG xs]=.ok (.bl AT):=by
 have H:=gc hR rj hC ji;obtain⟨ys,Kp⟩:∃ys,ys=fQ R 0 xs:=⟨_,rfl⟩
 have y6:ys.length<=6:=by rw[Kp,qL];exact h6
 have SO:∀(i:Nat)(g:G)(o:Y_ Pl),ys[i]?=Y! (g,o)->Dg g/\∀row:Int,x! g row=if g.d<=R/\row=(R:Int)-g.d then 1+(i:Int)else 0:=λ i g o e=>by rw[Kp,oO,B28]at e;obtain⟨⟨g0,o0⟩,e1,e2⟩:=A19.mp e;cases e2;exact⟨Eh<|hg _<|A01 e1,λ row=>A! R i g0 row⟩
 have yd:∀x∈ys,Dg x.1:=λ x hx=>by obtain⟨i,e⟩:=A68 hx;exact(SO i x.1 x.2 e).1
 have yk:Good (aZ R C) ys:=by rw[Kp];exact wm hk
 have yw:cG (aZ R C) C ys<=2000:=by rw[Kp,wk];exact hw
 have eG:D.tup ((gq R 0 (xs.map (·.1))).map bf)=aL ys:=by rw[Kp,aL,<-ug,A21];rfl
 have eO:aG ys=aG xs:=by rw[Kp];show D.tup _=D.tup _;rw[uf]
 have wd:=zr (R:=R) (C:=C) (gs:=xs.map (·.1)) rj (by simpa using h6) λ g h=>by obtain⟨x,hx,rfl⟩:=A09.mp h;exact hg x hx
 rw[eG,show D.tup ((xs.map (·.1)).map bf)=aL xs by rw[aL,A21];rfl]at wd;obtain⟨d,eb,hd⟩:=Au hR rj hC ji y6 yd yk;rw[eO]at eb;rw[k!];refine a9 ?_;rcases hd with rfl|⟨m,bm,rfl⟩
 .simp[cZ,wd,eb]
 .obtain⟨fm,ea,es⟩:=vN hR rj hC ji y6 bm SO yk yw (mY H y6 (λ x hx=>(yd x hx).ok.toGOk) yk);rw[eO]at ea es;have hN:fH (aG m)=.ok (.bl Z!):=rfl;have eq:=F2 fm;simp[cZ,wd,eb,hN,ea,es,eq]
end
theorem holds(ns:Y' Int)(hn:ns.length<=63)(hb:∀i∈ns,bits i<=2^20):mV [.lst (ns.map .int)]=.ok (.bl AT):=by
 rw[Ju];refine a9 ?_;obtain⟨R,C,gs,hR,rj,hC,ji,h2,Wg,FF,ed⟩:=Dc hb;have H:=gc hR rj hC ji;obtain⟨c1,Sb,_⟩:=tO hb (k:=1) (by decide);obtain⟨xs,Kq,hk,ef⟩:=FX hR rj hC ji Wg FF c1;have hl:xs.length=gs.length:=by rw[<-Kq,v4]
 have h6:xs.length<=6:=by lia
 have hd:∀x∈xs,Dg x.1:=λ x hx=>FF x.1 (by rw[<-Kq];exact A09.mpr ⟨x,hx,rfl⟩);have z7:∀x∈xs,GOk x.1:=λ x hx=>(hd x hx).ok.toGOk;have eG:D.tup (gs.map bf)=aL xs:=by rw[aL,<-Kq,A21];rfl
 rw[eG]at ed ef;have bh:=FK gs.length;have hle:b! (aL xs)=.ok (.int gs.length):=by simp[aL,hl]
 have lw:=A8 hR rj hC ji h6 hd;have fs:=mY H h6 z7 hk;have kw:=rR H h6 z7 fs;have ne:qv (.int (cG (aZ R C) C xs:Nat)) (.int (cG (aZ R C) C xs:Nat))=.ok (.bl Z!):=by simp[qv,ij,eP,AO]
 have gX:∀(p q:D)(ρ:Env),z_ [1,2] (.tup [p,q]) ρ=.ok ((ρ.set 1<|v p).set 2<|v q):=λ _ _ _=>rfl;by_cases hw:cG (aZ R C) C xs<=2000
 .have gt:¬(2000:Int)<(cG (aZ R C) C xs:Nat):=by lia
  have fo:=CP H h6 z7 hk hw fs;have bb:=p9 hR rj hC ji h6 hd hk hw;cases e:b? (aZ R C) C Z! xs xs.length with
  |nil=>rw[e]at fo;have R3:KC.a8 [bg (aZ R C),aL xs,aG xs]=.ok .non:=fo;simp -implicitDefEqProofs [vR,ed,gX,hle,bh,Sb,ef,lw,kw,ne,gt,R3,bb]
  |cons z r=>rw[e]at fo;have R3:KC.a8 [bg (aZ R C),aL xs,aG xs]=.ok (aG z):=fo;have hN:fH (aG z)=.ok (.bl Z!):=rfl;have hT:mK .tuple (aG z)=AT:=rfl;simp -implicitDefEqProofs [vR,ed,gX,hle,bh,Sb,ef,lw,kw,ne,gt,R3,bb,hN,hT]
 .have gt:(2000:Int)<(cG (aZ R C) C xs:Nat):=by lia
  have xm:=Eb H h6 z7 hk (by lia);have e6:«zints» 0 6=(Do 6).map λ n=>D.int (n:Nat):=zE 6;simp -implicitDefEqProofs [vR,ed,gX,hle,bh,Sb,ef,lw,kw,ne,gt];rw[e6];refine FU (λ ρ=>∃z:Y_ L,ρ=[v (.lst<|ns.map .int),v (bg<|aZ R C),v (aL xs),v (aG xs),vi (cG (aZ R C) C xs:Nat),z,AC]) ⟨AC,rfl⟩ ?_ ?_
  .rintro d nV ρ ⟨z,rfl⟩;obtain⟨w,VN,rfl⟩:=A09.mp nV;have rf:=wJ (C:=C) xm<|A05.mp VN;simp -implicitDefEqProofs [rf]
  .rintro ρ ⟨z,rfl⟩;simp
end n!
set_option maxRecDepth 100000
set_option maxHeartbeats 4000000
namespace n!
open PySem PySem.Spec PyProof.Rows L2 ZQ KG KH KB KC
def top(i:Nat):ε:=PySem.Challenge.pw_besideseats_k53_too_many_ways.main.body.getD i<|.Pass ⟨0,0,0,0⟩
abbrev OC(i j:Nat):ε:=ZS.clsAt (top i) j
theorem qJ:bootBuiltins "ValueError"=Y! (.type "ValueError"):=by kernel_rfl
theorem y!:bootBuiltins "bool"=Y! (.type "bool"):=by kernel_rfl
theorem JU:bootBuiltins "int"=Y! (.type "int"):=by kernel_rfl
theorem aV:bootBuiltins "isinstance"=Y! (.builtin "isinstance"):=by kernel_rfl
theorem Gq:bootBuiltins "list"=Y! (.type "list"):=by kernel_rfl
theorem m6:bootBuiltins "max"=Y! (.builtin "max"):=by kernel_rfl
theorem JT:bootBuiltins "min"=Y! (.builtin "min"):=by kernel_rfl
theorem Ds:bootBuiltins "tuple"=Y! (.type "tuple"):=by kernel_rfl
theorem JS:bootBuiltins "zip"=Y! (.type "zip"):=by kernel_rfl
abbrev sj:ε:=top 44
theorem ku:a6 ["groups","seatings"] ["groups","seatings"] (ak sj):=ZS.D0
abbrev o3:ε:=top 51
theorem i!:a6 ["groups","places","seating","waiting","k","spots","papers"] ["groups","places","seating"] (ak o3):=ZS.D0
abbrev jw:ε:=top 63
theorem eE:a6 ["_law_e"] ["_law_e"] (ak jw):=ZS.D0
set_option genInjectivity false in
structure Fs(K:Ch)(mg:Str->Option Value)(h:Heap)where
 X:K.In h
 G:h.Ns mainGlobals mg
 wq:ZS.cz K "worth_in" (top 19)
 zu:ZS.cz K "sign_at" (top 21)
 Em:ZS.cz K "takes" (top 23)
 wx:ZS.cz K "seats_of" (top 24)
 Hs:ZS.cz K "fits" (top 25)
 uj:ZS.cz K "places_of" (top 26)
 Eo:ZS.cz K "apart" (top 28)
 mv:ZS.cz K "those_that_sit" (top 29)
 mw:ZS.cz K "apart_from_all" (top 30)
 En:ZS.cz K "keeps" (top 31)
 wo:ZS.cz K "worth_of" (top 32)
 jt:ZS.cz K "fast_seating" (top 35)
 A_:ZS.jb K "ways" (top 36)
 kq:ZS.cz K "small_start" (top 37)
 rT:ZS.cz K "with_place" (top 38)
 rV:ZS.cz K "open_among" (top 39)
 nG:ZS.cz K "with_one_more" (top 40)
 nI:ZS.cz K "seatings_from" (top 41)
 js:ZS.jb K "first_of_all" (top 42)
 lL:ZS.qb K "best_among" (top 44)
 kr:ZS.jb K "best_of_all" (top 45)
 ju:ZS.jb K "best_of_some" (top 46)
 lK:ZS.jb K "best_worth" (top 47)
 rY:ZS.cz K "all_places" (top 49)
 wu:ZS.cz K "spots_of" (top 50)
 gr:ZS.qb K "paper_beside" (top 51)
 oP:ZS.jb K "paper_of" (top 52)
 nH:ZS.cz K "still_waiting" (top 54)
 uk:ZS.cz K "most_from" (top 55)
 ko:ZS.cz K "tree_beside" (top 56)
 qP:ZS.jb K "tree_of" (top 57)
 qi:ZS.cz K "_law_cell_at" (top 59)
 um:ZS.cz K "_law_drawn" (top 60)
 wz:ZS.cz K "_law_fast" (top 61)
 wy:ZS.cz K "_law_ways" (top 62)
 jr:ZS.cz K "_law_apart_from_all" (top 63)
 nj:ZS.cz K "_law_asked" (top 64)
 qh:ZS.cz K "_law_refused" (top 65)
 rW:ZS.cz K "_law_wished" (top 66)
 uo:ZS.cz K "_law_apart" (top 67)
 rX:ZS.cz K "_law_behind" (top 68)
 lJ:ZS.cz K "_law_best_behind" (top 69)
 qj:ZS.cz K "_law_by_hand" (top 70)
 K3:ZS.cz K "law" (top 71)
 sS:EQ K mainGlobals "ValueError"=Y! AC
 Mh:EQ K mainGlobals "all"=Y! AC
 IB:EQ K mainGlobals "bool"=Y! AC
 Mg:EQ K mainGlobals "int"=Y! AC
 sR:EQ K mainGlobals "isinstance"=Y! AC
 Mf:EQ K mainGlobals "len"=Y! AC
 Iz:EQ K mainGlobals "list"=Y! AC
 Me:EQ K mainGlobals "max"=Y! AC
 Md:EQ K mainGlobals "min"=Y! AC
 Fb:EQ K mainGlobals "range"=Y! AC
 Mc:EQ K mainGlobals "sum"=Y! AC
 E_:EQ K mainGlobals "tuple"=Y! AC
 Mb:EQ K mainGlobals "zip"=Y! AC
 {yb:Tok}
 Ek:EQ K mainGlobals "DEPTH"=Y! (Y!<|.int 2 yb)
 {GH:Tok}
 K2:EQ K mainGlobals "GAP"=Y! (Y!<|.int 5 GH)
 {Bi:Tok}
 Hq:EQ K mainGlobals "KIND"=Y! (Y!<|.int 3 Bi)
 {nk:Tok}
 ui:EQ K mainGlobals "MOST_WAYS"=Y! (Y!<|.int 2000 nk)
 {Bg:Tok}
 Ho:EQ K mainGlobals "WIDE"=Y! (Y!<|.int 4 Bg)
 {ya:Tok}
 Ej:EQ K mainGlobals "WIDTH"=Y! (Y!<|.int 1 ya)
 {uv:Tok}
 A?:EQ K mainGlobals "WISHES"=Y! (Y!<|.int 7 uv)
 {x_:Tok}
 Ei:EQ K mainGlobals "WORTH"=Y! (Y!<|.int 6 x_)
 {eD:Addr}
 w_Full:EQ K mainGlobals "Full"=Y! (Y!<|.ref eD)
 {cU:Addr}
 w_NoGroup:EQ K mainGlobals "NoGroup"=Y! (Y!<|.ref cU)
 {dB:Addr}
 w_NoHall:EQ K mainGlobals "NoHall"=Y! (Y!<|.ref dB)
 {dA:Addr}
 w_NoName:EQ K mainGlobals "NoName"=Y! (Y!<|.ref dA)
 {fh:Addr}
 w_NoRow:EQ K mainGlobals "NoRow"=Y! (Y!<|.ref fh)
 {bU:Addr}
 w_NoSeating:EQ K mainGlobals "NoSeating"=Y! (Y!<|.ref bU)
 {du:Addr}
 w_NoText:EQ K mainGlobals "NoText"=Y! (Y!<|.ref du)
 {aO:Addr}
 w_SeatError:EQ K mainGlobals "SeatError"=Y! (Y!<|.ref aO)
 {aR:Addr}
 w_TooGreat:EQ K mainGlobals "TooGreat"=Y! (Y!<|.ref aR)
 {fg:Addr}
 w_Twice:EQ K mainGlobals "Twice"=Y! (Y!<|.ref fg)
 Ea:ZS.nF K eD=AT
 wg:ZS.nF K cU=AT
 zp:ZS.nF K dB=AT
 zo:ZS.nF K dA=AT
 A0:ZS.nF K fh=AT
 rO:ZS.nF K bU=AT
 zm:ZS.nF K du=AT
 ua:ZS.nF K aR=AT
 AZ:ZS.nF K fg=AT
 wc:KF K cU [.type "ValueError",.type "Exception",.type "BaseException",.type "object"] "ValueError.__new__"=AT
 zl:KF K dB [.type "ValueError",.type "Exception",.type "BaseException",.type "object"] "ValueError.__new__"=AT
 zk:KF K dA [.type "ValueError",.type "Exception",.type "BaseException",.type "object"] "ValueError.__new__"=AT
 AX:KF K fh [.type "ValueError",.type "Exception",.type "BaseException",.type "object"] "ValueError.__new__"=AT
 lE:KF K bU [.type "ValueError",.type "Exception",.type "BaseException",.type "object"] "ValueError.__new__"=AT
 zj:KF K du [.type "ValueError",.type "Exception",.type "BaseException",.type "object"] "ValueError.__new__"=AT
 AW:KF K fg [.type "ValueError",.type "Exception",.type "BaseException",.type "object"] "ValueError.__new__"=AT
 w!:Ev K (.ref cU)=AT
 zT:Ev K (.ref dB)=AT
 zS:Ev K (.ref dA)=AT
 Co:Ev K (.ref fh)=AT
 sV:Ev K (.ref bU)=AT
 zR:Ev K (.ref du)=AT
 Cn:Ev K (.ref fg)=AT
 yP:ZS.gN K eD
 xC:ZS.gN K cU
 Ag:ZS.gN K dB
 Af:ZS.gN K dA
 C7:ZS.gN K fh
 tH:ZS.gN K bU
 Ae:ZS.gN K du
 bC:ZS.gN K aR
 C6:ZS.gN K fg
 lY:FB K (.ref eD) (.ref aO)=Y! AT
 jE:FB K (.ref cU) (.ref aO)=Y! AT
 kg:FB K (.ref dB) (.ref aO)=Y! AT
 ka:FB K (.ref dA) (.ref aO)=Y! AT
 kU:FB K (.ref fh) (.ref aO)=Y! AT
 iP:FB K (.ref bU) (.ref aO)=Y! AT
 j_:FB K (.ref du) (.ref aO)=Y! AT
 mG:FB K (.ref aR) (.ref eD)=Y! Z!
 j?:FB K (.ref aR) (.ref cU)=Y! Z!
 kT:FB K (.ref aR) (.ref dB)=Y! Z!
 kS:FB K (.ref aR) (.ref dA)=Y! Z!
 lX:FB K (.ref aR) (.ref fh)=Y! Z!
 jf:FB K (.ref aR) (.ref bU)=Y! Z!
 kR:FB K (.ref aR) (.ref du)=Y! Z!
 je:FB K (.ref aR) (.ref aO)=Y! AT
 lW:FB K (.ref aR) (.ref fg)=Y! Z!
 iO:FB K (.ref aR) (.type "ValueError")=Y! AT
 kQ:FB K (.ref fg) (.ref aO)=Y! AT
 yQ:ZS.mq K eD
 jN:ZS.mq K aR
 kC:Go K (.ref eD) "paper"=Y! AC
 iB:Go K (.ref aR) "many"=Y! AC
 iA:Go K (.ref aR) "most"=Y! AC
 uq:ZS.p_ K eD "__init__" "Full.__init__" (OC 9 0)
 D?:ZS.wb K eD=AT
 Fm:Ev K (.ref eD)=AT
 nJ:ZS.p_ K aR "__init__" "TooGreat.__init__" (OC 10 0)
 t_:ZS.wb K aR=AT
 u3:Ev K (.ref aR)=AT
section
variable {P:ι}{w:θ}{K:Ch}{mg:Str->Y_ Z_}{base h:η}(z:Fs K mg h)
include z
theorem Fs.s_:mg "ValueError"=AC:=A24 z.X z.G z.sS
theorem Fs.yM:mg "all"=AC:=A24 z.X z.G z.Mh
theorem Fs.g_bool:mg "bool"=AC:=A24 z.X z.G z.IB
theorem Fs.M?:mg "int"=AC:=A24 z.X z.G z.Mg
theorem Fs.a5:mg "isinstance"=AC:=A24 z.X z.G z.sR
theorem Fs.cA:mg "len"=AC:=A24 z.X z.G z.Mf
theorem Fs.Jr:mg "list"=AC:=A24 z.X z.G z.Iz
theorem Fs.rm:mg "max"=AC:=A24 z.X z.G z.Me
theorem Fs.M!:mg "min"=AC:=A24 z.X z.G z.Md
theorem Fs.cB:mg "range"=AC:=A24 z.X z.G z.Fb
theorem Fs.G8:mg "sum"=AC:=A24 z.X z.G z.Mc
theorem Fs.dY:mg "tuple"=AC:=A24 z.X z.G z.E_
theorem Fs.ve:mg "zip"=AC:=A24 z.X z.G z.Mb
theorem Fs.tT:mg "DEPTH"=Y! (.int 2 z.yb):=f8 z.X z.G z.Ek
theorem Fs.Hb:mg "GAP"=Y! (.int 5 z.GH):=f8 z.X z.G z.K2
theorem Fs.JP:mg "KIND"=Y! (.int 3 z.Bi):=f8 z.X z.G z.Hq
theorem Fs.g_:mg "MOST_WAYS"=Y! (.int 2000 z.nk):=f8 z.X z.G z.ui
theorem Fs.JO:mg "WIDE"=Y! (.int 4 z.Bg):=f8 z.X z.G z.Ho
theorem Fs.tR:mg "WIDTH"=Y! (.int 1 z.ya):=f8 z.X z.G z.Ej
theorem Fs.Dr:mg "WISHES"=Y! (.int 7 z.uv):=f8 z.X z.G z.A?
theorem Fs.Gm:mg "WORTH"=Y! (.int 6 z.x_):=f8 z.X z.G z.Ei
theorem Fs.IE:mg "Full"=Y! (.ref z.eD):=f8 z.X z.G z.w_Full
theorem Fs.zO:mg "NoGroup"=Y! (.ref z.cU):=f8 z.X z.G z.w_NoGroup
theorem Fs.Cf:mg "NoHall"=Y! (.ref z.dB):=f8 z.X z.G z.w_NoHall
theorem Fs.Ce:mg "NoName"=Y! (.ref z.dA):=f8 z.X z.G z.w_NoName
theorem Fs.Fe:mg "NoRow"=Y! (.ref z.fh):=f8 z.X z.G z.w_NoRow
theorem Fs.uX:mg "NoSeating"=Y! (.ref z.bU):=f8 z.X z.G z.w_NoSeating
theorem Fs.Cd:mg "NoText"=Y! (.ref z.du):=f8 z.X z.G z.w_NoText
theorem Fs.ny:mg "SeatError"=Y! (.ref z.aO):=f8 z.X z.G z.w_SeatError
theorem Fs.Fd:mg "Twice"=Y! (.ref z.fg):=f8 z.X z.G z.w_Twice
theorem Fs.A5:ZS.XC K [70,117,108,108] z.eD:=ZS.lF (by decide +kernel) z.w_Full z.Ea
theorem Fs.zq:ZS.XC K [78,111,71,114,111,117,112] z.cU:=ZS.lF (by decide +kernel) z.w_NoGroup z.wg
theorem Fs.A4:ZS.XC K [78,111,72,97,108,108] z.dB:=ZS.lF (by decide +kernel) z.w_NoHall z.zp
theorem Fs.A3:ZS.XC K [78,111,78,97,109,101] z.dA:=ZS.lF (by decide +kernel) z.w_NoName z.zo
theorem Fs.Ef:ZS.XC K [78,111,82,111,119] z.fh:=ZS.lF (by decide +kernel) z.w_NoRow z.A0
theorem Fs.nh:ZS.XC K [78,111,83,101,97,116,105,110,103] z.bU:=ZS.lF (by decide +kernel) z.w_NoSeating z.rO
theorem Fs.A2:ZS.XC K [78,111,84,101,120,116] z.du:=ZS.lF (by decide +kernel) z.w_NoText z.zm
theorem Fs.iH:ZS.XC K [84,111,111,71,114,101,97,116] z.aR:=ZS.lF (by decide +kernel) z.w_TooGreat z.ua
theorem Fs.Ee:ZS.XC K [84,119,105,99,101] z.fg:=ZS.lF (by decide +kernel) z.w_Twice z.AZ
theorem Fs.mO:ZS.nE K [70,117,108,108] (.ref z.aO) AT:=ZS.cW (by decide +kernel) z.w_Full z.yP z.lY
theorem Fs.kh:ZS.nE K [78,111,71,114,111,117,112] (.ref z.aO) AT:=ZS.cW (by decide +kernel) z.w_NoGroup z.xC z.jE
theorem Fs.k6:ZS.nE K [78,111,72,97,108,108] (.ref z.aO) AT:=ZS.cW (by decide +kernel) z.w_NoHall z.Ag z.kg
theorem Fs.kZ:ZS.nE K [78,111,78,97,109,101] (.ref z.aO) AT:=ZS.cW (by decide +kernel) z.w_NoName z.Af z.ka
theorem Fs.l6:ZS.nE K [78,111,82,111,119] (.ref z.aO) AT:=ZS.cW (by decide +kernel) z.w_NoRow z.C7 z.kU
theorem Fs.jh:ZS.nE K [78,111,83,101,97,116,105,110,103] (.ref z.aO) AT:=ZS.cW (by decide +kernel) z.w_NoSeating z.tH z.iP
theorem Fs.kY:ZS.nE K [78,111,84,101,120,116] (.ref z.aO) AT:=ZS.cW (by decide +kernel) z.w_NoText z.Ae z.j_
theorem Fs.nU:ZS.nE K [84,111,111,71,114,101,97,116] (.ref z.eD) Z!:=ZS.cW (by decide +kernel) z.w_TooGreat z.bC z.mG
theorem Fs.kX:ZS.nE K [84,111,111,71,114,101,97,116] (.ref z.cU) Z!:=ZS.cW (by decide +kernel) z.w_TooGreat z.bC z.j?
theorem Fs.l5:ZS.nE K [84,111,111,71,114,101,97,116] (.ref z.dB) Z!:=ZS.cW (by decide +kernel) z.w_TooGreat z.bC z.kT
theorem Fs.l4:ZS.nE K [84,111,111,71,114,101,97,116] (.ref z.dA) Z!:=ZS.cW (by decide +kernel) z.w_TooGreat z.bC z.kS
theorem Fs.mM:ZS.nE K [84,111,111,71,114,101,97,116] (.ref z.fh) Z!:=ZS.cW (by decide +kernel) z.w_TooGreat z.bC z.lX
theorem Fs.jF:ZS.nE K [84,111,111,71,114,101,97,116] (.ref z.bU) Z!:=ZS.cW (by decide +kernel) z.w_TooGreat z.bC z.jf
theorem Fs.l3:ZS.nE K [84,111,111,71,114,101,97,116] (.ref z.du) Z!:=ZS.cW (by decide +kernel) z.w_TooGreat z.bC z.kR
theorem Fs.fu:ZS.nE K [84,111,111,71,114,101,97,116] (.ref z.aO) AT:=ZS.cW (by decide +kernel) z.w_TooGreat z.bC z.je
theorem Fs.mL:ZS.nE K [84,111,111,71,114,101,97,116] (.ref z.fg) Z!:=ZS.cW (by decide +kernel) z.w_TooGreat z.bC z.lW
theorem Fs.jg:ZS.nE K [84,111,111,71,114,101,97,116] (.type "ValueError") AT:=ZS.cW (by decide +kernel) z.w_TooGreat z.bC z.iO
theorem Fs.lZ:ZS.nE K [84,119,105,99,101] (.ref z.aO) AT:=ZS.cW (by decide +kernel) z.w_Twice z.C6 z.kQ
theorem Fs.qC:ZS.Dz K "paper" [70,117,108,108]:=ZS.tw z.A5.1 z.yP z.yQ z.kC
theorem Fs.eN:ZS.Dz K "many" [84,111,111,71,114,101,97,116]:=ZS.tw z.iH.1 z.bC z.jN z.iB
theorem Fs.eM:ZS.Dz K "most" [84,111,111,71,114,101,97,116]:=ZS.tw z.iH.1 z.bC z.jN z.iA
theorem BX:ZS.AH P w K mg base z.eD 1 [[112,97,112,101,114]]:=ZS.Ny z.uq z.D? z.Fm z.yQ z.kC (by decide +kernel) rfl (λ _ _ _ _ _ _=>ZS.Av λ _ _=>rfl) ZS.D0 (ZS.x? (by decide +kernel)) (by decide +kernel) (by decide +kernel)
theorem lS:ZS.AH P w K mg base z.aR 1 [[109,97,110,121],[109,111,115,116]]:=ZS.Nx z.nJ z.t_ z.u3 z.jN z.iB z.iA (by decide +kernel) (by decide +kernel) rfl (by decide +kernel) (λ _ _ _ _ _ _=>ZS.wa λ _ _ _=>rfl) ZS.D0 (ZS.x? (by decide +kernel)) (by decide +kernel)
theorem nu:ZS.gL P w K mg base "worth_in" 1 ["group","row"] (KB.fv):=bO (N:=["group","row"]) (z.wq.df z.X z.G λ _ _ _ _ _ _=>ZS.Av λ _ _=>rfl) λ nd hu hr=>(au<|aC<|aX (aq<|aD aj<|aq<|bz z.Gm)<|aq<|yV z.G8<|n4<|cn (fK<|aq<|aD aj<|aq<|bz z.Dr) (N':=["wish","row"]) (aD aj<|aq av) (ht:=(fR<|aF (ZS.fN hu) (aq<|aD aj<|aq av) aj)))
theorem wU:ZS.gL P w K mg base "sign_at" 1 ["hall","seat"] (KG.iV):=bO (N:=["hall","seat","row","column"]) (z.zu.df z.X z.G λ _ _ _ _ _ _=>ZS.Av λ _ _=>rfl) λ nd hu hr=>(ao (aH<|aD aj<|aq av)<|ao (aH<|aD aj<|aq av)<|ao (bo (F5<|pU (vw ZS.m5 ZS.JM (aq av) aj<|aq<|a7 z.cA aj)<|oC<|vw ZS.m5 ZS.JM (aq av) aj<|aq<|a7 z.cA<|aq<|aD aj<|aq av) (au<|aC<|aD (aq<|aD aj aj) aj) aM)<|au<|aC iX)
theorem BY:ZS.gL P w K mg base "takes" 1 ["sign","kind"] (KG.l9):=bO (N:=["sign","kind"]) (z.Em.df z.X z.G λ _ _ _ _ _ _=>ZS.Av λ _ _=>rfl) λ nd hu hr=>(au<|aC<|yX (c6 (ZS.Sl hu) aj<|aq<|bG<|aJ bJ<|aJ bJ ai)<|k_<|c6 (ZS.fN hu) aj aj)
theorem uM:ZS.gL P w K mg base "seats_of" 1 ["group","place"] (KG.g9):=bO (N:=["group","place","seats","row"]) (z.wx.df z.X z.G λ _ _ _ _ _ _=>ZS.Av λ _ _=>rfl) λ nd hu hr=>(ao (fZ<|cK ai)<|ao (cJ (vA z.cB (aD aj<|aq av)<|aX (aq<|aD aj<|aq av)<|aq<|aD aj<|aq<|bz z.tT) bx<|au<|xD (i:=2) (pv 2)<|cn (vB<|vA z.cB (aD aj<|aq av)<|aX (aq<|aD aj<|aq av)<|aq<|aD aj<|aq<|bz z.tR) (N':=["column","row"])<|bG<|aa ag<|aa ag ai)<|au<|aC<|cT z.dY aj)
theorem yx:ZS.gL P w K mg base "fits" 2 ["hall","group","place"] (KG.l_):=bO (N:=["hall","group","place","signs"]) (z.Hs.df z.X z.G λ _ _ _ _ _ _=>ZS.wa λ _ _ _=>rfl) λ nd hu hr=>(ao (j7 (i:=3) rfl nd rfl (lo rfl) (fK<|aq<|ah (uM z)<|aa ag<|aa ag ai) (N':=["seat","hall"]) (n:=1) (is:=[0]) (ZS.n?.of (by kernel_rfl)) (ZS.dH (by decide)) (λ _ _ _ _ _ _=>bx) (λ _ _ _ _ _=>rZ) λ _ _ _ _ _=>(ah (wU z)<|aa ag<|aa ag ai))<|ao (bo (iW<|iD<|oG z.yM<|n4<|cn (fK aj) (N':=["sign","group"])<|ah (BY z)<|aa ag<|cL (aD aj<|aq<|bz z.JP) ai) (au<|aC dM) aM)<|au<|aC<|c6 ZS.JN (aq<|Dh hu aj<|aq bJ)<|aq<|aD aj<|aq<|bz z.JO)
theorem fU:ZS.gL P w K mg base "places_of" 3 ["hall","group"] (KG.cH):=bO (N:=["hall","group","places","row"]) (z.uj.df z.X z.G λ _ _ _ _ _ _=>ZS.Av λ _ _=>rfl) λ nd hu hr=>(ao (fZ<|cK ai)<|ao (cJ (cq z.cB<|a7 z.cA aj) bx<|au<|xD (i:=2) (pv 2)<|cn (vB<|cq z.cB<|a7 z.cA<|aq<|aD aj aj) (N':=["column","hall","group","row"]) (bG<|aa ag<|aa ag ai) (ht:=(fR<|iD<|ah (yx z)<|aa ag<|aa ag<|gg (bG<|aa ag<|aa ag ai) ai)))<|au<|aC<|cT z.dY aj)
theorem BZ:ZS.gL P w K mg base "apart" 1 ["one","here","other","there"] (KG.ma):=bO (N:=["one","here","other","there","gap"]) (z.Eo.df z.X z.G λ _ _ _ _ _ _=>ZS.JR λ _ _ _ _=>rfl) λ nd hu hr=>(ao (bo (F5<|kE (aF ZS.m5 (aq<|aX (aq<|aD aj<|aq av)<|aq<|aD aj<|aq<|bz z.tT)<|aq<|aD aj<|aq av)<|pT<|aF ZS.m5 (aq<|aX (aq<|aD aj<|aq av)<|aq<|aD aj<|aq<|bz z.tT)<|aq<|aD aj<|aq av) (au<|aC dM) aM)<|ao (aH<|oF rfl z.rm m6 (aq<|aD aj<|aq<|bz z.Hb)<|aq<|aD aj<|aq<|bz z.Hb)<|au<|aC<|yX (c6 ZS.m5 (aq<|aX (aq<|aX (aq<|aD aj<|aq av)<|aq<|aD aj<|aq<|bz z.tR) aj)<|aq<|aD aj<|aq av)<|k_<|c6 ZS.m5 (aq<|aX (aq<|aX (aq<|aD aj<|aq av)<|aq<|aD aj<|aq<|bz z.tR) aj)<|aq<|aD aj<|aq av)
theorem cX:ZS.gL P w K mg base "those_that_sit" 1 ["groups","seating"] (KG.bu):=bO (N:=["groups","seating"]) (z.mv.df z.X z.G λ _ _ _ _ _ _=>ZS.Av λ _ _=>rfl) λ nd hu hr=>(au<|aC<|xH<|cn (vB<|oE z.ve ag ag) (N':=["group","place"]) (bG<|aa ag<|aa ag ai) (ht:=(fR<|oB aj)) (hg:=(k? rfl (aT<|aT f7) rfl)) (hG:=(ZS.j5 (by decide))))
theorem gU:ZS.gL P w K mg base "apart_from_all" 2 ["group","place","seated"] (KG.ck):=bO (N:=["group","place","seated"]) (z.mw.df z.X z.G λ _ _ _ _ _ _=>ZS.wa λ _ _ _=>rfl) λ nd hu hr=>(au<|aC<|oG z.yM<|n4<|cn (fK aj) (N':=["other","there","group","place"]) (ah (BZ z)<|aa ag<|aa ag<|aa ag<|aa ag ai) (hg:=(k? rfl (aT<|aT f7) rfl)) (hG:=(ZS.j5 (by decide))))
theorem o_:ZS.gL P w K mg base "keeps" 3 ["hall","groups","seating"] (KG.gE):=bO (N:=["hall","groups","seating","seated"]) (z.En.df z.X z.G λ _ _ _ _ _ _=>ZS.wa λ _ _ _=>rfl) λ nd hu hr=>(ao (aH<|ah (cX z)<|aa ag<|aa ag ai)<|ao (bo (iW<|iD<|oG z.yM<|n4<|cn (fK aj) (N':=["group","place","hall"]) (ah (yx z)<|aa ag<|aa ag<|aa ag ai) (hg:=(k? rfl (aT<|aT f7) rfl)) (hG:=(ZS.j5 (by decide)))) (au<|aC dM) aM)<|au<|aC<|oG z.yM<|n4<|cn (vB<|cq z.cB<|a7 z.cA aj) (N':=["k","seated"])<|ah (gU z)<|cL (aD (aq<|aD aj aj)<|aq av)<|cL (aD (aq<|aD aj aj)<|aq av)<|cL (xH<|Dd aj rq<|rA aj) ai)
theorem gP:ZS.gL P w K mg base "worth_of" 2 ["groups","seating"] (KB.bT):=bO (N:=["groups","seating"]) (z.wo.df z.X z.G λ _ _ _ _ _ _=>ZS.Av λ _ _=>rfl) λ nd hu hr=>(au<|aC<|yV z.G8<|n4<|cn (fK<|aq<|ah (cX z)<|aa ag<|aa ag ai) (N':=["group","place"]) (ah (nu z)<|aa ag<|cL (aD aj<|aq av) ai) (hg:=(k? rfl (aT<|aT f7) rfl)) (hG:=(ZS.j5 (by decide))))
theorem cO:ZS.gL P w K mg base "fast_seating" 4 ["hall","groups","fast"] (KB.aQ):=bO (N:=["hall","groups","fast","seating"]) (z.jt.df z.X z.G λ _ _ _ _ _ _=>ZS.wa λ _ _ _=>rfl) λ nd hu hr=>(ao (aH<|pY (h_ aj) (yW (aq<|bG<|aJ iX ai)<|aq<|a7 z.cA aj) ag)<|ao (bo (iW<|iD<|ah (o_ z)<|aa ag<|aa ag<|aa ag ai) (au tJ) aM)<|au<|aC ag)
theorem c7:ZS.i' P w K mg base "fast_seating" 4 ["hall","groups","fast"] bP:=Dp (N:=["hall","groups","fast","seating"]) (z.jt.df z.X z.G λ _ _ _ _ _ _=>ZS.wa λ _ _ _=>rfl) λ nd hu hr=>(bR (aH<|pY (h_ aj) (yW (aq<|bG<|aJ iX ai)<|aq<|a7 z.cA aj) ag) GG<|bR (bo (iW<|iD<|ah (o_ z)<|aa ag<|aa ag<|aa ag ai) (au tJ) aM) (oN (iW<|iD<|ah (o_ z)<|aa ag<|aa ag<|aa ag ai) (dC<|AV rfl rfl rfl (by decide +kernel) z.nh z.lE bJ) fA) fA)
theorem sH:ZS.ng P w K mg base "ways" 5 ["hall","groups","fast"] (KB.j6):=lj (N:=["hall","groups","fast","many","group","place"]) (z.A_.df z.X z.G (λ _ _ _ _ _ _ _ us hl=>match us,hl with| [_,_,_],_=>⟨_,rfl,rfl⟩) λ _ _ _ _ _ _ _ us hl=>match us,hl with| [_,_],_=>⟨_,rfl,rfl⟩) λ nd hu hr=>(ao (aH av)<|ao (cJ (oE z.ve ag<|ah (cO z)<|aa ag<|aa ag<|aa ag ai) (k? rfl (aT<|aT f7) rfl)<|au<|bo (h_ aj) (au<|yU (i:=3) nd rfl (lo rfl)<|aX (aq<|a7 z.cA<|aq<|ah (fU z)<|aa ag<|aa ag ai)<|aq av) aM)<|au<|aC ag)
theorem BW:ZS.i' P w K mg base "ways" 5 ["hall","groups","fast"] oA:=lh (N:=["hall","groups","fast","many","group","place"]) (z.A_.df z.X z.G (λ _ _ _ _ _ _ _ us hl=>match us,hl with| [_,_,_],_=>⟨_,rfl,rfl⟩) λ _ _ _ _ _ _ _ us hl=>match us,hl with| [_,_],_=>⟨_,rfl,rfl⟩) λ nd hu hr=>(bR (aH av) GG<|bR (cJ (oE z.ve ag<|ah (cO z)<|aa ag<|aa ag<|aa ag ai) (k? rfl (aT<|aT f7) rfl)<|au<|bo (h_ aj) (au<|yU (i:=3) nd rfl (lo rfl)<|aX (aq<|a7 z.cA<|aq<|ah (fU z)<|aa ag<|aa ag ai)<|aq av) aM) (Hl<|D_ rfl z.ve JS<|lG ag<|ub (b7 (c7 z) (hr.mono (by decide)) rfl<|aa ag<|aa ag<|aa ag ai) ai) fA)
theorem cC:ZS.gL P w K mg base "small_start" 6 ["hall","groups","fast"] (KB.bw):=bO (N:=["hall","groups","fast","many"]) (z.kq.df z.X z.G λ _ _ _ _ _ _=>ZS.wa λ _ _ _=>rfl) λ nd hu hr=>(ao (aH<|ah (sH z).full<|aa ag<|aa ag<|aa ag ai)<|ao (bo (aF ZS.Ar aj<|aq<|bz z.g_) (au tJ) aM)<|au<|aC<|ah (cO z)<|aa ag<|aa ag<|aa ag ai)
theorem fF:ZS.i' P w K mg base "small_start" 6 ["hall","groups","fast"] bN:=Dp (N:=["hall","groups","fast","many"]) (z.kq.df z.X z.G λ _ _ _ _ _ _=>ZS.wa λ _ _ _=>rfl) λ nd hu hr=>(bR (aH<|ah (sH z).full<|aa ag<|aa ag<|aa ag ai) (oM (i:=3) nd rfl (lo rfl)<|b7 (BW z) (hr.mono (by decide)) rfl<|aa ag<|aa ag<|aa ag ai)<|bR (bo (aF ZS.Ar aj<|aq<|bz z.g_) (au tJ) aM) (oN (aF ZS.Ar aj<|aq<|bz z.g_) (dC<|zi rfl rfl rfl (by decide +kernel) z.iH (lS z) (hr.mono (by decide)) (aa ag<|aa (bz z.g_) ai) (by decide) (by decide)) fA)<|dC<|hU<|b7 (c7 z) (hr.mono (by decide)) rfl<|aa ag<|aa ag<|aa ag ai)
theorem h8:ZS.gL P w K mg base "with_place" 1 ["seating","k","place"] (KH.cx):=bO (N:=["seating","k","place"]) (z.rT.df z.X z.G λ _ _ _ _ _ _=>ZS.wa λ _ _ _=>rfl) λ nd hu hr=>(au<|aC<|aX (aq<|aX (aq<|jQ aj rq<|rA aj)<|aq<|bG<|aa ag ai)<|aq<|jQ aj (rA<|aq<|aX aj<|aq av) rq)
theorem ky:ZS.gL P w K mg base "open_among" 3 ["places","group","seated"] (KH.cR):=bO (N:=["places","group","seated"]) (z.rV.df z.X z.G λ _ _ _ _ _ _=>ZS.wa λ _ _ _=>rfl) λ nd hu hr=>(au<|aC<|cT z.dY<|n4<|cn (fK aj) (N':=["place","group","seated"]) ag (ht:=(fR<|iD<|ah (gU z)<|aa ag<|aa ag<|aa ag ai)))
theorem mD:ZS.gL P w K mg base "with_one_more" 4 ["hall","groups","seatings","k","some"] (KB.c8):=bO (N:=["hall","groups","seatings","k","some","places","wider","seating","seated"]) (z.nG.df z.X z.G λ _ _ _ _ _ _=>ZS.O? λ _ _ _ _ _=>rfl) λ nd hu hr=>(ao (aH<|ah (fU z)<|aa ag<|cL (aD aj aj) ai)<|ao (fZ<|cK ai)<|ao (cJ (xE ag) bx<|ao (aH<|ah (cX z)<|aa ag<|aa ag ai)<|ao (xD (i:=6) (pv 6)<|cn (fK<|aq<|ah (ky z)<|aa ag<|cL (aD aj aj)<|aa ag ai) (N':=["place","seating","k"])<|ah (h8 z)<|aa ag<|aa ag<|aa ag ai)<|au<|bo (iD ag) (au<|jO (i:=6) (pv 6) ag) aM)<|F6 (i:=6)<|au<|aC ag)
theorem cD:ZS.gL P w K mg base "seatings_from" 5 ["hall","groups","start","some"] (KB.bF):=bO (N:=["hall","groups","start","some","seatings","k"]) (z.nI.df z.X z.G λ _ _ _ _ _ _=>ZS.JR λ _ _ _ _=>rfl) λ nd hu hr=>(ao (aH<|xH<|cK<|aa ag ai)<|ao (cJ (cq z.cB<|a7 z.cA aj) bx<|au<|bo (h_<|aq<|aD aj aj) (au<|aH<|ah (mD z)<|aa ag<|aa ag<|aa ag<|aa ag<|aa ag ai) aM)<|au<|aC ag)
theorem cN:ZS.ng P w K mg base "first_of_all" 7 ["hall","groups","fast"] (KC.a8):=lj (N:=["hall","groups","fast","seatings"]) (z.js.df z.X z.G (λ _ _ _ _ _ _ _ us hl=>match us,hl with| [_,_,_],_=>⟨_,rfl,rfl⟩) λ _ _ _ _ _ _ _ us hl=>match us,hl with| [_,_],_=>⟨_,rfl,rfl⟩) λ nd hu hr=>(ao (aH<|ah (cD z)<|aa ag<|aa ag<|bp (ah (cC z)<|aa ag<|aa ag<|aa ag ai)<|aJ dM ai)<|au<|aC<|pY (aF ZS.Ar (aq<|a7 z.cA aj)<|aq av) (aD aj<|aq av) iX)
theorem iu:ZS.i' P w K mg base "first_of_all" 7 ["hall","groups","fast"] cP:=lh (N:=["hall","groups","fast","seatings"]) (z.js.df z.X z.G (λ _ _ _ _ _ _ _ us hl=>match us,hl with| [_,_,_],_=>⟨_,rfl,rfl⟩) λ _ _ _ _ _ _ _ us hl=>match us,hl with| [_,_],_=>⟨_,rfl,rfl⟩) λ nd hu hr=>(bR (aH<|ah (cD z)<|aa ag<|aa ag<|bp (ah (cC z)<|aa ag<|aa ag<|aa ag ai)<|aJ dM ai) (oM (i:=3) nd rfl (lo rfl)<|rN (cD z) (hr.mono (by decide)) rfl<|lG ag<|lG ag<|ub (b7 (fF z) (hr.mono (by decide)) rfl<|aa ag<|aa ag<|aa ag ai)<|aJ dM ai) fA)
theorem kz:ZS.gL P w K mg base "best_among" 5 ["groups","seatings"] (KB.cS):=G_ (N:=["groups","seatings"]) (b:=KB.eA) (z.lL.1.df z.X z.G λ _ _ _ _ _ _=>ZS.Av λ _ _=>rfl) ku (z.lL.lam z.X z.G) λ _ _ _ _ _ _ _ hl hr=>have nd:=ku.nd;have hu:=hr.units;have Rg:=λ env=>ZS.uF (k:=2) (hr.mono (by decide)) env;(au<|aC<|tN (ZS.yD hl (by decide +kernel)) (ZS.BF hr) rfl z.rm m6 aj (N':=["seating","groups"]) (is:=[0]) (ZS.n?.of (by kernel_rfl)) rfl (λ _ _ _ _ _=>(ah (gP z) (aa ag<|aa ag ai) (hr:=((Rg _).mono (by decide))))) λ _ _ _ _ _ _=>rfl)
theorem gB:ZS.ng P w K mg base "best_of_all" 7 ["hall","groups","fast"] (KB.bZ):=lj (N:=["hall","groups","fast","start"]) (z.kr.df z.X z.G (λ _ _ _ _ _ _ _ us hl=>match us,hl with| [_,_,_],_=>⟨_,rfl,rfl⟩) λ _ _ _ _ _ _ _ us hl=>match us,hl with| [_,_],_=>⟨_,rfl,rfl⟩) λ nd hu hr=>(ao (aH<|ah (cC z)<|aa ag<|aa ag<|aa ag ai)<|au<|aC<|ah (kz z)<|aa ag<|bp (ah (cD z)<|aa ag<|aa ag<|aa ag<|aJ dM ai) ai)
theorem nQ:ZS.i' P w K mg base "best_of_all" 7 ["hall","groups","fast"] dZ:=lh (N:=["hall","groups","fast","start"]) (z.kr.df z.X z.G (λ _ _ _ _ _ _ _ us hl=>match us,hl with| [_,_,_],_=>⟨_,rfl,rfl⟩) λ _ _ _ _ _ _ _ us hl=>match us,hl with| [_,_],_=>⟨_,rfl,rfl⟩) λ nd hu hr=>(bR (aH<|ah (cC z)<|aa ag<|aa ag<|aa ag ai) (oM (i:=3) nd rfl (lo rfl)<|b7 (fF z) (hr.mono (by decide)) rfl<|aa ag<|aa ag<|aa ag ai) fA)
theorem dD:ZS.ng P w K mg base "best_of_some" 7 ["hall","groups","fast"] (KB.bQ):=lj (N:=["hall","groups","fast","start"]) (z.ju.df z.X z.G (λ _ _ _ _ _ _ _ us hl=>match us,hl with| [_,_,_],_=>⟨_,rfl,rfl⟩) λ _ _ _ _ _ _ _ us hl=>match us,hl with| [_,_],_=>⟨_,rfl,rfl⟩) λ nd hu hr=>(ao (aH<|ah (cC z)<|aa ag<|aa ag<|aa ag ai)<|au<|aC<|ah (kz z)<|aa ag<|bp (ah (cD z)<|aa ag<|aa ag<|aa ag<|aJ dM ai) ai)
theorem iw:ZS.i' P w K mg base "best_of_some" 7 ["hall","groups","fast"] cQ:=lh (N:=["hall","groups","fast","start"]) (z.ju.df z.X z.G (λ _ _ _ _ _ _ _ us hl=>match us,hl with| [_,_,_],_=>⟨_,rfl,rfl⟩) λ _ _ _ _ _ _ _ us hl=>match us,hl with| [_,_],_=>⟨_,rfl,rfl⟩) λ nd hu hr=>(bR (aH<|ah (cC z)<|aa ag<|aa ag<|aa ag ai) (oM (i:=3) nd rfl (lo rfl)<|b7 (fF z) (hr.mono (by decide)) rfl<|aa ag<|aa ag<|aa ag ai) fA)
theorem eT:ZS.ng P w K mg base "best_worth" 8 ["hall","groups","fast"] (KB.di):=lj (N:=["hall","groups","fast"]) (z.lK.df z.X z.G (λ _ _ _ _ _ _ _ us hl=>match us,hl with| [_,_,_],_=>⟨_,rfl,rfl⟩) λ _ _ _ _ _ _ _ us hl=>match us,hl with| [_,_],_=>⟨_,rfl,rfl⟩) λ nd hu hr=>(au<|aC<|ah (gP z)<|aa ag<|bp (ah (dD z).full<|aa ag<|aa ag<|aa ag ai) ai)
theorem jB:ZS.i' P w K mg base "best_worth" 8 ["hall","groups","fast"] dh:=lh (N:=["hall","groups","fast"]) (z.lK.df z.X z.G (λ _ _ _ _ _ _ _ us hl=>match us,hl with| [_,_,_],_=>⟨_,rfl,rfl⟩) λ _ _ _ _ _ _ _ us hl=>match us,hl with| [_,_],_=>⟨_,rfl,rfl⟩) λ nd hu hr=>(dC<|hU<|rN (gP z) (hr.mono (by decide)) rfl<|lG ag<|ub (b7 (iw z) (hr.mono (by decide)) rfl<|aa ag<|aa ag<|aa ag ai) ai)
theorem eX:ZS.gL P w K mg base "all_places" 4 ["hall","groups"] (KC.dm):=bO (N:=["hall","groups"]) (z.rY.df z.X z.G λ _ _ _ _ _ _=>ZS.Av λ _ _=>rfl) λ nd hu hr=>(au<|aC<|xH<|cn (fK aj) (N':=["group","hall"])<|ah (fU z)<|aa ag<|aa ag ai)
theorem gR:ZS.gL P w K mg base "spots_of" 4 ["groups","places","seating","k"] (KC.fw):=bO (N:=["groups","places","seating","k"]) (z.wu.df z.X z.G λ _ _ _ _ _ _=>ZS.JR λ _ _ _ _=>rfl) λ nd hu hr=>(au<|aC<|ah (ky z)<|cL (aD aj aj)<|cL (aD aj aj)<|bp (ah (cX z)<|aa ag<|aa ag ai) ai)
theorem fG:∀j,ZS.gL P w K mg base "paper_beside" (7+j) ["groups","places","seating"] (KC.dE j)
| 0=>ZS.Dq<|bO (k:=6) (N:=["groups","places","seating","waiting","k","spots","papers"]) (b:=Z.sr) (z.gr.1.df z.X z.G λ _ _ _ _ _ _=>ZS.wa λ _ _ _=>rfl) λ _ _ _=>yS
| j+1=>G_ (k:=7+j) (N:=["groups","places","seating","waiting","k","spots","papers"]) (b:=KC.jU (KC.dE j)) (z.gr.1.df z.X z.G λ _ _ _ _ _ _=>ZS.wa λ _ _ _=>rfl) i! (z.gr.lam z.X z.G) λ _ _ _ _ _ _ _ hl hr=>have t6:=fG j;have nd:=i!.nd;have hu:=hr.units;have Rg:=λ env=>ZS.uF (k:=4) (hr.mono (by lia)) env;(ao (j7 (i:=3) rfl nd rfl (lo rfl) (vB<|cq z.cB<|a7 z.cA aj) (N':=["k","seating"]) (n:=1) (is:=[2]) (ZS.n?.of (by kernel_rfl)) (ZS.dH (by decide)) (λ _ _ _ _ _ _=>bx) (λ _ _ _ _ _=>(fR<|h_<|aq<|aD aj aj)) λ _ _ _ _ _=>ag)<|ao (aH<|tL (ZS.yD hl (by decide +kernel)) (ZS.BF hr) rfl z.M! JT aj (N':=["j","groups","places","seating"]) (is:=[0,1,2]) (ZS.n?.of (by kernel_rfl)) rfl (λ _ _ _ _ _=>(a7 z.cA<|aq<|ah (gR z) (aa ag<|aa ag<|aa ag<|aa ag ai) (hr:=((Rg _).mono (by omega))))) λ _ _ _ _ _ _=>rfl)<|ao (aH<|ah (gR z)<|aa ag<|aa ag<|aa ag<|aa ag ai)<|ao (bo (aF (ZS.fN hu) aj<|aq<|bG ai) (au<|aC<|bG<|aJ bJ<|aa ag ai) aM)<|ao (j7 (i:=6) rfl nd rfl (lo rfl) (fK aj) (N':=["place","groups","places","seating","k"]) (n:=1) (is:=[0,1,2,4]) (ZS.n?.of (by kernel_rfl)) (ZS.dH (by decide)) (λ _ _ _ _ _ _=>bx) (λ _ _ _ _ _=>rZ) λ _ _ _ _ _=>(ah t6 (aa ag<|aa ag<|bp (ah (h8 z)<|aa ag<|aa ag<|aa ag ai) ai) (hr:=(hr.mono<|Z0 _))))<|au<|aC<|bG<|aJ bJ<|aa ag<|bp (cT z.dY aj) ai)
theorem nv:ZS.ng P w K mg base "paper_of" 17 ["hall","groups","fast"] (KC.jJ):=lj (N:=["hall","groups","fast"]) (z.oP.df z.X z.G (λ _ _ _ _ _ _ _ us hl=>match us,hl with| [_,_,_],_=>⟨_,rfl,rfl⟩) λ _ _ _ _ _ _ _ us hl=>match us,hl with| [_,_],_=>⟨_,rfl,rfl⟩) λ nd hu hr=>(ao (bo (oB<|aq<|ah (cN z).full<|aa ag<|aa ag<|aa ag ai) (au<|aC iX) aM)<|au<|aC<|ah (fG z 9)<|aa ag<|bp (ah (eX z)<|aa ag<|aa ag ai)<|bp (ah (cO z)<|aa ag<|aa ag<|aa ag ai) ai)
theorem sG:ZS.i' P w K mg base "paper_of" 17 ["hall","groups","fast"] gZ:=lh (N:=["hall","groups","fast"]) (z.oP.df z.X z.G (λ _ _ _ _ _ _ _ us hl=>match us,hl with| [_,_,_],_=>⟨_,rfl,rfl⟩) λ _ _ _ _ _ _ _ us hl=>match us,hl with| [_,_],_=>⟨_,rfl,rfl⟩) λ nd hu hr=>(bR (bo (oB<|aq<|ah (cN z).full<|aa ag<|aa ag<|aa ag ai) (au<|aC iX) aM) (Hk (D8<|b7 (iu z) (hr.mono (by decide)) rfl<|aa ag<|aa ag<|aa ag ai) (au<|aC iX) aM)<|dC<|hU<|rN (fG z 9) (hr.mono (by decide)) rfl<|lG ag<|lG (ah (eX z)<|aa ag<|aa ag ai)<|ub (b7 (c7 z) (hr.mono (by decide)) rfl<|aa ag<|aa ag<|aa ag ai) ai)
theorem iy:ZS.gL P w K mg base "still_waiting" 1 ["seating","left"] (eK):=bO (N:=["seating","left"]) (z.nH.df z.X z.G λ _ _ _ _ _ _=>ZS.Av λ _ _=>rfl) λ nd hu hr=>(au<|aC<|xH<|cn (vB<|cq z.cB<|a7 z.cA aj) (N':=["k","seating","left"]) ag (ht:=(fR<|F5<|pU (h_<|aq<|aD aj aj)<|oC<|aF (ZS.Gj hu) aj aj)))
theorem sI:ZS.gL P w K mg base "most_from" 5 ["groups","places","seating","left"] (l!):=bO (N:=["groups","places","seating","left","most","k","worths"]) (z.uk.df z.X z.G λ _ _ _ _ _ _=>ZS.JR λ _ _ _ _=>rfl) λ nd hu hr=>(ao (aH<|ah (gP z)<|aa ag<|aa ag ai)<|ao (cJ (xE<|ah (iy z)<|aa ag<|aa ag ai) bx<|ao (j7 (i:=6) rfl nd rfl (lo rfl) (fK<|aq<|ah (gR z)<|aa ag<|aa ag<|aa ag<|aa ag ai) (N':=["place","groups","k"]) (n:=1) (is:=[0,5]) (ZS.n?.of (by kernel_rfl)) (ZS.dH (by decide)) (λ _ _ _ _ _ _=>bx) (λ _ _ _ _ _=>rZ) λ _ _ _ _ _=>(ah (nu z)<|cL (aD aj aj)<|cL (aD aj<|aq av) ai))<|au<|F' (i:=4) nd rfl (lo rfl)<|F_ rfl z.rm m6 aj av)<|au<|aC ag)
theorem gy:∀j,ZS.gL P w K mg base "tree_beside" (6+j) ["groups","places","number","seating","left"] (d6 j)
| 0=>ZS.Dq<|bO (k:=5) (N:=["groups","places","number","seating","left","k","trees","place"]) (b:=Z.sr) (z.ko.df z.X z.G λ _ _ _ _ _ _=>ZS.O? λ _ _ _ _ _=>rfl) λ _ _ _=>yS
| j+1=>bO (k:=6+j) (N:=["groups","places","number","seating","left","k","trees","place"]) (b:=kG (d6 j)) (z.ko.df z.X z.G λ _ _ _ _ _ _=>ZS.O? λ _ _ _ _ _=>rfl) λ nd hu hr=>have t6:=gy j;(ao (bo (aF ZS.m5 (aq<|ah (sI z)<|aa ag<|aa ag<|aa ag<|aa ag ai) aj) (au<|aC<|bG<|aJ bJ ai) aM)<|ao (aH<|aD (aq<|ah (iy z)<|aa ag<|aa ag ai)<|aq av)<|ao (fZ<|cK ai)<|ao (cJ (xE<|ah (gR z)<|aa ag<|aa ag<|aa ag<|aa ag ai) bx<|au<|jO (i:=6) (pv 6)<|ah t6 (aa ag<|aa ag<|aa ag<|bp (ah (h8 z)<|aa ag<|aa ag<|aa ag ai)<|aa ag ai) (hr:=(hr.mono<|Z0 _)))<|ao (jO (i:=6) (pv 6)<|ah t6 (aa ag<|aa ag<|aa ag<|aa ag<|f' (aX aj<|aq<|bG<|aa ag ai) ai) (hr:=(hr.mono<|Z0 _)))<|au<|aC<|bG<|aJ bJ<|aa ag<|bp (cT z.dY aj) ai)
theorem wR:ZS.ng P w K mg base "tree_of" 16 ["hall","groups","fast"] (pK):=lj (N:=["hall","groups","fast","number"]) (z.qP.df z.X z.G (λ _ _ _ _ _ _ _ us hl=>match us,hl with| [_,_,_],_=>⟨_,rfl,rfl⟩) λ _ _ _ _ _ _ _ us hl=>match us,hl with| [_,_],_=>⟨_,rfl,rfl⟩) λ nd hu hr=>(ao (aH<|ah (eT z).full<|aa ag<|aa ag<|aa ag ai)<|au<|aC<|ah (gy z 9)<|aa ag<|bp (ah (eX z)<|aa ag<|aa ag ai)<|aa ag<|bp (ah (cO z)<|aa ag<|aa ag<|aa ag ai)<|gg (bG ai) ai)
theorem uK:ZS.i' P w K mg base "tree_of" 16 ["hall","groups","fast"] iU:=lh (N:=["hall","groups","fast","number"]) (z.qP.df z.X z.G (λ _ _ _ _ _ _ _ us hl=>match us,hl with| [_,_,_],_=>⟨_,rfl,rfl⟩) λ _ _ _ _ _ _ _ us hl=>match us,hl with| [_,_],_=>⟨_,rfl,rfl⟩) λ nd hu hr=>(bR (aH<|ah (eT z).full<|aa ag<|aa ag<|aa ag ai) (oM (i:=3) nd rfl (lo rfl)<|b7 (jB z) (hr.mono (by decide)) rfl<|aa ag<|aa ag<|aa ag ai)<|dC<|hU<|rN (gy z 9) (hr.mono (by decide)) rfl<|lG ag<|lG (ah (eX z)<|aa ag<|aa ag ai)<|lG ag<|ub (b7 (c7 z) (hr.mono (by decide)) rfl<|aa ag<|aa ag<|aa ag ai)<|gg (bG ai) ai)
theorem gA:ZS.gL P w K mg base "_law_cell_at" 1 ["_law_script","_law_k"] (KG.cE):=bO (N:=["_law_script","_law_k"]) (z.qi.df z.X z.G λ _ _ _ _ _ _=>ZS.Av λ _ _=>rfl) λ nd hu hr=>(ao (bo (aF ZS.JM aj<|aq<|a7 z.cA aj) (au<|aC<|aD aj aj) aM)<|au<|aC av)
theorem sJ:ZS.gL P w K mg base "_law_drawn" 2 ["_law_script"] (fY):=bO (N:=["_law_script","_law_first","_law_hall","_law_groups","_law_k","_law_cell","_law_name"]) (z.um.df z.X z.G λ _ _ _ _ _ _=>ZS.Sm λ _=>rfl) λ nd hu hr=>(ao (aH<|ah (gA z)<|aa ag<|aJ av ai)<|ao (aH<|cT z.dY<|n4<|cn (vB<|cq z.cB<|aX (aq av)<|aq<|iY aj<|aq av) (N':=["_law_row","_law_first"])<|JF (aq bJ)<|aq<|aX (aq av)<|aq<|iY (aq<|jR aj<|aq av)<|aq av)<|ao (fZ<|cK ai)<|ao (cJ (cq z.cB<|aX (aq av)<|aq<|iY (aq<|jR aj<|aq av)<|aq av) bx<|ao (aH<|ah (gA z)<|aa ag<|f' (aX (aq av) aj) ai)<|ao (aH<|aX (aq<|jQ (aq bJ) rq<|rA<|aq<|aX (aq av)<|aq<|iY (aq<|jR aj<|aq av)<|aq av)<|aq<|aD (aq bJ) aj)<|au<|jO (i:=3) (pv 3)<|bG<|cL (jQ aj (rA<|aq<|JG<|aq av) rq)<|f' (aX (aq av)<|aq<|iY aj<|aq av)<|f' (aX (aq av)<|aq<|jR (aq<|iY (aq<|jR aj<|aq av)<|aq av)<|aq av)<|aJ bJ<|aJ av<|f' (iY (aq<|jR aj<|aq av)<|aq av)<|f' (iY (aq<|jR aj<|aq av)<|aq av)<|gg (bG ai) ai)<|au<|aC<|bG<|aa ag<|bp (cT z.dY aj) ai)
theorem uO:ZS.gL P w K mg base "_law_fast" 1 ["_law_hall","_law_groups","_law_cell"] (g?):=bO (N:=["_law_hall","_law_groups","_law_cell","_law_column","_law_fast_here","_law_k","_law_name","_law_width","_law_depth","_law_kind","_law_wide","_law_gap","_law_worth","_law_wishes","_law_there"]) (z.wz.df z.X z.G λ _ _ _ _ _ _=>ZS.wa λ _ _ _=>rfl) λ nd hu hr=>(ao (aH av)<|ao (fZ<|cK ai)<|ao (cJ (cq z.cB<|a7 z.cA aj) bx<|ao (C? (aD aj aj)<|De rfl (aT<|aT<|aT<|aT<|aT<|aT<|aT<|aT f7) rfl)<|ao (aH<|aX aj<|aq<|xG (aq av)<|aq<|Gb rfl z.M? JU<|aq<|c6 ZS.Ar aj<|aq av)<|au<|bo (F5<|pU (aF (ZS.fN hu) (aq<|iY (aq<|jR aj<|aq<|aD (n4<|cK<|aJ av<|aJ av<|aJ av<|aJ av<|aJ av<|aJ av ai) aj)<|aq av)<|aq av)<|pU (aF ZS.m5 (aq<|aX aj aj)<|aq<|a7 z.cA<|aq<|aD aj<|aq av)<|oC<|aF ZS.m5 aj<|aq<|a7 z.cA aj) (ao (jO (i:=4) (pv 4)<|bG<|aJ av<|aa ag ai)<|au<|aH<|aX aj aj)<|au<|jO (i:=4) (pv 4) iX)<|au<|aC<|cT z.dY aj)
theorem uN:ZS.gL P w K mg base "_law_ways" 1 ["_law_hall","_law_groups","_law_fast_here"] (g!):=bO (N:=["_law_hall","_law_groups","_law_fast_here","_law_found","_law_group","_law_place"]) (z.wy.df z.X z.G λ _ _ _ _ _ _=>ZS.wa λ _ _ _=>rfl) λ nd hu hr=>(ao (aH av)<|ao (cJ (oE z.ve ag ag) (k? rfl (aT<|aT f7) rfl)<|au<|bo (h_ aj) (au<|aH<|xG aj<|aq<|aX (aq av)<|aq<|xG (aq<|oF rfl z.rm m6 (aq av)<|aq<|pX (aq<|aX (aq<|a7 z.cA<|aq<|aD aj<|aq av)<|aq av)<|aq<|aD aj<|aq av)<|aq<|oF rfl z.rm m6 (aq av)<|aq<|pX (aq<|aX (aq<|a7 z.cA aj)<|aq av)<|aq<|aD aj<|aq av) aM)<|au<|aC ag)
theorem jd:ZS.GB P w K mg base "_law_apart_from_all" 1 ["_law_e"] (b9):=JL (N:=["_law_e"]) (b:=cw) (z.jr.df z.X z.G λ _ _ _ _ _ _=>ZS.Sm λ _=>rfl) eE rfl λ _ _ _ _ _ _ hr=>have nd:=eE.nd;(ao (bo (F5<|kE (iD<|f9 rfl z.a5 aV (pv 0) rfl z.IE z.nU)<|kE (iD<|f9 rfl z.a5 aV (pv 0) rfl z.zO z.kX)<|kE (iD<|f9 rfl z.a5 aV (pv 0) rfl z.Cf z.l5)<|pT<|iD<|f9 rfl z.a5 aV (pv 0) rfl z.Ce z.l4) (au<|aC dM) aM)<|ao (bo (F5<|kE (iD<|f9 rfl z.a5 aV (pv 0) rfl z.Fe z.mM)<|kE (iD<|f9 rfl z.a5 aV (pv 0) rfl z.Cd z.l3)<|kE (iD<|f9 rfl z.a5 aV (pv 0) rfl z.uX z.jF)<|pT<|iD<|f9 rfl z.a5 aV (pv 0) rfl z.Fd z.mL) (au<|aC dM) aM)<|au<|aC<|xI (f9 rfl z.a5 aV (pv 0) rfl z.ny z.fu)<|k_<|Ga rfl z.a5 aV (pv 0) rfl z.s_ qJ z.jg)
theorem sL:ZS.gL P w K mg base "_law_asked" 18 ["_law_way","_law_hall","_law_groups","_law_fast_here"] (l?):=bO (N:=["_law_way","_law_hall","_law_groups","_law_fast_here"]) (z.nj.df z.X z.G λ _ _ _ _ _ _=>ZS.JR λ _ _ _ _=>rfl) λ nd hu hr=>(ao (bo (aF (ZS.fN hu) aj<|aq av) (au<|aC<|ah (cN z).full<|aa ag<|aa ag<|aa ag ai) aM)<|ao (bo (aF (ZS.fN hu) aj<|aq av) (au<|aC<|ah (nv z).full<|aa ag<|aa ag<|aa ag ai) aM)<|ao (bo (aF (ZS.fN hu) aj<|aq av) (au<|aC<|ah (gB z).full<|aa ag<|aa ag<|aa ag ai) aM)<|ao (bo (aF (ZS.fN hu) aj<|aq av) (au<|aC<|ah (dD z).full<|aa ag<|aa ag<|aa ag ai) aM)<|ao (bo (aF (ZS.fN hu) aj<|aq av) (au<|aC<|ah (eT z).full<|aa ag<|aa ag<|aa ag ai) aM)<|au<|aC<|ah (wR z).full<|aa ag<|aa ag<|aa ag ai)
theorem qq:ZS.i' P w K mg base "_law_asked" 18 ["_law_way","_law_hall","_law_groups","_law_fast_here"] fX:=Dp (N:=["_law_way","_law_hall","_law_groups","_law_fast_here"]) (z.nj.df z.X z.G λ _ _ _ _ _ _=>ZS.JR λ _ _ _ _=>rfl) λ nd hu hr=>(bR (bo (aF (ZS.fN hu) aj<|aq av) (au<|aC<|ah (cN z).full<|aa ag<|aa ag<|aa ag ai) aM) (oN (aF (ZS.fN hu) aj<|aq av) (dC<|hU<|b7 (iu z) (hr.mono (by decide)) rfl<|aa ag<|aa ag<|aa ag ai) fA)<|bR (bo (aF (ZS.fN hu) aj<|aq av) (au<|aC<|ah (nv z).full<|aa ag<|aa ag<|aa ag ai) aM) (oN (aF (ZS.fN hu) aj<|aq av) (dC<|hU<|b7 (sG z) (hr.mono (by decide)) rfl<|aa ag<|aa ag<|aa ag ai) fA)<|bR (bo (aF (ZS.fN hu) aj<|aq av) (au<|aC<|ah (gB z).full<|aa ag<|aa ag<|aa ag ai) aM) (oN (aF (ZS.fN hu) aj<|aq av) (dC<|hU<|b7 (nQ z) (hr.mono (by decide)) rfl<|aa ag<|aa ag<|aa ag ai) fA)<|bR (bo (aF (ZS.fN hu) aj<|aq av) (au<|aC<|ah (dD z).full<|aa ag<|aa ag<|aa ag ai) aM) (oN (aF (ZS.fN hu) aj<|aq av) (dC<|hU<|b7 (iw z) (hr.mono (by decide)) rfl<|aa ag<|aa ag<|aa ag ai) fA)<|bR (bo (aF (ZS.fN hu) aj<|aq av) (au<|aC<|ah (eT z).full<|aa ag<|aa ag<|aa ag ai) aM) (oN (aF (ZS.fN hu) aj<|aq av) (dC<|hU<|b7 (jB z) (hr.mono (by decide)) rfl<|aa ag<|aa ag<|aa ag ai) fA)<|dC<|hU<|b7 (uK z) (hr.mono (by decide)) rfl<|aa ag<|aa ag<|aa ag ai)
theorem o!:ZS.gL P w K mg base "_law_refused" 19 ["_law_way","_law_hall","_law_groups","_law_fast_here","_law_many"] (d7):=bO (N:=["_law_way","_law_hall","_law_groups","_law_fast_here","_law_many","_law_fields","_law_e"]) (z.qh.df z.X z.G λ _ _ _ _ _ _=>ZS.O? λ _ _ _ _ _=>rfl) λ nd hu hr=>(ao (aH<|xH<|cK ai)<|ao (JB (i:=6) rfl rfl rfl nd rfl (by kernel_rfl) rfl (by decide +kernel) (au<|F9<|ah (sL z)<|aa ag<|aa ag<|aa ag<|aa ag ai) (λ _ _=>(D'<|D!<|b7 (qq z) (hr.mono (by decide)) rfl<|aa ag<|aa ag<|aa ag<|aa ag ai)) λ _=>(au<|aH<|xH<|cK<|bp (Di (jd z) (ZS.bK.Wu (hr.mono (by decide)) _) rfl<|pv 6)<|vE (pW (pv 6) (by decide +kernel) z.eN)<|vE (pW (pv 6) (by decide +kernel) z.eM)<|bp (m3 .bool rfl z.a5 aV rfl z.g_bool y!<|aq<|pW (pv 6) (by decide +kernel) z.eN)<|bp (m3 .bool rfl z.a5 aV rfl z.g_bool y!<|aq<|pW (pv 6) (by decide +kernel) z.eM) ai))<|au<|aC<|c6 (ZS.fN hu) aj<|n4<|cK<|aJ dM<|aa ag<|aJ av<|aJ dM<|aJ dM ai)
theorem qr:ZS.gL P w K mg base "_law_wished" 1 ["_law_hall","_law_groups"] (eY):=bO (N:=["_law_hall","_law_groups","_law_found","_law_k","_law_wishes"]) (z.rW.df z.X z.G λ _ _ _ _ _ _=>ZS.Av λ _ _=>rfl) λ nd hu hr=>(ao (fZ<|cK ai)<|ao (cJ (cq z.cB<|a7 z.cA aj) bx<|ao (aH<|bG ai)<|ao (bo (aF ZS.JN (aq<|a7 z.cA aj)<|aq<|aD (aq<|aD aj aj)<|aq av) (au<|aH<|bG<|gg (bG<|f' (pX (aq<|a7 z.cA aj)<|aq<|aD (aq<|aD aj aj)<|aq av)<|f' (aX (aq av) aj) ai) ai) aM)<|au<|jO (i:=2) (pv 2)<|aX (aq<|jQ (aq<|aD aj aj) rq<|rA<|aq av)<|aq<|bG<|aJ av<|aa ag ai)<|au<|aC<|cT z.dY aj)
theorem sM:ZS.gL P w K mg base "_law_apart" 1 ["_law_one","_law_here","_law_other","_law_there"] (KH.d!):=bO (N:=["_law_one","_law_here","_law_other","_law_there","_law_gap"]) (z.uo.df z.X z.G λ _ _ _ _ _ _=>ZS.JR λ _ _ _ _=>rfl) λ nd hu hr=>(ao (bo (F5<|kE (aF ZS.m5 (aq<|aX (aq<|aD aj<|aq av)<|aq<|aD aj<|aq av)<|aq<|aD aj<|aq av)<|pT<|aF ZS.m5 (aq<|aX (aq<|aD aj<|aq av)<|aq<|aD aj<|aq av)<|aq<|aD aj<|aq av) (au<|aC dM) aM)<|ao (aH<|oF rfl z.rm m6 (aq<|aD aj<|aq av)<|aq<|aD aj<|aq av)<|au<|aC<|yX (c6 ZS.m5 (aq<|aX (aq<|aX (aq<|aD aj<|aq av)<|aq<|aD aj<|aq av) aj)<|aq<|aD aj<|aq av)<|k_<|c6 ZS.m5 (aq<|aX (aq<|aX (aq<|aD aj<|aq av)<|aq<|aD aj<|aq av) aj)<|aq<|aD aj<|aq av)
theorem qt:ZS.gL P w K mg base "_law_behind" 2 ["_law_hall","_law_groups","_law_fast_here"] (eZ):=bO (N:=["_law_hall","_law_groups","_law_fast_here","_law_seating","_law_k","_law_some","_law_column","_law_here","_law_near"]) (z.rX.df z.X z.G λ _ _ _ _ _ _=>ZS.wa λ _ _ _=>rfl) λ nd hu hr=>(ao (fZ<|F! rfl z.Jr Gq aj)<|ao (cJ (cq z.cB<|a7 z.cA aj) bx<|au<|bo (h_<|aq<|aD aj aj) (ao (fZ<|cK ai)<|ao (cJ (cq z.cB<|pX (aq<|aX (aq<|a7 z.cA<|aq<|aD aj<|aq av)<|aq av)<|aq<|aD (aq<|aD aj aj)<|aq av) bx<|ao (aH<|bG<|f' (pX (aq<|a7 z.cA aj)<|aq<|aD (aq<|aD aj aj)<|aq av)<|aa ag ai)<|ao (j7 (i:=8) rfl nd rfl (lo rfl) (vB<|cq z.cB<|a7 z.cA aj) (N':=["_law_j","_law_seating"]) (n:=1) (is:=[3]) (ZS.n?.of (by kernel_rfl)) (ZS.dH (by decide)) (λ _ _ _ _ _ _=>bx) (λ _ _ _ _ _=>(fR<|oB<|aq<|aD aj aj)) λ _ _ _ _ _=>ag)<|ao (j7 (i:=8) rfl nd rfl (lo rfl) (fK aj) (N':=["_law_j","_law_groups","_law_k","_law_here","_law_seating"]) (n:=1) (is:=[1,4,7,3]) (ZS.n?.of (by kernel_rfl)) (ZS.dH (by decide)) (λ _ _ _ _ _ _=>bx) (λ _ _ _ _ _=>(fR<|iW<|iD<|ah (sM z)<|cL (aD aj aj)<|aa ag<|cL (aD aj aj)<|cL (aD aj aj) ai)) λ _ _ _ _ _=>ag)<|au<|bo (F5<|pU (aF (ZS.fN hu) aj<|n4<|cK ai)<|oC<|aF ZS.JN (aq<|aD aj<|aq av)<|aq av) (au<|jO (i:=5) (pv 5) ag) aM)<|ao (bo (aF (ZS.fN hu) aj<|n4<|cK ai) (au<|aC iX) aM)<|au<|F7 (i:=3) (pv 3) ag<|aD aj<|aq av) aM)<|au<|aC<|cT z.dY aj)
theorem kO:ZS.gL P w K mg base "_law_best_behind" 8 ["_law_hall","_law_groups","_law_fast_here"] (cI):=bO (N:=["_law_hall","_law_groups","_law_fast_here","_law_wished_here","_law_due"]) (z.lJ.df z.X z.G λ _ _ _ _ _ _=>ZS.wa λ _ _ _=>rfl) λ nd hu hr=>(ao (aH<|ah (qr z)<|aa ag<|aa ag ai)<|ao (aH<|ah (qt z)<|aa ag<|aa ag<|aa ag ai)<|ao (bo (h_ aj) (au<|aC dM) aM)<|au<|aC<|xI (c6 (ZS.fN hu) (aq<|ah (gB z).full<|aa ag<|aa ag<|aa ag ai) aj)<|k_<|c6 (ZS.fN hu) (aq<|ah (dD z).full<|aa ag<|aa ag<|aa ag ai) aj)
theorem o?:ZS.gL P w K mg base "_law_by_hand" 3 ["_law_many"] (d9):=bO (N:=["_law_many","_law_full","_law_great","_law_some"]) (z.qj.df z.X z.G λ _ _ _ _ _ _=>ZS.Sm λ _=>rfl) λ nd hu hr=>(ao (yT<|BK rfl rfl (by decide +kernel) z.A5 (BX z) (hr.mono (by decide)) (gg (bG<|aJ bJ<|aa ag ai) ai) (by decide) (by decide))<|ao (yT<|BK rfl rfl (by decide +kernel) z.iH (lS z) (hr.mono (by decide)) (aa ag<|aJ av ai) (by decide) (by decide))<|ao (bo (F5<|kE (aF (ZS.Gk hu) (aq<|pW (pv 1) (by decide +kernel) z.qC)<|aq<|bG<|aJ bJ<|aa ag ai)<|kE (aF (ZS.Gk hu) (aq<|pW (pv 2) (by decide +kernel) z.eN) aj)<|pT<|aF (ZS.Gk hu) (aq<|pW (pv 2) (by decide +kernel) z.eM)<|aq av) (au<|aC dM) aM)<|C! (N':=["_law_one"]) hu (fT (o4 rfl rfl (by decide +kernel) z.A4 z.zl z.zT bJ)<|fT (o4 rfl rfl (by decide +kernel) z.zq z.wc z.w! bJ)<|fT (o4 rfl rfl (by decide +kernel) z.A2 z.zj z.zR bJ)<|fT (o4 rfl rfl (by decide +kernel) z.nh z.lE z.sV bJ)<|fT (o4 rfl rfl (by decide +kernel) z.Ef z.AX z.Co bJ)<|fT (o4 rfl rfl (by decide +kernel) z.A3 z.zk z.zS bJ)<|fT (o4 rfl rfl (by decide +kernel) z.Ee z.AW z.Cn bJ)<|fT (Lw<|pv 1)<|fT (Lw<|pv 2) HN) (fR<|iW<|iD<|Df rfl z.a5 aV (pv 0) rfl z.ny<|.cons z.mO<|.cons z.kh<|.cons z.k6<|.cons z.kZ<|.cons z.l6<|.cons z.jh<|.cons z.kY<|.cons z.fu<|.cons z.lZ .nil)<|pv 3)
theorem Ik{f:Z'}{fd:ξ}(F:xV K "law" "law" (top 71) f fd):dI P w K mg base jc 20 f fd ["_law_script"] (ZS.t8 K mV):=R6 (N:=["_law_script","_law_hall","_law_groups","_law_fast_here","_law_many","_law_way","_law_found"]) F λ nd hu hr=>(ao (C? (ah (sJ z)<|aa ag ai)<|De rfl (aT<|aT f7) rfl)<|ao (bo (iW<|iD<|ah (o? z)<|bp (a7 z.cA aj) ai) (au<|aC dM) aM)<|ao (aH<|ah (uO z)<|aa ag<|aa ag<|bp (ah (gA z)<|aa ag<|aJ av ai) ai)<|ao (aH<|ah (uN z)<|aa ag<|aa ag<|aa ag ai)<|ao (bo (aF (ZS.Gk hu) (aq<|ah (sH z).full<|aa ag<|aa ag<|aa ag ai) aj) (au<|aC dM) aM)<|ao (bo (aF ZS.Ar aj<|aq av) (ao (cJ (cq z.cB av) bx<|au<|bo (iW<|iD<|ah (o! z)<|aa ag<|aa ag<|aa ag<|aa ag<|aa ag ai) (au<|aC dM) aM)<|au<|aC dM) aM)<|ao (aH<|ah (cN z).full<|aa ag<|aa ag<|aa ag ai)<|au<|aC<|xI (yX (JH aj)<|k_<|m3 .tuple rfl z.a5 aV rfl z.dY Ds aj)<|k_<|ah (kO z)<|aa ag<|aa ag<|aa ag ai)
end
theorem all_mk{l:Yu}{w:θ}{K:Ch}{h:η}{mg:Str->Y_ Z_}{fa:Z'}(z8:mg "law"=Y! (.ref fa))(z:Fs K mg h):
 ∃fd:ξ,(∀(s:δ) (v:Z_),BindsTo s fd ⟨[v],[]⟩ [("_law_script",v)])/\∀base:η,K.In base->base.Ns mainGlobals mg->dI l.prog w K mg base jc 20 fa fd ["_law_script"] (ZS.t8 K mV):=by
 obtain⟨fd,hb,F⟩:=z.K3.law z.X z.G z8 (x:="_law_script") λ _ _ _ _ _ _ _ _=>.of_eq rfl;exact⟨fd,hb,λ base _ _=>Ik z F⟩
theorem walk{l:Yu}{q:ι}{loose:Y' Str}{XP:(Str->Y_ Z_)->η->Prop}{YP:θ->η->Prop}{d:DefRec}{K:Params->FS}(hn:l.most=Y! 63)(RA:d.params.defaults=[])
 (hY:∀(w:θ)(h:η),YP w h->(K w.params).In h)
 (F:∀ (w:θ) (mg:Str->Y_ Z_) (fa:Z') (h:η),(K w.params).In h->h.Ns mainGlobals mg->mg d.name=Y! (.ref fa) ->
  ∃fd:ξ,(∀(s:δ) (u:Z_),BindsTo s fd ⟨[u],[]⟩ [("_law_script",u)])/\∀base:η,(K w.params).In base->base.Ns mainGlobals mg->dI l.prog w (K w.params) mg base jc 20 fa fd ["_law_script"] (ZS.t8 (K w.params) mV)) (hL:∀w:θ,ZS.Dy q (K w.params)) :
 PySem.W.WalkO q loose XP YP l.row.toRowW d [] (λ f vs=>PySem.call f vs):=
 ZS.Hn (n:=63) (k:=20) (x:="_law_script") (m:=mV) hn (by decide) RA ⟨rfl,by decide,by decide⟩ hY F hL holds
end n!
namespace n!
open PySem PySem.Spec PyProof.Rows L2
abbrev Tq:String:="besideseats.errors"
abbrev VB:String:="besideseats.groups"
abbrev VA:String:="besideseats.halls"
abbrev OI:String:="besideseats.places"
abbrev Mn:String:="besideseats.seatings"
abbrev G1:String:="besideseats.rooms"
abbrev OH:String:="besideseats.best"
abbrev OG:String:="besideseats.papers"
abbrev OF:String:="besideseats.trees"
abbrev zU:String:="law_besideseats_k53_too_many_ways"
noncomputable def kd(P:Params)(n:String)(t:Nat)(v:Z_):DictEntry:={hash:=PyData.keyHash P<|Str.ofString n,key:=.str (At n) t,val:=v}
noncomputable def kc(n:String)(t l:Nat)(a b c d e f g h i j:Z_)(u:Nat):ζ:={cls:=.type "code",data:=.fields #[.str (At n) t,.str (At n) (t+1),.str (At "/claim/cut.py") (t+2),.int l 0,a,.int 0 0,.int 0 0,b,c,.bool AT,d,e,f,g,h,i,j,.int l 0,.str (At "/claim/cut.py") u]}
noncomputable def Ts(n q:String)(t l:Nat)(a b c d e f g h i j:Z_)(u:Nat):ζ:={cls:=.type "code",data:=.fields #[.str (At n) t,.str (At q) (t+1),.str (At "/claim/cut.py") (t+2),.int l 0,a,.int 0 0,.int 0 0,b,c,.bool AT,d,e,f,g,h,i,j,.int l 0,.str (At "/claim/cut.py") u]}
noncomputable def Tr(n q:String)(s:ε)(m:String)(t c:Nat)(v:Z_:=.none):ζ:={cls:=.type "function",data:=.func {name:=At n,qualname:=At q,params:=a_ s,body:=.stmts<|aE s,scope:=ak s,globals:=3,closure:=[],defaults:=v,kwdefaults:=.none,pyModule:=.str (At m) t,code:=.ref c}}
noncomputable def kf(n:String)(i:Nat)(m:String)(t c:Nat)(v:Z_:=.none):ζ:={cls:=.type "function",data:=.func {name:=At n,qualname:=At n,params:=a_<|top i,body:=.stmts<|aE<|top i,scope:=ak<|top i,globals:=3,closure:=[],defaults:=v,kwdefaults:=.none,pyModule:=.str (At m) t,code:=.ref c}}
noncomputable def k7(n:String)(t l i r j u:Nat):ζ:=kc n t l (.int i 0) (.int 3 0) (.ref r) (.int 181 0) (.ref<|r+1) .none (.ref<|r+2) (.ref<|r+3) (.ref<|r+4) (.int j 0) u
noncomputable def k5(n:String)(t l i r j u:Nat):ζ:=kc n t l (.int i 0) (.int 3 0) (.ref r) (.int 181 0) (.ref<|r+1) .none .none .none (.ref<|r+2) (.int j 0) u
noncomputable def KK(P:Params):Ch:=(λ(_:At "a"=Str.mk #[97])=>(nat_lit 3,{cls:=.type "dict",data:=.dict #[kd P "__name__" 165 (.str (At "law_besideseats_k53_too_many_ways") 660),kd P "__doc__" 166 .none,kd P "__package__" 167 .none,kd P "__loader__" 168 (.builtin "__main__.__loader__#opaque"),kd P "__spec__" 169 .none,kd P "__annotations__" 170 (.ref 6),kd P "__builtins__" 171 (.ref 4),kd P "__file__" 173 (.str (At "/claim/cut.py") 172),kd P "__cached__" 174 .none,kd P "SeatError" 206 (.ref 24),kd P "NoHall" 222 (.ref 37),kd P "NoGroup" 238 (.ref 49),kd P "NoText" 254 (.ref 61),kd P "NoSeating" 270 (.ref 73),kd P "NoRow" 286 (.ref 85),kd P "NoName" 302 (.ref 97),kd P "Twice" 318 (.ref 109),kd P "Full" 343 (.ref 128),kd P "TooGreat" 370 (.ref 147),kd P "WIDTH" 374 (.int 1 373),kd P "DEPTH" 376 (.int 2 375),kd P "KIND" 378 (.int 3 377),kd P "WIDE" 380 (.int 4 379),kd P "GAP" 382 (.int 5 381),kd P "WORTH" 384 (.int 6 383),kd P "WISHES" 386 (.int 7 385),kd P "worth_in" 392 (.ref 154),kd P "sign_at" 404 (.ref 161),kd P "takes" 414 (.ref 168),kd P "seats_of" 420 (.ref 173),kd P "fits" 426 (.ref 178),kd P "places_of" 432 (.ref 183),kd P "apart" 445 (.ref 190),kd P "those_that_sit" 451 (.ref 195),kd P "apart_from_all" 457 (.ref 200),kd P "keeps" 463 (.ref 205),kd P "worth_of" 469 (.ref 210),kd P "MOST_WAYS" 473 (.int 2000 472),kd P "fast_seating" 483 (.ref 217),kd P "ways" 495 (.ref 225),kd P "small_start" 505 (.ref 232),kd P "with_place" 514 (.ref 239),kd P "open_among" 520 (.ref 244),kd P "with_one_more" 526 (.ref 249),kd P "seatings_from" 538 (.ref 256),kd P "first_of_all" 548 (.ref 264),kd P "best_among" 559 (.ref 271),kd P "best_of_all" 569 (.ref 279),kd P "best_of_some" 579 (.ref 287),kd P "best_worth" 588 (.ref 295),kd P "all_places" 596 (.ref 300),kd P "spots_of" 606 (.ref 307),kd P "paper_beside" 612 (.ref 312),kd P "paper_of" 621 (.ref 320),kd P "still_waiting" 629 (.ref 325),kd P "most_from" 635 (.ref 330),kd P "tree_beside" 649 (.ref 337),kd P "tree_of" 659 (.ref 345),kd P "_law_cell_at" 669 (.ref 352),kd P "_law_drawn" 675 (.ref 357),kd P "_law_fast" 696 (.ref 364),kd P "_law_ways" 708 (.ref 371),kd P "_law_apart_from_all" 715 (.ref 378),kd P "_law_asked" 725 (.ref 385),kd P "_law_refused" 738 (.ref 392),kd P "_law_wished" 749 (.ref 399),kd P "_law_apart" 760 (.ref 406),kd P "_law_behind" 766 (.ref 411),kd P "_law_best_behind" 777 (.ref 418),kd P "_law_by_hand" 783 (.ref 423),kd P "law" 796 (.ref 430)] 71}) ::
 (nat_lit 23,{cls:=.type "dict",data:=.dict #[kd P "__module__" 196 (.str (At "besideseats.errors") 187),kd P "__firstlineno__" 200 (.int 2 199),kd P "__static_attributes__" 201 (.ref 22),kd P "__weakref__" 203 (.ref 25),kd P "__doc__" 204 .none] 3}) ::
 (nat_lit 24,{cls:=.type "type",data:=.cls {name:=At "SeatError",bases:=[.type "ValueError"],mro:=[.ref 24,.type "ValueError",.type "Exception",.type "BaseException",.type "object"],ns:=23,qualname:=At "SeatError",subclasses:=[.ref 37,.ref 49,.ref 61,.ref 73,.ref 85,.ref 97,.ref 109,.ref 128,.ref 147]},slots:=#[Y! (.ref 15),AC,Y! (.str (At "SeatError") 189),Y! (.str (At "SeatError") 197),Y! (.builtin "ValueError.__new__"),Y! (.bool AT)]}) ::
 (nat_lit 36,{cls:=.type "dict",data:=.dict #[kd P "__module__" 214 (.str (At "besideseats.errors") 187),kd P "__firstlineno__" 218 (.int 4 217),kd P "__static_attributes__" 219 (.ref 35),kd P "__doc__" 220 .none] 2}) ::
 (nat_lit 37,{cls:=.type "type",data:=.cls {name:=At "NoHall",bases:=[.ref 24],mro:=[.ref 37,.ref 24,.type "ValueError",.type "Exception",.type "BaseException",.type "object"],ns:=36,qualname:=At "NoHall"},slots:=#[Y! (.ref 28),AC,Y! (.str (At "NoHall") 207),Y! (.str (At "NoHall") 215),Y! (.builtin "ValueError.__new__"),Y! (.bool AT)]}) ::
 (nat_lit 48,{cls:=.type "dict",data:=.dict #[kd P "__module__" 230 (.str (At "besideseats.errors") 187),kd P "__firstlineno__" 234 (.int 6 233),kd P "__static_attributes__" 235 (.ref 47),kd P "__doc__" 236 .none] 2}) ::
 (nat_lit 49,{cls:=.type "type",data:=.cls {name:=At "NoGroup",bases:=[.ref 24],mro:=[.ref 49,.ref 24,.type "ValueError",.type "Exception",.type "BaseException",.type "object"],ns:=48,qualname:=At "NoGroup"},slots:=#[Y! (.ref 40),AC,Y! (.str (At "NoGroup") 223),Y! (.str (At "NoGroup") 231),Y! (.builtin "ValueError.__new__"),Y! (.bool AT)]}) ::
 (nat_lit 60,{cls:=.type "dict",data:=.dict #[kd P "__module__" 246 (.str (At "besideseats.errors") 187),kd P "__firstlineno__" 250 (.int 8 249),kd P "__static_attributes__" 251 (.ref 59),kd P "__doc__" 252 .none] 2}) ::
 (nat_lit 61,{cls:=.type "type",data:=.cls {name:=At "NoText",bases:=[.ref 24],mro:=[.ref 61,.ref 24,.type "ValueError",.type "Exception",.type "BaseException",.type "object"],ns:=60,qualname:=At "NoText"},slots:=#[Y! (.ref 52),AC,Y! (.str (At "NoText") 239),Y! (.str (At "NoText") 247),Y! (.builtin "ValueError.__new__"),Y! (.bool AT)]}) ::
 (nat_lit 72,{cls:=.type "dict",data:=.dict #[kd P "__module__" 262 (.str (At "besideseats.errors") 187),kd P "__firstlineno__" 266 (.int 10 265),kd P "__static_attributes__" 267 (.ref 71),kd P "__doc__" 268 .none] 2}) ::
 (nat_lit 73,{cls:=.type "type",data:=.cls {name:=At "NoSeating",bases:=[.ref 24],mro:=[.ref 73,.ref 24,.type "ValueError",.type "Exception",.type "BaseException",.type "object"],ns:=72,qualname:=At "NoSeating"},slots:=#[Y! (.ref 64),AC,Y! (.str (At "NoSeating") 255),Y! (.str (At "NoSeating") 263),Y! (.builtin "ValueError.__new__"),Y! (.bool AT)]}) ::
 (nat_lit 84,{cls:=.type "dict",data:=.dict #[kd P "__module__" 278 (.str (At "besideseats.errors") 187),kd P "__firstlineno__" 282 (.int 12 281),kd P "__static_attributes__" 283 (.ref 83),kd P "__doc__" 284 .none] 2}) ::
 (nat_lit 85,{cls:=.type "type",data:=.cls {name:=At "NoRow",bases:=[.ref 24],mro:=[.ref 85,.ref 24,.type "ValueError",.type "Exception",.type "BaseException",.type "object"],ns:=84,qualname:=At "NoRow"},slots:=#[Y! (.ref 76),AC,Y! (.str (At "NoRow") 271),Y! (.str (At "NoRow") 279),Y! (.builtin "ValueError.__new__"),Y! (.bool AT)]}) ::
 (nat_lit 96,{cls:=.type "dict",data:=.dict #[kd P "__module__" 294 (.str (At "besideseats.errors") 187),kd P "__firstlineno__" 298 (.int 14 297),kd P "__static_attributes__" 299 (.ref 95),kd P "__doc__" 300 .none] 2}) ::
 (nat_lit 97,{cls:=.type "type",data:=.cls {name:=At "NoName",bases:=[.ref 24],mro:=[.ref 97,.ref 24,.type "ValueError",.type "Exception",.type "BaseException",.type "object"],ns:=96,qualname:=At "NoName"},slots:=#[Y! (.ref 88),AC,Y! (.str (At "NoName") 287),Y! (.str (At "NoName") 295),Y! (.builtin "ValueError.__new__"),Y! (.bool AT)]}) ::
 (nat_lit 108,{cls:=.type "dict",data:=.dict #[kd P "__module__" 310 (.str (At "besideseats.errors") 187),kd P "__firstlineno__" 314 (.int 16 313),kd P "__static_attributes__" 315 (.ref 107),kd P "__doc__" 316 .none] 2}) ::
 (nat_lit 109,{cls:=.type "type",data:=.cls {name:=At "Twice",bases:=[.ref 24],mro:=[.ref 109,.ref 24,.type "ValueError",.type "Exception",.type "BaseException",.type "object"],ns:=108,qualname:=At "Twice"},slots:=#[Y! (.ref 100),AC,Y! (.str (At "Twice") 303),Y! (.str (At "Twice") 311),Y! (.builtin "ValueError.__new__"),Y! (.bool AT)]}) ::
 (nat_lit 124,Ts "__init__" "Full.__init__" 331 20 (.int 2 0) (.int 3 0) (.ref 119) (.int 181 0) (.ref 120) .none (.ref 121) (.ref 122) (.ref 123) (.int 336 0) 337) ::
 (nat_lit 125,Tr "__init__" "Full.__init__" (OC 9 0) Tq 187 124) ::
 (nat_lit 127,{cls:=.type "dict",data:=.dict #[kd P "__module__" 326 (.str (At "besideseats.errors") 187),kd P "__firstlineno__" 330 (.int 18 329),kd P "__init__" 338 (.ref 125),kd P "__static_attributes__" 340 (.ref 126),kd P "__doc__" 341 .none] 2}) ::
 (nat_lit 128,{cls:=.type "type",data:=.cls {name:=At "Full",bases:=[.ref 24],mro:=[.ref 128,.ref 24,.type "ValueError",.type "Exception",.type "BaseException",.type "object"],ns:=127,qualname:=At "Full"},slots:=#[Y! (.ref 112),AC,Y! (.str (At "Full") 319),Y! (.str (At "Full") 327),Y! (.builtin "ValueError.__new__"),Y! (.bool AT)]}) ::
 (nat_lit 143,Ts "__init__" "TooGreat.__init__" 356 24 (.int 3 0) (.int 3 0) (.ref 138) (.int 181 0) (.ref 139) .none (.ref 140) (.ref 141) (.ref 142) (.int 362 0) 363) ::
 (nat_lit 144,Tr "__init__" "TooGreat.__init__" (OC 10 0) Tq 187 143) ::
 (nat_lit 146,{cls:=.type "dict",data:=.dict #[kd P "__module__" 351 (.str (At "besideseats.errors") 187),kd P "__firstlineno__" 355 (.int 22 354),kd P "__init__" 364 (.ref 144),kd P "__static_attributes__" 367 (.ref 145),kd P "__doc__" 368 .none] 2}) ::
 (nat_lit 147,{cls:=.type "type",data:=.cls {name:=At "TooGreat",bases:=[.ref 24],mro:=[.ref 147,.ref 24,.type "ValueError",.type "Exception",.type "BaseException",.type "object"],ns:=146,qualname:=At "TooGreat"},slots:=#[Y! (.ref 131),AC,Y! (.str (At "TooGreat") 344),Y! (.str (At "TooGreat") 352),Y! (.builtin "ValueError.__new__"),Y! (.bool AT)]}) ::
 (nat_lit 153,k5 "worth_in" 387 35 2 150 390 391) ::
 (nat_lit 154,kf "worth_in" 19 VB 371 153) ::
 (nat_lit 160,k7 "sign_at" 395 38 2 155 402 403) ::
 (nat_lit 161,kf "sign_at" 21 VA 393 160) ::
 (nat_lit 167,k7 "takes" 407 45 2 162 412 413) ::
 (nat_lit 168,kf "takes" 23 OI 405 167) ::
 (nat_lit 172,k5 "seats_of" 415 47 2 169 418 419) ::
 (nat_lit 173,kf "seats_of" 24 OI 405 172) ::
 (nat_lit 177,k5 "fits" 421 52 3 174 424 425) ::
 (nat_lit 178,kf "fits" 25 OI 405 177) ::
 (nat_lit 182,k5 "places_of" 427 57 2 179 430 431) ::
 (nat_lit 183,kf "places_of" 26 OI 405 182) ::
 (nat_lit 189,k7 "apart" 435 63 4 184 443 444) ::
 (nat_lit 190,kf "apart" 28 Mn 433 189) ::
 (nat_lit 194,k5 "those_that_sit" 446 68 2 191 449 450) ::
 (nat_lit 195,kf "those_that_sit" 29 Mn 433 194) ::
 (nat_lit 199,k5 "apart_from_all" 452 70 3 196 455 456) ::
 (nat_lit 200,kf "apart_from_all" 30 Mn 433 199) ::
 (nat_lit 204,k5 "keeps" 458 72 3 201 461 462) ::
 (nat_lit 205,kf "keeps" 31 Mn 433 204) ::
 (nat_lit 209,k5 "worth_of" 464 77 2 206 467 468) ::
 (nat_lit 210,kf "worth_of" 32 Mn 433 209) ::
 (nat_lit 216,k7 "fast_seating" 474 81 3 211 481 482) ::
 (nat_lit 217,kf "fast_seating" 35 G1 470 216) ::
 (nat_lit 224,k7 "ways" 484 86 3 219 493 494) ::
 (nat_lit 225,kf "ways" 36 G1 470 224<|.ref 218) ::
 (nat_lit 231,k7 "small_start" 496 92 3 226 503 504) ::
 (nat_lit 232,kf "small_start" 37 G1 470 231) ::
 (nat_lit 238,k7 "with_place" 506 97 3 233 512 513) ::
 (nat_lit 239,kf "with_place" 38 G1 470 238) ::
 (nat_lit 243,k5 "open_among" 515 99 3 240 518 519) ::
 (nat_lit 244,kf "open_among" 39 G1 470 243) ::
 (nat_lit 248,k5 "with_one_more" 521 101 5 245 524 525) ::
 (nat_lit 249,kf "with_one_more" 40 G1 470 248) ::
 (nat_lit 255,k7 "seatings_from" 527 110 4 250 536 537) ::
 (nat_lit 256,kf "seatings_from" 41 G1 470 255) ::
 (nat_lit 263,k7 "first_of_all" 539 116 3 258 546 547) ::
 (nat_lit 264,kf "first_of_all" 42 G1 470 263<|.ref 257) ::
 (nat_lit 270,k7 "best_among" 551 120 2 265 557 558) ::
 (nat_lit 271,kf "best_among" 44 OH 549 270) ::
 (nat_lit 278,k7 "best_of_all" 560 122 3 273 567 568) ::
 (nat_lit 279,kf "best_of_all" 45 OH 549 278<|.ref 272) ::
 (nat_lit 286,k7 "best_of_some" 570 125 3 281 577 578) ::
 (nat_lit 287,kf "best_of_some" 46 OH 549 286<|.ref 280) ::
 (nat_lit 294,k7 "best_worth" 580 128 3 289 586 587) ::
 (nat_lit 295,kf "best_worth" 47 OH 549 294<|.ref 288) ::
 (nat_lit 299,k5 "all_places" 591 131 2 296 594 595) ::
 (nat_lit 300,kf "all_places" 49 OG 589 299) ::
 (nat_lit 306,k7 "spots_of" 597 133 4 301 604 605) ::
 (nat_lit 307,kf "spots_of" 50 OG 589 306) ::
 (nat_lit 311,k5 "paper_beside" 607 135 3 308 610 611) ::
 (nat_lit 312,kf "paper_beside" 51 OG 589 311) ::
 (nat_lit 319,k7 "paper_of" 613 143 3 314 619 620) ::
 (nat_lit 320,kf "paper_of" 52 OG 589 319<|.ref 313) ::
 (nat_lit 324,k5 "still_waiting" 624 148 2 321 627 628) ::
 (nat_lit 325,kf "still_waiting" 54 OF 622 324) ::
 (nat_lit 329,k5 "most_from" 630 150 4 326 633 634) ::
 (nat_lit 330,kf "most_from" 55 OF 622 329) ::
 (nat_lit 336,k7 "tree_beside" 636 156 5 331 647 648) ::
 (nat_lit 337,kf "tree_beside" 56 OF 622 336) ::
 (nat_lit 344,k7 "tree_of" 650 165 3 339 657 658) ::
 (nat_lit 345,kf "tree_of" 57 OF 622 344<|.ref 338) ::
 (nat_lit 351,k7 "_law_cell_at" 662 169 2 346 667 668) ::
 (nat_lit 352,kf "_law_cell_at" 59 zU 660 351) ::
 (nat_lit 356,k5 "_law_drawn" 670 173 1 353 673 674) ::
 (nat_lit 357,kf "_law_drawn" 60 zU 660 356) ::
 (nat_lit 363,k7 "_law_fast" 676 182 3 358 694 695) ::
 (nat_lit 364,kf "_law_fast" 61 zU 660 363) ::
 (nat_lit 370,k7 "_law_ways" 697 194 3 365 706 707) ::
 (nat_lit 371,kf "_law_ways" 62 zU 660 370) ::
 (nat_lit 377,k7 "_law_apart_from_all" 709 200 1 372 713 714) ::
 (nat_lit 378,kf "_law_apart_from_all" 63 zU 660 377) ::
 (nat_lit 384,k7 "_law_asked" 716 206 4 379 723 724) ::
 (nat_lit 385,kf "_law_asked" 64 zU 660 384) ::
 (nat_lit 391,k7 "_law_refused" 726 218 5 386 736 737) ::
 (nat_lit 392,kf "_law_refused" 65 zU 660 391) ::
 (nat_lit 398,k7 "_law_wished" 739 225 2 393 747 748) ::
 (nat_lit 399,kf "_law_wished" 66 zU 660 398) ::
 (nat_lit 405,k7 "_law_apart" 750 233 4 400 758 759) ::
 (nat_lit 406,kf "_law_apart" 67 zU 660 405) ::
 (nat_lit 410,k5 "_law_behind" 761 238 3 407 764 765) ::
 (nat_lit 411,kf "_law_behind" 68 zU 660 410) ::
 (nat_lit 417,k7 "_law_best_behind" 767 253 3 412 775 776) ::
 (nat_lit 418,kf "_law_best_behind" 69 zU 660 417) ::
 (nat_lit 422,k5 "_law_by_hand" 778 259 1 419 781 782) ::
 (nat_lit 423,kf "_law_by_hand" 70 zU 660 422) ::
 (nat_lit 429,k7 "law" 784 266 1 424 794 795) ::
 (nat_lit 430,kf "law" 71 zU 660 429) ::
 (nat_lit 218,{cls:=.type "tuple",data:=.seq #[.none]}) ::
 (nat_lit 257,{cls:=.type "tuple",data:=.seq #[.none]}) ::
 (nat_lit 272,{cls:=.type "tuple",data:=.seq #[.none]}) ::
 (nat_lit 280,{cls:=.type "tuple",data:=.seq #[.none]}) ::
 (nat_lit 288,{cls:=.type "tuple",data:=.seq #[.none]}) ::
 (nat_lit 313,{cls:=.type "tuple",data:=.seq #[.none]}) ::
 (nat_lit 338,{cls:=.type "tuple",data:=.seq #[.none]})::[]) (by kernel_rfl)
def KA:Y' Z':=[nat_lit 3,nat_lit 23,nat_lit 24,nat_lit 36,nat_lit 37,nat_lit 48,nat_lit 49,nat_lit 60,nat_lit 61,nat_lit 72,nat_lit 73,nat_lit 84,nat_lit 85,nat_lit 96,nat_lit 97,nat_lit 108,nat_lit 109,nat_lit 124,nat_lit 125,nat_lit 127,nat_lit 128,nat_lit 143,nat_lit 144,nat_lit 146,nat_lit 147,nat_lit 153,nat_lit 154,nat_lit 160,nat_lit 161,nat_lit 167,nat_lit 168,nat_lit 172,nat_lit 173,nat_lit 177,nat_lit 178,nat_lit 182,nat_lit 183,nat_lit 189,nat_lit 190,nat_lit 194,nat_lit 195,nat_lit 199,nat_lit 200,nat_lit 204,nat_lit 205,nat_lit 209,nat_lit 210,nat_lit 216,nat_lit 217,nat_lit 224,nat_lit 225,nat_lit 231,nat_lit 232,nat_lit 238,nat_lit 239,nat_lit 243,nat_lit 244,nat_lit 248,nat_lit 249,nat_lit 255,nat_lit 256,nat_lit 263,nat_lit 264,nat_lit 270,nat_lit 271,nat_lit 278,nat_lit 279,nat_lit 286,nat_lit 287,nat_lit 294,nat_lit 295,nat_lit 299,nat_lit 300,nat_lit 306,nat_lit 307,nat_lit 311,nat_lit 312,nat_lit 319,nat_lit 320,nat_lit 324,nat_lit 325,nat_lit 329,nat_lit 330,nat_lit 336,nat_lit 337,nat_lit 344,nat_lit 345,nat_lit 351,nat_lit 352,nat_lit 356,nat_lit 357,nat_lit 363,nat_lit 364,nat_lit 370,nat_lit 371,nat_lit 377,nat_lit 378,nat_lit 384,nat_lit 385,nat_lit 391,nat_lit 392,nat_lit 398,nat_lit 399,nat_lit 405,nat_lit 406,nat_lit 410,nat_lit 411,nat_lit 417,nat_lit 418,nat_lit 422,nat_lit 423,nat_lit 429,nat_lit 430,nat_lit 218,nat_lit 257,nat_lit 272,nat_lit 280,nat_lit 288,nat_lit 313,nat_lit 338]
end n!
namespace PySem.W.Fast
def tw12313704923623583204:=()
def tw8000447274028187955:=()
def tw4801442827205239616:=()
def tw5682004051675906223:=()
def tw8683843481529987380:=()
def tw14931786931151508212:=()
def tw9688143084191303271:=()
def tw7589243158176802365:=()
def tw2224782406858795533:=()
def tw7944465694277532823:=()
def tw17525785314749905422:=()
def tw17943455726792651239:=()
def tw14603438915777005125:=()
def tw2873036508791535025:=()
def tw10089660679636699998:=()
def tw6636708570620464513:=()
def tw1583680664466238670:=()
def tw3864847896729979262:=()
def tw11321569521533509261:=()
def tw18077809671360814412:=()
def tw16540099515817100823:=()
def tw13119354723800604447:=()
def tw3466397487018930644:=()
def tw6516224605215675138:=()
def tw13853339210705930655:=()
def tw7316990445443956377:=()
def tw17754607482207268334:=()
def tw15609485691946095320:=()
def tw7615093349122826275:=()
def tw1727466381086507885:=()
def tw4408415973314324660:=()
def tw10775409128811570240:=()
def tw1601518293591660078:=()
def tw18293432991173897279:=()
def tw4248198790410809910:=()
def tw12184405834622592457:=()
def tw1774817242531082959:=()
def tw9273773654237451865:=()
def tw999009181698230079:=()
def tw6326669102813440296:=()
def tw3155363229910506397:=()
def tw16313711329349746102:=()
def tw18385952578765810090:=()
def tw1704136132962272169:=()
def tw17008613622173954874:=()
def tw4932766135124542651:=()
def tw5492442853424015896:=()
def tw18426868989382515487:=()
def tw4847472009792542853:=()
def tw10749666843713278670:=()
def tw18002972834393557704:=()
def tw15754145006471746760:=()
def tw9027338244519025169:=()
def tw10750098797247993910:=()
def tw3435659641778474518:=()
def tw15353618044519001759:=()
def tw7174421206283705163:=()
def tw2571461184486388825:=()
def tw6199061619789064030:=()
def tw17665203561324493684:=()
def tw6277307433766231366:=()
def tw8279488428760216212:=()
def tw5551531809176716532:=()
def tw9890532418309190463:=()
def tw2480208791567563579:=()
def tw1292913359315465136:=()
def tw4130312356965526800:=()
def tw1800746825162895307:=()
def tw4317624956367208126:=()
def tw4819378736658488252:=()
def tw10298609720044260083:=()
def tw6964068155853123418:=()
def tw14292678594492442918:=()
def tw7796313674300277651:=()
def tw5636021152019637679:=()
def tw13561199404002592248:=()
def tw13725426549971245439:=()
def tw16314955995675509466:=()
def tw13344305337611133614:=()
def tw13147925698106545820:=()
def tw812878765398015718:=()
def tw17085202067621744742:=()
def tw12018075111190017151:=()
def tw4159969520013053622:=()
def tw18321618229245800246:=()
def tw11691778198073375130:=()
def tw7238679377024642822:=()
def tw3863012584186431621:=()
def tw1491574818739306007:=()
def tw13253411426758777136:=()
def tw4497287541452313054:=()
def tw7325140365772786772:=()
def tw16551545765760593951:=()
def tw13339125934269513395:=()
def tw3400701956259065585:=()
def tw17679937089401818013:=()
def tw9979539795511339483:=()
def tw1433505831283184066:=()
def tw8166695941046160437:=()
def tw16041140598786499237:=()
def tw6995869313142608733:=()
def tw8854342498730357590:=()
def tw14887248093334752513:=()
def tw812453461953694796:=()
def tw12064263346569950515:=()
def tw1571792901769656358:=()
def tw9021738639651762191:=()
def tw5225065828743332511:=()
def tw12711567612941110142:=()
def tw15840571969567803042:=()
def tw17819493613862992133:=()
def tw7832427781542939289:=()
def tw8857216026905006504:=()
def tw5110308881259256951:=()
def tw16394033971146792623:=()
def tw14087655225643706532:=()
def tw467509012175373926:=()
def tw17305203615140275639:=()
def tw10729706161051927340:=()
def tw16357937032835769503:=()
def tw4295952128436042567:=()
def tw15082453565455360196:=()
def tw12439815053404643871:=()
def tw3817793779092957670:=()
def tw3384407703750466254:=()
def tw10621959541077112110:=()
def tw9464826555493675125:=()
def tw12937923929561949812:=()
def tw9875774647518204598:=()
def tw17242398680045212957:=()
def tw3837708791538387195:=()
def tw15980461096748064232:=()
def tw6152878221820491732:=()
def tw15701048112453723466:=()
def tw3418484952248089148:=()
def tw11822222893247248123:=()
def tw5810495732996716092:=()
def tw3073268111765480597:=()
def tw32466837363922741:=()
def tw4023845734413533086:=()
def tw3641721052333967393:=()
def tw16866817854396348111:=()
def tw6703317938172497146:=()
def tw16525330849232819718:=()
def tw7708460043328464836:=()
def tw11635629815145472641:=()
def tw6368912411407001415:=()
def tw13094163444354907193:=()
def tw1219402948097118867:=()
def tw12233342883557634774:=()
def tw11806596373603564802:=()
def tw2976109877105710411:=()
def tw12114531863389977824:=()
def tw561782087146373408:=()
def tw17870786549285381332:=()
def tw10229232319752805156:=()
end PySem.W.Fast
open PySem PySem.W PyProof.Rows
set_option maxRecDepth 100000 in
set_option maxHeartbeats 0 in
theorem PySem.Challenge.cw_besideseats_k53_too_many_ways_holds : PySem.Challenge.rw_besideseats_k53_too_many_ways.Holds := by
 w_on;o_law;o_head (PySem.W.kHook n!.KK n!.KA (λ _=>by kernel_rfl));(case hw=>w_witness2)
 k_fill
 refine n!.walk (l:=PySem.Challenge.rw_besideseats_k53_too_many_ways) rfl rfl (λ w h Y=>PySem.W.kIn_of Y) ?F ?L
 case L=>
  intro w;refine' ZS.IJ (r1:=_) (r2:=_) ?n ?h1 ?h2 ?g1 ?g2 ?ne
  (case n=>kernel_rfl)
  (case h1=>refine' ZS.oR ?a1 ?l1 ?e1 ?tl1 ?tp1;(case a1=>k_is);(case l1=>k_is);(case e1=>exact rfl);(case tl1=>k_is);(case tp1=>exact rfl))
  (case g1=>exact .inr rfl)
  (case h2=>refine' ZS.oR ?a2 ?l2 ?e2 ?tl2 ?tp2;(case a2=>k_is);(case l2=>k_is);(case e2=>exact rfl);(case tl2=>k_is);(case tp2=>exact rfl))
  (case g2=>exact .inr rfl)
  (case ne=>exact λ c P c' P' e1 e2=>by first|(cases e1;done)|(cases e2;done)|(cases e1;cases e2;decide))
 case F=>
  intro w mg fa h KX G Rp;refine' n!.all_mk Rp ⟨KX,G,?_,?_,?_,?_,?_,?_,?_,?_,?_,?_,?_,?_,?fw14,?_,?_,?_,?_,?_,?fw20,?fw21,?fw22,?fw23,?fw24,?_,?_,?fw27,?fw28,?_,?_,?_,?fw32,?_,?_,?_,?_,?_,?_,?_,?_,?_,?_,?_,?_,?_,?_,?_,?_,?_,?_,?_,?_,?_,?_,?_,?_,?_,?_,?fw59,?fw60,?fw61,?fw62,?fw63,?fw64,?fw65,?fw66,?fw67,?fw68,?fw69,?fw70,?fw71,?fw72,?fw73,?fw74,?fw75,?fw76,?fw77,?fw78,?fw79,?fw80,?fw81,?fw82,?fw83,?fw84,?fw85,?fw86,?fw87,?fw88,?fw89,?fw90,?fw91,?fw92,?fw93,?fw94,?fw95,?fw96,?fw97,?fw98,?fw99,?fw100,?fw101,?fw102,?fw103,?fw104,?fw105,?fw106,?fw107,?fw108,?fw109,?fw110,?fw111,?fw112,?fw113,?fw114,?fw115,?fw116,?fw117,?fw118,?fw119,?fw120,?fw121,?fw122,?fw123,?fw124,?fw125,?fw126,?fw127,?fw128,?fw129,?fw130,?fw131,?fw132,?fw133,?fw134,?fw135,?fw136,?fw137⟩
  (case fw59|fw60|fw61|fw62|fw63|fw64|fw65|fw66|fw67|fw68|fw69|fw70|fw71|fw72|fw73|fw74|fw75|fw76=>k_is)
  (case fw100|fw101|fw102|fw103|fw104|fw105|fw106|fw107|fw108=>refine' ⟨?_,?_,?_,?_,?_,?_,?_⟩<;>kernel_rfl)
  (case fw127|fw128=>refine' ⟨?_,?_,?_⟩<;>kernel_rfl)
  (case fw77|fw78|fw79|fw80|fw81|fw82|fw83|fw84|fw85|fw86|fw87|fw88|fw89|fw90|fw91|fw92|fw93|fw94|fw95|fw96|fw97|fw98|fw99|fw109|fw110|fw111|fw112|fw113|fw114|fw115|fw116|fw117|fw118|fw119|fw120|fw121|fw122|fw123|fw124|fw125|fw126|fw129|fw130|fw131|fw133|fw134|fw136|fw137=>kernel_rfl)
  (case fw14|fw20|fw22|fw23|fw24|fw28|fw32=>refine' ZS.jb.mk' ?a ?l ?c ?k ?dq;(case a=>k_is);(case l=>k_is);(case c=>k_is);(case k=>k_is);(case dq=>k_is))
  (case fw132|fw135=>refine' ZS.p_.mk' ?a ?l ?c ?k ?i;(case a=>k_is);(case l=>k_is);(case c=>k_is);(case k=>k_is);(case i=>k_is))
  (case fw21|fw27=>refine' ZS.qb.mk' ?a ?l ?c ?k ?tl ?tp;(case a=>k_is);(case l=>k_is);(case c=>k_is);(case k=>k_is);(case tl=>k_is);(case tp=>exact rfl))
  all_goals first|k_is|(refine' ZS.cz.mk' ?a ?l ?c ?k;(case a=>k_is);(case l=>k_is);(case c=>k_is);(case k=>k_is))
#print axioms PySem.Challenge.cw_besideseats_k53_too_many_ways_holds
