import PyProof.Rows.All
import Wide.All
import OpenK.AllK
import Wide.FinOn
import Lean
import KE.KMinKey
import PyProof.WalkInts
import PyProof.SeqI3
import PyProof.Rows.CallKwBuiltin
import KE.KIsAll
import PyProof.StrBlock
import PyProof.Rows.StrLen
import KE.KIntText
import PyProof.StrLawsFirst
import PyProof.StrLawsIn
import PyProof.EqAt
import PyProof.EqKinds
import PyProof.TupleCall
import KE.KLam
import PySem.Challenge.RW_besideseats_k86_rows_refused
set_option Elab.async false
set_option linter.all false
set_option maxRecDepth 100000
set_option genSizeOf false
set_option compiler.extract_closed false
set_option bootstrap.genMatcherCode false
noncomputable section
open Option renaming some→AC,none→Ch,getD_none→AB6
open Bool renaming false→AT,true→Da,and_true→AD4,true_and→AD5
open PySem.Str renaming ofString→Db
open PySem.W renaming Frag→Do,nsIn→Ev,kitOne→FS,Frag→Fa,keepIn→Fk,findIn→GE,fnOf→On,codeIn→PP,tabIn→Re,emptyDict→Rs,instObj→Tk,plainGet→UF,lookIn→XV,hasDictIn→ac,mroIn→bv,makesIn→ii,takerIn→im,hideAll_none→lc,tabObj→le,excIn→sB,codeRec_of→wE,isFn→AA7,plainOver→AA8,specialIn→AA9,handedIn→AB8,OpenLaw→AD1,CodeHd→AD3
open List renaming replicate→EQ,range→FB,lookup→IR,zipWith→cr,getElem_of_mem→pi,map_inj_right→tz,set_cons_succ→ul,set_cons_zero→ut,flatten_cons→AA1,getElem_take→AA2,reverse_cons→AA3,filter_cons→AB4,zipIdx_cons→AB5,filter_map→AC6,find?_cons→AC7,foldl_cons→AC8,zipIdx_nil→AC9,forIn_nil→AD2,map_take→AD6,sum_cons→AD7
open PySem renaming wpAny→FM,Within→AB0,Str→AE0
open False renaming elim→GM
open PySem.Builtin.SmallTypes renaming nextOf→GT,ownedTupleIsFree→Gc,ownedTupleHandOut→TD
open PySem.Builtin.Str renaming occurrences→Go,strSub→NE,occurrences→Pi,strKind→ol,glued→xL
open Sum renaming inr→IN,inl→gt
open PySem.Heap renaming SameBut→Ix,IsTuple→zn
open ForInStep renaming yield→KF
open PySem.Builtin.Builtins renaming bindParams→KM
open PySem.Builtin.Slice renaming slicePlaces→No,sliceAdjust→Sc,sliceApplied→WP
open PySem.Builtin.Tuple renaming tupleExact→Op,tupleItemsOf→Wp
open PySem.Builtin.Range renaming rangeSize→Os,small→Uf
open List.range renaming loop→Ps
open PySem.SeqAt renaming EqAt→SL,RcNeAt→Tl,RcAt→ZB
open PySem.Value renaming none→SZ,isInt→AC1,builtin→AD8,isStrOf→AD9
open PySem.Obj renaming mapFields→TW
open PySem.W.WData renaming weightAll→UV,weight→WF
open Or renaming inr→bi,inl→AE2
open Array renaming toList→ci,toList_append→lf
abbrev γ:=@List
abbrev δ:=@PySem.Addr
abbrev ε:=@Option
abbrev ζ:=@PySem.Value
abbrev η:=@PySem.Shared
abbrev θ:=@PySem.Stmt
abbrev ι:=@PySem.Expr
abbrev μ:=@PySem.Heap
abbrev ν:=@PySem.Obj
abbrev ξ:=@PySem.World
abbrev ο:=@PySem.Program
abbrev π:=@PySem.Keyword
abbrev ς:=@PySem.Around
abbrev τ:=@PySem.Scope
abbrev υ:=@PySem.FuncData
def T0:=@PySem.wpAny_bind
def o0:=@List.mem_cons
def W1:=@PySem.wpAny_pure
def M2:=@Nat.le_refl
def v6:=@if_neg
def f8:=@if_pos
def A00:=@PySem.Heap.get?_push_of_some
def A01:=@List.getElem?_eq_getElem
def A02:=@PySem.Heap.lt_size
def A03:=@Option.some.inj
def A04:=@List.getElem?_map
def A05:=@List.size_toArray
def A06:=@List.map_cons
def A07:=@List.mem_cons_of_mem
def A08:=@Ne.symm
def A09:=@List.length_map
def A10:=@List.getElem?_eq_some_iff
def A11:=@congrArg
def A12:=@PySem.W.mg_of
def A13:=@PySem.Heap.get?_push_size
def A14:=@List.not_mem_nil
def A15:=@List.mem_singleton
def A16:=@or_false
def A17:=@Nat.ne_of_lt
def A18:=@List.mem_map
def A19:=@PySem.wpAny_mono
def A20:=@List.length_append
def A21:=@Nat.lt_of_lt_of_le
def A22:=@List.mem_cons_self
def A23:=@Nat.le_trans
def A24:=@List.length_cons
def A25:=@if_true
def A26:=@List.getElem?_set_ne
def A27:=@PySem.sizeLine_eq
def A28:=@List.all_eq_true
def A29:=@List.mem_append
def A30:=@List.getElem?_set_self
def A31:=@List.length_take
def A32:=@beq_iff_eq
def A33:=@List.mem_of_getElem?
def A34:=@PySem.wpAny_field
def A35:=@Bool.and_eq_true
def A36:=@List.map_map
def A37:=@List.getElem?_append_left
def A38:=@List.mem_range
def A39:=@PySem.wpAny_seqItems
def A40:=@List.mem_append_right
def A41:=@Nat.zero_le
def A42:=@decide_eq_true
def A43:=@Bool.false_eq_true
def A44:=@PySem.F.plain_max_loop
def A45:=@List.nodup_cons
def A46:=@List.getElem?_replicate
def A47:=@List.length_replicate
def A48:=@PySem.W.mg_none_of
def A49:=@decide_eq_false
def A50:=@Nat.ne_of_gt
def A51:=@PySem.Heap.size_push
def A52:=@List.getElem?_append_right
def A53:=@PySem.call_meets
def A54:=@PySem.wpAny_tryCatch
def A55:=@PySem.wpAny_truthy_bool
def A56:=@List.append_nil
def A57:=@PySem.wpAny_holding
def A58:=@of_decide_eq_true
def A59:=@PySem.wpAny_letGo
def A60:=@Nat.mul_le_mul
def A61:=@Nat.lt_succ_self
def A62:=@PySem.mem_of_lookup
def A63:=@PySem.wpAny_newObj_type
def A64:=@PySem.Heap.get?_update_other
def A65:=@Bool.eq_iff_iff
def A66:=@PySem.Obj.data_mapFields
def A67:=@not_or
def A68:=@List.filter_eq_self
def A69:=@Nat.le_of_lt
def A70:=@List.getElem?_set
def A71:=@beq_eq_false_iff_ne
def A72:=@Nat.lt_irrefl
def A73:=@PySem.wpAny_call
def A74:=@PySem.codeAny_mono
def A75:=@Nat.le_succ
def A76:=@if_false
def A77:=@PySem.typeIs_str
def A78:=@List.map_nil
def A79:=@List.length_nil
def A80:=@List.map_congr_left
def A81:=@Option.map_some
def A82:=@List.append_assoc
def A83:=@PySem.plainId_quiet
def A84:=@List.mem_append_left
def A85:=@PySem.wpAny_Call_Name_kw
def A86:=@PySem.W.callWith_K
def A87:=@Option.isSome_iff_exists
def A88:=@List.any_cons
def A89:=@List.getElem_mem
def A90:=@PySem.W.kia_one
def A91:=@List.lookup_cons
def A92:=@PySem.Heap.get?_update_self
def A93:=@decide_eq_true_eq
def A94:=@List.getD_eq_getElem?_getD
def A95:=@List.mem_filter
def A96:=@PyProof.Rows.callWith_type1
def A97:=@PySem.wpAny_callSpecial?_slot
def A98:=@PyProof.Rows.slot_tuple_getitem
def A99:=@PySem.wpAny_call_entry
def B00:=@List.length_range
def B01:=@List.range_succ
def B02:=@List.map_append
def B03:=@PySem.wpAny_rule
def B04:=@PySem.wpAny_pyIter_tuple
def B05:=@Nat.not_lt
def B06:=@PySem.wpAny_setField_rec
def B07:=@List.nil_append
def B08:=@PySem.codeAny_builtin
def B09:=@PySem.F.entry_max_loop
def B10:=@PySem.Around.under_plainId
def B11:=@PySem.wpAny_updateSeq
def B12:=@Nat.add_comm
def B13:=@List.length_filter_le
def B14:=@PySem.wpAny_passesOwn
def B15:=@Bool.false_ne_true
def B16:=@Nat.lt_trans
def B17:=@List.getElem_range
def B18:=@PySem.wpAny_pyIter_list
def B19:=@List.drop_eq_getElem_cons
def B20:=@List.lookup_cons_self
def B21:=@List.cons_append
def B22:=@List.take_length
def B23:=@Int.toNat_natCast
def B24:=@Nat.zero_add
def B25:=@List.nodup_nil
def B26:=@and_true
def B27:=@not_false_eq_true
def B28:=@Option.some.injEq
def B29:=@PySem.F.slot_tuple_mul
def B30:=@PySem.wpAny_ite_false
def B31:=@Array.getElem?_eq_some_iff
def B32:=@Nat.add_mul
def B33:=@List.pairwise_iff_getElem
def B34:=@List.pairwise_cons
def B35:=@List.getElem?_of_mem
def B36:=@List.mem_flatMap
def B37:=@PySem.wpAny_execs_nil
def B38:=@PySem.intBits_le_64
def B39:=@PySem.W.methodCall_KW
def B40:=@List.of_mem_zip
def B41:=@PySem.concat_meets
def B42:=@Option.map_eq_some_iff
def B43:=@beq_self_eq_true
def B44:=@List.forIn_cons
def B45:=@List.all_cons
def B46:=@List.cons.injEq
def B48:=@List.countP_cons
def B49:=@PySem.F.slot_tuple_iterator_next
def B50:=@PySem.wpAny_setField
def B51:=@PySem.Obj.isFreed_of_fields
def B52:=@PySem.wpAny_pyIter_enum
def B53:=@PySem.wpAny_onRaise
def B54:=@PySem.wpAny_attempt
def B55:=@PySem.F.slot_zip_next
def B56:=@List.replicate_succ
def B57:=@Bool.not_eq_true'
def B58:=@PySem.F.plainAttrs_str
def B59:=@Nat.lt_of_le_of_lt
def B60:=@lc
def B61:=@Int.ofNat.inj
def B62:=@Nat.succ_mul
def B63:=@List.mem_iff_getElem
def B65:=@List.filterMap_cons
def B66:=@PySem.Calls.Name_function_global
def B67:=@Array.length_toList
def B68:=@List.mem_filterMap
def B69:=@PySem.W.plainGet_of
def B70:=@PySem.wpAny_loadPart
def B71:=@Nat.le_of_eq
def B72:=@PySem.W.cellsFrom_some
def B73:=@PySem.Around.frames_deeper
def B75:=@PySem.noFill_tuple_add
def B77:=@PySem.F.slot_tuple_add
def B78:=@PySem.F.entry_tuple_add
def B79:=@PySem.F.args_tuple_add_2
def B80:=@List.length_drop
def B82:=@Bool.and_false
def B83:=@List.getElem?_eq_none
def B84:=@List.drop_length
def B85:=@Nat.lt_succ_of_lt
def B86:=@Bool.or_eq_true
def B87:=@PySem.SeqAt.EqAt.same
def B88:=@PySem.F.plainAttrs_list
def B89:=@List.take_add_one
def B90:=@PySem.Obj.cls_mapFields
def B91:=@PySem.AutoSeq1.wpAny_loadPart'
def B93:=@Nat.succ_ne_self
def B94:=@PySem.wpAny_updateSeq_pair
def B95:=@PySem.wpAny_pyIter_zip
def B96:=@Option.bind_some
def B97:=@Nat.min_eq_left
def B98:=@PySem.F.entry_tuple_mul
def B99:=@PySem.F.args_tuple_mul_2
def C00:=@ne_true_of_eq_false
def C01:=@PySem.F.slot_str_split
def C02:=@PySem.F.entry_str_split
def C03:=@PySem.F.args_str_split_2
def C04:=@List.getElem?_cons_zero
def C05:=@Int.toNat_of_nonneg
def C06:=@Prod.mk.injEq
def C07:=@Nat.add_assoc
def C08:=@List.mem_flatten
def C09:=@Nat.mul_le_mul_right
def C14:=@List.getElem?_take_of_lt
def C16:=@PySem.wpAny_newFunctionEnv_cells
def C17:=@List.eq_nil_of_length_eq_zero
def C18:=@List.cons_lt_cons_iff
def C19:=@List.set_eq_of_length_le
def C20:=@List.range_succ_eq_map
def C21:=@PySem.F.entry_tuple_iterator_next
def C22:=@PySem.F.args_tuple_iterator_next_1
def C23:=@List.getElem?_cons_succ
def C25:=@PySem.F.slot_str_join
def C26:=@PySem.F.type_str_join
def C27:=@PyProof.Rows.split_le
def C28:=@List.take_of_length_le
def C29:=@List.mem_iff_getElem?
def C30:=@List.take_append_drop
section S0
open PySem PySem.Spec PyProof.Rows
namespace L2
abbrev Se(a:ι)(es:γ ι)(E:PySem.Env):Prop:=starEach (a::es) E=(AT,eval a E)::starEach es E
abbrev Nd(x:Str):Prop:=(x==("__debug__":Str))=AT
abbrev Pn(p:Pos)(es:γ ι)(E:PySem.Env):Prop:=(backTo p<|starEach es E).any (·.1)=AT
end L2
open L2 (Se Nd Pn)
namespace L2
abbrev Key:=Sum Int Str
def xK:Key->ζ->Bool
|.inl k,v=>AC1 k v
|.inr x,v=>AD9 x v
def abx(w:ξ):Key->Int
|.inl k=>hashInt k
|.inr x=>hashStr w x
theorem dD:∀{k}{v},xK k v=Da->(∃i t,k=gt i/\v=Value.int i t)\/(∃x t,k=IN x/\v=Value.str x t)
|.inl i,v,h=>by obtain⟨t,e⟩:=Value.isInt_shape h;exact .inl ⟨i,t,rfl,e⟩
|.inr x,v,h=>by obtain⟨t,e⟩:=Value.isStrOf_shape h;exact .inr ⟨x,t,rfl,e⟩
theorem G8(i:Int)(t:Tok):xK (.inl i) (.int i t)=Da:=by simp[xK,AC1]
theorem G7(x:Str)(t:Tok):xK (.inr x) (.str x t)=Da:=by simp[xK,AD9]
theorem S9(a b:Int):decide ((gt a:Key)=gt b)=(a==b):=by
 by_cases e:a=b
 .subst e;simp
 .have h:¬(gt a:Key)=gt b:=λ q=>e<|Sum.inl.inj q;rw[A49 h];exact(A71.mpr e).symm
theorem S6(a b:Str):decide ((IN a:Key)=IN b)=decide (a=b):=by
 by_cases e:a=b
 .subst e;simp
 .have h:¬(IN a:Key)=IN b:=λ q=>e<|Sum.inr.inj q;rw[A49 h,A49 e]
theorem S8(a:Int)(b:Str):decide ((gt a)=IN b)=AT:=A49 λ q=>nomatch q
theorem S7(a:Str)(b:Int):decide ((IN a)=gt b)=AT:=A49 λ q=>nomatch q
def eu(prog:ο)(w:ξ):PySem.KeyKind prog w Key where
 is:=xK
 hash:=abx w
 inj:=λ v a b ha hb=>by
  rcases dD ha with⟨i,t,rfl,rfl⟩|⟨x,t,rfl,rfl⟩
  .rcases dD hb with⟨j,u,rfl,e⟩|⟨y,u,rfl,e⟩
   .injection e with e1 _;rw[e1]
   .exact nomatch e
  .rcases dD hb with⟨j,u,rfl,e⟩|⟨y,u,rfl,e⟩
   .exact nomatch e
   .injection e with e1 _;rw[e1]
 byValue:=λ k v h=>by rcases dD h with⟨i,t,rfl,rfl⟩|⟨x,t,rfl,rfl⟩<;>rfl
 pyHash:=λ hv h=>by
  rcases dD hv with⟨i,t,rfl,rfl⟩|⟨x,t,rfl,rfl⟩
  .exact wpAny_pyHash_int h
  .exact wpAny_pyHash_str h
 eqBool:=λ hu hv h=>by
  rcases dD hu with⟨i,t,rfl,rfl⟩|⟨x,t,rfl,rfl⟩
  .rcases dD hv with⟨j,u,rfl,rfl⟩|⟨y,u,rfl,rfl⟩
   .rw[S9]at h;exact wpAny_eqBool_int h
   .rw[S8]at h;exact SeqAt.EqAt.int_str i t y u _ _ _ _ h
  .rcases dD hv with⟨j,u,rfl,rfl⟩|⟨y,u,rfl,rfl⟩
   .rw[S7]at h;exact SeqAt.EqAt.str_int x t j u _ _ _ _ h
   .rw[S6]at h;exact wpAny_eqBool_str h
 «strs»:=λ k x t v h=>by
  rcases dD h with⟨i,u,rfl,e⟩|⟨y,u,rfl,e⟩
  .exact nomatch e
  .injection e with e1 _
   subst e1;cases v<;>rfl
theorem Bk(prog:ο)(w:ξ)(i:Int)(t:Tok):(eu prog w).is (.inl i) (.int i t)=Da:=G8 i t
theorem Bj(prog:ο)(w:ξ)(x:Str)(t:Tok):(eu prog w).is (.inr x) (.str x t)=Da:=G7 x t
inductive V where
|non|bl (b:Bool)|int (i:Int)|str (x:Str)|Vo (b:Array UInt8)|Vh (b:UInt64)|ref (a:Addr)|ty (n:String)
deriving DecidableEq
def RelV:V->ζ->Prop
|.non,u=>u=SZ
|.bl b,u=>u=Value.bool b
|.int i,u=>∃t,u=Value.int i t
|.str x,u=>∃t,u=Value.str x t
|.Vo b,u=>∃t,u=Value.bytes b t
|.Vh b,u=>∃t,u=Value.float b t
|.ref a,u=>u=Value.ref a
|.ty n,u=>u=Value.type n
abbrev Vals:γ V->γ ζ->Prop:=Paired RelV
theorem Vals.length(r:Vals xs us):xs.length=us.length:=Paired.length r
theorem Vals.get:∀{xs}{us}{i:Nat}{x},Vals xs us->xs[i]?=AC x->∃u,us[i]?=AC u/\RelV x u
|_,_,_,_,.nil,e=>by simp at e
|_,_,0,_,.cons r _,e=>by simp at e;subst e;exact⟨_,rfl,r⟩
|_,_,i+1,x,.cons _ t,e=>by obtain⟨u,h1,h2⟩:=Vals.get (i:=i) (x:=x) t (by simpa using e);exact⟨u,by simpa using h1,h2⟩
theorem Vals.append:∀{xs ys}{us ws},Vals xs us->Vals ys ws->Vals (xs++ys) (us++ws)
|_,_,_,_,.nil,s=>s
|_,_,_,_,.cons r t,s=>.cons r<|Vals.append t s
theorem Vals.take:∀{xs}{us} n,Vals xs us->Vals (xs.take n) (us.take n)
|_,_,0,_=>.nil
|_,_,_+1,.nil=>.nil
|_,_,n+1,.cons r t=>.cons r<|Vals.take n t
theorem Vals.drop:∀{xs}{us} n,Vals xs us->Vals (xs.drop n) (us.drop n)
|_,_,0,r=>r
|_,_,_+1,.nil=>.nil
|_,_,n+1,.cons _ t=>Vals.drop n t
def mJ:ε V->ε ζ->Prop
|some v,AC u=>RelV v u
|none,Ch=>True
|_,_=>False
def KV{κ:Type}:γ (κ×V)->γ (κ×ζ)->Prop:=Paired λ(p:κ×V)(q:κ×ζ)=>p.1=q.1/\RelV p.2 q.2
def kV:Key->V
|.inl i=>.int i
|.inr x=>.str x
inductive HO where
|lst (xs:List V)
|tup (xs:List V)
|dK (aS:List (Key×V))|dT (aS:List (List Key×V))
|set (S:Int->Bool) (n:Nat)
|ins (C dx:Addr) (fs:List (Str×V))
|own (x:Addr)
|xd (fs:List (Str×V))
|met (f x:Addr)
|ZI (lo hi:Int)
|dZ (o:Obj) (u:HO)
|IG (q:Str)
|Ml (q:Str)
 |ext (φ:Heap->Prop)
abbrev Hp:=δ->ε HO
def Vs:HO->Prop
|.IG _=>True
|.Ml _=>True
|_=>False
def upd(H:Hp)(a:δ)(o:HO):Hp:=λ b=>if b=a then AC o else H b
theorem aV:upd H a o a=AC o:=by unfold upd;rw[f8 rfl]
theorem aD(h:b≠a):upd H a o b=H b:=by unfold upd;rw[v6 h]
theorem MB:upd (upd H a o) a u=upd H a u:=by funext b;unfold upd;split<;>rfl
theorem Qj{H:Hp}(h:H a=AC o)(h':H b=AC u)(d:o≠u):a≠b:=by intro e;subst e;rw[h]at h';exact d<|A03 h'
theorem bq{H:Hp}(h:H a=AC o)(h':H b=Ch):a≠b:=by intro e;subst e;rw[h]at h';cases h'
section
variable(P:ο)(w:ξ)
def qj(h:μ)(a:δ)(xs:Array ζ):Prop:=∃n,h.get? a=AC {cls:=.type "tuple",data:=.seq xs n}
theorem qj.is(p:qj h a xs):IsTup h a xs:=by obtain⟨n,e⟩:=p;exact⟨_,e,rfl,n,rfl⟩
theorem qj.new(h:μ)(xs:Array ζ):qj (h.push {cls:=.type "tuple",data:=.seq xs}) h.objs.size xs:=⟨_,A13 _ rfl⟩
def gE(H:Hp)(h:μ)(a:δ):HO->Prop
|.lst xs=>xs.length<=sizeLine/\∃(bx:γ ζ)(n:Nat),Vals xs bx/\h.get? a=AC {cls:=.type "list",data:=.seq bx.toArray n}
|.tup xs=>xs.length<=sizeLine/\∃bx:γ ζ,Vals xs bx/\qj h a bx.toArray
|.dK aS=>aS.length<=sizeLine/\(a==sysModules)=AT/\∃vs,KV aS vs/\h.DictOf (eu P w) a vs
|.dT aS=>aS.length<=sizeLine/\(a==sysModules)=AT/\∃xs:γ (γ Key×δ×ζ),
 Paired (λ(p:γ Key×V)(q:γ Key×δ×ζ)=>p.1=q.1/\H q.2.1=AC (.tup<|p.1.map kV)/\RelV p.2 q.2.2) aS xs /\
 ∃o es ep,h.get? a=AC o/\o.ExactDict/\o.data=.dict es ep/\es.toList=xs.map (entryOfKey<|tupleKind<|eu P w)/\(xs.map (·.1)).Nodup
|.set S n=>h.SetOf (intKind P w) a S n
|.ins C dx fs=>H dx=AC (.own a)/\fs.length<=1000/\dx≠a/\h.get? a=AC (Tk C dx) /\
 ∃mA,h.Ns1 dx mA/\(∀f,mJ (fs.lookup f) (mA f))/\AB0 mA (fs.map (·.1))
|.own _=>∃o,h.get? a=AC o
|.xd fs=>∃mA,h.Ns1 a mA/\∀f,mJ (fs.lookup f) (mA f)
|.ZI lo hi=>∃t u v,h.get? a=AC {cls:=.type "range",data:=.fields #[.int lo t,.int hi u,.int 1 v]}
|.dZ o u=>h.get? a=AC o/\gE H h a u
|.IG q=>∃ps:Array ζ,h.get? a=AC {cls:=.none,data:=.fields ps}/\TriplesOk ps.toList/\∀pos cv,codeAmong pos ps.toList=AC cv->∃c,cv=.ref c/\H c=AC (.Ml q)
|.Ml q=>h.CodeRec (.ref a) q
|.met f x=>h.get? a=AC (PySem.W.methodObj (.ref f)<|.ref x)
|.ext φ=>φ h/\(∃o,h.get? a=AC o)/\∀h1 h2:μ,φ h1->(∀o,h1.get? a=AC o->h2.get? a=AC o)->φ h2
def lY(H:Hp)(h:μ):Prop:=∀a o,H a=AC o->gE P w H h a o
end
theorem gE.lt(x:gE P w H h a o):a<h.objs.size:=by
 cases o with
 |lst xs=>obtain⟨_,_,_,_,e⟩:=x;exact A02 e
 |tup xs=>obtain⟨_,_,_,p⟩:=x;exact p.is.lt
 |dK aS=>obtain⟨_,_,_,_,o,_,_,e,_⟩:=x;exact A02 e
 |dT aS=>obtain⟨_,_,_,_,o,_,_,e,_⟩:=x;exact A02 e
 |set S n=>obtain⟨o,_,_,_,e,_⟩:=x;exact A02 e
 |ins C dx fs=>obtain⟨_,_,_,e,_⟩:=x;exact A02 e
 |own y=>obtain⟨_,e⟩:=x;exact A02 e
 |xd fs=>obtain⟨_,⟨_,_,_,e,_⟩,_⟩:=x;exact A02 e
 |ZI lo hi=>obtain⟨_,_,_,e⟩:=x;exact A02 e
 |dZ ob u=>obtain⟨e,_⟩:=x;exact A02 e
 |IG q=>obtain⟨_,e,_⟩:=x;exact A02 e
 |Ml q=>obtain⟨_,_,_,_,e1,e2,_⟩:=x;cases e1;exact A02 e2
 |met f y=>exact A02<|x
 |ext φ=>obtain⟨_,⟨_,e⟩,_⟩:=x;exact A02 e
theorem Paired.G0:∀{l₁}{l₂},Paired F l₁ l₂->(∀a b,F a b->G a b)->Paired G l₁ l₂
|_,_,.nil,_=>.nil
|_,_,.cons r t,f=>.cons (f _ _ r)<|Paired.G0 t f
theorem gE.n_(x:gE P w H h a o)(k:∀b u,(b=a\/H b=AC (.own a))->h.get? b=AC u->h'.get? b=AC u)
 (ho:∀b,H b=AC (.own a)->H' b=AC (.own a)) (ht:∀b xs,H b=AC (.tup xs)->H' b=AC (.tup xs)) (hp:∀b u,Vs u->H b=AC u->H' b=AC u):gE P w H' h' a o:=by
 induction o with
 |lst xs=>obtain⟨z,bx,n,r,e⟩:=x;exact⟨z,bx,n,r,k _ _ (.inl rfl) e⟩
 |tup xs=>obtain⟨z,bx,r,ob,e⟩:=x;exact⟨z,bx,r,ob,k _ _ (.inl rfl) e⟩
 |dK aS=>obtain⟨z,y,vs,r,ob,es,ep,e,c⟩:=x;exact⟨z,y,vs,r,ob,es,ep,k _ _ (.inl rfl) e,c⟩
 |dT aS=>obtain⟨z,y,xs,r,ob,es,ep,e,c⟩:=x;exact⟨z,y,xs,Paired.G0 r λ p q z=>⟨z.1,ht _ _ z.2.1,z.2.2⟩,ob,es,ep,k _ _ (.inl rfl) e,c⟩
 |set S n=>obtain⟨ob,es,ep,t,e,c⟩:=x;exact⟨ob,es,ep,t,k _ _ (.inl rfl) e,c⟩
 |ins C dx fs=>obtain⟨d,z,ne,e,mA,⟨od,es,ep,e2,c⟩,r⟩:=x;exact⟨ho _ d,z,ne,k _ _ (.inl rfl) e,mA,⟨od,es,ep,k _ _ (.inr d) e2,c⟩,r⟩
 |own y=>obtain⟨ob,e⟩:=x;exact⟨ob,k _ _ (.inl rfl) e⟩
 |xd fs=>obtain⟨mA,⟨od,es,ep,e,c⟩,r⟩:=x;exact⟨mA,⟨od,es,ep,k _ _ (.inl rfl) e,c⟩,r⟩
 |ZI lo hi=>obtain⟨t,u,v,e⟩:=x;exact⟨t,u,v,k _ _ (.inl rfl) e⟩
 |dZ ob u ih=>obtain⟨e,q⟩:=x;exact⟨k _ _ (.inl rfl) e,ih q⟩
 |IG q=>obtain⟨ps,e,t,g⟩:=x;exact⟨ps,k a _ (.inl rfl) e,t,λ pos cv r=>let ⟨c,e1,e2⟩:=g pos cv r;⟨c,e1,hp c _ trivial e2⟩⟩
 |Ml q=>obtain⟨c,oc,vs,t,e1,e2,r⟩:=x;cases e1;exact⟨a,oc,vs,t,rfl,k a _ (.inl rfl) e2,r⟩
 |met f y=>have e:=x;exact k a _ (.inl rfl) e
 |ext φ=>obtain⟨p,⟨o,e⟩,st⟩:=x;exact⟨st _ _ p λ o q=>k _ _ (.inl rfl) q,⟨o,k _ _ (.inl rfl) e⟩,st⟩
theorem lY.lt(x:lY P w H h)(e:H a=AC o):a<h.objs.size:=(x a o e).lt
theorem lY.fresh(x:lY P w H h)(e:h.objs.size<=a):H a=Ch:=by
 cases q:H a with
 |none=>rfl
 |some u=>exact absurd (A21 (x.lt q) e)<|A72 _
theorem lY.kept(x:lY P w H h)(k:∀b u,h.get? b=AC u->h'.get? b=AC u):lY P w H h':=λ a o e=>(x a o e).n_ (λ b u _ q=>k b u q) (λ _ q=>q) (λ _ _ q=>q) λ _ _ _ q=>q
theorem lY.laid(x:lY P w H h)(k:∀b u,h.get? b=AC u->h'.get? b=AC u)(hp:h.objs.size<=a)(new:gE P w (upd H a o) h' a o):lY P w (upd H a o) h':=λ b u e=>by
 have hn:=x.fresh hp;by_cases hb:b=a
 .subst hb;rw[aV]at e;cases e;exact new
 .rw[aD hb]at e;exact(x b u e).n_ (λ c v _ q=>k c v q) (λ c q=>by rw[aD<|bq q hn];exact q) (λ c xs q=>by rw[aD<|bq q hn];exact q) λ c v _ q=>by rw[aD<|bq q hn];exact q
def Rd(H:Hp)(a:δ)(u:HO):Prop:=H a=AC u\/∃o,H a=AC (.dZ o u)
theorem Rd.ok(r:Rd H a u)(x:lY P w H h):gE P w H h a u:=by
 rcases r with r|⟨o,r⟩
 .exact x a u r
 .obtain⟨_,q⟩:=x a _ r;exact q
def Y3:ε HO->Prop
|some<|.lst _=>True
|some<|.dK _=>True
|some<|.dT _=>True
|some<|.set _ _=>True
|some<|.ins _ _ _=>True
|some<|.ext _=>True
|_=>False
theorem lY.write(ok:lY P w H h)(mu:Y3 (H x))(he:e=x\/H e=AC (.own x))(k:∀ b u,b≠e->h.get? b=AC u->h'.get? b=AC u)(Vf:∃ u,h'.get? e=AC u)
 (new:gE P w (upd H x o') h' x o'):lY P w (upd H x o') h':=λ b u q=>by
 have W':∀c y,H c=AC (.own y)->c≠x:=λ c y r z=>by subst z;rw[r]at mu;exact mu
 have aa5:∀c xs,H c=AC (.tup xs)->c≠x:=λ c xs r z=>by subst z;rw[r]at mu;exact mu
 have aa6:∀c u,Vs u->H c=AC u->c≠x:=λ c u p r z=>by subst z;rw[r]at mu;cases u<;>first|exact p|exact mu
 by_cases hb:b=x
 .subst hb;rw[aV]at q;cases q;exact new
 .rw[aD hb]at q;by_cases TK:b=e
  .have q':H b=AC (.own x):=by
    rcases he with z|z
    .exact absurd (TK.trans z) hb
    .rw[TK];exact z
   rw[q]at q';cases q';obtain⟨v,hv⟩:=Vf;exact⟨v,by rw[TK];exact hv⟩
  .refine(ok b u q).n_ (λ c v hc r=>k c v ?_ r) (λ c r=>by rw[aD<|W' c b r];exact r) (λ c xs r=>by rw[aD<|aa5 c xs r];exact r) λ c v p r=>by rw[aD<|aa6 c v p r];exact r
   rcases hc with rfl|hc
   .exact TK
   .rintro rfl;rcases he with z|z
    .exact W' c b hc z
    .rw[hc]at z;cases z;exact hb rfl
structure Un(fs ex:List Addr)(H H':Hp)(h h':Heap):Prop where
 keep:∀b o,h.get? b=AC o->H b=Ch->b∉fs->b∉ex->h'.get? b=AC o
 slot:∀b o,h.get? b=AC o->H b=Ch->b∈fs->b∉ex->∃sl,h'.get? b=AC {o with slots:=sl}
 free:∀b o,h.get? b=AC o->H b=Ch->b∉ex->H' b=Ch
 there:∀b o,h.get? b=AC o->b∉ex->∃o',h'.get? b=AC o'
 qx:∀b xs,H b=AC (.tup xs)->H' b=AC (.tup xs)
 p5:∀b o u,H b=AC (.dZ o u)->H' b=AC (.dZ o u)
 m9:∀b u,Vs u->H b=AC u->H' b=AC u
theorem Un.any(u:Un fs ex H H1 h h1)(q:h.get? b=AC ob)(n:H b=Ch)(hx:b∉ex):∃sl,h1.get? b=AC {ob with slots:=sl}:=by
 by_cases hb:b∈fs
 .exact u.slot b ob q n hb hx
 .exact⟨_,u.keep b ob q n hb hx⟩
theorem Un.kept(k:∀b u,h.get? b=AC u->h'.get? b=AC u):Un fs ex H H h h':=
 ⟨λ b ob q _ _ _=>k b ob q,λ b ob q _ _ _=>⟨_,k b ob q⟩,λ _ _ _ n _=>n,λ b ob q _=>⟨ob,k b ob q⟩,λ _ _ q=>q,λ _ _ _ q=>q,λ _ _ _ q=>q⟩
theorem Un.refl:Un fs ex H H h h:=Un.kept λ _ _ q=>q
theorem Un.laid(k:∀b u,h.get? b=AC u->h'.get? b=AC u)(hp:h.objs.size<=a)(hn:H a=Ch):Un fs ex H (upd H a o) h h' where
 keep:=λ b u q _ _ _=>k b u q
 slot:=λ b u q _ _ _=>⟨_,k b u q⟩
 free:=λ b u q n _=>by rw[aD<|A17<|A21 (A02 q) hp];exact n
 there:=λ b u q _=>⟨u,k b u q⟩
 qx:=λ b xs q=>by rw[aD<|bq q hn];exact q
 p5:=λ b u xs q=>by rw[aD<|bq q hn];exact q
 m9:=λ b u _ q=>by rw[aD<|bq q hn];exact q
theorem Un.write(mu:Y3 (H x))(he:e=x\/H e=AC (.own x))(k:∀b u,b≠e->h.get? b=AC u->h'.get? b=AC u)(Vf:∃u,h'.get? e=AC u):Un fs ex H (upd H x o) h h':=by
 have hx:∀b,H b=Ch->b≠x:=λ b n z=>by subst z;rw[n]at mu;exact mu
 have hb:∀b,H b=Ch->b≠e:=λ b n z=>by
  subst z;rcases he with r|r
  .exact hx b n r
  .rw[n]at r;cases r
 have hm:∀b u,H b=AC u->¬Y3 (AC u)->b≠x:=λ b u q nm z=>by subst z;rw[q]at mu;exact nm mu
 refine⟨λ b u q n _ _=>k b u (hb b n) q,λ b u q n _ _=>⟨_,k b u (hb b n) q⟩,λ b u q n _=>by rw[aD<|hx b n];exact n,λ b u q _=>?_,
  λ b xs q=>by rw[aD<|hm b _ q λ z=>z];exact q,λ b u xs q=>by rw[aD<|hm b _ q λ z=>z];exact q,λ b u p q=>by rw[aD<|hm b _ q λ z=>by cases u<;>first|exact p|exact z];exact q⟩
 by_cases TK:b=e
 .subst TK;exact Vf
 .exact⟨u,k b u TK q⟩
def Ro(h:μ)(H:Hp):γ δ:=(FB h.objs.size).filter λ a=>(H a).isSome
def wX(h:μ)(H:Hp):μ:=PySem.W.hideAll h<|Ro h H
theorem Hc(h:μ)(H:Hp):(wX h H).objs.size=h.objs.size:=PySem.W.hideAll_size _ _
theorem KJ(e:h.get? b=AC o)(n:H b=Ch):(wX h H).get? b=AC o:=
 PySem.W.hideAll_get _ e λ hm=>by have q:=(A95.mp hm).2;rw[n]at q;simp at q
theorem Nv(e:(wX h H).get? b=AC o):h.get? b=AC o/\H b=Ch:=by
 have e':=PySem.W.of_hideAll _ e;refine⟨e',?_⟩;cases q:H b with
 |none=>rfl
 |some x=>have hm:b∈Ro h H:=A95.mpr ⟨A38.mpr<|A02 e',by simp[q]⟩;have z:(wX h H).get? b=Ch:=lc _ hm;rw[z]at e;cases e
def Py(g h:μ)(L:δ):γ (δ×ν):=(FB h.objs.size).filterMap λ a=>if a=L\/(g.get? a).isSome=Da then Ch else(h.get? a).map λ o=>(a,o)
def rest(g h:μ)(L d:δ):γ (δ×ν):=(Py g h L).filter λ p=>decide<|p.1≠d
structure Mod(K:Do)(mg:Str->Option Value)(base:Heap):Prop where
 HU:K.In base
 glob:base.Ns mainGlobals mg
 blt:∃mb,base.Ns builtinsNs mb/\∀x:Str,x≠ "__name__" -> mb x=bootBuiltins x
 nolimit:base.NoLimit
def dC:γ Str:=["best_among","paper_beside"]
def lj(x:Str):Str:=x++ ".<locals>."++ "<lambda>"
def BMain(mg:Str->ε ζ)(base:μ):Prop:=∃bm ob,mg "__builtins__"=AC (.ref bm)/\bm≠builtinsNs/\base.get? bm=AC ob/\ob.cls=.type "module" /\ ob.dict=AC builtinsNs/\ob.data=.plain
def yl(K:Do)(mg:Str->ε ζ)(base:μ)(H:Hp):Prop:=∀x∈dC,∀c P,Re K x=AC (c,P)->H P=AC (.IG<|lj x)/\AD3 base c P/\BMain mg base
theorem yl.up{K:Do}(t:yl K mg base H)(u:∀b o,Vs o->H b=AC o->H' b=AC o):yl K mg base H':=λ x hx c P e=>⟨u _ _ trivial (t x hx c P e).1,(t x hx c P e).2⟩
set_option genInjectivity false in
structure Cx where
 prog:Program
 w:World
 K:Do
 mg:Str->Option Value
 base:Heap
 A:Around
 N:List Str
 s₀:Shared
 H₀:Hp
 env:Env
 outer:List Env
 stack:List Env
 ex:List Addr
 fn:Str->Bool
 calm:Bool
 pn:List (Addr×Obj)
 xe:Value->Shared->Prop
def tX(l:γ Env):γ δ:=l.filterMap (·.frame)
abbrev Cx.fs(X:Cx):γ δ:=tX X.outer
def QY(sc:τ)(x:Str):Prop:=sc.names.lookup x=AC .local\/sc.names.lookup x=AC .cell\/sc.names.lookup x=AC .free
def Loc(sc:τ)(x:Str):Prop:=sc.names.lookup x=AC .local\/sc.names.lookup x=AC .cell
def Look(env:Env)(h:μ)(m:Str->ε ζ)(x:Str)(u:ζ):Prop:=
 (env.kindOf x=AC .local/\m x=AC u)\/((env.kindOf x=AC .cell\/env.kindOf x=AC .free)/\∃c,env.cells.lookup x=AC c/\h.IsCell c (AC u))
structure Cx.Ok(X:Cx):Prop where
 mod:Mod X.K X.mg X.base
 kind:X.env.scope.kind=.function
 glob:X.env.globals=mainGlobals
 blt:X.env.builtins=builtinsNs
 above:X.s₀.heap.objs.size<=X.env.locals
 inj:∀x y c,X.env.cells.lookup x=AC c->X.env.cells.lookup y=AC c->x=y
 has:∀x,(X.env.kindOf x=AC .cell\/X.env.kindOf x=AC .free)->∃c,X.env.cells.lookup x=AC c
 QU:∀x c,X.fn x=Da->X.env.cells.lookup x=AC c->X.s₀.heap.objs.size<=c
 hd:X.calm=Da->X.A.handled=Ch
 frames:X.A.frames=AC X.stack
 HR:X.stack=X.outer\/(X.stack=X.env::X.outer/\X.env.frame=AC X.env.locals)
 Yw:∀b∈X.ex,b≠X.env.locals/\∀x c,X.env.cells.lookup x=AC c->c≠b
 bs:∀b o,X.base.get? b=AC o->X.s₀.heap.get? b=AC o/\X.H₀ b=Ch
 Ek:X.base.objs.size<=X.s₀.heap.objs.size
 za:∀b o,X.base.get? b=AC o->b∉X.ex
 D':∀b∈X.ex,b∉X.fs
 lx:X.s₀.heap.FunFrames X.base X.outer
 H!:∀b∈X.fs,X.H₀ b=Ch
structure Inv(X:Cx)(χ:List (Addr×Obj))(σ:List (Option V))(H:Hp)(s:Shared):Prop where
 ok:X.Ok
 os:s.os=X.s₀.os
 bare:AllBare s.gens
 base:Un X.fs X.ex X.H₀ H X.s₀.heap s.heap
 loc:∃m,s.heap.Ns X.env.locals m/\∀(i:Nat)(x:Str)(v:V),X.N[i]?=AC x->σ[i]?=AC (AC v)->QY X.env.scope x->∃u,RelV v u/\Look X.env s.heap m x u
 cell:∀x c,X.env.cells.lookup x=AC c->∃v,s.heap.IsCell c v
 free:H X.env.locals=Ch
 gy:∀x c,X.env.cells.lookup x=AC c->H c=Ch
 pin:∀p∈X.pn++χ,s.heap.get? p.1=AC p.2/\H p.1=Ch/\p.1≠X.env.locals/\p.1∉X.fs/\∀v,p.2.data≠.cell v
 bQ:lY X.prog X.w H s.heap
 len:σ.length=X.N.length
 tab:yl X.K X.mg X.base H
section
variable{X:Cx}
theorem Cx.Ok.aa9(ok:X.Ok)(e:X.base.get? b=AC o):b∉X.fs:=λ hb=>by have:=(ok.lx.mem hb).1;rw[e]at this;cases this
theorem Inv.bs(I:Inv X χ σ H s):∀b o,X.base.get? b=AC o->s.heap.get? b=AC o/\H b=Ch:=λ b o e=>⟨I.base.keep b o (I.ok.bs b o e).1 (I.ok.bs b o e).2 (I.ok.aa9 e)<|I.ok.za b o e,I.base.free b o (I.ok.bs b o e).1 (I.ok.bs b o e).2<|I.ok.za b o e⟩
theorem Inv.bk(I:Inv X χ σ H s):∀b o,X.base.get? b=AC o->s.heap.get? b=AC o:=λ b o e=>(I.bs b o e).1
theorem Inv.mod(I:Inv X χ σ H s):Mod X.K X.mg X.base:=I.ok.mod
theorem Inv.nM(I:Inv X χ σ H s):X.K.In s.heap:=I.ok.mod.HU.keeps I.bk
theorem Inv.nolimit(I:Inv X χ σ H s):s.heap.NoLimit:=I.ok.mod.nolimit.keeps I.bk
theorem Inv.lt(I:Inv X χ σ H s):X.env.locals<s.heap.objs.size:=let ⟨_,hn,_⟩:=I.loc;hn.lt
theorem Inv.sz(I:Inv X χ σ H s):X.s₀.heap.objs.size<=s.heap.objs.size:=A23 I.ok.above<|A69 I.lt
theorem Inv.Sz(I:Inv X χ σ H s)(h:s.heap.objs.size<=a):a∉X.fs:=λ hb=>by obtain⟨_,o,ho,_⟩:=I.ok.lx.mem hb;exact absurd (A21 (A02 ho)<|A23 I.sz h)<|A72 _
theorem Inv.LH(I:Inv X χ σ H s):∀x c,X.env.cells.lookup x=AC c->c≠X.env.locals:=λ x c e z=>by obtain⟨v,o,ho,hd⟩:=I.cell x c e;obtain⟨m,⟨o',es,ep,nP,s?,_⟩,_⟩:=I.loc;rw[z,nP]at ho;cases ho;rw[s?]at hd;cases hd
theorem Inv.lx(I:Inv X χ σ H s):s.heap.FunFrames X.base X.outer:=by
 have all:∀l,(∀b∈tX l,b∈X.fs)->X.s₀.heap.FunFrames X.base l->s.heap.FunFrames X.base l:=by
  intro l
  induction l with
  |nil=>intro _ _;trivial
  |cons env r ih=>intro hs hl;obtain⟨hk,⟨L,o,hf,hn,ho,hd⟩,hr⟩:=hl;have hL:=hs L (by unfold tX;rw[B65,hf];exact A22);obtain⟨sl,e⟩:=I.base.slot L o ho (I.ok.H! L hL) hL λ z=>I.ok.D' L z hL;exact⟨hk,⟨L,_,hf,hn,e,hd⟩,ih (λ b hb=>hs b (by unfold tX;rw[B65,hf];exact A07 _ hb)) hr⟩
 exact all _ (λ _ hb=>hb) I.ok.lx
theorem Inv.stack(I:Inv X χ σ H s):s.heap.FunFrames X.base X.stack:=by
 rcases I.ok.HR with e|⟨e,hf⟩
 .rw[e];exact I.lx
 .rw[e];obtain⟨m,hn,_⟩:=I.loc;refine .cons (by rw[I.ok.kind];decide) hf hn ?_ I.lx;exact Heap.get?_none_of_le<|A23 I.ok.Ek I.ok.above
theorem Inv.qA(I:Inv X χ σ H s):∀b∈tX X.stack,b∈X.env.locals::X.fs:=λ b hb=>by
 rcases I.ok.HR with e|⟨e,hf⟩
 .rw[e]at hb;exact A07 _ hb
 .rw[e]at hb;unfold tX at hb;rw[B65,hf]at hb;exact hb
theorem Inv.tN(I:Inv X χ σ H s):∀b∈tX X.stack,H b=Ch:=λ b hb=>by
 rcases o0.mp (I.qA b hb)with e|hb
 .rw[e];exact I.free
 .obtain⟨_,o,ho,_⟩:=I.ok.lx.mem hb;exact I.base.free b o ho (I.ok.H! b hb) λ z=>I.ok.D' b z hb
theorem Inv.step{ch:γ δ}(I:Inv X χ σ H s)
 (Ai:∀b∈ch,(b∈X.ex\/X.s₀.heap.objs.size<=b)/\b≠X.env.locals/\(∀x c,X.env.cells.lookup x=AC c->c≠b)/\∀p∈X.pn++χ,p.1≠b)
 (keep:∀b o,b≠X.env.locals->b∉X.fs->b∉ch->s.heap.get? b=AC o->H b=Ch->h'.get? b=AC o)
 (slot:∀b o,b≠X.env.locals->b∈X.fs->b∉ch->s.heap.get? b=AC o->H b=Ch->∃sl,h'.get? b=AC {o with slots:=sl}) (free:∀b o,b∉ch->s.heap.get? b=AC o->H b=Ch->H' b=Ch)
 (there:∀b o,b∉ch->s.heap.get? b=AC o->∃o',h'.get? b=AC o')
 (qx:∀b xs,H b=AC (.tup xs)->H' b=AC (.tup xs)) (p5:∀b o u,H b=AC (.dZ o u)->H' b=AC (.dZ o u)) (m9:∀b u,Vs u->H b=AC u->H' b=AC u)
 (ns:∀m,s.heap.Ns X.env.locals m->h'.Ns X.env.locals m) (bQ:lY X.prog X.w H' h') (hg:AllBare g') :
 Inv X χ σ H' {s with heap:=h',gens:=g',drawn:=d',toks:=t'}:=by
 have Xb:∀b o,X.s₀.heap.get? b=AC o->b≠X.env.locals:=λ b o e=>A17<|A21 (A02 e) I.ok.above;have JV:∀b o,X.s₀.heap.get? b=AC o->b∉X.ex->b∉ch:=λ b o e hx hb=>by
  rcases(Ai b hb).1 with z|z
  .exact hx z
  .exact absurd (A21 (A02 e) z)<|A72 _
 have cellK:∀x c,X.env.cells.lookup x=AC c->∀v,s.heap.IsCell c v->h'.IsCell c v:=λ x c e v ⟨o,ho,hd⟩=>by
  have Bg:=λ z=>(Ai c z).2.2.1 x c e rfl;by_cases hc:c∈X.fs
  .obtain⟨sl,q⟩:=slot c o (I.LH x c e) hc Bg ho (I.gy x c e);exact⟨_,q,hd⟩
  .exact⟨o,keep c o (I.LH x c e) hc Bg ho<|I.gy x c e,hd⟩
 refine⟨I.ok,I.os,hg,⟨λ b o e n hb hx=>?_,λ b o e n hb hx=>?_,λ b o e n hx=>?_,λ b o e hx=>?_,λ b xs e=>qx b xs<|I.base.qx b xs e,λ b o xs e=>p5 b o xs<|I.base.p5 b o xs e,λ b u p e=>m9 b u p<|I.base.m9 b u p e⟩,?_,λ x c e=>?_,?_,λ x c e=>?_,λ p hp=>?_,bQ,I.len,I.tab.up m9⟩
 .exact keep b o (Xb b o e) hb (JV b o e hx) (I.base.keep b o e n hb hx)<|I.base.free b o e n hx
 .obtain⟨sl,e1⟩:=I.base.slot b o e n hb hx;obtain⟨sl',e2⟩:=slot b _ (Xb b o e) hb (JV b o e hx) e1 (I.base.free b o e n hx);exact⟨sl',e2⟩
 .obtain⟨o',e1⟩:=I.base.there b o e hx;exact free b o' (JV b o e hx) e1<|I.base.free b o e n hx
 .obtain⟨o',e1⟩:=I.base.there b o e hx;exact there b o' (JV b o e hx) e1
 .obtain⟨m,hn,hl⟩:=I.loc;refine⟨m,ns m hn,λ i x v e1 e2 e3=>?_⟩;obtain⟨u,r,l⟩:=hl i x v e1 e2 e3;refine⟨u,r,?_⟩;rcases l with l|⟨k,c,e,z⟩
  .exact .inl l
  .exact .inr ⟨k,c,e,cellK x c e _ z⟩
 .obtain⟨v,z⟩:=I.cell x c e;exact⟨v,cellK x c e v z⟩
 .obtain⟨m,⟨o,_,_,ho,_⟩,_⟩:=I.loc;exact free _ o (λ z=>(Ai _ z).2.1 rfl) ho I.free
 .obtain⟨v,o,ho,hd⟩:=I.cell x c e;exact free c o (λ z=>(Ai c z).2.2.1 x c e rfl) ho<|I.gy x c e
 .obtain⟨e,n,ne,nf,d⟩:=I.pin p hp;have Bg:=λ z=>(Ai p.1 z).2.2.2 p hp rfl;exact⟨keep p.1 p.2 ne nf Bg e n,free p.1 p.2 Bg e n,ne,nf,d⟩
theorem Inv.un(I:Inv X χ σ H s)(u:Un X.fs [] H H' s.heap h')(bQ:lY X.prog X.w H' h'):Inv X χ σ H' {s with heap:=h',toks:=t'}:=by
 obtain⟨m,⟨o,es,ep,ho,r⟩,_⟩:=id I.loc;obtain⟨sl,hL⟩:=u.any ho I.free (by simp);exact I.step (ch:=[]) (λ _ z=>nomatch z) (λ b o _ hb _ e n=>u.keep b o e n hb (by simp)) (λ b o _ hb _ e n=>u.slot b o e n hb (by simp)) (λ b o _ e n=>u.free b o e n (by simp)) (λ b o _ e=>u.there b o e (by simp)) u.qx u.p5 u.m9 (λ m' hm=>by obtain⟨o',es',ep',nP,r'⟩:=hm;rw[ho]at nP;cases nP;exact⟨_,es',ep',hL,r'⟩) bQ I.bare
theorem Inv.call(I:Inv X χ σ H s)(u:Un (tX X.stack) ch H H' s.heap h')(bQ:lY X.prog X.w H' h')(hg:AllBare g')
 (Ai:∀b∈ch,(b∈X.ex\/X.s₀.heap.objs.size<=b)/\b≠X.env.locals/\(∀x c,X.env.cells.lookup x=AC c->c≠b)/\∀p∈X.pn++χ,p.1≠b) :
 Inv X χ σ H' {s with heap:=h',gens:=g',drawn:=d',toks:=t'}:=by
 obtain⟨m,⟨o,es,ep,ho,r⟩,_⟩:=id I.loc;obtain⟨sl,hL⟩:=u.any ho I.free λ z=>(Ai _ z).2.1 rfl;exact I.step Ai (λ b o hL hb hc e n=>u.keep b o e n (λ z=>(o0.mp<|I.qA b z).elim hL hb) hc) (λ b o _ _ hc e n=>u.any e n hc) (λ b o hc e n=>u.free b o e n hc) (λ b o hc e=>u.there b o e hc) u.qx u.p5 u.m9 (λ m' hm=>by obtain⟨o',es',ep',nP,r'⟩:=hm;rw[ho]at nP;cases nP;exact⟨_,es',ep',hL,r'⟩) bQ hg
theorem Inv.turned(I:Inv X χ σ H s)(k:∀b o,b≠it->s.heap.get? b=AC o->h'.get? b=AC o)(hn:H it=Ch)(hL:it≠X.env.locals)
 (h1:it∈X.ex\/X.s₀.heap.objs.size<=it) (h2:∀x c,X.env.cells.lookup x=AC c->c≠it) (h3:∀p∈X.pn++χ,p.1≠it):Inv X χ σ H {s with heap:=h',toks:=t'}:=by
 have nit:∀b u,H b=AC u->b≠it:=λ b u e z=>by rw[z,hn]at e;cases e
 refine I.step (ch:=[it]) (λ b hb=>?_) (λ b o _ _ hc e _=>k b o (λ z=>hc (by simp[z])) e) (λ b o _ _ hc e _=>⟨_,k b o (λ z=>hc (by simp[z])) e⟩) (λ _ _ _ _ n=>n)
  (λ b o hc e=>⟨o,k b o (λ z=>hc (by simp[z])) e⟩) (λ _ _ e=>e) (λ _ _ _ e=>e) (λ _ _ _ e=>e) (λ m hm=>?_) (λ b u e=>?_) I.bare
 .have e:b=it:=by simpa using hb
  subst e;exact⟨h1,hL,h2,h3⟩
 .obtain⟨o,es,ep,ho,r⟩:=hm;exact⟨o,es,ep,k _ o (A08 hL) ho,r⟩
 .refine(I.bQ b u e).n_ (λ c v hc q=>k c v ?_ q) (λ _ q=>q) (λ _ _ q=>q) λ _ _ _ q=>q;rcases hc with z|z
  .rw[z];exact nit b u e
  .exact nit c _ z
theorem Inv.tok(I:Inv X χ σ H s)(t:Nat):Inv X χ σ H {s with toks:=t}:=I.un Un.refl I.bQ
theorem Inv.kept(I:Inv X χ σ H s)(k:∀b u,s.heap.get? b=AC u->h'.get? b=AC u):Inv X χ σ H {s with heap:=h',toks:=t'}:=I.un (Un.kept k)<|I.bQ.kept k
theorem Inv.laid(I:Inv X χ σ H s)(k:∀b u,s.heap.get? b=AC u->h'.get? b=AC u)(hp:s.heap.objs.size<=a)(new:gE X.prog X.w (upd H a o) h' a o):
 Inv X χ σ (upd H a o) {s with heap:=h',toks:=t'}:=I.un (Un.laid k hp<|I.bQ.fresh hp)<|I.bQ.laid k hp new
theorem Inv.write(I:Inv X χ σ H s)(mu:Y3 (H x))(he:e=x\/H e=AC (.own x))(k:∀b u,b≠e->s.heap.get? b=AC u->h'.get? b=AC u)(Vf:∃u,h'.get? e=AC u)
 (new:gE X.prog X.w (upd H x o) h' x o):Inv X χ σ (upd H x o) {s with heap:=h',toks:=t'}:=I.un (Un.write mu he k Vf)<|I.bQ.write mu he k Vf new
theorem Inv.E2(I:Inv X χ σ H s)(h:∀p∈nG,s.heap.get? p.1=AC p.2/\H p.1=Ch/\p.1≠X.env.locals/\p.1∉X.fs/\∀v,p.2.data≠.cell v):Inv X nG σ H s:=
 ⟨I.ok,I.os,I.bare,I.base,I.loc,I.cell,I.free,I.gy,λ p hp=>(A29.mp hp).elim (λ z=>I.pin p<|A84 _ z)<|h p,I.bQ,I.len,I.tab⟩
theorem uS{N:γ Str}(hN:N.Nodup){i j:Nat}(a:N[i]?=AC x)(b:N[j]?=AC x):i=j:=by obtain⟨h1,e1⟩:=A10.mp a;obtain⟨h2,e2⟩:=A10.mp b;exact(List.getElem_inj hN).mp<|e1.trans e2.symm
theorem xt(I:Inv X χ σ H s)(hN:X.N.Nodup)(hi:X.N[i]?=AC x)(hx:Loc X.env.scope x)(r:RelV v u)
 (h:∀s',Inv X χ (σ.set i<|some v) H s'->(∃a,Ix a s.heap s'.heap/\(a=X.env.locals\/X.env.cells.lookup x=AC a))/\(X.env.scope.names.lookup x=AC .local->s.toks<s'.toks)->Q () s') (hf:X.fn x=Da\/X.env.scope.names.lookup x=AC .local:=by first|exact .inl rfl|exact .inr rfl|assumption):FM M A (storeName X.env x u) Q E s:=by
 obtain⟨m,hn,hl⟩:=id I.loc;have acp:(X.env.scope.kind==.class||(X.env.scope.kind==.module&&X.env.locals != X.env.globals))=AT:=by rw[I.ok.kind];rfl
 have hiσ:i<σ.length:=by rw[I.len];exact(A10.mp hi).1
 have LH:=I.LH;have tracked:∀{a}{h'},(∃o,s.heap.get? a=AC o/\H a=Ch)->Ix a s.heap h'->lY X.prog X.w H h':=λ {a h'} ha hs b ob e=>by
  obtain⟨_,_,xQ⟩:=ha;refine(I.bQ b ob e).n_ (λ c w' hc q=>(hs.2 c ?_).trans q) (λ _ q=>q) (λ _ _ q=>q) λ _ _ _ q=>q;rintro rfl;rcases hc with rfl|hc
  .rw[xQ]at e;cases e
  .rw[xQ]at hc;cases hc
 rcases hx with hk|hk
 .refine wpAny_storeName_local hk hn (λ h' Me hs=>?_) acp;obtain⟨oL,_,_,hoL,_⟩:=id hn;refine h _ ⟨I.ok,I.os,I.bare,⟨λ b o e n hb hx=>?_,λ b o e n hb hx=>?_,I.base.free,λ b o e hx=>?_,I.base.qx,I.base.p5,I.base.m9⟩,⟨_,Me,λ j y v' e1 e2 e3=>?_⟩,λ y c e=>?_,I.free,I.gy,λ p hp=>?_,tracked ⟨oL,hoL,I.free⟩ hs,by simpa using I.len,I.tab⟩ ⟨⟨_,hs,.inl rfl⟩,λ _=>A61 _⟩
  .exact(hs.2 b<|A17<|A21 (A02 e) I.ok.above).trans<|I.base.keep b o e n hb hx
  .obtain⟨sl,e1⟩:=I.base.slot b o e n hb hx;exact⟨sl,(hs.2 b<|A17<|A21 (A02 e) I.ok.above).trans e1⟩
  .obtain⟨o',e1⟩:=I.base.there b o e hx;exact⟨o',(hs.2 b<|A17<|A21 (A02 e) I.ok.above).trans e1⟩
  .by_cases hj:j=i
   .subst hj;rw[hi]at e1;cases e1;rw[A30 hiσ]at e2;cases e2;exact⟨u,r,.inl ⟨hk,by simp⟩⟩
   .rw[A26<|A08 hj]at e2;obtain⟨u',r',q⟩:=hl j y v' e1 e2 e3;refine⟨u',r',?_⟩;rcases q with⟨k,e⟩|⟨k,c,e,z⟩
    .refine .inl ⟨k,?_⟩;have:y≠x:=λ e=>hj<|uS hN e1<|e▸hi;simp[this,e]
    .exact .inr ⟨k,c,e,z.sameBut hs<|LH y c e⟩
  .obtain⟨w',z⟩:=I.cell y c e;exact⟨w',z.sameBut hs<|LH y c e⟩
  .obtain⟨e,n,ne,nf,d⟩:=I.pin p hp;exact⟨(hs.2 p.1 ne).trans e,n,ne,nf,d⟩
 .have Yb:X.fn x=Da:=by
   rcases hf with z|z
   .exact z
   .rw[z]at hk;cases hk
  obtain⟨c,hc⟩:=I.ok.has x (.inl hk);obtain⟨w',z⟩:=I.cell x c hc;refine wpAny_storeName_cell I.ok.kind hk hc z λ h' xT hs=>?_;obtain⟨oc,_q,abX⟩:=id z;refine h {s with heap:=h'} ⟨I.ok,I.os,I.bare,⟨λ b o e n hb hx=>?_,λ b o e n hb hx=>?_,I.base.free,λ b o e hx=>?_,I.base.qx,I.base.p5,I.base.m9⟩,⟨m,hn.sameBut hs<|A08<|LH x c hc,λ j y v' e1 e2 e3=>?_⟩,λ y c' e=>?_,I.free,I.gy,λ p hp=>?_,tracked ⟨oc,_q,I.gy x c hc⟩ hs,by simpa using I.len,I.tab⟩ ⟨⟨c,hs,.inr hc⟩,λ z=>absurd (hk.symm.trans z) (by decide)⟩
  .exact(hs.2 b<|A17<|A21 (A02 e)<|I.ok.QU x c Yb hc).trans<|I.base.keep b o e n hb hx
  .obtain⟨sl,e1⟩:=I.base.slot b o e n hb hx;exact⟨sl,(hs.2 b<|A17<|A21 (A02 e)<|I.ok.QU x c Yb hc).trans e1⟩
  .obtain⟨o',e1⟩:=I.base.there b o e hx;exact⟨o',(hs.2 b<|A17<|A21 (A02 e)<|I.ok.QU x c Yb hc).trans e1⟩
  .by_cases hj:j=i
   .subst hj;rw[hi]at e1;cases e1;rw[A30 hiσ]at e2;cases e2;exact⟨u,r,.inr ⟨.inl hk,c,hc,xT⟩⟩
   .rw[A26<|A08 hj]at e2;obtain⟨u',r',q⟩:=hl j y v' e1 e2 e3;refine⟨u',r',?_⟩;rcases q with q|⟨k,c',e,z'⟩
    .exact .inl q
    .refine .inr ⟨k,c',e,z'.sameBut hs ?_⟩;rintro rfl;exact hj<|uS hN e1<|I.ok.inj _ _ _ e hc▸hi
  .by_cases _v:c'=c
   .subst _v;exact⟨_,xT⟩
   .obtain⟨w2,z2⟩:=I.cell y c' e;exact⟨w2,z2.sameBut hs _v⟩
  .obtain⟨e,n,ne,nf,d⟩:=I.pin p hp;refine⟨(hs.2 p.1 ?_).trans e,n,ne,nf,d⟩;intro q;rw[q,_q]at e;have q':=A03 e;exact d w' (by rw[<-q'];exact abX)
theorem pD(I:Inv X χ σ H s)(hN:X.N.Nodup)(hi:X.N[i]?=AC x)(hx:Loc X.env.scope x)(r:RelV v u)
 (h:∀s',Inv X χ (σ.set i<|some v) H s'->Q () s') (hf:X.fn x=Da\/X.env.scope.names.lookup x=AC .local:=by first|exact .inl rfl|exact .inr rfl|assumption):FM M A (storeName X.env x u) Q E s:=
 xt I hN hi hx r (λ s' I' _=>h s' I') hf
theorem Inv.LK(I:Inv X χ σ H s)(ho:s'.os=s.os)(u:Un (tX X.stack) ch H H' s.heap s'.heap)(bQ:lY X.prog X.w H' s'.heap)(hg:AllBare s'.gens)
 (Ai:∀b∈ch,(b∈X.ex\/X.s₀.heap.objs.size<=b)/\b≠X.env.locals/\(∀x c,X.env.cells.lookup x=AC c->c≠b)/\∀p∈X.pn++χ,p.1≠b):Inv X χ σ H' s':=by
 obtain⟨h',g',d',t',o'⟩:=s';have e:=ho;subst e;exact I.call u bQ hg Ai
end
abbrev XK:=ζ->ε δ->Hp->Prop
abbrev St:=γ<|ε V
abbrev VK:=V->Hp->Prop
abbrev TE:=St->Hp->VK->Prop
abbrev TT:=St->Hp->(Bool->Hp->Prop)->Prop
abbrev TA:=St->Hp->(γ V->Hp->Prop)->Prop
set_option genInjectivity false in
structure Ends where
 nx:St->Hp->Prop
 rt:VK
 bk:St->Hp->Prop:=λ _ _=>False
 ct:St->Hp->Prop:=λ _ _=>False
abbrev TS:=Ends->St->Hp->Prop
def EP(X:Cx)(χ:γ (δ×ν))(σ:St)(Q:VK)(u:ζ)(s':η):Prop:=∃v H',Inv X χ σ H' s'/\RelV v u/\Q v H'
def TP(X:Cx)(χ:γ (δ×ν))(σ:St)(Q:Bool->Hp->Prop)(b:Bool)(s':η):Prop:=∃H',Inv X χ σ H' s'/\Q b H'
def AP(X:Cx)(χ:γ (δ×ν))(σ:St)(Q:γ V->Hp->Prop)(us:γ ζ)(s':η):Prop:=∃vs H',Inv X χ σ H' s'/\Vals vs us/\Q vs H'
def SP(X:Cx)(χ:γ (δ×ν))(D:Ends)(f:Flow)(s':η):Prop:=
 match f with
 |.next=>∃σ' H',Inv X χ σ' H' s'/\D.nx σ' H'
 |.brk=>∃σ' H',Inv X χ σ' H' s'/\D.bk σ' H'
 |.cont=>∃σ' H',Inv X χ σ' H' s'/\D.ct σ' H'
 |.ret u=>∃v σ' H',Inv X χ σ' H' s'/\RelV v u/\D.rt v H'
def PE(X:Cx)(e:ι)(t:TE):Prop:=
 ∀(χ:γ (δ×ν))(s:η)(σ:St)(H:Hp)(Q:VK),Inv X χ σ H s->t σ H Q->FM (model X.prog X.w) X.A (eval e X.env) (EP X χ σ Q) X.xe s
def PT(X:Cx)(e:ι)(t:TT):Prop:=
 ∀(χ:γ (δ×ν))(s:η)(σ:St)(H:Hp)(Q:Bool->Hp->Prop),Inv X χ σ H s->t σ H Q->FM (model X.prog X.w) X.A (isTrue e X.env<|eval e X.env) (TP X χ σ Q) X.xe s
def PW(X:Cx)(e:ι)(t:TT):Prop:=
 ∀(whole:Sem ζ)(χ:γ (δ×ν))(s:η)(σ:St)(H:Hp)(Q:Bool->Hp->Prop),Inv X χ σ H s->t σ H Q->FM (model X.prog X.w) X.A (isTrue e X.env whole) (TP X χ σ Q) X.xe s
theorem PW.pt(h:PW X e t):PT X e t:=h _
def PA(X:Cx)(es:γ ι)(t:TA):Prop:=
 ∀(pos:Pos)(χ:γ (δ×ν))(s:η)(σ:St)(H:Hp)(Q:γ V->Hp->Prop),Inv X χ σ H s->t σ H Q->FM (model X.prog X.w) X.A (spliced<|backTo pos<|starEach es X.env) (AP X χ σ Q) X.xe s
def PS(X:Cx)(st:θ)(t:TS):Prop:=
 ∀(χ:γ (δ×ν))(s:η)(σ:St)(H:Hp)(D:Ends),Inv X χ σ H s->t D σ H->FM (model X.prog X.w) X.A (exec st X.env) (SP X χ D) X.xe s
def sr(X:Cx)(st:γ θ)(t:TS):Prop:=
 ∀(χ:γ (δ×ν))(s:η)(σ:St)(H:Hp)(D:Ends),Inv X χ σ H s->t D σ H->FM (model X.prog X.w) X.A (execs st X.env) (SP X χ D) X.xe s
theorem cS{M:Model}{A:ς}{E:ζ->η->Prop}{s:η}(h:FM M A t Q E s)(hQ:∀a s,Q a s->Q' a s):FM M A t Q' E s:=A19 h hQ λ _ _ x=>x
section
def l7(i:Nat):TE:=λ σ H Q=>∃v,σ[i]?=AC (AC v)/\Q v H
def tC(v:V):TE:=λ _ H Q=>Q v H
theorem C6(hN:X.N[i]?=AC x)(hv:QY X.env.scope x)(hd:(x==("__debug__"))=AT:=by decide)(nQ:(x==("__classdict__"))=AT:=by decide):PE X (.Name x pos) (l7 i):=by
 intro χ s σ H Q I h;obtain⟨v,e,h⟩:=h;obtain⟨m,hn,hl⟩:=I.loc;obtain⟨u,r,l⟩:=hl i x v hN e hv;have fin:EP X χ σ Q u s:=⟨v,H,I,r,h⟩
 rcases l with⟨hk,hm⟩|⟨hk,c,hc,r9⟩
 .exact wpAny_Name (wpAny_loadName_local I.ok.kind hk hn hm fin) hd
 .rcases hk with hk|hk
  .exact wpAny_Name (wpAny_loadName_cell I.ok.kind hk hc r9 fin) hd
  .exact wpAny_Name (wpAny_loadName_free I.ok.kind hk hc r9 fin nQ) hd
theorem R8:PE X (.Constant (.int i) j pos) (tC<|.int i):=λ _ _ _ H _ I h=>wpAny_Constant_int ⟨.int i,H,I.tok _,⟨_,rfl⟩,h⟩
theorem Wx:PE X (.Constant (.bool b) j pos) (tC<|.bl b):=λ _ _ _ H _ I h=>Constant_bool ⟨.bl b,H,I,rfl,h⟩
theorem C8:PE X (.Constant .none j pos) (tC .non):=λ _ _ _ H _ I h=>Constant_none ⟨.non,H,I,rfl,h⟩
theorem C7:PE X (.Constant (.str x) j pos) (tC<|.str x):=λ _ _ _ H _ I h=>Calls.Constant_str ⟨.str x,H,I.tok _,⟨_,rfl⟩,h⟩
def Gl(X:Cx)(x:Str):Prop:=X.env.kindOf x=AC .globalImplicit
theorem mW(I:Inv X χ σ H s)(hg:Gl X x)(hm:X.mg x=AC u)(h:Q u s)
 (hd:(x==("__debug__"))=AT:=by decide):FM (model X.prog X.w) X.A (eval (.Name x pos) X.env) Q E s:=
 B66 I.ok.kind hg (Calls.loadGlobal_global (by rw[I.ok.glob];exact I.mod.glob.keeps I.bk) hm h) hd
theorem lh(I:Inv X χ σ H s)(hg:Gl X x)(hm:X.mg x=Ch)(hv:bootBuiltins x=AC u)(h:Q u s)
 (hn:x≠ "__name__":=by decide) (hd:(x==("__debug__"))=AT:=by decide):FM (model X.prog X.w) X.A (eval (.Name x pos) X.env) Q E s:=by
 obtain⟨mb,h1,h2⟩:=I.mod.blt;exact B66 I.ok.kind hg (Calls.loadGlobal_builtin (by rw[I.ok.glob];exact I.mod.glob.keeps I.bk) hm (by rw[I.ok.blt];exact h1.keeps I.bk) ((h2 x hn).trans hv) h) hd
theorem tQ(hg:Gl X x)(hm:X.mg x=AC u)(r:RelV v u)(hd:(x==("__debug__"))=AT:=by decide):PE X (.Name x pos) (tC v):=
 λ _ _ _ H _ I h=>mW I hg hm ⟨v,H,I,r,h⟩ hd
theorem E8(hg:Gl X x)(hm:X.mg x=Ch)(hv:bootBuiltins x=AC u)(r:RelV v u)(hn:x≠ "__name__":=by decide)(hd:(x==("__debug__"))=AT:=by decide):PE X (.Name x pos) (tC v):=
 λ _ _ _ H _ I h=>lh I hg hm hv ⟨v,H,I,r,h⟩ hn hd
def tB(t:TE):TT:=λ σ H Q=>t σ H λ x H1=>∃c,x=.bl c/\Q c H1
theorem RX(h:PE X e t)(he:∀whole,isTrue e X.env whole=(do let v ←whole;standAt e.pos;holding [v] (truthy v)):=by intro _;rfl):PT X e (tB t):=by intro χ s σ H Q I hw;refine isTrue_plain (cS (h χ s σ H _ I hw) λ v s1 ⟨x,H1,I1,r1,q1⟩=>?_)<|he _;obtain⟨d,rfl,q⟩:=q1;cases r1;exact A55 ⟨H1,I1,q⟩
variable{rest:γ ι}
def CO(t u:TT):TT:=λ σ H Q=>t σ H λ c H1=>if c=Da then u σ H1 Q else Q AT H1
def Ag(t u:TT):TT:=λ σ H Q=>t σ H λ c H1=>if c=Da then Q Da H1 else u σ H1 Q
def fz(t:TT):TT:=λ σ H Q=>t σ H λ c H1=>Q (!c) H1
theorem pw_and1(ha:PT X a tA):PW X (.BoolOp .And [a] pos) tA:=by
 intro wh χ s σ H Q I h;refine isTrue_and<|cS (ha χ s σ H Q I h) λ c s1 e=>?_;cases c with
 |true=>exact isTrue_and_nil e
 |false=>exact e
theorem pw_or1(ha:PT X a tA):PW X (.BoolOp .Or [a] pos) tA:=by
 intro wh χ s σ H Q I h;refine isTrue_or<|cS (ha χ s σ H Q I h) λ c s1 e=>?_;cases c with
 |false=>exact isTrue_or_nil e
 |true=>exact e
theorem pw_and(ha:PT X a tA)(hb:PW X (.BoolOp .And (b::rest) pos) tB'):PW X (.BoolOp .And (a::b::rest) pos) (CO tA tB'):=by
 intro wh χ s σ H Q I h;refine isTrue_and<|cS (ha χ s σ H _ I h) λ c s1 ⟨H1,I1,q1⟩=>?_;cases c with
 |true=>exact hb wh χ s1 σ H1 Q I1 q1
 |false=>exact⟨H1,I1,q1⟩
theorem pw_or(ha:PT X a tA)(hb:PW X (.BoolOp .Or (b::rest) pos) tB'):PW X (.BoolOp .Or (a::b::rest) pos) (Ag tA tB'):=by
 intro wh χ s σ H Q I h;refine isTrue_or<|cS (ha χ s σ H _ I h) λ c s1 ⟨H1,I1,q1⟩=>?_;cases c with
 |true=>exact⟨H1,I1,q1⟩
 |false=>exact hb wh χ s1 σ H1 Q I1 q1
theorem RY(ha:PT X a tA):PT X (.UnaryOp .Not a pos) (fz tA):=by intro χ s σ H Q I h;exact isTrue_not<|ha χ s σ H (λ c H1=>Q (!c) H1) I h
def VZ(ta tb:TE):TE:=λ σ H Q=>ta σ H λ x H1=>∃c,x=.bl c/\if c=Da then tb σ H1 Q else Q (.bl AT) H1
def _9(ta tb:TE):TE:=λ σ H Q=>ta σ H λ x H1=>∃c,x=.bl c/\if c=Da then Q (.bl Da) H1 else tb σ H1 Q
def VQ(ta:TE):TE:=λ σ H Q=>ta σ H λ x H1=>∃c,x=.bl c/\Q (.bl<|!c) H1
theorem Jx(h:PE X a t):PE X (.BoolOp op [a] pos) t:=λ χ s σ H Q I hw=>BoolOp_one<|h χ s σ H Q I hw
theorem JB(ha:PE X a ta)(hb:PE X (.BoolOp .And (b::rest) pos) tb):PE X (.BoolOp .And (a::b::rest) pos) (VZ ta tb):=by
 intro χ s σ H Q I h;refine BoolOp_and<|cS (ha χ s σ H _ I h) λ v s1 ⟨x,H1,I1,r1,q1⟩=>?_;obtain⟨c,rfl,q1⟩:=q1;cases r1;refine A55 ?_;cases c with
 |true=>exact hb χ s1 σ H1 Q I1 q1
 |false=>exact⟨.bl AT,H1,I1,rfl,q1⟩
theorem Ww(ha:PE X a ta)(hb:PE X (.BoolOp .Or (b::rest) pos) tb):PE X (.BoolOp .Or (a::b::rest) pos) (_9 ta tb):=by
 intro χ s σ H Q I h;refine BoolOp_or<|cS (ha χ s σ H _ I h) λ v s1 ⟨x,H1,I1,r1,q1⟩=>?_;obtain⟨c,rfl,q1⟩:=q1;cases r1;refine A55 ?_;cases c with
 |false=>exact hb χ s1 σ H1 Q I1 q1
 |true=>exact⟨.bl Da,H1,I1,rfl,q1⟩
theorem R6(ha:PE X a ta):PE X (.UnaryOp .Not a pos) (VQ ta):=by intro χ s σ H Q I h;refine UnaryOp_<|cS (ha χ s σ H _ I h) λ v s1 ⟨x,H1,I1,r1,q1⟩=>?_;obtain⟨c,rfl,q1⟩:=q1;cases r1;exact not_of<|A55 ⟨.bl<|!c,H1,I1,rfl,q1⟩
def tIf(t:TT)(ta tb:TE):TE:=λ σ H Q=>t σ H λ c H1=>if c=Da then ta σ H1 Q else tb σ H1 Q
theorem Jz(hc:PT X c tA)(ha:PE X a ta)(hb:PE X b tb):PE X (.IfExp c a b pos) (tIf tA ta tb):=by
 intro χ s σ H Q I h;refine wpAny_IfExp<|cS (hc χ s σ H _ I h) λ d s1 ⟨H1,I1,q1⟩=>?_;cases d with
 |true=>exact ha χ s1 σ H1 Q I1 q1
 |false=>exact hb χ s1 σ H1 Q I1 q1
end
def ku(K:Do)(H:Hp)(a:δ)(xs:γ V):Prop:=
 Rd H a (.lst xs) \/
  ∃(o:ν)(bx:Array ζ)(n:Nat),K.lookup a=AC o/\o.cls=.type "list" /\ o.dict=Ch/\o.data=.seq bx n/\bx.size<=sizeLine/\Vals xs bx.toList
def mI(K:Do)(H:Hp)(a:δ)(xs:γ V):Prop:=
 Rd H a (.tup xs) \/
  ∃(o:ν)(bx:Array ζ)(n:Nat),K.lookup a=AC o/\o.cls=.type "tuple" /\ (o.data=.seq bx n/\o.dict=Ch/\o.slots=#[])/\bx.size<=sizeLine/\Vals xs bx.toList
def adp:ζ->ε V
|.none=>AC .non
|.bool b=>AC<|.bl b
|.int i _=>AC<|.int i
|.str x _=>AC<|.str x
|.bytes b _=>AC<|.Vo b
|.float b _=>AC<|.Vh b
|.ref a=>AC<|.ref a
|.type n=>AC<|.ty n
|_=>Ch
theorem RelV.abs(r:RelV x u):adp u=AC x:=by
 cases x with
 |non=>cases r;rfl
 |bl _=>cases r;rfl
 |int _=>obtain⟨t,rfl⟩:=r;rfl
 |str _=>obtain⟨t,rfl⟩:=r;rfl
 |Vo _=>obtain⟨t,rfl⟩:=r;rfl
 |Vh _=>obtain⟨t,rfl⟩:=r;rfl
 |ref _=>cases r;rfl
 |ty _=>cases r;rfl
theorem RelV.inj(r:RelV x u)(q:RelV y u):x=y:=A03<|r.abs.symm.trans q.abs
theorem Vals.inj:∀{xs ys}{us},Vals xs us->Vals ys us->xs=ys
|_,_,_,.nil,.nil=>rfl
|_,_,_,.cons r t,.cons r' t'=>by rw[r.inj r',Vals.inj t t']
theorem ku.of{K:Do}(h:H a=AC (.lst xs)):ku K H a xs:=.inl<|.inl h
theorem mI.of{K:Do}(h:H a=AC (.tup xs)):mI K H a xs:=.inl<|.inl h
theorem Inv.list(I:Inv X χ σ H s)(h:ku X.K H a xs):∃bx,Vals xs bx/\PlainL s.heap a bx.toArray/\xs.length<=sizeLine:=by
 rcases h with h|⟨o,bx,n,hk,hc,hd,hs,hz,r⟩
 .obtain⟨z,bx,n,r,e⟩:=h.ok I.bQ;exact⟨bx,r,⟨_,n,e,rfl,rfl,rfl⟩,z⟩
 .refine⟨_,r,⟨o,n,I.nM a o hk,hc,hd,by simpa using hs⟩,?_⟩;have e:=r.length;simp only[B67]at e;lia
theorem Inv.tuple(I:Inv X χ σ H s)(h:mI X.K H a xs):∃bx,Vals xs bx/\IsTup s.heap a bx.toArray/\xs.length<=sizeLine:=by
 rcases h with h|⟨o,bx,n,hk,hc,hs,hz,r⟩
 .obtain⟨z,bx,r,p⟩:=h.ok I.bQ;exact⟨bx,r,p.is,z⟩
 .refine⟨_,r,⟨o,I.nM a o hk,hc,n,by simpa using hs.1⟩,?_⟩;have e:=r.length;simp only[B67]at e;lia
theorem Inv.pR(I:Inv X χ σ H s)(h:ku X.K H a xs)(h':ku X.K H a ys):xs=ys:=by
 obtain⟨bx,r,⟨o,n,e,_,_,d⟩,_⟩:=I.list h;obtain⟨Bu,r',⟨o',n',e',_,_,d'⟩,_⟩:=I.list h';rw[e]at e';cases e';rw[d]at d';injection d' with d1 _
 have:bx=Bu:=by simpa using A11 ci d1
 subst this;exact r.inj r'
theorem Inv.qy(I:Inv X χ σ H s)(h:mI X.K H a xs)(h':mI X.K H a ys):xs=ys:=by
 obtain⟨bx,r,⟨o,e,_,n,d⟩,_⟩:=I.tuple h;obtain⟨Bu,r',⟨o',e',_,n',d'⟩,_⟩:=I.tuple h';rw[e]at e';cases e';rw[d]at d';injection d' with d1 _
 have:bx=Bu:=by simpa using A11 ci d1
 subst this;exact r.inj r'
abbrev Cx.wish(X:Cx)(E:ζ->η->Prop):Cx:={X with xe:=E}
abbrev Cx.f_(X:Cx):Cx:=X.wish λ _ _=>False
theorem Cx.Ok.wish{X:Cx}(ok:X.Ok)(E:ζ->η->Prop):(X.wish E).Ok:=
 ⟨ok.mod,ok.kind,ok.glob,ok.blt,ok.above,ok.inj,ok.has,ok.QU,ok.hd,ok.frames,ok.HR,ok.Yw,ok.bs,ok.Ek,ok.za,ok.D',ok.lx,ok.H!⟩
theorem Cx.Ok.gc{X:Cx}(ok:(X.wish E).Ok):X.Ok:=
 ⟨ok.mod,ok.kind,ok.glob,ok.blt,ok.above,ok.inj,ok.has,ok.QU,ok.hd,ok.frames,ok.HR,ok.Yw,ok.bs,ok.Ek,ok.za,ok.D',ok.lx,ok.H!⟩
theorem Inv.wish(I:Inv X χ σ H s)(E:ζ->η->Prop):Inv (X.wish E) χ σ H s:=⟨I.ok.wish E,I.os,I.bare,I.base,I.loc,I.cell,I.free,I.gy,I.pin,I.bQ,I.len,I.tab⟩
theorem Inv.gc(I:Inv (X.wish E) χ σ H s):Inv X χ σ H s:=⟨I.ok.gc,I.os,I.bare,I.base,I.loc,I.cell,I.free,I.gy,I.pin,I.bQ,I.len,I.tab⟩
theorem SP.gc(h:SP (X.wish E) χ D f s'):SP X χ D f s':=by
 cases f with
 |next=>obtain⟨σ',H',I,q⟩:=h;exact⟨σ',H',I.gc,q⟩
 |brk=>obtain⟨σ',H',I,q⟩:=h;exact⟨σ',H',I.gc,q⟩
 |cont=>obtain⟨σ',H',I,q⟩:=h;exact⟨σ',H',I.gc,q⟩
 |ret u=>obtain⟨v,σ',H',I,r,q⟩:=h;exact⟨v,σ',H',I.gc,r,q⟩
theorem PE.f_(h:PE X.f_ e t):PE X e t:=λ χ s σ H Q I hw=>A19 (h χ s σ H Q (I.wish _) hw) (λ _ _ ⟨v,H',I',r,q⟩=>⟨v,H',I'.gc,r,q⟩) λ _ _ z=>GM z
theorem PT.f_(h:PT X.f_ e t):PT X e t:=λ χ s σ H Q I hw=>A19 (h χ s σ H Q (I.wish _) hw) (λ _ _ ⟨H',I',q⟩=>⟨H',I'.gc,q⟩) λ _ _ z=>GM z
theorem sr.f_{st:γ θ}(h:sr X.f_ st t):sr X st t:=λ χ s σ H D I hw=>A19 (h χ s σ H D (I.wish _) hw) (λ _ _ q=>q.gc) λ _ _ z=>GM z
section
variable{st:θ}{rest:γ θ}
def VS:TS:=λ D σ H=>D.nx σ H
def _7(t u:TS):TS:=λ D σ H=>t {D with nx:=u D} σ H
theorem E1:sr X [] VS:=λ _ _ σ H _ I h=>B37 ⟨σ,H,I,h⟩
theorem ma(h1:PS X st t)(h2:sr X rest u):sr X (st::rest) (_7 t u):=by
 intro χ s σ H D I h;refine wpAny_execs_cons<|cS (h1 χ s σ H {D with nx:=u D} I h) λ f s1 q=>?_;cases f with
 |next=>obtain⟨σ',H',I',q⟩:=q;exact h2 χ s1 σ' H' D I' q
 |ret v=>exact q
 |brk=>exact q
 |cont=>exact q
theorem tP(h1:PS X st t):sr X [st] t:=by
 intro χ s σ H D I h;refine wpAny_execs_cons<|cS (h1 χ s σ H D I h) λ f s1 q=>?_;cases f with
 |next=>exact B37 q
 |ret v=>exact q
 |brk=>exact q
 |cont=>exact q
theorem Inv.quiet(I:Inv X χ σ H s):interactive X.env=AT:=by simp[interactive,I.ok.kind]
def VU(te:TE):TS:=λ D σ H=>te σ H λ _ H1=>D.nx σ H1
theorem pI(he:PE X e te)(hs:swapsWith e Ch pos.line X.env=pure AT:=by rfl):PS X (.Expr e pos) (VU te):=by intro χ s σ H D I h;exact wpAny_Expr_any (cS (he χ s σ H _ I h) λ v s1 ⟨x,H1,I1,r1,q1⟩=>⟨σ,H1,I1,q1⟩) I.quiet hs
def _8(te:TE):TS:=λ D σ H=>te σ H D.rt
theorem C4(he:PE X e te):PS X (.Return (AC e) pos) (_8 te):=by intro χ s σ H D I h;exact wpAny_Return_some<|cS (he χ s σ H _ I h) λ v s1 ⟨x,H1,I1,r1,q1⟩=>⟨x,σ,H1,I1,r1,q1⟩
def aaa(c:TT)(t u:TS):TS:=λ D σ H=>c σ H λ b H1=>if b=Da then t D σ H1 else u D σ H1
theorem Js(hc:PT X c tc)(ha:sr X a t)(hb:sr X b u):PS X (.If c a b pos) (aaa tc t u):=by
 intro χ s σ H D I h;refine wpAny_If<|cS (hc χ s σ H _ I h) λ d s1 ⟨H1,I1,q1⟩=>?_;cases d with
 |true=>exact ha χ s1 σ H1 D I1 q1
 |false=>exact hb χ s1 σ H1 D I1 q1
end
abbrev TG:=V->St->Hp->(St->Hp->Prop)->Prop
abbrev Vr:=γ V->St->Hp->(St->Hp->Prop)->Prop
def PG(X:Cx)(target:ι)(t:TG):Prop:=
 ∀ (χ:γ (δ×ν))(s:η)(σ:St)(H:Hp)(v:V)(u:ζ)(Q:St->Hp->Prop),Inv X χ σ H s->RelV v u->t v σ H Q ->
  FM (model X.prog X.w) X.A (assign target X.env u) (λ _ s'=>∃σ' H',Inv X χ σ' H' s'/\Q σ' H') X.xe s
def Mn(X:Cx)(ts:γ ι)(t:Vr):Prop:=
 ∀ (χ:γ (δ×ν))(s:η)(σ:St)(H:Hp)(vs:γ V)(us:γ ζ)(Q:St->Hp->Prop),Inv X χ σ H s->Vals vs us->t vs σ H Q ->
  FM (model X.prog X.w) X.A (assignInOrder ((assignEach ts X.env).map (·.2)) us) (λ _ s'=>∃σ' H',Inv X χ σ' H' s'/\Q σ' H') X.xe s
abbrev TIp:=V->V->Hp->VK->Prop
def PIp(X:Cx)(op:Operator)(t:TIp):Prop:=
 ∀ (χ:γ (δ×ν))(s:η)(σ:St)(H:Hp)(x y:V)(v u:ζ)(Q:VK),Inv X χ σ H s->RelV x v->RelV y u->t x y H Q ->
  FM (model X.prog X.w) X.A (inplaceOp op v u) (EP X χ σ Q) X.xe s
def bf(i:Nat):TG:=λ v σ H Q=>Q (σ.set i<|some v) H
theorem E4(hN:X.N.Nodup)(hi:X.N[i]?=AC x)(hx:Loc X.env.scope x)(hf:X.fn x=Da\/X.env.scope.names.lookup x=AC .local:=by first|exact .inl rfl|exact .inr rfl|assumption):PG X (.Name x pos) (bf i):=by intro χ s σ H v u Q I r h;exact wpAny_assign_Name<|pD I hN hi hx r (λ s' I'=>⟨_,H,I',h⟩) hf
def acG:Vr:=λ vs σ H Q=>vs=[]/\Q σ H
def Yo(t:TG)(u:Vr):Vr:=λ vs σ H Q=>∃v r,vs=v::r/\t v σ H λ σ' H'=>u r σ' H' Q
theorem Nb:Mn X [] acG:=by intro χ s σ H vs us Q I r h;obtain⟨e,h⟩:=h;subst e;cases r;exact assignInOrder_nil ⟨σ,H,I,h⟩
theorem Jv(h1:PG X e t)(h2:Mn X es u)
 (hs:(assignEach (e::es) X.env).map (·.2)=assign e X.env::(assignEach es X.env).map (·.2):=by rfl):Mn X (e::es) (Yo t u):=by
 intro χ s σ H vs us Q I r h;obtain⟨v,vr,e1,h⟩:=h;subst e1;cases r with
 |cons r rr=>rw[hs];refine assignInOrder_cons<|cS (h1 χ s σ H _ _ _ I r h) λ _ s1 ⟨σ1,H1,I1,q1⟩=>?_;exact h2 χ s1 σ1 H1 _ _ Q I1 rr q1
def jd(K:Do)(n:Nat)(t:Vr):TG:=λ v σ H Q=>∃a xs,v=.ref a/\mI K H a xs/\xs.length=n/\t xs σ H Q
theorem R4(hc:X.calm=Da)(h:Mn X es t)
 (hn:(assignEach es X.env).length=n:=by rfl) (vk:(assignEach es X.env).findIdx? (·.1)=Ch:=by rfl):PG X (.Tuple es k pos) (jd X.K n t):=by
 intro χ s σ H v u Q I r hw;obtain⟨a,xs,e1,hq,hl,hw⟩:=hw;subst e1;cases r;obtain⟨bx,rv,ht,hz⟩:=I.tuple hq;refine assign_Tuple_tuple (I.ok.hd hc) ht (by simp[hn,<-hl,rv.length]) vk λ h' hx=>?_;have I1:=I.kept (t':=s.toks) λ b o e=>hx b o (A17<|A02 e) e;exact h χ _ σ H xs _ Q I1 (by simpa using rv) hw
def aah(te:TE)(g:TG):TS:=λ D σ H=>te σ H λ x H1=>g x σ H1 D.nx
theorem qG(hN:X.N.Nodup)(hi:X.N[i]?=AC x)(hx:Loc X.env.scope x)(he:PE X e te)(hs:swapsWith e (AC<|.Name x pos') pos.line X.env=pure AT:=by rfl)(hf:X.fn x=Da\/X.env.scope.names.lookup x=AC .local:=by first|exact .inl rfl|exact .inr rfl|assumption):
 PS X (.Assign [.Name x pos'] e pos) (aah te<|bf i):=by
 intro χ s σ H D I h;refine wpAny_Assign_Name (cS (he χ s σ H _ I h) λ v s1 ⟨y,H1,I1,r1,q1⟩=>?_) hs;exact pD I1 hN hi hx r1 (λ s2 I2=>⟨_,H1,I2,q1⟩) hf
def aag(i:Nat)(te:TE)(ti:TIp):TS:=λ D σ H=>∃x,σ[i]?=AC (AC x)/\te σ H λ y H1=>ti x y H1 λ z H2=>D.nx (σ.set i<|some z) H2
theorem R1(hN:X.N.Nodup)(hi:X.N[i]?=AC x)(hx:Loc X.env.scope x)(he:PE X e te)(ho:PIp X op ti)(hf:X.fn x=Da\/X.env.scope.names.lookup x=AC .local:=by first|exact .inl rfl|exact .inr rfl|assumption) :
 PS X (.AugAssign (.Name x pos') op e pos) (aag i te ti):=by
 intro χ s σ H D I h;obtain⟨v,e1,h⟩:=h;obtain⟨m,hn,hl⟩:=I.loc;have vis:QY X.env.scope x:=by rcases hx with k|k;exact .inl k;exact .inr<|.inl k
 obtain⟨u,r,l⟩:=hl i x v hi e1 vis;refine wpAny_AugAssign_Name ?_;have go:FM (model X.prog X.w) X.A (eval e X.env) (λ w s₂=>FM (model X.prog X.w) X.A (inplaceOp op u w) (λ r s₃=>FM (model X.prog X.w) X.A (storeName X.env x r) (λ _=>SP X χ D .next) X.xe s₃) X.xe s₂) X.xe s:=by refine cS (he χ s σ H _ I h) λ w s1 ⟨y,H1,I1,r1,q1⟩=>?_;refine cS (ho χ s1 σ H1 v y u w _ I1 r r1 q1) λ z s2 ⟨zv,H2,I2,r2,q2⟩=>?_;exact pD I2 hN hi hx r2 (λ s3 I3=>⟨_,H2,I3,q2⟩) hf
 rcases l with⟨hk,hm⟩|⟨hk,c,hc,r9⟩
 .exact wpAny_loadName_local I.ok.kind hk hn hm go
 .rcases hk with hk|hk
  .exact wpAny_loadName_cell I.ok.kind hk hc r9 go
  .rcases hx with k|k
   .have:X.env.scope.names.lookup x=AC .free:=hk;rw[k]at this;cases this
   .have:X.env.scope.names.lookup x=AC .free:=hk;rw[k]at this;cases this
set_option genInjectivity false in
structure It where
 go:Nat->Hp->Prop
 EC:Nat->Hp->V->Hp->Prop
 stop:Nat->Hp->Prop
def qk(X:Cx)(χ:γ (δ×ν))(H:Hp)(b:δ):Prop:=
 H b=Ch/\b≠X.env.locals/\b∉X.fs/\(b∈X.ex\/X.s₀.heap.objs.size<=b)/\(∀x c,X.env.cells.lookup x=AC c->c≠b)/\∀p∈X.pn++χ,p.1≠b
theorem Inv.vw(I:Inv X χ σ H s)(hb:s.heap.objs.size<=b)(hn:H' b=Ch):qk X χ H' b:=by
 refine⟨hn,A50<|A21 I.lt hb,I.Sz hb,.inr<|A23 I.sz hb,λ x c e z=>?_,λ p hp z=>?_⟩
 .obtain⟨v,q⟩:=I.cell x c e;exact absurd (A21 q.lt (by rw[z];exact hb))<|A72 _
 .exact absurd (A21 (A02 (I.pin p hp).1) (by rw[z];exact hb))<|A72 _
structure Turn(P:Program)(w:World)(K:Do)(tg:Expr)(J:It)(fp:List Addr)(it:Addr)(tn:Nat->Heap->Prop):Prop where
 mem:it∈fp
 obj:∀i h,tn i h->∀b∈fp,∃o,h.get? b=AC o/\∀v,o.data≠.cell v
 keep:∀i h h',tn i h->(∀b∈fp,∀o,h.get? b=AC o->h'.get? b=AC o)->tn i h'
 item:∀(X:Cx),X.prog=P->X.w=w->X.K=K->X.calm=Da->∀(i:Nat)(χ:List (Addr×Obj))(s:Shared)(σ:St)(H:Hp)(E:Value->Shared->Prop),Inv X χ σ H s->(∀b∈fp,qk X χ H b)->tn i s.heap->J.go i H ->
  FM (model P w) X.A (pyNext<|.ref it) (λ r s1=>∃u,r=AC u /\
   FM (model P w) X.A (letOwnedTupleGo tg (.ref it) u) (λ _ s2=>∃x H',Inv X χ σ H' s2/\RelV x u/\J.EC i H x H'/\tn (i+1) s2.heap/\∀b∈fp,H' b=Ch) E s1) E s
 done:∀(X:Cx),X.prog=P->X.w=w->X.K=K->X.calm=Da->∀(i:Nat)(χ:List (Addr×Obj))(s:Shared)(σ:St)(H:Hp)(E:Value->Shared->Prop),Inv X χ σ H s->(∀b∈fp,qk X χ H b)->tn i s.heap->J.stop i H ->
  FM (model P w) X.A (pyNext<|.ref it) (λ r s1=>r=Ch/\Inv X χ σ H s1) E s
 self:∀(A:Around)(i:Nat)(s:Shared)(Q:Value->Shared->Prop)(E:Value->Shared->Prop),tn i s.heap->Q (.ref it) s->FM (model P w) A (pyIter<|.ref it) Q E s
abbrev TI:=St->Hp->(It->Hp->Prop)->Prop
def Y1(X:Cx)(χ:γ (δ×ν))(σ:St)(tg:ι)(R:It->Hp->Prop)(itv:ζ)(s2:η):Prop:=
 ∃(it:δ)(fp:γ δ)(tn:Nat->μ->Prop)(J:It)(H':Hp),itv=.ref it/\Inv X χ σ H' s2/\Turn X.prog X.w X.K tg J fp it tn/\tn 0 s2.heap/\(∀b∈fp,qk X χ H' b)/\R J H'
def PI(X:Cx)(tg iter:ι)(wi:TI):Prop:=
 ∀ (χ:γ (δ×ν))(s:η)(σ:St)(H:Hp)(R:It->Hp->Prop),Inv X χ σ H s->wi σ H R ->
  FM (model X.prog X.w) X.A (eval iter X.env) (λ v s1=>FM (model X.prog X.w) X.A (pyIter v) (Y1 X χ σ tg R) X.xe s1) X.xe s
theorem xU(ho:s.heap.get? it=AC o)(hc:o.cls=.type n)(hd:o.data=.fields vs)
    (hn:["enumerate","zip","dict_itemiterator","dict_reverseitemiterator","odict_iterator","itertools.zip_longest","itertools.pairwise"].contains n=AT) (hQ:Q () s):FM M A (letOwnedTupleGo tg (.ref it) u) Q E s:=by
  cases tg<;>first
    |exact W1 hQ
    | (cases u<;>first
        |exact W1 hQ
        | (refine T0<|wpAny_load ho ?_
           rw[hc,hd];show FM M A (if(["enumerate","zip","dict_itemiterator","dict_reverseitemiterator","odict_iterator","itertools.zip_longest","itertools.pairwise"].contains n&&vs[0]?==AC _)=Da then _ else _) Q E s;rw[v6 (by intro h;rw[hn,Bool.false_and]at h;cases h)];exact W1 hQ))
def Itl(K:Do)(a:δ):It:=
 ⟨λ i H=>∃xs x,ku K H a xs/\xs[i]?=AC x,λ i H x H'=>H'=H/\∀xs,ku K H a xs->xs[i]?=AC x,λ i H=>∃xs,ku K H a xs/\xs.length<=i⟩
def Itt(K:Do)(a:δ):It:=
 ⟨λ i H=>∃xs x,mI K H a xs/\xs[i]?=AC x,λ i H x H'=>H'=H/\∀xs,mI K H a xs->xs[i]?=AC x,λ i H=>∃xs,mI K H a xs/\xs.length<=i⟩
def Q3(lo:Int)(n:Nat):It:=⟨λ i _=>i<n,λ i H x H'=>H'=H/\x=.int (lo+i),λ i _=>n<=i⟩
theorem Gb{K:Do}(a it:δ):Turn P w K tg (Itl K a) [it] it (λ i h=>h.IsListIter it a i) where
 mem:=by simp
 obj:=λ i h st b hb=>by
  have e:b=it:=by simpa using hb
  subst e;obtain⟨o,e,c,d⟩:=st;exact⟨o,e,λ v z=>by rw[d]at z;cases z⟩
 keep:=λ i h h' st k=>st.at λ o e=>k it (by simp) o e
 item:=by intro X hP hw hK hc i χ s σ H E I hf st hg;subst hP hw hK;obtain⟨xs,x,hq,hx⟩:=hg;obtain⟨bx,rv,p,hz⟩:=I.list hq;obtain⟨u,hu,ru⟩:=rv.get hx;obtain⟨f0,f1,f2,f3,f4,f5⟩:=hf it (by simp);refine wpAny_pyNext_list_item st p.isList (by simpa using hu) λ h' xu sb=>?_;have I1:=I.turned (t':=s.toks) (λ b o hb e=>(sb.2 b hb).trans e) f0 f1 f3 f4 f5;obtain⟨o,e,c,d⟩:=id xu;exact⟨u,rfl,xU e c d (by decide) ⟨x,H,I1,ru,⟨rfl,λ ys hy=>by rw[I.pR hy hq];exact hx⟩,xu,λ b hb=>(hf b hb).1⟩⟩
 done:=by intro X hP hw hK hc i χ s σ H E I hf st hg;subst hP hw hK;obtain⟨xs,hq,hx⟩:=hg;obtain⟨bx,rv,p,hz⟩:=I.list hq;obtain⟨f0,f1,f2,f3,f4,f5⟩:=hf it (by simp);have hl:=rv.length;exact wpAny_pyNext_list_end (I.ok.hd hc) st p.isList (by simp;lia) λ h' eb=>⟨rfl,I.turned (λ b o hb e=>eb b o hb e) f0 f1 f3 f4 f5⟩
 self:=λ _ _ _ _ _ st h=>wpAny_pyIter_listiter st h
theorem CJ{K:Do}(a it:δ):Turn P w K tg (Itt K a) [it] it (λ i h=>h.IsTupleIter it a i) where
 mem:=by simp
 obj:=λ i h st b hb=>by
  have e:b=it:=by simpa using hb
  subst e;obtain⟨o,e,c,d⟩:=st;exact⟨o,e,λ v z=>by rw[d]at z;cases z⟩
 keep:=λ i h h' st k=>st.at λ o e=>k it (by simp) o e
 item:=by intro X hP hw hK hc i χ s σ H E I hf st hg;subst hP hw hK;obtain⟨xs,x,hq,hx⟩:=hg;obtain⟨bx,rv,p,hz⟩:=I.tuple hq;obtain⟨u,hu,ru⟩:=rv.get hx;obtain⟨f0,f1,f2,f3,f4,f5⟩:=hf it (by simp);refine wpAny_pyNext_tuple_item st (p) (by simpa using hu) λ h' xu sb=>?_;have I1:=I.turned (t':=s.toks) (λ b o hb e=>(sb.2 b hb).trans e) f0 f1 f3 f4 f5;obtain⟨o,e,c,d⟩:=id xu;exact⟨u,rfl,xU e c d (by decide) ⟨x,H,I1,ru,⟨rfl,λ ys hy=>by rw[I.qy hy hq];exact hx⟩,xu,λ b hb=>(hf b hb).1⟩⟩
 done:=by intro X hP hw hK hc i χ s σ H E I hf st hg;subst hP hw hK;obtain⟨xs,hq,hx⟩:=hg;obtain⟨bx,rv,p,hz⟩:=I.tuple hq;obtain⟨f0,f1,f2,f3,f4,f5⟩:=hf it (by simp);have hl:=rv.length;exact wpAny_pyNext_tuple_end (I.ok.hd hc) st (p) (by simp;lia) λ h' eb=>⟨rfl,I.turned (λ b o hb e=>eb b o hb e) f0 f1 f3 f4 f5⟩
 self:=λ _ _ _ _ _ st h=>wpAny_pyIter_tupleiter st h
theorem CK{K:Do}(it:δ)(lo:Int)(n:Nat):Turn P w K tg (Q3 lo n) [it] it (λ i h=>IsRangeIter h it (lo+(i)*1) ((n)-(i)) 1) where
 mem:=by simp
 obj:=λ i h st b hb=>by
  have e:b=it:=by simpa using hb
  subst e;exact⟨_,st,λ v z=>by have z':=z;cases z'⟩
 keep:=λ i h h' st k=>k it (by simp) _ st
 item:=by intro X hP hw hK hc i χ s σ H E I hf st hg;subst hP hw hK;obtain⟨f0,f1,f2,f3,f4,f5⟩:=hf it (by simp);have W:=Walks.range (prog:=X.prog) (w:=X.w) (I.ok.hd hc) it lo 1 n;refine W.item i s _ _ hg st λ v h' tk hv xu kk=>?_;obtain⟨t,rfl⟩:=hv;have I1:Inv X χ σ H {s with heap:=h',toks:=tk}:=I.turned (λ b o hb e=>kk b o (by simpa using hb) e) f0 f1 f3 f4 f5;refine⟨_,rfl,xU xu rfl rfl (by decide) ⟨.int<|lo+i,H,I1,⟨t,?_⟩,⟨rfl,rfl⟩,xu,λ b hb=>(hf b hb).1⟩⟩;rw[Int.mul_one]
 done:=by intro X hP hw hK hc i χ s σ H E I hf st hg;subst hP hw hK;obtain⟨f0,f1,f2,f3,f4,f5⟩:=hf it (by simp);exact wpAny_pyNext_range_end (I.ok.hd hc) st (by have:n<=i:=hg;lia) λ h' eb=>⟨rfl,I.turned (λ b o hb e=>eb b o hb e) f0 f1 f3 f4 f5⟩
 self:=λ _ _ _ _ _ st h=>wpAny_pyIter_rangeiter st h
def aab(wi:TI)(g:TG)(tb:TS):TS:=λ D σ H=>wi σ H λ J H1=>∃W:Nat->Nat->St->Hp->Prop,(∃m,W 0 m σ H1)/\∀i m σ H,W i m σ H ->
 (J.stop i H/\D.nx σ H)\/(J.go i H/\∃N:St->Hp->Prop,(∀σ' H',N σ' H'->∃m',m'<m/\W (i+1) m' σ' H')/\∀x H',J.EC i H x H'->g x σ H' λ σ2 H2=>tb {D with nx:=N,ct:=N,bk:=D.nx} σ2 H2)
def uB(fp:γ δ)(h:μ):γ (δ×ν):=fp.filterMap λ b=>(h.get? b).map λ o=>(b,o)
theorem lg(hb:b∈fp)(e:h.get? b=AC o):(b,o)∈uB fp h:=B68.mpr ⟨b,hb,by rw[e];rfl⟩
theorem GD(hp:p∈uB fp h):p.1∈fp/\h.get? p.1=AC p.2:=by
 obtain⟨b,hb,e⟩:=B68.mp hp;cases q:h.get? b with
 |none=>rw[q]at e;cases e
 |some o=>rw[q]at e;have e':=A03 e;subst e';exact⟨hb,q⟩
theorem Inv.pinned(I:Inv X χ σ H s)(hf:∀b∈fp,qk X χ H b)(ho:∀b∈fp,∃o,s.heap.get? b=AC o/\∀v,o.data≠.cell v):Inv X (χ++uB fp s.heap) σ H s:=
 I.E2 λ p hp=>(A29.mp hp).elim (λ z=>I.pin p<|A40 _ z) λ z=>by obtain⟨hb,e⟩:=GD z;obtain⟨f0,f1,f2,_⟩:=hf p.1 hb;obtain⟨o,e',d⟩:=ho p.1 hb;rw[e]at e';cases e';exact⟨e,f0,f1,f2,d⟩
theorem Inv.ph(I:Inv X (χ++pl) σ H s):Inv X χ σ H s:=I.E2 λ p hp=>I.pin p<|A40 _<|A84 _ hp
theorem RZ(hp:PassesOwn (model X.prog X.w) X.A X.env X.xe)(hc:X.calm=Da)(hi:PI X tg iter wi)(hg:PG X tg g)(hb:sr X body tb)
 (hs:∀x,foldedSetIterable iter X.env x=pure x:=by intro _;rfl):PS X (.For tg iter body [] pos) (aab wi g tb):=by
 intro χ s σ H D I h;refine wpAny_For (cS (hi χ s σ H _ I h) λ v s1 h1=>cS h1 λ itv s2 h2=>?_) hs;obtain⟨it,fp,tn,J,H2,e,I2,T,L!,f2,W,⟨m0,w0⟩,turn⟩:=h2;subst e
 -- _Y stays true of MI DO objects through MI loop
 have CP:∀{H'},(∀b∈fp,H' b=Ch)->∀b∈fp,qk X χ H' b:=λ hn b hb=>⟨hn b hb,(f2 b hb).2⟩
 refine codeAny_forLoop_any (λ n s'=>∃i σ' H',Inv X χ σ' H' s'/\tn i s'.heap/\(∀b∈fp,H' b=Ch)/\W i n σ' H') ?_ m0 ⟨0,σ,H2,I2,L!,λ b hb=>(f2 b hb).1,w0⟩;rintro n s3 ⟨i,σ3,H3,I3,P?,Ys,w3⟩;rcases turn i n σ3 H3 w3 with⟨stop,qn⟩|⟨go,N,hN,step⟩
 .refine B14 hp<|cS (T.done X rfl rfl rfl hc i χ s3 σ3 H3 X.xe I3 (CP Ys) P? stop) λ r s4 ⟨hr,I4⟩=>?_;subst hr;exact B37 ⟨σ3,H3,I4,qn⟩
 .refine B14 hp<|cS (T.item X rfl rfl rfl hc i χ s3 σ3 H3 X.xe I3 (CP Ys) P? go) λ r s4 ⟨u,hr,h4⟩=>?_;subst hr;refine B14 hp<|cS h4 λ _ s5 ⟨x,H5,I5,r5,y5,Gg,fr5⟩=>?_;have I5':=I5.pinned (CP fr5)<|T.obj _ _ Gg;refine B14 hp<|cS (hg _ s5 σ3 H5 x u _ I5' r5<|step x H5 y5) λ _ s6 ⟨σ6,H6,I6,q6⟩=>?_;refine B14 hp<|cS (hb _ s6 σ6 H6 _ I6 q6) λ f s7 q7=>?_;have again:∀{σ7}{H7},Inv X (χ++uB fp s5.heap) σ7 H7 s7->N σ7 H7->∃m,m<n/\∃i σ' H',Inv X χ σ' H' s7/\tn i s7.heap/\(∀b∈fp,H' b=Ch)/\W i m σ' H':=λ {σ7 H7} I7 n7=>by obtain⟨m',hm,w7⟩:=hN σ7 H7 n7;refine⟨m',hm,i+1,σ7,H7,I7.ph,T.keep _ _ _ Gg λ b hb o e=>(I7.pin (b,o)<|A40 _<|A40 _<|lg hb e).1,λ b hb=>?_,w7⟩;obtain⟨o,e,d⟩:=T.obj _ _ Gg b hb;exact(I7.pin (b,o)<|A40 _<|A40 _<|lg hb e).2.1
  cases f with
  |next=>obtain⟨σ7,H7,I7,n7⟩:=q7;exact again I7 n7
  |cont=>obtain⟨σ7,H7,I7,n7⟩:=q7;exact again I7 n7
  |brk=>obtain⟨σ7,H7,I7,q7⟩:=q7;exact⟨σ7,H7,I7.ph,q7⟩
  |ret v=>obtain⟨x7,σ7,H7,I7,r7,q7⟩:=q7;exact⟨x7,σ7,H7,I7.ph,r7,q7⟩
abbrev R2:=V->V->Hp->VK->Prop
def jQ(X:Cx)(f:ζ->ζ->Sem ζ)(r:R2):Prop:=
 ∀ (χ:γ (δ×ν))(s:η)(σ:St)(H:Hp)(x y:V)(v u:ζ)(Q:VK),Inv X χ σ H s->RelV x v->RelV y u->r x y H Q ->
  FM (model X.prog X.w) X.A (f v u) (EP X χ σ Q) X.xe s
def UnR(X:Cx)(f:ζ->Sem ζ)(r:V->Hp->VK->Prop):Prop:=
 ∀ (χ:γ (δ×ν))(s:η)(σ:St)(H:Hp)(x:V)(v:ζ)(Q:VK),Inv X χ σ H s->RelV x v->r x H Q ->
  FM (model X.prog X.w) X.A (f v) (EP X χ σ Q) X.xe s
def i'(X:Cx)(f:ζ)(r:γ V->Hp->VK->Prop):Prop:=
 ∀ (χ:γ (δ×ν))(s:η)(σ:St)(H:Hp)(xs:γ V)(us:γ ζ)(Q:VK),Inv X χ σ H s->Vals xs us->r xs H Q ->
  FM (model X.prog X.w) X.A (call f us) (EP X χ σ Q) X.xe s
def P7(r:R2)(ta tb:TE):TE:=λ σ H Q=>ta σ H λ x H1=>tb σ H1 λ y H2=>r x y H2 Q
def tUn(r:V->Hp->VK->Prop)(ta:TE):TE:=λ σ H Q=>ta σ H λ x H1=>r x H1 Q
def rI(C:Int->Int->Prop)(g:Int->Int->V):R2:=λ x y H Q=>∃i j,x=.int i/\y=.int j/\C i j/\Q (g i j) H
def Jp(g:Int->Int->V):R2:=λ x y H Q=>∃i j,x=.int i/\y=.int j/\Q (g i j) H
def rU(g:Int->V):V->Hp->VK->Prop:=λ x H Q=>∃i,x=.int i/\Q (g i) H
theorem Uy(ha:PE X a ta)(hb:PE X b tb){R:V->V->Hp->Prop}(I:Inv X χ σ H s)
 (h:ta σ H λ x H1=>tb σ H1 λ y H2=>R x y H2){f:ζ->ζ->Sem ζ}
 (hf:∀v u s2 x y H2,Inv X χ σ H2 s2->RelV x v->RelV y u->R x y H2->FM (model X.prog X.w) X.A (f v u) Q X.xe s2) :
 FM (model X.prog X.w) X.A (eval a X.env) (λ v s₁=>FM (model X.prog X.w) X.A (eval b X.env) (λ u s₂=>FM (model X.prog X.w) X.A (f v u) Q X.xe s₂) X.xe s₁) X.xe s:=by
 refine cS (ha χ s σ H _ I h) λ v s1 ⟨x,H1,I1,r1,q1⟩=>?_;refine cS (hb χ s1 σ H1 _ I1 q1) λ u s2 ⟨y,H2,I2,r2,q2⟩=>?_;exact hf v u s2 x y H2 I2 r1 r2 q2
theorem Jw(ho:jQ X (binaryOp op) r)(ha:PE X a ta)(hb:PE X b tb):PE X (.BinOp a op b pos) (P7 r ta tb):=by intro χ s σ H Q I h;exact wpAny_BinOp<|Uy ha hb I h λ v u s2 x y H2 I2 rx ry q=>ho χ s2 σ H2 x y v u Q I2 rx ry q
theorem Wv(ho:UnR X (unaryOp op) r)(ha:PE X a ta):PE X (.UnaryOp op a pos) (tUn r ta):=by intro χ s σ H Q I h;exact UnaryOp_<|cS (ha χ s σ H _ I h) λ v s1 ⟨x,H1,I1,r1,q1⟩=>ho χ s1 σ H1 x v Q I1 r1 q1
theorem WC{g:Int->Int->Int}
 (rule:∀i j t u s Q E,C i j->Q (.int (g i j) s.toks) {s with toks:=s.toks+1}->FM (model X.prog X.w) X.A (f (.int i t)<|.int j u) Q E s) :
 jQ X f (rI C λ i j=>.int<|g i j):=by
 intro χ s σ H x y v u Q I rx ry h;obtain⟨i,j,rfl,rfl,hc,q⟩:=h;obtain⟨t,rfl⟩:=rx;obtain⟨t',rfl⟩:=ry;exact rule i j t t' s _ _ hc ⟨.int _,H,I.tok _,⟨_,rfl⟩,q⟩
theorem Sl{g:Int->Int->Int}
 (rule:∀i j t u s Q E,Q (.int (g i j) s.toks) {s with toks:=s.toks+1}->FM (model X.prog X.w) X.A (f (.int i t)<|.int j u) Q E s) :
 jQ X f (Jp λ i j=>.int<|g i j):=by
 intro χ s σ H x y v u Q I rx ry h;obtain⟨i,j,rfl,rfl,q⟩:=h;obtain⟨t,rfl⟩:=rx;obtain⟨t',rfl⟩:=ry;exact rule i j t t' s _ _ ⟨.int _,H,I.tok _,⟨_,rfl⟩,q⟩
theorem Nr{g:Int->Int->Bool}
 (rule:∀i j t u s Q E,Q (.bool<|g i j) s->FM (model X.prog X.w) X.A (f (.int i t)<|.int j u) Q E s) :
 jQ X f (Jp λ i j=>.bl<|g i j):=by
 intro χ s σ H x y v u Q I rx ry h;obtain⟨i,j,rfl,rfl,q⟩:=h;obtain⟨t,rfl⟩:=rx;obtain⟨t',rfl⟩:=ry;exact rule i j t t' s _ _ ⟨.bl _,H,I,rfl,q⟩
def adI(i j:Int):Prop:=0<=j/\j<=1000000/\i.natAbs<2^64
theorem Sk:jQ X (binaryOp .Add) (Jp λ i j=>.int<|i+j):=Sl λ _ _ _ _ _ _ _ q=>add_int q
theorem Sb:jQ X (binaryOp .Sub) (Jp λ i j=>.int<|i-j):=Sl λ _ _ _ _ _ _ _ q=>sub_int q
theorem Sh:jQ X (binaryOp .Mod) (rI (λ _ j=>0<j) λ i j=>.int<|i % j):=WC λ i j _ _ _ _ _ hc q=>by exact mod_int' (by lia) (by rw[Int.fmod_eq_emod_of_nonneg i (by lia)];exact q)
theorem Sf:jQ X (binaryOp .Pow) (rI adI λ i j=>.int<|i^j.toNat):=WC λ _ _ _ _ _ _ _ hc q=>pow_int_small hc.1 hc.2.1 hc.2.2 q
theorem Ow:jQ X (inplaceOp .Add) (Jp λ i j=>.int<|i+j):=Sl λ _ _ _ _ _ _ _ q=>iadd_int q
theorem unI{g:Int->Int}
 (rule:∀i t s Q E,Q (.int (g i) s.toks) {s with toks:=s.toks+1}->FM (model X.prog X.w) X.A (f<|.int i t) Q E s) :
 UnR X f (rU λ i=>.int<|g i):=by
 intro χ s σ H x v Q I rx h;obtain⟨i,rfl,q⟩:=h;obtain⟨t,rfl⟩:=rx;exact rule i t s _ _ ⟨.int _,H,I.tok _,⟨_,rfl⟩,q⟩
theorem Rh:UnR X (unaryOp .USub) (rU λ i=>.int<|-i):=unI λ _ _ _ _ _ q=>neg_int q
theorem zz(I:Inv X χ σ H s)(q:Q (.bl k) H)(e:k=k'):EP X χ σ Q (.bool k') s:=by subst e;exact⟨.bl k,H,I,rfl,q⟩
theorem Wy:jQ X (compareOp .Lt) (Jp λ i j=>.bl<|decide<|i<j):=Nr λ _ _ _ _ _ _ _ q=>lt_int q
theorem Wz:jQ X (compareOp .LtE) (Jp λ i j=>.bl<|decide<|i<=j):=Nr λ _ _ _ _ _ _ _ q=>le_int q
theorem WA:jQ X (compareOp .Gt) (Jp λ i j=>.bl<|decide<|j<i):=Nr λ _ _ _ _ _ _ _ q=>gt_int q
theorem WB:jQ X (compareOp .GtE) (Jp λ i j=>.bl<|decide<|j<=i):=Nr λ _ _ _ _ _ _ _ q=>ge_int q
theorem GA:jQ X (compareOp .In) (λ x y H Q=>∃i j,x=.str i/\y=.str j/\Q (.bl<|!(Go j i 0 j.length 1).isEmpty) H):=by intro χ s σ H x y v u Q I rx ry h;obtain⟨i,j,rfl,rfl,q⟩:=h;obtain⟨t,rfl⟩:=rx;obtain⟨t',rfl⟩:=ry;exact in_str<|zz I q rfl
theorem Si:jQ X (compareOp .Is) (λ x y H Q=>y=.non/\Q (.bl<|decide<|x=.non) H):=by
 intro χ s σ H x y v u Q I rx ry h;obtain⟨rfl,q⟩:=h;cases ry;refine is_none_gen<|zz I q ?_;cases x<;>first
  |(cases rx;rfl)
  |(obtain⟨t,rfl⟩:=rx;rfl)
theorem Nj:jQ X (compareOp .IsNot) (λ x y H Q=>y=.non/\Q (.bl<|!decide (x=.non)) H):=by
 intro χ s σ H x y v u Q I rx ry h;obtain⟨rfl,q⟩:=h;cases ry;refine isnot_none_gen<|zz I q ?_;cases x<;>first
  |(cases rx;rfl)
  |(obtain⟨t,rfl⟩:=rx;rfl)
theorem jQ.or(h:jQ X f r)(h':jQ X f r'):jQ X f (λ x y H Q=>r x y H Q\/r' x y H Q):=by
 intro χ s σ H x y v u Q I rx ry q;rcases q with q|q
 .exact h χ s σ H x y v u Q I rx ry q
 .exact h' χ s σ H x y v u Q I rx ry q
theorem uR(b:ι)(h:op≠.In:=by decide)(h2:op≠.NotIn:=by decide):behindInMarks op b=AT:=by
 have e1:(op==CmpOp.In)=AT:=by cases op<;>first|rfl|exact absurd rfl h
 have e2:(op==CmpOp.NotIn)=AT:=by cases op<;>first|rfl|exact absurd rfl h2
 cases b<;>simp[behindInMarks,e1,e2]
theorem E7(ho:jQ X (compareOp op) r)(ha:PE X a ta)(hb:PE X b tb)(hm:behindInMarks op b=AT):PE X (.Compare a [op] [b] pos) (P7 r ta tb):=by intro χ s σ H Q I h;exact wpAny_Compare1 (Uy ha hb I h λ v u s2 x y H2 I2 rx ry q=>ho χ s2 σ H2 x y v u Q I2 rx ry q) hm
def IP(t:TE):TT:=λ σ H Q=>t σ H λ x H'=>∃k,x=.bl k/\Q k H'
theorem yT(ho:jQ X (compareOp op) r)(ha:PE X a ta)(hb:PE X b tb)(hm:behindInMarks op b=AT):PT X (.Compare a [op] [b] pos) (IP<|P7 r ta tb):=by
 intro χ s σ H Q I h;refine wpAny_isTrue_Compare1 (cS (ha χ s σ H _ I h) λ v s1 ⟨x,H1,I1,r1,q1⟩=>cS (hb χ s1 σ H1 _ I1 q1) λ u s2 ⟨y,H2,I2,r2,q2⟩=>cS (ho χ s2 σ H2 x y v u _ I2 r1 r2 q2) λ c s3 ⟨z,H3,I3,r3,k,e,q3⟩=>?_) hm
 subst e;cases r3;exact A55 ⟨H3,I3,q3⟩
def CN(r r':R2)(ta tb tc:TE):TE:=λ σ H Q=>ta σ H λ x H1=>tb σ H1 λ y H2=>r x y H2 λ z H3=>∃k,z=.bl k /\
 (if k=Da then tc σ H3 λ w' H4=>r' y w' H4 Q else Q (.bl AT) H3)
theorem JA(ho:jQ X (compareOp op) r)(nP:jQ X (compareOp GB) r')(ha:PE X a ta)(hb:PE X b tb)(hc:PE X c tc)
 (hm:lastMarks [op,GB] [b,c]=AT:=by with_unfolding_all rfl):PE X (.Compare a [op,GB] [b,c] pos) (CN r r' ta tb tc):=by
 intro χ s σ H Q I h;refine Compare_chain (cS (ha χ s σ H _ I h) λ v s1 ⟨x,H1,I1,r1,q1⟩=>chain_link<|cS (hb χ s1 σ H1 _ I1 q1) λ u s2 ⟨y,H2,I2,r2,q2⟩=>cS (ho χ s2 σ H2 x y v u _ I2 r1 r2 q2) λ d s3 ⟨z,H3,I3,r3,k,e,q3⟩=>?_) hm
 subst e;cases r3;refine A55 ?_;cases k with
 |false=>exact ite_ff ⟨.bl AT,H3,I3,rfl,q3⟩
 |true=>exact ite_tt<|chain_last<|cS (hc χ s3 σ H3 _ I3 q3) λ w' s4 ⟨z',H4,I4,r4,q4⟩=>nP χ s4 σ H4 y z' u w' Q I4 r2 r4 q4
theorem Jr(ho:jQ X (compareOp op) r)(nP:jQ X (compareOp GB) r')(ha:PE X a ta)(hb:PE X b tb)(hc:PE X c tc)
 (hm:lastMarks [op,GB] [b,c]=AT:=by with_unfolding_all rfl):PT X (.Compare a [op,GB] [b,c] pos) (IP<|CN r r' ta tb tc):=by
 intro χ s σ H Q I h;refine isTrue_chain (cS (ha χ s σ H _ I h) λ v s1 ⟨x,H1,I1,r1,q1⟩=>test_link<|cS (hb χ s1 σ H1 _ I1 q1) λ u s2 ⟨y,H2,I2,r2,q2⟩=>cS (ho χ s2 σ H2 x y v u _ I2 r1 r2 q2) λ d s3 ⟨z,H3,I3,r3,k,e,q3⟩=>?_) hm
 subst e;cases r3;refine A55 ?_;cases k with
 |false=>obtain⟨k',e',q'⟩:=q3;cases e';exact ite_ff ⟨H3,I3,q'⟩
 |true=>refine ite_tt<|test_last<|cS (hc χ s3 σ H3 _ I3 q3) λ w' s4 ⟨z',H4,I4,r4,q4⟩=>cS (nP χ s4 σ H4 y z' u w' _ I4 r2 r4 q4) λ d' s5 ⟨z2,H5,I5,r5,k2,e2,q5⟩=>?_;subst e2;cases r5;exact A55 ⟨H5,I5,q5⟩
theorem zk:(sizeLine)<2^63:=by rw[A27];decide
theorem C?:jQ X (binaryOp .Add) (λ x y H Q=>∃i j,x=.str i/\y=.str j/\i.length+j.length<=sizeLine/\Q (.str<|i++j) H):=by intro χ s σ H x y v u Q I rx ry h;obtain⟨i,j,rfl,rfl,hz,q⟩:=h;obtain⟨t,rfl⟩:=rx;obtain⟨t',rfl⟩:=ry;exact add_str (λ t' tk=>⟨.str _,H,I.tok _,⟨_,rfl⟩,q⟩) hz
theorem vals1(r:Vals [x] us):∃u,us=[u]/\RelV x u:=by
 cases r with
 |cons r1 r2=>cases r2;exact⟨_,rfl,r1⟩
theorem vals2(r:Vals [x,y] us):∃u w',us=[u,w']/\RelV x u/\RelV y w':=by
 cases r with
 |cons r1 r2=>
  cases r2 with
  |cons r3 r4=>cases r4;exact⟨_,_,rfl,r1,r3⟩
theorem HA(hc:X.calm=Da):i' X (.builtin "max") (λ xs H Q=>∃i j,xs=[.int i,.int j]/\Q (.int<|if j>i then j else i) H):=by
 intro χ s σ H xs us Q I r h;obtain⟨i,j,rfl,q⟩:=h;obtain⟨u,w',rfl,⟨t,rfl⟩,⟨t',rfl⟩⟩:=vals2 r;refine max_two_ints (I.ok.hd hc) λ h' tk k=>⟨_,H,I.kept k,?_,q⟩
 by_cases hj:j>i
 .rw[f8 hj,f8 hj];exact⟨_,rfl⟩
 .rw[v6 hj,v6 hj];exact⟨_,rfl⟩
theorem HC:i' X (.type "int") (λ xs H Q=>(∃i,xs=[.int i]/\Q (.int i) H)\/∃k,xs=[.bl k]/\Q (.int<|if k then 1 else 0) H):=by
 intro χ s σ H xs us Q I r h;rcases h with⟨i,rfl,q⟩|⟨k,rfl,q⟩
 .obtain⟨u,rfl,t,rfl⟩:=vals1 r;exact call_int_int ⟨.int i,H,I,⟨_,rfl⟩,q⟩
 .obtain⟨u,rfl,r1⟩:=vals1 r;cases r1;exact call_int_bool ⟨.int _,H,I.tok _,⟨_,rfl⟩,q⟩
def adB(K:Do)(x:V)(H:Hp)(n:Nat):Prop:=
 match x with
 |.str y=>y.length<=sizeLine/\n=y.length
 |.Vo y=>y.size<=sizeLine/\n=y.size
 |.ref p=>(∃xs,ku K H p xs/\n=xs.length)\/∃xs,mI K H p xs/\n=xs.length
 |_=>False
theorem LI:i' X (.builtin "len") (λ xs H Q=>∃x n,xs=[x]/\adB X.K x H n/\Q (.int n) H):=by
 intro χ s σ H xs us Q I r h;obtain⟨x,n,rfl,e,q⟩:=h;obtain⟨u,rfl,rx⟩:=vals1 r;have hl:=zk;have hs:=A27;cases x with
 |str y=>obtain⟨t,rfl⟩:=rx;obtain⟨hy,e'⟩:y.length<=sizeLine/\n=y.length:=e;subst e';exact len_str (by lia) ⟨.int _,H,I.tok _,⟨_,rfl⟩,q⟩
 |Vo y=>obtain⟨t,rfl⟩:=rx;obtain⟨hy,e'⟩:y.size<=sizeLine/\n=y.size:=e;subst e';exact PySem.W.len_bytes (by lia) ⟨.int _,H,I.tok _,⟨_,rfl⟩,q⟩
 |ref p=>
  cases rx;have e':=e;rcases e' with⟨xs,hx,e'⟩|⟨xs,hx,e'⟩
  .subst e';obtain⟨bx,r',pl,hz⟩:=I.list hx;have ψ:=r'.length;exact Calls.call_len_list pl.isList (by simp only[A05];lia) ⟨.int _,H,I.tok _,⟨_,by simp only[A05];rw[ψ]⟩,q⟩
  .subst e';obtain⟨bx,r',pl,hz⟩:=I.tuple hx;have ψ:=r'.length;exact len_tuple pl (by simp only[A05];lia) ⟨.int _,H,I.tok _,⟨_,by simp only[A05];rw[ψ]⟩,q⟩
 |_=>exact(e).elim
structure Ex(h:Heap)(x dx C:Addr)(mA:Str->Option Value):Prop where
 obj:h.get? x=AC (Tk C dx)
 ns:h.Ns1 dx mA
 ne:dx≠x
theorem G4{h:μ}(n:h.Ns1 dx mA):∃od,h.get? dx=AC od/\∀name,XV name od=AC (mA name):=by
 obtain⟨o,es,ep,ho,hd,hk,_,hm⟩:=n;refine⟨o,ho,λ name=>?_⟩;have e:=hm name;unfold nsFind findBy at e;rw[<-Array.find?_toList]at e;unfold XV;rw[hd];dsimp only;split
 .rename_i y q;rw[q]at e;exact A11 AC e
 .rename_i q;rw[q]at e;have a:es.toList.any (·.refKey)=AT:=by rw[List.any_eq_false];intro y hy;obtain⟨z,t,ab7⟩:=hk y (Array.mem_toList_iff.mp hy);simp[DictEntry.refKey,ab7]
  have a':¬es.toList.any (·.refKey)=Da:=by rw[a];exact B15
  rw[v6 a'];exact A11 AC e
theorem Ex.look(I:Ex h x dx C mA):∃od,PySem.W.InstAt h x (Tk C dx) C (AC od)/\∀name,XV name od=AC (mA name):=
 let ⟨od,ho,hl⟩:=G4 I.ns
 ⟨od,⟨I.obj,rfl,rfl,ho⟩,hl⟩
section
variable{K:Do}
theorem get_map(X:K.In s.heap)(I:Ex s.heap x dx C mA)(hg:UF K C name=Da)(hh:ac K C=Da)
 (ha:GE K (.ref C) name=AC Ch) (hv:mA name=AC v) (Mc:AB8 v=Da) (h:Q v {s with toks:=s.toks+1}) :
 FM (model prog w) A (getAttr (.ref x) name expr) Q E s:=by
 obtain⟨od,J,hl⟩:=I.look;exact PySem.W.get_value X J (B69 hg).1 (PySem.W.findObj_own hh ha rfl (by rw[hl,hv])) Mc h
theorem KW(X:K.In s.heap)(I:Ex s.heap x dx C mA)(hg:UF K C name=Da)
 (hf:GE K (.ref C) name=AC (AC<|.ref f)) (ht:AA7 K (.ref f)=Da) (hv:mA name=Ch) (h:Q (.ref f,[.ref x]) s) :
 FM (model prog w) A (getMethod (.ref x) name pl) Q E s:=by
 obtain⟨od,J,hl⟩:=I.look;exact PySem.W.method_fn X J (B69 hg).1 (B69 hg).2 hf (A32.mp ht) (by show(XV name od).map _=AC AT;rw[hl,hv];rfl) h
theorem MZ(X:K.In s.heap)(I:Ex s.heap x dx C mA)
 (hs:GE K (.ref C) "__setattr__"=AC (AC<|.builtin "object.__setattr__")) (hp:AA8 K C=Da) (ht:im K C name=AC Ch) (hh:ac K C=Da)
 (hw:AB0 mA ns) (Fw:ns.length<=sizeLine)
 (h:∀h',Ex h' x dx C (λ y=>if y=name then AC v else mA y)->Ix dx s.heap h'->Q () {s with heap:=h',toks:=s.toks+2}) :
 FM (model prog w) A (setAttr (.ref x) name v) Q E s:=by
 obtain⟨od,J,hl⟩:=I.look;refine PySem.W.set_plain X J hs<|PySem.W.osa_open X J hp ht λ b=>?_;obtain⟨cd,hc,s?⟩:=PySem.W.any_some hh;have hx:=I.obj;refine T0<|W1<|T0<|T0<|B70 hx<|T0<|PySem.W.Looks.here (PySem.W.looks_clsIn X hc) ?_;rw[s?];refine W1<|T0<|W1<|T0 ?_;refine wpAny_nsSet1 I.ns λ h' Vd zt=>?_;obtain⟨oD,esD,epD,hoD,hdD,hcD⟩:=Vd.count (PySem.Within.cons name v hw);refine T0<|wpAny_lookBehind hoD (by rw[hdD];exact pastItsLine_dict<|A23 hcD (by rw[A24];lia)) ?_;exact W1<|h _ ⟨(zt.2 _<|A08 I.ne).trans I.obj,Vd,I.ne⟩ zt
theorem J9(X:K.In s.heap)(hm:ii K C=Da)
 (hi:GE K (.ref C) "__init__"=AC (AC<|.ref f)) (hf:PySem.W.typeIn K (.ref f)=AC (.type "function"))
 (h:codeAny (model prog w) (A.under<|.builtin "type.__call__" ⟨.ref C::vs,kw⟩) (.call (.ref f) ⟨.ref (s.heap.objs.size+1)::vs,kw⟩) (PySem.W.InitBack (s.heap.objs.size+1) R)
  {s with heap:=(s.heap.push Rs).push<|PySem.W.instObj C s.heap.objs.size}) :
 codeAny (model prog w) A (.call (.ref C) ⟨vs,kw⟩) R s:=by
 obtain⟨hh,g,d,t,os⟩:=s;exact PySem.W.make_core (PySem.W.makes_of X hm) (PySem.W.looks_findIn X hi) (λ self=>PySem.W.bind_fn X self hf) (.inl rfl) h
end
def kY(f:Str)(v:V):γ (Str×V)->γ (Str×V)
|[]=>[(f,v)]
|(g,x)::r=>if g=f then(g,v)::r else(g,x)::kY f v r
theorem rZ(f g:Str)(v:V):∀ fs,(kY f v fs).lookup g=if g=f then AC v else fs.lookup g
|[]=>by
 show IR g [(f,v)]=_;by_cases h:g=f
 .have hb:=A32.mpr h;simp only[IR,hb,f8 h]
 .have hb:=A71.mpr h;simp only[IR,hb,v6 h]
|(k,x)::r=>by
 have ih:=rZ f g v r;rw[show kY f v _=(if k=f then(k,v)::r else(k,x)::kY f v r)from rfl];by_cases hk:k=f
 .rw[f8 hk];by_cases h:g=k
  .have hb:=A32.mpr h;simp only[IR,hb,f8<|h.trans hk]
  .have hb:=A71.mpr h;simp only[IR,hb,v6 λ e:g=f=>h<|e.trans hk.symm]
 .rw[v6 hk];by_cases h:g=k
  .have hb:=A32.mpr h;simp only[IR,hb,v6 λ e=>hk<|h.symm.trans e]
  .have hb:=A71.mpr h;simp only[IR,hb];exact ih
theorem qY(f:Str)(v:V):∀ fs,f∈(kY f v fs).map (·.1)/\∀ g,g∈fs.map (·.1)->g∈(kY f v fs).map (·.1)
|[]=>⟨by simp[kY],λ g h=>by simp at h⟩
|(k,x)::r=>by
 obtain⟨i1,i2⟩:=qY f v r;rw[show kY f v _=(if k=f then(k,v)::r else(k,x)::kY f v r)from rfl];by_cases hk:k=f
 .rw[f8 hk];subst hk;exact⟨by simp,λ g h=>by simpa using h⟩
 .rw[v6 hk];refine⟨?_,λ g h=>?_⟩
  .rw[A06];exact A07 _ i1
  .rw[A06]at h ⊢;rcases o0.mp h with e|e
   .exact o0.mpr<|.inl e
   .exact A07 _<|i2 g e
theorem r8(f:Str)(v:V):∀fs,(kY f v fs).length<=fs.length+1
|[]=>by simp[kY]
|(k,x)::r=>by
 have ih:=r8 f v r;rw[show kY f v _=(if k=f then(k,v)::r else(k,x)::kY f v r)from rfl];by_cases hk:k=f
 .rw[f8 hk,A24,A24];lia
 .rw[v6 hk,A24,A24];lia
theorem mJ.some_of(r:mJ (AC v) o):∃u,o=AC u/\RelV v u:=by
 cases o with
 |none=>exact(r).elim
 |some u=>exact⟨u,rfl,r⟩
theorem mJ.none_of(r:mJ Ch o):o=Ch:=by
 cases o with
 |none=>rfl
 |some u=>exact(r).elim
theorem Hh(r:RelV v u):AB8 u=Da:=by
 cases v with
 |non=>cases (r);rfl
 |bl b=>cases (r);rfl
 |int i=>obtain⟨t,e⟩:=(r);cases e;rfl
 |str x=>obtain⟨t,e⟩:=(r);cases e;rfl
 |Vo b=>obtain⟨t,e⟩:=(r);cases e;rfl
 |Vh b=>obtain⟨t,e⟩:=(r);cases e;rfl
 |ref a=>cases (r);rfl
 |ty n=>cases (r);rfl
theorem zp(bQ:lY P w H h)(e:H a=AC (.ins C dx fs)):∃mA,Ex h a dx C mA/\(∀f,mJ (fs.lookup f) (mA f))/\AB0 mA (fs.map (·.1))/\fs.length<=1000/\H dx=AC (.own a):=by
 obtain⟨d,z,ne,ob,mA,n,r,q⟩:=(bQ a _ e)
 exact⟨mA,⟨ob,n,ne⟩,r,q,z,d⟩
structure Ia(K:Do)(C:Addr):Prop where
 pg:UF K C Str.empty=Da
 hd:ac K C=Da
 po:AA8 K C=Da
 sa:GE K (.ref C) "__setattr__"=AC (AC<|.builtin "object.__setattr__")
theorem Ia.get{K:Do}(c:Ia K C)(f:Str):UF K C f=Da:=c.pg
def rJ(K:Do)(C:δ)(f:Str):Prop:=GE K (.ref C) f=AC Ch
theorem rJ.VL{K:Do}(n:rJ K C f):im K C f=AC Ch:=by unfold im;rw[n];rfl
structure Con(K:Do)(C:Addr)(f:Str)(v:V)(u:Value):Prop where
 at_:GE K (.ref C) f=AC (AC u)
 rel:RelV v u
 get:AA9 K u "__get__"=AC Ch
 cp:PySem.W.copiedNames.contains f=AT
structure Meth(K:Do)(C:Addr)(m:Str)(f:Addr):Prop where
 at_:GE K (.ref C) m=AC (AC<|.ref f)
 fn:AA7 K (.ref f)=Da
 kp:Fk K (.ref f)=Da
theorem DZ(I:Inv X χ σ H s)(e:H a=AC (.ins C dx fs))(c:Ia X.K C)(n:rJ X.K C f)(l:fs.lookup f=AC v)
 (h:∀u s',Inv X χ σ H s'->RelV v u->Q u s'):FM (model X.prog X.w) A (getAttr (.ref a) f b) Q E s:=by
 obtain⟨mA,O,r,_,_,_⟩:=zp I.bQ e;obtain⟨u,hu,ru⟩:=mJ.some_of (v:=v) (o:=mA f) (by rw[<-l];exact r f);exact get_map I.nM O (c.get f) c.hd n hu (Hh ru)<|h u _ (I.tok _) ru
theorem lr(I:Inv X χ σ H s)(e:H a=AC (.ins C dx fs))(c:Ia X.K C)(k:Meth X.K C m g)(l:fs.lookup m=Ch)
 (h:Q (.ref g,[.ref a]) s):FM (model X.prog X.w) A (getMethod (.ref a) m pl) Q E s:=by
 obtain⟨mA,O,r,_,_,_⟩:=zp I.bQ e;have hn:=mJ.none_of (by rw[<-l];exact r m);exact KW I.nM O (c.get m) k.at_ k.fn hn h
theorem CV(I:Inv X χ σ H s)(e:H a=AC (.ins C dx fs))(c:Ia X.K C)(n:rJ X.K C f)(hl:fs.length<1000)(ry:RelV y u)
 (h:∀s',Inv X χ σ (upd H a<|.ins C dx<|kY f y fs) s'->Q () s'):FM (model X.prog X.w) A (setAttr (.ref a) f u) Q E s:=by
 obtain⟨mA,O,r,wi,_,ho⟩:=zp I.bQ e;have hz:(fs.map (·.1)).length<=sizeLine:=by rw[A09,A27];lia
 refine MZ I.nM O c.sa c.po n.VL c.hd wi hz λ h' O' sb=>h _ ?_;have hd:∃o,h'.get? dx=AC o:=let ⟨o,_,_,e',_⟩:=O'.ns;⟨o,e'⟩;refine I.write (by rw[e];exact True.intro) (.inr ho) (λ b q hb z=>(sb.2 b hb).trans z) hd ?_;refine⟨by rw[aD O.ne];exact ho,?_,O.ne,O'.obj,_,O'.ns,λ g=>?_,λ g hg=>?_⟩
 .have:=r8 f y fs;lia
 .skip
  rw[rZ];by_cases q:g=f
  .rw[f8 q,f8 q];exact ry
  .rw[v6 q,v6 q];exact r g
 .by_cases q:g=f
  .rw[q];exact(qY f y fs).1
  .refine(qY f y fs).2 g<|wi g λ z=>hg ?_;show(if g=f then AC u else mA g)=Ch;rw[v6 q];exact z
theorem Inv.made(I:Inv X χ σ H s):Inv X χ σ (upd (upd H s.heap.objs.size<|.own<|s.heap.objs.size+1) (s.heap.objs.size+1)<|.ins C s.heap.objs.size [])
 {s with heap:=(s.heap.push Rs).push<|PySem.W.instObj C s.heap.objs.size}:=by
 have e1:(s.heap.push _).get? _=AC Rs:=A13 _ rfl;have e2:((s.heap.push Rs).push<|PySem.W.instObj C s.heap.objs.size).get? (s.heap.objs.size+1)=AC (Tk C s.heap.objs.size):=by have:=A13 (s.heap.push Rs) (o:=Tk C s.heap.objs.size) rfl;rwa [A51]at this
 have e3:(s.heap.push _).Ns _ (λ _=>Ch):=⟨_,#[],_,e1,rfl,(λ e he=>absurd he (by simp)),λ _=>rfl⟩
 have I1:=I.laid (o:=.own (s.heap.objs.size+1)) (t':=s.toks) (λ b u q=>A00 _ q) (M2 _) ⟨_,e1⟩;refine I1.laid (λ b u q=>A00 _ q) (B71<|A51 _ _) ?_;have ne:s.heap.objs.size≠s.heap.objs.size+1:=A17<|A61 _;refine⟨by rw[aD ne,aV],A41 _,ne,e2,λ _=>Ch,(Heap.Ns1.of_empty e3).at λ o q=>A00 _ q,λ _=>True.intro,λ y hy=>absurd rfl hy⟩
theorem Pp(hb:attributeBase e f env (eval e env)=eval e env)
 (h:FM (model prog w) A (eval e env) (λ o s₁=>FM (model prog w) A (getAttr o f Da) Q E s₁) E s):FM (model prog w) A (eval (.Attribute e f pos) env) Q E s:=
 Attribute_any_ h (by rw[arm_eval_Attribute,hb])
def aac(K:Do)(ta:TE)(f:Str):TE:=λ σ H Q=>ta σ H λ x H1=>∃a C dx fs v,x=.ref a/\H1 a=AC (.ins C dx fs)/\Ia K C/\rJ K C f/\fs.lookup f=AC v/\Q v H1
def aaw(K:Do)(ta tv:TE)(f:Str):TS:=λ D σ H=>tv σ H λ y H1=>ta σ H1 λ x H2=>∃a C dx fs,x=.ref a/\H2 a=AC (.ins C dx fs)/\Ia K C/\rJ K C f/\fs.length<1000 /\
 D.nx σ (upd H2 a<|.ins C dx<|kY f y fs)
theorem R9(he:PE X e ta)(hb:attributeBase e f X.env (eval e X.env)=eval e X.env):PE X (.Attribute e f pos) (aac X.K ta f):=by intro χ s σ H Q I h;refine Pp hb<|cS (he χ s σ H _ I h) λ u s1 ⟨x,H1,I1,rx,a,C,dx,fs,v,ex,ea,c,n,l,q⟩=>?_;subst ex;obtain rfl:u=Value.ref a:=rx;exact DZ I1 ea c n l λ u' s2 I2 ru=>⟨v,H1,I2,ru,q⟩
theorem R0(ha:PE X o ta)(hv:PE X value tv)(hs:swapsWith value (AC<|.Attribute o f pos') pos.line X.env=pure AT):PS X (.Assign [.Attribute o f pos'] value pos) (aaw X.K ta tv f):=by intro χ s σ H D I h;refine plainObj_wpAny_Assign_Attribute (cS (hv χ s σ H _ I h) λ u s1 ⟨y,H1,I1,ry,q⟩=>cS (ha χ s1 σ H1 _ I1 q) λ ov s2 ⟨x,H2,I2,rx,a,C,dx,fs,ex,ea,c,n,l,q2⟩=>?_) hs;subst ex;obtain rfl:ov=Value.ref a:=rx;exact CV I2 ea c n l ry λ s3 I3=>⟨σ,_,I3,q2⟩
inductive vY(K:Do)(H:Hp):V->Value->Prop where
| non:vY K H .non (.type "NoneType")
| bl (x:Bool):vY K H (.bl x) (.type "bool")
| int (i:Int):vY K H (.int i) (.type "int")
| str (x:Str):vY K H (.str x) (.type "str")
| Vh (x:UInt64):vY K H (.Vh x) (.type "float")
| lst {a:Addr}{xs:List V}(e:H a=AC (.lst xs)):vY K H (.ref a) (.type "list")
| dZ {a:Addr}{o:Obj}{xs:List V}(e:H a=AC (.dZ o<|.lst xs)):vY K H (.ref a) (.type "list")
| tup {a:Addr}{xs:List V}(e:H a=AC (.tup xs)):vY K H (.ref a) (.type "tuple")
| dK {a:Addr}{aS:List (Key×V)}(e:H a=AC (.dK aS)):vY K H (.ref a) (.type "dict")
| dT {a:Addr}{aS:List (List Key×V)}(e:H a=AC (.dT aS)):vY K H (.ref a) (.type "dict")
| ins {a C dx:Addr}{fs:List (Str×V)}(e:H a=AC (.ins C dx fs)) (cl:Ia K C) (ha:GE K (.ref C) "__class__"=AC (AC<|.builtin "object.__class__"))
 (hn:AA9 K (.builtin "object.__class__") "__get__"=AC (AC<|.builtin "getset_descriptor.__get__")) (htk:PySem.W.takesIn K (.builtin "object.__class__")=AC Da)
 (hm:bv K C (.type "object")=AC Da):vY K H (.ref a) (.ref C)
structure bB(k:Nat)(A:Around):Prop where
 hd:A.handled=Ch
 dp:A.depth+3*k+5<recursionLimit
 un:A.units+16*k+200<cLine
theorem bB.mono(r:bB k A)(h:j<=k):bB j A:=⟨r.hd,by have:=r.dp;lia,by have:=r.un;lia⟩
theorem bB.deeper(r:bB (k+1) A)(env:Env):bB k (A.deeper env):=
 ⟨r.hd,by have:=r.dp;show A.depth+1+3*k+5<_;lia,by have:=r.un;show A.units+3+16*k+200<_;lia⟩
theorem bB.in1(r:bB (k+1) A):bB k A.in1:=
 ⟨r.hd,by have:=r.dp;lia,by have:=r.un;lia⟩
theorem Dr{A:ς}{C:δ}{us:γ ζ}{kw:γ (Str×ζ)}:(A.under<|.builtin "type.__call__" ⟨.ref C::us,kw⟩).depth=A.depth+1:=by first| rfl| simp[Around.under,Code.weight,Code.isCreation,Code.isGuard,Code.isCaller,Code.frames,Code.isFrame,guardIds]
theorem Dq{A:ς}:(A.under<|.builtin "type.__call__" ⟨.ref C::us,kw⟩).units=A.units+1:=by first| rfl| simp[Around.under,Code.cUnits,Code.frames,Code.isFrame]
theorem bB.make(r:bB (k+1) A)(C:δ)(us:γ ζ)(kw:γ _):bB k (A.under<|.builtin "type.__call__" ⟨.ref C::us,kw⟩):=
 ⟨r.hd,by have:=r.dp;rw[Dr];lia,by have:=r.un;rw[Dq];lia⟩
theorem bB.depth(r:bB k A):A.depth<recursionLimit:=by have:=r.dp;lia
theorem bB.units(r:bB k A):A.units+64<cLine:=by have:=r.un;lia
def IQ:TA:=λ _ H Q=>Q [] H
def AM(ta:TE)(tr:TA):TA:=λ σ H Q=>ta σ H λ x H1=>tr σ H1 λ xs H2=>Q (x::xs) H2
theorem b9:PA X [] IQ:=λ _ _ _ _ H Q I h=>Calls.spliced_nil ⟨[],H,I,.nil,h⟩
theorem a7(ha:PE X e te)(hr:PA X es t)(hs:Se e es X.env:=by rfl):PA X (e::es) (AM te t):=by intro pos χ s σ H Q I h;rw[hs];refine Calls.spliced_cons<|cS (ha χ s σ H _ I h) λ u s1 ⟨x,H1,I1,r1,q1⟩=>?_;exact cS (hr pos χ s1 σ H1 _ I1 q1) λ us s2 ⟨xs,H2,I2,r2,q2⟩=>⟨x::xs,H2,I2,.cons r1 r2,q2⟩
def _6(t:TA):TE:=λ σ H Q=>t σ H λ xs H1=>xs.length<=sizeLine/\∀p,H1 p=Ch->Q (.ref p) (upd H1 p<|.tup xs)
def _!(t:TA):TE:=λ σ H Q=>t σ H λ xs H1=>xs.length<=sizeLine/\∀p,H1 p=Ch->Q (.ref p) (upd H1 p<|.lst xs)
theorem R5(h:PA X es t):PE X (.Tuple es x1 pos) (_6 t):=by intro χ s σ H Q I hq;refine wpAny_Tuple_spliced<|cS (h pos χ s σ H _ I hq) λ us s1 ⟨xs,H1,I1,r,z,q⟩=>⟨by rw[<-r.length];exact z,?_⟩;have hf:=I1.bQ.fresh<|M2 _;refine⟨.ref _,_,I1.laid (λ b u e=>A00 _ e) (M2 _) ?_,rfl,q _ hf⟩;exact⟨z,us,r,qj.new _ _⟩
theorem R7(h:PA X es t):PE X (.List es pos) (_! t):=by intro χ s σ H Q I hq;refine wpAny_List_spliced<|cS (h pos χ s σ H _ I hq) λ us s1 ⟨xs,H1,I1,r,z,q⟩=>⟨by rw[<-r.length];exact z,?_⟩;have hf:=I1.bQ.fresh<|M2 _;refine⟨.ref _,_,I1.laid (λ b u e=>A00 _ e) (M2 _) ?_,rfl,q _ hf⟩;exact⟨z,us,0,r,A13 _ rfl⟩
abbrev Sp:=γ V->Hp->VK->XK->Prop
abbrev UR:=γ Env->Hp->η->XK->ζ->η->Prop
structure tH(P:Program)(w:World)(K:Do)(mg:Str->Option Value)(base:Heap)(A:Around)(outer:List Env)(s:Shared)(H:Hp):Prop where
 frames:A.frames=AC outer
 mod:Mod K mg base
 bs:∀b o,base.get? b=AC o->s.heap.get? b=AC o/\H b=Ch
 Ek:base.objs.size<=s.heap.objs.size
 lx:s.heap.FunFrames base outer
 H!:∀b∈tX outer,H b=Ch
 bQ:lY P w H s.heap
 bare:AllBare s.gens
 tab:yl K mg base H
def CE(outer:γ Env)(P:ο)(w:ξ)(H:Hp)(s:η)(Q:VK)(u:ζ)(s':η):Prop:=
 ∃v H',s'.os=s.os/\AllBare s'.gens/\Un (tX outer) [] H H' s.heap s'.heap/\lY P w H' s'.heap/\RelV v u/\Q v H'
def CR(CX:UR)(outer:γ Env)(P:ο)(w:ξ)(H:Hp)(s:η)(Q:VK)(E:XK)(r:Result)(s':η):Prop:=
 match r with
 |.ok<|.ret u=>CE outer P w H s Q u s'
 |.ok _=>False
 |.error e=>CX outer H s E e s'
structure e6(P:Program)(w:World)(K:Do)(mg:Str->Option Value)(base:Heap)(CX:UR)(k:Nat)(f:Addr)(fd:FuncData)(ps:List Str)(sp:Sp):Prop where
 len:∀vs H Q E,sp vs H Q E->vs.length=ps.length
 run:∀(A:Around)(outer:List Env)(s:Shared)(H:Hp)(args:Args)(us:List Value)(vs:List V)(Q:VK)(E:XK),bB k A->tH P w K mg base A outer s H->BindsTo s fd args (ps.zip us)->Vals vs us->sp vs H Q E ->
  codeAny (model P w) A (.call (.ref f) args) (CR CX outer P w H s Q E) s
theorem tH.make{K:Do}(e:tH P w K mg base A outer s H)(C:δ)(us:γ ζ)(kw:γ _):
 tH P w K mg base (A.under<|.builtin "type.__call__" ⟨.ref C::us,kw⟩) outer s H:=⟨by first| exact e.frames| (simpa[Around.under,Code.envs,Code.isFrame,pushEnvs]using e.frames),e.mod,e.bs,e.Ek,e.lx,e.H!,e.bQ,e.bare,e.tab⟩
theorem Inv.K!(I:Inv X χ σ H s):tH X.prog X.w X.K X.mg X.base X.A X.stack s H:=
 ⟨I.ok.frames,I.ok.mod,I.bs,A23 I.ok.Ek I.sz,I.stack,I.tN,I.bQ,I.bare,I.tab⟩
theorem Inv.after(I:Inv X χ σ H s)(h:CE X.stack X.prog X.w H s Q u s'):EP X χ σ Q u s':=by obtain⟨v,H',os,bare,un,bQ,r,q⟩:=h;obtain⟨hh,g,d,t,os'⟩:=s';obtain rfl:os'=s.os:=os;exact⟨v,H',I.call un bQ bare λ b z=>absurd z (by simp),r,q⟩
def VY(sp:Sp)(Ak:γ V)(E:XK)(t:TA):TE:=λ σ H Q=>t σ H λ vs H1=>sp (vs++Ak) H1 Q E
def P8(C:δ)(m:Str)(sp:Sp)(Ak:γ V)(E:XK)(ta:TE)(t:TA):TE:=λ σ H Q=>ta σ H λ x H1=>∃a dx fs,x=.ref a/\H1 a=AC (.ins C dx fs)/\fs.lookup m=Ch /\
 t σ H1 λ vs H2=>sp (x::(vs++Ak)) H2 Q E
def VT(C:δ)(sp:Sp)(Ak:γ V)(E:XK)(t:TA):TE:=λ σ H Q=>t σ H λ vs H1=>∀x dx,H1 x=Ch->H1 dx=Ch->dx≠x ->
 sp (.ref x::(vs++Ak)) (upd (upd H1 dx<|.own x) x<|.ins C dx []) (λ v H2=>v=.non/\Q (.ref x) H2) E
def Binds(K:Do)(fd:υ)(ps:γ Str)(ds:γ ζ):Prop:=
 ∀(s:η)(us:γ ζ),K.In s.heap->(us++ds).length=ps.length->BindsTo s fd ⟨us,[]⟩ (ps.zip<|us++ds)
theorem Binds.all{K:Do}(h:∀us,us.length=ps.length->bindArgs fd ⟨us,[]⟩=pure (ps.zip us)):Binds K fd ps []:=λ s us _ hl=>by rw[A56]at hl ⊢;exact .of_eq<|h us hl
def Passes(CX:UR)(X:Cx)(E:XK):Prop:=∀(χ:γ (δ×ν))(σ:St)(H:Hp)(s:η)(e:ζ)(s':η),Inv X χ σ H s->CX X.stack H s E e s'->X.xe e s'
theorem C3(F:e6 X.prog X.w X.K X.mg X.base CX k f fd ps sp)(hr:bB k X.A)(hb:Binds X.K fd ps ds)(hd:Vals Ak ds)(hx:Passes CX X E)
 (I:Inv X χ σ H s) (r:Vals vs us) (h:sp (vs++Ak) H Q E):FM (model X.prog X.w) X.A (call (.ref f) us) (EP X χ σ Q) X.xe s:=by
 have r2:=r.append hd;have hl:(us++ds).length=ps.length:=by rw[<-r2.length];exact F.len _ _ _ _ h
 refine A73<|A74 (F.run X.A _ s H ⟨us,[]⟩ _ _ Q E hr I.K! (hb s us I.nM hl) r2 h) λ r s' hq=>?_;cases r with
 |error e=>exact hx χ σ H s e s' I hq
 |ok fl=>
  cases fl with
  |ret u=>exact I.after hq
  |next=>exact GM hq
  |brk=>exact GM hq
  |cont=>exact GM hq
theorem yU(F:e6 X.prog X.w X.K X.mg X.base CX k f fd ps sp)(hr:bB k X.A)(hg:Gl X x)(hm:X.mg x=AC (.ref f))(hk:Fk X.K (.ref f)=Da)(hb:Binds X.K fd ps ds)(hd:Vals Ak ds)(hx:Passes CX X E)
 (ha:PA X (e::es) t) (ir:(x==("__debug__"))=AT:=by decide) (he:Se e es X.env:=by rfl) (dX:Pn pos es X.env:=by rfl) :
 PE X (.Call (.Name x p) (e::es) [] pos) (VY sp Ak E t):=by
 intro χ s σ H Q I h;refine A85<|mW I hg hm ?_ ir;refine A86 I.ok.mod.HU hk (cS (ha pos χ s σ H _ I h) λ us s1 ⟨vs,H1,I1,r,q⟩=>⟨I1.nM,?_⟩) he dX;exact C3 F hr hb hd hx I1 r q
theorem E6(he:PE X o ta)(c:Ia X.K C)(hm:Meth X.K C m f)(F:e6 X.prog X.w X.K X.mg X.base CX k f fd ps sp)(hr:bB k X.A)(hb:Binds X.K fd ps ds)(hd:Vals Ak ds)(hx:Passes CX X E)(ha:PA X (e::es) t)
 (vk:Se e es X.env:=by rfl) (dX:Pn pos es X.env:=by rfl)
 (ht:eval (.Call (.Attribute o m apos) (e::es) [] pos) X.env=(do
  let ov ←eval o X.env
  standAt apos.atName
  let (f,first) ←holding [ov] (getMethod ov m pl)
  callWith pos f first (backTo pos<|starEach (e::es) X.env) (backToKw pos<|keywordEach [] X.env)):=by rfl) :
 PE X (.Call (.Attribute o m apos) (e::es) [] pos) (P8 C m sp Ak E ta t):=by
 intro χ s σ H Q I h;refine B39 (cS (he χ s σ H _ I h) λ u s1 ⟨x,H1,I1,rx,a,dx,fs,ex,ea,l,q⟩=>?_) ht;subst ex;obtain rfl:u=Value.ref a:=rx;refine lr I1 ea c hm l ?_;refine A86 I.ok.mod.HU hm.kp (cS (ha pos χ s1 σ H1 _ I1 q) λ us s2 ⟨vs,H2,I2,r,q2⟩=>⟨I2.nM,?_⟩) vk dX;exact C3 (vs:=.ref a::vs) F hr hb hd hx I2 (.cons rfl r) q2
theorem Jy(he:PE X o ta)(c:Ia X.K C)(hm:Meth X.K C m f)(F:e6 X.prog X.w X.K X.mg X.base CX k f fd ps sp)(hr:bB k X.A)(hb:Binds X.K fd ps ds)(hd:Vals Ak ds)(hx:Passes CX X E)
 (ht:eval (.Call (.Attribute o m apos) [] [] pos) X.env=(do
  let ov ←eval o X.env
  standAt apos.atName
  let (f,first) ←holding [ov] (getMethod ov m pl)
  callWith pos f first (backTo pos<|starEach [] X.env) (backToKw pos<|keywordEach [] X.env)):=by rfl) :
 PE X (.Call (.Attribute o m apos) [] [] pos) (P8 C m sp Ak E ta IQ):=by
 intro χ s σ H Q I h;refine B39 (cS (he χ s σ H _ I h) λ u s1 ⟨x,H1,I1,rx,a,dx,fs,ex,ea,l,q⟩=>?_) ht;subst ex;obtain rfl:u=Value.ref a:=rx;refine lr I1 ea c hm l ?_;exact PySem.W.callWith_K0 I1.nM hm.kp<|C3 (vs:=[.ref a]) F hr hb hd hx I1 (.cons rfl .nil) q
structure Mk(K:Do)(C f:Addr):Prop where
 makes:ii K C=Da
 init:GE K (.ref C) "__init__"=AC (AC<|.ref f)
 fn:AA7 K (.ref f)=Da
 kp:Fk K (.ref C)=Da
theorem Jg(M:Mk X.K C f)(F:e6 X.prog X.w X.K X.mg X.base CX k f fd ps sp)(hr:bB (k+1) X.A)(hb:Binds X.K fd ps ds)(hd:Vals Ak ds)
 (hx:Passes CX X E) (I:Inv X χ σ H s) (r:Vals vs us)
 (h:∀x dx,H x=Ch->H dx=Ch->dx≠x->sp (.ref x::(vs++Ak)) (upd (upd H dx<|.own x) x<|.ins C dx []) (λ v H2=>v=.non/\Q (.ref x) H2) E) :
 FM (model X.prog X.w) X.A (call (.ref C) us) (EP X χ σ Q) X.xe s:=by
 have hq:=h _ _ (I.bQ.fresh<|A75 _) (I.bQ.fresh<|M2 _)<|A17<|A61 _;have I2:=Inv.made (C:=C) I;have r2:Vals (V.ref (s.heap.objs.size+1)::(vs++Ak)) _:=.cons rfl<|r.append hd;have hl:(Value.ref (s.heap.objs.size+1)::us++ds).length=ps.length:=by have e:=r2.length;rw[F.len _ _ _ _ hq]at e;exact e.symm
 refine A73 (J9 I.nM M.makes M.init (A32.mp M.fn) (A74 (F.run _ X.stack _ _ ⟨Value.ref (s.heap.objs.size+1)::us,[]⟩ (Value.ref (s.heap.objs.size+1)::(us++ds)) _ _ E (hr.make C us [])
  (I2.K!.make C us []) (hb _ (Value.ref (s.heap.objs.size+1)::us) I2.nM hl) r2 hq) λ r s' eQ=>?_))
 cases r with
 |error e=>exact hx χ σ _ _ e s' I2 eQ
 |ok fl=>
  cases fl with
  |ret u=>obtain⟨v,H',I3,rv,ev,q3⟩:=I2.after eQ;subst ev;exact⟨rv,⟨V.ref<|s.heap.objs.size+1,H',I3,rfl,q3⟩⟩
  |next=>exact GM eQ
  |brk=>exact GM eQ
  |cont=>exact GM eQ
theorem Nc(M:Mk X.K C f)(F:e6 X.prog X.w X.K X.mg X.base CX k f fd ps sp)(hr:bB (k+1) X.A)(hg:Gl X x)(hm:X.mg x=AC (.ref C))(hb:Binds X.K fd ps ds)(hd:Vals Ak ds)(hx:Passes CX X E)
 (ha:PA X (e::es) t) (ir:(x==("__debug__"))=AT:=by decide) (he:Se e es X.env:=by rfl) (dX:Pn pos es X.env:=by rfl) :
 PE X (.Call (.Name x p) (e::es) [] pos) (VT C sp Ak E t):=by
 intro χ s σ H Q I h;refine A85<|mW I hg hm ?_ ir;refine A86 I.ok.mod.HU M.kp (cS (ha pos χ s σ H _ I h) λ us s1 ⟨vs,H1,I1,r,q⟩=>⟨I1.nM,?_⟩) he dX;exact Jg M F hr hb hd hx I1 r q
structure adC(K:Do)(fd:FuncData)(ps ks:List Str)(g:List Value->List Value->List Value)(gV:List V->List V->List V):Prop where
 to:∀(s:Shared)(us ws:List Value),K.In s.heap->(g us ws).length=ps.length->BindsTo s fd ⟨us,ks.zip ws⟩ (ps.zip<|g us ws)
 rel:∀{vs:List V}{us:List Value}{zs:List V}{ws:List Value},Vals vs us->Vals zs ws->Vals (gV vs zs) (g us ws)
structure a_(N P:List Str)(sc:Scope):Prop where
 kind:sc.kind=.function
 co:sc.isCoroutine=AT
 gen:sc.isGenerator=AT
 nd:N.Nodup
 pre:N.take P.length=P
 par:∀x∈P,sc.names.lookup x=AC .local\/sc.names.lookup x=AC .cell
 SA:∀y∈sc.names,y.2≠.free
theorem yd{kindOf:Str->ε NameKind}:∀{binds}{m},(∀v,(x,v)∉binds)->bindL kindOf binds m x=m x
|[],_,_=>rfl
|(n,v)::r,m,h=>by
 unfold bindL;rw[yd λ w hw=>h w<|A07 _ hw];split
 .have:x≠n:=by rintro rfl;exact h v A22
  simp[this]
 .rfl
theorem yf{kindOf:Str->ε NameKind}:∀{binds}{m},(∀v,(x,v)∉binds)->bindC kindOf binds m x=m x
|[],_,_=>rfl
|(n,v)::r,m,h=>by
 unfold bindC;rw[yf λ w hw=>h w<|A07 _ hw];split
 .rfl
 .have:x≠n:=by rintro rfl;exact h v A22
  simp[this]
theorem ye{kindOf:Str->ε NameKind}{x:Str}{v:ζ}:∀{P:γ Str}{vs}{i:Nat}{m},P.Nodup->P[i]?=AC x->vs[i]?=AC v->kindOf x=AC .local ->
 bindL kindOf (P.zip vs) m x=AC v
|[],_,_,_,_,h,_,_=>by simp at h
|_::_,[],_,_,_,_,h,_=>by simp at h
|p::P,w::vs,0,m,nd,h1,h2,hk=>by simp at h1 h2;subst h1;subst h2;show bindL kindOf ((p,w)::P.zip vs) m p=_;unfold bindL;rw[yd λ v hv=>(A45.mp nd).1 (B40 hv).1,f8 hk];simp
|p::P,w::vs,i+1,m,nd,h1,h2,hk=>by show bindL kindOf ((p,w)::P.zip vs) m x=_;unfold bindL;exact ye (i:=i) (A45.mp nd).2 (by simpa using h1) (by simpa using h2) hk
theorem yg{kindOf:Str->ε NameKind}{x:Str}{v:ζ}:∀{P:γ Str}{vs:γ ζ}{i:Nat}{m:Str->ε ζ},P.Nodup->P[i]?=AC x->vs[i]?=AC v->kindOf x≠AC .local ->
 bindC kindOf (P.zip vs) m x=AC v
|[],_,_,_,_,h,_,_=>by simp at h
|_::_,[],_,_,_,_,h,_=>by simp at h
|p::P,w::vs,0,m,nd,h1,h2,hk=>by simp at h1 h2;subst h1;subst h2;show bindC kindOf ((p,w)::P.zip vs) m p=_;unfold bindC;rw[yf λ v hv=>(A45.mp nd).1 (B40 hv).1,v6 hk];simp
|p::P,w::vs,i+1,m,nd,h1,h2,hk=>by show bindC kindOf ((p,w)::P.zip vs) m x=_;unfold bindC;exact yg (i:=i) (A45.mp nd).2 (by simpa using h1) (by simpa using h2) hk
def start(N:γ Str)(vs:γ V):St:=vs.map AC++EQ (N.length-vs.length) Ch
def dO(CX:UR)(P:ο)(w:ξ)(K:Do)(mg:Str->ε ζ)(base:μ)(N:γ Str)(qual:Str)(scope:τ)(f:δ)(cd:ζ)(A:ς)(outer:γ Env)(s:η)(H:Hp)(E:XK):Cx where
 prog:=P
 w:=w
 K:=K
 mg:=mg
 base:=base
 A:=A.deeper<|envOfC qual scope s.heap.objs.size f cd
 N:=N
 s₀:=s
 H₀:=H
 env:=envOfC qual scope s.heap.objs.size f cd
 outer:=outer
 stack:=envOfC qual scope s.heap.objs.size f cd::outer
 ex:=[]
 calm:=Da
 fn:=λ _=>Da
 pn:=[]
 xe:=λ e s'=>FM (model P w) (A.deeper<|envOfC qual scope s.heap.objs.size f cd) (leaving (envOfC qual scope s.heap.objs.size f cd) e) (λ _ UW=>CX outer H s E e UW) (λ e' UW=>CX outer H s E e' UW) s'
theorem B7{sc:τ}(h:sc.names.lookup x=AC .cell):∃c,(cellsFrom n sc.names []).lookup x=AC c:=by have q:=B72 _ n []<|.inl h;exact A87.mp q
theorem xN{K:Fa}
 (S:a_ N ps scope) (hd:A.handled=Ch) (e0:tH P w K mg base A outer s H) (hl:vs.length=ps.length) (r:Vals vs us)
 (x:InCallC s s.heap.objs.size (bindL (envOfC qual scope s.heap.objs.size f cd).kindOf (ps.zip us) λ _=>Ch) (cellsFrom (s.heap.objs.size+1) scope.names []) (bindC (envOfC qual scope s.heap.objs.size f cd).kindOf (ps.zip us) λ _=>Ch) s1) :
 Inv (dO CX P w K mg base N qual scope f cd A outer s H E) [] (start N vs) H s1:=by
 have dX:ps.length<=N.length:=by have:=A11 List.length S.pre;rw[A31]at this;lia
 obtain⟨h1,tk,rfl,hk⟩:=x.done;have SE:∀b,b∉(dO CX P w K mg base N qual scope f cd A outer s H E).ex:=λ b z=>absurd (show b∈([]:γ δ)from z) (by simp);refine⟨⟨e0.mod,S.kind,rfl,rfl,M2 _,λ y z c h1 h2=>?_,λ y hy=>?_,λ y c _ h=>?_,λ _=>hd,B73 e0.frames,.inr ⟨rfl,rfl⟩,λ b z=>absurd z<|SE b,e0.bs,e0.Ek,λ b _ _=>SE b,λ b z=>absurd z<|SE b,e0.lx,e0.H!⟩,
  rfl,e0.bare,Un.kept hk,⟨_,x.toInCall.ns,λ i y v h1 h2 h3=>?_⟩,λ y c h=>⟨_,x.cell y c h⟩,e0.bQ.fresh<|M2 _,λ y c h=>?_,λ p hp=>absurd (show p∈([]:γ (δ×ν))from hp) (by simp),e0.bQ.kept hk,?_,e0.tab⟩
 .exact name_of_addr x.apart (A62 h1)<|A62 h2
 .have hy:=hy;rcases hy with hy|hy
  .exact B7 hy
  .exact absurd rfl<|S.SA _<|A62 hy
 .exact A69<|x.above y c<|A62 h
 .have hi:i<vs.length:=by
   unfold start at h2;by_cases hi:i<vs.length
   .exact hi
   .rw[A52 (by simpa using hi)]at h2;rw[A46]at h2;split at h2<;>cases h2
  have ha:vs[i]?=AC v:=by
   unfold start at h2;rw[A37 (by simpa using hi),A04]at h2;cases e:vs[i]? with
   |none=>rw[e]at h2;cases h2
   |some a=>rw[e]at h2;cases h2;rfl
  obtain⟨u,hu,rv⟩:=r.get ha;have hp:ps[i]?=AC y:=by rw[<-S.pre,C14 (by lia)];exact h1
  have ndP:ps.Nodup:=by rw[<-S.pre];exact S.nd.sublist<|List.take_sublist _ _
  refine⟨u,rv,?_⟩;rcases S.par y (A33 hp)with k|k
  .exact .inl ⟨k,ye ndP hp hu k⟩
  .obtain⟨c,e⟩:=B7 (n:=s.heap.objs.size+1) k;refine .inr ⟨.inl k,c,e,?_⟩;have q:=x.cell y c e;rw[yg ndP hp hu (by show scope.names.lookup y≠_;rw[k];decide)]at q;exact q
 .exact e0.bQ.fresh<|A69<|x.above y c<|A62 h
 .unfold start;show _=N.length;rw[A20,A09,A47];lia
theorem BI{K:Do}{dV kV doc pm a! ct oc:ζ}
 (lk:K.lookup f=AC ⟨oc,od,.func<|PySem.W.fnOf name qual params body scope dV kV doc pm an a! ct,wC⟩) (nQ:PP K a! qual=Da) (S:a_ N ps scope)
 (len:∀vs H Q E,sp vs H Q E->vs.length=ps.length)
 (BD:∀A outer s H vs Q E,bB k (A.deeper<|envOfC qual scope s.heap.objs.size f a!)->sp vs H Q E ->
  ∃t,sr (dO CX P w K mg base N qual scope f a! A outer s H E) body t/\t {nx:=λ _ H'=>Q .non H',rt:=Q} (start N vs) H) :
 e6 P w K mg base CX (k+1) f (On name qual params body scope dV kV doc pm an a! ct) ps sp:=by
 refine⟨len,λ A outer s H args us vs Q E hr e0 hb r Fx=>?_⟩;have hl:=len _ _ _ _ Fx;have KX:=e0.mod.HU.keeps λ b o e=>(e0.bs b o e).1;have lim:=e0.mod.nolimit.keeps λ b o e=>(e0.bs b o e).1;have KI:∀y∈ps.zip us,scope.names.lookup y.1=AC .local\/(scope.names.lookup y.1=AC .cell/\((cellsFrom (s.heap.objs.size+1) scope.names []).lookup y.1).isSome=Da):=λ⟨n,v⟩ hy=>by
  rcases S.par n (B40 hy).1 with q|q
  .exact .inl q
  .exact .inr ⟨q,B72 _ _ _<|.inl q⟩
 refine codeAny_call_function hr.depth (KX _ _ lk) rfl S.co S.gen rfl (wE KX nQ)<|hb _ _ _ _ ?_;refine C16 S.kind KI λ env he s1 x=>?_;subst he;refine⟨lim.keeps x.toInCall.keep,codeAny_func ?_⟩;obtain⟨t,ht,hq⟩:=BD A outer s H vs Q E (hr.deeper _) Fx;have I:Inv (dO CX P w K mg base N qual scope f a! A outer s H E) [] (start N vs) H s1:=xN S hr.hd e0 hl r x;refine A19 (ht [] s1 (start N vs) H _ I hq) (λ fl s' hs=>?_) λ e s' hs=>hs;have fin:∀{σ'}{H'}{v}{u},Inv (dO CX P w K mg base N qual scope f a! A outer s H E) [] σ' H' s'->RelV v u->Q v H'->CE outer P w H s Q u s':=
  λ {σ' H' v u} J rv q=>⟨v,H',J.os,J.bare,J.base,J.bQ,rv,q⟩
 cases fl with
 |ret u=>obtain⟨v,σ',H',J,rv,q⟩:=hs;exact fin J rv q
 |next=>obtain⟨σ',H',J,q⟩:=hs;exact fin (v:=V.non) (u:=SZ) J rfl q
 |brk=>obtain⟨_,_,_,q⟩:=hs;exact GM q
 |cont=>obtain⟨_,_,_,q⟩:=hs;exact GM q
section
variable{id T:String}
def tCB(r:γ V->Hp->VK->Prop)(t:TA):TE:=λ σ H Q=>t σ H λ vs H1=>r vs H1 Q
theorem ju(hc:i' X (.builtin id) r)(hg:Gl X x)(hm:X.mg x=Ch)(hv:bootBuiltins x=AC (.builtin id))(ha:PA X (e::es) t)(hn:x≠ "__name__":=by decide)(ir:(x==("__debug__"))=AT:=by decide)
 (he:Se e es X.env:=by rfl) (dX:Pn pos es X.env:=by rfl):PE X (.Call (.Name x p) (e::es) [] pos) (tCB r t):=by
 intro χ s σ H Q I h;refine A85<|lh I hg hm hv ?_ hn ir;exact PyProof.Rows.callWith_builtin1 (cS (ha pos χ s σ H _ I h) λ us s1 ⟨vs,H1,I1,r1,q1⟩=>hc χ s1 σ H1 vs us Q I1 r1 q1) he dX
theorem mT(hc:i' X (.type T) r)(hg:Gl X x)(hm:X.mg x=Ch)(hv:bootBuiltins x=AC (.type T))(ha:PA X (e::es) t)(hn:x≠ "__name__":=by decide)(ir:(x==("__debug__"))=AT:=by decide)
 (he:Se e es X.env:=by rfl) (dX:Pn pos es X.env:=by rfl):PE X (.Call (.Name x p) (e::es) [] pos) (tCB r t):=by
 intro χ s σ H Q I h;refine A85<|lh I hg hm hv ?_ hn ir;exact A96 (cS (ha pos χ s σ H _ I h) λ us s1 ⟨vs,H1,I1,r1,q1⟩=>hc χ s1 σ H1 vs us Q I1 r1 q1) he dX
end
end L2
namespace HT
section
open PySem.SeqAt
open PySem.AutoSeq1 (wpAny_loadPart')
open PySem.MeetsSeq PySem.MeetsSeq2 PySem.MeetsSeq3
end
theorem Pf(ht:IsTup s.heap t vs.toArray)(hb:IsTup s.heap b ws.toArray)(hv:vs≠[])
 (h1:ws=[]->Q (.ref t) s) (h2:ws≠[]->Q (.ref s.heap.objs.size) {s with heap:=s.heap.push {cls:=.type "tuple",data:=.seq (vs++ws).toArray}})
 (Fw:vs.length+ws.length<=sizeLine):FM (model prog w) A (binaryOp .Add (.ref t)<|.ref b) Q E s:=by
 obtain⟨⟨cls,dd,data,sl⟩,ho,hc,n,hd⟩:=id ht;obtain⟨⟨YG,Vk,data2,UT⟩,HX,BC,n2,hd2⟩:=id hb;simp only at hc hd BC hd2;subst hc hd BC hd2;have e:vs.toArray++ws.toArray=(vs++ws).toArray:=by simp
 by_cases hw:ws=[]
 .exact B41 ⟨_,ho,rfl⟩ ⟨_,HX,rfl⟩ B75 seq_tuple_add B77 B78 (B79 _ _)
   (tuple_addW1 t b _ _ n n2 dd Vk sl UT (by simpa using hv) (by simp[hw])) ⟨ho,HX,h1 hw⟩
 .refine B41 ⟨_,ho,rfl⟩ ⟨_,HX,rfl⟩ B75 seq_tuple_add B77 B78 (B79 _ _)
   (tuple_addW2 t b vs.toArray ws.toArray n n2 dd Vk sl UT (by simpa using hv) (by simpa using hw) (by rw[A05,A05];exact Fw)) ⟨ho,HX,?_⟩
  rw[e];exact h2 hw
def eI(n d:Nat):ε Int->Nat
|none=>d
|some v=>if v<0 then(v+(n:Int)).toNat else min v.toNat n
theorem yO(n d:Nat)(hd:d<=n)(o:ε Int):eI n d o<=n:=by
 cases o with
 |none=>exact hd
 |some v=>
  show(if v<0 then(v+(n)).toNat else min _ n)<=n;by_cases hv:v<0
  .rw[f8 hv];lia
  .rw[v6 hv];exact Nat.min_le_right _ _
theorem FK(v:Int)(n d:Nat):(if v<0 then max (v+(n)) 0 else min v (n))=((eI n d<|some v)):=by
 show(if v<0 then max _ 0 else min v (n))=(((if v<0 then(v+(n)).toNat else min _ n)))
 by_cases hv:v<0
 .simp only[f8 hv];lia
 .simp only[v6 hv];lia
theorem Eu(lo hi:ε Int)(n:Nat):Sc lo hi 1 (n)=(((eI n 0 lo):Int),((eI n n hi):Int)):=by
 have h1:¬((1)<0):=by lia
 unfold Sc;simp only[A76];refine Prod.ext ?_ ?_
 .cases lo with
  |none=>rfl
  |some v=>exact FK v n 0
 .cases hi with
  |none=>rfl
  |some v=>exact FK v n n
theorem C5(i j:Nat):No (i) (j) 1=j-i:=by
 unfold No;have h1:(1)>0:=by lia
 simp only[Int.ediv_one];split<;>lia
theorem uv(p:IsPart v o)(h:Q o s):FM (model prog w) A (Builtin.Slice.slicePartIndex v) Q E s:=by
 cases p with
 |none=>exact slicePart_none h
 |int i t=>exact slicePart_int h
theorem kC{lo hi:ε Int}{Q:Int×Int×Nat->η->Prop}(hs:s.heap.IsSliceOf sl vl vu .none)(pl:IsPart vl lo)(pu:IsPart vu hi)
 (h:Q (((eI n 0 lo)),1,eI n n hi-eI n 0 lo) s):FM (model prog w) A (WP (.ref sl)<|pure<|n) Q E s:=by
 obtain⟨os,To,Hg,Yh⟩:=id hs;unfold WP Builtin.Slice.sliceFields;refine T0<|T0<|A34 To Yh rfl<|T0<|A34 To Yh rfl<|T0<|A34 To Yh rfl<|W1 ?_;refine T0<|slicePart_none ?_;rw[v6 (by decide)];refine T0<|uv pl<|T0<|uv pu<|T0<|W1 ?_;show FM _ _ (match Sc lo hi 1 (n)with|(lo,hi)=>pure (lo,(1:Int),No lo hi 1)) _ _ s;rw[Eu];show FM _ _ (pure (((eI n 0 lo):Int),(1),No ((eI n 0 lo)) ((eI n n hi)) 1)) _ _ s;rw[C5];exact W1 h
theorem Ju(xs:Array ζ)(i k:Nat):((FB k).filterMap λ(m:Nat)=>xs[((i)+(m:Int)*1).toNat]?).toArray=((xs.toList.drop i).take k).toArray:=by
 have e:(λ(m:Nat)=>xs[((i)+(m:Int)*1).toNat]?)=λ m=>xs[i+m]?:=by
  funext m
  have:((i)+(m:Int)*1).toNat=i+m:=by lia
  rw[this]
 rw[e];have:=pick_run xs i k;rw[List.filterMap_map]at this;have e2:((λ x=>xs[x]?)∘λ x=>i+x)=λ m=>xs[i+m]?:=rfl;rw[e2]at this;rw[this]
theorem p0{lo hi:ε Int}(ht:IsTup s.heap t items)(hs:s.heap.IsSliceOf sl vl vu .none)(pl:IsPart vl lo)(pu:IsPart vu hi)
 (hw:¬(eI items.size 0 lo=0/\eI items.size items.size hi=items.size))
 (h:Q (.ref s.heap.objs.size) {s with heap:=s.heap.push {cls:=.type "tuple",data:=.seq ((items.toList.drop<|eI items.size 0 lo).take<|eI items.size items.size hi-eI items.size 0 lo).toArray}})
 (Fw:items.size<=sizeLine):FM (model prog w) A (getItem (.ref t)<|.ref sl) Q E s:=by
 have Fv:sizeOk (.seq ((items.toList.drop<|eI items.size 0 lo).take<|eI items.size items.size hi-eI items.size 0 lo).toArray):=by show((items.toList.drop<|eI items.size 0 lo).take<|eI items.size items.size hi-eI items.size 0 lo).toArray.size<=sizeLine;rw[A05,A31,B80,B67];lia
 have hj:eI items.size items.size hi<=items.size:=yO _ _ (M2 _) hi;obtain⟨os,To,Hg,Yh⟩:=id hs;have hTs:s.TypeIs (.ref sl) "slice":=⟨os,To,Hg⟩
 unfold getItem
 try with_reducible refine A57 ?_
 first|refine T0<|W1 ?_|skip
 refine T0<|wpAny_sequenceKey ht.typeIs (by decide) ?_;refine T0 (A97 (name:=Db "__getitem__") ht.typeIs A98
  <|A99 A98 ht.typeIs entry_tuple_getitem ?_<|args_tuple_getitem _ _)
 show FM _ _ (Wp (.ref t)>>=_) _ _ s;refine T0<|tupleItemsOf_ ht ?_;refine T0<|wpAny_typeOf hTs ?_;rw[f8 (by decide)];refine T0<|kC hs pl pu ?_;have OG:¬((((eI items.size 0 lo:Nat):Int)==0&&(1:Int)==1&&(eI items.size items.size hi-eI items.size 0 lo)==items.size)=Da):=by intro q;rw[A35,A35]at q;have q1:((eI items.size 0 lo:Nat):Int)=0:=eq_of_beq q.1.1;have q2:eI items.size items.size hi-eI items.size 0 lo=items.size:=eq_of_beq q.2;exact hw ⟨by lia,by lia⟩
 show FM _ _ (if(((eI items.size 0 lo:Nat):Int)==0&&(1:Int)==1&&(eI items.size items.size hi-eI items.size 0 lo)==items.size)=Da then _ else _) _ _ s;rw[v6 OG,Ju]
 first
  |exact T0 (m:=Op _)<|A63 (W1 ⟨_,rfl,W1 h⟩) Fv
  |exact T0 (m:=Op _)<|A63 (T0<|W1<|W1 ⟨_,rfl,W1 h⟩) Fv
  |exact T0<|T0 (m:=Op _)<|A63 (W1<|W1 ⟨_,rfl,W1 h⟩) Fv
  |exact T0<|T0 (m:=Op _)<|A63 (W1 ⟨_,rfl,W1 h⟩) Fv
end HT
namespace L2
abbrev TO:=St->Hp->(ε Int->Hp->Prop)->Prop
def PO(X:Cx)(e:ε ι)(t:TO):Prop:=
 ∀ (χ:γ (δ×ν))(s:η)(σ:St)(H:Hp)(Q:ε Int->Hp->Prop),Inv X χ σ H s->t σ H Q ->
  FM (model X.prog X.w) X.A (evalPart e X.env) (λ u s'=>∃o H',Inv X χ σ H' s'/\IsPart u o/\Q o H') X.xe s
def MK:TO:=λ _ H Q=>Q Ch H
def VP(t:TE):TO:=λ σ H Q=>t σ H λ x H1=>∃i,x=.int i/\Q (AC i) H1
section
variable{lo hi:ε ι}
theorem M?:PO X Ch MK:=by intro χ s σ H Q I h;rw[evalPart_none];exact W1 ⟨Ch,H,I,.none,h⟩
theorem M!(h:PE X e te):PO X (AC e) (VP te):=by intro χ s σ H Q I hw;rw[evalPart_some];refine cS (h χ s σ H _ I hw) λ u s1 ⟨x,H1,I1,r1,q1⟩=>?_;obtain⟨i,rfl,q⟩:=q1;obtain⟨t,rfl⟩:=r1;exact⟨_,H1,I1,.int i t,q⟩
def PC(X:Cx)(r:V->ε Int->ε Int->Hp->VK->Prop):Prop:=
 ∀ (χ:γ (δ×ν))(s:η)(σ:St)(H:Hp)(x:V)(v vl vu:ζ)(lo hi:ε Int)(sl:δ)(Q:VK),Inv X χ σ H s->RelV x v->s.heap.IsSliceOf sl vl vu .none->IsPart vl lo->IsPart vu hi->r x lo hi H Q ->
  ∃T id,typeLookup (.type T) "__getitem__"=pure (AC<|.builtin id)/\s.TypeIs v T/\FM (model X.prog X.w) X.A (getItem v<|.ref sl) (EP X χ σ Q) X.xe s
theorem PC.or(h:PC X r)(h':PC X r'):PC X (λ x lo hi H Q=>r x lo hi H Q\/r' x lo hi H Q):=by
 intro χ s σ H x v vl vu lo hi sl Q I rx hs pl pu q;rcases q with q|q
 .exact h χ s σ H x v vl vu lo hi sl Q I rx hs pl pu q
 .exact h' χ s σ H x v vl vu lo hi sl Q I rx hs pl pu q
def tSl(r:V->ε Int->ε Int->Hp->VK->Prop)(te:TE)(tl th:TO):TE:=λ σ H Q=>te σ H λ x H1=>tl σ H1 λ l H2=>th σ H2 λ u H3=>r x l u H3 Q
theorem A2(hr:PC X r)(he:PE X e te)(hl:PO X lo tl)(hu:PO X hi th):PE X (.Subscript e (.Slice lo hi Ch p2) pos) (tSl r te tl th):=by intro χ s σ H Q I h;refine Subscript_<|cS (he χ s σ H _ I h) λ v s1 ⟨x,H1,I1,r1,q1⟩=>?_;refine wpAny_Slice<|cS (hl χ s1 σ H1 _ I1 q1) λ vl s2 ⟨l,H2,I2,pl,q2⟩=>cS (hu χ s2 σ H2 _ I2 q2) λ vu s3 ⟨u,H3,I3,pu,q3⟩=>?_;rw[evalPart_none];refine W1 ?_;have I4:Inv X χ σ H3 {s3 with heap:=s3.heap.push {cls:=.type "slice",data:=.fields #[vl,vu,.none]}}:=I3.kept λ b ob q=>A00 _ q;obtain⟨T,id,hT,ht,hg⟩:=hr χ {s3 with heap:=s3.heap.push {cls:=.type "slice",data:=.fields #[vl,vu,.none]}} σ H3 x v vl vu l u _ Q I4 r1 (Heap.IsSliceOf.new ..) pl pu q3;exact tail_any ht hT hg (by with_unfolding_all rfl)
def w?(xs:γ V)(lo hi:ε Int):γ V:=(xs.drop<|HT.eI xs.length 0 lo).take<|HT.eI xs.length xs.length hi-HT.eI xs.length 0 lo
theorem sj(xs:γ V)(lo hi:ε Int):(w? xs lo hi).length<=xs.length:=by unfold w?;rw[A31,B80];lia
def aaJ(K:Do):V->ε Int->ε Int->Hp->VK->Prop:=λ x lo hi H Q=>∃a xs,x=.ref a/\mI K H a xs /\
 ¬(HT.eI xs.length 0 lo=0/\HT.eI xs.length xs.length hi=xs.length)/\∀p,H p=Ch->Q (.ref p) (upd H p<|.tup<|w? xs lo hi)
theorem RH:PC X (aaJ X.K):=by
 intro χ s σ H x v vl vu lo hi sl Q I rx hs pl pu h;obtain⟨a,xs,rfl,hx,hw,q⟩:=h;cases rx;obtain⟨bx,r,ht,hz⟩:=I.tuple hx;have ψ:bx.toArray.size=xs.length:=by rw[A05];exact r.length.symm
 refine⟨"tuple",_,A98.lookup,ht.typeIs,?_⟩;refine HT.p0 ht hs pl pu (by rw[ψ];exact hw) ?_ (by rw[ψ];exact hz);rw[ψ];refine⟨.ref _,_,I.laid (λ b ob q=>A00 _ q) (M2 _) ?_,rfl,q _<|I.bQ.fresh<|M2 _⟩;exact⟨A23 (sj xs lo hi) hz,_,(r.drop _).take _,qj.new _ _⟩
def Wq(K:Do):R2:=λ x y H Q=>∃a b xs ys,x=.ref a/\y=.ref b/\mI K H a xs/\mI K H b ys/\xs≠[]/\xs.length+ys.length<=sizeLine /\
 (ys=[]->Q (.ref a) H)/\(ys≠[]->∀p,H p=Ch->Q (.ref p) (upd H p<|.tup<|xs++ys))
theorem Vals.tT(r:Vals xs us):us=[]↔xs=[]:=by
 cases r with
 |nil=>simp
 |cons _ _=>simp
theorem Np:jQ X (binaryOp .Add) (Wq X.K):=by intro χ s σ H x y v u Q I rx ry h;obtain⟨a,b,xs,ys,rfl,rfl,ha,hb,hx,hz,q1,q2⟩:=h;cases rx;cases ry;obtain⟨bx,r1,p1,_⟩:=I.tuple ha;obtain⟨iL,r2,p2,_⟩:=I.tuple hb;refine HT.Pf p1 p2 (λ z=>hx<|r1.tT.mp z) (λ z=>⟨.ref a,H,I,rfl,q1<|r2.tT.mp z⟩) (λ z=>?_) (by rw[<-r1.length,<-r2.length];exact hz);refine⟨.ref _,_,I.laid (λ b ob q=>A00 _ q) (M2 _) ?_,rfl,q2 (λ w=>z<|r2.tT.mpr w) _<|I.bQ.fresh<|M2 _⟩;exact⟨by rw[A20];exact hz,_,r1.append r2,qj.new _ _⟩
end
def Xx(n:Nat)(i:Int):ε Nat:=if 0<=i then(if i<n then AC i.toNat else Ch)else if -(n:Int)<=i then AC (i+n).toNat else Ch
def UD{α:Type}(xs:γ α)(i:Int):ε α:=(Xx xs.length i).bind λ j=>xs[j]?
theorem Om(h:Xx n i=AC j):seqIndex? i n=AC j/\j<n/\-(n)<=i/\i<n:=by
 unfold Xx at h;by_cases h0:0<=i
 .rw[f8 h0]at h;by_cases h1:i<n
  .rw[f8 h1]at h;have e:=A03 h;exact⟨by rw[seqIndex_of h0 h1,e],by lia,by lia,h1⟩
  .rw[v6 h1]at h;cases h
 .rw[v6 h0]at h;by_cases h1:-(n)<=i
  .rw[f8 h1]at h;have e:=A03 h;exact⟨by rw[seqIndex_neg (by lia) h1,e],by lia,h1,by lia⟩
  .rw[v6 h1]at h;cases h
theorem z8(h:UD xs i=AC v):∃j,seqIndex? i xs.length=AC j/\xs[j]?=AC v/\j<xs.length/\-(xs.length)<=i/\i<xs.length:=by
 unfold UD at h;cases e:Xx _ i with
 |none=>rw[e]at h;cases h
 |some j=>rw[e]at h;obtain⟨h1,h2,h3,h4⟩:=Om e;exact⟨j,h1,h,h2,h3,h4⟩
def z_(b:ι):Prop:=∀o i,subscripted b AT o i=operate [o,i] (getItem o i)
def PL(X:Cx)(r:R2):Prop:=
 ∀ (value slice:ι)(χ:γ (δ×ν))(s:η)(σ:St)(H:Hp)(x y:V)(v u:ζ)(Q:VK),Inv X χ σ H s->RelV x v->RelV y u->r x y H Q ->
  subscripted slice AT v u=operate [v,u] (getItem v u)->FM (model X.prog X.w) X.A (subscriptTail value slice v u) (EP X χ σ Q) X.xe s
def LY(X:Cx)(id:String)(r:V->γ V->Hp->VK->Prop):Prop:=
 ∀ (χ:γ (δ×ν))(s:η)(σ:St)(H:Hp)(x:V)(xs:γ V)(v:ζ)(us:γ ζ)(Q:VK),Inv X χ σ H s->RelV x v->Vals xs us->r x xs H Q ->
  FM (model X.prog X.w) X.A (call (.builtin id)<|v::us) (EP X χ σ Q) X.xe s
section
theorem PL.or(h:PL X r)(h':PL X r'):PL X (λ x y H Q=>r x y H Q\/r' x y H Q):=by
 intro value slice χ s σ H x y v u Q I rx ry q hs;rcases q with q|q
 .exact h value slice χ s σ H x y v u Q I rx ry q hs
 .exact h' value slice χ s σ H x y v u Q I rx ry q hs
theorem Qe(hr:PL X r)(ha:PE X a ta)(hb:PE X b tb)(hs:z_ b):PE X (.Subscript a b pos) (P7 r ta tb):=by intro χ s σ H Q I h;exact Subscript_<|Uy ha hb I h λ v u s2 x y H2 I2 rx ry q=>hr a b χ s2 σ H2 x y v u Q I2 rx ry q<|hs _ _
def Wn(K:Do):R2:=λ x y H Q=>∃p xs i v,x=.ref p/\y=.int i/\ku K H p xs/\UD xs i=AC v/\Q v H
def Wl(K:Do):R2:=λ x y H Q=>∃p xs i v,x=.ref p/\y=.int i/\mI K H p xs/\UD xs i=AC v/\Q v H
def Wm:R2:=λ x y H Q=>∃z i c,x=.str z/\y=.int i/\z.length<=sizeLine/\UD z.cps.toList i=AC c/\Q (.str ⟨#[c]⟩) H
theorem Oj:PL X (Wn X.K):=by
 intro value slice χ s σ H x y v u Q I rx ry h hs;obtain⟨p,xs,i,z,rfl,rfl,hq,he,q⟩:=h;cases rx;obtain⟨t,rfl⟩:=ry;obtain⟨bx,r,pl,hz⟩:=I.list hq;obtain⟨j,h1,h2,h3,h4,h5⟩:=z8 he;obtain⟨w,ew,M4⟩:=r.get h2;have hl:=r.length;have hn:=zk;have fin:EP X χ σ Q w s:=⟨z,H,I,M4,q⟩
 by_cases h0:0<=i
 .have hj:i.toNat=j:=by rw[seqIndex_of h0 h5]at h1;exact A03 h1
  exact item_listR pl.isList h0 (by lia) (by rw[hj];simpa using ew) fin hs
 .have hj:(i+(bx.toArray.size)).toNat=j:=by rw[seqIndex_neg (by lia) h4]at h1;rw[A05,<-hl];exact A03 h1
  exact subscriptTail_builtinR pl.isList.typeIs slot_list_getitem.lookup
   (wpAny_getItem_list_neg pl.isList (by lia) (by rw[A05]<;>lia) (by lia) (by rw[hj];simpa using ew) ⟨rfl,fin⟩) hs
theorem S_:PL X (Wl X.K):=by
 intro value slice χ s σ H x y v u Q I rx ry h hs;obtain⟨p,xs,i,z,rfl,rfl,hq,he,q⟩:=h;cases rx;obtain⟨t,rfl⟩:=ry;obtain⟨bx,r,pl,hz⟩:=I.tuple hq;obtain⟨j,h1,h2,h3,h4,h5⟩:=z8 he;obtain⟨w,ew,M4⟩:=r.get h2;have hl:=r.length;have hn:=zk;have fin:EP X χ σ Q w s:=⟨z,H,I,M4,q⟩
 exact subscriptTail_builtinR pl.typeIs slot_tuple_getitem.lookup
  (getItem_tuple pl (by lia) (by lia) (by rw[A05,<-hl];exact h1) (by simpa using ew) ⟨rfl,fin⟩) hs
theorem zm:PL X Wm:=by
 intro value slice χ s σ H x y v u Q I rx ry h hs;obtain⟨z,i,c,rfl,rfl,hz,he,q⟩:=h;obtain⟨t,rfl⟩:=rx;obtain⟨t',rfl⟩:=ry;obtain⟨j,h1,h2,h3,h4,h5⟩:=z8 he;have hl:z.cps.toList.length=z.length:=by simp[Str.length]
 rw[hl]at h1 h4 h5;have hn:=zk;exact tail_any (A77 s z t) slot_str_getitem.lookup (getItem_str (by have e1:decide (i < -(2^63))=AT:=A49 (by lia);have e2:decide (i≥2^63)=AT:=A49 (by lia);rw[e1,e2,Bool.or_false]) (by rw[h1];simpa using h2) ⟨.str ⟨#[c]⟩,H,I.tok _,⟨_,rfl⟩,q⟩) hs
def rIx(K:Do):R2:=λ x y H Q=>Wn K x y H Q\/Wl K x y H Q\/Wm x y H Q
theorem Kp:PL X (rIx X.K):=Oj.or<|S_.or zm
theorem yK(lo hi:ε Int)(n:Nat):(sliceBounds lo hi Ch n).1=((HT.eI n 0 lo))/\(sliceBounds lo hi Ch n).2.1=((HT.eI n n hi))/\(sliceBounds lo hi Ch n).2.2=1:=by
 refine⟨?_,?_,rfl⟩
 .cases lo with
  |none=>simp[sliceBounds,HT.eI]
  |some i=>
   simp only[sliceBounds,HT.eI,AB6,A25];by_cases h:i<0
   .simp only[h]<;>lia
   .simp only[h,A76]<;>lia
 .cases hi with
  |none=>simp[sliceBounds,HT.eI]
  |some i=>
   simp only[sliceBounds,HT.eI,AB6,show(1)>0 by decide,A25];by_cases h:i<0
   .simp only[h,A25]<;>lia
   .simp only[h,A76]<;>lia
theorem wB(bx:γ ζ)(lo hi:ε Int):slicePick bx.toArray lo hi Ch=((bx.drop<|HT.eI bx.length 0 lo).take<|HT.eI bx.length bx.length hi-HT.eI bx.length 0 lo).toArray:=by obtain⟨h1,h2,h3⟩:=yK lo hi bx.toArray.size;unfold slicePick;rw[h1,h2,h3];simp only[sliceRange_one,pick_run]<;>rfl
def aaL(K:Do):V->ε Int->ε Int->Hp->VK->Prop:=λ x lo hi H Q=>∃a xs,x=.ref a/\ku K H a xs/\∀p,H p=Ch->Q (.ref p) (upd H p<|.lst<|w? xs lo hi)
theorem MV:PC X (aaL X.K):=by intro χ s σ H x v vl vu lo hi sl Q I rx hs pl pu h;obtain⟨a,xs,rfl,hx,q⟩:=h;cases rx;obtain⟨bx,r,ht,hz⟩:=I.list hx;have ψ:=r.length;refine⟨"list",_,slot_list_getitem.lookup,ht.isList.typeIs,?_⟩;refine wpAny_getItem_list_slice ht.isList hs pl pu .none (by simp) ?_ (by rw[A05]<;>lia);rw[wB,<-ψ];refine⟨.ref _,_,I.laid (λ b ob q=>A00 _ q) (M2 _) ?_,rfl,q _<|I.bQ.fresh<|M2 _⟩;exact⟨A23 (sj xs lo hi) hz,_,0,(r.drop _).take _,A13 _ rfl⟩
theorem w_:i' X (.type "tuple") (λ xs H Q=>∃p ys,xs=[.ref p]/\((ku X.K H p ys/\∀l,H l=Ch->Q (.ref l) (upd H l<|.tup ys))\/(mI X.K H p ys/\Q (.ref p) H))):=by
 intro χ s σ H xs us Q I r h;obtain⟨p,ys,rfl,h⟩:=h;obtain⟨u,rfl,rx⟩:=vals1 r;cases rx;rcases h with⟨hq,q⟩|⟨hq,q⟩
 .obtain⟨bx,r',pl,hz⟩:=I.list hq;have ψ:=r'.length;refine call_tuple_list pl.isList (λ h' kp=>?_) (by simp only[A05]<;>lia);have I1:=I.kept (t':=s.toks) kp;have I2:=
   I1.laid (t':=s.toks) (λ b o e=>A00 _ e) (M2 _)<|show gE _ X.w _ _ _ (.tup ys)from⟨hz,bx,r',qj.new _ _⟩
  exact⟨.ref _,_,I2,rfl,q _<|I1.bQ.fresh<|M2 _⟩
 .obtain⟨bx,r',pl,hz⟩:=I.tuple hq;exact call_tuple_same pl ⟨.ref p,H,I,rfl,q⟩
def tyV(K:Do)(T:String)(x:V)(H:Hp):Prop:=match x with
|.str _=>T="str"
|.int _=>T="int"
| .ref p=>(T="list" /\ ∃xs,ku K H p xs)\/(T="tuple" /\ ∃o,K.lookup p=AC o/\o.cls=.type "tuple" /\ o.dict=Ch) \/
 (T="dict" /\ ((∃aS,H p=AC (.dK aS))\/∃aS,H p=AC (.dT aS)))\/(T="set" /\ ∃S n,H p=AC (.set S n))
|_=>False
theorem Rk(I:Inv X χ σ H s)(r:RelV x v)(ty:tyV X.K T x H) :
 s.TypeIs v T/\∀a,v=.ref a->∃ob,s.heap.get? a=AC ob/\ob.dict=Ch:=by
 cases x with
 |str z=>obtain⟨t,rfl⟩:=r;cases (ty);exact⟨A77 s z t,λ _ e=>nomatch e⟩
 |int i=>obtain⟨t,rfl⟩:=r;cases (ty);exact⟨typeIs_int s i t,λ _ e=>nomatch e⟩
 |ref p=>
  cases r;rcases ty with⟨rfl,xs,hq⟩|⟨rfl,o,hk,hc,hd⟩|⟨rfl,hk⟩|⟨rfl,S,n,hk⟩
  .obtain⟨bx,_,pl,_⟩:=I.list hq;refine⟨pl.isList.typeIs,λ a e=>?_⟩;cases e;obtain⟨o,n,e,c,hd,_⟩:=pl;exact⟨o,e,hd⟩
  .refine⟨⟨o,I.nM p o hk,hc⟩,λ a e=>?_⟩;cases e;exact⟨o,I.nM _ o hk,hd⟩
  .have z:∃o,s.heap.get? p=AC o/\o.ExactDict:=by
    rcases hk with⟨aS,hk⟩|⟨aS,hk⟩
    .obtain⟨_,_,_,_,o,_,_,e,ex,_⟩:=I.bQ p _ hk;exact⟨o,e,ex⟩
    .obtain⟨_,_,_,_,o,_,_,e,ex,_⟩:=I.bQ p _ hk;exact⟨o,e,ex⟩
   obtain⟨o,e,ex⟩:=z;refine⟨⟨o,e,ex.1⟩,λ a e2=>?_⟩;cases e2;exact⟨o,e,ex.2.1⟩
  .obtain⟨o,_,_,_,e,ex,_⟩:=I.bQ p _ hk;refine⟨⟨o,e,ex.1⟩,λ a e2=>?_⟩;cases e2;exact⟨o,e,ex.2.1⟩
 |_=>exact GM ty
def tBM(K:Do)(T:String)(r:V->γ V->Hp->VK->Prop)(to:TE)(t:TA):TE:=λ σ H Q=>to σ H λ x H1=>tyV K T x H1/\t σ H1 λ xs H2=>r x xs H2 Q
variable{T id:String}
theorem uD(pa:PlainAttrs T)(slot:Slot T name id)(hty:typeOf (.builtin id)=pure (.type "method_descriptor"))(hm:LY X id r)(ho:PE X o to)(ha:PA X (e::es) t)
 (jE:attributeBase o name X.env (eval o X.env)=eval o X.env:=by rfl)
 (oO:((backTo tq<|starEach (e::es) X.env).all (λ x=>!x.1)&&(backToKw tq<|keywordEach [] X.env).all (λ x=>x.1.isSome)
  && decide ((e::es).length+([]:γ π).length+(if([]:γ π).isEmpty then 0 else 1)<30))=Da:=by rfl)
 (jD:(apos.endLine==tq.line)=Da:=by rfl) (hs:Se e es X.env:=by rfl) (gj:Pn tq es X.env:=by rfl) :
 PE X (.Call (.Attribute o name apos) (e::es) [] tq) (tBM X.K T r to t):=by
 intro χ s σ H Q I h;refine wpAny_Call_method_late jE oO jD rfl<|cS (ho χ s σ H _ I h) λ v s1 ⟨x,H1,I1,r1,ty,q1⟩=>?_;obtain⟨h1,h2⟩:=Rk I1 r1 ty;refine⟨T,id,pa,slot,hty,h1,h2,?_⟩;have hA:=ha tq χ s1 σ H1 _ I1 q1;rw[hs]at hA ⊢;refine Calls.callWith_builtin (by show(AT||(backTo tq _).any _)=AT;rw[gj]<;>rfl)<|Calls.evalArgs_plain ?_;exact cS hA λ us s2 ⟨vs,H2,I2,r2,q2⟩=>hm χ s2 σ H2 x vs v us Q I2 r1 r2 q2
/- xs.append(e),list.index on a J6 tuple .. are LY facts of 06m -/
end
def MtM(X:Cx)(id:String)(r:V->γ V->Hp->VK->Prop):Prop:=
 ∀ (χ:γ (δ×ν))(s:η)(σ:St)(H:Hp)(x:V)(xs:γ V)(v:ζ)(us:γ ζ)(Q:VK),Inv X χ σ H s->RelV x v->Vals xs us->r x xs H Q ->
  FM (model X.prog X.w) X.A (call (.builtin id)<|v::us) (EP X χ σ Q) X.xe s
theorem Vals.one:∀{x}{us},Vals [x] us->∃u,us=[u]/\RelV x u
|_,_,.cons r .nil=>⟨_,rfl,r⟩
theorem Inv.Xn{bx Bu:γ ζ}(I:Inv X χ σ H s)(hH:H l=AC (.lst xs))
 (e:s.heap.get? l=AC {cls:=.type "list",data:=.seq bx.toArray n}) (hf:f bx.toArray=Bu.toArray) (hv:Vals ys Bu) (hz:ys.length<=sizeLine) :
 Inv X χ σ (upd H l<|.lst ys) {s with heap:=s.heap.update l<|Obj.mapSeq f,toks:=t'}:=by
 have q:=PySem.IsL.update e f;rw[hf]at q;refine I.write (by rw[hH];exact trivial) (.inl rfl) (λ b' u hb hu=>(A64 _ _<|A08 hb).trans hu) ⟨_,q⟩ ?_;exact⟨hz,Bu,_,hv,q⟩
theorem Inv.abj(I:Inv X χ σ H s)(hv:Vals ys bx)(hz:ys.length<=sizeLine):
 Inv X χ σ (upd H s.heap.objs.size<|.lst ys) {s with heap:=s.heap.push {cls:=.type "list",data:=.seq bx.toArray},toks:=t'}:=
 I.laid (λ _ _ q=>A00 _ q) (M2 _) ⟨hz,bx,0,hv,A13 _ rfl⟩
theorem Inv.fresh(I:Inv X χ σ H s):H s.heap.objs.size=Ch:=I.bQ.fresh<|M2 _
theorem Inv.SU(I:Inv X χ σ H s)(hH:H l=AC (.lst xs)):xs.length<=sizeLine/\∃bx n,Vals xs bx/\xs.length=bx.length/\s.heap.get? l=AC {cls:=.type "list",data:=.seq bx.toArray n}:=by obtain⟨z,bx,n,r,e⟩:=I.bQ l _ hH;exact⟨z,bx,n,r,r.length,e⟩
theorem JT(h:n<=sizeLine):Builtin.List.listTooLong n=AT:=by exact A49 (by lia)
def EZ:V->γ V->Hp->VK->Prop:=λ x vs H Q=>∃l xs y,x=.ref l/\vs=[y]/\H l=AC (.lst xs)/\xs.length<sizeLine/\Q .non (upd H l<|.lst<|xs++[y])
theorem xG:MtM X "list.append" EZ:=by intro χ s σ H x vs v us Q I rx rv h;obtain⟨l,xs,y,rfl,rfl,hH,hz,q⟩:=h;cases rx;obtain⟨u,rfl,ru⟩:=rv.one;obtain⟨z,bx,n,r,hl,e⟩:=I.SU hH;refine A53 F.slot_list_append ⟨_,e,rfl⟩ F.entry_list_append (F.args_list_append_2 _ _) (PySem.list_append l _ n u (by rw[A05];lia)) ⟨e,?_⟩;refine⟨.non,_,I.Xn hH e (by simp) (r.append<|.cons ru .nil) ?_,rfl,q⟩;rw[A20,List.length_singleton];lia
def EY:V->γ V->Hp->VK->Prop:=λ x vs H Q=>∃l b xs zs,x=.ref l/\vs=[.ref b]/\H l=AC (.lst xs)/\H b=AC (.lst zs)/\xs.length+zs.length<=sizeLine/\Q .non (upd H l<|.lst<|xs++zs)
theorem GV:MtM X "list.extend" EY:=by
 intro χ s σ H x vs v us Q I rx rv h;obtain⟨l,b,xs,zs,rfl,rfl,hH,hB,hz,q⟩:=h;cases rx;obtain⟨u,rfl,ru⟩:=rv.one;cases ru;obtain⟨z,bx,n,r,hl,e⟩:=I.SU hH;obtain⟨z2,iL,n2,r2,Ts,e2⟩:=I.SU hB;have Fw:bx.toArray.size+iL.toArray.size<=sizeLine:=by rw[A05,A05];lia
 have X7:¬(!bx.toArray.isEmpty&&Builtin.List.listTooLong (bx.toArray.size+iL.toArray.size))=Da:=by rw[JT Fw,B82];exact B15
 refine A53 F.slot_list_extend ⟨_,e,rfl⟩ F.entry_list_extend (F.args_list_extend_2 _ _)
  (AutoSeq1.list_extend_list_list_0 l _ n b _ n2 X7 (by rw[A05];lia) (by lia)) ⟨e,e2,?_⟩
 refine⟨.non,_,I.Xn hH e (by simp) (r.append r2) ?_,rfl,q⟩;rw[A20];lia
end L2
namespace Att
open PySem.W PySem.Calls
theorem sS:∀ns vs,WellAll P h vs (ns.map WData.int)->IntsAre vs ns:=by
 intro ns
 induction ns with
 |nil=>intro vs w;rw[A78]at w;cases w;exact .nil
 |cons n ns ih=>
  intro vs w;rw[A06]at w;cases w with
  |cons a b=>cases a;exact .cons _ _<|ih _ b
theorem Gm{l:OpenLaw}(hn:l.most=AC n)
 (OD:l.row.toRowW.claim.pre args=Da) (OC:WellAll P h vals args) :
 ∃a vs ns,vals=[Value.ref a]/\args=[WData.list (ns.map WData.int)]/\h.get? a=AC {cls:=.type "list",data:=.seq vs.toArray}/\IntsAre vs ns/\ns.length<=n:=by
 have Ti:=(pre_splitW OD).1;have hc:l.pre.holds [] {args:=args}=Da:=(pre_splitW OD).2;obtain⟨d,r,rfl,h1,h2⟩:=hasAllW_cons Ti;obtain rfl:=hasAllW_nil h2;obtain⟨xs,rfl,h3⟩:=hasW_list h1;obtain⟨ns,rfl⟩:=items_int h3;have ψ:ns.length<=n:=by
  have h4:(WTm.not<|.lt (.lit<|.int<|n)<|.len<|.arg 0).holds [] {args:=[.list (ns.map .int)]}=Da:=by have h4:=(holds_andW hc).1;rw[hn]at h4;exact h4
  have h5:=condW_of h4<|w_not<|w_lt w_lit<|w_len_list<|w_arg rfl;rw[A09]at h5;refine Nat.le_of_not_lt λ q=>?_;have q':(n)<((ns.length)):=by lia
  first
   |(rw[A42 q']at h5;exact absurd h5 (by decide))
   |(simp at h5;lia)
 cases OC with
 |cons w1 w2=>
  cases w2;cases w1 with
  |list ho hall=>exact⟨_,_,ns,rfl,rfl,ho,sS ns _ hall,ψ⟩
theorem Gu(l:OpenLaw)(args:γ WData):l.row.toRowW.claim.post args (.bool Da) args=Da:=
 postW_of
  (show WShape.has [] _ .bool=Da by first|rfl|decide|simp[WShape.armsAll])
  (w_eq_bool (w_res rfl) w_lit) rfl
section
variable{K:Frag}
end
end Att
namespace L2
theorem xm:∀{vs}{ns},IntsAre vs ns->Vals (ns.map V.int) vs
|_,_,.nil=>.nil
|_,_,.cons n t h=>.cons ⟨t,rfl⟩<|xm h
def PJ(H:Hp):Prop:=∀b,H b=Ch\/(∃o xs,H b=AC (.dZ o<|.lst xs))\/∃q,H b=AC (.IG q)
def TabAt(K:Do)(x:Str)(b:δ):Prop:=x∈dC/\∃c,Re K x=AC (c,b)
theorem N9{K:Do}(one:∀x y c P c',x∈dC->y∈dC->Re K x=AC (c,P)->Re K y=AC (c',P)->x=y)(h:TabAt K x b)(g:TabAt K y b):x=y:=by obtain⟨h1,c,h2⟩:=h;obtain⟨g1,d,g2⟩:=g;exact one x y c b d h1 g1 h2 g2
open Classical in
noncomputable def CM(K:Do)(a:δ)(u:HO)(s:Bool):Hp:=λ b=>if h:∃x,TabAt K x b then AC (.IG<|lj h.choose)else if s=Da/\b=a then AC u else Ch
theorem Kg{P:ο}{w:ξ}{K:Fa}{mg mb:Str->ε ζ}{CX:UR}{k:Nat}{fa a:δ}{fd:υ}{x:Str}{sp:Sp}{s₁:η}{vs:γ ζ}{ns:γ Int}
 (KX:K.In s₁.heap) (Qs:s₁.heap.Ns mainGlobals mg) (hb:s₁.heap.Ns builtinsNs mb) (hbb:∀x:Str,x≠ "__name__" -> mb x=bootBuiltins x) (ab4:s₁.heap.NoLimit) (hg:s₁.gens=#[])
 (ha:s₁.heap.get? a=AC {cls:=.type "list",data:=.seq vs.toArray}) (hi:IntsAre vs ns) (hl:ns.length<=sizeLine) (hr:bB k callerA)
 (F:∀base:μ,K.In base->base.Ns mainGlobals mg->e6 P w K mg base CX k fa fd [x] sp) (vn:∀(s:η)(u:ζ),BindsTo s fd ⟨[u],[]⟩ [(x,u)])
 (Fx:∀H:Hp,PJ H->ku K H a (ns.map V.int)->sp [.ref a] H (λ v _=>v=.bl Da) λ _ _ _=>False)
 (hCX:∀H e s',CX [] H s₁ (λ _ _ _=>False) e s'->False)
 (one:∀x y c P c',x∈dC->y∈dC->Re K x=AC (c,P)->Re K y=AC (c',P)->x=y)
 (tab:∀x∈dC,∀c P,Re K x=AC (c,P)->(AD3 s₁.heap c P/\s₁.heap.get? P=AC (le #[]))/\s₁.heap.TableAt c P #[]) (bm:BMain mg s₁.heap) (qM:PySem.W.noTabs K=Da) :
 codeAny (model P w) callerA (.call (.ref fa) ⟨[.ref a],[]⟩) (λ r s'=>r=.ok (.ret<|.bool Da)/\OldK s₁.heap s'.heap/\s'.os=s₁.os/\AllBare s'.gens) s₁:=by
 have rv:=xm hi;have abk:=hi.length;have MJ:∀{b}{y},TabAt K y b->s₁.heap.get? b=AC (le #[]):=λ {b y} ⟨h1,c,h2⟩=>(tab y h1 c b h2).1.2;have Qi:∀{b}{o},s₁.heap.get? b=AC o->o≠le #[]->¬∃y,TabAt K y b:=λ {b o} e n ⟨y,h⟩=>by have:=MJ h;rw[e]at this;exact n<|A03 this
 have at1:∀{b}{u}{q}{y},TabAt K y b->CM K a u q b=AC (.IG<|lj y):=λ {b u q y} h=>by
  have hh:∃x,TabAt K x b:=⟨y,h⟩
  unfold CM;rw[dif_pos hh];rw[N9 one hh.choose_spec h]
 have at2:∀{b}{u}{q},(¬∃y,TabAt K y b)->CM K a u q b=if q=Da/\b=a then AC u else Ch:=λ {b u q} h=>by unfold CM;rw[dif_neg h]
 -- from an abstract heap in adL nothing but MI RJ and MI tables may be tracked
 have core:∀u q,(∃o xs,u=.dZ o (.lst xs))->ku K (CM K a u q) a (ns.map V.int)->(q=Da->gE P w (CM K a u q) s₁.heap a u)->(q=Da->K.lookup a=Ch) ->
  codeAny (model P w) callerA (.call (.ref fa) ⟨[.ref a],[]⟩) (λ r s'=>r=.ok (.ret<|.bool Da)/\OldK s₁.heap s'.heap/\s'.os=s₁.os/\AllBare s'.gens) s₁:=by
  intro u q hu hS hua hK;generalize hHH:CM K a u q=H at hS hua;have na:¬∃y,TabAt K y a:=Qi ha λ z=>by cases z
  have of:∀{b}{v},H b=AC v->(∃y,TabAt K y b/\v=.IG (lj y))\/(q=Da/\b=a/\v=u):=λ {b v} e=>by
   by_cases hb:∃y,TabAt K y b
   .obtain⟨y,hy⟩:=hb;rw[<-hHH,at1 hy]at e;cases e;exact .inl ⟨y,hy,rfl⟩
   .rw[<-hHH,at2 hb]at e;split at e
    .rename_i hc;cases e;exact .inr ⟨hc.1,hc.2,rfl⟩
    .cases e
  have bQ:lY P w H s₁.heap:=λ b v e=>by
   rcases of e with⟨y,hy,rfl⟩|⟨hq,rfl,rfl⟩
   .exact⟨#[],MJ hy,trivial,λ pos cv z=>nomatch z⟩
   .exact hua hq
  have hO:PJ H:=λ b=>by
   cases e:H b with
   |none=>exact .inl rfl
   |some v=>
    rcases of e with⟨y,_,rfl⟩|⟨_,_,rfl⟩
    .exact .inr<|.inr ⟨_,rfl⟩
    .obtain⟨o,xs,rfl⟩:=hu;exact .inr<|.inl ⟨o,xs,rfl⟩
  have t8:∀{b}{o},s₁.heap.get? b=AC o->H b=Ch->(wX s₁.heap H).get? b=AC o:=λ e n=>KJ e n;have SE:∀{b}{o},s₁.heap.get? b=AC o->(∀xs n,o.data≠.seq xs n)->(∀xs,o.data≠.fields xs\/o.cls≠.none)->H b=Ch:=λ {b o} e d d2=>by
   cases r:H b with
   |none=>rfl
   |some v=>
    rcases of r with⟨y,hy,_⟩|⟨_,hba,_⟩
    .rw[MJ hy]at e;cases e;rcases d2 #[]with z|z
     .exact absurd rfl z
     .exact absurd rfl z
    .rw[hba,ha]at e;cases e;exact absurd rfl<|d _ _
  have Z5:∀{b:δ}{m:Str->ε ζ},s₁.heap.Ns b m->(wX s₁.heap H).Ns b m:=λ {b m} ⟨o,es,ep,e,d,r⟩=>⟨o,es,ep,t8 e (SE e (λ xs n z=>by rw[d]at z;cases z) λ xs=>.inl λ z=>by rw[d]at z;cases z),d,r⟩
  have hKb:K.In (wX s₁.heap H):=λ b o e=>t8 (KX b o e) (by
   cases r:H b with
   |none=>rfl
   |some v=>
    rcases of r with⟨y,hy,_⟩|⟨hq,hba,_⟩
    .have e2:=KX b o e;rw[MJ hy]at e2;cases e2;have h2:=A28.mp qM _<|PySem.W.mem_of_lookupK e;exact absurd (show AT=Da from h2) B15
    .rw[hba,hK hq]at e;cases e)
  have hM:Mod K mg (wX s₁.heap H):=⟨hKb,Z5 Qs,⟨mb,Z5 hb,hbb⟩,let ⟨mc,h1,h2⟩:=ab4;⟨mc,Z5 h1,h2⟩⟩
  have hT:yl K mg (wX s₁.heap H) H:=λ y hy c p e=>by obtain⟨⟨⟨o,vs,file,tf,flags,tg,inF,text,tt,e1,e2,e3,r⟩,_⟩,_⟩:=tab y hy c p e;obtain⟨bmA,ob,b1,b2,b3,b4,b5,b6⟩:=bm;refine⟨by rw[<-hHH];exact at1 ⟨hy,c,e⟩,⟨o,vs,file,tf,flags,tg,inF,text,tt,t8 e1 (SE e1 (λ xs n z=>by rw[e3]at z;cases z) λ xs=>.inr λ z=>by rw[e2]at z;cases z),e2,e3,r⟩,bmA,ob,b1,b2,t8 b3 (SE b3 (λ xs n z=>by rw[b6]at z;cases z) λ xs=>.inr λ z=>by rw[b4]at z;cases z),b4,b5,b6⟩
  have e0:tH P w K mg (wX s₁.heap H) callerA [] s₁ H:=⟨rfl,hM,λ b o e=>Nv e,B71<|Hc _ _,trivial,λ b hb=>absurd (show b∈([]:γ δ)from hb) (by simp),bQ,.of_eq hg,hT⟩
  refine A74 ((F _ hKb<|Z5 Qs).run callerA [] s₁ H ⟨[.ref a],[]⟩ [.ref a] [.ref a] _ _ hr e0 (vn s₁<|.ref a) (.cons rfl .nil)<|Fx H hO hS) λ r s' h=>?_;cases r with
  |error e=>exact(hCX H e s' h).elim
  |ok fl=>
   cases fl with
   |next=>exact GM h
   |brk=>exact GM h
   |cont=>exact GM h
   |ret u'=>
    obtain⟨v,H',os,bare,un,X5,r',q'⟩:=h;have q':v=.bl Da:=q';subst q';obtain rfl:u'=Value.bool Da:=r';refine⟨rfl,⟨λ b o e=>?_,λ b o e=>un.there b o e (by simp)⟩,os,bare⟩;cases r:H b with
    |none=>exact .inl<|un.keep b o e r (by intro z;exact absurd (show b∈([]:γ δ)from z) (by simp)) (by simp)
    |some v=>
     rcases of r with⟨y,hy,rfl⟩|⟨_,_,rfl⟩
     .have r2:=un.m9 b (.IG<|lj y) trivial r;obtain⟨ps,g1,_⟩:=X5 b _ r2;obtain⟨h1,c,h2⟩:=hy;have tb:=(tab y h1 c b h2).2;have e3:o={cls:=.none,data:=.fields #[]}:=A03<|e.symm.trans tb.2;subst e3;exact .inr<|.inl ⟨tb.isCodeTable,rfl,#[],ps,rfl,by rw[g1];simp⟩
     .obtain⟨ob,xs,rfl⟩:=hu;have z2:=un.p5 b ob _ r;obtain⟨e1,_⟩:=bQ b _ r;obtain⟨e2,_⟩:=X5 b _ z2;rw[e]at e1;cases e1;exact .inl e2
 have na:¬∃y,TabAt K y a:=Qi ha λ z=>by cases z
 cases hk:K.lookup a with
 |some o=>
  -- MI RJ is one of MI J6 own objects
  have e:=KX a o hk;rw[ha]at e;cases e;exact core (.dZ {cls:=.type "list",data:=.seq vs.toArray}<|.lst []) AT ⟨_,_,rfl⟩ (.inr ⟨_,vs.toArray,_,hk,rfl,rfl,rfl,by rw[A05,abk];exact hl,by simpa using rv⟩) (λ z=>nomatch z) λ z=>nomatch z
 | none=>refine core (.dZ {cls:=.type "list",data:=.seq vs.toArray}<|.lst<|ns.map V.int) Da ⟨_,_,rfl⟩ (.inl<|.inr ⟨{cls:=.type "list",data:=.seq vs.toArray},by rw[at2 na];exact f8 ⟨rfl,rfl⟩⟩) (λ _=>⟨ha,by rw[A09];exact hl,vs,_,rv,ha⟩) λ _=>hk
def bI(s:θ):Arguments:=match s with
|.FunctionDef _ a _ _ _ _ _ _ _ _=>a
|_=>{posonlyargs:=[],args:=[],vararg:=Ch,kwonlyargs:=[],kw_defaults:=[],kwarg:=Ch,defaults:=[]}
def aM(s:θ):γ θ:=match s with
|.FunctionDef _ _ b _ _ _ _ _ _ _=>b
|_=>[]
def ah(s:θ):τ:=match s with
|.FunctionDef _ _ _ _ _ _ sc _ _ _=>sc
|_=>{kind:=.function,names:=[],isGenerator:=AT,isCoroutine:=AT}
abbrev jn:UR:=λ _ _ _ _ _ _=>False
abbrev E0:XK:=λ _ _ _=>False
theorem uE:Passes jn X E0:=λ _ _ _ _ _ _ _ h=>h.elim
structure Ez(K:Do)(x qual:Str)(st:Stmt)(f:Addr)(fd:FuncData):Prop where
 ex:∃(oc:Value)(od:Option Addr)(kV doc pm:Value)(an:Option Addr)(a! ct:Value)(wC:Array (Option Value)),
  fd=On x qual (bI st) (aM st) (ah st) .none kV doc pm an a! ct/\K.lookup f=AC ⟨oc,od,.func fd,wC⟩/\PP K a! qual=Da
 kp:Fk K (.ref f)=Da
section
variable{K:Do}
theorem Ez.ok{st:θ}(F:Ez K x qual st f fd)(S:a_ N ps (ah st))(len:∀vs H Q E,sp vs H Q E->vs.length=ps.length)
 (BD:∀a! A outer s H vs Q E,bB k (A.deeper<|envOfC qual (ah st) s.heap.objs.size f a!)->sp vs H Q E ->
  ∃t,sr (dO jn P w K mg base N qual (ah st) f a! A outer s H E).f_ (aM st) t/\t {nx:=λ _ H'=>Q .non H',rt:=Q} (start N vs) H):e6 P w K mg base jn (k+1) f fd ps sp:=by
 obtain⟨oc,od,kV,doc,pm,an,a!,ct,wC,rfl,lk,nQ⟩:=F.ex;refine BI lk nQ S len λ A outer s H vs Q E hr Fx=>?_;obtain⟨t,h,q⟩:=BD a! A outer s H vs Q E hr Fx;exact⟨t,h.f_,q⟩
theorem Ez.binds{st:θ}(F:Ez K x qual st f fd)
 (h:∀kV doc pm an a! ct us,us.length=ps.length->bindArgs (On x qual (bI st) (aM st) (ah st) .none kV doc pm an a! ct) ⟨us,[]⟩=pure (ps.zip us)):Binds K fd ps []:=by
 obtain⟨oc,od,kV,doc,pm,an,a!,ct,wC,rfl,lk,nQ⟩:=F.ex;exact .all<|h kV doc pm an a! ct
theorem zy{st:θ}{kV doc pm a! ct:ζ}(l:K.lookup f=AC ⟨oc,od,.func<|PySem.W.fnOf x qual (bI st) (aM st) (ah st) .none kV doc pm an a! ct,wC⟩)
 (c:PP K a! qual=Da) (k:Fk K (.ref f)=Da):Ez K x qual st f (On x qual (bI st) (aM st) (ah st) .none kV doc pm an a! ct):=⟨⟨oc,od,kV,doc,pm,an,a!,ct,wC,rfl,l,c⟩,k⟩
end
theorem pv(i:Nat)(hN:X.N[i]?=AC x:=by rfl)(hv:QY X.env.scope x:=by first| exact AE2 rfl| exact bi<|Or.inl rfl| exact bi<|Or.inr rfl)(hd:(x==("__debug__"))=AT:=by decide)
 (nQ:(x==("__classdict__"))=AT:=by decide):PE X (.Name x pos) (l7 i):=C6 hN hv hd nQ
def aI(H H':Hp):Prop:=∀b o,H b=AC o->H' b=AC o
theorem aI.refl(H:Hp):aI H H:=λ _ _ h=>h
theorem aI.trans(a:aI H H1)(b:aI H1 H2):aI H H2:=λ c o h=>b c o<|a c o h
theorem aI.free(e:aI H H')(h:H' l=Option.none):H l=Option.none:=by
 cases q:H l with
 |none=>rfl
 |some o=>rw[e l o q]at h;cases h
theorem aI.seq{K:Do}(e:aI H H')(h:ku K H a xs):ku K H' a xs:=by
 rcases h with(h|⟨o,h⟩)|h
 .exact .inl<|.inl<|e _ _ h
 .exact .inl<|.inr ⟨o,e _ _ h⟩
 .exact .inr h
section
variable{κ:Type}[DecidableEq κ]
def pf(aS:γ (κ×V))(k:κ):ε V:=(aS.find? λ kv=>decide<|kv.1=k).map (·.2)
def putK(aS:γ (κ×V))(k:κ)(v:V):γ (κ×V):=
 if(aS.any λ kv=>decide<|kv.1=k)=Da then aS.map (λ kv=>if kv.1=k then(kv.1,v)else kv)else aS++[(k,v)]
theorem pd{k:κ}(e:p.1=k):pf (p::r) k=AC p.2:=by simp[pf,e]
theorem pe{k:κ}(e:¬p.1=k):pf (p::r) k=pf r k:=by simp[pf,e]
theorem Au(k:κ):∀aS,(aS.any λ kv=>decide<|kv.1=k)=(pf aS k).isSome
|[]=>rfl
|p::r=>by
 rw[A88];by_cases e:p.1=k
 .simp only[pd e,A42 e,Bool.true_or,Option.isSome_some]
 .rw[pe e,A49 e,Bool.false_or];exact Au k r
theorem ml(aS:γ _)(k:κ)(v:V):(putK aS k v).length<=aS.length+1:=by
 unfold putK;split
 .rw[A09];lia
 .rw[A20,A24,A79];lia
theorem mJ.G'(r:mJ o u):o.isSome=u.isSome:=by
 cases o with
 |none=>cases u with
  |none=>rfl
  |some _=>exact(r).elim
 |some _=>cases u with
  |none=>exact(r).elim
  |some _=>rfl
theorem KV.val(r:KV aS vs)(k:κ):mJ (pf aS k) (valueAt vs k):=by
 induction r with
 |nil=>exact True.intro
 |@cons p q ps qs h t ih=>
  obtain⟨h1,h2⟩:=h;by_cases e:p.1=k
  .have e':=h1.symm.trans e;have b:valueAt (q::qs) k=AC q.2:=by simp[valueAt,e']
   rw[pd e,b];exact h2
  .have e':¬q.1=k:=λ z=>e<|h1.trans z;have b:valueAt (q::qs) k=valueAt qs k:=by simp[valueAt,e']
   rw[pe e,b];exact ih
theorem KV.any(r:KV aS vs)(k:κ):(aS.any λ kv=>decide<|kv.1=k)=vs.any λ kv=>decide (kv.1=k):=by
 induction r with
 |nil=>rfl
 |cons h t ih=>rw[A88,A88,ih,h.1]
theorem KV.RQ(r:KV aS vs)(k:κ)(ry:RelV y u):
 KV (aS.map λ kv=>if kv.1=k then(kv.1,y)else kv) (vs.map λ kv=>if kv.1=k then(kv.1,u)else kv):=by
 induction r with
 |nil=>exact .nil
 |@cons p q ps qs h t ih=>
  rw[A06,A06];refine .cons ?_ ih;obtain⟨h1,h2⟩:=h;by_cases e:p.1=k
  .rw[f8 e,f8<|h1.symm.trans e];exact⟨h1,ry⟩
  .rw[v6 e,v6 λ z=>e<|h1.trans z];exact⟨h1,h2⟩
theorem KV.put(r:KV aS vs)(k:κ)(ry:RelV y u):KV (putK aS k y) (stored vs k u):=by
 unfold putK stored;rw[r.any];by_cases e:(vs.any λ kv=>decide<|kv.1=k)=Da
 .rw[f8 e,f8 e];exact r.RQ k ry
 .rw[v6 e,v6 e];exact Paired.snoc r ⟨rfl,ry⟩
theorem KV.length{vs:γ (κ×ζ)}(r:KV aS vs):aS.length=vs.length:=Paired.length r
end
theorem Fo(r:RelV (kV k) u):(eu P w).is k u=Da:=by
 cases k with
 |inl i=>obtain⟨t,e⟩:=(r);subst e;exact Bk P w i t
 |inr x=>obtain⟨t,e⟩:=(r);subst e;exact Bj P w x t
theorem xM:∀{ks}{us},Vals (ks.map kV) us->ItemsAre (eu P w) ks us
|[],_,r=>by rw[A78]at r;cases r;exact .nil
|k::ks,_,r=>by
 rw[A06]at r;cases r with
 |cons h t=>exact .cons (Fo h)<|xM t
abbrev KT(H:Hp):γ (γ Key×V)->γ (γ Key×δ×ζ)->Prop:=Paired λ p q=>p.1=q.1/\H q.2.1=AC (.tup<|p.1.map kV)/\RelV p.2 q.2.2
theorem KT.val(r:KT H aS xs)(k:γ Key):mJ (pf aS k) ((atKey xs k).map (·.2)):=by
 induction r with
 |nil=>exact True.intro
 |@cons p q ps qs h t ih=>
  obtain⟨h1,_,h2⟩:=h;by_cases e:p.1=k
  .have e':=h1.symm.trans e;have b:atKey (q::qs) k=AC q.2:=by simp[atKey,e']
   rw[pd e,b];exact h2
  .have e':¬q.1=k:=λ z=>e<|h1.trans z;have b:atKey (q::qs) k=atKey qs k:=by simp[atKey,e']
   rw[pe e,b];exact ih
theorem KT.RQ(r:KT H aS xs)(k:γ Key)(ry:RelV y u):
 KT H (aS.map λ kv=>if kv.1=k then(kv.1,y)else kv) (xs.map<|putAt k u):=by
 induction r with
 |nil=>exact .nil
 |@cons p q ps qs h t ih=>
  rw[A06,A06];refine .cons ?_ ih;obtain⟨h1,h2,h3⟩:=h;unfold putAt;by_cases e:p.1=k
  .rw[f8 e,f8<|h1.symm.trans e];exact⟨h1,h2,ry⟩
  .rw[v6 e,v6 λ z=>e<|h1.trans z];exact⟨h1,h2,h3⟩
theorem KT.put(r:KT H aS xs)(k:γ Key)(hb:H b=AC (.tup<|k.map kV))(ry:RelV y u):
 KT H (putK aS k y) (storedH xs k b u):=by
 have e:(aS.any λ kv=>decide<|kv.1=k)=(atKey xs k).isSome:=by rw[Au,(r.val k).G',Option.isSome_map]
 unfold putK storedH;rw[e];by_cases q:(atKey xs k).isSome=Da
 .rw[f8 q,f8 q];exact r.RQ k ry
 .rw[v6 q,v6 q];exact Paired.snoc r ⟨rfl,hb,ry⟩
theorem KT.keeps(r:KT H aS xs)(ht:∀b ys,H b=AC (.tup ys)->H' b=AC (.tup ys)):KT H' aS xs:=
 Paired.G0 r λ _ _ z=>⟨z.1,ht _ _ z.2.1,z.2.2⟩
section
variable{P:ο}{w:ξ}{H:Hp}{h:μ}{a:δ}
theorem Qd(ok:lY P w H h)(e:Rd H a u):gE P w H h a u:=e.ok ok
theorem Lj(ok:lY P w H h)(e:Rd H a (.dK aS)):aS.length<=sizeLine/\(a==sysModules)=AT/\∃vs,KV aS vs/\h.DictOf (eu P w) a vs:=
 Qd ok e
theorem QQ(ok:lY P w H h)(e:H a=AC (.dK aS)):aS.length<=sizeLine/\(a==sysModules)=AT/\∃vs,KV aS vs/\h.DictOf (eu P w) a vs:=Lj ok<|.inl e
theorem DD(ok:lY P w H h)(e:H a=AC (.tup<|ks.map kV)):(tupleKind<|eu P w).is h ks a:=by
 obtain⟨_,bx,r,tn⟩:=(ok a _ e)
 obtain⟨o,h1,h2,n,h3⟩:=tn.is;exact⟨o,_,n,h1,h2,h3,by simpa using xM r⟩
theorem Lc(ok:lY P w H h)(e:Rd H a (.dT aS)):aS.length<=sizeLine/\(a == sysModules)=AT /\
 ∃xs,KT H aS xs/\h.DictOfH (tupleKind<|eu P w) a xs:=by
 obtain⟨z,y,xs,r,o,es,ep,h1,h2,h3,h4,h5⟩:=(Qd ok e)
 refine⟨z,y,xs,r,o,es,ep,h1,h2,h3,h4,λ x hx=>?_,h5⟩;have all:∀{l}{m},KT H l m->∀x∈m,(tupleKind<|eu P w).is h x.1 x.2.1:=by
  intro l m q
  induction q with
  |nil=>intro x hx;exact nomatch hx
  |@cons p q ps qs hq t ih=>
   intro x hx;rcases o0.mp hx with e|hx
   .subst e;exact DD ok (by rw[<-hq.1];exact hq.2.1)
   .exact ih x hx
 exact all r x hx
theorem xZ(ok:lY P w H h)(e:H a=AC (.dT aS)):aS.length<=sizeLine/\(a==sysModules)=AT /\
 ∃xs,KT H aS xs/\h.DictOfH (tupleKind<|eu P w) a xs:=Lc ok<|.inl e
end
def Cf(H:Hp)(a:δ)(y:V)(r:ε V):Prop:=
 (∃aS k,Rd H a (.dK aS)/\y=kV k/\r=pf aS k)\/∃aS k b,Rd H a (.dT aS)/\y=.ref b/\H b=AC (.tup<|k.map kV)/\r=pf aS k
def EB(H:Hp)(a:δ)(y v:V)(H':Hp):Prop:=
 (∃aS k,H a=AC (.dK aS)/\y=kV k/\aS.length<sizeLine/\H'=upd H a (.dK<|putK aS k v)) \/
 ∃aS k b,H a=AC (.dT aS)/\y=.ref b/\H b=AC (.tup<|k.map kV)/\aS.length<sizeLine/\H'=upd H a (.dT<|putK aS k v)
theorem Cf.k{k:Key}(e:H a=AC (.dK aS)):Cf H a (kV k) (pf aS k):=.inl ⟨aS,k,.inl e,rfl,rfl⟩
theorem EB.k{k:Key}(e:H a=AC (.dK aS))(hl:aS.length<sizeLine):EB H a (kV k) v (upd H a<|.dK<|putK aS k v):=.inl ⟨aS,k,e,rfl,hl,rfl⟩
section
variable{X:Cx}{χ:γ (δ×ν)}{σ:St}{H:Hp}{s:η}{a:δ}{y v:V}{u r:ζ}{o:ε V}{A:ς}{E:ζ->η->Prop}
theorem Inv.big(I:Inv X χ σ H s):sysModules<s.heap.objs.size:=by have h:=(I.mod.glob.keeps I.bk).lt;exact B16 (by decide) h
theorem Hv(hu:A.units+1<cLine)(I:Inv X χ σ H s)(g:Cf H a y (AC v))(ry:RelV y u)(h:∀w' s',Inv X χ σ H s'->RelV v w'->Q w' s'):
 FM (model X.prog X.w) A (getItem (.ref a) u) Q E s:=by
 rcases g with⟨aS,k,e,ey,l⟩|⟨aS,k,b,e,ey,eb,l⟩
 .subst ey;obtain⟨z,hd,vs,rel,dd⟩:=Lj I.bQ e;obtain⟨w',hw,M4⟩:=mJ.some_of (v:=v) (o:=valueAt vs k) (by rw[l];exact rel.val k);exact wpAny_getItem_of (Fo ry) dd.mapOf hw<|h w' _ (I.tok _) M4
 .subst ey;cases (ry);obtain⟨z,hd,xs,rel,dd⟩:=Lc I.bQ e;obtain⟨w',hw,M4⟩:=mJ.some_of (v:=v) (o:=(atKey xs k).map (·.2)) (by rw[l];exact rel.val k);obtain⟨p,hp,hp2⟩:=B42.mp hw;refine wpAny_getItem_heap (tupleKind_room_in1 hu) (DD I.bQ eb) dd hp ?_;rw[hp2];exact h w' _ (I.tok _) M4
theorem zQ(I:Inv X χ σ H s)(mu:Y3 (H a))(hs:Ix a s.heap h')(he:∃q,h'.get? a=AC q)(new:gE X.prog X.w (upd H a ob) h' a ob):
 Inv X χ σ (upd H a ob) {s with heap:=h',toks:=t'}:=
 I.write mu (.inl rfl) (λ b q hb z=>(hs.2 b hb).trans z) he new
theorem Lk(z:aS.length<=sizeLine)(hd:(a==sysModules)=AT)(rel:KV aS vs)(dd:h'.DictOf (eu P w) a vs):
 gE P w H' h' a (.dK aS):=⟨z,hd,vs,rel,dd⟩
theorem Hu(hu:A.units+1<cLine)(I:Inv X χ σ H s)(g:EB H a y v H')(ry:RelV y u)(rv:RelV v r)(h:∀s',Inv X χ σ H' s'->Q () s'):
 FM (model X.prog X.w) A (setItem (.ref a) u r) Q E s:=by
 rcases g with⟨aS,k,e,ey,l,eH⟩|⟨aS,k,b,e,ey,eb,l,eH⟩
 .subst ey eH;obtain⟨z,hd,vs,rel,dd⟩:=QQ I.bQ e;have hz:vs.length<=sizeLine:=by rw[<-rel.length];exact z
  have hl:(putK aS k v).length<=sizeLine:=by have:=ml aS k v;lia
  refine wpAny_setItem_pairs (Fo ry) dd λ h' QR hs=>h _ ?_;have he:∃q,h'.get? a=AC q:=let ⟨q,_,_,hq,_⟩:=QR;⟨q,hq⟩;exact zQ I (by rw[e];exact True.intro) hs he<|Lk hl hd (rel.put k rv) QR
 .subst ey eH;cases (ry);obtain⟨z,hd,xs,rel,dd⟩:=xZ I.bQ e;have hz:xs.length<=sizeLine:=by rw[<-Paired.length rel];exact z
  have hl:(putK aS k v).length<=sizeLine:=by have:=ml aS k v;lia
  refine wpAny_setItem_heap (tupleKind_room_in1 hu) (DD I.bQ eb) dd λ h' QR hs=>h _ ?_;obtain⟨q,es,ep,hq,h2,h3,h4,_,h5⟩:=QR;refine zQ I (by rw[e];exact True.intro) hs ⟨q,hq⟩ ⟨hl,hd,_,(rel.put k eb rv).keeps λ c ys ec=>?_,q,es,ep,hq,h2,h3,h4,h5⟩;rw[aD<|Qj ec e λ z=>nomatch z];exact ec
end
section
variable{X:Cx}{σ:St}{H:Hp}{s:η}{a:δ}{aS:γ (Key×V)}{k:Key}{u:ζ}{A:ς}{E:ζ->η->Prop}
end
def UM(i:ι):Prop:=∀ov iv,subscripted i AT ov iv=operate [ov,iv] (getItem ov iv)
theorem ML{T id:String}
 (hl:typeLookup (.type T) "__getitem__"=pure (AC<|.builtin id)) (hs:UM slice)
 (h:FM (model prog w) A (eval value env) (λ o s₁=>FM (model prog w) A (eval slice env) (λ i s₂=>s₂.TypeIs o T/\FM (model prog w) A (getItem o i) Q E s₂) E s₁) E s) :
 FM (model prog w) A (eval (.Subscript value slice pos) env) Q E s:=by
 refine Subscript_<|A19 h (λ o s₁ h₁=>A19 h₁ (λ i s₂ h₂=>?_) λ _ _ x=>x) λ _ _ x=>x;obtain⟨hT,h₂⟩:=h₂;refine T0 ?_;rw[getitemInPython_of_ne hT.not_modules];refine T0<|wpAny_specialOf hT hl ?_;have fin:FM (model prog w) A (subscripted slice AT o i) (λ r s₃=>FM (model prog w) A (letTemporaryGo value o r>>=λ _=>pure r) Q E s₃) E s₂:=by rw[hs];exact wpAny_operating<|A19 h₂ (λ r s₃ h₃=>T0<|wpAny_letTemporaryGo<|W1 h₃) λ _ _ x=>x
 first
  |exact W1<|T0 fin
  |exact T0 _
  |exact T0 fin
theorem BV(I:Inv X χ σ H s)(g:Cf H a y o):s.TypeIs (.ref a) "dict":=by
 rcases g with⟨aS,k,e,_,_⟩|⟨aS,k,b,e,_,_,_⟩
 .obtain⟨_,_,vs,_,dd⟩:=Lj I.bQ e;exact dd.typeIs
 .obtain⟨_,_,xs,_,dd⟩:=Lc I.bQ e;exact dd.typeIs
def VX(td ty:TE):TE:=λ σ H Q=>td σ H λ x H1=>ty σ H1 λ y H2=>∃a v,x=.ref a/\Cf H2 a y (AC v)/\Q v H2
def Jf(td ty tv:TE):TS:=λ D σ H=>tv σ H λ v H1=>td σ H1 λ x H2=>ty σ H2 λ y H3=>∃a H4,x=.ref a/\EB H3 a y v H4/\D.nx σ H4
section
variable{X:Cx}{o i e value:ι}{pos pos' afJ:Pos}{td ty tv:TE}
theorem Ng(hu:X.A.units+1<cLine)(ho:PE X o td)(hi:PE X i ty)(hs:UM i):PE X (.Subscript o i pos) (VX td ty):=by intro χ s σ H Q I h;refine ML PySem.F.slot_dict_getitem.lookup hs<|cS (ho χ s σ H _ I h) λ u s1 ⟨x,H1,I1,rx,q1⟩=>cS (hi χ s1 σ H1 _ I1 q1) λ iv s2 ⟨y,H2,I2,ry,a,v,ex,g,q2⟩=>?_;subst ex;obtain rfl:u=Value.ref a:=rx;exact⟨BV I2 g,Hv hu I2 g ry λ w' s3 I3 M4=>⟨v,H2,I3,M4,q2⟩⟩
theorem M8(hu:X.A.units+1<cLine)(ho:PE X o td)(hi:PE X i ty)(hv:PE X value tv)(hs:swapsWith value (AC<|.Subscript o i pos') pos.line X.env=pure AT):
 PS X (.Assign [.Subscript o i pos'] value pos) (Jf td ty tv):=by
 intro χ s σ H D I h;refine wpAny_Assign_Subscript (cS (hv χ s σ H _ I h) λ r s1 ⟨v,H1,I1,rv,q1⟩=>cS (ho χ s1 σ H1 _ I1 q1) λ u s2 ⟨x,H2,I2,rx,q2⟩=>cS (hi χ s2 σ H2 _ I2 q2) λ iv s3 ⟨y,H3,I3,ry,a,H4,ex,g,q3⟩=>?_) hs;subst ex;obtain rfl:u=Value.ref a:=rx;exact Hu hu I3 g ry rv λ s4 I4=>⟨σ,H4,I4,q3⟩
end
theorem Ll(h:μ)(hb:sysModules<h.objs.size):gE P w H (h.push {cls:=.type "dict",data:=.dict #[]}) h.objs.size (.dK []):=
 ⟨A41 _,A71.mpr<|A08<|A17 hb,[],.nil,Heap.DictOf.new h⟩
def yG:γ (TE×TE)->St->Hp->(γ (V×V)->Hp->Prop)->Prop
|[],_,H,Q=>Q [] H
|(tk,tv)::r,σ,H,Q=>tk σ H λ x H1=>tv σ H1 λ y H2=>yG r σ H2 λ ps H3=>Q ((x,y)::ps) H3
abbrev VV:γ (V×V)->γ (ζ×ζ)->Prop:=Paired λ p q=>RelV p.1 q.1/\RelV p.2 q.2
def Y0(X:Cx)(pos:Pos)(keys:γ (ε ι))(values:γ ι)(Rn:γ (TE×TE)):Prop:=
 ∀ (χ:γ (δ×ν))(s:η)(σ:St)(H:Hp)(Q:γ (V×V)->Hp->Prop),Inv X χ σ H s->yG Rn σ H Q ->
  FM (model X.prog X.w) X.A (evalPairs<|pairTrees keys values X.env pos) (λ vs s'=>∃ps H',Inv X χ σ H' s'/\VV ps vs/\Q ps H') X.xe s
theorem M':Y0 X pos [] [] []:=λ χ s σ H Q I h=>pairTrees_nil_walk ⟨[],H,I,.nil,h⟩
theorem Jt(hk:PE X k tk)(hv:PE X v tv)(hr:Y0 X pos ks vs Rn):
 Y0 X pos (AC k::ks) (v::vs) ((tk,tv)::Rn):=λ χ s σ H Q I h=>
 pairTrees_cons_walk<|cS (hk χ s σ H _ I h) λ u s1 ⟨x,H1,I1,rx,q1⟩=>cS (hv χ s1 σ H1 _ I1 q1) λ w2 s2 ⟨y,H2,I2,ry,q2⟩=>cS (hr χ s2 σ H2 _ I2 q2) λ ws s3 ⟨ps,H3,I3,rel,q3⟩=>⟨(x,y)::ps,H3,I3,.cons ⟨rx,ry⟩ rel,q3⟩
def qO(aS more:γ (Key×V)):γ (Key×V):=more.foldl (λ acc kv=>putK acc kv.1 kv.2) aS
theorem KV.merge:∀{more}{rs}{aS}{vs},KV more rs->KV aS vs->KV (qO aS more) (merged vs rs):=by
 intro more rs aS vs r
 induction r generalizing aS vs with
 |nil=>intro q;exact q
 |@cons p q ps qs h t ih=>
  intro r0;have e:KV (putK aS p.1 p.2) (stored vs q.1 q.2):=by have:=r0.put p.1 h.2;rw[<-h.1];exact this
  exact ih e
theorem nL:∀more aS,(qO aS more).length<=aS.length+more.length
|[],aS=>by show aS.length<=aS.length+0;lia
|p::r,aS=>by have h1:=nL r<|putK aS p.1 p.2;have h2:=ml aS p.1 p.2;show(qO _ r).length<=_;rw[A24];lia
theorem vP:∀{aS}{ws},VV (aS.map λ kv=>(kV kv.1,kv.2)) ws->∃rs,Carries (eu P w) ws rs/\KV aS rs
|[],_,r=>by rw[A78]at r;cases r;exact⟨[],True.intro,.nil⟩
|p::aS,_,r=>by
 rw[A06]at r;cases r with
 |@cons a b as bs h t=>obtain⟨rs,c,q⟩:=vP (P:=P) (w:=w) t;obtain⟨b1,b2⟩:=b;exact⟨(p.1,b2)::rs,⟨Fo h.1,rfl,c⟩,.cons ⟨rfl,h.2⟩ q⟩
def VW(Rn:γ (TE×TE)):TE:=λ σ H Q=>∀p,H p=Ch->yG Rn σ (upd H p<|.dK []) λ ps H2=>H2 p=AC (.dK [])/\∃aS:γ (Key×V),ps=aS.map (λ kv=>(kV kv.1,kv.2))/\aS.length<=15/\Q (.ref p) (upd H2 p<|.dK<|qO [] aS)
theorem Nf(h:Y0 X pos keys values Rn)(hall:keys.all (·.isSome)=Da)(hl:keys.length=values.length)(h0:keys≠[])
 (h15:keys.length<=15):PE X (.Dict keys values pos) (VW Rn):=by
 intro χ s σ H Q I q;have hn:=I.bQ.fresh<|M2 _;have I1:=I.laid (t':=s.toks) (λ _ _ q=>A00 _ q) (M2 _)<|Ll _ I.big;refine wpAny_Dict_walk (knd:=eu _ X.w) hall hl h0 h15<|cS (h χ _ σ _ _ I1<|q _ hn) λ ws s2 ⟨ps,H2,I2,rel,e,aS,ep,lk,q2⟩=>?_;subst ep;obtain⟨rs,c,rk⟩:=vP (P:=X.prog) (w:=X.w) rel;obtain⟨z,hd,vs0,r0,dd⟩:=QQ I2.bQ e;cases r0;refine⟨rs,c,dd,λ h' QR hs=>⟨.ref _,_,?_,rfl,q2⟩⟩;have hz:(qO [] aS).length<=sizeLine:=by have h1:=nL aS [];rw[A79]at h1;rw[A27];lia
 have he:∃q,h'.get? _=AC q:=let ⟨q,_,_,hq,_⟩:=QR;⟨q,hq⟩;exact zQ I2 (by rw[e];exact True.intro) hs he<|Lk hz hd (rk.merge .nil) QR
end L2
set_option genSizeOf true
namespace Z
inductive D where
|non
|bl (b:Bool)
|int (i:Int)
|str (cs:List Nat)
|tup (xs:List D)
|lst (xs:List D)
|dct (ks:List (Sum Int<|List Nat)) (vs:List D)
inductive Res(α:Type) where
|ok (a:α)
|bad
namespace Res
def bind{α β:Type}(r:Res α)(f:α->Res β):Res β:=
 match r with
 |ok a=>f a
 |bad=>bad
@[simp] theorem fB(a:α)(f:α->Res β):(Res.ok a).bind f=f a:=rfl
@[simp] theorem YO(f:α->Res β):(Res.bad).bind f=bad:=rfl
def map{α β:Type}(f:α->β)(r:Res α):Res β:=
 match r with
 |ok a=>ok<|f a
 |bad=>bad
@[simp] theorem abg(a:α)(f:α->β):(Res.ok a).map f=ok (f a):=rfl
@[simp] theorem Z7(f:α->β):(Res.bad).map f=bad:=rfl
theorem aq{f:α->Res β}(h:r.bind f=ok b):∃a,r=ok a/\f a=ok b:=by
 cases r with
 |ok a=>exact⟨a,rfl,h⟩
 |bad=>cases h
end Res
open Classical in
def guard{α:Type}(p:Prop)(r:Res α):Res α:=if p then r else .bad
@[simp] theorem guard_true(r:Res α):guard True r=r:=by exact f8 trivial
theorem guard_pos{r:Res α}(h:p):guard p r=r:=by exact f8 h
theorem cX{a:α}(h:guard p r=.ok a):p/\r=.ok a:=by
 unfold guard at h;split at h
 .rename_i q;exact⟨q,h⟩
 .cases h
inductive L where
|val (d:D)
|own (xs:List D)
|bor (d:D)
|dc (k:List (List Int) ⊕ List (List Nat×List Nat))
|Aj (ks:List (List Int))
|Qp (ps:List (Int×Int))
|exc (c:List Nat×List (List Nat×D))
abbrev L.Af(aS:γ (γ Nat×γ Nat)):L:=.dc<|.inr aS
abbrev DK:=γ (γ Int) ⊕ γ (γ Nat×γ Nat)
abbrev Env:=γ<|ε L
abbrev EF:=Env->Res D
abbrev LF:=Env->Res (γ D)
abbrev TF:=Env->Res Bool
abbrev AF:=Env->Res (γ D)
inductive Fl where
|nx (ρ:Env)
|rt (d:D)
|bk (ρ:Env)
|ct (ρ:Env)
abbrev SF:=Env->Res Fl
abbrev GF:=D->Env->Res Env
abbrev line:Nat:=16777216
def dg:γ (γ Nat):=[[104,97,108,108],[103,117,101,115,116,115],[104,101,108,100],[112,108,97,99,101,115]]
def ib(a kd:Nat)(ks:γ (γ Nat))(vs:γ D):D:=.dct (.inl a::.inl kd::ks.map .inr) vs
def eC(d:D)(_:Env):Res D:=.ok d
def eV(i:Nat)(ρ:Env):Res D:=match ρ[i]? with
|some<|some<|.val d=>.ok d
|_=>.bad
def eW(i:Nat)(ρ:Env):Res D:=match ρ[i]? with
|some<|some<|.val d=>.ok d
|some<|some<|.own xs=>.ok<|.lst xs
|some<|some<|.bor<|.lst xs=>.ok<|.lst xs
|_=>.bad
def eB(op:D->D->Res D)(a b:EF)(ρ:Env):Res D:=(a ρ).bind λ x=>(b ρ).bind λ y=>op x y
def eU(op:D->Res D)(a:EF)(ρ:Env):Res D:=(a ρ).bind op
def vG(a b:EF)(ρ:Env):Res D:=(a ρ).bind λ x=>match x with
|.bl c=>if c then b ρ else .ok (.bl AT)
|_=>.bad
def QF(a b:EF)(ρ:Env):Res D:=(a ρ).bind λ x=>match x with
|.bl c=>if c then .ok (.bl Da)else b ρ
|_=>.bad
def La(a:EF)(ρ:Env):Res D:=(a ρ).bind λ x=>match x with
|.bl c=>.ok<|.bl !c
|_=>.bad
def iA(op GB:D->D->Res D)(a b c:EF)(ρ:Env):Res D:=(a ρ).bind λ x=>(b ρ).bind λ y=>(op x y).bind λ z=>match z with
|.bl k=>if k then(c ρ).bind λ w=>GB y w else .ok (.bl AT)
|_=>.bad
def eIf(t:TF)(a b:EF)(ρ:Env):Res D:=(t ρ).bind λ c=>if c then a ρ else b ρ
def eL(l:LF)(ρ:Env):Res D:=(l ρ).map D.lst
def az(_:Env):Res (γ D):=.ok []
def aa(a:EF)(r:AF)(ρ:Env):Res (γ D):=(a ρ).bind λ x=>(r ρ).bind λ xs=>.ok<|x::xs
def bC(as:AF)(ρ:Env):Res (γ D):=(as ρ).bind λ xs=>guard (xs.length<=line)<|.ok xs
def cZ(as:AF)(ρ:Env):Res D:=(as ρ).bind λ xs=>guard (xs.length<=line)<|.ok<|.tup xs
def aA(f:γ D->Res D)(as:AF)(ρ:Env):Res D:=(as ρ).bind f
def tE(a:EF)(ρ:Env):Res Bool:=(a ρ).bind λ x=>match x with
|.bl c=>.ok c
|_=>.bad
def CO(a b:TF)(ρ:Env):Res Bool:=(a ρ).bind λ c=>if c then b ρ else .ok AT
def Ag(a b:TF)(ρ:Env):Res Bool:=(a ρ).bind λ c=>if c then .ok Da else b ρ
def fz(a:TF)(ρ:Env):Res Bool:=(a ρ).bind λ c=>.ok !c
def bits(a:Int):Nat:=if a=0 then 0 else a.natAbs.log2+1
def aU:D->D->Res D
|.int a,.int b=>.ok<|.int<|a+b
|.str a,.str b=>guard (a.length+b.length<=line)<|.ok<|.str<|a++b
|.tup a,.tup b=>guard (a.length+b.length<=line)<|.ok<|.tup<|a++b
|_,_=>.bad
def GH:D->D->Res D
|.int a,.int b=>.ok<|.int<|a-b
|_,_=>.bad
def cm(a b:Int):Prop:=((-18446744073709551616<a/\a<18446744073709551616)\/(-18446744073709551616<b/\b<18446744073709551616)\/(bits a<=16777216/\bits b<=16777216))
def jy:D->D->Res D
|.int a,.int b=>guard (cm a b)<|.ok<|.int<|a*b
|_,_=>.bad
def lE(b:Int):Prop:=0<b/\b<1809251394333065553493296640760748560207343510400633813116524750123642650624
def oDiv:D->D->Res D
|.int a,.int b=>guard (lE b)<|.ok<|.int<|a / b
|_,_=>.bad
def oMod:D->D->Res D
|.int a,.int b=>guard (0<b)<|.ok<|.int<|a % b
|_,_=>.bad
def WJ:D->D->Res D
|.int a,.int b=>guard (0<=b)<|.ok<|.int<|a / 2^b.toNat
|_,_=>.bad
def uN:D->D->Res D
|.int a,.int b=>guard (0<=b/\b<=1000000/\a.natAbs<2^64)<|.ok<|.int<|a^b.toNat
|_,_=>.bad
def Ba:D->Res D
|.int a=>.ok<|.int<|-a
|_=>.bad
def HS:γ Nat->γ Nat->Bool
|[],[]=>AT
|[],_::_=>Da
|_::_,[]=>AT
|a::as,b::bs=>if a<b then Da else if a=b then HS as bs else AT
def oLt:D->D->Res D
|.int a,.int b=>.ok<|.bl<|decide<|a<b
|_,_=>.bad
def oLe:D->D->Res D
|.int a,.int b=>.ok<|.bl<|decide<|a<=b
|.str a,.str b=>.ok<|.bl<|!(HS b a)
|_,_=>.bad
def Sx:D->D->Res D
|.int a,.int b=>.ok<|.bl<|decide<|b<a
|_,_=>.bad
def Z1:D->D->Res D
|.int a,.int b=>.ok<|.bl<|decide<|b<=a
|_,_=>.bad
def FF:D->D->ε Bool
|.non,.non=>AC Da
|.bl a,.bl b=>AC<|a==b
|.bl a,.int b=>AC<|(if a then 1 else 0)==b
|.int a,.bl b=>AC<|a==(if b then 1 else 0)
|.int a,.int b=>AC<|a==b
|.str a,.str b=>AC<|a==b
|.non,.bl _=>AC AT
|.non,.int _=>AC AT
|.non,.str _=>AC AT
|.bl _,.non=>AC AT
|.bl _,.str _=>AC AT
|.int _,.non=>AC AT
|.int _,.str _=>AC AT
|.str _,.non=>AC AT
|.str _,.bl _=>AC AT
|.str _,.int _=>AC AT
|_,_=>Ch
def allEq(f:D->D->ε Bool):γ D->γ D->ε Bool
|[],[]=>AC Da
|[],_::_=>AC AT
|_::_,[]=>AC AT
|a::as,b::bs=>match f a b,allEq f as bs with
 |some x,AC y=>AC<|x&&y
 |_,_=>Ch
def iz:Nat->D->D->ε Bool
|n+1,.tup a,.tup b=>allEq (iz n) a b
|n+1,.lst a,.lst b=>allEq (iz n) a b
|_,.tup _,.lst _=>AC AT
|_,.lst _,.tup _=>AC AT
|_,.tup _,.non=>AC AT
|_,.tup _,.bl _=>AC AT
|_,.tup _,.int _=>AC AT
|_,.tup _,.str _=>AC AT
|_,.non,.tup _=>AC AT
|_,.bl _,.tup _=>AC AT
|_,.int _,.tup _=>AC AT
|_,.str _,.tup _=>AC AT
|_,.lst _,.non=>AC AT
|_,.lst _,.bl _=>AC AT
|_,.lst _,.int _=>AC AT
|_,.lst _,.str _=>AC AT
|_,.non,.lst _=>AC AT
|_,.bl _,.lst _=>AC AT
|_,.int _,.lst _=>AC AT
|_,.str _,.lst _=>AC AT
|_,x,y=>FF x y
def iW:D->D->ε Bool:=iz 6
def oEq(a b:D):Res D:=match iW a b with
|some x=>.ok<|.bl x
|none=>.bad
def pO(a b:D):Res D:=match iW a b with
|some x=>.ok<|.bl !x
|none=>.bad
def qL:D->Res D
|.non=>.ok<|.bl Da
|_=>.ok<|.bl AT
def xD:D->Res D
|.non=>.ok<|.bl AT
|_=>.ok<|.bl Da
def uO:D->D->Res D
|.str [c],.str t=>.ok<|.bl<|t.contains c
|_,_=>.bad
def h!(x:D):γ D->ε Bool
|[]=>AC AT
|y::r=>match iW y x,h! x r with
 |some a,AC b=>AC<|a||b
 |_,_=>Ch
def Dj:D->D->Res D
|x,.tup ys=>match h! x ys with
 |some b=>.ok<|.bl b
 |none=>.bad
|x,.lst ys=>match h! x ys with
 |some b=>.ok<|.bl b
 |none=>.bad
|_,_=>.bad
def mh:D->D->Res D
|x,.tup ys=>match h! x ys with
 |some b=>.ok<|.bl !b
 |none=>.bad
|x,.lst ys=>match h! x ys with
 |some b=>.ok<|.bl !b
 |none=>.bad
|_,_=>.bad
def dM:D->Res D
|.str t=>guard (t.length<=line)<|.ok<|.int t.length
|.tup xs=>.ok<|.int xs.length
|.lst xs=>.ok<|.int xs.length
|_=>.bad
inductive Ty where
|bool|int|str|tuple|list|dict
def cF:Ty->D->Bool
|.bool,.bl _=>Da
|.int,.bl _=>Da
|.int,.int _=>Da
|.str,.str _=>Da
|.tuple,.tup _=>Da
|.list,.lst _=>Da
|.dict,.dct _ _=>Da
|_,_=>AT
def ig(t:Ty)(x:D):Res D:=.ok<|.bl<|cF t x
def wb(n:Nat)(i:Int):ε Nat:=if 0<=i then(if i<n then AC i.toNat else Ch)else if -(n:Int)<=i then AC (i+n).toNat else Ch
def aT:D->D->Res D
|.tup xs,.int i=>match (wb xs.length i).bind λ j=>xs[j]? with
 |some v=>.ok v
 |none=>.bad
|.lst xs,.int i=>match (wb xs.length i).bind λ j=>xs[j]? with
 |some v=>.ok v
 |none=>.bad
| .str cs,.int i=>guard (cs.length<=line) (match (wb cs.length i).bind λ j=>cs[j]? with
 |some c=>.ok<|.str [c]
 | none=>.bad)
|_,_=>.bad
def eI(n d:Nat):ε Int->Nat
|none=>d
|some i=>if i<0 then(i+n).toNat else min i.toNat n
def cut{α:Type}(xs:γ α)(lo hi:ε Int):γ α:=(xs.drop<|eI xs.length 0 lo).take<|eI xs.length xs.length hi-eI xs.length 0 lo
abbrev PF:=Env->Res (ε Int)
def JF(_:Env):Res (ε Int):=.ok Ch
def C9(a:EF)(ρ:Env):Res (ε Int):=(a ρ).bind λ x=>match x with
|.int i=>.ok<|some i
|_=>.bad
def WH:D->ε Int->ε Int->Res D
|.str cs,lo,hi=>guard (cs.length<=line)<|.ok<|.str<|cut cs lo hi
|.tup xs,lo,hi=>.ok<|.tup<|cut xs lo hi
|_,_,_=>.bad
def QD(a:EF)(lo hi:PF)(ρ:Env):Res D:=(a ρ).bind λ x=>(lo ρ).bind λ l=>(hi ρ).bind λ h=>WH x l h
def N_(a:EF)(lo hi:PF)(ρ:Env):Res (γ D):=(a ρ).bind λ x=>(lo ρ).bind λ l=>(hi ρ).bind λ h=>match x with
|.lst xs=>.ok<|cut xs l h
|_=>.bad
def kh(a b:EF)(ρ:Env):Res (γ D):=(a ρ).bind λ x=>(b ρ).bind λ y=>match x,y with
|.lst xs,.lst ys=>guard (xs.length+ys.length<=line)<|.ok<|xs++ys
|_,_=>.bad
def allB:γ D->ε Bool
|[]=>AC Da
|.bl b::r=>(allB r).map (b&&·)
|_::_=>Ch
def fP:D->Res D
|.lst xs=>match allB xs with
 |some b=>.ok<|.bl b
 |none=>.bad
|_=>.bad
def lU:D->Res (γ D)
|.tup xs=>.ok xs
|.lst xs=>.ok xs
|.str cs=>.ok<|cs.map λ c=>.str [c]
|_=>.bad
def gi(a:EF)(ρ:Env):Res (γ D):=(a ρ).bind lU
def zints(lo:Int)(n:Nat):γ D:=(FB n).map λ i=>D.int<|lo+(i:Nat)
def jC(a:EF)(ρ:Env):Res (γ D):=(a ρ).bind λ x=>match x with
|.int j=>.ok<|zints 0 j.toNat
|_=>.bad
def By(a b:EF)(ρ:Env):Res (γ D):=(a ρ).bind λ x=>(b ρ).bind λ y=>match x,y with
|.int i,.int j=>.ok<|zints i (j-i).toNat
|_,_=>.bad
def bf(i:Nat)(d:D)(ρ:Env):Res Env:=.ok<|ρ.set i<|some<|.val d
def vp:γ Nat->γ D->Env->Res Env
|[],[],ρ=>.ok ρ
|i::is,d::ds,ρ=>vp is ds<|ρ.set i<|some<|.val d
|_,_,_=>.bad
def jd(is:γ Nat)(d:D)(ρ:Env):Res Env:=match d with
|.tup ds=>vp is ds ρ
|_=>.bad
def qf(ρ:Env)(i:Nat):ε L:=match ρ[i]? with
|some<|some<|.val d=>AC<|.val d
|some<|some<|.bor d=>AC<|.bor d
|some<|some<|.Aj ks=>AC<|.Aj ks
|_=>Ch
def eZ(ρ:Env)(is:γ Nat):Env:=is.map<|qf ρ
def bU(g:GF)(t:TF)(e:EF)(ρ:Env):γ D->Res (γ D)
|[]=>.ok []
|d::r=>(g d ρ).bind λ ρ1=>(t ρ1).bind λ c=>if c then(e ρ1).bind λ y=>(bU g t e ρ r).bind λ ys=>.ok (y::ys)else bU g t e ρ r
def cP(it:LF)(n:Nat)(is:γ Nat)(g:GF)(t:TF)(e:EF)(ρ:Env):Res (γ D):=(it ρ).bind λ ds=>guard (ds.length<=line)<|bU g t e (EQ n Ch++eZ ρ is) ds
def cy(_:Env):Res Bool:=.ok Da
def a5(ρ:Env):Res Fl:=.ok<|.nx ρ
def aN(a b:SF)(ρ:Env):Res Fl:=(a ρ).bind λ fl=>match fl with
|.nx ρ'=>b ρ'
|o=>.ok o
def a6(i:Nat)(e:EF)(ρ:Env):Res Fl:=(e ρ).bind λ d=>.ok<|.nx<|ρ.set i<|some<|.val d
def qC(i:Nat)(e:LF)(ρ:Env):Res Fl:=(e ρ).bind λ xs=>.ok<|.nx<|ρ.set i<|some<|.own xs
def fA(t:TF)(a b:SF)(ρ:Env):Res Fl:=(t ρ).bind λ c=>if c then a ρ else b ρ
def aY(e:EF)(ρ:Env):Res Fl:=(e ρ).bind λ d=>.ok<|.rt d
def Je(e:EF)(ρ:Env):Res Fl:=(e ρ).bind λ _=>.ok<|.nx ρ
def dZ(i:Nat)(ρ:Env):Env:=match ρ[i]? with
|some<|some<|.own xs=>ρ.set i<|some<|.val<|.lst xs
|_=>ρ
def C0(i:Nat)(a:SF)(ρ:Env):Res Fl:=a<|dZ i ρ
def i!(i:Nat)(e:EF)(ρ:Env):Res Fl:=(e ρ).bind λ d=>match ρ[i]? with
|some<|some<|.own xs=>guard (xs.length<line)<|.ok<|.nx<|ρ.set i<|some<|.own<|xs++[d]
|_=>.bad
def RN(i:Nat)(k e:EF)(ρ:Env):Res Fl:=(e ρ).bind λ d=>(k ρ).bind λ z=>match z,ρ[i]? with
| .int z,AC<|some<|.own xs=>(match wb xs.length z with
 |some j=>.ok<|.nx<|ρ.set i<|some<|.own<|xs.set j d
 | none=>.bad)
|_,_=>.bad
def gP(g:GF)(b:SF):γ D->Env->Res Fl
|[],ρ=>.ok<|.nx ρ
|d::r,ρ=>(g d ρ).bind λ ρ1=>(b ρ1).bind λ fl=>match fl with
 |.nx ρ'=>gP g b r ρ'
 |.ct ρ'=>gP g b r ρ'
 |.bk ρ'=>.ok<|.nx ρ'
 |.rt d=>.ok<|.rt d
def iR(it:LF)(g:GF)(b:SF)(ρ:Env):Res Fl:=(it ρ).bind λ ds=>gP g b ds ρ
def start(n:Nat)(ds:γ D):Env:=ds.map (λ d=>AC<|.val d)++EQ (n-ds.length) Ch
def fn(ps n:Nat)(b:SF)(ds:γ D):Res D:=if ds.length=ps then(match b (start n ds)with
|.ok<|.rt d=>.ok d
|.ok<|.nx _=>.ok .non
| _=>.bad)else .bad
def sI:Bool->D->L
|true,.lst xs=>.bor<|.lst xs
|true,.dct ks vs=>.bor<|.dct ks vs
|_,d=>.val d
def startB(n:Nat)(bs:γ Bool)(ds:γ D):Env:=(cr (λ b d=>AC<|sI b d) bs ds)++EQ (n-ds.length) Ch
def Ck(bs:γ Bool)(n:Nat)(b:SF)(ds:γ D):Res D:=if ds.length=bs.length then(match b (startB n bs ds)with
|.ok<|.rt d=>.ok d
|.ok<|.nx _=>.ok .non
| _=>.bad)else .bad
end Z
open Z renaming Res.aq→bd
set_option genSizeOf false
namespace Z
@[simp] theorem ac2(d:D)(ρ:Env):eC d ρ=.ok d:=rfl
@[simp] theorem ac4(o:D->D->Res D)(a b:EF)(ρ:Env):eB o a b ρ=(a ρ).bind λ x=>(b ρ).bind λ y=>o x y:=rfl
@[simp] theorem acW(o:D->Res D)(a:EF)(ρ:Env):eU o a ρ=(a ρ).bind o:=rfl
@[simp] theorem aik(l:LF)(ρ:Env):eL l ρ=(l ρ).map D.lst:=rfl
@[simp] theorem adq(ρ:Env):az ρ=.ok []:=rfl
@[simp] theorem _O(a:EF)(r:AF)(ρ:Env):aa a r ρ=(a ρ).bind λ x=>(r ρ).bind λ xs=>.ok (x::xs):=rfl
@[simp] theorem _G(f:γ D->Res D)(as:AF)(ρ:Env):aA f as ρ=(as ρ).bind f:=rfl
@[simp] theorem Zy(ρ:Env):a5 ρ=.ok (.nx ρ):=rfl
@[simp] theorem aao(i:Nat)(e:EF)(ρ:Env):a6 i e ρ=(e ρ).bind λ d=>.ok (.nx<|ρ.set i<|some<|.val d):=rfl
@[simp] theorem aas(i:Nat)(e:LF)(ρ:Env):qC i e ρ=(e ρ).bind λ d=>.ok (.nx<|ρ.set i<|some<|.own d):=rfl
@[simp] theorem aap(e:EF)(ρ:Env):aY e ρ=(e ρ).bind λ d=>.ok (.rt d):=rfl
@[simp] theorem adW(t:TF)(a b:SF)(ρ:Env):fA t a b ρ=(t ρ).bind λ c=>if c then a ρ else b ρ:=rfl
@[simp] theorem afh(t:TF)(a b:EF)(ρ:Env):eIf t a b ρ=(t ρ).bind λ c=>if c then a ρ else b ρ:=rfl
@[simp] theorem C1(it:LF)(g:GF)(b:SF)(ρ:Env):iR it g b ρ=(it ρ).bind λ ds=>gP g b ds ρ:=rfl
def Ja(b:SF):Fl->Res Fl
|.nx ρ'=>b ρ'
|o=>.ok o
@[simp] theorem oq(a b:SF)(ρ:Env):aN a b ρ=(a ρ).bind (Ja b):=rfl
@[simp] theorem mS(b:SF)(ρ:Env):Ja b (.nx ρ)=b ρ:=rfl
@[simp] theorem Zs(b:SF)(d:D):Ja b (.rt d)=.ok (.rt d):=rfl
@[simp] theorem Zu(b:SF)(ρ:Env):Ja b (.bk ρ)=.ok (.bk ρ):=rfl
@[simp] theorem Zt(b:SF)(ρ:Env):Ja b (.ct ρ)=.ok (.ct ρ):=rfl
def VH:D->Res Bool
|.bl c=>.ok c
|_=>.bad
@[simp] theorem af3(a:EF)(ρ:Env):tE a ρ=(a ρ).bind VH:=rfl
@[simp] theorem Zi(c:Bool):VH (.bl c)=.ok c:=rfl
@[simp] theorem Zm(ρ:Env):cy ρ=.ok Da:=rfl
@[simp] theorem aai(a b:TF)(ρ:Env):CO a b ρ=(a ρ).bind λ c=>if c then b ρ else .ok AT:=rfl
@[simp] theorem adR(a b:TF)(ρ:Env):Ag a b ρ=(a ρ).bind λ c=>if c then .ok Da else b ρ:=rfl
@[simp] theorem _'(a:TF)(ρ:Env):fz a ρ=(a ρ).bind λ c=>.ok !c:=rfl
def B_(f:Bool->Res D):D->Res D
|.bl c=>f c
|_=>.bad
@[simp] theorem YM(f:Bool->Res D)(c:Bool):B_ f (.bl c)=f c:=rfl
@[simp] theorem ac5(a b:EF)(ρ:Env):vG a b ρ=(a ρ).bind (B_ λ c=>if c then b ρ else .ok (.bl AT)):=rfl
@[simp] theorem afg(a b:EF)(ρ:Env):QF a b ρ=(a ρ).bind (B_ λ c=>if c then .ok (.bl Da)else b ρ):=rfl
@[simp] theorem acY(a:EF)(ρ:Env):La a ρ=(a ρ).bind (B_ λ c=>.ok<|.bl !c):=rfl
@[simp] theorem YB(o o':D->D->Res D)(a b c:EF)(ρ:Env):iA o o' a b c ρ=(a ρ).bind λ x=>(b ρ).bind λ y=>(o x y).bind (B_ λ k=>if k then(c ρ).bind λ w=>o' y w else .ok (.bl AT)):=rfl
@[simp] theorem W7(a b:Int):aU (.int a) (.int b)=.ok (.int<|a+b):=rfl
@[simp] theorem WE(a b:Int):GH (.int a) (.int b)=.ok (.int<|a-b):=rfl
@[simp] theorem WT(a b:Int):jy (.int a) (.int b)=guard (cm a b) (.ok<|.int<|a*b):=rfl
@[simp] theorem W5(a b:Int):oDiv (.int a) (.int b)=guard (lE b) (.ok<|.int<|a / b):=rfl
@[simp] theorem WU(a b:Int):oMod (.int a) (.int b)=guard (0<b) (.ok<|.int<|a % b):=rfl
@[simp] theorem WI(a b:Int):WJ (.int a) (.int b)=guard (0<=b) (.ok<|.int<|a / 2^b.toNat):=rfl
@[simp] theorem ZT(a b:Int):oLt (.int a) (.int b)=.ok (.bl<|decide<|a<b):=rfl
@[simp] theorem ZV(a b:Int):oLe (.int a) (.int b)=.ok (.bl<|decide<|a<=b):=rfl
@[simp] theorem ZU(a b:γ Nat):oLe (.str a) (.str b)=.ok (.bl<|!(HS b a)):=rfl
@[simp] theorem ZZ(a b:Int):Sx (.int a) (.int b)=.ok (.bl<|decide<|b<a):=rfl
@[simp] theorem Z0(a b:Int):Z1 (.int a) (.int b)=.ok (.bl<|decide<|b<=a):=rfl
@[simp] theorem Z3(a b:Int):oEq (.int a) (.int b)=.ok (.bl<|a==b):=rfl
@[simp] theorem aa4(a b:Bool):oEq (.bl a) (.bl b)=.ok (.bl<|a==b):=rfl
@[simp] theorem Z2(a b:γ Nat):oEq (.str a) (.str b)=.ok (.bl<|a==b):=rfl
@[simp] theorem ZR(a b:Int):pO (.int a) (.int b)=.ok (.bl<|!(a==b)):=rfl
@[simp] theorem aa1(a b:Bool):pO (.bl a) (.bl b)=.ok (.bl<|!(a==b)):=rfl
@[simp] theorem ZP(a b:γ Nat):pO (.str a) (.str b)=.ok (.bl<|!(a==b)):=rfl
@[simp] theorem WZ(a:γ Nat):dM (.str a)=guard (a.length<=line) (.ok<|.int a.length):=rfl
@[simp] theorem WY(a:γ D):dM (.tup a)=.ok (.int a.length):=rfl
@[simp] theorem W0(a:γ D):dM (.lst a)=.ok (.int a.length):=rfl
@[simp] theorem ZW(t:Ty)(x:D):ig t x=.ok (.bl<|cF t x):=rfl
@[simp] theorem ad5(ρ:Env):JF ρ=.ok Ch:=rfl
def XJ:D->Res (ε Int)
|.int i=>.ok<|some i
|_=>.bad
@[simp] theorem XI(i:Int):XJ (.int i)=.ok (AC i):=rfl
@[simp] theorem ad6(a:EF)(ρ:Env):C9 a ρ=(a ρ).bind XJ:=rfl
@[simp] theorem aff(a:EF)(lo hi:PF)(ρ:Env):QD a lo hi ρ=(a ρ).bind λ x=>(lo ρ).bind λ l=>(hi ρ).bind λ h=>WH x l h:=rfl
@[simp] theorem abC(a:EF)(ρ:Env):gi a ρ=(a ρ).bind lU:=rfl
def Qc:D->Res (γ D)
|.int j=>.ok<|zints 0 j.toNat
|_=>.bad
@[simp] theorem _k(a:EF)(ρ:Env):jC a ρ=(a ρ).bind Qc:=rfl
@[simp] theorem UY(j:Int):Qc (.int j)=.ok (zints 0 j.toNat):=rfl
def Qb:D->D->Res (γ D)
|.int i,.int j=>.ok<|zints i (j-i).toNat
|_,_=>.bad
@[simp] theorem _j(a b:EF)(ρ:Env):By a b ρ=(a ρ).bind λ x=>(b ρ).bind λ y=>Qb x y:=rfl
@[simp] theorem UX(i j:Int):Qb (.int i) (.int j)=.ok (zints i (j-i).toNat):=rfl
@[simp] theorem U8(xs:γ D):lU (.tup xs)=.ok xs:=rfl
@[simp] theorem U'(xs:γ D):lU (.lst xs)=.ok xs:=rfl
@[simp] theorem U9(cs:γ Nat):lU (.str cs)=.ok (cs.map λ c=>.str [c]):=rfl
@[simp] theorem _B(i:Nat)(d:D)(ρ:Env):bf i d ρ=.ok (ρ.set i<|some<|.val d):=rfl
theorem bX(it:LF)(n:Nat)(is:γ Nat)(g:GF)(t:TF)(e:EF)(ρ:Env):cP it n is g t e ρ=(it ρ).bind λ ds=>guard (ds.length<=line) (bU g t e (EQ n Ch++eZ ρ is) ds):=rfl
@[simp] theorem Z'(as:AF)(ρ:Env):bC as ρ=(as ρ).bind λ xs=>guard (xs.length<=line) (.ok xs):=rfl
@[simp] theorem acX(as:AF)(ρ:Env):cZ as ρ=(as ρ).bind λ xs=>guard (xs.length<=line) (.ok<|.tup xs):=rfl
def bH:Res Fl->Res D
|.ok<|.rt d=>.ok d
|.ok<|.nx _=>.ok .non
|_=>.bad
@[simp] theorem ZJ(d:D):bH (.ok<|.rt d)=.ok d:=rfl
@[simp] theorem ZK(ρ:Env):bH (.ok<|.nx ρ)=.ok .non:=rfl
theorem cC(ps n:Nat)(b:SF)(ds:γ D)(h:ds.length=ps):fn ps n b ds=bH (b<|start n ds):=by
 unfold fn;rw[f8 h];cases b _ with
 |bad=>rfl
 |ok f=>cases f<;>rfl
theorem eN(h1:-18446744073709551616<a)(h2:a<18446744073709551616):cm a b:=by exact .inl ⟨h1,h2⟩
theorem ji(h1:-18446744073709551616<b)(h2:b<18446744073709551616):cm a b:=by exact .inr<|.inl ⟨h1,h2⟩
theorem cH(h0:0<b)(h:b<1809251394333065553493296640760748560207343510400633813116524750123642650624):lE b:=⟨h0,h⟩
theorem zm(h0:0<=i)(h1:i<cs.length)(hl:cs.length<=line):∃c∈cs,aT (.str cs) (.int i)=.ok (.str [c]):=by
 have hj:i.toNat<cs.length:=by lia
 refine⟨cs[i.toNat],A89 hj,?_⟩;simp[aT,hl,wb,h0,h1]
theorem pW(h:(zints 0 n)[j]?=AC d):j<n/\d=.int (j):=by
 unfold zints at h;rw[A04]at h;cases q:(FB n)[j]? with
 |none=>rw[q]at h;cases h
 |some i=>rw[q]at h;obtain⟨h1,h2⟩:=A10.mp q;rw[B00]at h1;rw[B17]at h2;subst h2;simp at h;exact⟨h1,h.symm⟩
@[simp] theorem jB(lo:Int)(n:Nat):(zints lo n).length=n:=by simp[zints]
theorem mZ(xs:γ α)(lo hi:ε Int):(cut xs lo hi).length<=xs.length:=by unfold cut;rw[A31,B80];lia
theorem Ff(h:x∈cut xs i j):x∈xs:=List.mem_of_mem_drop<|List.mem_of_mem_take h
@[simp] theorem aed(xs:γ D)(a:EF)(lo hi:PF)(ρ:Env)(h:a ρ=.ok (.lst xs)):N_ a lo hi ρ=(lo ρ).bind λ l=>(hi ρ).bind λ h=>.ok (cut xs l h):=by unfold N_;rw[h];rfl
theorem vM:∀ds,(∀d∈ds,(g d ρ).bind e=.ok (h d))->bU g cy e ρ ds=.ok (ds.map h)
|[],_=>rfl
|d::ds,k=>by have h1:=k d A22;have h2:=vM ds λ x hx=>k x<|A07 _ hx;obtain⟨ρ1,e1,e2⟩:=Res.aq h1;simp[bU,e1,e2,h2]
theorem nV:∀ds,(∀d∈ds,∃ρ1,g d ρ=.ok ρ1/\t ρ1=.ok (p d)/\(p d=Da->e ρ1=.ok (h d)))->bU g t e ρ ds=.ok ((ds.filter p).map h)
|[],_=>rfl
|d::ds,k=>by
 obtain⟨ρ1,e1,e2,e3⟩:=k d A22;have h2:=nV ds λ x hx=>k x<|A07 _ hx;cases hp:p d with
 |true=>simp[bU,e1,e2,hp,e3 hp,h2]
 |false=>simp[bU,e1,e2,hp,h2]
theorem z9:∀(bs:γ Bool),allB (bs.map D.bl)=AC (bs.all id)
|[]=>rfl
|b::bs=>by simp[allB,z9 bs]
@[simp high] theorem gt0(a:α)(l:γ α):(a::l)[0]?=AC a:=rfl
@[simp high] theorem gtS(a:α)(l:γ α)(n:Nat):(a::l)[n+1]?=l[n]?:=rfl
@[simp high] theorem RD(a x:α)(l:γ α):(a::l).set 0 x=x::l:=rfl
@[simp high] theorem stS(a x:α)(l:γ α)(n:Nat):(a::l).set (n+1) x=a::l.set n x:=rfl
end Z
set_option maxHeartbeats 4000000
namespace ZS
open L2
abbrev Fl(X:Cx)(x:Str):Prop:=X.fn x=Da\/X.env.scope.names.lookup x=AC .local
end ZS
local macro_rules
| `(tactic|trivial)=>`(tactic|first|exact AE2 rfl|exact bi rfl)
open ZS (Fl)
namespace ZS
open L2
abbrev St:=L2.St
def G6:Sum Int (γ Nat)->Key
|.inl i=>.inl i
|.inr cs=>.inr ⟨cs.toArray⟩
def Q5(K:Do)(H:Hp)(a:δ)(xs:γ V):Prop:=
 (∃ o,H a=AC (.dZ o<|.lst xs)) \/
  ∃(o:ν)(bx:Array ζ)(n:Nat),K.lookup a=AC o/\o.cls=.type "list" /\ o.dict=Ch/\o.data=.seq bx n/\bx.size<=sizeLine/\Vals xs bx.toList
theorem Q5.sq{K:Do}(h:Q5 K H a xs):ku K H a xs:=by
 rcases h with⟨o,h⟩|h
 .exact .inl<|.inr ⟨o,h⟩
 .exact .inr h
structure iQ(H H':Hp):Prop where
 tup:∀a xs,H a=AC (.tup xs)->H' a=AC (.tup xs)
 dZ:∀a o u,H a=AC (.dZ o u)->H' a=AC (.dZ o u)
theorem iQ.refl(H:Hp):iQ H H:=⟨λ _ _ h=>h,λ _ _ _ h=>h⟩
theorem iQ.trans{H H1 H2:Hp}(a:iQ H H1)(b:iQ H1 H2):iQ H H2:=⟨λ c xs h=>b.tup c xs<|a.tup c xs h,λ c o u h=>b.dZ c o u<|a.dZ c o u h⟩
theorem l!(s:aI H H'):iQ H H':=⟨λ _ _ h=>s _ _ h,λ _ _ _ h=>s _ _ h⟩
theorem mQ(h:H p=AC o)(n1:∀xs,o≠.tup xs)(n2:∀ob x,o≠.dZ ob x):iQ H (upd H p u):=
 ⟨λ a xs e=>by rw[aD (by rintro rfl;rw[h]at e;exact n1 xs<|A03 e)];exact e,λ a ob x e=>by rw[aD (by rintro rfl;rw[h]at e;exact n2 ob x<|A03 e)];exact e⟩
theorem jS(h:H p=AC (.lst xs)):iQ H (upd H p u):=mQ h (λ _ z=>nomatch z) λ _ _ z=>nomatch z
theorem Q5.mono{K:Do}(e:iQ H H')(h:Q5 K H a xs):Q5 K H' a xs:=by
 rcases h with⟨o,h⟩|h
 .exact .inl ⟨o,e.dZ _ _ _ h⟩
 .exact .inr h
theorem fN{K:Do}(e:iQ H H')(h:mI K H a xs):mI K H' a xs:=by
 rcases h with(h|⟨o,h⟩)|h
 .exact .inl<|.inl<|e.tup _ _ h
 .exact .inl<|.inr ⟨o,e.dZ _ _ _ h⟩
 .exact .inr h
mutual
def Den(K:Do)(H:Hp):Z.D->V->Prop
|.non,v=>v=.non
|.bl b,v=>v=.bl b
|.int i,v=>v=.int i
|.str cs,v=>v=.str ⟨cs.toArray⟩
|.tup ds,v=>∃a vs,v=.ref a/\mI K H a vs/\aG K H ds vs
|.lst ds,v=>∃a vs,v=.ref a/\Q5 K H a vs/\aG K H ds vs
|.dct ks ds,v=>∃a o aS,v=.ref a/\H a=AC (.dZ o<|.dK aS)/\aS.map (·.1)=ks.map G6/\aG K H ds (aS.map (·.2))/\∀i r,ks≠.inl i::r
def aG(K:Do)(H:Hp):γ Z.D->γ V->Prop
|[],vs=>vs=[]
|d::ds,vs=>∃v r,vs=v::r/\Den K H d v/\aG K H ds r
end
section
variable{K:Do}{H H':Hp}
mutual
theorem Den.mono(e:iQ H H'):∀(d:Z.D)(v:V),Den K H d v->Den K H' d v
|.non,v,h=>by simp only[Den]at h ⊢;exact h
|.bl b,v,h=>by simp only[Den]at h ⊢;exact h
|.int i,v,h=>by simp only[Den]at h ⊢;exact h
|.str cs,v,h=>by simp only[Den]at h ⊢;exact h
|.tup ds,v,h=>by simp only[Den]at h ⊢;obtain⟨a,vs,e1,q,r⟩:=h;exact⟨a,vs,e1,fN e q,aG.mono e ds vs r⟩
|.lst ds,v,h=>by simp only[Den]at h ⊢;obtain⟨a,vs,e1,q,r⟩:=h;exact⟨a,vs,e1,q.mono e,aG.mono e ds vs r⟩
|.dct ks ds,v,h=>by simp only[Den]at h ⊢;obtain⟨a,o,aS,e1,q,k,r,n⟩:=h;exact⟨a,o,aS,e1,e.dZ _ _ _ q,k,aG.mono e ds _ r,n⟩
theorem aG.mono(e:iQ H H'):∀(ds:γ Z.D)(vs:γ V),aG K H ds vs->aG K H' ds vs
|[],vs,h=>by simp only[aG]at h ⊢;exact h
|d::ds,vs,h=>by simp only[aG]at h ⊢;obtain⟨v,r,e1,q,t⟩:=h;exact⟨v,r,e1,Den.mono e d v q,aG.mono e ds r t⟩
end
theorem Den.up(h:Den K H d v)(e:aI H H'):Den K H' d v:=Den.mono (l! e) d v h
theorem Den.ups(h:Den K H d v)(e:iQ H H'):Den K H' d v:=Den.mono e d v h
theorem aG.ups(h:aG K H ds vs)(e:iQ H H'):aG K H' ds vs:=aG.mono e ds vs h
theorem aG.up(h:aG K H ds vs)(e:aI H H'):aG K H' ds vs:=aG.mono (l! e) ds vs h
theorem aG.nil:aG K H [] []:=by simp only[aG]
theorem aG.cons{d:Z.D}{ds:γ Z.D}{v:V}{vs:γ V}(h:Den K H d v)(t:aG K H ds vs):aG K H (d::ds) (v::vs):=by simp only[aG];exact⟨v,vs,rfl,h,t⟩
theorem aG.length:∀{ds}{vs},aG K H ds vs->vs.length=ds.length
|[],vs,h=>by simp only[aG]at h;subst h;rfl
|d::ds,vs,h=>by simp only[aG]at h;obtain⟨v,r,rfl,_,t⟩:=h;simp[aG.length t]
theorem aG.get:∀{ds}{vs}{i:Nat}{d},aG K H ds vs->ds[i]?=AC d->∃v,vs[i]?=AC v/\Den K H d v
|[],_,_,_,_,e=>by simp at e
|x::ds,vs,0,d,h,e=>by simp only[aG]at h;obtain⟨v,r,rfl,q,_⟩:=h;simp at e;subst e;exact⟨v,rfl,q⟩
|x::ds,vs,i+1,d,h,e=>by simp only[aG]at h;obtain⟨v,r,rfl,_,t⟩:=h;obtain⟨u,h1,h2⟩:=aG.get t (by simpa using e);exact⟨u,by simpa using h1,h2⟩
theorem aG.append:∀{ds es}{vs us},aG K H ds vs->aG K H es us->aG K H (ds++es) (vs++us)
|[],_,_,_,h,g=>by simp only[aG]at h;subst h;exact g
|d::ds,es,vs,us,h,g=>by simp only[aG]at h;obtain⟨v,r,rfl,q,t⟩:=h;exact aG.cons q<|aG.append t g
theorem aG.drop:∀{ds}{vs} n,aG K H ds vs->aG K H (ds.drop n) (vs.drop n)
|_,_,0,h=>by simpa using h
|[],vs,_+1,h=>by simp only[aG]at h;subst h;simpa using aG.nil
|d::ds,vs,n+1,h=>by simp only[aG]at h;obtain⟨v,r,rfl,q,t⟩:=h;simpa using aG.drop n t
theorem aG.take:∀{ds}{vs} n,aG K H ds vs->aG K H (ds.take n) (vs.take n)
|_,_,0,h=>by simpa using aG.nil
|[],vs,_+1,h=>by simp only[aG]at h;subst h;simpa using aG.nil
|d::ds,vs,n+1,h=>by simp only[aG]at h;obtain⟨v,r,rfl,q,t⟩:=h;simpa using aG.cons q (aG.take n t)
theorem aG.zints:∀(ns:γ Int),aG K H (ns.map Z.D.int) (ns.map V.int)
|[]=>aG.nil
|n::ns=>aG.cons (by simp only[Den])<|aG.zints ns
def bJ(K:Do)(H:Hp)(d:Z.D)(v:V):Prop:=Den K H d v\/∃ds a vs,d=.lst ds/\v=.ref a/\H a=AC (.lst vs)/\aG K H ds vs
theorem bJ.up(h:bJ K H d v)(e:aI H H'):bJ K H' d v:=by
 rcases h with h|⟨ds,a,vs,e1,e2,q,t⟩
 .exact .inl<|h.up e
 .exact .inr ⟨ds,a,vs,e1,e2,e _ _ q,t.up e⟩
theorem bJ.n?(h:bJ K H d v)(n:∀ds,d≠.lst ds):Den K H d v:=by
 rcases h with h|⟨ds,a,vs,e1,_⟩
 .exact h
 .exact absurd e1<|n ds
theorem bJ.non(h:bJ K H .non v):v=.non:=by have:=h.n? λ _ z=>nomatch z;simpa only[Den]using this
theorem bJ.bl(h:bJ K H (.bl b) v):v=.bl b:=by have:=h.n? λ _ z=>nomatch z;simpa only[Den]using this
theorem bJ.int(h:bJ K H (.int i) v):v=.int i:=by have:=h.n? λ _ z=>nomatch z;simpa only[Den]using this
theorem bJ.str(h:bJ K H (.str cs) v):v=.str ⟨cs.toArray⟩:=by have:=h.n? λ _ z=>nomatch z;simpa only[Den]using this
theorem bJ.tup{ds:γ Z.D}{v:V}(h:bJ K H (.tup ds) v):∃a vs,v=.ref a/\mI K H a vs/\aG K H ds vs:=by have:=h.n? λ _ z=>nomatch z;simpa only[Den]using this
theorem bJ.lst{ds:γ Z.D}{v:V}(h:bJ K H (.lst ds) v):∃a vs,v=.ref a/\ku K H a vs/\aG K H ds vs:=by
 rcases h with h|⟨es,a,vs,e1,e2,q,t⟩
 .simp only[Den]at h;obtain⟨a,vs,e,q,t⟩:=h;exact⟨a,vs,e,q.sq,t⟩
 .cases e1;exact⟨a,vs,e2,.inl<|.inl q,t⟩
theorem bJ.dct(h:bJ K H (.dct ks ds) v):∃a o aS,v=.ref a/\H a=AC (.dZ o<|.dK aS)/\aS.map (·.1)=ks.map G6/\aG K H ds (aS.map (·.2))/\∀i r,ks≠.inl i::r:=by have:=h.n? λ _ z=>nomatch z;simpa only[Den]using this
theorem j8:Den K H .non .non:=by simp only[Den]
theorem c!:Den K H (.bl b) (.bl b):=by simp only[Den]
theorem cO:Den K H (.int i) (.int i):=by simp only[Den]
theorem dI:Den K H (.str cs) (.str ⟨cs.toArray⟩):=by simp only[Den]
theorem fG(h:mI K H a vs)(t:aG K H ds vs):Den K H (.tup ds) (.ref a):=by simp only[Den];exact⟨a,vs,rfl,h,t⟩
theorem zK(h:Q5 K H a vs)(t:aG K H ds vs):Den K H (.lst ds) (.ref a):=by simp only[Den];exact⟨a,vs,rfl,h,t⟩
end
def tI(K:Do)(c:Str)(C:δ):Prop:=Ev K mainGlobals c=AC (AC<|.ref C)/\Ia K C
def H?(K:Do)(H:Hp)(kd:Nat)(ks:γ (γ Nat))(ds:γ Z.D)(u:HO):Prop:=
 (kd=0/\ks=Z.dg.take ks.length/\∃ C dx fs,u=.ins C dx fs/\tI K "Desk" C/\fs.map (·.1)=ks.map (λ c=>(⟨c.toArray⟩:Str))/\aG K H ds (fs.map (·.2))) \/
  kd=1/\∃aS:γ (Key×V),u=.dK aS/\aS.map (·.1)=ks.map (λ c=>(IN ⟨c.toArray⟩:Key))/\aG K H ds (aS.map (·.2))
theorem H?.ups{K:Do}(h:H? K H kd ks ds u)(e:iQ H H'):H? K H' kd ks ds u:=by
 rcases h with⟨h0,hk,C,dx,fs,h1,h2,h3,h4⟩|⟨h0,aS,h1,h2,h3⟩
 .exact .inl ⟨h0,hk,C,dx,fs,h1,h2,h3,h4.ups e⟩
 .exact .inr ⟨h0,aS,h1,h2,h3.ups e⟩
def Thg(K:Do)(H:Hp)(d:Z.D)(v:V):Prop:=∃a kd ks ds u,d=Z.ib a kd ks ds/\v=.ref a/\H a=AC u/\H? K H kd ks ds u
def jP(K:Do)(H:Hp)(d:Z.D)(v:V):Prop:=bJ K H d v\/Thg K H d v
theorem jP.up{K:Do}(h:jP K H d v)(e:aI H H'):jP K H' d v:=by
 rcases h with h|⟨a,kd,ks,ds,u,e1,e2,q,t⟩
 .exact .inl<|h.up e
 .exact .inr ⟨a,kd,ks,ds,u,e1,e2,e _ _ q,t.ups<|l! e⟩
def yn(K:Do)(H:Hp)(d:Z.D)(v:V):Prop:=bJ K H d v\/∃a kd ks ds u,d=Z.ib a kd ks ds/\v=.ref a/\H a=AC u
theorem jP.z{K:Do}(h:jP K H d v):yn K H d v:=by
 rcases h with h|⟨a,kd,ks,ds,u,e1,e2,q,_⟩
 .exact .inl h
 .exact .inr ⟨a,kd,ks,ds,u,e1,e2,q⟩
theorem jP.ib{K:Do}(h:jP K H (.dct (.inl a::r) ds) v):Thg K H (.dct (.inl a::r) ds) v:=by
 rcases h with h|h
 .obtain⟨_,_,_,_,_,_,_,n⟩:=h.dct;exact absurd rfl<|n _ _
 .exact h
theorem yn.re{K:Do}(h:yn K H0 d v)(r:jP K H d v)(h0:aI H0 H)(hs:aI H0 H')(st:iQ H H'):jP K H' d v:=by
 rcases h with h|⟨a,kd,ks,ds,u,rfl,rfl,q⟩
 .exact .inl<|h.up hs
 .obtain⟨a',DN,tV,ds',u',e1,e2,q',t⟩:=r.ib;cases e2;have:=(h0 _ _ q).symm.trans q';cases this;exact .inr ⟨_,DN,tV,ds',u,e1,rfl,hs _ _ q,t.ups st⟩
theorem jP.lst{K:Do}{H:Hp}{ds:γ Z.D}{v:V}(h:jP K H (.lst ds) v):bJ K H (.lst ds) v:=by
 rcases h with h|⟨a,kd,ks,es,u,e1,_⟩
 .exact h
 .cases e1
def acU(x:γ Int×δ×ζ):DictEntry:={hash:=reduceHash<|Builtin.Tuple.tupleHashOf<|x.1.map hashInt,key:=.ref x.2.1,val:=x.2.2}
def FW(a:δ)(ks:γ (γ Int))(as:γ δ)(h:μ):Prop:=ks.length<=sizeLine/\(a==sysModules)=AT/\∃(xs:γ (γ Int×δ×ζ))(o:ν)(es:Array DictEntry)(ep:Nat),xs.map (·.1)=ks/\xs.map (·.2.1)=as/\h.get? a=AC o/\o.ExactDict/\o.data=.dict es ep/\es.toList=xs.map acU/\ks.Nodup
abbrev Y6(a:δ)(ks:γ (γ Int))(as:γ δ):HO:=.ext<|FW a ks as
def rK(K:Do)(H:Hp)(ks:γ (γ Int))(as:γ δ):Prop:=Paired (λ(k:γ Int)(b:δ)=>Den K H (.tup<|k.map .int)<|.ref b) ks as
def v_(aS:γ (γ Nat×γ Nat)):γ (Key×V):=aS.map λ p=>(IN ⟨p.1.toArray⟩,V.str ⟨p.2.toArray⟩)
def Vu(a:δ):Z.DK->γ δ->HO
|.inl ks,as=>Y6 a ks as
|.inr aS,_=>.dK<|v_ aS
def Y7(K:Do)(H:Hp):Z.DK->γ δ->Prop
|.inl ks,as=>rK K H ks as
|.inr _,_=>True
theorem zP:Vu a k as≠.lst xs:=by cases k<;>exact λ z=>nomatch z
theorem O_:Vu a k as≠.tup xs:=by cases k<;>exact λ z=>nomatch z
theorem Pa:Vu a k as≠.dZ o u:=by cases k<;>exact λ z=>nomatch z
def kvI(ps:γ (Int×Int)):γ (Key×V):=ps.map λ p=>(gt p.1,V.int p.2)
def Cp(K:Do)(C:δ):Bool:=match K.lookup C with
|some ⟨.type "type",_,.cls cd,sl⟩=>(match cd.mro,sl.toList with
 |.ref C'::tl,[_,_,_,_,AC (.builtin n),_]=>C'==C&&n=="ValueError.__new__" && !cd.hasDel&&tl.contains (.type "BaseException")
 | _,_=>AT)
|_=>AT
def XC(K:Do)(c:γ Nat)(C:δ):Prop:=Ev K mainGlobals ⟨c.toArray⟩=AC (AC<|.ref C)/\Cp K C=Da
def XD(K:Do)(H:Hp):ε δ->γ (γ Nat×Z.D)->Prop
|none,fs=>fs=[]
|some dx,fs=>fs≠[]/\∃od aS,H dx=AC (.dZ od<|.xd aS)/\Paired (λ(p:Str×V)(q:γ Nat×Z.D)=>p.1=⟨q.1.toArray⟩/\Den K H q.2 p.2) aS fs
theorem XD.ups{K:Do}(h:XD K H dd fs)(e:iQ H H'):XD K H' dd fs:=by
 cases dd with
 |none=>exact h
 |some dx=>obtain⟨n,od,aS,q,p⟩:=h;exact⟨n,od,aS,e.dZ _ _ _ q,Paired.G0 p λ _ _ z=>⟨z.1,z.2.ups e⟩⟩
def o8(K:Do)(H:Hp)(c:γ Nat×γ (γ Nat×Z.D))(C:δ)(dd:ε δ):Prop:=XC K c.1 C/\XD K H dd c.2
theorem o8.ups{K:Do}(h:o8 K H c C dd)(e:iQ H H'):o8 K H' c C dd:=⟨h.1,h.2.ups e⟩
def RL(K:Do)(H:Hp):Z.L->V->Prop
|.val d,v=>Den K H d v
|.own ds,v=>∃a vs,v=.ref a/\H a=AC (.lst vs)/\aG K H ds vs
|.bor d,v=>jP K H d v
|.dc k,v=>∃a as,v=.ref a/\H a=AC (Vu a k as)/\Y7 K H k as
|.Aj ks,v=>∃a o as,v=.ref a/\H a=AC (.dZ o<|Y6 a ks as)/\rK K H ks as
|.Qp ps,v=>∃a o,v=.ref a/\H a=AC (.dZ o<|.dK<|kvI ps)
|.exc c,v=>∃a o u C,v=.ref a/\H a=AC (.dZ o u)/\o.cls=.ref C/\(∃vs,o.data=.fields vs)/\o8 K H c C o.dict
theorem rK.ups{K:Do}(h:rK K H ks as)(e:iQ H H'):rK K H' ks as:=Paired.G0 h λ _ _ d=>Den.ups d e
theorem Y7.ups{K:Do}(h:Y7 K H k as)(e:iQ H H'):Y7 K H' k as:=by
 cases k with
 |inl ks=>exact rK.ups (h) e
 |inr _=>exact True.intro
structure RE(K:Do)(H:Hp)(σ:St)(ρ:Z.Env):Prop where
 len:ρ.length=σ.length
 get:∀(i:Nat)(l:Z.L),ρ[i]?=AC (AC l)->∃v,σ[i]?=AC (AC v)/\RL K H l v
 sep:∀(i j:Nat)(xs ys:List Z.D)(a:Addr),ρ[i]?=AC (AC<|.own xs)->ρ[j]?=AC (AC<|.own ys)->σ[i]?=AC (AC<|.ref a)->σ[j]?=AC (AC<|.ref a)->i=j
section
variable{K:Do}{H H':Hp}{σ:St}{ρ:Z.Env}
theorem RL.up(h:RL K H l v)(e:aI H H'):RL K H' l v:=by
 cases l with
 |val d=>exact Den.up (h) e
 |own ds=>obtain⟨a,vs,e1,q,t⟩:=h;exact⟨a,vs,e1,e _ _ q,t.up e⟩
 |bor d=>exact jP.up (h) e
 |dc ks=>obtain⟨a,as,e1,q,t⟩:=h;exact⟨a,as,e1,e _ _ q,t.ups<|l! e⟩
 |Aj ks=>obtain⟨a,o,as,e1,q,t⟩:=h;exact⟨a,o,as,e1,e _ _ q,t.ups<|l! e⟩
 |Qp ps=>obtain⟨a,o,e1,q⟩:=h;exact⟨a,o,e1,e _ _ q⟩
 |exc c=>obtain⟨a,o,u,C,e1,q,r1,r2,r3⟩:=h;exact⟨a,o,u,C,e1,e _ _ q,r1,r2,r3.ups<|l! e⟩
theorem RE.up(h:RE K H σ ρ)(e:aI H H'):RE K H' σ ρ:=
 ⟨h.len,λ i l q=>let ⟨v,h1,h2⟩:=h.get i l q;⟨v,h1,h2.up e⟩,h.sep⟩
theorem bP(h:H a=Ch):aI H (upd H a o):=λ b u e=>by rw[aD<|bq e h];exact e
end
def tZ(K:Do)(f:Z.EF):TE:=λ σ H Q=>∃ρ d,RE K H σ ρ/\f ρ=.ok d/\∀v H',aI H H'->Den K H' d v->Q v H'
def P6(K:Do)(f:Z.EF):TE:=λ σ H Q=>∃ρ d,RE K H σ ρ/\f ρ=.ok d/\∀v H',aI H H'->bJ K H' d v->Q v H'
def tZl(K:Do)(f:Z.LF):TE:=λ σ H Q=>∃ρ ds,RE K H σ ρ/\f ρ=.ok ds/\∀a vs H',aI H H'->H a=Ch->H' a=AC (.lst vs)->aG K H' ds vs->Q (.ref a) H'
def VO(K:Do)(f:Z.TF):TT:=λ σ H Q=>∃ρ b,RE K H σ ρ/\f ρ=.ok b/\∀H',aI H H'->Q b H'
def tZa(K:Do)(f:Z.AF):TA:=λ σ H Q=>∃ρ ds,RE K H σ ρ/\f ρ=.ok ds/\∀vs H',aI H H'->aG K H' ds vs->Q vs H'
def tZp(K:Do)(f:Z.PF):TO:=λ σ H Q=>∃ρ o,RE K H σ ρ/\f ρ=.ok o/\∀H',aI H H'->Q o H'
abbrev DE(X:Cx)(e:ι)(f:Z.EF):Prop:=PE X e<|tZ X.K f
structure _root_.ZQ.QE(X:Cx)(e:Expr)(f:Z.EF):Prop where p:DE X e f
abbrev DW(X:Cx)(e:ι)(f:Z.EF):Prop:=PE X e<|P6 X.K f
structure _root_.ZQ.QW(X:Cx)(e:Expr)(f:Z.EF):Prop where p:DW X e f
abbrev DL(X:Cx)(e:ι)(f:Z.LF):Prop:=PE X e<|tZl X.K f
structure _root_.ZQ.QL(X:Cx)(e:Expr)(f:Z.LF):Prop where p:DL X e f
abbrev DT(X:Cx)(e:ι)(f:Z.TF):Prop:=PT X e<|VO X.K f
structure _root_.ZQ.QT(X:Cx)(e:Expr)(f:Z.TF):Prop where p:DT X e f
abbrev DTW(X:Cx)(e:ι)(f:Z.TF):Prop:=PW X e<|VO X.K f
structure _root_.ZQ.UL(X:Cx)(e:Expr)(f:Z.TF):Prop where p:DTW X e f
abbrev DA(X:Cx)(es:γ ι)(f:Z.AF):Prop:=PA X es<|tZa X.K f
structure _root_.ZQ.QA(X:Cx)(es:List Expr)(f:Z.AF):Prop where p:DA X es f
abbrev DP(X:Cx)(e:ε ι)(f:Z.PF):Prop:=PO X e<|tZp X.K f
structure _root_.ZQ.QP(X:Cx)(e:Option Expr)(f:Z.PF):Prop where p:DP X e f
section
variable{X:Cx}{e a b c:ι}{es:γ ι}{pos:Pos}{f fa fb fc:Z.EF}
theorem PE.imp(h:PE X e t)(k:∀σ H Q,t' σ H Q->t σ H Q):PE X e t':=λ χ s σ H Q I w=>h χ s σ H Q I<|k σ H Q w
theorem PT.imp(h:PT X e t)(k:∀σ H Q,t' σ H Q->t σ H Q):PT X e t':=λ χ s σ H Q I w=>h χ s σ H Q I<|k σ H Q w
theorem PW.imp(h:PW X e t)(k:∀σ H Q,t' σ H Q->t σ H Q):PW X e t':=λ whole χ s σ H Q I w=>h whole χ s σ H Q I<|k σ H Q w
theorem PA.imp(h:PA X es t)(k:∀σ H Q,t' σ H Q->t σ H Q):PA X es t':=λ p χ s σ H Q I w=>h p χ s σ H Q I<|k σ H Q w
theorem PO.imp(h:PO X o t)(k:∀σ H Q,t' σ H Q->t σ H Q):PO X o t':=λ χ s σ H Q I w=>h χ s σ H Q I<|k σ H Q w
theorem Ec(h:PE X e (tC v))(hd:∀H,Den X.K H d v):DE X e (Z.eC d):=PE.imp h λ σ H Q ⟨ρ,d',_,e,k⟩=>by have e':=e;cases e';exact k v H (aI.refl H)<|hd H
theorem _root_.ZQ.ak:ZQ.QE X (.Constant (.int i) j pos) (Z.eC<|.int i):=⟨Ec R8 λ _=>cO⟩
theorem _root_.ZQ.gA:ZQ.QE X (.Constant (.bool x) j pos) (Z.eC<|.bl x):=⟨Ec Wx λ _=>c!⟩
theorem _root_.ZQ.rA:ZQ.QE X (.Constant .none j pos) (Z.eC .non):=⟨Ec C8 λ _=>j8⟩
theorem _root_.ZQ.ai(h:x=⟨cs.toArray⟩:=by decide +kernel):ZQ.QE X (.Constant (.str x) j pos) (Z.eC<|.str cs):=⟨by subst h;exact Ec C7 λ _=>dI⟩
theorem Yy(h:Z.eV i ρ=.ok d):ρ[i]?=AC (AC<|.val d):=by
 unfold Z.eV at h;split at h
 .rename_i d' q;cases h;exact q
 .cases h
theorem Yx(h:Z.eW i ρ=.ok d):ρ[i]?=AC (AC<|.val d)\/(∃xs,ρ[i]?=AC (AC<|.own xs)/\d=.lst xs)\/∃xs,ρ[i]?=AC (AC<|.bor<|.lst xs)/\d=.lst xs:=by
 unfold Z.eW at h;split at h
 .rename_i d' q;cases h;exact .inl q
 .rename_i xs q;cases h;exact .inr<|.inl ⟨xs,q,rfl⟩
 .rename_i xs q;cases h;exact .inr<|.inr ⟨xs,q,rfl⟩
 .cases h
theorem Ua(h:PE X e (l7 i)):DE X e (Z.eV i):=PE.imp h λ σ H Q ⟨ρ,d,r,e,k⟩=>by obtain⟨v,h1,h2⟩:=r.get i _ (Yy e);exact⟨v,h1,k v H (aI.refl H) h2⟩
theorem T6(h:PE X e (l7 i)):DW X e (Z.eW i):=PE.imp h λ σ H Q ⟨ρ,d,r,e,k⟩=>by
 rcases Yx e with q|⟨xs,q,rfl⟩|⟨xs,q,rfl⟩
 rotate_left;rotate_left
 .obtain⟨v,h1,h2⟩:=r.get i _ q;exact⟨v,h1,k v H (aI.refl H)<|jP.lst h2⟩
 .obtain⟨v,h1,h2⟩:=r.get i _ q;exact⟨v,h1,k v H (aI.refl H)<|.inl h2⟩
 .obtain⟨v,h1,a,vs,rfl,h2,h3⟩:=r.get i _ q;exact⟨_,h1,k _ H (aI.refl H)<|.inr ⟨xs,a,vs,rfl,rfl,h2,h3⟩⟩
theorem _root_.ZQ.aB(hN:X.N[i]?=AC x:=by rfl)(hv:QY X.env.scope x:=by first| exact AE2 rfl| exact bi<|Or.inl rfl| exact bi<|Or.inr rfl)(hd:(x==("__debug__"))=AT:=by decide +kernel)
 (nQ:(x==("__classdict__"))=AT:=by decide +kernel):ZQ.QE X (.Name x pos) (Z.eV i):=⟨Ua<|C6 hN hv hd nQ⟩
theorem _root_.ZQ.ae(hN:X.N[i]?=AC x:=by rfl)(hv:QY X.env.scope x:=by first| exact AE2 rfl| exact bi<|Or.inl rfl| exact bi<|Or.inr rfl)(hd:(x==("__debug__"))=AT:=by decide +kernel)
 (nQ:(x==("__classdict__"))=AT:=by decide +kernel):ZQ.QW X (.Name x pos) (Z.eW i):=⟨T6<|C6 hN hv hd nQ⟩
theorem O9(hg:Gl X x)(hm:X.mg x=AC u)(r:RelV v u)(hd:∀H,Den X.K H d v)(hb:(x==("__debug__"))=AT:=by decide +kernel):DE X (.Name x pos) (Z.eC d):=
 Ec (tQ hg hm r hb) hd
theorem _root_.ZQ.ag(h:ZQ.QE X e f):ZQ.QW X e f:=⟨PE.imp h.p λ σ H Q ⟨ρ,d,r,e,k⟩=>⟨ρ,d,r,e,λ v H' s q=>k v H' s<|.inl q⟩⟩
theorem _root_.ZQ.eS(h:ZQ.QL X e l):ZQ.QW X e (Z.eL l):=⟨PE.imp h.p λ σ H Q ⟨ρ,d,r,e,k⟩=>by
 unfold Z.eL at e;cases q:l ρ with
 |bad=>rw[q]at e;cases e
 |ok ds=>rw[q]at e;cases e;exact⟨ρ,ds,r,q,λ a vs H' s hn h1 h2=>k _ H' s<|.inr ⟨ds,a,vs,rfl,rfl,h1,h2⟩⟩⟩
theorem oJ(I:Inv X χ σ H s)(h:H p=AC (.lst xs)):∃o,Inv X χ σ (upd H p<|.dZ o<|.lst xs) s:=by
 obtain⟨z,bx,n,r,ho⟩:=I.bQ p _ h;refine⟨_,I.un (H':=upd H p (.dZ {cls:=.type "list",data:=.seq bx.toArray n} _)) ?_ ?_⟩
 .have ne:∀b,H b=Ch->b≠p:=λ b e q=>by rw[q,h]at e;cases e
  refine⟨λ b o q _ _ _=>q,λ b o q _ _ _=>⟨_,q⟩,λ b o q e _=>by rw[aD<|ne b e];exact e,λ b o q _=>⟨o,q⟩,λ b ys e=>?_,λ b o u e=>?_,λ b u pr e=>?_⟩
  .have:b≠p:=by rintro rfl;rw[h]at e;cases e
   rw[aD this];exact e
  .have:b≠p:=by rintro rfl;rw[h]at e;cases e
   rw[aD this];exact e
  .have:b≠p:=by rintro rfl;rw[h]at e;cases e;exact pr
   rw[aD this];exact e
 .intro b u e;by_cases hb:b=p
  .subst hb;rw[aV]at e;cases e;exact⟨ho,z,bx,n,r,ho⟩
  .rw[aD hb]at e;refine(I.bQ b u e).n_ (λ c w _ q=>q) (λ c q=>?_) (λ c ys q=>?_) λ c v pr q=>?_
   .have:c≠p:=by rintro rfl;rw[h]at q;cases q
    rw[aD this];exact q
   .have:c≠p:=by rintro rfl;rw[h]at q;cases q
    rw[aD this];exact q
   .have:c≠p:=by rintro rfl;rw[h]at q;cases q;exact pr
    rw[aD this];exact q
theorem Jd(s:aI H H1)(hn:H p=Ch):aI H (upd H1 p<|.dZ o<|.lst xs):=λ b u e=>by rw[aD<|bq e hn];exact s b u e
theorem _root_.ZQ.iY(h:ZQ.QL X e l):ZQ.QE X e (Z.eL l):=⟨by
 have h:=h.p;intro χ s σ H Q I w;obtain⟨ρ,d,r,e,k⟩:=w;unfold Z.eL at e;cases q:l ρ with
 |bad=>rw[q]at e;cases e
 |ok ds=>rw[q]at e;cases e;refine cS (h χ s σ H (λ v H1=>∃a vs,v=.ref a/\aI H H1/\H a=Ch/\H1 a=AC (.lst vs)/\aG X.K H1 ds vs) I ⟨ρ,ds,r,q,λ a vs H1 s1 hn h1 h2=>⟨a,vs,rfl,s1,hn,h1,h2⟩⟩) ?_;rintro u s' ⟨v,H1,I1,rv,a,vs,rfl,s1,hn,h1,h2⟩;obtain⟨o,I2⟩:=oJ I1 h1;exact⟨_,_,I2,rv,k _ _ (Jd s1 hn)<|zK (.inl ⟨o,aV⟩)<|h2.ups<|jS h1⟩⟩
def Ew(K:Do)(r:R2)(o:Z.D->Z.D->Z.Res Z.D):Prop:=∀(x y:V)(dx dy d:Z.D)(H:Hp)(Q:VK),bJ K H dx x->bJ K H dy y->o dx dy=.ok d->(∀v H',aI H H'->Den K H' d v->Q v H')->r x y H Q
theorem two(hz:Ew X.K r o):∀σ H Q,tZ X.K (Z.eB o fa fb) σ H Q->P7 r (P6 X.K fa) (P6 X.K fb) σ H Q:=by rintro σ H Q ⟨ρ,d,re,e,k⟩;obtain⟨x,ea,e⟩:=bd e;obtain⟨y,eb,e⟩:=bd e;exact⟨ρ,x,re,ea,λ v H1 s1 d1=>⟨ρ,y,re.up s1,eb,λ u H2 s2 d2=>hz _ _ _ _ _ H2 Q (d1.up s2) d2 e λ w H' s3 dw=>k w H' ((s1.trans s2).trans s3) dw⟩⟩
theorem vJ(hr:jQ X (binaryOp op) r)(hz:Ew X.K r o)(ha:DW X a fa)(hb:DW X b fb):DE X (.BinOp a op b pos) (Z.eB o fa fb):=
 PE.imp (Jw hr ha hb)<|two hz
theorem pK{K:Do}{g:Int->Int->Int}(h:∀dx dy d,o dx dy=.ok d->∃i j,dx=.int i/\dy=.int j/\C i j/\d=.int (g i j)):Ew K (rI C λ i j=>.int<|g i j) o:=by intro x y dx dy d H Q h1 h2 e k;obtain⟨i,j,rfl,rfl,hc,rfl⟩:=h _ _ _ e;exact⟨i,j,h1.int,h2.int,hc,k _ H (aI.refl H) cO⟩
theorem md{K:Do}{gd:Int->Int->Z.D}(h:∀dx dy d,o dx dy=.ok d->∃i j,dx=.int i/\dy=.int j/\d=gd i j)(hg:∀i j H,Den K H (gd i j) (g i j)):Ew K (Jp g) o:=by intro x y dx dy d H Q h1 h2 e k;obtain⟨i,j,rfl,rfl,rfl⟩:=h _ _ _ e;exact⟨i,j,h1.int,h2.int,k _ H (aI.refl H)<|hg i j H⟩
theorem _root_.ZQ.Ea(ha:ZQ.QW X a fa)(hb:ZQ.QW X b fb):ZQ.QE X (.BinOp a .Sub b pos) (Z.eB Z.GH fa fb):=⟨have ha:=ha.p;have hb:=hb.p;vJ Sb (md (λ dx dy d e=>by
 unfold Z.GH at e;split at e
 .cases e;exact⟨_,_,rfl,rfl,rfl⟩
 .cases e) λ _ _ _=>cO) ha hb⟩
def L9(i j:Int):Prop:=IntMulOk i j
theorem Nk:jQ X (binaryOp .Mult) (rI L9 λ i j=>.int<|i*j):=WC λ _ _ _ _ _ _ _ hc q=>mul_int q hc
theorem Ph(i:Int):Z.bits i=Builtin.Int.intBits i:=by
 unfold Z.bits Builtin.Int.intBits;by_cases h:i=0
 .subst h;simp
 .first
   |(simp;done)
   |(rw[v6];simp;done)
theorem uV(h:Z.cm i j):IntMulOk i j:=by
 rcases h with h|h|⟨h1,h2⟩
 .exact IntMulOk.of_left<|B38 (by lia) (by lia)
 .exact IntMulOk.of_right<|B38 (by lia) (by lia)
 .rw[Ph]at h1 h2;exact mulOk_of_bits h1 h2 (by decide)
theorem _root_.ZQ.oU(ha:ZQ.QW X a fa)(hb:ZQ.QW X b fb):ZQ.QE X (.BinOp a .Mult b pos) (Z.eB Z.jy fa fb):=⟨have ha:=ha.p;have hb:=hb.p;vJ Nk (pK λ dx dy d e=>by
 unfold Z.jy at e;split at e
 .unfold Z.guard at e;split at e
  .rename_i h;cases e;exact⟨_,_,rfl,rfl,uV h,rfl⟩
  .cases e
 .cases e) ha hb⟩
def Y'(_ j:Int):Prop:=Z.lE j
theorem D?(h:Z.lE j):0<j/\j.natAbs.log2<9000:=by
 have h0:=h.1;have h1:=h.2;have hn:j.natAbs≠0:=by lia
 have h2:j.natAbs<2^250:=by
  have:(2)^250=1809251394333065553493296640760748560207343510400633813116524750123642650624:=by decide
  lia
 have:=(Nat.log2_lt hn).mpr h2;exact⟨h0,by lia⟩
theorem Nl:jQ X (binaryOp .FloorDiv) (rI Y' λ i j=>.int<|i / j):=WC λ i j _ _ _ _ _ hc q=>by obtain⟨h0,h1⟩:=D? hc;have e:=Int.fdiv_eq_ediv_of_nonneg i<|Int.le_of_lt h0;exact floordiv_int (Int.ne_of_gt h0) (by rw[e];exact q)<|.inl<|PyProof.noPylong_of_log2 h1
theorem _root_.ZQ.jL(ha:ZQ.QW X a fa)(hb:ZQ.QW X b fb):ZQ.QE X (.BinOp a .FloorDiv b pos) (Z.eB Z.oDiv fa fb):=⟨have ha:=ha.p;have hb:=hb.p;vJ Nl (pK λ dx dy d e=>by
 unfold Z.oDiv at e;split at e
 .unfold Z.guard at e;split at e
  .rename_i h;cases e;exact⟨_,_,rfl,rfl,h,rfl⟩
  .cases e
 .cases e) ha hb⟩
theorem _root_.ZQ.fL(ha:ZQ.QW X a fa)(hb:ZQ.QW X b fb):ZQ.QE X (.BinOp a .Mod b pos) (Z.eB Z.oMod fa fb):=⟨have ha:=ha.p;have hb:=hb.p;vJ Sh (pK λ dx dy d e=>by
 unfold Z.oMod at e;split at e
 .unfold Z.guard at e;split at e
  .rename_i h;cases e;exact⟨_,_,rfl,rfl,h,rfl⟩
  .cases e
 .cases e) ha hb⟩
theorem _root_.ZQ.Ub(ha:ZQ.QW X a fa)(hb:ZQ.QW X b fb):ZQ.QE X (.BinOp a .Pow b pos) (Z.eB Z.uN fa fb):=⟨have ha:=ha.p;have hb:=hb.p;vJ Sf (pK λ dx dy d e=>by
 unfold Z.uN at e;split at e
 .unfold Z.guard at e;split at e
  .rename_i h;cases e;exact⟨_,_,rfl,rfl,h,rfl⟩
  .cases e
 .cases e) ha hb⟩
def Wo(K:Do):R2:=λ x y H Q=>∃a b xs ys,x=.ref a/\y=.ref b/\mI K H a xs/\mI K H b ys/\xs.length+ys.length<=sizeLine /\
 (xs=[]->Q (.ref b) H)/\(ys=[]->Q (.ref a) H)/\(∀p,H p=Ch->Q (.ref p) (upd H p<|.tup<|xs++ys))
theorem Nn:jQ X (binaryOp .Add) (Wo X.K):=by
 intro χ s σ H x y v u Q I rx ry h;obtain⟨p,q,xs,ys,rfl,rfl,hp,hq,hz,q0,q1,q2⟩:=h;by_cases hx:xs=[]
 .cases rx;cases ry;obtain⟨bx,r1,ht,_⟩:=I.tuple hp;obtain⟨iL,r2,hb,_⟩:=I.tuple hq;obtain⟨⟨cls,dd,data,sl⟩,ho,hc,n,hd⟩:=id ht;obtain⟨⟨YG,Vk,data2,UT⟩,HX,BC,n2,hd2⟩:=id hb;simp only at hc hd BC hd2;subst hc hd BC hd2;have e0:=r1.tT.mpr hx;exact B41 ⟨_,ho,rfl⟩ ⟨_,HX,rfl⟩ B75 seq_tuple_add B77 B78 (B79 _ _)
   (tuple_addW0 p q _ _ n n2 dd Vk sl UT (by simp[e0])) ⟨ho,HX,⟨.ref q,H,I,rfl,q0 hx⟩⟩
 .exact Np χ s σ H _ _ v u Q I rx ry ⟨p,q,xs,ys,rfl,rfl,hp,hq,hx,hz,q1,λ _=>q2⟩
theorem MM(a b:γ Nat):(⟨a.toArray⟩)++(⟨b.toArray⟩:Str)=⟨(a++b).toArray⟩:=by show(⟨a.toArray++b.toArray⟩:Str)=_;simp
theorem _root_.ZQ.aE(ha:ZQ.QW X a fa)(hb:ZQ.QW X b fb):ZQ.QE X (.BinOp a .Add b pos) (Z.eB Z.aU fa fb):=⟨have ha:=ha.p;have hb:=hb.p;vJ (Sk.or<|C?.or Nn) (λ x y dx dy d H Q h1 h2 e k=>by
 unfold Z.aU at e;split at e
 .cases e;exact .inl ⟨_,_,h1.int,h2.int,k _ H (aI.refl H) cO⟩
 .unfold Z.guard at e;split at e
  .rename_i as bs h;cases e;refine .inr<|.inl ⟨_,_,h1.str,h2.str,?_,?_⟩
   .show as.toArray.size+bs.toArray.size<=sizeLine;rw[A27];simpa using h
   .rw[MM];exact k _ H (aI.refl H) dI
  .cases e
 .unfold Z.guard at e;split at e
  .rename_i as bs h;cases e;obtain⟨p,xs,rfl,hp,t1⟩:=h1.tup;obtain⟨q,ys,rfl,hq,t2⟩:=h2.tup;refine .inr<|.inr ⟨p,q,xs,ys,rfl,rfl,hp,hq,?_,?_,?_,?_⟩
   .rw[t1.length,t2.length,A27];exact h
   .rintro rfl;have:=C17 (by rw[<-t1.length];rfl);subst this;exact k _ H (aI.refl H)<|fG hq t2
   .rintro rfl;have:=C17 (by rw[<-t2.length];rfl);subst this;rw[A56]at k;exact k _ H (aI.refl H)<|fG hp t1
   .intro z hn;have s1:aI H (upd H z<|.tup<|xs++ys):=bP hn;exact k _ _ s1<|fG (.inl<|.inl aV)<|(t1.append t2).up s1
  .cases e
 .cases e) ha hb⟩
theorem _root_.ZQ.Uc(ha:ZQ.QW X a fa):ZQ.QE X (.UnaryOp .USub a pos) (Z.eU Z.Ba fa):=⟨PE.imp (Wv Rh ha.p) λ σ H Q ⟨ρ,d,r,e,k⟩=>by
 obtain⟨x,ea,e⟩:=bd e;refine⟨ρ,x,r,ea,λ v H1 s1 d1=>?_⟩;unfold Z.Ba at e;split at e
 .cases e;exact⟨_,d1.int,k _ H1 s1 cO⟩
 .cases e⟩
end
end ZS
namespace ZS
section
open Builtin Builtin.Str
theorem mm(t:γ Nat):(⟨t.toArray⟩:Str).length=t.length:=by simp[Str.length]
theorem aa0(t:γ Nat)(c:Nat):(!(Go ⟨t.toArray⟩ ⟨#[c]⟩ 0 t.length 1).isEmpty)=t.contains c:=by have h:=StrLaws.found_one ⟨t.toArray⟩ c;rw[mm]at h;rw[h,A65];simp
theorem FL(n d:Nat)(i:Int):max 0 (min (if i<0 then i+(n)else i)<|n)=((Z.eI n d<|some i)):=by
 show max 0 (min (if i<0 then i+(n)else i)<|n)=(((if i<0 then(i+(n)).toNat else min _ n)))
 by_cases h:i<0
 .simp only[f8 h];lia
 .simp only[v6 h];lia
theorem slR(a b:Nat):sliceRange (a) (b) 1=(FB<|b-a).map (λ k=>a+k):=by
 unfold sliceRange;simp only[show(1:Int)>0 by decide,A25];have e:(if(a)<(b:Int)then((b)-(a:Int)+1-1) / 1 else 0).toNat=b-a:=by
  split
  .rw[Int.ediv_one];lia
  .lia
 rw[e];apply A80;intro k _;lia
theorem idxs(lo hi:ε Int)(n:Nat):strSliceIndices lo hi 1 n=(FB<|Z.eI n n hi-Z.eI n 0 lo).map (λ k=>Z.eI n 0 lo+k):=by
 unfold strSliceIndices;simp only[show(1:Int)>0 by decide,A25];rw[<-slR];cases lo with
 |none=>
  cases hi with
  |none=>rfl
  |some j=>simp only[FL n n j];rfl
 |some i=>
  cases hi with
  |none=>simp only[FL n 0 i];rfl
  |some j=>simp only[FL n 0 i,FL n n j]
theorem yO(n d:Nat)(hd:d<=n)(o:ε Int):Z.eI n d o<=n:=by
 cases o with
 |none=>exact hd
 |some v=>show(if v<0 then(v+(n)).toNat else min _ n)<=n;split<;>lia
theorem pick(cs:γ Nat):∀k a,a+k<=cs.length->((FB k).map λ j=>a+j).filterMap (λ i=>cs.toArray[i]?)=(cs.drop a).take k:=by
 intro k
 induction k with
 |zero=>intro a _;simp
 |succ k ih=>
  intro a h;rw[B01,B02,List.filterMap_append,ih a (by lia)];have rf:a+k<cs.length:=by lia
  rw[List.take_succ];simp[rf]
theorem V1(cs:γ Nat)(lo hi:ε Int):Txt.slice ⟨cs.toArray⟩ lo hi=⟨(Z.cut cs lo hi).toArray⟩:=by
 unfold Txt.slice;rw[mm,idxs];have h1:=yO _ cs.length (M2 _) hi;have h0:=yO cs.length 0 (A41 _) lo;have hp:((FB<|Z.eI cs.length cs.length hi-Z.eI cs.length 0 lo).map λ k=>Z.eI cs.length 0 lo+k).filterMap (λ i=>cs.toArray[i]?)=Z.cut cs lo hi:=by exact pick cs _ _ (by lia)
 split
 .rename_i hh;have ψ:(FB<|Z.eI cs.length cs.length hi-Z.eI cs.length 0 lo).length=cs.length:=by simp only[B43,AD5,A32,A09]at hh;exact hh
  rw[B00]at ψ;unfold Z.cut;have e0:Z.eI cs.length 0 lo=0:=by lia
  have e1:Z.eI cs.length cs.length hi-Z.eI cs.length 0 lo=cs.length:=by lia
  rw[e1,e0];simp
 .rw[hp]
end
open L2
section
variable{X:Cx}
theorem Ud(hr:jQ X (compareOp op) r)(hz:Ew X.K r o)(ha:DW X a fa)(hb:DW X b fb)(hm:behindInMarks op b=AT):DE X (.Compare a [op] [b] pos) (Z.eB o fa fb):=
 PE.imp (E7 hr ha hb hm)<|two hz
theorem xZ(h:PT X e (IP t))(k:∀σ H Q,tZ X.K f σ H Q->t σ H Q):DT X e (Z.tE f):=PT.imp h λ σ H Q ⟨ρ,b,r,e,q⟩=>by
 obtain⟨x,ea,e⟩:=bd e;refine k σ H _ ⟨ρ,x,r,ea,λ v H' s d=>?_⟩;split at e
 .cases e;simp only[Den]at d;exact⟨_,d,q H' s⟩
 .cases e
theorem T9(hr:jQ X (compareOp op) r)(hz:Ew X.K r o)(ha:DW X a fa)(hb:DW X b fb)(hm:behindInMarks op b=AT):DT X (.Compare a [op] [b] pos) (Z.tE<|Z.eB o fa fb):=
 xZ (yT hr ha hb hm)<|two hz
structure Co(X:Cx)(op:CmpOp)(o:Z.D->Z.D->Z.Res Z.D):Prop where
 ex:∃r,jQ X (compareOp op) r/\Ew X.K r o
theorem _root_.ZQ.cB(h:Co X op o)(ha:ZQ.QW X a fa)(hb:ZQ.QW X b fb)(hm:behindInMarks op b=AT:=by first|exact uR _|with_unfolding_all rfl):ZQ.QE X (.Compare a [op] [b] pos) (Z.eB o fa fb):=
 ⟨let ⟨_,hr,hz⟩:=h.ex;Ud hr hz ha.p hb.p hm⟩
theorem _root_.ZQ.aR(h:Co X op o)(ha:ZQ.QW X a fa)(hb:ZQ.QW X b fb)(hm:behindInMarks op b=AT:=by first|exact uR _|with_unfolding_all rfl):ZQ.QT X (.Compare a [op] [b] pos) (Z.tE<|Z.eB o fa fb):=
 ⟨let ⟨_,hr,hz⟩:=h.ex;T9 hr hz ha.p hb.p hm⟩
theorem yb(hz:Ew X.K r o)(XW:Ew X.K r' o'):∀σ H Q,tZ X.K (Z.iA o o' fa fb fc) σ H Q->CN r r' (P6 X.K fa) (P6 X.K fb) (P6 X.K fc) σ H Q:=by
 rintro σ H Q ⟨ρ,d,re,e,k⟩;obtain⟨x,ea,e⟩:=bd e;obtain⟨y,eb,e⟩:=bd e;obtain⟨z,eo,e⟩:=bd e;refine⟨ρ,x,re,ea,λ v H1 s1 d1=>⟨ρ,y,re.up s1,eb,λ u H2 s2 d2=>hz _ _ _ _ _ H2 _ (d1.up s2) d2 eo λ w H3 s3 dw=>?_⟩⟩;have L_:=(s1.trans s2).trans s3;split at e
 .rename_i q;simp only[Den]at dw;refine⟨_,dw,?_⟩;cases q with
  |true=>simp only[A25]at e ⊢;obtain⟨t,ec,e⟩:=bd e;exact⟨ρ,t,re.up L_,ec,λ v' H4 s4 d4=>XW _ _ _ _ _ H4 Q ((d2.up s3).up s4) d4 e λ w' H5 s5 dw'=>k w' H5 ((L_.trans s4).trans s5) dw'⟩
  |false=>simp only[A43]at e ⊢;cases e;exact k _ H3 L_ c!
 .cases e
theorem _root_.ZQ.B1(h:Co X op o)(h':Co X GB o')(ha:ZQ.QW X a fa)(hb:ZQ.QW X b fb)(hc:ZQ.QW X c fc)
 (hm:lastMarks [op,GB] [b,c]=AT:=by with_unfolding_all rfl):ZQ.QE X (.Compare a [op,GB] [b,c] pos) (Z.iA o o' fa fb fc):=
 ⟨let ⟨_,hr,hz⟩:=h.ex;let ⟨_,hr',XW⟩:=h'.ex;PE.imp (JA hr hr' ha.p hb.p hc.p hm) (yb hz XW)⟩
theorem _root_.ZQ.kM(h:Co X op o)(h':Co X GB o')(ha:ZQ.QW X a fa)(hb:ZQ.QW X b fb)(hc:ZQ.QW X c fc)
 (hm:lastMarks [op,GB] [b,c]=AT:=by with_unfolding_all rfl):ZQ.QT X (.Compare a [op,GB] [b,c] pos) (Z.tE<|Z.iA o o' fa fb fc):=
 ⟨let ⟨_,hr,hz⟩:=h.ex;let ⟨_,hr',XW⟩:=h'.ex;xZ (Jr hr hr' ha.p hb.p hc.p hm) (yb hz XW)⟩
theorem Eg:Co X .Lt Z.oLt:=⟨_,Wy,md (λ dx dy d e=>by
 unfold Z.oLt at e;split at e
 .cases e;exact⟨_,_,rfl,rfl,rfl⟩
 .cases e) λ _ _ _=>c!⟩
theorem Ur:Co X .Gt Z.Sx:=⟨_,WA,md (λ dx dy d e=>by
 unfold Z.Sx at e;split at e
 .cases e;exact⟨_,_,rfl,rfl,rfl⟩
 .cases e) λ _ _ _=>c!⟩
theorem adh:Co X .GtE Z.Z1:=⟨_,WB,md (λ dx dy d e=>by
 unfold Z.Z1 at e;split at e
 .cases e;exact⟨_,_,rfl,rfl,rfl⟩
 .cases e) λ _ _ _=>c!⟩
theorem Gz:jQ X (compareOp .LtE) (λ x y H Q=>∃i j,x=.str i/\y=.str j/\Q (.bl<|!decide (j.cps.toList<i.cps.toList)) H):=by intro χ s σ H x y v u Q I rx ry h;obtain⟨i,j,rfl,rfl,q⟩:=h;obtain⟨t,rfl⟩:=rx;obtain⟨t',rfl⟩:=ry;exact PySem.P.le_str<|zz I q rfl
theorem Kc:∀a b,Z.HS a b=decide (a<b)
|[],[]=>by simp[Z.HS]
|[],_::_=>by simp[Z.HS]
|_::_,[]=>by simp[Z.HS]
|a::as,b::bs=>by
 unfold Z.HS;rw[Kc];by_cases h:a<b
 .simp[C18]
 .by_cases h2:a=b
  .subst h2;simp
  .simp[C18]
theorem lW:Co X .LtE Z.oLe:=⟨_,Wz.or Gz,λ x y dx dy d H Q h1 h2 e k=>by
 unfold Z.oLe at e;split at e
 .cases e;exact .inl ⟨_,_,h1.int,h2.int,k _ H (aI.refl H) c!⟩
 .cases e;refine .inr ⟨_,_,h1.str,h2.str,?_⟩;rename_i as bs;have q:=k (.bl<|!Z.HS bs as) H (aI.refl H) c!;rw[Kc]at q;exact q
 .cases e⟩
def XG:Z.D->Bool
|.non=>Da
|_=>AT
theorem JU{K:Do}(h:bJ K H d v):decide (v=.non)=XG d:=by
 cases d with
 |non=>rw[h.non];rfl
 |bl b=>rw[h.bl];rfl
 |int i=>rw[h.int];rfl
 |str cs=>rw[h.str];rfl
 |tup ds=>obtain⟨a,vs,rfl,_⟩:=h.tup;rfl
 |lst ds=>obtain⟨a,vs,rfl,_⟩:=h.lst;rfl
 |dct ks ds=>obtain⟨a,o,aS,rfl,_⟩:=h.dct;rfl
theorem Ov:∀σ H Q,tZ X.K (Z.eU Z.qL fa) σ H Q->P7 (λ x y H Q=>y=.non/\Q (.bl<|decide<|x=.non) H) (P6 X.K fa) (tC .non) σ H Q:=by rintro σ H Q ⟨ρ,d,r,e,k⟩;obtain⟨x,ea,e⟩:=bd e;refine⟨ρ,x,r,ea,λ v H1 s1 d1=>⟨rfl,?_⟩⟩;rw[JU d1];cases x<;>(cases e;exact k _ H1 s1 c!)
theorem JS:∀σ H Q,tZ X.K (Z.eU Z.xD fa) σ H Q->P7 (λ x y H Q=>y=.non/\Q (.bl<|!decide (x=.non)) H) (P6 X.K fa) (tC .non) σ H Q:=by rintro σ H Q ⟨ρ,d,r,e,k⟩;obtain⟨x,ea,e⟩:=bd e;refine⟨ρ,x,r,ea,λ v H1 s1 d1=>⟨rfl,?_⟩⟩;rw[JU d1];cases x<;>(cases e;exact k _ H1 s1 c!)
theorem _root_.ZQ.zG(ha:ZQ.QW X a fa):ZQ.QT X (.Compare a [.Is] [.Constant .none j pos'] pos) (Z.tE<|Z.eU Z.qL fa):=⟨xZ (yT Si ha.p C8<|uR _) Ov⟩
theorem _root_.ZQ.OU(ha:ZQ.QW X a fa):ZQ.QT X (.Compare a [.IsNot] [.Constant .none j pos'] pos) (Z.tE<|Z.eU Z.xD fa):=⟨xZ (yT Nj ha.p C8<|uR _) JS⟩
theorem LM:Co X .In Z.uO:=⟨_,GA,λ x y dx dy d H Q h1 h2 e k=>by
 unfold Z.uO at e;split at e
 .cases e;refine⟨_,_,h1.str,h2.str,?_⟩;rename_i c t;rw[mm,aa0];exact k _ H (aI.refl H) c!
 .cases e⟩
theorem _root_.ZQ.iX(h:ZQ.QE X a fa):ZQ.QE X (.BoolOp op [a] pos) fa:=⟨Jx h.p⟩
theorem _root_.ZQ.oV{rest:γ ι}(ha:ZQ.QE X a fa)(hb:ZQ.QE X (.BoolOp .And (b::rest) pos) fb):ZQ.QE X (.BoolOp .And (a::b::rest) pos) (Z.vG fa fb):=⟨PE.imp (JB ha.p hb.p) λ σ H Q ⟨ρ,d,r,e,k⟩=>by
 obtain⟨x,ea,e⟩:=bd e;refine⟨ρ,x,r,ea,λ v H1 s1 d1=>?_⟩;split at e
 .rename_i q;simp only[Den]at d1;refine⟨q,d1,?_⟩;cases q with
  |true=>simp only[A25]at e ⊢;exact⟨ρ,d,r.up s1,e,λ w H' s2 dw=>k w H' (s1.trans s2) dw⟩
  |false=>simp only[A43]at e ⊢;cases e;exact k _ H1 s1 c!
 .cases e⟩
theorem _root_.ZQ.BZ{rest:γ ι}(ha:ZQ.QE X a fa)(hb:ZQ.QE X (.BoolOp .Or (b::rest) pos) fb):ZQ.QE X (.BoolOp .Or (a::b::rest) pos) (Z.QF fa fb):=⟨PE.imp (Ww ha.p hb.p) λ σ H Q ⟨ρ,d,r,e,k⟩=>by
 obtain⟨x,ea,e⟩:=bd e;refine⟨ρ,x,r,ea,λ v H1 s1 d1=>?_⟩;split at e
 .rename_i q;simp only[Den]at d1;refine⟨q,d1,?_⟩;cases q with
  |false=>simp only[A43]at e ⊢;exact⟨ρ,d,r.up s1,e,λ w H' s2 dw=>k w H' (s1.trans s2) dw⟩
  |true=>simp only[A25]at e ⊢;cases e;exact k _ H1 s1 c!
 .cases e⟩
theorem _root_.ZQ.Lr(ha:ZQ.QE X a fa):ZQ.QE X (.UnaryOp .Not a pos) (Z.La fa):=⟨PE.imp (R6 ha.p) λ σ H Q ⟨ρ,d,r,e,k⟩=>by
 obtain⟨x,ea,e⟩:=bd e;refine⟨ρ,x,r,ea,λ v H1 s1 d1=>?_⟩;split at e
 .simp only[Den]at d1;cases e;exact⟨_,d1,k _ H1 s1 c!⟩
 .cases e⟩
theorem Rp:∀σ H Q,VO X.K (Z.tE f) σ H Q->tB (tZ X.K f) σ H Q:=by
 rintro σ H Q ⟨ρ,b,r,e,q⟩;obtain⟨x,ea,e⟩:=bd e;refine⟨ρ,x,r,ea,λ v H' s d=>?_⟩;split at e
 .cases e;simp only[Den]at d;exact⟨_,d,q H' s⟩
 .cases e
theorem _root_.ZQ.fJ(h:ZQ.QE X e f)(he:∀whole,isTrue e X.env whole=(do let v ←whole;standAt e.pos;holding [v] (truthy v)):=by intro _;rfl):ZQ.QT X e (Z.tE f):=⟨PT.imp (RX h.p he) Rp⟩
theorem _root_.ZQ.b7(h:ZQ.QT X a t):ZQ.QT X (.UnaryOp .Not a pos) (Z.fz t):=⟨PT.imp (RY h.p) λ σ H Q ⟨ρ,b,r,e,q⟩=>by obtain⟨x,ea,e⟩:=bd e;cases e;exact⟨ρ,x,r,ea,λ H' s=>q H' s⟩⟩
theorem _root_.ZQ.FG(h:ZQ.QT X a t):ZQ.UL X (.BoolOp .And [a] pos) t:=⟨pw_and1 h.p⟩
theorem _root_.ZQ.g9(h:ZQ.QT X a t):ZQ.UL X (.BoolOp .Or [a] pos) t:=⟨pw_or1 h.p⟩
theorem _root_.ZQ.Ld{rest:γ ι}(ha:ZQ.QT X a t)(hb:ZQ.UL X (.BoolOp .And (b::rest) pos) u):ZQ.UL X (.BoolOp .And (a::b::rest) pos) (Z.CO t u):=⟨PW.imp (pw_and ha.p hb.p) λ σ H Q ⟨ρ,d,r,e,k⟩=>by
 obtain⟨x,ea,e⟩:=bd e;refine⟨ρ,x,r,ea,λ H1 s1=>?_⟩;cases x with
 |true=>simp only[A25]at e ⊢;exact⟨ρ,d,r.up s1,e,λ H' s2=>k H'<|s1.trans s2⟩
 |false=>simp only[A43]at e ⊢;cases e;exact k H1 s1⟩
theorem _root_.ZQ.j7{rest:γ ι}(ha:ZQ.QT X a t)(hb:ZQ.UL X (.BoolOp .Or (b::rest) pos) u):ZQ.UL X (.BoolOp .Or (a::b::rest) pos) (Z.Ag t u):=⟨PW.imp (pw_or ha.p hb.p) λ σ H Q ⟨ρ,d,r,e,k⟩=>by
 obtain⟨x,ea,e⟩:=bd e;refine⟨ρ,x,r,ea,λ H1 s1=>?_⟩;cases x with
 |false=>simp only[A43]at e ⊢;exact⟨ρ,d,r.up s1,e,λ H' s2=>k H'<|s1.trans s2⟩
 |true=>simp only[A25]at e ⊢;cases e;exact k H1 s1⟩
theorem _root_.ZQ.Cm(h:ZQ.UL X e t):ZQ.QT X e t:=⟨h.p.pt⟩
theorem _root_.ZQ.Lu(hc:ZQ.QT X c t)(ha:ZQ.QE X a fa)(hb:ZQ.QE X b fb):ZQ.QE X (.IfExp c a b pos) (Z.eIf t fa fb):=⟨PE.imp (Jz hc.p ha.p hb.p) λ σ H Q ⟨ρ,d,r,e,k⟩=>by
 obtain⟨x,ea,e⟩:=bd e;refine⟨ρ,x,r,ea,λ H1 s1=>?_⟩;cases x with
 |true=>simp only[A25]at e ⊢;exact⟨ρ,d,r.up s1,e,λ w H' s2 dw=>k w H' (s1.trans s2) dw⟩
 |false=>simp only[A43]at e ⊢;exact⟨ρ,d,r.up s1,e,λ w H' s2 dw=>k w H' (s1.trans s2) dw⟩⟩
theorem _root_.ZQ.av:ZQ.QA X [] Z.az:=⟨PA.imp b9 λ σ H Q ⟨ρ,ds,r,e,k⟩=>by cases e;exact k [] H (aI.refl H) aG.nil⟩
theorem iH(ha:DE X e f)(hr:DA X es g)(hs:Se e es X.env:=by rfl):DA X (e::es) (Z.aa f g):=PA.imp (a7 ha hr hs) λ σ H Q ⟨ρ,ds,r,e,k⟩=>by obtain⟨x,ea,e⟩:=bd e;obtain⟨xs,eb,e⟩:=bd e;cases e;exact⟨ρ,x,r,ea,λ v H1 s1 d1=>⟨ρ,xs,r.up s1,eb,λ vs H2 s2 d2=>k _ H2 (s1.trans s2)<|aG.cons (d1.up s2) d2⟩⟩
theorem _root_.ZQ.cq(h:ZQ.QA X es g):ZQ.QE X (.Tuple es x1 pos) (Z.cZ g):=⟨PE.imp (R5 h.p) λ σ H Q ⟨ρ,d,r,e,k⟩=>by
 obtain⟨xs,ea,e⟩:=bd e;unfold Z.guard at e;split at e
 .rename_i hl;cases e;refine⟨ρ,xs,r,ea,λ vs H1 s1 d1=>⟨by rw[d1.length,A27];exact hl,λ q hq=>?_⟩⟩;have s2:aI H1 (upd H1 q<|.tup vs):=bP hq;exact k _ _ (s1.trans s2)<|fG (.inl<|.inl aV)<|d1.up s2
 .cases e⟩
theorem _root_.ZQ.bo(h:ZQ.QA X es g):ZQ.QL X (.List es pos) (Z.bC g):=⟨PE.imp (R7 h.p) λ σ H Q ⟨ρ,d,r,e,k⟩=>by
 obtain⟨xs,ea,e⟩:=bd e;unfold Z.guard at e;split at e
 .rename_i hl;cases e;refine⟨ρ,_,r,ea,λ vs H1 s1 d1=>⟨by rw[d1.length,A27];exact hl,λ q hq=>?_⟩⟩;have s2:aI H1 (upd H1 q<|.lst vs):=bP hq;exact k q vs _ (s1.trans s2) (s1.free hq) aV<|d1.up s2
 .cases e⟩
end
end ZS
namespace ZS
open L2
def VE:Z.Ty->String
|.bool=> "bool"|.int=> "int"|.str=> "str"|.tuple=> "tuple"|.list=> "list"|.dict=> "dict"
def tyD:Z.D->String
|.non=> "NoneType"|.bl _=> "bool"|.int _=> "int"|.str _=> "str"|.tup _=> "tuple"|.lst _=> "list"|.dct _ _=> "dict"
theorem Oe(K:Do)(t:Z.Ty)(d:Z.D):FS K (.type<|tyD d) (.type<|VE t)=AC (Z.cF t d):=by cases t<;>cases d<;>kernel_rfl
theorem Kq(t:Z.Ty)(I:Inv X χ σ H s)(hd:bJ X.K H d v)(r:RelV v u)
 (h:∀tk,Q (.bool<|Z.cF t d) {s with toks:=tk}):FM (model X.prog X.w) A (call (.builtin "isinstance") [u,.type (VE t)]) Q E s:=by
 have e:=Oe X.K t d;cases d with
 |non=>rw[hd.non]at r;cases (r);exact A90 PySem.W.kitx_none I.nM True.intro e (λ z=>nomatch z) h
 |bl y=>rw[hd.bl]at r;cases (r);exact A90 PySem.W.kitx_bool I.nM True.intro e (λ z=>nomatch z) h
 |int i=>rw[hd.int]at r;obtain⟨t',q⟩:=(r);cases q;exact A90 PySem.W.kitx_int I.nM True.intro e (λ z=>nomatch z) h
 |str cs=>rw[hd.str]at r;obtain⟨t',q⟩:=(r);cases q;exact A90 PySem.W.kitx_str I.nM True.intro e (λ z=>nomatch z) h
 |tup ds=>obtain⟨a,vs,rfl,hq,_⟩:=hd.tup;cases (r);obtain⟨bx,_,⟨o,h1,h2,_⟩,_⟩:=I.tuple hq;exact A90 PySem.W.kitx_tuple I.nM ⟨o,h1,h2⟩ e (λ z=>nomatch z) h
 |lst ds=>obtain⟨a,vs,rfl,hq,_⟩:=hd.lst;cases (r);obtain⟨bx,_,⟨o,n,h1,h2,_⟩,_⟩:=I.list hq;exact A90 PySem.W.kitx_list I.nM ⟨o,h1,h2⟩ e (λ z=>nomatch z) h
 |dct ks ds=>
  obtain⟨a,o,aS,rfl,hq,_⟩:=hd.dct;cases (r);obtain⟨_,_,_,_,_,o',es,ep,h1,h2,_⟩:=(I.bQ a _ hq)
  exact A90 PySem.W.kitx_dict I.nM ⟨o',h1,h2.1⟩ e (λ z=>nomatch z) h
theorem _root_.ZQ.cE(t:Z.Ty)(hg:Gl X x)(hm:X.mg x=Ch)(hv:bootBuiltins x=AC (.builtin "isinstance"))(hg2:Gl X y)(hm2:X.mg y=Ch)(Vb:bootBuiltins y=AC (.type<|VE t))(ha:ZQ.QW X a fa)
 (hn:x≠ "__name__":=by decide +kernel) (ir:(x==("__debug__"))=AT:=by decide +kernel) (Vd:y≠ "__name__":=by decide +kernel) (acm:(y==("__debug__"))=AT:=by decide +kernel)
 (he:starEach (a::[.Name y p2]) X.env=(AT,eval a X.env)::starEach [.Name y p2] X.env:=by rfl) (dX:(backTo pos<|starEach [.Name y p2] X.env).any (·.1)=AT:=by rfl) (Mg:starEach ((.Name y p2)::[]) X.env=(AT,eval (.Name y p2) X.env)::starEach [] X.env:=by rfl) :
 ZQ.QE X (.Call (.Name x p1) [a,.Name y p2] [] pos) (Z.eU (Z.ig t) fa):=⟨by
 have hc:i' X (.builtin "isinstance") (λ xs H Q=>∃v d,xs=[v,.ty (VE t)]/\bJ X.K H d v/\Q (.bl<|Z.cF t d) H):=by intro χ s σ H xs us Q I r h;obtain⟨v,d,rfl,hd,q⟩:=h;obtain⟨u,w',rfl,r1,r2⟩:=vals2 r;cases (r2);exact Kq t I hd r1 λ tk=>⟨.bl _,H,I.tok _,rfl,q⟩
 refine PE.imp (ju hc hg hm hv (a7 ha.p (a7 (E8 (v:=.ty (VE t)) hg2 hm2 Vb rfl Vd acm) b9 Mg) he) hn ir he dX) λ σ H Q ⟨ρ,d,r,e,k⟩=>?_;obtain⟨x,ea,e⟩:=bd e;cases e;exact⟨ρ,x,r,ea,λ v H1 s1 d1=>⟨v,x,rfl,d1,k _ H1 s1 c!⟩⟩⟩
theorem _root_.ZQ.bN{x:Str}(hm:X.mg x=Ch)(ha:ZQ.QW X a fa)(hn:x≠ "__name__":=by decide +kernel)(ir:(x == ("__debug__"))=AT:=by decide +kernel)(he:Se a [] X.env:=by rfl)(dX:Pn pos [] X.env:=by rfl)(hg:Gl X x:=by rfl)(hv:bootBuiltins x=AC (.builtin "len"):=by kernel_rfl):ZQ.QE X (.Call (.Name x p1) [a] [] pos) (Z.eU Z.dM fa):=
 ⟨PE.imp (ju LI hg hm hv (a7 ha.p b9 he) hn ir he dX) λ σ H Q ⟨ρ,d,r,e,k⟩=>by
  obtain⟨x,ea,e⟩:=bd e;refine⟨ρ,x,r,ea,λ v H1 s1 d1=>?_⟩;unfold Z.dM at e;split at e
  .unfold Z.guard at e;split at e
   .rename_i cs hl;cases e;rw[d1.str];refine⟨_,_,rfl,⟨?_,?_⟩,k _ H1 s1 cO⟩
    .show cs.toArray.size<=sizeLine;rw[A27];simpa using hl
    .show cs.length=cs.toArray.size;simp
   .cases e
  .cases e;obtain⟨q,vs,rfl,hq,t⟩:=d1.tup;refine⟨_,_,rfl,.inr ⟨vs,hq,rfl⟩,?_⟩;rw[t.length];exact k _ H1 s1 cO
  .cases e;obtain⟨q,vs,rfl,hq,t⟩:=d1.lst;refine⟨_,_,rfl,.inl ⟨vs,hq,rfl⟩,?_⟩;rw[t.length];exact k _ H1 s1 cO
  .cases e⟩
theorem Ta(n:Nat)(i:Int):Z.wb n i=Xx n i:=rfl
theorem atZ{K:Do}(t:aG K H ds vs)(h:((Z.wb ds.length i).bind λ j=>ds[j]?)=AC d):∃v,UD vs i=AC v/\Den K H d v:=by
 unfold UD;rw[t.length,<-Ta];cases q:Z.wb _ i with
 |none=>rw[q]at h;cases h
 |some j=>rw[q]at h;exact t.get h
theorem _root_.ZQ.aH(ha:ZQ.QW X a fa)(hb:ZQ.QW X b fb)(hs:z_ b:=by intro _ _;rfl):ZQ.QE X (.Subscript a b pos) (Z.eB Z.aT fa fb):=⟨PE.imp (Qe Kp ha.p hb.p hs) (two λ x y dx dy d H Q h1 h2 e k=>by
 unfold Z.aT at e;split at e
 .obtain⟨q,vs,rfl,hq,t⟩:=h1.tup;split at e
  .rename_i v hv;cases e;obtain⟨w,e1,dw⟩:=atZ t hv;exact .inr<|.inl ⟨q,vs,_,w,rfl,h2.int,hq,e1,k w H (aI.refl H) dw⟩
  .cases e
 .obtain⟨q,vs,rfl,hq,t⟩:=h1.lst;split at e
  .rename_i v hv;cases e;obtain⟨w,e1,dw⟩:=atZ t hv;exact .inl ⟨q,vs,_,w,rfl,h2.int,hq,e1,k w H (aI.refl H) dw⟩
  .cases e
 .unfold Z.guard at e;split at e
  .rename_i cs i hl;split at e
   .rename_i c hc;cases e;refine .inr<|.inr ⟨_,_,c,h1.str,h2.int,?_,?_,?_⟩
    .show cs.toArray.size<=sizeLine;rw[A27];simpa using hl
    .exact hc
    .exact k _ H (aI.refl H)<|dI
   .cases e
  .cases e
 .cases e)⟩
theorem _root_.ZQ.x!:ZQ.QP X Ch Z.JF:=⟨PO.imp M? λ σ H Q ⟨ρ,o,r,e,k⟩=>by cases e;exact k H<|aI.refl H⟩
theorem _root_.ZQ.sh(h:ZQ.QW X e f):ZQ.QP X (AC e) (Z.C9 f):=⟨PO.imp (M! h.p) λ σ H Q ⟨ρ,o,r,e,k⟩=>by
 obtain⟨x,ea,e⟩:=bd e;refine⟨ρ,x,r,ea,λ v H1 s1 d1=>?_⟩;split at e
 .cases e;exact⟨_,d1.int,k H1 s1⟩
 .cases e⟩
theorem qD(n d:Nat)(o:ε Int):Z.eI n d o=HT.eI n d o:=by cases o<;>rfl
theorem Ee{K:Do}(t:aG K H ds vs)(lo hi:ε Int):aG K H (Z.cut ds lo hi) (w? vs lo hi):=by unfold Z.cut w?;rw[qD,qD,t.length];exact(t.drop _).take _
theorem Hw{lo hi:ε Int}(h1:HT.eI xs.length 0 lo=0)(h2:HT.eI xs.length xs.length hi=xs.length):Z.cut xs lo hi=xs:=by unfold Z.cut;rw[qD,qD,h1,h2];simp
def aaI(K:Do):V->ε Int->ε Int->Hp->VK->Prop:=λ x lo hi H Q=>∃a xs,x=.ref a/\mI K H a xs/\(w? xs lo hi=xs->Q (.ref a) H)/\∀p,H p=Ch->Q (.ref p) (upd H p<|.tup<|w? xs lo hi)
theorem nz{lo hi:ε Int}(ht:IsTup s.heap t items)(hs:s.heap.IsSliceOf sl vl vu .none)(pl:IsPart vl lo)(pu:IsPart vu hi)
 (hw:HT.eI items.size 0 lo=0/\HT.eI items.size items.size hi=items.size)
 (h:Q (.ref t) s):FM (model prog w) A (getItem (.ref t)<|.ref sl) Q E s:=by
 obtain⟨os,To,Hg,Yh⟩:=id hs;have hTs:s.TypeIs (.ref sl) "slice":=⟨os,To,Hg⟩
 unfold getItem
 try with_reducible refine A57 ?_
 first|refine T0<|W1 ?_|skip
 refine T0<|wpAny_sequenceKey ht.typeIs (by decide) ?_;refine T0 (A97 (name:=Db "__getitem__") ht.typeIs A98
 <|A99 A98 ht.typeIs entry_tuple_getitem ?_<|args_tuple_getitem _ _)
 show FM _ _ (Wp (.ref t)>>=_) _ _ s;refine T0<|tupleItemsOf_ ht ?_;refine T0<|wpAny_typeOf hTs ?_;rw[f8 (by decide)];refine T0<|HT.kC hs pl pu ?_;have abF:(((HT.eI items.size 0 lo):Int)==0&&(1:Int)==1&&(HT.eI items.size items.size hi-HT.eI items.size 0 lo)==items.size)=Da:=by rw[hw.1,hw.2];simp
 show FM _ _ (if(((HT.eI items.size 0 lo:Nat):Int)==0&&(1:Int)==1&&(HT.eI items.size items.size hi-HT.eI items.size 0 lo)==items.size)=Da then _ else _) _ _ s;rw[f8 abF];refine T0 ?_;unfold Builtin.Tuple.tupleIsExact;refine T0<|wpAny_typeOf ht.typeIs ?_;refine W1 ?_;rw[f8<|B43 _];refine T0<|B03 ?_;exact W1 ⟨.ref t,rfl,W1 h⟩
theorem MR:PC X (aaI X.K):=by
 intro χ s σ H x v vl vu lo hi sl Q I rx hs pl pu h;obtain⟨a,xs,rfl,hx,q1,q2⟩:=h;by_cases hw:HT.eI xs.length 0 lo=0/\HT.eI xs.length xs.length hi=xs.length
 .cases rx;obtain⟨bx,r,ht,hz⟩:=I.tuple hx;have ψ:bx.toArray.size=xs.length:=by rw[A05];exact r.length.symm
  refine⟨"tuple",_,A98.lookup,ht.typeIs,?_⟩;refine nz ht hs pl pu (by rw[ψ];exact hw) ⟨.ref a,H,I,rfl,q1 ?_⟩;have:=Hw hw.1 hw.2;unfold Z.cut at this;rw[qD,qD]at this;exact this
 .exact RH χ s σ H _ v vl vu lo hi sl Q I rx hs pl pu ⟨a,xs,rfl,hx,hw,q2⟩
def aaK:V->ε Int->ε Int->Hp->VK->Prop:=λ x lo hi H Q=>∃z,x=.str z/\z.length<=sizeLine/\Q (.str<|Txt.slice z lo hi) H
theorem JD(h:IsPart v o):∃q,v=partValue q/\q.map (·.1)=o:=by
 cases h with
 |none=>exact⟨Ch,rfl,rfl⟩
 |int i t=>exact⟨AC (i,t),rfl,rfl⟩
theorem MU:PC X aaK:=by intro χ s σ H x v vl vu lo hi sl Q I rx hs pl pu h;obtain⟨z,rfl,hz,q⟩:=h;obtain⟨t,rfl⟩:=rx;obtain⟨ql,rfl,rfl⟩:=JD pl;obtain⟨qu,rfl,rfl⟩:=JD pu;refine⟨"str",_,F.slot_str_getitem.lookup,A77 _ _ _,?_⟩;refine wpAny_getItem_str_slice (st:=Ch) hs rfl ?_;refine post_val_or_str ⟨A23 (Txt.slice_le z _ _) hz,λ t' k=>⟨.str _,H,I.tok _,⟨t',rfl⟩,q⟩⟩
theorem _root_.ZQ.qc{lo hi:ε ι}(ha:ZQ.QW X a fa)(hl:ZQ.QP X lo gl)(hh:ZQ.QP X hi gh):ZQ.QE X (.Subscript a (.Slice lo hi Ch p2) pos) (Z.QD fa gl gh):=
 ⟨have hl:=hl.p;PE.imp (A2 (MU.or MR) ha.p hl hh.p) λ σ H Q ⟨ρ,d,r,e,k⟩=>by
  obtain⟨x,ea,e⟩:=bd e;obtain⟨l,el,e⟩:=bd e;obtain⟨h,eh,e⟩:=bd e;refine⟨ρ,x,r,ea,λ v H1 s1 d1=>⟨ρ,l,r.up s1,el,λ H2 s2=>⟨ρ,h,(r.up s1).up s2,eh,λ H3 s3=>?_⟩⟩⟩;have L_:=(s1.trans s2).trans s3;have d3:=(d1.up s2).up s3;unfold Z.WH at e;split at e
  .unfold Z.guard at e;split at e
   .rename_i cs _ _ hl;cases e;refine .inl ⟨_,d3.str,?_,?_⟩
    .show cs.toArray.size<=sizeLine;rw[A27];simpa using hl
    .rw[V1];exact k _ H3 L_ dI
   .cases e
  .cases e;obtain⟨q,vs,rfl,hq,t⟩:=d3.tup;refine .inr ⟨q,vs,rfl,hq,λ hw=>?_,λ z hz=>?_⟩
   .have:=Ee t l h;rw[hw]at this;exact k _ H3 L_<|fG hq this
   .have s4:aI H3 (upd H3 z<|.tup<|w? vs l h):=bP hz;exact k _ _ (L_.trans s4)<|fG (.inl<|.inl aV)<|(Ee t l h).up s4
  .cases e⟩
theorem _root_.ZQ.vH{lo hi:ε ι}(ha:ZQ.QW X a fa)(hl:ZQ.QP X lo gl)(hh:ZQ.QP X hi gh):ZQ.QL X (.Subscript a (.Slice lo hi Ch p2) pos) (Z.N_ fa gl gh):=
 ⟨PE.imp (A2 MV ha.p hl.p hh.p) λ σ H Q ⟨ρ,d,r,e,k⟩=>by
  obtain⟨x,ea,e⟩:=bd e;obtain⟨l,el,e⟩:=bd e;obtain⟨h,eh,e⟩:=bd e;refine⟨ρ,x,r,ea,λ v H1 s1 d1=>⟨ρ,l,r.up s1,el,λ H2 s2=>⟨ρ,h,(r.up s1).up s2,eh,λ H3 s3=>?_⟩⟩⟩;have L_:=(s1.trans s2).trans s3;have d3:=(d1.up s2).up s3;split at e
  .cases e;obtain⟨q,vs,rfl,hq,t⟩:=d3.lst;refine⟨q,vs,rfl,hq,λ z hz=>?_⟩;have s4:aI H3 (upd H3 z<|.lst<|w? vs l h):=bP hz;exact k z _ _ (L_.trans s4) (L_.free hz) aV<|(Ee t l h).up s4
  .cases e⟩
def Ws(K:Do):R2:=λ x y H Q=>∃l b xs zs,x=.ref l/\y=.ref b/\ku K H l xs/\ku K H b zs/\xs.length+zs.length<=sizeLine/\∀p,H p=Ch->Q (.ref p) (upd H p<|.lst<|xs++zs)
theorem Nq:jQ X (binaryOp .Add) (Ws X.K):=by
 intro χ s σ H x y v u Q I rx ry h;obtain⟨l,b,xs,zs,rfl,rfl,hH,hB,hz,q⟩:=h;cases rx;cases ry;obtain⟨bx,r,pl,_⟩:=I.list hH;obtain⟨iL,r2,pl2,_⟩:=I.list hB;have hl:=r.length;have Ts:=r2.length;obtain⟨⟨cls,dd,data,sl⟩,ho,hc,n,hd⟩:=id pl.isList;obtain⟨⟨YG,Vk,data2,UT⟩,HX,BC,n2,hd2⟩:=id pl2.isList;simp only at hc hd BC hd2;subst hc hd BC hd2;have ea:bx.toArray++iL.toArray=(bx++iL).toArray:=by simp
 refine B41 ⟨_,ho,rfl⟩ ⟨_,HX,rfl⟩ noFill_list_add seq_list_add PySem.F.slot_list_add PySem.F.entry_list_add (PySem.F.args_list_add_2 _ _) (list_addW l b _ _ n n2 dd Vk sl UT (by simp only[A05];lia)) ⟨ho,HX,?_⟩;rw[ea];exact⟨.ref _,_,I.abj (r.append r2) (by rw[A20];lia),rfl,q _ I.fresh⟩
theorem _root_.ZQ.g!(ha:ZQ.QW X a fa)(hb:ZQ.QW X b fb):ZQ.QL X (.BinOp a .Add b pos) (Z.kh fa fb):=⟨PE.imp (Jw Nq ha.p hb.p) λ σ H Q ⟨ρ,d,r,e,k⟩=>by
 obtain⟨x,ea,e⟩:=bd e;obtain⟨y,eb,e⟩:=bd e;refine⟨ρ,x,r,ea,λ v H1 s1 d1=>⟨ρ,y,r.up s1,eb,λ u H2 s2 d2=>?_⟩⟩;have Wa:=s1.trans s2;split at e
 .unfold Z.guard at e;split at e
  .rename_i xs ys hl;cases e;obtain⟨q,vs,rfl,hq,t⟩:=(d1.up s2).lst;obtain⟨q',Ae,rfl,eQ,t'⟩:=d2.lst;refine⟨q,q',vs,Ae,rfl,rfl,hq,eQ,by rw[t.length,t'.length,A27];exact hl,λ z hz=>?_⟩;have s3:aI H2 (upd H2 z<|.lst<|vs++Ae):=bP hz;exact k z _ _ (Wa.trans s3) (Wa.free hz) aV<|(t.append t').up s3
  .cases e
 .cases e⟩
def Ci(K:Do)(m:γ Z.D->Z.Res Z.D):Sp:=λ vs H Q _=>∃ds d,aG K H ds vs/\m ds=.ok d/\∀v H',aI H H'->Den K H' d v->Q v H'
theorem O?(F:e6 X.prog X.w X.K X.mg X.base jn k g fd ps (Ci X.K m))(hr:bB k X.A)(hg:Gl X x)(hm:X.mg x=AC (.ref g))(hk:Fk X.K (.ref g)=Da)(hb:Binds X.K fd ps [])
 (ha:DA X (e::es) ar) (ir:(x==("__debug__"))=AT:=by decide +kernel) (he:Se e es X.env:=by rfl) (dX:Pn pos es X.env:=by rfl) :
 DE X (.Call (.Name x p1) (e::es) [] pos) (Z.aA m ar):=
 PE.imp (yU F hr hg hm hk hb .nil uE ha ir he dX) λ σ H Q ⟨ρ,d,r,e,k⟩=>by obtain⟨ds,ea,e⟩:=bd e;refine⟨ρ,ds,r,ea,λ vs H1 s1 d1=>?_⟩;show Ci X.K m _ H1 Q E0;rw[A56];exact⟨ds,d,d1,e,λ v H' s2 dv=>k v H' (s1.trans s2) dv⟩
structure Cn(K:Do)(J:It)(S:Hp->Prop)(ds:List Z.D):Prop where
 go:∀(i:Nat)(d:Z.D)(H1:Hp),S H1->ds[i]?=AC d->J.go i H1
 EC:∀(i:Nat)(d:Z.D)(H1 H2:Hp)(x:V),S H1->ds[i]?=AC d->J.EC i H1 x H2->aI H1 H2/\Den K H2 d x
 stop:∀(H1:Hp),S H1->J.stop ds.length H1
def tZi(K:Do)(f:Z.LF):TI:=λ σ H R=>∃ρ ds,RE K H σ ρ/\f ρ=.ok ds/\∀J H',aI H H'->Cn K J (aI H') ds->R J H'
def tZj(K:Do)(f:Z.LF):TI:=λ σ H R=>∃ρ ds,RE K H σ ρ/\f ρ=.ok ds/\∀J H',aI H H'->Cn K J (iQ H') ds->R J H'
abbrev DI(X:Cx)(tg e:ι)(f:Z.LF):Prop:=PI X tg e<|tZi X.K f
structure _root_.ZQ.QI(X:Cx)(tg e:Expr)(f:Z.LF):Prop where p:DI X tg e f
abbrev DJ(X:Cx)(tg e:ι)(f:Z.LF):Prop:=PI X tg e<|tZj X.K f
structure _root_.ZQ.QJ(X:Cx)(tg e:Expr)(f:Z.LF):Prop where p:DJ X tg e f
section
variable{X:Cx}{tg e a b:ι}{es:γ ι}{pos p:Pos}{f fa fb:Z.EF}
theorem PI.imp(h:PI X tg e t)(k:∀σ H R,t' σ H R->t σ H R):PI X tg e t':=λ χ s σ H R I w=>h χ s σ H R I<|k σ H R w
theorem Cn.imp{K:Do}(h:Cn K J S ds)(k:∀H,S' H->S H):Cn K J S' ds:=
 ⟨λ i d H1 s=>h.go i d H1<|k _ s,λ i d H1 H2 x s=>h.EC i d H1 H2 x<|k _ s,λ H1 s=>h.stop H1<|k _ s⟩
theorem _root_.ZQ.BW(h:ZQ.QJ X tg e g):ZQ.QI X tg e g:=⟨PI.imp h.p λ σ H R ⟨ρ,ds,r,e,k⟩=>⟨ρ,ds,r,e,λ J H' s z=>k J H' s<|z.imp λ _ q=>l! q⟩⟩
theorem Oo{K:Do}(h:mI K H q vs)(t:aG K H ds vs):Cn K (Itt K q) (iQ H) ds where
 go:=λ i d H1 s hi=>by obtain⟨v,h1,_⟩:=t.get hi;exact⟨vs,v,fN s h,h1⟩
 EC:=λ i d H1 H2 x s hi y=>by obtain⟨e,y⟩:=y;obtain⟨v,h1,h2⟩:=t.get hi;have:=y vs<|fN s h;rw[h1]at this;cases this;subst e;exact⟨aI.refl _,h2.ups s⟩
 stop:=λ H1 s=>⟨vs,fN s h,by rw[t.length];exact M2 _⟩
theorem Ot{K:Do}(h:∀H1,S H1->ku K H1 q vs)(t:∀H1,S H1->aG K H1 ds vs)(t0:aG K H ds vs):Cn K (Itl K q) S ds where
 go:=λ i d H1 s hi=>by obtain⟨v,h1,_⟩:=t0.get hi;exact⟨vs,v,h H1 s,h1⟩
 EC:=λ i d H1 H2 x s hi y=>by obtain⟨e,y⟩:=y;obtain⟨v,h1,h2⟩:=(t H1 s).get hi;have:=y vs<|h H1 s;rw[h1]at this;cases this;subst e;exact⟨aI.refl _,h2⟩
 stop:=λ H1 s=>⟨vs,h H1 s,by rw[t0.length];exact M2 _⟩
theorem ints_get(lo:Int)(n i:Nat)(d:Z.D)(h:(Z.zints lo n)[i]?=AC d):i<n/\d=.int (lo+i):=by
 unfold Z.zints at h;rw[A04]at h;cases q:(FB n)[i]? with
 |none=>rw[q]at h;cases h
 |some j=>rw[q]at h;cases h;obtain⟨h1,h2⟩:=A10.mp q;rw[B00]at h1;rw[B17]at h2;subst h2;exact⟨h1,rfl⟩
theorem Ft{K:Do}(lo:Int)(n:Nat):Cn K (Q3 lo n) S (Z.zints lo n) where
 go:=λ i d H1 s hi=>(ints_get lo n i d hi).1
 EC:=λ i d H1 H2 x s hi y=>by obtain⟨e,y⟩:=y;obtain⟨_,rfl⟩:=ints_get lo n i d hi;subst e;rw[y];exact⟨aI.refl _,cO⟩
 stop:=λ H1 s=>by unfold Z.zints;rw[A09,B00];exact M2 _
theorem Ga{K:Do}(it:δ)(lo:Int)(n:Nat):Turn P w K tg (Q3 lo n) [it] it (λ i h=>IsLongIter h it (lo+(i)*1) ((n)-(i)) 1) where
 mem:=by simp
 obj:=λ i h st b hb=>by
  have e:b=it:=by simpa using hb
  subst e;exact⟨_,st,λ v z=>by have z':=z;cases z'⟩
 keep:=λ i h h' st k=>k it (by simp) _ st
 item:=by intro X hP hw hK hc i χ s σ H E I hf st hg;subst hP hw hK;obtain⟨f0,f1,f2,f3,f4,f5⟩:=hf it (by simp);have W:=Walks.longrange (prog:=X.prog) (w:=X.w) (I.ok.hd hc) it lo 1 n;refine W.item i s _ _ hg st λ v h' tk hv xu kk=>?_;obtain⟨t,rfl⟩:=hv;have I1:Inv X χ σ H {s with heap:=h',toks:=tk}:=I.turned (λ b o hb e=>kk b o (by simpa using hb) e) f0 f1 f3 f4 f5;refine⟨_,rfl,xU xu rfl rfl (by decide) ⟨.int _,H,I1,⟨t,?_⟩,⟨rfl,rfl⟩,xu,λ b hb=>(hf b hb).1⟩⟩;rw[Int.mul_one]
 done:=by intro X hP hw hK hc i χ s σ H E I hf st hg;subst hP hw hK;obtain⟨f0,f1,f2,f3,f4,f5⟩:=hf it (by simp);exact wpAny_pyNext_long_end (I.ok.hd hc) st (by have:n<=i:=hg;lia) λ h' eb=>⟨rfl,I.turned (λ b o hb e=>eb b o hb e) f0 f1 f3 f4 f5⟩
 self:=λ _ _ _ _ _ st h=>wpAny_pyIter_longiter st h
theorem range_any{lo hi:Int}{t u v:Tok}{tk:Nat}(I:Inv X χ σ H s)
 (q:R (Q3 lo (hi-lo).toNat) H):FM (model X.prog X.w) X.A (pyIter<|.ref s.heap.objs.size) (Y1 X χ σ tg R) E {s with heap:=s.heap.push {cls:=.type "range",data:=.fields #[.int lo t,.int hi u,.int 1 v]},toks:=tk}:=by
 have I1:Inv X χ σ H {s with heap:=s.heap.push {cls:=.type "range",data:=.fields #[.int lo t,.int hi u,.int 1 v]},toks:=tk}:=I.kept λ b o e=>A00 _ e;have e1:lo+((0:Nat):Int)*1=lo:=by simp
 have e2:(((hi-lo).toNat:Nat):Int)-((0:Nat):Int)=Os lo hi 1:=by rw[rangeSize_one];split<;>lia
 cases hs:Uf lo hi 1 with
 |true=>
  refine wpAny_pyIter_range (IsRange.new ..) hs ?_;refine⟨(s.heap.push {cls:=.type "range",data:=.fields #[.int lo t,.int hi u,.int 1 v]}).objs.size,[(s.heap.push {cls:=.type "range",data:=.fields #[.int lo t,.int hi u,.int 1 v]}).objs.size],_,_,H,rfl,
   I1.kept (t':=tk) λ b o e=>A00 _ e,CK _ lo (hi-lo).toNat,?_,λ b hb=>?_,q⟩
  .show IsRangeIter _ _ (lo+((0:Nat):Int)*1) ((((hi-lo).toNat:Nat):Int)-((0:Nat):Int)) 1;rw[e1,e2];exact A13 _ rfl
  .have e:b=(s.heap.push {cls:=.type "range",data:=.fields #[.int lo t,.int hi u,.int 1 v]}).objs.size:=by simpa using hb
   subst e;exact I1.vw (M2 _)<|I1.bQ.fresh<|M2 _
 |false=>
  refine wpAny_pyIter_longrange (IsRange.new ..) hs ?_;refine⟨(s.heap.push {cls:=.type "range",data:=.fields #[.int lo t,.int hi u,.int 1 v]}).objs.size,[(s.heap.push {cls:=.type "range",data:=.fields #[.int lo t,.int hi u,.int 1 v]}).objs.size],_,_,H,rfl,
   I1.kept (t':=tk) λ b o e=>A00 _ e,Ga _ lo (hi-lo).toNat,?_,λ b hb=>?_,q⟩
  .show IsLongIter _ _ (lo+((0:Nat):Int)*1) ((((hi-lo).toNat:Nat):Int)-((0:Nat):Int)) 1;rw[e1,e2];exact A13 _ rfl
  .have e:b=(s.heap.push {cls:=.type "range",data:=.fields #[.int lo t,.int hi u,.int 1 v]}).objs.size:=by simpa using hb
   subst e;exact I1.vw (M2 _)<|I1.bQ.fresh<|M2 _
def YW(ta:TA):TI:=λ σ H R=>ta σ H λ vs H1=>∃j:Int,vs=[.int j]/\R (Q3 0 j.toNat) H1
def YV(ta:TA):TI:=λ σ H R=>ta σ H λ vs H1=>∃i j:Int,vs=[.int i,.int j]/\R (Q3 i (j-i).toNat) H1
theorem Na(hg:Gl X "range")(hm:X.mg "range"=Ch)(ha:PA X [a] ta)(hs:starEach [a] X.env=[(AT,eval a X.env)]:=by rfl):PI X tg (.Call (.Name "range" p) [a] [] pos) (YW ta):=by
 intro χ s σ H R I h;refine Call_<|lh I hg hm boot_range<|A96 (cS (ha pos χ s σ H _ I h) λ us s1 ⟨vs,H1,I1,r1,q1⟩=>?_) hs rfl;obtain⟨j,e,q⟩:=q1;subst e;cases r1 with
 |cons r rr=>cases rr;obtain⟨t,rfl⟩:=r;exact call_range_1<|range_any I1 (by simpa using q)
theorem M_(hg:Gl X "range")(hm:X.mg "range"=Ch)(ha:PA X [a,b] ta)(hs:starEach [a,b] X.env=[(AT,eval a X.env),(AT,eval b X.env)]:=by rfl)(zt:starEach [b] X.env=[(AT,eval b X.env)]:=by rfl):
 PI X tg (.Call (.Name "range" p) [a,b] [] pos) (YV ta):=by
 intro χ s σ H R I h;refine Call_<|lh I hg hm boot_range<|A96 (cS (ha pos χ s σ H _ I h) λ us s1 ⟨vs,H1,I1,r1,q1⟩=>?_) (by rw[hs,zt]) (by rw[zt];rfl);obtain⟨i,j,e,q⟩:=q1;subst e;cases r1 with
 |cons r rr=>
  cases rr with
  |cons r' rr=>cases rr;obtain⟨t,rfl⟩:=r;obtain⟨t',rfl⟩:=r';exact call_range_2<|range_any I1 q
theorem _root_.ZQ.fZ(hm:X.mg "range"=Ch)(ha:ZQ.QE X a fa)(hs:starEach [a] X.env=[(AT,eval a X.env)]:=by rfl)(nO:Se a [] X.env:=by rfl)(hg:Gl X "range":=by rfl):ZQ.QJ X tg (.Call (.Name "range" p) [a] [] pos) (Z.jC fa):=
 ⟨PI.imp (Na hg hm (a7 ha.p b9 nO) hs) λ σ H R ⟨ρ,ds,r,e,k⟩=>by
  obtain⟨x,ea,e⟩:=bd e;refine⟨ρ,x,r,ea,λ v H1 s1 d1=>?_⟩;split at e
  .rename_i j;cases e;simp only[Den]at d1;exact⟨j,by rw[d1],k _ H1 s1<|Ft 0 _⟩
  .cases e⟩
theorem _root_.ZQ.BS(hm:X.mg "range"=Ch)(ha:ZQ.QE X a fa)(hb:ZQ.QE X b fb)(hs:starEach [a,b] X.env=[(AT,eval a X.env),(AT,eval b X.env)]:=by rfl)(zt:starEach [b] X.env=[(AT,eval b X.env)]:=by rfl)(h1:Se a [b] X.env:=by rfl)(h2:Se b [] X.env:=by rfl)(hg:Gl X "range":=by rfl):ZQ.QJ X tg (.Call (.Name "range" p) [a,b] [] pos) (Z.By fa fb):=
 ⟨PI.imp (M_ hg hm (a7 ha.p (a7 hb.p b9 h2) h1) hs zt) λ σ H R ⟨ρ,ds,r,e,k⟩=>by
  obtain⟨x,ea,e⟩:=bd e;obtain⟨y,eb,e⟩:=bd e;obtain⟨i,j,rfl,rfl,rfl⟩:∃i j,x=.int i/\y=.int j/\ds=Z.zints i (j-i).toNat:=by
   split at e
   .cases e;exact⟨_,_,rfl,rfl,rfl⟩
   .cases e
  refine⟨ρ,_,r,ea,λ v H1 s1 d1=>⟨ρ,_,r.up s1,eb,λ u H2 s2 d2=>?_⟩⟩;simp only[Den]at d1 d2;exact⟨i,j,by rw[d1,d2],k _ H2 (s1.trans s2)<|Ft i (j-i).toNat⟩⟩
def Its(z:Str):It:=⟨λ i _=>i<z.cps.size,λ i H x H'=>H'=H/\∃c,z.cps[i]?=AC c/\x=.str ⟨#[c]⟩,λ i _=>i=z.cps.size⟩
theorem Iz{K:Do}(z:Str)(it:δ)(n:String)(hn:["enumerate","zip","dict_itemiterator","dict_reverseitemiterator","odict_iterator","itertools.zip_longest","itertools.pairwise"].contains n=AT)(t:Tok)
 (W:∀A,A.handled=Ch->Walks P w A it [it] [it] z.cps.size (SignAt z) (λ i h=>h.IsStrIter it n z t i)) (self:∀A i s Q E,s.heap.IsStrIter it n z t i->Q (.ref it) s->FM (model P w) A (pyIter<|.ref it) Q E s) :
 Turn P w K tg (Its z) [it] it (λ i h=>h.IsStrIter it n z t i) where
 mem:=by simp
 obj:=λ i h st b hb=>by
  have e:b=it:=by simpa using hb
  subst e;obtain⟨o,e,c,d⟩:=st;exact⟨o,e,λ v z=>by rw[d]at z;cases z⟩
 keep:=λ i h h' st k=>by obtain⟨o,e,c,d⟩:=st;exact⟨o,k it (by simp) o e,c,d⟩
 item:=by intro X hP hw hK hc i χ s σ H E I hf st hg;subst hP hw hK;obtain⟨f0,f1,f2,f3,f4,f5⟩:=hf it (by simp);refine(W X.A<|I.ok.hd hc).item i s _ _ hg st λ v h' tk hv xu kk=>?_;obtain⟨c,u,_v,rfl⟩:=hv;have I1:Inv X χ σ H {s with heap:=h',toks:=tk}:=I.turned (λ b o hb e=>kk b o (by simpa using hb) e) f0 f1 f3 f4 f5;obtain⟨o,e,c',d⟩:=id xu;exact⟨_,rfl,xU e c' d hn ⟨.str ⟨#[c]⟩,H,I1,⟨u,rfl⟩,⟨rfl,c,_v,rfl⟩,xu,λ b hb=>(hf b hb).1⟩⟩
 done:=by intro X hP hw hK hc i χ s σ H E I hf st hg;subst hP hw hK;obtain⟨f0,f1,f2,f3,f4,f5⟩:=hf it (by simp);have hg':=hg;subst hg';exact(W X.A<|I.ok.hd hc).done s _ _ st λ h' tk kk=>⟨rfl,I.turned (λ b o hb e=>kk b o (by simpa using hb) e) f0 f1 f3 f4 f5⟩
 self:=self
theorem Oq{K:Do}(cs:γ Nat):Cn K (Its ⟨cs.toArray⟩) S (cs.map λ c=>.str [c]) where
 go:=λ i d H1 s hi=>by show i<cs.toArray.size;obtain⟨h1,_⟩:=A10.mp hi;simpa using h1
 EC:=λ i d H1 H2 x s hi y=>by
  obtain⟨e,c,hc,rfl⟩:=y;have xT:cs[i]?=AC c:=by simpa using hc
  rw[A04,xT]at hi;cases hi;subst e;exact⟨aI.refl _,dI ⟩
 stop:=λ H1 s=>by show(cs.map λ c=>Z.D.str [c]).length=cs.toArray.size;simp
theorem I_(I:Inv X χ σ H s)(rv:RelV v u)(hd:bJ X.K H d v)(hi:Z.lU d=.ok ds)
 (hS:∀H1,S H1->iQ H H1) (hL:∀es q vs,d=.lst es->v=.ref q->ku X.K H q vs->∀H1,S H1->ku X.K H1 q vs)
 (k:∀J,Cn X.K J S ds->R J H):FM (model X.prog X.w) X.A (pyIter u) (Y1 X χ σ tg R) E s:=by
 unfold Z.lU at hi;split at hi
 .cases hi;obtain⟨q,vs,rfl,hq,t⟩:=hd.tup;cases rv;obtain⟨bx,r',pl,hz⟩:=I.tuple hq;refine B04 (pl) ?_;refine⟨s.heap.objs.size,[s.heap.objs.size],_,_,H,rfl,I.kept λ b o e=>A00 _ e,CJ q _,⟨_,A13 _ rfl,rfl,rfl⟩,λ b hb=>?_,k _<|(Oo hq t).imp hS⟩;have e:b=s.heap.objs.size:=by simpa using hb
  subst e;exact I.vw (M2 _)<|I.bQ.fresh<|M2 _
 .cases hi;obtain⟨q,vs,rfl,hq,t⟩:=hd.lst;cases rv;obtain⟨bx,r',pl,hz⟩:=I.list hq;refine B18 pl.isList ?_;refine⟨s.heap.objs.size,[s.heap.objs.size],_,_,H,rfl,I.kept λ b o e=>A00 _ e,Gb q _,⟨_,A13 _ rfl,rfl,rfl⟩,λ b hb=>?_,
   k _<|Ot (λ H1 s1=>hL _ q vs rfl rfl hq H1 s1) (λ H1 s1=>t.ups<|hS H1 s1) t⟩
  have e:b=s.heap.objs.size:=by simpa using hb
  subst e;exact I.vw (M2 _)<|I.bQ.fresh<|M2 _
 .cases hi;rename_i cs;rw[hd.str]at rv;obtain⟨t,rfl⟩:=rv;have fin:∀n (hn:["enumerate","zip","dict_itemiterator","dict_reverseitemiterator","odict_iterator","itertools.zip_longest","itertools.pairwise"].contains n=AT)
   (W:∀A,A.handled=Ch->Walks X.prog X.w A s.heap.objs.size [s.heap.objs.size] [s.heap.objs.size] (⟨cs.toArray⟩:Str).cps.size (SignAt ⟨cs.toArray⟩) (λ i h=>h.IsStrIter s.heap.objs.size n ⟨cs.toArray⟩ t i))
   (self:∀A i s' Q E,s'.heap.IsStrIter s.heap.objs.size n ⟨cs.toArray⟩ t i->Q (.ref s.heap.objs.size) s'->FM (model X.prog X.w) A (pyIter<|.ref s.heap.objs.size) Q E s'),
   Y1 X χ σ tg R (.ref s.heap.objs.size) {s with heap:=s.heap.push {cls:=.type n,data:=.fields #[.str ⟨cs.toArray⟩ t,.int 0 0]}}:=by
   intro n hn W self;refine⟨s.heap.objs.size,[s.heap.objs.size],_,_,H,rfl,I.kept λ b o e=>A00 _ e,Iz ⟨cs.toArray⟩ _ n hn t W self,⟨_,A13 _ rfl,rfl,rfl⟩,λ b hb=>?_,k _<|Oq cs⟩;have e:b=s.heap.objs.size:=by simpa using hb
   subst e;exact I.vw (M2 _)<|I.bQ.fresh<|M2 _
  cases ha:(⟨cs.toArray⟩:Str).cps.all (· < 128)
  .exact wpAny_pyIter_wide ha<|fin "str_iterator" (by decide) (λ A' hA=>Walks.strWide hA _ _ t) λ _ _ _ _ _ st hQ=>wpAny_pyIter_striter_wide st hQ
  .exact wpAny_pyIter_ascii ha<|fin "str_ascii_iterator" (by decide) (λ A' hA=>Walks.strAscii hA _ _ t) λ _ _ _ _ _ st hQ=>wpAny_pyIter_striter_ascii st hQ
 .cases hi
theorem _root_.ZQ.fK(ha:ZQ.QW X a fa):ZQ.QI X tg a (Z.gi fa):=⟨by intro χ s σ H R I w;obtain⟨ρ,ds,r,e,k⟩:=w;obtain⟨d,ea,e⟩:=bd e;refine cS (ha.p χ s σ H (λ v H1=>aI H H1/\bJ X.K H1 d v) I ⟨ρ,d,r,ea,λ v H1 s1 d1=>⟨s1,d1⟩⟩) ?_;rintro u s1 ⟨v,H1,I1,rv,sm,hd⟩;exact I_ I1 rv hd e (λ _ q=>l! q) (λ _ _ _ _ _ hq H2 s2=>s2.seq hq) λ J z=>k J H1 sm z⟩
theorem _root_.ZQ.vI(ha:ZQ.QE X a fa):ZQ.QJ X tg a (Z.gi fa):=⟨by intro χ s σ H R I w;obtain⟨ρ,ds,r,e,k⟩:=w;obtain⟨d,ea,e⟩:=bd e;refine cS (ha.p χ s σ H (λ v H1=>aI H H1/\Den X.K H1 d v) I ⟨ρ,d,r,ea,λ v H1 s1 d1=>⟨s1,d1⟩⟩) ?_;rintro u s1 ⟨v,H1,I1,rv,sm,hd⟩;refine I_ I1 rv (.inl hd) e (λ _ q=>q) (λ es q vs e1 e2 hq H2 s2=>?_) λ J z=>k J H1 sm z;subst e1;simp only[Den]at hd;obtain⟨q',Ae,e3,hz,_⟩:=hd;rw[e2]at e3;cases e3;rw[I1.pR hq hz.sq];exact(hz.mono s2).sq⟩
def i9(H0:Hp)(σ:St)(ρ:Z.Env):Prop:=(∀(i j:Nat)(ks ls:Z.DK)(a:δ),ρ[i]?=AC (AC<|.dc ks)->ρ[j]?=AC (AC<|.dc ls)->σ[i]?=AC (AC<|.ref a)->σ[j]?=AC (AC<|.ref a)->i=j) /\
 ∀(i:Nat)(ks:Z.DK)(q:δ),ρ[i]?=AC (AC<|.dc ks)->σ[i]?=AC (AC<|.ref q)->H0 q=Ch
theorem i9.non(h:∀(i:Nat)(ks:Z.DK),ρ[i]?≠AC (AC<|.dc ks)):i9 H0 σ ρ:=⟨λ i _ ks _ _ e=>absurd e<|h i ks,λ i ks _ e=>absurd e<|h i ks⟩
structure RS(K:Do)(H0 H:Hp)(σ:St)(ρ:Z.Env):Prop where
 same:aI H0 H
 re:RE K H σ ρ
 fresh:∀(i:Nat)(xs:List Z.D)(q:Addr),ρ[i]?=AC (AC<|.own xs)->σ[i]?=AC (AC<|.ref q)->H0 q=Ch
 lK:∀(i:Nat)(d:Z.D),ρ[i]?=AC (AC<|.bor d)->∃v,σ[i]?=AC (AC v)/\yn K H0 d v
 nA:i9 H0 σ ρ
def _D(K:Do)(H0 H:Hp)(D:Ends):Z.Fl->Prop
|.nx ρ'=>∀σ' H',iQ H H'->RS K H0 H' σ' ρ'->D.nx σ' H'
|.rt d=>∀v H',aI H0 H'->Den K H' d v->D.rt v H'
|.bk ρ'=>∀σ' H',iQ H H'->RS K H0 H' σ' ρ'->D.bk σ' H'
|.ct ρ'=>∀σ' H',iQ H H'->RS K H0 H' σ' ρ'->D.ct σ' H'
def tS(K:Do)(H0:Hp)(g:Z.SF):TS:=λ D σ H=>∃ρ fl,RS K H0 H σ ρ/\g ρ=.ok fl/\_D K H0 H D fl
abbrev DS(X:Cx)(H0:Hp)(st:θ)(g:Z.SF):Prop:=PS X st<|tS X.K H0 g
structure _root_.ZQ.QS(X:Cx)(H0:Hp)(st:Stmt)(g:Z.SF):Prop where p:DS X H0 st g
abbrev L8(X:Cx)(H0:Hp)(st:γ θ)(g:Z.SF):Prop:=sr X st<|tS X.K H0 g
structure _root_.ZQ.z!(X:Cx)(H0:Hp)(st:List Stmt)(g:Z.SF):Prop where p:L8 X H0 st g
theorem PS.imp{st:θ}(h:PS X st t)(k:∀D σ H,t' D σ H->t D σ H):PS X st t':=λ χ s σ H D I w=>h χ s σ H D I<|k D σ H w
theorem sr.imp{st:γ θ}(h:sr X st t)(k:∀D σ H,t' D σ H->t D σ H):sr X st t':=λ χ s σ H D I w=>h χ s σ H D I<|k D σ H w
theorem RS.up{K:Do}(h:RS K H0 H σ ρ)(e:aI H H'):RS K H0 H' σ ρ:=⟨h.same.trans e,h.re.up e,h.fresh,h.lK,h.nA⟩
theorem _D.up{K:Do}(h:_D K H0 H D fl)(e:iQ H H1):_D K H0 H1 D fl:=by
 cases fl with
 |nx ρ'=>exact λ σ' H' s r=>h σ' H' (e.trans s) r
 |rt d=>exact h
 |bk ρ'=>exact λ σ' H' s r=>h σ' H' (e.trans s) r
 |ct ρ'=>exact λ σ' H' s r=>h σ' H' (e.trans s) r
theorem aC{α:Type}{l:γ _}{x:ε α}{y:α}(h:(l.set i x)[j]?=AC (AC y)):(i=j/\i<l.length/\x=AC y)\/(i≠j/\l[j]?=AC (AC y)):=by
 by_cases wc:i=j
 .subst wc;by_cases hl:i<l.length
  .rw[A30 hl]at h;exact .inl ⟨rfl,hl,A03 h⟩
  .rw[B83 (by simpa using hl)]at h;cases h
 .rw[A26 wc]at h;exact .inr ⟨wc,h⟩
theorem i9.set(h:i9 H0 σ ρ)(n:∀ks,l≠.dc ks):i9 H0 (σ.set i<|some v) (ρ.set i<|some l):=by
 have get:∀(j:Nat) ks,(ρ.set i _)[j]?=AC _->ρ[j]?=AC _/\(σ.set i<|some v)[j]?=σ[j]?:=λ j ks e=>by
  rcases aC e with⟨_,_,e⟩|⟨hj,e⟩
  .exact absurd (A03 e)<|n ks
  .exact⟨e,A26 hj⟩
 exact⟨λ j k ks ls a e1 e2 e3 e4=>h.1 j k ks ls a (get j ks e1).1 (get k ls e2).1 (by rw[<-(get j ks e1).2];exact e3) (by rw[<-(get k ls e2).2];exact e4),λ j ks q e1 e2=>h.2 j ks q (get j ks e1).1 (by rw[<-(get j ks e1).2];exact e2)⟩
theorem i9.V4(h:i9 H0 σ ρ)(n:∀ks,l≠.dc ks):i9 H0 σ (ρ.set i<|some l):=by
 have get:∀(j:Nat) ks,(ρ.set i _)[j]?=AC _->ρ[j]?=AC _:=λ j ks e=>by
  rcases aC e with⟨_,_,e⟩|⟨hj,e⟩
  .exact absurd (A03 e)<|n ks
  .exact e
 exact⟨λ j k ks ls a e1 e2 e3 e4=>h.1 j k ks ls a (get j ks e1) (get k ls e2) e3 e4,λ j ks q e1 e2=>h.2 j ks q (get j ks e1) e2⟩
theorem RS.Gk{K:Fa}(h:RS K H0 H σ ρ)(hd:Den K H d v):RS K H0 H (σ.set i<|some v) (ρ.set i<|some<|.val d):=by
 have getσ:∀j,i≠j->(σ.set i<|some v)[j]?=σ[j]?:=λ j hj=>A26 hj;refine⟨h.same,⟨by simp[h.re.len],λ j l e=>?_,λ j k xs ys q e1 e2 e3 e4=>?_⟩,λ j xs q e1 e2=>?_,λ j xs e1=>?_,h.nA.set λ _ z=>nomatch z⟩
 .rcases aC e with⟨rfl,hl,e⟩|⟨hj,e⟩
  .cases e;exact⟨v,A30 (by rw[<-h.re.len];exact hl),hd⟩
  .rw[getσ j hj];exact h.re.get j l e
 .rcases aC e1 with⟨_,_,e⟩|⟨hj,e1⟩
  .cases e
  .rcases aC e2 with⟨_,_,e⟩|⟨hk,e2⟩
   .cases e
   .rw[getσ j hj]at e3;rw[getσ k hk]at e4;exact h.re.sep j k xs ys q e1 e2 e3 e4
 .rcases aC e1 with⟨_,_,e⟩|⟨hj,e1⟩
  .cases e
  .rw[getσ j hj]at e2;exact h.fresh j xs q e1 e2
 .rcases aC e1 with⟨_,_,e⟩|⟨hj,e1⟩
  .cases e
  .rw[getσ j hj];exact h.lK j xs e1
theorem RS.V6{K:Fa}(h:RS K H0 H σ ρ)(hq:H q=AC (.lst vs))(t:aG K H ds vs)(h0:H0 q=Ch)
 (nq:∀j xs,j≠i->ρ[j]?=AC (AC<|.own xs)->σ[j]?≠AC (AC<|.ref q)):RS K H0 H (σ.set i<|some<|.ref q) (ρ.set i<|some<|.own ds):=by
 have getσ:∀j,i≠j->(σ.set i<|some<|V.ref q)[j]?=σ[j]?:=λ j hj=>A26 hj;refine⟨h.same,⟨by simp[h.re.len],λ j l e=>?_,λ j k xs ys p e1 e2 e3 e4=>?_⟩,λ j xs p e1 e2=>?_,λ j xs e1=>?_,h.nA.set λ _ z=>nomatch z⟩
 .rcases aC e with⟨rfl,hl,e⟩|⟨hj,e⟩
  .cases e;exact⟨_,A30 (by rw[<-h.re.len];exact hl),q,vs,rfl,hq,t⟩
  .rw[getσ j hj];exact h.re.get j l e
 .rcases aC e1 with⟨rfl,hl,_⟩|⟨hj,e1⟩
  .rcases aC e2 with⟨rfl,_,_⟩|⟨hk,e2⟩
   .rfl
   .rw[A30 (by rw[<-h.re.len];exact hl)]at e3;cases e3;rw[getσ k hk]at e4;exact absurd e4<|nq k ys (A08 hk) e2
  .rcases aC e2 with⟨rfl,hl,_⟩|⟨hk,e2⟩
   .rw[A30 (by rw[<-h.re.len];exact hl)]at e4;cases e4;rw[getσ j hj]at e3;exact absurd e3<|nq j xs (A08 hj) e1
   .rw[getσ j hj]at e3;rw[getσ k hk]at e4;exact h.re.sep j k xs ys p e1 e2 e3 e4
 .rcases aC e1 with⟨rfl,hl,_⟩|⟨hj,e1⟩
  .rw[A30 (by rw[<-h.re.len];exact hl)]at e2;cases e2;exact h0
  .rw[getσ j hj]at e2;exact h.fresh j xs p e1 e2
 .rcases aC e1 with⟨_,_,e⟩|⟨hj,e1⟩
  .cases e
  .rw[getσ j hj];exact h.lK j xs e1
theorem RS.chg{K:Fa}(h:RS K H0 H σ ρ)(ei:ρ[i]?=AC (AC<|.own xs))(si:σ[i]?=AC (AC<|.ref q))(hq:H q=AC (.lst us))(t:aG K H ds vs):
 RS K H0 (upd H q<|.lst vs) σ (ρ.set i<|some<|.own ds):=by
 have st:iQ H (upd H q<|.lst vs):=jS hq;have h0:=h.fresh i xs q ei si;have hs:aI H0 (upd H q<|.lst vs):=λ b u e=>by rw[aD<|bq e h0];exact h.same b u e
 refine⟨hs,⟨by simp[h.re.len],λ j l e=>?_,λ j k EE ys p e1 e2 e3 e4=>?_⟩,λ j EE p e1 e2=>?_,λ j EE e1=>?_,h.nA.V4 λ _ z=>nomatch z⟩
 .rcases aC e with⟨rfl,hl,e⟩|⟨hj,e⟩
  .cases e;exact⟨.ref q,si,q,vs,rfl,aV,t.ups st⟩
  .obtain⟨v,e1,r⟩:=h.re.get j l e;refine⟨v,e1,?_⟩;cases l with
   |val d=>exact Den.ups (r) st
   |own zs=>
    obtain⟨q',ws,rfl,eQ,t'⟩:=r;have:q'≠q:=by rintro rfl;exact hj<|h.re.sep i j xs zs q' ei e si e1
    exact⟨q',ws,rfl,by rw[aD this];exact eQ,t'.ups st⟩
   |bor zs=>obtain⟨v',e2,r2⟩:=h.lK j zs e;rw[e1]at e2;cases e2;exact r2.re r h.same hs st
   |dc ks=>
    obtain⟨q',as,rfl,eQ,t'⟩:=r;have:q'≠q:=by rintro rfl;rw[hq]at eQ;exact zP (A03 eQ).symm
    exact⟨q',as,rfl,by rw[aD this];exact eQ,t'.ups st⟩
   |Aj ks=>obtain⟨q',o',as,rfl,eQ,t'⟩:=r;exact⟨q',o',as,rfl,st.dZ _ _ _ eQ,t'.ups st⟩
   |Qp ps=>obtain⟨q',o',rfl,eQ⟩:=r;exact⟨q',o',rfl,st.dZ _ _ _ eQ⟩
   |exc c=>obtain⟨q',o',u',C',rfl,eQ,r1,r2,r3⟩:=r;exact⟨q',o',u',C',rfl,st.dZ _ _ _ eQ,r1,r2,r3.ups st⟩
 .have old:∀{j:Nat}{zs},(ρ.set i<|some<|Z.L.own ds)[j]?=AC (AC<|.own zs)->∃zs',ρ[j]?=AC (AC<|.own zs'):=λ {j zs} e=>by
   rcases aC e with⟨rfl,_,_⟩|⟨_,e⟩
   .exact⟨xs,ei⟩
   .exact⟨zs,e⟩
  obtain⟨_,o1⟩:=old e1;obtain⟨_,o2⟩:=old e2;exact h.re.sep j k _ _ p o1 o2 e3 e4
 .rcases aC e1 with⟨rfl,_,_⟩|⟨_,e1⟩
  .exact h.fresh i xs p ei e2
  .exact h.fresh j EE p e1 e2
 .rcases aC e1 with⟨_,_,e⟩|⟨_,e1⟩
  .cases e
  .exact h.lK j EE e1
theorem RS.dZ{K:Fa}{H0 H:Hp}{σ:St}{ρ:Z.Env}{i:Nat}{xs:γ Z.D}{q:δ}{us:γ V}{o:ν}(h:RS K H0 H σ ρ)(ei:ρ[i]?=AC (AC<|.own xs))(si:σ[i]?=AC (AC<|.ref q))(hq:H q=AC (.lst us))(t:aG K H xs us):
 RS K H0 (upd H q<|.dZ o<|.lst us) σ (ρ.set i<|some<|.val<|.lst xs):=by
 have st:iQ H (upd H q<|.dZ o<|.lst us):=jS hq;have h0:=h.fresh i xs q ei si;have hs:aI H0 (upd H q<|.dZ o<|.lst us):=λ b u e=>by rw[aD<|bq e h0];exact h.same b u e
 refine⟨hs,⟨by simp[h.re.len],λ j l e=>?_,λ j k EE ys p e1 e2 e3 e4=>?_⟩,λ j EE p e1 e2=>?_,λ j EE e1=>?_,h.nA.V4 λ _ z=>nomatch z⟩
 .rcases aC e with⟨rfl,hl,e⟩|⟨hj,e⟩
  .cases e;exact⟨_,si,zK (.inl ⟨o,aV⟩)<|t.ups st⟩
  .obtain⟨v,e1,r⟩:=h.re.get j l e;refine⟨v,e1,?_⟩;cases l with
   |val d=>exact Den.ups (r) st
   |own zs=>
    obtain⟨q',ws,rfl,eQ,t'⟩:=r;have:q'≠q:=by rintro rfl;exact hj<|h.re.sep i j xs zs q' ei e si e1
    exact⟨q',ws,rfl,by rw[aD this];exact eQ,t'.ups st⟩
   |bor zs=>obtain⟨v',e2,r2⟩:=h.lK j zs e;rw[e1]at e2;cases e2;exact r2.re r h.same hs st
   |dc ks=>
    obtain⟨q',as,rfl,eQ,t'⟩:=r;have:q'≠q:=by rintro rfl;rw[hq]at eQ;exact zP (A03 eQ).symm
    exact⟨q',as,rfl,by rw[aD this];exact eQ,t'.ups st⟩
   |Aj ks=>obtain⟨q',o',as,rfl,eQ,t'⟩:=r;exact⟨q',o',as,rfl,st.dZ _ _ _ eQ,t'.ups st⟩
   |Qp ps=>obtain⟨q',o',rfl,eQ⟩:=r;exact⟨q',o',rfl,st.dZ _ _ _ eQ⟩
   |exc c=>obtain⟨q',o',u',C',rfl,eQ,r1,r2,r3⟩:=r;exact⟨q',o',u',C',rfl,st.dZ _ _ _ eQ,r1,r2,r3.ups st⟩
 .rcases aC e1 with⟨_,_,e⟩|⟨_,e1⟩
  .cases e
  .rcases aC e2 with⟨_,_,e⟩|⟨_,e2⟩
   .cases e
   .exact h.re.sep j k _ _ p e1 e2 e3 e4
 .rcases aC e1 with⟨_,_,e⟩|⟨_,e1⟩
  .cases e
  .exact h.fresh j EE p e1 e2
 .rcases aC e1 with⟨_,_,e⟩|⟨_,e1⟩
  .cases e
  .exact h.lK j EE e1
variable{H0:Hp}{st:θ}{AO:γ θ}{g u:Z.SF}
theorem _root_.ZQ.aP:ZQ.z! X H0 [] Z.a5:=⟨sr.imp E1 λ D σ H ⟨ρ,fl,rs,e,k⟩=>by cases e;exact k σ H (iQ.refl H) rs⟩
theorem _root_.ZQ.au(h:ZQ.QS X H0 st g):ZQ.z! X H0 [st] g:=⟨tP h.p⟩
theorem _root_.ZQ.ay(h1:ZQ.QS X H0 st g)(h2:ZQ.z! X H0 AO u):ZQ.z! X H0 (st::AO) (Z.aN g u):=⟨sr.imp (ma h1.p h2.p) λ D σ H ⟨ρ,fl,rs,e,k⟩=>by
 obtain⟨f1,e1,e⟩:=bd e;refine⟨ρ,f1,rs,e1,?_⟩;cases f1 with
 |nx ρ'=>exact λ σ' H' s r=>⟨ρ',fl,r,e,k.up s⟩
 |rt d=>cases e;exact k
 |bk ρ'=>cases e;exact k
 |ct ρ'=>cases e;exact k⟩
theorem _root_.ZQ.aF(h:ZQ.QE X a fa):ZQ.QS X H0 (.Return (AC a) pos) (Z.aY fa):=⟨PS.imp (C4 h.p) λ D σ H ⟨ρ,fl,rs,e,k⟩=>by obtain⟨d,ea,e⟩:=bd e;cases e;exact⟨ρ,d,rs.re,ea,λ v H' s dv=>k v H' (rs.same.trans s) dv⟩⟩
theorem _root_.ZQ.FH(h:ZQ.QE X a fa)(hs:swapsWith a Ch pos.line X.env=pure AT:=by rfl):ZQ.QS X H0 (.Expr a pos) (Z.Je fa):=⟨PS.imp (pI h.p hs) λ D σ H ⟨ρ,fl,rs,e,k⟩=>by obtain⟨d,ea,e⟩:=bd e;cases e;exact⟨ρ,d,rs.re,ea,λ v H' s dv=>k σ H' (l! s)<|rs.up s⟩⟩
theorem _root_.ZQ.bu(hc:ZQ.QT X c t)(h1:ZQ.z! X H0 b1 g)(h2:ZQ.z! X H0 b2 u):ZQ.QS X H0 (.If c b1 b2 pos) (Z.fA t g u):=⟨PS.imp (Js hc.p h1.p h2.p) λ D σ H ⟨ρ,fl,rs,e,k⟩=>by
 obtain⟨x,ea,e⟩:=bd e;refine⟨ρ,x,rs.re,ea,λ H1 s1=>?_⟩;cases x with
 |true=>simp only[A25]at e ⊢;exact⟨ρ,fl,rs.up s1,e,k.up<|l! s1⟩
 |false=>simp only[A43]at e ⊢;exact⟨ρ,fl,rs.up s1,e,k.up<|l! s1⟩⟩
theorem _root_.ZQ.aL(he:ZQ.QE X a fa)(hs:swapsWith a (AC<|.Name x pos') pos.line X.env=pure AT:=by rfl)(hf:Fl X x:=by trivial)(hN:X.N.Nodup:=by first|assumption|exact A58 (by kernel_rfl))(hi:X.N[i]?=AC x:=by rfl)(hx:Loc X.env.scope x:=by exact lo rfl):ZQ.QS X H0 (.Assign [.Name x pos'] a pos) (Z.a6 i fa):=⟨PS.imp (qG hN hi hx he.p hs hf) λ D σ H ⟨ρ,fl,rs,e,k⟩=>by obtain⟨d,ea,e⟩:=bd e;cases e;exact⟨ρ,d,rs.re,ea,λ v H' s dv=>k _ H' (l! s)<|(rs.up s).Gk dv⟩⟩
theorem RS.noq{K:Do}(h:RS K H1 H σ ρ)(hq:H q=Ch)(j:Nat)(xs:γ Z.D)(e:ρ[j]?=AC (AC<|.own xs)):σ[j]?≠AC (AC<|.ref q):=λ z=>by obtain⟨v,e1,q',vs,rfl,h2,_⟩:=h.re.get j _ e;rw[z]at e1;cases e1;rw[hq]at h2;cases h2
theorem _root_.ZQ.lD(he:ZQ.QL X a l)(hs:swapsWith a (AC<|.Name x pos') pos.line X.env=pure AT:=by rfl)(hf:Fl X x:=by trivial)(hN:X.N.Nodup:=by first|assumption|exact A58 (by kernel_rfl))(hi:X.N[i]?=AC x:=by rfl)(hx:Loc X.env.scope x:=by exact lo rfl):ZQ.QS X H0 (.Assign [.Name x pos'] a pos) (Z.qC i l):=⟨PS.imp (qG hN hi hx he.p hs hf) λ D σ H ⟨ρ,fl,rs,e,k⟩=>by obtain⟨d,ea,e⟩:=bd e;cases e;refine⟨ρ,d,rs.re,ea,λ q vs H' s hn h1 t=>k _ H' (l! s)<|(rs.up s).V6 h1 t (rs.same.free hn) λ j xs _ e=>?_⟩;exact rs.noq hn j xs e⟩
def tG(K:Do)(H0:Hp)(g:Z.GF):TG:=λ v σ H Q=>∃ρ d ρ',RS K H0 H σ ρ/\Den K H d v/\g d ρ=.ok ρ'/\∀σ' H',aI H H'->RS K H0 H' σ' ρ'->Q σ' H'
def tGs(K:Do)(H0:Hp)(is:γ Nat):Vr:=λ vs σ H Q=>∃ρ ds ρ',RS K H0 H σ ρ/\aG K H ds vs/\Z.vp is ds ρ=.ok ρ'/\∀σ' H',aI H H'->RS K H0 H' σ' ρ'->Q σ' H'
abbrev DG(X:Cx)(H0:Hp)(tg:ι)(g:Z.GF):Prop:=PG X tg<|tG X.K H0 g
structure _root_.ZQ.QG(X:Cx)(H0:Hp)(tg:Expr)(g:Z.GF):Prop where p:DG X H0 tg g
abbrev DGs(X:Cx)(H0:Hp)(_1:γ ι)(is:γ Nat):Prop:=Mn X _1<|tGs X.K H0 is
structure _root_.ZQ._Q(X:Cx)(H0:Hp)(_1:List Expr)(is:List Nat):Prop where p:DGs X H0 _1 is
theorem PG.imp(h:PG X tg t)(k:∀v σ H Q,t' v σ H Q->t v σ H Q):PG X tg t':=λ χ s σ H v u Q I r w=>h χ s σ H v u Q I r<|k v σ H Q w
theorem Mn.imp(h:Mn X es t)(k:∀v σ H Q,t' v σ H Q->t v σ H Q):Mn X es t':=λ χ s σ H v u Q I r w=>h χ s σ H v u Q I r<|k v σ H Q w
theorem _root_.ZQ.dU(hf:Fl X x:=by trivial)(hN:X.N.Nodup:=by first|assumption|exact A58 (by kernel_rfl))(hi:X.N[i]?=AC x:=by rfl)(hx:Loc X.env.scope x:=by exact lo rfl):ZQ.QG X H0 (.Name x pos) (Z.bf i):=
 ⟨PG.imp (E4 hN hi hx hf) λ v σ H Q ⟨ρ,d,ρ',rs,hd,e,k⟩=>by cases e;exact k _ H (aI.refl H)<|rs.Gk hd⟩
theorem _root_.ZQ.jf:ZQ._Q X H0 [] []:=⟨Mn.imp Nb λ vs σ H Q ⟨ρ,ds,ρ',rs,hd,e,k⟩=>by
 cases ds with
 |nil=>simp only[aG]at hd;cases e;exact⟨hd,k σ H (aI.refl H) rs⟩
 |cons d ds=>cases e⟩
theorem _root_.ZQ.bO(h2:ZQ._Q X H0 es is)(hs:(assignEach ((.Name x pos)::es) X.env).map (·.2)=assign (.Name x pos) X.env::(assignEach es X.env).map (·.2):=by rfl)(hf:Fl X x:=by trivial)(hN:X.N.Nodup:=by first|assumption|exact A58 (by kernel_rfl))(hi:X.N[i]?=AC x:=by rfl)(hx:Loc X.env.scope x:=by exact lo rfl):ZQ._Q X H0 (.Name x pos::es) (i::is):=
 ⟨have h2:=h2.p;Mn.imp (Jv (E4 hN hi hx hf) h2 hs) λ vs σ H Q ⟨ρ,ds,ρ',rs,hd,e,k⟩=>by
  cases ds with
  |nil=>cases e
  |cons d ds=>simp only[aG]at hd;obtain⟨v,r,rfl,h1,h2⟩:=hd;exact⟨v,r,rfl,_,ds,ρ',rs.Gk h1,h2,e,k⟩⟩
theorem _root_.ZQ.lF(hc:X.calm=Da)(h:ZQ._Q X H0 es is)(hl:is.length=n)(hn:(assignEach es X.env).length=n:=by rfl)(vk:(assignEach es X.env).findIdx? (·.1)=Ch:=by rfl):ZQ.QG X H0 (.Tuple es x1 pos) (Z.jd is):=
 ⟨PG.imp (R4 hc h.p hn vk) λ v σ H Q ⟨ρ,d,ρ',rs,hd,e,k⟩=>by
  unfold Z.jd at e;split at e
  .rename_i ds;obtain⟨q,vs,rfl,hq,t⟩:=bJ.tup (.inl hd);have ψ:∀is ds ρ ρ',Z.vp is ds ρ=.ok ρ'->ds.length=is.length:=by
    intro is
    induction is with
    |nil=>intro ds ρ ρ' e;cases ds with
     |nil=>rfl
     |cons d ds=>cases e
    |cons i is ih=>intro ds ρ ρ' e;cases ds with
     |nil=>cases e
     |cons d ds=>simp[ih ds _ _ e]
   exact⟨q,vs,rfl,hq,by rw[t.length,ψ is ds ρ ρ' e];exact hl,ρ,ds,ρ',rs,t,e,k⟩
  .cases e⟩
theorem _root_.ZQ.eD(hi:ZQ.QJ X tg iter it)(hg:ZQ.QG X H0 tg G)(hb:ZQ.z! X H0 body g)(hs:∀x,foldedSetIterable iter X.env x=pure x:=by intro _;rfl)(hp:PassesOwn (model X.prog X.w) X.A X.env X.xe:=by exact PassesOwn.never)(hc:X.calm=Da:=by rfl):ZQ.QS X H0 (.For tg iter body [] pos) (Z.iR it G g):=⟨PS.imp (RZ hp hc hi.p hg.p hb.p hs) λ D σ H ⟨ρ,fl,rs,e,k⟩=>by
 obtain⟨ds,ei,e⟩:=bd e;refine⟨ρ,ds,rs.re,ei,λ J H1 s1 z=>?_⟩;refine⟨λ i m σ' H'=>m=ds.length-i/\i<=ds.length/\∃ρ',RS X.K H0 H' σ' ρ'/\iQ H1 H'/\Z.gP G g (ds.drop i) ρ'=.ok fl,⟨ds.length,by simp,A41 _,ρ,rs.up s1,iQ.refl H1,by simpa using e⟩,?_⟩;rintro i m σ2 H2 ⟨rfl,Hb,ρ2,r2,s2,e2⟩;by_cases rf:i<ds.length
 .obtain⟨d,hd⟩:∃d,ds[i]?=AC d:=⟨ds[i],by simp[rf]⟩
  have BB:ds.drop i=d::ds.drop (i+1):=by
   rw[B19 rf];have:ds[i]=d:=by have:=A01 rf;rw[this]at hd;exact A03 hd
   rw[this]
  rw[BB]at e2;obtain⟨ρ3,eg,e2⟩:=bd e2;obtain⟨f3,eb,e2⟩:=bd e2;refine .inr ⟨z.go i d H2 s2 hd,λ σ' H'=>∃ρ',RS X.K H0 H' σ' ρ'/\iQ H1 H'/\Z.gP G g _ ρ'=.ok fl,λ σ' H' w=>⟨_,by lia,rfl,rf,w⟩,λ x H3 y=>?_⟩;obtain⟨sy,dx⟩:=z.EC i d H2 H3 x s2 hd y;replace s2:=s2.trans<|l! sy;refine⟨ρ2,d,ρ3,r2.up sy,dx,eg,λ σ4 H4 s4' r4=>⟨ρ3,f3,r4,eb,?_⟩⟩;have s4:=l! s4';cases f3 with
  |nx ρ5=>exact λ σ5 H5 s5 r5=>⟨ρ5,r5,(s2.trans s4).trans s5,e2⟩
  |ct ρ5=>exact λ σ5 H5 s5 r5=>⟨ρ5,r5,(s2.trans s4).trans s5,e2⟩
  |bk ρ5=>cases e2;exact λ σ5 H5 s5 r5=>k σ5 H5 ((l! s1).trans<|(s2.trans s4).trans s5) r5
  |rt d5=>cases e2;exact k
 .have:i=ds.length:=by lia
  subst this;rw[B84]at e2;cases e2;exact .inl ⟨z.stop H2 s2,k σ2 H2 ((l! s1).trans s2) r2⟩⟩
theorem _root_.ZQ.zH(h:ZQ.z! X H0 AO g):ZQ.z! X H0 AO (Z.C0 i g):=⟨by
 have h:=h.p;intro χ s σ H D I w;obtain⟨ρ,fl,rs,e,k⟩:=w;unfold Z.C0 Z.dZ at e;split at e
 .rename_i xs ei;obtain⟨v,si,q,us,rfl,hq,t⟩:=rs.re.get i _ ei;obtain⟨o,I2⟩:=oJ I hq;exact h χ s σ _ D I2 ⟨_,fl,rs.dZ ei si hq t,e,k.up<|jS hq⟩
 .exact h χ s σ H D I ⟨ρ,fl,rs,e,k⟩⟩
theorem Hr(ho:PE X o (l7 i))(ha:DE X a fa)(hs:swapsWith (.Call (.Attribute o "append" p1) [a] [] p2) Ch pos.line X.env=pure AT:=by rfl)(nO:Se a [] X.env:=by rfl)
 (hbm:PE X (.Call (.Attribute o "append" p1) [a] [] p2) (tBM X.K "list" EZ (l7 i)<|AM (tZ X.K fa) IQ)) :
 DS X H0 (.Expr (.Call (.Attribute o "append" p1) [a] [] p2) pos) (Z.i! i fa):=PS.imp (pI hbm hs) λ D σ H ⟨ρ,fl,rs,e,k⟩=>by
 obtain⟨d,ea,e⟩:=bd e;split at e
 .rename_i xs ei;unfold Z.guard at e;split at e
  .rename_i hl;cases e;obtain⟨v,si,q,us,rfl,hq,t⟩:=rs.re.get i _ ei;refine⟨_,si,.inl ⟨rfl,us,ku.of hq⟩,ρ,d,rs.re,ea,λ v' H1 s1 dv=>?_⟩;have Tn:=s1 _ _ hq;refine⟨q,us,v',rfl,rfl,Tn,by rw[t.length,A27];exact hl,?_⟩;exact k σ _ ((l! s1).trans<|jS Tn)<|(rs.up s1).chg ei si Tn<|(t.up s1).append<|aG.cons dv aG.nil
  .cases e
 .cases e
end
theorem oW:∀(names:γ (Str×NameKind)) acc,(∀y∈names,y.2=.free->∃c,env.cells.lookup y.1=AC c)->(∀x c,acc.lookup x=AC c->env.cells.lookup x=AC c) ->
 ∃cl,(forIn names acc λ(x)(cs:γ (Str×δ))=>(if(x.2==NameKind.free)=Da then do let c ←cellOf env x.1;pure (KF<|(x.1,c)::cs)else pure (KF cs):Sem (ForInStep<|γ<|Str×δ)))=pure cl /\
  (∀x c,cl.lookup x=AC c->env.cells.lookup x=AC c)/\(∀x,(acc.lookup x).isSome=Da->(cl.lookup x).isSome=Da)/\(∀y∈names,y.2=.free->(cl.lookup y.1).isSome=Da)
|[],acc,_,ha=>⟨acc,rfl,ha,λ _ h=>h,λ y hy=>by cases hy⟩
|(n,k)::r,acc,hn,ha=>by
 by_cases hk:k=.free
 .subst hk;obtain⟨c,hc⟩:=hn (n,.free) A22 rfl;have ha':∀x d,((n,c)::acc).lookup x=AC d->env.cells.lookup x=AC d:=λ x d e=>by
   rw[A91]at e;split at e
   .rename_i q;cases e;rw[A32.mp q];exact hc
   .exact ha x d e
  obtain⟨cl,e,h1,h2,h3⟩:=oW r ((n,c)::acc) (λ y hy=>hn y<|A07 _ hy) ha';have self:=h2 n (by rw[B20];rfl);refine⟨cl,?_,h1,λ x hx=>h2 x ?_,λ y hy hf=>?_⟩
  .rw[B44];simp only[B43,A25];have:cellOf env n=pure c:=by unfold cellOf;rw[hc]
   rw[this];exact e
  .rw[A91];split
   .rfl
   .exact hx
  .rcases o0.mp hy with rfl|hy
   .exact self
   .exact h3 y hy hf
 .obtain⟨cl,e,h1,h2,h3⟩:=oW r acc (λ y hy=>hn y<|A07 _ hy) ha;have hb:(k==NameKind.free)=AT:=by simpa using hk
  refine⟨cl,?_,h1,h2,λ y hy hf=>?_⟩
  .rw[B44];simp only[hb,A43,A76];exact e
  .rcases o0.mp hy with rfl|hy
   .exact absurd hf hk
   .exact h3 y hy hf
theorem nW(hn:∀y∈scope.names,y.2=.free->∃c,env.cells.lookup y.1=AC c):
 ∃cl,closureFor scope env=pure cl/\(∀x c,cl.lookup x=AC c->env.cells.lookup x=AC c)/\(∀y∈scope.names,y.2=.free->(cl.lookup y.1).isSome=Da):=by
 obtain⟨cl,e,h1,_,h3⟩:=oW _ [] hn (λ x c e=>by cases e);refine⟨cl,?_,h1,h3⟩;unfold closureFor
 first
  |exact e
  |(simp only[bind_pure];exact e)
  |(rw[e];rfl)
theorem jA{env:Env}{x:Str}:∀(names:γ _),(names.map λ(n,k)=>if(k == NameKind.free&&env.scope.kind == .function&&env.kindOf n == AC .cell)=Da then(n,NameKind.cell)else(n,k)).lookup x=(names.lookup x).map λ k=>if(k == NameKind.free&&env.scope.kind == .function&&env.kindOf x == AC .cell)=Da then NameKind.cell else k
|[]=>rfl
|(n,k)::r=>by
 have ih:=@jA env x r;show IR x ((if(k==NameKind.free&&env.scope.kind==.function&&env.kindOf n==AC .cell)=Da then(n,NameKind.cell)else(n,k))::_)=_;by_cases hx:x=n
 .subst hx;by_cases hc:(k==NameKind.free&&env.scope.kind==.function&&env.kindOf x==AC .cell)=Da
  .rw[f8 hc,B20,B20,A81,f8 hc]
  .rw[v6 hc,B20,B20,A81,v6 hc]
 .have hb:(x==n)=AT:=by simpa using hx
  by_cases hc:(k==NameKind.free&&env.scope.kind==.function&&env.kindOf n==AC .cell)=Da
  .rw[f8 hc,A91,A91,hb];exact ih
  .rw[v6 hc,A91,A91,hb];exact ih
abbrev oY(X:Cx)(N':γ Str)(scope:τ)(cl:γ (Str×δ))(C:δ)(fp:γ δ)(s₂:η)(H₂:Hp):Cx:=
 {prog:=X.prog,w:=X.w,K:=X.K,mg:=X.mg,base:=X.base,A:=X.A,N:=N',s₀:=s₂,H₀:=H₂,env:=compEnvC scope cl C X.env,outer:=X.stack,stack:=X.stack,ex:=fp,fn:=λ _=>AT,calm:=X.calm,pn:=[],xe:=λ _ _=>False}
structure FX(N N':List Str)(n:Nat)(is:List Nat)(sc R?:Scope):Prop where
 kind:sc.kind=.function
 cell:∀y∈sc.names,y.2≠.cell
 loc:∀y∈sc.names,y.2=.local->sc.names.lookup y.1=AC .local
 free:∀y∈sc.names,y.2=.free->R?.names.lookup y.1=AC .cell\/R?.names.lookup y.1=AC .free
 len:N'.length=n+is.length
 cap:∀(j i:Nat),is[j]?=AC i->∃x,N'[n+j]?=AC x/\N[i]?=AC x/\sc.names.lookup x=AC .free
 own:∀(j:Nat),j<n->∃x,N'[j]?=AC x/\sc.names.lookup x=AC .local
section
variable{X:Cx}{tg e a b elt iter:ι}{ifs:γ ι}{pos:Pos}{N':γ Str}{n:Nat}{is:γ Nat}{scope:τ}
def oy(σ:St)(n:Nat)(is:γ Nat):St:=EQ n Ch++is.map λ i=>(σ[i]?).join
theorem gB(n:Nat)(is:γ Nat)(ρ:Z.Env)(i:Nat)(xs:γ Z.D):(EQ n Ch++Z.eZ ρ is:Z.Env)[i]?≠AC (AC<|.own xs):=by
 intro e;by_cases hi:i<n
 .rw[A37 (by simpa using hi),A46]at e;split at e<;>cases e
 .rw[A52 (by simpa using hi)]at e;unfold Z.eZ at e;rw[A04]at e;cases q:is[i-(EQ n<|none).length]? with
  |none=>rw[q]at e;cases e
  |some j=>rw[q]at e;have e':=A03 e;unfold Z.qf at e';split at e'<;>cases e'
theorem rC(n:Nat)(is:γ Nat)(ρ:Z.Env)(i:Nat)(ks:Z.DK):(EQ n Ch++Z.eZ ρ is:Z.Env)[i]?≠AC (AC<|.dc ks):=by
 intro e;by_cases hi:i<n
 .rw[A37 (by simpa using hi),A46]at e;split at e<;>cases e
 .rw[A52 (by simpa using hi)]at e;unfold Z.eZ at e;rw[A04]at e;cases q:is[i-(EQ n<|none).length]? with
  |none=>rw[q]at e;cases e
  |some j=>rw[q]at e;have e':=A03 e;unfold Z.qf at e';split at e'<;>cases e'
theorem Jo{K:Fa}(h:RE K H σ ρ)(s:aI H H'):RS K H H' (oy σ n is) (EQ n Ch++Z.eZ ρ is):=by
 have key:∀(i:Nat) l,(EQ n Ch++Z.eZ ρ is)[i]?=AC (AC l)->∃v,(oy σ n is)[i]?=AC (AC v)/\RL K H l v:=?_;refine⟨s,⟨by simp[oy,Z.eZ],λ i l e=>let ⟨v,h1,h2⟩:=key i l e;⟨v,h1,h2.up s⟩,λ i j xs ys q e1=>absurd e1<|gB n is ρ i xs⟩,λ i xs q e1=>absurd e1<|gB n is ρ i xs,λ i xs e1=>let ⟨v,h1,h2⟩:=key i _ e1;⟨v,h1,jP.z h2⟩,i9.non<|rC n is ρ⟩;intro i l e;by_cases hi:i<n
 .rw[A37 (by simpa using hi),A46]at e;split at e<;>cases e
 .rw[A52 (by simpa using hi)]at e;unfold oy;rw[A52 (by simpa using hi)];simp only[A47]at e ⊢;unfold Z.eZ at e;rw[A04]at e ⊢;cases q:is[i-n]? with
  |none=>rw[q]at e;cases e
  |some j=>
   rw[q]at e;have e':=A03 e;unfold Z.qf at e';split at e'
   .rename_i d hd;cases e';obtain⟨v,h1,h2⟩:=h.get j _ hd;refine⟨v,?_,h2⟩;simp[h1]
   .rename_i d hd;cases e';obtain⟨v,h1,h2⟩:=h.get j _ hd;refine⟨v,?_,h2⟩;simp[h1]
   .rename_i d hd;cases e';obtain⟨v,h1,h2⟩:=h.get j _ hd;refine⟨v,?_,h2⟩;simp[h1]
   .cases e'
theorem nB(I:Nat->η->Prop)
 (turn:∀ n s,I n s->FM (model prog w) A (pyNext it) (λ r s₁=>match r with
  |none=>R (.ok .next) s₁
  | some v=>FM (model prog w) A (letOwnedTupleGo target it v) (λ _ s₁=>FM (model prog w) A (assign target env v) (λ _ s₂=>
   FM (model prog w) A (forIn ifs Da λ c r=>if r=Da then do let ok ←isTrue c env (eval c env);pure (KF ok)else pure (KF r)) (λ ok s₃=>
    if ok=Da then FM (model prog w) A (eval elt env) (λ x s₄=>FM (model prog w) A (call (.builtin "list.append") [acc,x]) (λ _ s₅=>∃m,m<n/\I m s₅) (λ _ _=>False) s₄) (λ _ _=>False) s₃
    else ∃m,m<n/\I m s₃) (λ _ _=>False) s₂) (λ _ _=>False) s₁) (λ _ _=>False) s₁) (λ _ _=>False) s)
 (n:Nat) (h:I n s) :
 codeAny (model prog w) A (.compLoop (.ListComp elt [⟨target,iter,ifs,0⟩] scope pos) 0 it acc env) R s:=by
 refine codeAny_loop rfl I (λ n s hI=>?_) n h;refine wpAny_noted ?_;rw[compTurn_list];refine T0<|wpAny_standAt<|T0<|A19 (turn n s hI) (λ r s₁ h₁=>?_) λ _ _ h'=>h'.elim;cases r with
 |none=>exact W1 h₁
 |some v=>
  refine T0<|A19 h₁ (λ _ s₁ h₁=>?_) λ _ _ h'=>h'.elim;refine T0<|A19 h₁ (λ _ s₂ h₂=>T0<|A19 h₂ (λ ok s₃ h₃=>?_) λ _ _ h'=>h'.elim) λ _ _ h'=>h'.elim;cases ok with
  |false=>exact W1 ⟨rfl,h₃⟩
  |true=>exact T0<|T0<|A19 h₃ (λ x s₄ h₄=>T0<|A19 h₄ (λ _ s₅ h₅=>W1<|W1 ⟨rfl,h₅⟩) λ _ _ h'=>h'.elim) λ _ _ h'=>h'.elim
structure Off(X:Cx)(χ:List (Addr×Obj))(H:Hp)(C:Addr):Prop where
 free:H C=Ch
 loc:C≠X.env.locals
 new:X.s₀.heap.objs.size<=C
 cell:∀x c,X.env.cells.lookup x=AC c->c≠C
 pin:∀p∈X.pn++χ,p.1≠C
theorem Off.inv(o:Off X χ H C)(I:Inv X χ σ H s)(hs:Ix C s.heap h'):Inv X χ σ H {s with heap:=h'}:=
 I.turned (λ b ob hb e=>(hs.2 b hb).trans e) o.free o.loc (.inr o.new) o.cell o.pin
def _P(X:Cx)(χ:γ (δ×ν))(σ:St)(H₂:Hp)(ys:γ Z.D)(acc:ζ)(C:δ)(s':η):Prop:=
 ∃D H' vs m,acc=.ref D/\s'.heap.Ns C m/\Inv X χ σ H' s'/\Off X χ H' C/\H₂ D=Ch/\aI H₂ H'/\H' D=AC (.lst vs)/\aG X.K H' ys vs
theorem LG{it:δ}{fp:γ δ}{tn:Nat->μ->Prop}{J:It}{χ:γ (δ×ν)}{σ:St}{ρ:Z.Env}{H₂:Hp}{s₂:η}{E:ζ->η->Prop}{cl:γ (Str×δ)}{G:Z.GF}{t:Z.TF}{fe:Z.EF}{ds ys:γ Z.D}
 (eJ:X.calm=Da) (B:FX X.N N' n is scope X.env.scope) (I2:Inv X χ σ H₂ s₂) (T:Turn X.prog X.w X.K tg J fp it tn) (RD:tn 0 s₂.heap) (fo:∀b∈fp,qk X χ H₂ b) (z:Cn X.K J (aI H₂) ds) (re:RE X.K H₂ σ ρ)
 (kJ:∀x c,cl.lookup x=AC c->X.env.cells.lookup x=AC c) (zu:∀y∈scope.names,y.2=.free->(cl.lookup y.1).isSome=Da)
 (hG:∀d ρ ρ1,G d ρ=.ok ρ1->ρ1.length=ρ.length/\∀i,n<=i->ρ1[i]?=ρ[i]?)
 (hg:∀C s H H0,DG (oY X N' scope cl C fp s H) H0 tg G)
 (ht:∀ C s s' H nG (σ':St) (H':Hp) (Q:Bool->Hp->Prop),Inv (oY X N' scope cl C fp s H) nG σ' H' s'->VO X.K t σ' H' Q ->
  FM (model X.prog X.w) X.A (forIn ifs Da λ c r=>if r=Da then do let ok ←isTrue c (compEnvC scope cl C X.env) (eval c<|compEnvC scope cl C X.env);pure (KF ok)else pure (KF r)) (TP (oY X N' scope cl C fp s H) nG σ' Q) (λ _ _=>False) s')
 (he:∀C s H,DE (oY X N' scope cl C fp s H) elt fe) (ψ:ds.length<=Z.line) (ego:Z.bU G t fe (EQ n Ch++Z.eZ ρ is) ds=.ok ys) :
 FM (model X.prog X.w) X.A (newList []) (λ acc s₃=>FM (model X.prog X.w) X.A (newFunctionEnv scope X.env.globals cl [] X.env.qual Ch .none<|some X.env) (λ Ul s₄=>codeAny (model X.prog X.w) X.A (.compStart (.ListComp elt [⟨tg,iter,ifs,0⟩] scope pos) 0 (.ref it) acc {Ul with scope:=relabel scope X.env}) (λ r s'=>r=.ok .next/\_P X χ σ H₂ ys acc Ul.locals s') s₄) E s₃) E s₂:=by
 refine A63<|wpAny_newFunctionEnv B.cell (by intro y hy;simp at hy) (λ h₁ OF Ky=>?_) B.kind;dsimp only at OF Ky ⊢;generalize TM:s₂.heap.push {cls:=.type "list",dict:=Ch,data:=.seq ([]:γ ζ).toArray}=HH at OF Ky ⊢;have hC:HH.objs.size=s₂.heap.objs.size+1:=by rw[<-TM,A51]
 have _x:s₂.heap.objs.size≠HH.objs.size:=by rw[hC];exact A17<|A61 _
 have below:∀b,b<s₂.heap.objs.size->b≠HH.objs.size/\b≠s₂.heap.objs.size:=λ b hb=>⟨by rw[hC];exact A17<|B85 hb,A17 hb⟩
 have old:∀b o,s₂.heap.get? b=AC o->h₁.get? b=AC o:=λ b o e=>Ky.extBut b o (below b<|A02 e).1<|A00 _<|TM▸A00 _ e;have Yl:h₁.get? s₂.heap.objs.size=AC {cls:=.type "list",data:=.seq ([]:γ ζ).toArray}:=Ky.extBut _ _ _x<|A00 _<|TM▸A13 _ rfl;have fpo:∀b∈fp,∃o,s₂.heap.get? b=AC o/\∀v,o.data≠.cell v:=T.obj 0 _ RD;have TQ:∀b∈fp,b<s₂.heap.objs.size:=λ b hb=>let ⟨_,e,_⟩:=fpo b hb;A02 e;generalize hD:s₂.heap.objs.size=D at _x below old Yl hC ⊢;generalize hCC:HH.objs.size=C at OF Ky _x below hC ⊢;have Mh:H₂ D=Ch:=I2.bQ.fresh (by rw[hD];exact M2 _);have hCn:H₂ C=Ch:=I2.bQ.fresh (by rw[hD,hC];exact A75 _)
 -- MI _L context is in order
 have ok:(oY X N' scope cl C fp s₂ H₂).Ok:=by
  refine⟨I2.ok.mod,B.kind,I2.ok.glob,I2.ok.blt,by show s₂.heap.objs.size<=C;rw[hD,hC];exact A75 _,λ x y c e1 e2=>I2.ok.inj x y c (kJ x c e1)<|kJ y c e2,λ x hx=>?_,λ x c hf=>(by cases hf),I2.ok.hd,I2.ok.frames,.inl rfl,
   λ b hb=>⟨(below b (by rw[<-hD];exact TQ b hb)).1,λ x c e=>(fo b hb).2.2.2.2.1 x c<|kJ x c e⟩,I2.bs,A23 I2.ok.Ek I2.sz,λ b o e hb=>?_,λ b hb z=>?_,I2.stack,I2.tN⟩
  .have OB:(relabel scope X.env).names.lookup x=AC .cell\/(relabel scope X.env).names.lookup x=AC .free:=hx;have e:=jA (env:=X.env) (x:=x) scope.names;have e':(relabel scope X.env).names.lookup x=_:=e;rw[e']at OB;cases q:scope.names.lookup x with
   |none=>rw[q]at OB;rcases OB with h|h<;>cases h
   |some k=>
    have hm:=A62 q;have hk:k=.free:=by
     rw[q]at OB;simp only[A81]at OB;by_cases hc:(k==NameKind.free&&X.env.scope.kind==.function&&X.env.kindOf x==AC .cell)=Da
     .rw[A35,A35]at hc;exact A32.mp hc.1.1
     .rw[v6 hc]at OB;rcases OB with h|h
      .exact absurd (A03 h)<|B.cell _ hm
      .exact A03 h
    subst hk;exact A87.mp<|zu _ hm rfl
  .rcases(fo b hb).2.2.2.1 with q|q
   .exact I2.ok.za b o e q
   .exact absurd (A21 (A02 (I2.ok.bs b o e).1) q)<|A72 _
  .rcases o0.mp (I2.qA b z)with q|q
   .exact(fo b hb).2.1 q
   .exact(fo b hb).2.2.1 q
 have Hd:lY X.prog X.w (upd H₂ D<|.lst []) h₁:=I2.bQ.laid old (by rw[hD];exact M2 _) ⟨A41 _,[],_,.nil,Yl⟩;have ne2:∀b,b<s₂.heap.objs.size->b≠D:=λ b hb=>by rw[<-hD];exact A17 hb
 have vO:∀x c,X.env.cells.lookup x=AC c->c<s₂.heap.objs.size/\∀v,s₂.heap.IsCell c v->h₁.IsCell c v:=λ x c e=>by obtain⟨v,o,ho,hd⟩:=I2.cell x c e;exact⟨A02 ho,λ v' ⟨o',nP,s?⟩=>⟨o',old c o' nP,s?⟩⟩
 have I4:Inv (oY X N' scope cl C fp s₂ H₂) [] (oy σ n is) (upd H₂ D<|.lst []) {s₂ with heap:=h₁,toks:=s₂.toks+([]:γ (Str×ζ)).length}:=by
  refine⟨ok,rfl,I2.bare,Un.laid old (by rw[hD];exact M2 _) Mh,⟨_,OF,λ i x v e1 e2 e3=>?_⟩,λ x c e=>?_,by show upd H₂ D (.lst []) C=Ch;rw[aD<|A08 _x];exact hCn,λ x c e=>?_,λ p hp=>absurd (show p∈([]:γ (δ×ν))from hp) (by simp),Hd,by simp[oy,B.len],I2.tab.up λ b u _ e=>by rw[aD<|bq e Mh];exact e⟩
  .unfold oy at e2;by_cases hi:i<n
   .rw[A37 (by simpa using hi),A46]at e2;split at e2<;>cases e2
   .rw [A52 (by simpa using hi),A04] at e2;simp only[A47]at e2;cases q:is[i-n]? with
    |none=>rw[q]at e2;cases e2
    |some j=>
     rw[q]at e2;simp only[A81]at e2;obtain⟨x',c1,c2,c3⟩:=B.cap (i-n) j q;have Qu:n+(i-n)=i:=by lia
     rw[Qu]at c1;have QH:N'[i]?=AC x:=e1;rw[c1]at QH;cases QH;have hσ:σ[j]?=AC (AC v):=by
      cases r:σ[j]? with
      |none=>rw[r]at e2;cases e2
      |some y=>
       rw[r]at e2;have:y=AC v:=by simpa using e2
       rw[this]
     obtain⟨m,hn,hl⟩:=I2.loc;have hm:=A62 c3;have hk:=B.free _ hm rfl;have Tf:QY X.env.scope x:=by
      rcases hk with k|k
      .exact .inr<|.inl k
      .exact .inr<|.inr k
     obtain⟨u,ru,lk⟩:=hl j x v c2 hσ Tf;refine⟨u,ru,?_⟩;rcases lk with⟨k1,_⟩|⟨k1,c,hc,r9⟩
     .have Oh:X.env.scope.names.lookup x=AC .local:=k1;rcases hk with k|k
      .rw[k]at Oh;cases Oh
      .rw[k]at Oh;cases Oh
     .obtain⟨c',xT⟩:=A87.mp (zu _ hm rfl);have:c'=c:=by have:=kJ x c' xT;rw[hc]at this;exact(A03 this).symm
      subst this;refine .inr ⟨?_,c',xT,(vO x c' hc).2 _ r9⟩;show(relabel scope X.env).names.lookup x=AC .cell\/(relabel scope X.env).names.lookup x=AC .free;have e:=jA (env:=X.env) (x:=x) scope.names;have e':(relabel scope X.env).names.lookup x=_:=e;rw[e',c3];simp only[A81];split
      .exact .inl rfl
      .exact .inr rfl
  .obtain⟨v,hv⟩:=I2.cell x c (kJ x c e);exact⟨v,(vO x c<|kJ x c e).2 v hv⟩
  .have rf:=(vO x c<|kJ x c e).1;rw[aD<|ne2 c rf];exact I2.gy x c<|kJ x c e
 have rs4:RS X.K H₂ (upd H₂ D<|.lst []) (oy σ n is) (EQ n Ch++Z.eZ ρ is):=Jo re<|bP Mh;have st4:tn 0 h₁:=T.keep 0 _ _ RD λ b hb o e=>old b o e;have fr4:∀b∈fp,(upd H₂ D<|.lst []) b=Ch:=λ b hb=>by rw[aD<|ne2 b<|TQ b hb];exact(fo b hb).1
 -- _Y stays true of MI DO objects
 have CP:∀{H'},(∀b∈fp,H' b=Ch)->∀b∈fp,qk (oY X N' scope cl C fp s₂ H₂) [] H' b:=λ hn b hb=>by
  refine⟨hn b hb,(below b (by rw[<-hD];exact TQ b hb)).1,?_,.inl hb,λ x c e=>(fo b hb).2.2.2.2.1 x c<|kJ x c e,λ p hp=>absurd (show p∈([]:γ (δ×ν))from hp) (by simp)⟩;intro q;rcases o0.mp (I2.qA b q)with q|q
  .exact(fo b hb).2.1 q
  .exact(fo b hb).2.2.1 q
 have loop:codeAny (model X.prog X.w) X.A (.compLoop (.ListComp elt [⟨tg,iter,ifs,0⟩] scope pos) 0 (.ref it) (.ref D)<|compEnvC scope cl C X.env) (λ r s'=>r=.ok .next/\_P X χ σ H₂ ys (.ref D) C s')
  {s₂ with heap:=h₁,toks:=s₂.toks+([]:γ (Str×ζ)).length}:=by
  refine nB (λ m s'=>∃i σ' H' vs zs,m=ds.length+1-i/\i<=ds.length/\vs.length<=i/\Inv (oY X N' scope cl C fp s₂ H₂) [] σ' H' s'/\tn i s'.heap/\(∀b∈fp,H' b=Ch)/\H' D=AC (.lst vs)/\aI H₂ H' /\
   RS X.K H₂ H' σ' (EQ n Ch++Z.eZ ρ is)/\(∃rest,Z.bU G t fe (EQ n Ch++Z.eZ ρ is) (ds.drop i)=.ok rest/\zs++rest=ys)/\aG X.K H' zs vs) ?_ (ds.length+1)
   ⟨0,oy σ n is,_,[],[],rfl,A41 _,M2 _,I4,st4,fr4,aV,bP Mh,rs4,⟨ys,by simpa using ego,rfl⟩,aG.nil⟩
  .rintro m s' ⟨i,σ3,H3,vs,zs,rfl,Hb,hvl,I3,P?,Ys,_y,L?,re3,⟨rest,er,ez⟩,dz⟩;by_cases rf:i<ds.length
   .obtain⟨d,hd⟩:∃d,ds[i]?=AC d:=⟨ds[i],by simp[rf]⟩
    have BB:ds.drop i=d::ds.drop (i+1):=by
     rw[B19 rf];have:ds[i]=d:=by have:=A01 rf;rw[this]at hd;exact A03 hd
     rw[this]
    rw[BB]at er;unfold Z.bU at er;obtain⟨ρ1,eg,er⟩:=bd er;obtain⟨c1,ec,er⟩:=bd er;refine cS (T.item (oY X N' scope cl C fp s₂ H₂) rfl rfl rfl eJ i [] s' σ3 H3 (λ _ _=>False) I3 (CP Ys) P?<|z.go i d H3 L? hd) λ r s4 ⟨u,hr,h4⟩=>?_;subst hr;refine cS h4 λ _ s5 ⟨x,H5,I5,r5,y5,Gg,fr5⟩=>?_;obtain⟨sy,dx⟩:=z.EC i d H3 H5 x L? hd y5;replace re3:=re3.up sy;replace L?:=L?.trans sy;replace _y:=sy _ _ _y;replace dz:=dz.up sy;have I5':=I5.pinned (CP fr5)<|T.obj _ _ Gg;have ZH:RS X.K H₂ H5 σ3 (EQ n Ch++Z.eZ ρ is):=re3;refine cS (hg C s₂ H₂ H₂ _ s5 σ3 H5 x u (λ σ6 H6=>aI H5 H6/\RS X.K H₂ H6 σ6 ρ1) I5' r5 ⟨_,d,ρ1,ZH,dx,eg,λ σ' H' s' r'=>⟨s',r'⟩⟩) λ _ s6 ⟨σ6,H6,I6,sm6,ZG⟩=>?_;refine cS (ht C s₂ s6 H₂ _ σ6 H6 (λ b H7=>b=c1/\aI H6 H7) I6 ⟨ρ1,c1,ZG.re,ec,λ H7 s7=>⟨rfl,s7⟩⟩) λ ok s7 ⟨H7,I7,e7,sm7⟩=>?_;subst e7;have IY:aI H5 H7:=sm6.trans sm7;have re7:RE X.K H7 σ6 ρ1:=ZG.re.up sm7;have re0:∀{H9},aI H7 H9->RS X.K H₂ H9 σ6 (EQ n Ch++Z.eZ ρ is):=λ {H9} s9=>by
     obtain⟨gl,gk⟩:=hG d _ ρ1 eg;refine⟨(ZG.same.trans sm7).trans s9,⟨by rw[<-gl];exact re7.len,λ j l e=>?_,λ j k xs ys q e1=>absurd e1<|gB n is ρ j xs⟩,λ j xs q e1=>absurd e1<|gB n is ρ j xs,λ j xs e=>?_,i9.non<|rC n is ρ⟩;rotate_left
     .by_cases hj:n<=j
      .rw[<-gk j hj]at e;exact ZG.lK j xs e
      .rw[A37 (by simp;lia),A46]at e;split at e<;>cases e
     by_cases hj:n<=j
     .rw[<-gk j hj]at e;exact(re7.up s9).get j l e
     .rw[A37 (by simp;lia),A46]at e;split at e<;>cases e
    have fin:∀{H9}{s9} VA Y!,Inv (oY X N' scope cl C fp s₂ H₂) ([]++uB fp s5.heap) σ6 H9 s9->H9 D=AC (.lst VA)->VA.length<=i+1->aI H₂ H9->RS X.K H₂ H9 σ6 (EQ n Ch++Z.eZ ρ is) ->
     (∃ rest,Z.bU G t fe (EQ n Ch++Z.eZ ρ is) (ds.drop<|i+1)=.ok rest/\Y!++rest=ys)->aG X.K H9 Y! VA->∃ m,m<ds.length+1-i/\∃ i σ' H' vs zs,m=ds.length+1-i/\i<=ds.length/\vs.length<=i/\Inv (oY X N' scope cl C fp s₂ H₂) [] σ' H' s9/\tn i s9.heap/\(∀ b∈fp,H' b=Ch)/\H' D=AC (.lst vs)/\aI H₂ H' /\
      RS X.K H₂ H' σ' (EQ n Ch++Z.eZ ρ is)/\(∃rest,Z.bU G t fe (EQ n Ch++Z.eZ ρ is) (ds.drop i)=.ok rest/\zs++rest=ys)/\aG X.K H' zs vs:=by
     intro H9 s9 VA Y! I9 hD9 hv9 V2 re9 er9 dz9;refine⟨ds.length+1-(i+1),by lia,i+1,σ6,H9,VA,Y!,rfl,rf,hv9,I9.ph,T.keep _ _ _ Gg λ b hb o e=>(I9.pin (b,o)<|A40 _<|A40 _<|lg hb e).1,λ b hb=>?_,hD9,V2,re9,er9,dz9⟩;obtain⟨o,e,_⟩:=T.obj _ _ Gg b hb;exact(I9.pin (b,o)<|A40 _<|A40 _<|lg hb e).2.1
    have hD7:H7 D=AC (.lst vs):=IY _ _ _y;cases ok with
    |false=>simp only[A43,A76]at er ⊢;exact fin vs zs I7 hD7 (Nat.le_succ_of_le hvl) (L?.trans IY) (re0<|aI.refl _) ⟨rest,er,ez⟩<|dz.up IY
    |true=>
     simp only[A25]at er ⊢;obtain⟨y,ey,er⟩:=bd er;obtain⟨Wf,er2,er⟩:=bd er;cases er;refine cS (he C s₂ H₂ _ s7 σ6 H7 (λ v H8=>aI H7 H8/\Den X.K H8 y v) I7 ⟨ρ1,y,re7,ey,λ v H8 s8 d8=>⟨s8,d8⟩⟩) λ u8 s8 ⟨v8,H8,I8,rv8,Zq,dy⟩=>?_;have hD8:H8 D=AC (.lst vs):=Zq _ _ hD7;have aam:aI H₂ H8:=(L?.trans IY).trans Zq;refine cS (xG (X:=oY X N' scope cl C fp s₂ H₂) _ s8 σ6 H8 (.ref D) [v8] (.ref D) [u8] (λ v H9=>v=.non/\H9=upd H8 D (.lst<|vs++[v8])) I8 rfl (.cons rv8 .nil) ⟨D,vs,v8,rfl,rfl,hD8,?_,rfl,rfl⟩) λ _ s9 ⟨v9,H9,I9,_,_,e9⟩=>?_
     .rw[A27];have:Z.line=16777216:=rfl;lia
     subst e9;have P!:iQ H8 (upd H8 D<|.lst<|vs++[v8]):=jS hD8;have V2:aI H₂ (upd H8 D<|.lst<|vs++[v8]):=λ b o e=>by rw[aD<|bq e Mh];exact aam b o e
     have UZ:=re0 Zq;refine fin (vs++[v8]) (zs++[y]) I9 aV (by simp;lia) V2 ⟨V2,⟨UZ.re.len,λ j l e=>?_,λ j k xs ys q e1=>absurd e1<|gB n is ρ j xs⟩,λ j xs q e1=>absurd e1<|gB n is ρ j xs,UZ.lK,UZ.nA⟩ ⟨Wf,er2,by rw[A82];exact ez⟩<|(((dz.up IY).up Zq).append<|aG.cons dy aG.nil).ups P!;obtain⟨v,h1,h2⟩:=UZ.re.get j l e;refine⟨v,h1,?_⟩;cases l with
     |val dd=>exact Den.ups (show Den X.K H8 dd v from h2) P!
     |own xs=>exact absurd e<|gB n is ρ j xs
     |bor xs=>obtain⟨v',h3,h4⟩:=UZ.lK j xs e;rw[h1]at h3;cases h3;exact h4.re h2 UZ.same V2 P!
     |dc ks=>exact absurd e<|rC n is ρ j ks
     |Aj ks=>obtain⟨q',o',as,rfl,eQ,t'⟩:=h2;exact⟨q',o',as,rfl,P!.dZ _ _ _ eQ,t'.ups P!⟩
     |Qp ps=>obtain⟨q',o',rfl,eQ⟩:=h2;exact⟨q',o',rfl,P!.dZ _ _ _ eQ⟩
     |exc c=>obtain⟨q',o',u',C',rfl,eQ,r1,r2,r3⟩:=h2;exact⟨q',o',u',C',rfl,P!.dZ _ _ _ eQ,r1,r2,r3.ups P!⟩
   .have:i=ds.length:=by lia
    subst this;rw[B84]at er;cases er;rw[A56]at ez;subst ez;refine cS (T.done (oY X N' scope cl C fp s₂ H₂) rfl rfl rfl eJ _ [] s' σ3 H3 (λ _ _=>False) I3 (CP Ys) P?<|z.stop H3 L?) λ r s4 ⟨hr,J4⟩=>?_;subst hr;obtain⟨m',Me,_⟩:=J4.loc;have JV:∀b o,s₂.heap.get? b=AC o->b≠C:=λ b o e=>(below b (by rw[<-hD];exact A02 e)).1;have I9:Inv X χ σ H3 s4:=I2.LK (s':=s4) J4.os J4.base J4.bQ J4.bare λ b hb=>⟨(fo b hb).2.2.2.1,(fo b hb).2.1,(fo b hb).2.2.2.2.1,(fo b hb).2.2.2.2.2⟩
    have szC:s₂.heap.objs.size<=C:=by rw[hD,hC];exact A75 _
    refine⟨rfl,D,H3,vs,m',rfl,Me,I9,⟨J4.free,?_,A23 I2.sz szC,λ x c e=>?_,λ p hp=>?_⟩,Mh,L?,_y,dz⟩
    .exact A50<|A21 I2.lt szC
    .exact A17<|A21 (vO x c e).1 szC
    .exact JV p.1 p.2 (I2.pin p hp).1
 have vk:codeAny (model X.prog X.w) X.A (.compStart (.ListComp elt [⟨tg,iter,ifs,0⟩] scope pos) 0 (.ref it) (.ref D)<|compEnvC scope cl C X.env) (λ r s'=>r=.ok .next/\_P X χ σ H₂ ys (.ref D) C s')
  {s₂ with heap:=h₁,toks:=s₂.toks+([]:γ (Str×ζ)).length}:=codeAny_compStart_list loop<|T.self _ 0 _ _ _ st4 loop
 exact vk
theorem vq(h:k<n)(d:Z.D)(ρ ρ1:Z.Env)(e:Z.bf k d ρ=.ok ρ1):ρ1.length=ρ.length/\∀i,n<=i->ρ1[i]?=ρ[i]?:=by cases e;exact⟨by simp,λ i hi=>A26 (by lia)⟩
theorem r_:∀ks,(∀k∈ks,k<n)->∀ds ρ ρ1,Z.vp ks ds ρ=.ok ρ1->ρ1.length=ρ.length/\∀i,n<=i->ρ1[i]?=ρ[i]?
|[],_,[],ρ,ρ1,e=>by cases e;exact⟨rfl,λ _ _=>rfl⟩
|[],_,_::_,_,_,e=>by cases e
|_::_,_,[],_,_,e=>by cases e
|k::ks,h,d::ds,ρ,ρ1,e=>by obtain⟨h1,h2⟩:=r_ ks (λ k hk=>h k<|A07 _ hk) ds _ ρ1 e;refine⟨by rw[h1];simp,λ i hi=>?_⟩;rw[h2 i hi];have:=h k A22;exact A26 (by lia)
theorem kK(h:∀k∈ks,k<n)(d:Z.D)(ρ ρ1:Z.Env)(e:Z.jd ks d ρ=.ok ρ1):ρ1.length=ρ.length/\∀i,n<=i->ρ1[i]?=ρ[i]?:=by
 unfold Z.jd at e;split at e
 .exact r_ ks h _ ρ ρ1 e
 .cases e
def YY(X:Cx)(ifs:γ ι)(t:Z.TF):Prop:=∀(χ:γ (δ×ν))(s:η)(σ:St)(H:Hp)(Q:Bool->Hp->Prop),Inv X χ σ H s->VO X.K t σ H Q ->
 FM (model X.prog X.w) X.A (forIn ifs Da λ c r=>if r=Da then do let ok ←isTrue c X.env (eval c X.env);pure (KF ok)else pure (KF r)) (TP X χ σ Q) X.xe s
structure _root_.ZQ.PD(X:Cx)(ifs:List Expr)(t:Z.TF):Prop where p:YY X ifs t
theorem _root_.ZQ.IB:ZQ.PD X [] Z.cy:=⟨λ χ s σ H Q I ⟨ρ,b,r,e,k⟩=>by cases e;exact wpAny_tests_nil ⟨H,I,k H<|aI.refl H⟩⟩
theorem _root_.ZQ.tK(h:ZQ.QT X c t):ZQ.PD X [c] t:=⟨λ χ s σ H Q I w=>wpAny_tests_one<|h.p χ s σ H Q I w⟩
theorem B4(eJ:X.calm=Da)(hi:DI X tg iter it)(B:FX X.N N' n is scope X.env.scope)
 (hG:∀d ρ ρ1,G d ρ=.ok ρ1->ρ1.length=ρ.length/\∀i,n<=i->ρ1[i]?=ρ[i]?)
 (hg:∀cl C fp s H H0,DG (oY X N' scope cl C fp s H) H0 tg G) (ht:∀cl C fp s H,YY (oY X N' scope cl C fp s H) ifs t) (he:∀cl C fp s H,DE (oY X N' scope cl C fp s H) elt fe)
 (hs:∀x,foldedSetIterable iter X.env x=pure x)
 (I:Inv X χ σ H s) (re:RE X.K H σ ρ) (ec:Z.cP it n is G t fe ρ=.ok ys)
 (fin:∀acc C s' H₂,aI H H₂->_P X χ σ H₂ ys acc C s'->compPost (model X.prog X.w) X.A X.xe use Q acc C (.ok .next) s') :
 FM (model X.prog X.w) X.A (comprehension (.ListComp elt [⟨tg,iter,ifs,0⟩] scope pos) scope X.env ps (newList []) AT (eval iter X.env) use) Q X.xe s:=by
 obtain⟨ds,ei,ec⟩:=bd ec;unfold Z.guard at ec;split at ec
 .rename_i ψ;have xQ:∀y∈scope.names,y.2=.free->∃c,X.env.cells.lookup y.1=AC c:=λ y hy hf=>I.ok.has y.1<|B.free y hy hf;obtain⟨cl,tW,kJ,zu⟩:=nW xQ;refine wpAny_comprehension_free rfl hs tW B.kind B.loc ?_;refine cS (hi χ s σ H (λ J H₂=>aI H H₂/\Cn X.K J _ ds) I ⟨ρ,ds,re,ei,λ J H' s' z=>⟨s',z⟩⟩) λ x s₁ h₁=>?_;refine cS h₁ λ itv s₂ ⟨it',fp,tn,J,H₂,e2,I2,T,RD,fo,sm,z⟩=>?_;subst e2;refine cS (LG (iter:=iter) (pos:=pos) eJ B I2 T RD fo z (re.up sm) kJ zu hG (λ C s H H0=>hg cl C fp s H H0) (λ C s s' H' nG σ' Q4 Q' I' w=>ht cl C fp s H' nG s' σ' Q4 Q' I' w) (λ C s H=>he cl C fp s H) ψ ec) λ acc s₃ h₃=>?_;refine cS h₃ λ Ul s₄ h₄=>A74 h₄ λ r s' ⟨er,Wi⟩=>?_;subst er;exact fin acc _ s' H₂ sm Wi
 .cases ec
theorem _root_.ZQ.bD(hi:ZQ.QI X tg iter it)(he:∀{cl C fp s H},ZQ.QE (oY X N' scope cl C fp s H) elt fe)(ht:∀{cl C fp s H},ZQ.PD (oY X N' scope cl C fp s H) ifs t:=by exact IB)(hg:∀{cl C fp s H H0},ZQ.QG (oY X N' scope cl C fp s H) H0 tg G:=by exact dU)(eJ:X.calm=Da:=by rfl)(B:FX X.N N' n is scope X.env.scope:=by exact ZS.FX.of (by kernel_rfl))(hG:∀d ρ ρ1,G d ρ=.ok ρ1->ρ1.length=ρ.length/\∀i,n<=i->ρ1[i]?=ρ[i]?:=by exact ZS.vq (by decide))(hs:∀x,foldedSetIterable iter X.env x=pure x:=by intro _;rfl):ZQ.QL X (.ListComp elt [⟨tg,iter,ifs,0⟩] scope pos) (Z.cP it n is G t fe):=⟨by have hg:∀cl C fp s H H0,DG (oY X N' scope cl C fp s H) H0 tg G:=λ _ _ _ _ _ _=>hg.p;have ht:∀cl C fp s H,YY (oY X N' scope cl C fp s H) ifs t:=λ _ _ _ _ _=>ht.p;have he:∀cl C fp s H,DE (oY X N' scope cl C fp s H) elt fe:=λ _ _ _ _ _=>he.p;intro χ s σ H Q I w;obtain⟨ρ,ys,re,e,k⟩:=w;rw[eval_ListComp];refine B4 eJ hi.p B hG hg ht he hs I re e λ acc C s' H₂ sm Wi=>?_;obtain⟨D,H',vs,m,rfl,Qs,I',off,Mh,US,hD,dz⟩:=Wi;exact⟨m,Qs,λ h' Md=>⟨.ref D,H',off.inv I' Md,rfl,k D vs H' (sm.trans US) (sm.free Mh) hD dz⟩⟩⟩
theorem LD(eJ:X.calm=Da)(hN:X.N.Nodup)(X':X.N[i]?=AC x)(hx:Loc X.env.scope x)
 (XZ:swapsWith (.ListComp elt [⟨tg,iter,ifs,0⟩] scope pos) (AC<|.Name x px) IW.line X.env=pure Da) (hi:DI X tg iter it) (B:FX X.N N' n is scope X.env.scope) (hG:∀d ρ ρ1,G d ρ=.ok ρ1->ρ1.length=ρ.length/\∀i,n<=i->ρ1[i]?=ρ[i]?)
 (hg:∀cl C fp s H H0,DG (oY X N' scope cl C fp s H) H0 tg G) (ht:∀cl C fp s H,YY (oY X N' scope cl C fp s H) ifs t) (he:∀cl C fp s H,DE (oY X N' scope cl C fp s H) elt fe)
 (hs:∀x,foldedSetIterable iter X.env x=pure x) (hf:X.fn x=Da\/X.env.scope.names.lookup x=AC .local) (I:Inv X χ σ H s) (re:RE X.K H σ ρ) (e:Z.cP it n is G t fe ρ=.ok ys)
 (k:∀q vs H',aI H H'->H q=Ch->H' q=AC (.lst vs)->aG X.K H' ys vs->∃Q4,(∀s',Inv X χ (σ.set i<|some<|.ref q) H' s'->Inv X χ (σ.set i<|some<|.ref q) Q4 s')/\D.nx (σ.set i<|some<|.ref q) Q4) :
 FM (model X.prog X.w) X.A (exec (.Assign [.Name x px] (.ListComp elt [⟨tg,iter,ifs,0⟩] scope pos) IW) X.env) (SP X χ D) X.xe s:=by
 rw[exec_Assign_Name_used _ _ _ _ XZ];refine T0<|wpAny_standAt<|T0 ?_;refine T0<|A19 (B4 eJ hi B hG hg ht he hs I re e λ acc C s' H₂ sm Wi=>?_) (λ _ s' hq=>W1<|W1 hq) λ _ _ e=>e;obtain⟨q,H',vs,m,rfl,Qs,I',off,Mh,US,hD,dz⟩:=Wi;obtain⟨Q4,hI,hnx⟩:=k q vs H' (sm.trans US) (sm.free Mh) hD dz;refine wpAny_assign_Name<|xt I' hN X' hx (v:=.ref q) rfl (λ UW I'' ⟨⟨a,sb,ha⟩,_⟩=>?_) hf;have hCa:C≠a:=by
  rcases ha with rfl|ha
  .exact off.loc
  .exact λ z=>off.cell x a ha z.symm
 refine⟨m,Qs.sameBut sb hCa,λ h' Md=>⟨_,Q4,?_,hnx⟩⟩;exact hI _<|off.inv I'' Md
theorem OY(eJ:X.calm=Da)(hN:X.N.Nodup)(X':X.N[i]?=AC x)(hx:Loc X.env.scope x)
 (hi:DI X tg iter it) (B:FX X.N N' n is scope X.env.scope) (hG:∀d ρ ρ1,G d ρ=.ok ρ1->ρ1.length=ρ.length/\∀i,n<=i->ρ1[i]?=ρ[i]?)
 (hg:∀cl C fp s H H0,DG (oY X N' scope cl C fp s H) H0 tg G) (ht:∀cl C fp s H,YY (oY X N' scope cl C fp s H) ifs t) (he:∀cl C fp s H,DE (oY X N' scope cl C fp s H) elt fe)
 (XZ:swapsWith (.ListComp elt [⟨tg,iter,ifs,0⟩] scope pos) (AC<|.Name x px) IW.line X.env=pure Da:=by rfl)
 (hs:∀x,foldedSetIterable iter X.env x=pure x:=by intro _;rfl) (hf:Fl X x:=by trivial) :
 DS X H0 (.Assign [.Name x px] (.ListComp elt [⟨tg,iter,ifs,0⟩] scope pos) IW) (Z.qC i<|Z.cP it n is G t fe):=by
 intro χ s σ H D I w;obtain⟨ρ,fl,rs,e,k⟩:=w;obtain⟨ys,ey,e⟩:=bd e;cases e;refine LD eJ hN X' hx XZ hi B hG hg ht he hs hf I rs.re ey λ q vs H' s' hn h1 t'=>⟨H',λ _ j=>j,?_⟩
 exact k _ H' (l! s')<|(rs.up s').V6 h1 t' (rs.same.free hn) λ j xs _ e=>rs.noq hn j xs e
theorem _root_.ZQ.OX(eJ:X.calm=Da)(hN:X.N.Nodup)(X':X.N[i]?=AC x)(hx:Loc X.env.scope x)
 (hi:ZQ.QI X tg iter it) (B:FX X.N N' n is scope X.env.scope) (hG:∀d ρ ρ1,G d ρ=.ok ρ1->ρ1.length=ρ.length/\∀i,n<=i->ρ1[i]?=ρ[i]?)
 (hg:∀cl C fp s H H0,ZQ.QG (oY X N' scope cl C fp s H) H0 tg G) (ht:∀cl C fp s H,ZQ.PD (oY X N' scope cl C fp s H) ifs t) (he:∀cl C fp s H,ZQ.QE (oY X N' scope cl C fp s H) elt fe)
 (XZ:swapsWith (.ListComp elt [⟨tg,iter,ifs,0⟩] scope pos) (AC<|.Name x px) IW.line X.env=pure Da:=by rfl)
 (hs:∀x,foldedSetIterable iter X.env x=pure x:=by intro _;rfl) (hf:Fl X x:=by trivial) :
 ZQ.QS X H0 (.Assign [.Name x px] (.ListComp elt [⟨tg,iter,ifs,0⟩] scope pos) IW) (Z.a6 i<|Z.eL<|Z.cP it n is G t fe):=⟨by
 have hg:=λ y0 y1 y2 y3 y4 y5=>(hg y0 y1 y2 y3 y4 y5).p;have ht:=λ y0 y1 y2 y3 y4=>(ht y0 y1 y2 y3 y4).p;have he:=λ y0 y1 y2 y3 y4=>(he y0 y1 y2 y3 y4).p;have h1:DS X H0 _ _:=OY eJ hN X' hx hi.p B hG hg ht he XZ hs hf;intro χ s σ H D I w;obtain⟨ρ,fl,rs,e,k⟩:=w;obtain⟨d,ed,e⟩:=bd e;cases e;unfold Z.eL at ed;cases ey:Z.cP it n is G t fe ρ with
 |bad=>rw[ey]at ed;cases ed
 |ok ys=>
  rw[ey]at ed;cases ed;refine cS (h1 χ s σ H {D with nx:=λ σ' H'=>iQ H H'/\RS X.K H0 H' σ' _} I ⟨ρ,.nx<|ρ.set i<|some<|.own ys,rs,by show(Z.cP it n is G t fe ρ).bind _=_;rw[ey];rfl,λ σ' H' s' r'=>⟨s',r'⟩⟩) λ fl' s' h=>?_;cases fl' with
  |next=>
   obtain⟨σ',H',I',xu,Ah⟩:=h;by_cases hl:i<ρ.length
   .have ei:(ρ.set i<|some<|Z.L.own ys)[i]?=AC (AC<|.own ys):=A30 hl;obtain⟨v,si,q,us,rfl,hq,t'⟩:=Ah.re.get i _ ei;obtain⟨o,I2⟩:=oJ I' hq;have r2:=Ah.dZ (o:=o) ei si hq t';rw[List.set_set]at r2;exact⟨σ',_,I2,k σ' _ (xu.trans<|jS hq) r2⟩
   .have e0:ρ.set i (AC<|Z.L.own ys)=ρ:=C19 (by lia);have e1:ρ.set i (AC<|Z.L.val<|.lst ys)=ρ:=C19 (by lia);rw[e0]at Ah;have k':=k;rw[e1]at k';exact⟨σ',H',I',k' σ' H' xu Ah⟩
  |brk=>exact h
  |cont=>exact h
  |ret u=>exact h⟩
end
section
variable{P:ο}{w:ξ}{K:Do}{mg:Str->ε ζ}{base:μ}
theorem mR(t:aG K H ds vs)(hl:vs.length<=N.length):RS K H H (L2.start N vs) (Z.start N.length ds):=by
 have Bf:∀(i:Nat) xs,(Z.start N.length ds)[i]?≠AC (AC<|.own xs):=by
  intro i xs e;unfold Z.start at e;by_cases hi:i<ds.length
  .rw[A37 (by simpa using hi),A04]at e;cases q:ds[i]? with
   |none=>rw[q]at e;cases e
   |some d=>rw[q]at e;cases e
  .rw[A52 (by simpa using hi),A46]at e;split at e<;>cases e
 have Xa:∀(i:Nat) xs,(Z.start N.length ds)[i]?≠AC (AC<|.bor xs):=by
  intro i xs e;unfold Z.start at e;by_cases hi:i<ds.length
  .rw[A37 (by simpa using hi),A04]at e;cases q:ds[i]? with
   |none=>rw[q]at e;cases e
   |some d=>rw[q]at e;cases e
  .rw[A52 (by simpa using hi),A46]at e;split at e<;>cases e
 have W_:∀(i:Nat) ks,(Z.start N.length ds)[i]?≠AC (AC<|.dc ks):=by
  intro i ks e;unfold Z.start at e;by_cases hi:i<ds.length
  .rw[A37 (by simpa using hi),A04]at e;cases q:ds[i]? with
   |none=>rw[q]at e;cases e
   |some d=>rw[q]at e;cases e
  .rw[A52 (by simpa using hi),A46]at e;split at e<;>cases e
 have ψ:=t.length;refine⟨aI.refl H,⟨?_,λ i l e=>?_,λ i j xs ys q e1=>absurd e1<|Bf i xs⟩,λ i xs q e1=>absurd e1<|Bf i xs,λ i xs e1=>absurd e1<|Xa i xs,i9.non W_⟩
 .unfold Z.start L2.start;simp;lia
 .unfold Z.start at e;by_cases hi:i<ds.length
  .rw[A37 (by simpa using hi),A04]at e;cases q:ds[i]? with
   |none=>rw[q]at e;cases e
   |some d=>rw[q]at e;cases e;obtain⟨v,h1,h2⟩:=t.get q;refine⟨v,?_,h2⟩;unfold L2.start;rw[A37 (by simp;lia),A04,h1];rfl
  .rw[A52 (by simpa using hi),A46]at e;split at e<;>cases e
theorem fnZ{st:θ}(F:Ez K x qual st f fd)(S:a_ N ps (ah st))
 (hb:∀ a! A outer s H E,bB k (A.deeper<|envOfC qual (ah st) s.heap.objs.size f a!) ->
  L8 (dO jn P w K mg base N qual (ah st) f a! A outer s H E).f_ H (aM st) b):e6 P w K mg base jn (k+1) f fd ps (Ci K<|Z.fn ps.length N.length b):=by
 have ψ:∀vs H Q E,Ci K (Z.fn ps.length N.length b) vs H Q E->vs.length=ps.length:=λ vs H Q E ⟨ds,d,t,e,_⟩=>by
  unfold Z.fn at e;split at e
  .rename_i h;rw[t.length];exact h
  .cases e
 refine F.ok S ψ λ a! A outer s H vs Q E hr h=>⟨_,hb a! A outer s H E hr,?_⟩;have hl:=ψ vs H Q E h;obtain⟨ds,d,t,e,k⟩:=h;have dX:ps.length<=N.length:=by have:=A11 List.length S.pre;rw[A31]at this;lia
 have rs:RS K H H _ (Z.start N.length ds):=mR t (by lia);unfold Z.fn at e;split at e
 .cases eb:b (Z.start N.length ds)with
  |bad=>rw[eb]at e;cases e
  |ok fl=>
   rw[eb]at e;refine⟨_,fl,rs,eb,?_⟩;cases fl with
   |rt d'=>cases e;exact λ v H' s' dv=>k v H' s' dv
   |nx ρ'=>cases e;exact λ σ' H' _ Ah=>k .non H' Ah.same j8
   |bk ρ'=>cases e
   |ct ρ'=>cases e
 .cases e
end
def QV(N N':γ Str)(n:Nat)(is:γ Nat)(sc R?:τ):Bool:=
 (sc.kind==.function)&&sc.names.all (λ y=>y.2 != .cell)&&sc.names.all (λ y=>y.2 != .local||sc.names.lookup y.1==AC .local) &&
 sc.names.all (λ y=>y.2 != .free||R?.names.lookup y.1==AC .cell||R?.names.lookup y.1==AC .free)&&(N'.length==n+is.length) &&
 (FB is.length).all (λ j=>match is[j]?,N'[n+j]? with
  |some i,AC x=>N[i]?==AC x&&sc.names.lookup x==AC .free
  | _,_=>AT) &&
 (FB n).all (λ j=>match N'[j]? with
  |some x=>sc.names.lookup x==AC .local
  | none=>AT)
theorem FX.of(h:QV N N' n is sc R?=Da):FX N N' n is sc R?:=by
 unfold QV at h;simp only[A35,A28,A32,B86,bne_iff_ne,A38]at h;obtain⟨⟨⟨⟨⟨⟨h1,h2⟩,h3⟩,h4⟩,h5⟩,h6⟩,h7⟩:=h;refine⟨h1,h2,λ y hy e=>?_,λ y hy e=>?_,h5,λ j i e=>?_,λ j hj=>?_⟩
 .rcases h3 y hy with q|q
  .exact absurd e q
  .exact q
 .rcases h4 y hy with(q|q)|q
  .exact absurd e q
  .exact .inl q
  .exact .inr q
 .have hj:=(A10.mp e).1;have q:=h6 j hj;rw[e]at q;cases r:N'[n+j]? with
  |none=>rw[r]at q;cases q
  |some x=>rw[r]at q;simp only[A35,A32]at q;exact⟨x,rfl,q.1,q.2⟩
 .have q:=h7 j hj;cases r:N'[j]? with
  |none=>rw[r]at q;cases q
  |some x=>rw[r]at q;exact⟨x,rfl,A32.mp q⟩
structure Def(K:Do)(mg:Str->Option Value)(x:Str)(st:Stmt)(ps:List Str):Prop where
 ex:∃f fd,Ez K x x st f fd/\mg x=AC (.ref f)/\Binds K fd ps []
structure iG(P:Program)(w:World)(K:Do)(mg:Str->Option Value)(base:Heap)(x:Str)(k:Nat)(ps:List Str)(m:List Z.D->Z.Res Z.D):Prop where
 ex:∃g fd,e6 P w K mg base jn k g fd ps (Ci K m)/\mg x=AC (.ref g)/\Fk K (.ref g)=Da/\Binds K fd ps []
theorem iG.mk'{K:Do}{st:θ}(d:Def K mg x st ps)(S:a_ N ps (ah st))
 (hb:∀ f a! A outer s H E,bB k (A.deeper<|envOfC x (ah st) s.heap.objs.size f a!) ->
  L8 (dO jn P w K mg base N x (ah st) f a! A outer s H E).f_ H (aM st) b):iG P w K mg base x (k+1) ps (Z.fn ps.length N.length b):=by
 obtain⟨f,fd,F,hm,qm⟩:=d.ex;exact⟨f,fd,fnZ F S<|hb f,hm,F.kp,qm⟩
section
variable{X:Cx}{e:ι}{es:γ ι}{pos:Pos}
theorem _root_.ZQ.ax(C:iG X.prog X.w X.K X.mg X.base x k ps m)(ha:ZQ.QA X (e::es) ar)(ir:(x==("__debug__"))=AT:=by decide +kernel)(he:Se e es X.env:=by rfl)(dX:Pn pos es X.env:=by rfl)(hr:bB k X.A:=by first| assumption| exact L2.bB.mono (by assumption) (by first| decide| lia))(hg:Gl X x:=by rfl):ZQ.QE X (.Call (.Name x p1) (e::es) [] pos) (Z.aA m ar):=
 ⟨let ⟨_,_,F,hm,hk,hb⟩:=C.ex;O? F hr hg hm hk hb ha.p ir he dX⟩
end
theorem _root_.ZQ.aK(hm:X.mg x=AC (.int i t))(hb:Nd x:=by decide +kernel)(hg:Gl X x:=by rfl):ZQ.QE X (.Name x pos) (Z.eC<|.int i):=
 ⟨O9 (v:=.int i) hg hm ⟨t,rfl⟩ (λ _=>cO) hb⟩
theorem CZ{K:Do}{ns:γ Int}(hO:PJ H)(h:ku K H a (ns.map V.int)):Den K H (.lst<|ns.map Z.D.int) (.ref a):=by
 refine zK ?_<|aG.zints ns;rcases h with(h|⟨o,h⟩)|h
 .rcases hO a with z|⟨o,xs,z⟩|⟨q,z⟩
  .rw[h]at z;cases z
  .rw[h]at z;cases z
  .rw[h]at z;cases z
 .exact .inl ⟨o,h⟩
 .exact .inr h
theorem SX{K:Do}{ns:γ Int}(hO:PJ H)(h:ku K H a (ns.map V.int))(e:m [.lst (ns.map .int)]=.ok (.bl Da)):Ci K m [.ref a] H (λ v _=>v=.bl Da) λ _ _ _=>False:=
 ⟨_,_,aG.cons (CZ hO h) aG.nil,e,λ v H' _ d=>by simpa only[Den]using d⟩
section
variable{X:Cx}{e a b:ι}{pos:Pos}{f fa fb:Z.EF}
theorem AQ(x y:γ Nat):((⟨x.toArray⟩)==(⟨y.toArray⟩:Str))=(x==y):=by
 rw[A65,A32,A32];constructor
 .intro h;injection h with h;simpa using h
 .rintro rfl;rfl
theorem pH{K:Do}(h:Z.FF d1 d2=AC k)(h1:bJ K H d1 v1)(h2:bJ K H d2 v2)(r1:RelV v1 u1)(r2:RelV v2 u2):ZB A s u1 u2 k/\SL A s u1 u2 k/\Tl A s u1 u2 (!k):=by
 unfold Z.FF at h;split at h
 .cases h;rw[h1.non]at r1;rw[h2.non]at r2;cases r1;cases r2;exact⟨SeqAt.RcAt.none_none,B87 _,SeqAt.RcNeAt.none_none⟩
 .cases h;rw[h1.bl]at r1;rw[h2.bl]at r2;cases r1;cases r2;exact⟨SeqAt.RcAt.bool_bool _ _,SeqAt.EqAt.bool_bool _ _,SeqAt.RcNeAt.bool_bool _ _⟩
 .cases h;rw[h1.bl]at r1;rw[h2.int]at r2;cases r1;obtain⟨t,rfl⟩:=r2;exact⟨SeqAt.RcAt.bool_int _ _ _,SeqAt.EqAt.bool_int _ _ _,SeqAt.RcNeAt.bool_int _ _ _⟩
 .cases h;rw[h1.int]at r1;rw[h2.bl]at r2;cases r2;obtain⟨t,rfl⟩:=r1;exact⟨SeqAt.RcAt.int_bool _ _ _,SeqAt.EqAt.int_bool _ _ _,SeqAt.RcNeAt.int_bool _ _ _⟩
 .cases h;rw[h1.int]at r1;rw[h2.int]at r2;obtain⟨t,rfl⟩:=r1;obtain⟨t',rfl⟩:=r2;exact⟨SeqAt.RcAt.int_int _ _ _ _,SeqAt.EqAt.int_int _ _ _ _,SeqAt.RcNeAt.int_int _ _ _ _⟩
 .cases h;rw[h1.str]at r1;rw[h2.str]at r2;obtain⟨t,rfl⟩:=r1;obtain⟨t',rfl⟩:=r2;rw[<-AQ];exact⟨SeqAt.RcAt.str_str _ _ _ _,SeqAt.EqAt.str_str _ _ _ _,SeqAt.RcNeAt.str_str _ _ _ _⟩
 .cases h;rw[h1.non]at r1;rw[h2.bl]at r2;cases r1;cases r2;exact⟨SeqAt.RcAt.none_bool _,SeqAt.EqAt.none_bool _,SeqAt.RcNeAt.none_bool _⟩
 .cases h;rw[h1.non]at r1;rw[h2.int]at r2;cases r1;obtain⟨t,rfl⟩:=r2;exact⟨SeqAt.RcAt.none_int _ _,SeqAt.EqAt.none_int _ _,SeqAt.RcNeAt.none_int _ _⟩
 .cases h;rw[h1.non]at r1;rw[h2.str]at r2;cases r1;obtain⟨t,rfl⟩:=r2;exact⟨SeqAt.RcAt.none_str _ _,SeqAt.EqAt.none_str _ _,SeqAt.RcNeAt.none_str _ _⟩
 .cases h;rw[h1.bl]at r1;rw[h2.non]at r2;cases r1;cases r2;exact⟨SeqAt.RcAt.bool_none _,SeqAt.EqAt.bool_none _,SeqAt.RcNeAt.bool_none _⟩
 .cases h;rw[h1.bl]at r1;rw[h2.str]at r2;cases r1;obtain⟨t,rfl⟩:=r2;exact⟨SeqAt.RcAt.bool_str _ _ _,SeqAt.EqAt.bool_str _ _ _,SeqAt.RcNeAt.bool_str _ _ _⟩
 .cases h;rw[h1.int]at r1;rw[h2.non]at r2;cases r2;obtain⟨t,rfl⟩:=r1;exact⟨SeqAt.RcAt.int_none _ _,SeqAt.EqAt.int_none _ _,SeqAt.RcNeAt.int_none _ _⟩
 .cases h;rw[h1.int]at r1;rw[h2.str]at r2;obtain⟨t,rfl⟩:=r1;obtain⟨t',rfl⟩:=r2;exact⟨SeqAt.RcAt.int_str _ _ _ _,SeqAt.EqAt.int_str _ _ _ _,SeqAt.RcNeAt.int_str _ _ _ _⟩
 .cases h;rw[h1.str]at r1;rw[h2.non]at r2;cases r2;obtain⟨t,rfl⟩:=r1;exact⟨SeqAt.RcAt.str_none _ _,SeqAt.EqAt.str_none _ _,SeqAt.RcNeAt.str_none _ _⟩
 .cases h;rw[h1.str]at r1;rw[h2.bl]at r2;cases r2;obtain⟨t,rfl⟩:=r1;exact⟨SeqAt.RcAt.str_bool _ _ _,SeqAt.EqAt.str_bool _ _ _,SeqAt.RcNeAt.str_bool _ _ _⟩
 .cases h;rw[h1.str]at r1;rw[h2.int]at r2;obtain⟨t,rfl⟩:=r1;obtain⟨t',rfl⟩:=r2;exact⟨SeqAt.RcAt.str_int _ _ _ _,SeqAt.EqAt.str_int _ _ _ _,SeqAt.RcNeAt.str_int _ _ _ _⟩
 .cases h
def Mi(g:Z.D->Z.D->ε Bool)(as bs:γ Z.D)(j:Nat):Bool:=match as[j]?,bs[j]? with
|some x,AC y=>(g x y).getD AT
|_,_=>Da
theorem mH:∀{as bs}{k},Z.allEq g as bs=AC k->k=((FB<|min as.length bs.length).all (Mi g as bs)&&as.length == bs.length)/\∀j x y,as[j]?=AC x->bs[j]?=AC y->g x y=AC (Mi g as bs j)
|[],[],k,h=>by cases h;exact⟨rfl,λ j x y e=>by simp at e⟩
|[],_::_,k,h=>by cases h;exact⟨by simp,λ j x y e=>by simp at e⟩
|_::_,[],k,h=>by cases h;exact⟨by simp,λ j x y _ e=>by simp at e⟩
|a::as,b::bs,k,h=>by
 unfold Z.allEq at h;split at h
 .rename_i p q e1 e2;cases h;obtain⟨h1,h2⟩:=mH e2;refine⟨?_,λ j x y ex ey=>?_⟩
  .have:min (a::as).length (b::bs).length=min as.length bs.length+1:=by simp only[A24];lia
   rw[this,C20,B45,List.all_map,h1];have e0:Mi g (a::as) (b::bs) 0=p:=by simp[Mi,e1]
   have es:(Mi g (a::as) (b::bs)∘Nat.succ)=Mi g as bs:=by funext j;simp[Mi]
   have el:((a::as).length==(b::bs).length)=(as.length==bs.length):=by rw[A65];simp
   rw[e0,es,el,Bool.and_assoc]
  .cases j with
   |zero=>simp at ex ey;subst ex ey;simp[Mi,e1]
   |succ j=>have:=h2 j x y (by simpa using ex) (by simpa using ey);simpa[Mi]using this
 .cases h
theorem Bv(I:Inv X χ σ H s)(n:Nat)(hu:A.units+n<cLine)
 (ih:∀ {A}{d1 d2}{v1 v2}{u1 u2}{k},A.units+n<cLine->Z.iz n d1 d2=AC k->bJ X.K H d1 v1->bJ X.K H d2 v2->RelV v1 u1->RelV v2 u2->ZB A s u1 u2 k/\SL A s u1 u2 k/\Tl A s u1 u2 (!k))
  (hk:Z.allEq (Z.iz n) as bs=AC k) (ta:aG X.K H as vs) (tb:aG X.K H bs ws) (ra:Vals vs bx) (rb:Vals ws iL) :
  ∀j h1 (h2:j<iL.toArray.size),SL A s bx.toArray[j] iL.toArray[j] (Mi (Z.iz n) as bs j):=by
 intro j hj1 X9;have la:=ta.length;have lb:=tb.length;have ZL:=ra.length;have rb':=rb.length;simp only[A05]at hj1 X9;obtain⟨x,ex⟩:∃x,as[j]?=AC x:=⟨as[j]'(by lia),A01 (by lia)⟩
 obtain⟨y,ey⟩:∃y,bs[j]?=AC y:=⟨bs[j]'(by lia),A01 (by lia)⟩
 obtain⟨vx,evx,dx⟩:=ta.get ex;obtain⟨vy,QC,dy⟩:=tb.get ey;obtain⟨ux,eux,rx⟩:=ra.get evx;obtain⟨uy,euy,ry⟩:=rb.get QC;have e1:bx.toArray[j]=ux:=by have:=A01 hj1;rw[eux]at this;simpa using(A03 this).symm
 have e2:iL.toArray[j]=uy:=by have:=A01 X9;rw[euy]at this;simpa using(A03 this).symm
 rw[e1,e2];exact(ih hu ((mH hk).2 j x y ex ey) (.inl dx) (.inl dy) rx ry).2.1
theorem bj{K:Do}(h:Z.FF d1 d2=AC k)(h1:bJ K H d1 v)(h2:bJ K H d2 v):k=Da:=by
 unfold Z.FF at h;split at h<;>first
  |(cases h;rfl)
  |(cases h;done)
  |(have e:=h1.bl.symm.trans h2.bl;cases h;injection e with e;subst e;simp)
  |(have e:=h1.int.symm.trans h2.int;cases h;injection e with e;subst e;simp)
  |(have e:=h1.str.symm.trans h2.str;cases h;injection e with e;rw[<-AQ,e];simp)
  |(have e:=h1.bl.symm.trans h2.int;cases e)
  |(have e:=h1.int.symm.trans h2.bl;cases e)
  |(have e:=h1.non.symm.trans h2.bl;cases e)
  |(have e:=h1.non.symm.trans h2.int;cases e)
  |(have e:=h1.non.symm.trans h2.str;cases e)
  |(have e:=h1.bl.symm.trans h2.non;cases e)
  |(have e:=h1.bl.symm.trans h2.str;cases e)
  |(have e:=h1.int.symm.trans h2.non;cases e)
  |(have e:=h1.int.symm.trans h2.str;cases e)
  |(have e:=h1.str.symm.trans h2.non;cases e)
  |(have e:=h1.str.symm.trans h2.bl;cases e)
  |(have e:=h1.str.symm.trans h2.int;cases e)
theorem va{K:Do}(ih:∀{d1 d2}{v}{k},Z.iz n d1 d2=AC k->bJ K H d1 v->bJ K H d2 v->k=Da)(h:Z.allEq (Z.iz n) as bs=AC k)(ta:aG K H as vs)(tb:aG K H bs vs):k=Da:=by
 obtain⟨h1,h2⟩:=mH h;have la:=ta.length;have lb:=tb.length;rw[h1,show(as.length==bs.length)=Da by simp;lia,AD4,A28];intro j hj;rw[A38]at hj;obtain⟨x,ex⟩:∃x,as[j]?=AC x:=⟨as[j]'(by lia),A01 (by lia)⟩
 obtain⟨y,ey⟩:∃y,bs[j]?=AC y:=⟨bs[j]'(by lia),A01 (by lia)⟩
 obtain⟨vx,evx,dx⟩:=ta.get ex;obtain⟨vy,QC,dy⟩:=tb.get ey;rw[evx]at QC;cases QC;exact ih (h2 j x y ex ey) (.inl dx)<|.inl dy
theorem yR{a:δ}(I:Inv X χ σ H s)(h:mI X.K H a xs)(h':ku X.K H a ys):False:=by obtain⟨bx,r,⟨o,e,c,n,d⟩,_⟩:=I.tuple h;obtain⟨Bu,r',⟨o',n',e',c',_⟩,_⟩:=I.list h';rw[e]at e';cases e';rw[c]at c';injection c' with z;exact absurd z (by decide)
def sq:Z.D->Bool
|.tup _=>Da
|.lst _=>Da
|_=>AT
def dc:Z.D->Bool
|.dct _ _=>Da
|_=>AT
theorem aX(n:Nat)(h:(sq d1=AT/\sq d2=AT)\/dc d1=Da\/dc d2=Da):Z.iz n d1 d2=Z.FF d1 d2:=by cases d1<;>cases d2<;>cases n<;>first|rfl|(simp[sq,dc]at h)
theorem Hm(I:Inv X χ σ H s)(n:Nat)(ih:∀m,m<n->∀{d1 d2}{v}{k},Z.iz m d1 d2=AC k->bJ X.K H d1 v->bJ X.K H d2 v->k=Da)(h:Z.iz n d1 d2=AC k)(h1:bJ X.K H d1 v)(h2:bJ X.K H d2 v):k=Da:=by
 cases d1<;>cases d2
 case non.non=>exact bj ((aX n<|.inl ⟨rfl,rfl⟩).symm.trans h) h1 h2
 case non.bl=>exact bj ((aX n<|.inl ⟨rfl,rfl⟩).symm.trans h) h1 h2
 case non.int=>exact bj ((aX n<|.inl ⟨rfl,rfl⟩).symm.trans h) h1 h2
 case non.str=>exact bj ((aX n<|.inl ⟨rfl,rfl⟩).symm.trans h) h1 h2
 case non.tup=>obtain⟨_,_,e,_⟩:=h2.tup;rw[e]at h1;cases h1.non
 case non.lst=>obtain⟨_,_,e,_⟩:=h2.lst;rw[e]at h1;cases h1.non
 case non.dct=>exact bj ((aX n<|.inl ⟨rfl,rfl⟩).symm.trans h) h1 h2
 case bl.non=>exact bj ((aX n<|.inl ⟨rfl,rfl⟩).symm.trans h) h1 h2
 case bl.bl=>exact bj ((aX n<|.inl ⟨rfl,rfl⟩).symm.trans h) h1 h2
 case bl.int=>exact bj ((aX n<|.inl ⟨rfl,rfl⟩).symm.trans h) h1 h2
 case bl.str=>exact bj ((aX n<|.inl ⟨rfl,rfl⟩).symm.trans h) h1 h2
 case bl.tup=>obtain⟨_,_,e,_⟩:=h2.tup;rw[e]at h1;cases h1.bl
 case bl.lst=>obtain⟨_,_,e,_⟩:=h2.lst;rw[e]at h1;cases h1.bl
 case bl.dct=>exact bj ((aX n<|.inl ⟨rfl,rfl⟩).symm.trans h) h1 h2
 case int.non=>exact bj ((aX n<|.inl ⟨rfl,rfl⟩).symm.trans h) h1 h2
 case int.bl=>exact bj ((aX n<|.inl ⟨rfl,rfl⟩).symm.trans h) h1 h2
 case int.int=>exact bj ((aX n<|.inl ⟨rfl,rfl⟩).symm.trans h) h1 h2
 case int.str=>exact bj ((aX n<|.inl ⟨rfl,rfl⟩).symm.trans h) h1 h2
 case int.tup=>obtain⟨_,_,e,_⟩:=h2.tup;rw[e]at h1;cases h1.int
 case int.lst=>obtain⟨_,_,e,_⟩:=h2.lst;rw[e]at h1;cases h1.int
 case int.dct=>exact bj ((aX n<|.inl ⟨rfl,rfl⟩).symm.trans h) h1 h2
 case str.non=>exact bj ((aX n<|.inl ⟨rfl,rfl⟩).symm.trans h) h1 h2
 case str.bl=>exact bj ((aX n<|.inl ⟨rfl,rfl⟩).symm.trans h) h1 h2
 case str.int=>exact bj ((aX n<|.inl ⟨rfl,rfl⟩).symm.trans h) h1 h2
 case str.str=>exact bj ((aX n<|.inl ⟨rfl,rfl⟩).symm.trans h) h1 h2
 case str.tup=>obtain⟨_,_,e,_⟩:=h2.tup;rw[e]at h1;cases h1.str
 case str.lst=>obtain⟨_,_,e,_⟩:=h2.lst;rw[e]at h1;cases h1.str
 case str.dct=>exact bj ((aX n<|.inl ⟨rfl,rfl⟩).symm.trans h) h1 h2
 case tup.non=>obtain⟨_,_,e,_⟩:=h1.tup;rw[e]at h2;cases h2.non
 case tup.bl=>obtain⟨_,_,e,_⟩:=h1.tup;rw[e]at h2;cases h2.bl
 case tup.int=>obtain⟨_,_,e,_⟩:=h1.tup;rw[e]at h2;cases h2.int
 case tup.str=>obtain⟨_,_,e,_⟩:=h1.tup;rw[e]at h2;cases h2.str
 case tup.tup=>
  cases n with
  |zero=>cases h
  |succ n=>obtain⟨_,_,e,q,ta⟩:=h1.tup;obtain⟨_,_,e',q',tb⟩:=h2.tup;rw[e]at e';cases e';have:=I.qy q q';subst this;exact va (ih n<|A61 n) h ta tb
 case tup.lst=>obtain⟨_,_,e,q,_⟩:=h1.tup;obtain⟨_,_,e',q',_⟩:=h2.lst;rw[e]at e';cases e';exact(yR I q q').elim
 case tup.dct=>exact bj ((aX n<|.inr<|.inr rfl).symm.trans h) h1 h2
 case lst.non=>obtain⟨_,_,e,_⟩:=h1.lst;rw[e]at h2;cases h2.non
 case lst.bl=>obtain⟨_,_,e,_⟩:=h1.lst;rw[e]at h2;cases h2.bl
 case lst.int=>obtain⟨_,_,e,_⟩:=h1.lst;rw[e]at h2;cases h2.int
 case lst.str=>obtain⟨_,_,e,_⟩:=h1.lst;rw[e]at h2;cases h2.str
 case lst.tup=>obtain⟨_,_,e,q,_⟩:=h1.lst;obtain⟨_,_,e',q',_⟩:=h2.tup;rw[e]at e';cases e';exact(yR I q' q).elim
 case lst.lst=>
  cases n with
  |zero=>cases h
  |succ n=>obtain⟨_,_,e,q,ta⟩:=h1.lst;obtain⟨_,_,e',q',tb⟩:=h2.lst;rw[e]at e';cases e';have:=I.pR q q';subst this;exact va (ih n<|A61 n) h ta tb
 case lst.dct=>exact bj ((aX n<|.inr<|.inr rfl).symm.trans h) h1 h2
 case dct.non=>exact bj ((aX n<|.inl ⟨rfl,rfl⟩).symm.trans h) h1 h2
 case dct.bl=>exact bj ((aX n<|.inl ⟨rfl,rfl⟩).symm.trans h) h1 h2
 case dct.int=>exact bj ((aX n<|.inl ⟨rfl,rfl⟩).symm.trans h) h1 h2
 case dct.str=>exact bj ((aX n<|.inl ⟨rfl,rfl⟩).symm.trans h) h1 h2
 case dct.tup=>exact bj ((aX n<|.inr<|.inl rfl).symm.trans h) h1 h2
 case dct.lst=>exact bj ((aX n<|.inr<|.inl rfl).symm.trans h) h1 h2
 case dct.dct=>exact bj ((aX n<|.inl ⟨rfl,rfl⟩).symm.trans h) h1 h2
theorem BR(I:Inv X χ σ H s)(n:Nat):∀{d1 d2}{v}{k},Z.iz n d1 d2=AC k->bJ X.K H d1 v->bJ X.K H d2 v->k=Da:=by
 induction n using Nat.strongRecOn with
 |_ n ih=>exact Hm I n ih
theorem aaG(I:Inv X χ σ H s)(n:Nat)(ih:∀m,m<n->∀{A}{d1 d2}{v1 v2}{u1 u2}{k},A.units+m<cLine->Z.iz m d1 d2=AC k->bJ X.K H d1 v1->bJ X.K H d2 v2->RelV v1 u1->RelV v2 u2->ZB A s u1 u2 k/\SL A s u1 u2 k/\Tl A s u1 u2 (!k))(hu:A.units+n<cLine)(h:Z.iz n d1 d2=AC k)(h1:bJ X.K H d1 v1)(h2:bJ X.K H d2 v2)(r1:RelV v1 u1)(r2:RelV v2 u2):
 ZB A s u1 u2 k/\SL A s u1 u2 k/\Tl A s u1 u2 (!k):=by
 have gJ:A.units<cLine:=by lia
 have wA:∀{ds}{v}{u},bJ X.K H (.tup ds) v->RelV v u->∃q bx,u=.ref q/\s.heap.IsTuple q bx:=λ hd rv=>by obtain⟨q,vs,rfl,hq,_⟩:=hd.tup;cases rv;obtain⟨bx,_,p,_⟩:=I.tuple hq;exact⟨q,bx.toArray,rfl,p⟩
 have wM:∀{ds}{v}{u},bJ X.K H (.lst ds) v->RelV v u->∃q bx,u=.ref q/\s.heap.IsList q bx:=λ hd rv=>by obtain⟨q,vs,rfl,hq,_⟩:=hd.lst;cases rv;obtain⟨bx,_,p,_⟩:=I.list hq;exact⟨q,bx.toArray,rfl,p.isList⟩
 cases d1<;>cases d2
 case non.non=>exact pH ((aX n<|.inl ⟨rfl,rfl⟩).symm.trans h) h1 h2 r1 r2
 case non.bl=>exact pH ((aX n<|.inl ⟨rfl,rfl⟩).symm.trans h) h1 h2 r1 r2
 case non.int=>exact pH ((aX n<|.inl ⟨rfl,rfl⟩).symm.trans h) h1 h2 r1 r2
 case non.str=>exact pH ((aX n<|.inl ⟨rfl,rfl⟩).symm.trans h) h1 h2 r1 r2
 case non.tup=>
  obtain rfl:k=AT:=by cases n<;>cases h<;>rfl
  rw[h1.non]at r1;cases r1;obtain⟨q2,iL,rfl,p2⟩:=wA h2 r2;exact⟨SeqAt.RcAt.none_tuple p2 gJ,SeqAt.EqAt.none_tuple p2 gJ,SeqAt.RcNeAt.none_tuple p2 gJ⟩
 case non.lst=>
  obtain rfl:k=AT:=by cases n<;>cases h<;>rfl
  rw[h1.non]at r1;cases r1;obtain⟨q2,iL,rfl,p2⟩:=wM h2 r2;exact⟨SeqAt.RcAt.none_list p2 gJ,SeqAt.EqAt.none_list p2 gJ,SeqAt.RcNeAt.none_list p2 gJ⟩
 case non.dct=>exact pH ((aX n<|.inl ⟨rfl,rfl⟩).symm.trans h) h1 h2 r1 r2
 case bl.non=>exact pH ((aX n<|.inl ⟨rfl,rfl⟩).symm.trans h) h1 h2 r1 r2
 case bl.bl=>exact pH ((aX n<|.inl ⟨rfl,rfl⟩).symm.trans h) h1 h2 r1 r2
 case bl.int=>exact pH ((aX n<|.inl ⟨rfl,rfl⟩).symm.trans h) h1 h2 r1 r2
 case bl.str=>exact pH ((aX n<|.inl ⟨rfl,rfl⟩).symm.trans h) h1 h2 r1 r2
 case bl.tup=>
  obtain rfl:k=AT:=by cases n<;>cases h<;>rfl
  rw[h1.bl]at r1;cases r1;obtain⟨q2,iL,rfl,p2⟩:=wA h2 r2;exact⟨SeqAt.RcAt.bool_tuple _ p2 gJ,SeqAt.EqAt.bool_tuple _ p2 gJ,SeqAt.RcNeAt.bool_tuple _ p2 gJ⟩
 case bl.lst=>
  obtain rfl:k=AT:=by cases n<;>cases h<;>rfl
  rw[h1.bl]at r1;cases r1;obtain⟨q2,iL,rfl,p2⟩:=wM h2 r2;exact⟨SeqAt.RcAt.bool_list _ p2 gJ,SeqAt.EqAt.bool_list _ p2 gJ,SeqAt.RcNeAt.bool_list _ p2 gJ⟩
 case bl.dct=>exact pH ((aX n<|.inl ⟨rfl,rfl⟩).symm.trans h) h1 h2 r1 r2
 case int.non=>exact pH ((aX n<|.inl ⟨rfl,rfl⟩).symm.trans h) h1 h2 r1 r2
 case int.bl=>exact pH ((aX n<|.inl ⟨rfl,rfl⟩).symm.trans h) h1 h2 r1 r2
 case int.int=>exact pH ((aX n<|.inl ⟨rfl,rfl⟩).symm.trans h) h1 h2 r1 r2
 case int.str=>exact pH ((aX n<|.inl ⟨rfl,rfl⟩).symm.trans h) h1 h2 r1 r2
 case int.tup=>
  obtain rfl:k=AT:=by cases n<;>cases h<;>rfl
  rw[h1.int]at r1;obtain⟨t1,rfl⟩:=r1;obtain⟨q2,iL,rfl,p2⟩:=wA h2 r2;exact⟨SeqAt.RcAt.int_tuple _ _ p2 gJ,SeqAt.EqAt.int_tuple _ _ p2 gJ,SeqAt.RcNeAt.int_tuple _ _ p2 gJ⟩
 case int.lst=>
  obtain rfl:k=AT:=by cases n<;>cases h<;>rfl
  rw[h1.int]at r1;obtain⟨t1,rfl⟩:=r1;obtain⟨q2,iL,rfl,p2⟩:=wM h2 r2;exact⟨SeqAt.RcAt.int_list _ _ p2 gJ,SeqAt.EqAt.int_list _ _ p2 gJ,SeqAt.RcNeAt.int_list _ _ p2 gJ⟩
 case int.dct=>exact pH ((aX n<|.inl ⟨rfl,rfl⟩).symm.trans h) h1 h2 r1 r2
 case str.non=>exact pH ((aX n<|.inl ⟨rfl,rfl⟩).symm.trans h) h1 h2 r1 r2
 case str.bl=>exact pH ((aX n<|.inl ⟨rfl,rfl⟩).symm.trans h) h1 h2 r1 r2
 case str.int=>exact pH ((aX n<|.inl ⟨rfl,rfl⟩).symm.trans h) h1 h2 r1 r2
 case str.str=>exact pH ((aX n<|.inl ⟨rfl,rfl⟩).symm.trans h) h1 h2 r1 r2
 case str.tup=>
  obtain rfl:k=AT:=by cases n<;>cases h<;>rfl
  rw[h1.str]at r1;obtain⟨t1,rfl⟩:=r1;obtain⟨q2,iL,rfl,p2⟩:=wA h2 r2;exact⟨SeqAt.RcAt.str_tuple _ _ p2 gJ,SeqAt.EqAt.str_tuple _ _ p2 gJ,SeqAt.RcNeAt.str_tuple _ _ p2 gJ⟩
 case str.lst=>
  obtain rfl:k=AT:=by cases n<;>cases h<;>rfl
  rw[h1.str]at r1;obtain⟨t1,rfl⟩:=r1;obtain⟨q2,iL,rfl,p2⟩:=wM h2 r2;exact⟨SeqAt.RcAt.str_list _ _ p2 gJ,SeqAt.EqAt.str_list _ _ p2 gJ,SeqAt.RcNeAt.str_list _ _ p2 gJ⟩
 case str.dct=>exact pH ((aX n<|.inl ⟨rfl,rfl⟩).symm.trans h) h1 h2 r1 r2
 case tup.non=>
  obtain rfl:k=AT:=by cases n<;>cases h<;>rfl
  obtain⟨q1,zo,rfl,p1⟩:=wA h1 r1;rw[h2.non]at r2;cases r2;exact⟨SeqAt.RcAt.tuple_none p1 gJ,SeqAt.EqAt.tuple_none p1 gJ,SeqAt.RcNeAt.tuple_none p1 gJ⟩
 case tup.bl=>
  obtain rfl:k=AT:=by cases n<;>cases h<;>rfl
  obtain⟨q1,zo,rfl,p1⟩:=wA h1 r1;rw[h2.bl]at r2;cases r2;exact⟨SeqAt.RcAt.tuple_bool _ p1 gJ,SeqAt.EqAt.tuple_bool _ p1 gJ,SeqAt.RcNeAt.tuple_bool _ p1 gJ⟩
 case tup.int=>
  obtain rfl:k=AT:=by cases n<;>cases h<;>rfl
  obtain⟨q1,zo,rfl,p1⟩:=wA h1 r1;rw[h2.int]at r2;obtain⟨t2,rfl⟩:=r2;exact⟨SeqAt.RcAt.tuple_int _ _ p1 gJ,SeqAt.EqAt.tuple_int _ _ p1 gJ,SeqAt.RcNeAt.tuple_int _ _ p1 gJ⟩
 case tup.str=>
  obtain rfl:k=AT:=by cases n<;>cases h<;>rfl
  obtain⟨q1,zo,rfl,p1⟩:=wA h1 r1;rw[h2.str]at r2;obtain⟨t2,rfl⟩:=r2;exact⟨SeqAt.RcAt.tuple_str _ _ p1 gJ,SeqAt.EqAt.tuple_str _ _ p1 gJ,SeqAt.RcNeAt.tuple_str _ _ p1 gJ⟩
 case tup.lst=>
  obtain rfl:k=AT:=by cases n<;>cases h<;>rfl
  obtain⟨q1,zo,rfl,p1⟩:=wA h1 r1;obtain⟨q2,iL,rfl,p2⟩:=wM h2 r2;exact⟨SeqAt.RcAt.tuple_list p1 p2 gJ,SeqAt.EqAt.tuple_list p1 p2 gJ,SeqAt.RcNeAt.tuple_list p1 p2 gJ⟩
 case tup.dct=>exact pH ((aX n<|.inr<|.inr rfl).symm.trans h) h1 h2 r1 r2
 case lst.non=>
  obtain rfl:k=AT:=by cases n<;>cases h<;>rfl
  obtain⟨q1,zo,rfl,p1⟩:=wM h1 r1;rw[h2.non]at r2;cases r2;exact⟨SeqAt.RcAt.list_none p1 gJ,SeqAt.EqAt.list_none p1 gJ,SeqAt.RcNeAt.list_none p1 gJ⟩
 case lst.bl=>
  obtain rfl:k=AT:=by cases n<;>cases h<;>rfl
  obtain⟨q1,zo,rfl,p1⟩:=wM h1 r1;rw[h2.bl]at r2;cases r2;exact⟨SeqAt.RcAt.list_bool _ p1 gJ,SeqAt.EqAt.list_bool _ p1 gJ,SeqAt.RcNeAt.list_bool _ p1 gJ⟩
 case lst.int=>
  obtain rfl:k=AT:=by cases n<;>cases h<;>rfl
  obtain⟨q1,zo,rfl,p1⟩:=wM h1 r1;rw[h2.int]at r2;obtain⟨t2,rfl⟩:=r2;exact⟨SeqAt.RcAt.list_int _ _ p1 gJ,SeqAt.EqAt.list_int _ _ p1 gJ,SeqAt.RcNeAt.list_int _ _ p1 gJ⟩
 case lst.str=>
  obtain rfl:k=AT:=by cases n<;>cases h<;>rfl
  obtain⟨q1,zo,rfl,p1⟩:=wM h1 r1;rw[h2.str]at r2;obtain⟨t2,rfl⟩:=r2;exact⟨SeqAt.RcAt.list_str _ _ p1 gJ,SeqAt.EqAt.list_str _ _ p1 gJ,SeqAt.RcNeAt.list_str _ _ p1 gJ⟩
 case lst.tup=>
  obtain rfl:k=AT:=by cases n<;>cases h<;>rfl
  obtain⟨q1,zo,rfl,p1⟩:=wM h1 r1;obtain⟨q2,iL,rfl,p2⟩:=wA h2 r2;exact⟨SeqAt.RcAt.list_tuple p1 p2 gJ,SeqAt.EqAt.list_tuple p1 p2 gJ,SeqAt.RcNeAt.list_tuple p1 p2 gJ⟩
 case lst.dct=>exact pH ((aX n<|.inr<|.inr rfl).symm.trans h) h1 h2 r1 r2
 case dct.non=>exact pH ((aX n<|.inl ⟨rfl,rfl⟩).symm.trans h) h1 h2 r1 r2
 case dct.bl=>exact pH ((aX n<|.inl ⟨rfl,rfl⟩).symm.trans h) h1 h2 r1 r2
 case dct.int=>exact pH ((aX n<|.inl ⟨rfl,rfl⟩).symm.trans h) h1 h2 r1 r2
 case dct.str=>exact pH ((aX n<|.inl ⟨rfl,rfl⟩).symm.trans h) h1 h2 r1 r2
 case dct.tup=>exact pH ((aX n<|.inr<|.inl rfl).symm.trans h) h1 h2 r1 r2
 case dct.lst=>exact pH ((aX n<|.inr<|.inl rfl).symm.trans h) h1 h2 r1 r2
 case dct.dct=>exact pH ((aX n<|.inl ⟨rfl,rfl⟩).symm.trans h) h1 h2 r1 r2
 case tup.tup as bs=>
  cases n with
  |zero=>cases h
  |succ n=>
   have hk:=h;have hs:=λ(z:v1=v2)=>BR I (n+1) (d1:=.tup as) (d2:=.tup bs) (v:=v1) h h1<|z▸h2;obtain⟨q,vs,rfl,hq,ta⟩:=h1.tup;obtain⟨q',ws,rfl,eQ,tb⟩:=h2.tup;cases r1;cases r2;obtain⟨bx,ra,pa,_⟩:=I.tuple hq;obtain⟨iL,rb,pb,_⟩:=I.tuple eQ;have hi:=Bv I n (A:=A.in1) (show A.units+1+n<cLine by lia) (ih n<|A61 n) hk ta tb ra rb;have e:=(mH hk).1;have la:=ta.length;have lb:=tb.length;have ZL:=ra.length;have rb':=rb.length;have t1:=SeqAt.RcAt.tuples (s:=s) (A:=A) (pa) (pb) gJ hi;have t2:=SeqAt.RcNeAt.tuples (s:=s) (A:=A) (pa) (pb) gJ hi;simp only[A05]at t1 t2;rw[<-ZL,<-rb',la,lb,<-e]at t1 t2;refine⟨t1,?_,t2⟩;by_cases X2:q=q'
   .subst X2;rw[hs rfl];exact B87 _
   .exact SeqAt.EqAt.of_refs X2 t1
 case lst.lst as bs=>
  cases n with
  |zero=>cases h
  |succ n=>
   have hk:=h;have hs:=λ(z:v1=v2)=>BR I (n+1) (d1:=.lst as) (d2:=.lst bs) (v:=v1) h h1<|z▸h2;obtain⟨q,vs,rfl,hq,ta⟩:=h1.lst;obtain⟨q',ws,rfl,eQ,tb⟩:=h2.lst;cases r1;cases r2;obtain⟨bx,ra,pa,_⟩:=I.list hq;obtain⟨iL,rb,pb,_⟩:=I.list eQ;have e:=(mH hk).1;have la:=ta.length;have lb:=tb.length;have ZL:=ra.length;have rb':=rb.length;have t:ZB A s (.ref q) (.ref q') k/\Tl A s (.ref q) (.ref q') (!k):=by
    by_cases ψ:as.length=bs.length
    .have hi:=Bv I n (A:=A.in1) (show A.units+1+n<cLine by lia) (ih n<|A61 n) hk ta tb ra rb;have t1:=SeqAt.RcAt.lists (s:=s) (A:=A) pa.isList pb.isList (by simp only[A05];lia) gJ hi;have t2:=SeqAt.RcNeAt.lists (s:=s) (A:=A) pa.isList pb.isList (by simp only[A05];lia) gJ hi;simp only[A05]at t1 t2;rw[<-ZL,la]at t1 t2;rw[ψ,Nat.min_self,B43,AD4,<-ψ]at e;rw[<-e]at t1 t2;exact⟨t1,t2⟩
    .have:(as.length==bs.length)=AT:=by simpa using ψ
     rw[this,B82]at e;subst e;exact⟨SeqAt.RcAt.lists_lengths pa.isList pb.isList (by simp only[A05,bne_iff_ne,ne_eq];lia) gJ,SeqAt.RcNeAt.lists_lengths pa.isList pb.isList (by simp only[A05,bne_iff_ne,ne_eq];lia) gJ⟩
   refine⟨t.1,?_,t.2⟩;by_cases X2:q=q'
   .subst X2;rw[hs rfl];exact B87 _
   .exact SeqAt.EqAt.of_refs X2 t.1
theorem Wh(I:Inv X χ σ H s)(n:Nat):∀{A}{d1 d2}{v1 v2}{u1 u2}{k},A.units+n<cLine->Z.iz n d1 d2=AC k->bJ X.K H d1 v1->bJ X.K H d2 v2->RelV v1 u1->RelV v2 u2->ZB A s u1 u2 k/\SL A s u1 u2 k/\Tl A s u1 u2 (!k):=by
 induction n using Nat.strongRecOn with
 |_ n ih=>exact aaG I n ih
theorem gH(hu:X.A.units+64<cLine):Co X .Eq Z.oEq:=by
 have ho:jQ X (compareOp .Eq) (λ x y H Q=>∃d1 d2 k,bJ X.K H d1 x/\bJ X.K H d2 y/\Z.iW d1 d2=AC k/\Q (.bl k) H):=by intro χ s σ H x y v u Q I rx ry h;obtain⟨d1,d2,k,h1,h2,e,q⟩:=h;exact(Wh I 6 (by lia) e h1 h2 rx ry).1 _ X.w X.xe _ ⟨.bl k,H,I,rfl,q⟩
 exact⟨_,ho,λ x y dx dy d H Q h1 h2 e k=>by
  unfold Z.oEq at e;split at e
  .rename_i z hz;cases e;exact⟨dx,dy,z,h1,h2,hz,k _ H (aI.refl H) c!⟩
  .cases e⟩
theorem zS(hu:X.A.units+64<cLine):Co X .NotEq Z.pO:=by
 have ho:jQ X (compareOp .NotEq) (λ x y H Q=>∃d1 d2 k,bJ X.K H d1 x/\bJ X.K H d2 y/\Z.iW d1 d2=AC k/\Q (.bl<|!k) H):=by intro χ s σ H x y v u Q I rx ry h;obtain⟨d1,d2,k,h1,h2,e,q⟩:=h;exact(Wh I 6 (by lia) e h1 h2 rx ry).2.2 _ X.w X.xe _ ⟨.bl<|!k,H,I,rfl,q⟩
 exact⟨_,ho,λ x y dx dy d H Q h1 h2 e k=>by
  unfold Z.pO at e;split at e
  .rename_i z hz;cases e;exact⟨dx,dy,z,h1,h2,hz,k _ H (aI.refl H) c!⟩
  .cases e⟩
theorem Kn:∀{a b},G6 a=G6 b->a=b
|.inl a,.inl b,h=>by injection h with h;rw[h]
|.inl _,.inr _,h=>by cases h
|.inr _,.inl _,h=>by cases h
|.inr a,.inr b,h=>by
 injection h with h
 injection h with h
 have:a=b:=by simpa using A11 ci h
 rw[this]
theorem xJ:∀{a b:γ _},a.map G6=b.map G6->a=b
|[],[],_=>rfl
|[],_::_,h=>by cases h
|_::_,[],h=>by cases h
|a::as,b::bs,h=>by simp only[A06,B46]at h;rw[Kn h.1,xJ h.2]
theorem FJ{a:δ}(I:Inv X χ σ H s)(hq:H a=AC (.dZ o<|.dK aS)):∃o',s.heap.get? a=AC o'/\o'.cls=.type "dict":=by
 obtain⟨_,_,_,_,_,o',es,ep,h1,h2,_⟩:=(I.bQ a _ hq)
 exact⟨o',h1,h2.1⟩
theorem Jm{a:δ}(I:Inv X χ σ H s)(h:mI X.K H a xs)(h':H a=AC (.dZ o<|.dK aS)):False:=by obtain⟨bx,r,⟨o1,e,c,n,d⟩,_⟩:=I.tuple h;obtain⟨o2,e',c'⟩:=FJ I h';rw[e]at e';cases e';rw[c]at c';injection c' with z;exact absurd z (by decide)
theorem Jn{a:δ}(I:Inv X χ σ H s)(h:ku X.K H a xs)(h':H a=AC (.dZ o<|.dK aS)):False:=by obtain⟨bx,r,⟨o1,n,e,c,_⟩,_⟩:=I.list h;obtain⟨o2,e',c'⟩:=FJ I h';rw[e]at e';cases e';rw[c]at c';injection c' with z;exact absurd z (by decide)
mutual
theorem Den.inj{χ:γ (δ×ν)}{σ:St}{H:Hp}{s:η}(I:Inv X χ σ H s):∀(d1 d2:Z.D)(v:V),Den X.K H d1 v->Den X.K H d2 v->d1=d2
|.non,d2,v,h1,h2=>by
 simp only[Den]at h1;subst h1;cases d2<;>simp only[Den]at h2<;>first|rfl|(cases h2;done)|skip
 case tup=>obtain⟨_,_,e,_⟩:=h2;cases e
 case lst=>obtain⟨_,_,e,_⟩:=h2;cases e
 case dct=>obtain⟨_,_,_,e,_⟩:=h2;cases e
|.bl b,d2,v,h1,h2=>by
 simp only[Den]at h1;subst h1;cases d2<;>simp only[Den]at h2<;>first|(injection h2 with h2;rw[h2])|(cases h2;done)|skip
 case tup=>obtain⟨_,_,e,_⟩:=h2;cases e
 case lst=>obtain⟨_,_,e,_⟩:=h2;cases e
 case dct=>obtain⟨_,_,_,e,_⟩:=h2;cases e
|.int i,d2,v,h1,h2=>by
 simp only[Den]at h1;subst h1;cases d2<;>simp only[Den]at h2<;>first|(injection h2 with h2;rw[h2])|(cases h2;done)|skip
 case tup=>obtain⟨_,_,e,_⟩:=h2;cases e
 case lst=>obtain⟨_,_,e,_⟩:=h2;cases e
 case dct=>obtain⟨_,_,_,e,_⟩:=h2;cases e
|.str cs,d2,v,h1,h2=>by
 simp only[Den]at h1;subst h1;cases d2<;>simp only[Den]at h2<;>first|(injection h2 with h2;injection h2 with h2;have:=A11 ci h2;simp at this;rw[this])|(cases h2;done)|skip
 case tup=>obtain⟨_,_,e,_⟩:=h2;cases e
 case lst=>obtain⟨_,_,e,_⟩:=h2;cases e
 case dct=>obtain⟨_,_,_,e,_⟩:=h2;cases e
|.tup ds,d2,v,h1,h2=>by
 simp only[Den]at h1;obtain⟨a,vs,rfl,q,t⟩:=h1;cases d2<;>simp only[Den]at h2
 case tup es=>obtain⟨a',Ae,e,q',t'⟩:=h2;cases e;rw[I.qy q' q]at t';rw[aG.inj I ds es vs t t']
 case lst es=>obtain⟨a',Ae,e,q',t'⟩:=h2;cases e;exact(yR I q q'.sq).elim
 case dct ks es=>obtain⟨a',o,aS,e,q',_⟩:=h2;cases e;exact(Jm I q q').elim
 all_goals cases h2
|.lst ds,d2,v,h1,h2=>by
 simp only[Den]at h1;obtain⟨a,vs,rfl,q,t⟩:=h1;cases d2<;>simp only[Den]at h2
 case lst es=>obtain⟨a',Ae,e,q',t'⟩:=h2;cases e;rw[I.pR q'.sq q.sq]at t';rw[aG.inj I ds es vs t t']
 case tup es=>obtain⟨a',Ae,e,q',t'⟩:=h2;cases e;exact(yR I q' q.sq).elim
 case dct ks es=>obtain⟨a',o,aS,e,q',_⟩:=h2;cases e;exact(Jn I q.sq q').elim
 all_goals cases h2
|.dct ks ds,d2,v,h1,h2=>by
 simp only[Den]at h1;obtain⟨a,o,aS,rfl,q,hk,t,_⟩:=h1;cases d2<;>simp only[Den]at h2
 case lst es=>obtain⟨a',Ae,e,q',t'⟩:=h2;cases e;exact(Jn I q'.sq q).elim
 case tup es=>obtain⟨a',Ae,e,q',t'⟩:=h2;cases e;exact(Jm I q' q).elim
 case dct tV es=>obtain⟨a',o',agt,e,q',hk',t',_⟩:=h2;cases e;rw[q]at q';cases q';rw[aG.inj I ds es _ t t',xJ<|hk.symm.trans hk']
 all_goals cases h2
theorem aG.inj{χ:γ (δ×ν)}{σ:St}{H:Hp}{s:η}(I:Inv X χ σ H s):∀(d1 d2:γ Z.D)(v:γ V),aG X.K H d1 v->aG X.K H d2 v->d1=d2
|[],d2,v,h1,h2=>by
 simp only[aG]at h1;subst h1;cases d2 with
 |nil=>rfl
 |cons d ds=>simp only[aG]at h2;obtain⟨_,_,e,_⟩:=h2;cases e
|d::ds,d2,v,h1,h2=>by
 simp only[aG]at h1;obtain⟨u,r,rfl,q,t⟩:=h1;cases d2 with
 |nil=>simp only[aG]at h2;cases h2
 |cons d' ds'=>simp only[aG]at h2;obtain⟨u',r',e,q',t'⟩:=h2;cases e;rw[Den.inj I d d' u q q',aG.inj I ds ds' r t t']
end
theorem vW:∀{ys}{k},Z.h! x ys=AC k->k=ys.any (λ y=>(Z.iW y x).getD AT)/\∀y∈ys,Z.iW y x=AC ((Z.iW y x).getD AT)
|[],k,h=>by cases h;exact⟨rfl,λ y hy=>by cases hy⟩
|y::ys,k,h=>by
 unfold Z.h! at h;split at h
 .rename_i a b ea eb;cases h;obtain⟨h1,h2⟩:=vW eb;refine⟨by rw[A88,ea,h1];rfl,λ z hz=>?_⟩;rcases o0.mp hz with rfl|hz
  .rw[ea];rfl
  .exact h2 z hz
 .cases h
theorem zq(I:Inv X χ σ H s)(hu:A.units+60<cLine)(hx:bJ X.K H x v)(rx:RelV v u):∀{ys}{vs}{us},aG X.K H ys vs->Vals vs us->(∀y∈ys,Z.iW y x=AC ((Z.iW y x).getD AT)) ->
 ∃e,(∀w∈us,SL A s w u (e w))/\us.any e=ys.any (λ y=>(Z.iW y x).getD AT):=by
 intro ys vs us;have key:∀{ys}{vs}{us},aG X.K H ys vs->Vals vs us->(∀y∈ys,Z.iW y x=AC ((Z.iW y x).getD AT))->(∀w∈us,∃b,SL A s w u b)/\∀e,(∀w∈us,∀y vy,Den X.K H y vy->RelV vy w->y∈ys->e w=(Z.iW y x).getD AT)->us.any e=ys.any (λ y=>(Z.iW y x).getD AT):=by
  intro ys
  induction ys with
  |nil=>intro vs us t r _;simp only[aG]at t;subst t;cases r;exact⟨λ w hw=>(by cases hw),λ _ _=>rfl⟩
  |cons y ys ih=>
   intro vs us t r hh;simp only[aG]at t;obtain⟨vy,vr,rfl,dy,tr⟩:=t;cases r with
   |cons ry rr=>
    obtain⟨h1,h2⟩:=ih tr rr (λ z hz=>hh z<|A07 _ hz);refine⟨λ w hw=>?_,λ e he=>?_⟩
    .rcases o0.mp hw with rfl|hw
     .exact⟨_,(Wh I 6 (by lia) (hh y A22) (.inl dy) hx ry rx).2.1⟩
     .exact h1 w hw
    .rw[A88,A88,he _ A22 y vy dy ry A22,h2 e λ w hw z vz dz rz hz=>he w (A07 _ hw) z vz dz rz<|A07 _ hz]
 intro t r hh
 classical
 let e:=λ w=>if h:∃y vy,Den X.K H y vy/\RelV vy w/\y∈ys then(Z.iW h.choose x).getD AT else AT
 have he:∀w y vy,Den X.K H y vy->RelV vy w->y∈ys->e w=(Z.iW y x).getD AT:=by
  intro w y vy dy ry hy;have hex:∃y vy,Den X.K H y vy/\RelV vy w/\y∈ys:=⟨y,vy,dy,ry,hy⟩
  show(if h:_ then _ else _)=_;rw[dif_pos hex];obtain⟨vy',dy',ry',Kx⟩:=hex.choose_spec;have ev:=ry'.inj ry;subst ev;rw[Den.inj I _ _ _ dy' dy]
 refine⟨e,λ w hw=>?_,(key t r hh).2 e λ w hw y vy dy ry hy=>he w y vy dy ry hy⟩;obtain⟨j,hj,ej⟩:=pi hw;have hl:=r.length;have ht:=t.length;obtain⟨y,ey⟩:∃y,ys[j]?=AC y:=⟨ys[j]'(by lia),A01 (by lia)⟩
 obtain⟨vy,QC,dy⟩:=t.get ey;obtain⟨u',eu',Wd⟩:=r.get QC;have:u'=w:=by have:=A01 hj;rw[eu',ej]at this;exact A03 this
 subst this;have hy:=A33 ey;rw[he _ y vy dy Wd hy];exact(Wh I 6 (by lia) (hh y hy) (.inl dy) hx Wd rx).2.1
theorem Sj(hu:X.A.units+64<cLine):jQ X (compareOp .In) (λ x y H Q=>∃d ys q vs k,bJ X.K H d x/\y=.ref q/\(ku X.K H q vs\/mI X.K H q vs)/\aG X.K H ys vs/\Z.h! d ys=AC k/\Q (.bl k) H):=by
 intro χ s σ H x y v u Q I rx ry h;obtain⟨d,ys,q,vs,k,hd,rfl,hq,t,e,k'⟩:=h;cases ry;obtain⟨e1,e2⟩:=vW e;subst e1;rcases hq with hq|hq
 .obtain⟨bx,r,pl,hz⟩:=I.list hq;obtain⟨f,hf,He⟩:=zq I (A:=X.A.in1) (show X.A.units+1+60<cLine by lia) hd rx t r e2;refine SeqAt.in_listAt f pl.isList (λ w hw=>hf w (by simpa using hw)) ⟨.bl _,H,I,rfl,?_⟩;rw[show bx.toArray.any f=bx.any f by simp,He];exact k'
 .obtain⟨bx,r,pl,hz⟩:=I.tuple hq;obtain⟨f,hf,He⟩:=zq I (A:=X.A.in1) (show X.A.units+1+60<cLine by lia) hd rx t r e2;refine SeqAt.in_tupleAt f pl (λ w hw=>hf w (by simpa using hw)) ⟨.bl _,H,I,rfl,?_⟩;rw[show bx.toArray.any f=bx.any f by simp,He];exact k'
theorem Gy(hu:X.A.units+64<cLine):jQ X (compareOp .NotIn) (λ x y H Q=>∃d ys q vs k,bJ X.K H d x/\y=.ref q/\(ku X.K H q vs\/mI X.K H q vs)/\aG X.K H ys vs/\Z.h! d ys=AC k/\Q (.bl<|!k) H):=by
 intro χ s σ H x y v u Q I rx ry h;obtain⟨d,ys,q,vs,k,hd,rfl,hq,t,e,k'⟩:=h;cases ry;obtain⟨e1,e2⟩:=vW e;subst e1;rcases hq with hq|hq
 .obtain⟨bx,r,pl,hz⟩:=I.list hq;obtain⟨f,hf,He⟩:=zq I (A:=X.A.in1) (show X.A.units+1+60<cLine by lia) hd rx t r e2;refine SeqAt.notIn_listAt f pl.isList (λ w hw=>hf w (by simpa using hw)) ⟨.bl _,H,I,rfl,?_⟩;rw[show bx.toArray.any f=bx.any f by simp,He];exact k'
 .obtain⟨bx,r,pl,hz⟩:=I.tuple hq;obtain⟨f,hf,He⟩:=zq I (A:=X.A.in1) (show X.A.units+1+60<cLine by lia) hd rx t r e2;refine SeqAt.notIn_tupleAt f pl (λ w hw=>hf w (by simpa using hw)) ⟨.bl _,H,I,rfl,?_⟩;rw[show bx.toArray.any f=bx.any f by simp,He];exact k'
theorem Uq(hu:X.A.units+64<cLine):Co X .In Z.Dj:=⟨_,Sj hu,λ x y dx dy d H Q h1 h2 e k=>by
 unfold Z.Dj at e;split at e
 .split at e
  .rename_i b hb;cases e;obtain⟨q,vs,rfl,hq,t⟩:=h2.tup;exact⟨dx,_,q,vs,b,h1,rfl,.inr hq,t,hb,k _ H (aI.refl H) c!⟩
  .cases e
 .split at e
  .rename_i b hb;cases e;obtain⟨q,vs,rfl,hq,t⟩:=h2.lst;exact⟨dx,_,q,vs,b,h1,rfl,.inl hq,t,hb,k _ H (aI.refl H) c!⟩
  .cases e
 .cases e⟩
theorem zR(hu:X.A.units+64<cLine):Co X .NotIn Z.mh:=⟨_,Gy hu,λ x y dx dy d H Q h1 h2 e k=>by
 unfold Z.mh at e;split at e
 .split at e
  .rename_i b hb;cases e;obtain⟨q,vs,rfl,hq,t⟩:=h2.tup;exact⟨dx,_,q,vs,b,h1,rfl,.inr hq,t,hb,k _ H (aI.refl H) c!⟩
  .cases e
 .split at e
  .rename_i b hb;cases e;obtain⟨q,vs,rfl,hq,t⟩:=h2.lst;exact⟨dx,_,q,vs,b,h1,rfl,.inl hq,t,hb,k _ H (aI.refl H) c!⟩
  .cases e
 .cases e⟩
theorem FT:∀{xs}{k},Z.allB xs=AC k->∃bs:γ Bool,xs=bs.map Z.D.bl/\k=bs.all id
|[],k,h=>by cases h;exact⟨[],rfl,rfl⟩
|x::xs,k,h=>by
 cases x with
 |bl b=>
  have h':(Z.allB xs).map _=AC k:=h;cases q:Z.allB xs with
  |none=>rw[q]at h';cases h'
  |some k'=>rw[q]at h';cases h';obtain⟨bs,rfl,rfl⟩:=FT q;exact⟨b::bs,rfl,rfl⟩
 |non=>cases h
 |int _=>cases h
 |str _=>cases h
 |tup _=>cases h
 |lst _=>cases h
 |dct _ _=>cases h
theorem BY{K:Do}:∀{bs:γ Bool}{vs},aG K H (bs.map Z.D.bl) vs->vs=bs.map V.bl
|[],vs,h=>by simp only[A78]at h;subst h;rfl
|b::bs,vs,h=>by simp only[A06]at h;obtain⟨v,r,rfl,hv,ht⟩:=h;simp only[Den]at hv;rw[hv,BY ht];rfl
theorem all_range(bs:γ Bool):((FB bs.length).all λ i=>bs[i]?.getD Da)=bs.all id:=by
 induction bs with
 |nil=>rfl
 |cons b bs ih=>
  rw[A24,C20,B45,List.all_map,B45];have:((λ i=>((b::bs)[i]?).getD Da)∘Nat.succ)=λ i=>bs[i]?.getD Da:=by funext i;simp
  rw[this,ih];simp
theorem HD(hc:X.calm=Da):i' X (.builtin "all") (λ xs H Q=>∃(q:δ)(bs:γ Bool),xs=[.ref q]/\ku X.K H q (bs.map V.bl)/\Q (.bl<|bs.all id) H):=by
 intro χ s σ H xs us Q I r h;obtain⟨q,bs,rfl,hq,k⟩:=h;obtain⟨u,rfl,ru⟩:=vals1 r;cases ru;obtain⟨bx,rv,pl,hz⟩:=I.list hq;have hl:=rv.length;rw[A09]at hl;have rf:q<s.heap.objs.size:=by obtain⟨_,e,_⟩:=pl.isList;exact A02 e
 have hh:X.A.in1.handled=Ch:=I.ok.hd hc;refine call_all_walk<|B18 pl.isList ?_;refine⟨_,[s.heap.objs.size,q],[s.heap.objs.size],_,_,_,λ i=>bs[i]?.getD Da,rfl,Walks.list hh _ q (A17 rf) _,⟨⟨_,A13 _ rfl,rfl,rfl⟩,pl.isList.push _⟩,?_,λ h' tk hk=>?_⟩
 .intro i v s' Q' E' hv hQ;have hi:bx[i]?=AC v:=by simpa using hv
  obtain⟨hi1,_⟩:=A10.mp hi;have hb:(bs.map V.bl)[i]?=AC (V.bl<|bs[i]'(by lia)):=by rw[A04,A01];rfl
  obtain⟨u,hu,ru⟩:=rv.get hb;rw[hi]at hu;cases hu;cases ru;refine A55 ?_;have:bs[i]?.getD Da=bs[i]'(by lia):=by rw[A01];rfl
  rw[<-this];exact hQ
 .have I1:Inv X χ σ H {s with heap:=s.heap.push {cls:=.type "list_iterator",data:=.fields #[.ref q,.int 0 0]}}:=I.kept λ b o e=>A00 _ e;obtain⟨f0,f1,f2,f3,f4,f5⟩:=I.vw (M2 s.heap.objs.size) I.fresh;have I2:=I1.turned (t':=tk) (λ b o hb e=>hk b o (by simpa using hb) e) f0 f1 f3 f4 f5;refine⟨.bl _,H,I2,rfl,?_⟩;have e:(FB bx.toArray.size).all (λ i=>bs[i]?.getD Da)=bs.all id:=by rw[A05,<-hl,all_range]
  rw[e];exact k
theorem _root_.ZQ.hJ(hm:X.mg x=Ch)(ha:ZQ.QW X a fa)(hc:X.calm=Da:=by rfl)(hn:x≠ "__name__":=by decide +kernel)(ir:(x == ("__debug__"))=AT:=by decide +kernel)(he:Se a [] X.env:=by rfl)(dX:Pn pos [] X.env:=by rfl)(hg:Gl X x:=by rfl)(hv:bootBuiltins x=AC (.builtin "all"):=by kernel_rfl):ZQ.QE X (.Call (.Name x p1) [a] [] pos) (Z.eU Z.fP fa):=
 ⟨PE.imp (ju (HD hc) hg hm hv (a7 ha.p b9 he) hn ir he dX) λ σ H Q ⟨ρ,d,r,e,k⟩=>by
  obtain⟨x,ea,e⟩:=bd e;refine⟨ρ,x,r,ea,λ v H1 s1 d1=>?_⟩;unfold Z.fP at e;split at e
  .split at e
   .rename_i xs k' hk;cases e;obtain⟨bs,rfl,rfl⟩:=FT hk;obtain⟨q,vs,rfl,hq,t⟩:=d1.lst;rw[BY t]at hq;exact⟨q,bs,rfl,hq,k _ H1 s1 c!⟩
   .cases e
  .cases e⟩
end
theorem _root_.ZQ.aj(ha:ZQ.QE X (.Constant v j p) f)(hr:ZQ.QA X es g):ZQ.QA X ((.Constant v j p)::es) (Z.aa f g):=⟨iH ha.p hr.p rfl⟩
theorem _root_.ZQ.ao(ha:ZQ.QE X (.Name x p) f)(hr:ZQ.QA X es g):ZQ.QA X ((.Name x p)::es) (Z.aa f g):=⟨iH ha.p hr.p rfl⟩
theorem _root_.ZQ.jl(ha:ZQ.QE X (.Tuple xs j p) f)(hr:ZQ.QA X es g):ZQ.QA X ((.Tuple xs j p)::es) (Z.aa f g):=⟨iH ha.p hr.p rfl⟩
theorem _root_.ZQ.Lz(ha:ZQ.QE X (.List xs p) f)(hr:ZQ.QA X es g):ZQ.QA X ((.List xs p)::es) (Z.aa f g):=⟨iH ha.p hr.p rfl⟩
theorem _root_.ZQ.aQ(ha:ZQ.QE X (.BinOp x o y p) f)(hr:ZQ.QA X es g):ZQ.QA X ((.BinOp x o y p)::es) (Z.aa f g):=⟨iH ha.p hr.p rfl⟩
theorem _root_.ZQ.bc(ha:ZQ.QE X (.Call x xs ks p) f)(hr:ZQ.QA X es g):ZQ.QA X ((.Call x xs ks p)::es) (Z.aa f g):=⟨iH ha.p hr.p rfl⟩
theorem _root_.ZQ.bp(ha:ZQ.QE X (.Subscript x y p) f)(hr:ZQ.QA X es g):ZQ.QA X ((.Subscript x y p)::es) (Z.aa f g):=⟨iH ha.p hr.p rfl⟩
theorem _root_.ZQ.Ue(ha:ZQ.QE X (.UnaryOp o x p) f)(hr:ZQ.QA X es g):ZQ.QA X ((.UnaryOp o x p)::es) (Z.aa f g):=⟨iH ha.p hr.p rfl⟩
theorem _root_.ZQ.LC(ha:ZQ.QE X (.Dict ks vs p) f)(hr:ZQ.QA X es g):ZQ.QA X ((.Dict ks vs p)::es) (Z.aa f g):=⟨iH ha.p hr.p rfl⟩
theorem _root_.ZQ.hU(ha:ZQ.QE X (.Attribute x n p) f)(hr:ZQ.QA X es g):ZQ.QA X ((.Attribute x n p)::es) (Z.aa f g):=⟨iH ha.p hr.p rfl⟩
end ZS
namespace ZQ
open L2 ZS
theorem _root_.ZS.K0(h1:sc.kind=.function:=by rfl)(h2:sc.isCoroutine=AT:=by rfl)(h3:sc.isGenerator=AT:=by rfl)(h4:N.Nodup:=by decide +kernel)(h5:N.take P.length=P:=by rfl)(h6:∀x∈P,sc.names.lookup x=AC .local\/sc.names.lookup x=AC .cell:=by decide +kernel)(h7:∀y∈sc.names,y.2≠.free:=by decide +kernel):a_ N P sc:=⟨h1,h2,h3,h4,h5,h6,h7⟩
theorem bK{K:Do}{st:θ}(d:ZS.Def K mg x st ps)(hb:∀{f}{a!}{A}{outer}{s}{H}{E},N.Nodup->(A.deeper<|envOfC x (ah st) s.heap.objs.size f a!).units+64<cLine->bB k (A.deeper<|envOfC x (ah st) s.heap.objs.size f a!)->z! (dO jn P w K mg base N x (ah st) f a! A outer s H E).f_ H (aM st) b)(S:a_ N ps (ah st):=by exact ZS.K0):ZS.iG P w K mg base x (k+1) ps (Z.fn ps.length N.length b):=ZS.iG.mk' d S λ f a! A outer s H E hr=>(hb S.nd hr.units hr).p
theorem acL{K:Do}{st:θ}(F:Ez K x qual st f fd)(hb:∀{a!}{A}{outer}{s}{H}{E},N.Nodup->(A.deeper<|envOfC qual (ah st) s.heap.objs.size f a!).units+64<cLine->bB k (A.deeper<|envOfC qual (ah st) s.heap.objs.size f a!)->z! (dO jn P w K mg base N qual (ah st) f a! A outer s H E).f_ H (aM st) b)(S:a_ N ps (ah st):=by exact ZS.K0):e6 P w K mg base jn (k+1) f fd ps (ZS.Ci K<|Z.fn ps.length N.length b):=ZS.fnZ F S λ a! A outer s H E hr=>(hb S.nd hr.units hr).p
end ZQ
namespace Z
def jw:D->Res D
|.lst xs=>.ok<|.tup xs
|.tup xs=>.ok<|.tup xs
|_=>.bad
@[simp] theorem Sr(xs:γ D):jw (.lst xs)=.ok (.tup xs):=rfl
@[simp] theorem Sq(xs:γ D):jw (.tup xs)=.ok (.tup xs):=rfl
def a9:γ Nat:=[97,98,99,100,101,102,103,104,105,106,107,108,109,110,111,112,113,114,115,116,117,118,119,120,121,122]
def signs:γ Nat:=[46,61,35,97,98,99,100,101,102,103,104,105,106,107,108,109,110,111,112,113,114,115,116,117,118,119,120,121,122]
def Ny:D->D->Res D
|.int i,.int j=>.ok<|.int<|max i j
|_,_=>.bad
@[simp] theorem WX(i j:Int):Ny (.int i) (.int j)=.ok (.int<|max i j):=rfl
def Di:D->Res D
|.int i=>.ok<|.int i
|.bl b=>.ok<|.int<|if b then 1 else 0
|_=>.bad
@[simp] theorem W4(i:Int):Di (.int i)=.ok (.int i):=rfl
@[simp] theorem ZY(b:Bool):Di (.bl b)=.ok (.int<|if b then 1 else 0):=rfl
def vN(x:D):γ D->ε Nat
|[]=>AC 0
|y::r=>match iW y x,vN x r with
 |some a,AC b=>AC<|b+(if a then 1 else 0)
 |_,_=>Ch
def y_:D->D->Res D
|.lst ys,x=>match vN x ys with
 |some n=>.ok<|.int n
 |none=>.bad
|_,_=>.bad
def AN:γ D->ε Int
|[]=>AC 0
|.int i::r=>(AN r).map (i+·)
|_::_=>Ch
def JM:D->Res D
|.lst xs=>match AN xs with
 |some i=>.ok<|.int i
 |none=>.bad
|_=>.bad
theorem xp:∀(ns:γ Int),AN (ns.map D.int)=AC ns.sum
|[]=>rfl
|n::ns=>by simp[AN,xp ns]
def sG(i:Nat)(l:LF)(ρ:Env):Res Fl:=(l ρ).bind λ ys=>match ρ[i]? with
|some<|some<|.own xs=>guard (xs.length+ys.length<=line)<|.ok<|.nx<|ρ.set i<|some<|.own<|xs++ys
|_=>.bad
def pair(a b:D):D:=.tup [a,b]
def kL(k:Nat):γ D->γ D
|[]=>[]
|d::ds=>pair (.int k) d::kL (k+1) ds
def jo:γ D->γ D->γ D
|a::as,b::bs=>pair a b::jo as bs
|_,_=>[]
def xP(a:EF)(ρ:Env):Res (γ D):=(a ρ).bind λ x=>(lU x).bind λ ds=>.ok<|kL 0 ds
@[simp] theorem _l(a:EF)(ρ:Env):xP a ρ=(a ρ).bind λ x=>(lU x).bind λ ds=>.ok (kL 0 ds):=rfl
def M1:D->Res (γ D)
|.tup xs=>.ok xs
|.lst xs=>.ok xs
|_=>.bad
@[simp] theorem V7(xs:γ D):M1 (.tup xs)=.ok xs:=rfl
@[simp] theorem V8(xs:γ D):M1 (.lst xs)=.ok xs:=rfl
def Rl:D->Res (γ D)
|.tup xs=>.ok xs
|_=>.bad
@[simp] theorem VG(xs:γ D):Rl (.tup xs)=.ok xs:=rfl
def Kv(a b:EF)(ρ:Env):Res (γ D):=(a ρ).bind λ x=>(b ρ).bind λ y=>(M1 x).bind λ xs=>(Rl y).bind λ ys=>.ok<|jo xs ys
@[simp] theorem abB(a b:EF)(ρ:Env):Kv a b ρ=(a ρ).bind λ x=>(b ρ).bind λ y=>(M1 x).bind λ xs=>(Rl y).bind λ ys=>.ok (jo xs ys):=rfl
end Z
namespace ZS
open L2
section
variable{X:Cx}
theorem _root_.ZQ.kN(hm:X.mg x=Ch)(ha:ZQ.QW X a fa)(hn:x≠ "__name__":=by decide +kernel)(ir:(x==("__debug__"))=AT:=by decide +kernel)(he:Se a [] X.env:=by rfl)(dX:Pn pos [] X.env:=by rfl)(hg:Gl X x:=by rfl)(hv:bootBuiltins x=AC (.type "tuple"):=by kernel_rfl):ZQ.QE X (.Call (.Name x p1) [a] [] pos) (Z.eU Z.jw fa):=
 ⟨PE.imp (mT w_ hg hm hv (a7 ha.p b9 he) hn ir he dX) λ σ H Q ⟨ρ,d,r,e,k⟩=>by
  obtain⟨x,ea,e⟩:=bd e;refine⟨ρ,x,r,ea,λ v H1 s1 d1=>?_⟩;unfold Z.jw at e;split at e
  .cases e;obtain⟨q,vs,rfl,hq,t⟩:=d1.lst;refine⟨q,vs,rfl,.inl ⟨hq,λ l hl=>?_⟩⟩;have s2:aI H1 (upd H1 l<|.tup vs):=bP hl;exact k _ _ (s1.trans s2)<|fG (.inl<|.inl aV)<|t.up s2
  .cases e;obtain⟨q,vs,rfl,hq,t⟩:=d1.tup;exact⟨q,vs,rfl,.inr ⟨hq,k _ H1 s1<|fG hq t⟩⟩
  .cases e⟩
end
end ZS
namespace ZQ
open L2 ZS
theorem zI(ho:PE X o (l7 i))(ha:QE X a fa)(hs:swapsWith (.Call (.Attribute o "append" p1) [a] [] p2) Ch pos.line X.env=pure AT:=by rfl)(nO:Se a [] X.env:=by rfl)
 (jE:attributeBase o "append" X.env (eval o X.env)=eval o X.env:=by rfl)
 (oO:((backTo p2<|starEach (a::[]) X.env).all (λ x=>!x.1)&&(backToKw p2<|keywordEach [] X.env).all (λ x=>x.1.isSome)
  && decide ((a::[]).length+([]:γ π).length+(if([]:γ π).isEmpty then 0 else 1)<30))=Da:=by rfl)
 (jD:(p1.endLine==p2.line)=Da:=by rfl) (gj:Pn p2 [] X.env:=by rfl) :
 QS X H0 (.Expr (.Call (.Attribute o "append" p1) [a] [] p2) pos) (Z.i! i fa):=
 ⟨ZS.Hr ho ha.p hs nO<|uD B88 PySem.F.slot_list_append PySem.F.type_list_append xG ho (a7 ha.p b9 nO) jE oO jD nO gj⟩
end ZQ
namespace ZS
open L2
section
variable{X:Cx}
theorem SN(i j:Int):(if j>i then j else i)=max i j:=by split<;>lia
theorem _root_.ZQ.O6(hg:Gl X x)(hm:X.mg x=Ch)(hv:bootBuiltins x=AC (.builtin "max"))(ha:ZQ.QW X a fa)(hb:ZQ.QW X b fb)(hc:X.calm=Da:=by rfl)(hn:x≠ "__name__":=by decide +kernel)(ir:(x==("__debug__"))=AT:=by decide +kernel)
 (he:Se a [b] X.env:=by rfl) (Mg:Se b [] X.env:=by rfl) (dX:(backTo pos<|starEach [b] X.env).any (·.1)=AT:=by rfl):ZQ.QE X (.Call (.Name x p1) [a,b] [] pos) (Z.eB Z.Ny fa fb):=
 ⟨PE.imp (ju (HA hc) hg hm hv (a7 ha.p (a7 hb.p b9 Mg) he) hn ir he dX) λ σ H Q ⟨ρ,d,r,e,k⟩=>by
  obtain⟨x,ea,e⟩:=bd e;obtain⟨y,eb,e⟩:=bd e;refine⟨ρ,x,r,ea,λ v H1 s1 d1=>⟨ρ,y,r.up s1,eb,λ u H2 s2 d2=>?_⟩⟩;obtain⟨i,j,rfl,rfl,rfl⟩:∃i j,x=.int i/\y=.int j/\d=.int (max i j):=by
   unfold Z.Ny at e;split at e
   .cases e;exact⟨_,_,rfl,rfl,rfl⟩
   .cases e
  refine⟨i,j,by rw[d1.int,d2.int],?_⟩;rw[SN];exact k _ H2 (s1.trans s2) cO⟩
theorem _root_.ZQ.O8(hg:Gl X x)(hm:X.mg x=Ch)(hv:bootBuiltins x=AC (.type "int"))(ha:ZQ.QW X a fa)(hn:x≠ "__name__":=by decide +kernel)(ir:(x==("__debug__"))=AT:=by decide +kernel)
 (he:Se a [] X.env:=by rfl) (dX:Pn pos [] X.env:=by rfl):ZQ.QE X (.Call (.Name x p1) [a] [] pos) (Z.eU Z.Di fa):=
 ⟨PE.imp (mT HC hg hm hv (a7 ha.p b9 he) hn ir he dX) λ σ H Q ⟨ρ,d,r,e,k⟩=>by
  obtain⟨x,ea,e⟩:=bd e;refine⟨ρ,x,r,ea,λ v H1 s1 d1=>?_⟩;unfold Z.Di at e;split at e
  .cases e;exact .inl ⟨_,by rw[d1.int],k _ H1 s1 cO⟩
  .cases e;exact .inr ⟨_,by rw[d1.bl],k _ H1 s1 cO⟩
  .cases e⟩
theorem Hq(hs:swapsWith (.Call (.Attribute o "extend" p1) [a] [] p2) Ch pos.line X.env=pure AT:=by rfl)
 (hbm:PE X (.Call (.Attribute o "extend" p1) [a] [] p2) (tBM X.K "list" EY (l7 i)<|AM (tZl X.K l) IQ)) :
 DS X H0 (.Expr (.Call (.Attribute o "extend" p1) [a] [] p2) pos) (Z.sG i l):=PS.imp (pI hbm hs) λ D σ H ⟨ρ,fl,rs,e,k⟩=>by
 obtain⟨ys,ea,e⟩:=bd e;split at e
 .rename_i xs ei;unfold Z.guard at e;split at e
  .rename_i hl;cases e;obtain⟨v,si,q,us,rfl,hq,t⟩:=rs.re.get i _ ei;refine⟨_,si,.inl ⟨rfl,us,ku.of hq⟩,ρ,ys,rs.re,ea,λ c vs H1 s1 hn hc tc=>?_⟩;have Tn:=s1 _ _ hq;refine⟨q,c,us,vs,rfl,rfl,Tn,hc,by rw[t.length,tc.length,A27];exact hl,?_⟩;exact k σ _ ((l! s1).trans<|jS Tn)<|(rs.up s1).chg ei si Tn<|(t.up s1).append tc
  .cases e
 .cases e
theorem B6:∀{ys}{k},Z.vN x ys=AC k->k=ys.countP (λ y=>(Z.iW y x).getD AT)/\∀y∈ys,Z.iW y x=AC ((Z.iW y x).getD AT)
|[],k,h=>by cases h;exact⟨rfl,λ y hy=>by cases hy⟩
|y::ys,k,h=>by
 unfold Z.vN at h;split at h
 .rename_i a b ea eb;cases h;obtain⟨h1,h2⟩:=B6 eb;refine⟨by rw[B48,ea,h1];rfl,λ z hz=>?_⟩;rcases o0.mp hz with rfl|hz
  .rw[ea];rfl
  .exact h2 z hz
 .cases h
theorem Pc(I:Inv X χ σ H s)(hu:A.units+60<cLine)(hx:bJ X.K H x v)(rx:RelV v u)(t:aG X.K H ys vs)(r:Vals vs us)(hh:∀y∈ys,Z.iW y x=AC ((Z.iW y x).getD AT)):
 ∃e,(∀w∈us,SL A s w u (e w))/\us.countP e=ys.countP (λ y=>(Z.iW y x).getD AT):=by
 classical
 let e:=λ w=>if h:∃y vy,Den X.K H y vy/\RelV vy w/\y∈ys then(Z.iW h.choose x).getD AT else AT
 have he:∀w y vy,Den X.K H y vy->RelV vy w->y∈ys->e w=(Z.iW y x).getD AT:=by
  intro w y vy dy ry hy;have hex:∃y vy,Den X.K H y vy/\RelV vy w/\y∈ys:=⟨y,vy,dy,ry,hy⟩
  show(if h:_ then _ else _)=_;rw[dif_pos hex];obtain⟨vy',dy',ry',Kx⟩:=hex.choose_spec;have ev:=ry'.inj ry;subst ev;rw[Den.inj I _ _ _ dy' dy]
 have cnt:∀{zs}{vs}{us},aG X.K H zs vs->Vals vs us->(∀z∈zs,z∈ys)->us.countP e=zs.countP (λ y=>(Z.iW y x).getD AT):=by
  intro zs
  induction zs with
  |nil=>intro vs us t r _;simp only[aG]at t;subst t;cases r;rfl
  |cons z zs ih=>
   intro vs us t r hm;simp only[aG]at t;obtain⟨vy,vr,rfl,dy,tr⟩:=t;cases r with
   |cons ry rr=>rw[B48,B48,ih tr rr λ w hw=>hm w<|A07 _ hw,he _ z vy dy ry<|hm z A22]
 refine⟨e,λ w hw=>?_,cnt t r λ _ h=>h⟩;obtain⟨j,hj,ej⟩:=pi hw;have hl:=r.length;have ht:=t.length;obtain⟨y,ey⟩:∃y,ys[j]?=AC y:=⟨ys[j]'(by lia),A01 (by lia)⟩
 obtain⟨vy,QC,dy⟩:=t.get ey;obtain⟨u',eu',Wd⟩:=r.get QC;have:u'=w:=by have:=A01 hj;rw[eu',ej]at this;exact A03 this
 subst this;have hy:=A33 ey;rw[he _ y vy dy Wd hy];exact(Wh I 6 (by lia) (hh y hy) (.inl dy) hx Wd rx).2.1
def RV(K:Do):V->γ V->Hp->VK->Prop:=λ x vs H Q=>∃d ys q us v k,x=.ref q/\vs=[v]/\ku K H q us/\aG K H ys us/\bJ K H d v/\Z.vN d ys=AC k/\Q (.int k) H
theorem J3(hu:X.A.units+64<cLine):LY X "list.count" (RV X.K):=by intro χ s σ H x vs v us Q I rx rv h;obtain⟨d,ys,q,us',v',k,rfl,rfl,hq,t,hd,e,k'⟩:=h;cases rx;obtain⟨u,rfl,ru⟩:=rv.one;obtain⟨e1,e2⟩:=B6 e;subst e1;obtain⟨bx,r,pl,hz⟩:=I.list hq;obtain⟨f,hf,He⟩:=Pc I (A:=X.A.in1) (show X.A.units+1+60<cLine by lia) hd ru t r e2;obtain⟨⟨cls,dd,data,sl⟩,ho,hc,n,s?⟩:=id pl.isList;simp only at hc s?;subst hc s?;refine A53 F.slot_list_count ⟨_,ho,rfl⟩ F.entry_list_count (F.args_list_count_2 _ _) (SeqAt.list_countAt q _ n dd sl u f) ⟨ho,λ w hw=>hf w (by simpa using hw),?_⟩;refine⟨.int _,H,I.tok _,⟨_,rfl⟩,?_⟩;rw[He];exact k'
theorem _root_.ZQ.Lw(hu:X.A.units+64<cLine)(ho:ZQ.QW X o fa)(hb:ZQ.QW X b fb)
 (jE:attributeBase o "count" X.env (eval o X.env)=eval o X.env:=by rfl)
 (oO:((backTo p2<|starEach (b::[]) X.env).all (λ x=>!x.1)&&(backToKw p2<|keywordEach [] X.env).all (λ x=>x.1.isSome)
  && decide ((b::[]).length+([]:γ π).length+(if([]:γ π).isEmpty then 0 else 1)<30))=Da:=by rfl)
 (jD:(p1.endLine==p2.line)=Da:=by rfl) (nO:Se b [] X.env:=by rfl) (gj:Pn p2 [] X.env:=by rfl) :
 ZQ.QE X (.Call (.Attribute o "count" p1) [b] [] p2) (Z.eB Z.y_ fa fb):=
 ⟨PE.imp (uD B88 PySem.F.slot_list_count PySem.F.type_list_count (J3 hu) ho.p (a7 hb.p b9 nO) jE oO jD nO gj) λ σ H Q ⟨ρ,d,r,e,k⟩=>by
  obtain⟨x,ea,e⟩:=bd e;obtain⟨y,eb,e⟩:=bd e;refine⟨ρ,x,r,ea,λ v H1 s1 d1=>?_⟩;unfold Z.y_ at e;split at e
  .rename_i ys _;split at e
   .rename_i n hn;cases e;obtain⟨q,vs,rfl,hq,t⟩:=d1.lst;refine⟨.inl ⟨rfl,vs,hq⟩,ρ,y,r.up s1,eb,λ u H2 s2 d2=>?_⟩;exact⟨y,ys,q,vs,u,n,rfl,rfl,s2.seq hq,t.up s2,d2,hn,k _ H2 (s1.trans s2) cO⟩
   .cases e
  .cases e⟩
theorem ET:∀{xs}{k},Z.AN xs=AC k->∃ns:γ Int,xs=ns.map Z.D.int/\k=ns.sum
|[],k,h=>by cases h;exact⟨[],rfl,rfl⟩
|x::xs,k,h=>by
 cases x with
 |int b=>
  have h':(Z.AN xs).map _=AC k:=h;cases q:Z.AN xs with
  |none=>rw[q]at h';cases h'
  |some k'=>rw[q]at h';cases h';obtain⟨bs,rfl,rfl⟩:=ET q;exact⟨b::bs,rfl,rfl⟩
 |non=>cases h
 |bl _=>cases h
 |str _=>cases h
 |tup _=>cases h
 |lst _=>cases h
 |dct _ _=>cases h
theorem x_{K:Do}:∀{ns:γ Int}{vs},aG K H (ns.map Z.D.int) vs->vs=ns.map V.int
|[],vs,h=>by simp only[A78]at h;subst h;rfl
|b::bs,vs,h=>by simp only[A06]at h;obtain⟨v,r,rfl,hv,ht⟩:=h;simp only[Den]at hv;rw[hv,x_ ht];rfl
theorem M9(ns:γ Int):preSum (λ i=>ns[i]?.getD 0) ns.length=ns.sum:=by
 have key:∀k,k<=ns.length->preSum (λ i=>ns[i]?.getD 0) k=(ns.take k).sum:=by
  intro k
  induction k with
  |zero=>intro _;simp[preSum]
  |succ k ih=>
   intro hk;have e:preSum (λ i=>ns[i]?.getD 0) (k+1)=preSum (λ i=>ns[i]?.getD 0) k+ns[k]?.getD 0:=rfl;have abJ:∀(xs ys:γ Int),(xs++ys).sum=xs.sum+ys.sum:=λ xs ys=>by
    induction xs with
    |nil=>simp
    |cons x xs ih=>simp only[B21,AD7];lia
   rw[e,ih (by lia),B89,abJ,A01<|show k<ns.length by lia];simp
 have:=key _<|M2 _;rwa [B22]at this
theorem Hy(hc:X.calm=Da):i' X (.builtin "sum") (λ xs H Q=>∃(q:δ)(ns:γ Int),xs=[.ref q]/\ku X.K H q (ns.map V.int)/\Q (.int ns.sum) H):=by
 intro χ s σ H xs us Q I r h;obtain⟨q,ns,rfl,hq,k⟩:=h;obtain⟨u,rfl,ru⟩:=vals1 r;cases ru;obtain⟨bx,rv,pl,hz⟩:=I.list hq;have hl:=rv.length;rw[A09]at hl;have rf:q<s.heap.objs.size:=by obtain⟨_,e,_⟩:=pl.isList;exact A02 e
 have hh:X.A.in1.handled=Ch:=I.ok.hd hc;refine call_sum_walkG<|B18 pl.isList ?_;refine⟨s.heap.objs.size,[s.heap.objs.size,q],[s.heap.objs.size],bx.toArray.size,_,_,λ i=>ns[i]?.getD 0,rfl,Walks.list hh s.heap.objs.size q (A17 rf) bx.toArray,⟨⟨_,A13 _ rfl,rfl,rfl⟩,pl.isList.push _⟩,?_,?_,λ h' tk t' hk=>?_⟩
 .intro b hb;rw[A51];rcases o0.mp hb with rfl|hb
  .exact A61 _
  .rw[A15.mp hb];exact B85 rf
 .intro i v hv;have hi:bx[i]?=AC v:=by simpa using hv
  obtain⟨hi1,_⟩:=A10.mp hi;have hb:(ns.map V.int)[i]?=AC (V.int<|ns[i]'(by lia)):=by rw[A04,A01];rfl
  obtain⟨u,hu,ru⟩:=rv.get hb;rw[hi]at hu;cases hu;obtain⟨t,rfl⟩:=ru;exact⟨t,by show Value.int _ t=Value.int (ns[i]?.getD 0) t;rw[A01];rfl⟩
 .have I1:Inv X χ σ H {s with heap:=s.heap.push {cls:=.type "list_iterator",data:=.fields #[.ref q,.int 0 0]}}:=I.kept λ b o e=>A00 _ e;obtain⟨f0,f1,f2,f3,f4,f5⟩:=I.vw (M2 s.heap.objs.size) I.fresh;have I2:=I1.turned (t':=tk) (λ b o hb e=>hk b o (by simpa using hb) e) f0 f1 f3 f4 f5;refine⟨.int _,H,I2,⟨t',rfl⟩,?_⟩;rw[A05,<-hl,M9];exact k
theorem _root_.ZQ.FI(hm:X.mg x=Ch)(ha:ZQ.QW X a fa)(hc:X.calm=Da:=by rfl)(hn:x≠ "__name__":=by decide +kernel)(ir:(x == ("__debug__"))=AT:=by decide +kernel)(he:Se a [] X.env:=by rfl)(dX:Pn pos [] X.env:=by rfl)(hg:Gl X x:=by rfl)(hv:bootBuiltins x=AC (.builtin "sum"):=by kernel_rfl):ZQ.QE X (.Call (.Name x p1) [a] [] pos) (Z.eU Z.JM fa):=
 ⟨PE.imp (ju (Hy hc) hg hm hv (a7 ha.p b9 he) hn ir he dX) λ σ H Q ⟨ρ,d,r,e,k⟩=>by
  obtain⟨x,ea,e⟩:=bd e;refine⟨ρ,x,r,ea,λ v H1 s1 d1=>?_⟩;unfold Z.JM at e;split at e
  .split at e
   .rename_i xs k' hk;cases e;obtain⟨bs,rfl,rfl⟩:=ET hk;obtain⟨q,vs,rfl,hq,t⟩:=d1.lst;rw[x_ t]at hq;exact⟨q,bs,rfl,hq,k _ H1 s1 cO⟩
   .cases e
  .cases e⟩
end
end ZS
namespace ZQ
open L2 ZS
theorem rq(ho:PE X o (l7 i))(ha:QL X a l)(hs:swapsWith (.Call (.Attribute o "extend" p1) [a] [] p2) Ch pos.line X.env=pure AT:=by rfl)(nO:Se a [] X.env:=by rfl)
 (jE:attributeBase o "extend" X.env (eval o X.env)=eval o X.env:=by rfl)
 (oO:((backTo p2<|starEach (a::[]) X.env).all (λ x=>!x.1)&&(backToKw p2<|keywordEach [] X.env).all (λ x=>x.1.isSome)
  && decide ((a::[]).length+([]:γ π).length+(if([]:γ π).isEmpty then 0 else 1)<30))=Da:=by rfl)
 (jD:(p1.endLine==p2.line)=Da:=by rfl) (gj:Pn p2 [] X.env:=by rfl) :
 QS X H0 (.Expr (.Call (.Attribute o "extend" p1) [a] [] p2) pos) (Z.sG i l):=
 ⟨ZS.Hq hs<|uD B88 PySem.F.slot_list_extend PySem.F.type_list_extend GV ho (a7 ha.p b9 nO) jE oO jD nO gj⟩
end ZQ
namespace ZS
open L2 PySem.W
theorem rM:∀{ns:γ Int},i∈ns->WF (.int i)<=UV (ns.map WData.int)
|[],h=>by cases h
|n::ns,h=>by
 rcases o0.mp h with rfl|h
 .simp only[A06,UV];lia
 .have:=rM h;simp only[A06,UV];lia
theorem Ca{ns:γ Int}(h:WData.layableAll [WData.list (ns.map WData.int)]=Da):∀i∈ns,Z.bits i<=2^20:=by
 intro i hi;have h1:=A28.mp h _ A22;unfold WData.layable at h1;rw[A35]at h1;have h3:WF (.list<|ns.map WData.int)=UV (ns.map WData.int):=by simp only[WF]
 have h4:=rM hi;have h5:WF (.int i)=Z.bits i:=by
  simp only[WF];unfold Z.bits;by_cases hz:i=0
  .subst hz;rfl
  .rw[v6 hz,v6 (by simpa using hz)]
 lia
def L5(q:ο)(K:Frag):Prop:=noTabs K=Da/\(∀x∈dC,∀c P,tabIn K x=AC (c,P)->∃d,(recsOf q).find? (λ e=>e.name==x)=AC d) /\
 ∀x y c P c',x∈dC->y∈dC->tabIn K x=AC (c,P)->tabIn K y=AC (c',P)->x=y
theorem uo{K:Frag}(h:nsIn K mainGlobals x=AC (AC<|.ref f))(h2:K.lookup f=AC ⟨o1,d1,.func fd,s1⟩)(h3:fd.code=.ref c)
 (h4:K.lookup c=AC ⟨o2,d2,.fields vs,s2⟩) (h5:vs[11]?=AC (.ref p)):tabIn K x=AC (c,p):=by
 unfold tabIn;rw[h];dsimp only;rw[h2];dsimp only;rw[h3];dsimp only;rw[h4];dsimp only;rw[h5]
theorem gM{p:Str->Prop}(h1:p "best_among")(h2:p "paper_beside"):∀x∈dC,p x:=by
 intro x hx;rcases o0.mp hx with rfl|hx
 .exact h1
 .rw[A15.mp hx];exact h2
theorem S3{K:Frag}(n:noTabs K=Da)(h1:tabIn K "best_among"=r1)(h2:tabIn K "paper_beside"=r2)(g1:r1=Ch\/((recsOf q).find? λ e=>e.name==Db "best_among").isSome=Da)(g2:r2=Ch\/((recsOf q).find? λ e=>e.name==Db "paper_beside").isSome=Da)
 (ne:∀c P c' P',r1=AC (c,P)->r2=AC (c',P')->P≠P'):L5 q K:=by
 refine⟨n,gM (λ c P e=>?_) λ c P e=>?_,λ x y c P c' hx hy=>?_⟩
 .rcases g1 with z|z
  .rw[h1,z]at e;cases e
  .exact A87.mp z
 .rcases g2 with z|z
  .rw[h2,z]at e;cases e
  .exact A87.mp z
 .refine gM (p:=λ x=>tabIn K x=AC (c,P)->tabIn K y=AC (c',P)->x=y) (λ e1=>?_) (λ e1=>?_) x hx
  .refine gM (p:=λ y=>tabIn K y=AC (c',P)-> "best_among"=y) (λ _=>rfl) (λ e2=>?_) y hy;exact absurd rfl<|ne c P c' P (h1.symm.trans e1)<|h2.symm.trans e2
  .refine gM (p:=λ y=>tabIn K y=AC (c',P)-> "paper_beside"=y) (λ e2=>?_) (λ _=>rfl) y hy;exact absurd rfl<|ne c' P c P (h1.symm.trans e2)<|h2.symm.trans e1
theorem Ra{l:OpenLaw}{n k:Nat}{q:ο}{loose:γ Str}{XP:(Str->ε ζ)->μ->Prop}{YP:ξ->μ->Prop}{d:DefRec}{K:Params->Frag}{m:γ Z.D->Z.Res Z.D}{x:Str}
 (hn:l.most=AC n) (Vd:n<=sizeLine) (hdf:d.params.defaults=[]) (hr:bB k callerA)
 (hY:∀w h,YP w h->(K w.params).In h)
 (F:∀ w mg fa h,(K w.params).In h->h.Ns mainGlobals mg->mg d.name=AC (.ref fa) ->
  ∃fd:υ,(∀(s:η)(u:ζ),BindsTo s fd ⟨[u],[]⟩ [(x,u)]) /\
   ∀base:μ,(K w.params).In base->base.Ns mainGlobals mg->e6 l.prog w (K w.params) mg base jn k fa fd [x] (Ci (K w.params) m)) (hL:∀w:ξ,L5 q (K w.params))
 (hold:∀ns:γ Int,ns.length<=n->(∀i∈ns,Z.bits i<=2^20)->m [.lst (ns.map .int)]=.ok (.bl Da)) :
 WalkO q loose XP YP l.row.toRowW d [] (λ f vs=>PySem.call f vs):=by
 intro w s₀ s₁ mg mb G Y fa o pm cd doc dV kV ho hd nQ hD hmg hg args vals as OD ab5 hrd OC hlo;cases Dflts.none hD hdf;cases Dflts.noKw hD;obtain⟨a,vs,ns,rfl,rfl,abY,hints,ψ⟩:=Att.Gm hn OD OC;have KX:=hY w _ Y;obtain⟨fd,hb,hF⟩:=F w mg fa _ KX G.T.g hmg;have C:=Kg KX G.T.g G.T.b G.T.builtins G.T.nolimit hg abY hints (A23 ψ Vd) hr hF hb (λ H hO hS=>SX hO hS<|hold ns ψ<|Ca ab5) (λ H e s' z=>z)
  (hL w).2.2 (λ y hy c p e=>let ⟨d,hd⟩:=(hL w).2.1 y hy c p e;let T:=tab_of G.T KX hd e;⟨T,T.1.tab T.2⟩) G.T.bmain (hL w).1
 refine enter_call<|A74 C λ r s' hq=>?_;obtain⟨rfl,h2,h3,h4⟩:=hq;exact⟨.inl ⟨.bool Da,.bool Da,[],rfl,λ _=>rfl,.bool Da,Att.Gu l _,λ _=>⟨List.Pairwise.nil,λ _ hm=>(nomatch hm)⟩⟩,h2,h3,h4⟩
end ZS
namespace ZS
open L2
theorem Dm(hit:s.heap.IsTupleIter it t i)(ht:s.heap.IsTuple t items)(hx:items[i]?=AC x)
 (hQ:∀h',h'.IsTupleIter it t (i+1)->Ix it s.heap h'->Q x {s with heap:=h'}):FM (model prog w) A (GT<|.ref it) Q E s:=by
 obtain⟨ob,Qr,tW,OH⟩:=id hit;obtain⟨ot,OE,_,nt,Yg⟩:=ht;refine T0<|A97 hit.typeIs B49<|A99 B49 hit.typeIs C21 ?_<|C22 _;show FM _ _ (field _ 0>>=_) _ _ _;refine T0<|A34 Qr OH (x:=.ref t) rfl ?_;have OG:¬(Value.ref t==SZ)=Da:=B15;rw[v6 OG];refine T0<|A34 Qr OH rfl ?_;refine T0<|A39 OE Yg ?_;simp only[B23,hx];refine T0<|B50 Qr OH (by simp)<|W1 ⟨x,rfl,W1<|hQ _ ⟨_,A92 _ Qr<|B51<|A66 OH _,(B90 ..).trans tW,?_⟩<|Heap.SameBut.update ..⟩;rw[A66 OH];simp[rawInt]
theorem GR(hh:A.handled=Ch)(hit:s.heap.IsTupleIter it t i)(ht:s.heap.IsTuple t items)(hx:items[i]?=Ch)
 (hE:∀h' e,Heap.ExtBut it s.heap h'->(∃o,h'.get? e=AC o/\o.cls=.type "StopIteration")->E (.ref e) {s with heap:=h'}):FM (model prog w) A (GT<|.ref it) Q E s:=by
 obtain⟨ob,Qr,tW,OH⟩:=id hit;obtain⟨ot,OE,_,nt,Yg⟩:=ht;refine T0<|A97 hit.typeIs B49<|A99 B49 hit.typeIs C21 ?_<|C22 _;show FM _ _ (field _ 0>>=_) _ _ _;refine T0<|A34 Qr OH (x:=.ref t) rfl ?_;have OG:¬(Value.ref t==SZ)=Da:=B15;rw[v6 OG];refine T0<|A34 Qr OH rfl ?_;refine T0<|A39 OE Yg ?_;simp only[B23,hx];refine T0<|B03<|T0<|B50 Qr OH (by simp) ?_;refine T0 ?_;simp only[newExc,newTuple];refine T0<|A63 ?_ (by size_fits);refine T0<|wpAny_of_eq (by first|rfl|(simp only[firstArgMember];rfl)) ?_;refine A63 ?_ (by size_fits);simp only[raiseNew];refine T0<|wpAny_handled ?_
 first|rw[hh]|rw[hh]
 exact T0<|W1<|wpAny_throw<|hE _ _ (((Heap.SameBut.update ..).extBut.push _).push _) ⟨_,A13 _ rfl,rfl⟩
theorem T!(hh:A.handled=Ch)(it t:δ)(mX:t≠it)(items:Array ζ):
 Draws prog w A it [it,t] items.size (λ i v=>items[i]?=AC v) (λ i h=>h.IsTupleIter it t i/\h.IsTuple t items) where
 live:=λ _ _ st=>let ⟨o,ho,_⟩:=st.1;⟨o,ho⟩
 frame:=λ _ _ _ st hk=>by obtain⟨⟨o,e,r⟩,⟨o2,e2,r2⟩⟩:=st;exact⟨⟨o,hk it (by simp) o e,r⟩,⟨o2,hk t (by simp) o2 e2,r2⟩⟩
 item:=λ i s Q E hi st hQ=>by refine Dm st.1 st.2 (x:=items[i]) (by simp) λ h' ab9 Md=>?_;exact hQ _ h' _ (by simp) ⟨ab9,st.2.extBut Md.extBut mX⟩ Md
 done:=λ s Q E st hE=>GR hh st.1 st.2 (by simp) hE
theorem EM{ch:γ δ}(I:Inv X χ σ H s)(k:∀b o,b∉ch->s.heap.get? b=AC o->h'.get? b=AC o)(hf:∀b∈ch,qk X χ H b):Inv X χ σ H {s with heap:=h',toks:=t'}:=by
 have Bg:∀b u,H b=AC u->b∉ch:=λ b u e hb=>by rw[(hf b hb).1]at e;cases e
 refine I.step (λ b hb=>?_) (λ b o _ _ hc e _=>k b o hc e) (λ b o _ _ hc e _=>⟨_,k b o hc e⟩) (λ _ _ _ _ n=>n)
  (λ b o hc e=>⟨o,k b o hc e⟩) (λ _ _ e=>e) (λ _ _ _ e=>e) (λ _ _ _ e=>e) (λ m hm=>?_) (λ b u e=>?_) I.bare
 .obtain⟨f0,f1,f2,f3,f4,f5⟩:=hf b hb;exact⟨f3,f1,f4,f5⟩
 .obtain⟨o,es,ep,ho,r⟩:=hm;exact⟨o,es,ep,k _ o (λ hb=>(hf _ hb).2.1 rfl) ho,r⟩
 .refine(I.bQ b u e).n_ (λ c v hc q=>k c v ?_ q) (λ _ q=>q) (λ _ _ q=>q) λ _ _ _ q=>q;rcases hc with z|z
  .rw[z];exact Bg b u e
  .exact Bg c _ z
theorem EL{ch:γ δ}(I:Inv X χ σ H s)(k:∀b o,b∉ch->s.heap.get? b=AC o->h'.get? b=AC o)(hf:∀b∈ch,qk X χ H b)
 (hT:s.heap.objs.size<=T) (hTT:qj h' T us.toArray) (r:Vals xs us) (hz:xs.length<=sizeLine):Inv X χ σ (upd H T<|.tup xs) {s with heap:=h',toks:=t'}:=by
 have hn:=I.bQ.fresh hT;have Bg:∀b u,H b=AC u->b∉ch:=λ b u e hb=>by rw[(hf b hb).1]at e;cases e
 have up:∀b u,H b=AC u->upd H T (.tup xs) b=AC u:=λ b u e=>by rw[aD<|bq e hn];exact e
 have lt:∀b o,s.heap.get? b=AC o->b≠T:=λ b o e z=>by rw[z]at e;exact absurd (A02 e)<|B05.mpr hT
 refine I.step (λ b hb=>?_) (λ b o _ _ hc e _=>k b o hc e) (λ b o _ _ hc e _=>⟨_,k b o hc e⟩) (λ b o _ e n=>by rw[aD<|lt b o e];exact n)
  (λ b o hc e=>⟨o,k b o hc e⟩) (λ b ys e=>up b _ e) (λ b o u e=>up b _ e) (λ b u _ e=>up b _ e) (λ m hm=>?_) (λ b u e=>?_) I.bare
 .obtain⟨f0,f1,f2,f3,f4,f5⟩:=hf b hb;exact⟨f3,f1,f4,f5⟩
 .obtain⟨o,es,ep,ho,q⟩:=hm;exact⟨o,es,ep,k _ o (λ hb=>(hf _ hb).2.1 rfl) ho,q⟩
 .by_cases hb:b=T
  .subst hb;rw[aV]at e;cases e;exact⟨hz,us,r,hTT⟩
  .rw[aD hb]at e;refine(I.bQ b u e).n_ (λ c v hc q=>k c v ?_ q) (λ c q=>?_) (λ c ys q=>up c _ q) λ c v _ q=>up c _ q
   .rcases hc with z|z
    .rw[z];exact Bg b u e
    .exact Bg c _ z
   .exact up c _ q
structure UP where
 at_:Nat->Hp->V->Prop
 end_:Nat->Hp->Prop
def Y5(J:UP):It:=⟨λ i H=>∃y,J.at_ i H y,λ i H x H'=>∃T y,H T=Ch/\x=.ref T/\H'=upd H T (.tup [.int (i:Nat),y])/\J.at_ i H y,J.end_⟩
structure Src(P:Program)(w:World)(K:Do)(J:UP)(it:Addr)(Tc:Nat->Heap->Prop):Prop where
 obj:∀i h,Tc i h->∃o,h.get? it=AC o/\(∀v,o.data≠.cell v)/\o.cls≠.type "enumerate" /\ o.cls≠.type "zip" /\ o.cls≠.type "tuple"
 keep:∀i h h',Tc i h->(∀o,h.get? it=AC o->h'.get? it=AC o)->Tc i h'
 draw:∀(X:Cx),X.prog=P->X.w=w->X.K=K->X.calm=Da->∀(i:Nat)(χ:List (Addr×Obj))(s:Shared)(σ:St)(H:Hp),Inv X χ σ H s->Tc i s.heap->((∃y,J.at_ i H y)\/J.end_ i H) ->
  ∃(fp:List Addr)(n:Nat)(Pv:Nat->Value->Prop)(S:Nat->Heap->Prop),Draws P w X.A.in1 it fp n Pv S/\S i s.heap/\it∈fp/\(∀b∈fp,b=it\/∃o,s.heap.get? b=AC o/\o.cls≠.type "enumerate" /\ o.cls≠.type "zip" /\ (H b=Ch->∃o',K.lookup b=AC o')) /\
   ((∃y,J.at_ i H y)->i<n/\∀u,Pv i u->∃y,RelV y u/\J.at_ i H y)/\(J.end_ i H->i=n)/\∀j h,S j h->Tc j h
theorem qw{K:Fa}(S:Src P w K J it Tc)(Yf:e≠it):
 Turn P w K (.Tuple elts x1 pos) (Y5 J) [e,it] e (λ i h=>(∃old,IsEnum h e it i old)/\Tc i h) where
 mem:=by simp
 obj:=λ i h st b hb=>by
  rcases o0.mp hb with rfl|hb
  .obtain⟨⟨old,he⟩,_⟩:=st;exact⟨_,he,λ v z=>by have z':=z;cases z'⟩
  .rw[A15]at hb;subst hb;obtain⟨o,h1,h2,_⟩:=S.obj i h st.2;exact⟨o,h1,h2⟩
 keep:=λ i h h' st k=>⟨let ⟨old,he⟩:=st.1;⟨old,k e (by simp) _ he⟩,S.keep i h h' st.2 λ o q=>k it (by simp) o q⟩
 item:=by
  intro X hP hw hK hc i χ s σ H E I hf st hg;obtain⟨fp,n,Pv,St',D,hs0,hif,hfp,hat,_,Qu⟩:=S.draw X hP hw hK hc i χ s σ H I st.2 (.inl hg);obtain⟨hi,hv⟩:=hat hg;subst hP hw hK;obtain⟨old,he⟩:=st.1;have _s:e∉fp:=λ hb=>by
   rcases hfp e hb with z|⟨o,q,mX,_⟩
   .exact Yf z
   .rw[he]at q;cases q;exact mX rfl
  have W:=WalksT.enumerateD (A:=X.A) D e Yf _s hif;have Ye:=A02 he;have X_:it<s.heap.objs.size:=by obtain⟨o,q,_⟩:=S.obj _ _ st.2;exact A02 q
  refine wpAny_pyNext_enum_itemD D he hs0 hi Yf _s λ u h' t' hu ho Md hTx Fw hk=>⟨.ref s.heap.objs.size,rfl,?_⟩
  have hT:s.heap.objs.size<=s.heap.objs.size:=M2 _;have kk:∀b o,b∉[e,it]->s.heap.get? b=AC o->h'.get? b=AC o:=λ b o hb y=>hk b o (λ e'=>hb (by simp[e'])) (λ e'=>hb (by simp[e'])) y;obtain⟨y,ry,hy⟩:=hv u hu;have hTw:s.heap.objs.size∉[e,it]:=by simp only[o0,A14,A16,A67];exact⟨A50 Ye,A50 X_⟩
  refine W.go elts x1 pos i s.heap.objs.size _ _ _ ⟨⟨_,ho⟩,Md,A50 Ye,A50 X_⟩ λ h2 X1 kk2=>?_;have hTn:=I.bQ.fresh hT;have acz:qj h2 s.heap.objs.size [Value.int i t',u].toArray:=⟨_,kk2 _ _ hTw hTx⟩
  have I2:Inv X χ σ (upd H s.heap.objs.size<|.tup [.int (i:Nat),y]) {s with heap:=h2,toks:=t'+1}:=
   EL (ch:=[e,it]) I (λ b o hb q=>kk2 b o hb<|kk b o hb q) hf hT acz (.cons ⟨t',rfl⟩<|.cons ry .nil) (by show 2<=sizeLine;decide)
  refine⟨.ref s.heap.objs.size,_,I2,rfl,⟨s.heap.objs.size,y,hTn,rfl,rfl,hy⟩,⟨X1.1,Qu _ _ X1.2⟩,λ b hb=>?_⟩;have hbT:b≠s.heap.objs.size:=λ z=>hTw<|z▸hb;rw[aD hbT];exact(hf b hb).1
 done:=by
  intro X hP hw hK hc i χ s σ H E I hf st hg;obtain⟨fp,n,Pv,St',D,hs0,hif,hfp,_,TB,Qu⟩:=S.draw X hP hw hK hc i χ s σ H I st.2 (.inr hg);have aca:=TB hg;subst hP hw hK aca;obtain⟨old,he⟩:=st.1;have _s:e∉fp:=λ hb=>by
   rcases hfp e hb with z|⟨o,q,mX,_⟩
   .exact Yf z
   .rw[he]at q;cases q;exact mX rfl
  have W:=WalksT.enumerateD (A:=X.A) D e Yf _s hif;exact W.done s _ _ ⟨⟨old,he⟩,hs0⟩ λ h' tk kk=>⟨rfl,EM (ch:=[e,it]) I kk hf⟩
 self:=λ A i s Q E st hQ=>by obtain⟨old,he⟩:=st.1;exact B52 he hQ
def G?(K:Do)(t:δ)(vs:γ V):UP:=⟨λ i H y=>mI K H t vs/\vs[i]?=AC y,λ i H=>mI K H t vs/\vs.length=i⟩
def Oz(K:Do)(t:δ)(vs:γ V):UP:=⟨λ i H y=>ku K H t vs/\vs[i]?=AC y,λ i H=>ku K H t vs/\vs.length=i⟩
def Ku(z:Str):UP:=⟨λ i _ y=>∃c,z.cps[i]?=AC c/\y=.str ⟨#[c]⟩,λ i _=>i=z.cps.size⟩
theorem tO{K:Fa}:Src P w K (G? K t xs) it (λ i h=>h.IsTupleIter it t i) where
 obj:=λ i h st=>by obtain⟨o,e,c,d⟩:=st;exact⟨o,e,λ v z=>(by rw[d]at z;cases z),by rw[c];decide,by rw[c];decide,by rw[c];decide⟩
 keep:=λ i h h' st k=>let ⟨o,e,r⟩:=st;⟨o,k o e,r⟩
 draw:=by
  intro X hP hw hK hc i χ s σ H I st hg;subst hP hw hK;have hq:mI X.K H t xs:=by rcases hg with⟨y,h,_⟩|⟨h,_⟩<;>exact h
  obtain⟨bx,r,p,hz⟩:=I.tuple hq;obtain⟨ot,OE,TC,nt,Yg⟩:=id p;obtain⟨oi,X6,Yi,hdi⟩:=id st;have mX:t≠it:=by rintro rfl;rw[OE]at X6;cases X6;rw[TC]at Yi;injection Yi with z;exact absurd z (by decide)
  refine⟨[it,t],_,_,_,T! (A:=X.A.in1) (I.ok.hd hc) it t mX _,⟨st,p⟩,by simp,λ b hb=>?_,λ⟨y,_,XX⟩=>?_,λ⟨_,hl⟩=>?_,λ j h q=>q.1⟩
  .rcases o0.mp hb with rfl|hb
   .exact .inl rfl
   .rw[A15]at hb;subst hb;refine .inr ⟨ot,OE,by rw[TC];decide,by rw[TC];decide,λ hn=>?_⟩;rcases hq with(z|⟨o,z⟩)|⟨o,_,_,z,_⟩
    .rw[hn]at z;cases z
    .rw[hn]at z;cases z
    .exact⟨o,z⟩
  .obtain⟨u,hu,ru⟩:=r.get XX;refine⟨by rw[A05];exact(A10.mp hu).1,λ u' Vc=>⟨y,?_,hq,XX⟩⟩;have:bx[i]?=AC u':=by simpa using Vc
   rw[hu]at this;cases this;exact ru
  .rw[A05,<-r.length,hl]
theorem EU{K:Fa}:Src P w K (Oz K t xs) it (λ i h=>h.IsListIter it t i) where
 obj:=λ i h st=>by obtain⟨o,e,c,d⟩:=st;exact⟨o,e,λ v z=>(by rw[d]at z;cases z),by rw[c];decide,by rw[c];decide,by rw[c];decide⟩
 keep:=λ i h h' st k=>let ⟨o,e,r⟩:=st;⟨o,k o e,r⟩
 draw:=by
  intro X hP hw hK hc i χ s σ H I st hg;subst hP hw hK;have hq:ku X.K H t xs:=by rcases hg with⟨y,h,_⟩|⟨h,_⟩<;>exact h
  obtain⟨bx,r,p,hz⟩:=I.list hq;obtain⟨ot,OE,TC,nt,Yg⟩:=id p.isList;obtain⟨oi,X6,Yi,hdi⟩:=id st;have mX:t≠it:=by rintro rfl;rw[OE]at X6;cases X6;rw[TC]at Yi;injection Yi with z;exact absurd z (by decide)
  refine⟨[it,t],_,_,_,Draws.list (A:=X.A.in1) (I.ok.hd hc) it t mX _,⟨st,p.isList⟩,by simp,λ b hb=>?_,λ⟨y,_,XX⟩=>?_,λ⟨_,hl⟩=>?_,λ j h q=>q.1⟩
  .rcases o0.mp hb with rfl|hb
   .exact .inl rfl
   .rw[A15]at hb;subst hb;refine .inr ⟨ot,OE,by rw[TC];decide,by rw[TC];decide,λ hn=>?_⟩;rcases hq with(z|⟨o,z⟩)|⟨o,_,_,z,_⟩
    .rw[hn]at z;cases z
    .rw[hn]at z;cases z
    .exact⟨o,z⟩
  .obtain⟨u,hu,ru⟩:=r.get XX;refine⟨by rw[A05];exact(A10.mp hu).1,λ u' Vc=>⟨y,?_,hq,XX⟩⟩;have:bx[i]?=AC u':=by simpa using Vc
   rw[hu]at this;cases this;exact ru
  .rw[A05,<-r.length,hl]
theorem MP{K:Fa}:Src P w K (Ku z) it (λ i h=>h.IsStrIter it (strIterType z) z tk i) where
 obj:=λ i h st=>by obtain⟨o,e,c,d⟩:=st;refine⟨o,e,λ v q=>(by rw[d]at q;cases q),?_,?_,?_⟩<;>(rw[c];unfold strIterType;split<;>decide)
 keep:=λ i h h' st k=>let ⟨o,e,r⟩:=st;⟨o,k o e,r⟩
 draw:=by
  intro X hP hw hK hc i χ s σ H I st hg;subst hP hw hK;have hh:X.A.in1.handled=Ch:=I.ok.hd hc;have fin:∀Pv,(∀i u,Pv i u->∃c t,z.cps[i]?=AC c/\u=.str ⟨#[c]⟩ t)->∀S,Draws X.prog X.w X.A.in1 it [it] z.cps.size Pv S->S i s.heap->(∀j h,S j h->h.IsStrIter it (strIterType z) z tk j) ->
   ∃fp n Pv S,Draws X.prog X.w X.A.in1 it fp n Pv S/\S i s.heap/\it∈fp/\(∀b∈fp,b=it\/∃o,s.heap.get? b=AC o/\o.cls≠.type "enumerate" /\ o.cls≠.type "zip" /\ (H b=Ch->∃o',X.K.lookup b=AC o')) /\
    ((∃y,(Ku z).at_ i H y)->i<n/\∀u,Pv i u->∃y,RelV y u/\(Ku z).at_ i H y)/\((Ku z).end_ i H->i=n)/\∀j h,S j h->h.IsStrIter it (strIterType z) z tk j:=by
   intro Pv hPv S D hs hS;refine⟨[it],z.cps.size,Pv,S,D,hs,by simp,λ b hb=>.inl (by simpa using hb),λ⟨y,c,hy,_⟩=>⟨?_,λ u hu=>?_⟩,λ q=>q,hS⟩
   .rcases Nat.lt_or_ge i z.cps.size with q|q
    .exact q
    .rw[Array.getElem?_eq_none q]at hy;cases hy
   .obtain⟨c',t',xT,rfl⟩:=hPv i u hu;exact⟨.str ⟨#[c']⟩,⟨t',rfl⟩,c',xT,rfl⟩
  cases ha:z.cps.all (· < 128)
  .have e:strIterType z="str_iterator":=by unfold strIterType;rw[ha];rfl
   exact fin _ (λ _ _ q=>q) _ (Draws.strWide hh it z tk) (by rw[<-e];exact st) λ j h q=>by rw[e];exact q
  .have e:strIterType z="str_ascii_iterator":=by unfold strIterType;rw[ha];rfl
   exact fin _ (λ _ _ q=>q) _ (Draws.strAscii hh it z tk) (by rw[<-e];exact st) λ j h q=>by rw[e];exact q
theorem Bn(l:δ)(items:Array ζ)(n:Nat)(dct:ε δ)(sl:Array _):
 Meets (Builtin.«enumerate.__new__» ⟨[.type "enumerate",.ref l],[]⟩) (λ _ R s=>s.heap.get? l=AC {cls:=.type "tuple",dict:=dct,data:=.seq items n,slots:=sl} /\
  R (.ok<|.ret<|.ref (s.heap.push {cls:=.type "tuple_iterator",data:=.fields #[.ref l,.int 0 0]}).objs.size)
   {s with heap:=(s.heap.push {cls:=.type "tuple_iterator",data:=.fields #[.ref l,.int 0 0]}).push {cls:=.type "enumerate",data:=.fields #[.none,.bool AT,.ref s.heap.objs.size,rawInt 0,.none,.none]}}):=
 .of_wp λ prog w A R s h=>by
  obtain⟨hp,gs,dr,tk,os⟩:=s;obtain⟨hl,h⟩:=h;have _p:=sub_enumerate;have hL:zn _ l items:=⟨_,hl,rfl,n,rfl⟩
  wp_walk using B91 hl
  refine wpAny_stack_any λ st=>W1 ?_;split
  .rename_i c _ _ _ _ _;cases (c==Value.type "enumerate")<;>(wp_walk using B91 hl,B04 hL;exact⟨_,rfl,h⟩)
  .wp_walk using B91 hl,B04 hL
   exact⟨_,rfl,h⟩
theorem Ef(hL:s.heap.IsTuple l items)
 (h:∀h',IsEnum h' (s.heap.objs.size+1) s.heap.objs.size 0 .none->h'.IsTupleIter s.heap.objs.size l 0->(∀b o,s.heap.get? b=AC o->h'.get? b=AC o)->Q (.ref<|s.heap.objs.size+1) {s with heap:=h'}) :
 FM (model prog w) A (call (.type "enumerate") [.ref l]) Q E s:=by
 obtain⟨⟨c,dct,dt,sl⟩,hl,hc,n,hd⟩:=hL;have xT:=hc;have s?:=hd;subst xT s?;refine callType_new F.called_enumerate (by decide) (F.typeCall_enumerate_1 _) (F.newCall_enumerate_1 _) (λ obj=>F.args_object_init_2 obj _) F.entry_enumerate_new (Bn l items n dct sl) ⟨hl,?_⟩;have hz:(s.heap.push {cls:=.type "tuple_iterator",data:=.fields #[.ref l,.int 0 0]}).objs.size=s.heap.objs.size+1:=A51 ..;have he:=A13 (s.heap.push {cls:=.type "tuple_iterator",data:=.fields #[.ref l,.int 0 0]}) (o:={cls:=.type "enumerate",data:=.fields #[.none,.bool AT,.ref s.heap.objs.size,rawInt 0,.none,.none]}) rfl;rw[hz]at he ⊢;exact⟨⟨_,he,rfl⟩,h _ he ⟨_,A00 _<|A13 _ rfl,rfl,rfl⟩ λ b o x=>A00 _<|A00 _ x⟩
theorem rp:∀ds k i,(Z.kL k ds)[i]?=(ds[i]?).map λ d=>Z.pair (.int<|(k+i:Nat)) d
|[],_,_=>by simp[Z.kL]
|d::ds,k,0=>by simp[Z.kL]
|d::ds,k,i+1=>by simp only[Z.kL,C23,rp ds _ i];rw[show k+1+i=k+(i+1)by lia]
theorem xY:∀ds k,(Z.kL k ds).length=ds.length
|[],_=>rfl
|d::ds,k=>by simp[Z.kL,xY ds]
theorem u_{K:Do}(h1:∀i d H1,S H1->ds[i]?=AC d->(∃y,J.at_ i H1 y)/\∀y,J.at_ i H1 y->Den K H1 d y)(h2:∀H1,S H1->J.end_ ds.length H1):Cn K (Y5 J) S (Z.kL 0 ds) where
 go:=λ i d H1 s hi=>by
  rw[rp]at hi;cases q:ds[i]? with
  |none=>rw[q]at hi;cases hi
  |some d0=>exact(h1 i d0 H1 s q).1
 EC:=λ i d H1 H2 x s hi y=>by
  obtain⟨T,y,hT,rfl,rfl,hy⟩:=y;rw[rp]at hi;cases q:ds[i]? with
  |none=>rw[q]at hi;cases hi
  |some d0=>rw[q]at hi;cases hi;have sm:aI H1 (upd H1 T<|.tup [.int (i),y]):=bP hT;refine⟨sm,fG (.inl<|.inl aV)<|aG.cons ?_<|aG.cons (((h1 i d0 H1 s q).2 y hy).up sm) aG.nil⟩;rw[B24];exact cO
 stop:=λ H1 s=>by rw[xY];exact h2 H1 s
theorem D3(I:Inv X χ σ H s):∀b∈[s.heap.objs.size+1,s.heap.objs.size],qk X χ H b:=λ b hb=>by
 rcases o0.mp hb with rfl|hb
 .exact I.vw (A75 _)<|I.bQ.fresh<|A75 _
 .rw[A15]at hb;subst hb;exact I.vw (M2 _)<|I.bQ.fresh<|M2 _
theorem _root_.ZQ.BU(hm:X.mg "enumerate"=Ch)(ha:ZQ.QE X a fa)(hs:starEach [a] X.env=[(AT,eval a X.env)]:=by rfl)(nO:Se a [] X.env:=by rfl)(hg:Gl X "enumerate":=by rfl):ZQ.QJ X (.Tuple elts x1 p2) (.Call (.Name "enumerate" p) [a] [] pos) (Z.xP fa):=⟨by
 have ha:=ha.p;intro χ s σ H R I w;obtain⟨ρ,ds,r,e,k⟩:=w;obtain⟨d,ea,e⟩:=bd e;obtain⟨ds0,ei,e⟩:=bd e;cases e;refine Call_<|lh I hg hm PyProof.Rows.boot_enumerate<|A96 (cS ((a7 ha b9 nO) pos χ s σ H (λ vs H1=>∃v,vs=[v]/\aI H H1/\Den X.K H1 d v) I ⟨ρ,d,r,ea,λ v H1 s1 d1=>⟨v,rfl,s1,d1⟩⟩) λ us s1 ⟨vs,H1,I1,r1,q1⟩=>?_) hs rfl;obtain⟨v,rfl,sm,hd⟩:=q1;obtain⟨u,rfl,ru⟩:=vals1 r1;cases d with
 |tup _X=>
  cases ei;obtain⟨q,vs,rfl,hq,t⟩:=bJ.tup (.inl hd);cases ru;obtain⟨bx,rv,pt,hz⟩:=I1.tuple hq;refine Ef pt λ h' he hit hk=>B52 he ?_;refine⟨_,[s1.heap.objs.size+1,s1.heap.objs.size],_,Y5<|G? X.K q vs,H1,rfl,I1.kept hk,qw tO<|B93 _,⟨⟨_,he⟩,hit⟩,D3 I1,k _ H1 sm<|u_ (λ i d0 H2 s2 hi=>?_) λ H2 s2=>?_⟩
  .obtain⟨y,hy,dy⟩:=t.get hi;refine⟨⟨y,fN s2 hq,hy⟩,λ y' Kx=>?_⟩;have:=Kx.2;rw[hy]at this;cases this;exact dy.ups s2
  .exact⟨fN s2 hq,t.length⟩
 |lst _X=>
  cases ei;simp only[Den]at hd;obtain⟨q,vs,rfl,hq,t⟩:=hd;cases ru;obtain⟨bx,rv,pt,hz⟩:=I1.list hq.sq;refine call_enumerate_list pt.isList λ h' he hit Fw hk=>B52 he ?_;refine⟨_,[s1.heap.objs.size+1,s1.heap.objs.size],_,Y5<|Oz X.K q vs,H1,rfl,I1.kept hk,qw EU<|B93 _,⟨⟨_,he⟩,hit⟩,D3 I1,k _ H1 sm<|u_ (λ i d0 H2 s2 hi=>?_) λ H2 s2=>?_⟩
  .obtain⟨y,hy,dy⟩:=t.get hi;refine⟨⟨y,(hq.mono s2).sq,hy⟩,λ y' Kx=>?_⟩;have:=Kx.2;rw[hy]at this;cases this;exact dy.ups s2
  .exact⟨(hq.mono s2).sq,t.length⟩
 |str cs=>
  cases ei;simp only[Den]at hd;rw[hd]at ru;obtain⟨tk,rfl⟩:=ru;refine call_enumerate_str λ h' he hit Fw hk=>B52 he ?_;refine⟨_,[s1.heap.objs.size+1,s1.heap.objs.size],_,Y5<|Ku ⟨cs.toArray⟩,H1,rfl,I1.kept hk,qw MP<|B93 _,⟨⟨_,he⟩,hit⟩,D3 I1,k _ H1 sm<|u_ (λ i d0 H2 s2 hi=>?_) λ H2 s2=>?_⟩
  .rw[A04]at hi;cases hc:cs[i]? with
   |none=>rw[hc]at hi;cases hi
   |some c=>
    rw[hc]at hi;cases hi;refine⟨⟨_,c,by simpa using hc,rfl⟩,λ y ⟨c',xT,hy⟩=>?_⟩;have:cs[i]?=AC c':=by simpa using xT
    rw[hc]at this;cases this;rw[hy];exact dI
  .show(cs.map λ c=>Z.D.str [c]).length=cs.toArray.size;simp
 |non=>cases ei
 |bl _=>cases ei
 |int _=>cases ei
 |dct _ _=>cases ei⟩
structure Far(z TI TO i1 i2:Addr)(f1 f2:List Addr):Prop where
 ne:[z,TI,TO,i1,i2].Nodup
 a1:z∉f1/\TO∉f1/\i2∉f1
 a2:z∉f2/\TO∉f2/\i1∉f2
theorem FY{z TI TO i1 i2:δ}{Q:ζ->η->Prop}(F:Far z TI TO i1 i2 f1 f2)(D1:Draws prog w A i1 f1 n1 P1 S1)(D2:Draws prog w A i2 f2 n2 P2 S2)
 (hz:IsZip s.heap z TI TO .none) (Hi:IsPair s.heap TI (.ref i1) (.ref i2)) (HZ:IsPair s.heap TO a b) (h1:S1 k s.heap) (h2:S2 k s.heap) (Qt:k<n1) (hk2:k<n2)
 (hQ:∀x y h' tk,P1 k x->P2 k y->IsZip h' z TI TO (rawInt s.heap.objs.size)->IsPair h' TO x y->S1 (k+1) h'->S2 (k+1) h'->IsPair h' s.heap.objs.size x y->(∀c o,c∉[z,TO,i1,i2]->s.heap.get? c=AC o->h'.get? c=AC o)->Q (.ref s.heap.objs.size) {s with heap:=h',toks:=tk}) :
 FM (model prog w) A (Builtin.«zip.__next__» ⟨[.ref z],[]⟩) (λ fin s'=>∃v,fin=.done (.ret v)/\Q v s') E s:=by
 have ne:=F.ne;simp only[A45,o0,A14,A16,A67,B25,B26,B27]at ne;obtain⟨⟨Vw,L',PX,Q9⟩,⟨TITO,TIi1,TIi2⟩,⟨TOi1,TOi2⟩,i12⟩:=ne;obtain⟨Y_,UJ,XU⟩:=F.a1;obtain⟨Y?,PB,Td⟩:=F.a2;obtain⟨hp,gs,dr,tk0,os⟩:=s;show FM _ _ (field (.ref z) 2>>=_) _ _ _;refine T0<|A34 hz rfl (x:=.bool AT) rfl ?_;show FM _ _ (field (.ref z) 3>>=_) _ _ _;refine T0<|A34 hz rfl (x:=.ref TI) rfl<|T0<|A39 Hi rfl ?_;show FM _ _ (Gc (.ref z)>>=_) _ _ _;refine T0 ?_;unfold Gc;refine T0<|A34 hz rfl (x:=.none) rfl<|W1 ?_;simp only[A25];refine T0<|B03<|T0<|A34 hz rfl (x:=.ref TO) rfl<|T0<|B06 hz (by simp) λ g1 Qq e1=>?_;have Qq:=Qq;have e1:=e1;refine T0 ?_;simp only[AB5,AC9,B44,AD2];refine T0<|T0<|B53 ?_;show FM _ _ (GT (.ref i1)>>=_) _ _ _;refine T0<|D1.item k _ _ _ Qt (D1.frame k hp g1 h1 λ c hc o q=>e1.extBut c o (λ y=>Y_<|y▸hc) q) λ x g2 t2 hx h12 e2=>W1 ?_;have e2:=e2;have KP:=e2.extBut _ _ TOi1<|e1.extBut _ _ (A08 L') HZ;refine T0<|A39 KP rfl<|T0<|B94 KP λ g3 OK e3=>?_;have OK:=OK;have e3:Ix TO g2 g3:=e3;refine T0<|A59<|W1 ?_;refine T0<|T0<|B53 ?_;show FM _ _ (GT (.ref i2)>>=_) _ _ _;have h23:S2 k g3:=D2.frame k hp g3 h2 λ c hc o q=>e3.extBut c o (λ y=>PB<|y▸hc)<|e2.extBut c o (λ y=>Td<|y▸hc)<|e1.extBut c o (λ y=>Y?<|y▸hc) q;refine T0<|D2.item k _ _ _ hk2 h23 λ y g4 t4 hy h24 e4=>W1 ?_;have e4:Ix i2 g3 g4:=e4;have Yn:IsPair g4 TO x b:=e4.extBut _ _ TOi2 OK;refine T0<|A39 Yn rfl<|T0<|B94 Yn λ g5 OJ e5=>?_;have OJ:IsPair g5 TO x y:=OJ;have e5:Ix TO g4 g5:=e5;refine T0<|A59<|W1<|W1 ?_;refine T0<|A39 OJ rfl<|T0<|wpAny_newTuple ?_;have Fw:g5.objs.size=hp.objs.size:=by rw[e5.1,e4.1,e3.1,e2.1,e1.1]
 have hz5:IsZip g5 z TI TO .ellipsis:=e5.extBut _ _ L'<|e4.extBut _ _ Q9<|e3.extBut _ _ L'<|e2.extBut _ _ PX Qq;have hzl:z<g5.objs.size:=A02 hz5;show FM _ _ (TD (.ref z) (.ref g5.objs.size)>>=_) _ _ _;refine T0 ?_;unfold TD;have hz6:IsZip (g5.push {cls:=.type "tuple",data:=.seq #[x,y]}) z TI TO .ellipsis:=A00 _ hz5;refine T0<|B06 hz6 (by simp) λ g7 hz7 e7=>?_;have hz7:IsZip g7 z TI TO (rawInt g5.objs.size):=hz7;refine B06 hz7 (by simp) λ g8 _m e8=>?_;have _m:IsZip g8 z TI TO (rawInt g5.objs.size):=_m;have up:∀c o,c≠z->g5.get? c=AC o->g8.get? c=AC o:=λ c o h q=>e8.extBut _ _ h<|e7.extBut _ _ h<|A00 _ q;have hT8:IsPair g8 g5.objs.size x y:=e8.extBut _ _ (A50 hzl)<|e7.extBut _ _ (A50 hzl)<|A13 _ rfl;have s1:S1 (k+1) g8:=D1.frame _ g2 g8 h12 λ c hc o q=>up c o (λ y=>Y_<|y▸hc)<|e5.extBut c o (λ y=>UJ<|y▸hc)<|e4.extBut c o (λ y=>XU<|y▸hc)<|e3.extBut c o (λ y=>UJ<|y▸hc) q;have s2:S2 (k+1) g8:=D2.frame _ g4 g8 h24 λ c hc o q=>up c o (λ y=>Y?<|y▸hc)<|e5.extBut c o (λ y=>PB<|y▸hc) q;have kp:∀c o,c∉[z,TO,i1,i2]->hp.get? c=AC o->g8.get? c=AC o:=λ c o hc q=>by simp only[o0,A14,A16,A67]at hc;exact up c o hc.1<|e5.extBut _ _ hc.2.1<|e4.extBut _ _ hc.2.2.2<|e3.extBut _ _ hc.2.1<|e2.extBut _ _ hc.2.2.1<|e1.extBut _ _ hc.1 q
 rw[Fw]at _m hT8;refine W1 ⟨_,rfl,?_⟩;show Q (.ref g5.objs.size) _;rw[Fw];exact hQ x y g8 t4 hx hy _m (up _ _ (A08 L') OJ) s1 s2 hT8 kp
theorem Ib{z TI TO i1 i2:δ}(F:Far z TI TO i1 i2 f1 f2)(D1:Draws prog w A i1 f1 n1 P1 S1)(D2:Draws prog w A i2 f2 n2 P2 S2)
 (hz:IsZip s.heap z TI TO .none) (Hi:IsPair s.heap TI (.ref i1) (.ref i2)) (HZ:IsPair s.heap TO a b) (h1:S1 k s.heap) (h2:S2 k s.heap) (TB:k=n1\/(k<n1/\k=n2))
 (hE:∀h' e tk,(∀c o,c∉[z,TO,i1,i2]->s.heap.get? c=AC o->h'.get? c=AC o)->(∃o,h'.get? e=AC o/\o.cls=.type "StopIteration")->E (.ref e) {s with heap:=h',toks:=tk}) :
 FM (model prog w) A (Builtin.«zip.__next__» ⟨[.ref z],[]⟩) Q E s:=by
 have ne:=F.ne;simp only[A45,o0,A14,A16,A67,B25,B26,B27]at ne;obtain⟨⟨Vw,L',PX,Q9⟩,⟨TITO,TIi1,TIi2⟩,⟨TOi1,TOi2⟩,i12⟩:=ne;obtain⟨Y_,UJ,XU⟩:=F.a1;obtain⟨Y?,PB,Td⟩:=F.a2;obtain⟨hp,gs,dr,tk0,os⟩:=s;show FM _ _ (field (.ref z) 2>>=_) _ _ _;refine T0<|A34 hz rfl (x:=.bool AT) rfl ?_;show FM _ _ (field (.ref z) 3>>=_) _ _ _;refine T0<|A34 hz rfl (x:=.ref TI) rfl<|T0<|A39 Hi rfl ?_;show FM _ _ (Gc (.ref z)>>=_) _ _ _;refine T0 ?_;unfold Gc;refine T0<|A34 hz rfl (x:=.none) rfl<|W1 ?_;simp only[A25];refine T0<|B03<|T0<|A34 hz rfl (x:=.ref TO) rfl<|T0<|B06 hz (by simp) λ g1 Qq e1=>?_;have Qq:=Qq;have e1:=e1;refine T0 ?_;simp only[AB5,AC9,B44,AD2];refine T0<|T0<|B53 ?_;show FM _ _ (GT (.ref i1)>>=_) _ _ _;have h11:=D1.frame k hp g1 h1 λ c hc o q=>e1.extBut c o (λ y=>Y_<|y▸hc) q;rcases TB with rfl|⟨Qt,rfl⟩
 .refine T0<|D1.done _ _ _ h11 λ g2 e e2 he=>?_;obtain⟨oe,Tp,Yj⟩:=he;have e2:=e2;have _n:IsZip g2 z TI TO .ellipsis:=e2 _ _ PX Qq;have hez:e≠z:=λ q=>by subst q;rw[_n]at Tp;cases Tp;simp at Yj
  refine B06 _n (by simp) λ g3 _ e3=>hE g3 e tk0 (λ c o hc q=>?_) ⟨oe,e3.extBut _ _ hez Tp,Yj⟩;simp only[o0,A14,A16,A67]at hc;exact e3.extBut _ _ hc.1<|e2 _ _ hc.2.2.1<|e1.extBut _ _ hc.1 q
 .refine T0<|D1.item k _ _ _ Qt h11 λ x g2 t2 hx h12 e2=>W1 ?_;have e2:Ix i1 g1 g2:=e2;have KP:IsPair g2 TO a b:=e2.extBut _ _ TOi1<|e1.extBut _ _ (A08 L') HZ;refine T0<|A39 KP rfl<|T0<|B94 KP λ g3 OK e3=>?_;have e3:Ix TO g2 g3:=e3;refine T0<|A59<|W1 ?_;refine T0<|T0<|B53 ?_;show FM _ _ (GT (.ref i2)>>=_) _ _ _;have h23:S2 k g3:=D2.frame k hp g3 h2 λ c hc o q=>e3.extBut c o (λ y=>PB<|y▸hc)<|e2.extBut c o (λ y=>Td<|y▸hc)<|e1.extBut c o (λ y=>Y?<|y▸hc) q;refine T0<|D2.done _ _ _ h23 λ g4 e e4 he=>?_;obtain⟨oe,Tp,Yj⟩:=he;have e4:Heap.ExtBut i2 g3 g4:=e4;have hz4:IsZip g4 z TI TO .ellipsis:=e4 _ _ Q9<|e3.extBut _ _ L'<|e2.extBut _ _ PX Qq;have hez:e≠z:=λ q=>by subst q;rw[hz4]at Tp;cases Tp;simp at Yj
  refine B06 hz4 (by simp) λ g5 _ e5=>hE g5 e t2 (λ c o hc q=>?_) ⟨oe,e5.extBut _ _ hez Tp,Yj⟩;simp only[o0,A14,A16,A67]at hc;exact e5.extBut _ _ hc.1<|e4 _ _ hc.2.2.2<|e3.extBut _ _ hc.2.1<|e2.extBut _ _ hc.2.2.1<|e1.extBut _ _ hc.1 q
def _S(J1 J2:UP):It:=⟨λ i H=>(∃y,J1.at_ i H y)/\∃y,J2.at_ i H y,
 λ i H x H'=>∃T y1 y2,H T=Ch/\x=.ref T/\H'=upd H T (.tup [y1,y2])/\J1.at_ i H y1/\J2.at_ i H y2,
 λ i H=>(J1.end_ i H/\((∃y,J2.at_ i H y)\/J2.end_ i H))\/((∃y,J1.at_ i H y)/\J2.end_ i H)⟩
theorem W!(I:Inv X χ σ H s)(f:qk X χ H b)(h:X.K.lookup b=AC o):False:=by
 have hb:=I.ok.mod.HU b o h;rcases f.2.2.2.1 with z|z
 .exact I.ok.za b o hb z
 .exact absurd (A02 (I.ok.bs b o hb).1)<|B05.mpr z
def tnZ(z TI TO i1 i2:δ)(n1 n2:Nat->μ->Prop)(i:Nat)(h:μ):Prop:=IsZip h z TI TO .none/\IsPair h TI (.ref i1) (.ref i2)/\(∃a b,IsPair h TO a b)/\n1 i h/\n2 i h
theorem A3(p:IsPair h T a b):∃o,h.get? T=AC o/\∀v,o.data≠.cell v:=
 ⟨_,p,λ v z=>by have z':=z;cases z'⟩
theorem AI{K:Fa}{z TI TO i1 i2:δ}(S1:Src P w K J1 i1 n1)(S2:Src P w K J2 i2 n2)(nd:[z,TI,TO,i1,i2].Nodup):
 Turn P w K (.Tuple elts x1 pos) (_S J1 J2) [z,TI,TO,i1,i2] z (tnZ z TI TO i1 i2 n1 n2):=by
 have far:∀{X}{χ}{σ}{H}{s}{f1 f2},X.K=K->Inv X χ σ H s->(∀b∈[z,TI,TO,i1,i2],qk X χ H b) ->
  (∀b∈f1,b=i1\/∃o,s.heap.get? b=AC o/\o.cls≠.type "enumerate" /\ o.cls≠.type "zip" /\ (H b=Ch->∃o',K.lookup b=AC o')) ->
  (∀b∈f2,b=i2\/∃o,s.heap.get? b=AC o/\o.cls≠.type "enumerate" /\ o.cls≠.type "zip" /\ (H b=Ch->∃o',K.lookup b=AC o'))->Far z TI TO i1 i2 f1 f2:=by
  intro X χ σ H s f1 f2 hK I hf g1 g2;subst hK;have Dn:=nd;simp only[A45,o0,A14,A16,A67,B25,B26,B27]at Dn;obtain⟨⟨Vw,L',PX,Q9⟩,⟨TITO,TIi1,TIi2⟩,⟨TOi1,TOi2⟩,i12⟩:=Dn;have no1:∀b,b∈[z,TI,TO,i1,i2]->b≠i1->b∉f1:=λ b hb mX hm=>by
   rcases g1 b hm with q|⟨o,_,_,_,q⟩
   .exact mX q
   .obtain⟨o',h'⟩:=q (hf b hb).1;exact W! I (hf b hb) h'
  have no2:∀b,b∈[z,TI,TO,i1,i2]->b≠i2->b∉f2:=λ b hb mX hm=>by
   rcases g2 b hm with q|⟨o,_,_,_,q⟩
   .exact mX q
   .obtain⟨o',h'⟩:=q (hf b hb).1;exact W! I (hf b hb) h'
  exact⟨nd,⟨no1 z (by simp) PX,no1 TO (by simp) TOi1,no1 i2 (by simp)<|A08 i12⟩,⟨no2 z (by simp) Q9,no2 TO (by simp) TOi2,no2 i1 (by simp) i12⟩⟩
 refine⟨by simp,λ i h st b hb=>?_,λ i h h' st k=>?_,?_,?_,λ A i s Q E st hQ=>B95 st.1 hQ⟩
 .obtain⟨hz,Hi,⟨a,b',HZ⟩,h1,h2⟩:=st;simp only[o0,A14,A16]at hb;rcases hb with rfl|rfl|rfl|rfl|rfl
  .exact⟨_,hz,λ v z=>by have z':Data.fields _=Data.cell v:=z;cases z'⟩
  .exact A3 Hi
  .exact A3 HZ
  .obtain⟨o,q,r,_⟩:=S1.obj i h h1;exact⟨o,q,r⟩
  .obtain⟨o,q,r,_⟩:=S2.obj i h h2;exact⟨o,q,r⟩
 .obtain⟨hz,Hi,⟨a,b',HZ⟩,h1,h2⟩:=st;exact⟨k z (by simp) _ hz,k TI (by simp) _ Hi,⟨a,b',k TO (by simp) _ HZ⟩,S1.keep i h h' h1 λ o q=>k i1 (by simp) o q,S2.keep i h h' h2 λ o q=>k i2 (by simp) o q⟩
 .intro X hP hw hK hc i χ s σ H E I hf st hg;obtain⟨hz,Hi,⟨a,b',HZ⟩,h1,h2⟩:=st;obtain⟨f1,m1,P1,T1,D1,nO,_,Tw,TL,_,X?⟩:=S1.draw X hP hw hK hc i χ s σ H I h1 (.inl hg.1);obtain⟨f2,m2,P2,T2,D2,zt,_,Tv,Yk,_,X!⟩:=S2.draw X hP hw hK hc i χ s σ H I h2 (.inl hg.2);obtain⟨hi1,Tg⟩:=TL hg.1;obtain⟨hi2,Vb⟩:=Yk hg.2;have FR:=far hK I hf Tw Tv;subst hP hw hK;have hT:s.TypeIs (.ref z) "zip":=⟨_,hz,rfl⟩
  unfold pyNext;refine T0<|B54<|A97 (name:=Db "__next__") hT B55<|A99 B55 hT F.entry_zip_next (FY FR D1 D2 hz Hi HZ nO zt hi1 hi2 λ x y h' tk px py z' to' s1' s2' tt kp=>W1 ?_)<|F.args_zip_next_1 _;refine⟨_,rfl,?_⟩;obtain⟨y1,r1,a1⟩:=Tg x px;obtain⟨y2,r2,a2⟩:=Vb y py;have lt:∀{c o},s.heap.get? c=AC o->c≠s.heap.objs.size:=λ q=>A17<|A02 q;have hTn:H s.heap.objs.size=Ch:=I.fresh;have hTz:s.heap.objs.size≠z:=(lt hz).symm;refine wpAny_letOwnedTupleGo_zip z' λ KQ _n G_=>?_;have Dn:=nd;simp only[A45,o0,A14,A16,A67,B25,B26,B27]at Dn;obtain⟨⟨Vw,L',PX,Q9⟩,⟨TITO,TIi1,TIi2⟩,⟨TOi1,TOi2⟩,i12⟩:=Dn;have tt2:qj KQ s.heap.objs.size [x,y].toArray:=⟨_,G_.extBut _ _ hTz tt⟩
  have I2:Inv X χ σ (upd H s.heap.objs.size<|.tup [y1,y2]) {s with heap:=KQ,toks:=tk}:=
   EL (ch:=[z,TO,i1,i2]) I (λ b o hb q=>G_.extBut b o (λ e=>hb (by simp[e]))<|kp b o hb q) (λ b hb=>hf b (by simp only[o0,A14,A16]at hb ⊢;rcases hb with e|e|e|e<;>simp[e])) (M2 _) tt2 (.cons r1<|.cons r2 .nil) (by show 2<=sizeLine;decide)
  have k1:n1 (i+1) KQ:=S1.keep _ _ _ (X? _ _ s1') λ o q=>G_.extBut i1 o (A08 PX) q;have k2:n2 (i+1) KQ:=S2.keep _ _ _ (X! _ _ s2') λ o q=>G_.extBut i2 o (A08 Q9) q;have kTI:IsPair KQ TI (.ref i1) (.ref i2):=G_.extBut _ _ (A08 Vw)<|kp TI _ (by simp only[o0,A14,A16,A67];exact⟨A08 Vw,TITO,TIi1,TIi2⟩) Hi;refine⟨.ref _,_,I2,rfl,⟨_,y1,y2,hTn,rfl,rfl,a1,a2⟩,⟨_n,kTI,⟨x,y,G_.extBut _ _ (A08 L') to'⟩,k1,k2⟩,λ b hb=>?_⟩;have hbT:b≠s.heap.objs.size:=by
   simp only[o0,A14,A16]at hb;rcases hb with rfl|rfl|rfl|rfl|rfl
   .exact lt hz
   .exact lt Hi
   .exact lt HZ
   .obtain⟨o,q,_⟩:=S1.obj i _ h1;exact lt q
   .obtain⟨o,q,_⟩:=S2.obj i _ h2;exact lt q
  rw[aD hbT];exact(hf b hb).1
 .intro X hP hw hK hc i χ s σ H E I hf st hg;obtain⟨hz,Hi,⟨a,b',HZ⟩,h1,h2⟩:=st;have g1:(∃y,J1.at_ i H y)\/J1.end_ i H:=by
   rcases hg with⟨q,_⟩|⟨q,_⟩
   .exact .inr q
   .exact .inl q
  have g2:(∃y,J2.at_ i H y)\/J2.end_ i H:=by
   rcases hg with⟨_,q⟩|⟨_,q⟩
   .exact q
   .exact .inr q
  obtain⟨f1,m1,P1,T1,D1,nO,_,Tw,TL,Yd,X?⟩:=S1.draw X hP hw hK hc i χ s σ H I h1 g1;obtain⟨f2,m2,P2,T2,D2,zt,_,Tv,Yk,Yc,X!⟩:=S2.draw X hP hw hK hc i χ s σ H I h2 g2;have FR:=far hK I hf Tw Tv;have he:i=m1\/(i<m1/\i=m2):=by
   rcases hg with⟨q,_⟩|⟨q,q2⟩
   .exact .inl<|Yd q
   .exact .inr ⟨(TL q).1,Yc q2⟩
  subst hP hw hK;have hT:s.TypeIs (.ref z) "zip":=⟨_,hz,rfl⟩
  unfold pyNext;refine T0<|B54<|A97 (name:=Db "__next__") hT B55<|A99 B55 hT F.entry_zip_next (Ib FR D1 D2 hz Hi HZ nO zt he λ h' e tk kp hx=>?_)<|F.args_zip_next_1 _;obtain⟨o,ho,TJ⟩:=hx;refine T0<|wpAny_isInstance (T:="StopIteration") (b:=Da) ⟨o,ho,TJ⟩ isSubtype_stop<|W1 ⟨rfl,?_⟩;exact EM (ch:=[z,TO,i1,i2]) I kp λ b hb=>hf b (by simp only[o0,A14,A16]at hb ⊢;rcases hb with e| e| e| e<;>simp[e])
abbrev zh(T1 T2:String)(h:μ)(l1 l2:δ):μ:=((((h.push {cls:=.type T1,data:=.fields #[.ref l1,.int 0 0]}).push {cls:=.type T2,data:=.fields #[.ref l2,.int 0 0]}).push {cls:=.type "tuple",data:=.seq #[.ref h.objs.size,.ref (h.objs.size+1)]}).push {cls:=.type "tuple",data:=.seq #[.none,.none]}).push
 {cls:=.type "zip",data:=.fields #[.none,.bool AT,.bool AT,.ref (h.objs.size+2),.ref (h.objs.size+3)]}
theorem Bl(l1 l2:δ)(xs ys:Array ζ):Meets (Builtin.«zip.__new__» ⟨[.type "zip",.ref l1,.ref l2],[]⟩) (λ _ R s=>s.heap.IsTuple l1 xs/\s.heap.IsTuple l2 ys/\R (.ok<|.ret<|.ref<|s.heap.objs.size+4) {s with heap:=zh "tuple_iterator" "tuple_iterator" s.heap l1 l2}):=
 .of_wp λ prog w A R s h=>by
  obtain⟨hp,gs,dr,tk,os⟩:=s;obtain⟨Ve,Ts,h⟩:=h;have abK:=sub_zip;have q1:=Ve;have q2:zn (Shared.heap ⟨hp.push {cls:=.type "tuple_iterator",data:=.fields #[.ref l1,.int 0 0]},gs,dr,tk,os⟩) l2 ys:=Heap.IsTuple.push Ts _
  wp_walk using B04 q1,B04 q2
  simp only[A51]at h ⊢;exact⟨_,rfl,h⟩
theorem Bm(l1 l2:δ)(xs ys:Array ζ):Meets (Builtin.«zip.__new__» ⟨[.type "zip",.ref l1,.ref l2],[]⟩) (λ _ R s=>s.heap.IsList l1 xs/\s.heap.IsTuple l2 ys/\R (.ok<|.ret<|.ref<|s.heap.objs.size+4) {s with heap:=zh "list_iterator" "tuple_iterator" s.heap l1 l2}):=
 .of_wp λ prog w A R s h=>by
  obtain⟨hp,gs,dr,tk,os⟩:=s;obtain⟨Ve,Ts,h⟩:=h;have abK:=sub_zip;have q1:=Ve;have q2:zn (Shared.heap ⟨hp.push {cls:=.type "list_iterator",data:=.fields #[.ref l1,.int 0 0]},gs,dr,tk,os⟩) l2 ys:=Heap.IsTuple.push Ts _
  wp_walk using B18 q1,B04 q2
  simp only[A51]at h ⊢;exact⟨_,rfl,h⟩
theorem Am(T1 T2:String)(h:μ)(l1 l2:δ):IsZip (zh T1 T2 h l1 l2) (h.objs.size+4) (h.objs.size+2) (h.objs.size+3) .none/\IsPair (zh T1 T2 h l1 l2) (h.objs.size+2) (.ref h.objs.size) (.ref<|h.objs.size+1)/\IsPair (zh T1 T2 h l1 l2) (h.objs.size+3) .none .none /\
 (zh T1 T2 h l1 l2).get? h.objs.size=AC {cls:=.type T1,data:=.fields #[.ref l1,.int 0 0]}/\(zh T1 T2 h l1 l2).get? (h.objs.size+1)=AC {cls:=.type T2,data:=.fields #[.ref l2,.int 0 0]}/\∀c o,h.get? c=AC o->(zh T1 T2 h l1 l2).get? c=AC o:=by
 have z1:(h.push {cls:=.type T1,data:=.fields #[.ref l1,.int 0 0]}).objs.size=h.objs.size+1:=A51 ..;have z2:((h.push {cls:=.type T1,data:=.fields #[.ref l1,.int 0 0]}).push {cls:=.type T2,data:=.fields #[.ref l2,.int 0 0]}).objs.size=h.objs.size+2:=by rw[A51,z1]
 have z3:(((h.push {cls:=.type T1,data:=.fields #[.ref l1,.int 0 0]}).push {cls:=.type T2,data:=.fields #[.ref l2,.int 0 0]}).push {cls:=.type "tuple",data:=.seq #[.ref h.objs.size,.ref (h.objs.size+1)]}).objs.size=h.objs.size+3:=by rw[A51,z2]
 have z4:((((h.push {cls:=.type T1,data:=.fields #[.ref l1,.int 0 0]}).push {cls:=.type T2,data:=.fields #[.ref l2,.int 0 0]}).push {cls:=.type "tuple",data:=.seq #[.ref h.objs.size,.ref (h.objs.size+1)]}).push {cls:=.type "tuple",data:=.seq #[.none,.none]}).objs.size=h.objs.size+4:=by rw[A51,z3]
 refine⟨?_,?_,?_,?_,?_,λ c o q=>?_⟩
 .skip
  rw[<-z4];exact A13 _ rfl
 .skip
  rw[<-z2];exact A00 _<|A00 _<|A13 _ rfl
 .skip
  rw[<-z3];exact A00 _<|A13 _ rfl
 .exact A00 _<|A00 _<|A00 _<|A00 _<|A13 _ rfl
 .skip
  rw[<-z1];exact A00 _<|A00 _<|A00 _<|A13 _ rfl
 .exact A00 _<|A00 _<|A00 _<|A00 _<|A00 _ q
theorem t!:∀xs ys (i:Nat),(Z.jo xs ys)[i]?=(xs[i]?).bind λ x=>(ys[i]?).map λ y=>Z.pair x y
|[],ys,i=>by cases ys<;>simp[Z.jo]
|x::xs,[],i=>by simp[Z.jo]
|x::xs,y::ys,0=>by simp[Z.jo]
|x::xs,y::ys,i+1=>by simp[Z.jo,t! xs ys i]
theorem Al:∀xs ys,(Z.jo xs ys).length=min xs.length ys.length
|[],ys=>by cases ys<;>simp[Z.jo]
|x::xs,[]=>by simp[Z.jo]
|x::xs,y::ys=>by simp[Z.jo,Al xs ys]
structure Gives(K:Do)(J:UP)(S:Hp->Prop)(ds:List Z.D):Prop where
 at_:∀(i:Nat) d H1,S H1->ds[i]?=AC d->(∃y,J.at_ i H1 y)/\∀y,J.at_ i H1 y->Den K H1 d y
 end_:∀H1,S H1->J.end_ ds.length H1
theorem Fq{K:Fa}(g1:Gives K J1 S xs)(g2:Gives K J2 S ys):Cn K (_S J1 J2) S (Z.jo xs ys) where
 go:=λ i d H1 s hi=>by
  rw[t!]at hi;cases q:xs[i]? with
  |none=>rw[q]at hi;cases hi
  |some x=>
   rw[q]at hi;cases q2:ys[i]? with
   |none=>simp[q2]at hi
   |some y=>exact⟨(g1.at_ i x H1 s q).1,(g2.at_ i y H1 s q2).1⟩
 EC:=λ i d H1 H2 x s hi y=>by
  obtain⟨T,y1,y2,hT,rfl,rfl,a1,a2⟩:=y;rw[t!]at hi;cases q:xs[i]? with
  |none=>rw[q]at hi;cases hi
  |some x=>
   rw[q]at hi;cases q2:ys[i]? with
   |none=>simp[q2]at hi
   |some y=>simp only[q2,B96,A81,B28]at hi;subst hi;have sm:aI H1 (upd H1 T<|.tup [y1,y2]):=bP hT;exact⟨sm,fG (.inl<|.inl aV)<|aG.cons (((g1.at_ i x H1 s q).2 y1 a1).up sm)<|aG.cons (((g2.at_ i y H1 s q2).2 y2 a2).up sm) aG.nil⟩
 stop:=λ H1 s=>by
  rw[Al];have e1:=g1.end_ H1 s;have e2:=g2.end_ H1 s;rcases Nat.lt_trichotomy _ _ with h|h|h
  .rw[B97<|A69 h];exact .inl ⟨e1,.inl (g2.at_ _ _ H1 s<|A01 h).1⟩
  .rw[B97<|B71 h];rw[<-h]at e2;exact .inl ⟨e1,.inr e2⟩
  .rw[Nat.min_eq_right<|A69 h];exact .inr ⟨(g1.at_ _ _ H1 s<|A01 h).1,e2⟩
theorem rg{K:Do}(h:mI K H q vs)(t:aG K H ds vs):Gives K (G? K q vs) (iQ H) ds:=
 ⟨λ i d H1 s hi=>by obtain⟨y,hy,dy⟩:=t.get hi;refine⟨⟨y,fN s h,hy⟩,λ y' Kx=>?_⟩;have:=Kx.2;rw[hy]at this;cases this;exact dy.ups s,λ H1 s=>⟨fN s h,t.length⟩⟩
theorem Hk{K:Do}(h:Q5 K H q vs)(t:aG K H ds vs):Gives K (Oz K q vs) (iQ H) ds:=
 ⟨λ i d H1 s hi=>by obtain⟨y,hy,dy⟩:=t.get hi;refine⟨⟨y,(h.mono s).sq,hy⟩,λ y' Kx=>?_⟩;have:=Kx.2;rw[hy]at this;cases this;exact dy.ups s,λ H1 s=>⟨(h.mono s).sq,t.length⟩⟩
section
variable{X:Cx}{a b:ι}{pos p p2:Pos}{fa fb:Z.EF}{elts:γ ι}{x1:Nat}
theorem FA(I:Inv X χ σ H s):∀b∈[s.heap.objs.size+4,s.heap.objs.size+2,s.heap.objs.size+3,s.heap.objs.size,s.heap.objs.size+1],qk X χ H b:=λ b hb=>by
 have h:s.heap.objs.size<=b:=by simp only[o0,A14]at hb;lia
 exact I.vw h<|I.bQ.fresh h
theorem Fb(n:Nat):[n+4,n+2,n+3,n,n+1].Nodup:=by simp only[A45,o0,A14,B25,B27];lia
theorem _root_.ZQ.zJ(hm:X.mg "zip"=Ch)(ha:ZQ.QE X a fa)(hb:ZQ.QE X b fb)(hs:starEach [a,b] X.env=[(AT,eval a X.env),(AT,eval b X.env)]:=by rfl)(zt:starEach [b] X.env=[(AT,eval b X.env)]:=by rfl)(h1:Se a [b] X.env:=by rfl)(h2:Se b [] X.env:=by rfl)(hg:Gl X "zip":=by rfl):ZQ.QJ X (.Tuple elts x1 p2) (.Call (.Name "zip" p) [a,b] [] pos) (Z.Kv fa fb):=⟨by
 intro χ s σ H R I w;obtain⟨ρ,ds,r,e,k⟩:=w;obtain⟨d1,ea,e⟩:=bd e;obtain⟨d2,eb,e⟩:=bd e;obtain⟨xs,ex,e⟩:=bd e;obtain⟨ys,ey,e⟩:=bd e;cases e;refine Call_<|lh I hg hm (by kernel_rfl:bootBuiltins "zip"=AC (.type "zip"))<|A96 (cS ((a7 ha.p (a7 hb.p b9 h2) h1) pos χ s σ H (λ vs H1=>∃v u,vs=[v,u]/\aI H H1/\Den X.K H1 d1 v/\Den X.K H1 d2 u) I ⟨ρ,d1,r,ea,λ v H1 s1 q1=>⟨ρ,d2,r.up s1,eb,λ u H2 s2 q2=>⟨v,u,rfl,s1.trans s2,q1.up s2,q2⟩⟩⟩) λ us s1 ⟨vs,H1,I1,r1,q1⟩=>?_) (by rw[hs,zt]) (by rw[zt];rfl);obtain⟨v,u,rfl,sm,_u,hd2⟩:=q1;obtain⟨u1,u2,rfl,ru1,ru2⟩:=vals2 r1;have aco:∃_W,d2=.tup _W/\_W=ys:=by
  cases d2 with
  |tup _W=>cases ey;exact⟨_,rfl,rfl⟩
  |non=>cases ey
  |bl _=>cases ey
  |int _=>cases ey
  |str _=>cases ey
  |lst _=>cases ey
  |dct _ _=>cases ey
 obtain⟨_,rfl,rfl⟩:=aco;obtain⟨q2,Ze,rfl,KD,t2⟩:=bJ.tup (.inl hd2);cases ru2;obtain⟨iL,rv2,pt2,_⟩:=I1.tuple KD;cases d1 with
 |tup _X=>cases ex;obtain⟨q,vs,rfl,hq,t⟩:=bJ.tup (.inl _u);cases ru1;obtain⟨bx,rv,pt,hz⟩:=I1.tuple hq;obtain⟨f1,f2,f3,f4,f5,f6⟩:=Am "tuple_iterator" "tuple_iterator" s1.heap q q2;refine callType_new F.called_zip (by decide) (F.typeCall_zip_2 _ _) (F.newCall_zip_2 _ _) (λ obj=>F.args_object_init_3 obj _ _) F.entry_zip_new (Bl q q2 bx.toArray iL.toArray) ⟨pt,pt2,⟨_,f1,rfl⟩,B95 f1 ?_⟩;exact⟨_,[s1.heap.objs.size+4,s1.heap.objs.size+2,s1.heap.objs.size+3,s1.heap.objs.size,s1.heap.objs.size+1],_,_S (G? X.K q vs)<|G? X.K q2 Ze,H1,rfl,I1.kept f6,AI tO tO<|Fb _,⟨f1,f2,⟨_,_,f3⟩,⟨_,f4,rfl,rfl⟩,⟨_,f5,rfl,rfl⟩⟩,FA I1,k _ H1 sm<|Fq (rg hq t)<|rg KD t2⟩
 |lst _X=>cases ex;simp only[Den]at _u;obtain⟨q,vs,rfl,hq,t⟩:=_u;cases ru1;obtain⟨bx,rv,pt,hz⟩:=I1.list hq.sq;obtain⟨f1,f2,f3,f4,f5,f6⟩:=Am "list_iterator" "tuple_iterator" s1.heap q q2;refine callType_new F.called_zip (by decide) (F.typeCall_zip_2 _ _) (F.newCall_zip_2 _ _) (λ obj=>F.args_object_init_3 obj _ _) F.entry_zip_new (Bm q q2 bx.toArray iL.toArray) ⟨pt.isList,pt2,⟨_,f1,rfl⟩,B95 f1 ?_⟩;exact⟨_,[s1.heap.objs.size+4,s1.heap.objs.size+2,s1.heap.objs.size+3,s1.heap.objs.size,s1.heap.objs.size+1],_,_S (Oz X.K q vs)<|G? X.K q2 Ze,H1,rfl,I1.kept f6,AI EU tO<|Fb _,⟨f1,f2,⟨_,_,f3⟩,⟨_,f4,rfl,rfl⟩,⟨_,f5,rfl,rfl⟩⟩,FA I1,k _ H1 sm<|Fq (Hk hq t)<|rg KD t2⟩
 |non=>cases ex
 |bl _=>cases ex
 |int _=>cases ex
 |str _=>cases ex
 |dct _ _=>cases ex⟩
end
end ZS
namespace ZQ
open L2 ZS
end ZQ
namespace Z
def y?:D->D->Res D
|.str [c],.int n=>guard (0<=n/\n<=16777216)<|.ok<|.str<|List.replicate n.toNat c
|_,_=>.bad
theorem JN(c:Nat)(n:Int):y? (.str [c]) (.int n)=guard (0<=n/\n<=16777216) (.ok<|.str<|List.replicate n.toNat c):=rfl
theorem Nx(h:y? x y=.ok d):∃c n,x=.str [c]/\y=.int n/\0<=n/\n<=16777216/\d=.str (EQ n.toNat c):=by
 unfold y? at h;split at h
 .obtain⟨⟨h0,h1⟩,e⟩:=cX h;cases e;exact⟨_,_,rfl,rfl,h0,h1,rfl⟩
 .cases h
end Z
namespace ZS
open L2
theorem Sd:jQ X (binaryOp .Mult) (λ x y H Q=>∃i n,x=.str i/\y=.int n/\MulOk i n/\Q (.str<|Txt.mul i n) H):=by intro χ s σ H x y v u Q I rx ry h;obtain⟨i,n,rfl,rfl,hz,q⟩:=h;obtain⟨t,rfl⟩:=rx;obtain⟨t',rfl⟩:=ry;exact SB.mul hz λ t' k=>⟨.str _,H,I.tok _,⟨_,rfl⟩,q⟩
theorem BH(c:Nat):∀n xs,(EQ n<|#[c]).foldl (·++·) xs.toArray=(xs++EQ n c).toArray
|0,xs=>by simp
|n+1,xs=>by rw[B56,AC8,show xs.toArray++(#[c])=(xs++[c]).toArray by simp,BH];simp[B56]
theorem mul_one(c:Nat)(h0:0<=n):Txt.mul ⟨[c].toArray⟩ n=⟨(EQ n.toNat c).toArray⟩:=by
 unfold Txt.mul;by_cases h1:n<1
 .have:n=0:=by lia
  subst this;rfl
 .rw[v6 h1];by_cases h2:n=1
  .subst h2;rfl
  .have:¬(n==1||(⟨[c].toArray⟩:Str).length==0)=Da:=by simp[h2,Str.length]
   rw[v6 this];have:=BH c n.toNat [];rw[B07]at this;exact A11 _ this
theorem GU(c:Nat)(h0:0<=n)(h1:n<=16777216):MulOk ⟨[c].toArray⟩ n:=by
 refine⟨?_,λ h _=>?_,λ h _=>?_⟩
 .have a:¬n < -(2^63):=by lia
  have b:¬n≥(2^63):=by lia
  simp only[a,b,decide_false,Bool.or_self]
 .have e:(⟨[c].toArray⟩:Str).length=1:=rfl;rw[e];have:1<=((2^63-1)) / n:=(Int.le_ediv_iff_mul_le (by lia)).mpr (by lia);lia
 .have e:(⟨[c].toArray⟩:Str).length=1:=rfl;rw[e,Nat.one_mul];have:¬n.toNat>sizeLine:=by rw[A27];lia
  exact A49 this
theorem _root_.ZQ.Eb(ha:ZQ.QW X a fa)(hb:ZQ.QW X b fb):ZQ.QE X (.BinOp a .Mult b pos) (Z.eB Z.y? fa fb):=⟨vJ Sd (λ x y dx dy d H Q h1 h2 e k=>by obtain⟨c,n,rfl,rfl,h0,h3,rfl⟩:=Z.Nx e;refine⟨_,_,h1.str,h2.int,GU c h0 h3,?_⟩;rw[mul_one c h0];exact k _ H (aI.refl H) dI) ha.p hb.p⟩
end ZS
namespace ZQ
open L2 ZS
end ZQ
namespace Z
end Z
namespace ZS
open L2
section
variable{X:Cx}
theorem BX{K:Do}(h:Den K H d w):∀n,aG K H (EQ n d) (EQ n w)
|0=>aG.nil
|n+1=>aG.cons h<|BX h n
end
end ZS
namespace ZQ
open L2 ZS
end ZQ
namespace Z
theorem FD(bs:γ Bool)(n:Nat)(b:SF)(ds:γ D)(h:ds.length=bs.length):Ck bs n b ds=bH (b<|startB n bs ds):=by
 unfold Ck;rw[f8 h];cases b _ with
 |bad=>rfl
 |ok f=>cases f<;>rfl
def jr:γ D->ε (γ<|γ Nat)
|[]=>AC []
|.str c::r=>(jr r).map (c::·)
|_::_=>Ch
def cz(sep:γ Nat):γ (γ Nat)->γ Nat
|[]=>[]
|[x]=>x
|x::y::r=>x++sep++cz sep (y::r)
def mi:D->D->Res D
|.str sep,.lst xs=>match jr xs with
 |some ts=>guard ((ts.map List.length).sum+ts.length*sep.length<=line)<|.ok<|.str<|cz sep ts
 |none=>.bad
|_,_=>.bad
theorem Bb(h:mi x y=.ok d):∃sep xs ts,x=.str sep/\y=.lst xs/\jr xs=AC ts/\(ts.map List.length).sum+ts.length*sep.length<=16777216/\d=.str (cz sep ts):=by
 unfold mi at h;split at h
 .split at h
  .rename_i hs;obtain⟨h1,e⟩:=cX h;cases e;exact⟨_,_,_,rfl,rfl,hs,h1,rfl⟩
  .cases h
 .cases h
theorem n9:∀ts,jr (ts.map D.str)=AC ts
|[]=>rfl
|t::ts=>by simp[jr,n9 ts]
theorem xV:∀ts,cz [] ts=ts.flatten
|[]=>rfl
|[x]=>by simp[cz]
|x::y::r=>by rw[cz,xV];simp
theorem xE{ts:γ _}(h:ts.flatten.length<=16777216):mi (.str []) (.lst<|ts.map D.str)=.ok (.str ts.flatten):=by show(match jr _ with|some ts=>guard _ _|none=>Res.bad)=_;rw[n9];simp only[xV];rw[guard_pos];rw[List.length_flatten]at h;simpa using h
end Z
namespace ZS
open L2
def EA(K:Do)(H:Hp)(b:Bool)(d:Z.D)(v:V):Prop:=if b=Da then jP K H d v else Den K H d v
def ia(K:Do)(H:Hp):γ Bool->γ Z.D->γ V->Prop
|[],[],vs=>vs=[]
|b::bs,d::ds,vs=>∃v r,vs=v::r/\EA K H b d v/\ia K H bs ds r
|_,_,_=>False
theorem ia.length{K:Do}:∀{bs}{ds}{vs},ia K H bs ds vs->vs.length=ds.length/\ds.length=bs.length
|[],[],vs,h=>by have:=h;subst this;exact⟨rfl,rfl⟩
|[],_::_,_,h=>h.elim
|_::_,[],_,h=>h.elim
|b::bs,d::ds,_,⟨v,r,e1,h1,h2⟩=>by have:=ia.length h2;subst e1;simp[this.1,this.2]
theorem ia.get{K:Do}{H:Hp}:∀{bs}{ds}{vs}{i:Nat}{b}{d},ia K H bs ds vs->bs[i]?=AC b->ds[i]?=AC d->∃v,vs[i]?=AC v/\EA K H b d v
|[],[],_,_,_,_,_,e,_=>by simp at e
|[],_::_,_,_,_,_,h,_,_=>h.elim
|_::_,[],_,_,_,_,h,_,_=>h.elim
|b::bs,d::ds,_,0,b',d',⟨v,r,e1,h1,h2⟩,eb,ed=>by simp at eb ed;subst e1;subst eb;subst ed;exact⟨v,rfl,h1⟩
|b::bs,d::ds,_,i+1,b',d',⟨v,r,e1,h1,h2⟩,eb,ed=>by subst e1;obtain⟨u,q1,q2⟩:=ia.get h2 (by simpa using eb) (by simpa using ed);exact⟨u,by simpa using q1,q2⟩
def _5(K:Do)(bs:γ Bool)(f:Z.AF):TA:=λ σ H Q=>∃ρ ds,RE K H σ ρ/\f ρ=.ok ds/\∀vs H',aI H H'->ia K H' bs ds vs->Q vs H'
abbrev _V(X:Cx)(es:γ ι)(bs:γ Bool)(f:Z.AF):Prop:=PA X es<|_5 X.K bs f
structure _root_.ZQ.PH(X:Cx)(es:List Expr)(bs:List Bool)(f:Z.AF):Prop where p:_V X es bs f
theorem _root_.ZQ.bY:ZQ.PH X [] [] Z.az:=⟨PA.imp b9 λ σ H Q ⟨ρ,ds,r,e,k⟩=>by cases e;exact k [] H (aI.refl H) rfl⟩
theorem _root_.ZQ.bA(ha:ZQ.QE X e f)(hr:ZQ.PH X es bs g)(hs:Se e es X.env:=by rfl):ZQ.PH X (e::es) (AT::bs) (Z.aa f g):=⟨PA.imp (a7 ha.p hr.p hs) λ σ H Q ⟨ρ,ds,r,e,k⟩=>by obtain⟨x,ea,e⟩:=bd e;obtain⟨xs,eb,e⟩:=bd e;cases e;exact⟨ρ,x,r,ea,λ v H1 s1 d1=>⟨ρ,xs,r.up s1,eb,λ vs H2 s2 t=>k _ H2 (s1.trans s2) ⟨v,vs,rfl,Den.up d1 s2,t⟩⟩⟩⟩
def CS(K:Do)(bs:γ Bool)(m:γ Z.D->Z.Res Z.D):Sp:=λ vs H Q _=>∃ds d,ia K H bs ds vs/\m ds=.ok d/\∀v H',aI H H'->Den K H' d v->Q v H'
theorem Lx(F:e6 X.prog X.w X.K X.mg X.base jn k g fd ps (CS X.K bs m))(hr:bB k X.A)(hg:Gl X x)(hm:X.mg x=AC (.ref g))(hk:Fk X.K (.ref g)=Da)(hb:Binds X.K fd ps [])
 (ha:_V X (e::es) bs ar) (ir:(x==("__debug__"))=AT:=by decide +kernel) (he:Se e es X.env:=by rfl) (dX:Pn pos es X.env:=by rfl) :
 DE X (.Call (.Name x p1) (e::es) [] pos) (Z.aA m ar):=
 PE.imp (yU F hr hg hm hk hb .nil uE ha ir he dX) λ σ H Q ⟨ρ,d,r,e,k⟩=>by obtain⟨ds,ea,e⟩:=bd e;refine⟨ρ,ds,r,ea,λ vs H1 s1 d1=>?_⟩;show CS X.K bs m _ H1 Q E0;rw[A56];exact⟨ds,d,d1,e,λ v H' s2 dv=>k v H' (s1.trans s2) dv⟩
section
variable{K:Do}
theorem Dv(b:Bool)(d:Z.D)(xs:γ Z.D):Z.sI b d≠.own xs:=by unfold Z.sI;split<;>intro h<;>cases h
theorem Dw(b:Bool)(d:Z.D)(ks:Z.DK):Z.sI b d≠.dc ks:=by unfold Z.sI;split<;>intro h<;>cases h
theorem Fh(h:EA K H b d v):RL K H (Z.sI b d) v:=by
 cases b with
 |false=>exact(h)
 |true=>
  have h':=h;have st:(∀ds,d≠.lst ds)->(∀ks vs,d≠.dct ks vs)->Den K H d v:=λ n1 n2=>by
   rcases h' with h|⟨a,kd,ks,ds,u,e1,_⟩
   .exact h.n? n1
   .exact absurd e1<|n2 _ _
  cases d with
  |lst xs=>exact h'
  |non=>exact st (λ _ z=>nomatch z) λ _ _ z=>nomatch z
  |bl _=>exact st (λ _ z=>nomatch z) λ _ _ z=>nomatch z
  |int _=>exact st (λ _ z=>nomatch z) λ _ _ z=>nomatch z
  |str _=>exact st (λ _ z=>nomatch z) λ _ _ z=>nomatch z
  |tup _=>exact st (λ _ z=>nomatch z) λ _ _ z=>nomatch z
  |dct _ _=>exact h'
theorem oa(t:ia K H bs ds vs)(hl:vs.length<=N.length):RS K H H (L2.start N vs) (Z.startB N.length bs ds):=by
 obtain⟨ψ,hbl⟩:=t.length;have hz:(cr (λ b d=>AC<|Z.sI b d) bs ds).length=ds.length:=by simp[hbl]
 have key:∀(i:Nat) l,(Z.startB N.length bs ds)[i]?=AC (AC l)->∃b d,l=Z.sI b d/\∃v,(L2.start N vs)[i]?=AC (AC v)/\EA K H b d v:=by
  intro i l e;unfold Z.startB at e;by_cases hi:i<ds.length
  .rw[A37 (by rw[hz];exact hi)]at e;have qm:i<bs.length:=by lia
   rw[List.getElem?_zipWith,A01 qm,A01 hi]at e;simp only at e;cases e;obtain⟨v,h1,h2⟩:=t.get (A01 qm) (A01 hi);refine⟨_,_,rfl,v,?_,h2⟩;unfold L2.start;rw[A37 (by simp;lia),A04,h1];rfl
  .rw[A52 (by rw[hz];lia),A46]at e;split at e<;>cases e
 have Bf:∀(i:Nat) xs,(Z.startB N.length bs ds)[i]?≠AC (AC<|.own xs):=λ i xs e=>by obtain⟨b,d,h,_⟩:=key i _ e;exact Dv b d xs h.symm
 refine⟨aI.refl H,⟨?_,λ i l e=>?_,λ i j xs ys q e1=>absurd e1<|Bf i xs⟩,λ i xs q e1=>absurd e1<|Bf i xs,λ i xs e1=>?_,i9.non λ i ks e=>by obtain⟨b,d,h,_⟩:=key i _ e;exact Dw b d ks h.symm⟩
 .unfold Z.startB L2.start;rw[A20,A20,hz,A47,A09,A47,ψ]
 .obtain⟨b,d,rfl,v,h1,h2⟩:=key i l e;exact⟨v,h1,Fh h2⟩
 .obtain⟨b,d,h,v,h1,h2⟩:=key i _ e1;have:=Fh h2;rw[<-h]at this;exact⟨v,h1,jP.z this⟩
theorem Yt{st:θ}{f:δ}{fd:υ}{N ps:γ Str}{bs:γ Bool}{k:Nat}{b:Z.SF}(nR:bs.length=ps.length)(F:Ez K x qual st f fd)(S:a_ N ps (ah st))
 (hb:∀ a! A outer s H E,bB k (A.deeper<|envOfC qual (ah st) s.heap.objs.size f a!) ->
  L8 (dO jn P w K mg base N qual (ah st) f a! A outer s H E).f_ H (aM st) b):e6 P w K mg base jn (k+1) f fd ps (CS K bs<|Z.Ck bs N.length b):=by
 have ψ:∀vs H Q E,CS K bs (Z.Ck bs N.length b) vs H Q E->vs.length=ps.length:=λ vs H Q E ⟨ds,d,t,e,_⟩=>by have:=t.length;lia
 refine F.ok S ψ λ a! A outer s H vs Q E hr h=>⟨_,hb a! A outer s H E hr,?_⟩;have hl:=ψ vs H Q E h;obtain⟨ds,d,t,e,k⟩:=h;have dX:ps.length<=N.length:=by have:=A11 List.length S.pre;rw[A31]at this;lia
 have rs:RS K H H (L2.start N vs) (Z.startB N.length bs ds):=oa t (by lia);unfold Z.Ck at e;split at e
 .cases eb:b (Z.startB N.length bs ds)with
  |bad=>rw[eb]at e;cases e
  |ok fl=>
   rw[eb]at e;refine⟨_,fl,rs,eb,?_⟩;cases fl with
   |rt d'=>cases e;exact λ v H' s' dv=>k v H' s' dv
   |nx ρ'=>cases e;exact λ σ' H' _ Ah=>k .non H' Ah.same j8
   |bk ρ'=>cases e
   |ct ρ'=>cases e
 .cases e
structure HQ(P:Program)(w:World)(K:Do)(mg:Str->Option Value)(base:Heap)(x:Str)(k:Nat)(ps:List Str)(bs:List Bool)(m:List Z.D->Z.Res Z.D):Prop where
 ex:∃g fd,e6 P w K mg base jn k g fd ps (CS K bs m)/\mg x=AC (.ref g)/\Fk K (.ref g)=Da/\Binds K fd ps []
theorem HQ.mk'{st:θ}(nR:bs.length=ps.length)(d:Def K mg x st ps)(S:a_ N ps (ah st))
 (hb:∀ f a! A outer s H E,bB k (A.deeper<|envOfC x (ah st) s.heap.objs.size f a!) ->
  L8 (dO jn P w K mg base N x (ah st) f a! A outer s H E).f_ H (aM st) b):HQ P w K mg base x (k+1) ps bs (Z.Ck bs N.length b):=by
 obtain⟨f,fd,F,hm,qm⟩:=d.ex;exact⟨f,fd,Yt nR F S<|hb f,hm,F.kp,qm⟩
end
theorem _root_.ZQ.qe(C:HQ X.prog X.w X.K X.mg X.base x k ps bs m)(hr:bB k X.A)(hg:Gl X x)
 (ha:ZQ.PH X (e::es) bs ar) (ir:(x==("__debug__"))=AT:=by decide +kernel) (he:Se e es X.env:=by rfl) (dX:Pn pos es X.env:=by rfl) :
 ZQ.QE X (.Call (.Name x p1) (e::es) [] pos) (Z.aA m ar):=
 ⟨let ⟨_,_,F,hm,hk,hb⟩:=C.ex;Lx F hr hg hm hk hb ha.p ir he dX⟩
end ZS
namespace ZQ
open L2 ZS
theorem Uo{K:Do}{st:θ}(nR:bs.length=ps.length)(d:ZS.Def K mg x st ps)(hb:∀{f}{a!}{A}{outer}{s}{H}{E},N.Nodup->(A.deeper<|envOfC x (ah st) s.heap.objs.size f a!).units+64<cLine->bB k (A.deeper<|envOfC x (ah st) s.heap.objs.size f a!)->z! (dO jn P w K mg base N x (ah st) f a! A outer s H E).f_ H (aM st) b)(S:a_ N ps (ah st):=by exact ZS.K0):ZS.HQ P w K mg base x (k+1) ps bs (Z.Ck bs N.length b):=ZS.HQ.mk' nR d S λ f a! A outer s H E hr=>(hb S.nd hr.units hr).p
end ZQ
namespace ZS
open L2
theorem ub:∀{ts}{bx},Vals (ts.map V.str) bx->∃l,strValues l=bx/\l.map (·.1)=ts
|[],bx,h=>by cases h;exact⟨[],rfl,rfl⟩
|t::ts,bx,h=>by
 cases h with
 |cons r rr=>obtain⟨tk,rfl⟩:=r;obtain⟨l,rfl,h2⟩:=ub rr;exact⟨(t,tk)::l,rfl,by rw[<-h2];rfl⟩
def rJoin(K:Do):V->γ V->Hp->VK->Prop:=λ x vs H Q=>∃sep q ts,x=.str sep/\vs=[.ref q]/\ku K H q (ts.map V.str)/\JoinOk sep ts=Da/\Q (.str<|Txt.join sep ts) H
theorem NP:LY X "str.join" (rJoin X.K):=by intro χ s σ H x vs v us Q I rx rv h;obtain⟨sep,q,ts,rfl,rfl,hq,bQ,k⟩:=h;obtain⟨t,rfl⟩:=rx;obtain⟨u,rfl,ru⟩:=rv.one;cases ru;obtain⟨bx,r,pl,hz⟩:=I.list hq;obtain⟨l,rfl,hl⟩:=ub r;exact SC.join pl.isList hl bQ λ t' c=>⟨.str _,H,I.tok c,⟨t',rfl⟩,k⟩
def eX(cs:γ Nat):Str:=⟨cs.toArray⟩
theorem oR{K:Fa}:∀{xs}{ts}{vs},Z.jr xs=AC ts->aG K H xs vs->vs=(ts.map eX).map V.str
|[],ts,vs,e,h=>by cases e;simp only[aG]at h;subst h;rfl
|x::xs,ts,vs,e,h=>by
 cases x with
 |str c=>
  have e':(Z.jr xs).map _=AC ts:=e;cases q:Z.jr xs with
  |none=>rw[q]at e';cases e'
  |some Rm=>rw[q]at e';cases e';simp only[aG]at h;obtain⟨v,r,rfl,hv,ht⟩:=h;simp only[Den]at hv;rw[hv,oR q ht];rfl
 |non=>cases e
 |bl _=>cases e
 |int _=>cases e
 |tup _=>cases e
 |lst _=>cases e
 |dct _ _=>cases e
theorem k_(cs:γ Nat):(eX cs).length=cs.length:=by simp[eX,Str.length]
theorem Fe(a b:γ Nat):eX a++eX b=eX (a++b):=by show(⟨a.toArray++b.toArray⟩:Str)=_;simp[eX]
theorem zl(sep:γ Nat):∀ts,Txt.join (eX sep) (ts.map eX)=eX (Z.cz sep ts):=by
 intro ts;show xL _ _=_;rw[StrLaws.glued_eq_join]
 induction ts with
 |nil=>rfl
 |cons x ts ih=>
  cases ts with
  |nil=>rfl
  |cons y r=>show eX x++eX sep++Str.join _ _=_;rw[ih,Fe,Fe];rfl
theorem Fp{ts:γ _}(h:(ts.map List.length).sum+ts.length*sep.length<=16777216):JoinOk (eX sep) (ts.map eX)=Da:=by
 unfold JoinOk;rw[StrLaws.joinTotal];have e:(ts.map eX).map (·.length)=ts.map List.length:=by rw[A36];exact A80 λ x _=>k_ x
 rw[e,A09,k_];simp only[Builtin.Str.tooLong,B57,decide_eq_false_iff_not,B05];rw[A27];exact h
theorem _root_.ZQ.zN(ho:ZQ.QE X o fa)(hb:ZQ.QW X b fb)
 (jE:attributeBase o "join" X.env (eval o X.env)=eval o X.env:=by rfl)
 (oO:((backTo p2<|starEach (b::[]) X.env).all (λ x=>!x.1)&&(backToKw p2<|keywordEach [] X.env).all (λ x=>x.1.isSome)
  && decide ((b::[]).length+([]:γ π).length+(if([]:γ π).isEmpty then 0 else 1)<30))=Da:=by rfl)
 (jD:(p1.endLine==p2.line)=Da:=by rfl) (nO:Se b [] X.env:=by rfl) (gj:Pn p2 [] X.env:=by rfl) :
 ZQ.QE X (.Call (.Attribute o "join" p1) [b] [] p2) (Z.eB Z.mi fa fb):=
 ⟨PE.imp (uD B58 C25 C26 NP ho.p (a7 hb.p b9 nO) jE oO jD nO gj) λ σ H Q ⟨ρ,d,r,e,k⟩=>by obtain⟨x,ea,e⟩:=bd e;obtain⟨y,eb,e⟩:=bd e;obtain⟨sep,xs,ts,rfl,rfl,et,hl,rfl⟩:=Z.Bb e;refine⟨ρ,_,r,ea,λ v H1 s1 d1=>?_⟩;simp only[Den]at d1;subst d1;refine⟨rfl,ρ,_,r.up s1,eb,λ u H2 s2 d2=>?_⟩;obtain⟨q,vs,rfl,hq,t⟩:=d2.lst;rw[oR et t]at hq;refine⟨eX sep,q,ts.map eX,rfl,rfl,hq,Fp hl,?_⟩;rw[zl];exact k _ H2 (s1.trans s2) dI⟩
end ZS
namespace ZQ
open L2 ZS
end ZQ
namespace ZS
open L2
section
variable{e st:ι}
end
end ZS
namespace ZQ
open L2 ZS
end ZQ
namespace Z
def l_(_:Env):Res Fl:=.bad
@[simp] theorem aaA(ρ:Env):l_ ρ=.bad:=rfl
def D!(_:Env):Res D:=.bad
@[simp] theorem ac3(ρ:Env):D! ρ=.bad:=rfl
def E!:D->D->Res D
|.tup [d],.int n=>guard (0<=n/\n<=1000000)<|.ok<|.tup<|List.replicate n.toNat d
|_,_=>.bad
theorem JO(h:E! x y=.ok d):∃e n,x=.tup [e]/\y=.int n/\0<=n/\n<=1000000/\d=.tup (EQ n.toNat e):=by
 unfold E! at h;split at h
 .obtain⟨⟨h0,h1⟩,e⟩:=cX h;cases e;exact⟨_,_,rfl,rfl,h0,h1,rfl⟩
 .cases h
end Z
namespace ZS
open L2
theorem _root_.ZQ.gu{st:θ}:ZQ.QS X H0 st Z.l_:=⟨λ _ _ _ _ _ _ ⟨_,_,_,e,_⟩=>nomatch e⟩
theorem _root_.ZQ.zO:ZQ.QE X e Z.D!:=⟨λ _ _ _ _ _ _ ⟨_,_,_,e,_⟩=>nomatch e⟩
structure PN(K:Do)(x qual:Str)(st:Stmt)(f:Addr)(fd:FuncData):Prop where
 ex:∃(oc:Value)(od:Option Addr)(dV kV doc pm:Value)(an:Option Addr)(a! ct:Value)(wC:Array (Option Value)),
  fd=On x qual (bI st) (aM st) (ah st) dV kV doc pm an a! ct/\K.lookup f=AC ⟨oc,od,.func fd,wC⟩/\PP K a! qual=Da
 kp:Fk K (.ref f)=Da
section
variable{K:Do}
theorem PN.ok{st:θ}(F:PN K x qual st f fd)(S:a_ N ps (ah st))(len:∀vs H Q E,sp vs H Q E->vs.length=ps.length)
 (BD:∀ a! A outer s H vs Q E,bB k (A.deeper<|envOfC qual (ah st) s.heap.objs.size f a!)->sp vs H Q E ->
  ∃t,sr (dO jn P w K mg base N qual (ah st) f a! A outer s H E).f_ (aM st) t/\t {nx:=λ _ H'=>Q .non H',rt:=Q} (start N vs) H):e6 P w K mg base jn (k+1) f fd ps sp:=by
 obtain⟨oc,od,dV,kV,doc,pm,an,a!,ct,wC,rfl,lk,nQ⟩:=F.ex;refine BI lk nQ S len λ A outer s H vs Q E hr Fx=>?_;obtain⟨t,h,q⟩:=BD a! A outer s H vs Q E hr Fx;exact⟨t,h.f_,q⟩
theorem acK{st:θ}(F:PN K x qual st f fd)(S:a_ N ps (ah st))
 (hb:∀ a! A outer s H E,bB k (A.deeper<|envOfC qual (ah st) s.heap.objs.size f a!) ->
  L8 (dO jn P w K mg base N qual (ah st) f a! A outer s H E).f_ H (aM st) b):e6 P w K mg base jn (k+1) f fd ps (Ci K<|Z.fn ps.length N.length b):=by
 have ψ:∀vs H Q E,Ci K (Z.fn ps.length N.length b) vs H Q E->vs.length=ps.length:=λ vs H Q E ⟨ds,d,t,e,_⟩=>by
  unfold Z.fn at e;split at e
  .rename_i h;rw[t.length];exact h
  .cases e
 refine F.ok S ψ λ a! A outer s H vs Q E hr h=>⟨_,hb a! A outer s H E hr,?_⟩;have hl:=ψ vs H Q E h;obtain⟨ds,d,t,e,k⟩:=h;have dX:ps.length<=N.length:=by have:=A11 List.length S.pre;rw[A31]at this;lia
 have rs:RS K H H (L2.start N vs) (Z.start N.length ds):=mR t (by lia);unfold Z.fn at e;split at e
 .cases eb:b (Z.start N.length ds)with
  |bad=>rw[eb]at e;cases e
  |ok fl=>
   rw[eb]at e;refine⟨_,fl,rs,eb,?_⟩;cases fl with
   |rt d'=>cases e;exact λ v H' s' dv=>k v H' s' dv
   |nx ρ'=>cases e;exact λ σ' H' _ Ah=>k .non H' Ah.same j8
   |bk ρ'=>cases e
   |ct ρ'=>cases e
 .cases e
structure PR(K:Do)(mg:Str->Option Value)(x:Str)(st:Stmt)(ps:List Str):Prop where
 ex:∃f fd,PN K x x st f fd/\mg x=AC (.ref f)/\Binds K fd ps []/\Binds K fd ps [.none]
structure Cg(P:Program)(w:World)(K:Do)(mg:Str->Option Value)(base:Heap)(x:Str)(k:Nat)(ps:List Str)(m:List Z.D->Z.Res Z.D):Prop where
 ex:∃g fd,e6 P w K mg base jn k g fd ps (Ci K m)/\mg x=AC (.ref g)/\Fk K (.ref g)=Da/\Binds K fd ps []/\Binds K fd ps [.none]
theorem Cg.full(C:Cg P w K mg base x k ps m):iG P w K mg base x k ps m:=
 let ⟨g,fd,h1,h2,h3,h4,_⟩:=C.ex;⟨g,fd,h1,h2,h3,h4⟩
theorem Cg.mk'{st:θ}(d:PR K mg x st ps)(S:a_ N ps (ah st))
 (hb:∀ f a! A outer s H E,bB k (A.deeper<|envOfC x (ah st) s.heap.objs.size f a!) ->
  L8 (dO jn P w K mg base N x (ah st) f a! A outer s H E).f_ H (aM st) b):Cg P w K mg base x (k+1) ps (Z.fn ps.length N.length b):=by
 obtain⟨f,fd,F,hm,qm,hb2⟩:=d.ex;exact⟨f,fd,acK F S<|hb f,hm,F.kp,qm,hb2⟩
theorem O3{st:θ}{ps:γ Str}{f t:δ}{oc:ζ}{od an:ε δ}{wC:Array (ε ζ)}{kV doc pm a! ct tc:ζ}{td:ε δ}{tn:Nat}{tsl:Array (ε ζ)}
 (l:K.lookup f=AC ⟨oc,od,.func<|PySem.W.fnOf x x (bI st) (aM st) (ah st) (.ref t) kV doc pm an a! ct,wC⟩)
 (c:PP K a! x=Da) (k:Fk K (.ref f)=Da) (lt:K.lookup t=AC ⟨tc,td,.seq #[.none] tn,tsl⟩) (hm:mg x=AC (.ref f))
 (h1:∀us,us.length=ps.length->∃kk,bindArgs (On x x (bI st) (aM st) (ah st) (.ref t) kV doc pm an a! ct) ⟨us,[]⟩=seqItems? (.ref t)>>=kk/\kk (AC #[.none])=pure (ps.zip us))
 (h2:∀us,us.length+1=ps.length->∃kk,bindArgs (On x x (bI st) (aM st) (ah st) (.ref t) kV doc pm an a! ct) ⟨us,[]⟩=seqItems? (.ref t)>>=kk/\kk (AC #[.none])=pure (ps.zip<|us++[.none])):PR K mg x st ps:=by
 refine⟨f,_,⟨⟨oc,od,.ref t,kV,doc,pm,an,a!,ct,wC,rfl,l,c⟩,k⟩,hm,λ s us hK hl=>?_,λ s us hK hl=>?_⟩
 .rw[A56]at hl ⊢;obtain⟨kk,e1,e2⟩:=h1 us hl;exact BindsTo.of_defaults (T:=t) (items:=#[.none]) rfl (hK t _ lt) rfl e1 e2
 .obtain⟨kk,e1,e2⟩:=h2 us (by simpa using hl);exact BindsTo.of_defaults (T:=t) (items:=#[.none]) rfl (hK t _ lt) rfl e1 e2
end
end ZS
namespace ZQ
open L2 ZS
theorem LL{K:Do}{st:θ}(d:ZS.PR K mg x st ps)(hb:∀{f}{a!}{A}{outer}{s}{H}{E},N.Nodup->(A.deeper<|envOfC x (ah st) s.heap.objs.size f a!).units+64<cLine->bB k (A.deeper<|envOfC x (ah st) s.heap.objs.size f a!)->z! (dO jn P w K mg base N x (ah st) f a! A outer s H E).f_ H (aM st) b)(S:a_ N ps (ah st):=by exact ZS.K0):ZS.Cg P w K mg base x (k+1) ps (Z.fn ps.length N.length b):=ZS.Cg.mk' d S λ f a! A outer s H E hr=>(hb S.nd hr.units hr).p
end ZQ
namespace PySem
open PySem.Sem (wp)
open Builtin
theorem qN:fillsNumberSlot (.type "tuple") "mul"=pure AT:=
 fillsNumberSlot_seq B29.lookup (by decide +kernel) F.slot_tuple_rmul.lookup (by decide +kernel)
theorem yQ:seqRepeat? (.type "tuple")=pure (AC<|.builtin "tuple.__mul__"):=by unfold seqRepeat?;rw[seqSlot_of (name:="__mul__") B29.lookup (by decide +kernel),seqSlot_of (name:="__rmul__") F.slot_tuple_rmul.lookup (by decide +kernel)];rfl
theorem ll(a:Int)(t:Tok)(l:δ)(items:Array ζ)(n:Nat)(dd:ε δ)(sl:Array _):
 Meets (Builtin.«int.__rmul__» ⟨[.int a t,.ref l],[]⟩) (λ _ R s=>s.heap.get? l=AC {cls:=.type "tuple",dict:=dd,data:=.seq items n,slots:=sl}/\R (.ok<|.ret Value.notImplemented) s):=
 .of_wp λ prog w A R s h=>by obtain⟨hp,g,d,tk,os⟩:=s;obtain⟨hl,h⟩:=h;wp_walk;exact⟨_,rfl,h⟩
theorem sF(a:Int)(t:Tok)(l:δ)(x:ζ)(n:Nat)(dd:ε δ)(sl:Array _)(h0:a=0):
 Meets (Builtin.«tuple.__mul__» ⟨[.ref l,.int a t],[]⟩) (λ _ R s=>s.heap.get? l=AC {cls:=.type "tuple",dict:=dd,data:=.seq #[x] n,slots:=sl}/\R (.ok<|.ret<|.ref s.heap.objs.size) {s with heap:=s.heap.push {cls:=.type "tuple",data:=.seq #[]}}):=
 .of_wp λ prog w A R s h=>by
  obtain⟨hp,g,d,tk,os⟩:=s;obtain⟨hl,h⟩:=h;subst h0
  wp_walk
  exact⟨_,rfl,h⟩
theorem sE(a:Int)(t:Tok)(l:δ)(x:ζ)(n:Nat)(dd:ε δ)(sl:Array _)(h0:a=1):
 Meets (Builtin.«tuple.__mul__» ⟨[.ref l,.int a t],[]⟩) (λ _ R s=>s.heap.get? l=AC {cls:=.type "tuple",dict:=dd,data:=.seq #[x] n,slots:=sl}/\R (.ok<|.ret<|.ref l) s):=
 .of_wp λ prog w A R s h=>by
  obtain⟨hp,g,d,tk,os⟩:=s;obtain⟨hl,h⟩:=h;subst h0
  wp_walk
  exact⟨_,rfl,h⟩
theorem sD(a:Int)(t:Tok)(l:δ)(x:ζ)(n:Nat)(dd:ε δ)(sl:Array _)(h1:¬(decide (a < -(2^63))||decide (a≥2^63))=Da)(h2:¬((#[x]).isEmpty||a==1)=Da)(h3:¬(decide (a<=0)||(#[x]).isEmpty)=Da)(h4:¬((#[x]).size)*a>(2^63-1) / 8)(h5:¬Tuple.tupleTooMany (((#[x]).size)*a)=Da)(h6:((EQ a.toNat #[x]).foldl (·++·) #[]).size<=sizeLine):
 Meets (Builtin.«tuple.__mul__» ⟨[.ref l,.int a t],[]⟩) (λ _ R s=>s.heap.get? l=AC {cls:=.type "tuple",dict:=dd,data:=.seq #[x] n,slots:=sl}/\R (.ok<|.ret<|.ref s.heap.objs.size) {s with heap:=s.heap.push {cls:=.type "tuple",data:=.seq ((EQ a.toNat #[x]).foldl (·++·) #[])}}):=
 .of_wp λ prog w A R s h=>by
  obtain⟨hp,g,d,tk,os⟩:=s;obtain⟨hl,h⟩:=h
  wp_walk
  refine B30 (by simpa using h1) ?_
  wp_walk
  refine B30 (by simpa using h2) ?_
  wp_walk
  refine B30 (by simpa using h3) ?_
  wp_walk
  refine B30 (A49 h4) ?_
  wp_walk
  refine B30 (by simpa using h5) ?_
  wp_walk
  exact⟨_,rfl,h⟩
end PySem
namespace ZS
open L2
def Wj(K:Do):R2:=λ x y H Q=>∃l k w,x=.ref l/\y=.int k/\mI K H l [w]/\0<=k/\k<=1000000/\(k=1->Q (.ref l) H)/\(k≠1->∀p,H p=Ch->Q (.ref p) (upd H p<|.tup<|List.replicate k.toNat w))
theorem xX(v:ζ):∀k acc,List.foldl (λ x1 x2=>x1++x2) acc (EQ k #[v])=acc++(EQ k v).toArray
|0,acc=>by simp
|k+1,acc=>by rw[B56,AC8,xX,B56];apply Array.toList_inj.mp;simp
theorem xl(r:RelV w u):∀k,Vals (EQ k w) (EQ k u)
|0=>.nil
|k+1=>.cons r<|xl r k
theorem Ni:jQ X (binaryOp .Mult) (Wj X.K):=by
 intro χ s σ H x y v u Q I rx ry h;obtain⟨l,k,w,rfl,rfl,hq,h0,h1,q1,q2⟩:=h;cases rx;obtain⟨t,rfl⟩:=ry;obtain⟨bx,r,ht,hz⟩:=I.tuple hq;obtain⟨x,rfl,rx⟩:=vals1 r;obtain⟨⟨cls,dd,data,sl⟩,ho,hc,n,hd⟩:=id ht;simp only at hc hd;subst hc hd;have e:=ho;refine wpAny_binaryOp_repeat_ref (by decide) ⟨_,e,rfl⟩ (λ s'=>typeIs_int s' k t) qN F.fills_int_mul F.slot_int_rmul yQ F.slot_int_index.lookup
 <|A53 F.slot_int_rmul (typeIs_int s k t) F.entry_int_rmul (F.args_int_rmul_2 _ _) (ll k t l #[x] n dd sl) ⟨e,rfl,⟨_,e,rfl⟩,?_⟩
 by_cases Qt:k=1
 .exact A53 B29 ⟨_,e,rfl⟩ B98 (B99 _ _) (sE k t l x n dd sl Qt) ⟨e,⟨.ref l,H,I,rfl,q1 Qt⟩⟩
 .by_cases hk0:k=0
  .refine A53 B29 ⟨_,e,rfl⟩ B98 (B99 _ _) (sF k t l x n dd sl hk0) ⟨e,?_⟩;have q:=q2 Qt _<|I.bQ.fresh<|M2 s.heap.objs.size;rw[hk0]at q;refine⟨.ref _,_,I.laid (λ b ob z=>A00 _ z) (M2 _) ?_,rfl,q⟩;exact⟨A41 _,[],.nil,qj.new _ _⟩
  .skip
   have hf:=xX x k.toNat #[];rw[Array.empty_append]at hf;have hs:(1000000)<=sizeLine:=by decide
   refine A53 B29 ⟨_,e,rfl⟩ B98 (B99 _ _) (sD k t l x n dd sl ?_ ?_ ?_ ?_ ?_ ?_) ⟨e,?_⟩
   .simp;lia
   .simp;lia
   .simp;lia
   .show ¬((1))*k>(2^63-1) / 8;lia
   .show ¬(decide<|((1))*k>(sizeLine))=Da;rw[A93];have:=Int.ofNat_le.mpr hs;generalize (sizeLine)=z at this ⊢;lia
   .rw[hf,A05,A47];lia
   .rw[hf];refine⟨.ref _,_,I.laid (λ b ob z=>A00 _ z) (M2 _) ?_,rfl,q2 Qt _<|I.bQ.fresh<|M2 _⟩;exact⟨by rw[A47];lia,_,xl rx k.toNat,qj.new _ _⟩
theorem _root_.ZQ.O5(ha:ZQ.QW X a fa)(hb:ZQ.QW X b fb):ZQ.QE X (.BinOp a .Mult b pos) (Z.eB Z.E! fa fb):=⟨PE.imp (Jw Ni ha.p hb.p) λ σ H Q ⟨ρ,d,r,e,k⟩=>by
 obtain⟨x,ea,e⟩:=bd e;obtain⟨y,eb,e⟩:=bd e;obtain⟨d0,n,rfl,rfl,h0,h1,rfl⟩:=Z.JO e;refine⟨ρ,_,r,ea,λ v H1 s1 d1=>⟨ρ,_,r.up s1,eb,λ u H2 s2 d2=>?_⟩⟩;obtain⟨q,vs,rfl,hq,t⟩:=d1.tup;simp only[aG]at t;obtain⟨w,r',rfl,dw,rfl⟩:=t;refine⟨q,n,w,rfl,d2.int,?_,h0,h1,λ hn=>?_,λ hn p hp=>?_⟩
 .exact fN (l! s2) hq
 .subst hn;exact k _ H2 (s1.trans s2)<|fG (fN (l! s2) hq)<|aG.cons (dw.up s2) aG.nil
 .have s3:aI H2 (upd H2 p<|.tup<|List.replicate n.toNat w):=bP hp;exact k _ _ ((s1.trans s2).trans s3)<|fG (mI.of aV)<|BX ((dw.up s2).up s3) _⟩
end ZS
namespace ZQ
open L2 ZS
end ZQ
namespace Z
def eY(c:Nat):γ Nat->γ (γ Nat)
|[]=>[[]]
|x::r=>if x=c then[]::eY c r else match eY c r with
 |[]=>[[x]]
 |p::ps=>(x::p)::ps
theorem rB:∀{p},c∉p->eY c p=[p]
|[],_=>rfl
|x::r,h=>by have h1:x≠c:=λ e=>h (by simp[e]);have h2:=λ e=>h<|A07 _ e;rw[eY,v6 h1,rB h2]
theorem vL:∀{p} r,c∉p->eY c (p++c::r)=p::eY c r
|[],r,_=>by rw[B07,eY,f8 rfl]
|x::p,r,h=>by have h1:x≠c:=λ e=>h (by simp[e]);have h2:=λ e=>h<|A07 _ e;rw[B21,eY,v6 h1,vL r h2]
theorem lI:∀{ts},ts≠[]->(∀p∈ts,c∉p)->eY c (cz [c] ts)=ts
|[],h,_=>absurd rfl h
|[x],_,h=>rB<|h x (by simp)
|x::y::r,_,h=>by rw[cz,A82,List.singleton_append,vL _<|h x (by simp),lI (by simp) λ p hp=>h p<|A07 _ hp]
def Gi:D->D->Res (γ D)
|.str cs,.str [c]=>guard (cs.length+2<=line)<|.ok<|(eY c cs).map .str
|_,_=>.bad
def Dy(a b:EF)(ρ:Env):Res (γ D):=(a ρ).bind λ x=>(b ρ).bind λ y=>Gi x y
theorem RF(cs:γ Nat)(c:Nat):Gi (.str cs) (.str [c])=guard (cs.length+2<=line) (.ok<|(eY c cs).map .str):=rfl
theorem MQ(h:Gi x y=.ok ds):∃cs c,x=.str cs/\y=.str [c]/\cs.length+2<=line/\ds=(eY c cs).map .str:=by
 unfold Gi at h;split at h
 .obtain⟨h1,e⟩:=cX h;cases e;exact⟨_,_,rfl,rfl,h1,rfl⟩
 .cases h
def k!:D->D->Res D
|.str sep,.tup xs=>mi (.str sep)<|.lst xs
|_,_=>.bad
theorem GJ(h:k! x y=.ok d):∃sep xs ts,x=.str sep/\y=.tup xs/\jr xs=AC ts/\(ts.map List.length).sum+ts.length*sep.length<=16777216/\d=.str (cz sep ts):=by
 unfold k! at h;split at h
 .obtain⟨sep,xs,ts,e1,e2,h1,h2,h3⟩:=Bb h;cases e1;cases e2;exact⟨_,_,ts,rfl,rfl,h1,h2,h3⟩
 .cases h
@[simp] theorem Xr(a b:EF)(ρ:Env):Dy a b ρ=(a ρ).bind λ x=>(b ρ).bind λ y=>Gi x y:=rfl
end Z
namespace ZS
open L2
theorem B9(hy:(y.length == 0)=AT)(hx:x.length+2<=sizeLine)
 (hq:∀l k,l.map (·.1)=Txt.split x y->Q (.ref s.heap.objs.size) {s with toks:=k,heap:=s.heap.push {cls:=.type "list",data:=.seq (strValues l).toArray}}) :
 FM (model prog w) A (call (.builtin "str.split") [.str x t,.str y u]) Q E s:=by
 cases h1:(decide (x.length<y.length)||decide (ol x<ol y))
 .cases hf:(Go x y 0 _ _).isEmpty
  .have e:Txt.split x y=Builtin.Str.partsBetween x _ _:=(v6<|C00 h1).trans<|v6<|C00 hf;refine A53 C01 (A77 _ _ _) C02 (C03 _ _) (meets_str_split_sep x y t u h1 hy hf (by lia) (by rw[<-e];exact A23 (C27 x y) hx)) ?_;rw[strsFrom_eq];exact hq (numbered s.toks _) _<|(numbered_texts _ _).trans e.symm
  .exact A53 C01 (A77 _ _ _) C02 (C03 _ _) (meets_str_split_not_found x y t u h1 hy hf)
   <|hq [(x,t)] s.toks ((v6<|C00 h1).trans<|f8 hf).symm
 .exact A53 C01 (A77 _ _ _) C02 (C03 _ _) (meets_str_split_cannot_occur x y t u h1)
  <|hq [(x,t)] s.toks (f8 h1).symm
theorem NV(x:Str):eX x.cps.toList=x:=by cases x;rfl
theorem xv(cs:γ Nat)(c:Nat):Txt.split (eX cs) ⟨#[c]⟩=(Z.eY c cs).map eX:=by
 have hf:=StrLaws.split_free (eX cs) c;have hj:=StrLaws.join_split (eX cs) ⟨#[c]⟩;have hp:=PyProof.Rows.split_pos (eX cs) ⟨#[c]⟩;generalize Txt.split _ ⟨#[c]⟩=L at hf hj hp;have e:L=(L.map (·.cps.toList)).map eX:=by rw[A36];have:(eX∘λ x=>x.cps.toList)=id:=funext NV;rw[this,List.map_id]
 have X9:Txt.join (eX [c]) L=eX cs:=by show xL _ _=_;rw[StrLaws.glued_eq_join];exact hj
 rw[e,zl]at X9;have h3:Z.cz [c] (L.map (·.cps.toList))=cs:=by
  have:((eX (Z.cz [c] (L.map (·.cps.toList)))).cps).toList=(eX cs).cps.toList:=by rw[X9]
  simpa[eX]using this
 rw[<-h3,Z.lI]
 .exact e
 .intro z;have:=List.map_eq_nil_iff.mp z;rw[this]at hp;simp at hp
 .intro p X3;obtain⟨q,hq,rfl⟩:=A18.mp X3;exact hf q hq
theorem xq:∀l,Vals ((l.map (·.1)).map V.str) (strValues l)
|[]=>.nil
|(x,t)::l=>.cons ⟨t,rfl⟩<|xq l
def RT:V->γ V->Hp->VK->Prop:=λ x vs H Q=>∃cs c,x=.str (eX cs)/\vs=[.str ⟨#[c]⟩]/\cs.length+2<=sizeLine/\∀q,H q=Ch->Q (.ref q) (upd H q<|.lst<|((Z.eY c cs).map eX).map V.str)
theorem JZ:LY X "str.split" RT:=by
 intro χ s σ H x vs v us Q I rx rv h;obtain⟨cs,c,rfl,rfl,hl,k⟩:=h;obtain⟨tk,rfl⟩:=rx;obtain⟨u,rfl,ru⟩:=rv.one;obtain⟨tk2,rfl⟩:=ru;refine B9 rfl (by rw[k_];exact hl) λ l kk e=>?_;rw[xv]at e;rw[<-e]at k;refine⟨.ref _,_,I.laid (λ b ob q=>A00 _ q) (M2 _) ?_,rfl,k _<|I.bQ.fresh<|M2 _⟩;have ψ:(l.map (·.1)).length<=sizeLine:=by rw[e,<-xv];refine A23 (C27 _ _) ?_;rw[k_];exact hl
 exact⟨by rw[A09];exact ψ,_,_,xq l,A13 _ rfl⟩
theorem x?{K:Do}:∀(ts:γ _),aG K H (ts.map Z.D.str) ((ts.map eX).map V.str)
|[]=>aG.nil
|t::ts=>aG.cons dI<|x? ts
theorem _root_.ZQ.Li(ho:ZQ.QW X o fa)(hb:ZQ.QW X b fb)
 (jE:attributeBase o "split" X.env (eval o X.env)=eval o X.env:=by rfl)
 (oO:((backTo p2<|starEach (b::[]) X.env).all (λ x=>!x.1)&&(backToKw p2<|keywordEach [] X.env).all (λ x=>x.1.isSome)
  && decide ((b::[]).length+([]:γ π).length+(if([]:γ π).isEmpty then 0 else 1)<30))=Da:=by rfl)
 (jD:(p1.endLine==p2.line)=Da:=by rfl) (nO:Se b [] X.env:=by rfl) (gj:Pn p2 [] X.env:=by rfl) :
 ZQ.QL X (.Call (.Attribute o "split" p1) [b] [] p2) (Z.Dy fa fb):=
 ⟨PE.imp (uD B58 PySem.F.slot_str_split PySem.F.type_str_split JZ ho.p (a7 hb.p b9 nO) jE oO jD nO gj) λ σ H Q ⟨ρ,d,r,e,k⟩=>by obtain⟨x,ea,e⟩:=bd e;obtain⟨y,eb,e⟩:=bd e;obtain⟨cs,c,rfl,rfl,hl,rfl⟩:=Z.MQ e;refine⟨ρ,_,r,ea,λ v H1 s1 d1=>?_⟩;have Ui:=d1.str;subst Ui;refine⟨rfl,ρ,_,r.up s1,eb,λ u H2 s2 d2=>?_⟩;have Uh:=d2.str;subst Uh;refine⟨cs,c,rfl,rfl,by rw[A27];exact hl,λ q hq=>?_⟩;have s3:aI H2 (upd H2 q<|.lst<|((Z.eY c cs).map eX).map V.str):=bP hq;exact k q _ _ ((s1.trans s2).trans s3) ((s1.trans s2).free hq) aV<|x? _⟩
def RU(K:Do):V->γ V->Hp->VK->Prop:=λ x vs H Q=>∃sep q ts,x=.str sep/\vs=[.ref q]/\mI K H q (ts.map V.str)/\JoinOk sep ts=Da/\Q (.str<|Txt.join sep ts) H
theorem J0:LY X "str.join" (RU X.K):=by intro χ s σ H x vs v us Q I rx rv h;obtain⟨sep,q,ts,rfl,rfl,hq,bQ,k⟩:=h;obtain⟨t,rfl⟩:=rx;obtain⟨u,rfl,ru⟩:=rv.one;cases ru;obtain⟨bx,r,pl,hz⟩:=I.tuple hq;obtain⟨l,rfl,hl⟩:=ub r;subst hl;unfold JoinOk at bQ;rw[B57]at bQ;obtain⟨o,ho,hc,n,hd⟩:=pl;exact A53 F.slot_str_join (A77 _ _ _) F.entry_str_join (F.args_str_join_2 _ _) (meets_str_join_tuple sep t q l bQ) ⟨⟨o,n,ho,hc,hd⟩,post_join l ⟨joinFit_length bQ,λ t' c=>⟨.str _,H,I.tok c,⟨t',rfl⟩,k⟩⟩⟩
theorem _root_.ZQ.B0(ho:ZQ.QE X o fa)(hb:ZQ.QW X b fb)
 (jE:attributeBase o "join" X.env (eval o X.env)=eval o X.env:=by rfl)
 (oO:((backTo p2<|starEach (b::[]) X.env).all (λ x=>!x.1)&&(backToKw p2<|keywordEach [] X.env).all (λ x=>x.1.isSome)
  && decide ((b::[]).length+([]:γ π).length+(if([]:γ π).isEmpty then 0 else 1)<30))=Da:=by rfl)
 (jD:(p1.endLine==p2.line)=Da:=by rfl) (nO:Se b [] X.env:=by rfl) (gj:Pn p2 [] X.env:=by rfl) :
 ZQ.QE X (.Call (.Attribute o "join" p1) [b] [] p2) (Z.eB Z.k! fa fb):=
 ⟨PE.imp (uD B58 C25 C26 J0 ho.p (a7 hb.p b9 nO) jE oO jD nO gj) λ σ H Q ⟨ρ,d,r,e,k⟩=>by obtain⟨x,ea,e⟩:=bd e;obtain⟨y,eb,e⟩:=bd e;obtain⟨sep,xs,ts,rfl,rfl,et,hl,rfl⟩:=Z.GJ e;refine⟨ρ,_,r,ea,λ v H1 s1 d1=>?_⟩;simp only[Den]at d1;subst d1;refine⟨rfl,ρ,_,r.up s1,eb,λ u H2 s2 d2=>?_⟩;obtain⟨q,vs,rfl,hq,t⟩:=d2.tup;rw[oR et t]at hq;refine⟨eX sep,q,_,rfl,rfl,hq,Fp hl,?_⟩;rw[zl];exact k _ H2 (s1.trans s2) dI⟩
end ZS
namespace ZQ
open L2 ZS
end ZQ
namespace Z
end Z
namespace ZS
open L2
theorem Ht(h:μ)(hb:sysModules<h.objs.size):gE P w H (h.push {cls:=.type "dict",data:=.dict #[]}) h.objs.size (.dK []):=
 ⟨A41 _,A71.mpr<|A08<|A17 hb,[],.nil,Heap.DictOf.new h⟩
theorem Ks(I:Inv X χ σ H s)(h:H p=AC (.dK xs)):∃o,Inv X χ σ (upd H p<|.dZ o<|.dK xs) s:=by
 have hk:=I.bQ p _ h;obtain⟨z,y,vs,r,hd⟩:=id hk;obtain⟨o,ho⟩:∃o,s.heap.get? p=AC o:=by obtain⟨o,es,ep,ho,_⟩:=hd;exact⟨o,ho⟩
 refine⟨o,I.un ?_ ?_⟩
 .have ne:∀b,H b=Ch->b≠p:=λ b e q=>by rw[q,h]at e;cases e
  refine⟨λ b o q _ _ _=>q,λ b o q _ _ _=>⟨_,q⟩,λ b o q e _=>by rw[aD<|ne b e];exact e,λ b o q _=>⟨o,q⟩,λ b ys e=>?_,λ b o u e=>?_,λ b u pr e=>?_⟩
  .have:b≠p:=by rintro rfl;rw[h]at e;cases e
   rw[aD this];exact e
  .have:b≠p:=by rintro rfl;rw[h]at e;cases e
   rw[aD this];exact e
  .have:b≠p:=by rintro rfl;rw[h]at e;cases e;exact pr
   rw[aD this];exact e
 .intro b u e;by_cases hb:b=p
  .subst hb;rw[aV]at e;cases e;exact⟨ho,z,y,vs,r,hd⟩
  .rw[aD hb]at e;refine(I.bQ b u e).n_ (λ c w _ q=>q) (λ c q=>?_) (λ c ys q=>?_) λ c v pr q=>?_
   .have:c≠p:=by rintro rfl;rw[h]at q;cases q
    rw[aD this];exact q
   .have:c≠p:=by rintro rfl;rw[h]at q;cases q
    rw[aD this];exact q
   .have:c≠p:=by rintro rfl;rw[h]at q;cases q;exact pr
    rw[aD this];exact q
theorem Oy(I:Inv X χ σ H s):sysModules<s.heap.objs.size:=by have h:=(I.mod.glob.keeps I.bk).lt;exact B16 (by decide) h
theorem _root_.ZQ.O!:ZQ.QE X (.Dict [] [] pos) (Z.eC<|.dct [] []):=⟨by
 intro χ s σ H Q I w;obtain⟨ρ,d,r,e,k⟩:=w;cases e;refine wpAny_Dict_empty ?_;have I1:=
  I.laid (t':=s.toks) (λ _ _ q=>A00 _ q) (M2 _)<|Ht _<|Oy I
 obtain⟨o,I2⟩:=Ks I1 aV;have hn:=I.bQ.fresh<|M2 _;refine⟨.ref _,_,I2,rfl,k _ _ (λ b u e=>?_) ?_⟩
 .have:b≠s.heap.objs.size:=by rintro rfl;rw[hn]at e;cases e
  rw[aD this,aD this];exact e
 .simp only[Den];exact⟨_,o,[],rfl,aV,rfl,aG.nil,λ _ _ z=>nomatch z⟩⟩
end ZS
namespace ZQ
open L2 ZS
end ZQ
namespace PySem
namespace F
end F
end PySem
namespace Z
end Z
namespace PySem
section
variable{prog:ο}{w:ξ}{A:ς}{s:η}{R:Result->η->Prop}
variable{I:δ}{fp wr:γ δ}{G:Array GenState->Array GenState->Prop}{n:Nat}{P:Nat->ζ->Prop}{St:Nat->η->Prop}
end
end PySem
namespace ZS
open L2
section
variable{X:Cx}{a:ι}{pos p p1 p2:Pos}{fa:Z.EF}
end
end ZS
namespace ZQ
open L2 ZS
end ZQ
namespace Z
end Z
namespace ZS
open L2
theorem tu{ps:γ Str}(h:∀a0,bindArgs fd ⟨[a0],[]⟩=pure (ps.zip [a0])):∀us,us.length=1->bindArgs fd ⟨us,[]⟩=pure (ps.zip us)
|[a0],_=>h a0
theorem o?{ps:γ Str}(h:∀a0 a1,bindArgs fd ⟨[a0,a1],[]⟩=pure (ps.zip [a0,a1])):∀us,us.length=2->bindArgs fd ⟨us,[]⟩=pure (ps.zip us)
|[a0,a1],_=>h a0 a1
theorem Mm{ps:γ Str}(h:∀a0 a1 a2,bindArgs fd ⟨[a0,a1,a2],[]⟩=pure (ps.zip [a0,a1,a2])):∀us,us.length=3->bindArgs fd ⟨us,[]⟩=pure (ps.zip us)
|[a0,a1,a2],_=>h a0 a1 a2
theorem bd4{ps:γ Str}(h:∀a0 a1 a2 a3,bindArgs fd ⟨[a0,a1,a2,a3],[]⟩=pure (ps.zip [a0,a1,a2,a3])):∀us,us.length=4->bindArgs fd ⟨us,[]⟩=pure (ps.zip us)
|[a0,a1,a2,a3],_=>h a0 a1 a2 a3
theorem bd5{ps:γ Str}(h:∀a0 a1 a2 a3 a4,bindArgs fd ⟨[a0,a1,a2,a3,a4],[]⟩=pure (ps.zip [a0,a1,a2,a3,a4])):∀us,us.length=5->bindArgs fd ⟨us,[]⟩=pure (ps.zip us)
|[a0,a1,a2,a3,a4],_=>h a0 a1 a2 a3 a4
def adu(H0 H1:Hp):Hp->Prop:=λ H2=>iQ H1 H2/\aI H0 H2
def tZk(K:Do)(H0:Hp)(f:Z.LF):TI:=λ σ H R=>∃ρ ds,RS K H0 H σ ρ/\f ρ=.ok ds/\∀J H',aI H H'->Cn K J (adu H0 H') ds->R J H'
abbrev DK(X:Cx)(H0:Hp)(tg e:ι)(f:Z.LF):Prop:=PI X tg e<|tZk X.K H0 f
structure _root_.ZQ.QK(X:Cx)(H0:Hp)(tg e:Expr)(f:Z.LF):Prop where p:DK X H0 tg e f
end ZS
namespace ZQ
open L2 ZS
end ZQ
namespace Z
end Z
namespace ZS
open L2
theorem RS.upq{K:Fa}{q:δ}{ks:Z.DK}{as:γ δ}{u:HO}{l:Z.L}(h:RS K H0 H σ ρ)(ei:ρ[i]?=AC (AC<|.dc ks))(si:σ[i]?=AC (AC<|.ref q))
 (hq:H q=AC (Vu q ks as)) (hl:RL K (upd H q u) l (.ref q)) (n1:∀xs,l≠.own xs) (n2:∀xs,l≠.bor xs):RS K H0 (upd H q u) σ (ρ.set i<|some l):=by
 have st:iQ H (upd H q u):=mQ hq (λ _=>O_) λ _ _=>Pa;have h0:H0 q=Ch:=h.nA.2 i ks q ei si;have hs:aI H0 (upd H q u):=λ b u e=>by rw[aD<|bq e h0];exact h.same b u e
 have old:∀{j:Nat}{ls},(ρ.set i<|some l)[j]?=AC (AC<|.dc ls)->∃ls',ρ[j]?=AC (AC<|.dc ls'):=λ {j ls} e=>by
  rcases aC e with⟨rfl,_,_⟩|⟨_,e⟩
  .exact⟨ks,ei⟩
  .exact⟨ls,e⟩
 refine⟨hs,⟨by simp[h.re.len],λ j l' e=>?_,λ j k EE ys p e1 e2 e3 e4=>?_⟩,λ j EE p e1 e2=>?_,λ j EE e1=>?_,⟨λ j k ks1 S4 a e1 e2 e3 e4=>?_,λ j ks1 p e1 e2=>?_⟩⟩
 .rcases aC e with⟨rfl,_,e⟩|⟨hj,e⟩
  .cases e;exact⟨.ref q,si,hl⟩
  .obtain⟨v,e1,r⟩:=h.re.get j l' e;refine⟨v,e1,?_⟩;cases l' with
   |val d=>exact Den.ups (show Den K H d v from r) st
   |own zs=>
    obtain⟨q',ws,rfl,eQ,t'⟩:=r;have:q'≠q:=by rintro rfl;rw[hq]at eQ;exact zP<|A03 eQ
    exact⟨q',ws,rfl,by rw[aD this];exact eQ,t'.ups st⟩
   |bor zs=>obtain⟨v',e2,r2⟩:=h.lK j zs e;rw[e1]at e2;cases e2;exact r2.re r h.same hs st
   |dc ls=>
    obtain⟨q',tD,rfl,eQ,t'⟩:=r;have:q'≠q:=by rintro rfl;exact hj<|h.nA.1 i j ks ls q' ei e si e1
    exact⟨q',tD,rfl,by rw[aD this];exact eQ,t'.ups st⟩
   |Aj ls=>obtain⟨q',o',tD,rfl,eQ,t'⟩:=r;exact⟨q',o',tD,rfl,st.dZ _ _ _ eQ,t'.ups st⟩
   |Qp ps=>obtain⟨q',o',rfl,eQ⟩:=r;exact⟨q',o',rfl,st.dZ _ _ _ eQ⟩
   |exc c=>obtain⟨q',o',u',C',rfl,eQ,r1,r2,r3⟩:=r;exact⟨q',o',u',C',rfl,st.dZ _ _ _ eQ,r1,r2,r3.ups st⟩
 .rcases aC e1 with⟨_,_,e⟩|⟨_,e1⟩
  .exact absurd (A03 e)<|n1 _
  .rcases aC e2 with⟨_,_,e⟩|⟨_,e2⟩
   .exact absurd (A03 e)<|n1 _
   .exact h.re.sep j k _ _ p e1 e2 e3 e4
 .rcases aC e1 with⟨_,_,e⟩|⟨_,e1⟩
  .exact absurd (A03 e)<|n1 _
  .exact h.fresh j EE p e1 e2
 .rcases aC e1 with⟨_,_,e⟩|⟨_,e1⟩
  .exact absurd (A03 e)<|n2 _
  .exact h.lK j EE e1
 .obtain⟨_,o1⟩:=old e1;obtain⟨_,o2⟩:=old e2;exact h.nA.1 j k _ _ a o1 o2 e3 e4
 .obtain⟨_,o1⟩:=old e1;exact h.nA.2 j _ p o1 e2
theorem RS.setG{K:Fa}{H0 H H':Hp}{σ:St}{ρ:Z.Env}{i:Nat}{q:δ}{kd:Z.DK}{as:γ δ}(h:RS K H0 H σ ρ)(hq:H q=Ch)(sm:aI H H')(eQ:H' q=AC (Vu q kd as))(hk:Y7 K H' kd as):RS K H0 H' (σ.set i<|some<|.ref q) (ρ.set i<|some<|.dc kd):=by
 have getσ:∀j,i≠j->(σ.set i<|some<|V.ref q)[j]?=σ[j]?:=λ j hj=>A26 hj;have h':=h.up sm;have nq:∀(j:Nat)(ks:Z.DK),ρ[j]?=AC (AC<|.dc ks)->σ[j]?≠AC (AC<|.ref q):=λ j ks e z=>by obtain⟨v,e1,q',as,rfl,h2,_⟩:=h.re.get j _ e;rw[z]at e1;cases e1;rw[hq]at h2;cases h2
 refine⟨h'.same,⟨by simp[h.re.len],λ j l e=>?_,λ j k xs ys p e1 e2 e3 e4=>?_⟩,λ j xs p e1 e2=>?_,λ j xs e1=>?_,⟨λ j k ks1 S4 a e1 e2 e3 e4=>?_,λ j ks1 p e1 e2=>?_⟩⟩
 .rcases aC e with⟨rfl,hl,e⟩|⟨hj,e⟩
  .cases e;exact⟨.ref q,A30 (by rw[<-h.re.len];exact hl),q,as,rfl,eQ,hk⟩
  .rw[getσ j hj];exact h'.re.get j l e
 .rcases aC e1 with⟨_,_,e⟩|⟨hj,e1⟩
  .cases e
  .rcases aC e2 with⟨_,_,e⟩|⟨hk,e2⟩
   .cases e
   .rw[getσ j hj]at e3;rw[getσ k hk]at e4;exact h.re.sep j k xs ys p e1 e2 e3 e4
 .rcases aC e1 with⟨_,_,e⟩|⟨hj,e1⟩
  .cases e
  .rw[getσ j hj]at e2;exact h.fresh j xs p e1 e2
 .rcases aC e1 with⟨_,_,e⟩|⟨hj,e1⟩
  .cases e
  .rw[getσ j hj];exact h.lK j xs e1
 .rcases aC e1 with⟨rfl,hl,_⟩|⟨hj,e1⟩
  .rcases aC e2 with⟨rfl,_,_⟩|⟨hk,e2⟩
   .rfl
   .rw[A30 (by rw[<-h.re.len];exact hl)]at e3;cases e3;rw[getσ k hk]at e4;exact absurd e4<|nq k _ e2
  .rcases aC e2 with⟨rfl,hl,_⟩|⟨hk,e2⟩
   .rw[A30 (by rw[<-h.re.len];exact hl)]at e4;cases e4;rw[getσ j hj]at e3;exact absurd e3<|nq j _ e1
   .rw[getσ j hj]at e3;rw[getσ k hk]at e4;exact h.nA.1 j k _ _ a e1 e2 e3 e4
 .rcases aC e1 with⟨rfl,hl,_⟩|⟨hj,e1⟩
  .rw[A30 (by rw[<-h.re.len];exact hl)]at e2;cases e2;exact h.same.free hq
  .rw[getσ j hj]at e2;exact h.nA.2 j _ p e1 e2
end ZS
namespace ZQ
open L2 ZS
end ZQ
namespace ZS
open L2
section
variable{X:Cx}{a:ι}{pos:Pos}{fa:Z.EF}
end
end ZS
namespace ZQ
open L2 ZS
section
variable{X:Cx}{a:ι}{pos:Pos}{fa:Z.EF}{H0:Hp}
end
end ZQ
namespace Z
end Z
namespace ZS
open L2
section
variable{X:Cx}{H0:Hp}{pos:Pos}
end
end ZS
namespace ZQ
open L2 ZS
section
variable{X:Cx}{H0:Hp}{pos:Pos}
end
end ZQ
namespace Z
def xF:D->D->Res D
|.int a,.int b=>.ok<|.int<|a+b
|_,_=>.bad
@[simp] theorem U5(a b:Int):xF (.int a) (.int b)=.ok (.int<|a+b):=rfl
end Z
namespace ZS
open L2
theorem Yz(h:Z.eV i ρ=.ok d):ρ[i]?=AC (AC<|.val d):=by
 unfold Z.eV at h;split at h
 .rename_i e;cases h;exact e
 .cases h
theorem Le(hN:X.N.Nodup)(hi:X.N[i]?=AC x)(hx:Loc X.env.scope x)(hr:jQ X (inplaceOp op) r)(hz:Ew X.K r o)(he:DE X a fa)(hf:X.fn x=Da\/X.env.scope.names.lookup x=AC .local):
 DS X H0 (.AugAssign (.Name x pos') op a pos) (Z.a6 i<|Z.eB o (Z.eV i) fa):=PS.imp (R1 hN hi hx he hr hf) λ D σ H ⟨ρ,fl,rs,e,k⟩=>by
 obtain⟨d,ea,e⟩:=bd e;cases e;obtain⟨dx,e1,ea⟩:=bd ea;obtain⟨dy,e2,ea⟩:=bd ea;obtain⟨v,si,dv⟩:=rs.re.get i _ (Yz e1);refine⟨v,si,ρ,dy,rs.re,e2,λ y H1 s1 dy1=>?_⟩;exact hz v y dx dy d H1 _ (.inl<|Den.up dv s1) (.inl dy1) ea λ z H2 s2 dz=>k _ H2 (l!<|s1.trans s2)<|(rs.up<|s1.trans s2).Gk dz
theorem Kr:jQ X (inplaceOp .Mult) (rI L9 λ i j=>.int<|i*j):=WC λ _ _ _ _ _ _ _ hc q=>imul_int q hc
theorem R'{K:Do}:Ew K (rI L9 λ i j=>.int<|i*j) Z.jy:=pK λ dx dy d e=>by
 unfold Z.jy at e;split at e
 .unfold Z.guard at e;split at e
  .rename_i h;cases e;exact⟨_,_,rfl,rfl,uV h,rfl⟩
  .cases e
 .cases e
theorem Nh{K:Do}:Ew K (Jp λ i j=>.int<|i+j) Z.xF:=md (λ dx dy d e=>by
 unfold Z.xF at e;split at e
 .cases e;exact⟨_,_,rfl,rfl,rfl⟩
 .cases e) λ _ _ _=>cO
end ZS
namespace ZQ
open L2 ZS
theorem OZ(hN:X.N.Nodup)(hi:X.N[i]?=AC x)(hx:Loc X.env.scope x)(he:QE X a fa)(hf:Fl X x:=by trivial):
 QS X H0 (.AugAssign (.Name x pos') .Mult a pos) (Z.a6 i<|Z.eB Z.jy (Z.eV i) fa):=⟨ZS.Le hN hi hx Kr R' he.p hf⟩
theorem O0(hN:X.N.Nodup)(hi:X.N[i]?=AC x)(hx:Loc X.env.scope x)(he:QE X a fa)(hf:Fl X x:=by trivial):
 QS X H0 (.AugAssign (.Name x pos') .Add a pos) (Z.a6 i<|Z.eB Z.xF (Z.eV i) fa):=⟨ZS.Le hN hi hx Ow Nh he.p hf⟩
end ZQ
namespace ZMx
section
variable{St:Nat->μ->Prop}
end
section
variable{St:Nat->μ->Prop}
end
end ZMx
namespace ZS
open L2
section
variable{X:Cx}
end
end ZS
namespace ZQ
open L2 ZS
end ZQ
namespace ZS
open L2
end ZS
namespace ZQ
open L2 ZS
end ZQ
namespace Z
def DF(e:EF)(ρ:Env)(d:D):Res Int:=(e<|some (.val d)::ρ).bind λ y=>match y with
|.int k=>.ok k
|_=>.bad
theorem Og(h:DF e ρ d=.ok k):e (AC (.val d)::ρ)=.ok (.int k):=by
 obtain⟨y,e1,e2⟩:=Res.aq h;split at e2
 .cases e2;exact e1
 .cases e2
theorem S!(h:e (AC (.val d)::ρ)=.ok (.int k)):DF e ρ d=.ok k:=by unfold DF;rw[h];rfl
def Ut(mx:Bool)(k kb:Int):Bool:=if mx=Da then decide (k>kb)else decide (k<kb)
def Qx(mx:Bool)(e:D->Res Int)(b:D)(kb:Int):γ D->Res D
|[]=>.ok b
|d::r=>(e d).bind λ k=>if Ut mx k kb=Da then Qx mx e d k r else Qx mx e b kb r
def pickK(mx:Bool)(z:Res D)(e:D->Res Int):γ D->Res D
|[]=>z
|d::r=>(e d).bind λ k=>Qx mx e d k r
def Lb(mx:Bool)(z:Res D)(a:EF)(is:γ Nat)(e:EF)(ρ:Env):Res D:=(a ρ).bind λ x=>match x with
|.lst ds=>pickK mx z (DF e<|eZ ρ is) ds
|_=>.bad
end Z
namespace ZS
open L2 PySem.W
theorem Off.Sz(o:Off X χ H C)(ok:X.Ok):C∉X.fs:=λ hb=>by obtain⟨_,ob,ho,_⟩:=ok.lx.mem hb;exact absurd (A21 (A02 ho) o.new)<|A72 _
theorem Off.W?(o:Off X χ H C)(I:Inv X χ σ H s):C∉tX X.stack:=λ hb=>by
 rcases o0.mp (I.qA C hb)with z|z
 .exact o.loc z
 .exact o.Sz I.ok z
theorem Off.up(o:Off X χ H C)(h:H' C=Ch):Off X χ H' C:=⟨h,o.loc,o.new,o.cell,o.pin⟩
theorem Off.fresh(I:Inv X χ σ H s)(hC:s.heap.objs.size<=C)(h:H' C=Ch):Off X χ H' C where
 free:=h
 loc:=A50<|A21 I.lt hC
 new:=A23 I.sz hC
 cell:=λ x c e=>by obtain⟨v,o,ho,_⟩:=I.cell x c e;exact A17<|A21 (A02 ho) hC
 pin:=λ p hp=>A17<|A21 (A02 (I.pin p hp).1) hC
theorem Hx{pos q:Pos}(l:γ ζ)(h:TriplesOk l)(e:codeAmong q (l++[rawInt pos.line,rawInt pos.col,c])=AC cv):codeAmong q l=AC cv\/cv=c:=by
 fun_induction TriplesOk l with
 |case1=>
  simp only[B07,codeAmong,rawInt]at e;split at e
  .cases e;exact .inr rfl
  .cases e
 |case2 a t b u x rest ih=>
  simp only[B21,codeAmong]at e ⊢;split at e
  .rename_i hc;rw[f8 hc];exact .inl e
  .rename_i hc;rw[v6 hc];exact ih h e
 |case3 l h1 h2=>exact h.elim
structure L6(X:Cx)(χ:List (Addr×Obj))(q:Str)(params:Arguments)(body:Expr)(scope:Scope)(cl:List (Str×Addr))(H:Hp)(s:Shared)(f c':Addr)(pm ya:Value):Prop where
 off:Off X χ H f
 obj:s.heap.get? f=AC (kla_obj "<lambda>" q params body scope cl pm c' ya)
 code:H c'=AC (.Ml q)
theorem Kh(hx:x∈dC)(ht:tabIn X.K x=AC (c,P))(Qw:X.env.code=.ref c)(hq:X.env.qual++ "<lambda>"=lj x)
 (KN:defaultsOf params X.env=([],[])) (tW:closureFor scope X.env=pure cl) (I:Inv X χ σ H s) :
 FM (model X.prog X.w) X.A (eval (.Lambda params body scope pos) X.env) (λ r s'=>∃f c' pm ya H',r=.ref f/\Inv X χ σ H' s'/\aI H H'/\L6 X χ (lj x) params body scope cl H' s' f c' pm ya) X.xe s:=by
 refine kla_eval KN ?_;rw[hq];obtain⟨hT,hC,bm,ob,b1,b2,b3,b4,b5,b6⟩:=I.tab x hx c P ht;obtain⟨ps,g,Zj,am⟩:=I.bQ P _ hT;have hgs:=I.mod.glob.keeps I.bk;have QX:∀b o,X.base.get? b=AC o->b≠P:=λ b o e z=>by have:=(I.bs b o e).2;rw[z,hT]at this;cases this
 have hgP:mainGlobals≠P:=by obtain⟨o,es,ep,e,_⟩:=I.mod.glob;exact QX _ _ e
 have hbG:bm≠mainGlobals:=λ z=>by obtain⟨o,es,ep,e,hd,_⟩:=I.mod.glob;rw[z,e]at b3;cases b3;rw[hd]at b6;cases b6
 have hB:s.heap.BuiltinsAt X.mg P:=⟨bm,ob,b1,b2,hbG,QX _ _ b3,I.bk _ _ b3,b4,b5,b6⟩
 cases hf:codeAmong pos ps.toList with
 | some cv=>obtain⟨c',rfl,xT⟩:=am pos cv hf;refine kla_makeFunctionHit (mg:=X.mg) tW I.ok.glob hgs Qw (hC.keeps I.bk) g Zj hf hB λ ya h' tk hk Fw=>?_;have I':Inv X χ σ H {s with heap:=h'.push<|kla_obj "<lambda>" (lj x) params body scope cl ((X.mg "__name__").getD .none) c' ya,toks:=tk}:=I.kept λ b u e=>A00 _<|hk b u e;exact⟨_,c',_,ya,H,rfl,I',aI.refl H,⟨Off.fresh I Fw<|I.bQ.fresh Fw,A13 _ rfl,xT⟩⟩
 |none=>
  refine kla_makeFunction (mg:=X.mg) tW I.ok.glob hgs Qw (hC.keeps I.bk) g Zj hf hgP hB λ c' ya h' tk OB _r rf Tj htb=>?_;have hn:H c'=Ch:=I.bQ.fresh _r;have kp:∀b o,b≠P->s.heap.get? b=AC o->(h'.push<|kla_obj "<lambda>" (lj x) params body scope cl ((X.mg "__name__").getD .none) c' ya).get? b=AC o:=λ b o hb e=>A00 _<|OB b o hb e;have neP:∀b,H b=Ch->b≠P:=λ b e z=>by rw[z,hT]at e;cases e
  have SG:∀b u,H b=AC u->b≠c':=λ b u e=>bq e hn;have ltc:∀b o,s.heap.get? b=AC o->b≠c':=λ b o e=>A17<|A21 (A02 e) _r;have hP:(h'.push<|kla_obj "<lambda>" (lj x) params body scope cl ((X.mg "__name__").getD .none) c' ya).get? P=AC (tabObj<|ps++#[rawInt pos.line,rawInt pos.col,.ref c']):=A00 _ htb;have un:Un X.fs [] H (upd H c'<|.Ml<|lj x) s.heap (h'.push<|kla_obj "<lambda>" (lj x) params body scope cl ((X.mg "__name__").getD .none) c' ya):=by
   refine⟨λ b o e n _ _=>kp b o (neP b n) e,λ b o e n _ _=>⟨o.slots,kp b o (neP b n) e⟩,λ b o e n _=>by rw[aD<|ltc b o e];exact n,λ b o e _=>?_,λ b xs e=>by rw[aD<|SG _ _ e];exact e,λ b o u e=>by rw[aD<|SG _ _ e];exact e,λ b u _ e=>by rw[aD<|SG _ _ e];exact e⟩;by_cases hb:b=P
   .exact⟨_,hb▸hP⟩
   .exact⟨o,kp b o hb e⟩
  have bQ:lY X.prog X.w (upd H c'<|.Ml<|lj x) (h'.push<|kla_obj "<lambda>" (lj x) params body scope cl ((X.mg "__name__").getD .none) c' ya):=λ b u e=>by
   by_cases hb:b=c'
   .subst hb;rw[aV]at e;cases e;obtain⟨c2,oc,vs,t,e2,_q,r⟩:=Tj;cases e2;exact⟨_,oc,vs,t,rfl,A00 _ _q,r⟩
   .rw[aD hb]at e;by_cases hbP:b=P
    .subst hbP;rw[hT]at e;cases e;refine⟨_,hP,by rw[lf];exact TriplesOk_snoc _ _ _ _ Zj,λ p cv e2=>?_⟩;rw[lf]at e2;rcases Hx _ Zj e2 with z|rfl
     .obtain⟨c2,e3,e4⟩:=am p cv z;exact⟨c2,e3,by rw[aD<|SG _ _ e4];exact e4⟩
     .exact⟨c',rfl,aV⟩
    .refine(I.bQ b u e).n_ (λ b2 v hc q=>kp b2 v ?_ q) (λ b2 q=>by rw[aD<|SG _ _ q];exact q) (λ b2 xs q=>by rw[aD<|SG _ _ q];exact q) λ b2 v _ q=>by rw[aD<|SG _ _ q];exact q
     rcases hc with rfl|hc
     .exact hbP
     .exact Qj hc hT λ z=>nomatch z
  have Yb:(upd H c'<|.Ml<|lj x) h'.objs.size=Ch:=by rw[aD<|A50 rf];exact I.bQ.fresh<|A69<|B59 _r rf
  exact⟨_,c',_,ya,_,rfl,I.un (t':=tk) un bQ,bP hn,⟨Off.fresh I (A69<|B59 _r rf) Yb,A13 _ rfl,aV⟩⟩
abbrev Kj(X:Cx)(N':γ Str)(q:Str)(scope:τ)(cl:γ (Str×δ))(f c':δ)(s₂:η)(H₂:Hp):Cx:=
 {prog:=X.prog,w:=X.w,K:=X.K,mg:=X.mg,base:=X.base,A:=X.A.in1.deeper<|envX q scope s₂.heap.objs.size f (.ref c') cl,N:=N',s₀:=s₂,H₀:=H₂,env:=envX q scope s₂.heap.objs.size f (.ref c') cl,outer:=X.stack,stack:=envX q scope s₂.heap.objs.size f (.ref c') cl::X.stack,ex:=[],fn:=λ _=>AT,calm:=Da,pn:=[],xe:=λ _ _=>False}
theorem RR{K:Do}(h:RE K H σ ρ)(hd:Den K H d v):RE K H (AC v::oy σ 0 is) (AC (.val d)::Z.eZ ρ is):=by
 have R:=Jo (n:=0) (is:=is) h<|aI.refl H;refine⟨by simp[oy,Z.eZ],λ i l e=>?_,λ i j xs ys a e1=>?_⟩
 .cases i with
  |zero=>simp only[C04,B28]at e;subst e;exact⟨v,rfl,hd⟩
  |succ i=>obtain⟨u,h1,h2⟩:=R.re.get i l (by simpa using e);exact⟨u,by simpa using h1,h2⟩
 .cases i with
  |zero=>simp at e1
  |succ i=>exact absurd (by simpa using e1)<|gB 0 is ρ i xs
theorem Ki(eJ:X.calm=Da)(Bz:X.A.in1.depth<recursionLimit)(B:FX X.N N' 1 is scope X.env.scope)(U_:N'[0]?=AC x)(KL:scope.isGenerator=AT)(TJ:scope.isCoroutine=AT)
 (vn:∀u,bindArgs (kla_fn "<lambda>" q params body scope cl pm (.ref c') ya) ⟨[u],[]⟩=pure [(x,u)])
 (kJ:∀x c,cl.lookup x=AC c->X.env.cells.lookup x=AC c) (zu:∀y∈scope.names,y.2=.free->(cl.lookup y.1).isSome=Da)
 (he:∀cl f c' s H,DE (Kj X N' q scope cl f c' s H) body fe)
 (L:L6 X χ q params body scope cl H s f c' pm ya) (I:Inv X χ σ H s) (re:RE X.K H σ ρ) (rv:RelV v u) (dv:Den X.K H d v) (ek:Z.DF fe (Z.eZ ρ is) d=.ok k) :
 FM (model X.prog X.w) X.A.in1 (call (.ref f) [u]) (λ r s'=>∃t H',r=.int k t/\aI H H'/\Un (tX X.stack) [] H H' s.heap s'.heap/\lY X.prog X.w H' s'.heap/\AllBare s'.gens/\s'.os=s.os) E s:=by
 have Tj:=I.bQ c' _ L.code;obtain⟨x0,hx1,hxl⟩:=B.own 0 (Nat.zero_lt_one);rw[U_]at hx1;cases hx1;refine A73<|kla_callFunE Bz L.obj rfl TJ KL rfl Tj ?_;rw[vn];refine W1<|wpAny_newFunctionEnv B.cell (λ y hy=>by rw[A15.mp hy];exact hxl) (λ h₁ Qs _p=>⟨I.nolimit.fresh _ _p,?_⟩) B.kind;show codeAny _ _ (.expr body<|envX q scope s.heap.objs.size f (.ref c') cl) _ _;have old:=λ b o e=>_p.extBut b o (A17<|A02 e)<|A00 _ e;have Tu:=I.bQ.fresh<|M2 _;have ok:(Kj X N' q scope cl f c' s H).Ok:=by
  refine⟨I.ok.mod,B.kind,rfl,rfl,M2 _,λ x y c e1 e2=>I.ok.inj x y c (kJ x c e1)<|kJ y c e2,λ y hy=>?_,λ y c hf=>(by cases hf),λ _=>I.ok.hd eJ,B73 I.ok.frames,.inr ⟨rfl,rfl⟩,
   λ b hb=>absurd (show b∈([]:γ δ)from hb) (by simp),I.bs,A23 I.ok.Ek I.sz,λ b o _ hb=>absurd (show b∈([]:γ δ)from hb) (by simp),λ b hb=>absurd (show b∈([]:γ δ)from hb) (by simp),I.stack,I.tN⟩
  have Kx:=hy;rcases Kx with z|z
  .exact absurd rfl<|B.cell _<|A62 z
  .exact A87.mp<|zu _ (A62 z) rfl
 have vO:∀x c,X.env.cells.lookup x=AC c->c<s.heap.objs.size/\∀v,s.heap.IsCell c v->h₁.IsCell c v:=λ x c e=>by obtain⟨v,o,ho,hd⟩:=I.cell x c e;exact⟨A02 ho,λ v' ⟨o',nP,s?⟩=>⟨o',old c o' nP,s?⟩⟩
 have I4:Inv (Kj X N' q scope cl f c' s H) [] (AC v::oy σ 0 is) H {s with heap:=h₁,toks:=s.toks + [(x,u)].length}:=by
  refine⟨ok,rfl,I.bare,Un.kept old,⟨_,Qs,λ i y w e1 e2 e3=>?_⟩,λ y c e=>?_,Tu,λ y c e=>I.gy y c<|kJ y c e,λ p hp=>absurd (show p∈([]:γ (δ×ν))from hp) (by simp),I.bQ.kept old,?_,I.tab⟩
  .cases i with
   |zero=>have QH:=e1;rw[U_]at QH;cases QH;simp only[C04,B28]at e2;subst e2;refine⟨u,rv,.inl ⟨hxl,?_⟩⟩;simp
   |succ i=>
    have Mj:(oy σ 0 is)[i]?=AC (AC w):=by simpa using e2
    unfold oy at Mj;simp only[List.replicate_zero,B07,A04]at Mj;cases r:is[i]? with
    |none=>rw[r]at Mj;cases Mj
    |some j=>
     rw[r]at Mj;simp only[A81]at Mj;obtain⟨x',c1,c2,c3⟩:=B.cap i j r;have QH:=e1;rw[show i+1=1+i from B12 _ _,c1]at QH;cases QH;have hσ:σ[j]?=AC (AC w):=by
      cases r2:σ[j]? with
      |none=>rw[r2]at Mj;cases Mj
      |some z=>
       rw[r2]at Mj;have:z=AC w:=by simpa using Mj
       rw[this]
     obtain⟨m,hn,hl⟩:=I.loc;have hm:=A62 c3;have hk:=B.free _ hm rfl;have Tf:QY X.env.scope y:=by
      rcases hk with k|k
      .exact .inr<|.inl k
      .exact .inr<|.inr k
     obtain⟨u',ru,lk⟩:=hl j y w c2 hσ Tf;refine⟨u',ru,?_⟩;rcases lk with⟨k1,_⟩|⟨k1,c,hc,r9⟩
     .have Oh:X.env.scope.names.lookup y=AC .local:=k1;rcases hk with k|k
      .rw[k]at Oh;cases Oh
      .rw[k]at Oh;cases Oh
     .obtain⟨_J,xT⟩:=A87.mp (zu _ hm rfl);have:_J=c:=by have:=kJ y _J xT;rw[hc]at this;exact(A03 this).symm
      subst this;exact .inr ⟨.inr c3,_J,xT,(vO y _J hc).2 _ r9⟩
  .obtain⟨v',hv⟩:=I.cell y c (kJ y c e);exact⟨v',(vO y c<|kJ y c e).2 v' hv⟩
  .have:=B.len;simp[oy,this,B12]
 refine kla_codeExpr<|A19 (he cl f c' s H [] _ _ H (λ v' H'=>aI H H'/\v'=.int k) I4 ⟨_,_,RR re dv,Z.Og ek,λ v' H' s' d'=>⟨s',by simpa only[Den]using d'⟩⟩) (λ r s' hq=>?_) λ e s' hq=>hq.elim;obtain⟨v',H',J,rv',sm,rfl⟩:=hq;obtain⟨t,rfl⟩:=rv';exact⟨t,H',rfl,sm,J.base,J.bQ,J.bare,J.os⟩
abbrev held(b:ζ)(k:ζ)(c:Nat):ν:={cls:=.type "list",data:=.seq #[b,k] c}
structure KLp(X:Cx)(χ:List (Addr×Obj))(σ:St)(H₀:Hp)(l I S:Addr)(vs:List V)(H:Hp)(s:Shared)(j i:Nat)(kb:Int):Prop where
 inv:Inv X χ σ H s
 sm:aI H₀ H
 it:s.heap.IsListIter I l j
 Nu:Off X χ H I
 Dh:Off X χ H S
 best:∃b v tb c,vs[i]?=AC v/\RelV v b/\s.heap.get? S=AC (held b (.int kb tb) c)
theorem Br(eJ:X.calm=Da)(I1:Inv X χ σ H s)(hq:ku X.K H l vs)(it:s.heap.IsListIter I l j)(oI:Off X χ H I)(hj:j<vs.length)
 (h:∀u v h' tk,vs[j]?=AC v->RelV v u->Inv X χ σ H {s with heap:=h',toks:=tk}->h'.IsListIter I l (j+1)->(∀b o,b≠I->s.heap.get? b=AC o->h'.get? b=AC o)->Q (AC u) {s with heap:=h',toks:=tk}) :
 FM (model X.prog X.w) X.A.in1 (pyNext<|.ref I) Q E s:=by
 obtain⟨bx,rv,pl,hz⟩:=I1.list hq;have hl:=rv.length;have hh:=I1.ok.hd eJ;have mX:l≠I:=by rintro rfl;obtain⟨o,e,hc,_⟩:=pl.isList;obtain⟨o2,e2,BC,_⟩:=it;rw[e]at e2;cases e2;rw[hc]at BC;exact absurd (Value.type.inj BC) (by decide)
 have W:=Walks.list (prog:=X.prog) (w:=X.w) (A:=X.A.in1) hh I l mX bx.toArray;refine W.item j s Q E (by rw[A05,<-hl];exact hj) ⟨it,pl.isList⟩ λ u h' tk pv st k1=>?_;have hv:bx[j]?=AC u:=by simpa using pv
 obtain⟨v,Vb⟩:∃v,vs[j]?=AC v:=⟨vs[j],by simp[hj]⟩
 obtain⟨u',Vc,rvu⟩:=rv.get Vb;rw[hv]at Vc;cases Vc;have kp:=λ b o hb e=>k1 b o (by simpa using hb) e;exact h u v h' tk Vb rvu (I1.turned kp oI.free oI.loc (.inr oI.new) oI.cell oI.pin) st.1 kp
theorem Bq(eJ:X.calm=Da)(I1:Inv X χ σ H s)(hq:ku X.K H l vs)(it:s.heap.IsListIter I l j)(oI:Off X χ H I)(hj:j=vs.length)
 (h:∀h' tk,Inv X χ σ H {s with heap:=h',toks:=tk}->(∀b o,b≠I->s.heap.get? b=AC o->h'.get? b=AC o)->Q Ch {s with heap:=h',toks:=tk}) :
 FM (model X.prog X.w) X.A.in1 (pyNext<|.ref I) Q E s:=by
 obtain⟨bx,rv,pl,hz⟩:=I1.list hq;have hl:=rv.length;have hh:=I1.ok.hd eJ;have mX:l≠I:=by rintro rfl;obtain⟨o,e,hc,_⟩:=pl.isList;obtain⟨o2,e2,BC,_⟩:=it;rw[e]at e2;cases e2;rw[hc]at BC;exact absurd (Value.type.inj BC) (by decide)
 have W:=Walks.list (prog:=X.prog) (w:=X.w) (A:=X.A.in1) hh I l mX bx.toArray;refine W.done s Q E ⟨by rw[A05,<-hl,<-hj];exact it,pl.isList⟩ λ h' tk k1=>?_;have kp:=λ b o hb e=>k1 b o (by simpa using hb) e;exact h h' tk (I1.turned kp oI.free oI.loc (.inr oI.new) oI.cell oI.pin) kp
def L7(X:Cx)(χ:γ (δ×ν))(σ:St)(H₀:Hp)(f:δ)(St:Hp->η->Prop)(e:Z.D->Z.Res Int):Prop:=
 ∀(H:Hp)(s:η)(u:ζ)(v:V)(d:Z.D)(k:Int),Inv X χ σ H s->aI H₀ H->St H s->RelV v u->Den X.K H d v->e d=.ok k ->
  FM (model X.prog X.w) X.A.in1 (call (.ref f) [u]) (λ r s'=>∃t H',r=.int k t/\aI H H'/\Un (tX X.stack) [] H H' s.heap s'.heap/\lY X.prog X.w H' s'.heap/\AllBare s'.gens/\s'.os=s.os) (λ _ _=>False) s
structure UK(X:Cx)(χ:List (Addr×Obj))(σ:St)(f:Addr)(St:Hp->Shared->Prop):Prop where
 off:∀H s,St H s->Off X χ H f
 un:∀H H' s s',Inv X χ σ H s->St H s->aI H H'->H' f=Ch->(∀o,s.heap.get? f=AC o->s'.heap.get? f=AC o)->St H' s'
section
variable{St:Hp->η->Prop}
theorem Iy(h:Q (.bool<|decide<|k>kb) s):FM (model prog w) A (richCompare .Gt (.int k t)<|.int kb tb) Q E s:=
 CmpOf.ints_gt (λ i=>if i=0 then k else kb) (λ i v h=>h) 0 1 _ _ _ _ _ ⟨t,rfl⟩ ⟨tb,rfl⟩ h
theorem Fm(KO:L7 X χ σ H₀ f St e)(SY:UK X χ σ f St)(Iv:Inv X χ σ H s)(sm:aI H₀ H)(st:St H s)(rv:RelV v u)(dv:Den X.K H d v)(ek:e d=.ok k)
 (oI:Off X χ H I) (oS:Off X χ H S){oi os:ν}(gI:s.heap.get? I=AC oi) (gS:s.heap.get? S=AC os) (gf:∃o,s.heap.get? f=AC o)
 (h:∀t H' s',Inv X χ σ H' s'->aI H H'->St H' s'->Off X χ H' I->Off X χ H' S->s'.heap.get? I=AC oi->s'.heap.get? S=AC os->(∃o,s'.heap.get? f=AC o)->Q (.int k t) s') :
 FM (model X.prog X.w) X.A.in1 (call (.ref f) [u]) Q E s:=by
 refine A19 (KO H s u v d k Iv sm st rv dv ek) (λ x s' hq=>?_) λ _ _ z=>z.elim;obtain⟨t,H',rfl,US,un,bQ,bare,os'⟩:=hq;have Iv':=Iv.LK os' un bQ bare λ b hb=>absurd hb (by simp);have of:=SY.off H s st;have kp:∀{b}{o},Off X χ H b->s.heap.get? b=AC o->s'.heap.get? b=AC o/\H' b=Ch:=λ {b o} ob e=>⟨un.keep b o e ob.free (ob.W? Iv) (by simp),un.free b o e ob.free (by simp)⟩
 obtain⟨fo,gf⟩:=gf;exact h t H' s' Iv' US (SY.un H H' s s' Iv st US (kp of gf).2 λ o e=>(kp of e).1) (oI.up (kp oI gI).2) (oS.up (kp oS gS).2) (kp oI gI).1 (kp oS gS).1 ⟨fo,(kp of gf).1⟩
theorem Dz(eJ:X.calm=Da)(KO:L7 X χ σ H₀ f St e)(SY:UK X χ σ f St)(OL:S≠I)(Tz:f≠I)(Tx:f≠S)(hl:ku X.K H₀ l vs)(dn:aG X.K H₀ ds vs)
 (fin:∀H s u v,Inv X χ σ H s->aI H₀ H->RelV v u->Den X.K H r v->R (.ok<|.ret u) s) :
 ∀n j i H s kb db,ds.length=j+n->ds[i]?=AC db->Z.Qx Da e db kb (ds.drop j)=.ok r->KLp X χ σ H₀ l I S vs H s j i kb->St H s->(∃o,s.heap.get? f=AC o) ->
  codeAny (model X.prog X.w) X.A (.builtin "max.loop" ⟨[.ref I,.ref f,.ref S],kw⟩) R s:=by
 have nm:(toString "max"++toString ".loop")="max.loop":=by decide
 have ψ:=dn.length;intro n
 induction n with
 |zero=>
  intro j i H s kb db hn ir eg L st gf;obtain⟨b,v,tb,c,hv,rb,gS⟩:=L.best;refine B08 B09 ?_;rw[B10 A44 _];refine T0<|A39 gS rfl<|T0<|A54<|Bq eJ L.inv (L.sm.seq hl) L.it L.Nu (by lia) λ h1 t1 I1 k1=>?_;have g1:=k1 S _ OL gS;refine T0<|B11 g1 rfl<|T0<|A59<|W1 ?_;have hr:db=r:=by rw[List.drop_eq_nil_of_le (by lia)]at eg;unfold Z.Qx at eg;cases eg;rfl
  subst hr;obtain⟨v',Mc,dv⟩:=dn.get ir;rw[hv]at Mc;cases Mc;exact fin H _ b v (I1.turned (t':=t1) (λ b o hb e=>(A64 _ _<|A08 hb).trans e) L.Dh.free L.Dh.loc (.inr L.Dh.new) L.Dh.cell L.Dh.pin) L.sm rb<|dv.up L.sm
 |succ n ih=>
  intro j i H s kb db hn ir eg L st gf;obtain⟨b,v,tb,c,hv,rb,gS⟩:=L.best;have hj:j<ds.length:=by lia
  obtain⟨dj,_t⟩:∃d,ds[j]?=AC d:=⟨ds[j],by simp[hj]⟩
  have BB:ds.drop j=dj::ds.drop (j+1):=by
   rw[B19 hj];have:ds[j]=dj:=by have:=A01 hj;rw[this]at _t;exact A03 _t
   rw[this]
  rw[BB]at eg;unfold Z.Qx at eg;obtain⟨k,ek,eg⟩:=bd eg;refine B08 B09 ?_;rw[B10 A44 _];refine T0<|A39 gS rfl<|T0<|A54<|Br eJ L.inv (L.sm.seq hl) L.it L.Nu (by lia) λ u v1 h1 t1 Tg Wb I1 it1 k1=>?_;have g1:=k1 S _ OL gS;obtain⟨oI,gI,rI⟩:=id it1;obtain⟨of,gf⟩:=gf;have _A:=k1 f _ Tz gf;obtain⟨v',Mc,dv⟩:=dn.get _t;rw[Tg]at Mc;cases Mc;have CQ:St H {s with heap:=h1,toks:=t1}:=SY.un H H s _ L.inv st (aI.refl H) (SY.off H s st).free λ o e=>k1 f o Tz e;refine T0<|A54<|A57<|Fm KO SY I1 L.sm CQ Wb (dv.up L.sm) ek L.Nu L.Dh gI g1 ⟨of,_A⟩ λ t2 H2 s2 I2 Qa L! oI2 Su _C gS2 gf2=>?_;refine T0<|A54<|A57<|T0<|Iy<|T0<|A57<|A55<|T0<|A59<|W1 ?_;have V3:=L.sm.trans Qa;have it2:s2.heap.IsListIter I l (j+1):=⟨oI,_C,rI⟩
  by_cases hb:k>kb
  .simp only[hb,decide_true,A25];refine T0<|B11 gS2 rfl<|T0<|A59 ?_;rw[nm];rw[f8 (by unfold Z.Ut;simpa using hb)]at eg;have kp:∀b o,b≠S->s2.heap.get? b=AC o->(s2.heap.update S<|Obj.mapSeq λ _=>#[u,.int k t2]).get? b=AC o:=λ b o hb e=>(A64 _ _<|A08 hb).trans e;have I3:=I2.turned (t':=s2.toks) kp Su.free Su.loc (.inr Su.new) Su.cell Su.pin;refine W1 ⟨A83 A44 _,ih (j+1) j H2 _ k dj (by lia) _t eg ⟨I3,V3,⟨oI,kp I _ (A08 OL) _C,rI⟩,oI2,Su,u,v1,t2,_,Tg,Wb,A92 _ gS2 rfl⟩ (SY.un H2 H2 s2 _ I2 L! (aI.refl H2) (SY.off H2 s2 L!).free λ o e=>kp f o Tx e)<|let ⟨o,e⟩:=gf2;⟨o,kp f o Tx e⟩⟩
  .simp only[hb,decide_false,A43,A76];refine T0<|A59 ?_;rw[nm];rw[v6 (by unfold Z.Ut;simpa using hb)]at eg;exact W1 ⟨A83 A44 _,ih (j+1) i H2 s2 kb db (by lia) ir eg ⟨I2,V3,it2,oI2,Su,b,v,tb,c,hv,rb,gS2⟩ L! gf2⟩
end
def Ey(X:Cx)(nm:Str):Prop:=∃c P,nm∈dC/\tabIn X.K nm=AC (c,P)/\X.env.code=.ref c/\X.env.qual++ "<lambda>"=lj nm
theorem HG(a k:ζ):argsOk "max" ⟨[a],[(Db "key",k),(Db "default",.none)]⟩:=by kernel_rfl
theorem El(k:ζ):KM "max" ["key","default"] 0 ⟨[],[(Db "key",k),(Db "default",.none)]⟩=pure [AC k,AC .none]:=by kernel_rfl
section
variable{St:Hp->η->Prop}
theorem OS(eJ:X.calm=Da)(KO:L7 X χ σ H f St e)(SY:UK X χ σ f St)(Iv:Inv X χ σ H s)(st:St H s)(gf:∃o,s.heap.get? f=AC o)(hl:ku X.K H l vs)(dn:aG X.K H ds vs)(ek:Z.pickK Da (.ok .non) e ds=.ok r)
 (k:∀v H',aI H H'->Den X.K H' r v->Q v H'):FM (model X.prog X.w) X.A (call (.builtin "max") [.ref l]<|[(Db "key",.ref f),(Db "default",.none)]) (EP X χ σ Q) X.xe s:=by
 have nm:(toString "max"++toString ".loop")="max.loop":=by decide
 have ψ:=dn.length;obtain⟨fo,gf⟩:=gf;obtain⟨bx,rv,pl,hz⟩:=Iv.list hl;refine kmk_tree PySem.F.kind_max PySem.F.plain_max PySem.F.entry_max (HG _ _) ?_;show FM (model X.prog X.w) X.A.in1 (KM "max" ["key","default"] 0 ⟨[],[(Db "key",.ref f),(Db "default",.none)]⟩>>=_) _ _ s;rw[El];refine T0<|W1<|T0<|W1<|T0<|B18 pl.isList ?_;refine T0<|A63 ?_;rw[nm];generalize TM:s.heap.push {cls:=.type "list_iterator",data:=.fields #[.ref l,.int 0 0]}=HH;have hS:HH.objs.size=s.heap.objs.size+1:=by rw[<-TM,A51]
 have gI0:HH.get? s.heap.objs.size=AC {cls:=.type "list_iterator",data:=.fields #[.ref l,.int 0 0]}:=by rw[<-TM];exact A13 _ rfl
 have kp0:∀b o,s.heap.get? b=AC o->(HH.push {cls:=.type "list",data:=.seq ([]).toArray}).get? b=AC o:=λ b o e=>A00 _ (by rw[<-TM];exact A00 _ e);have I1:=Iv.kept (t':=s.toks) kp0;have oI:=Off.fresh Iv (M2 _)<|Iv.bQ.fresh<|M2 _;have oS:Off X χ H HH.objs.size:=Off.fresh Iv (by rw[hS];exact A75 _)<|Iv.bQ.fresh (by rw[hS];exact A75 _);have OL:HH.objs.size≠s.heap.objs.size:=by rw[hS];exact A50<|A61 _
 have Tz:=A17<|A02 gf;have Tx:f≠HH.objs.size:=by rw[hS];exact A17<|B85<|A02 gf
 have gS:(HH.push {cls:=.type "list",data:=.seq ([]).toArray}).get? HH.objs.size=AC {cls:=.type "list",data:=.seq ([]).toArray}:=A13 _ rfl;have gI:(HH.push {cls:=.type "list",data:=.seq ([]).toArray}).get? s.heap.objs.size=AC {cls:=.type "list_iterator",data:=.fields #[.ref l,.int 0 0]}:=A00 _ gI0;have CQ:St H {s with heap:=HH.push {cls:=.type "list",data:=.seq ([]).toArray}}:=SY.un H H s _ Iv st (aI.refl H) (SY.off H s st).free λ o e=>kp0 f o e;have _A:=kp0 f fo gf;generalize hS2:HH.objs.size=S at oS OL Tx gS;generalize hI2:s.heap.objs.size=I at oI OL Tz gI;generalize nO:({s with heap:=HH.push {cls:=.type "list",data:=.seq ([]).toArray}})=s1 at I1 CQ;have e1:HH.push {cls:=.type "list",data:=.seq ([]).toArray}=s1.heap:=by rw[<-nO]
 rw[e1]at gS gI _A;refine W1 ⟨A83 A44 _,?_⟩;refine B08 B09 ?_;rw[B10 A44 _];cases ds with
 |nil=>refine T0<|A39 gS rfl<|T0<|A54<|Bq (j:=0) eJ I1 hl ⟨_,gI,rfl,rfl⟩ oI (by simp at ψ;simp[ψ]) λ h1 t1 I2 k1=>?_;refine T0<|B03<|W1 ?_;cases ek;exact⟨.non,H,I2,rfl,k .non H (aI.refl H) j8⟩
 |cons d0 dr=>unfold Z.pickK at ek;obtain⟨k0,ek0,ek⟩:=bd ek;refine T0<|A39 gS rfl<|T0<|A54<|Br (j:=0) eJ I1 hl ⟨_,gI,rfl,rfl⟩ oI (by simp at ψ;lia) λ u v1 h1 t1 Tg Wb I2 it2 k1=>?_;have g1:=k1 S _ OL gS;obtain⟨oi,_C,rI⟩:=id it2;obtain⟨v',Mc,dv⟩:=dn.get (i:=0) (d:=d0) rfl;rw[Tg]at Mc;cases Mc;have L!:St H {s1 with heap:=h1,toks:=t1}:=SY.un H H s1 _ I1 CQ (aI.refl H) (SY.off H s1 CQ).free λ o e=>k1 f o Tz e;refine T0<|A54<|A57<|Fm KO SY I2 (aI.refl H) L! Wb dv ek0 oI oS _C g1 ⟨fo,k1 f _ Tz _A⟩ λ t3 H3 s3 I3 L? P? oI3 U1 gI3 gS3 gf3=>?_;refine T0<|B11 gS3 rfl ?_;rw[nm];have kp:∀b o,b≠S->s3.heap.get? b=AC o->(s3.heap.update S<|Obj.mapSeq λ _=>#[u,.int k0 t3]).get? b=AC o:=λ b o hb e=>(A64 _ _<|A08 hb).trans e;have I4:=I3.turned (t':=s3.toks) kp U1.free U1.loc (.inr U1.new) U1.cell U1.pin;exact W1 ⟨A83 A44 _,Dz eJ KO SY OL Tz Tx hl dn (λ H5 s5 u5 v5 I5 P_ rv5 dv5=>⟨v5,H5,I5,rv5,k v5 H5 P_ dv5⟩) dr.length 1 0 H3 _ k0 d0 (by simp;lia) rfl ek ⟨I4,L?,⟨oi,kp _ _ (A08 OL) gI3,rI⟩,oI3,U1,u,v1,t3,_,Tg,Wb,A92 _ gS3 rfl⟩ (SY.un H3 H3 s3 _ I3 P? (aI.refl H3) (SY.off H3 s3 P?).free λ o e=>kp f o Tx e)<|let ⟨o,e⟩:=gf3;⟨o,kp f o Tx e⟩⟩
end
theorem zM(hL:Ey X nm)(Bz:X.A.in1.depth<recursionLimit)(hg:Gl X x)(hm:X.mg x=Ch)(hv:bootBuiltins x=AC (.builtin "max"))(ha:DW X a fa)
 (B:FX X.N N' 1 is scope X.env.scope) (U_:N'[0]?=AC y) (he:∀cl f c' s H,DE (Kj X N' (lj nm) scope cl f c' s H) body fe)
 (vn:∀q cl pm c' ya u,bindArgs (kla_fn "<lambda>" q params body scope cl pm (.ref c') ya) ⟨[u],[]⟩=pure [(y,u)])
 (KN:defaultsOf params X.env=([],[]):=by rfl) (KL:scope.isGenerator=AT:=by rfl) (TJ:scope.isCoroutine=AT:=by rfl)
 (hc:X.calm=Da:=by rfl) (hn:x≠ "__name__":=by decide +kernel) (ir:Nd x:=by decide +kernel)
 (hse:Se a [] X.env:=by rfl) (_w:backTo pos (starEach (a::[]) X.env)=(AT,eval a X.env)::backTo pos (starEach [] X.env):=by rfl) (dX:(backTo pos<|starEach (a::[]) X.env).any (·.1)=AT:=by rfl) :
 DE X (.Call (.Name x p1) [a] [⟨AC<|Str.ofString "key",.Lambda params body scope lp,kp⟩,⟨AC<|Str.ofString "default",.Constant .none jj cp,kp2⟩] pos) (Z.Lb Da (.ok .non) fa is fe):=by
 intro χ s σ H Q I h;obtain⟨ρ,d,r,e,k⟩:=h;obtain⟨dx,ea,e⟩:=bd e;obtain⟨c,P,h1,h2,h3,h4⟩:=hL;split at e
 .rename_i ds;refine A85<|lh I hg hm hv ?_ hn ir;refine callWith_kw ?_ _w dX;refine cS (a7 ha b9 hse pos χ s σ H (λ vs H1=>∃v,vs=[v]/\aI H H1/\bJ X.K H1 (.lst ds) v) I ⟨ρ,_,r,ea,λ v H1 s1 d1=>⟨v,rfl,s1,d1⟩⟩) λ us s1 ⟨vs,H1,I1,r1,q1⟩=>?_;obtain⟨v,rfl,sm,d1⟩:=q1;obtain⟨u,rfl,ru⟩:=vals1 r1;have xQ:∀y∈scope.names,y.2=.free->∃c,X.env.cells.lookup y.1=AC c:=λ y hy hf=>I1.ok.has y.1<|B.free y hy hf;obtain⟨cl,tW,kJ,zu⟩:=nW xQ;refine kws_cons<|cS (Kh h1 h2 h3 h4 KN tW I1) λ w s2 ⟨f,c',pm,ya,H2,ew,I2,Qa,LA⟩=>?_;subst ew;refine kws_cons<|Constant_none<|kws_nil ?_;obtain⟨q,vs,rfl,hq,tt⟩:=(d1.up Qa).lst;cases ru;have re2:=(r.up sm).up Qa;refine OS (St:=λ H s=>L6 X χ (lj nm) params body scope cl H s f c' pm ya) hc (λ H5 s5 u5 v5 d5 k5 I5 P_ Gg rv5 dv5 ek5=>?_) ⟨λ _ _ st=>st.off,λ H5 H6 s5 s6 I5 Gg P_ hf5 ho5=>⟨Gg.off.up hf5,ho5 _ Gg.obj,P_ _ _ Gg.code⟩⟩ I2 LA ⟨_,LA.obj⟩ hq tt e λ v' H' s' d'=>k v' H' ((sm.trans Qa).trans s') d';exact Ki (x:=y) hc Bz B U_ KL TJ (λ u=>vn _ _ _ _ _ u) kJ zu he Gg I5 (re2.up P_) rv5 dv5 ek5
 .cases e
section
variable{St:Hp->η->Prop}
end
theorem Jj(r:bB (k+2) A)(env:PySem.Env):bB k (A.in1.deeper env):=(bB.in1 r).deeper env
theorem RP(r:bB k A):A.in1.depth<recursionLimit:=r.depth
def PK(K:Frag)(mg:Str->ε ζ)(x:Str):Prop:=∃c P,tabIn K x=AC (c,P)/\∀f fd oc od sl,mg x=AC (.ref f)->K.lookup f=AC ⟨oc,od,.func fd,sl⟩->fd.code=.ref c
theorem N?{K:Frag}(X:K.In h)(G:h.Ns mainGlobals mg)(t:tabIn K x=AC (c,P)):PK K mg x:=⟨c,P,t,λ f fd oc od sl hm hl=>law_code X G t hm (X _ _ hl) rfl⟩
def UN(K:Frag)(x:Str)(a!:ζ):Prop:=∃c P,a!=.ref c/\tabIn K x=AC (c,P)
theorem N!{K:Frag}(h:UN K x cd)(hx:x∈dC):
 Ey (dO CX P w K mg base N x scope f cd A outer s H E).f_ x:=by
 obtain⟨c,p,e,t⟩:=h;exact⟨c,p,hx,t,e,rfl⟩
section
variable{K:Do}
theorem acJ{st:θ}(F:Ez K x qual st f fd)(S:a_ N ps (ah st))
 (hb:∀ A outer s H E,bB k (A.deeper<|envOfC qual (ah st) s.heap.objs.size f fd.code) ->
  L8 (dO jn P w K mg base N qual (ah st) f fd.code A outer s H E).f_ H (aM st) b):e6 P w K mg base jn (k+1) f fd ps (Ci K<|Z.fn ps.length N.length b):=by
 have ψ:∀vs H Q E,Ci K (Z.fn ps.length N.length b) vs H Q E->vs.length=ps.length:=λ vs H Q E ⟨ds,d,t,e,_⟩=>by
  unfold Z.fn at e;split at e
  .rename_i h;rw[t.length];exact h
  .cases e
 obtain⟨oc,od,kV,doc,pm,an,a!,ct,wC,rfl,lk,nQ⟩:=F.ex;refine BI lk nQ S ψ λ A outer s H vs Q E hr h=>?_;refine⟨_,sr.f_<|hb A outer s H E hr,?_⟩;have hl:=ψ vs H Q E h;obtain⟨ds,d,t,e,k⟩:=h;have dX:ps.length<=N.length:=by have:=A11 List.length S.pre;rw[A31]at this;lia
 have rs:RS K H H (L2.start N vs) (Z.start N.length ds):=mR t (by lia);unfold Z.fn at e;split at e
 .cases eb:b (Z.start N.length ds)with
  |bad=>rw[eb]at e;cases e
  |ok fl=>
   rw[eb]at e;refine⟨_,fl,rs,eb,?_⟩;cases fl with
   |rt d'=>cases e;exact λ v H' s' dv=>k v H' s' dv
   |nx ρ'=>cases e;exact λ σ' H' _ Ah=>k .non H' Ah.same j8
   |bk ρ'=>cases e
   |ct ρ'=>cases e
 .cases e
theorem adg{st:θ}(d:Def K mg x st ps)(S:a_ N ps (ah st))(L:PK K mg x)
 (hb:∀ f a! A outer s H E,UN K x a!->bB k (A.deeper<|envOfC x (ah st) s.heap.objs.size f a!) ->
  L8 (dO jn P w K mg base N x (ah st) f a! A outer s H E).f_ H (aM st) b):iG P w K mg base x (k+1) ps (Z.fn ps.length N.length b):=by
 obtain⟨f,fd,F,hm,qm⟩:=d.ex;obtain⟨c,p,t,hc⟩:=L;have hfd:fd.code=.ref c:=by obtain⟨oc,od,kV,doc,pm,an,a!,ct,wC,e,lk,nQ⟩:=F.ex;exact hc f fd _ _ _ hm lk
 exact⟨f,fd,acJ F S λ A outer s H E hr=>hb f _ A outer s H E ⟨c,p,hfd,t⟩ hr,hm,F.kp,qm⟩
end
end ZS
namespace ZQ
open L2 PySem.W ZS
theorem zM(hL:Ey X nm)(Bz:X.A.in1.depth<recursionLimit)(hg:Gl X x)(hm:X.mg x=Ch)(hv:bootBuiltins x=AC (.builtin "max"))(ha:QW X a fa)
 (B:FX X.N N' 1 is scope X.env.scope) (U_:N'[0]?=AC y) (he:∀cl f c' s H,QE (Kj X N' (lj nm) scope cl f c' s H) body fe)
 (vn:∀q cl pm c' ya u,bindArgs (kla_fn "<lambda>" q params body scope cl pm (.ref c') ya) ⟨[u],[]⟩=pure [(y,u)])
 (KN:defaultsOf params X.env=([],[]):=by rfl) (KL:scope.isGenerator=AT:=by rfl) (TJ:scope.isCoroutine=AT:=by rfl)
 (hc:X.calm=Da:=by rfl) (hn:x≠ "__name__":=by decide +kernel) (ir:Nd x:=by decide +kernel)
 (hse:Se a [] X.env:=by rfl) (_w:backTo pos (starEach (a::[]) X.env)=(AT,eval a X.env)::backTo pos (starEach [] X.env):=by rfl) (dX:(backTo pos<|starEach (a::[]) X.env).any (·.1)=AT:=by rfl) :
 QE X (.Call (.Name x p1) [a] [⟨AC<|Str.ofString "key",.Lambda params body scope lp,kp⟩,⟨AC<|Str.ofString "default",.Constant .none jj cp,kp2⟩] pos) (Z.Lb Da (.ok .non) fa is fe):=
 ⟨ZS.zM hL Bz hg hm hv ha.p B U_ (λ cl f c' s H=>(he cl f c' s H).p) vn KN KL TJ hc hn ir hse _w dX⟩
theorem YK{K:Do}{st:θ}(d:ZS.Def K mg x st ps)(S:a_ N ps (ah st))(L:ZS.PK K mg x)
 (hb:∀ f a! A outer s H E,ZS.UN K x a!->bB k (A.deeper<|envOfC x (ah st) s.heap.objs.size f a!) ->
  z! (dO jn P w K mg base N x (ah st) f a! A outer s H E).f_ H (aM st) b):ZS.iG P w K mg base x (k+1) ps (Z.fn ps.length N.length b):=
 ZS.adg d S L λ f a! A outer s H E hl hr=>(hb f a! A outer s H E hl hr).p
end ZQ
namespace ZS
open L2 PySem.W
def ck(K:Frag)(n:Str)(st:θ):Prop:=∃(f:δ)(od an:ε δ)(sl:Array (ε ζ))(oc kV dc pm cd ct:ζ),nsIn K mainGlobals n=AC (AC<|.ref f)/\K.lookup f=AC ⟨oc,od,.func<|fnOf n n (bI st) (aM st) (ah st) .none kV dc pm an cd ct,sl⟩/\codeIn K cd n=Da/\keepIn K (.ref f)=Da
def v!(K:Frag)(n:Str)(st:θ):Prop:=∃(f t:δ)(od an td:ε δ)(sl ts:Array (ε ζ))(tn:Nat)(oc kV dc pm cd ct tc:ζ),nsIn K mainGlobals n=AC (AC<|.ref f)/\K.lookup f=AC ⟨oc,od,.func<|fnOf n n (bI st) (aM st) (ah st) (.ref t) kV dc pm an cd ct,sl⟩/\codeIn K cd n=Da/\keepIn K (.ref f)=Da/\K.lookup t=AC ⟨tc,td,.seq #[.none] tn,ts⟩
def yo(K:Frag)(n:Str)(st:θ):Prop:=ck K n st/\∃c p,tabIn K n=AC (c,p)
section
variable{K:Frag}{st:θ}
theorem ck.mk'{oc kV dc pm cd ct:ζ}(a:nsIn K mainGlobals n=AC (AC<|.ref f))(l:K.lookup f=AC ⟨oc,od,.func<|fnOf n n (bI st) (aM st) (ah st) .none kV dc pm an cd ct,sl⟩)(c:codeIn K cd n=Da)(k:keepIn K (.ref f)=Da):ck K n st:=⟨f,od,an,sl,oc,kV,dc,pm,cd,ct,a,l,c,k⟩
theorem v!.mk'{oc kV dc pm cd ct tc:ζ}(a:nsIn K mainGlobals n=AC (AC<|.ref f))(l:K.lookup f=AC ⟨oc,od,.func<|fnOf n n (bI st) (aM st) (ah st) (.ref t) kV dc pm an cd ct,sl⟩)(c:codeIn K cd n=Da)(k:keepIn K (.ref f)=Da)(q:K.lookup t=AC ⟨tc,td,.seq #[.none] tn,ts⟩):v! K n st:=⟨f,t,od,an,td,sl,ts,tn,oc,kV,dc,pm,cd,ct,tc,a,l,c,k,q⟩
theorem yo.mk'{oc kV dc pm ct to:ζ}(a:nsIn K mainGlobals n=AC (AC<|.ref f))(l:K.lookup f=AC ⟨oc,od,.func<|fnOf n n (bI st) (aM st) (ah st) .none kV dc pm an (.ref cc) ct,sl⟩)(c:codeIn K (.ref cc) n=Da)(k:keepIn K (.ref f)=Da)(tl:K.lookup cc=AC ⟨to,td,.fields tv,ts⟩)(tp:tv[11]?=AC (.ref pp)):yo K n st:=⟨⟨f,od,an,sl,oc,kV,dc,pm,_,ct,a,l,c,k⟩,cc,pp,uo a l rfl tl tp⟩
theorem ck.df(d:ck K n st)(X:K.In h)(G:h.Ns mainGlobals mg)(hb:∀kV doc pm an a! ct us,us.length=ps.length->bindArgs (fnOf n n (bI st) (aM st) (ah st) .none kV doc pm an a! ct) ⟨us,[]⟩=pure (ps.zip us)):Def K mg n st ps:=by obtain⟨f,od,an,sl,oc,kV,dc,pm,cd,ct,a,l,c,k⟩:=d;have F:=zy l c k;exact⟨f,_,F,mg_of X G a,F.binds hb⟩
theorem v!.df(d:v! K n st)(X:K.In h)(G:h.Ns mainGlobals mg)
 (h1:∀t kV doc pm an a! ct us,us.length=ps.length->∃kk,bindArgs (fnOf n n (bI st) (aM st) (ah st) (.ref t) kV doc pm an a! ct) ⟨us,[]⟩=seqItems? (.ref t)>>=kk/\kk (AC #[.none])=pure (ps.zip us))
 (h2:∀t kV doc pm an a! ct us,us.length+1=ps.length->∃kk,bindArgs (fnOf n n (bI st) (aM st) (ah st) (.ref t) kV doc pm an a! ct) ⟨us,[]⟩=seqItems? (.ref t)>>=kk/\kk (AC #[.none])=pure (ps.zip<|us++[.none])):PR K mg n st ps:=by
 obtain⟨f,t,od,an,td,sl,ts,tn,oc,kV,dc,pm,cd,ct,tc,a,l,c,k,q⟩:=d;exact O3 l c k q (mg_of X G a) (h1 t kV dc pm an cd ct)<|h2 t kV dc pm an cd ct
theorem ck.law(d:ck K n st)(X:K.In h)(G:h.Ns mainGlobals mg)(He:mg n=AC (.ref fa))(hb:∀kV doc pm an a! ct s v,BindsTo s (fnOf n n (bI st) (aM st) (ah st) .none kV doc pm an a! ct) ⟨[v],[]⟩ [(x,v)]):∃fd,(∀s v,BindsTo s fd ⟨[v],[]⟩ [(x,v)])/\Ez K n n st fa fd:=by obtain⟨f,od,an,sl,oc,kV,dc,pm,cd,ct,a,l,c,k⟩:=d;have e:=He.symm.trans<|mg_of X G a;cases e;exact⟨_,hb kV dc pm an cd ct,zy l c k⟩
theorem yo.lam(d:yo K n st)(X:K.In h)(G:h.Ns mainGlobals mg):PK K mg n:=let ⟨c,p,t⟩:=d.2;N? X G t
end
end ZS
namespace ZQ
open L2
def Xp(sc:τ)(x:Str):Bool:=match sc.names.lookup x with
|some .local=>Da
|some .cell=>Da
|_=>AT
theorem lo(h:Xp sc x=Da):Loc sc x:=by
 unfold Xp at h;split at h
 .rename_i e;exact .inl e
 .rename_i e;exact .inr e
 .cases h
end ZQ
namespace ZS
open L2
section
open PySem.SeqAt
open PySem.AutoSeq1 (wpAny_loadPart')
open PySem.MeetsSeq PySem.MeetsSeq2 PySem.MeetsSeq3
end
section
open PySem.SeqAt
open PySem.AutoSeq1 (wpAny_loadPart')
open PySem.MeetsSeq PySem.MeetsSeq2 PySem.MeetsSeq3
end
section
variable{X:Cx}
end
open PySem.W
structure KL0(X:Cx)(χ:List (Addr×Obj))(σ:St)(H:Hp)(l I S:Addr)(s:Shared)(j:Nat)(db:Z.D):Prop where
 inv:Inv X χ σ H s
 it:s.heap.IsListIter I l j
 Nu:Off X χ H I
 Dh:Off X χ H S
 best:∃b v c,Den X.K H db v/\RelV v b/\s.heap.get? S=AC (held b b c)
end ZS
namespace ZQ
open L2 ZS
end ZQ
namespace Z
abbrev XN:=γ Nat×γ (γ Nat×D)
abbrev XF:=Env->ε XN
def nZ(_:Env):ε XN:=Ch
def e?(m:γ D->ε XN)(as:AF)(ρ:Env):ε XN:=match as ρ with
|.ok ds=>m ds
|.bad=>Ch
def Q_(a:EF)(r:XF)(ρ:Env):ε XN:=match a ρ with
|.ok _=>r ρ
|.bad=>Ch
def fy(a:SF)(xa xb:XF)(ρ:Env):ε XN:=match xa ρ with
|some c=>AC c
|none=>match a ρ with
 |.ok<|.nx ρ'=>xb ρ'
 |_=>Ch
def we(t:TF)(a b:XF)(ρ:Env):ε XN:=match t ρ with
|.ok c=>if c then a ρ else b ρ
|.bad=>Ch
def e!(c:γ Nat)(a:EF)(ρ:Env):ε XN:=match a ρ with
|.ok _=>AC (c,[])
|.bad=>Ch
def fx(ps n:Nat)(b:XF)(ds:γ D):ε XN:=if ds.length=ps then b (start n ds)else Ch
theorem acH(ps n:Nat)(b:XF)(ds:γ D)(h:ds.length=ps):fx ps n b ds=b (start n ds):=f8 h
def mC(i:Nat)(f:γ Nat->ε Bool)(ρ:Env):Res D:=match ρ[i]? with
| some<|some<|.exc c=>(match f c.1 with
 |some b=>.ok<|.bl b
 | none=>.bad)
|_=>.bad
def isx(c0:γ Nat)(b:Bool)(c:γ Nat):ε Bool:=if c=c0 then AC b else Ch
def TV(n:Nat)(b:SF)(c:XN):Res D:=match b (AC (.exc c)::EQ (n-1) Ch)with
|.ok<|.rt d=>.ok d
|.ok<|.nx _=>.ok .non
|_=>.bad
def vF(f:XN->Res D)(i:Nat)(ρ:Env):Res D:=match ρ[i]? with
|some<|some<|.exc c=>f c
|_=>.bad
end Z
namespace ZS
open L2 PySem.W
theorem JL(x:gE P w H h a o):∃ob,h.get? a=AC ob:=by
 cases o with
 |lst xs=>obtain⟨_,_,_,_,e⟩:=x;exact⟨_,e⟩
 |tup xs=>obtain⟨_,_,_,tn⟩:=x;obtain⟨ob,e,_⟩:=tn.is;exact⟨_,e⟩
 |dK aS=>obtain⟨_,_,_,_,o,_,_,e,_⟩:=x;exact⟨_,e⟩
 |dT aS=>obtain⟨_,_,_,_,o,_,_,e,_⟩:=x;exact⟨_,e⟩
 |set S n=>obtain⟨o,_,_,_,e,_⟩:=x;exact⟨_,e⟩
 |ins C dx fs=>obtain⟨_,_,_,e,_⟩:=x;exact⟨_,e⟩
 |own y=>obtain⟨_,e⟩:=x;exact⟨_,e⟩
 |xd fs=>obtain⟨_,⟨_,_,_,e,_⟩,_⟩:=x;exact⟨_,e⟩
 |ZI lo hi=>obtain⟨_,_,_,e⟩:=x;exact⟨_,e⟩
 |dZ ob u=>obtain⟨e,_⟩:=x;exact⟨_,e⟩
 |IG q=>obtain⟨_,e,_⟩:=x;exact⟨_,e⟩
 |Ml q=>obtain⟨_,_,_,_,e1,e2,_⟩:=x;cases e1;exact⟨_,e2⟩
 |met f y=>exact⟨_,(x)⟩
 |ext φ=>obtain⟨_,⟨_,e⟩,_⟩:=x;exact⟨_,e⟩
section
variable{X:Cx}{χ:γ (δ×ν)}{σ:St}{H H':Hp}{s:η}{h':μ}
theorem P9{ch:γ δ}(I:Inv X χ σ H s)
 (Ai:∀b∈ch,X.s₀.heap.get? b=Ch/\b≠X.env.locals/\(∀x c,X.env.cells.lookup x=AC c->c≠b)/\∀p∈X.pn++χ,p.1≠b)
 (keep:∀b o,b≠X.env.locals->b∉X.fs->b∉ch->s.heap.get? b=AC o->H b=Ch->h'.get? b=AC o)
 (slot:∀b o,b≠X.env.locals->b∈X.fs->b∉ch->s.heap.get? b=AC o->H b=Ch->∃sl,h'.get? b=AC {o with slots:=sl}) (free:∀b o,b∉ch->s.heap.get? b=AC o->H b=Ch->H' b=Ch)
 (there:∀b o,b∉ch->s.heap.get? b=AC o->∃o',h'.get? b=AC o')
 (qx:∀b xs,H b=AC (.tup xs)->H' b=AC (.tup xs)) (p5:∀b o u,H b=AC (.dZ o u)->H' b=AC (.dZ o u)) (m9:∀b u,Vs u->H b=AC u->H' b=AC u)
 (ns:∀m,s.heap.Ns X.env.locals m->h'.Ns X.env.locals m) (bQ:lY X.prog X.w H' h') (hg:AllBare g') :
 Inv X χ σ H' {s with heap:=h',gens:=g',drawn:=d',toks:=t'}:=by
 have Xb:∀b o,X.s₀.heap.get? b=AC o->b≠X.env.locals:=λ b o e=>A17<|A21 (A02 e) I.ok.above;have JV:∀b o,X.s₀.heap.get? b=AC o->b∉ch:=λ b o e hb=>by rw[(Ai b hb).1]at e;cases e
 have cellK:∀x c,X.env.cells.lookup x=AC c->∀v,s.heap.IsCell c v->h'.IsCell c v:=λ x c e v ⟨o,ho,hd⟩=>by
  have Bg:=λ z=>(Ai c z).2.2.1 x c e rfl;by_cases hc:c∈X.fs
  .obtain⟨sl,q⟩:=slot c o (I.LH x c e) hc Bg ho (I.gy x c e);exact⟨_,q,hd⟩
  .exact⟨o,keep c o (I.LH x c e) hc Bg ho<|I.gy x c e,hd⟩
 refine⟨I.ok,I.os,hg,⟨λ b o e n hb hx=>?_,λ b o e n hb hx=>?_,λ b o e n hx=>?_,λ b o e hx=>?_,λ b xs e=>qx b xs<|I.base.qx b xs e,λ b o xs e=>p5 b o xs<|I.base.p5 b o xs e,λ b u p e=>m9 b u p<|I.base.m9 b u p e⟩,?_,λ x c e=>?_,?_,λ x c e=>?_,λ p hp=>?_,bQ,I.len,I.tab.up m9⟩
 .exact keep b o (Xb b o e) hb (JV b o e) (I.base.keep b o e n hb hx)<|I.base.free b o e n hx
 .obtain⟨sl,e1⟩:=I.base.slot b o e n hb hx;obtain⟨sl',e2⟩:=slot b _ (Xb b o e) hb (JV b o e) e1 (I.base.free b o e n hx);exact⟨sl',e2⟩
 .obtain⟨o',e1⟩:=I.base.there b o e hx;exact free b o' (JV b o e) e1<|I.base.free b o e n hx
 .obtain⟨o',e1⟩:=I.base.there b o e hx;exact there b o' (JV b o e) e1
 .obtain⟨m,hn,hl⟩:=I.loc;refine⟨m,ns m hn,λ i x v e1 e2 e3=>?_⟩;obtain⟨u,r,l⟩:=hl i x v e1 e2 e3;refine⟨u,r,?_⟩;rcases l with l|⟨k,c,e,z⟩
  .exact .inl l
  .exact .inr ⟨k,c,e,cellK x c e _ z⟩
 .obtain⟨v,z⟩:=I.cell x c e;exact⟨v,cellK x c e v z⟩
 .obtain⟨m,⟨o,_,_,ho,_⟩,_⟩:=I.loc;exact free _ o (λ z=>(Ai _ z).2.1 rfl) ho I.free
 .obtain⟨v,o,ho,hd⟩:=I.cell x c e;exact free c o (λ z=>(Ai c z).2.2.1 x c e rfl) ho<|I.gy x c e
 .obtain⟨e,n,ne,nf,d⟩:=I.pin p hp;have Bg:=λ z=>(Ai p.1 z).2.2.2 p hp rfl;exact⟨keep p.1 p.2 ne nf Bg e n,free p.1 p.2 Bg e n,ne,nf,d⟩
structure mK(X:Cx)(χ:List (Addr×Obj))(H:Hp)(s:Shared)(a:Addr):Prop where
 free:H a=Ch
 new:X.s₀.heap.get? a=Ch
 pin:∀p∈X.pn++χ,p.1≠a
 _a:∃o vs,s.heap.get? a=AC o/\o.data=.fields vs
theorem mK.loc(o:mK X χ H s a)(I:Inv X χ σ H s):a≠X.env.locals:=λ z=>by obtain⟨ob,vs,e,d⟩:=o._a;obtain⟨m,⟨o',es,ep,nP,s?,_⟩,_⟩:=I.loc;rw[z,nP]at e;cases e;rw[s?]at d;cases d
theorem mK.cell(o:mK X χ H s a)(I:Inv X χ σ H s)(x:Str)(c:δ)(hc:X.env.cells.lookup x=AC c):c≠a:=λ z=>by obtain⟨ob,vs,e,d⟩:=o._a;obtain⟨v,o',nP,s?⟩:=I.cell x c hc;rw[z,e]at nP;cases nP;rw[d]at s?;cases s?
theorem absent(I:Inv X χ σ H s)(h:s.heap.get? a=Ch):H a=Ch/\X.s₀.heap.get? a=Ch\/a∈X.ex:=by
 by_cases hx:a∈X.ex
 .exact .inr hx
 .refine .inl ⟨?_,?_⟩
  .cases e:H a with
   |none=>rfl
   |some u=>obtain⟨ob,q⟩:=JL (I.bQ a u e);rw[h]at q;cases q
  .cases e:X.s₀.heap.get? a with
   |none=>rfl
   |some o=>obtain⟨o',q⟩:=I.base.there a o e hx;rw[h]at q;cases q
theorem Inv.snap(I:Inv X χ σ H s)(off:∀a∈l,mK X χ H s a)(k1:(hideAll s.heap<|tX X.stack++l).StaysIn h')
 (k4:∀b o,s.heap.get? b=AC o->(∀vs,o.data≠.fields vs)->∃sl,h'.get? b=AC {o with slots:=sl}):Inv X χ σ H {s with heap:=h',toks:=t'}:=by
 have Cj:=λ b o n1 n2 e=>k1 b o<|hideAll_get _ e λ z=>(A29.mp z).elim n1 n2;have Ro:∀b u,H b=AC u->b∉tX _/\b∉l:=λ b u e=>⟨λ z=>(by rw[I.tN b z]at e;cases e),λ z=>(by rw[(off b z).free]at e;cases e)⟩
 refine P9 I (λ b hb=>⟨(off b hb).new,(off b hb).loc I,(off b hb).cell I,(off b hb).pin⟩) (λ b o hL hf hc e n=>Cj b o (λ z=>(o0.mp<|I.qA b z).elim hL hf) hc e) (λ b o hL hf hc e n=>?_) (λ _ _ _ _ n=>n) (λ b o hc e=>?_) (λ _ _ e=>e) (λ _ _ _ e=>e) (λ _ _ _ e=>e) (λ m hm=>?_) (λ b u e=>?_) I.bare
 .obtain⟨_,o',nP,s?⟩:=I.lx.mem hf;rw[e]at nP;cases nP;exact k4 b o e s?
 .by_cases hz:b∈tX X.stack
  .obtain⟨_,o',nP,s?⟩:=I.stack.mem hz;rw[e]at nP;cases nP;obtain⟨sl,q⟩:=k4 b o e s?;exact⟨_,q⟩
  .exact⟨o,Cj b o hz hc e⟩
 .obtain⟨o,es,ep,ho,hd,r⟩:=hm;obtain⟨sl,q⟩:=k4 _ o ho (λ vs z=>by rw[hd]at z;cases z);exact⟨_,es,ep,q,hd,r⟩
 .refine(I.bQ b u e).n_ (λ c v hc q=>?_) (λ _ q=>q) (λ _ _ q=>q) λ _ _ _ q=>q;rcases hc with rfl|hc
  .exact Cj c v (Ro c u e).1 (Ro c u e).2 q
  .exact Cj c v (Ro c _ hc).1 (Ro c _ hc).2 q
theorem AS(hex:X.ex=[])(I:Inv X χ σ H s)(off:∀a∈l,mK X χ H s a)(k2:h'.FunFrames (hideAll s.heap<|tX X.stack++l) X.stack)
 (hT:(hideAll s.heap<|tX X.stack++l).get? T=Ch) (hT':h'.get? T=AC oT) (hd:oT.data=.fields ts):H T=Ch/\X.s₀.heap.get? T=Ch/\∀p∈X.pn++χ,p.1≠T:=by
 have nst:T∉tX _:=λ z=>by obtain⟨_,o',nP,s?⟩:=k2.mem z;rw[hT']at nP;cases nP;exact s? ts hd
 by_cases hl:T∈l
 .exact⟨(off T hl).free,(off T hl).new,(off T hl).pin⟩
 .have hn:s.heap.get? T=Ch:=by
   cases e:s.heap.get? T with
   |none=>rfl
   |some o=>rw[hideAll_get _ e λ z=>(A29.mp z).elim nst hl]at hT;cases hT
  rcases absent I hn with z|z
  .exact⟨z.1,z.2,λ p hp q=>by rw[<-q,(I.pin p hp).1]at hn;cases hn⟩
  .rw[hex]at z;cases z
end
theorem K?{rest:γ PySem.Env}
 (fr:A.frames=AC (env::rest)) (ff:s.heap.FunFrames ground (env::rest)) (el:env.frame=AC L) (ge:s.heap.get? e=AC oe) (st:ground.StaysIn s.heap) (ne:ground.get? e=Ch) (de:oe.data=.fields fl) (sz:1<fl.size)
 (k:∀ h' T oT ts,ground.StaysIn h'->h'.FunFrames ground (env::rest)->h'.get? e=AC (oe.mapFields (·.setIfInBounds 1<|.ref T))->ground.get? T=Ch->T≠e->h'.get? T=AC oT->oT.data=.fields ts->3<ts.size ->
  (∀b o,s.heap.get? b=AC o->(∀vs,o.data≠.fields vs)->∃sl,h'.get? b=AC {o with slots:=sl})->Q () {s with heap:=h'}) :
 FM M A (do let a ←frameOf env;let pl ←entryPlaceOf L nx;let b ←EntryCells.newEntry hd0 a .none (rawInt L) .none pl;setField (.ref e) 1 b) Q E s:=by
 have out:e∉(env::rest).filterMap (·.frame):=λ z=>by obtain⟨_,o,go,no⟩:=ff.mem z;rw[ge]at go;cases go;exact no fl de
 refine T0<|wpAny_frameOf_fun fr ff el λ h1 so=>T0<|wpAny_entryPlaceOf λ pl ip=>?_;unfold EntryCells.newEntry newFields;refine T0<|A63 ?_<|ip.sizeOk5 _ _ _ _ _;generalize abZ:({cls:=.type "traceback",dict:=Ch,data:=.fields ([hd0,.ref L,.none,rawInt L,.none]++(if pl.isEmpty then EQ 6 SZ else pl)).toArray}:ν)=new;have YD:new.data=.fields ([hd0,.ref L,.none,rawInt L,.none]++(if pl.isEmpty then EQ 6 SZ else pl)).toArray:=by rw[<-abZ]
 have ge1:=(so.2.1 e out).trans ge;have CQ:ground.StaysIn h1:=λ b o q=>(so.2.1 b λ z=>by rw[(ff.mem z).1]at q;cases q).trans<|st b o q;have ge2:=A00 (h:=h1) new ge1;refine B50 ge2 de sz ?_;have Te:=A50<|A02 ge1;have d3:=A66 de (·.setIfInBounds 1<|Value.ref h1.objs.size);have ge3:=A92 (TW (·.setIfInBounds 1<|Value.ref h1.objs.size)) ge2<|B51 d3;have gT:=(A64 (h1.push new) (TW (·.setIfInBounds 1<|Value.ref h1.objs.size))<|A08 Te).trans<|A13 h1<|B51 YD;have hold:∀b o,b≠e->h1.get? b=AC o->((h1.push new).update e (TW (·.setIfInBounds 1<|Value.ref h1.objs.size))).get? b=AC o:=λ b o n q=>by rw[A64 _ _<|A08 n];exact A00 _ q
 have apart:∀b o,s.heap.get? b=AC o->(∀vs,o.data≠.fields vs)->b≠e:=λ b o q n z=>by rw[z,ge]at q;cases q;exact n fl de
 refine k _ h1.objs.size new _ (λ b o q=>hold b o (λ z=>by rw[z,ne]at q;cases q)<|CQ b o q) (ff.of_keeps λ b o q n=>?_) ge3 CQ.fresh Te gT YD (by simp only[A05,A20,A24,A79];lia) λ b o q n=>?_
 .obtain⟨sl,z⟩:=so.2.2 b o q;exact⟨_,hold b _ (apart b o q n) z,rfl⟩
 .obtain⟨sl,z⟩:=so.2.2 b o q;exact⟨sl,hold b _ (apart b o q n) z⟩
theorem mj(o:ν)(f:Array ζ->Array ζ):(o.mapFields f).dict=o.dict:=by obtain⟨_,_,d,_⟩:=o;cases d<;>rfl
structure QZ(X:Cx)(χ:List (Addr×Obj))(H:Hp)(s:Shared)(e C:Addr)(dd:Option Addr):Prop where
 off:mK X χ H s e
 ex:∃oe vs,s.heap.get? e=AC oe/\oe.cls=.ref C/\oe.dict=dd/\oe.data=.fields vs/\(vs[1]?=AC .none\/∃T oT ts,vs[1]?=AC (.ref T)/\T≠e/\mK X χ H s T/\s.heap.get? T=AC oT/\oT.data=.fields ts/\ts[3]?=AC .none)
def adA(h0:μ)(H':Hp)(h':μ)(e C:δ)(dd:ε δ):Prop:=h0.get? e=Ch/\H' e=Ch/\∃oe vs T oT ts,h'.get? e=AC oe/\oe.cls=.ref C/\oe.dict=dd/\oe.data=.fields vs/\vs[1]?=AC (.ref T)/\T≠e/\H' T=Ch/\h0.get? T=Ch/\h'.get? T=AC oT/\oT.data=.fields ts/\ts[3]?=AC .none
def v?(P:ο)(w:ξ):UR:=λ outer H s E ev s'=>∃e C dd H',ev=.ref e/\s'.os=s.os/\AllBare s'.gens/\Un (tX outer) [] H H' s.heap s'.heap/\lY P w H' s'.heap/\adA s.heap H' s'.heap e C dd/\E (.ref C) dd H'
theorem IV:∀env∈l,∀a,env.frame=AC a->a∈tX l++as:=λ env he a ha=>A84 _<|B68.mpr ⟨env,he,ha⟩
section
variable{X:Cx}{χ:γ (δ×ν)}{σ:St}{H:Hp}{s:η}
structure Y8(X:Cx)(χ:List (Addr×Obj))(σ:St)(H:Hp)(s:Shared)(e C:Addr)(dd:Option Addr)(lands:Bool):Prop where
 inv:Inv X χ σ H s
 off:mK X χ H s e
 ex:∃oe vs T oT ts,s.heap.get? e=AC oe/\oe.cls=.ref C/\oe.dict=dd/\oe.data=.fields vs/\vs[1]?=AC (.ref T)/\T≠e/\mK X χ H s T/\s.heap.get? T=AC oT/\oT.data=.fields ts/\3<ts.size/\(lands=Da->ts[3]?=AC .none)
theorem Be(hex:X.ex=[])(vk:X.stack=X.env::X.outer)(Qv:X.env.frame=AC X.env.locals)(I:Inv X χ σ H s)(t:QZ X χ H s e C dd)
 (k:∀s',Y8 X χ σ H s' e C dd AT->Q () s'):FM M X.A (noteFrame (.ref e) X.env) Q E s:=by
 obtain⟨oe,vs,he,tW,HY,hd,h1⟩:=t.ex;have hfr:X.A.frames=AC (X.env::X.outer):=by rw[<-vk];exact I.ok.frames
 have HR:=I.stack;rw[vk]at HR;unfold noteFrame;simp only[Qv];rcases h1 with h1|⟨T,oT,ts,h1,Ym,Ma,gT,dT,h3⟩
 .have off:∀a∈[e],mK X χ H s a:=λ a ha=>by rw[A15.mp ha];exact t.off
  refine T0<|A34 he hd h1 ?_;rw[v6 (by decide)];refine K? hfr (funFrames_hide HR IV) Qv he (λ b o=>of_hideAll _) (B60 _<|A40 _<|A15.mpr rfl) hd (B31.mp h1).1 λ h' T' Ma Rm k1 k2 g1 g2 g3 g4 g5 g6 k4=>k _ ?_;rw[<-vk]at k1 k2 g2;have J:=Inv.snap (t':=s.toks) I off k1 k4;obtain⟨n1,n2,n3⟩:=AS hex I off k2 g2 g4 g5;have sz:=(B31.mp h1).1;exact⟨J,⟨t.off.free,t.off.new,t.off.pin,_,_,g1,A66 hd _⟩,_,_,T',Ma,Rm,g1,(B90 _ _).trans tW,(mj _ _).trans HY,A66 hd _,by simp[sz],g3,⟨n1,n2,n3,Ma,Rm,g4,g5⟩,g4,g5,g6,λ z=>nomatch z⟩
 .have off:∀a∈[e,T],mK X χ H s a:=λ a ha=>by
   rcases o0.mp ha with rfl|ha
   .exact t.off
   .rw[A15.mp ha];exact Ma
  refine T0<|A34 he hd h1 ?_;rw[f8 (by simp)];refine T0<|A34 gT dT h3 ?_;rw[v6 (by simp[rawInt])];refine T0<|B50 gT dT (B31.mp h3).1 ?_;have other:∀b,b≠T->(s.heap.update T (TW (·.setIfInBounds 3 SZ))).get? b=s.heap.get? b:=λ b hb=>A64 _ _<|A08 hb;have apart:∀b o,s.heap.get? b=AC o->(∀vs,o.data≠.fields vs)->b≠T:=λ b o q n z=>by rw[z,gT]at q;cases q;exact n ts dT
  have inT:T∈tX (X.env::X.outer)++[e,T]:=A40 _ (by simp);refine K? hfr ((funFrames_hide HR IV).of_keeps λ b o q n=>⟨o,(other b<|apart b o q n).trans q,rfl⟩) Qv ((other e<|A08 Ym).trans he)
   (λ b o q=>(other b λ z=>by rw[z,B60 _ inT]at q;cases q).trans<|of_hideAll _ q) (B60 _<|A40 _ (by simp)) hd (B31.mp h1).1 λ h' T' oT2 Rm k1 k2 g1 g2 g3 g4 g5 g6 k4=>k _ ?_
  rw[<-vk]at k1 k2 g2;have J:=Inv.snap (t':=s.toks) I off k1 λ b o q n=>k4 b o ((other b<|apart b o q n).trans q) n;obtain⟨n1,n2,n3⟩:=AS hex I off k2 g2 g4 g5;have sz:=(B31.mp h1).1;exact⟨J,⟨t.off.free,t.off.new,t.off.pin,_,_,g1,A66 hd _⟩,_,_,T',oT2,Rm,g1,(B90 _ _).trans tW,(mj _ _).trans HY,A66 hd _,by simp[sz],g3,⟨n1,n2,n3,oT2,Rm,g4,g5⟩,g4,g5,g6,λ z=>nomatch z⟩
theorem land(c:Y8 X χ σ H s e C dd l)(k:∀s',Y8 X χ σ H s' e C dd Da->Q () s'):FM M A (setFlight (.ref e) Ch) Q E s:=by
 obtain⟨oe,vs,T,oT,ts,he,tW,HY,hd,h1,Ym,Ma,gT,dT,h3,_⟩:=c.ex;refine wpAny_setFlight_none he hd h1 gT dT h3<|k _ ?_;have other:∀b o,b≠T->s.heap.get? b=AC o->(s.heap.update T (TW (·.setIfInBounds 3 .none))).get? b=AC o:=λ b o hb q=>(A64 _ _<|A08 hb).trans q;have gT2:=A92 (TW (·.setIfInBounds 3 SZ)) gT<|B51<|A66 dT _;have off:∀a∈[T],mK X χ H s a:=λ a ha=>by rw[A15.mp ha];exact Ma
 have J:=Inv.snap (t':=s.toks) c.inv off (λ b o q=>by
  by_cases hb:b=T
  .rw[hb,B60 _<|A40 _<|A15.mpr rfl]at q;cases q
  .exact other b o hb<|of_hideAll _ q) λ b o q n=>⟨_,other b o (λ z=>by rw[z,gT]at q;cases q;exact n ts dT) q⟩
 have Mg:=other e oe (A08 Ym) he;exact⟨J,⟨c.off.free,c.off.new,c.off.pin,oe,vs,Mg,hd⟩,oe,vs,T,_,_,Mg,tW,HY,hd,h1,Ym,⟨Ma.free,Ma.new,Ma.pin,_,_,gT2,A66 dT _⟩,gT2,A66 dT _,by simpa using h3,λ _=>by simp[h3]⟩
end
theorem xH{K:Do}
 (I:Inv (dO (v? P w) P w K mg base N qual scope f cd A outer s0 H0 E) χ σ H s) (t:QZ (dO (v? P w) P w K mg base N qual scope f cd A outer s0 H0 E) χ H s e C dd) (hE:E (.ref C) dd H) :
 (dO (v? P w) P w K mg base N qual scope f cd A outer s0 H0 E).xe (.ref e) s:=by
 show FM _ (dO (v? P w) P w K mg base N qual scope f cd A outer s0 H0 E).A _ (λ _ UW=>v? P w outer H0 s0 E _ UW) _ s;refine T0<|Be rfl rfl rfl I t λ s1 c1=>land c1 λ s2 c2=>?_;obtain⟨oe,vs,T,oT,ts,q1,q2,qd,q3,q4,q5,q6,q7,q8,q9,q10⟩:=c2.ex;exact⟨e,C,dd,H,rfl,c2.inv.os,c2.inv.bare,c2.inv.base,c2.inv.bQ,⟨c2.off.new,c2.off.free,oe,vs,T,oT,ts,q1,q2,qd,q3,q4,q5,q6.free,q6.new,q7,q8,q10 rfl⟩,hE⟩
theorem ID(hex:X.ex=[])(I:Inv X χ σ H s)(c:v? X.prog X.w X.stack H s E ev s'):
 ∃e C dd H',ev=.ref e/\Inv X χ σ H' s'/\QZ X χ H' s' e C dd/\E (.ref C) dd H':=by
 obtain⟨e,C,dd,H',rfl,os,bare,un,bQ,⟨ne,fe,oe,vs,T,oT,ts,q1,q2,qd,q3,q4,q5,q6,q7,q8,q9,q10⟩,hE⟩:=c;have J:=I.LK os un bQ bare λ b hb=>absurd hb (by simp);have ab:∀a,s.heap.get? a=Ch->X.s₀.heap.get? a=Ch/\∀p∈X.pn++χ,p.1≠a:=λ a h=>by
  rcases absent I h with z|z
  .exact⟨z.2,λ p hp q=>by rw[<-q,(I.pin p hp).1]at h;cases h⟩
  .rw[hex]at z;cases z
 exact⟨e,C,dd,H',rfl,J,⟨⟨fe,(ab e ne).1,(ab e ne).2,oe,vs,q1,q3⟩,oe,vs,q1,q2,qd,q3,.inr ⟨T,oT,ts,q4,q5,⟨q6,(ab T q7).1,(ab T q7).2,oT,ts,q8,q9⟩,q8,q9,q10⟩⟩,hE⟩
theorem MH(hex:X.ex=[])(I:Inv X χ σ H s)(hm:Heap.MadeExcOf s.heap h' e (.ref C) vs):
 Inv X χ σ H {s with heap:=h'}/\QZ X χ H {s with heap:=h'} e C Ch:=by
 have J:=I.kept (t':=s.toks) hm.keeps;obtain⟨t,ht,_,_⟩:=hm.there;refine⟨J,?_⟩;rcases absent I hm.new with z|z
 .exact⟨⟨z.1,z.2,λ p hp q=>(by have:=(I.pin p hp).1;rw[q,hm.new]at this;cases this),_,_,ht,rfl⟩,_,_,ht,rfl,rfl,rfl,.inl rfl⟩
 .rw[hex]at z;cases z
theorem PA.f_(h:PA X.f_ es t):PA X es t:=λ pos χ s σ H Q I hw=>A19 (h pos χ s σ H Q (I.wish _) hw) (λ _ _ ⟨vs,H',I',r,q⟩=>⟨vs,H',I'.gc,r,q⟩) λ _ _ z=>GM z
theorem PS.f_{st:θ}(h:PS X.f_ st t):PS X st t:=λ χ s σ H D I hw=>A19 (h χ s σ H D (I.wish _) hw) (λ _ _ q=>q.gc) λ _ _ z=>GM z
def YX(X:Cx)(σ:St)(H:Hp)(c:Z.XN):Prop:=∀χ H' s e C dd,aI H H'->o8 X.K H' c C dd->Inv X χ σ H' s->QZ X χ H' s e C dd->X.xe (.ref e) s
def Xw(X:Cx)(H0:Hp)(c:Z.XN):Prop:=∀χ σ H' s e C dd,aI H0 H'->o8 X.K H' c C dd->Inv X χ σ H' s->QZ X χ H' s e C dd->X.xe (.ref e) s
theorem YX.up(h:YX X σ H c)(e:aI H H'):YX X σ H' c:=λ χ H2 s a C dd sm=>h χ H2 s a C dd<|e.trans sm
def xR(X:Cx)(f:Z.XF)(σ:St)(H:Hp):Prop:=∃ρ c,RE X.K H σ ρ/\f ρ=AC c/\YX X σ H c
abbrev XE(X:Cx)(e:ι)(f:Z.XF):Prop:=PE X e λ σ H _=>xR X f σ H
structure _root_.ZQ.LX(X:Cx)(e:Expr)(f:Z.XF):Prop where p:XE X e f
abbrev XA(X:Cx)(es:γ ι)(f:Z.XF):Prop:=PA X es λ σ H _=>xR X f σ H
structure _root_.ZQ.QXA(X:Cx)(es:List Expr)(f:Z.XF):Prop where p:XA X es f
abbrev XT(X:Cx)(e:ι)(f:Z.XF):Prop:=PT X e λ σ H _=>xR X f σ H
structure _root_.ZQ.QXT(X:Cx)(e:Expr)(f:Z.XF):Prop where p:XT X e f
abbrev XR(X:Cx)(st:θ)(f:Z.XF):Prop:=PS X st λ _ σ H=>xR X f σ H
structure _root_.ZQ.QXR(X:Cx)(st:Stmt)(f:Z.XF):Prop where p:XR X st f
abbrev XRs(X:Cx)(AO:γ θ)(f:Z.XF):Prop:=sr X AO λ _ σ H=>xR X f σ H
structure _root_.ZQ.YZ(X:Cx)(AO:List Stmt)(f:Z.XF):Prop where p:XRs X AO f
def xS(X:Cx)(H0:Hp)(f:Z.XF)(σ:St)(H:Hp):Prop:=∃ρ c,RS X.K H0 H σ ρ/\f ρ=AC c/\Xw X H0 c
abbrev XS(X:Cx)(H0:Hp)(st:θ)(f:Z.XF):Prop:=PS X st λ _ σ H=>xS X H0 f σ H
structure _root_.ZQ.Q0(X:Cx)(H0:Hp)(st:Stmt)(f:Z.XF):Prop where p:XS X H0 st f
abbrev UI(X:Cx)(H0:Hp)(AO:γ θ)(f:Z.XF):Prop:=sr X AO λ _ σ H=>xS X H0 f σ H
structure _root_.ZQ.Cd(X:Cx)(H0:Hp)(AO:List Stmt)(f:Z.XF):Prop where p:UI X H0 AO f
theorem xS.r(h:xS X H0 f σ H):xR X f σ H:=by obtain⟨ρ,c,rs,e,k⟩:=h;exact⟨ρ,c,rs.re,e,λ χ H' s a C dd sm=>k χ σ H' s a C dd<|rs.same.trans sm⟩
def adG(C:δ)(h:μ):Prop:=∃(tl:γ ζ)(ns:δ)(nm qn:Str)(bs:γ ζ)(hd:Bool)(sn:γ Str)(sub:γ ζ)(ab:Bool)(col:ε Bool)(dd:ε δ)(s0 s1 s2 s3 s5:ε ζ),
 h.get? C=AC (excClassObj nm qn C ns bs tl hd sn sub ab col dd s0 s1 s2 s3 s5 "ValueError.__new__")/\tl.contains (.type "BaseException")=Da
theorem ade{K:Fa}(X:K.In h)(xc:XC K c C):adG C h:=by
 have q:=xc.2;unfold Cp at q;split at q
 .rename_i dd cd sl ho;split at q
  .rename_i C' tl s0 s1 s2 s3 id s5 e1 e2;simp only[A35,A32,B57]at q;obtain⟨⟨⟨rfl,rfl⟩,r1⟩,r2⟩:=q;cases cd;dsimp only at e1 r1;subst e1 r1;obtain rfl:sl=#[s0,s1,s2,s3,AC (.builtin "ValueError.__new__"),s5]:=by cases sl;simp only at e2;rw[e2]
   exact⟨tl,_,_,_,_,_,_,_,_,_,dd,s0,s1,s2,s3,s5,X _ _ ho,r2⟩
  .cases q
 .cases q
def adH(C:δ)(h:μ):Prop:=∃(tl:γ ζ)(ns:δ)(nm qn:Str)(bs:γ ζ)(hd:Bool)(sn:γ Str)(sub:γ ζ)(ab:Bool)(col:ε Bool)(dd:ε δ)(s0 s1 s2 s3 s5:ε ζ)(mN:Str->ε ζ),
 h.get? C=AC (excClassObj nm qn C ns bs tl hd sn sub ab col dd s0 s1 s2 s3 s5 "ValueError.__new__")/\h.Ns ns mN/\mN "__init__"=Ch/\OwnTail h [.type "ValueError",.type "Exception",.type "BaseException",.type "object"] tl
theorem adf{K:Fa}(X:K.In h)(q:excIn K C [.type "ValueError",.type "Exception",.type "BaseException",.type "object"] "ValueError.__new__"=Da):adH C h:=by
 unfold excIn at q;split at q
 .rename_i dd cd sl ho;split at q
  .rename_i C' tl s0 s1 s2 s3 id s5 e1 e2;simp only[A35,A32,B57]at q;obtain⟨⟨⟨⟨⟨rfl,rfl⟩,r1⟩,r2⟩,r3⟩,r4⟩:=q;cases cd;dsimp only at e1 r1 r3 r4;subst e1 r1;obtain rfl:sl=#[s0,s1,s2,s3,AC (.builtin "ValueError.__new__"),s5]:=by cases sl;simp only at e2;rw[e2]
   exact⟨tl,_,_,_,_,_,_,_,_,_,dd,s0,s1,s2,s3,s5,_,X _ _ ho,.of_isNs<|isNs_of_in X r3,nsMap_none_of_in X r3 r4,tail_of_in X r2⟩
  .cases q
 .cases q
def Zp(K:Do)(m:γ Z.D->ε Z.XN):Sp:=λ vs H _ E=>∃ds c,aG K H ds vs/\m ds=AC c/\∀C dd H',aI H H'->o8 K H' c C dd->E (.ref C) dd H'
structure HN(P:Program)(w:World)(K:Do)(mg:Str->Option Value)(base:Heap)(x:Str)(k:Nat)(ps:List Str)(m:List Z.D->Option Z.XN):Prop where
 ex:∃g fd,e6 P w K mg base (v? P w) k g fd ps (Zp K m)/\mg x=AC (.ref g)/\Fk K (.ref g)=Da/\Binds K fd ps []
theorem _root_.ZQ.Mp(C:HN X.prog X.w X.K X.mg X.base x k ps m)(hr:bB k X.A)(hg:Gl X x)
 (ha:ZQ.QA X.f_ (e::es) ar) (hex:X.ex=[]:=by rfl) (ir:(x==("__debug__"))=AT:=by decide +kernel) (he:Se e es X.env:=by rfl) (dX:Pn pos es X.env:=by rfl) :
 ZQ.LX X (.Call (.Name x p1) (e::es) [] pos) (Z.e? m ar):=⟨by
 obtain⟨g,fd,F,hm,hk,hb⟩:=C.ex;intro χ s σ H Q I h;obtain⟨ρ,c,re,ec,kw⟩:=h;unfold Z.e? at ec;split at ec
 .rename_i ds ed;refine A85<|mW I hg hm ?_ ir;refine A86 I.ok.mod.HU hk (cS (PA.f_ ha.p pos χ s σ H (λ vs H1=>aI H H1/\aG X.K H1 ds vs) I ⟨ρ,ds,re,ed,λ vs H1 s1 d1=>⟨s1,d1⟩⟩) λ us s1 ⟨vs,H1,I1,r,sm,d1⟩=>⟨I1.nM,?_⟩) he dX;have Fx:Zp X.K m vs H1 (λ _ _=>False) (λ cv dd H'=>∃C,cv=.ref C/\o8 X.K H' c C dd/\aI H1 H'):=⟨ds,c,d1,ec,λ C' dd H' s2 x2=>⟨C',rfl,x2,s2⟩⟩
  have hl:=F.len _ _ _ _ Fx;refine A73<|A74 (F.run X.A X.stack s1 H1 ⟨us,[]⟩ us vs _ _ hr I1.K! (by have:=hb s1 us I1.nM (by rw[A56,<-r.length];exact hl);simpa using this) r Fx) λ rr s' hq=>?_;cases rr with
  |ok fl=>
   cases fl with
   |ret u=>obtain⟨v,H2,_,_,_,_,_,q⟩:=hq;exact q.elim
   |_=>exact hq.elim
  |error ev=>have hq:v? X.prog X.w X.stack H1 s1 (λ cv dd H'=>∃C,cv=.ref C/\o8 X.K H' c C dd/\aI H1 H') ev s':=hq;obtain⟨a,C',dd,H',rfl,J,th,C2,hc,x2,s2⟩:=ID hex I1 hq;cases hc;exact kw χ H' s' a C' dd (sm.trans s2) x2 J th
 .cases ec⟩
theorem _root_.ZQ.Ii(h:ZQ.LX X e f)(ha:ZQ.QA X.f_ es ar)(he:Se e es X.env:=by rfl):ZQ.QXA X (e::es) f:=⟨a7 h.p (PA.f_ ha.p) he⟩
theorem _root_.ZQ.Ig(C:iG X.prog X.w X.K X.mg X.base x k ps m)(hr:bB k X.A)(hg:Gl X x)(ha:ZQ.QXA X (e::es) f)
 (ir:(x==("__debug__"))=AT:=by decide +kernel) (he:Se e es X.env:=by rfl) (dX:Pn pos es X.env:=by rfl):ZQ.LX X (.Call (.Name x p1) (e::es) [] pos) f:=⟨by
 obtain⟨g,fd,F,hm,hk,hb⟩:=C.ex;exact yU F hr hg hm hk hb .nil uE ha.p ir he dX⟩
section
variable{st:θ}
theorem _root_.ZQ.Ic{i:Nat}(hN:X.N.Nodup)(hi:X.N[i]?=AC x)(hx:Loc X.env.scope x)(h:ZQ.LX X a f)(hs:swapsWith a (AC<|.Name x pos') pos.line X.env=pure AT:=by rfl)(hf:Fl X x:=by trivial):ZQ.Q0 X H0 (.Assign [.Name x pos'] a pos) f:=
 ⟨PS.imp (qG hN hi hx h.p hs hf) λ D σ H q=>q.r⟩
theorem _root_.ZQ.yp(h:ZQ.LX X a f):ZQ.Q0 X H0 (.Return (AC a) pos) f:=⟨PS.imp (C4 h.p) λ D σ H q=>q.r⟩
theorem _root_.ZQ.ED(h:ZQ.LX X a f)(hs:swapsWith a Ch pos.line X.env=pure AT:=by rfl):ZQ.Q0 X H0 (.Expr a pos) f:=⟨PS.imp (pI h.p hs) λ D σ H q=>q.r⟩
theorem _root_.ZQ.rL(hc:ZQ.QT X.f_ c t)(h1:ZQ.Cd X H0 b1 xa)(h2:ZQ.Cd X H0 b2 xb):ZQ.Q0 X H0 (.If c b1 b2 pos) (Z.we t xa xb):=⟨PS.imp (Js (PT.f_ hc.p) h1.p h2.p) λ D σ H ⟨ρ,c,rs,ec,kw⟩=>by
 unfold Z.we at ec;split at ec
 .rename_i b eb;refine⟨ρ,b,rs.re,eb,λ H1 s1=>?_⟩;cases b with
  |true=>exact⟨ρ,c,rs.up s1,by simpa using ec,kw⟩
  |false=>exact⟨ρ,c,rs.up s1,by simpa using ec,kw⟩
 .cases ec⟩
theorem _root_.ZQ.xh:ZQ.Q0 X H0 st Z.nZ:=⟨λ _ _ _ _ _ _ ⟨_,_,_,e,_⟩=>nomatch e⟩
theorem _root_.ZQ.jq:ZQ.Cd X H0 AO Z.nZ:=⟨λ _ _ _ _ _ _ ⟨_,_,_,e,_⟩=>nomatch e⟩
theorem _root_.ZQ.f?(h:ZQ.Q0 X H0 st f):ZQ.Cd X H0 [st] f:=⟨tP h.p⟩
theorem _root_.ZQ.Mo(h:ZQ.QXR X st f):ZQ.YZ X [st] f:=⟨tP h.p⟩
theorem _root_.ZQ.cJ(h1:ZQ.QS X.f_ H0 st g)(x1:ZQ.Q0 X H0 st xa)(x2:ZQ.Cd X H0 AO xb):ZQ.Cd X H0 (st::AO) (Z.fy g xa xb):=⟨by
 have h1:=h1.p;have x2:=x2.p;intro χ s σ H D I h;obtain⟨ρ,c,rs,ec,kw⟩:=h;unfold Z.fy at ec;split at ec
 .rename_i c' e1;cases ec;exact ma x1.p x2 χ s σ H D I ⟨ρ,c,rs,e1,kw⟩
 .split at ec
  .rename_i ρ' e2;refine ma (PS.f_ h1) x2 χ s σ H D I ⟨ρ,_,rs,e2,λ σ' H' _ Ah=>⟨ρ',c,Ah,ec,kw⟩⟩
  .cases ec⟩
theorem _root_.ZQ.ky(hc:X.calm=Da)(hex:X.ex=[])(hg:Gl X x)(hcx:(⟨c.toArray⟩)=x)(xc:XC X.K c C)(xi:excIn X.K C [.type "ValueError",.type "Exception",.type "BaseException",.type "object"] "ValueError.__new__"=Da)(ha:ZQ.QE X.f_ a fa)
 (ir:(x==("__debug__"))=AT:=by decide +kernel) (he:Se a [] X.env:=by rfl) (dX:(backTo tq<|starEach (a::[]) X.env).any (·.1)=AT:=by rfl) :
 ZQ.Q0 X H0 (.Raise (AC<|.Call (.Name x np) [a] [] tq) Ch pos) (Z.e! c fa):=⟨by
 intro χ s σ H D I h;obtain⟨ρ,c',rs,ec,kw⟩:=h;unfold Z.e! at ec;split at ec
 .rename_i d ed;cases ec;have hm:X.mg x=AC (.ref C):=by have:=A12 I.nM (I.mod.glob.keeps I.bk) xc.1;rw[hcx]at this;exact this
  obtain⟨tl,ns,nm,qn,bs,hd,sn,sub,ab,col,dd,s0,s1,s2,s3,s5,mN,hC,hN,hni,T⟩:=adf I.mod.HU xi;refine wpAny_Raise_call_subT (nm:=nm) (q:=qn) (N:=ns) (bs:=bs) (bm:=tl) (hdct:=hd) (sn:=sn) (sub:=sub) (ab:=ab) (col:=col) (dd:=dd) (k0:=s0) (k1:=s1) (k2:=s2) (k3:=s3) (k5:=s5)
   F.excBase_ValueError (mN:=mN) (T.hasType F.excBase_ValueError.hasBase) (I.ok.hd hc) dX hni<|mW I hg hm ⟨rfl,?_⟩ ir
  have P:=a7 (PE.f_ ha.p) b9 he tq χ s σ H (λ vs H1=>aI H H1/\vs.length=1) I ⟨ρ,d,rs.re,ed,λ v H1 s1 d1=>⟨s1,rfl⟩⟩;rw[he]at P ⊢;refine Calls.evalArgs_plain<|A19 P (λ us s1 ⟨vs,H1,I1,r,sm,hl⟩=>⟨rfl,?_,I1.bk _ _ hC,hN.keeps I1.bk,T.keeps I1.bk,λ h' ex hmk=>?_⟩) λ _ _ z=>z
  .skip
   rw[<-r.length,hl,A27];decide
  .obtain⟨J,th⟩:=MH hex I1 hmk;exact kw χ σ H1 _ ex C Ch (rs.same.trans sm) ⟨xc,rfl⟩ J th
 .cases ec⟩
end
section
variable{K:Do}
theorem fnX{st:θ}{dV kV doc pm a! ct oc:ζ}
 (lk:K.lookup f=AC ⟨oc,od,.func<|PySem.W.fnOf name qual (bI st) (aM st) (ah st) dV kV doc pm an a! ct,wC⟩) (nQ:PP K a! qual=Da) (S:a_ N ps (ah st))
 (hb:∀ A outer s H E,bB k (A.deeper<|envOfC qual (ah st) s.heap.objs.size f a!) ->
  UI (dO (v? P w) P w K mg base N qual (ah st) f a! A outer s H E) H (aM st) xb):e6 P w K mg base (v? P w) (k+1) f (On name qual (bI st) (aM st) (ah st) dV kV doc pm an a! ct) ps (Zp K<|Z.fx ps.length N.length xb):=by
 have ψ:∀vs H Q E,Zp K (Z.fx ps.length N.length xb) vs H Q E->vs.length=ps.length:=λ vs H Q E ⟨ds,d,t,e,_⟩=>by
  unfold Z.fx at e;split at e
  .rename_i h;rw[t.length];exact h
  .cases e
 refine BI lk nQ S ψ λ A outer s H vs Q E hr h=>?_;refine⟨_,hb A outer s H E hr,?_⟩;have hl:=ψ vs H Q E h;obtain⟨ds,c,t,e,k⟩:=h;have dX:ps.length<=N.length:=by have:=A11 List.length S.pre;rw[A31]at this;lia
 have rs:RS K H H (L2.start N vs) (Z.start N.length ds):=mR t (by lia);unfold Z.fx at e;split at e
 .exact⟨_,c,rs,e,λ χ σ H' s' a C dd sm xc I th=>xH I th<|k C dd H' sm xc⟩
 .cases e
theorem HN.mk'{st:θ}(d:Def K mg x st ps)(S:a_ N ps (ah st))
 (hb:∀ f a! A outer s H E,bB k (A.deeper<|envOfC x (ah st) s.heap.objs.size f a!) ->
  UI (dO (v? P w) P w K mg base N x (ah st) f a! A outer s H E) H (aM st) xb):HN P w K mg base x (k+1) ps (Z.fx ps.length N.length xb):=by
 obtain⟨f,fd,F,hm,qm⟩:=d.ex;have kp:=F.kp;obtain⟨oc,od,kV,doc,pm,an,a!,ct,wC,rfl,lk,nQ⟩:=F.ex;exact⟨f,_,fnX lk nQ S<|hb f a!,hm,kp,qm⟩
end
theorem RS.V5{K:Fa}(h:RS K H0 H σ ρ)(hd:RL K H (.exc c) v):RS K H0 H (σ.set i<|some v) (ρ.set i<|some<|.exc c):=by
 have getσ:∀j,i≠j->(σ.set i<|some v)[j]?=σ[j]?:=λ j hj=>A26 hj;refine⟨h.same,⟨by simp[h.re.len],λ j l e=>?_,λ j k xs ys q e1 e2 e3 e4=>?_⟩,λ j xs q e1 e2=>?_,λ j xs e1=>?_,h.nA.set λ _ z=>nomatch z⟩
 .rcases aC e with⟨rfl,hl,e⟩|⟨hj,e⟩
  .cases e;exact⟨v,A30 (by rw[<-h.re.len];exact hl),hd⟩
  .rw[getσ j hj];exact h.re.get j l e
 .rcases aC e1 with⟨_,_,e⟩|⟨hj,e1⟩
  .cases e
  .rcases aC e2 with⟨_,_,e⟩|⟨hk,e2⟩
   .cases e
   .rw[getσ j hj]at e3;rw[getσ k hk]at e4;exact h.re.sep j k xs ys q e1 e2 e3 e4
 .rcases aC e1 with⟨_,_,e⟩|⟨hj,e1⟩
  .cases e
  .rw[getσ j hj]at e2;exact h.fresh j xs q e1 e2
 .rcases aC e1 with⟨_,_,e⟩|⟨hj,e1⟩
  .cases e
  .rw[getσ j hj];exact h.lK j xs e1
theorem i9.RI(h:i9 H0 σ ρ):i9 H0 (σ.set i Ch) (ρ.set i Ch):=by
 have g1:∀{j}{l},(ρ.set i Ch)[j]?=AC _->i≠j/\ρ[j]?=AC (AC l):=λ {j l} e=>by
  rcases aC e with⟨_,_,e⟩|z
  .cases e
  .exact z
 have g2:∀{j},i≠j->(σ.set i Ch)[j]?=σ[j]?:=λ {j} hj=>A26 hj;refine⟨λ j k ks ls q e1 e2 e3 e4=>?_,λ j ks q e1 e2=>?_⟩
 .obtain⟨n1,e1⟩:=g1 e1;obtain⟨n2,e2⟩:=g1 e2;rw[g2 n1]at e3;rw[g2 n2]at e4;exact h.1 j k ks ls q e1 e2 e3 e4
 .obtain⟨n1,e1⟩:=g1 e1;rw[g2 n1]at e2;exact h.2 j ks q e1 e2
theorem RS.RI{K:Do}(h:RS K H0 H σ ρ):RS K H0 H (σ.set i Ch) (ρ.set i Ch):=by
 have g1:∀{j}{l},(ρ.set i Ch)[j]?=AC _->i≠j/\ρ[j]?=AC (AC l):=λ {j l} e=>by
  rcases aC e with⟨_,_,e⟩|z
  .cases e
  .exact z
 have g2:∀{j},i≠j->(σ.set i Ch)[j]?=σ[j]?:=λ {j} hj=>A26 hj;refine⟨h.same,⟨by simp[h.re.len],λ j l e=>?_,λ j k xs ys q e1 e2 e3 e4=>?_⟩,λ j xs q e1 e2=>?_,λ j xs e1=>?_,h.nA.RI⟩
 .obtain⟨n,e⟩:=g1 e;rw[g2 n];exact h.re.get j l e
 .obtain⟨n1,e1⟩:=g1 e1;obtain⟨n2,e2⟩:=g1 e2;rw[g2 n1]at e3;rw[g2 n2]at e4;exact h.re.sep j k xs ys q e1 e2 e3 e4
 .obtain⟨n,e1⟩:=g1 e1;rw[g2 n]at e2;exact h.fresh j xs q e1 e2
 .obtain⟨n,e1⟩:=g1 e1;rw[g2 n];exact h.lK j xs e1
theorem Y8.VI(c:Y8 X χ σ H s e C dd l):∃oe u,oe.cls=.ref C/\oe.dict=dd/\(∃vs,oe.data=.fields vs)/\H e=Ch/\Inv X χ σ (upd H e<|.dZ oe u) s:=by
 obtain⟨oe,vs,T,oT,ts,he,tW,HY,hd,h1,Ym,Ma,gT,dT,h3,_⟩:=c.ex;have I:=c.inv;have ne:∀b u,H b=AC u->b≠e:=λ b u q=>bq q c.off.free;refine⟨oe,.ext λ _=>True,tW,HY,⟨vs,hd⟩,c.off.free,?_⟩;have J:=P9 (t':=s.toks) (d':=s.drawn) (H':=upd H e (.dZ oe<|.ext λ _=>True)) I (λ b hb=>by rw[A15.mp hb];exact⟨c.off.new,c.off.loc I,c.off.cell I,c.off.pin⟩) (λ b o _ _ _ q _=>q) (λ b o _ _ _ q _=>⟨o.slots,q⟩)
  (λ b o hb q n=>by rw[aD λ z=>hb<|A15.mpr z];exact n) (λ b o _ q=>⟨o,q⟩) (λ b xs q=>by rw[aD<|ne b _ q];exact q) (λ b o u q=>by rw[aD<|ne b _ q];exact q) (λ b u _ q=>by rw[aD<|ne b _ q];exact q) (λ m hm=>hm) (λ b u q=>?_) I.bare
 .exact J
 .by_cases hb:b=e
  .subst hb;rw[aV]at q;cases q;exact⟨he,trivial,⟨oe,he⟩,λ _ _ _ _=>trivial⟩
  .rw[aD hb]at q;exact(I.bQ b u q).n_ (λ c v _ z=>z) (λ c z=>by rw[aD<|ne c _ z];exact z) (λ c xs z=>by rw[aD<|ne c _ z];exact z) λ c v _ z=>by rw[aD<|ne c _ z];exact z
theorem name_goes(hN:X.N.Nodup)(hi:X.N[i]?=AC n)(hl:X.env.scope.names.lookup n=AC .local)(I:Inv X χ σ H s)
 (k:∀s',Inv X χ (σ.set i Ch) H s'->Q () s'):FM M A (do bindName X.env n .none;unbindBehindTheSuite X.env n pos) Q E s:=by
 obtain⟨m,hn,hlk⟩:=id I.loc;obtain⟨oL,_,_,hoL,_⟩:=id hn;refine wpAny_nameGoes_keeps hl hn (by rw[I.ok.kind];rfl) λ h' v Me hs=>k _ ?_;have lt:∀b o,X.s₀.heap.get? b=AC o->b≠X.env.locals:=λ b o e=>A17<|A21 (A02 e) I.ok.above;refine⟨I.ok,I.os,I.bare,⟨λ b o e n hb hx=>(hs.2 b<|lt b o e).trans<|I.base.keep b o e n hb hx,λ b o e n hb hx=>?_,I.base.free,λ b o e hx=>?_,I.base.qx,I.base.p5,I.base.m9⟩,⟨_,Me,λ j y v' e1 e2 e3=>?_⟩,λ y c e=>?_,I.free,I.gy,λ p hp=>?_,λ b u e=>?_,by simpa using I.len,I.tab⟩
 .obtain⟨sl,e1⟩:=I.base.slot b o e n hb hx;exact⟨sl,(hs.2 b<|lt b o e).trans e1⟩
 .obtain⟨o',e1⟩:=I.base.there b o e hx;exact⟨o',(hs.2 b<|lt b o e).trans e1⟩
 .have hj:j≠i:=λ z=>by
   subst z;rcases aC e2 with⟨_,_,e⟩|⟨n,_⟩
   .cases e
   .exact n rfl
  rw[A26<|A08 hj]at e2;obtain⟨u',r',q⟩:=hlk j y v' e1 e2 e3;refine⟨u',r',?_⟩;rcases q with⟨k,e⟩|⟨k,c,e,z⟩
  .refine .inl ⟨k,?_⟩;have:y≠n:=λ e=>hj<|uS hN e1<|e▸hi;simp[this,e]
  .exact .inr ⟨k,c,e,z.sameBut hs<|I.LH y c e⟩
 .obtain⟨w',z⟩:=I.cell y c e;exact⟨w',z.sameBut hs<|I.LH y c e⟩
 .obtain⟨e,n,ne,nf,d⟩:=I.pin p hp;exact⟨(hs.2 p.1 ne).trans e,n,ne,nf,d⟩
 .refine(I.bQ b u e).n_ (λ c v hc q=>(hs.2 c ?_).trans q) (λ _ q=>q) (λ _ _ q=>q) λ _ _ _ q=>q;rintro rfl;rcases hc with rfl|hc
  .rw[I.free]at e;cases e
  .rw[I.free]at hc;cases hc
abbrev Gd(X:Cx)(pn:γ (δ×ν))(E:ζ->η->Prop):Cx:={X with pn:=pn,xe:=E}
abbrev OI(X:Cx)(ev:ζ):Cx:={X with A:=X.A.mark<|some ev,calm:=AT}
theorem Sm(ok:X.Ok)(pn:γ _)(E:ζ->η->Prop):(Gd X pn E).Ok:=
 ⟨ok.mod,ok.kind,ok.glob,ok.blt,ok.above,ok.inj,ok.has,ok.QU,ok.hd,ok.frames,ok.HR,ok.Yw,ok.bs,ok.Ek,ok.za,ok.D',ok.lx,ok.H!⟩
theorem So(ok:X.Ok)(ev:ζ):(OI X ev).Ok:=
 ⟨ok.mod,ok.kind,ok.glob,ok.blt,ok.above,ok.inj,ok.has,ok.QU,λ z=>(nomatch z),ok.frames,ok.HR,ok.Yw,ok.bs,ok.Ek,ok.za,ok.D',ok.lx,ok.H!⟩
theorem Ox(I:Inv X χ σ H s)(E:ζ->η->Prop):Inv (Gd X (X.pn++χ) E) [] σ H s:=⟨Sm I.ok _ E,I.os,I.bare,I.base,I.loc,I.cell,I.free,I.gy,λ p hp=>I.pin p (by simpa using hp),I.bQ,I.len,I.tab⟩
theorem DU(ok:X.Ok)(I:Inv (Gd X (X.pn++χ) E) nG σ H s):Inv X χ σ H s:=⟨ok,I.os,I.bare,I.base,I.loc,I.cell,I.free,I.gy,λ p hp=>I.pin p<|A84 _ hp,I.bQ,I.len,I.tab⟩
theorem uM(o:mK (Gd X (X.pn++χ) E) nG H s a):mK X χ H s a:=⟨o.free,o.new,λ p hp=>o.pin p<|A84 _ hp,o._a⟩
theorem CL(t:QZ (Gd X (X.pn++χ) E) nG H s e C dd):QZ X χ H s e C dd:=by
 obtain⟨oe,vs,he,tW,HY,hd,h1⟩:=t.ex;refine⟨uM t.off,oe,vs,he,tW,HY,hd,?_⟩;rcases h1 with h1|⟨T,oT,ts,h1,h2,h3,h4⟩
 .exact .inl h1
 .exact .inr ⟨T,oT,ts,h1,h2,uM h3,h4⟩
theorem Fu(I:Inv X χ σ H s)(ev:ζ):Inv (OI X ev).f_ χ σ H s:=⟨(So I.ok ev).wish _,I.os,I.bare,I.base,I.loc,I.cell,I.free,I.gy,I.pin,I.bQ,I.len,I.tab⟩
theorem vb(ok:X.Ok)(I:Inv (OI X ev).f_ χ σ H s):Inv X χ σ H s:=⟨ok,I.os,I.bare,I.base,I.loc,I.cell,I.free,I.gy,I.pin,I.bQ,I.len,I.tab⟩
theorem Kf(I:Inv X χ σ H s)(hg:Gl X x)(hm:X.mg x=AC u)(h:Q u s)
 (hd:(x==("__debug__"))=AT):FM M A (eval (.Name x pos) X.env) Q E s:=
 B66 I.ok.kind hg (Calls.loadGlobal_global (by rw[I.ok.glob];exact I.mod.glob.keeps I.bk) hm h) hd
structure tF(K:Do)(C:Addr):Prop where
 ga:findIn K (.ref C) "__getattribute__"=AC (AC<|.builtin "BaseException.__getattribute__")
 gn:findIn K (.ref C) "__getattr__"=AC Ch
 cl:findIn K (.ref C) "__class__"=AC (AC<|.builtin "object.__class__")
 hn:specialIn K (.builtin "object.__class__") "__get__"=AC (AC<|.builtin "getset_descriptor.__get__")
 tk:takesIn K (.builtin "object.__class__")=AC Da
 mo:mroIn K C (.type "object")=AC Da
 mb:mroIn K C (.type "BaseException")=AC Da
section
variable{K:Do}
theorem OT(k:tF K C)(X:K.In s.heap)(I:InstAt s.heap x ox C od)(h:Q (AC<|.ref C) {s with toks:=s.toks+1}):FM (model prog w) A (getAttr? (.ref x) "__class__") Q E s:=by
 have hf:findObj K C od "__class__"=AC (.bind (.builtin "getset_descriptor.__get__")<|.builtin "object.__class__"):=by
  have:=k.mo;unfold mroIn at this;cases e:clsIn K C with
  |none=>rw[e]at this;cases this
  |some cd=>unfold findObj;rw[e];simp only[B96,k.cl,k.hn,k.tk]
 obtain⟨hh,g,d,t,os⟩:=s;have L0:=I.type (M:=model prog w);have L1:=looks_findIn (M:=model prog w) X k.ga;have L2:=looks_findIn (M:=model prog w) X k.gn;have L3:=looks_find (M:=model prog w) X I hf;have L4:=looks_mroIn (M:=model prog w) X k.mb;have LB:Looks (model prog w) hh (isInstance (.ref x)<|.type "BaseException") Da:=L0.andThen L4;unfold getAttr? getAttrBy? getAttrBy;refine T0<|wpAny_mkText<|T0<|B54<|A57<|T0<|L0.at<|T0<|L1.at ?_;dsimp only;rw[show(AD8 "BaseException.__getattribute__"== AD8 "object.__getattribute__")=AT from by decide +kernel,B82,v6 (by decide)];unfold getAttrByItsOwn hookBefore;refine T0 ?_;rw[f8<|show onTheHeap (.ref C)=Da from rfl];refine L2.at ?_;refine T0<|B54<|A57 ?_;unfold callGetattribute;rw[v6 (by decide)];unfold boundAndCalled;rw[F.excAttr_ValueError.ga.bind<|.ref x];refine T0<|W1 ?_;refine A73<|codeAny_call_builtin F.excAttr_ValueError.ga.plain F.entry_bexc_ga ?_;have hk:builtinKind "BaseException.__getattribute__"=AC .slot:=by decide +kernel
 have Th:splitId "BaseException.__getattribute__"=AC ("BaseException","__getattribute__"):=by decide +kernel
 have aeG:=F.args_bexc_ga (.ref x)<|.str "__class__" t;simp only[checkBuiltinCall,hk,Th];refine T0<|LB.at ?_
 repeat (any_goals (first|assumption|with_reducible refine LB.at ?_|wp_step))
 refine B70 I.at_<|W1 ?_;rw[I.cls];refine T0<|L3.at ?_;dsimp only;unfold Builtin.ObjectAttr.bindTo;dsimp only;refine T0<|A57<|A73<|class_get X I k.mo ?_;refine W1 ?_;exact W1<|W1 h
theorem Bs(k:tF K C):KitX K (.ref x) (.ref C) (λ h=>InstAt h x ox C od) where
 ty:=λ _ _ _ I=>I.type
 it:=λ _ _ X _=>by
  have:=k.mo;unfold mroIn clsIn at this;split at this
  .rename_i ho;intro A' Q' E' s' kp q;exact T0<|B70 (kp _ _<|X _ _ ho)<|W1 q
  .cases this
 ne:=λ h tp dd bx n sl X htp=>by
  have:=k.mo;unfold mroIn clsIn at this;split at this
  .rename_i ho;refine Bool.eq_false_iff.mpr λ q=>?_;have e:=Value.ref.inj<|A32.mp q;subst e;have z:=(X _ _ ho).symm.trans htp;cases z
  .cases this
 ca:=λ X I h=>OT k X I h
end
def mL(K:Do)(c0:γ Nat)(cv:ζ)(b:Bool):Prop:=∃C,nsIn K mainGlobals ⟨c0.toArray⟩=AC (AC<|.ref C)/\tF K C/\kitOne K (.ref C) cv=AC b
theorem Tb{K:Do}(h:mL K c0 cv b)(e:Z.isx c0 b c=AC b')(xc:XC K c C):tF K C/\kitOne K (.ref C) cv=AC b':=by
 unfold Z.isx at e;split at e
 .rename_i hc;subst hc;cases e;obtain⟨C',e1,k,e2⟩:=h;have:=xc.1.symm.trans e1;cases this;exact⟨k,e2⟩
 .cases e
section
variable{X:Cx}
theorem Vx(I:Inv X χ σ H s)(hp:H p=AC (.dZ o u))(hc:o.cls=.ref C)(hd:∃vs,o.data=.fields vs)(xr:o8 X.K H c C o.dict)
 (k:tF X.K C) (e:kitOne X.K (.ref C) cv=AC b) (h:∀tk,Q (.bool b) {s with toks:=tk}):FM (model X.prog X.w) A (call (.builtin "isinstance") [.ref p,cv]) Q E s:=by
 obtain⟨g1,_⟩:=(I.bQ p _ hp)
 obtain⟨vs,hd⟩:=hd;have nc:notCls o=Da:=by unfold notCls;rw[hd]
 have xd:=xr.2;cases HY:o.dict with
 |none=>exact kia_one (Bs (od:=Ch) k) I.nM ⟨g1,hc,nc,by rw[HY];trivial⟩ e (λ z=>nomatch z) h
 |some dx=>
  rw[HY]at xd;obtain⟨_,od,aS,q,_⟩:=xd;obtain⟨g2,_⟩:=(I.bQ dx _ q)
  exact kia_one (Bs (od:=AC od) k) I.nM ⟨g1,hc,nc,by rw[HY];exact g2⟩ e (λ z=>nomatch z) h
theorem B'(rc:∀u,RelV cV u->u=cv):i' X (.builtin "isinstance") (λ xs H Q=>∃p o u C c b,xs=[.ref p,cV]/\H p=AC (.dZ o u)/\o.cls=.ref C/\(∃vs,o.data=.fields vs)/\o8 X.K H c C o.dict/\tF X.K C/\kitOne X.K (.ref C) cv=AC b/\Q (.bl b) H):=by intro χ s σ H xs us Q I r h;obtain⟨p,o,u,C,c,b,rfl,h1,h2,h3,h4,h5,h6,q⟩:=h;obtain⟨v1,v2,rfl,r1,r2⟩:=vals2 r;cases (r1);cases rc v2 r2;exact Vx I h1 h2 h3 h4 h5 h6 λ tk=>⟨.bl b,H,I.tok _,rfl,q⟩
end
structure ym(k:Nat)(A:Around):Prop where
 dp:A.depth+3*k+5<recursionLimit
 un:A.units+16*k+200<cLine
theorem bB.han(r:bB k A)(ev:ε ζ):ym k (A.mark ev):=⟨r.dp,r.un⟩
abbrev YF(P:ο)(w:ξ)(K:Do)(mg:Str->ε ζ)(base:μ)(N:γ Str)(qual:Str)(scope:τ)(f:δ)(cd:ζ)(A:ς)(outer:γ PySem.Env)(s:η)(H:Hp):Cx:=
 {dO jn P w K mg base N qual scope f cd A outer s H E0 with calm:=AT}
section
variable{K:Do}
def adv(P:ο)(w:ξ)(K:Do)(mg:Str->ε ζ)(base:μ)(k:Nat)(g:δ)(fd:υ)(ps:γ Str)(m:Z.XN->Z.Res Z.D):Prop:=
 ∀(A:ς)(outer:γ PySem.Env)(s:η)(H:Hp)(args:Args)(u:ζ)(v:V)(Q:VK)(c:Z.XN)(d:Z.D),ym k A->tH P w K mg base A outer s H->BindsTo s fd args (ps.zip [u])->RelV v u->RL K H (.exc c) v->m c=.ok d->(∀v' H',aI H H'->Den K H' d v'->Q v' H') ->
  codeAny (model P w) A (.call (.ref g) args) (CR jn outer P w H s Q E0) s
structure PU(P:Program)(w:World)(K:Do)(mg:Str->Option Value)(base:Heap)(x:Str)(k:Nat)(ps:List Str)(m:Z.XN->Z.Res Z.D):Prop where
 ex:∃g fd,adv P w K mg base k g fd ps m/\mg x=AC (.ref g)/\Fk K (.ref g)=Da/\Binds K fd ps []/\ps.length=1
theorem Gf(hN:1<=N.length)(h:RL K H (.exc c) v):RS K H H (L2.start N [v]) (AC (.exc c)::EQ (N.length-1) Ch):=by
 have base:RS K H H (EQ N.length<|none) (EQ N.length<|none):=by
  have nn:∀i l,(EQ N.length (Ch:ε Z.L))[i]?≠AC (AC l):=λ i l e=>by rw[A46]at e;split at e<;>cases e
  refine⟨aI.refl H,⟨by simp,λ i l e=>absurd e<|nn i l,λ i j xs ys a e=>absurd e<|nn i _⟩,λ i xs q e=>absurd e<|nn i _,λ i xs e=>absurd e<|nn i _,⟨λ i j ks ls q e=>absurd e<|nn i _,λ i ks q e=>absurd e<|nn i _⟩⟩
 have e1:L2.start N [v]=(EQ N.length<|none).set 0 (AC v):=by
  unfold L2.start;obtain⟨n,hn⟩:∃n,N.length=n+1:=⟨N.length-1,by lia⟩
  rw[hn];rfl
 have e2:(AC (Z.L.exc c)::EQ (N.length-1) Ch)=(EQ N.length<|none).set 0 (AC<|.exc c):=by
  obtain⟨n,hn⟩:∃n,N.length=n+1:=⟨N.length-1,by lia⟩
  rw[hn];rfl
 rw[e1,e2];exact base.V5 h
theorem Up{x:Str}{k:Nat}{st:θ}{N ps:γ Str}{b:Z.SF}(d:Def K mg x st ps)(S:a_ N ps (ah st))(h1:ps.length=1)
 (hb:∀ f a! A outer s H,ym k (A.deeper<|envOfC x (ah st) s.heap.objs.size f a!) ->
  L8 (YF P w K mg base N x (ah st) f a! A outer s H).f_ H (aM st) b):PU P w K mg base x (k+1) ps (Z.TV N.length b):=by
 obtain⟨f,fd,F,hm,qm⟩:=d.ex;have kp:=F.kp;obtain⟨oc,od,kV,doc,pm,an,a!,ct,wC,rfl,lk,nQ⟩:=F.ex;refine⟨f,_,?_,hm,kp,qm,h1⟩;intro A outer s H args u v Q c dd hr e0 hbi rv rl em hq;have KX:K.In s.heap:=e0.mod.HU.keeps λ b o e=>(e0.bs b o e).1;have lim:s.heap.NoLimit:=e0.mod.nolimit.keeps λ b o e=>(e0.bs b o e).1;have KI:∀y∈ps.zip [u],(ah st).names.lookup y.1=AC .local\/((ah st).names.lookup y.1=AC .cell/\((cellsFrom (s.heap.objs.size+1) (ah st).names []).lookup y.1).isSome=Da):=λ⟨n,v⟩ hy=>by
  rcases S.par n (B40 hy).1 with q|q
  .exact .inl q
  .exact .inr ⟨q,B72 _ _ _<|.inl q⟩
 have dX:ps.length<=N.length:=by have:=A11 List.length S.pre;rw[A31]at this;lia
 refine codeAny_call_function (by have:=hr.dp;lia) (KX _ _ lk) rfl S.co S.gen rfl (wE KX nQ)<|hbi _ _ _ _ ?_;refine C16 S.kind KI λ env he s1 x1=>?_;subst he;refine⟨lim.keeps x1.toInCall.keep,codeAny_func ?_⟩;have e1:tH P w K mg base ({A with handled:=Ch}) outer s H:=⟨e0.frames,e0.mod,e0.bs,e0.Ek,e0.lx,e0.H!,e0.bQ,e0.bare,e0.tab⟩
 have I0:Inv (dO jn P w K mg base N x (ah st) f a! {A with handled:=Ch} outer s H E0) [] (L2.start N [v]) H s1:=xN S rfl e1 (by rw[h1];rfl) (.cons rv .nil) x1;have ok:(YF P w K mg base N x (ah st) f a! A outer s H).Ok:=let ok:=I0.ok
  ⟨ok.mod,ok.kind,ok.glob,ok.blt,ok.above,ok.inj,ok.has,ok.QU,λ z=>(nomatch z),B73 e0.frames,ok.HR,ok.Yw,ok.bs,ok.Ek,ok.za,ok.D',ok.lx,ok.H!⟩
 have I:Inv (YF P w K mg base N x (ah st) f a! A outer s H).f_ [] (L2.start N [v]) H s1:=⟨ok.wish _,I0.os,I0.bare,I0.base,I0.loc,I0.cell,I0.free,I0.gy,I0.pin,I0.bQ,I0.len,I0.tab⟩
 have room:ym k (A.deeper<|envOfC x (ah st) s.heap.objs.size f a!):=⟨by have:=hr.dp;show A.depth+1+3*k+5<_;lia,by have:=hr.un;show A.units+3+16*k+200<_;lia⟩
 have rs:=Gf (N:=N) (by lia) rl;unfold Z.TV at em;have fin:∀{σ'}{H'}{v'}{u'}{s'},Inv (YF P w K mg base N x (ah st) f a! A outer s H).f_ [] σ' H' s'->RelV v' u'->Q v' H'->CE outer P w H s Q u' s':=
  λ {σ' H' v' u' s'} J rv q=>⟨v',H',J.os,J.bare,J.base,J.bQ,rv,q⟩
 split at em
 .rename_i d' eb;cases em;refine A19 (hb f a! A outer s H room [] s1 _ H {nx:=λ _ _=>False,rt:=Q} I ⟨_,.rt dd,rs,eb,λ v' H' s' dv=>hq v' H' s' dv⟩) (λ fl s' hs=>?_) λ _ _ z=>z.elim;cases fl with
  |ret u'=>obtain⟨v',σ',H',J,rv',q⟩:=hs;exact fin J rv' q
  |next=>obtain⟨_,_,_,q⟩:=hs;exact q.elim
  |brk=>obtain⟨_,_,_,q⟩:=hs;exact q.elim
  |cont=>obtain⟨_,_,_,q⟩:=hs;exact q.elim
 .rename_i ρ' eb;cases em;refine A19 (hb f a! A outer s H room [] s1 _ H {nx:=λ _ H'=>Q .non H',rt:=λ _ _=>False} I ⟨_,.nx ρ',rs,eb,λ σ' H' _ Ah=>hq .non H' Ah.same j8⟩) (λ fl s' hs=>?_) λ _ _ z=>z.elim;cases fl with
  |ret u'=>obtain⟨_,_,_,_,_,q⟩:=hs;exact q.elim
  |next=>obtain⟨σ',H',J,q⟩:=hs;exact fin (v':=V.non) (u':=SZ) J rfl q
  |brk=>obtain⟨_,_,_,q⟩:=hs;exact q.elim
  |cont=>obtain⟨_,_,_,q⟩:=hs;exact q.elim
 .cases em
end
theorem _root_.ZQ.Ly(C:PU X.prog X.w X.K X.mg X.base x k ps m)(hr:ym k X.A)(hg:Gl X x)(ha:PE X a (l7 i))
 (ir:(x==("__debug__"))=AT:=by decide +kernel) (he:Se a [] X.env:=by rfl) (dX:Pn pos [] X.env:=by rfl) :
 ZQ.QE X (.Call (.Name x p1) [a] [] pos) (Z.vF m i):=⟨by
 obtain⟨g,fd,F,hm,hk,hb,h1⟩:=C.ex;intro χ s σ H Q I h;obtain⟨ρ,d,re,e,kk⟩:=h;unfold Z.vF at e;split at e
 .rename_i c hi;obtain⟨v,hv,rl⟩:=re.get i _ hi;refine A85<|mW I hg hm ?_ ir;refine A86 I.ok.mod.HU hk (cS (a7 ha b9 he pos χ s σ H (λ vs H1=>vs=[v]/\H1=H) I ⟨v,hv,rfl,rfl⟩) λ us s1 ⟨vs,H1,I1,r,q⟩=>⟨I1.nM,?_⟩) he dX;obtain⟨rfl,rfl⟩:=q;obtain⟨u,rfl,ru⟩:=vals1 r;refine A73<|A74 (F X.A _ s1 H1 ⟨[u],[]⟩ u v Q c d hr I1.K! (by have:=hb s1 [u] I1.nM (by rw[h1];rfl);simpa using this) ru rl e kk) λ rr s' hq=>?_;cases rr with
  |error ev=>exact hq.elim
  |ok fl=>
   cases fl with
   |ret u'=>exact I1.after hq
   |_=>exact hq.elim
 .cases e⟩
end ZS
namespace ZQ
open L2 ZS PySem.W
section
variable{K:Do}
theorem YJ{st:θ}(d:Def K mg x st ps)(hb:∀{f}{a!}{A}{outer}{s}{H}{E},N.Nodup->(A.deeper<|envOfC x (ah st) s.heap.objs.size f a!).units+64<cLine->bB k (A.deeper<|envOfC x (ah st) s.heap.objs.size f a!)->Cd (dO (v? P w) P w K mg base N x (ah st) f a! A outer s H E) H (aM st) xb)(S:a_ N ps (ah st):=by exact ZS.K0):HN P w K mg base x (k+1) ps (Z.fx ps.length N.length xb):=HN.mk' d S λ f a! A outer s H E hr=>(hb S.nd hr.units hr).p
theorem Up{st:θ}(d:Def K mg x st ps)(S:a_ N ps (ah st))(h1:ps.length=1)
 (hb:∀ f a! A outer s H,ym k (A.deeper<|envOfC x (ah st) s.heap.objs.size f a!) ->
  z! (YF P w K mg base N x (ah st) f a! A outer s H).f_ H (aM st) b):PU P w K mg base x (k+1) ps (Z.TV N.length b):=ZS.Up d S h1 λ f a! A outer s H hr=>(hb f a! A outer s H hr).p
end
end ZQ
namespace Z
def fH(c:Nat)(cs:γ Nat):γ Nat×γ Nat×γ Nat:=match Pi ⟨cs.toArray⟩ ⟨#[c]⟩ 0 cs.length 1 with
|i::_=>(cs.take i,[c],cs.drop<|i+1)
|[]=>(cs,[],[])
def kG:D->D->Res D
|.str cs,.str [c]=>guard (cs.length<=line)<|.ok<|.tup [.str (fH c cs).1,.str (fH c cs).2.1,.str (fH c cs).2.2]
|_,_=>.bad
end Z
namespace ZS
open L2 PySem.W
theorem IT(cs:γ Nat)(i:Nat):NE ⟨cs.toArray⟩ 0 i=eX (cs.take i):=by unfold NE eX;simp
theorem IU(cs:γ Nat)(i:Nat):NE ⟨cs.toArray⟩ i cs.length=eX (cs.drop i):=by unfold NE eX;simp;exact C28 (by simp)
def Wk:V->γ V->Hp->VK->Prop:=λ x vs H Q=>∃cs c,x=.str (eX cs)/\vs=[.str ⟨#[c]⟩]/\cs.length<=sizeLine/\∀q,H q=Ch->Q (.ref q) (upd H q<|.tup [.str (eX (Z.fH c cs).1),.str (eX (Z.fH c cs).2.1),.str (eX (Z.fH c cs).2.2)])
theorem NL:LY X "str.partition" Wk:=by
 intro χ s σ H x vs v us Q I rx rv h;obtain⟨cs,c,rfl,rfl,hl,k⟩:=h;obtain⟨tk,rfl⟩:=rx;obtain⟨u,rfl,ru⟩:=rv.one;obtain⟨tk2,rfl⟩:=ru;refine A53 F.slot_str_partition (A77 _ _ _) F.entry_str_partition (F.args_str_partition_2 _ _) (meets_str_partition _ ⟨#[c]⟩ tk tk2 rfl (by rw[k_];exact hl)) ?_;unfold Z.fH at k;have lm:=k_ cs;rw[lm];have fin:∀a b d t1 t2 t3 kk,(∀q,H q=Ch->Q (.ref q) (upd H q<|.tup [.str (eX a),.str (eX b),.str (eX d)])) ->
  EP X χ σ Q (.ref s.heap.objs.size) {s with toks:=kk,heap:=s.heap.push {cls:=.type "tuple",data:=.seq [.str (eX a) t1,.str (eX b) t2,.str (eX d) t3].toArray}}:=λ a b d t1 t2 t3 kk q=>
  ⟨.ref _,_,I.laid (o:=.tup [.str (eX a),.str (eX b),.str (eX d)]) (λ b ob q=>A00 _ q) (M2 _) ⟨by show 3<=sizeLine;decide,_,.cons ⟨t1,rfl⟩<|.cons ⟨t2,rfl⟩<|.cons ⟨t3,rfl⟩ .nil,_,A13 _ rfl⟩,rfl,q _<|I.bQ.fresh<|M2 _⟩
 cases e:Go (eX cs) ⟨#[c]⟩ 0 cs.length 1 with
 |nil=>have e':Go ⟨cs.toArray⟩ ⟨#[c]⟩ 0 cs.length 1=[]:=e;rw[e']at k;exact fin cs [] [] tk _ _ _ k
 |cons i r=>have e':Go ⟨cs.toArray⟩ ⟨#[c]⟩ 0 cs.length 1=i::r:=e;rw[e']at k;dsimp only;have a1:NE (eX cs) 0 i=eX (cs.take i):=IT cs i;have a2:NE (eX cs) (i+Str.length ⟨#[c]⟩) cs.length=eX (cs.drop<|i+1):=IU cs<|i+1;rw[a1,a2];exact fin (cs.take i) [c] (cs.drop<|i+1) _ _ _ _ k
theorem JP(h:Z.kG x y=.ok d):∃cs c,x=.str cs/\y=.str [c]/\cs.length<=Z.line/\d=.tup [.str (Z.fH c cs).1,.str (Z.fH c cs).2.1,.str (Z.fH c cs).2.2]:=by
 unfold Z.kG at h;split at h
 .rename_i cs c;obtain⟨h1,h2⟩:=Z.cX h;cases h2;exact⟨cs,c,rfl,rfl,h1,rfl⟩
 .cases h
theorem _root_.ZQ.zL(ho:ZQ.QW X o fa)(hb:ZQ.QW X b fb)
 (jE:attributeBase o "partition" X.env (eval o X.env)=eval o X.env:=by rfl)
 (oO:((backTo p2<|starEach (b::[]) X.env).all (λ x=>!x.1)&&(backToKw p2<|keywordEach [] X.env).all (λ x=>x.1.isSome)
  && decide ((b::[]).length+([]:γ π).length+(if([]:γ π).isEmpty then 0 else 1)<30))=Da:=by rfl)
 (jD:(p1.endLine==p2.line)=Da:=by rfl) (nO:Se b [] X.env:=by rfl) (gj:Pn p2 [] X.env:=by rfl) :
 ZQ.QE X (.Call (.Attribute o "partition" p1) [b] [] p2) (Z.eB Z.kG fa fb):=
 ⟨PE.imp (uD B58 PySem.F.slot_str_partition PySem.F.type_str_partition NL ho.p (a7 hb.p b9 nO) jE oO jD nO gj) λ σ H Q ⟨ρ,d,r,e,k⟩=>by obtain⟨x,ea,e⟩:=bd e;obtain⟨y,eb,e⟩:=bd e;obtain⟨cs,c,rfl,rfl,hl,rfl⟩:=JP e;refine⟨ρ,_,r,ea,λ v H1 s1 d1=>?_⟩;have Ui:=d1.str;subst Ui;refine⟨rfl,ρ,_,r.up s1,eb,λ u H2 s2 d2=>?_⟩;have Uh:=d2.str;subst Uh;refine⟨cs,c,rfl,rfl,by rw[A27];exact hl,λ q hq=>?_⟩;have s3:aI H2 (upd H2 q<|.tup [.str (eX (Z.fH c cs).1),.str (eX (Z.fH c cs).2.1),.str (eX (Z.fH c cs).2.2)]):=bP hq;exact k _ _ ((s1.trans s2).trans s3)<|fG (.inl<|.inl aV)<|aG.cons dI<|aG.cons dI<|aG.cons dI aG.nil⟩
def tCs(vs:γ V):TA:=λ _ H Q=>Q vs H
def NoK(K:Do)(c0:γ Nat)(as:γ δ):Prop:=∃C,nsIn K mainGlobals ⟨c0.toArray⟩=AC (AC<|.ref C)/\tF K C/\kitAny K (.ref C) (as.map Value.ref)=AC AT
structure PCs(X:Cx)(c0:List Nat)(es:List Expr)(as:List Addr):Prop where
 pa:PA X es (tCs<|as.map V.ref)
 k:NoK X.K c0 as
end ZS
namespace ZQ
open L2 ZS PySem.W
end ZQ
namespace Z
def Zw(i:Nat)(aS:γ (γ Nat×γ Nat))(ρ:Env):Res Fl:=.ok<|.nx<|ρ.set i<|some<|.Af aS
def qF(aS:γ (γ Nat×γ Nat))(k v:γ Nat):γ (γ Nat×γ Nat):=if(aS.any λ kv=>decide<|kv.1=k)=Da then aS.map (λ kv=>if kv.1=k then(kv.1,v)else kv)else aS++[(k,v)]
def uc(aS:γ (γ Nat×γ Nat))(k:γ Nat):ε (γ Nat):=(aS.find? λ kv=>decide<|kv.1=k).map (·.2)
def AJ(i:Nat)(ρ:Env)(k v:D)(o:ε (ε L)):Res Fl:=match k,v,o with
|.str k,.str v,AC<|some<|.dc<|.inr aS=>guard (aS.length<line)<|.ok<|.nx<|ρ.set i<|some<|.Af<|qF aS k v
|_,_,_=>.bad
def EX(i:Nat)(e e':EF)(ρ:Env):Res Fl:=(e' ρ).bind λ v=>(e ρ).bind λ k=>AJ i ρ k v ρ[i]?
def R_:ε (γ Nat)->Res D
|some v=>.ok<|.str v
|none=>.bad
def AK(k:D)(o:ε (ε L)):Res D:=match k,o with
|.str k,AC<|some<|.dc<|.inr aS=>R_<|uc aS k
|_,_=>.bad
def nU(i:Nat)(e:EF)(ρ:Env):Res D:=(e ρ).bind λ k=>AK k ρ[i]?
theorem IC(h:AJ i ρ k v o=.ok fl):∃k' v' aS,k=.str k'/\v=.str v'/\o=AC (AC<|.Af aS)/\aS.length<line/\fl=.nx (ρ.set i<|some<|.Af<|qF aS k' v'):=by
 unfold AJ at h;split at h
 .rename_i k' v' aS;obtain⟨h1,h2⟩:=cX h;cases h2;exact⟨k',v',aS,rfl,rfl,rfl,h1,rfl⟩
 .cases h
theorem IE(h:AK k o=.ok d):∃k' aS v,k=.str k'/\o=AC (AC<|.Af aS)/\uc aS k'=AC v/\d=.str v:=by
 unfold AK at h;split at h
 .rename_i k' aS;cases e:uc aS k' with
  |none=>rw[e]at h;cases h
  |some v=>rw[e]at h;cases h;exact⟨k',aS,v,rfl,rfl,e,rfl⟩
 .cases h
@[simp] theorem adV(i:Nat)(aS:γ _)(ρ:Env):Zw i aS ρ=.ok (.nx<|ρ.set i<|some<|.Af aS):=rfl
@[simp] theorem Zv(i:Nat)(e e':EF)(ρ:Env):EX i e e' ρ=(e' ρ).bind λ v=>(e ρ).bind λ k=>AJ i ρ k v ρ[i]?:=rfl
@[simp] theorem _F(i:Nat)(e:EF)(ρ:Env):nU i e ρ=(e ρ).bind λ k=>AK k ρ[i]?:=rfl
@[simp] theorem Zk(i:Nat)(ρ:Env)(k v:γ Nat)(aS:γ _):AJ i ρ (.str k) (.str v) (AC<|some<|.Af aS)=guard (aS.length<line) (.ok<|.nx<|ρ.set i<|some<|.Af<|qF aS k v):=rfl
@[simp] theorem Zl(k:γ Nat)(aS:γ _):AK (.str k) (AC<|some<|.Af aS)=R_ (uc aS k):=rfl
@[simp] theorem aaW(v:γ Nat):R_ (AC v)=.ok (.str v):=rfl
def f9(m:Nat):γ Nat:=(Nat.toDigits 10 m).map Char.toNat
def k9:D->Res D
|.int n=>guard (0<=n/\n<10^70)<|.ok<|.str<|f9 n.toNat
|_=>.bad
theorem Nw(h:k9 x=.ok d):∃n:Nat,x=.int n/\(n:Int)<10^70/\d=.str (f9 n):=by
 unfold k9 at h;split at h
 .rename_i n;obtain⟨h1,h2⟩:=cX h;cases h2;exact⟨_,by rw[C05 h1.1],by rw[C05 h1.1];exact h1.2,rfl⟩
 .cases h
theorem Ss(n:Nat)(h:(n:Int)<10^70):k9 (.int n)=.ok (.str<|f9 n):=by show guard _ _=_;rw[guard_pos ⟨Int.natCast_nonneg n,h⟩,B23]
def kS(cs:γ Nat):Nat:=cs.foldl (λ acc c=>acc*10+(c-48)) 0
def Bc:D->Res D
|.str cs=>guard (cs≠[]/\cs.length<=640/\∀c∈cs,48<=c/\c<=57)<|.ok<|.int<|kS cs
|_=>.bad
theorem JR(h:Bc x=.ok d):∃cs,x=.str cs/\cs≠[]/\cs.length<=640/\(∀c∈cs,48<=c/\c<=57)/\d=.int (kS cs):=by
 unfold Bc at h;split at h
 .rename_i cs;obtain⟨h1,h2⟩:=cX h;cases h2;exact⟨cs,rfl,h1.1,h1.2.1,h1.2.2,rfl⟩
 .cases h
def ints3(lo:Int)(n:Nat):γ D:=(FB n).map λ i=>D.int<|lo+(i:Nat)*3
def Vp:D->D->D->Res (γ D)
|.int i,.int j,.int k=>guard (k=3/\-1000000000<=i/\i<=1000000000/\-1000000000<=j/\j<=1000000000)<|.ok<|ints3 i ((j-i+2) / 3).toNat
|_,_,_=>.bad
theorem YL(i j k:Int):Vp (.int i) (.int j) (.int k)=guard (k=3/\-1000000000<=i/\i<=1000000000/\-1000000000<=j/\j<=1000000000) (.ok<|ints3 i ((j-i+2) / 3).toNat):=rfl
theorem Us(h:Vp x y z=.ok ds):∃i j,x=.int i/\y=.int j/\z=.int 3/\-1000000000<=i/\i<=1000000000/\-1000000000<=j/\j<=1000000000/\ds=ints3 i ((j-i+2) / 3).toNat:=by
 unfold Vp at h;split at h
 .obtain⟨⟨rfl,h1,h2,h3,h4⟩,e⟩:=cX h;cases e;exact⟨_,_,rfl,rfl,rfl,h1,h2,h3,h4,rfl⟩
 .cases h
def Kw(a b c:EF)(ρ:Env):Res (γ D):=(a ρ).bind λ x=>(b ρ).bind λ y=>(c ρ).bind λ z=>Vp x y z
@[simp] theorem _i(a b c:EF)(ρ:Env):Kw a b c ρ=(a ρ).bind λ x=>(b ρ).bind λ y=>(c ρ).bind λ z=>Vp x y z:=rfl
end Z
namespace ZS
open L2 PySem.W
theorem mk_inj{a b:γ Nat}:((⟨a.toArray⟩:Str)=⟨b.toArray⟩)↔a=b:=⟨λ h=>by have h1:=A11 Str.cps h;simpa using h1,λ h=>by rw[h]⟩
theorem pV{a b:γ Nat}:((IN ⟨a.toArray⟩:Key)=IN ⟨b.toArray⟩)↔a=b:=⟨λ h=>mk_inj.mp<|Sum.inr.inj h,λ h=>by rw[h]⟩
theorem Oc(aS:γ _)(k:γ Nat):((v_ aS).any λ kv=>decide<|kv.1=IN ⟨k.toArray⟩)=aS.any λ kv=>decide (kv.1=k):=by
 induction aS with
 |nil=>rfl
 |cons x r ih=>
  show(decide _||(v_ r).any _)=_;rw[ih,A88]
  congr 1
  exact decide_eq_decide.mpr pV
theorem Ob(aS:γ _)(k v:γ Nat):v_ (Z.qF aS k v)=putK (v_ aS) (IN ⟨k.toArray⟩) (.str ⟨v.toArray⟩):=by
 unfold Z.qF putK;rw[Oc];split
 .unfold v_;rw[A36,A36];refine A80 λ x _=>?_;show(_)=if(IN ⟨x.1.toArray⟩:Key)=IN ⟨_⟩then _ else _
  by_cases h:x.1=k
  .rw[f8<|pV.mpr h];show((IN ⟨(if x.1=k then(x.1,v)else x).1.toArray⟩:Key),V.str ⟨(if x.1=k then(x.1,v)else x).2.toArray⟩)=_;rw[f8 h]
  .rw[v6 λ z=>h<|pV.mp z];show((IN ⟨(if x.1=k then(x.1,v)else x).1.toArray⟩:Key),V.str ⟨(if x.1=k then(x.1,v)else x).2.toArray⟩)=_;rw[v6 h]
 .unfold v_;rw[B02];rfl
theorem Oa(aS:γ _)(k:γ Nat):pf (v_ aS) (IN ⟨k.toArray⟩)=(Z.uc aS k).map λ v=>V.str ⟨v.toArray⟩:=by
 induction aS with
 |nil=>rfl
 |cons x r ih=>
  by_cases h:x.1=k
  .rw[show v_ _=(IN ⟨x.1.toArray⟩,V.str ⟨x.2.toArray⟩)::v_ r from rfl,pd<|pV.mpr h];unfold Z.uc;rw[AC7,A42 h];rfl
  .rw[show v_ _=(IN ⟨x.1.toArray⟩,V.str ⟨x.2.toArray⟩)::v_ r from rfl,pe λ z=>h<|pV.mp z,ih];unfold Z.uc;rw[AC7,A49 h]
def cT(aS:γ (γ Nat×γ Nat)):γ (TE×TE):=aS.map λ p=>(tC<|.str ⟨p.1.toArray⟩,tC<|.str ⟨p.2.toArray⟩)
theorem JE(aS:γ _)(σ:St)(H:Hp)(Q:γ _->Hp->Prop)(h:Q (aS.map λ p=>(V.str ⟨p.1.toArray⟩,V.str ⟨p.2.toArray⟩)) H):yG (cT aS) σ H Q:=by
 induction aS generalizing Q with
 |nil=>exact h
 |cons x r ih=>exact ih _ h
def Ad(X:Cx)(pos:Pos)(ks:γ (ε ι))(vs:γ ι)(aS:γ (γ Nat×γ Nat)):Prop:=Y0 X pos ks vs<|cT aS
theorem Uk:Ad X pos [] [] []:=M'
theorem t7(hx:x=⟨k.toArray⟩)(hy:y=⟨v.toArray⟩)(h:Ad X pos ks vs aS):
 Ad X pos (AC (.Constant (.str x) j q)::ks) (.Constant (.str y) j' q'::vs) ((k,v)::aS):=by
 subst hx hy;exact Jt C7 C7 h
theorem _root_.ZQ.YC(hN:X.N.Nodup)(hi:X.N[i]?=AC x)(hx:Loc X.env.scope x)(hc:Ad X p ks vs aS)
 (hm:qO [] (v_ aS)=v_ aS) (ab6:aS.length<=15)
 (hall:ks.all (·.isSome)=Da:=by rfl) (hl:ks.length=vs.length:=by rfl) (h0:ks≠[]:=by exact List.cons_ne_nil _ _) (h15:ks.length<=15:=by exact Nat.le_of_ble_eq_true rfl)
 (hs:swapsWith (.Dict ks vs p) (AC<|.Name x pos') pos.line X.env=pure AT:=by rfl) (hf:Fl X x:=by trivial) :
 ZQ.QS X H0 (.Assign [.Name x pos'] (.Dict ks vs p) pos) (Z.Zw i aS):=⟨PS.imp (qG hN hi hx (Nf hc hall hl h0 h15) hs hf) λ D σ H ⟨ρ,fl,rs,e,k⟩=>by
 cases e;intro q hq;refine JE aS σ _ _ ?_;refine⟨aV,v_ aS,?_,by unfold v_;rw[A09];exact ab6,?_⟩
 .unfold v_;rw[A36];rfl
 .rw[hm,MB];exact k _ _ (l!<|bP hq)<|rs.setG (as:=[]) hq (bP hq) aV True.intro⟩
theorem _root_.ZQ.OW(hu:X.A.units+64<cLine)(ho:PE X o (l7 i))(hk:ZQ.QE X kx fk)(hv:ZQ.QE X vx fv)(hs:swapsWith vx (AC<|.Subscript o kx p1) pos.line X.env=pure AT:=by rfl):
 ZQ.QS X H0 (.Assign [.Subscript o kx p1] vx pos) (Z.EX i fk fv):=⟨PS.imp (M8 (by lia) ho hk.p hv.p hs) λ D σ H ⟨ρ,fl,rs,e,k⟩=>by
 obtain⟨dv,ev,e⟩:=bd e;obtain⟨dk,ek,e⟩:=bd e;obtain⟨k',v',aS,rfl,rfl,eo,hl,rfl⟩:=Z.IC e;refine⟨ρ,_,rs.re,ev,λ v H1 s1 d1=>?_⟩;have Ui:v=V.str (eX v'):=by simp only[Den]at d1;exact d1
 subst Ui;obtain⟨w,si,q,as,rfl,hq,_⟩:=rs.re.get i _ eo;refine⟨_,si,ρ,_,rs.re.up s1,ek,λ u H2 s2 d2=>?_⟩;have Uh:u=V.str (eX k'):=by simp only[Den]at d2;exact d2
 subst Uh;have hq0:=hq;have KD:=s2 _ _<|s1 _ _ hq0;have Wa:=s1.trans s2;refine⟨q,_,rfl,EB.k (k:=IN (eX k')) KD (by unfold v_;rw[A09,A27];exact hl),?_⟩;rw[show putK (v_ aS) (IN<|eX k') (V.str<|eX v')=v_ (Z.qF aS k' v')from(Ob aS k' v').symm];have st:iQ H2 (upd H2 q<|.dK<|v_<|Z.qF aS k' v'):=mQ KD (λ _ z=>nomatch z) λ _ _ z=>nomatch z;exact k σ _ ((l! Wa).trans st)<|(rs.up Wa).upq (as:=[]) eo si KD (l:=.Af _) ⟨q,[],rfl,aV,True.intro⟩ (λ _ z=>nomatch z) λ _ z=>nomatch z⟩
theorem _root_.ZQ.t6(hu:X.A.units+64<cLine)(ho:PE X o (l7 i))(hk:ZQ.QE X kx fk)(hs:UM kx:=by intro _ _;rfl):
 ZQ.QE X (.Subscript o kx pos) (Z.nU i fk):=⟨PE.imp (Ng (by lia) ho hk.p hs) λ σ H Q ⟨ρ,d,r,e,k⟩=>by
 obtain⟨dk,ek,e⟩:=bd e;obtain⟨k',aS,v,rfl,eo,hv,rfl⟩:=Z.IE e;obtain⟨w,si,q,as,rfl,hq,_⟩:=r.get i _ eo;refine⟨_,si,ρ,_,r,ek,λ u H2 s2 d2=>?_⟩;have Uh:u=V.str (eX k'):=by simp only[Den]at d2;exact d2
 subst Uh;have hq0:=hq;have KD:=s2 _ _ hq0;refine⟨q,_,rfl,?_,k _ _ s2 dI⟩;have g:=Cf.k (k:=IN (eX k')) KD;have e2:pf (v_ aS) (IN<|eX k')=AC (V.str<|eX v):=by have:=Oa aS k';rw[hv]at this;exact this
 rw[e2]at g;exact g⟩
theorem _root_.ZQ.Lv(hg:Gl X x)(hm:X.mg x=AC (.str ⟨cs.toArray⟩ t))(hb:(x==("__debug__"))=AT:=by decide +kernel):ZQ.QE X (.Name x pos) (Z.eC<|.str cs):=⟨Ec (tQ (v:=.str ⟨_⟩) hg hm ⟨t,rfl⟩ hb) λ _=>dI⟩
theorem O4(n:Nat):Db (toString ((n):Int))=eX (Z.f9 n):=by
 have h:=KIN.signs_num n;have:(Db _)=⟨(Db<|toString ((n):Int)).cps⟩:=rfl;rw[this];show(⟨_⟩:Str)=⟨(Z.f9 n).toArray⟩
 unfold Z.f9;rw[<-h]
theorem SV{n:Nat}(h:(n:Int)<10^70):((n):Int).natAbs.log2<1920:=by
 rw[Int.natAbs_natCast];have h1:n<2^1920:=by
  have:n<10^70:=by exact_mod_cast h
  exact B16 this<|A21 (show 10^70<2^256 by decide)<|Nat.pow_le_pow_right (by decide) (by decide)
 by_cases h0:n=0
 .subst h0;decide
 .exact(Nat.log2_lt h0).mpr h1
theorem Hz:i' X (.type "str") (λ xs H Q=>∃n:Nat,xs=[.int n]/\(n:Int)<10^70/\Q (.str<|eX<|Z.f9 n) H):=by intro χ s σ H xs us Q I r h;obtain⟨n,rfl,hn,q⟩:=h;obtain⟨u,rfl,ru⟩:=r.one;obtain⟨t,rfl⟩:=ru;refine PySem.P.str_of_int (SV hn) ?_;refine⟨.str _,H,I.tok _,⟨s.toks,?_⟩,q⟩;rw[<-O4]
theorem _root_.ZQ.g?{x:Str}(hm:X.mg x=Ch)(ha:ZQ.QW X a fa)(hn:x≠ "__name__":=by decide +kernel)(ir:(x==("__debug__"))=AT:=by decide +kernel)(he:Se a [] X.env:=by rfl)(dX:Pn pos [] X.env:=by rfl)(hg:Gl X x:=by rfl)(hv:bootBuiltins x=AC (.type "str"):=by kernel_rfl):ZQ.QE X (.Call (.Name x p1) [a] [] pos) (Z.eU Z.k9 fa):=
 ⟨PE.imp (mT Hz hg hm hv (a7 ha.p b9 he) hn ir he dX) λ σ H Q ⟨ρ,d,r,e,k⟩=>by obtain⟨x,ea,e⟩:=bd e;obtain⟨n,rfl,hl,rfl⟩:=Z.Nw e;refine⟨ρ,_,r,ea,λ v H1 s1 d1=>?_⟩;exact⟨n,by rw[d1.int],hl,k _ H1 s1 dI⟩⟩
theorem HB:i' X (.type "int") (λ xs H Q=>∃cs,xs=[.str (eX cs)]/\cs≠[]/\cs.length<=640/\(∀c∈cs,48<=c/\c<=57)/\Q (.int<|Z.kS cs) H):=by
 intro χ s σ H xs us Q I r h;obtain⟨cs,rfl,h0,hl,hd,q⟩:=h;obtain⟨u,rfl,ru⟩:=r.one;obtain⟨t,rfl⟩:=ru;have e:(eX cs).cps.toList=cs:=by show cs.toArray.toList=cs;simp
 have BA:(eX cs).length<=640:=by rw[k_];exact hl
 have hi:=PySem.intText_digits (by rw[e];exact hd) (by rw[e];exact h0)<|A23 BA (by decide);refine KIN.call_text hi BA ?_;refine⟨.int _,H,I.tok _,⟨s.toks,?_⟩,q⟩;rw[e];rfl
theorem _root_.ZQ.O7(hg:Gl X x)(hm:X.mg x=Ch)(hv:bootBuiltins x=AC (.type "int"))(ha:ZQ.QW X a fa)(hn:x≠ "__name__":=by decide +kernel)(ir:(x==("__debug__"))=AT:=by decide +kernel)
 (he:Se a [] X.env:=by rfl) (dX:Pn pos [] X.env:=by rfl):ZQ.QE X (.Call (.Name x p1) [a] [] pos) (Z.eU Z.Bc fa):=
 ⟨PE.imp (mT HB hg hm hv (a7 ha.p b9 he) hn ir he dX) λ σ H Q ⟨ρ,d,r,e,k⟩=>by obtain⟨x,ea,e⟩:=bd e;obtain⟨cs,rfl,h0,hl,hd,rfl⟩:=Z.JR e;refine⟨ρ,_,r,ea,λ v H1 s1 d1=>?_⟩;have Ui:=d1.str;subst Ui;exact⟨cs,rfl,h0,hl,hd,k _ H1 s1 cO⟩⟩
def _T(lo:Int)(n:Nat):It:=⟨λ i _=>i<n,λ i H x H'=>H'=H/\x=.int (lo+(i:Nat)*3),λ i _=>n<=i⟩
theorem IA{K:Do}(it:δ)(lo:Int)(n:Nat):Turn P w K tg (_T lo n) [it] it (λ i h=>IsRangeIter h it (lo+(i)*3) ((n)-(i)) 3) where
 mem:=by simp
 obj:=λ i h st b hb=>by
  have e:b=it:=by simpa using hb
  subst e;exact⟨_,st,λ v z=>by have z':=z;cases z'⟩
 keep:=λ i h h' st k=>k it (by simp) _ st
 item:=by intro X hP hw hK hc i χ s σ H E I hf st hg;subst hP hw hK;obtain⟨f0,f1,f2,f3,f4,f5⟩:=hf it (by simp);have W:=Walks.range (prog:=X.prog) (w:=X.w) (I.ok.hd hc) it lo 3 n;refine W.item i s _ _ hg st λ v h' tk hv xu kk=>?_;obtain⟨t,rfl⟩:=hv;have I1:Inv X χ σ H {s with heap:=h',toks:=tk}:=I.turned (λ b o hb e=>kk b o (by simpa using hb) e) f0 f1 f3 f4 f5;exact⟨_,rfl,xU xu rfl rfl (by decide) ⟨.int<|lo+(i)*3,H,I1,⟨t,rfl⟩,⟨rfl,rfl⟩,xu,λ b hb=>(hf b hb).1⟩⟩
 done:=by intro X hP hw hK hc i χ s σ H E I hf st hg;subst hP hw hK;obtain⟨f0,f1,f2,f3,f4,f5⟩:=hf it (by simp);exact wpAny_pyNext_range_end (I.ok.hd hc) st (by have:n<=i:=hg;lia) λ h' eb=>⟨rfl,I.turned (λ b o hb e=>eb b o hb e) f0 f1 f3 f4 f5⟩
 self:=λ _ _ _ _ _ st h=>wpAny_pyIter_rangeiter st h
theorem AU(a b:Int):Os a b 3=(((b-a+2) / 3).toNat):=by
 unfold Os;rw[f8 (by decide)];split
 .lia
 .lia
theorem Gj(h1:-1000000000<=a)(h2:a<=1000000000)(h3:-1000000000<=b)(h4:b<=1000000000):Uf a b 3=Da:=by
 unfold Uf;rw[AU];simp only[Builtin.Range.rangeFitsLong,A25]
 try simp
 try lia
theorem Gr{lo hi:Int}{t u v:Tok}{tk:Nat}(I:Inv X χ σ H s)(h1:-1000000000<=lo)(h2:lo<=1000000000)(h3:-1000000000<=hi)(h4:hi<=1000000000)
 (q:R (_T lo ((hi-lo+2) / 3).toNat) H):FM (model X.prog X.w) X.A (pyIter<|.ref s.heap.objs.size) (Y1 X χ σ tg R) E {s with heap:=s.heap.push {cls:=.type "range",data:=.fields #[.int lo t,.int hi u,.int 3 v]},toks:=tk}:=by
 refine wpAny_pyIter_range (IsRange.new ..) (Gj h1 h2 h3 h4) ?_;have I1:Inv X χ σ H {s with heap:=s.heap.push {cls:=.type "range",data:=.fields #[.int lo t,.int hi u,.int 3 v]},toks:=tk}:=I.kept λ b o e=>A00 _ e;refine⟨(s.heap.push {cls:=.type "range",data:=.fields #[.int lo t,.int hi u,.int 3 v]}).objs.size,[(s.heap.push {cls:=.type "range",data:=.fields #[.int lo t,.int hi u,.int 3 v]}).objs.size],_,_,H,rfl,
  I1.kept (t':=tk) λ b o e=>A00 _ e,IA _ lo ((hi-lo+2) / 3).toNat,?_,λ b hb=>?_,q⟩
 .have e1:lo+((0:Nat):Int)*3=lo:=by simp
  have e2:((((hi-lo+2) / 3).toNat:Nat):Int)-((0:Nat):Int)=Os lo hi 3:=by rw[AU];simp
  show IsRangeIter _ _ (lo+((0:Nat):Int)*3) (((((hi-lo+2) / 3).toNat:Nat):Int)-((0:Nat):Int)) 3;rw[e1,e2];exact A13 _ rfl
 .have e:b=(s.heap.push {cls:=.type "range",data:=.fields #[.int lo t,.int hi u,.int 3 v]}).objs.size:=by simpa using hb
  subst e;exact I1.vw (M2 _)<|I1.bQ.fresh<|M2 _
def YU(ta:TA):TI:=λ σ H R=>ta σ H λ vs H1=>∃i j:Int,vs=[.int i,.int j,.int 3]/\(-1000000000<=i/\i<=1000000000/\-1000000000<=j/\j<=1000000000)/\R (_T i ((j-i+2) / 3).toNat) H1
theorem R3(hg:Gl X "range")(hm:X.mg "range"=Ch)(ha:PA X [a,b,c] ta)(hs:starEach [a,b,c] X.env=[(AT,eval a X.env),(AT,eval b X.env),(AT,eval c X.env)]:=by rfl)(zt:starEach [b,c] X.env=[(AT,eval b X.env),(AT,eval c X.env)]:=by rfl):
 PI X tg (.Call (.Name "range" p) [a,b,c] [] pos) (YU ta):=by
 intro χ s σ H R I h;refine Call_<|lh I hg hm boot_range<|A96 (cS (ha pos χ s σ H _ I h) λ us s1 ⟨vs,H1,I1,r1,q1⟩=>?_) (by rw[hs,zt]) (by rw[zt];rfl);obtain⟨i,j,e,⟨q1,q2,q3,q4⟩,q⟩:=q1;subst e;cases r1 with
 |cons r rr=>
  cases rr with
  |cons r' rr=>
   cases rr with
   |cons r'' rr=>cases rr;obtain⟨t,rfl⟩:=r;obtain⟨t',rfl⟩:=r';obtain⟨t'',rfl⟩:=r'';exact call_range_3 (by decide)<|Gr I1 q1 q2 q3 q4 q
theorem xO(lo:Int)(n i:Nat)(d:Z.D)(h:(Z.ints3 lo n)[i]?=AC d):i<n/\d=.int (lo+(i)*3):=by
 unfold Z.ints3 at h;rw[A04]at h;cases q:(FB n)[i]? with
 |none=>rw[q]at h;cases h
 |some x=>rw[q]at h;cases h;obtain⟨h1,h2⟩:=A10.mp q;rw[B17]at h2;subst h2;exact⟨by simpa using h1,rfl⟩
theorem Ou{K:Do}(lo:Int)(n:Nat):Cn K (_T lo n) S (Z.ints3 lo n) where
 go:=λ i d H1 s hi=>(xO lo n i d hi).1
 EC:=λ i d H1 H2 x s hi y=>by obtain⟨e,y⟩:=y;obtain⟨_,rfl⟩:=xO lo n i d hi;subst e;rw[y];exact⟨aI.refl _,cO⟩
 stop:=λ H1 s=>by unfold Z.ints3;rw[A09,B00];exact M2 _
theorem _root_.ZQ.T_(hg:Gl X "range")(hm:X.mg "range"=Ch)(ha:ZQ.QE X a fa)(hb:ZQ.QE X b fb)(hc:ZQ.QE X c fc)(hs:starEach [a,b,c] X.env=[(AT,eval a X.env),(AT,eval b X.env),(AT,eval c X.env)]:=by rfl)(zt:starEach [b,c] X.env=[(AT,eval b X.env),(AT,eval c X.env)]:=by rfl)
 (h1:starEach (a::[b,c]) X.env=(AT,eval a X.env)::starEach [b,c] X.env:=by rfl) (h2:Se b [c] X.env:=by rfl) (h3:Se c [] X.env:=by rfl):ZQ.QJ X tg (.Call (.Name "range" p) [a,b,c] [] pos) (Z.Kw fa fb fc):=
 ⟨PI.imp (R3 hg hm (a7 ha.p (a7 hb.p (a7 hc.p b9 h3) h2) h1) hs zt) λ σ H R ⟨ρ,ds,r,e,k⟩=>by obtain⟨x,ea,e⟩:=bd e;obtain⟨y,eb,e⟩:=bd e;obtain⟨z,ec,e⟩:=bd e;obtain⟨i,j,rfl,rfl,rfl,b1,b2,b3,b4,rfl⟩:=Z.Us e;refine⟨ρ,_,r,ea,λ v H1 s1 d1=>⟨ρ,_,r.up s1,eb,λ u H2 s2 d2=>⟨ρ,_,(r.up s1).up s2,ec,λ u3 H3 s3 d3=>?_⟩⟩⟩;simp only[Den]at d1 d2 d3;exact⟨i,j,by rw[d1,d2,d3],⟨b1,b2,b3,b4⟩,k _ H3 ((s1.trans s2).trans s3)<|Ou i ((j-i+2) / 3).toNat⟩⟩
end ZS
namespace ZQ
open L2 ZS PySem.W
end ZQ
namespace Z
end Z
namespace ZS
open L2 PySem.W
theorem _root_.ZQ.Q!{i:Nat}(hN:X.N.Nodup)(hi:X.N[i]?=AC x)(hx:Loc X.env.scope x)(h:ZQ.LX X a f)(hs:swapsWith a (AC<|.Name x pos') pos.line X.env=pure AT:=by rfl)(hf:Fl X x:=by trivial):ZQ.QXR X (.Assign [.Name x pos'] a pos) f:=⟨qG hN hi hx h.p hs hf⟩
end ZS
namespace ZQ
open L2 ZS PySem.W
end ZQ
namespace Z
def eM(kd i:Nat)(ρ:Env):Res D:=match ρ[i]? with
|some<|some<|.bor<|.dct (.inl a::.inl k::ks) vs=>if k=(kd:Int)then .ok (.dct (.inl a::.inl k::ks) vs)else .bad
|_=>.bad
def vo:γ (Sum Int<|γ Nat)->γ D->γ Nat->Res D
|.inr k::ks,v::vs,f=>if k=f then .ok v else vo ks vs f
|_,_,_=>.bad
def gG(f:γ Nat):D->Res D
|.dct (.inl _::.inl _::ks) vs=>vo ks vs f
|_=>.bad
def Fz(bs:γ Bool)(n:Nat)(b:XF)(ds:γ D):ε XN:=if ds.length=bs.length then b (startB n bs ds)else Ch
theorem xW(bs:γ Bool)(n:Nat)(b:XF)(ds:γ D)(h:ds.length=bs.length):Fz bs n b ds=b (startB n bs ds):=f8 h
def AY(b:SF)(xb:XF)(cs:γ (γ Nat))(i:Nat)(h:SF)(ρ:Env):Res Fl:=match xb ρ with
| some c'=>if c'.1∈cs then(match h (ρ.set i<|some<|.exc c')with
 |.ok<|.nx ρ'=>.ok<|.nx<|ρ'.set i Ch
 |.ok<|.rt d=>.ok<|.rt d
 | _=>.bad)else .bad
|none=>b ρ
inductive PQ where
|nx (ρ:Env)
|rt (d:D) (ts:List D)
abbrev SM:=Env->Res PQ
def VJ:ε (ε L)->D
|some<|some<|.bor d=>d
|_=>.non
def l3(ms:γ Nat)(ρ:Env):γ D:=ms.map λ i=>VJ ρ[i]?
def wQ:ε L->Prop
|some<|.bor _=>True
|_=>False
def qM(ms:γ Nat):Nat->Env->Prop
|_,[]=>True
|k,x::r=>(wQ x->k∈ms)/\qM ms (k+1) r
def iU(ms:γ Nat)(ρ ρ':Env):Prop:=(∀i∈ms,ρ'[i]?=ρ[i]?)/\qM ms 0 ρ'
def b!(ms:γ Nat)(g:SF)(ρ:Env):Res PQ:=(g ρ).bind λ fl=>match fl with
|.nx ρ'=>guard (iU ms ρ ρ')<|.ok<|.nx ρ'
|.rt d=>.ok<|.rt d<|l3 ms ρ
|_=>.bad
def c_(a b:SM)(ρ:Env):Res PQ:=(a ρ).bind λ fl=>match fl with
|.nx ρ'=>b ρ'
|o=>.ok o
def l?(f:γ Nat)(d:D):γ (Sum Int<|γ Nat)->γ D->γ (Sum Int<|γ Nat)×γ D
|.inr k::ks,v::vs=>if k=f then(.inr k::ks,d::vs)else(.inr k::(l? f d ks vs).1,v::(l? f d ks vs).2)
|_,_=>([.inr f],[d])
def AV(f:γ Nat)(x:D)(t:ε (ε L)):Res L:=match t with
|some<|some<|.bor<|.dct (.inl a::.inl k::ks) vs=>guard (k=0/\(l? f x ks vs).1=(dg.take (l? f x ks vs).1.length).map .inr)<|.ok<|.bor<|.dct (.inl a::.inl k::(l? f x ks vs).1) (l? f x ks vs).2
|_=>.bad
def oC(i:Nat)(f:γ Nat)(e:EF)(ρ:Env):Res PQ:=(e ρ).bind λ d=>(AV f d ρ[i]?).bind λ l=>.ok<|.nx<|ρ.set i<|some l
def D4(ms:γ Nat)(bs:γ Bool)(n:Nat)(b:SM)(ds:γ D):Res (D×γ D):=if ds.length=bs.length then(match b (startB n bs ds)with
|.ok<|.rt d ts=>.ok (d,ts)
|.ok<|.nx ρ=>.ok (.non,l3 ms ρ)
| _=>.bad)else .bad
theorem BJ(ms:γ Nat)(bs:γ Bool)(n:Nat)(b:SM)(ds:γ D)(h:ds.length=bs.length):D4 ms bs n b ds=(match b (startB n bs ds)with
|.ok<|.rt d ts=>.ok (d,ts)
|.ok<|.nx ρ=>.ok (.non,l3 ms ρ)
| _=>.bad):=f8 h
open Classical in
def uW(m:γ D->Res (D×γ D))(ds:γ D):Res (γ D):=if h:∃fs,∀x:Nat,m (ib x 0 [] []::ds)=.ok (.non,[ib x 0 dg fs])then .ok h.choose else .bad
theorem J'(h:uW m ds=.ok fs):∀x,m (ib x 0 [] []::ds)=.ok (.non,[ib x 0 dg fs]):=by
 unfold uW at h;split at h
 .rename_i q;cases h;exact q.choose_spec
 .cases h
theorem J!(h:∀x,m (ib x 0 [] []::ds)=.ok (.non,[ib x 0 dg fs])):uW m ds=.ok fs:=by
 have q:∃fs,∀x,m (ib x 0 [] []::ds)=.ok (.non,[ib x 0 dg fs]):=⟨fs,h⟩
 unfold uW;rw[dif_pos q];have:=(q.choose_spec 0).symm.trans<|h 0;simp only[Res.ok.injEq,C06,true_and,B46,B26,ib,D.dct.injEq]at this;exact A11 _ this
open Classical in
def LU(f:Nat->Res Fl):Res Fl:=if h:∃d,∀x,f x=.ok (.rt d)then .ok (.rt h.choose)else .bad
theorem Pw(h:LU f=.ok fl):∃d,fl=.rt d/\∀x,f x=.ok (.rt d):=by
 unfold LU at h;split at h
 .rename_i q;cases h;exact⟨_,rfl,q.choose_spec⟩
 .cases h
theorem Px(h:∀x,f x=.ok (.rt d)):LU f=.ok (.rt d):=by
 have q:∃d,∀x,f x=.ok (.rt d):=⟨d,h⟩
 unfold LU;rw[dif_pos q];have:=(q.choose_spec 0).symm.trans<|h 0;simp only[Res.ok.injEq,Fl.rt.injEq]at this;exact A11 (λ d=>Res.ok _) this
open Classical in
abbrev UQ:=Env->Res (D×Env)
def ie:γ Nat->γ D->Env->Env
|i::is,t::ts,ρ=>ie is ts<|ρ.set i<|some<|.bor t
|_,_,ρ=>ρ
def jY:Nat->γ Bool->γ Nat
|_,[]=>[]
|k,Da::bs=>k::jY (k+1) bs
|k,AT::bs=>jY (k+1) bs
def P0:γ Bool->γ D->γ D
|true::bs,d::ds=>d::P0 bs ds
|false::bs,_::ds=>P0 bs ds
|_,_=>[]
def mP(f:EF)(ρ:Env):Res (D×Env):=(f ρ).bind λ d=>.ok (d,ρ)
def lT(fn:γ D->Res (D×γ D))(bs:γ Bool)(is:γ Nat)(ar:AF)(ρ:Env):Res (D×Env):=(ar ρ).bind λ ds=>guard (P0 bs ds=l3 is ρ)<|(fn ds).bind λ r=>guard (r.2.length=is.length)<|.ok (r.1,ie is r.2 ρ)
def mB(op:D->D->Res D)(a b:UQ)(ρ:Env):Res (D×Env):=(a ρ).bind λ x=>(b x.2).bind λ y=>(op x.1 y.1).bind λ z=>.ok (z,y.2)
def rY(e:UQ)(ρ:Env):Res PQ:=(e ρ).bind λ r=>.ok<|.nx r.2
def G3(ms:γ Nat)(e:UQ)(ρ:Env):Res PQ:=(e ρ).bind λ r=>.ok<|.rt r.1<|l3 ms r.2
def rX(ρ:Env):Res PQ:=.ok<|.nx ρ
abbrev Vq:=Env->Res (Bool×Env)
def GW(t:TF)(ρ:Env):Res (Bool×Env):=(t ρ).bind λ b=>.ok (b,ρ)
def N0(a b:UQ)(ρ:Env):Res (D×Env):=(a ρ).bind λ x=>match x.1 with
|.bl c=>if c then b x.2 else .ok (.bl AT,x.2)
|_=>.bad
def qP(t:Vq)(a b:SM)(ρ:Env):Res PQ:=(t ρ).bind λ c=>if c.1 then a c.2 else b c.2
def uA(i:Nat)(m:γ D->Res (D×γ D))(a:EF)(r:SM)(ρ:Env):Res Fl:=(a ρ).bind λ d=>(uW m [d]).bind λ fs=>guard (qM [i] 0<|ρ.set i<|some<|.bor<|.dct [] []) (LU λ x=>(r<|ρ.set i<|some<|.bor<|ib x 0 dg fs).bind λ fl=>match fl with
|.rt d _=>.ok<|.rt d
| _=>.bad)
end Z
namespace ZS
open L2 PySem.W
def Pz(K:Do)(H:Hp)(kd:Nat)(d:Z.D)(v:V):Prop:=∃a ks ds u,d=Z.ib a kd ks ds/\v=.ref a/\H a=AC u/\H? K H kd ks ds u
theorem Pz.b{K:Do}(h:Pz K H kd d v):jP K H d v:=let ⟨a,ks,ds,u,h⟩:=h;.inr ⟨a,kd,ks,ds,u,h⟩
theorem Pz.up{K:Do}(h:Pz K H kd d v)(e:aI H H'):Pz K H' kd d v:=by obtain⟨a,ks,ds,u,e1,e2,q,t⟩:=h;exact⟨a,ks,ds,u,e1,e2,e _ _ q,t.ups<|l! e⟩
def tZm(K:Do)(kd:Nat)(f:Z.EF):TE:=λ σ H Q=>∃ρ d,RE K H σ ρ/\f ρ=.ok d/\∀v H',aI H H'->Pz K H' kd d v->Q v H'
abbrev DM(X:Cx)(kd:Nat)(e:ι)(f:Z.EF):Prop:=PE X e<|tZm X.K kd f
structure _root_.ZQ.QM(X:Cx)(kd:Nat)(e:Expr)(f:Z.EF):Prop where p:DM X kd e f
theorem YA(h:Z.eM kd i ρ=.ok d):∃a ks vs,ρ[i]?=AC (AC<|.bor d)/\d=.dct (.inl a::.inl (kd)::ks) vs:=by
 unfold Z.eM at h;split at h
 .rename_i a k ks vs q;split at h
  .rename_i hk;subst hk;cases h;exact⟨a,ks,vs,q,rfl⟩
  .cases h
 .cases h
theorem Lp{K:Do}{kd:Nat}(h:jP K H (.dct (.inl a::.inl (kd)::ks) vs) v):Pz K H kd (.dct (.inl a::.inl (kd)::ks) vs) v:=by
 obtain⟨a',DN,tV,ds,u,e1,e2,q,t⟩:=h.ib;have:DN=kd:=by
  injection e1 with e1 _
  injection e1 with _ e1
  injection e1 with e1 _
  injection e1 with e1
  exact(B61 e1).symm
 subst this;exact⟨a',tV,ds,u,e1,e2,q,t⟩
theorem _root_.ZQ.cj(h:PE X e (l7 i)):ZQ.QM X kd e (Z.eM kd i):=⟨PE.imp h λ σ H Q ⟨ρ,d,r,e,k⟩=>by obtain⟨a,ks,vs,hi,rfl⟩:=YA e;obtain⟨v,h1,h2⟩:=r.get i _ hi;exact⟨v,h1,k v H (aI.refl H)<|Lp h2⟩⟩
theorem _root_.ZQ.mY(ha:ZQ.QM X kd e f)(hr:ZQ.PH X es bs g)(hs:Se e es X.env:=by rfl):ZQ.PH X (e::es) (Da::bs) (Z.aa f g):=⟨PA.imp (a7 ha.p hr.p hs) λ σ H Q ⟨ρ,ds,r,e,k⟩=>by obtain⟨x,ea,e⟩:=bd e;obtain⟨xs,eb,e⟩:=bd e;cases e;exact⟨ρ,x,r,ea,λ v H1 s1 d1=>⟨ρ,xs,r.up s1,eb,λ vs H2 s2 t=>k _ H2 (s1.trans s2) ⟨v,vs,rfl,(d1.up s2).b,t⟩⟩⟩⟩
theorem J7{a b:γ Nat}:((⟨a.toArray⟩:Str)=⟨b.toArray⟩)↔a=b:=⟨λ h=>by simpa using A11 (λ s=>s.cps.toList) h,λ h=>by rw[h]⟩
theorem Fy{K:Do}{H:Hp}{f:γ Nat}{d:Z.D}:∀{ks:γ (γ Nat)}{ds:γ Z.D}{fs:γ (Str×V)},Z.vo (ks.map .inr) ds f=.ok d->fs.map (·.1)=ks.map (λ c=>(⟨c.toArray⟩:Str))->aG K H ds (fs.map (·.2))->∃v,fs.lookup ⟨f.toArray⟩=AC v/\Den K H d v
|[],ds,fs,h,_,_=>by cases h
|k::ks,[],fs,h,_,_=>by cases h
|k::ks,x::ds,[],_,h2,_=>by cases h2
|k::ks,x::ds,(n,v)::fs,h,h2,h3=>by
 simp only[A06,B46]at h2;simp only[A06,aG]at h3;obtain⟨v',r,e1,h4,h5⟩:=h3;cases e1;obtain⟨e2,h2⟩:=h2;subst e2;simp only[A06,Z.vo]at h;by_cases hk:k=f
 .subst hk;rw[f8 rfl]at h;cases h;exact⟨v,by simp[IR],h4⟩
 .rw[v6 hk]at h;obtain⟨w,q1,q2⟩:=Fy h h2 h5;refine⟨w,?_,q2⟩;have:((⟨f.toArray⟩:Str)==⟨k.toArray⟩)=AT:=A71.mpr λ z=>hk (J7.mp z).symm;simp only[IR,this];exact q1
def Vt(K:Do)(f:Str):Prop:=∃C,nsIn K mainGlobals "Desk"=AC (AC<|.ref C)/\findIn K (.ref C) f=AC Ch
theorem _root_.ZQ.dh(hn:Vt X.K f)(ho:ZQ.QM X 0 o fo)(hf:(⟨fc.toArray⟩)=f)(hb:attributeBase o f X.env (eval o X.env)=eval o X.env:=by rfl):ZQ.QE X (.Attribute o f pos) (Z.eU (Z.gG fc) fo):=⟨PE.imp (R9 ho.p hb) λ σ H Q ⟨ρ,d,r,e,k⟩=>by
 obtain⟨x,ea,e⟩:=bd e;refine⟨ρ,x,r,ea,λ v H1 s1 d1=>?_⟩;obtain⟨a,ks,ds,u,rfl,rfl,q,t⟩:=d1;rcases t with⟨_,_,C,dx,fs,rfl,hC,h3,h4⟩|⟨z,_⟩
 .obtain⟨v,q1,q2⟩:=Fy e h3 h4;obtain⟨C',e1,e2⟩:=hn;have:=e1.symm.trans hC.1;cases this;rw[hf]at q1;exact⟨a,C,dx,fs,v,rfl,q,hC.2,e2,q1,k v H1 s1 q2⟩
 .cases z⟩
theorem kH{fs:γ (Str×V)}(h:fs.map (·.1)=(Z.dg.take n).map (λ c=>(⟨c.toArray⟩)))(hm:(Z.dg.map λ c=>(⟨c.toArray⟩)).contains m=AT):fs.lookup m=Ch:=by
 have hk:∀y∈fs.map _,(m==y)=AT:=λ y hy=>by rw[h]at hy;obtain⟨c,hc,rfl⟩:=A18.mp hy;have:(⟨_⟩)∈Z.dg.map (λ c=>(⟨c.toArray⟩:Str)):=A18.mpr ⟨c,List.mem_of_mem_take hc,rfl⟩;refine A71.mpr λ z=>?_;rw[<-z,<-List.contains_iff_mem,hm]at this;cases this
 clear h
 induction fs with
 |nil=>rfl
 |cons x r ih=>obtain⟨n,v⟩:=x;simp only[IR,hk n (by simp)];exact ih λ y hy=>hk y (by simp;right;simpa using hy)
structure tJ(P:Program)(w:World)(K:Do)(mg:Str->Option Value)(base:Heap)(m:Str)(k:Nat)(ps:List Str)(bs:List Bool)(fn:List Z.D->Z.Res Z.D):Prop where
 ex:∃C g fd,tI K "Desk" C/\Meth K C m g/\e6 P w K mg base jn k g fd ps (CS K bs fn)/\Binds K fd ps []
theorem _root_.ZQ.f'(C:tJ X.prog X.w X.K X.mg X.base m k ps [Da] fn)(hr:bB k X.A)(ho:ZQ.QM X 0 o fo)(hf:(Z.dg.map λ c=>(⟨c.toArray⟩)).contains m=AT)
 (ht:eval (.Call (.Attribute o m apos) [] [] pos) X.env=(do
  let ov ←eval o X.env
  standAt apos.atName
  let (f,first) ←holding [ov] (getMethod ov m pl)
  callWith pos f first (backTo pos<|starEach [] X.env) (backToKw pos<|keywordEach [] X.env)):=by rfl) :
 ZQ.QE X (.Call (.Attribute o m apos) [] [] pos) (Z.aA fn<|Z.aa fo Z.az):=⟨by
 obtain⟨C,g,fd,hC,hm,F,hb⟩:=C.ex;refine PE.imp (Jy ho.p hC.2 hm F hr hb .nil uE ht) λ σ H Q ⟨ρ,d,r,e,k⟩=>?_;obtain⟨ds,ea,e⟩:=bd e;obtain⟨x,ex,ea⟩:=bd ea;obtain⟨xs,en,ea⟩:=bd ea;cases en;cases ea;refine⟨ρ,x,r,ex,λ v H1 s1 d1=>?_⟩;obtain⟨a,ks,ds,u,rfl,rfl,q,t⟩:=id d1;rcases t with⟨_,hk,C',dx,fs,rfl,OM,h3,h4⟩|⟨z,_⟩
 .have:=OM.1.symm.trans hC.1;cases this;rw[hk]at h3;exact⟨a,dx,fs,rfl,q,kH h3 hf,[Z.ib a 0 ks ds],d,⟨_,_,rfl,d1.b,rfl⟩,e,λ v H' s2 dv=>k v H' (s1.trans s2) dv⟩
 .cases z⟩
theorem _root_.ZQ.lH(C:tJ X.prog X.w X.K X.mg X.base m k ps (Da::bs) fn)(hr:bB k X.A)(ho:ZQ.QM X 0 o fo)(hf:(Z.dg.map λ c=>(⟨c.toArray⟩)).contains m=AT)(ha:ZQ.PH X (e::es) bs ar)
 (vk:Se e es X.env:=by rfl) (dX:Pn pos es X.env:=by rfl)
 (ht:eval (.Call (.Attribute o m apos) (e::es) [] pos) X.env=(do
  let ov ←eval o X.env
  standAt apos.atName
  let (f,first) ←holding [ov] (getMethod ov m pl)
  callWith pos f first (backTo pos<|starEach (e::es) X.env) (backToKw pos<|keywordEach [] X.env)):=by rfl) :
 ZQ.QE X (.Call (.Attribute o m apos) (e::es) [] pos) (Z.aA fn<|Z.aa fo ar):=⟨by
 obtain⟨C,g,fd,hC,hm,F,hb⟩:=C.ex;refine PE.imp (E6 ho.p hC.2 hm F hr hb .nil uE ha.p vk dX ht) λ σ H Q ⟨ρ,d,r,e,k⟩=>?_;obtain⟨ds,ea,e⟩:=bd e;obtain⟨x,ex,ea⟩:=bd ea;obtain⟨xs,en,ea⟩:=bd ea;cases ea;refine⟨ρ,x,r,ex,λ v H1 s1 d1=>?_⟩;obtain⟨a,ks,ds,u,rfl,rfl,q,t⟩:=id d1;rcases t with⟨_,hk,C',dx,fs,rfl,OM,h3,h4⟩|⟨z,_⟩
 .have:=OM.1.symm.trans hC.1;cases this;rw[hk]at h3;refine⟨a,dx,fs,rfl,q,kH h3 hf,ρ,xs,r.up s1,en,λ vs H2 s2 d2=>?_⟩;show CS X.K _ fn _ H2 Q E0;rw[A56];exact⟨Z.ib a 0 ks ds::xs,d,⟨_,_,rfl,(d1.up s2).b,d2⟩,e,λ v H' s3 dv=>k v H' ((s1.trans s2).trans s3) dv⟩
 .cases z⟩
structure Ac(K:Do)(m qual:Str)(st:Stmt)(ps:List Str):Prop where
 ex:∃C f fd,tI K "Desk" C/\Meth K C m f/\Ez K m qual st f fd/\Binds K fd ps []
section
variable{K:Do}
theorem tJ.mk'{st:θ}(nR:bs.length=ps.length)(d:Ac K m qual st ps)(S:a_ N ps (ah st))
 (hb:∀ f a! A outer s H E,bB k (A.deeper<|envOfC qual (ah st) s.heap.objs.size f a!) ->
  L8 (dO jn P w K mg base N qual (ah st) f a! A outer s H E).f_ H (aM st) b):tJ P w K mg base m (k+1) ps bs (Z.Ck bs N.length b):=by
 obtain⟨C,f,fd,hC,hm,F,qm⟩:=d.ex;exact⟨C,f,fd,hC,hm,Yt nR F S<|hb f,qm⟩
end
def CT(K:Do)(bs:γ Bool)(m:γ Z.D->ε Z.XN):Sp:=λ vs H _ E=>∃ds c,ia K H bs ds vs/\m ds=AC c/\∀C dd H',aI H H'->o8 K H' c C dd->E (.ref C) dd H'
section
variable{K:Do}
theorem TU{st:θ}{dV kV doc pm a! ct oc:ζ}(nR:bs.length=ps.length)
 (lk:K.lookup f=AC ⟨oc,od,.func<|PySem.W.fnOf name qual (bI st) (aM st) (ah st) dV kV doc pm an a! ct,wC⟩) (nQ:PP K a! qual=Da) (S:a_ N ps (ah st))
 (hb:∀ A outer s H E,bB k (A.deeper<|envOfC qual (ah st) s.heap.objs.size f a!) ->
  UI (dO (v? P w) P w K mg base N qual (ah st) f a! A outer s H E) H (aM st) xb):e6 P w K mg base (v? P w) (k+1) f (On name qual (bI st) (aM st) (ah st) dV kV doc pm an a! ct) ps (CT K bs<|Z.Fz bs N.length xb):=by
 have ψ:∀vs H Q E,CT K bs (Z.Fz bs N.length xb) vs H Q E->vs.length=ps.length:=λ vs H Q E ⟨ds,d,t,e,_⟩=>by have:=t.length;lia
 refine BI lk nQ S ψ λ A outer s H vs Q E hr h=>?_;refine⟨_,hb A outer s H E hr,?_⟩;have hl:=ψ vs H Q E h;obtain⟨ds,c,t,e,k⟩:=h;have dX:ps.length<=N.length:=by have:=A11 List.length S.pre;rw[A31]at this;lia
 have rs:RS K H H (L2.start N vs) (Z.startB N.length bs ds):=oa t (by lia);unfold Z.Fz at e;split at e
 .exact⟨_,c,rs,e,λ χ σ H' s' a C dd sm xc I th=>xH I th<|k C dd H' sm xc⟩
 .cases e
structure Q7(P:Program)(w:World)(K:Do)(mg:Str->Option Value)(base:Heap)(x:Str)(k:Nat)(ps:List Str)(bs:List Bool)(m:List Z.D->Option Z.XN):Prop where
 ex:∃g fd,e6 P w K mg base (v? P w) k g fd ps (CT K bs m)/\mg x=AC (.ref g)/\Fk K (.ref g)=Da/\Binds K fd ps []
structure mM(P:Program)(w:World)(K:Do)(mg:Str->Option Value)(base:Heap)(m:Str)(k:Nat)(ps:List Str)(bs:List Bool)(fx:List Z.D->Option Z.XN):Prop where
 ex:∃C g fd,tI K "Desk" C/\Meth K C m g/\e6 P w K mg base (v? P w) k g fd ps (CT K bs fx)/\Binds K fd ps []
theorem mM.mk'{st:θ}(nR:bs.length=ps.length)(d:Ac K m qual st ps)(S:a_ N ps (ah st))
 (hb:∀ f a! A outer s H E,bB k (A.deeper<|envOfC qual (ah st) s.heap.objs.size f a!) ->
  UI (dO (v? P w) P w K mg base N qual (ah st) f a! A outer s H E) H (aM st) xb):mM P w K mg base m (k+1) ps bs (Z.Fz bs N.length xb):=by
 obtain⟨C,f,fd,hC,hm,F,qm⟩:=d.ex;obtain⟨oc,od,kV,doc,pm,an,a!,ct,wC,rfl,lk,nQ⟩:=F.ex;exact⟨C,f,_,hC,hm,TU nR lk nQ S<|hb f a!,qm⟩
end
theorem PE.aa7(h:PE X.f_ e t):PE X e t:=λ χ s σ H Q I hw=>A19 (h χ s σ H Q (I.wish _) hw) (λ _ _ ⟨v,H',I',r,q⟩=>⟨v,H',I'.gc,r,q⟩) λ _ _ z=>GM z
theorem Wc
 (hex:X.ex=[]) (F:e6 X.prog X.w X.K X.mg X.base (v? X.prog X.w) k g fd ps (CT X.K bs m)) (hr:bB k X.A) (hb:Binds X.K fd ps []) (I:Inv X χ σ H s) (r:Vals vs us) (d1:ia X.K H bs ds vs) (ec:m ds=AC c) (kw:YX X σ H c) :
 FM (model X.prog X.w) X.A (call (.ref g) us) Q X.xe s:=by
 have Fx:CT X.K bs m vs H (λ _ _=>False) (λ cv dd H'=>∃C,cv=.ref C/\o8 X.K H' c C dd/\aI H H'):=⟨ds,c,d1,ec,λ C' dd H' s2 x2=>⟨C',rfl,x2,s2⟩⟩
 have hl:=F.len _ _ _ _ Fx;refine A73<|A74 (F.run X.A _ s H ⟨us,[]⟩ us vs _ _ hr I.K! (by have:=hb s us I.nM (by rw[A56,<-r.length];exact hl);simpa using this) r Fx) λ rr s' hq=>?_;cases rr with
 |ok fl=>
  cases fl with
  |ret u=>obtain⟨v,H2,_,_,_,_,_,q⟩:=hq;exact q.elim
  |_=>exact hq.elim
 |error ev=>have hq:v? _ X.w _ H s (λ cv dd H'=>∃C,cv=.ref C/\o8 X.K H' c C dd/\aI H H') ev s':=hq;obtain⟨a,C',dd,H',rfl,J,th,C2,hc,x2,s2⟩:=ID hex I hq;cases hc;exact kw χ H' s' a C' dd s2 x2 J th
theorem PAF.f_(h:_V X.f_ es bs ar):_V X es bs ar:=PA.f_ h
theorem _root_.ZQ.jR(C:mM X.prog X.w X.K X.mg X.base m k ps (Da::bs) fx)(hr:bB k X.A)(ho:ZQ.QM X 0 o fo)(hf:(Z.dg.map λ c=>(⟨c.toArray⟩)).contains m=AT)(ha:ZQ.PH X.f_ (e::es) bs ar)
 (hex:X.ex=[]:=by rfl) (vk:Se e es X.env:=by rfl) (dX:Pn pos es X.env:=by rfl)
 (ht:eval (.Call (.Attribute o m apos) (e::es) [] pos) X.env=(do
  let ov ←eval o X.env
  standAt apos.atName
  let (f,first) ←holding [ov] (getMethod ov m pl)
  callWith pos f first (backTo pos<|starEach (e::es) X.env) (backToKw pos<|keywordEach [] X.env)):=by rfl) :
 ZQ.LX X (.Call (.Attribute o m apos) (e::es) [] pos) (Z.e? fx<|Z.aa fo ar):=⟨by
 obtain⟨C,g,fd,hC,hm,F,hb⟩:=C.ex;intro χ s σ H Q I h;obtain⟨ρ,c,re,ec,kw⟩:=h;unfold Z.e? at ec;split at ec
 .rename_i ds ed;obtain⟨x,ex,ea⟩:=bd ed;obtain⟨xs,en,ea⟩:=bd ea;cases ea;refine B39 (cS (ho.p χ s σ H (λ v H1=>aI H H1/\Pz X.K H1 0 x v) I ⟨ρ,x,re,ex,λ v H1 s1 d1=>⟨s1,d1⟩⟩) λ u s1 ⟨v,H1,I1,rx,sm,d1⟩=>?_) ht;obtain⟨a,ks,ds,u',rfl,rfl,q,t⟩:=id d1;obtain rfl:u=Value.ref a:=rx;rcases t with⟨_,hk,C',dx,fs,rfl,OM,h3,h4⟩|⟨z,_⟩
  .have:=OM.1.symm.trans hC.1;cases this;rw[hk]at h3;refine lr I1 q hC.2 hm (kH h3 hf) ?_;refine A86 I.ok.mod.HU hm.kp (cS (PAF.f_ ha.p pos χ s1 σ H1 (λ vs H2=>aI H1 H2/\ia X.K H2 bs xs vs) I1 ⟨ρ,xs,re.up sm,en,λ vs H2 s2 d2=>⟨s2,d2⟩⟩) λ us s2 ⟨vs,H2,I2,r,Qa,d2⟩=>⟨I2.nM,?_⟩) vk dX;exact Wc (vs:=.ref a::vs) (ds:=Z.ib a 0 ks ds::xs) hex F hr hb I2 (.cons rfl r) ⟨_,_,rfl,(d1.up Qa).b,d2⟩ ec<|(kw.up sm).up Qa
  .cases z
 .cases ec⟩
theorem _root_.ZQ.Vy(ha:ZQ.QW X.f_ a fa)(hb:ZQ.LX X b f)(hs:z_ b:=by intro _ _;rfl):ZQ.LX X (.Subscript a b pos) (Z.Q_ fa f):=⟨PE.imp (Qe Kp (PE.aa7 ha.p) hb.p hs) λ σ H Q ⟨ρ,c,re,ec,kw⟩=>by
 unfold Z.Q_ at ec;split at ec
 .rename_i d ed;exact⟨ρ,d,re,ed,λ v H1 s1 d1=>⟨ρ,c,re.up s1,ec,kw.up s1⟩⟩
 .cases ec⟩
def over(H0 H:Hp)(as:γ δ):Hp:=λ b=>if b∈as then H b else H0 b
section
variable{K:Do}
theorem dA(h:a∈as):over H0 H as a=H a:=f8 h
theorem dR(h:a∉as):over H0 H as a=H0 a:=v6 h
theorem JG(h:a∈as):over H0 (upd H a u) as=upd (over H0 H as) a u:=by
 funext b
 by_cases hb:b=a
 .subst hb;rw[dA h,aV,aV]
 .rw[aD hb];by_cases hm:b∈as
  .rw[dA hm,dA hm,aD hb]
  .rw[dR hm,dR hm]
theorem pz(h:Z.ib a kd ks vs=Z.ib a' DN tV Ae):a=a'/\kd=DN/\ks=tV/\vs=Ae:=by
 injection h with h1 h2
 injection h1 with h1 h3
 injection h3 with h3 h4
 injection h1 with h1
 injection h3 with h3
 exact⟨B61 h1,B61 h3,(tz λ x y h=>by injection h).mp h4,h2⟩
theorem i?:∀{ρ}{k i}{x},Z.qM ms k ρ->ρ[i]?=AC x->Z.wQ x->k+i∈ms
|[],_,_,_,_,e,_=>by simp at e
|y::r,k,0,x,h,e,t=>by simp at e;subst e;exact h.1 t
|y::r,k,i+1,x,h,e,t=>by have:=i? h.2 (by simpa using e) t;rw[show k+(i+1)=k+1+i from by lia];exact this
theorem uT:∀{ρ}{k},(∀i x,ρ[i]?=AC x->Z.wQ x->k+i∈ms)->Z.qM ms k ρ
|[],_,_=>trivial
|y::r,k,h=>⟨λ t=>h 0 y rfl t,uT λ i x e t=>by have:=h (i+1) x (by simpa using e) t;rw[show k+1+i=k+(i+1)from by lia];exact this⟩
structure RM(K:Do)(H0:Hp)(ms:List Nat)(as:List Addr)(H:Hp)(σ:St)(ρ:Z.Env):Prop where
 rs:RS K (over H0 H as) H σ ρ
 at_:Paired (λ(i:Nat)(a:Addr)=>∃kd ks vs,ρ[i]?=AC (AC<|.bor<|Z.ib a kd ks vs)) ms as
 no:Z.qM ms 0 ρ
 nd:as.Nodup
 h0:∀a∈as,H0 a=Ch
theorem d?:∀{l}{m}{x},Paired R l m->x∈l->∃y∈m,R x y
|_,_,_,.nil,h=>by simp at h
|_,_,x,.cons r t,h=>by
 rcases o0.mp h with rfl|h
 .exact⟨_,by simp,r⟩
 .obtain⟨y,h1,h2⟩:=d? t h;exact⟨y,by simp[h1],h2⟩
theorem rT(hf:∀i a b,R i a->R i b->a=b):∀{l}{m}{i j}{a},Paired R l m->m.Nodup->i∈l->j∈l->R i a->R j a->i=j
|_,_,_,_,_,.nil,_,h,_,_,_=>by simp at h
|_,_,i,j,a,.cons r t,nd,hi,hj,ri,rj=>by
 have Dn:=A45.mp nd;rcases o0.mp hi with ei|Mf
 .rcases o0.mp hj with ej|Ha
  .exact ei.trans ej.symm
  .obtain⟨z,hz,rz⟩:=d? t Ha;subst ei;have e1:=hf _ _ _ r ri;have e2:=hf _ _ _ rz rj;subst e1;subst e2;exact absurd hz Dn.1
 .rcases o0.mp hj with ej|Ha
  .obtain⟨z,hz,rz⟩:=d? t Mf;subst ej;have e1:=hf _ _ _ r rj;have e2:=hf _ _ _ rz ri;subst e1;subst e2;exact absurd hz Dn.1
  .exact rT hf t Dn.2 Mf Ha ri rj
theorem Es{ρ:Z.Env}(i:Nat)(a b:δ)(h1:∃kd ks vs,ρ[i]?=AC (AC<|.bor<|Z.ib a kd ks vs))(h2:∃kd ks vs,ρ[i]?=AC (AC<|.bor<|Z.ib b kd ks vs)):a=b:=by
 obtain⟨_,_,_,h1⟩:=h1;obtain⟨_,_,_,h2⟩:=h2;rw[h1]at h2;injection h2 with h2;injection h2 with h2;injection h2 with h2
 exact(pz h2).1
theorem RM._c(h:RM K H0 ms as H σ ρ)(hi:ρ[i]?=AC (AC<|.bor<|Z.ib a kd ks vs)):i∈ms:=by have:=i? h.no hi trivial;simpa using this
theorem RM.mem(h:RM K H0 ms as H σ ρ){i:Nat}(hi:ρ[i]?=AC (AC<|.bor<|Z.ib a kd ks vs)):a∈as:=by obtain⟨y,hy,r⟩:=d? h.at_ (h._c hi);have:=Es i _ _ ⟨_,_,_,hi⟩ r;subst this;exact hy
theorem RM.uniq(h:RM K H0 ms as H σ ρ){i j kd DN:Nat}(hi:ρ[i]?=AC (AC<|.bor<|Z.ib a kd ks vs))(hj:ρ[j]?=AC (AC<|.bor<|Z.ib a DN tV Ae)):i=j:=
 rT (λ i a b=>Es i a b) h.at_ h.nd (h._c hi) (h._c hj) ⟨_,_,_,hi⟩ ⟨_,_,_,hj⟩
theorem RM.thing(h:RM K H0 ms as H σ ρ){i:Nat}(hi:ρ[i]?=AC (AC<|.bor<|Z.ib a kd ks vs)):σ[i]?=AC (AC<|.ref a)/\∃u,H a=AC u/\H? K H kd ks vs u:=by obtain⟨v,h1,h2⟩:=h.rs.re.get i _ hi;obtain⟨a',tV,ds,u,e1,rfl,q,t⟩:=Lp h2;obtain⟨rfl,_,rfl,rfl⟩:=pz e1;exact⟨h1,u,q,t⟩
theorem H?.mb(t:H? K H kd ks vs u):(∀xs,u≠.tup xs)/\(∀o x,u≠.dZ o x)/\∀xs,u≠.lst xs:=by
 rcases t with⟨_,_,C,dx,fs,rfl,_⟩|⟨_,aS,rfl,_⟩
 .exact⟨λ _ z=>(nomatch z),λ _ _ z=>(nomatch z),λ _ z=>(nomatch z)⟩
 .exact⟨λ _ z=>(nomatch z),λ _ _ z=>(nomatch z),λ _ z=>(nomatch z)⟩
theorem RM.write(h:RM K H0 ms as H σ ρ)(hi:ρ[i]?=AC (AC<|.bor<|Z.ib a kd ks vs))(t:H? K (upd H a u') DN tV Ae u'):
 iQ H (upd H a u')/\RM K H0 ms as (upd H a u') σ (ρ.set i<|some<|.bor<|Z.ib a DN tV Ae):=by
 have ha:=h.mem hi;obtain⟨hs,u,hu,t0⟩:=h.thing hi;have st:iQ H (upd H a u'):=mQ hu t0.mb.1 t0.mb.2.1;have ou:over H0 H as a=AC u:=by rw[dA ha];exact hu
 have L!:iQ (over H0 H as) (upd (over H0 H as) a u'):=mQ ou t0.mb.1 t0.mb.2.1;have Hb:=(A10.mp hi).1;have bor:∀{j}{d}{v}{G},i≠j->ρ[j]?=AC (AC<|.bor d)->iQ G (upd G a u')->G a=AC u->jP K G d v->jP K (upd G a u') d v:=λ {j d v G} hj e sg ga hb=>by
  rcases hb with(hb|⟨ds,q,ws,e1,e2,q1,t1⟩)|⟨a2,Xv,S4,ds2,u2,e1,e2,q2,t2⟩
  .exact .inl<|.inl<|hb.ups sg
  .have:q≠a:=by rintro rfl;rw[ga]at q1;exact t0.mb.2.2 _<|A03 q1
   exact .inl<|.inr ⟨ds,q,ws,e1,e2,by rw[aD this];exact q1,t1.ups sg⟩
  .have:a2≠a:=by rintro rfl;rw[e1]at e;exact hj<|h.uniq hi e
   exact .inr ⟨a2,Xv,S4,ds2,u2,e1,e2,by rw[aD this];exact q2,t2.ups sg⟩
 have own:∀{q},over H0 H as q=Ch->q≠a:=λ e z=>by rw[z,ou]at e;cases e
 refine⟨st,⟨?_,?_,?_,h.nd,h.h0⟩⟩
 .rw [JG ha];refine⟨λ b o e=>?_,⟨by simp[h.rs.re.len],λ j l e=>?_,λ j k xs ys q e1 e2 e3 e4=>?_⟩,λ j xs q e1 e2=>?_,λ j d e1=>?_,?_⟩
  .by_cases hb:b=a
   .subst hb;rw[aV]at e ⊢;exact e
   .rw[aD hb]at e ⊢;exact h.rs.same b o e
  .rcases aC e with⟨rfl,hl,e⟩|⟨hj,e⟩
   .cases e;exact⟨.ref a,hs,.inr ⟨a,DN,tV,Ae,u',rfl,rfl,aV,t⟩⟩
   .obtain⟨v,e1,r⟩:=h.rs.re.get j l e;refine⟨v,e1,?_⟩;cases l with
    |val d=>exact Den.ups (r) st
    |own zs=>obtain⟨q',ws,rfl,eQ,t'⟩:=r;exact⟨q',ws,rfl,by rw[aD<|own<|h.rs.fresh j zs q' e e1];exact eQ,t'.ups st⟩
    |bor d=>exact bor hj e st hu r
    |dc ks=>obtain⟨q',tD,rfl,eQ,t'⟩:=r;exact⟨q',tD,rfl,by rw[aD<|own<|h.rs.nA.2 j ks q' e e1];exact eQ,t'.ups st⟩
    |Aj ks=>obtain⟨q',o',tD,rfl,eQ,t'⟩:=r;exact⟨q',o',tD,rfl,st.dZ _ _ _ eQ,t'.ups st⟩
    |Qp ps=>obtain⟨q',o',rfl,eQ⟩:=r;exact⟨q',o',rfl,st.dZ _ _ _ eQ⟩
    |exc c=>obtain⟨q',o',u',C',rfl,eQ,r1,r2,r3⟩:=r;exact⟨q',o',u',C',rfl,st.dZ _ _ _ eQ,r1,r2,r3.ups st⟩
  .rcases aC e1 with⟨_,_,e⟩|⟨_,e1⟩
   .cases e
   .rcases aC e2 with⟨_,_,e⟩|⟨_,e2⟩
    .cases e
    .exact h.rs.re.sep j k xs ys q e1 e2 e3 e4
  .rcases aC e1 with⟨_,_,e⟩|⟨_,e1⟩
   .cases e
   .have:=h.rs.fresh j xs q e1 e2;rw[aD<|own this];exact this
  .rcases aC e1 with⟨rfl,_,e⟩|⟨hj,e9⟩
   .cases e;exact⟨.ref a,hs,.inr ⟨a,DN,tV,Ae,u',rfl,rfl,aV⟩⟩
   .obtain⟨v,q1,q2⟩:=h.rs.lK j d e9;refine⟨v,q1,?_⟩;rcases q2 with(hb|⟨ds,q,ws,g1,g2,q1,t1⟩)|⟨a2,Xv,S4,ds2,u2,g1,g2,q2⟩
    .exact .inl<|.inl<|hb.ups L!
    .have:q≠a:=by rintro rfl;rw[ou]at q1;exact t0.mb.2.2 _<|A03 q1
     exact .inl<|.inr ⟨ds,q,ws,g1,g2,by rw[aD this];exact q1,t1.ups L!⟩
    .have:a2≠a:=by rintro rfl;rw[g1]at e9;exact hj<|h.uniq hi e9
     exact .inr ⟨a2,Xv,S4,ds2,u2,g1,g2,by rw[aD this];exact q2⟩
  .refine⟨λ j k ks ls q e1 e2 e3 e4=>?_,λ j ks q e1 e2=>?_⟩
   .rcases aC e1 with⟨_,_,e⟩|⟨_,e1⟩
    .cases e
    .rcases aC e2 with⟨_,_,e⟩|⟨_,e2⟩
     .cases e
     .exact h.rs.nA.1 j k ks ls q e1 e2 e3 e4
   .rcases aC e1 with⟨_,_,e⟩|⟨_,e1⟩
    .cases e
    .have:=h.rs.nA.2 j ks q e1 e2;rw[aD<|own this];exact this
 .refine Paired.G0 h.at_ λ j b hj=>?_;obtain⟨Xv,S4,Ze,hj⟩:=hj;by_cases wc:i=j
  .subst wc;rw[hi]at hj;injection hj with hj;injection hj with hj;injection hj with hj
   obtain⟨rfl,_⟩:=pz hj;exact⟨DN,tV,Ae,A30 Hb⟩
  .exact⟨Xv,S4,Ze,by rw[A26 wc];exact hj⟩
 .refine uT λ j x e tx=>?_;by_cases wc:i=j
  .subst wc;rw[B24];exact h._c hi
  .rw[A26 wc]at e;exact i? h.no e tx
theorem RM.tracked(h:RM K H0 ms as H σ ρ)(ha:a∈as):∃u,H a=AC u:=by
 have key:∀{l}{m},Paired (λ(i:Nat)(a)=>∃kd ks vs,ρ[i]?=AC (AC<|.bor<|Z.ib a kd ks vs)) l m->a∈m->∃u,H a=AC u:=by
  intro l m p
  induction p with
  |nil=>intro h;simp at h
  |cons r t ih=>
   intro hm;rcases o0.mp hm with rfl|hm
   .obtain⟨_,_,_,hi⟩:=r;obtain⟨_,u,q,_⟩:=h.thing hi;exact⟨u,q⟩
   .exact ih hm
 exact key h.at_ ha
theorem RM.same(h:RM K H0 ms as H σ ρ):aI H0 H:=λ b o e=>h.rs.same b o (by rw[dR λ z=>by rw[h.h0 b z]at e;cases e];exact e)
theorem RM.xC(h:RM K H0 ms as H σ ρ)(s:∀a∈as,H' a=H a):over H0 H' as=over H0 H as:=by
 funext b
 by_cases hb:b∈as
 .rw[dA hb,dA hb,s b hb]
 .rw[dR hb,dR hb]
theorem RM.up(h:RM K H0 ms as H σ ρ)(s:aI H H'):RM K H0 ms as H' σ ρ:=by
 have e:=h.xC λ a ha=>by obtain⟨u,q⟩:=h.tracked ha;rw[q];exact s _ _ q
 refine⟨?_,h.at_,h.no,h.nd,h.h0⟩;rw[e];exact h.rs.up s
def yJ:ε HO->Prop
|some<|.tup _=>True
|some<|.dZ _ _=>True
|_=>False
open Classical in
noncomputable def ov(H0 H:Hp)(as:γ δ):Hp:=λ b=>if b∈as\/yJ (H b)then H b else H0 b
theorem JH(h:a∈as):ov H0 H as a=H a:=f8<|.inl h
theorem C!(h:yJ (H b)):ov H0 H as b=H b:=f8<|.inr h
theorem Gw(h:b∉as)(n:¬yJ (H b)):ov H0 H as b=H0 b:=v6 λ z=>z.elim h n
theorem RM.ovR(h:RM K H0 ms as H σ ρ):RS K (ov H0 H as) H σ ρ:=by
 have sm:aI (over H0 H as) (ov H0 H as):=λ b o e=>by
  by_cases hb:b∈as
  .rw[dA hb]at e;rw[JH hb];exact e
  .rw[dR hb]at e;by_cases hs:yJ (H b)
   .rw[C! hs];exact h.same b o e
   .rw[Gw hb hs];exact e
 have non:∀{q}{u},over H0 H as q=Ch->H q=AC u->¬yJ _->ov H0 H as q=Ch:=λ {q u} e hq n=>by
  have hb:q∉as:=λ z=>by rw[dA z,hq]at e;cases e
  rw[Gw hb (by rw[hq];exact n)];rw[dR hb]at e;exact e
 refine⟨λ b o e=>?_,h.rs.re,λ i xs q e1 e2=>?_,λ i d e1=>?_,⟨h.rs.nA.1,λ i ks q e1 e2=>?_⟩⟩
 .by_cases hb:b∈as\/yJ (H b)
  .rcases hb with hb|hb
   .rw[JH hb]at e;exact e
   .rw[C! hb]at e;exact e
  .rw[Gw (λ z=>hb<|.inl z) λ z=>hb<|.inr z]at e;exact h.same b o e
 .obtain⟨v,h1,a,vs,e,h2,_⟩:=h.rs.re.get i _ e1;rw[e2]at h1;cases h1;cases e;exact non (h.rs.fresh i xs _ e1 e2) h2 λ z=>z
 .obtain⟨v,h1,h2⟩:=h.rs.lK i d e1;refine⟨v,h1,?_⟩;rcases h2 with h2|⟨a,kd,ks,ds,u,g1,g2,g3⟩
  .exact .inl<|h2.up sm
  .exact .inr ⟨a,kd,ks,ds,u,g1,g2,sm _ _ g3⟩
 .obtain⟨v,h1,a,tD,e,h2,_⟩:=h.rs.re.get i _ e1;rw[e2]at h1;cases h1;cases e;refine non (h.rs.nA.2 i ks _ e1 e2) h2 λ z=>?_;cases ks<;>exact z
theorem R!(s:aI (ov H0 H as) H'):iQ H H':=⟨λ b xs e=>s _ _ (by rw[C! (by rw[e];trivial)];exact e),λ b o x e=>s _ _ (by rw[C! (by rw[e];trivial)];exact e)⟩
theorem dW:∀{l}{m},Paired R l m->(∀x∈l,∀y,R x y->S x y)->Paired S l m
|_,_,.nil,_=>.nil
|_,_,.cons r t,f=>.cons (f _ (by simp) _ r)<|dW t λ x hx=>f x (by simp[hx])
theorem RM.back(h:RM K H0 ms as H σ ρ)(kt:Z.iU ms ρ ρ')(r:RS K (ov H0 H as) H' σ' ρ'):RM K H0 ms as H' σ' ρ':=by
 have ha:∀a∈as,H' a=H a:=λ a z=>by obtain⟨u,q⟩:=h.tracked z;rw[q];exact r.same _ _ (by rw[JH z];exact q)
 have e:=h.xC ha;have at':Paired (λ(i)(a)=>∃kd ks vs,ρ'[i]?=AC _) ms as:=dW h.at_ λ i hi a ⟨kd,ks,vs,q⟩=>⟨kd,ks,vs,by rw[kt.1 i hi];exact q⟩
 have down:∀{q},ov H0 H as q=Ch->over H0 H as q=Ch:=λ {q} z=>by
  by_cases hb:q∈as
  .rw[JH hb]at z;rw[dA hb];exact z
  .rw[dR hb];by_cases hs:yJ (H q)
   .rw[C! hs]at z;rw[z]at hs;exact hs.elim
   .rw[Gw hb hs]at z;exact z
 refine⟨?_,at',kt.2,h.nd,h.h0⟩;rw[e];refine⟨λ b o q=>?_,r.re,λ i xs q e1 e2=>down<|r.fresh i xs q e1 e2,λ i d e1=>?_,⟨r.nA.1,λ i ks q e1 e2=>down<|r.nA.2 i ks q e1 e2⟩⟩
 .by_cases hb:b∈as
  .rw[dA hb]at q;rw[ha b hb];exact q
  .rw[dR hb]at q;refine r.same b o ?_;by_cases hs:yJ (H b)
   .rw[C! hs];exact h.same b o q
   .rw[Gw hb hs];exact q
 .obtain⟨v,h1,h2⟩:=r.lK i d e1;have hi:i∈ms:=by have:=i? kt.2 e1 trivial;simpa using this
  obtain⟨a,hm,kd,ks,vs,q⟩:=d? at' hi;rw[e1]at q;injection q with q;injection q with q;injection q with q
  subst q;refine⟨v,h1,?_⟩;rcases h2 with h2|⟨a',DN,tV,ds,u,g1,g2,g3⟩
  .obtain⟨_,_,_,_,_,_,_,n⟩:=h2.dct;exact absurd rfl<|n _ _
  .obtain⟨rfl,rfl,rfl,rfl⟩:=pz g1;obtain⟨u',q'⟩:=h.tracked hm;exact .inr ⟨a,kd,ks,vs,u',rfl,g2,by rw[dA hm];exact q'⟩
def TH(K:Do)(H:Hp)(as:γ δ)(ts:γ Z.D):Prop:=Paired (λ(a:δ)(t:Z.D)=>∃kd ks vs u,t=Z.ib a kd ks vs/\H a=AC u/\H? K H kd ks vs u) as ts
theorem RM._0(h:RM K H0 ms as H σ ρ):TH K H as (Z.l3 ms ρ):=by
 have key:∀{l}{m},Paired (λ(i)(a)=>∃kd ks vs,ρ[i]?=AC (AC<|.bor<|Z.ib a kd ks vs)) l m->TH K H m (Z.l3 l ρ):=by
  intro l m p
  induction p with
  |nil=>exact .nil
  |cons r t ih=>obtain⟨kd,ks,vs,hi⟩:=r;obtain⟨_,u,q,th⟩:=h.thing hi;exact .cons ⟨kd,ks,vs,u,by show Z.VJ _=_;rw[hi];rfl,q,th⟩ ih
 exact key h.at_
theorem TH.ups(h:TH K H as ts)(s:∀a∈as,H' a=H a)(st:iQ H H'):TH K H' as ts:=dW h λ a ha t ⟨kd,ks,vs,u,e,q,th⟩=>⟨kd,ks,vs,u,e,by rw[s a ha];exact q,th.ups st⟩
end
def _E(K:Do)(H0:Hp)(ms:γ Nat)(as:γ δ)(H:Hp)(D:Ends):Z.PQ->Prop
|.nx ρ'=>∀σ' H',iQ H H'->RM K H0 ms as H' σ' ρ'->D.nx σ' H'
|.rt d ts=>∀v H',aI H0 H'->TH K H' as ts->Den K H' d v->D.rt v H'
def tM(K:Do)(H0:Hp)(ms:γ Nat)(as:γ δ)(g:Z.SM):TS:=λ D σ H=>∃ρ fl,RM K H0 ms as H σ ρ/\g ρ=.ok fl/\_E K H0 ms as H D fl
abbrev MS(X:Cx)(H0:Hp)(ms:γ Nat)(as:γ δ)(st:θ)(g:Z.SM):Prop:=PS X st<|tM X.K H0 ms as g
structure _root_.ZQ.Q1(X:Cx)(H0:Hp)(ms:List Nat)(as:List Addr)(st:Stmt)(g:Z.SM):Prop where p:MS X H0 ms as st g
abbrev Y4(X:Cx)(H0:Hp)(ms:γ Nat)(as:γ δ)(st:γ θ)(g:Z.SM):Prop:=sr X st<|tM X.K H0 ms as g
structure _root_.ZQ.z?(X:Cx)(H0:Hp)(ms:List Nat)(as:List Addr)(st:List Stmt)(g:Z.SM):Prop where p:Y4 X H0 ms as st g
theorem _E.up{K:Do}(h:_E K H0 ms as H D fl)(e:iQ H H1):_E K H0 ms as H1 D fl:=by
 cases fl with
 |nx ρ'=>exact λ σ' H' s r=>h σ' H' (e.trans s) r
 |rt d ts=>exact h
section
variable{st:θ}
theorem bW(h:∀H1,DS X H1 st g):MS X H0 ms as st (Z.b! ms g):=by
 intro χ s σ H D I w;obtain⟨ρ,fl,rm,e,k⟩:=w;obtain⟨f1,e1,e⟩:=bd e;refine h _ χ s σ H D I ⟨ρ,f1,rm.ovR,e1,?_⟩;cases f1 with
 |nx ρ'=>obtain⟨kt,e⟩:=Z.cX e;cases e;exact λ σ' H' st r=>k σ' H' st<|rm.back kt r
 |rt d=>
  cases e;intro v H' sm dv;have ha:∀a∈as,H' a=H a:=λ a z=>by obtain⟨u,q⟩:=rm.tracked z;rw[q];exact sm _ _ (by rw[JH z];exact q)
  refine k v H' (λ b o q=>?_) (rm._0.ups ha<|R! sm) dv;refine sm b o ?_;have nb:b∉as:=λ z=>by rw[rm.h0 b z]at q;cases q
  by_cases hs:yJ (H b)
  .rw[C! hs];exact rm.same b o q
  .rw[Gw nb hs];exact q
 |bk _=>cases e
 |ct _=>cases e
theorem _root_.ZQ.gb(h:ZQ.Q1 X H0 ms as st g):ZQ.z? X H0 ms as [st] g:=⟨tP h.p⟩
theorem _root_.ZQ.bb(h1:ZQ.Q1 X H0 ms as st g)(h2:ZQ.z? X H0 ms as AO u):ZQ.z? X H0 ms as (st::AO) (Z.c_ g u):=⟨sr.imp (ma h1.p h2.p) λ D σ H ⟨ρ,fl,rs,e,k⟩=>by
 obtain⟨f1,e1,e⟩:=bd e;refine⟨ρ,f1,rs,e1,?_⟩;cases f1 with
 |nx ρ'=>exact λ σ' H' s r=>⟨ρ',fl,r,e,k.up s⟩
 |rt d ts=>cases e;exact k⟩
theorem EW{K:Do}{H:Hp}{f:γ Nat}{d:Z.D}{y:V}(hd:Den K H d y):∀{ks:γ (γ Nat)}{ds:γ Z.D}{fs:γ (Str×V)},fs.map (·.1)=ks.map (λ c=>(⟨c.toArray⟩:Str))->aG K H ds (fs.map (·.2)) ->
 ∃tV:γ (γ Nat),(Z.l? f d (ks.map .inr) ds).1=tV.map .inr/\(kY ⟨f.toArray⟩ y fs).map (·.1)=tV.map (λ c=>(⟨c.toArray⟩:Str))/\aG K H (Z.l? f d (ks.map .inr) ds).2 ((kY ⟨f.toArray⟩ y fs).map (·.2))
|[],ds,fs,h2,h3=>by
 have:fs=[]:=by simpa using h2
 subst this;refine⟨[f],?_,rfl,?_⟩
 .cases ds<;>rfl
 .have:(Z.l? f d ([].map .inr) ds).2=[d]:=by cases ds<;>rfl
  rw[this];exact aG.cons hd aG.nil
|k::ks,ds,[],h2,_=>by cases h2
|k::ks,[],(n,v)::fs,_,h3=>by simp only[A06,aG]at h3;cases h3
|k::ks,x::ds,(n,v)::fs,h2,h3=>by
 simp only[A06,B46]at h2;simp only[A06,aG]at h3;obtain⟨v',r,e1,h4,h5⟩:=h3;cases e1;obtain⟨e2,h2⟩:=h2;subst e2;simp only[A06,Z.l?,kY];by_cases hk:k=f
 .subst hk;rw[f8 rfl,f8 rfl];exact⟨k::ks,rfl,by simp[h2],aG.cons hd h5⟩
 .rw[v6 hk,v6 λ z=>hk<|J7.mp z];obtain⟨tV,q1,q2,q3⟩:=EW hd h2 h5;exact⟨k::tV,by simp[q1],by simp[q2],aG.cons h4 q3⟩
theorem M0(h:Z.AV f x t=.ok l):∃a ks vs,t=AC (AC<|.bor<|.dct (.inl a::.inl 0::ks) vs)/\(Z.l? f x ks vs).1=(Z.dg.take (Z.l? f x ks vs).1.length).map .inr/\l=.bor (.dct (.inl a::.inl 0::(Z.l? f x ks vs).1) (Z.l? f x ks vs).2):=by
 unfold Z.AV at h;split at h
 .rename_i a k ks vs;obtain⟨⟨rfl,q⟩,h⟩:=Z.cX h;cases h;exact⟨a,ks,vs,rfl,q,rfl⟩
 .cases h
theorem RM.tagged{K:Do}(h:RM K H0 ms as H σ ρ){i:Nat}(hi:ρ[i]?=AC (AC<|.bor d)):∃a kd ks vs,d=Z.ib a kd ks vs:=by
 have hm:i∈ms:=by have:=i? h.no hi trivial;simpa using this
 obtain⟨a,_,kd,ks,vs,q⟩:=d? h.at_ hm;rw[hi]at q;injection q with q;injection q with q;injection q with q
 exact⟨a,kd,ks,vs,q⟩
theorem _root_.ZQ.jz(hn:Vt X.K f)(ho:PE X o (l7 i))(he:ZQ.QE X value fe)(hf:(⟨fc.toArray⟩)=f)(hs:swapsWith value (AC<|.Attribute o f pos') pos.line X.env=pure AT:=by rfl):
 ZQ.Q1 X H0 ms as (.Assign [.Attribute o f pos'] value pos) (Z.oC i fc fe):=⟨PS.imp (R0 ho he.p hs) λ D σ H ⟨ρ,fl,rm,e,k⟩=>by
 obtain⟨d,ed,e⟩:=bd e;obtain⟨l,el,e⟩:=bd e;cases e;refine⟨ρ,d,rm.rs.re,ed,λ y H1 s1 dy=>?_⟩;have AZ:=rm.up s1;obtain⟨a0,ks0,vs,hi,hk,rfl⟩:=M0 el;obtain⟨a,kd,ks,Ae,e1⟩:=AZ.tagged hi;injection e1 with e1 e2
 injection e1 with e1 e3
 injection e3 with e3 e4
 injection e1 with e1
 injection e3 with e3
 subst e1 e2 e4;have:=(B61 e3.symm)
 subst this;have Mf:=hi;obtain⟨hsl,u,hu,th⟩:=AZ.thing Mf;rcases th with⟨_,hks,C,dx,fs,rfl,hC,h3,h4⟩|⟨z,_⟩
 .obtain⟨C',g1,g2⟩:=hn;have:=g1.symm.trans hC.1;cases this;have hl:fs.length<1000:=by
   have q1:fs.length=ks.length:=by simpa using A11 List.length h3
   have q2:ks.length<=4:=by
    have:=A11 List.length hks;rw[A31]at this;have:ks.length<=Z.dg.length:=by lia
    exact this
   lia
  obtain⟨tV,q1,q2,q3⟩:=EW (f:=fc) dy h3 h4;have RD:iQ H1 (upd H1 a<|.ins C dx<|kY f y fs):=mQ hu (λ _ z=>nomatch z) λ _ _ z=>nomatch z;rw[q1]at hk;rw[hf]at q2 q3;have hk':tV=Z.dg.take tV.length:=by rw[A09]at hk;exact(tz λ x y h=>by injection h).mp hk
  obtain⟨st,M7⟩:=AZ.write Mf (.inl ⟨rfl,hk',C,dx,_,rfl,hC,q2,q3.ups RD⟩);refine⟨.ref a,hsl,a,C,dx,fs,rfl,hu,hC.2,g2,hl,k σ _ ((l! s1).trans st) ?_⟩;rw[q1];exact M7
 .cases z⟩
end
def wipe(H:Hp)(as:γ δ):Hp:=λ b=>if b∈as then Ch else H b
theorem Gv:over (wipe H as) H as=H:=by
 funext b
 by_cases hb:b∈as
 .rw[dA hb]
 .rw[dR hb];exact v6 hb
def RG(K:Do)(ms:γ Nat)(bs:γ Bool)(n:Nat)(fn:γ Z.D->Z.Res (Z.D×γ Z.D)):Sp:=λ vs H Q _=>∃ds as d ts,ia K H bs ds vs/\as.Nodup/\Paired (λ(i:Nat)(a:δ)=>∃kd ks vs,(Z.startB n bs ds)[i]?=AC (AC<|.bor<|Z.ib a kd ks vs)) ms as/\Z.qM ms 0 (Z.startB n bs ds) /\
 fn ds=.ok (d,ts)/\∀v H',aI (wipe H as) H'->TH K H' as ts->Den K H' d v->Q v H'
section
variable{K:Do}
theorem TR{st:θ}(nR:bs.length=ps.length)(F:Ez K x qual st f fd)(S:a_ N ps (ah st))
 (hb:∀ a! A outer s H H0 as E,bB k (A.deeper<|envOfC qual (ah st) s.heap.objs.size f a!) ->
  Y4 (dO jn P w K mg base N qual (ah st) f a! A outer s H E).f_ H0 ms as (aM st) b):e6 P w K mg base jn (k+1) f fd ps (RG K ms bs N.length<|Z.D4 ms bs N.length b):=by
 have ψ:∀vs H Q E,RG K ms bs N.length (Z.D4 ms bs N.length b) vs H Q E->vs.length=ps.length:=λ vs H Q E ⟨ds,as,d,ts,t,_⟩=>by have:=t.length;lia
 refine F.ok S ψ λ a! A outer s H vs Q E hr h=>?_;have hl:=ψ vs H Q E h;obtain⟨ds,as,d,ts,t,nd,hat,OG,e,k⟩:=h;refine⟨_,hb a! A outer s H (wipe H as) as E hr,?_⟩;have dX:ps.length<=N.length:=by have:=A11 List.length S.pre;rw[A31]at this;lia
 have rs:RS K H H (L2.start N vs) (Z.startB N.length bs ds):=oa t (by lia);have rm:RM K (wipe H as) ms as H (L2.start N vs) (Z.startB N.length bs ds):=⟨by rw[Gv];exact rs,hat,OG,nd,λ a ha=>f8 ha⟩
 unfold Z.D4 at e;split at e
 .cases eb:b (Z.startB N.length bs ds)with
  |bad=>rw[eb]at e;cases e
  |ok fl=>
   rw[eb]at e;refine⟨_,fl,rm,eb,?_⟩;cases fl with
   |rt d' Rm=>cases e;exact λ v H' s' th dv=>k v H' s' th dv
   |nx ρ'=>cases e;exact λ σ' H' _ rm'=>k .non H' rm'.same rm'._0 j8
 .cases e
end
structure PM(K:Do)(st:Stmt)(ps:List Str):Prop where
 ex:∃C f fd,tI K "Desk" C/\Mk K C f/\Ez K "__init__" "Desk.__init__" st f fd/\Binds K fd ps []
structure HP(P:Program)(w:World)(K:Do)(mg:Str->Option Value)(base:Heap)(k:Nat)(ps:List Str)(n:Nat)(fn:List Z.D->Z.Res (Z.D×List Z.D)):Prop where
 ex:∃C f fd,tI K "Desk" C/\Mk K C f/\e6 P w K mg base jn k f fd ps (RG K [0] [Da,AT] n fn)/\Binds K fd ps []
structure Q6(P:Program)(w:World)(K:Do)(mg:Str->Option Value)(base:Heap)(k:Nat)(ps:List Str)(fx:List Z.D->Option Z.XN):Prop where
 ex:∃C f fd,tI K "Desk" C/\Mk K C f/\e6 P w K mg base (v? P w) k f fd ps (CT K [Da,AT] fx)/\Binds K fd ps []
section
variable{K:Do}
theorem HP.mk'{st:θ}(nR:ps.length=2)(d:PM K st ps)(S:a_ N ps (ah st))
 (hb:∀ f a! A outer s H H0 as E,bB k (A.deeper<|envOfC "Desk.__init__" (ah st) s.heap.objs.size f a!) ->
  Y4 (dO jn P w K mg base N "Desk.__init__" (ah st) f a! A outer s H E).f_ H0 [0] as (aM st) b):HP P w K mg base (k+1) ps N.length (Z.D4 [0] [Da,AT] N.length b):=by
 obtain⟨C,f,fd,hC,M,F,qm⟩:=d.ex;exact⟨C,f,fd,hC,M,TR nR.symm F S<|hb f,qm⟩
end
theorem zc:∀m k,Z.qM ms k (EQ m Ch)
|0,_=>trivial
|m+1,k=>⟨λ z=>z.elim,zc m _⟩
theorem G1(hx:H x=Ch)(hdx:H dx=Ch):aI H (upd (upd H dx<|.own x) x<|.ins C dx []):=λ b o e=>by rw[aD<|bq e hx,aD<|bq e hdx];exact e
theorem RS.AV{K:Fa}(h:RS K H0 H σ ρ)(hx:H x=Ch)(s:aI H H')(hu:H' x=AC u)(t:H? K H' kd ks vs u)(Hb:i<ρ.length):
 RS K (upd H0 x u) H' (σ.set i<|some<|.ref x) (ρ.set i<|some<|.bor<|Z.ib x kd ks vs):=by
 have h1:=h.up s;have n0:H0 x=Ch:=by
  cases e:H0 x with
  |none=>rfl
  |some o=>rw[h.same _ _ e]at hx;cases hx
 have ne:∀{q}{o},H q=AC o->q≠x:=λ e=>bq e hx;have getσ:∀j,i≠j->(σ.set i<|some<|V.ref x)[j]?=σ[j]?:=λ j hj=>A26 hj;have si:(σ.set i<|some<|V.ref x)[i]?=AC (AC<|.ref x):=A30 (by rw[<-h.re.len];exact Hb);refine⟨λ b o e=>?_,⟨by simp[h.re.len],λ j l e=>?_,λ j k xs ys q e1 e2 e3 e4=>?_⟩,λ j xs q e1 e2=>?_,λ j d e1=>?_,⟨λ j k ks ls q e1 e2 e3 e4=>?_,λ j ks q e1 e2=>?_⟩⟩
 .by_cases hb:b=x
  .subst hb;rw[aV]at e;rw[hu];exact e
  .rw[aD hb]at e;exact h1.same b o e
 .rcases aC e with⟨rfl,hl,e⟩|⟨hj,e⟩
  .cases e;exact⟨.ref x,si,.inr ⟨x,kd,ks,vs,u,rfl,rfl,hu,t⟩⟩
  .rw[getσ j hj];exact h1.re.get j l e
 .rcases aC e1 with⟨_,_,e⟩|⟨hj,e1⟩
  .cases e
  .rcases aC e2 with⟨_,_,e⟩|⟨hk,e2⟩
   .cases e
   .rw[getσ j hj]at e3;rw[getσ k hk]at e4;exact h.re.sep j k xs ys q e1 e2 e3 e4
 .rcases aC e1 with⟨_,_,e⟩|⟨hj,e1⟩
  .cases e
  .rw[getσ j hj]at e2;obtain⟨v,g1,a,ws,e,g2,_⟩:=h.re.get j _ e1;rw[e2]at g1;cases g1;cases e;rw[aD<|ne g2];exact h.fresh j xs q e1 e2
 .rcases aC e1 with⟨rfl,_,e⟩|⟨hj,e1⟩
  .cases e;exact⟨.ref x,si,.inr ⟨x,kd,ks,vs,u,rfl,rfl,aV⟩⟩
  .rw[getσ j hj];obtain⟨v,g1,g2⟩:=h.lK j d e1;refine⟨v,g1,?_⟩;rcases g2 with g2|⟨a,DN,tV,ds,u',q1,q2,q3⟩
   .exact .inl<|g2.up<|bP n0
   .exact .inr ⟨a,DN,tV,ds,u',q1,q2,bP n0 _ _ q3⟩
 .rcases aC e1 with⟨_,_,e⟩|⟨hj,e1⟩
  .cases e
  .rcases aC e2 with⟨_,_,e⟩|⟨hk,e2⟩
   .cases e
   .rw[getσ j hj]at e3;rw[getσ k hk]at e4;exact h.nA.1 j k ks ls q e1 e2 e3 e4
 .rcases aC e1 with⟨_,_,e⟩|⟨hj,e1⟩
  .cases e
  .rw[getσ j hj]at e2;obtain⟨v,g1,a,ws,e,g2,_⟩:=h.re.get j _ e1;rw[e2]at g1;cases g1;cases e;rw[aD<|ne g2];exact h.nA.2 j ks q e1 e2
section
variable{rest:γ θ}
theorem NS{K:Do}(hC:tI K "Desk" C):jP K (upd (upd H dx<|.own x) x<|.ins C dx []) (Z.ib x 0 [] []) (.ref x):=.inr ⟨x,0,[],[],_,rfl,rfl,aV,.inl ⟨rfl,rfl,C,dx,[],rfl,hC,rfl,aG.nil⟩⟩
end
theorem acN{K:Do}(X:K.In s.heap)(xd:XC K c D)(he:s.heap.get? e=AC oe)(hc:oe.cls=.ref C)(hm:mroIn K C (.ref D)=AC Da)(hq:Q Da s):
 FM M A (excMatches (.ref e)<|.ref D) Q E s:=by
 obtain⟨tl,ns,nm,qn,bs,hd,sn,sub,ab,col,QR,s0',s1',s2',s3',s5',hC,nR⟩:=ade X xd;obtain⟨h,g,d,t,os⟩:=s;have hcB:(Value.ref D::tl).contains (.type "BaseException")=Da:=by rw[List.contains_cons,nR,Bool.or_true]
 have L:=looks_mroIn (M:=M) X hm;have f:=tc_notTuple
 repeat (first|(with_reducible refine wpAny_loadPart_at he ?_;rw[hc])|with_reducible refine wpAny_loadPart_at hC ?_|(with_reducible refine wpAny_isSubtype_exc hC ?_;rw[hcB])|with_reducible refine L.at ?_|wp_step)
 exact hq
def HL(K:Do)(c:γ Nat)(D:δ):Prop:=∃C,nsIn K mainGlobals ⟨c.toArray⟩=AC (AC<|.ref C)/\mroIn K C (.ref D)=AC Da
def FU(K:Do)(cs:γ (γ Nat))(D:δ):Prop:=∀c∈cs,HL K c D
theorem IS{K:Do}:FU K [] D:=λ _ h=>by simp at h
theorem qz{K:Do}(h:HL K c D)(t:FU K cs D):FU K (c::cs) D:=λ x hx=>by
 rcases o0.mp hx with rfl|hx
 .exact h
 .exact t x hx
theorem _root_.ZQ.OV(hex:X.ex=[])(vk:X.stack=X.env::X.outer)(Qv:X.env.frame=AC X.env.locals)
 (hN:X.N.Nodup) (hi:X.N[i]?=AC n) (hl:X.env.scope.names.lookup n=AC .local) (hg:Gl X x) (hm:X.mg x=AC (.ref D0)) (xd:XC X.K c0 D0) (Hg:FU X.K cs D0)
 (hb:ZQ.z! X.f_ H0 body g) (hxb:∀pn E,ZQ.YZ (Gd X pn E) body xb) (hh:∀ev,ZQ.z! (OI X ev).f_ H0 (b0::V0) h) (ir:(x==("__debug__"))=AT:=by decide +kernel) :
 ZQ.QS X H0 (.Try body [.ExceptHandler (AC<|.Name x np) (AC n) (b0::V0) agW] [] [] pos) (Z.AY g xb cs i h):=⟨by
 have hb:=hb.p;have hxb:=λ pn E=>(hxb pn E).p;have hh:=λ ev=>(hh ev).p;intro χ s σ H D I hyp;obtain⟨ρ,fl,rs,e,k⟩:=hyp;refine wpAny_Try_except ?_;unfold Z.AY at e;split at e
 .rename_i c' ec;split at e
  .rename_i xT;refine A19 (hxb (X.pn++χ) _ [] s σ H {nx:=λ _ _=>False,rt:=λ _ _=>False} (Ox I _) ⟨ρ,c',rs.re,ec,λ nG H' s' ex C dd sm xr J1 th1=>?_⟩) (λ f s1 q=>?_) λ _ _ z=>z;rotate_left
   .cases f with
    |next=>obtain⟨_,_,_,z⟩:=q;exact z.elim
    |brk=>obtain⟨_,_,_,z⟩:=q;exact z.elim
    |cont=>obtain⟨_,_,_,z⟩:=q;exact z.elim
    |ret u=>obtain⟨_,_,_,_,_,z⟩:=q;exact z.elim
   have J:=DU I.ok J1;have xr:=xr;have xc:=xr.1;have hmr:mroIn X.K C (.ref D0)=AC Da:=by obtain⟨C2,q1,q2⟩:=Hg _ xT;have:=q1.symm.trans xc.1;cases this;exact q2
   refine Be hex vk Qv J (CL th1) λ s2 c2=>land c2 λ s3 c3=>?_;obtain⟨oe,vs,_,_,_,he,tW,_⟩:=c3.ex;refine wpAny_handleBy_cons (codeAny_handlers_test<|Kf c3.inv hg hm ?_ ir) (by intro q;cases q);refine acN c3.inv.nM xd he tW hmr ?_;refine codeAny_handlers_suite_as<|land c3 λ s4 c4=>?_;obtain⟨oe4,u4,acq,ack,acn,fe,I4⟩:=c4.VI;refine pD I4 hN hi (.inl hl) (show RelV (.ref ex) (.ref ex)from rfl) (λ s5 I5=>?_)<|.inr hl;have P_:aI H (upd H' ex<|.dZ oe4 u4):=sm.trans<|bP fe;have ZH:RS X.K H0 (upd H' ex<|.dZ oe4 u4) (σ.set i<|some<|.ref ex) (ρ.set i<|some<|.exc c'):=(rs.up P_).V5 ⟨ex,oe4,u4,C,rfl,aV,acq,acn,by rw[ack];exact xr.ups<|l!<|bP fe⟩;split at e
   .rename_i ρ' eh;cases e;refine A19 (hh (.ref ex) χ s5 _ _ {nx:=λ σ' H2=>D.nx (σ'.set i Ch) H2,rt:=λ _ _=>False} (Fu I5 _) ⟨_,.nx ρ',ZH,eh,λ σ' H2 st Ah=>k (σ'.set i Ch) H2 ((l! P_).trans st) Ah.RI⟩) (λ f s6 q=>?_) λ _ _ z=>z.elim;cases f with
    |next=>obtain⟨σ',H2,I6,q⟩:=q;exact name_goes hN hi hl (vb I.ok I6) λ s7 I7=>⟨_,H2,I7,q⟩
    |brk=>obtain⟨_,_,_,z⟩:=q;exact z.elim
    |cont=>obtain⟨_,_,_,z⟩:=q;exact z.elim
    |ret u=>obtain⟨_,_,_,_,_,z⟩:=q;exact z.elim
   .rename_i d eh;cases e;refine A19 (hh (.ref ex) χ s5 _ _ {nx:=λ _ _=>False,rt:=D.rt} (Fu I5 _) ⟨_,.rt d,ZH,eh,k⟩) (λ f s6 q=>?_) λ _ _ z=>z.elim;cases f with
    |next=>obtain⟨_,_,_,z⟩:=q;exact z.elim
    |brk=>obtain⟨_,_,_,z⟩:=q;exact z.elim
    |cont=>obtain⟨_,_,_,z⟩:=q;exact z.elim
    |ret u=>obtain⟨v,σ',H2,I6,rv,q⟩:=q;exact name_goes hN hi hl (vb I.ok I6) λ s7 I7=>⟨v,_,H2,I7,rv,q⟩
   .cases e
  .cases e
 .refine A19 (hb χ s σ H D (I.wish _) ⟨ρ,fl,rs,e,k⟩) (λ f s1 q=>?_) λ _ _ z=>z.elim;have q:=q.gc;cases f with
  |next=>exact B37 q
  |brk=>exact q
  |cont=>exact q
  |ret u=>exact q⟩
def clsAt(s:θ)(j:Nat):θ:=match s with
|.ClassDef _ _ _ b _ _ _ _ _ _ _=>b.getD j<|.Pass ⟨0,0,0,0⟩
|s=>s
def h_(K:Frag)(C:δ)(m q:Str)(st:θ):Prop:=∃(f:δ)(od an:ε δ)(sl:Array (ε ζ))(oc kV dc pm cd ct:ζ),findIn K (.ref C) m=AC (AC<|.ref f)/\K.lookup f=AC ⟨oc,od,.func<|fnOf m q (bI st) (aM st) (ah st) .none kV dc pm an cd ct,sl⟩/\codeIn K cd q=Da/\keepIn K (.ref f)=Da/\isFn K (.ref f)=Da
section
variable{K:Frag}{st:θ}
theorem h_.mk'{oc kV dc pm cd ct:ζ}(a:findIn K (.ref C) m=AC (AC<|.ref f))(l:K.lookup f=AC ⟨oc,od,.func<|fnOf m q (bI st) (aM st) (ah st) .none kV dc pm an cd ct,sl⟩)(c:codeIn K cd q=Da)(k:keepIn K (.ref f)=Da)(i:isFn K (.ref f)=Da):h_ K C m q st:=⟨f,od,an,sl,oc,kV,dc,pm,cd,ct,a,l,c,k,i⟩
theorem h_.df(d:h_ K C m q st)(hC:tI K "Desk" C)(hb:∀kV doc pm an a! ct us,us.length=ps.length->bindArgs (fnOf m q (bI st) (aM st) (ah st) .none kV doc pm an a! ct) ⟨us,[]⟩=pure (ps.zip us)):Ac K m q st ps:=by obtain⟨f,od,an,sl,oc,kV,dc,pm,cd,ct,a,l,c,k,i⟩:=d;have F:=zy l c k;exact⟨C,f,_,hC,⟨a,i,k⟩,F,F.binds hb⟩
theorem h_.di(d:h_ K C "__init__" "Desk.__init__" st)(hC:tI K "Desk" C)(mk:makesIn K C=Da)(kp:keepIn K (.ref C)=Da)(hb:∀kV doc pm an a! ct us,us.length=ps.length->bindArgs (fnOf "__init__" "Desk.__init__" (bI st) (aM st) (ah st) .none kV doc pm an a! ct) ⟨us,[]⟩=pure (ps.zip us)):PM K st ps:=by obtain⟨f,od,an,sl,oc,kV,dc,pm,cd,ct,a,l,c,k,i⟩:=d;have F:=zy l c k;exact⟨C,f,_,hC,⟨mk,a,i,kp⟩,F,F.binds hb⟩
theorem yI(hx:(⟨c.toArray⟩)=x)(w:nsIn K mainGlobals x=AC (AC<|.ref C))(m:mroIn K C (.ref D)=AC Da):HL K c D:=⟨C,by rw[hx];exact w,m⟩
end
end ZS
namespace ZQ
open L2 ZS PySem.W
section
variable{st:θ}
theorem bW(h:∀H1,QS X H1 st g):Q1 X H0 ms as st (Z.b! ms g):=⟨ZS.bW λ H1=>(h H1).p⟩
end
section
variable{K:Do}
theorem rE{st:θ}(nR:bs.length=ps.length)(d:Ac K m qual st ps)(hb:∀{f}{a!}{A}{outer}{s}{H}{E},N.Nodup->(A.deeper<|envOfC qual (ah st) s.heap.objs.size f a!).units+64<cLine->bB k (A.deeper<|envOfC qual (ah st) s.heap.objs.size f a!)->z! (dO jn P w K mg base N qual (ah st) f a! A outer s H E).f_ H (aM st) b)(S:a_ N ps (ah st):=by exact ZS.K0):tJ P w K mg base m (k+1) ps bs (Z.Ck bs N.length b):=tJ.mk' nR d S λ f a! A outer s H E hr=>(hb S.nd hr.units hr).p
theorem rD{st:θ}(nR:bs.length=ps.length)(d:Ac K m qual st ps)(hb:∀{f}{a!}{A}{outer}{s}{H}{E},N.Nodup->(A.deeper<|envOfC qual (ah st) s.heap.objs.size f a!).units+64<cLine->bB k (A.deeper<|envOfC qual (ah st) s.heap.objs.size f a!)->Cd (dO (v? P w) P w K mg base N qual (ah st) f a! A outer s H E) H (aM st) xb)(S:a_ N ps (ah st):=by exact ZS.K0):mM P w K mg base m (k+1) ps bs (Z.Fz bs N.length xb):=mM.mk' nR d S λ f a! A outer s H E hr=>(hb S.nd hr.units hr).p
theorem Um{st:θ}(nR:ps.length=2)(d:PM K st ps)(hb:∀{f}{a!}{A}{outer}{s}{H H0}{as}{E},N.Nodup->(A.deeper<|envOfC "Desk.__init__" (ah st) s.heap.objs.size f a!).units+64<cLine->bB k (A.deeper<|envOfC "Desk.__init__" (ah st) s.heap.objs.size f a!)->z? (dO jn P w K mg base N "Desk.__init__" (ah st) f a! A outer s H E).f_ H0 [0] as (aM st) b)(S:a_ N ps (ah st):=by exact ZS.K0):HP P w K mg base (k+1) ps N.length (Z.D4 [0] [Da,AT] N.length b):=HP.mk' nR d S λ f a! A outer s H H0 as E hr=>(hb S.nd hr.units hr).p
end
end ZQ
namespace ZS
open L2 PySem.W
theorem xy:∀is ts ρ,(Z.ie is ts ρ).length=ρ.length
|[],_,_=>rfl
|_::_,[],_=>rfl
|i::is,t::ts,ρ=>by show(Z.ie is ts _).length=_;rw[xy];simp
theorem kD:∀is ts ρ {j},j∉is->(Z.ie is ts ρ)[j]?=ρ[j]?
|[],_,_,_,_=>rfl
|_::_,[],_,_,_=>rfl
|i::is,t::ts,ρ,j,h=>by show(Z.ie is ts _)[j]?=_;rw[kD is ts _ λ z=>h<|A07 _ z,A26 λ z=>h (by rw[z];simp)]
theorem A0{S:δ->Z.D->Prop}:∀{is}{as}{ts}{ρ}{j},is.Nodup->(∀i∈is,i<ρ.length)->Paired R is as->Paired S as ts->j∈is->∃a t,a∈as/\R j a/\S a t/\(Z.ie is ts ρ)[j]?=AC (AC<|.bor t)
|[],_,_,_,_,_,_,_,_,h=>by simp at h
|i::is,_,_,ρ,j,nd,hl,.cons (b:=a) r tr,.cons (b:=t) s tS,h=>by
 have Dn:=A45.mp nd;rcases o0.mp h with e|h
 .subst e;refine⟨a,t,by simp,r,s,?_⟩;show(Z.ie is _ _)[j]?=_;rw[kD is _ _ Dn.1,A30<|hl j (by simp)]
 .obtain⟨a',t',h1,h2,h3,h4⟩:=A0 (ρ:=ρ.set i (AC<|.bor t)) Dn.2 (λ k hk=>by simpa using hl k (by simp[hk])) tr tS h;exact⟨a',t',by simp[h1],h2,h3,h4⟩
section
variable{K:Do}
abbrev Vv(ρ:Z.Env)(i:Nat)(a:δ):Prop:=∃kd ks vs,ρ[i]?=AC (AC<|.bor<|Z.ib a kd ks vs)
theorem jU:∀{l}{m}{y},Paired R l m->y∈m->∃x∈l,R x y
|_,_,_,.nil,h=>by simp at h
|_,_,y,.cons r t,h=>by
 rcases o0.mp h with rfl|h
 .exact⟨_,by simp,r⟩
 .obtain⟨x,h1,h2⟩:=jU t h;exact⟨x,by simp[h1],h2⟩
theorem RM.pick(h:RM K H0 ms as H σ ρ):∀{is},(∀i∈is,i∈ms)->is.Nodup->∃tD,Paired (Vv ρ) is tD/\tD.Nodup/\∀a∈tD,a∈as
|[],_,_=>⟨[],.nil,by simp,λ a h=>by simp at h⟩
|i::is,hs,nd=>by
 have Dn:=A45.mp nd;obtain⟨tD,p,n,s⟩:=h.pick (λ k hk=>hs k (by simp[hk])) Dn.2;obtain⟨a,ha,r⟩:=d? h.at_ (hs i (by simp));refine⟨a::tD,.cons r p,A45.mpr ⟨λ z=>?_,n⟩,λ b hb=>?_⟩
 .obtain⟨j,hj,r2⟩:=jU p z;obtain⟨_,_,_,r⟩:=r;obtain⟨_,_,_,r2⟩:=r2;have:=h.uniq r r2;subst this;exact Dn.1 hj
 .rcases o0.mp hb with rfl|hb
  .exact ha
  .exact s b hb
theorem RM.Qh(h:RM K H0 ms as H σ ρ)(hb:b∈as):(∀xs,H b≠AC (.tup xs))/\∀o u,H b≠AC (.dZ o u):=by obtain⟨i,_,_,_,_,hi⟩:=jU h.at_ hb;obtain⟨_,u,q,t⟩:=h.thing hi;exact⟨λ xs z=>t.mb.1 xs<|A03<|q.symm.trans z,λ o x z=>t.mb.2.1 o x<|A03<|q.symm.trans z⟩
def Ab(as:γ δ)(H H':Hp):Prop:=∀b o,b∉as->H b=AC o->H' b=AC o
theorem Ab.of(s:aI H H'):Ab as H H':=λ b o _ e=>s b o e
theorem Ab.trans{H2:Hp}(a:Ab as H H')(b:Ab as H' H2):Ab as H H2:=λ c o hc e=>b c o hc<|a c o hc e
theorem RM.l!(h:RM K H0 ms as H σ ρ)(s:Ab as H H'):iQ H H':=⟨λ b xs e=>s b _ (λ z=>(h.Qh z).1 xs e) e,λ b o u e=>s b _ (λ z=>(h.Qh z).2 o u e) e⟩
theorem RM.call(h:RM K H0 ms as H σ ρ)(hs:∀i∈is,i∈ms)(nd:is.Nodup)(p:Paired (Vv ρ) is tD)(sub:∀a∈tD,a∈as)(sm:aI (wipe H tD) H')(th:TH K H' tD ts):
 Ab as H H'/\RM K H0 ms as H' σ (Z.ie is ts ρ):=by
 have keep:∀b o,b∉tD->H b=AC o->H' b=AC o:=λ b o n e=>sm b o (by show(if b∈tD then Ch else H b)=_;rw[v6 n];exact e);have m1:Ab as H H':=λ b o n e=>keep b o (λ z=>n<|sub b z) e;have st:=h.l! m1;have hl:∀i∈is,i<ρ.length:=λ i hi=>by obtain⟨a,_,_,_,_,q⟩:=d? p hi;exact(A10.mp q).1
 have new:∀{j},j∈is->∃a kd ks vs u,a∈tD/\Vv ρ j a/\H' a=AC u/\H? K H' kd ks vs u/\(Z.ie is ts ρ)[j]?=AC (AC<|.bor<|Z.ib a kd ks vs):=λ {j} hj=>by obtain⟨a,t,ha,r,⟨kd,ks,vs,u,e,q,o⟩,g⟩:=A0 (ρ:=ρ) nd hl p th hj;subst e;exact⟨a,kd,ks,vs,u,ha,r,q,o,g⟩
 have old:∀{j}{l},(Z.ie is ts ρ)[j]?=AC (AC l)->j∉is->ρ[j]?=AC (AC l):=λ {j l} e hj=>by rw[kD is ts ρ hj]at e;exact e
 have off:∀{j:Nat}{a:δ},j∉is->Vv ρ j a->a∉tD:=λ {j a} hj ⟨_,_,_,r⟩ z=>by obtain⟨i,hi,_,_,_,r2⟩:=jU p z;exact hj (by rw[h.uniq r r2];exact hi)
 have fr:∀{q:δ},over H0 H as q=Ch->q∉as/\over H0 H' as q=Ch:=λ {q} e=>by
  have n:q∉as:=λ z=>by obtain⟨u,hu⟩:=h.tracked z;rw[dA z,hu]at e;cases e
  exact⟨n,by rw[dR n]at e ⊢;exact e⟩
 have thing:∀{j:Nat}{d:Z.D},ρ[j]?=AC (AC<|.bor d)->∃a kd ks vs,d=Z.ib a kd ks vs:=λ {j d} hj=>by
  have hm:j∈ms:=by have:=i? h.no hj trivial;simpa using this
  obtain⟨a,_,kd,ks,vs,q⟩:=d? h.at_ hm;rw[hj]at q;injection q with q;injection q with q;injection q with q
  exact⟨a,kd,ks,vs,q⟩
 have σat:∀{j:Nat}{a:δ},Vv ρ j a->σ[j]?=AC (AC<|.ref a):=λ⟨_,_,_,q⟩=>(h.thing q).1;refine⟨m1,⟨?_,?_,?_,h.nd,h.h0⟩⟩
 .refine⟨λ b o e=>?_,⟨by rw[xy];exact h.rs.re.len,λ j l e=>?_,λ j k xs ys q e1 e2 e3 e4=>?_⟩,λ j xs q e1 e2=>?_,λ j d e1=>?_,⟨λ j k ks ls q e1 e2 e3 e4=>?_,λ j ks q e1 e2=>?_⟩⟩
  .by_cases hb:b∈as
   .rw[dA hb]at e;exact e
   .rw[dR hb]at e;exact m1 b o hb<|h.same b o e
  .by_cases hj:j∈is
   .obtain⟨a,kd,ks,vs,u,ha,r,q,o,g⟩:=new hj;rw[g]at e;cases e;exact⟨.ref a,σat r,.inr ⟨a,kd,ks,vs,u,rfl,rfl,q,o⟩⟩
   .have e:=old e hj;obtain⟨v,e1,r⟩:=h.rs.re.get j l e;refine⟨v,e1,?_⟩;cases l with
    |val d=>exact Den.ups (show Den K H d v from r) st
    |own zs=>obtain⟨q',ws,rfl,eQ,t'⟩:=r;exact⟨q',ws,rfl,m1 _ _ (fr<|h.rs.fresh j zs q' e e1).1 eQ,t'.ups st⟩
    |bor d=>obtain⟨a,kd,ks,vs,rfl⟩:=thing e;obtain⟨s1,u,q,t⟩:=h.thing e;rw[s1]at e1;cases e1;exact .inr ⟨a,kd,ks,vs,u,rfl,rfl,keep _ _ (off hj ⟨_,_,_,e⟩) q,t.ups st⟩
    |dc ks=>obtain⟨q',as2,rfl,eQ,t'⟩:=r;exact⟨q',as2,rfl,m1 _ _ (fr<|h.rs.nA.2 j ks q' e e1).1 eQ,t'.ups st⟩
    |Aj ks=>obtain⟨q',o',as2,rfl,eQ,t'⟩:=r;exact⟨q',o',as2,rfl,st.dZ _ _ _ eQ,t'.ups st⟩
    |Qp ps=>obtain⟨q',o',rfl,eQ⟩:=r;exact⟨q',o',rfl,st.dZ _ _ _ eQ⟩
    |exc c=>obtain⟨q',o',u',C',rfl,eQ,r1,r2,r3⟩:=r;exact⟨q',o',u',C',rfl,st.dZ _ _ _ eQ,r1,r2,r3.ups st⟩
  .have no:∀{j:Nat}{zs:γ Z.D},(Z.ie is ts ρ)[j]?=AC (AC<|.own zs)->ρ[j]?=AC (AC<|.own zs):=λ {j zs} e=>old e λ hj=>by obtain⟨a,kd,ks,vs,u,ha,r,q,o,g⟩:=new hj;rw[g]at e;cases e
   exact h.rs.re.sep j k xs ys q (no e1) (no e2) e3 e4
  .have hj:j∉is:=λ hj=>by obtain⟨a,kd,ks,vs,u,ha,r,q,o,g⟩:=new hj;rw[g]at e1;cases e1
   exact(fr<|h.rs.fresh j xs q (old e1 hj) e2).2
  .by_cases hj:j∈is
   .obtain⟨a,kd,ks,vs,u,ha,r,q,o,g⟩:=new hj;rw[g]at e1;cases e1;exact⟨.ref a,σat r,.inr ⟨a,kd,ks,vs,u,rfl,rfl,by rw[dA<|sub a ha];exact q⟩⟩
   .have e:=old e1 hj;obtain⟨a,kd,ks,vs,rfl⟩:=thing e;obtain⟨s1,u,q,t⟩:=h.thing e;exact⟨.ref a,s1,.inr ⟨a,kd,ks,vs,u,rfl,rfl,by rw[dA<|h.mem e];exact keep _ _ (off hj ⟨_,_,_,e⟩) q⟩⟩
  .have no:∀{j:Nat}{zs:Z.DK},(Z.ie is ts ρ)[j]?=AC (AC<|.dc zs)->ρ[j]?=AC (AC<|.dc zs):=λ {j zs} e=>old e λ hj=>by obtain⟨a,kd,ks,vs,u,ha,r,q,o,g⟩:=new hj;rw[g]at e;cases e
   exact h.rs.nA.1 j k ks ls q (no e1) (no e2) e3 e4
  .have hj:j∉is:=λ hj=>by obtain⟨a,kd,ks,vs,u,ha,r,q,o,g⟩:=new hj;rw[g]at e1;cases e1
   exact(fr<|h.rs.nA.2 j ks q (old e1 hj) e2).2
 .refine dW h.at_ λ i hi a r=>?_;by_cases hj:i∈is
  .obtain⟨a2,kd,ks,vs,u,ha,r2,q,o,g⟩:=new hj;have:=Es i _ _ r r2;subst this;exact⟨kd,ks,vs,g⟩
  .obtain⟨kd,ks,vs,r⟩:=r;exact⟨kd,ks,vs,by rw[kD is ts ρ hj];exact r⟩
 .refine uT λ j x e t=>?_;rw[B24];by_cases hj:j∈is
  .exact hs j hj
  .rw[kD is ts ρ hj]at e;have:=i? h.no e t;simpa using this
end
theorem uu:∀k {bs}{ds}{as},ds.length=bs.length->Paired (λ(d)(a:δ)=>∃kd ks vs,d=Z.ib a kd ks vs) (Z.P0 bs ds) as ->
 Paired (λ(i)(a)=>∃kd ks vs,k<=i/\(cr (λ b d=>AC<|Z.sI b d) bs ds)[i-k]?=AC (AC<|.bor<|Z.ib a kd ks vs)) (Z.jY k bs) as
|k,[],[],_,_,.nil=>.nil
|k,Da::bs,d::ds,_,hl,.cons r t=>by
 obtain⟨kd,ks,vs,rfl⟩:=r;refine .cons ⟨kd,ks,vs,M2 _,by simp[Z.ib,Z.sI]⟩ ?_;refine dW (uu _ (by simpa using hl) t) λ i _ a ⟨kd,ks,vs,h1,h2⟩=>⟨kd,ks,vs,by lia,?_⟩
 rw[show i-k=(i-(k+1))+1 from by lia];simpa using h2
|k,AT::bs,d::ds,_,hl,p=>by
 refine dW (uu (k+1) (by simpa using hl) p) λ i _ a ⟨kd,ks,vs,h1,h2⟩=>⟨kd,ks,vs,by lia,?_⟩
 rw[show i-k=(i-(k+1))+1 from by lia];simpa using h2
theorem E?:∀{a}{k},Z.qM ms k a->Z.qM ms (k+a.length) b->Z.qM ms k (a++b)
|[],_,_,h=>h
|x::a,k,h,g=>⟨h.1,E? h.2 (by rw[show k+1+a.length=k+(x::a).length from by simp;lia];exact g)⟩
theorem zb:∀k bs ds ms,(∀i∈Z.jY k bs,i∈ms)->Z.qM ms k (cr (λ b d=>AC<|Z.sI b d) bs ds)
|_,[],_,_,_=>by simp[Z.qM]
|_,_::_,[],_,_=>by simp[Z.qM]
|k,Da::bs,d::ds,ms,h=>⟨λ _=>h k (by simp[Z.jY]),zb _ bs ds ms λ i hi=>h i (by simp[Z.jY,hi])⟩
|k,AT::bs,d::ds,ms,h=>⟨λ z=>by
 have:Z.sI AT d=.val d:=by cases d<;>rfl
 change Z.wQ (AC _)at z;rw[this]at z;exact z.elim,zb _ bs ds ms λ i hi=>h i (by simpa[Z.jY]using hi)⟩
def Zo(K:Do)(H0:Hp)(ms:γ Nat)(as:γ δ)(f:Z.UQ):TE:=λ σ H Q=>∃ρ d ρ',RM K H0 ms as H σ ρ/\f ρ=.ok (d,ρ')/\∀v H',Ab as H H'->RM K H0 ms as H' σ ρ'->Den K H' d v->Q v H'
def tMT(K:Do)(H0:Hp)(ms:γ Nat)(as:γ δ)(f:Z.Vq):TT:=λ σ H Q=>∃ρ b ρ',RM K H0 ms as H σ ρ/\f ρ=.ok (b,ρ')/\∀H',Ab as H H'->RM K H0 ms as H' σ ρ'->Q b H'
abbrev ME(X:Cx)(H0:Hp)(ms:γ Nat)(as:γ δ)(e:ι)(f:Z.UQ):Prop:=PE X e<|Zo X.K H0 ms as f
structure _root_.ZQ.H_(X:Cx)(H0:Hp)(ms:List Nat)(as:List Addr)(e:Expr)(f:Z.UQ):Prop where p:ME X H0 ms as e f
abbrev MT(X:Cx)(H0:Hp)(ms:γ Nat)(as:γ δ)(e:ι)(f:Z.Vq):Prop:=PT X e<|tMT X.K H0 ms as f
structure _root_.ZQ.QMT(X:Cx)(H0:Hp)(ms:List Nat)(as:List Addr)(e:Expr)(f:Z.Vq):Prop where p:MT X H0 ms as e f
abbrev MTW(X:Cx)(H0:Hp)(ms:γ Nat)(as:γ δ)(e:ι)(f:Z.Vq):Prop:=PW X e<|tMT X.K H0 ms as f
structure _root_.ZQ.aiM(X:Cx)(H0:Hp)(ms:List Nat)(as:List Addr)(e:Expr)(f:Z.Vq):Prop where p:MTW X H0 ms as e f
structure Q8(P:Program)(w:World)(K:Do)(mg:Str->Option Value)(base:Heap)(x:Str)(k:Nat)(ps:List Str)(bs:List Bool)(n:Nat)(fn:List Z.D->Z.Res (Z.D×List Z.D)):Prop where
 ex:∃g fd,e6 P w K mg base jn k g fd ps (RG K (Z.jY 0 bs) bs n fn)/\mg x=AC (.ref g)/\Fk K (.ref g)=Da/\Binds K fd ps []
structure nY(P:Program)(w:World)(K:Do)(mg:Str->Option Value)(base:Heap)(m:Str)(k:Nat)(ps:List Str)(bs:List Bool)(n:Nat)(fn:List Z.D->Z.Res (Z.D×List Z.D)):Prop where
 ex:∃C g fd,tI K "Desk" C/\Meth K C m g/\e6 P w K mg base jn k g fd ps (RG K (Z.jY 0 bs) bs n fn)/\Binds K fd ps []
section
variable{K:Do}
theorem nY.mk'{st:θ}(nR:bs.length=ps.length)(d:Ac K m qual st ps)(S:a_ N ps (ah st))
 (hb:∀ f a! A outer s H H0 as E,bB k (A.deeper<|envOfC qual (ah st) s.heap.objs.size f a!) ->
  Y4 (dO jn P w K mg base N qual (ah st) f a! A outer s H E).f_ H0 (Z.jY 0 bs) as (aM st) b):nY P w K mg base m (k+1) ps bs N.length (Z.D4 (Z.jY 0 bs) bs N.length b):=by
 obtain⟨C,f,fd,hC,hm,F,qm⟩:=d.ex;exact⟨C,f,fd,hC,hm,TR nR F S<|hb f,qm⟩
end
section
variable{X:Cx}
theorem _root_.ZQ.Xk(h:ZQ.QE X e f):ZQ.H_ X H0 ms as e (Z.mP f):=⟨PE.imp h.p λ σ H Q ⟨ρ,d,ρ',rm,e,k⟩=>by obtain⟨x,ea,e⟩:=bd e;cases e;exact⟨ρ,d,rm.rs.re,ea,λ v H1 s1 d1=>k v H1 (Ab.of s1) (rm.up s1) d1⟩⟩
theorem LJ{K:Fa}(rm:RM K H0 ms as H σ ρ)(hs:∀i∈is,i∈ms)(nd:is.Nodup)(d1:ia K H bs ds vs)(hth:Z.P0 bs ds=Z.l3 is ρ)(er:fn ds=.ok r)
 (k:∀v H',Ab as H H'->RM K H0 ms as H' σ (Z.ie is r.2 ρ)->Den K H' r.1 v->Q v H'):RG K (Z.jY 0 bs) bs n fn vs H Q E:=by
 obtain⟨tD,p,n',sub⟩:=rm.pick hs nd;have p2:Paired (λ(d)(a)=>∃kd ks vs,d=Z.ib a kd ks vs) (Z.P0 bs ds) tD:=by
  rw[hth];have key:∀{l}{m},Paired (Vv ρ) l m->Paired (λ(d)(a)=>∃kd ks vs,d=Z.ib a kd ks vs) (Z.l3 l ρ) m:=by
   intro l m q
   induction q with
   |nil=>exact .nil
   |cons r t ih=>obtain⟨kd,ks,vs,hi⟩:=r;exact .cons ⟨kd,ks,vs,by show Z.VJ _=_;rw[hi];rfl⟩ ih
  exact key p
 obtain⟨Ve,Ts⟩:=d1.length;have st:=uu 0 Ts p2;refine⟨ds,tD,r.1,r.2,d1,n',dW st λ i _ a ⟨kd,ks,vs,_,q⟩=>⟨kd,ks,vs,?_⟩,?_,er,λ v H' s2 th dv=>?_⟩
 .rw[Nat.sub_zero]at q;unfold Z.startB;rw[A37 (A10.mp q).1];exact q
 .exact E? (zb 0 bs ds _ λ i h=>h)<|zc _ _
 .obtain⟨m1,M7⟩:=rm.call hs nd p sub s2 th;exact k v H' m1 M7 dv
theorem _root_.ZQ.pQ(C:nY X.prog X.w X.K X.mg X.base m k ps (Da::bs) n fn)(hr:bB k X.A)(ho:ZQ.QM X 0 o fo)(hf:(Z.dg.map λ c=>(⟨c.toArray⟩)).contains m=AT)(hs:∀i∈is,i∈ms)(nd:is.Nodup)(ha:ZQ.PH X (e::es) bs ar)
 (vk:Se e es X.env:=by rfl) (dX:Pn pos es X.env:=by rfl)
 (ht:eval (.Call (.Attribute o m apos) (e::es) [] pos) X.env=(do
  let ov ←eval o X.env
  standAt apos.atName
  let (f,first) ←holding [ov] (getMethod ov m pl)
  callWith pos f first (backTo pos<|starEach (e::es) X.env) (backToKw pos<|keywordEach [] X.env)):=by rfl) :
 ZQ.H_ X H0 ms as (.Call (.Attribute o m apos) (e::es) [] pos) (Z.lT fn (Da::bs) is<|Z.aa fo ar):=⟨by
 obtain⟨C,g,fd,hC,hm,F,hb⟩:=C.ex;refine PE.imp (E6 ho.p hC.2 hm F hr hb .nil uE ha.p vk dX ht) λ σ H Q ⟨ρ,d,ρ',rm,e,k⟩=>?_;obtain⟨ds,ea,e⟩:=bd e;obtain⟨hth,e⟩:=Z.cX e;obtain⟨r,er,e⟩:=bd e;obtain⟨ψ,e⟩:=Z.cX e;cases e;obtain⟨x,ex,ea⟩:=bd ea;obtain⟨xs,en,ea⟩:=bd ea;cases ea;refine⟨ρ,x,rm.rs.re,ex,λ v H1 s1 d1=>?_⟩;obtain⟨a,ks,ds,u,rfl,rfl,q,t⟩:=id d1;rcases t with⟨_,hk,C',dx,fs,rfl,OM,h3,h4⟩|⟨z,_⟩
 .have:=OM.1.symm.trans hC.1;cases this;rw[hk]at h3;refine⟨a,dx,fs,rfl,q,kH h3 hf,ρ,xs,rm.rs.re.up s1,en,λ vs H2 s2 d2=>?_⟩;show RG X.K (Z.jY 0<|true::bs) (Da::bs) n fn (.ref a::(vs++[])) H2 Q E0;rw[A56];exact LJ ((rm.up s1).up s2) hs nd (ds:=Z.ib a 0 ks ds::xs) ⟨_,_,rfl,(d1.up s2).b,d2⟩ hth er λ v H' m1 M7 dv=>k v H' (((Ab.of s1).trans<|Ab.of s2).trans m1) M7 dv
 .cases z⟩
theorem abf(hz:Ew X.K r o):∀σ H Q,Zo X.K H0 ms as (Z.mB o fa fb) σ H Q->P7 r (Zo X.K H0 ms as fa) (Zo X.K H0 ms as fb) σ H Q:=by rintro σ H Q ⟨ρ,d,ρ',rm,e,k⟩;obtain⟨⟨x,ρ1⟩,ea,e⟩:=bd e;obtain⟨⟨y,ρ2⟩,eb,e⟩:=bd e;obtain⟨z,eo,e⟩:=bd e;cases e;exact⟨ρ,x,ρ1,rm,ea,λ v H1 m1 AZ d1=>⟨ρ1,y,ρ2,AZ,eb,λ u H2 m2 M7 d2=>hz _ _ _ _ _ H2 Q (.inl<|d1.ups<|AZ.l! m2) (.inl d2) eo λ w H' s3 dw=>k w H' ((m1.trans m2).trans<|Ab.of s3) (M7.up s3) dw⟩⟩
theorem _root_.ZQ.NW(h:Co X op o)(ha:ZQ.H_ X H0 ms as a fa)(hb:ZQ.H_ X H0 ms as b fb)(hm:behindInMarks op b=AT):ZQ.H_ X H0 ms as (.Compare a [op] [b] pos) (Z.mB o fa fb):=
 ⟨let ⟨_,hr,hz⟩:=h.ex;PE.imp (E7 hr ha.p hb.p hm) (abf hz)⟩
theorem _root_.ZQ.SJ(h:ZQ.H_ X H0 ms as a fa):ZQ.H_ X H0 ms as (.BoolOp op [a] pos) fa:=⟨Jx h.p⟩
theorem _root_.ZQ.SK{rest:γ ι}(ha:ZQ.H_ X H0 ms as a fa)(hb:ZQ.H_ X H0 ms as (.BoolOp .And (b::rest) pos) fb):ZQ.H_ X H0 ms as (.BoolOp .And (a::b::rest) pos) (Z.N0 fa fb):=⟨PE.imp (JB ha.p hb.p) λ σ H Q ⟨ρ,d,ρ',rm,e,k⟩=>by
 obtain⟨⟨x,ρ1⟩,ea,e⟩:=bd e;refine⟨ρ,x,ρ1,rm,ea,λ v H1 m1 AZ d1=>?_⟩;dsimp only at e;split at e
 .rename_i q;simp only[Den]at d1;refine⟨q,d1,?_⟩;cases q with
  |true=>simp only[A25]at e ⊢;exact⟨ρ1,d,ρ',AZ,e,λ w H' m2 M7 dw=>k w H' (m1.trans m2) M7 dw⟩
  |false=>simp only[A43]at e ⊢;cases e;exact k _ H1 m1 AZ c!
 .cases e⟩
theorem _root_.ZQ.NO(h:ZQ.QT X e t):ZQ.QMT X H0 ms as e (Z.GW t):=⟨PT.imp h.p λ σ H Q ⟨ρ,d,ρ',rm,e,k⟩=>by obtain⟨x,ea,e⟩:=bd e;cases e;exact⟨ρ,d,rm.rs.re,ea,λ H1 s1=>k H1 (Ab.of s1)<|rm.up s1⟩⟩
end
section
variable{K:Do}
end
section
variable{st:θ}
theorem _root_.ZQ.zg:ZQ.z? X H0 ms as [] Z.rX:=⟨sr.imp E1 λ D σ H ⟨ρ,fl,rm,e,k⟩=>by cases e;exact k σ H (iQ.refl H) rm⟩
theorem _root_.ZQ.SI:ZQ.Q1 X H0 ms as st (λ _=>.bad):=⟨λ _ _ _ _ _ _ ⟨_,_,_,e,_⟩=>nomatch e⟩
theorem _root_.ZQ.zj(h:ZQ.H_ X H0 ms as a fa)(hs:swapsWith a Ch pos.line X.env=pure AT:=by rfl):ZQ.Q1 X H0 ms as (.Expr a pos) (Z.rY fa):=⟨PS.imp (pI h.p hs) λ D σ H ⟨ρ,fl,rm,e,k⟩=>by obtain⟨⟨d,ρ'⟩,ea,e⟩:=bd e;cases e;exact⟨ρ,d,ρ',rm,ea,λ v H' m AZ dv=>k σ H' (rm.l! m) AZ⟩⟩
theorem _root_.ZQ.J5(h:ZQ.H_ X H0 ms as a fa):ZQ.Q1 X H0 ms as (.Return (AC a) pos) (Z.G3 ms fa):=⟨PS.imp (C4 h.p) λ D σ H ⟨ρ,fl,rm,e,k⟩=>by obtain⟨⟨d,ρ'⟩,ea,e⟩:=bd e;cases e;exact⟨ρ,d,ρ',rm,ea,λ v H' m AZ dv=>k v H' AZ.same AZ._0 dv⟩⟩
theorem _root_.ZQ.Fc(hc:ZQ.QMT X H0 ms as c t)(h1:ZQ.z? X H0 ms as b1 g)(h2:ZQ.z? X H0 ms as b2 u):ZQ.Q1 X H0 ms as (.If c b1 b2 pos) (Z.qP t g u):=⟨PS.imp (Js hc.p h1.p h2.p) λ D σ H ⟨ρ,fl,rm,e,k⟩=>by
 obtain⟨⟨x,ρ1⟩,ea,e⟩:=bd e;refine⟨ρ,x,ρ1,rm,ea,λ H1 m1 AZ=>?_⟩;dsimp only at e;cases x with
 |true=>simp only[A25]at e ⊢;exact⟨ρ1,fl,AZ,e,k.up<|rm.l! m1⟩
 |false=>simp only[A43]at e ⊢;exact⟨ρ1,fl,AZ,e,k.up<|rm.l! m1⟩⟩
theorem _root_.ZQ.Ho{rest:γ θ}(C:HP X.prog X.w X.K X.mg X.base k ps n fn)(hr:bB (k+1) X.A)(hg:Gl X "Desk")(hN:X.N.Nodup)(hi:X.N[i]?=AC y)(hy:Loc X.env.scope y)
 (he:ZQ.QE X e fe) (Kz:∀H1 as,ZQ.z? X H1 [i] as rest r) (hs:swapsWith (.Call (.Name "Desk" p1) [e] [] tq) (AC<|.Name y pos') pos.line X.env=pure AT:=by rfl) (hf:X.fn y=Da\/X.env.scope.names.lookup y=AC .local:=by first| exact .inl rfl| exact .inr rfl| assumption)
 (h1:Se e [] X.env:=by rfl) (dX:Pn tq [] X.env:=by rfl) :
 ZQ.z! X H0 (.Assign [.Name y pos'] (.Call (.Name "Desk" p1) [e] [] tq) pos::rest) (Z.uA i fn fe r):=⟨by
 have Kz:=λ H1 as=>(Kz H1 as).p;obtain⟨C,f,fd,hC,M,F,hb⟩:=C.ex;intro χ s σ H D I w;have hm:=A12 (mg:=X.mg) (h:=s.heap) I.nM (I.mod.glob.keeps I.bk) hC.1;have hR:sr X rest (λ D σ H=>∃H1 as,tM X.K H1 [i] as r D σ H):=λ χ s σ H D I ⟨H1,as,w⟩=>Kz H1 as χ s σ H D I w;obtain⟨ρ,fl,rs,e,k⟩:=w;obtain⟨d,ed,e⟩:=bd e;obtain⟨fs,ef,e⟩:=bd e;obtain⟨OG,e⟩:=Z.cX e;have ef:=Z.J' ef;obtain⟨dr,rfl,er⟩:=Z.Pw e;have Hb:i<ρ.length:=by rw[rs.re.len,I.len];exact(A10.mp hi).1
 refine ma (qG hN hi hy (Nc M F hr hg hm hb .nil uE (a7 he.p b9 h1) (by decide +kernel) h1 dX) hs hf) hR χ s σ H D I ?_;refine⟨ρ,d,rs.re,ed,λ v H1 s1 dv x dx hx hdx ne=>?_⟩;have sm:=G1 (C:=C) hx hdx;refine⟨[Z.ib x 0 [] [],d],[x],.non,[Z.ib x 0 Z.dg fs],⟨_,_,rfl,NS hC,_,_,rfl,Den.up dv sm,rfl⟩,by simp,.cons ⟨0,[],[],rfl⟩ .nil,⟨λ _=>by simp,λ z=>z.elim,zc _ _⟩,ef x,λ v' H' s2 th dn=>?_⟩;refine⟨by simpa only[Den]using dn,?_⟩;have nx:H x=Ch:=by
  cases q:H x with
  |none=>rfl
  |some o=>rw[s1 _ _ q]at hx;cases hx
 have s3:aI H H':=λ b o q=>s2 b o (by have hb:b≠x:=bq q nx;show(if b∈[x]then Ch else _)=_;rw[v6 (by simpa using hb)];exact sm _ _<|s1 _ _ q)
 have n0:H0 x=Ch:=by
  cases e:H0 x with
  |none=>rfl
  |some o=>rw[rs.same _ _ e]at nx;cases nx
 cases th with
 |cons r0 _=>
  obtain⟨kd,ks,vs,u,e1,hu,t⟩:=r0;obtain⟨_,rfl,rfl,rfl⟩:=pz e1;have rs2:=rs.AV (i:=i) nx s3 hu t Hb;have hov:over H0 H' [x]=upd H0 x u:=by
   funext b
   by_cases hb:b=x
   .subst hb;rw[dA (by simp),aV];exact hu
   .rw[dR (by simpa using hb),aD hb]
  have rm:RM X.K H0 [i] [x] H' (σ.set i<|some<|.ref x) (ρ.set i<|some<|.bor<|Z.ib x 0 Z.dg fs):=by
   refine⟨by rw[hov];exact rs2,.cons ⟨0,Z.dg,fs,A30 Hb⟩ .nil,uT λ j y e t=>?_,by simp,λ a ha=>by rw[A15.mp ha];exact n0⟩;by_cases wc:i=j
   .subst wc;simp
   .rw[A26 wc]at e;have:=i? OG (i:=j) (x:=y) (by rw[A26 wc];exact e) t;exact this
  have er:=er x;obtain⟨fl2,e3,er⟩:=bd er;cases fl2 with
  |nx ρ'=>cases er
  |rt d2 ts=>cases er;exact⟨H0,[x],_,.rt dr ts,rm,e3,λ v Q4 s4 _ d4=>k v Q4 s4 d4⟩⟩
end
theorem EG{K:Frag}(h:(⟨c.toArray⟩)=x)(w:nsIn K mainGlobals x=AC (AC<|.ref C))(q:Cp K C=Da):XC K c C:=⟨by rw[h];exact w,q⟩
theorem bZ{K:Frag}(h:(⟨c.toArray⟩)=x)(w:nsIn K mainGlobals x=AC (AC<|.ref C))(k:tF K C)(q:kitOne K (.ref C) cv=AC b):mL K c cv b:=⟨C,by rw[h];exact w,k,q⟩
end ZS
namespace ZQ
open L2 ZS PySem.W
section
variable{K:Do}
theorem qh{st:θ}(nR:bs.length=ps.length)(d:Ac K m qual st ps)(hb:∀{f}{a!}{A}{outer}{s}{H H0}{as}{E},N.Nodup->(A.deeper<|envOfC qual (ah st) s.heap.objs.size f a!).units+64<cLine->bB k (A.deeper<|envOfC qual (ah st) s.heap.objs.size f a!)->z? (dO jn P w K mg base N qual (ah st) f a! A outer s H E).f_ H0 (Z.jY 0 bs) as (aM st) b)(S:a_ N ps (ah st):=by exact ZS.K0):nY P w K mg base m (k+1) ps bs N.length (Z.D4 (Z.jY 0 bs) bs N.length b):=nY.mk' nR d S λ f a! A outer s H H0 as E hr=>(hb S.nd hr.units hr).p
end
end ZQ
namespace Z
def lV(l:γ (γ Nat×Bool))(c:γ Nat):ε Bool:=l.lookup c
end Z
namespace ZS
open L2 PySem.W
def PZ:ζ->ε (γ Nat)
|.str ⟨cs⟩ _=>AC cs.toList
|_=>Ch
def yF:γ ζ->ε (γ<|γ Nat)
|[]=>AC []
|u::us=>match PZ u,yF us with
 |some c,AC r=>AC<|c::r
 |_,_=>Ch
def MG(K:Frag)(a:δ):ε (γ<|γ Nat):=match K.lookup a with
|some o=>match o.cls==.type "tuple" && o.dict.isNone&&o.slots.isEmpty,o.data with
 |true,.seq bx _=>if bx.size<=1000 then yF bx.toList else Ch
 |_,_=>Ch
|none=>Ch
theorem EK:∀{us}{ts},yF us=AC ts->Vals (ts.map λ cs=>V.str ⟨cs.toArray⟩) us
|[],ts,h=>by cases h;exact .nil
|u::us,ts,h=>by
 unfold yF at h;split at h
 .rename_i c r e1 e2;cases h;refine .cons ?_<|EK e2;unfold PZ at e1;split at e1
  .rename_i cs t;cases e1;exact⟨t,by simp⟩
  .cases e1
 .cases h
theorem Lo{K:Frag}(h:MG K a=AC ts):Den K H (.tup<|ts.map .str) (.ref a):=by
 unfold MG at h;split at h
 .rename_i o e;split at h
  .rename_i bx n e1 e2;split at h
   .rename_i hz;simp only[A35,A32]at e1;have z1:=Option.isNone_iff_eq_none.mp e1.1.2;have z2:=Array.isEmpty_iff.mp e1.2;have dd:∀l:γ _,aG K H (l.map .str) (l.map λ cs=>V.str ⟨cs.toArray⟩):=by
     intro l
     induction l with
     |nil=>simp[aG]
     |cons c l ih=>simp only[A06];exact⟨_,_,rfl,dI,ih⟩
    simp only[Den];refine⟨a,_,rfl,.inr ⟨o,bx,n,e,e1.1.1,by first|exact e2|exact⟨e2,z1,z2⟩,A23 hz (by decide),EK h⟩,dd ts⟩
   .cases h
  .cases h
 .cases h
theorem _root_.ZQ.vK(hg:Gl X x)(hm:X.mg x=AC (.ref a))(hk:MG X.K a=AC ts)(hb:(x==("__debug__"))=AT:=by decide +kernel):ZQ.QE X (.Name x pos) (Z.eC<|.tup<|ts.map .str):=⟨Ec (tQ (v:=.ref a) hg hm rfl hb) λ _=>Lo hk⟩
theorem _root_.ZQ.Ie{st:θ}(d:Ac X.K m qual st ps)(ho:ZQ.QM X 0 o fo)(hf:(Z.dg.map λ c=>(⟨c.toArray⟩)).contains m=AT)(ha:ZQ.QXA X (e::es) f)
 (vk:Se e es X.env:=by rfl) (dX:Pn pos es X.env:=by rfl)
 (ht:eval (.Call (.Attribute o m apos) (e::es) [] pos) X.env=(do
  let ov ←eval o X.env
  standAt apos.atName
  let (f,first) ←holding [ov] (getMethod ov m pl)
  callWith pos f first (backTo pos<|starEach (e::es) X.env) (backToKw pos<|keywordEach [] X.env)):=by rfl) :
 ZQ.LX X (.Call (.Attribute o m apos) (e::es) [] pos) (Z.Q_ fo f):=⟨by
 obtain⟨C,g,fd,hC,hm,F,hb⟩:=d.ex;intro χ s σ H Q I h;obtain⟨ρ,c,re,ec,kw⟩:=h;unfold Z.Q_ at ec;split at ec
 .rename_i x ex;refine B39 (cS (ho.p χ s σ H (λ v H1=>aI H H1/\Pz X.K H1 0 x v) I ⟨ρ,x,re,ex,λ v H1 s1 d1=>⟨s1,d1⟩⟩) λ u s1 ⟨v,H1,I1,rx,sm,d1⟩=>?_) ht;obtain⟨a,ks,ds,u',rfl,rfl,q,t⟩:=id d1;obtain rfl:u=Value.ref a:=rx;rcases t with⟨_,hk,C',dx,fs,rfl,OM,h3,h4⟩|⟨z,_⟩
  .have:=OM.1.symm.trans hC.1;cases this;rw[hk]at h3;refine lr I1 q hC.2 hm (kH h3 hf) ?_;exact A86 I.ok.mod.HU hm.kp (cS (ha.p pos χ s1 σ H1 (λ _ _=>False) I1 ⟨ρ,c,re.up sm,ec,kw.up sm⟩) λ us s2 ⟨vs,H2,_,_,q⟩=>q.elim) vk dX
  .cases z
 .cases ec⟩
section
variable{X:Cx}
def v7(K:Frag)(l:γ (γ Nat×Bool))(cv:ζ):Prop:=∀p∈l,mL K p.1 cv p.2
theorem v7.nil{K:Frag}:v7 K [] cv:=λ _ h=>nomatch h
theorem v7.cons{K:Frag}{cv:ζ}{c:γ Nat}{b:Bool}{l:γ _}(h:mL K c cv b)(t:v7 K l cv):v7 K ((c,b)::l) cv:=λ p hp=>by
 rcases o0.mp hp with rfl|hp
 .exact h
 .exact t p hp
theorem v7.at{K:Frag}:∀{l}{c}{b},v7 K l cv->Z.lV l c=AC b->mL K c cv b
|[],_,_,_,e=>nomatch e
|p::l,c,b,h,e=>by
 unfold Z.lV at e;rw[A91]at e;split at e
 .rename_i q;cases e;have:c=p.1:=by simpa using q
  rw[this];exact h p A22
 .exact v7.at (λ x hx=>h x<|A07 _ hx) e
theorem Bx(hK:v7 X.K l cv):∀σ H Q,tZ X.K (Z.mC i<|Z.lV l) σ H Q ->
 tCB (λ xs H Q=>∃p o u C c b,xs=[.ref p,cV]/\H p=AC (.dZ o u)/\o.cls=.ref C/\(∃vs,o.data=.fields vs)/\o8 X.K H c C o.dict/\tF X.K C/\kitOne X.K (.ref C) cv=AC b/\Q (.bl b) H) (AM (l7 i)<|AM (tC cV) IQ) σ H Q:=λ σ H Q ⟨ρ,d,r,e,k⟩=>by
 unfold Z.mC at e;split at e
 .rename_i c hi;split at e
  .rename_i b' eb;cases e;obtain⟨v,hv,p,o,u,C,rfl,h1,h2,h3,h4⟩:=r.get i _ hi;obtain⟨k1,k2⟩:=Tb (hK.at eb) (f8 rfl) h4.1;exact⟨_,hv,p,o,u,C,c,b',rfl,h1,h2,h3,h4,k1,k2,k _ H (aI.refl H) c!⟩
  .cases e
 .cases e
theorem _root_.ZQ.g_(hg:Gl X x)(hm:X.mg x=Ch)(hv:bootBuiltins x=AC (.builtin "isinstance"))(ha:PE X a (l7 i))(hgy:Gl X y)(hmy:X.mg y=AC (.ref D))(hK:v7 X.K l (.ref D))
 (hn:x≠ "__name__":=by decide +kernel) (ir:(x==("__debug__"))=AT:=by decide +kernel) (hdy:(y==("__debug__"))=AT:=by decide +kernel)
 (he:starEach (a::[.Name y p2]) X.env=(AT,eval a X.env)::starEach [.Name y p2] X.env:=by rfl) (dX:(backTo pos<|starEach [.Name y p2] X.env).any (·.1)=AT:=by rfl) (Mg:starEach ((.Name y p2)::[]) X.env=(AT,eval (.Name y p2) X.env)::starEach [] X.env:=by rfl) :
 ZQ.QE X (.Call (.Name x p1) [a,.Name y p2] [] pos) (Z.mC i<|Z.lV l):=
 ⟨PE.imp (ju (B' (cV:=.ref D) λ u r=>r) hg hm hv (a7 ha (a7 (tQ (v:=.ref D) hgy hmy rfl hdy) b9 Mg) he) hn ir he dX)<|Bx hK⟩
theorem _root_.ZQ.Ls(hg:Gl X x)(hm:X.mg x=Ch)(hv:bootBuiltins x=AC (.builtin "isinstance"))(ha:PE X a (l7 i))(hgy:Gl X y)(hmy:X.mg y=Ch)(hvy:bootBuiltins y=AC (.type T))(hK:v7 X.K l (.type T))
 (hn:x≠ "__name__":=by decide +kernel) (ir:(x==("__debug__"))=AT:=by decide +kernel) (hny:y≠ "__name__":=by decide +kernel) (hdy:(y==("__debug__"))=AT:=by decide +kernel)
 (he:starEach (a::[.Name y p2]) X.env=(AT,eval a X.env)::starEach [.Name y p2] X.env:=by rfl) (dX:(backTo pos<|starEach [.Name y p2] X.env).any (·.1)=AT:=by rfl) (Mg:starEach ((.Name y p2)::[]) X.env=(AT,eval (.Name y p2) X.env)::starEach [] X.env:=by rfl) :
 ZQ.QE X (.Call (.Name x p1) [a,.Name y p2] [] pos) (Z.mC i<|Z.lV l):=
 ⟨PE.imp (ju (B' (cV:=.ty T) λ u r=>r) hg hm hv (a7 ha (a7 (E8 (v:=.ty T) hgy hmy hvy rfl hny hdy) b9 Mg) he) hn ir he dX)<|Bx hK⟩
end
end ZS
namespace ZQ
open L2 ZS
end ZQ
namespace Z
def Ok{α:Type}(r:Res α)(Q:α->Prop):Prop:=∃a,r=.ok a/\Q a
theorem Ok.imp(h:Ok r P)(k:∀a,P a->Q a):Ok r Q:=let ⟨a,e,p⟩:=h;⟨a,e,k a p⟩
theorem Ok.eq(h:Ok r λ x=>x=a):r=.ok a:=by obtain⟨x,e,rfl⟩:=h;exact e
@[simp] theorem Q2(a:α)(Q:α->Prop):Ok (.ok a) Q↔Q a:=⟨λ⟨_,e,q⟩=>by cases e;exact q,λ q=>⟨a,rfl,q⟩⟩
@[simp] theorem adz(Q:α->Prop):Ok (.bad) Q↔False:=⟨λ⟨_,e,_⟩=>(by cases e),GM⟩
@[simp] theorem Aa(r:Res α)(f:α->Res β)(Q:β->Prop):Ok (r.bind f) Q↔Ok r λ a=>Ok (f a) Q:=by
 cases r with
 |ok a=>simp
 |bad=>simp
@[simp] theorem adx(r:Res α)(f:α->β)(Q:β->Prop):Ok (r.map f) Q↔Ok r λ a=>Q (f a):=by
 cases r with
 |ok a=>simp
 |bad=>simp
@[simp] theorem Y2(p:Prop)(r:Res α)(Q:α->Prop):Ok (guard p r) Q↔p/\Ok r Q:=by
 constructor
 .rintro⟨a,e,q⟩;obtain⟨h,e⟩:=cX e;exact⟨h,a,e,q⟩
 .rintro⟨h,k⟩;rw[guard_pos h];exact k
@[simp] theorem ady[Decidable c](r r':Res α)(Q:α->Prop):Ok (if c then r else r') Q↔if c then Ok r Q else Ok r' Q:=by split<;>rfl
abbrev v(d:D):ε L:=AC<|.val d
abbrev vi(i:Int):ε L:=AC<|.val<|.int i
abbrev vs(cs:γ Nat):ε L:=AC<|.val<|.str cs
abbrev ow(xs:γ D):ε L:=AC<|.own xs
def YR:ε (ε L)->Res D
|some<|some<|.val d=>.ok d
|some<|some<|.own xs=>.ok<|.lst xs
|some<|some<|.bor<|.lst xs=>.ok<|.lst xs
|_=>.bad
def asV:ε (ε L)->Res D
|some<|some<|.val d=>.ok d
|_=>.bad
@[simp] theorem acV(i:Nat)(ρ:Env):eW i ρ=YR ρ[i]?:=by
 unfold eW YR;cases ρ[i]? with
 |none=>rfl
 |some o=>cases o with
  |none=>rfl
  |some l=>cases l<;>rfl
@[simp] theorem aij(i:Nat)(ρ:Env):eV i ρ=asV ρ[i]?:=by
 unfold eV asV;cases ρ[i]? with
 |none=>rfl
 |some o=>cases o with
  |none=>rfl
  |some l=>cases l<;>rfl
@[simp] theorem Pr(d:D):YR (AC<|some<|.val d)=.ok d:=rfl
@[simp] theorem Pt(xs:γ D):YR (AC<|some<|.own xs)=.ok (.lst xs):=rfl
@[simp] theorem _M(xs:γ D):YR (AC<|some<|.bor<|.lst xs)=.ok (.lst xs):=rfl
@[simp] theorem _N(d:D):asV (AC<|some<|.val d)=.ok d:=rfl
theorem aJ{b:SF}(h:Ok (b ρ) λ fl=>bH (.ok fl)=.ok d):bH (b ρ)=.ok d:=by obtain⟨fl,e,q⟩:=h;rw[e,q]
theorem qE{b:SF}(h:Ok (b ρ) λ fl=>Ok (bH<|.ok fl) P):Ok (bH<|b ρ) P:=by obtain⟨fl,e,q⟩:=h;rw[e];exact q
@[simp] theorem ae1(i j:Nat)(a b:D)(ρ:Env):jd [i,j] (.tup [a,b]) ρ=.ok ((ρ.set i<|v a).set j<|v b):=rfl
def YT(i:Nat)(ρ:Env)(d:D):ε (ε L)->Res Fl
|some<|some<|.own xs=>guard (xs.length<line)<|.ok<|.nx<|ρ.set i<|ow<|xs++[d]
|_=>.bad
@[simp] theorem UU(i:Nat)(e:EF)(ρ:Env):i! i e ρ=(e ρ).bind λ d=>YT i ρ d ρ[i]?:=rfl
@[simp] theorem YS(i:Nat)(ρ:Env)(d:D)(xs:γ D):YT i ρ d (AC<|some<|.own xs)=guard (xs.length<line) (.ok<|.nx<|ρ.set i<|ow<|xs++[d]):=rfl
def Yv(i:Nat)(ρ:Env)(ys:γ D):ε (ε L)->Res Fl
|some<|some<|.own xs=>guard (xs.length+ys.length<=line)<|.ok<|.nx<|ρ.set i<|ow<|xs++ys
|_=>.bad
@[simp] theorem aax(i:Nat)(l:LF)(ρ:Env):sG i l ρ=(l ρ).bind λ ys=>Yv i ρ ys ρ[i]?:=rfl
@[simp] theorem Yu(i:Nat)(ρ:Env)(ys xs:γ D):Yv i ρ ys (AC<|some<|.own xs)=guard (xs.length+ys.length<=line) (.ok<|.nx<|ρ.set i<|ow<|xs++ys):=rfl
def K1(i:Nat)(ρ:Env):ε (ε L)->Env
|some<|some<|.own xs=>ρ.set i<|v<|.lst xs
|_=>ρ
@[simp] theorem aav(i:Nat)(a:SF)(ρ:Env):C0 i a ρ=a (K1 i ρ ρ[i]?):=by
 unfold C0 dZ K1;cases ρ[i]? with
 |none=>rfl
 |some o=>cases o with
  |none=>rfl
  |some l=>cases l<;>rfl
@[simp] theorem Yr(i:Nat)(ρ:Env)(xs:γ D):K1 i ρ (AC<|some<|.own xs)=ρ.set i (v<|.lst xs):=rfl
@[simp] theorem Yq(i:Nat)(ρ:Env)(d:D):K1 i ρ (AC<|some<|.val d)=ρ:=rfl
@[simp] theorem Vg(i:Nat)(ρ:Env):K1 i ρ (AC Ch)=ρ:=rfl
def YI:D->D->Res (γ D)
|.lst xs,.lst ys=>guard (xs.length+ys.length<=line)<|.ok<|xs++ys
|_,_=>.bad
theorem oE(a b:EF)(ρ:Env):kh a b ρ=(a ρ).bind λ x=>(b ρ).bind λ y=>YI x y:=rfl
@[simp] theorem YH(xs ys:γ D):YI (.lst xs) (.lst ys)=guard (xs.length+ys.length<=line) (.ok<|xs++ys):=rfl
def slK(l h:ε Int):D->Res (γ D)
|.lst xs=>.ok<|cut xs l h
|_=>.bad
theorem Kk(a:EF)(lo hi:PF)(ρ:Env):N_ a lo hi ρ=(a ρ).bind λ x=>(lo ρ).bind λ l=>(hi ρ).bind λ h=>slK l h x:=rfl
@[simp] theorem Zr(l h:ε Int)(xs:γ D):slK l h (.lst xs)=.ok (cut xs l h):=rfl
@[simp] theorem ZO(xs:γ D)(l h:ε Int):WH (.tup xs) l h=.ok (.tup<|cut xs l h):=rfl
@[simp] theorem WG(cs:γ Nat)(l h:ε Int):WH (.str cs) l h=guard (cs.length<=line) (.ok<|.str<|cut cs l h):=rfl
@[simp] theorem GK(a b:γ Nat):aU (.str a) (.str b)=guard (a.length+b.length<=line) (.ok<|.str<|a++b):=rfl
@[simp] theorem U4(a b:γ D):aU (.tup a) (.tup b)=guard (a.length+b.length<=line) (.ok<|.tup<|a++b):=rfl
@[simp] theorem JQ(a:Int):Ba (.int a)=.ok (.int<|-a):=rfl
@[simp] theorem W3:qL .non=.ok (.bl Da):=rfl
@[simp] theorem W2(xs:γ D):qL (.tup xs)=.ok (.bl AT):=rfl
@[simp] theorem U3:xD .non=.ok (.bl AT):=rfl
@[simp] theorem U2(xs:γ D):xD (.tup xs)=.ok (.bl Da):=rfl
theorem jx(a b:Nat)(hb:b<=1000000)(ha:a<18446744073709551616):uN (.int<|a) (.int<|b)=.ok (.int<|(a^b:Nat)):=by
 have h:(0:Int)<=b/\(b:Int)<=1000000/\(a:Int).natAbs<2^64:=⟨by lia,by lia,by rw[Int.natAbs_natCast];exact ha⟩
 show guard _ _=_;rw[guard_pos h,B23,Int.natCast_pow]
@[simp] theorem aaP:uN (.int 10) (.int 60)=.ok (.int 1000000000000000000000000000000000000000000000000000000000000):=jx 10 60 (by decide) (by decide)
@[simp] theorem aaQ:uN (.int 10) (.int 59)=.ok (.int 100000000000000000000000000000000000000000000000000000000000):=jx 10 59 (by decide) (by decide)
@[simp] theorem aaR:uN (.int 10) (.int 55)=.ok (.int 10000000000000000000000000000000000000000000000000000000):=jx 10 55 (by decide) (by decide)
@[simp] theorem aaS:uN (.int 10) (.int 50)=.ok (.int 100000000000000000000000000000000000000000000000000):=jx 10 50 (by decide) (by decide)
@[simp] theorem ZM:uN (.int 7919) (.int 9)=.ok (.int 122470950010456506152021579891552879):=jx 7919 9 (by decide) (by decide)
def atK:ε D->Res D
|some d=>.ok d
|none=>.bad
@[simp] theorem YQ(d:D):atK (AC d)=.ok d:=rfl
theorem Nz(xs:γ D)(i:Int):aT (.tup xs) (.int i)=atK ((wb xs.length i).bind λ j=>xs[j]?):=by show(match (wb _ i).bind λ j=>xs[j]? with|some v=>Res.ok v|none=>.bad)=_;cases (wb _ i).bind λ j=>xs[j]?<;>rfl
theorem NA(xs:γ D)(i:Int):aT (.lst xs) (.int i)=atK ((wb xs.length i).bind λ j=>xs[j]?):=by show(match (wb _ i).bind λ j=>xs[j]? with|some v=>Res.ok v|none=>.bad)=_;cases (wb _ i).bind λ j=>xs[j]?<;>rfl
theorem ij{i:Int}{j:Nat}(h:i=j)(e:xs[j]?=AC d):aT (.tup xs) (.int i)=.ok d/\aT (.lst xs) (.int i)=.ok d:=by
 subst h;have hj:=(A10.mp e).1;have:wb xs.length (j)=AC j:=by simp[wb,hj]
 rw[Nz,NA,this];simp[e]
theorem u?{i:Int}{j c:Nat}(h:i=j)(e:cs[j]?=AC c)(hl:cs.length<=line):aT (.str cs) (.int i)=.ok (.str [c]):=by
 subst h;have hj:=(A10.mp e).1;have:wb cs.length (j)=AC j:=by simp[wb,hj]
 show guard _ _=_;rw[guard_pos hl,this];simp[e]
theorem jb(h0:0<=i)(h1:i<xs.length):∃d∈xs,aT (.lst xs) (.int i)=.ok d/\aT (.tup xs) (.int i)=.ok d:=by
 have hj:i.toNat<xs.length:=by lia
 refine⟨xs[i.toNat],A89 hj,?_⟩;have:=ij (i:=i) (by lia)<|A01 hj;exact⟨this.2,this.1⟩
def turn(I:Env->Prop)(Q:Fl->Prop):Fl->Prop
|.nx ρ=>I ρ
|.ct ρ=>I ρ
|.bk ρ=>Q<|.nx ρ
|.rt d=>Q<|.rt d
@[simp] theorem kT(I:Env->Prop)(Q:Fl->Prop)(ρ:Env):turn I Q (.nx ρ)↔I ρ:=Iff.rfl
@[simp] theorem Zg(I:Env->Prop)(Q:Fl->Prop)(ρ:Env):turn I Q (.ct ρ)↔I ρ:=Iff.rfl
@[simp] theorem Zh(I:Env->Prop)(Q:Fl->Prop)(ρ:Env):turn I Q (.bk ρ)↔Q (.nx ρ):=Iff.rfl
@[simp] theorem Zf(I:Env->Prop)(Q:Fl->Prop)(d:D):turn I Q (.rt d)↔Q (.rt d):=Iff.rfl
theorem K3(I:Nat->Env->Prop):∀ds ρ i,I i ρ->(∀j d ρ,ds[j]?=AC d->I (i+j) ρ->Ok (g d ρ) λ ρ1=>Ok (b ρ1) (turn (I<|i+j+1) Q))->(∀ρ,I (i+ds.length) ρ->Q (.nx ρ))->Ok (gP g b ds ρ) Q
|[],ρ,i,h,_,e=>by simpa[gP]using e ρ h
|d::ds,ρ,i,h,k,e=>by
 obtain⟨ρ1,e1,fl,e2,t⟩:=k 0 d ρ rfl h;have ih:=λ ρ' (h')=>K3 I ds ρ' (i+1) h' (λ j x ρ hj hP=>by have:=k (j+1) x ρ (by simpa using hj) (by simpa[C07,B12 1 j]using hP);simpa[C07,B12 1 j]using this) λ ρ hP=>e ρ (by simpa[C07,B12 1]using hP)
 unfold gP;rw[e1,Res.fB,e2,Res.fB];cases fl with
 |nx ρ'=>exact ih ρ' (by simpa using t)
 |ct ρ'=>exact ih ρ' (by simpa using t)
 |bk ρ'=>simpa using t
 |rt d=>simpa using t
theorem iV(I:Nat->Env->Prop)(h0:I 0 ρ)(hs:∀j d ρ,ds[j]?=AC d->I j ρ->Ok (g d ρ) λ ρ1=>Ok (b ρ1) (turn (I<|j+1) Q))(he:∀ρ,I ds.length ρ->Q (.nx ρ)):Ok (gP g b ds ρ) Q:=
 K3 I ds ρ 0 h0 (λ j d ρ hd hI=>by rw[B24]at hI ⊢;exact hs j d ρ hd hI) λ ρ h=>he ρ (by rwa [B24]at h)
theorem OO(I:Env->Prop)(h0:I ρ)(hs:∀d∈ds,∀ρ,I ρ->Ok (g d ρ) λ ρ1=>Ok (b ρ1) (turn I Q))(he:∀ρ,I ρ->Q (.nx ρ)):Ok (gP g b ds ρ) Q:=
 iV (λ _=>I) h0 (λ j d ρ hd hI=>hs d (A33 hd) ρ hI) he
theorem Pb(p:D->Bool)(h:D->D)(hs:∀d∈ds,Ok (g d ρ) λ ρ1=>Ok (t ρ1) λ c=>c=p d/\(p d=Da->Ok (e ρ1) λ y=>y=h d))(hq:Q ((ds.filter p).map h)):Ok (bU g t e ρ ds) Q:=by refine⟨_,nV ds λ d hd=>?_,hq⟩;obtain⟨ρ1,e1,c,e2,hc,k⟩:=hs d hd;exact⟨ρ1,e1,by rw[e2,hc],λ hp=>(k hp).eq⟩
theorem comp_map(h:D->D)(hs:∀d∈ds,Ok (g d ρ) λ ρ1=>Ok (e ρ1) λ y=>y=h d)(hq:Q (ds.map h)):Ok (bU g cy e ρ ds) Q:=by refine⟨_,vM ds λ d hd=>?_,hq⟩;obtain⟨ρ1,e1,k⟩:=hs d hd;rw[e1];exact k.eq
theorem cL{α:Type}(enc:α->D)(f:α->Bool)(h:α->D):∀{xs:γ α}{Q},(∀x∈xs,Ok (g (enc x) ρ) λ ρ1=>Ok (t ρ1) λ c=>c=f x/\(f x=Da->Ok (e ρ1) λ y=>y=h x))->Q ((xs.filter f).map h)->Ok (bU g t e ρ<|xs.map enc) Q:=by
 intro xs Q hs hq;refine⟨_,?_,hq⟩;clear hq
 induction xs with
 |nil=>rfl
 |cons x xs ih=>
  obtain⟨ρ1,e1,c,e2,hc,k⟩:=hs x A22;have ih':=ih λ y hy=>hs y<|A07 _ hy;cases hf:f x with
  |true=>rw[hf]at hc;have:=(k hf).eq;simp[bU,e1,e2,hc,this,ih',hf]
  |false=>rw[hf]at hc;simp[bU,e1,e2,hc,ih',hf]
theorem rH{α:Type}[DecidableEq α]{h:α->D}(k:∀x y,f (h x) (h y)=AC (decide<|x=y)):∀(xs ys:γ α),allEq f (xs.map h) (ys.map h)=AC (decide<|xs=ys)
|[],[]=>rfl
|[],_::_=>rfl
|_::_,[]=>rfl
|x::xs,y::ys=>by simp[allEq,k,rH k xs ys]
end Z
end S0
open ZS renaming ck→ce,iG→dL,mL→io,bZ→jp,o?→li,gH→lv,tu→pc,lW→sK,h_→wP,Mm→wT,zS→wf,Eg→wv,tJ→xz,mM→AAA,kK→AAB,nY→AAC
local macro_rules
| `(tactic|trivial)=>`(tactic|first|exact AE2 rfl|exact bi rfl)
open ZS (Fl)
set_option maxRecDepth 4000
namespace KA
open Z
def fu:SF:=(aY<|vG (eB oEq (eU dM<|eW 0)<|eC<|.int 1)<|iA oLe oLe (eC<|.str [97]) (eW 0)<|eC<|.str [122])
def cN:γ D->Res D:=fn 1 1 fu
theorem lC(x0:D):cN [x0]=bH (fu [AC (.val x0)]):=cC _ _ _ _ rfl
def jm:SF:=(aY<|QF (eB Dj (eW 0)<|cZ<|aa (eC<|.str [46])<|aa (eC<|.str [61])<|aa (eC<|.str [35]) az)<|aA cN<|aa (eV 0) az)
def jG:γ D->Res D:=fn 1 1 jm
theorem D7(x0:D):jG [x0]=bH (jm [AC (.val x0)]):=cC _ _ _ _ rfl
def ft:SF:=(aN (fA (Ag (fz<|tE<|eU (ig .str)<|eW 0)<|fz<|tE<|iA oLe oLe (eC<|.int 1) (eU dM<|eW 0)<|eC<|.int 12) (aY<|eC<|.bl AT) a5)<|aY<|eU fP<|eL<|cP (gi<|eW 0) 1 [] (bf 0) cy<|aA jG<|aa (eV 0) az)
def jk:γ D->Res D:=fn 1 1 ft
theorem iy(x0:D):jk [x0]=bH (ft [AC (.val x0)]):=cC _ _ _ _ rfl
def dm:SF:=(aN (fA (Ag (fz<|tE<|eU (ig .tuple)<|eW 0)<|fz<|tE<|iA oLe oLe (eC<|.int 1) (eU dM<|eW 0)<|eC<|.int 6) (aY<|eC<|.bl AT) a5)<|aN (fA (fz<|tE<|eU fP<|eL<|cP (gi<|eW 0) 1 [] (bf 0) cy<|aA jk<|aa (eV 0) az) (aY<|eC<|.bl AT) a5)<|aY<|eU fP<|eL<|cP (gi<|eW 0) 1 [0] (bf 0) cy<|eB oEq (eU dM<|eW 0)<|eU dM<|eB aT (eW 1)<|eC<|.int 0)
def jH:γ D->Res D:=fn 1 1 dm
theorem gq(x0:D):jH [x0]=bH (dm [AC (.val x0)]):=cC _ _ _ _ rfl
def cx:SF:=(aN (fA (tE<|eB oLt (eW 1)<|eU dM<|eW 0) (aY<|eB aT (eW 0)<|eW 1) a5)<|aY<|eC<|.int 0)
def bh:γ D->Res D:=fn 2 2 cx
def cQ:SF:=(aN (fA (tE<|eB oEq (eB oMod (eB oDiv (eW 0)<|eC<|.int 1000003)<|eC<|.int 2)<|eC<|.int 1) (aY<|eB oMod (eB WJ (eB oDiv (eW 0)<|eC<|.int 2000006)<|eB jy (eC<|.int 12)<|eW 1)<|eC<|.int 4096) a5)<|aN (a6 2<|eB oMod (eB jy (eB aU (eB aU (eB oMod (eW 0)<|eC<|.int 2147483647)<|eB jy (eB jy (eC<|.int 7919)<|eW 1)<|eW 1)<|eW 1)<|eC<|.int 48271)<|eC<|.int 2147483647)<|aN (a6 2<|eB oMod (eB jy (eW 2)<|eW 2)<|eC<|.int 1000003)<|aY<|eB oMod (eB aU (eB aU (eB jy (eW 2)<|eW 2)<|eB jy (eC<|.int 69621)<|eW 2)<|eW 1)<|eC<|.int 998244353)
def cM:γ D->Res D:=fn 2 3 cQ
def dP:SF:=(aN (a6 1<|eC<|.str a9)<|aY<|eL<|bC<|aa (eB aT (eW 1)<|eB oMod (eB oDiv (eW 0)<|eC<|.int 100)<|eC<|.int 26)<|aa (eB aT (eW 1)<|eB oMod (eB oDiv (eW 0)<|eC<|.int 2600)<|eC<|.int 26) az)
def b?:γ D->Res D:=fn 1 2 dP
def eF:SF:=(aN (a6 4<|eB aU (eC<|.int 1)<|eB oMod (eW 1)<|eW 2)<|aN (a6 5<|eB aU (eC<|.int 1)<|eB oMod (eB oDiv (eW 1)<|eC<|.int 8)<|eW 3)<|aN (a6 6<|eL<|kh (eL<|kh (eL<|bC<|aa (eC<|.str [46])<|aa (eC<|.str [46])<|aa (eC<|.str [61])<|aa (eC<|.str [46]) az)<|aA b?<|aa (eV 1) az)<|eL<|bC<|aa (eC<|.str [35])<|aa (eC<|.str [46]) az)<|aN (a6 7<|aA bh<|aa (eV 0)<|aa (eC<|.int 0) az)<|aN (qC 8<|bC az)<|aN (iR (jC<|eB jy (eW 4)<|eW 5) (bf 9)<|aN (fA (tE<|eB oEq (eB oMod (eW 9)<|eW 5)<|eC<|.int 0) (i! 8<|eC<|.str []) a5)<|aN (a6 10<|eB aT (eW 6)<|eB oMod (aA cM<|aa (aA bh<|aa (eV 0)<|aa (eV 9) az)<|aa (eV 9) az)<|eC<|.int 8)<|aN (fA (tE<|eB oEq (eB oMod (eB oDiv (eW 1)<|eC<|.int 67600)<|eC<|.int 2)<|eC<|.int 1) (aN (a6 10<|eB aT (eC<|.str signs)<|eB oMod (eW 7)<|eC<|.int 29)<|a6 7<|eB oDiv (eW 7)<|eC<|.int 29) a5)<|RN 8 (eU Ba<|eC<|.int 1)<|eB aU (eB aT (eW 8)<|eU Ba<|eC<|.int 1)<|eW 10)<|aY<|eU jw<|eW 8)
end KA
set_option maxRecDepth 8000
namespace KA
open Z
theorem mV(z:Int):∃q∈a9,aT (.str a9) (.int<|z % 26)=.ok (.str [q]):=
 zm (by lia) (by simp[a9];lia) (by decide)
theorem ja(h:q∈a9):q∈signs:=(by decide:∀q∈a9,q∈signs) q h
abbrev Rows:=γ<|γ Nat
structure Hall(R L:Nat)(rows:Rows):Prop where
 r1:1<=R
 r2:R<=6
 l1:1<=L
 l2:L<=12
 len:rows.length=R
 each:∀x∈rows,x.length=L
 sg:∀x∈rows,∀c∈x,c∈signs
noncomputable def Po:SF:=(fA (tE<|eB oEq (eB oMod (eW 9)<|eW 5)<|eC<|.int 0) (i! 8<|eC<|.str []) a5)
noncomputable def LP:SF:=(a6 10<|eB aT (eW 6)<|eB oMod (aA cM<|aa (aA bh<|aa (eV 0)<|aa (eV 9) az)<|aa (eV 9) az)<|eC<|.int 8)
noncomputable def FQ:SF:=(fA (tE<|eB oEq (eB oMod (eB oDiv (eW 1)<|eC<|.int 67600)<|eC<|.int 2)<|eC<|.int 1) (aN (a6 10<|eB aT (eC<|.str signs)<|eB oMod (eW 7)<|eC<|.int 29)<|a6 7<|eB oDiv (eW 7)<|eC<|.int 29) a5)
noncomputable def Uz:SF:=(RN 8 (eU Ba<|eC<|.int 1)<|eB aU (eB aT (eW 8)<|eU Ba<|eC<|.int 1)<|eW 10)
theorem eb:eF=(aN (a6 4<|eB aU (eC<|.int 1)<|eB oMod (eW 1)<|eW 2)<|aN (a6 5<|eB aU (eC<|.int 1)<|eB oMod (eB oDiv (eW 1)<|eC<|.int 8)<|eW 3)<|aN (a6 6<|eL<|kh (eL<|kh (eL<|bC<|aa (eC<|.str [46])<|aa (eC<|.str [46])<|aa (eC<|.str [61])<|aa (eC<|.str [46]) az)<|aA b?<|aa (eV 1) az)<|eL<|bC<|aa (eC<|.str [35])<|aa (eC<|.str [46]) az)<|aN (a6 7<|aA bh<|aa (eV 0)<|aa (eC<|.int 0) az)<|aN (qC 8<|bC az)<|aN (iR (jC<|eB jy (eW 4)<|eW 5) (bf 9)<|aN Po<|aN LP<|aN FQ Uz)<|aY<|eU jw<|eW 8):=rfl
theorem nN(c:Nat):cN [.str [c]]=.ok (.bl<|decide (97<=c)&&decide (c<=122)):=by
 rw[lC];refine aJ ?_;by_cases h1:c<97
 .simp[fu,HS,line,Nat.not_le.mpr h1]
 .by_cases h2:122<c
  .simp[fu,HS,line,h2,B05.mp h1]
  .simp[fu,HS,line,B05.mp h1,B05.mp h2]
theorem GX(c:Nat):decide (c∈signs)=(c==46||c==61||c==35||(decide (97<=c)&&decide (c<=122))):=by
 by_cases h:c<128
 .exact(by decide:∀c<128,decide _=(c==46||c==61||c==35||(decide _&&decide (c<=122)))) c h
 .have h1:c∉signs:=λ m=>h<|(by decide:∀c∈signs,c<128) c m;have h2:¬c<=122:=by lia
  have h3:c≠46:=by lia
  have h4:c≠61:=by lia
  have h5:c≠35:=by lia
  simp[h1,h2,h3,h4,h5]
theorem Bw(c:Nat):jG [.str [c]]=.ok (.bl<|decide<|c∈signs):=by
 rw[D7,GX];refine aJ ?_;have e:=nN c;by_cases h1:c=46
 .subst h1;simp[jm,line,Dj,h!,iW,iz,FF]
 .by_cases h2:c=61
  .subst h2;simp[jm,line,Dj,h!,iW,iz,FF]
  .by_cases h3:c=35
   .subst h3;simp[jm,line,Dj,h!,iW,iz,FF]
   .simp[jm,Dj,h!,iW,iz,FF,e,h1,h2,h3];lia
theorem all_map{α:Type}(f:α->Bool)(xs:γ α):allB (xs.map λ x=>D.bl<|f x)=AC (xs.all f):=by
 have:=z9<|xs.map f;rw[A36]at this;rw[show(xs.map λ x=>D.bl _)=xs.map (D.bl∘f)from rfl,this]
 congr 1
 induction xs with
 |nil=>rfl
 |cons x xs ih=>simp
def Ji(cs:γ Nat):Bool:=decide (1<=cs.length/\cs.length<=12)&&cs.all λ c=>decide (c∈signs)
theorem Jh(cs:γ Nat):Ok (bU (bf 0) cy (aA jG<|aa (eV 0) az) [Ch]<|cs.map λ c=>.str [c]) λ ds=>ds=cs.map λ c=>D.bl (decide<|c∈signs):=
 cL (λ c=>D.str [c]) (λ _=>Da) (λ c=>.bl<|decide<|c∈signs) (λ c _=>by simp[Bw]) (by rw[A68.mpr λ _ _=>rfl])
theorem DQ(cs:γ Nat)(h:cs.length<=1000):jk [.str cs]=.ok (.bl<|Ji cs):=by
 have hl:cs.length<=16777216:=by lia
 rw[iy];refine aJ ?_;unfold Ji;by_cases h1:1<=cs.length
 .by_cases h2:cs.length<=12
  .have e1:(1)<=(cs.length:Int):=by lia
   have e2:(cs.length:Int)<=12:=by lia
   simp[ft,cF,hl,h1,h2,e1,e2,bX];refine(Jh cs).imp ?_;rintro ds rfl;simp[fP,all_map]
  .have e2:¬(cs.length:Int)<=12:=by lia
   simp[ft,cF,hl,h1,h2,e2,line]
 .have e1:¬(1)<=(cs.length:Int):=by lia
  simp[ft,cF,hl,h1,e1,line]
def pG:D->Bool
|.str cs=>Ji cs
|_=>AT
def _U(d:D):Prop:=∀cs,d=.str cs->cs.length<=1000
theorem G9(d:D)(h:_U d):jk [d]=.ok (.bl<|pG d):=by
 cases d with
 |str cs=>exact DQ cs<|h cs rfl
 |non=>rw[iy];exact aJ (by simp[ft,cF,pG])
 |bl _=>rw[iy];exact aJ (by simp[ft,cF,pG])
 |int _=>rw[iy];exact aJ (by simp[ft,cF,pG])
 |tup _=>rw[iy];exact aJ (by simp[ft,cF,pG])
 |lst _=>rw[iy];exact aJ (by simp[ft,cF,pG])
 |dct _ _=>rw[iy];exact aJ (by simp[ft,cF,pG])
def Dx:D->Nat
|.str cs=>cs.length
|_=>0
def BF(xs:γ D):Bool:=decide (1<=xs.length/\xs.length<=6)&&xs.all pG&&xs.all λ d=>Dx d==Dx (xs.headD .non)
def r!:D->Bool
|.tup xs=>BF xs
|_=>AT
theorem DX(xs:γ D)(h:∀d∈xs,_U d):Ok (bU (bf 0) cy (aA jk<|aa (eV 0) az) [Ch] xs) λ ds=>ds=xs.map λ d=>D.bl (pG d):=
 comp_map (λ d=>.bl _) (λ d hd=>by simp[G9 d<|h d hd]) rfl
theorem Fi(h:pG d=Da):dM d=.ok (.int<|Dx d):=by
 cases d with
 |str cs=>
  have:cs.length<=16777216:=by simp only[pG,Ji,A93]at h;lia
  simp[Dx,this]
 |_=>cases h
theorem DV(h:∀d∈xs,pG d=Da):Ok (bU (bf 0) cy (eB oEq (eU dM<|eW 0)<|eU dM<|eB aT (eW 1)<|eC<|.int 0) [Ch,v (.tup xs)] xs) λ ds=>ds=xs.map λ d=>D.bl (Dx d==Dx (xs.headD .non)):=
 comp_map (λ d=>.bl _) (λ d hd=>by
  cases xs with
  |nil=>cases hd
  | cons x xs=>have e0:aT (.tup<|x::xs) (.int 0)=.ok x:=(ij rfl rfl).1;have e1:=Fi<|h d hd;have e2:=Fi<|h x A22;simp[e0,e1,e2];exact A65.mpr (by simp;lia)) rfl
theorem DR(d:D)(h:∀xs,d=.tup xs->xs.length<=1000/\∀x∈xs,_U x):jH [d]=.ok (.bl<|r! d):=by
 cases d with
 |tup xs=>
  obtain⟨h1,h2⟩:=h xs rfl;have hl:xs.length<=16777216:=by lia
  rw[gq];refine aJ ?_;simp only[r!,BF];by_cases q1:1<=xs.length
  .by_cases q2:xs.length<=6
   .have e1:(1)<=(xs.length:Int):=by lia
    have e2:(xs.length:Int)<=6:=by lia
    have c1:=DX xs h2;cases q3:xs.all pG with
    |false=>simp[dm,cF,hl,q1,q2,e1,e2,line,bX,eZ];refine c1.imp ?_;rintro ds rfl;simp[fP,all_map,q3]
    |true=>have q4:=A28.mp q3;have c2:=DV q4;simp[dm,cF,hl,q1,q2,e1,e2,line,bX,eZ];refine c1.imp ?_;rintro ds rfl;simp[fP,all_map,q3];refine c2.imp ?_;rintro ds rfl;simp[fP,all_map]
   .have e2:¬(xs.length:Int)<=6:=by lia
    simp[dm,cF,hl,q1,q2,e2,line]
  .have e1:¬(1)<=(xs.length:Int):=by lia
   simp[dm,cF,hl,q1,e1,line]
 |str _=>rw[gq];exact aJ (by simp[dm,cF,r!])
 |non=>rw[gq];exact aJ (by simp[dm,cF,r!])
 |bl _=>rw[gq];exact aJ (by simp[dm,cF,r!])
 |int _=>rw[gq];exact aJ (by simp[dm,cF,r!])
 |lst _=>rw[gq];exact aJ (by simp[dm,cF,r!])
 |dct _ _=>rw[gq];exact aJ (by simp[dm,cF,r!])
theorem Hall.b{R L:Nat}(H:Hall R L rows):BF (rows.map .str)=Da:=by
 unfold BF;have h1:=H.r1;have h2:=H.r2;have h3:=H.l1;have h4:=H.l2;simp only[A35,A93,A09,H.len,A28];refine⟨⟨⟨h1,h2⟩,λ d hd=>?_⟩,λ d hd=>?_⟩
 .obtain⟨r,hr,rfl⟩:=A18.mp hd;simp only[pG,Ji,A35,A93,A28,H.each r hr];exact⟨⟨h3,h4⟩,H.sg r hr⟩
 .obtain⟨r,hr,rfl⟩:=A18.mp hd;cases rows with
  |nil=>cases hr
  |cons x xs=>simp[Dx,H.each r hr,H.each x _]
end KA
set_option maxRecDepth 4000
namespace KS
open Z KA
def RC:γ Nat:=[48,49,50,51,52,53,54,55,56,57]
def iD:SF:=(aY<|vG (eU (ig .int)<|eW 0)<|La<|eU (ig .bool)<|eW 0)
def fm:γ D->Res D:=fn 1 1 iD
theorem se(x0:D):fm [x0]=bH (iD [AC (.val x0)]):=cC _ _ _ _ rfl
def cb:SF:=(aY<|vG (aA fm<|aa (eV 0) az)<|iA oLe oLe (eW 1) (eW 0)<|eW 2)
def aZ:γ D->Res D:=fn 3 3 cb
theorem jJ(x0 x1 x2:D):aZ [x0,x1,x2]=bH (cb [AC (.val x0),AC (.val x1),AC (.val x2)]):=cC _ _ _ _ rfl
def kO:SF:=(aN (fA (Ag (fz<|tE<|eU (ig .str)<|eW 0)<|fz<|tE<|iA oLe oLe (eC<|.int 1) (eU dM<|eW 0)<|eC<|.int 8) (aY<|eC<|.bl AT) a5)<|aY<|eU fP<|eL<|cP (gi<|eW 0) 1 [] (bf 0) cy<|aA KA.cN<|aa (eV 0) az)
def bT:γ D->Res D:=fn 1 1 kO
theorem D8(x0:D):bT [x0]=bH (kO [AC (.val x0)]):=cC _ _ _ _ rfl
def m7:SF:=(aY<|vG (eU (ig .str)<|eW 0)<|QF (eB oEq (eW 0)<|eC<|.str [])<|aA KA.cN<|aa (eV 0) az)
def lz:γ D->Res D:=fn 1 1 m7
theorem D9(x0:D):lz [x0]=bH (m7 [AC (.val x0)]):=cC _ _ _ _ rfl
def j!:SF:=(aY<|aA aZ<|aa (eV 0)<|aa (eV 1)<|aa (eB GH (eB uN (eC<|.int 10)<|eC<|.int 60)<|eC<|.int 1) az)
def eA:γ D->Res D:=fn 2 2 j!
theorem p?(x0 x1:D):eA [x0,x1]=bH (j! [AC (.val x0),AC (.val x1)]):=cC _ _ _ _ rfl
def m6:SF:=(aN (fA (Ag (fz<|tE<|eU (ig .tuple)<|eW 0)<|tE<|eB pO (eU dM<|eW 0)<|eC<|.int 2) (aY<|eC<|.bl AT) a5)<|aY<|vG (aA aZ<|aa (eB aT (eW 0)<|eC<|.int 0)<|aa (eC<|.int 0)<|aa (eC<|.int 5) az)<|aA eA<|aa (eB aT (eW 0)<|eC<|.int 1)<|aa (eC<|.int 1) az)
def gm:γ D->Res D:=fn 1 1 m6
theorem vE(x0:D):gm [x0]=bH (m6 [AC (.val x0)]):=cC _ _ _ _ rfl
def hZ:SF:=(aN (fA (Ag (fz<|tE<|eU (ig .tuple)<|eW 0)<|fz<|tE<|eU fP<|eL<|cP (gi<|eW 0) 1 [] (bf 0) cy<|aA gm<|aa (eV 0) az) (aY<|eC<|.bl AT) a5)<|aY<|eU fP<|eL<|cP (jC<|eB GH (eU dM<|eW 0)<|eC<|.int 1) 1 [0] (bf 0) cy<|eB oLt (eB aT (eB aT (eW 1)<|eW 0)<|eC<|.int 0)<|eB aT (eB aT (eW 1)<|eB aU (eW 0)<|eC<|.int 1)<|eC<|.int 0)
def fX:γ D->Res D:=fn 1 1 hZ
theorem km(x0:D):fX [x0]=bH (hZ [AC (.val x0)]):=cC _ _ _ _ rfl
def bV:SF:=(aN (fA (fz<|tE<|aA aZ<|aa (eB aT (eW 0)<|eC<|.int 1)<|aa (eC<|.int 1)<|aa (eC<|.int 12) az) (aY<|eC<|.bl AT) a5)<|aN (fA (fz<|tE<|aA aZ<|aa (eB aT (eW 0)<|eC<|.int 2)<|aa (eC<|.int 1)<|aa (eC<|.int 3) az) (aY<|eC<|.bl AT) a5)<|aN (fA (fz<|tE<|aA aZ<|aa (eB aT (eW 0)<|eC<|.int 4)<|aa (eC<|.int 0)<|aa (eB jy (eB aT (eW 0)<|eC<|.int 1)<|eB aT (eW 0)<|eC<|.int 2) az) (aY<|eC<|.bl AT) a5)<|aY<|vG (aA lz<|aa (eB aT (eW 0)<|eC<|.int 3) az)<|aA aZ<|aa (eB aT (eW 0)<|eC<|.int 5)<|aa (eC<|.int 0)<|aa (eC<|.int 6) az)
def dG:γ D->Res D:=fn 1 1 bV
theorem j6(x0:D):dG [x0]=bH (bV [AC (.val x0)]):=cC _ _ _ _ rfl
def gv:SF:=(aN (fA (Ag (fz<|tE<|eU (ig .tuple)<|eW 0)<|tE<|eB pO (eU dM<|eW 0)<|eC<|.int 8) (aY<|eC<|.bl AT) a5)<|aN (fA (Ag (fz<|tE<|aA bT<|aa (eB aT (eW 0)<|eC<|.int 0) az)<|fz<|tE<|aA dG<|aa (eV 0) az) (aY<|eC<|.bl AT) a5)<|aY<|vG (aA eA<|aa (eB aT (eW 0)<|eC<|.int 6)<|aa (eC<|.int 0) az)<|aA fX<|aa (eB aT (eW 0)<|eC<|.int 7) az)
def d7:γ D->Res D:=fn 1 1 gv
theorem sf(x0:D):d7 [x0]=bH (gv [AC (.val x0)]):=cC _ _ _ _ rfl
def lL:SF:=(aN (qC 1<|bC<|aa (eB aT (eW 0)<|eC<|.int 0)<|aa (eB aU (eB aU (eU k9<|eB aT (eW 0)<|eC<|.int 1)<|eC<|.str [120])<|eU k9<|eB aT (eW 0)<|eC<|.int 2) az)<|aN (fA (tE<|eB pO (eB aT (eW 0)<|eC<|.int 3)<|eC<|.str []) (sG 1<|bC<|aa (eC<|.str [107,105,110,100])<|aa (eB aT (eW 0)<|eC<|.int 3) az) a5)<|aN (iR (gi<|cZ<|aa (cZ<|aa (eC<|.str [119,105,100,101])<|aa (eC<|.int 4) az)<|aa (cZ<|aa (eC<|.str [103,97,112])<|aa (eC<|.int 5) az)<|aa (cZ<|aa (eC<|.str [119,111,114,116,104])<|aa (eC<|.int 6) az) az) (jd [2,3])<|fA (tE<|eB Sx (eB aT (eW 0)<|eW 3)<|eC<|.int 0) (sG 1<|bC<|aa (eV 2)<|aa (eU k9<|eB aT (eW 0)<|eW 3) az) a5)<|aN (iR (gi<|eB aT (eW 0)<|eC<|.int 7) (bf 4)<|sG 1<|bC<|aa (eC<|.str [114,111,119])<|aa (eU k9<|eB aT (eW 4)<|eC<|.int 0)<|aa (eU k9<|eB aT (eW 4)<|eC<|.int 1) az)<|aY<|eB mi (eC<|.str [32])<|eW 1)
def fT:γ D->Res D:=fn 1 5 lL
theorem w8(x0:D):fT [x0]=bH (lL [AC (.val x0),Ch,Ch,Ch,Ch]):=cC _ _ _ _ rfl
def gC:SF:=(aN (fA (Ag (fz<|tE<|iA oLe oLe (eC<|.int 1) (eU dM<|eW 0)<|eC<|.int 60)<|fz<|tE<|eU fP<|eL<|cP (gi<|eW 0) 1 [] (bf 0) cy<|eB uO (eW 0)<|eC<|.str RC) (aY<|eC .non) a5)<|aY<|eU Bc<|eW 0)
def bg:γ D->Res D:=fn 1 1 gC
theorem zC(x0:D):bg [x0]=bH (gC [AC (.val x0)]):=cC _ _ _ _ rfl
def mE:SF:=(aY<|eU jw<|eL<|cP (Kw (eC<|.int 0) (eB GH (eU dM<|eW 0)<|eC<|.int 2)<|eC<|.int 3) 1 [0] (bf 0) cy<|cZ<|aa (aA bg<|aa (eB aT (eW 1)<|eB aU (eW 0)<|eC<|.int 1) az)<|aa (aA bg<|aa (eB aT (eW 1)<|eB aU (eW 0)<|eC<|.int 2) az) az)
def gQ:γ D->Res D:=fn 1 1 mE
theorem zA(x0:D):gQ [x0]=bH (mE [AC (.val x0)]):=cC _ _ _ _ rfl
def lO:SF:=(aN (a6 1<|eB kG (eB aT (eW 0)<|eC<|.int 1)<|eC<|.str [120])<|aN (Zw 2 [([107,105,110,100],[]),([119,105,100,101],[48]),([103,97,112],[48]),([119,111,114,116,104],[48])])<|aN (a6 3<|eC<|.int 2)<|aN (iR (gi<|cZ<|aa (eC<|.str [107,105,110,100])<|aa (eC<|.str [119,105,100,101])<|aa (eC<|.str [103,97,112])<|aa (eC<|.str [119,111,114,116,104]) az) (bf 4)<|fA (CO (tE<|eB oLt (eB aU (eW 3)<|eC<|.int 1)<|eU dM<|eW 0)<|tE<|eB oEq (eB aT (eW 0)<|eW 3)<|eW 4) (aN (EX 2 (eV 4)<|eB aT (eW 0)<|eB aU (eW 3)<|eC<|.int 1)<|a6 3<|eB xF (eV 3)<|eC<|.int 2) a5)<|aY<|cZ<|aa (eB aT (eW 0)<|eC<|.int 0)<|aa (aA bg<|aa (eB aT (eW 1)<|eC<|.int 0) az)<|aa (aA bg<|aa (eB aT (eW 1)<|eC<|.int 2) az)<|aa (nU 2<|eC<|.str [107,105,110,100])<|aa (aA bg<|aa (nU 2<|eC<|.str [119,105,100,101]) az)<|aa (aA bg<|aa (nU 2<|eC<|.str [103,97,112]) az)<|aa (aA bg<|aa (nU 2<|eC<|.str [119,111,114,116,104]) az)<|aa (aA gQ<|aa (eL<|N_ (eW 0) (C9<|eW 3) JF) az) az)
def j5:γ D->Res D:=fn 1 5 lO
theorem BQ(x0:D):j5 [x0]=bH (lO [AC (.val x0),Ch,Ch,Ch,Ch]):=cC _ _ _ _ rfl
end KS
set_option maxRecDepth 8000
namespace KS
open Z KA
theorem D_(n:Nat):∀c∈f9 n,48<=c/\c<=57:=by intro c hc;obtain⟨ch,Ai,e⟩:=A18.mp hc;have r:=PyProof.Rows.digit_range<|Nat.isDigit_of_mem_toDigits (by decide) (by decide) Ai;rw[<-e];exact r
theorem t5(n:Nat):kS (f9 n)=n:=PySem.W.KIN.val_back n
theorem lG(hk:0<k)(h:n<10^k):(f9 n).length<=k:=by unfold f9;rw[A09];exact(Nat.length_toDigits_le_iff (by decide) hk).mpr h
theorem acM(c:Nat):RC.contains c=decide (48<=c/\c<=57):=by
 by_cases h:c<128
 .exact(by decide:∀c<128,RC.contains c=decide (48<=c/\c<=57)) c h
 .have h2:=λ m=>h<|(by decide:∀c∈RC,c<128) c m;rw[A65];simp;lia
theorem BK(cs:γ Nat):Ok (bU (bf 0) cy (eB uO (eW 0)<|eC<|.str RC) [Ch]<|cs.map λ c=>.str [c]) λ ds=>ds=cs.map λ c=>D.bl (decide<|48<=c/\c<=57):=
 cL (λ c=>D.str [c]) (λ _=>Da) (λ c=>.bl<|decide<|48<=c/\c<=57) (λ c _=>by
  have e:uO (.str [c]) (.str RC)=.ok (.bl<|decide<|48<=c/\c<=57):=by show Res.ok _=_;rw[acM]
  simp[e]) (by rw[A68.mpr λ _ _=>rfl])
def oB(cs:γ Nat):D:=if 1<=cs.length/\cs.length<=60/\∀c∈cs,48<=c/\c<=57 then .int (kS cs)else .non
theorem iq(cs:γ Nat)(h:cs.length<=16777216):bg [.str cs]=.ok (oB cs):=by
 rw[zC];refine aJ ?_;unfold oB;by_cases h1:1<=cs.length
 .by_cases h2:cs.length<=60
  .have e1:(1)<=(cs.length:Int):=by lia
   have e2:(cs.length:Int)<=60:=by lia
   by_cases h3:∀c∈cs,48<=c/\c<=57
   .have e3:(cs.all λ c=>decide<|48<=c/\c<=57)=Da:=by rw[A28];exact λ c hc=>A42<|h3 c hc
    have e4:Bc (.str cs)=.ok (.int<|kS cs):=guard_pos ⟨by intro z;rw[z]at h1;simp at h1,by lia,h3⟩;have e5:fP (.lst<|cs.map λ c=>D.bl<|decide<|48<=c/\c<=57)=.ok (.bl Da):=by simp only[fP,all_map,e3]
    rw[f8 ⟨h1,h2,h3⟩];simp[gC,h,e1,e2,line,bX,eZ];refine(BK cs).imp ?_;rintro ds rfl;rw[e5];simp[e4]
   .have e3:(cs.all λ c=>decide<|48<=c/\c<=57)=AT:=by rw[Bool.eq_false_iff];intro z;exact h3 λ c hc=>A58<|A28.mp z c hc
    have e5:fP (.lst<|cs.map λ c=>D.bl<|decide<|48<=c/\c<=57)=.ok (.bl AT):=by simp only[fP,all_map,e3]
    rw[v6 λ z=>h3 z.2.2];simp[gC,h,e1,e2,line,bX,eZ];refine(BK cs).imp ?_;rintro ds rfl;rw[e5];simp
  .have e2:¬(cs.length:Int)<=60:=by lia
   simp[gC,h,h1,h2,e2,line]
 .have e1:¬(1)<=(cs.length:Int):=by lia
  simp[gC,h,h1,e1,line]
set_option genInjectivity false in
structure Gp where
 nm:List Nat
 w:Nat
 d:Nat
 kd:List Nat
 wi:Nat
 ga:Nat
 wo:Nat
 ws:List (Nat×Nat)
def ic(p:Nat×Nat):D:=.tup [.int p.1,.int p.2]
def da(g:Gp):D:=.tup [.str g.nm,.int g.w,.int g.d,.str g.kd,.int g.wi,.int g.ga,.int g.wo,.tup (g.ws.map ic)]
structure o!(g:Gp):Prop where
 n1:1<=g.nm.length
 n2:g.nm.length<=8
 nl:∀c∈g.nm,c∈a9
 w1:1<=g.w
 w2:g.w<=12
 d1:1<=g.d
 d2:g.d<=3
 kd:g.kd=[]\/∃c∈a9,g.kd=[c]
 wi:g.wi<=g.w*g.d
 ga:g.ga<=6
 wo:g.wo<10^60
 wl:g.ws.length<=6
 wr:∀p∈g.ws,p.1<=5/\1<=p.2/\p.2<10^60
 up:(g.ws.map (·.1)).Pairwise (· < ·)
abbrev dQ:γ Nat:=[107,105,110,100]
abbrev cu:γ Nat:=[119,105,100,101]
abbrev eE:γ Nat:=[103,97,112]
abbrev bz:γ Nat:=[119,111,114,116,104]
abbrev lX:γ Nat:=[114,111,119]
def jT(g:Gp):γ Nat:=f9 g.w++[120]++f9 g.d
def kI(k:γ Nat):Rows:=if k=[]then[]else[dQ,k]
def gL(key:γ Nat)(n:Nat):Rows:=if 0<n then[key,f9 n]else[]
def gx(p:Nat×Nat):Rows:=[lX,f9 p.1,f9 p.2]
def dJ(g:Gp):Rows:=[g.nm,jT g]++kI g.kd++gL cu g.wi++gL eE g.ga++gL bz g.wo++(g.ws.map gx).flatten
theorem jF(h:Ok (g d ρ) λ ρ1=>Ok (b ρ1) (turn (λ ρ2=>Ok (gP g b r ρ2) Q) Q)):Ok (gP g b (d::r) ρ) Q:=by
 obtain⟨ρ1,e1,fl,e2,h⟩:=h;unfold gP;rw[e1,Res.fB,e2,Res.fB];cases fl with
 |nx ρ=>exact h
 |ct ρ=>exact h
 |bk ρ=>exact⟨_,rfl,h⟩
 |rt d=>exact⟨_,rfl,h⟩
theorem FC(h:Q (.nx ρ)):Ok (gP g b [] ρ) Q:=⟨_,rfl,h⟩
theorem abh{n:Nat}(h:n<10^60):(n:Int)<10^70:=by have:n<10^70:=B16 h (by decide);exact_mod_cast this
theorem pC{n:Nat}(h:n<10^60):k9 (.int n)=.ok (.str<|f9 n):=Ss n<|abh h
theorem PY(k:o! g):g.wi<10^60:=by have h1:=k.wi;have h2:=A60 k.w2 k.d2;exact B59 (A23 h1 h2) (by decide)
theorem fO(h:n<=100):n<10^60:=B59 h (by decide)
noncomputable def FP:SF:=(fA (tE<|eB Sx (eB aT (eW 0)<|eW 3)<|eC<|.int 0) (sG 1<|bC<|aa (eV 2)<|aa (eU k9<|eB aT (eW 0)<|eW 3) az) a5)
theorem qB{n:Nat}(e:aT (da g) (.int k)=.ok (.int n))(hn:n<10^60)(hl:ws.length<=100)(x2 x3 x4:ε L):
 Ok (jd [2,3] (.tup [.str key,.int k]) [v (da g),ow (ws.map .str),x2,x3,x4]) λ ρ1=>Ok (FP ρ1) λ fl=>fl=.nx [v (da g),ow ((ws++gL key n).map .str),v (.str key),vi k,x4]:=by
 have es:=pC hn;have BA:ws.length+2<=16777216:=by lia
 by_cases h:0<n
 .have h':(0)<(n):=by lia
  simp -implicitDefEqProofs [FP,e,h,es,gL,line,BA]
 .have h':¬(0)<(n):=by lia
  simp -implicitDefEqProofs [FP,e,h,gL]
theorem Oi{ts:Rows}(hl:ts.length<=1000)(h:∀x∈ts,x.length<=1000):mi (.str [32]) (.lst<|ts.map .str)=.ok (.str<|cz [32] ts):=by
 have h1:(ts.map List.length).sum<=ts.length*1000:=by
  clear hl
  induction ts with
  |nil=>simp
  |cons x r ih=>have:=ih λ y hy=>h y<|A07 _ hy;have:=h x A22;simp only[A06,AD7,A24];lia
 show(match jr _ with|some ts=>guard ((ts.map _).sum+ts.length*1<=line) _|none=>Res.bad)=_;rw[n9];simp only;rw[guard_pos];simp only[line];lia
theorem iK(key:γ Nat)(n:Nat):(gL key n).length<=2:=by unfold gL;split<;>simp
theorem qX(k:γ Nat):(kI k).length<=2:=by unfold kI;split<;>simp
theorem Ar(ws:γ _):((ws.map gx).flatten).length=3*ws.length:=by
 induction ws with
 |nil=>rfl
 |cons p r ih=>simp only[A06,AA1,A20,ih];simp[gx];lia
theorem xj(k:o! g):(dJ g).length<=28:=by have:=iK cu g.wi;have:=iK eE g.ga;have:=iK bz g.wo;have:=qX g.kd;have:=k.wl;simp only[dJ,A20,Ar,A24,A79];lia
theorem uQ(hk:key.length<=60)(hn:n<10^60):∀x∈gL key n,x.length<=121:=by
 intro x hx;unfold gL at hx;split at hx
 .rcases o0.mp hx with rfl|hx
  .lia
  .rw[A15.mp hx];have:=lG (by decide) hn;lia
 .cases hx
theorem t_(k:o! g):∀x∈dJ g,x.length<=121:=by
 intro x hx;simp only[dJ,A29]at hx;rcases hx with((((hx|hx)|hx)|hx)|hx)|hx
 .rcases o0.mp hx with rfl|hx
  .have:=k.n2;lia
  .rw[A15.mp hx];have h1:=lG (n:=g.w) (by decide)<|fO (by have:=k.w2;lia);have h2:=lG (n:=g.d) (by decide)<|fO (by have:=k.d2;lia);simp only[jT,A20,A24,A79];lia
 .unfold kI at hx;split at hx
  .cases hx
  .rcases o0.mp hx with rfl|hx
   .decide
   .rw[A15.mp hx];rcases k.kd with h|⟨c,_,h⟩<;>rw[h]<;>simp
 .exact uQ (by decide) (PY k) x hx
 .exact uQ (by decide) (fO (by have:=k.ga;lia)) x hx
 .exact uQ (by decide) k.wo x hx
 .obtain⟨y,hy,hx⟩:=C08.mp hx;obtain⟨p,hp,rfl⟩:=A18.mp hy;obtain⟨h1,h2,h3⟩:=k.wr p hp;have l1:=lG (n:=p.1) (by decide)<|fO (by lia);have l2:=lG (by decide) h3;simp only[gx,o0,A14,A16]at hx;rcases hx with rfl|rfl|rfl
  .decide
  .lia
  .lia
theorem oj(h:Ok (a ρ) λ fl=>fl=.nx ρ1)(k:Ok (b ρ1) Q):Ok (aN a b ρ) Q:=by obtain⟨fl,e,rfl⟩:=h;rw[oq,e,Res.fB];exact k
theorem ex0:aT (da g) (.int 0)=.ok (.str g.nm):=rfl
theorem ex1:aT (da g) (.int 1)=.ok (.int g.w):=rfl
theorem ex2:aT (da g) (.int 2)=.ok (.int g.d):=rfl
theorem ex3:aT (da g) (.int 3)=.ok (.str g.kd):=rfl
theorem ex4:aT (da g) (.int 4)=.ok (.int g.wi):=rfl
theorem ex5:aT (da g) (.int 5)=.ok (.int g.ga):=rfl
theorem ex6:aT (da g) (.int 6)=.ok (.int g.wo):=rfl
theorem ex7:aT (da g) (.int 7)=.ok (.tup<|g.ws.map ic):=rfl
noncomputable def bs1:SF:=qC 1<|bC<|aa (eB aT (eW 0)<|eC<|.int 0)<|aa (eB aU (eB aU (eU k9<|eB aT (eW 0)<|eC<|.int 1)<|eC<|.str [120])<|eU k9<|eB aT (eW 0)<|eC<|.int 2) az
noncomputable def _K:SF:=fA (tE<|eB pO (eB aT (eW 0)<|eC<|.int 3)<|eC<|.str []) (sG 1<|bC<|aa (eC<|.str [107,105,110,100])<|aa (eB aT (eW 0)<|eC<|.int 3) az) a5
noncomputable def bs3:SF:=iR (gi<|cZ<|aa (cZ<|aa (eC<|.str [119,105,100,101])<|aa (eC<|.int 4) az)<|aa (cZ<|aa (eC<|.str [103,97,112])<|aa (eC<|.int 5) az)<|aa (cZ<|aa (eC<|.str [119,111,114,116,104])<|aa (eC<|.int 6) az) az) (jd [2,3]) FP
noncomputable def bs4:SF:=iR (gi<|eB aT (eW 0)<|eC<|.int 7) (bf 4)<|sG 1<|bC<|aa (eC<|.str [114,111,119])<|aa (eU k9<|eB aT (eW 4)<|eC<|.int 0)<|aa (eU k9<|eB aT (eW 4)<|eC<|.int 1) az
theorem nR:lL=aN bs1 (aN _K<|aN bs3<|aN bs4<|aY<|eB mi (eC<|.str [32])<|eW 1):=rfl
theorem Ux(k:o! g):Ok (bs1 [v (da g),Ch,Ch,Ch,Ch]) λ fl=>fl=.nx [v (da g),ow ([g.nm,jT g].map .str),Ch,Ch,Ch]:=by
 have sw:=pC<|fO (n:=g.w) (by have:=k.w2;lia);have sd:=pC<|fO (n:=g.d) (by have:=k.d2;lia);have lw:=lG (n:=g.w) (by decide)<|fO (by have:=k.w2;lia);have ld:=lG (n:=g.d) (by decide)<|fO (by have:=k.d2;lia);have q1:(f9 g.w).length+1<=16777216:=by lia
 have q2:(f9 g.w).length+1+(f9 g.d).length<=16777216:=by lia
 simp -implicitDefEqProofs [bs1,ex0,ex1,ex2,sw,sd,line,q1,q2,jT]
theorem Uw:Ok (_K [v (da g),ow ([g.nm,jT g].map .str),Ch,Ch,Ch]) λ fl=>fl=.nx [v (da g),ow (([g.nm,jT g]++kI g.kd).map .str),Ch,Ch,Ch]:=by
 by_cases h:g.kd=[]
 .simp -implicitDefEqProofs [_K,ex3,h,kI]
 .simp -implicitDefEqProofs [_K,ex3,h,kI,line]
theorem Uv(k:o! g):Ok (bs3 [v (da g),ow (([g.nm,jT g]++kI g.kd).map .str),Ch,Ch,Ch]) λ fl=>∃x2 x3,fl=.nx [v (da g),ow (([g.nm,jT g]++kI g.kd++gL cu g.wi++gL eE g.ga++gL bz g.wo).map .str),x2,x3,Ch]:=by
 have hk:=qX g.kd;have h1:=iK cu g.wi;have h2:=iK eE g.ga;have hi:∀ρ,gi (cZ<|aa (cZ<|aa (eC _)<|aa (eC _) az)<|aa (cZ<|aa (eC<|.str [103,97,112])<|aa (eC<|.int 5) az)<|aa (cZ<|aa (eC<|.str [119,111,114,116,104])<|aa (eC<|.int 6) az) az) ρ=.ok [.tup [.str cu,.int 4],.tup [.str eE,.int 5],.tup [.str bz,.int 6]]:=λ ρ=>by have g2:∀a b,guard ([a,b].length<=line) (Res.ok<|D.tup [a,b])=.ok (.tup [a,b]):=λ a b=>guard_pos (by simp[line]);have g3:∀a b c,guard ([a,b,c].length<=line) (Res.ok<|D.tup [a,b,c])=.ok (.tup [a,b,c]):=λ a b c=>guard_pos (by simp[line]);show(((guard ([D.str [119,105,100,101],.int 4].length<=line)<|Res.ok<|D.tup [.str [119,105,100,101],.int 4]).bind λ x=>((guard ([D.str [103,97,112],.int 5].length<=line)<|Res.ok<|D.tup [.str [103,97,112],.int 5]).bind λ x=>((guard ([D.str [119,111,114,116,104],.int 6].length<=line)<|Res.ok<|D.tup [.str [119,111,114,116,104],.int 6]).bind λ x=>Res.ok [x]).bind λ xs=>.ok<|x::xs).bind λ xs=>.ok<|x::xs).bind λ xs=>guard (xs.length<=line)<|.ok<|.tup xs).bind lU=_;rw[g2,g2,g2];simp only[Res.fB];rw[g3];rfl
 unfold bs3;rw[C1,hi,Res.fB];refine jF<|(qB ex4 (PY k) (by simp;lia) Ch Ch Ch).imp λ ρ1 h=>h.imp ?_;rintro fl rfl;rw[kT];refine jF<|(qB ex5 (fO (by have:=k.ga;lia)) (by simp;lia) _ _ Ch).imp λ ρ1 h=>h.imp ?_;rintro fl rfl;rw[kT];refine jF<|(qB ex6 k.wo (by simp;lia) _ _ Ch).imp λ ρ1 h=>h.imp ?_;rintro fl rfl;rw[kT];exact FC ⟨_,_,rfl⟩
theorem Uu(k:o! g)(hw:Rows)(hl:hw.length<=20)(x2 x3:ε L):Ok (bs4 [v (da g),ow (hw.map .str),x2,x3,Ch]) λ fl=>∃x4,fl=.nx [v (da g),ow ((hw++(g.ws.map gx).flatten).map .str),x2,x3,x4]:=by
 unfold bs4;have hi:gi (eB aT (eW 0)<|eC<|.int 7) [v (da g),ow (hw.map .str),x2,x3,Ch]=.ok (g.ws.map ic):=by simp -implicitDefEqProofs [ex7]
 rw[C1,hi,Res.fB];refine iV (λ i ρ=>∃x4,ρ=[v (da g),ow ((hw++((g.ws.take i).map gx).flatten).map .str),x2,x3,x4]) ⟨Ch,by simp⟩ ?_ ?_
 .rintro j d ρ hj ⟨x4,rfl⟩;rw[A04]at hj;obtain⟨p,hp,rfl⟩:=B42.mp hj;obtain⟨r1,r2,r3⟩:=k.wr p (A33 hp);have s1:=pC<|fO (n:=p.1) (by lia);have s2:=pC r3;have i0:aT (ic p) (.int 0)=.ok _:=rfl;have i1:aT (ic p) (.int 1)=.ok _:=rfl;have wl:=Ar<|g.ws.take j;have tl:(g.ws.take j).length<=6:=by have:=k.wl;rw[A31];lia
  have ht:g.ws.take (j+1)=g.ws.take j++[p]:=by rw[B89,hp];rfl
  obtain⟨W,hW⟩:∃W,W=hw++((g.ws.take j).map gx).flatten:=⟨_,rfl⟩
  have hn:hw++((g.ws.take<|j+1).map gx).flatten=W++gx p:=by rw[ht,hW];simp
  rw[hn,<-hW];have hWl:W.length+3<=16777216:=by rw[hW,A20];lia
  clear hW hn ht;simp -implicitDefEqProofs [i0,i1,s1,s2,line,hWl,gx]
 .rintro ρ ⟨x4,rfl⟩;rw[A09,B22];exact⟨x4,rfl⟩
theorem MY(k:o! g):fT [da g]=.ok (.str<|cz [32]<|dJ g):=by
 have hk:=qX g.kd;have h1:=iK cu g.wi;have h2:=iK eE g.ga;have h3:=iK bz g.wo;have ej:=Oi (ts:=dJ g) (by have:=xj k;lia) λ x hx=>by have:=t_ k x hx;lia
 rw[w8,nR];refine aJ<|oj (Ux k)<|oj Uw ?_;rw[oq,Aa];refine(Uv k).imp ?_;rintro fl ⟨x2,x3,rfl⟩;rw[mS,oq,Aa];refine(Uu k _ (by simp;lia) x2 x3).imp ?_;rintro fl ⟨x4,rfl⟩;rw[mS];show Ok (aY _ [v _,ow ((dJ g).map .str),x2,x3,x4]) _;simp -implicitDefEqProofs [ej]
abbrev eg(g:Gp)(x9 EI x11:ε L):Env:=[v (da g),vs g.nm,vi g.w,vi g.d,vs g.kd,vi g.wi,vi g.ga,vi g.wo,v (.tup<|g.ws.map ic),x9,EI,x11]
theorem Xq{n:Nat}(h:n<10^60):(n:Int)<=10^60-1:=by
 have h2:(n:Int)<10^60:=by exact_mod_cast h
 exact Int.le_sub_one_of_lt h2
theorem xk(n:Int):fm [.int n]=.ok (.bl Da):=by rw[se];exact aJ (by simp[iD,cF])
theorem F3:fm [.non]=.ok (.bl AT):=by rw[se];exact aJ (by simp[iD,cF])
theorem within_int(n a b:Int):aZ [.int n,.int a,.int b]=.ok (.bl<|decide<|a<=n/\n<=b):=by
 rw[jJ];refine aJ ?_;by_cases h1:a<=n
 .simp[cb,xk,h1]
 .simp[cb,xk,h1]
theorem ua(a b:Int):aZ [.non,.int a,.int b]=.ok (.bl AT):=by rw[jJ];exact aJ (by simp[cb,F3])
theorem o7(n a:Int):eA [.int n,.int a]=.ok (.bl<|decide<|a<=n/\n<=10^60-1):=by rw[p?];refine aJ ?_;simp[j!,within_int]
theorem Et(a:Int):eA [.non,.int a]=.ok (.bl AT):=by rw[p?];refine aJ ?_;simp[j!,ua]
theorem N7(c:Nat):decide (c∈a9)=(decide (97<=c)&&decide (c<=122)):=by
 by_cases h:c<128
 .exact(by decide:∀c<128,decide _=(decide _&&decide (c<=122))) c h
 .have h1:c∉a9:=λ m=>h<|(by decide:∀c∈a9,c<128) c m;have h2:¬c<=122:=by lia
  simp[h1,h2]
theorem uY(c:Nat):cN [.str [c]]=.ok (.bl<|decide<|c∈a9):=by rw[nN,N7]
theorem GS(cs:γ Nat):Ok (bU (bf 0) cy (aA KA.cN<|aa (eV 0) az) [Ch]<|cs.map λ c=>.str [c]) λ ds=>ds=cs.map λ c=>D.bl (decide<|c∈a9):=
 cL (λ c=>D.str [c]) (λ _=>Da) (λ c=>.bl<|decide<|c∈a9) (λ c _=>by simp[uY]) (by rw[A68.mpr λ _ _=>rfl])
def lS(cs:γ Nat):Bool:=decide (1<=cs.length/\cs.length<=8)&&cs.all λ c=>decide (c∈a9)
theorem tU(cs:γ Nat)(h:cs.length<=16777216):bT [.str cs]=.ok (.bl<|lS cs):=by
 rw[D8];refine aJ ?_;unfold lS;by_cases h1:1<=cs.length
 .by_cases h2:cs.length<=8
  .have e1:(1)<=(cs.length:Int):=by lia
   have e2:(cs.length:Int)<=8:=by lia
   simp[kO,cF,h,h1,h2,e1,e2,bX,eZ];refine(GS cs).imp ?_;rintro ds rfl;simp[fP,all_map]
  .have e2:¬(cs.length:Int)<=8:=by lia
   simp[kO,cF,h,h1,h2,e2,line]
 .have e1:¬(1)<=(cs.length:Int):=by lia
  simp[kO,cF,h,h1,e1,line]
def kindB(cs:γ Nat):Bool:=cs==[]||(decide (cs.length=1)&&cs.all λ c=>decide (c∈a9))
theorem G5(cs:γ Nat)(h:cs.length<=16777216):cN [.str cs]=.ok (.bl<|decide (cs.length=1)&&cs.all λ c=>decide (c∈a9)):=by
 cases cs with
 |nil=>rw[lC];exact aJ (by simp[fu])
 |cons c r=>
  cases r with
  |nil=>rw[uY];simp
  |cons c' r=>
   rw[lC];refine aJ ?_;have e:¬((r.length:Int)+1+1=1):=by lia
   have h':r.length+1+1<=16777216:=by simpa using h
   simp[fu,h',e]
theorem Fn(cs:γ Nat)(h:cs.length<=16777216):lz [.str cs]=.ok (.bl<|kindB cs):=by
 have hl:=G5 cs h;rw[D9];refine aJ ?_;unfold kindB;have en:oEq (.str cs) (.str [])=.ok (.bl<|decide<|cs=[]):=by cases cs<;>rfl
 by_cases h0:cs=[]
 .subst h0;have en':oEq (.str []) (.str [])=.ok _:=rfl;simp[m7,cF]
 .have hb:(cs==[])=AT:=by simpa using h0
  simp[m7,cF,hl,hb]
section
variable{g:Gp}
theorem Ms(h:p.1<=5/\1<=p.2/\p.2<10^60):gm [ic p]=.ok (.bl Da):=by have i0:aT (ic p) (.int 0)=.ok _:=rfl;have i1:aT (ic p) (.int 1)=.ok _:=rfl;have w1:=within_int p.1 0 5;have w2:=o7 p.2 1;have q1:decide ((0)<=(p.1:Int)/\(p.1:Int)<=5)=Da:=A42 (by lia);have q2:decide ((1)<=(p.2:Int)/\(p.2:Int)<=10^60-1)=Da:=A42 ⟨by lia,Xq h.2.2⟩;rw[q1]at w1;rw[q2]at w2;rw[vE];refine aJ ?_;have ty:cF .tuple (ic p)=Da:=rfl;have ln:dM (ic p)=.ok _:=rfl;simp[m6,ty,ln,i0,i1,w1,w2]
theorem F2(hw:∀p∈g.ws,p.1<=5/\1<=p.2/\p.2<10^60):Ok (bU (bf 0) cy (aA gm<|aa (eV 0) az) [Ch]<|g.ws.map ic) λ ds=>ds=g.ws.map λ _=>D.bl Da:=
 cL ic (λ _=>Da) (λ _=>.bl Da) (λ p hp=>by simp[Ms<|hw p hp]) (by rw[A68.mpr λ _ _=>rfl])
theorem Gq(hu:(g.ws.map (·.1)).Pairwise (· < ·)):Ok (bU (bf 0) cy (eB oLt (eB aT (eB aT (eW 1)<|eW 0)<|eC<|.int 0)<|eB aT (eB aT (eW 1)<|eB aU (eW 0)<|eC<|.int 1)<|eC<|.int 0) [Ch,v (.tup<|g.ws.map ic)]<|(FB<|g.ws.length-1).map λ n=>D.int (n:Nat)) λ ds=>ds=(FB<|g.ws.length-1).map λ _=>D.bl Da:=
 cL (λ n=>D.int (n:Nat)) (λ _=>Da) (λ _=>.bl Da) (λ n hn=>by
  have Me:=A38.mp hn;have l1:n<g.ws.length:=by lia
  have l2:n+1<g.ws.length:=by lia
  have i1:aT (.tup<|g.ws.map ic) (.int<|n)=.ok (ic g.ws[n]):=(ij rfl (by rw[A04,A01];rfl)).1;have i2:aT (.tup<|g.ws.map ic) (.int<|(n)+1)=.ok (ic g.ws[n+1]):=(ij (j:=n+1) (by lia) (by rw[A04,A01 l2];rfl)).1;have j1:∀p,aT (ic p) (.int 0)=.ok (.int p.1):=λ p=>rfl;have lt:g.ws[n].1<g.ws[n+1].1:=by have:=B33.mp hu n (n+1) (by simp;lia) (by simp;lia) (by lia);simpa using this
  have lt':((g.ws[n].1))<(g.ws[n+1].1):=by lia
  simp[i1,i2,j1,lt']) (by rw[A68.mpr λ _ _=>rfl])
theorem all_true{α:Type}(xs:γ α):fP (.lst<|xs.map λ _=>D.bl Da)=.ok (.bl Da):=by have:=all_map (λ _=>Da) xs;simp only[fP,this];simp
theorem Cv(k:o! g):fX [.tup (g.ws.map ic)]=.ok (.bl Da):=by
 have hl:g.ws.length<=16777216:=by have:=k.wl;lia
 have e1:«zints» 0 (g.ws.length-1)=(FB<|g.ws.length-1).map λ n=>D.int (n:Nat):=by exact A80 λ n _=>by simp
 rw[km];refine aJ ?_;simp[hZ,cF,hl,bX];refine(F2 k.wr).imp ?_;rintro ds rfl;rw[all_true];simp[hl];rw[e1];refine⟨by lia,(Gq k.up).imp ?_⟩;rintro ds rfl;rw[all_true];simp
theorem Pq(k:o! g):dG [da g]=.ok (.bl Da):=by
 have w1:=within_int g.w 1 12;have w2:=within_int g.d 1 3;have w3:=within_int g.wi 0<|(g.w)*(g.d);have w4:=within_int g.ga 0 6;rw[A42<|⟨by have:=k.w1;lia,by have:=k.w2;lia⟩]at w1;rw[A42<|⟨by have:=k.d1;lia,by have:=k.d2;lia⟩]at w2;rw[A42<|⟨by lia,by have:=k.wi;exact_mod_cast this⟩]at w3;rw[A42<|⟨by lia,by have:=k.ga;lia⟩]at w4;have wk:=Fn g.kd (by rcases k.kd with h|⟨c,_,h⟩<;>rw[h]<;>simp);have wk':kindB g.kd=Da:=by
  rcases k.kd with h|⟨c,hc,h⟩<;>rw[h]
  .rfl
  .simp[kindB,hc]
 rw[wk']at wk;have m:cm (g.w) (g.d):=eN (by lia) (by have:=k.w2;lia);rw[j6];refine aJ ?_;simp[bV,ex1,ex2,ex3,ex4,ex5,w1,w2,w3,w4,wk,m]
theorem KU(k:o! g):d7 [da g]=.ok (.bl Da):=by
 have hn:=tU g.nm (by have:=k.n2;lia);have Me:lS g.nm=Da:=by unfold lS;rw[A42 ⟨k.n1,k.n2⟩,AD5,A28];exact λ c hc=>A42<|k.nl c hc
 rw[Me]at hn;have ha:=Pq k;have hw:=Cv k;have ho:=o7 g.wo 0;rw[A42<|⟨by lia,Xq k.wo⟩]at ho;have ty:cF .tuple (da g)=Da:=rfl;have ln:dM (da g)=.ok _:=rfl;rw[sf];refine aJ ?_;simp[gv,ty,ln,ex0,ex6,ex7,hn,ha,ho,hw]
theorem Lq(h:c<48\/57<c):c∉f9 n:=λ m=>by have:=D_ n c m;lia
theorem Ke(h:c∈a9):c≠32:=by rintro rfl;exact absurd h (by decide)
theorem Ik(k:o! g):∀x∈dJ g,32∉x:=by
 have dn:∀n,32∉f9 n:=λ n=>Lq (by decide);intro x hx;simp only[dJ,A29]at hx;have Tq:∀{key}{n},32∉key->x∈gL key n->32∉x:=by
  intro key n hk hx;unfold gL at hx;split at hx
  .rcases o0.mp hx with rfl|hx
   .exact hk
   .rw[A15.mp hx];exact dn n
  .cases hx
 rcases hx with((((hx|hx)|hx)|hx)|hx)|hx
 .rcases o0.mp hx with rfl|hx
  .exact λ m=>Ke (k.nl _ m) rfl
  .rw[A15.mp hx,jT];simp only[A29,A67];exact⟨⟨dn _,by decide⟩,dn _⟩
 .unfold kI at hx;split at hx
  .cases hx
  .rcases o0.mp hx with rfl|hx
   .decide
   .rw[A15.mp hx];rcases k.kd with h|⟨c,hc,h⟩<;>rw[h]
    .simp
    .intro m;exact Ke hc (A15.mp m).symm
 .exact Tq (by decide) hx
 .exact Tq (by decide) hx
 .exact Tq (by decide) hx
 .obtain⟨y,hy,hx⟩:=C08.mp hx;obtain⟨p,hp,rfl⟩:=A18.mp hy;simp only[gx,o0,A14,A16]at hx;rcases hx with rfl|rfl|rfl
  .decide
  .exact dn _
  .exact dn _
theorem BG:∀(ts:Rows),(∀x∈ts,x.length<=m)->(cz [32] ts).length<=ts.length*(m+1)
|[],_=>by simp[cz]
|[x],h=>by have:=h x (by simp);simp[cz];lia
|x::y::r,h=>by have h1:=h x (by simp);have h2:=BG _ λ z hz=>h z<|A07 _ hz;simp only[cz,A20,A24,A79]at h2 ⊢;rw[B32,B32]at *;lia
theorem Er(cs:γ Nat)(c i:Nat):PySem.StrLaws.At (⟨cs.toArray⟩) ⟨#[c]⟩ (⟨cs.toArray⟩:AE0).length i↔cs[i]?=AC c:=by have:=PySem.StrLaws.subAt_one (⟨cs.toArray⟩) c i;rw[show(⟨_⟩:AE0).cps.toList=cs from rfl]at this;exact this
theorem y!(cs:γ Nat)(c:Nat):(Pi ⟨cs.toArray⟩ ⟨#[c]⟩ 0 cs.length 1=[]/\c∉cs)\/∃i r,Pi ⟨cs.toArray⟩ ⟨#[c]⟩ 0 cs.length 1=i::r/\cs[i]?=AC c/\∀k,k<i->cs[k]?≠AC c:=by
 have hl:(⟨cs.toArray⟩:AE0).length=cs.length:=by show cs.toArray.size=cs.length;simp
 rcases PySem.StrLaws.occ_head (⟨_⟩) ⟨#[c]⟩ 1 (M2 _)with⟨h,hn⟩|⟨i,r,h,ha,hn⟩
 .left;rw[hl]at h;refine⟨h,λ m=>?_⟩;obtain⟨i,hi⟩:=C29.mp m;exact hn i<|(Er cs c i).mpr hi
 .right;rw[hl]at h;exact⟨i,r,h,(Er cs c i).mp ha,λ k hk z=>hn k hk<|(Er cs c k).mpr z⟩
theorem pJ(h:c∉a):fH c (a++c::b)=(a,[c],b):=by
 have ha:(a++c::b)[a.length]?=AC c:=by simp
 unfold fH;rcases y! (a++c::b) c with⟨_,hn⟩|⟨i,r,e,hi,hm⟩
 .exact absurd (A29.mpr<|.inr A22) hn
 .rw[e];have e1:i=a.length:=by
   rcases Nat.lt_trichotomy i _ with rf|heq|hgt
   .rw[A37 rf]at hi;exact absurd (A33 hi) h
   .exact heq
   .exact absurd ha<|hm _ hgt
  subst e1;simp
theorem xB(h:c∉a):fH c a=(a,[],[]):=by
 unfold fH;rcases y! a c with⟨e,_⟩|⟨i,r,_,hi,_⟩
 .rw[e]
 .exact absurd (A33 hi) h
end
abbrev td(a b c d:γ Nat):ε L:=AC<|.Af [(dQ,a),(cu,b),(eE,c),(bz,d)]
noncomputable def bG:SF:=(fA (CO (tE<|eB oLt (eB aU (eW 3)<|eC<|.int 1)<|eU dM<|eW 0)<|tE<|eB oEq (eB aT (eW 0)<|eW 3)<|eW 4) (aN (EX 2 (eV 4)<|eB aT (eW 0)<|eB aU (eW 3)<|eC<|.int 1)<|a6 3<|eB xF (eV 3)<|eC<|.int 2) a5)
theorem UA{WD:Rows}(h1:WD[at']?=AC key)(h2:WD[at'+1]?=AC val)(hl:WD.length<=100000)(hT:T.length<10)(x4:ε L):
 Ok (bf 4 (.str key) [v (.lst<|WD.map .str),x1,AC (.Af T),vi (at':Nat),x4]) λ ρ1=>Ok (bG ρ1) λ fl=>fl=.nx [v (.lst<|WD.map .str),x1,AC (.Af<|qF T key val),vi ((at'+2:Nat)),vs key]:=by
 have l2:=(A10.mp h2).1;have i1:aT (.lst<|WD.map .str) (.int (at':Nat))=.ok (.str key):=(ij (j:=at') rfl (by rw[A04,h1];rfl)).2;have i2:aT (.lst<|WD.map .str) (.int<|(at':Nat)+1)=.ok (.str val):=(ij (j:=at'+1) (by lia) (by rw[A04,h2];rfl)).2;have BA:WD.length<=16777216:=by lia
 have q:((at':Nat):Int)+1<(WD.length:Int):=by lia
 have eq:oEq (.str key) (.str key)=.ok (.bl Da):=by
  have:iW (.str key) (.str key)=AC Da:=by show AC (key==key)=_;simp
  simp[oEq,this]
 have hT':T.length<16777216:=by lia
 simp -implicitDefEqProofs [bG,i1,i2,BA,q,eq,line,hT']
theorem Pk{WD:Rows}(h:∀w,WD[at']?=AC w->w≠key)(hl:WD.length<=100000)(x4:ε L):
 Ok (bf 4 (.str key) [v (.lst<|WD.map .str),x1,x2,vi (at':Nat),x4]) λ ρ1=>Ok (bG ρ1) λ fl=>fl=.nx [v (.lst<|WD.map .str),x1,x2,vi (at':Nat),vs key]:=by
 have BA:WD.length<=16777216:=by lia
 by_cases q:((at':Nat):Int)+1<(WD.length:Int)
 .have l1:at'<WD.length:=by lia
  have i1:aT (.lst<|WD.map .str) (.int (at':Nat))=.ok (.str WD[at']):=(ij (j:=at') rfl (by rw[A04,A01 l1];rfl)).2;have ne:=h _<|A01 l1;have eq:oEq (.str WD[at']) (.str key)=.ok (.bl AT):=by
   have:iW (.str WD[at']) (.str key)=AC AT:=by show AC (WD[at']==key)=_;simp[ne]
   simp[oEq,this]
  simp -implicitDefEqProofs [bG,i1,BA,q,eq,line]
 .simp -implicitDefEqProofs [bG,BA,q,line]
theorem vm(h:(gL key n++rest)[0]?=AC w):w=key\/rest[0]?=AC w:=by
 unfold gL at h;split at h
 .left;simpa using h.symm
 .right;simpa using h
theorem Hf{ws:γ _}(h:(ws.map gx).flatten[0]?=AC w):w=lX:=by
 cases ws with
 |nil=>simp at h
 |cons p r=>simp[gx]at h;exact h.symm
theorem NB(key:γ Nat)(n:Nat):gL key n=if decide (0<n)then[key,f9 n]else[]:=by unfold gL;by_cases h:0<n<;>simp
theorem Kl(k:γ Nat):kI k=if decide (k≠[])then[dQ,k]else[]:=by unfold kI;by_cases h:k=[]<;>simp
noncomputable def bg1:SF:=a6 1<|eB kG (eB aT (eW 0)<|eC<|.int 1)<|eC<|.str [120]
noncomputable def bg4:SF:=iR (gi<|cZ<|aa (eC<|.str [107,105,110,100])<|aa (eC<|.str [119,105,100,101])<|aa (eC<|.str [103,97,112])<|aa (eC<|.str [119,111,114,116,104]) az) (bf 4) bG
noncomputable def bg5:SF:=(aY<|cZ<|aa (eB aT (eW 0)<|eC<|.int 0)<|aa (aA bg<|aa (eB aT (eW 1)<|eC<|.int 0) az)<|aa (aA bg<|aa (eB aT (eW 1)<|eC<|.int 2) az)<|aa (nU 2<|eC<|.str [107,105,110,100])<|aa (aA bg<|aa (nU 2<|eC<|.str [119,105,100,101]) az)<|aa (aA bg<|aa (nU 2<|eC<|.str [103,97,112]) az)<|aa (aA bg<|aa (nU 2<|eC<|.str [119,111,114,116,104]) az)<|aa (aA gQ<|aa (eL<|N_ (eW 0) (C9<|eW 3) JF) az) az)
theorem hbg:lO=aN bg1 (aN (Zw 2 [(dQ,[]),(cu,[48]),(eE,[48]),(bz,[48])])<|aN (a6 3<|eC<|.int 2)<|aN bg4 bg5):=rfl
def lP(nm:γ Nat):Prop:=1<=nm.length/\nm.length<=8/\∀c∈nm,c∈a9
structure HK(n:Nat)(ws:List (Nat×Nat)):Prop where
 l:ws.length<=n
 r:∀p∈ws,p.1<n/\1<=p.2/\p.2<10^60
 up:(ws.map (·.1)).Pairwise (· < ·)
def Nm(d:D):Prop:=d=.non\/∃n:Nat,n<10^60/\d=.int n
theorem Iq(cs:γ Nat)(c:Nat):kS (cs++[c])=kS cs*10+(c-48):=by unfold kS;rw[List.foldl_append];rfl
theorem Ir:∀k cs,cs.length=k->(∀c∈cs,48<=c/\c<=57)->kS cs<10^k
|0,cs,h,_=>by rw[List.length_eq_zero_iff.mp h];decide
|k+1,cs,h,hd=>by
 have mX:cs≠[]:=by intro z;rw[z]at h;simp at h
 obtain⟨ys,y,rfl⟩:∃ys y,cs=ys++[y]:=⟨_,_,(List.dropLast_concat_getLast mX).symm⟩
 have:=Ir k ys (by simpa using h) λ c hc=>hd c<|A29.mpr<|.inl hc;have hy:=hd y (by simp);rw[Iq,Nat.pow_succ];lia
theorem k?(cs:γ Nat):Nm (oB cs):=by
 unfold oB;split
 .rename_i h;refine .inr ⟨_,?_,rfl⟩;exact A21 (Ir _ cs rfl h.2.2)<|Nat.pow_le_pow_right (by decide) h.2.1
 .exact .inl rfl
theorem Cw(W:Rows)(hl:W.length<=100000)(hw:∀x∈W,x.length<=16777216):∃ps:γ (D×D),(∀p∈ps,Nm p.1/\Nm p.2)/\ps.length<=100000/\gQ [.lst (W.map .str)]=.ok (.tup<|ps.map λ p=>.tup [p.1,p.2]):=by
 obtain⟨n,hn⟩:∃n,n=(((W.length:Int)-2-0+2) / 3).toNat:=⟨_,rfl⟩
 have hn3:3*n<=W.length:=by lia
 have e3:ints3 0 n=(FB n).map λ n=>D.int ((n:Nat)*3):=by unfold ints3;exact A80 λ n _=>by simp
 obtain⟨f,hf⟩:∃f,∀i,i<W.length->W[i]?=AC (f i):=⟨λ i=>if h:i<W.length then W[i]else[],λ i h=>by simp[h]⟩
 have ec:Ok (bU (bf 0) cy (cZ<|aa (aA bg<|aa (eB aT (eW 1)<|eB aU (eW 0)<|eC<|.int 1) az)<|aa (aA bg<|aa (eB aT (eW 1)<|eB aU (eW 0)<|eC<|.int 2) az) az) [Ch,v (.lst<|W.map .str)]<|(FB n).map λ n=>D.int<|(n:Nat)*3) λ ds=>ds=(FB n).map λ i=>D.tup [oB (f<|3*i+1),oB (f<|3*i+2)]:=by
  refine cL (λ n=>D.int<|(n:Nat)*3) (λ _=>Da) (λ i=>D.tup [oB (f<|3*i+1),oB (f<|3*i+2)]) (xs:=FB n) (λ i hi=>?_) ?_
  .have Mf:=A38.mp hi;have a1:=hf (3*i+1) (by lia);have a2:=hf (3*i+2) (by lia);have i1:aT (.lst<|W.map .str) (.int<|(i:Nat)*3+1)=.ok (.str<|f<|3*i+1):=(ij (j:=3*i+1) (by push_cast;lia) (by rw[A04,a1];rfl)).2;have i2:aT (.lst<|W.map .str) (.int<|(i:Nat)*3+2)=.ok (.str<|f<|3*i+2):=(ij (j:=3*i+2) (by push_cast;lia) (by rw[A04,a2];rfl)).2;have d1:=iq _<|hw _<|A33 a1;have d2:=iq _<|hw _<|A33 a2;generalize D.lst (W.map .str)=WD at i1 i2 ⊢;simp -implicitDefEqProofs [i1,i2,d1,d2,line]
  .rw[A68.mpr λ _ _=>rfl]
 refine⟨(FB n).map λ i=>(oB<|f<|3*i+1,oB<|f<|3*i+2),?_,by simp;lia,?_⟩
 .intro p hp;obtain⟨i,_,rfl⟩:=A18.mp hp;exact⟨k? _,k? _⟩
 rw[zA];refine aJ ?_;have g1:((W.length:Int)-2)<=1000000000:=by lia
 have g0:-1000000000<=((W.length:Int)-2):=by lia
 have hr:n<=16777216:=by lia
 have hb:Vp (.int 0) (.int<|(W.length:Int)-2) (.int 3)=.ok ((FB n).map λ n=>D.int<|(n:Nat)*3):=by rw[YL,guard_pos ⟨rfl,by decide,by decide,g0,g1⟩,<-hn,e3]
 have oL:dM (.lst<|W.map .str)=.ok (.int (W.length:Int)):=by
  have:(W.map D.str).length<=16777216:=by rw[A09];lia
  first|(rw[<-A09 (f:=D.str)];rfl)|simp[line,this]
 simp -implicitDefEqProofs [mE,oL,hb,bX,eZ,line,hr];refine ec.imp ?_;rintro ds rfl;simp
theorem JC(cs:γ Nat)(h:cs.length<=16777216):∃a m b,a.length<=cs.length/\b.length<=cs.length/\((m=[120]/\cs=a++120::b/\120∉a)\/(m=[]/\a=cs/\b=[]/\120∉cs))/\kG (.str cs) (.str [120])=.ok (.tup [.str a,.str m,.str b]):=by
 have hp:kG (.str cs) (.str [120])=.ok _:=guard_pos h;by_cases hm:120∈cs
 .have hex:∃a b,cs=a++120::b/\120∉a:=by
   rcases y! cs 120 with⟨_,hn⟩|⟨i,r,_,hi,hmn⟩
   .exact absurd hm hn
   .refine⟨cs.take i,cs.drop<|i+1,?_,?_⟩
    .obtain⟨Hb,hie⟩:=A10.mp hi;have h1:=B19 Hb;rw[hie]at h1;rw[<-h1,C30]
    .intro ab3;obtain⟨k,hk⟩:=C29.mp ab3;rw[List.getElem?_take]at hk;split at hk
     .rename_i hki;exact hmn k hki hk
     .cases hk
  obtain⟨a,b,hab,hna⟩:=hex;subst hab;rw[pJ hna]at hp;exact⟨a,[120],b,by rw[A20];lia,by rw[A20,A24];lia,.inl ⟨rfl,rfl,hna⟩,hp⟩
 .rw[xB hm]at hp;exact⟨cs,[],[],M2 _,by simp,.inr ⟨rfl,rfl,rfl,hm⟩,hp⟩
theorem z7{W:Rows}(hl:W.length<=100000)(hT:T.length<10)(x4:ε L):
 Ok (bf 4 (.str key) [v (.lst<|W.map .str),x1,AC (.Af T),vi (at':Nat),x4]) λ ρ1=>Ok (bG ρ1) λ fl=>∃T' a',(T'=T\/∃val∈W,T'=qF T key val)/\fl=.nx [v (.lst<|W.map .str),x1,AC (.Af T'),vi (a':Nat),vs key]:=by
 by_cases h:∃val,W[at']?=AC key/\W[at'+1]?=AC val
 .obtain⟨val,h1,h2⟩:=h;refine(UA (x1:=x1) h1 h2 hl hT x4).imp λ ρ1 h=>h.imp λ fl e=>?_;exact⟨_,_,.inr ⟨val,A33 h2,rfl⟩,e⟩
 .by_cases hk:W[at']?=AC key
  .-- MI word aak at MI end
   have hn:=λ rf=>h ⟨W[at'+1],hk,A01 rf⟩;have q:¬((at':Nat))+1<(W.length:Int):=by lia
   have BA:W.length<=16777216:=by lia
   have:Ok (bf 4 (.str key) [v (.lst<|W.map .str),x1,AC (.Af T),vi (at':Nat),x4]) λ ρ1=>Ok (bG ρ1) λ fl=>fl=.nx [v (.lst<|W.map .str),x1,AC (.Af T),vi (at':Nat),vs key]:=by simp -implicitDefEqProofs [bG,BA,q,line]
   exact this.imp λ ρ1 h=>h.imp λ fl e=>⟨_,_,.inl rfl,e⟩
  .refine(Pk (x1:=x1) (x2:=AC (.Af T)) (WD:=W) (at':=at') (key:=key) (λ w hw e=>hk (by rw[hw,e])) hl x4).imp λ ρ1 h=>h.imp λ fl e=>?_;exact⟨_,_,.inl rfl,e⟩
theorem Hj{W:Rows}(h2:2<=W.length)(hl:W.length<=100000)(hw:∀x∈W,x.length<=16777216):∃(nm kd:γ Nat)(N1 N2 N4 N5 N6:D)(ps:γ (D×D)),nm∈W/\(kd=[]\/kd∈W)/\Nm N1/\Nm N2/\Nm N4/\Nm N5/\Nm N6/\(∀p∈ps,Nm p.1/\Nm p.2)/\ps.length<=100000 /\
 j5 [.lst (W.map .str)]=.ok (.tup [.str nm,N1,N2,.str kd,N4,N5,N6,.tup (ps.map λ p=>.tup [p.1,p.2])]):=by
 have l0:0<W.length:=by lia
 have l1:1<W.length:=by lia
 have i0:aT (.lst<|W.map .str) (.int 0)=.ok (.str W[0]):=(ij (j:=0) rfl (by rw[A04,A01 l0];rfl)).2;have i1:aT (.lst<|W.map .str) (.int 1)=.ok (.str W[1]):=(ij (j:=1) rfl (by rw[A04,A01 l1];rfl)).2;have m0:W[0]∈W:=A89 l0;have m1:W[1]∈W:=A89 l1;obtain⟨sa,sm,sb,hsa,_p,_,ep⟩:=JC W[1] (hw _ m1);have _o:=hw _ m1;have:Ok (bH<|lO [v (.lst<|W.map .str),Ch,Ch,Ch,Ch]) λ d=>∃(kd:γ Nat)(N1 N2 N4 N5 N6:D)(ps:γ (D×D)),(kd=[]\/kd∈W)/\Nm N1/\Nm N2/\Nm N4/\Nm N5/\Nm N6/\(∀p∈ps,Nm p.1/\Nm p.2)/\ps.length<=100000 /\
  d=.tup [.str W[0],N1,N2,.str kd,N4,N5,N6,.tup (ps.map λ p=>.tup [p.1,p.2])]:=by
  refine qE ?_;rw[hbg];refine oj (ρ1:=[v (.lst<|W.map .str),v (.tup [.str sa,.str sm,.str sb]),Ch,Ch,Ch]) (by simp -implicitDefEqProofs [bg1,i1,ep]) ?_;refine oj (ρ1:=[v (.lst<|W.map .str),v (.tup [.str sa,.str sm,.str sb]),td [] [48] [48] [48],Ch,Ch]) ⟨_,rfl,rfl⟩ ?_;refine oj (ρ1:=[v (.lst<|W.map .str),v (.tup [.str sa,.str sm,.str sb]),td [] [48] [48] [48],vi 2,Ch]) ⟨_,rfl,rfl⟩ ?_;rw[oq,Aa];have b4:Ok (bg4 [v (.lst<|W.map .str),v (.tup [.str sa,.str sm,.str sb]),td [] [48] [48] [48],vi 2,Ch]) λ fl=>∃a b c d n x4,(a=[]\/a∈W)/\(b=[48]\/b∈W)/\(c=[48]\/c∈W)/\(d=[48]\/d∈W)/\fl=.nx [v (.lst<|W.map .str),v (.tup [.str sa,.str sm,.str sb]),td a b c d,vi (n:Nat),x4]:=by
   have hi:∀ρ,gi (cZ<|aa (eC<|.str [107,105,110,100])<|aa (eC<|.str [119,105,100,101])<|aa (eC<|.str [103,97,112])<|aa (eC<|.str [119,111,114,116,104]) az) ρ=.ok [.str dQ,.str cu,.str eE,.str bz]:=λ ρ=>by show(guard ([D.str dQ,.str cu,.str eE,.str bz].length<=line)<|Res.ok<|D.tup [.str dQ,.str cu,.str eE,.str bz]).bind lU=_;rw[guard_pos (by simp[line])];rfl
   unfold bg4;rw[C1,hi,Res.fB];have P1:∀a b c d v,qF [(dQ,a),(cu,b),(eE,c),(bz,d)] dQ v=[(dQ,v),(cu,b),(eE,c),(bz,d)]:=λ _ _ _ _ _=>rfl;have P2:∀a b c d v,qF [(dQ,a),(cu,b),(eE,c),(bz,d)] cu v=[(dQ,a),(cu,v),(eE,c),(bz,d)]:=λ _ _ _ _ _=>rfl;have P3:∀a b c d v,qF [(dQ,a),(cu,b),(eE,c),(bz,d)] eE v=[(dQ,a),(cu,b),(eE,v),(bz,d)]:=λ _ _ _ _ _=>rfl;have P4:∀a b c d v,qF [(dQ,a),(cu,b),(eE,c),(bz,d)] bz v=[(dQ,a),(cu,b),(eE,c),(bz,v)]:=λ _ _ _ _ _=>rfl;refine jF<|(z7 hl (at':=2) (by show 4<10;decide) Ch).imp λ ρ1 h=>h.imp ?_;rintro fl ⟨T1,a1,hT1,rfl⟩;rw[kT];obtain⟨a,rfl,ha⟩:∃a,T1=[(dQ,a),(cu,[48]),(eE,[48]),(bz,[48])]/\(a=[]\/a∈W):=by
    rcases hT1 with rfl|⟨x,hx,rfl⟩
    .exact⟨[],rfl,.inl rfl⟩
    .exact⟨x,P1 _ _ _ _ _,.inr hx⟩
   refine jF<|(z7 hl (by show 4<10;decide) _).imp λ ρ1 h=>h.imp ?_;rintro fl ⟨T2,a2,hT2,rfl⟩;rw[kT];obtain⟨b,rfl,hb⟩:∃b,T2=[(dQ,a),(cu,b),(eE,[48]),(bz,[48])]/\(b=[48]\/b∈W):=by
    rcases hT2 with rfl|⟨x,hx,rfl⟩
    .exact⟨[48],rfl,.inl rfl⟩
    .exact⟨x,P2 _ _ _ _ _,.inr hx⟩
   refine jF<|(z7 hl (by show 4<10;decide) _).imp λ ρ1 h=>h.imp ?_;rintro fl ⟨T3,a3,hT3,rfl⟩;rw[kT];obtain⟨c,rfl,hc⟩:∃c,T3=[(dQ,a),(cu,b),(eE,c),(bz,[48])]/\(c=[48]\/c∈W):=by
    rcases hT3 with rfl|⟨x,hx,rfl⟩
    .exact⟨[48],rfl,.inl rfl⟩
    .exact⟨x,P3 _ _ _ _ _,.inr hx⟩
   refine jF<|(z7 hl (by show 4<10;decide) _).imp λ ρ1 h=>h.imp ?_;rintro fl ⟨T4,a4,hT4,rfl⟩;rw[kT];obtain⟨d,rfl,hd⟩:∃d,T4=[(dQ,a),(cu,b),(eE,c),(bz,d)]/\(d=[48]\/d∈W):=by
    rcases hT4 with rfl|⟨x,hx,rfl⟩
    .exact⟨[48],rfl,.inl rfl⟩
    .exact⟨x,P4 _ _ _ _ _,.inr hx⟩
   exact FC ⟨a,b,c,d,a4,_,ha,hb,hc,hd,rfl⟩
  refine b4.imp ?_;rintro fl ⟨a,b,c,d,n,x4,ha,hb,hc,hd,rfl⟩;rw[mS];have hx:∀{x:γ Nat},(x=[48]\/x∈W)->x.length<=16777216:=λ {x} h=>by
   rcases h with rfl|h
   .decide
   .exact hw x h
  have n1:=iq sa (by lia);have n2:=iq sb (by lia);have n4:=iq b<|hx hb;have n5:=iq c<|hx hc;have n6:=iq d<|hx hd;have v1:∀a b c d:γ Nat,uc [(dQ,a),(cu,b),(eE,c),(bz,d)] dQ=AC a:=λ a b c d=>rfl;have v2:∀a b c d:γ Nat,uc [(dQ,a),(cu,b),(eE,c),(bz,d)] cu=AC b:=λ a b c d=>rfl;have v3:∀a b c d:γ Nat,uc [(dQ,a),(cu,b),(eE,c),(bz,d)] eE=AC c:=λ a b c d=>rfl;have v4:∀a b c d:γ Nat,uc [(dQ,a),(cu,b),(eE,c),(bz,d)] bz=AC d:=λ a b c d=>rfl;obtain⟨X,hX,hXl,hXw⟩:∃X:Rows,cut (W.map D.str) (AC (n:Int)) Ch=X.map D.str/\X.length<=100000/\∀x∈X,x.length<=16777216:=by refine⟨cut W (AC (n:Int)) Ch,?_,A23 (Z.mZ W _ _) hl,λ x hx=>hw x<|Ff hx⟩;simp only[cut,A09,AD6,List.map_drop]
  obtain⟨ps,hps,dX,ew⟩:=Cw X hXl hXw;have j0:aT (.tup [.str sa,.str sm,.str sb]) (.int 0)=.ok (.str sa):=rfl;have j2:aT (.tup [.str sa,.str sm,.str sb]) (.int 2)=.ok (.str sb):=rfl;generalize W.map D.str=WD at i0 hX ⊢;generalize X.map D.str=XD at hX ew;have hv:bg5 [v (.lst WD),v (.tup [.str sa,.str sm,.str sb]),td a b c d,vi (n:Nat),x4]=.ok (.rt<|.tup [.str W[0],oB sa,oB sb,.str a,oB b,oB c,oB d,.tup (ps.map λ p=>.tup [p.1,p.2])]):=by simp -implicitDefEqProofs [bg5,i0,j0,j2,n1,n2,n4,n5,n6,Kk,hX,ew,v1,v2,v3,v4,line,guard_pos]
  rw[hv];exact⟨_,rfl,_,rfl,a,_,_,_,_,_,ps,ha,k? _,k? _,k? _,k? _,k? _,hps,dX,rfl⟩
 rw[<-BQ]at this;obtain⟨d,e,kd,N1,N2,N4,N5,N6,ps,h⟩:=this;obtain⟨hk,h1,KQ,h4,h5,h6,hp,dX,rfl⟩:=h;exact⟨W[0],kd,N1,N2,N4,N5,N6,ps,m0,hk,h1,KQ,h4,h5,h6,hp,dX,e⟩
def Cj(d:D)(a b:Int):Bool:=match d with
|.int n=>decide<|a<=n/\n<=b
|_=>AT
theorem kz(h:Nm d)(a b:Int):aZ [d,.int a,.int b]=.ok (.bl<|Cj d a b):=by
 rcases h with rfl|⟨n,_,rfl⟩
 .exact ua a b
 .exact within_int n a b
theorem yj(h:Nm d)(a:Int):eA [d,.int a]=.ok (.bl<|Cj d a<|10^60-1):=by
 rcases h with rfl|⟨n,_,rfl⟩
 .exact Et a
 .exact o7 n a
theorem lq(hN:Nm d)(h:Cj d a b=Da):∃n:Nat,d=.int n/\a<=n/\(n)<=b/\n<10^60:=by
 rcases hN with rfl|⟨n,hn,rfl⟩
 .cases h
 .have:=A58 h;exact⟨n,rfl,this.1,this.2,hn⟩
def pairD(p:D×D):D:=.tup [p.1,p.2]
def nD(p:D×D):Bool:=Cj p.1 0 5&&Cj p.2 1 (10^60-1)
theorem Mt(h:Nm p.1/\Nm p.2):gm [pairD p]=.ok (.bl<|nD p):=by have i0:aT (pairD p) (.int 0)=.ok p.1:=rfl;have i1:aT (pairD p) (.int 1)=.ok p.2:=rfl;have w1:=kz h.1 0 5;have w2:=yj h.2 1;have ty:cF .tuple (pairD p)=Da:=rfl;have ln:dM (pairD p)=.ok _:=rfl;rw[vE];refine aJ ?_;unfold nD;cases h1:Cj p.1 0 5<;>simp -implicitDefEqProofs [m6,ty,ln,i0,i1,w1,w2,h1]
theorem nC{ps:γ _}(hp:∀p∈ps,Nm p.1/\Nm p.2):Ok (bU (bf 0) cy (aA gm<|aa (eV 0) az) [Ch]<|ps.map pairD) λ ds=>ds=ps.map λ p=>D.bl (nD p):=
 cL pairD (λ _=>Da) (λ p=>.bl<|nD p) (λ p X3=>by simp -implicitDefEqProofs [Mt<|hp p X3]) (by rw[A68.mpr λ _ _=>rfl])
theorem Cu{ps:γ _}(hp:∀p∈ps,Nm p.1/\Nm p.2)(h:ps.all nD=Da):∃ws:γ _,(∀p∈ws,p.1<=5/\1<=p.2/\p.2<10^60)/\ps.map pairD=ws.map ic:=by
 induction ps with
 |nil=>exact⟨[],by simp,rfl⟩
 |cons p r ih=>
  rw[B45,A35]at h;obtain⟨ws,h1,h2⟩:=ih (λ q hq=>hp q<|A07 _ hq) h.2;obtain⟨hp1,hp2⟩:=hp p A22;have hw:=h.1;unfold nD at hw;rw[A35]at hw;obtain⟨a,ea,ha1,ha2,_⟩:=lq hp1 hw.1;obtain⟨b,eb,_w,hb2,hb3⟩:=lq hp2 hw.2;refine⟨(a,b)::ws,?_,?_⟩
  .intro q hq;rcases o0.mp hq with rfl|hq
   .exact⟨by lia,by lia,hb3⟩
   .exact h1 q hq
  .rw[A06,A06,h2];show D.tup [p.1,p.2]::_=_;rw[ea,eb];rfl
theorem Jk:∀ws:γ (Nat×Nat),((FB<|ws.length - 1).all λ n=>decide<|(ws.getD n (0,0)).1<(ws.getD (n+1) (0,0)).1)=Da↔(ws.map (·.1)).Pairwise (· < ·):=by
 intro ws;constructor
 .intro h;rw[A28]at h;have step:∀n,n+1<ws.length->(ws.getD n (0,0)).1<(ws.getD _ (0,0)).1:=λ n hn=>A58<|h n<|A38.mpr (by lia);have mono:∀m n,n<m->m<ws.length->(ws.getD n (0,0)).1<(ws.getD m (0,0)).1:=by
   intro m
   induction m with
   |zero=>intro n hn;cases hn
   |succ m ih=>
    intro n hn hm;rcases Nat.lt_or_ge n m with h|h
    .exact B16 (ih n h (by lia))<|step m hm
    .have:n=m:=by lia
     subst this;exact step n hm
  rw[B33];intro i j hi hj wc;have Mf:i<ws.length:=by simpa using hi
  have Ha:j<ws.length:=by simpa using hj
  have:=mono j i wc Ha;simpa[A94,A01 Mf,A01 Ha]using this
 .intro h;rw[A28];intro n hn;have Me:=A38.mp hn;have l1:n<ws.length:=by lia
  have l2:n+1<ws.length:=by lia
  have:=B33.mp h n (n+1) (by simp;lia) (by simp;lia) (by lia);refine A42 ?_;simpa[A94,A01 l1,A01 l2]using this
theorem Jl(ws:γ (Nat×Nat)):Ok (bU (bf 0) cy (eB oLt (eB aT (eB aT (eW 1)<|eW 0)<|eC<|.int 0)<|eB aT (eB aT (eW 1)<|eB aU (eW 0)<|eC<|.int 1)<|eC<|.int 0) [Ch,v (.tup<|ws.map ic)]<|(FB<|ws.length-1).map λ n=>D.int (n:Nat)) λ ds=>ds=(FB<|ws.length-1).map λ n=>D.bl (decide<|(ws.getD n (0,0)).1<(ws.getD (n+1) (0,0)).1):=
 cL (λ n=>D.int (n:Nat)) (λ _=>Da) (λ n=>.bl<|decide<|(ws.getD n (0,0)).1<(ws.getD (n+1) (0,0)).1) (λ n hn=>by
  have Me:=A38.mp hn;have l1:n<ws.length:=by lia
  have l2:n+1<ws.length:=by lia
  have i1:aT _ (.int<|n)=.ok (ic ws[n]):=(ij rfl (by rw[A04,A01];rfl)).1;have i2:aT (.tup<|ws.map ic) (.int<|(n)+1)=.ok (ic ws[n+1]):=(ij (j:=n+1) (by lia) (by rw[A04,A01];rfl)).1;have j1:∀p,aT (ic p) (.int 0)=.ok (.int p.1):=λ p=>rfl;have g1:ws.getD n (0,0)=ws[n]:=by rw[A94,A01];rfl
  have g2:ws.getD (n+1) (0,0)=ws[n+1]:=by rw[A94,A01];rfl
  rw[g1,g2];generalize D.tup (ws.map ic)=WW at i1 i2 ⊢;simp -implicitDefEqProofs [i1,i2,j1]) (by rw[A68.mpr λ _ _=>rfl])
theorem Pu{ps:γ (D×D)}(hp:∀p∈ps,Nm p.1/\Nm p.2)(hl:ps.length<=100000):(∃b,fX [.tup (ps.map pairD)]=.ok (.bl b)/\(b=Da->∃ws:γ (Nat×Nat),(∀p∈ws,p.1<=5/\1<=p.2/\p.2<10^60)/\(ws.map (·.1)).Pairwise (· < ·)/\ps.map pairD=ws.map ic)):=by
 have BA:ps.length<=16777216:=by lia
 have aw:=all_map nD ps;cases hb:ps.all nD with
 |false=>
  rw[hb]at aw;refine⟨AT,?_,λ z=>nomatch z⟩;rw[km];refine aJ ?_;simp -implicitDefEqProofs [hZ,cF,line,BA,bX,eZ];refine(nC hp).imp ?_;rintro ds rfl;have:fP (.lst<|ps.map λ p=>D.bl<|nD p)=.ok (.bl AT):=by simp only[fP,aw]
  rw[this];simp
 |true=>
  rw[hb]at aw;obtain⟨ws,h1,h2⟩:=Cu hp hb;have ψ:ps.length=ws.length:=by have:=A11 List.length h2;simpa using this
  have aw2:=all_map (λ n=>decide<|(ws.getD n (0,0)).1<(ws.getD (n+1) (0,0)).1)<|List.range<|ws.length-1;have e1:«zints» 0 (ws.length-1)=(FB<|ws.length-1).map λ n=>D.int (n:Nat):=by exact A80 λ n _=>by simp
  refine⟨_,?_,λ z=>⟨ws,h1,(Jk ws).mp z,h2⟩⟩;rw[km];refine aJ ?_;simp -implicitDefEqProofs [hZ,cF,line,BA,bX,eZ];refine(nC hp).imp ?_;rintro ds rfl;have:fP (.lst<|ps.map λ p=>D.bl<|nD p)=.ok (.bl Da):=by simp only[fP,aw]
  rw[this,h2];have OC:ws.length<=16777216:=by lia
  simp -implicitDefEqProofs [line,OC];rw[ψ,e1];refine⟨by lia,(Jl ws).imp ?_⟩;rintro ds rfl;simp only[fP,aw2];simp
theorem JY(h:lS cs=Da):lP cs:=by unfold lS at h;rw[A35,A93,A28]at h;exact⟨h.1.1,h.1.2,λ c hc=>A58<|h.2 c hc⟩
theorem Km(h:kindB cs=Da):cs=[]\/∃c∈a9,cs=[c]:=by
 unfold kindB at h;rw[B86,A32,A35,A93,A28]at h;rcases h with h|⟨h1,h2⟩
 .exact .inl h
 .obtain⟨c,rfl⟩:=List.length_eq_one_iff.mp h1;exact .inr ⟨c,A58<|h2 c (by simp),rfl⟩
theorem LQ(hk:kd.length<=16777216)(h1:Nm N1)(h2:Nm N2)(h4:Nm N4)(h5:Nm N5):∃b,dG [.tup [.str nm,N1,N2,.str kd,N4,N5,N6,X]]=.ok (.bl b) /\
 (b=Da->∃w d wi ga:Nat,N1=.int w/\N2=.int d/\N4=.int wi/\N5=.int ga/\1<=w/\w<=12/\1<=d/\d<=3/\wi<=w*d/\ga<=6/\kindB kd=Da):=by
 have i1:aT (.tup [.str nm,N1,N2,.str kd,N4,N5,N6,X]) (.int 1)=.ok N1:=rfl;have i2:aT (.tup [.str nm,N1,N2,.str kd,N4,N5,N6,X]) (.int 2)=.ok N2:=rfl;have i3:aT (.tup [.str nm,N1,N2,.str kd,N4,N5,N6,X]) (.int 3)=.ok _:=rfl;have i4:aT (.tup [.str nm,N1,N2,.str kd,N4,N5,N6,X]) (.int 4)=.ok N4:=rfl;have i5:aT (.tup [.str nm,N1,N2,.str kd,N4,N5,N6,X]) (.int 5)=.ok N5:=rfl;generalize D.tup [.str nm,N1,N2,.str kd,N4,N5,N6,X]=GG at i1 i2 i3 i4 i5 ⊢;have w1:=kz h1 1 12;have w2:=kz h2 1 3;have w5:=kz h5 0 6;have wk:=Fn kd hk;rw[j6];cases b1:Cj N1 1 12 with
 |false=>rw[b1]at w1;exact⟨AT,aJ (by simp -implicitDefEqProofs [bV,i1,w1]),λ z=>nomatch z⟩
 |true=>
  rw[b1]at w1;obtain⟨w,rfl,_o,Va,_⟩:=lq h1 b1;cases b2:Cj N2 1 3 with
  |false=>rw[b2]at w2;exact⟨AT,aJ (by simp -implicitDefEqProofs [bV,i1,i2,w1,w2]),λ z=>nomatch z⟩
  |true=>
   rw[b2]at w2;obtain⟨d,rfl,_u,hd2,_⟩:=lq h2 b2;have m:cm (w) (d):=eN (by lia) (by lia);have w4:=kz h4 0<|(w)*(d);cases b4:Cj N4 0 _ with
   |false=>rw[b4]at w4;exact⟨AT,aJ (by simp -implicitDefEqProofs [bV,i1,i2,i4,w1,w2,w4,m]),λ z=>nomatch z⟩
   |true=>
    rw[b4]at w4;obtain⟨wi,rfl,agK,abH,_⟩:=lq h4 b4;cases bk:kindB kd with
    |false=>rw[bk]at wk;exact⟨AT,aJ (by simp -implicitDefEqProofs [bV,i1,i2,i3,i4,w1,w2,w4,wk,m]),λ z=>nomatch z⟩
    |true=>rw[bk]at wk;refine⟨Cj N5 0 6,aJ (by simp -implicitDefEqProofs [bV,i1,i2,i3,i4,i5,w1,w2,w4,w5,wk,m]),λ z=>?_⟩;obtain⟨ga,rfl,hg1,hg2,_⟩:=lq h5 z;exact⟨w,d,wi,ga,rfl,rfl,rfl,rfl,by lia,by lia,by lia,by lia,by exact_mod_cast abH,by lia,rfl⟩
theorem DY{ps:γ (D×D)}(hn:nm.length<=16777216)(hk:kd.length<=16777216)(h1:Nm N1)(h2:Nm N2)(h4:Nm N4)(h5:Nm N5)(h6:Nm N6)(hp:∀p∈ps,Nm p.1/\Nm p.2)(dX:ps.length<=100000):
 ∃b,d7 [.tup [.str nm,N1,N2,.str kd,N4,N5,N6,.tup (ps.map pairD)]]=.ok (.bl b)/\(b=Da->∃g,o! g/\D.tup [.str nm,N1,N2,.str kd,N4,N5,N6,.tup (ps.map pairD)]=da g):=by
 have i0:aT (.tup [.str nm,N1,N2,.str kd,N4,N5,N6,.tup (ps.map pairD)]) (.int 0)=.ok _:=rfl;have i6:aT (.tup [.str nm,N1,N2,.str kd,N4,N5,N6,.tup (ps.map pairD)]) (.int 6)=.ok N6:=rfl;have i7:aT (.tup [.str nm,N1,N2,.str kd,N4,N5,N6,.tup (ps.map pairD)]) (.int 7)=.ok (.tup<|ps.map pairD):=rfl;have ty:cF .tuple (.tup [.str nm,N1,N2,.str kd,N4,N5,N6,.tup (ps.map pairD)])=Da:=rfl;have ln:dM (.tup [.str nm,N1,N2,.str kd,N4,N5,N6,.tup (ps.map pairD)])=.ok (.int 8):=rfl;have wn:=tU nm hn;obtain⟨ba,wa,ha⟩:=LQ (nm:=nm) (N6:=N6) (X:=.tup (ps.map pairD)) hk h1 h2 h4 h5;have w6:=yj h6 0;obtain⟨bw,ww,hw⟩:=Pu hp dX;obtain⟨GG,hGG⟩:∃GG,GG=D.tup [.str nm,N1,N2,.str kd,N4,N5,N6,.tup (ps.map pairD)]:=⟨_,rfl⟩
 rw[<-hGG]at i0 i6 i7 ty ln wa ⊢;rw[sf];cases bn:lS nm with
 |false=>rw[bn]at wn;exact⟨AT,aJ (by simp -implicitDefEqProofs [gv,ty,ln,i0,wn]),λ z=>nomatch z⟩
 |true=>
  rw[bn]at wn;cases ba with
  |false=>exact⟨AT,aJ (by simp -implicitDefEqProofs [gv,ty,ln,i0,wn,wa]),λ z=>nomatch z⟩
  |true=>
   cases b6:Cj N6 0 (10^60-1)with
   |false=>rw[b6]at w6;exact⟨AT,aJ (by simp -implicitDefEqProofs [gv,ty,ln,i0,i6,wn,wa,w6]),λ z=>nomatch z⟩
   |true=>
    rw[b6]at w6;refine⟨bw,aJ (by simp -implicitDefEqProofs [gv,ty,ln,i0,i6,i7,wn,wa,w6,ww]),λ z=>?_⟩;obtain⟨ws,_o,Va,XY⟩:=hw z;obtain⟨w,d,wi,ga,rfl,rfl,rfl,rfl,q1,q2,q3,q4,q5,q6,q7⟩:=ha rfl;obtain⟨wo,rfl,_,_,hwo⟩:=lq h6 b6;have hN:=JY bn;have OC:ws.length<=6:=by
     have hs:∀l m,l.Pairwise (· < ·)->(∀x∈l,m<=x/\x<=5)->l.length+m<=6\/l=[]:=by
      intro l
      induction l with
      |nil=>intro m _ _;exact .inr rfl
      |cons a r ih=>
       intro m hp hm;left;obtain⟨hm1,hm2⟩:=hm a A22;rcases ih (a+1) (B34.mp hp).2 (λ x hx=>⟨(B34.mp hp).1 x hx,(hm x<|A07 _ hx).2⟩)with h|h
       .simp only[A24];lia
       .rw[h];simp only[A24,A79];lia
     rcases hs (ws.map (·.1)) 0 Va (λ x hx=>by obtain⟨p,hp,rfl⟩:=A18.mp hx;exact⟨by lia,(_o p hp).1⟩)with h|h
     .simpa using h
     .rw[List.map_eq_nil_iff.mp h];decide
    refine⟨⟨nm,w,d,kd,wi,ga,wo,ws⟩,⟨hN.1,hN.2.1,hN.2.2,q1,q2,q3,q4,Km q7,q5,q6,hwo,OC,_o,Va⟩,?_⟩;rw[hGG,XY];rfl
theorem Uj(c:Nat):∀cs,eY c cs≠[]
|[]=>by simp[eY]
|x::r=>by
 rw[eY];split
 .simp
 .split<;>simp
theorem B3(c:Nat):∀cs,(eY c cs).length<=cs.length+1/\∀x∈eY c cs,x.length<=cs.length
|[]=>by simp[eY]
|y::r=>by
 obtain⟨h1,h2⟩:=B3 c r;rw[eY];split
 .refine⟨by simp;lia,λ x hx=>?_⟩;rcases o0.mp hx with rfl|hx
  .simp
  .have:=h2 x hx;simp;lia
 .split
  .rename_i e;exact absurd e<|Uj c r
  .rename_i p ps e;rw[e]at h1 h2;refine⟨by simp at h1 ⊢;lia,λ x hx=>?_⟩;rcases o0.mp hx with rfl|hx
   .have:=h2 p A22;simp;lia
   .have:=h2 x<|A07 _ hx;simp;lia
end KS
set_option maxRecDepth 4000
namespace KG
open Z
def t9:SF:=(aY<|QF (eB Dj (eW 0)<|cZ<|aa (eC<|.str [46])<|aa (eC<|.str [61]) az)<|eB oEq (eW 0)<|eW 1)
def p6:γ D->Res D:=fn 2 2 t9
theorem K6(x0 x1:D):p6 [x0,x1]=bH (t9 [AC (.val x0),AC (.val x1)]):=cC _ _ _ _ rfl
def o4:SF:=(aN (qC 2<|bC az)<|aN (iR (By (eB aT (eW 1)<|eC<|.int 0)<|eB aU (eB aT (eW 1)<|eC<|.int 0)<|eB aT (eW 0)<|eC<|.int 2) (bf 3)<|sG 2<|cP (By (eB aT (eW 1)<|eC<|.int 1)<|eB aU (eB aT (eW 1)<|eC<|.int 1)<|eB aT (eW 0)<|eC<|.int 1) 1 [3] (bf 0) cy<|cZ<|aa (eV 1)<|aa (eV 0) az)<|aY<|eU jw<|eW 2)
def j4:γ D->Res D:=fn 2 4 o4
theorem BN(x0 x1:D):j4 [x0,x1]=bH (o4 [AC (.val x0),AC (.val x1),Ch,Ch]):=cC _ _ _ _ rfl
def cx:SF:=(aN (fA (tE<|eB oLt (eW 1)<|eU dM<|eW 0) (aY<|eB aT (eW 0)<|eW 1) a5)<|aY<|eC<|.int 0)
def bh:γ D->Res D:=fn 2 2 cx
theorem fq(x0 x1:D):bh [x0,x1]=bH (cx [AC (.val x0),AC (.val x1)]):=cC _ _ _ _ rfl
def iC:SF:=(aN (a6 2<|eB aT (eW 1)<|eC<|.int 0)<|aN (a6 3<|eB aT (eW 1)<|eC<|.int 1)<|aN (fA (CO (tE<|iA oLe oLt (eC<|.int 0) (eW 2)<|eU dM<|eW 0)<|tE<|iA oLe oLt (eC<|.int 0) (eW 3)<|eU dM<|eB aT (eW 0)<|eC<|.int 0) (aY<|eB aT (eB aT (eW 0)<|eW 2)<|eW 3) a5)<|aY<|eC .non)
def ly:γ D->Res D:=fn 2 4 iC
theorem D5(x0 x1:D):ly [x0,x1]=bH (iC [AC (.val x0),AC (.val x1),Ch,Ch]):=cC _ _ _ _ rfl
def Eo:SF:=(aN (a6 3<|eL<|cP (gi<|aA j4<|aa (eV 1)<|aa (eV 2) az) 1 [0] (bf 0) cy<|aA ly<|aa (eV 1)<|aa (eV 0) az)<|aN (fA (fz<|tE<|eU fP<|eL<|cP (gi<|eW 3) 1 [1] (bf 0) cy<|aA p6<|aa (eV 0)<|aa (eB aT (eW 1)<|eC<|.int 3) az) (aY<|eC<|.bl AT) a5)<|aY<|eB Z1 (eB y_ (eW 3)<|eC<|.str [61])<|eB aT (eW 1)<|eC<|.int 4)
def p7:γ D->Res D:=fn 3 4 Eo
theorem OQ(x0 x1 x2:D):p7 [x0,x1,x2]=bH (Eo [AC (.val x0),AC (.val x1),AC (.val x2),Ch]):=cC _ _ _ _ rfl
def mF:SF:=(aN (qC 2<|bC az)<|aN (iR (jC<|eU dM<|eW 0) (bf 3)<|sG 2<|cP (jC<|eU dM<|eB aT (eW 0)<|eW 3) 1 [0,1,3] (bf 0) (tE<|aA p7<|aa (eV 1)<|aa (eV 2)<|aa (cZ<|aa (eV 3)<|aa (eV 0) az) az)<|cZ<|aa (eV 3)<|aa (eV 0) az)<|aY<|eU jw<|eW 2)
def gU:γ D->Res D:=fn 2 4 mF
theorem zB(x0 x1:D):gU [x0,x1]=bH (mF [AC (.val x0),AC (.val x1),Ch,Ch]):=cC _ _ _ _ rfl
def m8:SF:=(aN (fA (Ag (tE<|eB oLe (eB aU (eB aT (eW 1)<|eC<|.int 0)<|eB aT (eW 0)<|eC<|.int 2)<|eB aT (eW 3)<|eC<|.int 0)<|tE<|eB oLe (eB aU (eB aT (eW 3)<|eC<|.int 0)<|eB aT (eW 2)<|eC<|.int 2)<|eB aT (eW 1)<|eC<|.int 0) (aY<|eC<|.bl Da) a5)<|aN (a6 4<|eB Ny (eB aT (eW 0)<|eC<|.int 5)<|eB aT (eW 2)<|eC<|.int 5)<|aY<|QF (eB oLe (eB aU (eB aU (eB aT (eW 1)<|eC<|.int 1)<|eB aT (eW 0)<|eC<|.int 1)<|eW 4)<|eB aT (eW 3)<|eC<|.int 1)<|eB oLe (eB aU (eB aU (eB aT (eW 3)<|eC<|.int 1)<|eB aT (eW 2)<|eC<|.int 1)<|eW 4)<|eB aT (eW 1)<|eC<|.int 1)
def p8:γ D->Res D:=fn 4 5 m8
theorem K8(x0 x1 x2 x3:D):p8 [x0,x1,x2,x3]=bH (m8 [AC (.val x0),AC (.val x1),AC (.val x2),AC (.val x3),Ch]):=cC _ _ _ _ rfl
def iB:SF:=(aY<|eL<|cP (Kv (eV 0)<|eV 1) 2 [] (jd [0,1]) (tE<|eU xD<|eW 1)<|cZ<|aa (eV 0)<|aa (eV 1) az)
def cD:γ D->Res D:=fn 2 2 iB
theorem p!(x0 x1:D):cD [x0,x1]=bH (iB [AC (.val x0),AC (.val x1)]):=cC _ _ _ _ rfl
def iE:SF:=(aY<|eU fP<|eL<|cP (gi<|eW 2) 2 [0,1] (jd [0,1]) cy<|aA p8<|aa (eV 2)<|aa (eV 3)<|aa (eV 0)<|aa (eV 1) az)
def dH:γ D->Res D:=fn 3 3 iE
theorem p_(x0 x1 x2:D):dH [x0,x1,x2]=bH (iE [AC (.val x0),AC (.val x1),AC (.val x2)]):=cC _ _ _ _ rfl
def zZ:SF:=(aN (a6 3<|aA cD<|aa (eV 1)<|aa (eV 2) az)<|aN (fA (fz<|tE<|eU fP<|eL<|cP (gi<|eW 3) 2 [0] (jd [0,1]) cy<|aA p7<|aa (eV 2)<|aa (eV 0)<|aa (eV 1) az) (aY<|eC<|.bl AT) a5)<|aY<|eU fP<|eL<|cP (jC<|eU dM<|eW 3) 1 [3] (bf 0) cy<|aA dH<|aa (eB aT (eB aT (eW 1)<|eW 0)<|eC<|.int 0)<|aa (eB aT (eB aT (eW 1)<|eW 0)<|eC<|.int 1)<|aa (eL<|N_ (eW 1) JF<|C9<|eW 0) az)
def mw:γ D->Res D:=fn 3 4 zZ
theorem K7(x0 x1 x2:D):mw [x0,x1,x2]=bH (zZ [AC (.val x0),AC (.val x1),AC (.val x2),Ch]):=cC _ _ _ _ rfl
abbrev Rows:=γ<|γ Nat
abbrev Pl:=Int×Int
structure Hall(rows:Rows)(C:Nat):Prop where
 r1:1<=rows.length
 r2:rows.length<=100
 c1:1<=C
 c2:C<=100
 len:∀x∈rows,x.length=C
set_option genInjectivity false in
structure G where
 name:List Nat
 w:Nat
 d:Nat
 kind:List Nat
 wide:Nat
 gap:Nat
 worth:D
 qp:D
structure GOk(g:G):Prop where
 w1:1<=g.w
 w2:g.w<=13
 d1:1<=g.d
 d2:g.d<=4
 kd:g.kind.length<=1
 wd:g.wide<=100
 gp:g.gap<=100
def jK(rows:Rows):D:=.tup<|rows.map .str
def b_(p:Pl):D:=.tup [.int p.1,.int p.2]
def fI(g:G):D:=.tup [.str g.name,.int g.w,.int g.d,.str g.kind,.int g.wide,.int g.gap,g.worth,g.qp]
def da:ε Nat->D
|some c=>.str [c]
|none=>.non
@[simp] theorem ad4(p:Pl):aT (b_ p) (.int 0)=.ok (.int p.1):=rfl
@[simp] theorem ad3(p:Pl):aT (b_ p) (.int 1)=.ok (.int p.2):=rfl
@[simp] theorem ae0(g:G):aT (fI g) (.int 0)=.ok (.str g.name):=rfl
@[simp] theorem aeZ(g:G):aT (fI g) (.int 1)=.ok (.int g.w):=rfl
@[simp] theorem aeY(g:G):aT (fI g) (.int 2)=.ok (.int g.d):=rfl
@[simp] theorem aeX(g:G):aT (fI g) (.int 3)=.ok (.str g.kind):=rfl
@[simp] theorem aeW(g:G):aT (fI g) (.int 4)=.ok (.int g.wide):=rfl
@[simp] theorem aeV(g:G):aT (fI g) (.int 5)=.ok (.int g.gap):=rfl
@[simp] theorem aeU(g:G):aT (fI g) (.int 6)=.ok g.worth:=rfl
@[simp] theorem aeT(g:G):aT (fI g) (.int 7)=.ok g.qp:=rfl
@[simp] theorem aeI(rows:Rows):dM (jK rows)=.ok (.int rows.length):=by simp[jK]
@[simp] theorem VF(a b:Int):D.tup [.int a,.int b]=b_ (a,b):=rfl
theorem lJ(ρ:Env)(is:γ Nat):eZ ρ is=is.map (qf ρ):=rfl
def B8:ε (ε L)->ε L
|some<|some<|.val d=>AC<|.val d
|some<|some<|.bor d=>AC<|.bor d
|some<|some<|.Aj ks=>AC<|.Aj ks
|_=>Ch
theorem jg(ρ:Env)(i:Nat):qf ρ i=B8 ρ[i]?:=by
 unfold qf B8;cases ρ[i]? with
 |none=>rfl
 |some o=>cases o with
  |none=>rfl
  |some l=>cases l<;>rfl
@[simp] theorem Vn(d:D):B8 (AC<|some<|.bor d)=AC (.bor d):=rfl
@[simp] theorem Vm(ks:γ _):B8 (AC<|some<|.Aj ks)=AC (.Aj ks):=rfl
@[simp] theorem Vl(d:D):B8 (AC<|some<|.val d)=AC (.val d):=rfl
theorem Hall.row(H:Hall rows C)(h:r<rows.length):∃row,rows[r]?=AC row/\row.length=C/\aT (jK rows) (.int r)=.ok (.str row):=by refine⟨rows[r],A01 h,H.len _<|A89 h,(ij rfl ?_).1⟩;rw[A04,A01];rfl
theorem Hall.We(H:Hall rows C):∃row,row.length=C/\aT (jK rows) (.int 0)=.ok (.str row):=by obtain⟨row,_,h1,h2⟩:=H.row H.r1;exact⟨row,h1,h2⟩
def cW(rows:Rows)(p:Pl):ε Nat:=if 0<=p.1/\0<=p.2 then(rows[p.1.toNat]?).bind (λ r=>r[p.2.toNat]?)else Ch
theorem MX(H:Hall rows C){p:Pl}(h1:0<=p.1)(h2:p.1<rows.length)(h3:0<=p.2)(h4:p.2<C):∃row c,aT (jK rows) (.int p.1)=.ok (.str row)/\row.length=C/\aT (.str row) (.int p.2)=.ok (.str [c])/\cW rows p=AC c:=by
 obtain⟨row,e1,hl,e2⟩:=H.row (r:=p.1.toNat) (by lia);rw[C05 h1]at e2;have hc:p.2.toNat<row.length:=by lia
 have BA:=H.c2;refine⟨row,row[p.2.toNat],e2,hl,u? (by lia) (A01 hc) (by simp only[line];lia),?_⟩;simp[cW,h1,h3,e1]
theorem I?(H:Hall rows C){p:Pl}(h:¬(0<=p.1/\p.1<rows.length/\0<=p.2/\p.2<C)):cW rows p=Ch:=by
 unfold cW;by_cases h0:0<=p.1/\0<=p.2
 .rw[f8 h0];cases e:rows[p.1.toNat]? with
  |none=>rfl
  |some row=>obtain⟨h1,h2⟩:=A10.mp e;have:=H.len row<|A33 e;simp only[B96];exact B83 (by lia)
 .rw[v6 h0]
theorem MW(H:Hall rows C)(p:Pl):ly [jK rows,b_ p]=.ok (da<|cW rows p):=by
 rw[D5];refine aJ ?_;obtain⟨We,Tt,e0⟩:=H.We;have BC:=H.c2;have Tr:C<=line:=by simp only[line];lia
 by_cases h:0<=p.1/\p.1<rows.length/\0<=p.2/\p.2<C
 .obtain⟨row,c,e1,_,e2,e3⟩:=MX H h.1 h.2.1 h.2.2.1 h.2.2.2;simp[iC,e0,Tt,Tr,h.1,h.2.1,h.2.2.1,h.2.2.2,e1,e2,e3,da]
 .rw [I? H h];by_cases a1:0<=p.1
  .by_cases a2:p.1<rows.length
   .by_cases a3:0<=p.2
    .have a4:¬p.2<C:=λ z=>h ⟨a1,a2,a3,z⟩;simp[iC,e0,Tt,Tr,a1,a2,a3,a4,da]
    .simp[iC,e0,Tt,Tr,a1,a2,a3,da]
   .simp[iC,e0,Tt,Tr,a1,a2,da]
  .simp[iC,e0,Tt,Tr,a1,da]
def ka(kind:γ Nat):ε Nat->Bool
|some c=>decide<|c=46\/c=61\/kind=[c]
|none=>AT
theorem T5(c:γ Nat):iW (.str c) .non=AC AT:=rfl
theorem K'(c:γ Nat):iW .non (.str c)=AC AT:=rfl
theorem K9(a b:γ Nat):iW (.str a) (.str b)=AC (a==b):=rfl
theorem in2(c:Nat):Dj (.str [c]) (.tup [.str [46],.str [61]])=.ok (.bl<|decide<|c=46\/c=61):=by
 simp only[Dj,h!,K9];by_cases h1:c=46
 .subst h1;rfl
 .by_cases h2:c=61
  .subst h2;rfl
  .have h1':¬46=c:=λ h=>h1 h.symm;have KQ:¬61=c:=λ h=>h2 h.symm;simp[h1,h2,h1',KQ]
theorem IH(s:ε Nat)(k:γ Nat):p6 [da s,.str k]=.ok (.bl<|ka k s):=by
 rw[K6];refine aJ ?_;cases s with
 |none=>simp[t9,da,ka,line,Dj,h!,K',T5,oEq]
 |some c=>
  simp[t9,da,ka,line,in2];by_cases h1:c=46
  .simp[h1]
  .by_cases h2:c=61
   .simp[h2]
   .by_cases h3:k=[c]
    .subst h3;simp[h1,h2]
    .have h3':¬[c]=k:=λ h=>h3 h.symm;simp[h1,h2,h3,h3']
def js(w:Nat)(r c:Int):γ Pl:=(FB w).map λ j=>(r,c+(j:Nat))
def kU(w:Nat)(p:Pl)(n:Nat):γ Pl:=(FB n).flatMap λ i=>js w (p.1+(i:Nat)) p.2
def seats(g:G)(p:Pl):γ Pl:=kU g.w p g.d
theorem rR(w:Nat)(p:Pl)(n:Nat):kU w p (n+1)=kU w p n++js w (p.1+(n)) p.2:=by simp[kU,B01]
theorem yP(w:Nat)(r c:Int):(js w r c).length=w:=by simp[js]
theorem uz(w:Nat)(p:Pl)(n:Nat):(kU w p n).length=n*w:=by
 induction n with
 |zero=>simp[kU]
 |succ n ih=>rw[rR,A20,ih,yP,B62]
theorem ints_map(lo:Int)(n:Nat):zints lo n=(FB n).map λ i=>D.int (lo+(i:Nat)):=rfl
theorem ints_get(h:(zints lo n)[j]?=AC d):j<n/\d=.int (lo+(j)):=by
 rw[ints_map,A04]at h;cases q:(FB n)[j]? with
 |none=>rw[q]at h;cases h
 |some i=>rw[q]at h;obtain⟨h1,h2⟩:=A10.mp q;rw[B00]at h1;rw[B17]at h2;subst h2;simp at h;exact⟨h1,h.symm⟩
theorem toNat_sub(a:Int)(n:Nat):(a+(n)-a).toNat=n:=by lia
theorem Jb(k:GOk g)(p:Pl):j4 [fI g,b_ p]=.ok (.tup<|(seats g p).map b_):=by
 rw[BN];refine aJ ?_;have hw:=k.w2;have hd:=k.d2;simp[o4,toNat_sub];refine iV (λ i ρ=>∃x,ρ=[v _,v _,ow ((kU g.w p i).map b_),x]) ⟨Ch,rfl⟩ ?_ ?_
 .rintro j d ρ hj ⟨x,rfl⟩;obtain⟨hj,rfl⟩:=ints_get hj;simp[bX,toNat_sub,lJ,jg];refine⟨by lia,comp_map (λ d=>.tup [.int (p.1+(j)),d]) ?_ ?_⟩
  .rintro d hd;obtain⟨i,hi⟩:=B35 hd;obtain⟨_,rfl⟩:=ints_get hi;simp[line]
  .refine⟨?_,?_⟩
   .rw[A09,uz,jB];have:j*g.w<=4*13:=A60 (by lia) hw;lia
   .simp[rR,js,ints_map]
 .rintro ρ ⟨x,rfl⟩;simp[seats]
def EJ(rows:Rows)(s:Pl):Bool:=cW rows s==AC 61
def d9(rows:Rows)(g:G)(p:Pl):Bool:=(seats g p).all (λ s=>ka g.kind<|cW rows s)&&decide (g.wide<=(seats g p).countP (EJ rows))
theorem B5(rows:Rows):∀(ss:γ Pl),vN (.str [61]) (ss.map λ s=>da<|cW rows s)=AC (ss.countP<|EJ rows)
|[]=>rfl
|s::ss=>by
 rw[A06,vN,B5,B48];cases e:cW rows s with
 |none=>simp[da,EJ,e,K']
 |some c=>simp[da,EJ,e,K9]
theorem all_map{α:Type}(f:α->Bool)(xs:γ α):allB (xs.map λ x=>D.bl<|f x)=AC (xs.all f):=by
 have:=z9<|xs.map f;rw[A36]at this;rw[show(xs.map λ x=>D.bl _)=xs.map (D.bl∘f)from rfl,this]
 congr 1
 induction xs with
 |nil=>rfl
 |cons x xs ih=>simp
theorem FE(H:Hall rows C)(k:GOk g)(p:Pl):p7 [jK rows,fI g,b_ p]=.ok (.bl<|d9 rows g p):=by
 rw[OQ];refine aJ ?_;have ψ:(seats g p).length<=16777216:=by rw[seats,uz];have:=A60 k.d2 k.w2;lia
 simp[Eo,bX,Jb k,line,lJ,jg,ψ];refine comp_map (λ d=>match d with|.tup [.int a,.int b]=>da<|cW rows (a,b)|_=>.non) ?_ ?_
 .intro d hd;obtain⟨q,_,rfl⟩:=A18.mp hd;simp[MW H];rfl
 .have e1:(List.map b_<|seats g p).map (λ d=>match d with|.tup [.int a,.int b]=>da<|cW rows (a,b)|_=>.non)=(seats g p).map λ s=>da (cW rows s):=by rw[A36];rfl
  rw[e1];simp[bX,line,ψ,lJ,jg];refine comp_map (λ d=>match d with|.str [c]=>.bl<|ka g.kind<|some c|_=>.bl AT) ?_ ?_
  .intro d hd;obtain⟨q,_,rfl⟩:=A18.mp hd;simp[IH];cases cW rows q<;>rfl
  .have e2:((seats g p).map λ s=>da<|cW rows s).map (λ d=>match d with|.str [c]=>D.bl<|ka g.kind<|some c|_=>D.bl AT)=(seats g p).map λ s=>D.bl (ka g.kind<|cW rows s):=by rw[A36];apply A80;intro s _;show(match da (cW rows s)with|.str [c]=>D.bl<|ka g.kind<|some c|_=>D.bl AT)=_;cases cW rows s<;>rfl
   rw[e2];simp only[fP,all_map,Q2];cases ha:(seats g p).all λ s=>ka g.kind (cW rows s)with
   |false=>simp[d9,ha]
   |true=>simp[d9,ha,y_,B5]
def rS(r C:Nat):γ Pl:=(FB C).map λ(c:Nat)=>(((r:Nat):Int),((c:Nat):Int))
def nX(n C:Nat):γ Pl:=(FB n).flatMap λ r=>rS r C
theorem vX(n C:Nat):nX (n+1) C=nX n C++rS n C:=by simp[nX,B01]
theorem xx(r C:Nat):(rS r C).length=C:=by simp[rS]
theorem rG(n C:Nat):(nX n C).length=n*C:=by
 induction n with
 |zero=>simp[nX]
 |succ n ih=>rw[vX,A20,ih,xx,B62]
def places(rows:Rows)(C:Nat)(g:G):γ Pl:=(nX rows.length C).filter<|d9 rows g
theorem places_of_ok(H:Hall rows C)(k:GOk g):gU [jK rows,fI g]=.ok (.tup<|(places rows C g).map b_):=by
 rw[zB];refine aJ ?_;have BC:=H.c2;have hr2:=H.r2;simp[mF,line];refine iV (λ i ρ=>i<=rows.length/\∃x,ρ=[v _,v _,ow (((nX i C).filter<|d9 rows g).map b_),x]) ⟨A41 _,Ch,rfl⟩ ?_ ?_
 .rintro i d ρ hi ⟨_,x,rfl⟩;obtain⟨Mf,rfl⟩:=ints_get hi;obtain⟨row,_,hl,e1⟩:=H.row Mf;have Tr:C<=16777216:=by lia
  simp[e1,hl,bX,line,lJ,jg,Tr];refine Pb (λ d=>match d with|.int c=>d9 rows g ((i),c)|_=>AT) (λ d=>.tup [.int (i),d]) ?_ ?_
  .intro d hd;obtain⟨c,hc⟩:=B35 hd;obtain⟨_,rfl⟩:=ints_get hc;simp[line,FE H k]
  .have e2:((zints 0 C).filter λ d=>match d with|.int c=>d9 rows g ((i),c)|_=>AT).map (λ d=>D.tup [.int (i),d])=((rS i C).filter<|d9 rows g).map b_:=by
    rw[ints_map,rS,AC6,AC6,A36,A36]
    congr 1
    .funext c;simp
    .congr 1;funext c;simp
   rw[e2,vX,List.filter_append,B02];have h1:=B13 (d9 rows g)<|nX i C;have h2:=B13 (d9 rows g)<|rS i C;rw[rG]at h1;rw[xx]at h2;have h3:i*C<=100*100:=A60 (by lia) BC;refine⟨?_,by lia,rfl⟩;rw[A09];lia
 .rintro ρ ⟨_,x,rfl⟩;simp[places]
def eG(g:G)(p:Pl)(h:G)(q:Pl):Bool:=decide<|p.1+g.d<=q.1\/q.1+h.d<=p.1\/p.2+g.w+max (g.gap:Int) (h.gap:Int)<=q.2\/q.2+h.w+max (g.gap:Int) (h.gap:Int)<=p.2
theorem LR(g:G)(p:Pl)(h:G)(q:Pl):p8 [fI g,b_ p,fI h,b_ q]=.ok (.bl<|eG g p h q):=by
 rw[K8];refine aJ ?_;by_cases h1:p.1+g.d<=q.1
 .simp[m8,eG,h1]
 .by_cases h2:q.1+h.d<=p.1
  .simp[m8,eG,h2]
  .by_cases h3:p.2+g.w+max (g.gap:Int) h.gap<=q.2
   .simp[m8,eG,h1,h2,h3]
   .simp[m8,eG,h1,h2,h3]
def Bd(ns:γ Int):Prop:=∀i∈ns,bits i<=2^20
theorem m3(hb:Bd ns)(h:0<=k):∃c,bh [.lst (ns.map .int),.int k]=.ok (.int c)/\bits c<=2^20:=by
 by_cases hk:k<ns.length
 .have hj:k.toNat<ns.length:=by lia
  have e:=(ij (xs:=ns.map D.int) (i:=k) (j:=k.toNat) (d:=.int ns[k.toNat]) (by lia) (by simp)).2;refine⟨ns[k.toNat],?_,hb _<|A89 hj⟩;rw[fq];refine aJ ?_;simp[cx,hk,e]
 .refine⟨0,?_,by decide⟩;rw[fq];refine aJ ?_;simp[cx,hk]
structure afw(rows:Rows)(C:Nat):Prop extends Hall rows C where
 r6:rows.length<=6
 c12:C<=12
 sg:∀x∈rows,∀c∈x,c∈signs
structure GrpG(g:G):Prop extends GOk g where
 w12:g.w<=12
 d3:g.d<=3
 kl:g.kind=[]\/∃c∈a9,g.kind=[c]
 wdd:g.wide<=g.w*g.d
 g6:g.gap<=6
 wsh:∃(wt:Int)(ws:List Pl),ws.length<=6/\g.worth=.int wt/\g.qp=.tup (ws.map b_)
theorem acE(h1:1<=g.w)(h2:g.w<=12)(h3:1<=g.d)(h4:g.d<=3)(h5:g.kind=[]\/∃c∈a9,g.kind=[c])(h6:g.wide<=g.w*g.d)(h7:g.gap<=6)(h8:∃(wt:Int)(ws:γ Pl),ws.length<=6/\g.worth=.int wt/\g.qp=.tup (ws.map b_)):GrpG g:=
 ⟨⟨h1,by lia,h3,by lia,by rcases h5 with h|⟨c,_,h⟩<;>rw [h]<;>simp,by have:=A60 h2 h4;lia,by lia⟩,h2,h4,h5,h6,h7,h8⟩
theorem Dp{ns:γ Int}(h:d∈cut (ns.map D.int) lo hi):∃z∈ns,d=.int z:=by obtain⟨z,hz,rfl⟩:=A18.mp (Ff h);exact⟨z,hz,rfl⟩
theorem CY{ns:γ Int}(hn:ns.length<=63)(lo hi:ε Int):(cut (ns.map D.int) lo hi).length<=63:=by have:=mZ (ns.map D.int) lo hi;simp at this;lia
@[simp] theorem _b(b:Bool):cF .bool (.bl b)=Da:=rfl
@[simp] theorem Xz(xs:γ D):cF .tuple (.tup xs)=Da:=rfl
@[simp] theorem abA(p:Pl):cF .tuple (b_ p)=Da:=rfl
@[simp] theorem XB(i:Int):cF .int (.int i)=Da:=rfl
@[simp] theorem U?(i:Int):cF .bool (.int i)=AT:=rfl
theorem eqP(n:Nat)(p q:Pl):iz (n+1) (b_ p) (b_ q)=AC (decide<|p=q):=by
 show allEq _ [.int p.1,.int p.2] [.int q.1,.int q.2]=_;have e:∀a b,iz n (.int a) (.int b)=AC (decide<|a=b):=λ a b=>by cases n<;>rfl
 simp only[allEq,e]
 congr 1
 rw[A65];simp[Prod.ext_iff]
theorem TZ(n:Nat)(ps qs:γ Pl):allEq (iz<|n+1) (ps.map b_) (qs.map b_)=AC (decide<|ps=qs):=rH (eqP n) ps qs
theorem acS(n:Nat)(ps qs:γ Int):allEq (iz n) (ps.map D.int) (qs.map D.int)=AC (decide<|ps=qs):=rH (λ a b=>by cases n<;>rfl) ps qs
@[simp] theorem neP(ps qs:γ Pl):pO (.lst<|ps.map b_) (.lst<|qs.map b_)=.ok (.bl<|!decide (ps=qs)):=by have:iW (.lst _) (.lst _)=AC _:=TZ 4 ps qs;unfold pO;rw[this]
@[simp] theorem aic(ps qs:γ Pl):oEq (.lst<|ps.map b_) (.lst<|qs.map b_)=.ok (.bl<|decide<|ps=qs):=by have:iW (.lst _) (.lst _)=AC _:=TZ 4 ps qs;unfold oEq;rw[this]
@[simp] theorem aib(ps qs:γ Pl):oEq (.tup<|ps.map b_) (.tup<|qs.map b_)=.ok (.bl<|decide<|ps=qs):=by have:iW (.tup _) (.tup _)=AC _:=TZ 4 ps qs;unfold oEq;rw[this]
@[simp] theorem neI(ps qs:γ Int):pO (.lst<|ps.map D.int) (.lst<|qs.map D.int)=.ok (.bl<|!decide (ps=qs)):=by have:iW (.lst _) (.lst _)=AC _:=acS 5 ps qs;unfold pO;rw[this]
theorem UH(p:Pl):∀(qs:γ Pl),h! (b_ p) (qs.map b_)=AC (decide<|p∈qs)
|[]=>rfl
|q::qs=>by
 rw[A06,h!,UH,show iW _ _=AC _ from eqP 5 q p];show AC _=_
 congr 1
 rw[A65];simp only[B86,A93,o0];exact⟨λ h=>h.imp Eq.symm id,λ h=>h.imp Eq.symm id⟩
@[simp] theorem agE(p:Pl)(qs:γ Pl):Dj (b_ p) (.tup<|qs.map b_)=.ok (.bl<|decide<|p∈qs):=by simp only[Dj,UH]
@[simp] theorem Z6(p:Pl)(qs:γ Pl):mh (b_ p) (.tup<|qs.map b_)=.ok (.bl<|!decide (p∈qs)):=by simp only[mh,UH]
theorem GY(h:p∈rS r C):p.1=r/\0<=p.2/\p.2<C:=by obtain⟨c,hc,rfl⟩:=A18.mp h;rw[A38]at hc;exact⟨rfl,by lia,by lia⟩
theorem GZ:p∈nX n C↔0<=p.1/\p.1<n/\0<=p.2/\p.2<C:=by
 constructor
 .intro h;obtain⟨r,hr,h⟩:=B36.mp h;rw[A38]at hr;obtain⟨h1,h2,h3⟩:=GY h;exact⟨by lia,by lia,h2,h3⟩
 .rintro⟨h1,h2,h3,h4⟩;refine B36.mpr ⟨p.1.toNat,A38.mpr (by lia),A18.mpr ⟨p.2.toNat,A38.mpr (by lia),?_⟩⟩;apply Prod.ext
  .lia
  .lia
theorem take_snoc{α:Type}{xs:γ α}{x:α}(h:xs[i]?=AC x):xs.take (i+1)=xs.take i++[x]:=by rw[B89,h];rfl
theorem places_len(H:Hall rows C)(g:G):(places rows C g).length<=10000:=by have h1:=B13 (d9 rows g)<|nX rows.length C;rw[rG]at h1;have:=A60 H.r2 H.c2;unfold places;lia
end KG
set_option maxRecDepth 4000
namespace KG
open Z
abbrev GP:=G×Pl
abbrev GO:=G×ε Pl
def gr:ε Pl->D
|none=>.non
|some p=>b_ p
@[simp] theorem Vi(p:Pl):gr (AC p)=b_ p:=rfl
@[simp] theorem Vj:gr Ch=.non:=rfl
def qb(x:GP):D:=.tup [fI x.1,b_ x.2]
def K_(x:GO):D:=.tup [fI x.1,gr x.2]
theorem PV:∀(xs:γ GO),jo (xs.map λ x=>fI x.1) (xs.map λ x=>gr x.2)=xs.map K_
|[]=>rfl
|x::xs=>by simp[jo,PV xs];rfl
@[simp] theorem aa8(o:ε Pl):xD (gr o)=.ok (.bl o.isSome):=by cases o<;>rfl
@[simp] theorem aej(o:ε Pl):qL (gr o)=.ok (.bl o.isNone):=by cases o<;>rfl
@[simp] theorem gX(x:GP)(i j:Nat)(ρ:Env):jd [i,j] (qb x) ρ=.ok ((ρ.set i<|v<|fI x.1).set j<|v<|b_ x.2):=rfl
@[simp] theorem gY(x:GO)(i j:Nat)(ρ:Env):jd [i,j] (K_ x) ρ=.ok ((ρ.set i<|v<|fI x.1).set j<|v<|gr x.2):=rfl
theorem zE{α:Type}(xs:γ α):xs.filter (λ _=>Da)=xs:=A68.mpr λ _ _=>rfl
def oh:γ GO->γ GP
|[]=>[]
|(g,AC p)::xs=>(g,p)::oh xs
|(_,Ch)::xs=>oh xs
theorem yL:∀xs,(xs.filter λ x=>x.2.isSome).map K_=(oh xs).map qb
|[]=>rfl
|(g,AC p)::xs=>by rw[List.filter_cons_of_pos (by rfl)];simp only[A06,yL xs];rfl
|(g,Ch)::xs=>by rw[List.filter_cons_of_neg (by simp)];simp only[oh,yL xs]
theorem pE:∀xs,(oh xs).length<=xs.length
|[]=>M2 _
|(g,AC p)::xs=>by have:=pE xs;simp only[oh,A24];lia
|(g,Ch)::xs=>by have:=pE xs;simp only[oh,A24];lia
theorem i_:∀{xs}{y},y∈oh xs↔(y.1,AC y.2)∈xs
|[],y=>by simp[oh]
|(g,AC p)::xs,y=>by
 simp only[oh,o0,i_,C06,B28];constructor
 .rintro(rfl|h)
  .exact .inl ⟨rfl,rfl⟩
  .exact .inr h
 .rintro(⟨h1,h2⟩|h)
  .left;rw[<-h1,<-h2]
  .exact .inr h
|(g,Ch)::xs,y=>by simp only[oh,o0,i_,C06,reduceCtorEq,and_false,false_or]
theorem um(h:xs.length<=16777216):cD [.tup (xs.map λ x=>fI x.1),.tup (xs.map λ x=>gr x.2)]=.ok (.lst<|(oh xs).map qb):=by
 rw[p!];refine aJ ?_;simp[iB,bX,PV,h];refine cL K_ (λ x=>x.2.isSome) K_ ?_ ?_
 .intro x hx;simp;exact λ _=>⟨by decide,rfl⟩
 .rw[yL]
theorem uP{α:Type}(f:α->Bool)(xs:γ α):fP (.lst<|xs.map λ x=>D.bl<|f x)=.ok (.bl<|xs.all f):=by simp only[fP,all_map]
theorem LV(g:G)(p:Pl){xs:γ GP}(h:xs.length<=16777216):dH [fI g,b_ p,.lst (xs.map qb)]=.ok (.bl<|xs.all λ x=>eG g p x.1 x.2):=by
 rw[p_];refine aJ ?_;simp[iE,bX,lJ,jg,h];refine cL qb (λ _=>Da) (λ x=>.bl<|eG g p x.1 x.2) ?_ ?_
 .intro x hx;simp[LR]
 .rw[zE,uP];simp
theorem B2(xs:γ α)(h:k<=xs.length):cut xs Ch (AC<|k)=xs.take k:=by
 have:¬(k:Int)<0:=by lia
 simp[cut,eI,this]
def u!(ss:γ GP)(k:Nat):Bool:=match ss[k]? with
|some x=>(ss.take k).all λ y=>eG x.1 x.2 y.1 y.2
|none=>Da
def qZ(rows:Rows)(ss:γ GP):Bool:=(ss.all λ x=>d9 rows x.1 x.2)&&(FB ss.length).all (u! ss)
theorem Ko(H:Hall rows C)(h6:xs.length<=6)(hg:∀x∈xs,GOk x.1):mw [jK rows,.tup (xs.map λ x=>fI x.1),.tup (xs.map λ x=>gr x.2)]=.ok (.bl<|qZ rows<|oh xs):=by
 rw[K7];refine aJ ?_;have Tt:=pE xs;have hl:(oh xs).length<=16777216:=by lia
 have hlx:xs.length<=16777216:=by lia
 have hk:∀x∈oh xs,GOk x.1:=λ x hx=>hg _<|i_.mp hx;generalize hss:oh xs=ss at Tt hl hk;simp[zZ,bX,line,lJ,jg,um hlx,hss,hl];refine cL qb (λ _=>Da) (λ x=>.bl<|d9 rows x.1 x.2) ?_ ?_
 .intro x hx;simp[FE H<|hk x hx]
 .rw [zE,uP];cases e:(ss.all λ x=>d9 rows x.1 x.2)with
  |false=>simp[qZ,e]
  |true=>
   simp[hl];refine Z.comp_map (λ d=>match d with|.int c=>.bl<|u! ss c.toNat|d=>d) ?_ ?_
   .intro d hd;obtain⟨j,hj⟩:=B35 hd;obtain⟨Ha,rfl⟩:=ints_get hj;obtain⟨x,ex⟩:∃x,ss[j]?=AC x:=⟨_,A01 Ha⟩
    have i1:=(ij (d:=qb x) rfl (by rw[A04,ex];rfl)).2;have i2:aT (qb x) (.int 0)=.ok (fI x.1):=rfl;have i3:aT (qb x) (.int 1)=.ok (b_ x.2):=rfl;have ct:=B2 (ss.map qb) (k:=j) (by rw[A09];lia);have af:=LV x.1 x.2 (xs:=ss.take j) (by rw[A31];lia);rw[AD6]at af;rw[Int.zero_add];simp[i1,i2,i3,Kk,ct,af,u!,ex]
   .have:(zints 0 ss.length).map (λ d=>match d with|.int c=>.bl<|u! ss c.toNat|d=>d)=(FB ss.length).map λ j=>D.bl (u! ss j):=by rw[ints_map,A36];refine A80 λ j _=>?_;simp
    rw[this,uP];simp[qZ,e]
theorem DH:qZ rows ss=Da↔(∀x∈ss,d9 rows x.1 x.2=Da)/\ss.Pairwise λ a b=>eG b.1 b.2 a.1 a.2=Da:=by
 unfold qZ;rw[A35,A28,A28,B33];refine and_congr_right λ _=>?_;constructor
 .intro h i j hi hj wc;have:=h j<|A38.mpr hj;rw[u!,A01]at this;rw[A28]at this;exact this ss[i]<|B63.mpr ⟨i,by rw[A31];lia,by rw[AA2]⟩
 .intro h k hk;rw[A38]at hk;rw[u!,A01];rw[A28];intro y hy;obtain⟨i,hi,rfl⟩:=B63.mp hy;rw[A31]at hi;rw[AA2];exact h i k (by lia) hk (by lia)
theorem HI(g:G)(p:Pl)(h:G)(q:Pl):eG g p h q=eG h q g p:=by unfold eG;rw[decide_eq_decide,Int.max_comm];lia
theorem uw:∀{xs},(oh xs).Pairwise R↔xs.Pairwise λ a b=>∀p q,a.2=AC p->b.2=AC q->R (a.1,p) (b.1,q)
|[]=>by simp[oh]
|(g,AC p)::xs=>by
 simp only[oh,B34,uw];refine and_congr_left λ _=>?_;constructor
 .intro h b hb p' q hp hq;cases hp;exact h (b.1,q)<|i_.mpr (by simp only[<-hq];exact hb)
 .intro h y hy;exact h _ (i_.mp hy) p y.2 rfl rfl
|(g,Ch)::xs=>by simp only[oh,B34,uw];exact⟨λ h=>⟨λ b hb p q hp=>(by cases hp),h⟩,λ h=>h.2⟩
end KG
set_option maxRecDepth 4000
namespace KH
open Z KG
def jh:SF:=(aY<|eB aU (eB aU (QD (eW 0) JF<|C9<|eW 1)<|cZ<|aa (eV 2) az)<|QD (eW 0) (C9<|eB aU (eW 1)<|eC<|.int 1) JF)
def dN:γ D->Res D:=fn 3 3 jh
theorem nS(x0 x1 x2:D):dN [x0,x1,x2]=bH (jh [AC (.val x0),AC (.val x1),AC (.val x2)]):=cC _ _ _ _ rfl
def lM:SF:=(aY<|eU jw<|eL<|cP (gi<|eW 0) 1 [1,2] (bf 0) (tE<|aA KG.dH<|aa (eV 1)<|aa (eV 0)<|aa (eV 2) az)<|eV 0)
def fU:γ D->Res D:=fn 3 3 lM
theorem w9(x0 x1 x2:D):fU [x0,x1,x2]=bH (lM [AC (.val x0),AC (.val x1),AC (.val x2)]):=cC _ _ _ _ rfl
def o5:SF:=(aY<|eB aU (eB aU (QD (eW 0) JF<|C9<|eW 1)<|cZ<|aa (eV 2) az)<|QD (eW 0) (C9<|eB aU (eW 1)<|eC<|.int 1) JF)
def mv:γ D->Res D:=fn 3 3 o5
theorem BO(x0 x1 x2:D):mv [x0,x1,x2]=bH (o5 [AC (.val x0),AC (.val x1),AC (.val x2)]):=cC _ _ _ _ rfl
end KH
set_option maxRecDepth 8000
namespace KH
open Z KG
@[simp] theorem aaT:uN (.int 10) (.int 40)=.ok (.int 10000000000000000000000000000000000000000):=jx 10 40 (by decide) (by decide)
@[simp] theorem aaU:uN (.int 10) (.int 39)=.ok (.int 1000000000000000000000000000000000000000):=jx 10 39 (by decide) (by decide)
def okJ(xs:γ GO)(g:G)(k:Nat)(p:Pl)(j:Nat):Bool:=decide (j=k)||match xs[j]? with
|some (h,AC q)=>eG g p h q
|_=>Da
def openAt(xs:γ GO)(g:G)(k:Nat)(p:Pl):Bool:=(FB xs.length).all<|okJ xs g k p
def rV(rows:Rows)(C:Nat)(xs:γ GO)(g:G)(k:Nat):γ Pl:=(places rows C g).filter<|openAt xs g k
def dS(xs:γ GO):D:=.tup<|xs.map λ x=>fI x.1
def cA(xs:γ GO):D:=.tup<|xs.map λ x=>gr x.2
theorem EV{k:Nat}(h:k<ds.length)(d:D):cut ds Ch (AC<|k)++(d::cut ds (AC<|(k)+1) Ch)=ds.set k d:=by
 have e1:cut ds Ch _=ds.take k:=B2 ds (by lia);have e2:cut ds (AC<|(k)+1) Ch=ds.drop (k+1):=by
  have:¬(k:Int)+1<0:=by lia
  have h3:((k:Int)+1).toNat=k+1:=by lia
  have h4:min (k+1) ds.length=k+1:=by lia
  simp[cut,eI,this,h4];rw[C28 (by simp)]
 rw[e1,e2,List.set_eq_take_append_cons_drop,f8 h]
theorem Mr(h:k<ds.length)(hl:ds.length<=1000)(d:D):mv [.tup ds,.int (k:Nat),d]=.ok (.tup<|ds.set k d):=by
 rw[BO];refine aJ ?_;have c1:=mZ ds Ch<|some<|k;have c2:=mZ ds (AC<|(k)+1) Ch;have g1:(cut ds Ch<|some<|k).length+1<=16777216:=by lia
 have g2:(cut ds Ch<|some<|k).length+1+(cut ds (AC<|(k)+1) Ch).length<=16777216:=by lia
 simp[o5,line,g1,g2,EV h]
theorem wg(h:k<ds.length)(hl:ds.length<=1000)(d:D):dN [.tup ds,.int (k:Nat),d]=.ok (.tup<|ds.set k d):=by
 rw[nS];refine aJ ?_;have c1:=mZ ds Ch<|some<|k;have c2:=mZ ds (AC<|(k)+1) Ch;have g1:(cut ds Ch<|some<|k).length+1<=16777216:=by lia
 have g2:(cut ds Ch<|some<|k).length+1+(cut ds (AC<|(k)+1) Ch).length<=16777216:=by lia
 simp[jh,line,g1,g2,EV h]
theorem Hn(xs:γ GO)(k:Nat)(g:G)(o:ε Pl):cA (xs.set k (g,o))=.tup ((xs.map λ x=>gr x.2).set k<|gr o):=by simp[cA]
def Good(rows:Rows)(xs:γ GO):Prop:=∀(i:Nat)(g:G)(p:Pl),xs[i]?=AC (g,AC p)->d9 rows g p=Da/\∀(j:Nat)(h:G)(q:Pl),xs[j]?=AC (h,AC q)->j≠i->eG g p h q=Da
theorem oz:openAt xs g k p=Da↔∀(j:Nat) h q,xs[j]?=AC (h,AC q)->j≠k->eG g p h q=Da:=by
 unfold openAt;rw[A28];constructor
 .intro h j hh q e hj;have hl:=(A10.mp e).1;have:=h j<|A38.mpr hl;simpa[okJ,e,hj]using this
 .intro h j hj;unfold okJ;by_cases hk:j=k
  .simp[hk]
  .cases e:xs[j]? with
   |none=>simp
   |some y=>
    obtain⟨hh,o⟩:=y;cases o with
    |none=>simp
    |some q=>simp[h j hh q e hk]
theorem Good.put(h:Good rows xs)(hk:xs[k]?=AC x)(hf:d9 rows x.1 p=Da)(ho:openAt xs x.1 k p=Da):Good rows (xs.set k (x.1,AC p)):=by
 rw[oz]at ho;have hl:=(A10.mp hk).1;intro i g q e;rw[A70]at e;by_cases hi:k=i
 .subst hi;rw[f8 rfl,f8 hl]at e;cases e;refine⟨hf,λ j hh r ej hj=>?_⟩;rw[A70,v6 λ z=>hj z.symm]at ej;exact ho j hh r ej hj
 .rw[v6 hi]at e;obtain⟨h1,h2⟩:=h i g q e;refine⟨h1,λ j hh r ej hj=>?_⟩;rw[A70]at ej;by_cases Ha:k=j
  .subst Ha;rw[f8 rfl,f8 hl]at ej;cases ej;rw[HI];exact ho i g q e λ z=>hi z.symm
  .rw[v6 Ha]at ej;exact h2 j hh r ej hj
theorem Good.keeps(h:Good rows xs):qZ rows (oh xs)=Da:=by
 rw[DH];constructor
 .intro y hy;obtain⟨i,hi⟩:=B35 (i_.mp hy);exact(h i y.1 y.2 hi).1
 .rw[uw,B33];intro i j hi hj wc p q ep eq;have e1:xs[i]?=AC (xs[i].1,AC p):=by rw[A01,<-ep]
  have e2:xs[j]?=AC (xs[j].1,AC q):=by rw[A01,<-eq]
  exact(h j _ q e2).2 i _ p e1 (by lia)
theorem wD(ps:γ Pl)(g:G){ss:γ GP}(hp:ps.length<=10000)(hs:ss.length<=6):fU [.tup (ps.map b_),fI g,.lst (ss.map qb)]=.ok (.tup<|(ps.filter λ p=>ss.all λ x=>eG g p x.1 x.2).map b_):=by
 rw[w9];refine aJ ?_;have X3:ps.length<=16777216:=by lia
 simp[lM,bX,lJ,jg,X3];refine cL b_ (λ p=>ss.all λ x=>eG g p x.1 x.2) b_ ?_ ?_
 .intro p hp;simp[LV g p (xs:=ss) (by lia)]
 .rfl
theorem IZ(hk:xs[k]?=AC x)(p:Pl):((oh<|xs.set k (x.1,Ch)).all λ y=>eG g p y.1 y.2)=openAt xs g k p:=by
 rw[A65,oz,A28];have hl:=(A10.mp hk).1;constructor
 .intro h j hh q e hj;have hm:(hh,AC q)∈xs.set k (x.1,Ch):=by refine A33 (i:=j) ?_;rw[A70,v6 λ z=>hj z.symm];exact e
  exact h (hh,q)<|i_.mpr hm
 .intro h y hy;obtain⟨j,e⟩:=B35 (i_.mp hy);rw[A70]at e;by_cases hj:k=j
  .rw[f8 hj]at e;subst hj;rw[f8 hl]at e;exact nomatch A11 Prod.snd (A03 e)
  .rw[v6 hj]at e;exact h j y.1 y.2 e λ z=>hj z.symm
theorem wL(h:p∈places rows C g):d9 rows g p=Da:=(A95.mp h).2
structure aiU(g:G):Prop extends GrpG g where
 pos:∃(wt:Int)(ws:List Pl),ws.length<=6/\0<=wt/\(∀p∈ws,0<=p.2)/\g.worth=.int wt/\g.qp=.tup (ws.map b_)
end KH
set_option maxRecDepth 4000
namespace KB
open Z KG KH
def o3:SF:=(aY<|eB aU (eB aT (eW 0)<|eC<|.int 6)<|eU JM<|eL<|cP (gi<|eB aT (eW 0)<|eC<|.int 7) 1 [1] (bf 0) (tE<|eB oEq (eB aT (eW 0)<|eC<|.int 0)<|eW 1)<|eB aT (eW 0)<|eC<|.int 1)
def j3:γ D->Res D:=fn 2 2 o3
theorem BM(x0 x1:D):j3 [x0,x1]=bH (o3 [AC (.val x0),AC (.val x1)]):=cC _ _ _ _ rfl
def oZ:SF:=(aY<|eU JM<|eL<|cP (gi<|aA KG.cD<|aa (eV 0)<|aa (eV 1) az) 2 [] (jd [0,1]) cy<|aA j3<|aa (eV 0)<|aa (eB aT (eW 1)<|eC<|.int 0) az)
def dF:γ D->Res D:=fn 2 2 oZ
theorem BL(x0 x1:D):dF [x0,x1]=bH (oZ [AC (.val x0),AC (.val x1)]):=cC _ _ _ _ rfl
def jM:SF:=(aN (a6 3<|eIf (tE<|eU qL<|eW 2) (eB E! (cZ<|aa (eC .non) az)<|eU dM<|eW 1)<|eV 2)<|aN (fA (fz<|tE<|aA KG.mw<|aa (eV 0)<|aa (eV 1)<|aa (eV 3) az) l_ a5)<|aY<|eV 3)
def cg:γ D->Res D:=fn 3 4 jM
theorem s_(x0 x1 x2:D):cg [x0,x1,x2]=bH (jM [AC (.val x0),AC (.val x1),AC (.val x2),Ch]):=cC _ _ _ _ rfl
def En:SF:=(aN (a6 3<|eC<|.int 1)<|aN (iR (Kv (eV 1)<|aA cg<|aa (eV 0)<|aa (eV 1)<|aa (eV 2) az) (jd [4,5])<|fA (tE<|eU qL<|eW 5) (a6 3<|eB jy (eV 3)<|eB aU (eU dM<|aA KG.gU<|aa (eV 0)<|aa (eV 4) az)<|eC<|.int 1) a5)<|aY<|eV 3)
def tY:γ D->Res D:=fn 3 6 En
theorem OP(x0 x1 x2:D):tY [x0,x1,x2]=bH (En [AC (.val x0),AC (.val x1),AC (.val x2),Ch,Ch,Ch]):=cC _ _ _ _ rfl
def ko:SF:=(aN (a6 3<|aA tY<|aa (eV 0)<|aa (eV 1)<|aa (eV 2) az)<|aN (fA (tE<|eB Sx (eW 3)<|eC<|.int 2000) l_ a5)<|aY<|aA cg<|aa (eV 0)<|aa (eV 1)<|aa (eV 2) az)
def gR:γ D->Res D:=fn 3 4 ko
theorem vB(x0 x1 x2:D):gR [x0,x1,x2]=bH (ko [AC (.val x0),AC (.val x1),AC (.val x2),Ch]):=cC _ _ _ _ rfl
def iZ:SF:=(aN (a6 5<|aA KG.gU<|aa (eV 0)<|aa (eB aT (eW 1)<|eW 3) az)<|aN (qC 6<|bC az)<|aN (iR (gi<|eV 2) (bf 7)<|aN (a6 8<|aA KG.cD<|aa (eV 1)<|aa (eV 7) az)<|aN (sG 6<|cP (gi<|aA KH.fU<|aa (eV 5)<|aa (eB aT (eW 1)<|eW 3)<|aa (eV 8) az) 1 [7,3] (bf 0) cy<|aA KH.dN<|aa (eV 1)<|aa (eV 2)<|aa (eV 0) az)<|fA (tE<|eV 4) (i! 6<|eV 7) a5)<|C0 6<|aY<|eV 6)
def fE:γ D->Res D:=fn 5 9 iZ
theorem rn(x0 x1 x2 x3 x4:D):fE [x0,x1,x2,x3,x4]=bH (iZ [AC (.val x0),AC (.val x1),AC (.val x2),AC (.val x3),AC (.val x4),Ch,Ch,Ch,Ch]):=cC _ _ _ _ rfl
def i8:SF:=(aN (a6 4<|eL<|bC<|aa (eV 2) az)<|aN (iR (jC<|eU dM<|eW 1) (bf 5)<|fA (tE<|eU qL<|eB aT (eW 2)<|eW 5) (a6 4<|aA fE<|aa (eV 0)<|aa (eV 1)<|aa (eV 4)<|aa (eV 5)<|aa (eV 3) az) a5)<|aY<|eV 4)
def fF:γ D->Res D:=fn 4 6 i8
theorem ro(x0 x1 x2 x3:D):fF [x0,x1,x2,x3]=bH (i8 [AC (.val x0),AC (.val x1),AC (.val x2),AC (.val x3),Ch,Ch]):=cC _ _ _ _ rfl
def hV:SF:=(aY<|Lb Da (.ok .non) (eW 1) [0]<|aA dF<|aa (eV 1)<|aa (eV 0) az)
def fW:γ D->Res D:=fn 2 2 hV
theorem nT(x0 x1:D):fW [x0,x1]=bH (hV [AC (.val x0),AC (.val x1)]):=cC _ _ _ _ rfl
def iI:SF:=(aN (a6 3<|aA gR<|aa (eV 0)<|aa (eV 1)<|aa (eV 2) az)<|aY<|aA fW<|aa (eV 1)<|aa (aA fF<|aa (eV 0)<|aa (eV 1)<|aa (eV 3)<|aa (eC<|.bl AT) az) az)
def cY:γ D->Res D:=fn 3 4 iI
theorem mz(x0 x1 x2:D):cY [x0,x1,x2]=bH (iI [AC (.val x0),AC (.val x1),AC (.val x2),Ch]):=cC _ _ _ _ rfl
end KB
set_option maxRecDepth 8000
namespace KB
open Z KG
open KH
theorem S?(H:Hall rows C)(h6:xs.length<=6)(hg:∀x∈xs,GOk x.1)(hk:Good rows xs):KG.mw [jK rows,dS xs,cA xs]=.ok (.bl Da):=by have:=Ko H h6 hg;rw[hk.keeps]at this;exact this
theorem Hl(H:Hall rows C)(h6:xs.length<=6)(hg:∀x∈xs,GOk x.1)(hk:Good rows xs):cg [jK rows,dS xs,cA xs]=.ok (cA xs):=by rw[s_];refine aJ ?_;have hN:qL (cA xs)=.ok _:=rfl;simp[jM,hN,S? H h6 hg hk]
def wtD:D->Int
|.int w=>w
|_=>0
def plD:D->Pl
|.tup [.int a,.int b]=>(a,b)
|_=>(0,0)
def wsD:D->γ Pl
|.tup ds=>ds.map plD
|_=>[]
def more(ws:γ Pl)(row:Int):Int:=((ws.filter λ p=>decide<|p.1=row).map (·.2)).sum
def Rb(g:G)(row:Int):Int:=wtD g.worth+more (wsD g.qp) row
def wO(x:GO):Int:=match x.2 with
|none=>0
|some p=>Rb x.1 p.1
theorem Mq(ws:γ Pl):wsD (.tup<|ws.map b_)=ws:=by show(ws.map b_).map plD=ws;rw[A36];have:(plD∘b_)=id:=funext λ p=>rfl;rw[this,List.map_id]
theorem Qg(ns:γ Int):JM (.lst<|ns.map D.int)=.ok (.int ns.sum):=by show(match AN _ with|some i=>Res.ok _|none=>.bad)=_;rw[xp]
theorem Aq(h:GrpG g)(row:Int):j3 [fI g,.int row]=.ok (.int<|Rb g row):=by
 obtain⟨wt,ws,hl,e1,e2⟩:=h.wsh;rw[BM];refine aJ ?_;have BA:ws.length<=16777216:=by lia
 have e3:Rb g row=wt+more ws row:=by unfold Rb;rw[e1,e2,Mq];rfl
 rw[e3];simp[o3,bX,lJ,jg,e1,e2,BA];refine cL b_ (λ p=>decide<|p.1=row) (λ p=>.int p.2) (λ p _=>?_) ?_
 .simp;rfl
 .rw[show(ws.filter λ p=>decide _).map (λ p=>D.int p.2)=((ws.filter λ p=>decide _).map _).map D.int from by rw[A36];rfl,Qg];simp[more]
theorem yH:∀xs,((oh xs).map λ y=>Rb y.1 y.2.1).sum=(xs.map wO).sum
|[]=>rfl
|(g,Ch)::xs=>by simp[oh,wO,yH xs]
|(g,AC p)::xs=>by simp[oh,wO,yH xs]
theorem Ap{xs:γ GO}(h:xs.length<=6)(hg:∀x∈xs,GrpG x.1):dF [.tup (xs.map λ x=>fI x.1),.tup (xs.map λ x=>gr x.2)]=.ok (.int (xs.map wO).sum):=by
 rw[BL];refine aJ ?_;have et:=um (xs:=xs) (by lia);have hsl:=pE xs;have abN:(oh xs).length<=16777216:=by lia
 simp[oZ,et,bX,abN];refine cL qb (λ _=>Da) (λ y=>.int<|Rb y.1 y.2.1) (λ y hy=>?_) ?_
 .have:=Aq (hg _<|i_.mp hy) y.2.1;have gX:∀ρ,jd [0,1] (qb y) ρ=.ok _:=λ ρ=>rfl;simp[this]
 .rw[zE,show(oh xs).map (λ y=>D.int _)=((oh xs).map λ y=>Rb y.1 y.2.1).map D.int from by rw[A36];rfl,Qg,yH];simp
theorem Im{xs:γ GO}(h6:xs.length<=6){k:Nat}(hk:xs[k]?=AC (g,o))(p:Pl):KH.dN [cA xs,.int (k),b_ p]=.ok (cA<|xs.set k (g,AC p))/\KH.mv [cA xs,.int (k),b_ p]=.ok (cA<|xs.set k (g,AC p)):=by have hl:=(A10.mp hk).1;have h1:=wg (ds:=xs.map λ x=>gr x.2) (k:=k) (by simp;lia) (by simp;lia)<|b_ p;have h2:=Mr (ds:=xs.map λ x=>gr x.2) (k:=k) (by simp;lia) (by simp;lia)<|b_ p;rw[Hn];exact⟨h1,h2⟩
theorem I!{C:Nat}(hr:∀x∈rows,x.length=C)(h:cW rows s=AC c):0<=s.1/\s.1<rows.length/\0<=s.2/\s.2<C:=by
 unfold cW at h;split at h
 .rename_i z;cases e:rows[s.1.toNat]? with
  |none=>rw[e]at h;cases h
  |some r=>rw[e]at h;have h:=h;have h1:=(A10.mp h).1;have h2:=(A10.mp e).1;have hl:=hr r<|A33 e;lia
 .cases h
theorem V9(k:GOk g)(p:Pl):p∈seats g p:=by have hw:=k.w1;have hd:=k.d1;unfold seats kU js;simp only[B36,A38,A18];exact⟨0,by lia,0,by lia,by simp⟩
theorem K4(H:Hall rows C)(k:GOk g)(h:d9 rows g p=Da):p∈places rows C g:=by
 refine A95.mpr ⟨GZ.mpr ?_,h⟩;unfold d9 at h;rw[A35,A28]at h;have:=h.1 p<|V9 k p;cases e:cW rows p with
 |none=>rw[e]at this;cases this
 |some c=>exact I! H.len e
structure Ext(cs hs:List GO):Prop where
 gs:cs.map (·.1)=hs.map (·.1)
 sub:∀(i:Nat)(g:G)(p:Pl),cs[i]?=AC (g,AC p)->hs[i]?=AC (g,AC p)
theorem Ext.len(e:Ext cs hs):cs.length=hs.length:=by have:=A11 List.length e.gs;rwa [A09,A09]at this
theorem Ext.at(e:Ext cs hs){k:Nat}(h:cs[k]?=AC (g,o)):∃o',hs[k]?=AC (g,o')/\(∀p,o=AC p->o'=AC p):=by
 have hl:=(A10.mp h).1;rw[e.len]at hl;obtain⟨⟨g',o'⟩,e'⟩:∃x,hs[k]?=AC x:=⟨_,A01 hl⟩
 have z:=A11 (λ l=>l[k]?) e.gs;simp only[A04,h,e',A81,B28]at z;subst z;refine⟨o',e',λ p hp=>?_⟩;subst hp;have:=e.sub k g p h;rw[e']at this;exact(Prod.mk.inj<|A03 this).2
theorem zip_map{α:Type}(f h:α->D):∀xs:γ α,jo (xs.map f) (xs.map h)=xs.map λ x=>.tup [f x,h x]
|[]=>rfl
|x::xs=>by simp[jo,zip_map f h xs];rfl
open KH
def iJ:γ Nat->Nat
|[]=>1
|n::r=>n*iJ r
theorem kZ:∀a b,iJ (a++b)=iJ a*iJ b
|[],b=>by simp[iJ]
|n::a,b=>by simp[iJ,kZ a b,Nat.mul_assoc]
theorem xA:∀{l},(∀n∈l,0<n)->0<iJ l
|[],_=>Nat.one_pos
|n::l,h=>Nat.mul_pos (h n A22)<|xA λ m hm=>h m<|A07 _ hm
def lZ(rows:Rows)(C:Nat)(x:GO):Nat:=match x.2 with
|none=>(places rows C x.1).length+1
|some _=>1
theorem Ip(rows:Rows)(C:Nat)(x:GO):0<lZ rows C x:=by unfold lZ;split<;>lia
def o_(rows:Rows)(C:Nat)(xs:γ GO):Nat:=iJ<|xs.map<|lZ rows C
theorem Io(xs:γ GO):0<iJ (xs.map<|lZ rows C):=xA λ n hn=>by obtain⟨x,_,rfl⟩:=A18.mp hn;exact Ip rows C x
theorem F4(xs:γ GO)(j:Nat):iJ ((xs.take j).map<|lZ rows C)<=o_ rows C xs:=by
 unfold o_;have e:xs.map (lZ rows C)=(xs.take j).map (lZ rows C)++(xs.drop j).map (lZ rows C):=by rw[<-B02,C30]
 rw[e,kZ];exact Nat.le_mul_of_pos_right _<|Io _
theorem qq{xs:γ GO}(h:xs[j]?=AC x):iJ ((xs.take<|j+1).map<|lZ rows C)=iJ ((xs.take j).map<|lZ rows C)*lZ rows C x:=by rw[take_snoc h,B02,kZ];simp[iJ]
theorem Mv(H:Hall rows C)(h6:xs.length<=6)(hg:∀x∈xs,GOk x.1)(ef:cg [jK rows,dS xs,fd]=.ok (cA xs)):tY [jK rows,dS xs,fd]=.ok (.int<|o_ rows C xs):=by
 rw[OP];refine aJ ?_;simp[En,ef];unfold dS cA at *;simp[zip_map];refine iV (λ i ρ=>∃x4 x5,ρ=[v _,v _,v fd,vi (iJ<|(xs.take i).map<|lZ rows C),x4,x5]) ⟨Ch,Ch,rfl⟩ ?_ ?_
 .rintro j d ρ hj ⟨x4,x5,rfl⟩;rw[A04]at hj;obtain⟨⟨g,o⟩,hx,rfl⟩:=B42.mp hj;have gX:∀ρ,jd [4,5] (.tup [fI g,gr o]) ρ=.ok _:=λ ρ=>rfl;rw[qq hx];generalize iJ _=m;cases o with
  |some p=>have en:qL (b_ p)=.ok _:=rfl;simp[gX,gr,en,lZ]
  |none=>have pl:=places_of_ok H<|hg _<|A33 hx;have dX:=places_len H g;rw[show lZ rows C (g,Ch)=(places rows C g).length+1 from rfl];generalize places rows C g=ps at pl dX ⊢;have q1:cm (m) ((ps.length)+1):=bi<|Or.inl ⟨by lia,by lia⟩;simp[gX,gr,pl,q1]
 .rintro ρ ⟨x4,x5,rfl⟩;rw[A09,B22];simp[o_]
theorem IX(H:Hall rows C)(h6:xs.length<=6)(hg:∀x∈xs,GOk x.1)(ef:cg [jK rows,dS xs,fd]=.ok (cA xs))(hw:o_ rows C xs<=2000):gR [jK rows,dS xs,fd]=.ok (cA xs):=by
 have ew:=Mv H h6 hg ef;rw[vB];refine aJ ?_;have:¬(2000:Int)<(o_ rows C xs):=by lia
 simp[ko,ew,ef,this]
def l8(rows:Rows)(C:Nat)(sm:Bool)(g:G)(k:Nat)(cs:γ GO):γ (γ GO):=(rV rows C cs g k).map (λ p=>cs.set k (g,AC p))++if sm then[cs]else[]
theorem AR:(l8 rows C sm g k cs).length<=(places rows C g).length+1:=by have:=B13 (openAt cs g k)<|places rows C g;unfold l8 rV;cases sm<;>simp<;>lia
theorem vA{α β:Type}{f:α->γ β}:∀{L:γ α},(∀x∈L,(f x).length<=m)->(L.flatMap f).length<=L.length*m
|[],_=>by simp
|x::L,h=>by have:=vA λ y hy=>h y<|A07 _ hy;have hx:=h x A22;rw[List.flatMap_cons,A20,A24,B32,Nat.one_mul];lia
theorem KR(h:cs.map (·.1)=xs.map (·.1)):dS cs=dS xs:=by have:=A11 (List.map fI) h;rw[A36,A36]at this;exact A11 D.tup this
theorem Gx(H:Hall rows C){cs:γ GO}(h6:cs.length<=6){k:Nat}(hk:cs[k]?=AC (g,Ch)):KH.fU [.tup ((places rows C g).map b_),fI g,.lst ((oh cs).map qb)]=.ok (.tup<|(rV rows C cs g k).map b_):=by
 have hl:=(A10.mp hk).1;have hsl:=pE cs;have ho:=wD _ g (ss:=oh cs) (places_len H g) (by lia);have abR:cs.set k (g,Ch)=cs:=by have:=(A10.mp hk).2;rw[<-this];exact List.set_getElem_self hl
 have he:(places rows C g).filter (λ p=>(oh cs).all λ x=>eG g p x.1 x.2)=rV rows C cs g k:=by refine List.filter_congr λ p _=>?_;have:=IZ (g:=g) hk p;simp only at this;rw[abR]at this;exact this
 rw[he]at ho;exact ho
theorem A4(H:Hall rows C){xs:γ GO}(h6:xs.length<=6)(hg:∀x∈xs,GOk x.1){k:Nat}{g:G}(hk:xs[k]?=AC (g,Ch))(sm:Bool){L:γ (γ GO)}(hL:∀cs∈L,cs.map (·.1)=xs.map (·.1)/\cs[k]?=AC (g,Ch))(hB:L.length*((places rows C g).length+1)<=1000000):
 fE [jK rows,dS xs,.lst (L.map cA),.int (k:Nat),.bl sm]=.ok (.lst<|(L.flatMap<|l8 rows C sm g k).map cA):=by
 rw[rn];refine aJ ?_;have ixg:aT (dS xs) (.int (k:Nat))=.ok (fI g):=(ij (xs:=xs.map λ y:GO=>fI y.1) (i:=k) (j:=k) rfl (by rw[A04,hk];rfl)).1;have pl:=places_of_ok H<|hg _<|A33 hk;simp[iZ,ixg,pl,line];refine iV (λ i ρ=>∃x7 x8,ρ=[v (jK rows),v (dS xs),v (.lst<|L.map cA),vi (k:Nat),v (.bl sm),v (.tup<|(places rows C g).map b_),ow (((L.take i).flatMap<|l8 rows C sm g k).map cA),x7,x8]) ⟨Ch,Ch,by simp⟩ ?_ ?_
 .rintro i d ρ hi ⟨x7,x8,rfl⟩;rw[A04]at hi;obtain⟨cs,Hg,rfl⟩:=B42.mp hi;obtain⟨e1,e2⟩:=hL cs (A33 Hg);have tW:cs.length<=6:=by have:=A11 List.length e1;rw[A09,A09]at this;lia
  have ht:=um (xs:=cs) (by lia);rw[show D.tup (cs.map λ x=>fI x.1)=dS cs from rfl,show D.tup (cs.map λ x=>gr x.2)=cA cs from rfl,KR e1]at ht;have ho:=Gx H tW e2;have Hb:i<L.length:=(A10.mp Hg).1;have Qv:((L.take i).flatMap<|l8 rows C sm g k).length<=(L.take i).length*((places rows C g).length+1):=vA λ x _=>AR;rw[A31,B97<|A69 Hb]at Qv;have ahn:i*((places rows C g).length+1)+((places rows C g).length+1)<=L.length*((places rows C g).length+1):=by rw[<-B62];exact C09 _ Hb
  rw[take_snoc Hg,List.flatMap_append];generalize (L.take i).flatMap (l8 rows C sm g k)=fs at Qv;have hol:=B13 (openAt cs g k)<|places rows C g;have agZ:(rV rows C cs g k).length<=(places rows C g).length:=hol;have HX:(rV rows C cs g k).length<=16777216:=by lia
  have ho3:fs.length+(rV rows C cs g k).length<=16777216:=by lia
  have ho4:fs.length+(rV rows C cs g k).length<16777216:=by lia
  simp[ht,ixg,ho,bX,lJ,jg,line,HX];refine cL b_ (λ _=>Da) (λ p=>cA<|cs.set k (g,AC p)) (λ p hp=>?_) ?_
  .simp[(Im tW e2 p).1]
  .rw[zE];cases sm with
   |true=>simp[line,ho3,ho4,l8]
   |false=>simp[line,ho3,l8]
 .rintro ρ ⟨x7,x8,rfl⟩;rw[A09,B22];simp
open KH
def e_(rows:Rows)(C:Nat)(sm:Bool)(xs:γ GO):Nat->γ (γ GO)
|0=>[xs]
|j+1=>match xs[j]? with
 |some (g,Ch)=>(e_ rows C sm xs j).flatMap<|l8 rows C sm g j
 |_=>e_ rows C sm xs j
section
variable{rows:Rows}{C:Nat}{sm:Bool}{xs:γ GO}
theorem kX{j:Nat}(h:xs[j]?=AC (g,Ch)):e_ rows C sm xs (j+1)=(e_ rows C sm xs j).flatMap (l8 rows C sm g j):=by simp only[e_,h]
theorem kW{j:Nat}(h:xs[j]?=AC (g,AC p)):e_ rows C sm xs (j+1)=e_ rows C sm xs j:=by simp only[e_,h]
theorem xw:∀{j},j<=xs.length->(e_ rows C sm xs j).length<=iJ ((xs.take j).map<|lZ rows C)
|0,_=>by simp[e_,iJ]
|j+1,hj=>by
 have ih:=xw (j:=j) (by lia);obtain⟨⟨g,o⟩,e⟩:∃x,xs[j]?=AC x:=⟨_,A01 (by lia)⟩
 rw[qq e];cases o with
 |some p=>rw[kW e,show lZ rows C (g,AC p)=1 from rfl,Nat.mul_one];exact ih
 |none=>rw[kX e];exact A23 (vA λ x _=>AR)<|C09 _ ih
structure FV(rows:Rows)(sm:Bool)(xs:List GO)(j:Nat)(z:List GO):Prop where
 gs:z.map (·.1)=xs.map (·.1)
 rest:∀i:Nat,j<=i->z[i]?=xs[i]?
 ext:Ext xs z
 good:Good rows z
 full:sm=AT->∀(i:Nat)(g:G),i<j->z[i]?≠AC (g,Ch)
theorem MN{j:Nat}(e:xs[j]?=AC (g,Ch))(h:FV rows sm xs j z)(hy:y∈l8 rows C sm g j z):FV rows sm xs (j+1) y:=by
 have hz:=(h.rest j<|M2 _).trans e;have hl:=(A10.mp hz).1;rcases A29.mp hy with hy|hy
 .obtain⟨p,hp,rfl⟩:=A18.mp hy;obtain⟨h1,h2⟩:=A95.mp hp;have gs:(z.set j (g,AC p)).map (·.1)=xs.map (·.1):=by
   rw[<-h.gs];refine List.ext_getElem? λ i=>?_;rw[A04,A04,A70];split
   .rename_i ei;subst ei;rw[hz];rfl
   .rfl
  refine⟨gs,λ i hi=>?_,⟨gs.symm,λ i g' q ei=>?_⟩,h.good.put hz (KH.wL h1) h2,λ hs i g' hi=>?_⟩
  .rw[A70,v6 (by lia)];exact h.rest i (by lia)
  .have:=h.ext.sub i g' q ei;rw[A70];split
   .rename_i ej;subst ej;rw[hz]at this;cases this
   .exact this
  .rw[A70];split
   .rename_i ej;subst ej;intro q;cases q
   .exact h.full hs i g' (by lia)
 .cases sm with
  |false=>simp at hy
  |true=>
   have:y=z:=by simpa using hy
   subst this;exact⟨h.gs,λ i hi=>h.rest i (by lia),h.ext,h.good,λ hs=>nomatch hs⟩
theorem yM(hk:Good rows xs):∀{j},j<=xs.length->∀z∈e_ rows C sm xs j,FV rows sm xs j z
|0,_,z,hz=>by
 have:z=xs:=by simpa[e_]using hz
 subst this;exact⟨rfl,λ _ _=>rfl,⟨rfl,λ _ _ _ e=>e⟩,hk,λ _ i g hi=>absurd hi<|Nat.not_lt_zero _⟩
|j+1,hj,z,hz=>by
 obtain⟨⟨g,o⟩,e⟩:∃x,xs[j]?=AC x:=⟨_,A01 (by lia)⟩
 have ih:=yM hk (j:=j) (by lia);cases o with
 |some p=>
  rw[kW e]at hz;have h:=ih z hz;refine⟨h.gs,λ i hi=>h.rest i (by lia),h.ext,h.good,λ hs i g' hi=>?_⟩;by_cases wc:i=j
  .subst wc;rw[h.rest i<|M2 _,e];intro q;cases q
  .exact h.full hs i g' (by lia)
 |none=>rw[kX e]at hz;obtain⟨y,hy,hzy⟩:=B36.mp hz;exact MN e (ih y hy) hzy
theorem AW(H:Hall rows C)(hg:∀x∈xs,GOk x.1)(e:Ext xs z)(hz:Good rows z)(hs:sm=Da\/∀(i:Nat) g,z[i]?≠AC (g,Ch)):∀{j},j<=xs.length->z.take j++xs.drop j∈e_ rows C sm xs j
|0,_=>by simp[e_]
|j+1,hj=>by
 have ih:=AW H hg e hz hs (j:=j) (by lia);have hzl:=e.len;obtain⟨⟨g,o⟩,ex⟩:∃x,xs[j]?=AC x:=⟨_,A01 (by lia)⟩
 obtain⟨o',ez,ho⟩:=e.at ex;have hjl:j<xs.length:=by lia
 have hjz:j<z.length:=by lia
 have d1:xs.drop j=(g,o)::xs.drop (j+1):=by rw[B19 hjl];rw[A01 hjl]at ex;rw[A03 ex]
 have t1:=take_snoc ez;have tl:(z.take j).length=j:=by rw[A31];lia
 cases o with
 |some p=>rw[ho p rfl]at t1;rw[kW ex,t1,A82];rw[d1]at ih;exact ih
 |none=>
  rw[kX ex];refine B36.mpr ⟨_,ih,?_⟩;rw[d1];cases o' with
  |none=>
   rcases hs with rfl|hs
   .refine A40 _ ?_;rw[t1,A82];simp
   .exact absurd ez<|hs j g
  |some p=>
   refine A84 _<|A18.mpr ⟨p,?_,?_⟩
   .obtain⟨f,ap⟩:=hz j g p ez;refine A95.mpr ⟨K4 H (hg _<|A33 ex) f,oz.mpr λ i g' q ei ne=>?_⟩;rw[<-d1]at ei;refine ap i g' q ?_ ne;by_cases hi:i<j
    .rw[A37 (by rw[tl];exact hi),C14 hi]at ei;exact ei
    .rw[A52 (by rw[tl];lia),List.getElem?_drop,tl,show j+(i-j)=i by lia]at ei;exact e.sub i g' q ei
   .rw[t1,A82,List.set_append_right _ _ (by rw[tl];exact M2 _),tl,Nat.sub_self];rfl
theorem CW(H:Hall rows C)(hg:∀x∈xs,GOk x.1)(e:Ext xs z)(hz:Good rows z)(hs:sm=Da\/∀(i:Nat) g,z[i]?≠AC (g,Ch)):z∈e_ rows C sm xs xs.length:=by have:=AW H hg e hz hs<|M2 _;rw[B84,A56,e.len,B22]at this;rw[e.len];exact this
theorem ON(H:Hall rows C)(h6:xs.length<=6)(hg:∀x∈xs,GOk x.1)(hk:Good rows xs)(hw:o_ rows C xs<=2000):fF [jK rows,dS xs,cA xs,.bl sm]=.ok (.lst<|(e_ rows C sm xs xs.length).map cA):=by
 rw[ro];refine aJ ?_;have hl:dM (dS xs)=.ok (.int xs.length):=by simp[dS]
 simp[i8,hl,line];refine iV (λ i ρ=>∃x5,ρ=[v (jK rows),v (dS xs),v (cA xs),v (.bl sm),v (.lst<|(e_ rows C sm xs i).map cA),x5]) ⟨Ch,rfl⟩ ?_ ?_
 .rintro j d ρ hj ⟨x5,rfl⟩;obtain⟨Ha,rfl⟩:=ints_get hj;obtain⟨⟨g,o⟩,e⟩:∃x,xs[j]?=AC x:=⟨_,A01 Ha⟩
  have ix:aT (cA xs) (.int<|j)=.ok (gr o):=(ij rfl (by rw[A04,e];rfl)).1;cases o with
  |some p=>have en:qL (b_ p)=.ok (.bl AT):=rfl;rw[kW e];simp[ix,gr,en]
  |none=>
   have hi:=yM (C:=C) (sm:=sm) hk (j:=j) (by lia);have ψ:=xw (rows:=rows) (C:=C) (sm:=sm) (xs:=xs) (j:=j) (by lia);have h1:=F4 (rows:=rows) (C:=C) xs<|j+1;rw[qq e,show lZ rows C (g,Ch)=(places rows C g).length+1 from rfl]at h1;have hB:(e_ rows C sm xs j).length*((places rows C g).length+1)<=1000000:=by have:=C09 ((places rows C g).length+1) ψ;lia
   have om:=A4 H h6 hg e sm (L:=e_ rows C sm xs j) (λ cs Hg=>⟨(hi cs Hg).gs,((hi cs Hg).rest j<|M2 _).trans e⟩) hB;rw[kX e];simp[ix,gr,om]
 .rintro ρ ⟨x5,rfl⟩;rw[jB];simp
def kE{α:Type}(mx:Bool)(w:α->Int)(b:α):γ α->α
|[]=>b
|x::r=>if Ut mx (w x) (w b)=Da then kE mx w x r else kE mx w b r
theorem uC{enc:α->D}:∀r b,(∀x∈r,e (enc x)=.ok (w x))->Qx mx e (enc b) (w b) (r.map enc)=.ok (enc<|kE mx w b r)
|[],b,_=>rfl
|x::r,b,h=>by
 have hx:=h x A22;have hr:=λ y hy=>h y<|A07 _ hy;rw[A06];unfold Qx kE;rw[hx];simp only[Res.fB];split
 .exact uC r x hr
 .exact uC r b hr
theorem qH{w:α->Int}:∀r b,kE mx w b r=b\/kE mx w b r∈r
|[],b=>.inl rfl
|x::r,b=>by
 unfold kE;split
 .rcases qH r x with h|h
  .rw[h];exact .inr A22
  .exact .inr<|A07 _ h
 .rcases qH r b with h|h
  .exact .inl h
  .exact .inr<|A07 _ h
theorem qI{w:α->Int}:∀r b,w b<=w (kE Da w b r)/\∀x∈r,w x<=w (kE Da w b r)
|[],b=>⟨Int.le_refl _,λ x h=>by cases h⟩
|x::r,b=>by
 unfold kE;by_cases hb:Ut Da (w x) (w b)=Da
 .rw[f8 hb];obtain⟨h1,h2⟩:=qI (w:=w) r x;have:w b<w x:=by simpa[Ut]using hb
  exact⟨by lia,λ y hy=>by
   rcases o0.mp hy with rfl|hy
   .exact h1
   .exact h2 y hy⟩
 .rw[v6 hb];obtain⟨h1,h2⟩:=qI (w:=w) r b;have:w x<=w b:=by simpa[Ut]using hb
  exact⟨h1,λ y hy=>by
   rcases o0.mp hy with rfl|hy
   .lia
   .exact h2 y hy⟩
def wS(z:γ GO):Int:=(z.map wO).sum
theorem TN{z:γ GO}(hg:∀x∈xs,GrpG x.1)(h:z.map (·.1)=xs.map (·.1)):∀x∈z,GrpG x.1:=λ x hx=>by
 have:x.1∈xs.map (·.1):=by rw[<-h];exact A18.mpr ⟨x,hx,rfl⟩
 obtain⟨y,hy,e⟩:=A18.mp this;rw[<-e];exact hg y hy
theorem SW{z:γ GO}(h:z.map (·.1)=xs.map (·.1)):z.length=xs.length:=by have:=A11 List.length h;rwa [A09,A09]at this
theorem Cr(h6:xs.length<=6)(hg:∀x∈xs,GrpG x.1)(h:z.map (·.1)=xs.map (·.1)):dF [dS xs,cA z]=.ok (.int<|wS z):=by have:=Ap (by rw[SW h];exact h6)<|TN hg h;rw[show D.tup _=dS z from rfl,KR h]at this;exact this
theorem LS(h6:xs.length<=6)(hg:∀x∈xs,GrpG x.1)(hL:∀z∈b::r,z.map (·.1)=xs.map (·.1)):fW [dS xs,.lst ((b::r).map cA)]=.ok (cA<|kE Da wS b r):=by
 rw[nT];refine aJ ?_;have ke:∀z∈b::r,DF (aA dF<|aa (eV 1)<|aa (eV 0) az) [v (dS xs)] (cA z)=.ok (wS z):=λ z hz=>by refine S! ?_;simp[Cr h6 hg<|hL z hz]
 have pk:=uC (mx:=Da) r b λ z hz=>ke z<|A07 _ hz;have kb:=ke b A22;have e:Lb Da (.ok .non) (eW 1) [0] (aA dF<|aa (eV 1)<|aa (eV 0) az) [v (dS xs),v (.lst<|(b::r).map cA)]=.ok (cA<|kE Da wS b r):=by show pickK Da (.ok .non) (DF _ [v _]) (cA b::r.map cA)=_;unfold pickK;dsimp only;rw[kb];exact pk
 simp only[A06]at e;simp[hV,e]
theorem HJ:fW [dS xs,.lst []]=.ok .non:=by rw[nT];refine aJ ?_;have e:Lb Da _ (eW 1) [0] (aA dF<|aa (eV 1)<|aa (eV 0) az) [v (dS xs),v (.lst [])]=.ok .non:=rfl;simp[hV,e]
end
open KH
open KH
open KH
theorem Cb(H:Hall rows C)(h6:xs.length<=6)(hg:∀x∈xs,GrpG x.1)(hk:Good rows xs)(hw:o_ rows C xs<=2000)(ef:cg [jK rows,dS xs,fd]=.ok (cA xs)):
 (e_ rows C AT xs xs.length=[]/\cY [jK rows,dS xs,fd]=.ok .non) \/
  ∃m,cY [jK rows,dS xs,fd]=.ok (cA m)/\m∈e_ rows C AT xs xs.length/\FV rows AT xs xs.length m/\∀z∈e_ rows C AT xs xs.length,wS z<=wS m:=by
 have Ya:=λ x hx=>(hg x hx).toGOk;have hi:=yM (C:=C) (sm:=AT) hk<|M2 _;have fr:=ON (sm:=AT) H h6 Ya hk hw;have sm:=IX H h6 Ya ef hw;cases e:e_ rows C AT xs _ with
 |nil=>rw[e]at fr;simp only[A78]at fr;refine .inl ⟨rfl,?_⟩;rw[mz];refine aJ ?_;simp[iI,sm,fr,HJ]
 |cons b r=>
  rw[e]at hi fr;have am:=LS h6 hg λ z hz=>(hi z hz).gs;have mem:kE Da wS b r∈b::r:=by
   rcases qH r b with h|h
   .rw[h];exact A22
   .exact A07 _ h
  refine .inr ⟨_,?_,mem,hi _ mem,λ z hz=>?_⟩
  .rw[mz];refine aJ ?_;simp only[A06]at am fr;simp[iI,sm,fr,am]
  .obtain⟨h1,h2⟩:=qI (w:=wS) r b;rcases o0.mp hz with rfl|h
   .exact h1
   .exact h2 z h
end KB
set_option maxRecDepth 4000
namespace KC
open Z KG KH KB
def iD:SF:=(aY<|vG (eU (ig .int)<|eW 0)<|La<|eU (ig .bool)<|eW 0)
def fm:γ D->Res D:=fn 1 1 iD
def cb:SF:=(aY<|vG (aA fm<|aa (eV 0) az)<|iA oLe oLe (eW 1) (eW 0)<|eW 2)
def aZ:γ D->Res D:=fn 3 3 cb
end KC
namespace HM
open Z KG KH KB KC KA KS
def t_1:γ Nat:=[97,32,114,111,119,32,105,115,32,97,32,116,101,120,116]
def t_2:γ Nat:=[110,111,32,115,117,99,104,32,114,111,119,32,105,115,32,107,110,111,119,110,32,104,101,114,101]
def t_3:γ Nat:=[97,32,103,114,111,117,112,32,105,115,32,114,101,97,100,32,102,114,111,109,32,97,32,116,101,120,116,32,97,108,111,110,101]
def t_4:γ Nat:=[97,32,103,114,111,117,112,32,105,115,32,119,114,105,116,116,101,110,32,105,110,32,116,119,111,32,119,111,114,100,115,32,97,116,32,108,101,97,115,116]
def t_5:γ Nat:=[116,104,105,115,32,116,101,120,116,32,105,115,32,110,111,116,32,104,111,119,32,97,32,103,114,111,117,112,32,105,115,32,119,114,105,116,116,101,110]
def t_6:γ Nat:=[110,111,98,111,100,121,32,111,102,32,116,104,105,115,32,110,97,109,101,32,105,115,32,97,116,32,104,97,110,100]
def _4:γ Nat:=[32,49,120,49,32,107,105,110,100]
def _3:γ Nat:=[32,49,120,49,32,107,105,110,100,32,97,98]
def _2:γ Nat:=[32,49,120,49,32,119,105,100,101,32,48]
def RB:γ Nat:=[32,49,120,49,32,119,105,100,101,32,50]
def RA:γ Nat:=[32,49,120,49,32,103,97,112,32,48]
def Rz:γ Nat:=[32,49,120,49,32,103,97,112,32,55]
def Ry:γ Nat:=[32,49,120,49,32,119,111,114,116,104,32,48]
def Rx:γ Nat:=[32,49,120,49,32,103,97,112,32,49,32,119,105,100,101,32,49]
def Rw:γ Nat:=[32,49,120,49,32,114,111,119,32,49,32,50,32,114,111,119,32,48,32,50]
def Rv:γ Nat:=[32,49,120,49,32,114,111,119,32,54,32,49]
def Ru:γ Nat:=[32,49,120,49,32,114,111,119,32,48,32,48]
def Rt:γ Nat:=[32,49,120,49,32,114,111,119,32,48]
def VN:γ Nat:=[110,105,110,101,115,105,103,110,115,32,49,120,49]
def IM:γ Nat:=[32,49,120,49,32,119,111,114,116,104,32,49]
def Rr:γ Nat:=[32,49,120,49,32,119,111,114,116,104,32,45,49]
def Rq:γ Nat:=[32,49,120,49,32,103,97,112,32,49,32,103,97,112,32,49]
def Ge:γ Nat:=[32,49,120,49,32,119,111,114,116,104,32]
def VM:γ Nat:=[110,105,110,101,115,105,103,110,115]
def HF:SF:=(aY<|eB aU (QD (eW 0) JF<|C9<|eW 1)<|QD (eW 0) (C9<|eB aU (eW 1)<|eC<|.int 1) JF)
def oQ:γ D->Res D:=fn 2 2 HF
def zY:SF:=(aY<|eB aU (eB aU (eU k9<|eB aT (eW 0)<|eC<|.int 0)<|eC<|.str [32])<|eU k9<|eB aT (eW 0)<|eC<|.int 1)
def fS:γ D->Res D:=fn 1 1 zY
def mG:SM:=(c_ (b! [0]<|fA (fz<|tE<|aA KA.jH<|aa (eV 1) az) l_ a5)<|c_ (oC 0 [104,97,108,108]<|eV 1)<|c_ (oC 0 [103,117,101,115,116,115]<|cZ az)<|c_ (oC 0 [104,101,108,100]<|cZ az)<|oC 0 [112,108,97,99,101,115]<|cZ az)
def gZ:γ D->Res (D×γ D):=D4 [0] [Da,AT] 2 mG
def iF:SF:=(aN (fA (tE<|aA KS.bT<|aa (eV 1) az) (iR (xP<|eU (gG [103,117,101,115,116,115])<|eM 0 0) (jd [2,3])<|fA (tE<|eB oEq (eB aT (eW 3)<|eC<|.int 0)<|eW 1) (aY<|eV 2) a5) a5) l_)
def bM:γ D->Res D:=Ck [Da,AT] 4 iF
theorem qa(k0:γ (Sum Int<|γ Nat))(v0:γ D)(x1:D):bM [.dct k0 v0,x1]=bH (iF [AC (.bor<|.dct k0 v0),AC (.val x1),Ch,Ch]):=FD _ _ _ _ rfl
def vV:SM:=(c_ (b! (jY 0 [Da,AT])<|fA (fz<|tE<|aA KS.d7<|aa (eV 1) az) l_ a5)<|c_ (b! (jY 0 [Da,AT])<|fA (tE<|eB Dj (eB aT (eW 1)<|eC<|.int 0)<|eL<|cP (gi<|eU (gG [103,117,101,115,116,115])<|eM 0 0) 1 [] (bf 0) cy<|eB aT (eW 0)<|eC<|.int 0) l_ a5)<|c_ (b! (jY 0 [Da,AT])<|a6 2<|eB aU (eU (gG [103,117,101,115,116,115])<|eM 0 0)<|cZ<|aa (eV 1) az)<|c_ (b! (jY 0 [Da,AT])<|fA (tE<|eB Sx (eU dM<|eW 2)<|eC<|.int 6) l_ a5)<|c_ (b! (jY 0 [Da,AT])<|a6 3<|eB aU (eU (gG [104,101,108,100])<|eM 0 0)<|cZ<|aa (eC .non) az)<|c_ (b! (jY 0 [Da,AT])<|a6 4<|aA KB.cY<|aa (eU (gG [104,97,108,108])<|eM 0 0)<|aa (eV 2)<|aa (eV 3) az)<|c_ (b! (jY 0 [Da,AT])<|fA (tE<|eU qL<|eW 4) l_ a5)<|c_ (oC 0 [103,117,101,115,116,115]<|eV 2)<|c_ (oC 0 [104,101,108,100]<|eV 3)<|c_ (oC 0 [112,108,97,99,101,115]<|eV 4)<|b! (jY 0 [Da,AT])<|aY<|eB aT (eW 4)<|eU Ba<|eC<|.int 1)
def gz:γ D->Res (D×γ D):=D4 (jY 0 [Da,AT]) [Da,AT] 5 vV
def sk:SM:=(c_ (b! (jY 0 [Da,AT])<|a6 2<|aA bM<|aa (eM 0 0)<|aa (eV 1) az)<|oC 0 [104,101,108,100]<|aA KH.dN<|aa (eU (gG [104,101,108,100])<|eM 0 0)<|aa (eV 2)<|aa (eB aT (eU (gG [112,108,97,99,101,115])<|eM 0 0)<|eW 2) az)
def je:γ D->Res (D×γ D):=D4 (jY 0 [Da,AT]) [Da,AT] 3 sk
def Cc:SM:=(c_ (b! (jY 0 [Da,AT])<|a6 2<|aA bM<|aa (eM 0 0)<|aa (eV 1) az)<|c_ (oC 0 [103,117,101,115,116,115]<|aA oQ<|aa (eU (gG [103,117,101,115,116,115])<|eM 0 0)<|aa (eV 2) az)<|c_ (oC 0 [104,101,108,100]<|aA oQ<|aa (eU (gG [104,101,108,100])<|eM 0 0)<|aa (eV 2) az)<|oC 0 [112,108,97,99,101,115]<|aA KB.cY<|aa (eU (gG [104,97,108,108])<|eM 0 0)<|aa (eU (gG [103,117,101,115,116,115])<|eM 0 0)<|aa (eU (gG [104,101,108,100])<|eM 0 0) az)
def p9:γ D->Res (D×γ D):=D4 (jY 0 [Da,AT]) [Da,AT] 3 Cc
def z6:SF:=(aY<|eB aT (eU (gG [112,108,97,99,101,115])<|eM 0 0)<|aA bM<|aa (eM 0 0)<|aa (eV 1) az)
def kj:γ D->Res D:=Ck [Da,AT] 2 z6
def jO:SF:=(aY<|eU (gG [103,117,101,115,116,115])<|eM 0 0)
def bS:γ D->Res D:=Ck [Da] 1 jO
theorem tm(k0:γ (Sum Int<|γ Nat))(v0:γ D):bS [.dct k0 v0]=bH (jO [AC (.bor<|.dct k0 v0)]):=FD _ _ _ _ rfl
def jN:SF:=(aY<|eU (gG [112,108,97,99,101,115])<|eM 0 0)
def bR:γ D->Res D:=Ck [Da] 1 jN
theorem tj(k0:γ (Sum Int<|γ Nat))(v0:γ D):bR [.dct k0 v0]=bH (jN [AC (.bor<|.dct k0 v0)]):=FD _ _ _ _ rfl
def z5:SF:=(aY<|aA KB.dF<|aa (eU (gG [103,117,101,115,116,115])<|eM 0 0)<|aa (eU (gG [112,108,97,99,101,115])<|eM 0 0) az)
def ki:γ D->Res D:=Ck [Da] 1 z5
def tw:SF:=(aN (fA (tE<|eB oEq (eU (gG [103,117,101,115,116,115])<|eM 0 0)<|cZ az) (aY<|eC<|.str [110,111,98,111,100,121]) a5)<|aY<|eB mi (eC<|.str [59,32])<|eL<|cP (Kv (eU (gG [103,117,101,115,116,115])<|eM 0 0)<|eU (gG [112,108,97,99,101,115])<|eM 0 0) 2 [] (jd [0,1]) cy<|eB aU (eB aU (eB aT (eW 0)<|eC<|.int 0)<|eC<|.str [32])<|aA fS<|aa (eV 1) az)
def iu:γ D->Res D:=Ck [Da] 1 tw
def yh:SM:=(c_ (qP (GW<|tE<|eB oEq (eW 1)<|eC<|.str [97,115,107]) (λ _=>.bad) rX)<|c_ (b! (jY 0 [Da,AT,AT])<|fA (tE<|eB oEq (eW 1)<|eC<|.str [119,104,101,114,101]) (aY<|aA fS<|aa (aA kj<|aa (eM 0 0)<|aa (eV 2) az) az) a5)<|c_ (qP (GW<|tE<|eB oEq (eW 1)<|eC<|.str [102,97,115,116]) (rY<|lT je [Da,AT] [0]<|aa (eM 0 0)<|aa (eV 2) az)<|rY<|lT p9 [Da,AT] [0]<|aa (eM 0 0)<|aa (eV 2) az)<|b! (jY 0 [Da,AT,AT])<|aY<|eC<|.str [111,107])
def lA:γ D->Res (D×γ D):=D4 (jY 0 [Da,AT,AT]) [Da,AT,AT] 3 yh
def vU:SM:=(c_ (b! (jY 0 [Da,AT])<|fA (fz<|tE<|eU (ig .str)<|eW 1) l_ a5)<|c_ (b! (jY 0 [Da,AT])<|fA (tE<|eB oEq (eW 1)<|eC<|.str [97,108,108]) (aY<|aA iu<|aa (eM 0 0) az) a5)<|c_ (b! (jY 0 [Da,AT])<|fA (tE<|eB oEq (eW 1)<|eC<|.str [119,111,114,116,104]) (aY<|eU k9<|aA ki<|aa (eM 0 0) az) a5)<|c_ (b! (jY 0 [Da,AT])<|a6 2<|eB kG (eW 1)<|eC<|.str [32])<|c_ (b! (jY 0 [Da,AT])<|fA (Ag (tE<|eB mh (eB aT (eW 2)<|eC<|.int 0)<|eC<|.tup [.str [97,115,107],.str [102,97,115,116],.str [97,119,97,121],.str [119,104,101,114,101]])<|tE<|eB oEq (eB aT (eW 2)<|eC<|.int 1)<|eC<|.str []) l_ a5)<|G3 (jY 0 [Da,AT])<|lT lA [Da,AT,AT] [0]<|aa (eM 0 0)<|aa (eB aT (eW 2)<|eC<|.int 0)<|aa (eB aT (eW 2)<|eC<|.int 2) az)
def iN:γ D->Res (D×γ D):=D4 (jY 0 [Da,AT]) [Da,AT] 3 vU
def cQ:SF:=(aN (a6 2<|eB aU (eC<|.int 1)<|eB oMod (eW 0)<|eC<|.int 2147483646)<|aN (qC 3<|bC az)<|aN (iR (jC<|eV 1) (bf 4)<|aN (a6 2<|eB oMod (eB jy (eW 2)<|eC<|.int 16807)<|eC<|.int 2147483647)<|i! 3<|eV 2)<|C0 3<|aY<|eV 3)
def cM:γ D->Res D:=fn 2 5 cQ
theorem lB(x0 x1:D):cM [x0,x1]=bH (cQ [AC (.val x0),AC (.val x1),Ch,Ch,Ch]):=cC _ _ _ _ rfl
def j9:SF:=(aN (a6 2<|eC<|.str a9)<|aN (a6 3<|eB aU (eC<|.int 1)<|eB oMod (eW 0)<|eC<|.int 8)<|aN (a6 4<|eB oMod (eB oDiv (eW 0)<|eC<|.int 8)<|eW 3)<|aN (a6 5<|eB aT (eL<|bC<|aa (eC<|.int 1)<|aa (eC<|.int 3)<|aa (eC<|.int 5)<|aa (eC<|.int 7)<|aa (eC<|.int 9)<|aa (eC<|.int 11) az)<|eB oMod (eB oDiv (eW 0)<|eC<|.int 64)<|eC<|.int 6)<|aN (qC 6<|bC az)<|aN (iR (jC<|eV 1) (bf 7)<|aN (a6 8<|eC<|.str [])<|aN (iR (jC<|eV 3) (bf 9)<|aN (a6 10<|eB jy (eB jy (eW 5)<|eW 7)<|eU Di<|eB oEq (eW 9)<|eW 4)<|a6 8<|eB aU (eW 8)<|eB aT (eW 2)<|eB oMod (eB aU (eB oDiv (eW 0)<|eB aU (eC<|.int 400)<|eB jy (eB jy (eC<|.int 30)<|eW 9)<|eW 9)<|eW 10)<|eC<|.int 26)<|i! 6<|eV 8)<|C0 6<|aY<|eV 6)
def gW:γ D->Res D:=fn 2 11 j9
theorem zD(x0 x1:D):gW [x0,x1]=bH (j9 [AC (.val x0),AC (.val x1),Ch,Ch,Ch,Ch,Ch,Ch,Ch,Ch,Ch]):=cC _ _ _ _ rfl
def dP:SF:=(aN (a6 1<|eC<|.str a9)<|aY<|eB aU (eB aT (eW 1)<|eB oMod (eW 0)<|eC<|.int 26)<|eB aT (eW 1)<|eB oMod (eB aU (eB aU (eW 0)<|eC<|.int 1)<|eB oMod (eB oDiv (eW 0)<|eC<|.int 26)<|eC<|.int 25)<|eC<|.int 26)
def b?:γ D->Res D:=fn 1 2 dP
theorem jI(x0:D):b? [x0]=bH (dP [AC (.val x0),Ch]):=cC _ _ _ _ rfl
def eF:SF:=(aN (a6 1<|aA KG.bh<|aa (eV 0)<|aa (eC<|.int 0) az)<|aN (a6 2<|eB aT (eL<|bC<|aa (eC<|.int 1)<|aa (eC<|.int 2)<|aa (eC<|.int 1)<|aa (eC<|.int 2)<|aa (eC<|.int 3)<|aa (eC<|.int 2)<|aa (eC<|.int 1)<|aa (eC<|.int 2) az)<|eB oMod (eW 1)<|eC<|.int 8)<|aN (a6 3<|eB aT (eL<|bC<|aa (eC<|.int 3)<|aa (eC<|.int 4)<|aa (eC<|.int 5)<|aa (eC<|.int 2)<|aa (eC<|.int 1)<|aa (eC<|.int 4)<|aa (eC<|.int 6)<|aa (eC<|.int 3) az)<|eB oMod (eB oDiv (eW 1)<|eC<|.int 8)<|eC<|.int 8)<|aN (a6 4<|eB aU (eC<|.str [46,46,46,46,46,61,35])<|aA b?<|aa (eB oDiv (eW 1)<|eC<|.int 64) az)<|aN (qC 5<|bC az)<|aN (iR (jC<|eV 2) (bf 6)<|aN (a6 7<|aA cM<|aa (eB aU (aA KG.bh<|aa (eV 0)<|aa (eC<|.int 1) az)<|eB jy (eC<|.int 31)<|eW 6)<|aa (eV 3) az)<|i! 5<|eB mi (eC<|.str [])<|eL<|cP (gi<|eW 7) 1 [4] (bf 0) cy<|eB aT (eW 1)<|eB oMod (eB oDiv (eW 0)<|eC<|.int 3)<|eC<|.int 9)<|aY<|eU jw<|eW 5)
def d6:γ D->Res D:=fn 1 8 eF
theorem my(x0:D):d6 [x0]=bH (eF [AC (.val x0),Ch,Ch,Ch,Ch,Ch,Ch,Ch]):=cC _ _ _ _ rfl
def iO:SF:=(aN (a6 1<|eL<|bC<|aa (mC 0<|lV [([78,111,82,111,119],Da),([78,111,84,101,120,116],AT),([78,111,78,97,109,101],AT)])<|aa (mC 0<|lV [([78,111,82,111,119],AT),([78,111,84,101,120,116],Da),([78,111,78,97,109,101],AT)])<|aa (mC 0<|lV [([78,111,82,111,119],AT),([78,111,84,101,120,116],AT),([78,111,78,97,109,101],Da)])<|aa (mC 0<|lV [([78,111,82,111,119],AT),([78,111,84,101,120,116],AT),([78,111,78,97,109,101],AT)]) az)<|aN (a6 1<|eL<|kh (eW 1)<|eL<|bC<|aa (mC 0<|lV [([78,111,82,111,119],AT),([78,111,84,101,120,116],AT),([78,111,78,97,109,101],AT)])<|aa (mC 0<|lV [([78,111,82,111,119],AT),([78,111,84,101,120,116],AT),([78,111,78,97,109,101],AT)])<|aa (mC 0<|lV [([78,111,82,111,119],AT),([78,111,84,101,120,116],AT),([78,111,78,97,109,101],AT)])<|aa (mC 0<|lV [([78,111,82,111,119],AT),([78,111,84,101,120,116],AT),([78,111,78,97,109,101],AT)]) az)<|aY<|eL<|kh (eW 1)<|eL<|bC<|aa (mC 0<|lV [([78,111,82,111,119],AT),([78,111,84,101,120,116],AT),([78,111,78,97,109,101],AT)])<|aa (La<|mC 0<|lV [([78,111,82,111,119],Da),([78,111,84,101,120,116],Da),([78,111,78,97,109,101],Da)]) az)
def cw:XN->Res D:=TV 2 iO
def du:XF:=(fy (fA (tE<|aA KS.bT<|aa (eV 1) az) (iR (xP<|eU (gG [103,117,101,115,116,115])<|eM 0 0) (jd [2,3])<|fA (tE<|eB oEq (eB aT (eW 3)<|eC<|.int 0)<|eW 1) (aY<|eV 2) a5) a5) nZ<|e! [78,111,78,97,109,101]<|eC<|.str t_6)
def br:γ D->ε XN:=Fz [Da,AT] 4 du
theorem oP(k0:γ (Sum Int<|γ Nat))(v0:γ D)(x1:D):br [.dct k0 v0,x1]=du [AC (.bor<|.dct k0 v0),AC (.val x1),Ch,Ch]:=xW _ _ _ _ rfl
def kQ:XF:=(fy (a6 2<|aA bM<|aa (eM 0 0)<|aa (eV 1) az) (e? br<|aa (eM 0 0)<|aa (eV 1) az) nZ)
def gO:γ D->ε XN:=Fz [Da,AT] 3 kQ
theorem wZ(k0:γ (Sum Int<|γ Nat))(v0:γ D)(x1:D):gO [.dct k0 v0,x1]=kQ [AC (.bor<|.dct k0 v0),AC (.val x1),Ch]:=xW _ _ _ _ rfl
def kP:XF:=(fy (a6 2<|aA bM<|aa (eM 0 0)<|aa (eV 1) az) (e? br<|aa (eM 0 0)<|aa (eV 1) az) nZ)
def gN:γ D->ε XN:=Fz [Da,AT] 3 kP
theorem wY(k0:γ (Sum Int<|γ Nat))(v0:γ D)(x1:D):gN [.dct k0 v0,x1]=kP [AC (.bor<|.dct k0 v0),AC (.val x1),Ch]:=xW _ _ _ _ rfl
def j_:XF:=(Q_ (eU (gG [112,108,97,99,101,115])<|eM 0 0)<|e? br<|aa (eM 0 0)<|aa (eV 1) az)
def fR:γ D->ε XN:=Fz [Da,AT] 2 j_
theorem vv(k0:γ (Sum Int<|γ Nat))(v0:γ D)(x1:D):fR [.dct k0 v0,x1]=j_ [AC (.bor<|.dct k0 v0),AC (.val x1)]:=xW _ _ _ _ rfl
def fM:XF:=(fy (fA (fz<|tE<|eU (ig .str)<|eW 0) l_ a5) (we (fz<|tE<|eU (ig .str)<|eW 0) (e! [78,111,84,101,120,116]<|eC<|.str t_3) nZ)<|fy (a6 1<|eL<|Dy (eW 0)<|eC<|.str [32]) nZ<|fy (fA (tE<|eB oLt (eU dM<|eW 1)<|eC<|.int 2) l_ a5) (we (tE<|eB oLt (eU dM<|eW 1)<|eC<|.int 2) (e! [78,111,84,101,120,116]<|eC<|.str t_4) nZ)<|fy (a6 2<|aA KS.j5<|aa (eV 1) az) nZ<|fy (fA (Ag (fz<|tE<|aA KS.d7<|aa (eV 2) az)<|tE<|eB pO (aA KS.fT<|aa (eV 2) az)<|eW 0) l_ a5) (we (Ag (fz<|tE<|aA KS.d7<|aa (eV 2) az)<|tE<|eB pO (aA KS.fT<|aa (eV 2) az)<|eW 0) (e! [78,111,84,101,120,116]<|eC<|.str t_5) nZ) nZ)
def fQ:γ D->ε XN:=fx 1 3 fM
theorem vt(x0:D):fQ [x0]=fM [AC (.val x0),Ch,Ch]:=acH _ _ _ _ rfl
def ik:XF:=(fy (fA (tE<|eB oEq (eW 1)<|eC<|.str [97,115,107]) (aY<|aA fS<|aa D! az) a5) (we (tE<|eB oEq (eW 1)<|eC<|.str [97,115,107]) (Q_ (eM 0 0)<|e? fQ<|aa (eV 2) az) nZ)<|fy (fA (tE<|eB oEq (eW 1)<|eC<|.str [119,104,101,114,101]) (aY<|aA fS<|aa (aA kj<|aa (eM 0 0)<|aa (eV 2) az) az) a5) (we (tE<|eB oEq (eW 1)<|eC<|.str [119,104,101,114,101]) (e? fR<|aa (eM 0 0)<|aa (eV 2) az) nZ)<|fy (fA (tE<|eB oEq (eW 1)<|eC<|.str [102,97,115,116]) (Je D!)<|Je D!) (we (tE<|eB oEq (eW 1)<|eC<|.str [102,97,115,116]) (e? gN<|aa (eM 0 0)<|aa (eV 2) az)<|e? gO<|aa (eM 0 0)<|aa (eV 2) az) nZ)
def fg:γ D->ε XN:=Fz [Da,AT,AT] 3 ik
theorem jZ(k0:γ (Sum Int<|γ Nat))(v0:γ D)(x1:D)(x2:D):fg [.dct k0 v0,x1,x2]=ik [AC (.bor<|.dct k0 v0),AC (.val x1),AC (.val x2)]:=xW _ _ _ _ rfl
def gw:XF:=(fy (fA (fz<|tE<|eU (ig .str)<|eW 1) l_ a5) (we (fz<|tE<|eU (ig .str)<|eW 1) (e! [78,111,82,111,119]<|eC<|.str t_1) nZ)<|fy (fA (tE<|eB oEq (eW 1)<|eC<|.str [97,108,108]) (aY<|aA iu<|aa (eM 0 0) az) a5) nZ<|fy (fA (tE<|eB oEq (eW 1)<|eC<|.str [119,111,114,116,104]) (aY<|eU k9<|aA ki<|aa (eM 0 0) az) a5) nZ<|fy (a6 2<|eB kG (eW 1)<|eC<|.str [32]) nZ<|fy (fA (Ag (tE<|eB mh (eB aT (eW 2)<|eC<|.int 0)<|eC<|.tup [.str [97,115,107],.str [102,97,115,116],.str [97,119,97,121],.str [119,104,101,114,101]])<|tE<|eB oEq (eB aT (eW 2)<|eC<|.int 1)<|eC<|.str []) l_ a5) (we (Ag (tE<|eB mh (eB aT (eW 2)<|eC<|.int 0)<|eC<|.tup [.str [97,115,107],.str [102,97,115,116],.str [97,119,97,121],.str [119,104,101,114,101]])<|tE<|eB oEq (eB aT (eW 2)<|eC<|.int 1)<|eC<|.str []) (e! [78,111,82,111,119]<|eC<|.str t_2) nZ)<|e? fg<|aa (eM 0 0)<|aa (eB aT (eW 2)<|eC<|.int 0)<|aa (eB aT (eW 2)<|eC<|.int 2) az)
def dE:γ D->ε XN:=Fz [Da,AT] 3 gw
theorem lu(k0:γ (Sum Int<|γ Nat))(v0:γ D)(x1:D):dE [.dct k0 v0,x1]=gw [AC (.bor<|.dct k0 v0),AC (.val x1),Ch]:=xW _ _ _ _ rfl
def o6:SF:=(aN (a6 2<|eC .non)<|aN (AY (a6 2 D!) (e? dE<|aa (eM 0 0)<|aa (eV 1) az) [[78,111,82,111,119],[78,111,84,101,120,116],[78,111,78,97,109,101]] 3<|a6 2<|vF cw 3)<|aY<|eV 2)
def bL:γ D->Res D:=Ck [Da,AT] 4 o6
theorem BP(k0:γ (Sum Int<|γ Nat))(v0:γ D)(x1:D):bL [.dct k0 v0,x1]=bH (o6 [AC (.bor<|.dct k0 v0),AC (.val x1),Ch,Ch]):=FD _ _ _ _ rfl
def lN:SF:=(aN (a6 2<|eL<|bC<|aa (eC<|.str [])<|aa (eC<|.str [32])<|aa (eC<|.str [97,108,108,32])<|aa (eC<|.str [32,97,108,108])<|aa (eC<|.str [119,111,114,116,104,32])<|aa (eB aU (eC<|.str [119,111,114,116,104,32])<|eW 1)<|aa (eC<|.str [97,115,107])<|aa (eC<|.str [102,97,115,116])<|aa (eC<|.str [97,119,97,121])<|aa (eC<|.str [119,104,101,114,101])<|aa (eB aU (eC<|.str [97,115,107,115,32])<|eW 1)<|aa (eC<|.str [65,108,108]) az)<|aN (a6 2<|eL<|kh (eW 2)<|eL<|bC<|aa (eB aU (eB aU (eC<|.str [65,83,75,32])<|eW 1)<|eC<|.str [32,49,120,49])<|aa (eB aU (eB aU (eC<|.str [32,97,115,107,32])<|eW 1)<|eC<|.str [32,49,120,49])<|aa (eB aU (eC<|.str [102,97,115,116,10])<|eW 1)<|aa (eB aU (eC<|.str [103,111,32])<|eW 1)<|aa (eB aU (eW 1)<|eC<|.str [45]) az)<|aN (a6 2<|eL<|kh (eW 2)<|eL<|bC<|aa (eC<|.str [110,111,98,111,100,121])<|aa (eC<|.str [111,107]) az)<|aN (a6 2<|eL<|kh (eW 2)<|eL<|bC<|aa (eC<|.str [97,108,108,10])<|aa (eB aU (eC<|.str [97,108,108,32])<|eW 1)<|aa (eB aU (eC<|.str [119,104,101,114,101,9])<|eW 1)<|aa (eB aU (eC<|.str [102,97,115,116,108,121,32])<|eW 1)<|aa (eB aU (eB aU (eC<|.str [115,116,97,121,32])<|eW 1)<|eC<|.str [32])<|aa (eC<|.str [119,111,114,116,104,115])<|aa (eC<|.str [45]) az)<|aN (a6 2<|eL<|kh (eW 2)<|eL<|bC<|aa (eC .non)<|aa (eC<|.int 0)<|aa (eC<|.bl Da)<|aa (eL<|bC az)<|aa (cZ<|aa (eC<|.str [97,108,108]) az)<|aa (eC<|.dct [] []) az)<|aY<|eB aT (eW 2)<|eB oMod (eW 0)<|eU dM<|eW 2)
def fV:γ D->Res D:=fn 2 3 lN
theorem w!(x0 x1:D):fV [x0,x1]=bH (lN [AC (.val x0),AC (.val x1),Ch]):=cC _ _ _ _ rfl
def kq:SF:=(aN (a6 2<|eL<|bC<|aa (eC<|.str [])<|aa (eC<|.str [32])<|aa (eV 1)<|aa (eB aU (eW 1)<|eC<|.str [32])<|aa (eB aU (eW 1)<|eC<|.str [32,49,120])<|aa (eB aU (eW 1)<|eC<|.str [32,49,120,49,32])<|aa (eB aU (eW 1)<|eC<|.str [32,32,49,120,49])<|aa (eB aU (eB aU (eC<|.str [32])<|eW 1)<|eC<|.str [32,49,120,49]) az)<|aN (a6 2<|eL<|kh (eW 2)<|eL<|bC<|aa (eB aU (eW 1)<|eC<|.str [32,48,49,120,49])<|aa (eB aU (eW 1)<|eC<|.str [32,48,120,49])<|aa (eB aU (eW 1)<|eC<|.str [32,49,120,52])<|aa (eB aU (eW 1)<|eC<|.str [32,49,51,120,49])<|aa (eB aU (eW 1)<|eC<|.str _4) az)<|aN (a6 2<|eL<|kh (eW 2)<|eL<|bC<|aa (eB aU (eW 1)<|eC<|.str _3)<|aa (eB aU (eW 1)<|eC<|.str [32,49,88,49]) az)<|aN (a6 2<|eL<|kh (eW 2)<|eL<|bC<|aa (eB aU (eW 1)<|eC<|.str _2)<|aa (eB aU (eW 1)<|eC<|.str RB)<|aa (eB aU (eW 1)<|eC<|.str RA)<|aa (eB aU (eW 1)<|eC<|.str Rz)<|aa (eC<|.str [65,32,49,120,49]) az)<|aN (a6 2<|eL<|kh (eW 2)<|eL<|bC<|aa (eB aU (eW 1)<|eC<|.str Ry)<|aa (eB aU (eW 1)<|eC<|.str Rx)<|aa (eB aU (eW 1)<|eC<|.str Rw)<|aa (eB aU (eW 1)<|eC<|.str [32,49,120,49,10]) az)<|aN (a6 2<|eL<|kh (eW 2)<|eL<|bC<|aa (eB aU (eW 1)<|eC<|.str Rv)<|aa (eB aU (eW 1)<|eC<|.str Ru)<|aa (eB aU (eW 1)<|eC<|.str Rt)<|aa (eC<|.str VN)<|aa (eB aU (eW 1)<|eC<|.str [32,49,32,120,32,49]) az)<|aN (a6 2<|eL<|kh (eW 2)<|eL<|bC<|aa (eB aU (eB aU (eW 1)<|eC<|.str IM)<|eB y? (eC<|.str [48])<|eC<|.int 60)<|aa (eB aU (eW 1)<|eC<|.str Rr)<|aa (eB aU (eW 1)<|eC<|.str Rq)<|aa (eB aU (eW 1)<|eC<|.str [32,43,49,120,49]) az)<|aN (a6 2<|eL<|kh (eW 2)<|eL<|bC<|aa (eB aU (eB aU (eW 1)<|eC<|.str Ge)<|eB y? (eC<|.str [57])<|eC<|.int 5000)<|aa (eB aU (eB aU (eB aU (eW 1)<|eC<|.str [32])<|eB y? (eC<|.str [57])<|eC<|.int 5000)<|eC<|.str [120,49]) az)<|aY<|eB aT (eW 2)<|eB oMod (eW 0)<|eU dM<|eW 2)
def fh:γ D->Res D:=fn 2 3 kq
theorem vC(x0 x1:D):fh [x0,x1]=bH (kq [AC (.val x0),AC (.val x1),Ch]):=cC _ _ _ _ rfl
def kr:SF:=(aN (a6 2<|eB aT (eL<|bC<|aa (eC<|.str [102,97,115,116,32])<|aa (eC<|.str [97,119,97,121,32])<|aa (eC<|.str [119,104,101,114,101,32]) az)<|eB oMod (eB oDiv (eW 0)<|eC<|.int 13)<|eC<|.int 3)<|aN (a6 3<|eL<|bC<|aa (eC<|.str [])<|aa (eC<|.str [32])<|aa (eB aU (eB aT (eW 1)<|eC<|.int 0)<|eC<|.str [32])<|aa (eB aU (eC<|.str [32])<|eB aT (eW 1)<|eC<|.int 0)<|aa (eB aT (eW 1)<|eC<|.int 1)<|aa (eC<|.str [65])<|aa (eC<|.str VM)<|aa (eB aU (eB aT (eW 1)<|eC<|.int 0)<|eC<|.str [10])<|aa (eC<|.str [97,32,98])<|aa (eC<|.str [48])<|aa (eC<|.str [45]) az)<|aY<|eB aU (eW 2)<|eB aT (eW 3)<|eB oMod (eW 0)<|eC<|.int 11)
def fi:γ D->Res D:=fn 2 4 kr
theorem vD(x0 x1:D):fi [x0,x1]=bH (kr [AC (.val x0),AC (.val x1),Ch,Ch]):=cC _ _ _ _ rfl
def rF:SF:=(aY<|eL<|cP (jC<|eC<|.int 10) 1 [0] (bf 0) cy<|eB oEq (eW 0)<|eW 1)
def cG:γ D->Res D:=fn 1 1 rF
theorem D6(x0:D):cG [x0]=bH (rF [AC (.val x0)]):=cC _ _ _ _ rfl
def LO:SF:=(aN (a6 1<|aA d6<|aa (eV 0) az)<|aN (a6 2<|aA gW<|aa (aA KG.bh<|aa (eV 0)<|aa (eC<|.int 2) az)<|aa (eC<|.int 2) az)<|uA 3 gZ (eV 1)<|c_ (b! [3]<|a6 4<|QF (eB uO (eC<|.str [46])<|eB k! (eC<|.str [])<|eW 1)<|eB uO (eC<|.str [61])<|eB k! (eC<|.str [])<|eW 1)<|c_ (qP (GW<|tE<|eV 4) (rY<|lT gz [Da,AT] [3]<|aa (eM 0 3)<|aa (cZ<|aa (eB aT (eW 2)<|eC<|.int 0)<|aa (eC<|.int 1)<|aa (eC<|.int 1)<|aa (eC<|.str [])<|aa (eC<|.int 0)<|aa (eC<|.int 0)<|aa (eC<|.int 0)<|aa (cZ az) az) az) rX)<|c_ (b! [3]<|a6 5<|cZ<|aa (aA bS<|aa (eM 0 3) az)<|aa (aA bR<|aa (eM 0 3) az) az)<|c_ (b! [3]<|iR (gi<|eL<|kh (eL<|bC<|aa (eC<|.int 0)<|aa (eC<|.int 1)<|aa (eC<|.int 12)<|aa (eC<|.int 31)<|aa (eC<|.int 99)<|aa (eC<|.int 102) az)<|eL<|N_ (eW 0) (C9<|eC<|.int 3)<|C9<|eC<|.int 33) (bf 6)<|aN (fA (tE<|eB pO (aA bL<|aa (eM 0 3)<|aa (aA fV<|aa (eB oDiv (eW 6)<|eC<|.int 2)<|aa (eB aT (eW 2)<|eC<|.int 0) az) az)<|aA cG<|aa (eC<|.int 0) az) (aY<|eC<|.bl AT) a5)<|aN (fA (tE<|eB pO (aA bL<|aa (eM 0 3)<|aa (eB aU (eC<|.str [97,115,107,32])<|aA fh<|aa (eB oDiv (eW 6)<|eC<|.int 3)<|aa (eB aT (eW 2)<|eC<|.int 1) az) az)<|aA cG<|aa (eC<|.int 1) az) (aY<|eC<|.bl AT) a5)<|aN (fA (tE<|eB pO (aA bL<|aa (eM 0 3)<|aa (aA fi<|aa (eB oDiv (eW 6)<|eC<|.int 5)<|aa (eV 2) az) az)<|aA cG<|aa (eC<|.int 2) az) (aY<|eC<|.bl AT) a5)<|fA (tE<|eB pO (cZ<|aa (aA bS<|aa (eM 0 3) az)<|aa (aA bR<|aa (eM 0 3) az) az)<|eW 5) (aY<|eC<|.bl AT) a5)<|c_ (qP (GW<|tE<|eV 4) (G3 [3]<|N0 (mB oEq (lT iN [Da,AT] [3]<|aa (eM 0 3)<|aa (eB aU (eC<|.str [102,97,115,116,32])<|eB aT (eW 2)<|eC<|.int 0) az)<|mP<|eC<|.str [111,107])<|mP<|eB oEq (cZ<|aa (aA bS<|aa (eM 0 3) az)<|aa (aA bR<|aa (eM 0 3) az) az)<|eW 5) rX)<|b! [3]<|aY<|eB oEq (aA bL<|aa (eM 0 3)<|aa (eB aU (eC<|.str [102,97,115,116,32])<|eB aT (eW 2)<|eC<|.int 0) az)<|aA cG<|aa (eC<|.int 2) az)
def rh:γ D->Res D:=fn 1 7 LO
theorem TX(x0:D):rh [x0]=bH (LO [AC (.val x0),Ch,Ch,Ch,Ch,Ch,Ch]):=cC _ _ _ _ rfl
end HM
set_option maxRecDepth 8000
namespace HM
open Z
abbrev lX:γ Nat:=[78,111,82,111,119]
abbrev cText:γ Nat:=[78,111,84,101,120,116]
abbrev yc:γ Nat:=[78,111,78,97,109,101]
def kn(k:Nat):γ D:=(FB 10).map λ i=>.bl<|decide<|i=k
theorem zF(h:k<10):cG [.int (k:Nat)]=.ok (.lst<|kn k):=by
 rw[D6];refine aJ ?_;have c:Ok (bU (bf 0) cy (eB oEq (eW 0)<|eW 1) [Ch,vi (k)]<|«zints» 0 10) λ ds=>ds=kn k:=by
  have e:«zints» 0 10=(FB 10).map λ i=>D.int (i:Nat):=by simp[«zints»]
  rw[e];refine cL (λ i=>D.int (i:Nat)) (λ _=>Da) (λ i=>.bl<|decide<|i=k) (λ i hi=>?_) ?_
  .simp;exact A65.mpr (by simp;lia)
  .rw[A68.mpr λ _ _=>rfl];rfl
 have e:=c.eq;simp[rF,bX,eZ,qf,line,e]
theorem xI(m:Z.XN)(h:m.1=lX):cw m=.ok (.lst<|kn 0):=by obtain⟨c,fs⟩:=m;cases h;have hx:∀l,lV l=λ c=>l.lookup c:=λ _=>rfl;simp[cw,TV,iO,mC,hx,oE,line,kn,FB,Ps]
theorem DB(m:Z.XN)(h:m.1=cText):cw m=.ok (.lst<|kn 1):=by obtain⟨c,fs⟩:=m;cases h;have hx:∀l,lV l=λ c=>l.lookup c:=λ _=>rfl;simp[cw,TV,iO,mC,hx,IR,oE,line,kn,FB,Ps]
theorem DC(m:Z.XN)(h:m.1=yc):cw m=.ok (.lst<|kn 2):=by obtain⟨c,fs⟩:=m;cases h;have hx:∀l,lV l=λ c=>l.lookup c:=λ _=>rfl;simp[cw,TV,iO,mC,hx,IR,oE,line,kn,FB,Ps]
open Z
abbrev dk(x:Nat)(hall gs hl ps:D):D:=.dct [.inl (x:Int),.inl 0,.inr [104,97,108,108],.inr [103,117,101,115,116,115],.inr [104,101,108,100],.inr [112,108,97,99,101,115]] [hall,gs,hl,ps]
theorem YE(x:Nat)(hall gs hl ps:D):ib x 0 dg [hall,gs,hl,ps]=dk x hall gs hl ps:=rfl
theorem tL{hall gs hl ps d L:D}(hx:dE [dk x hall gs hl ps,d]=AC m)(hc:m.1∈[lX,cText,yc])(hk:cw m=.ok L):bL [dk x hall gs hl ps,d]=.ok L:=by
 rw[BP];refine aJ ?_;have h0:AY (a6 2 D!) (e? dE<|aa (eM 0 0)<|aa (eV 1) az) [lX,cText,yc] 3 (a6 2<|vF cw 3) [AC (.bor<|dk x hall gs hl ps),AC (.val d),AC (.val .non),Ch]=.ok (.nx [AC (.bor<|dk x hall gs hl ps),AC (.val d),AC (.val L),Ch]):=by
  have e:e? dE (aa (eM 0 0)<|aa (eV 1) az) [AC (.bor<|dk x hall gs hl ps),AC (.val d),AC (.val .non),Ch]=AC m:=by simp[e?,eM,hx]
  unfold AY;rw[e];simp only;rw[f8 hc];simp[vF,hk]
 simp[o6,h0]
theorem RK(x:Nat)(hall gs hl ps d:D)(h:cF .str d=AT):dE [dk x hall gs hl ps,d]=AC (lX,[]):=by rw[lu];simp[gw,fy,we,e!,h]
open Z
abbrev su:γ Nat:=[97,115,107]
abbrev cK:γ Nat:=[102,97,115,116]
abbrev kA:γ Nat:=[97,119,97,121]
abbrev il:γ Nat:=[119,104,101,114,101]
abbrev yt:γ Nat:=[97,108,108]
abbrev kR:γ Nat:=[119,111,114,116,104]
theorem eqT(s t:γ Nat):oEq (.str s) (.str t)=.ok (.bl<|decide<|s=t):=by have:iW (.str s) (.str t)=AC _:=rfl;unfold oEq;rw[this];simp only[Res.ok.injEq,D.bl.injEq];exact A65.mpr (by simp)
theorem _d(a:γ Nat):mh (.str a) (.tup [.str su,.str cK,.str kA,.str il])=.ok (.bl<|!decide (a∈[su,cK,kA,il])):=by
 have e:∀t,iW (.str t) (.str a)=AC _:=λ _=>rfl;show(match h! (.str a) [.str su,.str cK,.str kA,.str il]with|some b=>Res.ok _|none=>Res.bad)=_;simp only[h!,e];simp only[o0,A16];by_cases h1:a=su
 .subst h1;rfl
 by_cases h2:a=cK
 .subst h2;rfl
 by_cases h3:a=kA
 .subst h3;rfl
 by_cases h4:a=il
 .subst h4;rfl
 have q:∀t,a≠t->(t==a)=AT:=λ t h=>by simpa using A08 h
 simp[q _ h1,q _ h2,q _ h3,q _ h4,h1,h2,h3,h4]
theorem M3(hp:kG (.str r) (.str [32])=.ok (.tup [.str a,.str b,.str c]))(h1:r≠yt)(h2:r≠kR)(h3:a∉[su,cK,kA,il]\/b=[]):dE [dk x hall gs hl ps,.str r]=AC (lX,[]):=by
 rw[lu];have i0:aT (.tup [.str a,.str b,.str c]) (.int 0)=.ok _:=rfl;have i1:aT (.tup [.str a,.str b,.str c]) (.int 1)=.ok _:=rfl;have ty:cF .str (.str r)=Da:=rfl;by_cases hw:a∈[su,cK,kA,il]
 .have hb:=h3.resolve_left λ h=>h hw;subst hb;simp[gw,fy,we,e!,nZ,ty,h1,h2,hp,i0,i1,_d,hw]
 .simp[gw,fy,we,e!,nZ,ty,eqT,h1,h2,hp,i0,i1,_d,hw]
theorem Jc(hp:kG (.str r) (.str [32])=.ok (.tup [.str a,.str b,.str c]))(h1:r≠yt)(h2:r≠kR)(h3:a∈[su,cK,kA,il])(h4:b≠[]):dE [dk x hall gs hl ps,.str r]=fg [dk x hall gs hl ps,.str a,.str c]:=by rw[lu];have i0:aT (.tup [.str a,.str b,.str c]) (.int 0)=.ok _:=rfl;have i1:aT (.tup [.str a,.str b,.str c]) (.int 1)=.ok _:=rfl;have i2:aT (.tup [.str a,.str b,.str c]) (.int 2)=.ok _:=rfl;have ty:cF .str (.str r)=Da:=rfl;simp[gw,fy,we,nZ,e?,eM,ty,eqT,h1,h2,hp,i0,i1,i2,_d,h3,h4]
open Z
theorem T?(h:fQ [.str c]=AC m):fg [dk x hall gs hl ps,.str su,.str c]=AC m:=by rw[jZ];simp[ik,fy,we,Q_,e?,eM,h]
theorem Lg(h:fR [dk x hall gs hl ps,.str c]=AC m):fg [dk x hall gs hl ps,.str il,.str c]=AC m:=by rw[jZ];simp[ik,fy,we,nZ,e?,eM,h]
theorem O1(h:gN [dk x hall gs hl ps,.str c]=AC m):fg [dk x hall gs hl ps,.str cK,.str c]=AC m:=by rw[jZ];simp[ik,fy,we,nZ,e?,eM,h]
theorem O2(h:gO [dk x hall gs hl ps,.str c]=AC m):fg [dk x hall gs hl ps,.str kA,.str c]=AC m:=by rw[jZ];simp[ik,fy,we,nZ,e?,eM,h]
theorem W9(e:KS.bT [.str c]=.ok (.bl b))(h:gs=.tup []\/∃g n,gs=.tup [g]/\aT g (.int 0)=.ok (.str n)/\(b=Da->n≠c)):br [dk x hall gs hl ps,.str c]=AC (yc,[]):=by
 rw[oP];rcases h with rfl|⟨g,n,rfl,e0,hn⟩
 .cases b<;>simp[du,fy,e!,nZ,e,eM,gG,vo,dg,xP,gP,kL]
 .cases b with
  |false=>simp[du,fy,e!,nZ,e]
  |true=>have hn:=hn rfl;have gX:∀ρ,jd [2,3] (.tup [.int 0,g]) ρ=.ok _:=λ ρ=>rfl;simp[du,fy,e!,nZ,e,eM,gG,vo,dg,xP,gP,kL,lU,pair,gX,e0,eqT,hn,line]
theorem Mu(h:br [dk x hall gs hl ps,.str c]=AC m):fR [dk x hall gs hl ps,.str c]=AC m:=by rw[vv];simp[j_,dg];exact h
theorem TY(h:br [dk x hall gs hl ps,.str c]=AC m):gN [dk x hall gs hl ps,.str c]=AC m:=by rw[wY];simp[kP,fy,e?,eM,h]
theorem UC(h:br [dk x hall gs hl ps,.str c]=AC m):gO [dk x hall gs hl ps,.str c]=AC m:=by rw[wZ];simp[kQ,fy,e?,eM,h]
open Z
abbrev WS:γ (γ Nat):=[su,cK,kA,il]
def NR(d:D):Prop:=cF .str d=AT\/∃r:γ Nat,d=.str r/\r.length<=1000/\r≠yt/\r≠kR/\((fH 32 r).1∉WS\/(fH 32 r).2.1=[])
theorem yV(hl:r.length<=1000):kG (.str r) (.str [32])=.ok (.tup [.str (fH 32 r).1,.str (fH 32 r).2.1,.str (fH 32 r).2.2]):=by show guard _ _=_;rw[guard_pos];simp only[line];lia
theorem ND(h:NR d):bL [dk x hall gs hl ps,d]=.ok (.lst<|kn 0):=by
 rcases h with h|⟨r,rfl,h1,h2,h3,h4⟩
 .exact tL (RK x hall gs hl ps d h) (by simp)<|xI _ rfl
 .exact tL (M3 (yV h1) h2 h3 h4) (by simp)<|xI _ rfl
theorem eT(h:32∉r)(hl:r.length<=1000)(h1:r≠yt)(h2:r≠kR):NR (.str r):=.inr ⟨r,rfl,hl,h1,h2,.inr (by rw[KS.xB h])⟩
theorem lR(h:32∉a)(hl:(a++32::b).length<=1000)(hw:a∉WS):NR (.str<|a++32::b):=by
 have hm:(32)∈a++32::b:=by simp
 refine .inr ⟨_,rfl,hl,λ e=>?_,λ e=>?_,.inl (by rw[KS.pJ h];exact hw)⟩
 .rw[e]at hm;exact absurd hm (by decide)
 .rw[e]at hm;exact absurd hm (by decide)
def uU(nm:γ Nat):γ D:=[.str [],.str [32],.str [97,108,108,32],.str [32,97,108,108],.str [119,111,114,116,104,32],.str ([119,111,114,116,104,32]++nm),.str [97,115,107],.str [102,97,115,116],.str [97,119,97,121],.str [119,104,101,114,101],.str ([97,115,107,115,32]++nm),.str [65,108,108],
 .str ([65,83,75,32]++nm++[32,49,120,49]),.str ([32,97,115,107,32]++nm++[32,49,120,49]),.str ([102,97,115,116,10]++nm),.str ([103,111,32]++nm),.str (nm++[45]),.str [110,111,98,111,100,121],.str [111,107],
 .str [97,108,108,10],.str ([97,108,108,32]++nm),.str ([119,104,101,114,101,9]++nm),.str ([102,97,115,116,108,121,32]++nm),.str ([115,116,97,121,32]++nm++[32]),.str [119,111,114,116,104,115],.str [45],.non,.int 0,.bl Da,.lst [],.tup [.str [97,108,108]],.dct [] []]
theorem M5(h:KS.lP nm):∀d∈uU nm,NR d:=by
 obtain⟨n1,n8,nl⟩:=h;have n32:32∉nm:=λ e=>by have:=nl 32 e;exact absurd this (by decide)
 have l45:nm++[45]≠yt:=λ e=>by
  have:(45)∈yt:=by rw[<-e];simp
  exact absurd this (by decide)
 have abr:nm++[45]≠kR:=λ e=>by
  have:(45)∈kR:=by rw[<-e];simp
  exact absurd this (by decide)
 have l10:([102,97,115,116,10]++nm)≠yt:=λ e=>by injection e with e _;exact absurd e (by decide)
 have abt:([102,97,115,116,10]++nm)≠kR:=λ e=>by injection e with e _;exact absurd e (by decide)
 have l9:([119,104,101,114,101,9]++nm)≠yt:=λ e=>by injection e with e _;exact absurd e (by decide)
 have l9':([119,104,101,114,101,9]++nm)≠kR:=λ e=>by injection e with _ e;injection e with e _;exact absurd e (by decide)
 intro d hd;unfold uU at hd;simp only[o0,A14,A16]at hd;rcases hd with rfl|rfl|rfl|rfl|rfl|rfl|rfl|rfl|rfl|rfl|rfl|rfl|rfl|rfl|rfl|rfl|rfl|rfl|rfl|rfl|rfl|rfl|rfl|rfl|rfl|rfl|rfl|rfl|rfl|rfl|rfl|rfl
 .exact eT (by decide) (by decide) (by decide) (by decide)
 .exact lR (a:=[]) (by decide) (by decide) (by decide)
 .exact lR (a:=[97,108,108]) (b:=[]) (by decide) (by decide) (by decide)
 .exact lR (a:=[]) (b:=[97,108,108]) (by decide) (by decide) (by decide)
 .exact lR (a:=[119,111,114,116,104]) (b:=[]) (by decide) (by decide) (by decide)
 .exact lR (a:=[119,111,114,116,104]) (b:=nm) (by decide) (by simp;lia) (by decide)
 .exact eT (by decide) (by decide) (by decide) (by decide)
 .exact eT (by decide) (by decide) (by decide) (by decide)
 .exact eT (by decide) (by decide) (by decide) (by decide)
 .exact eT (by decide) (by decide) (by decide) (by decide)
 .exact lR (a:=[97,115,107,115]) (b:=nm) (by decide) (by simp;lia) (by decide)
 .exact eT (by decide) (by decide) (by decide) (by decide)
 .exact lR (a:=[65,83,75]) (b:=nm++[32,49,120,49]) (by decide) (by simp;lia) (by decide)
 .exact lR (a:=[]) (b:=[97,115,107,32]++nm++[32,49,120,49]) (by decide) (by simp;lia) (by decide)
 .exact eT (by simp[n32]) (by simp;lia) l10 abt
 .exact lR (a:=[103,111]) (b:=nm) (by decide) (by simp;lia) (by decide)
 .exact eT (by simp[n32]) (by simp;lia) l45 abr
 .exact eT (by decide) (by decide) (by decide) (by decide)
 .exact eT (by decide) (by decide) (by decide) (by decide)
 .exact eT (by decide) (by decide) (by decide) (by decide)
 .exact lR (a:=[97,108,108]) (b:=nm) (by decide) (by simp;lia) (by decide)
 .exact eT (by simp[n32]) (by simp;lia) l9 l9'
 .exact lR (a:=[102,97,115,116,108,121]) (b:=nm) (by decide) (by simp;lia) (by decide)
 .exact lR (a:=[115,116,97,121]) (b:=nm++[32]) (by decide) (by simp;lia) (by decide)
 .exact eT (by decide) (by decide) (by decide) (by decide)
 .exact eT (by decide) (by decide) (by decide) (by decide)
 all_goals exact .inl rfl
theorem GQ(h:KS.lP nm)(c:Int):∃d,NR d/\fV [.int c,.str nm]=.ok d:=by
 have ψ:(uU nm).length=32:=rfl;obtain⟨d,hd,e,_⟩:=jb (xs:=uU nm) (i:=c % 32) (by lia) (by rw[ψ];lia);refine⟨d,M5 h d hd,?_⟩;rw[w!];refine aJ ?_;have n8:=h.2.1;unfold uU at e;simp only[A82]at e;have g1:∀k,k<=100->k+nm.length<=16777216:=λ k hk=>by lia
 simp[lN,oE,line,g1,guard_pos];exact⟨by lia,by lia,by lia,by lia,_,e,rfl⟩
open Z
def tR(n0 n1:γ Nat):γ (γ Nat):=[[],[32],n0++[32],32::n0,n1,[65],VM,n0++[10],[97,32,98],[48],[45]]
theorem JX(h0:KS.lP n0)(h1:KS.lP n1)(mX:n0≠n1):∀t∈tR n0 n1,t.length<=9/\n0≠t:=by
 obtain⟨a1,a8,al⟩:=h0;obtain⟨b1,b8,bl⟩:=h1;have bad:∀t c,c∈t->c∉a9->n0≠t:=λ t c hc hn e=>hn<|al c (by rw[e];exact hc);intro t ht;unfold tR at ht;simp only[o0,A14,A16]at ht;rcases ht with rfl|rfl|rfl|rfl|rfl|rfl|rfl|rfl|rfl|rfl|rfl
 .exact⟨by decide,λ e=>by rw[e]at a1;simp at a1⟩
 .exact⟨by decide,bad _ 32 (by decide) (by decide)⟩
 .exact⟨by simp;lia,bad _ 32 (by simp) (by decide)⟩
 .exact⟨by simp;lia,bad _ 32 (by simp) (by decide)⟩
 .exact⟨by lia,mX⟩
 .exact⟨by decide,bad _ 65 (by decide) (by decide)⟩
 .exact⟨by decide,λ e=>by rw[e]at a8;exact absurd a8 (by decide)⟩
 .exact⟨by simp;lia,bad _ 10 (by simp) (by decide)⟩
 .exact⟨by decide,bad _ 32 (by decide) (by decide)⟩
 .exact⟨by decide,bad _ 48 (by decide) (by decide)⟩
 .exact⟨by decide,bad _ 45 (by decide) (by decide)⟩
def NN(n0:γ Nat)(d:D):Prop:=∃w t:γ Nat,w∈[cK,kA,il]/\d=.str (w++32::t)/\t.length<=9/\n0≠t
theorem E_(h:NN n0 d)(hg:gs=.tup []\/∃g,gs=.tup [g]/\aT g (.int 0)=.ok (.str n0))(hn:∀t,t.length<=9->∃b,KS.bT [.str t]=.ok (.bl b)):bL [dk x hall gs hl ps,d]=.ok (.lst<|kn 2):=by
 obtain⟨w,t,hw,rfl,X8,mX⟩:=h;obtain⟨b,eb⟩:=hn t X8;have nx:br [dk x hall gs hl ps,.str t]=AC (yc,[]):=W9 eb (by
  rcases hg with h|⟨g,h1,h2⟩
  .exact .inl h
  .exact .inr ⟨g,n0,h1,h2,λ _=>mX⟩)
 have _z:32∉w:=by simp only[o0,A14,A16]at hw;rcases hw with rfl|rfl|rfl<;>decide
 have hm:(32)∈w++32::t:=by simp
 have OC:w.length<=5:=by simp only[o0,A14,A16]at hw;rcases hw with rfl|rfl|rfl<;>decide
 have hp:=yV (r:=w++32::t) (by simp;lia);rw[KS.pJ _z]at hp;have Qu:w∈WS:=by simp only[o0,A14,A16]at hw ⊢;rcases hw with h|h|h<;>simp[h]
 have sx:=Jc (x:=x) (hall:=hall) (gs:=gs) (hl:=hl) (ps:=ps) hp (λ e=>by rw[e]at hm;exact absurd hm (by decide)) (λ e=>by rw[e]at hm;exact absurd hm (by decide)) Qu (by simp);refine tL (m:=(yc,[])) (sx.trans ?_) (by simp)<|DC _ rfl;simp only[o0,A14,A16]at hw;rcases hw with rfl|rfl|rfl
 .exact O1<|TY nx
 .exact O2<|UC nx
 .exact Lg<|Mu nx
theorem Dl(h0:KS.lP n0)(h1:KS.lP n1)(mX:n0≠n1)(c:Int):∃d,NN n0 d/\fi [.int c,.lst [.str n0,.str n1]]=.ok d:=by
 have Ve:(tR n0 n1).length=11:=rfl;obtain⟨t',ht,e1,_⟩:=jb (xs:=(tR n0 n1).map D.str) (i:=c % 11) (by lia) (by rw[A09,Ve];lia);obtain⟨t,ht2,rfl⟩:=A18.mp ht;obtain⟨ht9,ab0⟩:=JX h0 h1 mX t ht2;obtain⟨w',hw,e2,_⟩:=jb (xs:=([cK++[32],kA++[32],il++[32]]).map D.str) (i:=c / 13 % 3) (by lia) (by show _<(3);lia);obtain⟨w,Va,rfl⟩:=A18.mp hw;obtain⟨w2,XY,ew⟩:∃w2∈[cK,kA,il],w=w2++[32]:=by
  simp only[o0,A14,A16]at Va;rcases Va with rfl|rfl|rfl
  .exact⟨cK,by simp,rfl⟩
  .exact⟨kA,by simp,rfl⟩
  .exact⟨il,by simp,rfl⟩
 subst ew;have OC:w2.length<=5:=by simp only[o0,A14,A16]at XY;rcases XY with rfl|rfl|rfl<;>decide
 refine⟨_,⟨w2,t,XY,rfl,ht9,ab0⟩,?_⟩;rw[vD];refine aJ ?_;have i0:aT (.lst [.str n0,.str n1]) (.int 0)=.ok (.str n0):=rfl;have i1:aT (.lst [.str n0,.str n1]) (.int 1)=.ok (.str n1):=rfl;have g0:=h0.2.1;simp only[A06,A78,B21,B07]at e1 e2;simp[kr,cH,line,i0,i1,e2];refine⟨by lia,by lia,by lia,_,e1,?_⟩;have ec:aU (.str<|w2++[32]) (.str t)=.ok (.str<|w2++[32]++t):=by show guard _ _=_;rw[guard_pos];simp[line];lia
 exact⟨_,ec,by simp⟩
section
open Z KA KS
abbrev NT:XN:=([78,111,84,101,120,116],[])
def Wr(t:γ Nat):Prop:=∃g,o! g/\t=cz [32] (dJ g)
theorem Gh(h:t.length<=90000):Gi (.str t) (.str [32])=.ok ((eY 32 t).map .str):=by rw[RF,guard_pos];simp only[line];lia
theorem Q?(h:t.length<=90000)(hn:¬Wr t):fQ [.str t]=AC NT:=by
 obtain⟨l1,l2⟩:=B3 32 t;have es:=Gh h;have hl:(eY 32 t).length<=16777216:=by lia
 rw[vt];by_cases h2:(eY 32 t).length<2
 .have q:((eY 32 t).length:Int)<2:=by lia
  simp -implicitDefEqProofs [fM,fy,we,nZ,e!,cF,es,hl,line,q]
 .have q:¬((eY 32 t).length:Int)<2:=by lia
  obtain⟨nm,kd,N1,N2,N4,N5,N6,ps,m0,mk,h1,KQ,h4,h5,h6,hp,dX,eg⟩:=Hj (W:=eY 32 t) (by lia) (by lia) λ x hx=>by have:=l2 x hx;lia
  have hkd:kd.length<=16777216:=by
   rcases mk with rfl|mk
   .simp
   .have:=l2 kd mk;lia
  obtain⟨b,eb,hb⟩:=DY (nm:=nm) (by have:=l2 nm m0;lia) hkd h1 KQ h4 h5 h6 hp dX;have epd:(ps.map λ p=>D.tup [p.1,p.2])=ps.map pairD:=rfl;rw[epd]at eg;cases b with
  |false=>generalize D.tup [.str nm,N1,N2,.str kd,N4,N5,N6,.tup (ps.map pairD)]=GG at eg eb;simp -implicitDefEqProofs [fM,fy,we,nZ,e!,cF,es,hl,line,q,eg,eb]
  |true=>
   obtain⟨g,kg,e⟩:=hb rfl;rw[e]at eg eb;have hs:=MY kg;have mX:cz [32] (dJ g)≠t:=λ z=>hn ⟨g,kg,z.symm⟩;have en:pO (.str<|cz [32]<|dJ g) (.str t)=.ok (.bl Da):=by
    have:iW (.str<|cz [32]<|dJ g) (.str t)=AC AT:=by show AC (cz [32] (dJ g)==t)=_;simp[mX]
    simp[pO,this]
   simp -implicitDefEqProofs [fM,fy,we,nZ,e!,cF,es,hl,line,q,eg,eb,hs,en]
theorem Cq(h:Wr t):∃g,o! g/\eY 32 t=dJ g/\t=cz [32] (dJ g):=by obtain⟨g,k,rfl⟩:=h;exact⟨g,k,lI (λ e=>by have:=A11 List.length e;simp[dJ]at this)<|Ik k,rfl⟩
end
section
open Z
theorem NC(X8:t.length<=90000)(hn:¬Wr t):bL [dk x hall gs hl ps,.str ([97,115,107,32]++t)]=.ok (.lst<|kn 1):=by
 have nx:=Q? X8 hn;have hm:(32)∈su++32::t:=by simp
 have hp:kG (.str<|su++32::t) (.str [32])=.ok (.tup [.str su,.str [32],.str t]):=by show guard _ _=_;rw[guard_pos (by simp;lia),KS.pJ (by decide)]
 have sx:=Jc (x:=x) (hall:=hall) (gs:=gs) (hl:=hl) (ps:=ps) hp (λ e=>by rw[e]at hm;exact absurd hm (by decide)) (λ e=>by rw[e]at hm;exact absurd hm (by decide)) (by simp) (by simp);exact tL (sx.trans<|T? nx) (by simp)<|DB _ rfl
end
open Z
theorem zw:bS [dk x hall gs hl ps]=.ok gs:=by rw[tm];refine aJ ?_;simp[jO,eM,gG,vo]
theorem oo:bR [dk x hall gs hl ps]=.ok ps:=by rw[tj];refine aJ ?_;simp[jN,eM,gG,vo]
theorem Sy(e:KS.bT [.str n]=.ok (.bl Da))(e0:aT g (.int 0)=.ok (.str n)):bM [dk x hall (.tup [g]) hl ps,.str n]=.ok (.int 0):=by rw[qa];refine aJ ?_;have gX:∀ρ,jd [2,3] (.tup [.int 0,g]) ρ=.ok _:=λ ρ=>rfl;simp[iF,e,eM,gG,vo,gP,kL,pair,e0,line]
open Z
theorem Il:KH.dN [.tup [.non],.int 0,p]=.ok (.tup [p]):=by rw[KH.nS];refine aJ ?_;simp[KH.jh,line];exact⟨by decide,by decide,rfl⟩
theorem OR(e:KS.bT [.str n]=.ok (.bl Da))(e0:aT g (.int 0)=.ok (.str n)):je [dk x hall (.tup [g]) (.tup [.non]) (.tup [p]),.str n]=.ok (.non,[dk x hall (.tup [g]) (.tup [p]) (.tup [p])]):=by have nu:=Sy (x:=x) (hall:=hall) (hl:=.tup [.non]) (ps:=.tup [p]) e e0;have wp:=Il (p:=p);have ip:aT (.tup [p]) (.int 0)=.ok p:=rfl;unfold je;rw[BJ _ _ _ _ _ rfl];have s0:startB 3 [Da,AT] [dk x hall _ _ _,.str n]=[AC (.bor<|dk x hall (.tup [g]) (.tup [.non])<|.tup [p]),v _,Ch]:=rfl;rw[s0];simp[sk,c_,b!,oC,nu,wp,ip,eM,gG,vo,AV,l?,dg,iU,qM,wQ,line,guard_pos,jY];rfl
open Z
theorem Lh(e:KS.bT [.str n]=.ok (.bl Da))(e0:aT g (.int 0)=.ok (.str n)):lA [dk x hall (.tup [g]) (.tup [.non]) (.tup [p]),.str cK,.str n]=.ok (.str [111,107],[dk x hall (.tup [g]) (.tup [p]) (.tup [p])]):=by have fa:=OR (x:=x) (hall:=hall) (p:=p) e e0;unfold lA;rw[BJ _ _ _ _ _ rfl];have s0:startB 3 [Da,AT,AT] [dk x hall _ _ _,.str cK,.str n]=[AC (.bor<|dk x hall (.tup [g]) (.tup [.non])<|.tup [p]),v _,v _]:=rfl;rw[s0];simp[yh,c_,b!,qP,GW,rY,lT,rX,eqT,fa,eM,jY,iU,qM,wQ,line,guard_pos,ie];rw[guard_pos (by rfl)];rfl
theorem Gn(e:KS.bT [.str n]=.ok (.bl Da))(e0:aT g (.int 0)=.ok (.str n))(hl:n.length<=9):iN [dk x hall (.tup [g]) (.tup [.non]) (.tup [p]),.str (cK++32::n)]=.ok (.str [111,107],[dk x hall (.tup [g]) (.tup [p]) (.tup [p])]):=by
 have fa:=Lh (x:=x) (hall:=hall) (p:=p) e e0;have hm:(32)∈cK++32::n:=by simp
 have h1:cK++32::n≠yt:=λ e=>by rw[e]at hm;exact absurd hm (by decide)
 have h2:cK++32::n≠kR:=λ e=>by rw[e]at hm;exact absurd hm (by decide)
 have hp:=yV (r:=cK++32::n) (by simp;lia);rw[KS.pJ (by decide)]at hp;have i0:aT (.tup [.str cK,.str [32],.str n]) (.int 0)=.ok _:=rfl;have i1:aT (.tup [.str cK,.str [32],.str n]) (.int 1)=.ok _:=rfl;have i2:aT (.tup [.str cK,.str [32],.str n]) (.int 2)=.ok _:=rfl;have iw:=_d cK;have ty:cF .str (.str<|cK++32::n)=Da:=rfl;unfold iN;rw[BJ _ _ _ _ _ rfl];have s0:startB 3 [Da,AT] [dk x hall _ (.tup [.non]) (.tup [p]),.str (cK++32::n)]=[AC (.bor<|dk x hall (.tup [g]) (.tup [.non])<|.tup [p]),v (.str<|cK++32::n),Ch]:=rfl;rw[s0];generalize cK++32::n=r at h1 h2 hp ty;simp[vU,c_,b!,qP,GW,rY,G3,lT,rX,eqT,ty,h1,h2,hp,i0,i1,i2,iw,fa,eM,jY,iU,qM,wQ,line,guard_pos,ie];rw[guard_pos (by rfl)];rfl
section
open Z KA KS
def FN(v:γ Nat)(a b:Nat):Bool:=decide (f9 (kS v)=v)&&decide (a<=kS v)&&decide (kS v<=b)
def A1(key:γ Nat)(ok:γ Nat->Bool):Rows->ε Rows
|k::v::r=>if k=key then(if ok v then AC r else Ch)else AC (k::v::r)
|T=>AC T
def yr:Nat->Rows->Bool
|_,[]=>Da
|lo,k::a::b::r=>decide (k=KS.lX)&&FN a lo 5&&FN b 1 (10^60)&&yr (kS a+1) r
|_,_=>AT
def II(m:Nat)(T:Rows):Bool:=match A1 dQ (λ v=>decide<|v.length=1) T with
|some T=>match A1 cu (λ v=>FN v 1 m) T with
 |some T=>match A1 eE (λ v=>FN v 1 6) T with
  |some T=>match A1 bz (λ v=>FN v 1<|10^60-1) T with
   |some T=>yr 0 T
   |none=>AT
  |none=>AT
 |none=>AT
|none=>AT
def Ct:Rows->Bool
|s::T=>match eY 120 s with
 |[a,b]=>FN a 1 12&&FN b 1 3&&II (kS a*kS b) T
 |_=>AT
|[]=>AT
theorem qg(h1:a<=n)(h2:n<=b):FN (f9 n) a b=Da:=by unfold FN;rw[t5];simp[h1,h2]
theorem E5{v:γ Nat}(h:b=Da->ok v=Da)(hr:∀w,rest[0]?=AC w->w≠key):A1 key ok ((if b then[key,v]else[])++rest)=AC rest:=by
 cases b with
 |true=>simp[A1,h rfl]
 |false=>
  match rest,hr with
  |[],_=>rfl
  |[_],_=>rfl
  |k::w::r,hr=>have:=hr k rfl;simp[A1,this]
theorem As:∀(ws:γ (Nat×Nat))(lo:Nat),(∀p∈ws,p.1<=5/\1<=p.2/\p.2<10^60)->(ws.map (·.1)).Pairwise (· < ·)->(∀p∈ws,lo<=p.1)->yr lo (ws.map gx).flatten=Da
|[],_,_,_,_=>rfl
|p::ws,lo,h1,h2,h3=>by obtain⟨q1,q2,q3⟩:=h1 p (by simp);rw[A06,B34]at h2;have ih:=As ws (p.1+1) (λ x hx=>h1 x (by simp[hx])) h2.2 λ x hx=>h2.1 _<|A18.mpr ⟨x,hx,rfl⟩;show(decide (KS.lX=KS.lX)&&FN (f9 p.1) lo 5&&FN (f9 p.2) 1 (10^60)&&yr (kS (f9 p.1)+1) (ws.map gx).flatten)=Da;rw[qg (h3 p (by simp)) q1,qg q2<|A69 q3,t5,ih];rfl
theorem Cs(k:o! g):Ct (dJ g).tail=Da:=by
 have e:(dJ g).tail=jT g::(kI g.kd++(gL cu g.wi++(gL eE g.ga++(gL bz g.wo++(g.ws.map gx).flatten)))):=by simp[dJ]
 have es:eY 120 (jT g)=[f9 g.w,f9 g.d]:=by
  have:jT g=cz [120] [f9 g.w,f9 g.d]:=by simp[jT,cz]
  rw[this];exact lI (by simp) λ x hx=>by simp only[o0,A14,A16]at hx;rcases hx with rfl|rfl<;>exact Lq (by decide)
 have hw:=As g.ws 0 k.wr k.up λ _ _=>A41 _;have r1:∀w,(g.ws.map gx).flatten[0]?=AC w->w=KS.lX:=λ w h=>Hf h;have r2:∀w,(gL bz g.wo++(g.ws.map gx).flatten)[0]?=AC w->w∈[bz,KS.lX]:=λ w h=>by
  rcases vm h with h|h
  .simp[h]
  .simp[r1 w h]
 have r3:∀w,(gL eE g.ga++(gL bz g.wo++(g.ws.map gx).flatten))[0]?=AC w->w∈[eE,bz,KS.lX]:=λ w h=>by
  rcases vm h with h|h
  .simp[h]
  .exact A07 _<|r2 w h
 have r4:∀w,(gL cu g.wi++(gL eE g.ga++(gL bz g.wo++(g.ws.map gx).flatten)))[0]?=AC w->w∈[cu,eE,bz,KS.lX]:=λ w h=>by
  rcases vm h with h|h
  .simp[h]
  .exact A07 _<|r3 w h
 have p1:=E5 (key:=dQ) (ok:=λ v=>decide (v.length=1)) (v:=g.kd) (λ h=>by
  rcases k.kd with q|⟨c,_,q⟩
  .exact absurd q<|A58 h
  .simp[q]) λ w h z=>(by decide:dQ∉[cu,eE,bz,KS.lX])<|z▸r4 w h
 have num:∀{key}{n m}{rest},n<=m->(∀w,rest[0]?=AC w->w≠key)->A1 key (λ v=>FN v 1 m) (gL key n++rest)=AC rest:=λ {key n m rest} h hr=>by rw[NB];exact E5 (λ z=>qg (A58 z) h) hr
 have p2:=num (key:=cu) k.wi λ w h z=>(by decide:cu∉[eE,bz,KS.lX])<|z▸r3 w h
 have p3:=num (key:=eE) k.ga λ w h z=>(by decide:eE∉[bz,KS.lX])<|z▸r2 w h
 have p4:=num (key:=bz) (Nat.le_sub_one_of_lt k.wo) λ w h z=>absurd (z.symm.trans<|r1 w h) (by decide);rw[e];show(match eY 120 (jT g)with|[a,b]=>FN a 1 12&&FN b 1 3&&II (kS a*kS b) _|_=>AT)=Da;rw[es];simp only;rw[qg k.w1 k.w2,qg k.d1 k.d2,t5,t5];unfold II;rw[Kl,p1];simp only;rw[p2];simp only;rw[p3];simp only;rw[p4];exact hw
theorem NH(h:32∉nm)(hb:Ct (eY 32 r)=AT):¬Wr (nm++32::r):=λ z=>by obtain⟨g,k,e,_⟩:=Cq z;have:eY 32 _=nm::eY 32 r:=vL _ h;rw[this]at e;have ht:=Cs k;rw[<-e]at ht;exact absurd (ht.symm.trans hb) (by decide)
theorem pP(h:∀n∈(eY 32 t)[0]?,lS n=AT):¬Wr t:=λ z=>by
 obtain⟨g,k,e,_⟩:=Cq z;have:=h g.nm (by rw[e];rfl);have h2:lS g.nm=Da:=by have n1:=k.n1;have n2:=k.n2;have nl:=k.nl;simp[lS,n1,n2];exact nl
 rw[h2]at this;exact absurd this (by decide)
theorem Fg(h:5000<=t.length):¬Wr t:=by rintro⟨g,k,e⟩;have h1:=xj k;have h2:=BG _<|t_ k;rw[<-e]at h2;lia
def mU(nm:γ Nat):γ (γ Nat):=[[],[32],nm,nm++[32],nm++[32,49,120],nm++[32,49,120,49,32],nm++[32,32,49,120,49],[32]++nm++[32,49,120,49],nm++[32,48,49,120,49],nm++[32,48,120,49],nm++[32,49,120,52],nm++[32,49,51,120,49],nm++_4,nm++_3,nm++[32,49,88,49],nm++_2,nm++RB,nm++RA,nm++Rz,[65,32,49,120,49],nm++Ry,nm++Rx,nm++Rw,nm++[32,49,120,49,10],nm++Rv,nm++Ru,nm++Rt,VN,nm++[32,49,32,120,32,49],nm++IM++EQ 60 48,nm++Rr,nm++Rq,nm++[32,43,49,120,49],nm++Ge++EQ 5000 57,nm++[32]++EQ 5000 57++[120,49]]
theorem SD(h:32∉nm):¬Wr nm:=λ z=>by obtain⟨g,k,e,_⟩:=Cq z;rw[rB h]at e;have:=A11 List.length e;simp[dJ]at this
theorem IF(h:lP nm):∀t∈mU nm,t.length<=9000/\¬Wr t:=by
 obtain⟨a1,a8,al⟩:=h;have _z:32∉nm:=λ e=>absurd (al 32 e) (by decide);have tl:∀r,r.length<=100->Ct _=AT->(nm++32::r).length<=9000/\¬Wr (nm++32::r):=λ r h1 h2=>⟨by simp;lia,NH _z h2⟩
 intro t ht;unfold mU at ht;simp only[o0,A14,A16]at ht;rcases ht with rfl|rfl|rfl|rfl|rfl|rfl|rfl|rfl|rfl|rfl|rfl|rfl|rfl|rfl|rfl|rfl|rfl|rfl|rfl|rfl|rfl|rfl|rfl|rfl|rfl|rfl|rfl|rfl|rfl|rfl|rfl|rfl|rfl|rfl|rfl
 .exact⟨by decide,pP λ n hn=>by cases hn;rfl⟩
 .exact⟨by decide,pP λ n hn=>by cases hn;rfl⟩
 .exact⟨by lia,SD _z⟩
 .exact tl [] (by decide) (by kernel_rfl)
 .exact tl [49,120] (by decide) (by kernel_rfl)
 .exact tl [49,120,49,32] (by decide) (by kernel_rfl)
 .exact tl [32,49,120,49] (by decide) (by kernel_rfl)
 .exact⟨by simp;lia,pP λ n hn=>by cases hn;rfl⟩
 .exact tl [48,49,120,49] (by decide) (by kernel_rfl)
 .exact tl [48,120,49] (by decide) (by kernel_rfl)
 .exact tl [49,120,52] (by decide) (by kernel_rfl)
 .exact tl [49,51,120,49] (by decide) (by kernel_rfl)
 .exact tl [49,120,49,32,107,105,110,100] (by decide) (by kernel_rfl)
 .exact tl [49,120,49,32,107,105,110,100,32,97,98] (by decide) (by kernel_rfl)
 .exact tl [49,88,49] (by decide) (by kernel_rfl)
 .exact tl [49,120,49,32,119,105,100,101,32,48] (by decide) (by kernel_rfl)
 .exact tl [49,120,49,32,119,105,100,101,32,50] (by decide) (by kernel_rfl)
 .exact tl [49,120,49,32,103,97,112,32,48] (by decide) (by kernel_rfl)
 .exact tl [49,120,49,32,103,97,112,32,55] (by decide) (by kernel_rfl)
 .exact⟨by decide,pP λ n hn=>by cases hn;rfl⟩
 .exact tl [49,120,49,32,119,111,114,116,104,32,48] (by decide) (by kernel_rfl)
 .exact tl [49,120,49,32,103,97,112,32,49,32,119,105,100,101,32,49] (by decide) (by kernel_rfl)
 .exact tl [49,120,49,32,114,111,119,32,49,32,50,32,114,111,119,32,48,32,50] (by decide) (by kernel_rfl)
 .exact tl [49,120,49,10] (by decide) (by kernel_rfl)
 .exact tl [49,120,49,32,114,111,119,32,54,32,49] (by decide) (by kernel_rfl)
 .exact tl [49,120,49,32,114,111,119,32,48,32,48] (by decide) (by kernel_rfl)
 .exact tl [49,120,49,32,114,111,119,32,48] (by decide) (by kernel_rfl)
 .exact⟨by decide,pP λ n hn=>by cases hn;rfl⟩
 .exact tl [49,32,120,32,49] (by decide) (by kernel_rfl)
 .have:=tl ([49,120,49,32,119,111,114,116,104,32,49]++EQ 60 48) (by decide) (by kernel_rfl);rw[A82];exact this
 .exact tl [49,120,49,32,119,111,114,116,104,32,45,49] (by decide) (by kernel_rfl)
 .exact tl [49,120,49,32,103,97,112,32,49,32,103,97,112,32,49] (by decide) (by kernel_rfl)
 .exact tl [43,49,120,49] (by decide) (by kernel_rfl)
 .exact⟨by rw[A20,A20,A47];have:Ge.length=11:=rfl;lia,Fg (by rw[A20,A47];lia)⟩
 .exact⟨by rw[A20,A20,A20,A47];simp only[A24,A79];lia,Fg (by rw[A20,A20,A47];lia)⟩
end
section
open Z
def Du(z:Int):Nat:=a9.getD (z % 26).toNat 0
theorem Qn(z:Int):Du z∈a9/\aT (.str a9) (.int<|z % 26)=.ok (.str [Du z]):=by
 have h26:a9.length=26:=rfl;have hj:(z % 26).toNat<a9.length:=by lia
 have e:a9[(z % 26).toNat]?=AC (Du z):=by unfold Du;rw[A94,A01 hj];rfl
 exact⟨A33 e,u? (by lia) e (by decide)⟩
theorem N8(h:Du a=Du b):a % 26=b % 26:=by
 have q:∀i<26,∀j<26,a9.getD i 0=a9.getD j 0->i=j:=by decide
 have:=q (a % 26).toNat (by lia) (b % 26).toNat (by lia) h;lia
def NI(c at' st:Int)(k j:Nat):Nat:=Du<|c / (400+30*(j:Int)*(j:Int))+st*(k:Int)*(if(j:Int)=at' then 1 else 0)
theorem JW(c:Int):∃n0 n1,KS.lP n0/\KS.lP n1/\n0≠n1/\gW [.int c,.int 2]=.ok (.lst [.str n0,.str n1]):=by
 obtain⟨st,vk,est⟩:∃s:Nat,(1<=s/\s<=11)/\aT (.lst [.int 1,.int 3,.int 5,.int 7,.int 9,.int 11]) (.int<|c / 64 % 6)=.ok (.int s):=by obtain⟨d,hd,e,_⟩:=jb (xs:=([1,3,5,7,9,11]:γ Nat).map λ n=>D.int (n:Nat)) (i:=c / 64 % 6) (by lia) (by simp;lia);obtain⟨s,hs,rfl⟩:=A18.mp hd;exact⟨s,(by decide:∀s∈([1,3,5,7,9,11]:γ Nat),1<=s/\s<=11) s hs,e⟩
 obtain⟨n,hn⟩:∃n:Nat,1+c % 8=n:=⟨(1+c % 8).toNat,by lia⟩
 have h1:1<=n:=by lia
 have h8:n<=8:=by lia
 have hn0:(0:Int)<n:=by lia
 have fd:∀j:Nat,j<8->lE (400+30*(j:Int)*(j:Int)):=by unfold lE;decide
 have f30:∀x,cm 30 x:=λ x=>eN (by decide) (by decide);have fj:∀x (j:Nat),j<100->cm x (j:Int):=λ x j hj=>ji (by lia) (by lia);have f0:∀x,cm x 0:=λ x=>ji (by decide) (by decide);have f1:∀x,cm x 1:=λ x=>ji (by decide) (by decide);obtain⟨a,ha⟩:∃a,c / 8 % n=a:=⟨_,rfl⟩
 have ha0:0<=a:=by rw[<-ha];exact Int.emod_nonneg _ (by lia)
 have han:a<n:=by rw[<-ha];exact Int.emod_lt_of_pos _ hn0
 have:Ok (bH<|j9 [v (.int c),v (.int 2),Ch,Ch,Ch,Ch,Ch,Ch,Ch,Ch,Ch]) λ d=>d=.lst ((FB 2).map λ k=>.str<|(FB n).map<|NI c a st k):=by
  refine qE ?_;simp[j9,cH,hn,hn0,est,line,h1,ha];refine⟨by lia,?_⟩;refine iV (λ i ρ=>∃x7 x8 x9 EI,ρ=[vi c,vi 2,vs a9,vi n,vi a,vi st,ow ((FB i).map λ k=>.str<|(FB n).map<|NI c a st k),x7,x8,x9,EI]) ⟨Ch,Ch,Ch,Ch,rfl⟩ ?_ ?_
  .rintro i d ρ hd ⟨x7,x8,x9,EI,rfl⟩;obtain⟨hi,rfl⟩:=pW hd;simp;refine iV (λ j ρ=>∃x9 EI,ρ=[vi c,vi 2,vs a9,vi n,vi a,vi st,ow ((FB i).map λ k=>.str<|(FB n).map<|NI c a st k),vi (i:Nat),vs ((FB j).map<|NI c a st i),x9,EI]) ⟨_,_,rfl⟩ ?_ ?_
   .rintro j d ρ hj ⟨x9,EI,rfl⟩;obtain⟨hj,rfl⟩:=pW hj;have hj8:j<8:=by lia
    obtain⟨hq,eq⟩:=Qn (c / (400+30*(j:Int)*(j:Int))+st*(i:Int)*(if(j:Int)=a then 1 else 0));by_cases he:(j:Int)=a
    .rw[f8 he,Int.mul_one]at eq;have ht:((j:Int)=a)=True:=eq_true he;simp[f0,f1,f30,fj _ j (by lia),fj _ i (by lia),fd j hj8,ht,Di,line,eq];simp[B01,NI,ht];lia
    .rw[v6 he,Int.mul_zero,Int.add_zero]at eq;simp[f0,f1,f30,fj _ j (by lia),fj _ i (by lia),fd j hj8,he,Di,line,eq];simp[B01,NI,he];lia
   .rintro ρ ⟨x9,EI,rfl⟩;rw[jB];simp[line,B01];lia
  .rintro ρ ⟨x7,x8,x9,EI,rfl⟩;rw[jB];simp
 rw[<-zD]at this;obtain⟨d,e,rfl⟩:=this;have nk:∀k,KS.lP ((FB n).map<|NI c a st k):=λ k=>⟨by simp;lia,by simp;lia,λ q hq=>by obtain⟨j,_,rfl⟩:=A18.mp hq;exact(Qn _).1⟩
 refine⟨_,_,nk 0,nk 1,λ z=>?_,e⟩;have hk:a.toNat<n:=by lia
 have g:∀k,((FB n).map<|NI c a st k)[a.toNat]?=AC (NI c a st k a.toNat):=λ k=>by rw[A04,List.getElem?_range hk];rfl
 have z2:=(g 0).symm.trans<|(A11 (λ l=>l[a.toNat]?) z).trans<|g 1;have z3:=N8<|A03 z2;have ea:((a.toNat:Nat):Int)=a:=by lia
 rw[f8 ea]at z3;generalize c / (400+30*((a.toNat:Nat):Int)*((a.toNat:Nat):Int))=y at z3;simp at z3;lia
end
section
open Z
abbrev _R(d:D):Prop:=∃m:Int,0<=m/\d=.int m
theorem J8(c:Int)(n:Nat)(hn:n<=100):∃ds,ds.length=n/\(∀d∈ds,_R d)/\cM [.int c,.int n]=.ok (.lst ds):=by
 have f4:∀x,cm x 16807:=λ x=>ji (by decide) (by decide);have:Ok (bH<|cQ [v (.int c),v (.int n),Ch,Ch,Ch]) λ d=>∃ds,ds.length=n/\(∀d∈ds,_R d)/\d=.lst ds:=by
  refine qE ?_;simp[cQ];refine iV (λ i ρ=>∃m ds x,ds.length=i/\(∀d∈ds,_R d)/\ρ=[vi c,vi n,vi m,ow ds,x]) ⟨_,[],Ch,rfl,by simp,rfl⟩ ?_ ?_
  .rintro j d ρ hd ⟨m,ds,x,hl,hm,rfl⟩;obtain⟨hj,rfl⟩:=pW hd;simp[f4];refine⟨by lia,_,_,by simp[hl],λ d hd=>?_,rfl,rfl⟩;rcases A29.mp hd with hd|hd
   .exact hm d hd
   .rw[A15]at hd;subst hd;exact⟨_,by lia,rfl⟩
  .rintro ρ ⟨m,ds,x,hl,hm,rfl⟩;rw[jB]at hl;simp;exact⟨hl,hm⟩
 rw[<-lB]at this;obtain⟨d,e,ds,h1,h2,rfl⟩:=this;exact⟨ds,h1,h2,e⟩
theorem uX(c:Int):∃a b,a∈a9/\b∈a9/\b? [.int c]=.ok (.str [a,b]):=by obtain⟨a,ha,ea⟩:=KA.mV c;obtain⟨b,hb,eb⟩:=KA.mV (c+1+c / 26 % 25);refine⟨a,b,ha,hb,?_⟩;rw[jI];refine aJ ?_;simp[dP,cH,ea,eb,line]
def jt(sg:γ Nat):D->Nat
|.int m=>sg.getD (m / 3 % 9).toNat 0
|_=>0
theorem E3(h9:sg.length=9)(hd:_R d):∃m,d=.int m/\jt sg d∈sg/\aT (.str sg) (.int<|m / 3 % 9)=.ok (.str [jt sg d]):=by
 obtain⟨m,h0,rfl⟩:=hd;have hj:(m / 3 % 9).toNat<sg.length:=by lia
 refine⟨m,rfl,?_,?_⟩
 .show sg.getD _ 0∈sg;rw[A94,A01];exact A89 hj
 .exact u? (j:=(m / 3 % 9).toNat) (by lia) (by show _=AC (sg.getD _ 0);rw[A94,A01 hj];rfl) (by rw[h9];decide)
theorem QB(qs:γ Nat):(qs.map λ q=>[q]).flatten=qs:=by
 induction qs with
 |nil=>rfl
 |cons q qs ih=>simp[ih]
theorem BE(hb:KG.Bd ns):∃R L rows,KA.Hall R L rows/\R<=3/\L<=6/\d6 [.lst (ns.map .int)]=.ok (.tup<|rows.map .str):=by
 obtain⟨c0,e0,_⟩:=KG.m3 hb (k:=0) (by decide);obtain⟨c1,e1,_⟩:=KG.m3 hb (k:=1) (by decide);obtain⟨a,b,ha,hbb,el⟩:=uX (c0 / 64);generalize hxs:ns.map D.int=xs at *;obtain⟨R,r1,r2,eR⟩:∃R:Nat,1<=R/\R<=3/\aT (.lst [.int 1,.int 2,.int 1,.int 2,.int 3,.int 2,.int 1,.int 2]) (.int<|c0 % 8)=.ok (.int R):=by
  obtain⟨d,hd,e,_⟩:=jb (xs:=[D.int 1,.int 2,.int 1,.int 2,.int 3,.int 2,.int 1,.int 2]) (i:=c0 % 8) (by lia) (by simp;lia);simp only[o0,A14,A16]at hd;rcases hd with rfl|rfl|rfl|rfl|rfl|rfl|rfl|rfl
  .exact⟨1,by decide,by decide,e⟩
  .exact⟨2,by decide,by decide,e⟩
  .exact⟨1,by decide,by decide,e⟩
  .exact⟨2,by decide,by decide,e⟩
  .exact⟨3,by decide,by decide,e⟩
  .exact⟨2,by decide,by decide,e⟩
  .exact⟨1,by decide,by decide,e⟩
  .exact⟨2,by decide,by decide,e⟩
 obtain⟨L,l1,l2,eL⟩:∃L:Nat,1<=L/\L<=6/\aT (.lst [.int 3,.int 4,.int 5,.int 2,.int 1,.int 4,.int 6,.int 3]) (.int<|c0 / 8 % 8)=.ok (.int L):=by
  obtain⟨d,hd,e,_⟩:=jb (xs:=[D.int 3,.int 4,.int 5,.int 2,.int 1,.int 4,.int 6,.int 3]) (i:=c0 / 8 % 8) (by lia) (by simp;lia);simp only[o0,A14,A16]at hd;rcases hd with rfl|rfl|rfl|rfl|rfl|rfl|rfl|rfl
  .exact⟨3,by decide,by decide,e⟩
  .exact⟨4,by decide,by decide,e⟩
  .exact⟨5,by decide,by decide,e⟩
  .exact⟨2,by decide,by decide,e⟩
  .exact⟨1,by decide,by decide,e⟩
  .exact⟨4,by decide,by decide,e⟩
  .exact⟨6,by decide,by decide,e⟩
  .exact⟨3,by decide,by decide,e⟩
 have hsg:∀q∈[46,46,46,46,46,61,35,a,b],q∈signs:=λ q hq=>by
  simp only[o0,A14,A16]at hq;rcases hq with rfl|rfl|rfl|rfl|rfl|rfl|rfl|rfl|rfl
  any_goals decide
  .exact KA.ja ha
  .exact KA.ja hbb
 have f31:∀x,cm 31 x:=λ x=>eN (by decide) (by decide);have:Ok (bH<|eF [v (.lst xs),Ch,Ch,Ch,Ch,Ch,Ch,Ch]) λ d=>∃ rows,KA.Hall R L rows/\d=.tup (rows.map .str):=by
  refine qE ?_;simp[eF,cH,e0,eR,eL,el,line];refine iV (λ i ρ=>∃rows,∃x6 x7,rows.length=i/\(∀x∈rows,x.length=L)/\(∀x∈rows,∀c∈x,c∈signs)/\ρ=[v (.lst xs),vi c0,vi R,vi L,vs [46,46,46,46,46,61,35,a,b],ow (rows.map .str),x6,x7]) ⟨[],Ch,Ch,rfl,by simp,by simp,rfl⟩ ?_ ?_
  .rintro j d ρ hd ⟨rows,x6,x7,hl,hL,hs,rfl⟩;obtain⟨hj,rfl⟩:=pW hd;obtain⟨ms,m1,m2,em⟩:=J8 (c1+31*(j)) L (by lia);simp[e1,f31,em,bX,line,eZ,qf,m1];refine⟨by lia,?_⟩;generalize abP:[46,46,46,46,46,61,35,a,b]=sg at *;have h9:sg.length=9:=by rw[<-abP];rfl
   refine comp_map (λ d=>.str [jt sg d]) (λ d hd=>?_) ?_
   .obtain⟨m,rfl,_,e⟩:=E3 h9 (m2 d hd);simp[cH,e]
   .have ej:mi (.str []) (.lst<|ms.map λ d=>D.str [jt sg d])=.ok (.str<|ms.map<|jt sg):=by have:=xE (ts:=(ms.map<|jt sg).map λ q=>[q]) (by rw[QB];simp;lia);rw[QB]at this;simpa[A36,Function.comp_def]using this
    rw[ej,Q2];refine⟨by lia,rows++[ms.map (jt sg)],by simp[hl],λ x hx=>?_,λ x hx c hc=>?_,by simp⟩
    .rcases A29.mp hx with hx|hx
     .exact hL x hx
     .rw[A15]at hx;subst hx;simpa using m1
    .rcases A29.mp hx with hx|hx
     .exact hs x hx c hc
     .rw[A15]at hx;subst hx;obtain⟨d,hd,rfl⟩:=A18.mp hc;obtain⟨m,_,h1,_⟩:=E3 h9 (m2 d hd);exact hsg _ h1
  .rintro ρ ⟨rows,x6,x7,hl,hL,hs,rfl⟩;rw[jB]at hl;simp;exact⟨rows,⟨r1,by lia,l1,by lia,by simpa using hl,hL,hs⟩,rfl⟩
 rw[<-my]at this;obtain⟨d,e,rows,H,rfl⟩:=this;exact⟨R,L,rows,H,r2,l2,e⟩
structure Hs(R L:Nat)(rows:KA.Rows):Prop where
 h:KA.Hall R L rows
 r:R<=3
 l:L<=6
theorem M6{R L:Nat}(H:Hs R L rows)(hx:x∈rows.map D.str):KA._U x/\∃r∈rows,x=.str r/\r.length=L:=by obtain⟨r,hr,rfl⟩:=A18.mp hx;have hl:=H.h.each r hr;have:=H.l;exact⟨λ cs e=>by cases e;lia,r,hr,rfl,hl⟩
theorem OA{R L:Nat}(H:Hs R L rows):uW gZ [.tup (rows.map .str)]=.ok [.tup (rows.map .str),.tup [],.tup [],.tup []]:=by
 have e:KA.jH [.tup (rows.map .str)]=.ok (.bl Da):=by
  have:=KA.DR (.tup _) λ xs e=>by cases e;exact⟨by have:=H.h.len;have:=H.r;simp;lia,λ x hx=>(M6 H hx).1⟩
  rw[this];show Res.ok (D.bl<|KA.BF _)=_;rw[H.h.b]
 refine J! λ x=>?_;unfold gZ;rw[BJ _ _ _ _ _ rfl];have:mG (startB 2 [Da,AT] [ib x 0 [] [],.tup (rows.map .str)])=.ok (.nx [AC (.bor<|ib x 0 dg [.tup (rows.map .str),.tup [],.tup [],.tup []]),v (.tup<|rows.map .str)]):=by have s0:startB 2 [Da,AT] [ib x 0 [] [],.tup (rows.map .str)]=[AC (.bor<|ib x 0 [] []),v (.tup<|rows.map .str)]:=rfl;rw[s0];simp[mG,c_,b!,oC,e,AV,ib,l?,dg,iU,qM,wQ,line,guard_pos]
 rw[this];rfl
end
section
open Z
open KG (G GOk GrpG Rows Pl fI jK gr d9 places)
def g1(nm:γ Nat):G:=⟨nm,1,1,[],0,0,.int 0,.tup []⟩
abbrev gD(nm:γ Nat):D:=.tup [.str nm,.int 1,.int 1,.str [],.int 0,.int 0,.int 0,.tup []]
theorem Yp(nm:γ Nat):GrpG (g1 nm):=KG.acE (M2 1) (show 1<=12 by decide) (M2 1) (show 1<=3 by decide) (.inl rfl) (A41 _) (A41 _) ⟨0,[],by decide,rfl,rfl⟩
theorem Xy(h:KS.lP nm):KS.d7 [gD nm]=.ok (.bl Da):=KS.KU (g:=⟨nm,1,1,[],0,0,0,[]⟩) ⟨h.1,h.2.1,h.2.2,M2 1,(by decide:1<=12),M2 1,(by decide:1<=3),.inl rfl,A41 _,A41 _,(by decide:0<10^60),A41 _,(λ p hp=>by cases hp),List.Pairwise.nil⟩
theorem Of{R L:Nat}(H:Hs R L rows):KG.Hall rows L:=⟨by have:=H.h.r1;have:=H.h.len;lia,by have:=H.h.r2;have:=H.h.len;lia,H.h.l1,by have:=H.h.l2;lia,H.h.each⟩
theorem K5{R L:Nat}(H:Hs R L rows)(nm:γ Nat)(hq:q=46\/q=61)(h:q∈rows.flatten):∃p,d9 rows (g1 nm) p=Da:=by
 obtain⟨row,hr,KD⟩:=C08.mp h;obtain⟨i,hi,rfl⟩:=B63.mp hr;obtain⟨j,hj,e⟩:=B63.mp KD;refine⟨((i),(j)),?_⟩;have es:KG.cW rows (((i)),((j)))=AC q:=by unfold KG.cW;rw[f8 ⟨by lia,by lia⟩];simp[hi,hj,e]
 have e1:KG.seats (g1 nm) (((i)),((j)))=[(((i):Int),((j):Int))]:=by simp[KG.seats,KG.kU,KG.js,g1,Ps]
 unfold d9;rw[e1];have e3:(g1 nm).wide=0:=rfl;have e4:(g1 nm).kind=[]:=rfl;rw[e3,e4];rcases hq with rfl|rfl<;>simp[es,KG.ka]
theorem YN{R L:Nat}(H:Hs R L rows)(h:∃p,d9 rows (g1 nm) p=Da):∃o,KB.cY [.tup (rows.map .str),.tup [gD nm],.tup [.non]]=.ok (.tup [gr o]):=by
 obtain⟨p,hp⟩:=h;have K:=Of H;have gd:KH.Good rows [(g1 nm,Ch)]:=λ i g q e=>by
  cases i with
  |zero=>cases e
  |succ i=>cases e
 have gd2:KH.Good rows [(g1 nm,AC p)]:=λ i g q e=>by
  cases i with
  |zero=>cases e;exact⟨hp,λ j h q e hj=>by cases j with|zero=>exact absurd rfl hj|succ j=>cases e⟩
  |succ i=>cases e
 have hg:∀x∈[((g1 nm,Ch):KG.GO)],GrpG x.1:=λ x hx=>by rw[A15]at hx;subst hx;exact Yp nm
 have Ya:=λ x hx=>(hg x hx).toGOk;have hw:KB.o_ rows L [(g1 nm,Ch)]<=2000:=by
  have h1:(places rows L<|g1 nm).length<=rows.length*L:=by rw[<-KG.rG];exact B13 _ _
  have h2:rows.length*L<=3*6:=A60 (by rw[H.h.len];exact H.r) H.l;show((places rows L _).length+1)*1<=2000;lia
 have ef:=KB.Hl K (xs:=[(g1 nm,Ch)]) (show 1<=6 by decide) Ya gd;have ext:KB.Ext [((g1 nm,Ch))] [(g1 nm,AC p)]:=⟨rfl,λ i g q e=>by
  cases i with
  |zero=>cases e
  |succ i=>cases e⟩
 rcases KB.Cb K (xs:=[(g1 nm,Ch)]) (show 1<=6 by decide) hg gd hw ef with⟨z,_⟩|⟨m,e,_,hm,_⟩
 ·have:=KB.CW (sm:=AT) K Ya ext gd2 (.inr λ i g e=>by
  cases i with
  |zero=>cases e
  | succ i=>cases e)
  rw[z]at this;cases this
 ·have hl:=A11 List.length hm.gs
  match m,hl with
  |[y],_=>exact⟨y.2,e⟩
theorem UE{R L:Nat}(H:Hs R L rows)(hn:KS.lP nm)(h:∃p,d9 rows (g1 nm) p=Da):∃o,∀x,gz [dk x (.tup<|rows.map .str) (.tup []) (.tup []) (.tup []),gD nm]=.ok (gr o,[dk x (.tup<|rows.map .str) (.tup [gD nm]) (.tup [.non]) (.tup [gr o])]):=by obtain⟨o,eb⟩:=YN H h;have eg:=Xy hn;refine⟨o,λ x=>?_⟩;generalize gr o=o at *;have e0:aT (gD nm) (.int 0)=.ok _:=rfl;have el:aT (.tup [o]) (.int<|-1)=.ok o:=rfl;generalize D.tup _=hall at *;generalize gD nm=g at *;unfold gz;rw[BJ _ _ _ _ _ rfl];have s0:startB 5 [Da,AT] [dk x hall _ _ _,g]=[AC (.bor<|dk x hall (.tup []) (.tup [])<|.tup []),v g,Ch,Ch,Ch]:=rfl;rw[s0];have hn1:qL (.tup [o])=.ok _:=rfl;have Qu:Dj (.str nm) (.lst [])=.ok (.bl AT):=rfl;simp[vV,c_,b!,oC,eg,e0,el,eb,hn1,Qu,bX,eZ,bU,eM,gG,vo,AV,l?,dg,iU,qM,wQ,line,guard_pos,jY];rfl
end
section
open Z
theorem Dk(h:KS.lP nm)(c:Int):∃t∈mU nm,fh [.int c,.str nm]=.ok (.str t):=by
 have hl:(mU nm).length=35:=rfl;obtain⟨d,hd,e,_⟩:=jb (xs:=(mU nm).map D.str) (i:=c % 35) (by lia) (by rw[A09,hl];lia);obtain⟨t,ht,rfl⟩:=A18.mp hd;refine⟨t,ht,?_⟩;rw[vC];refine aJ ?_;have n8:=h.2.1;have e60:y? (.str [48]) (.int 60)=.ok (.str<|List.replicate 60 48):=by rw[JN,guard_pos (by decide)];rfl
 have e5k:y? (.str [57]) (.int 5000)=.ok (.str<|List.replicate 5000 57):=by rw[JN,guard_pos (by decide)];rfl
 have l60:(EQ 60 48).length=60:=A47;have l5k:(EQ 5000 57).length=5000:=A47;unfold mU at e;generalize EQ 60 48=r60 at *;generalize EQ 5000 57=r5k at *;have ad:∀a b,a.length<=6000->b.length<=6000->aU (.str a) (.str b)=.ok (.str<|a++b):=λ a b h1 h2=>by show guard (a.length+b.length<=line) _=_;rw[guard_pos];simp only[line];lia
 have a1:∀t,t.length<=100->aU (.str nm) (.str t)=.ok (.str<|nm++t):=λ t q=>ad _ _ (by lia) (by lia);have b1:=ad [32] nm (by decide) (by lia);have b2:=ad ([32]++nm) [32,49,120,49] (by simp;lia) (by decide);have b3:=ad (nm++IM) r60 (by have:IM.length=12:=rfl;simp;lia) (by lia);have b4:=ad (nm++Ge) r5k (by have:Ge.length=11:=rfl;simp;lia) (by lia);have b5:=ad (nm++[32]) r5k (by simp;lia) (by lia);have b6:=ad (nm++[32]++r5k) [120,49] (by simp;lia) (by decide);have c0:=a1 [32] (by decide);have c1:=a1 [32,49,120] (by decide);have c2:=a1 [32,49,120,49,32] (by decide);have c3:=a1 [32,32,49,120,49] (by decide);have c4:=a1 [32,48,49,120,49] (by decide);have c5:=a1 [32,48,120,49] (by decide);have c6:=a1 [32,49,120,52] (by decide);have c7:=a1 [32,49,51,120,49] (by decide);have c8:=a1 [32,49,88,49] (by decide);have c9:=a1 [32,49,120,49,10] (by decide);have c10:=a1 [32,49,32,120,32,49] (by decide);have c11:=a1 [32,43,49,120,49] (by decide);have c12:=a1 _4 (by decide);have c13:=a1 _3 (by decide);have c14:=a1 _2 (by decide);have c15:=a1 RB (by decide);have c16:=a1 RA (by decide);have c17:=a1 Rz (by decide);have c18:=a1 Ry (by decide);have c19:=a1 Rx (by decide);have c20:=a1 Rw (by decide);have c21:=a1 Rv (by decide);have c22:=a1 Ru (by decide);have c23:=a1 Rt (by decide);have c24:=a1 IM (by decide);have c25:=a1 Rr (by decide);have c26:=a1 Rq (by decide);have c27:=a1 Ge (by decide);simp -implicitDefEqProofs only[A06,A78,B21,B07,A82]at e;simp -implicitDefEqProofs [kq,oE,line,e60,e5k,b1,b2,b3,b4,b5,b6,c0,c1,c2,c3,c4,c5,c6,c7,c8,c9,c10,c11,c12,c13,c14,c15,c16,c17,c18,c19,c20,c21,c22,c23,c24,c25,c26,c27,guard_pos];exact⟨by lia,by lia,_,e,rfl⟩
end
section
open Z
open KG (gr)
theorem J?(ha:a ρ=.ok d)(hm:uW m [d]=.ok fs)(hT:qM [i] 0 (ρ.set i<|some<|.bor<|.dct [] []))(hr:∀x,∃ts,r (ρ.set i<|some<|.bor<|ib x 0 dg fs)=.ok (.rt dd ts)):uA i m a r ρ=.ok (.rt dd):=by unfold uA;rw[ha,Res.fB,hm,Res.fB,guard_pos hT];refine Px λ x=>?_;obtain⟨ts,e⟩:=hr x;rw[e];rfl
theorem zi(h1:a ρ=.ok (.nx ρ1))(h2:b ρ1=r):c_ a b ρ=r:=by unfold c_;rw[h1];exact h2
theorem Fd(h:g ρ=.ok (.nx ρ1))(k:iU ms ρ ρ1):b! ms g ρ=.ok (.nx ρ1):=by unfold b!;rw[h];exact guard_pos k
structure vZ(n0:List Nat)(gs hl ps:D):Prop where
 g:gs=.tup []\/∃g,gs=.tup [g]/\aT g (.int 0)=.ok (.str n0)
 e:iW (.tup [gs,ps]) (.tup [gs,ps])=AC Da
theorem MO(n0:γ Nat):vZ n0 (.tup []) (.tup []) (.tup []):=⟨.inl rfl,rfl⟩
theorem CQ(n0:γ Nat)(o:ε KG.Pl):vZ n0 (.tup [gD n0]) (.tup [.non]) (.tup [gr o]):=⟨.inr ⟨_,rfl,rfl⟩,by
 cases o with
 |none=>simp[iW,iz,allEq,FF]
 |some p=>simp[-KG.VF,gr,KG.b_,iW,iz,allEq,FF]⟩
theorem Bh(t:γ Nat)(h:t.length<=9):∃b,KS.bT [.str t]=.ok (.bl b):=⟨_,KS.tU t (by lia)⟩
theorem T7(k:Nat):pO (.lst<|kn k) (.lst<|kn k)=.ok (.bl AT):=by
 have:iW (.lst<|kn k) (.lst<|kn k)=AC Da:=by simp[kn,FB,Ps,iW,iz,allEq,FF]
 simp[pO,this]
theorem T8(k:Nat):oEq (.lst<|kn k) (.lst<|kn k)=.ok (.bl Da):=by
 have:iW (.lst<|kn k) (.lst<|kn k)=AC Da:=by simp[kn,FB,Ps,iW,iz,allEq,FF]
 simp[oEq,this]
noncomputable def yi:SF:=(aN (fA (tE<|eB pO (aA bL<|aa (eM 0 3)<|aa (aA fV<|aa (eB oDiv (eW 6)<|eC<|.int 2)<|aa (eB aT (eW 2)<|eC<|.int 0) az) az)<|aA cG<|aa (eC<|.int 0) az) (aY<|eC<|.bl AT) a5)<|aN (fA (tE<|eB pO (aA bL<|aa (eM 0 3)<|aa (eB aU (eC<|.str [97,115,107,32])<|aA fh<|aa (eB oDiv (eW 6)<|eC<|.int 3)<|aa (eB aT (eW 2)<|eC<|.int 1) az) az)<|aA cG<|aa (eC<|.int 1) az) (aY<|eC<|.bl AT) a5)<|aN (fA (tE<|eB pO (aA bL<|aa (eM 0 3)<|aa (aA fi<|aa (eB oDiv (eW 6)<|eC<|.int 5)<|aa (eV 2) az) az)<|aA cG<|aa (eC<|.int 2) az) (aY<|eC<|.bl AT) a5)<|fA (tE<|eB pO (cZ<|aa (aA bS<|aa (eM 0 3) az)<|aa (aA bR<|aa (eM 0 3) az) az)<|eW 5) (aY<|eC<|.bl AT) a5)
theorem N3(h0:KS.lP n0)(h1:KS.lP n1)(mX:n0≠n1)(s:vZ n0 gs hl ps)(c:Int):yi [v X0,v hall,v (.lst [.str n0,.str n1]),AC (.bor<|dk x hall gs hl ps),v X4,v (.tup [gs,ps]),vi c]=.ok (.nx [v X0,v hall,v (.lst [.str n0,.str n1]),AC (.bor<|dk x hall gs hl ps),v X4,v (.tup [gs,ps]),vi c]):=by
 obtain⟨d1,k1,e1⟩:=GQ h0 (c / 2);obtain⟨t2,k2,e2⟩:=Dk h1 (c / 3);obtain⟨d3,k3,e3⟩:=Dl h0 h1 mX (c / 5);obtain⟨k2l,k2w⟩:=IF h1 t2 k2;have r1:=ND (x:=x) (hall:=hall) (gs:=gs) (hl:=hl) (ps:=ps) k1;have r2:=NC (x:=x) (hall:=hall) (gs:=gs) (hl:=hl) (ps:=ps) (by lia) k2w;have r3:=E_ (x:=x) (hall:=hall) (hl:=hl) (ps:=ps) k3 s.g Bh;have i0:aT (.lst [.str n0,.str n1]) (.int 0)=.ok (.str n0):=rfl;have i1:aT (.lst [.str n0,.str n1]) (.int 1)=.ok (.str n1):=rfl;have u0:=zF (k:=0) (by decide);have u1:=zF (k:=1) (by decide);have u2:=zF (k:=2) (by decide);have ha:=zw (x:=x) (hall:=hall) (gs:=gs) (hl:=hl) (ps:=ps);have hs:=oo (x:=x) (hall:=hall) (gs:=gs) (hl:=hl) (ps:=ps);have ee:pO (.tup [gs,ps]) (.tup [gs,ps])=.ok (.bl AT):=by simp[pO,s.e]
 have ad:aU (.str [97,115,107,32]) (.str t2)=.ok (.str<|[97,115,107,32]++t2):=by show guard _ _=_;rw[guard_pos];simp[line];lia
 have em:eM 0 3 [v X0,v hall,v (.lst [.str n0,.str n1]),AC (.bor<|dk x hall gs hl ps),v X4,v (.tup [gs,ps]),vi c]=.ok (dk x hall gs hl ps):=rfl;generalize dk x hall gs hl ps=DK at *;generalize D.lst [.str n0,.str n1]=NM at *;generalize [97,115,107,32]++t2=T2 at *;have z0:((0:Nat):Int)=0:=rfl;have z1:((1:Nat):Int)=1:=rfl;have z2:((2:Nat):Int)=2:=rfl;rw[z0]at u0;rw[z1]at u1;rw[z2]at u2;refine Ok.eq ?_;simp -implicitDefEqProofs [yi,cH,em,e1,i0,r1,u0,T7,e2,i1,ad,r2,u1,e3,r3,u2,ha,hs,ee,line]
noncomputable def U!:LF:=gi<|eL<|kh (eL<|bC<|aa (eC<|.int 0)<|aa (eC<|.int 1)<|aa (eC<|.int 12)<|aa (eC<|.int 31)<|aa (eC<|.int 99)<|aa (eC<|.int 102) az)<|eL<|N_ (eW 0) (C9<|eC<|.int 3)<|C9<|eC<|.int 33
theorem K2{ns:γ Int}(hn:ns.length<=63)(h0:KS.lP n0)(h1:KS.lP n1)(mX:n0≠n1)(s:vZ n0 gs hl ps):∃x6,iR U! (bf 6) yi [v (.lst<|ns.map .int),v hall,v (.lst [.str n0,.str n1]),AC (.bor<|dk x hall gs hl ps),v X4,v (.tup [gs,ps]),Ch]=.ok (.nx [v (.lst<|ns.map .int),v hall,v (.lst [.str n0,.str n1]),AC (.bor<|dk x hall gs hl ps),v X4,v (.tup [gs,ps]),x6])/\wQ x6=False:=by
 have tW:=KG.CY hn (AC 3)<|some 33;have hm:∀d∈[D.int 0,.int 1,.int 12,.int 31,.int 99,.int 102]++cut (ns.map D.int) (AC 3) (AC 33),∃c,d=.int c:=λ d hd=>by
  rcases A29.mp hd with hd|hd
  .simp only[o0,A14,A16]at hd;rcases hd with rfl|rfl|rfl|rfl|rfl|rfl<;>exact⟨_,rfl⟩
  .obtain⟨z,_,rfl⟩:=KG.Dp hd;exact⟨z,rfl⟩
 have lp:=λ c=>N3 (x:=x) (hall:=hall) (X0:=.lst (ns.map .int)) (X4:=X4) h0 h1 mX s c;generalize D.lst [.str n0,.str n1]=NM at *;generalize dk x hall gs hl ps=DK at *;have:Ok (iR U! (bf 6) yi [v (.lst<|ns.map .int),v hall,v NM,AC (.bor DK),v X4,v (.tup [gs,ps]),Ch]) λ fl=>∃x6,fl=.nx [v (.lst<|ns.map .int),v hall,v NM,AC (.bor DK),v X4,v (.tup [gs,ps]),x6]/\wQ x6=False:=by
  have et:U! [v (.lst<|ns.map .int),v hall,v NM,AC (.bor DK),v X4,v (.tup [gs,ps]),Ch]=.ok ([D.int 0,.int 1,.int 12,.int 31,.int 99,.int 102]++cut (ns.map D.int) (AC 3) (AC 33)):=by refine Ok.eq ?_;simp[U!,oE,Kk,line];lia
  show Ok ((U! _).bind λ ds=>gP (bf 6) yi ds _) _;rw[et,Res.fB];refine OO (λ ρ=>∃x6,ρ=[v (.lst<|ns.map .int),v hall,v NM,AC (.bor DK),v X4,v (.tup [gs,ps]),x6]/\wQ x6=False) ⟨Ch,rfl,by simp[wQ]⟩ ?_ ?_
  .rintro d hd ρ ⟨x6,rfl,_⟩;obtain⟨c,rfl⟩:=hm d hd;have:=lp c;simp[this,wQ]
  .rintro ρ ⟨x6,rfl,h⟩;exact⟨x6,rfl,h⟩
 obtain⟨fl,e,x6,rfl,h⟩:=this;exact⟨x6,e,h⟩
end
section
open Z
open KG (gr)
theorem mrt(h:a ρ=.ok (.rt d ts)):c_ a b ρ=.ok (.rt d ts):=by unfold c_;rw[h];rfl
theorem Xj(d:D):wQ (v d)=False:=by simp[wQ]
theorem nT0:wQ Ch=False:=by simp[wQ]
theorem Bt{R L:Nat}(H:Hs R L rows):k! (.str []) (.tup<|rows.map .str)=.ok (.str rows.flatten):=by
 have hs:∀l:KA.Rows,(∀x∈l,x.length=L)->l.flatten.length<=l.length*L:=by
  intro l
  induction l with
  |nil=>intro _;simp
  |cons x r ih=>intro h;have q1:=h x (by simp);have q2:=ih λ y hy=>h y (by simp[hy]);simp only[AA1,A20,A24];lia
 have h1:=hs rows H.h.each;have h2:rows.length*L<=3*6:=A60 (by rw[H.h.len];exact H.r) H.l;exact xE (by lia)
noncomputable def Ep:SF:=a6 4<|QF (eB uO (eC<|.str [46])<|eB k! (eC<|.str [])<|eW 1)<|eB uO (eC<|.str [61])<|eB k! (eC<|.str [])<|eW 1
noncomputable def SS:SM:=rY<|lT gz [Da,AT] [3]<|aa (eM 0 3)<|aa (cZ<|aa (eB aT (eW 2)<|eC<|.int 0)<|aa (eC<|.int 1)<|aa (eC<|.int 1)<|aa (eC<|.str [])<|aa (eC<|.int 0)<|aa (eC<|.int 0)<|aa (eC<|.int 0)<|aa (cZ az) az) az
noncomputable def UB:SF:=a6 5<|cZ<|aa (aA bS<|aa (eM 0 3) az)<|aa (aA bR<|aa (eM 0 3) az) az
noncomputable def SR:SM:=G3 [3]<|N0 (mB oEq (lT iN [Da,AT] [3]<|aa (eM 0 3)<|aa (eB aU (eC<|.str [102,97,115,116,32])<|eB aT (eW 2)<|eC<|.int 0) az)<|mP<|eC<|.str [111,107])<|mP<|eB oEq (cZ<|aa (aA bS<|aa (eM 0 3) az)<|aa (aA bR<|aa (eM 0 3) az) az)<|eW 5
noncomputable def Pm:SF:=aY<|eB oEq (aA bL<|aa (eM 0 3)<|aa (eB aU (eC<|.str [102,97,115,116,32])<|eB aT (eW 2)<|eC<|.int 0) az)<|aA cG<|aa (eC<|.int 2) az
theorem S0:LO=aN (a6 1<|aA d6<|aa (eV 0) az) (aN (a6 2<|aA gW<|aa (aA KG.bh<|aa (eV 0)<|aa (eC<|.int 2) az)<|aa (eC<|.int 2) az)<|uA 3 gZ (eV 1)<|c_ (b! [3] Ep)<|c_ (qP (GW<|tE<|eV 4) SS rX)<|c_ (b! [3] UB)<|c_ (b! [3]<|iR U! (bf 6) yi)<|c_ (qP (GW<|tE<|eV 4) SR rX)<|b! [3] Pm):=rfl
abbrev env(X hall:D)(n0 n1:γ Nat)(DK:D)(x4 x5 x6:ε L):Env:=[v X,v hall,v (.lst [.str n0,.str n1]),AC (.bor DK),x4,x5,x6]
theorem NX(ej:k! (.str []) hall=.ok (.str t))(DK:D):b! [3] Ep (env X hall n0 n1 DK Ch Ch Ch)=.ok (.nx<|env X hall n0 n1 DK (v<|.bl<|t.contains 46||t.contains 61) Ch Ch):=by refine Fd ?_ (by simp[iU,qM,wQ]);have e1:uO (.str [46]) (.str t)=.ok _:=rfl;have e2:uO (.str [61]) (.str t)=.ok _:=rfl;cases h1:t.contains 46<;>rw[h1]at e1<;>simp -implicitDefEqProofs [Ep,ej,e1,e2]
theorem Xm(h:gz [dk x hall gs hl ps,gD n0]=.ok (d,[DK']))(x4 x5 x6:ε L):SS (env X hall n0 n1 (dk x hall gs hl ps) x4 x5 x6)=.ok (.nx<|env X hall n0 n1 DK' x4 x5 x6):=by have i0:aT (.lst [.str n0,.str n1]) (.int 0)=.ok _:=rfl;have em:eM 0 3 (env X hall n0 n1 (dk x hall gs hl ps) x4 x5 x6)=.ok (dk x hall gs hl ps):=rfl;generalize dk x hall gs hl ps=DK at *;simp -implicitDefEqProofs [SS,rY,lT,em,i0,h,line,ie,P0,l3,VJ]
theorem Qm(x4:ε L)(h4:wQ x4=False):b! [3] UB (env X hall n0 n1 (dk x hall gs hl ps) x4 Ch Ch)=.ok (.nx<|env X hall n0 n1 (dk x hall gs hl ps) x4 (v<|.tup [gs,ps]) Ch):=by refine Fd ?_ (by simp[iU,qM,h4,Xj,nT0]);have ha:=zw (x:=x) (hall:=hall) (gs:=gs) (hl:=hl) (ps:=ps);have hs:=oo (x:=x) (hall:=hall) (gs:=gs) (hl:=hl) (ps:=ps);have em:eM 0 3 (env X hall n0 n1 (dk x hall gs hl ps) x4 Ch Ch)=.ok (dk x hall gs hl ps):=rfl;generalize dk x hall gs hl ps=DK at *;refine Ok.eq ?_;simp -implicitDefEqProofs [UB,em,ha,hs,line]
theorem Xl(en:KS.bT [.str n0]=.ok (.bl Da))(e0:aT g (.int 0)=.ok (.str n0))(X8:n0.length<=9)(s:vZ n0 (.tup [g]) (.tup [.non]) (.tup [p]))(x4 x6:ε L):∃ts,SR (env X hall n0 n1 (dk x hall (.tup [g]) (.tup [.non])<|.tup [p]) x4 (v<|.tup [.tup [g],.tup [p]]) x6)=.ok (.rt (.bl Da) ts):=by
 have sy:=Gn (x:=x) (hall:=hall) (p:=p) en e0 X8;have i0:aT (.lst [.str n0,.str n1]) (.int 0)=.ok _:=rfl;have ha:=zw (x:=x) (hall:=hall) (gs:=.tup [g]) (hl:=.tup [p]) (ps:=.tup [p]);have hs:=oo (x:=x) (hall:=hall) (gs:=.tup [g]) (hl:=.tup [p]) (ps:=.tup [p]);have ad:aU (.str [102,97,115,116,32]) (.str n0)=.ok (.str<|cK++32::n0):=by show guard _ _=_;rw[guard_pos (by simp[line];lia)];rfl
 have ee:oEq (.tup [.tup [g],.tup [p]]) (.tup [.tup [g],.tup [p]])=.ok (.bl Da):=by simp[oEq,s.e]
 have eo:oEq (.str [111,107]) (.str [111,107])=.ok _:=rfl;have em:eM 0 3 (env X hall n0 n1 (dk x hall _ (.tup [.non])<|.tup [p]) x4 (v<|.tup [.tup [g],.tup [p]]) x6)=.ok (dk x hall (.tup [g]) (.tup [.non])<|.tup [p]):=rfl;have em':eM 0 3 (env X hall n0 n1 (dk x hall (.tup [g]) (.tup [p])<|.tup [p]) x4 (v<|.tup [.tup [g],.tup [p]]) x6)=.ok (dk x hall (.tup [g]) (.tup [p])<|.tup [p]):=rfl;generalize dk x hall (.tup [g]) (.tup [.non]) (.tup [p])=DK at *;generalize dk x hall (.tup [g]) (.tup [p]) (.tup [p])=DK' at *;generalize cK++32::n0=t at *;refine⟨[DK'],?_⟩;simp -implicitDefEqProofs [SR,G3,N0,mB,mP,lT,em,em',i0,ad,sy,ha,hs,ee,eo,line,ie,P0,l3,VJ,guard_pos]
theorem SO(h0:KS.lP n0)(x4 x5 x6:ε L):∃ts,b! [3] Pm (env X hall n0 n1 (dk x hall (.tup []) (.tup [])<|.tup []) x4 x5 x6)=.ok (.rt (.bl Da) ts):=by
 have n8:=h0.2.1;have n1':=h0.1;have i0:aT (.lst [.str n0,.str n1]) (.int 0)=.ok _:=rfl;have ad:aU (.str [102,97,115,116,32]) (.str n0)=.ok (.str<|cK++32::n0):=by show guard _ _=_;rw[guard_pos (by simp[line];lia)];rfl
 have r:=E_ (x:=x) (hall:=hall) (hl:=.tup []) (ps:=.tup []) (n0:=[]) ⟨cK,n0,by simp,rfl,by lia,λ e=>by rw[<-e]at n1';simp at n1'⟩ (.inl rfl) Bh;have u2:cG [.int 2]=.ok _:=zF (by decide);have em:eM 0 3 (env X hall n0 n1 (dk x hall _ _ _) x4 x5 x6)=.ok (dk x hall (.tup []) (.tup [])<|.tup []):=rfl;generalize dk x hall _ _ _=DK at *;generalize cK++32::n0=t at *;have:Pm (env X hall n0 n1 DK x4 x5 x6)=.ok (.rt<|.bl Da):=by refine Ok.eq ?_;simp -implicitDefEqProofs [Pm,em,i0,ad,r,u2,T8,line]
 refine⟨[DK],?_⟩;unfold b!;rw[this];rfl
theorem Qk(h:ρ[4]?=AC (v<|.bl Da)):qP (GW<|tE<|eV 4) p q ρ=p ρ:=by simp[qP,GW,h]
theorem Ql(h:ρ[4]?=AC (v<|.bl AT)):qP (GW<|tE<|eV 4) p q ρ=q ρ:=by simp[qP,GW,h]
theorem holds(ns:γ Int)(hn:ns.length<=63)(hb:∀i∈ns,bits i<=2^20):rh [.lst (ns.map .int)]=.ok (.bl Da):=by
 have B:=hb;obtain⟨R,L,rows,H0,hr,hl,eh⟩:=BE B;have H:Hs R L rows:=⟨H0,hr,hl⟩
 obtain⟨c2,e2,_⟩:=KG.m3 B (k:=2) (by decide);obtain⟨n0,n1,k0,k1,mX,en⟩:=JW c2;have hi:=OA H;have ej:=Bt H;have isn:KS.bT [.str n0]=.ok (.bl Da):=by
  rw[KS.tU n0 (by have:=k0.2.1;lia)];have:KS.lS n0=Da:=by simp[KS.lS,k0.1,k0.2.1];exact k0.2.2
  rw[this]
 rw[TX];refine aJ ?_;rw[S0];refine KS.oj (ρ1:=[v (.lst<|ns.map .int),v (.tup<|rows.map .str),Ch,Ch,Ch,Ch,Ch]) (by simp[eh]) ?_;refine KS.oj (ρ1:=[v (.lst<|ns.map .int),v (.tup<|rows.map .str),v (.lst [.str n0,.str n1]),Ch,Ch,Ch,Ch]) (by simp[e2,en]) ?_;refine⟨.rt<|.bl Da,J? (by simp) hi (by simp[qM,wQ]) λ x=>?_,rfl⟩;rw[YE];have s1:=NX (X:=.lst (ns.map .int)) (n0:=n0) (n1:=n1) ej<|dk x (.tup<|rows.map .str) (.tup []) (.tup [])<|.tup [];cases hT:rows.flatten.contains 46||rows.flatten.contains 61 with
 |true=>
  rw[hT]at s1;have hf:∃p,KG.d9 rows (g1 n0) p=Da:=by
   rcases Bool.or_eq_true_iff.mp hT with h|h
   .exact K5 H n0 (.inl rfl) (by simpa using h)
   .exact K5 H n0 (.inr rfl) (by simpa using h)
  obtain⟨o,ea⟩:=UE H k0 hf;have s:=CQ n0 o;obtain⟨x6,e4,h6⟩:=K2 (x:=x) (hall:=.tup (rows.map .str)) (X4:=.bl Da) hn k0 k1 mX s;obtain⟨ts,e5⟩:=Xl (x:=x) (X:=.lst (ns.map .int)) (hall:=.tup (rows.map .str)) (n1:=n1) isn rfl (by have:=k0.2.1;lia) s (v<|.bl Da) x6;refine⟨ts,zi s1<|zi ((Qk rfl).trans<|Xm (ea x) _ _ _)<|zi (Qm _<|Xj _)<|zi (Fd e4 ?_)<|mrt<|(Qk rfl).trans e5⟩;simp[iU,qM,h6,Xj,nT0]
 |false=>rw[hT]at s1;obtain⟨x6,e4,h6⟩:=K2 (x:=x) (hall:=.tup (rows.map .str)) (X4:=.bl AT) hn k0 k1 mX (MO n0);obtain⟨ts,e5⟩:=SO (x:=x) (X:=.lst (ns.map .int)) (hall:=.tup (rows.map .str)) (n1:=n1) k0 (v<|.bl AT) (v<|.tup [.tup [],.tup []]) x6;refine⟨ts,zi s1<|zi (Ql rfl)<|zi (Qm _<|Xj _)<|zi (Fd e4 ?_)<|zi (Ql rfl) e5⟩;simp[iU,qM,h6,Xj,nT0]
end
end HM
set_option maxRecDepth 100000
namespace HM
open PySem PySem.Spec PyProof.Rows L2 ZQ KG KH KB KC KA KS
def top(i:Nat):θ:=PySem.Challenge.pw_besideseats_k86_rows_refused.main.body.getD i<|.Pass ⟨0,0,0,0⟩
abbrev sH(i j:Nat):θ:=ZS.clsAt (top i) j
theorem xg:bootBuiltins "ValueError"=AC (.type "ValueError"):=by kernel_rfl
theorem Pj:bootBuiltins "bool"=AC (.type "bool"):=by kernel_rfl
theorem Em:bootBuiltins "int"=AC (.type "int"):=by kernel_rfl
theorem aO:bootBuiltins "isinstance"=AC (.builtin "isinstance"):=by kernel_rfl
theorem LN:bootBuiltins "max"=AC (.builtin "max"):=by kernel_rfl
theorem mD:bootBuiltins "str"=AC (.type "str"):=by kernel_rfl
theorem qi:bootBuiltins "tuple"=AC (.type "tuple"):=by kernel_rfl
abbrev yN:θ:=top 67
theorem nF:a_ ["groups","seatings"] ["groups","seatings"] (ah yN):=ZS.K0
abbrev AX:θ:=top 94
theorem pF:a_ ["_law_e","_law_found"] ["_law_e"] (ah AX):=ZS.K0
set_option genInjectivity false in
structure Fs(K:Do)(mg:Str->Option Value)(h:Heap)where
 X:K.In h
 G:h.Ns mainGlobals mg
 {cI:Addr}
 CG:ce K "is_whole" (top 12)
 pj:ce K "is_whole_within" (top 13)
 AE:ce K "is_letter" (top 14)
 F!:ce K "is_name" (top 30)
 F?:ce K "is_kind" (top 31)
 AG:ce K "is_amount" (top 32)
 F9:ce K "is_wish" (top 33)
 yC:ce K "are_wishes" (top 34)
 qt:ce K "asks_for_seats" (top 35)
 CH:ce K "is_group" (top 36)
 CB:ce K "worth_in" (top 37)
 F':ce K "is_sign" (top 41)
 Iw:ce K "is_row" (top 42)
 F_:ce K "is_hall" (top 43)
 F7:ce K "sign_at" (top 44)
 MC:ce K "takes" (top 46)
 CC:ce K "seats_of" (top 47)
 Rj:ce K "fits" (top 48)
 Ay:ce K "places_of" (top 49)
 MF:ce K "apart" (top 51)
 qr:ce K "those_that_sit" (top 52)
 qv:ce K "apart_from_all" (top 53)
 MD:ce K "keeps" (top 54)
 CA:ce K "worth_of" (top 55)
 ug:ce K "fast_seating" (top 58)
 Ri:ZS.v! K "ways" (top 59)
 wm:ce K "small_start" (top 60)
 yw:ce K "with_place" (top 61)
 yA:ce K "open_among" (top 62)
 sv:ce K "with_one_more" (top 63)
 sA:ce K "seatings_from" (top 64)
 pq:ZS.yo K "best_among" (top 67)
 wz:ZS.v! K "best_of_all" (top 68)
 yy:ce K "show_group" (top 77)
 Az:ce K "number_in" (top 78)
 Ax:ce K "wishes_in" (top 79)
 CI:ce K "group_in" (top 80)
 yz:ce K "read_group" (top 81)
 F6:ce K "without" (top 85)
 yx:ce K "show_place" (top 86)
 AH:wP K cI "__init__" "Desk.__init__" (sH 87 0)
 kB:wP K cI "number_of" "Desk.number_of" (sH 87 1)
 uk:wP K cI "ask" "Desk.ask" (sH 87 2)
 rN:wP K cI "fast" "Desk.fast" (sH 87 3)
 rO:wP K cI "away" "Desk.away" (sH 87 4)
 pw:wP K cI "where" "Desk.where" (sH 87 5)
 uj:wP K cI "at_hand" "Desk.at_hand" (sH 87 6)
 uh:wP K cI "seating" "Desk.seating" (sH 87 7)
 yE:wP K cI "worth" "Desk.worth" (sH 87 8)
 sC:wP K cI "show_all" "Desk.show_all" (sH 87 9)
 xn:wP K cI "do" "Desk.do" (sH 87 11)
 ui:wP K cI "say" "Desk.say" (sH 87 10)
 wy:ce K "_law_cell_at" (top 89)
 AB:ce K "_law_mixed" (top 90)
 AA:ce K "_law_names" (top 91)
 wx:ce K "_law_letters" (top 92)
 CF:ce K "_law_hall" (top 93)
 AD:ce K "_law_kinds" (top 94)
 CD:ce K "_law_told" (top 95)
 yB:ce K "_law_no_row" (top 96)
 wq:ce K "_law_no_text" (top 97)
 wu:ce K "_law_no_name" (top 98)
 F8:ce K "_law_due" (top 99)
 VD:ce K "law" (top 100)
 zf:Ev K mainGlobals "ValueError"=AC Ch
 Xi:Ev K mainGlobals "all"=AC Ch
 SH:Ev K mainGlobals "bool"=AC Ch
 Bi:Ev K mainGlobals "enumerate"=AC Ch
 Xh:Ev K mainGlobals "int"=AC Ch
 ze:Ev K mainGlobals "isinstance"=AC Ch
 Xg:Ev K mainGlobals "len"=AC Ch
 Xf:Ev K mainGlobals "max"=AC Ch
 NK:Ev K mainGlobals "range"=AC Ch
 Xe:Ev K mainGlobals "str"=AC Ch
 Xd:Ev K mainGlobals "sum"=AC Ch
 NJ:Ev K mainGlobals "tuple"=AC Ch
 Xc:Ev K mainGlobals "zip"=AC Ch
 {ES:Tok}
 MA:Ev K mainGlobals "DEPTH"=AC (AC<|.int 2 ES)
 {xo:Tok}
 {yk:Str}
 F5:Ev K mainGlobals "FIGURES"=AC (AC<|.str yk xo)
 Gs:yk=⟨[48,49,50,51,52,53,54,55,56,57].toArray⟩
 {P5:Tok}
 VC:Ev K mainGlobals "GAP"=AC (AC<|.int 5 P5)
 {IL:Tok}
 Rg:Ev K mainGlobals "KIND"=AC (AC<|.int 3 IL)
 {ur:Tok}
 Cz:Ev K mainGlobals "LAST_ROW"=AC (AC<|.int 5 ur)
 {l6:Tok}
 uf:Ev K mainGlobals "MOST_COLUMNS"=AC (AC<|.int 12 l6)
 {pB:Tok}
 yv:Ev K mainGlobals "MOST_DEPTH"=AC (AC<|.int 3 pB)
 {l5:Tok}
 ue:Ev K mainGlobals "MOST_FIGURES"=AC (AC<|.int 60 l5)
 {uq:Tok}
 Cy:Ev K mainGlobals "MOST_GAP"=AC (AC<|.int 6 uq)
 {nE:Tok}
 wj:Ev K mainGlobals "MOST_GUESTS"=AC (AC<|.int 6 nE)
 {l4:Tok}
 ud:Ev K mainGlobals "MOST_LETTERS"=AC (AC<|.int 8 l4)
 {rQ:Tok}
 Aw:Ev K mainGlobals "MOST_ROWS"=AC (AC<|.int 6 rQ)
 {rP:Tok}
 Av:Ev K mainGlobals "MOST_WAYS"=AC (AC<|.int 2000 rP)
 {pA:Tok}
 yu:Ev K mainGlobals "MOST_WIDTH"=AC (AC<|.int 12 pA)
 {IK:Tok}
 Rf:Ev K mainGlobals "NAME"=AC (AC<|.int 0 IK)
 {ER:Tok}
 Mz:Ev K mainGlobals "PARTS"=AC (AC<|.int 8 ER)
 {IJ:Tok}
 Rc:Ev K mainGlobals "WIDE"=AC (AC<|.int 4 IJ)
 {EO:Tok}
 My:Ev K mainGlobals "WIDTH"=AC (AC<|.int 1 EO)
 {AL:Tok}
 Iu:Ev K mainGlobals "WISHES"=AC (AC<|.int 7 AL)
 {yS:Addr}
 Mx:Ev K mainGlobals "WORDS"=AC (AC<|.ref yS)
 yD:ZS.MG K yS=AC [[97,115,107],[102,97,115,116],[97,119,97,121],[119,104,101,114,101]]
 {EN:Tok}
 Mw:Ev K mainGlobals "WORTH"=AC (AC<|.int 6 EN)
 w_Desk:Ev K mainGlobals "Desk"=AC (AC<|.ref cI)
 {mO:Addr}
 w_Full:Ev K mainGlobals "Full"=AC (AC<|.ref mO)
 {gF:Addr}
 w_NoGroup:Ev K mainGlobals "NoGroup"=AC (AC<|.ref gF)
 {iP:Addr}
 w_NoHall:Ev K mainGlobals "NoHall"=AC (AC<|.ref iP)
 {bF:Addr}
 w_NoName:Ev K mainGlobals "NoName"=AC (AC<|.ref bF)
 {cf:Addr}
 w_NoRow:Ev K mainGlobals "NoRow"=AC (AC<|.ref cf)
 {d!:Addr}
 w_NoSeating:Ev K mainGlobals "NoSeating"=AC (AC<|.ref d!)
 {bE:Addr}
 w_NoText:Ev K mainGlobals "NoText"=AC (AC<|.ref bE)
 {cR:Addr}
 w_SeatError:Ev K mainGlobals "SeatError"=AC (AC<|.ref cR)
 {fw:Addr}
 w_TooGreat:Ev K mainGlobals "TooGreat"=AC (AC<|.ref fw)
 {j?:Addr}
 w_Twice:Ev K mainGlobals "Twice"=AC (AC<|.ref j?)
 F1:ZS.Cp K bF=Da
 Ih:ZS.Cp K cf=Da
 F0:ZS.Cp K bE=Da
 yq:ZS.Cp K cR=Da
 FZ:sB K bF [.type "ValueError",.type "Exception",.type "BaseException",.type "object"] "ValueError.__new__"=Da
 An:sB K cf [.type "ValueError",.type "Exception",.type "BaseException",.type "object"] "ValueError.__new__"=Da
 qo:sB K bE [.type "ValueError",.type "Exception",.type "BaseException",.type "object"] "ValueError.__new__"=Da
 eP:ZS.tF K bF
 fY:ZS.tF K cf
 eO:ZS.tF K bE
 u9:FS K (.ref bF) (.ref mO)=AC AT
 pU:FS K (.ref bF) (.ref gF)=AC AT
 qW:FS K (.ref bF) (.ref iP)=AC AT
 qV:FS K (.ref bF) (.ref bF)=AC Da
 sR:FS K (.ref bF) (.ref cf)=AC AT
 nr:FS K (.ref bF) (.ref d!)=AC AT
 qU:FS K (.ref bF) (.ref bE)=AC AT
 oH:FS K (.ref bF) (.ref fw)=AC AT
 sQ:FS K (.ref bF) (.ref j?)=AC AT
 mq:FS K (.ref bF) (.type "ValueError")=AC Da
 wN:FS K (.ref cf) (.ref mO)=AC AT
 qT:FS K (.ref cf) (.ref gF)=AC AT
 sP:FS K (.ref cf) (.ref iP)=AC AT
 sO:FS K (.ref cf) (.ref bF)=AC AT
 u7:FS K (.ref cf) (.ref cf)=AC Da
 oG:FS K (.ref cf) (.ref d!)=AC AT
 sN:FS K (.ref cf) (.ref bE)=AC AT
 pT:FS K (.ref cf) (.ref fw)=AC AT
 u6:FS K (.ref cf) (.ref j?)=AC AT
 nj:FS K (.ref cf) (.type "ValueError")=AC Da
 uZ:FS K (.ref bE) (.ref mO)=AC AT
 pS:FS K (.ref bE) (.ref gF)=AC AT
 qS:FS K (.ref bE) (.ref iP)=AC AT
 qR:FS K (.ref bE) (.ref bF)=AC AT
 sM:FS K (.ref bE) (.ref cf)=AC AT
 ni:FS K (.ref bE) (.ref d!)=AC AT
 qQ:FS K (.ref bE) (.ref bE)=AC Da
 oF:FS K (.ref bE) (.ref fw)=AC AT
 sL:FS K (.ref bE) (.ref j?)=AC AT
 mn:FS K (.ref bE) (.type "ValueError")=AC Da
 Pd:Ia K cI
 NU:ii K cI=Da
 Od:Fk K (.ref cI)=Da
 GN:GE K (.ref cI) "guests"=AC Ch
 NG:GE K (.ref cI) "hall"=AC Ch
 NF:GE K (.ref cI) "held"=AC Ch
 GL:GE K (.ref cI) "places"=AC Ch
 nh:bv K bF (.ref cR)=AC Da
 og:bv K cf (.ref cR)=AC Da
 ng:bv K bE (.ref cR)=AC Da
section
variable{P:ο}{w:ξ}{K:Do}{mg:Str->ε ζ}{base h:μ}(z:Fs K mg h)
include z
theorem Fs.zx:mg "ValueError"=Ch:=A48 z.X z.G z.zf
theorem Fs.mr:mg "all"=Ch:=A48 z.X z.G z.Xi
theorem Fs.g_bool:mg "bool"=Ch:=A48 z.X z.G z.SH
theorem Fs.r?:mg "enumerate"=Ch:=A48 z.X z.G z.Bi
theorem Fs.KZ:mg "int"=Ch:=A48 z.X z.G z.Xh
theorem Fs.aW:mg "isinstance"=Ch:=A48 z.X z.G z.ze
theorem Fs.dY:mg "len"=Ch:=A48 z.X z.G z.Xg
theorem Fs.Qz:mg "max"=Ch:=A48 z.X z.G z.Xf
theorem Fs.fD:mg "range"=Ch:=A48 z.X z.G z.NK
theorem Fs.iM:mg "str"=Ch:=A48 z.X z.G z.Xe
theorem Fs.Qy:mg "sum"=Ch:=A48 z.X z.G z.Xd
theorem Fs.jc:mg "tuple"=Ch:=A48 z.X z.G z.NJ
theorem Fs.KY:mg "zip"=Ch:=A48 z.X z.G z.Xc
theorem Fs.m5:mg "DEPTH"=AC (.int 2 z.ES):=A12 z.X z.G z.MA
theorem Fs.HE:mg "FIGURES"=AC (.str ⟨[48,49,50,51,52,53,54,55,56,57].toArray⟩ z.xo):=z.Gs▸A12 z.X z.G z.F5
theorem Fs.FO:mg "GAP"=AC (.int 5 z.P5):=A12 z.X z.G z.VC
theorem Fs.zX:mg "KIND"=AC (.int 3 z.IL):=A12 z.X z.G z.Rg
theorem Fs.Ej:mg "LAST_ROW"=AC (.int 5 z.ur):=A12 z.X z.G z.Cz
theorem Fs.vT:mg "MOST_COLUMNS"=AC (.int 12 z.l6):=A12 z.X z.G z.uf
theorem Fs.zW:mg "MOST_DEPTH"=AC (.int 3 z.pB):=A12 z.X z.G z.yv
theorem Fs.vS:mg "MOST_FIGURES"=AC (.int 60 z.l5):=A12 z.X z.G z.ue
theorem Fs.Ei:mg "MOST_GAP"=AC (.int 6 z.uq):=A12 z.X z.G z.Cy
theorem Fs.xf:mg "MOST_GUESTS"=AC (.int 6 z.nE):=A12 z.X z.G z.wj
theorem Fs.vR:mg "MOST_LETTERS"=AC (.int 8 z.l4):=A12 z.X z.G z.ud
theorem Fs.B?:mg "MOST_ROWS"=AC (.int 6 z.rQ):=A12 z.X z.G z.Aw
theorem Fs.B!:mg "MOST_WAYS"=AC (.int 2000 z.rP):=A12 z.X z.G z.Av
theorem Fs.zV:mg "MOST_WIDTH"=AC (.int 12 z.pA):=A12 z.X z.G z.yu
theorem Fs.oX:mg "NAME"=AC (.int 0 z.IK):=A12 z.X z.G z.Rf
theorem Fs.Pg:mg "PARTS"=AC (.int 8 z.ER):=A12 z.X z.G z.Mz
theorem Fs.Eh:mg "WIDE"=AC (.int 4 z.IJ):=A12 z.X z.G z.Rc
theorem Fs.m4:mg "WIDTH"=AC (.int 1 z.EO):=A12 z.X z.G z.My
theorem Fs.vQ:mg "WISHES"=AC (.int 7 z.AL):=A12 z.X z.G z.Iu
theorem Fs.zU:mg "WORDS"=AC (.ref z.yS):=A12 z.X z.G z.Mx
theorem Fs.zT:mg "WORTH"=AC (.int 6 z.EN):=A12 z.X z.G z.Mw
theorem Fs.SQ:mg "Full"=AC (.ref z.mO):=A12 z.X z.G z.w_Full
theorem Fs.G2:mg "NoGroup"=AC (.ref z.gF):=A12 z.X z.G z.w_NoGroup
theorem Fs.Kb:mg "NoHall"=AC (.ref z.iP):=A12 z.X z.G z.w_NoHall
theorem Fs.Ka:mg "NoName"=AC (.ref z.bF):=A12 z.X z.G z.w_NoName
theorem Fs.NZ:mg "NoRow"=AC (.ref z.cf):=A12 z.X z.G z.w_NoRow
theorem Fs.Bp:mg "NoSeating"=AC (.ref z.d!):=A12 z.X z.G z.w_NoSeating
theorem Fs.J_:mg "NoText"=AC (.ref z.bE):=A12 z.X z.G z.w_NoText
theorem Fs.Bo:mg "SeatError"=AC (.ref z.cR):=A12 z.X z.G z.w_SeatError
theorem Fs.Ds:mg "TooGreat"=AC (.ref z.fw):=A12 z.X z.G z.w_TooGreat
theorem Fs.NY:mg "Twice"=AC (.ref z.j?):=A12 z.X z.G z.w_Twice
theorem Fs.Ij:ZS.XC K [78,111,78,97,109,101] z.bF:=ZS.EG (by decide +kernel) z.w_NoName z.F1
theorem Fs.EH:ZS.XC K [78,111,82,111,119] z.cf:=ZS.EG (by decide +kernel) z.w_NoRow z.Ih
theorem Fs.t?:ZS.XC K [78,111,84,101,120,116] z.bE:=ZS.EG (by decide +kernel) z.w_NoText z.F0
theorem Fs.Ao:ZS.XC K [83,101,97,116,69,114,114,111,114] z.cR:=ZS.EG (by decide +kernel) z.w_SeatError z.yq
theorem Fs.wW:io K [78,111,78,97,109,101] (.ref z.mO) AT:=jp (by decide +kernel) z.w_NoName z.eP z.u9
theorem Fs.q_:io K [78,111,78,97,109,101] (.ref z.gF) AT:=jp (by decide +kernel) z.w_NoName z.eP z.pU
theorem Fs.sZ:io K [78,111,78,97,109,101] (.ref z.iP) AT:=jp (by decide +kernel) z.w_NoName z.eP z.qW
theorem Fs.sY:io K [78,111,78,97,109,101] (.ref z.bF) Da:=jp (by decide +kernel) z.w_NoName z.eP z.qV
theorem Fs.vj:io K [78,111,78,97,109,101] (.ref z.cf) AT:=jp (by decide +kernel) z.w_NoName z.eP z.sR
theorem Fs.oN:io K [78,111,78,97,109,101] (.ref z.d!) AT:=jp (by decide +kernel) z.w_NoName z.eP z.nr
theorem Fs.sX:io K [78,111,78,97,109,101] (.ref z.bE) AT:=jp (by decide +kernel) z.w_NoName z.eP z.qU
theorem Fs.pZ:io K [78,111,78,97,109,101] (.ref z.fw) AT:=jp (by decide +kernel) z.w_NoName z.eP z.oH
theorem Fs.vh:io K [78,111,78,97,109,101] (.ref z.j?) AT:=jp (by decide +kernel) z.w_NoName z.eP z.sQ
theorem Fs.ny:io K [78,111,78,97,109,101] (.type "ValueError") Da:=jp (by decide +kernel) z.w_NoName z.eP z.mq
theorem Fs.zr:io K [78,111,82,111,119] (.ref z.mO) AT:=jp (by decide +kernel) z.w_NoRow z.fY z.wN
theorem Fs.sW:io K [78,111,82,111,119] (.ref z.gF) AT:=jp (by decide +kernel) z.w_NoRow z.fY z.qT
theorem Fs.vg:io K [78,111,82,111,119] (.ref z.iP) AT:=jp (by decide +kernel) z.w_NoRow z.fY z.sP
theorem Fs.vf:io K [78,111,82,111,119] (.ref z.bF) AT:=jp (by decide +kernel) z.w_NoRow z.fY z.sO
theorem Fs.wV:io K [78,111,82,111,119] (.ref z.cf) Da:=jp (by decide +kernel) z.w_NoRow z.fY z.u7
theorem Fs.pY:io K [78,111,82,111,119] (.ref z.d!) AT:=jp (by decide +kernel) z.w_NoRow z.fY z.oG
theorem Fs.ve:io K [78,111,82,111,119] (.ref z.bE) AT:=jp (by decide +kernel) z.w_NoRow z.fY z.sN
theorem Fs.q?:io K [78,111,82,111,119] (.ref z.fw) AT:=jp (by decide +kernel) z.w_NoRow z.fY z.pT
theorem Fs.wU:io K [78,111,82,111,119] (.ref z.j?) AT:=jp (by decide +kernel) z.w_NoRow z.fY z.u6
theorem Fs.oM:io K [78,111,82,111,119] (.type "ValueError") Da:=jp (by decide +kernel) z.w_NoRow z.fY z.nj
theorem Fs.wR:io K [78,111,84,101,120,116] (.ref z.mO) AT:=jp (by decide +kernel) z.w_NoText z.eO z.uZ
theorem Fs.q!:io K [78,111,84,101,120,116] (.ref z.gF) AT:=jp (by decide +kernel) z.w_NoText z.eO z.pS
theorem Fs.sV:io K [78,111,84,101,120,116] (.ref z.iP) AT:=jp (by decide +kernel) z.w_NoText z.eO z.qS
theorem Fs.sU:io K [78,111,84,101,120,116] (.ref z.bF) AT:=jp (by decide +kernel) z.w_NoText z.eO z.qR
theorem Fs.vd:io K [78,111,84,101,120,116] (.ref z.cf) AT:=jp (by decide +kernel) z.w_NoText z.eO z.sM
theorem Fs.oK:io K [78,111,84,101,120,116] (.ref z.d!) AT:=jp (by decide +kernel) z.w_NoText z.eO z.ni
theorem Fs.sT:io K [78,111,84,101,120,116] (.ref z.bE) Da:=jp (by decide +kernel) z.w_NoText z.eO z.qQ
theorem Fs.pX:io K [78,111,84,101,120,116] (.ref z.fw) AT:=jp (by decide +kernel) z.w_NoText z.eO z.oF
theorem Fs.vc:io K [78,111,84,101,120,116] (.ref z.j?) AT:=jp (by decide +kernel) z.w_NoText z.eO z.sL
theorem Fs.nv:io K [78,111,84,101,120,116] (.type "ValueError") Da:=jp (by decide +kernel) z.w_NoText z.eO z.mn
theorem Fs.hC:ZS.tI K "Desk" z.cI:=⟨z.w_Desk,z.Pd⟩
theorem Fs.cU:ZS.Vt K "guests":=⟨z.cI,z.w_Desk,z.GN⟩
theorem Fs.zd:ZS.Vt K "hall":=⟨z.cI,z.w_Desk,z.NG⟩
theorem Fs.jX:ZS.Vt K "held":=⟨z.cI,z.w_Desk,z.NF⟩
theorem Fs.fC:ZS.Vt K "places":=⟨z.cI,z.w_Desk,z.GL⟩
theorem Fs.m_:ZS.HL K [78,111,78,97,109,101] z.cR:=ZS.yI (by decide +kernel) z.w_NoName z.nh
theorem Fs.n!:ZS.HL K [78,111,82,111,119] z.cR:=ZS.yI (by decide +kernel) z.w_NoRow z.og
theorem Fs.m?:ZS.HL K [78,111,84,101,120,116] z.cR:=ZS.yI (by decide +kernel) z.w_NoText z.ng
theorem Fs.Ed:ZS.Ac K "ask" "Desk.ask" (sH 87 2) ["self","group"]:=z.uk.df z.hC λ _ _ _ _ _ _=>li λ _ _=>rfl
theorem A9:dL P w K mg base "is_whole" 1 ["thing"] (KC.fm):=bK (N:=["thing"]) (z.CG.df z.X z.G λ _ _ _ _ _ _=>pc λ _=>rfl) λ nd hu hr=>(au<|aF<|oV (cE .int rfl z.aW aO rfl z.KZ Em ae)<|iX<|Lr<|cE .bool rfl z.aW aO rfl z.g_bool Pj ae)
theorem cn:dL P w K mg base "is_whole_within" 2 ["thing","least","most"] (KC.aZ):=bK (N:=["thing","least","most"]) (z.pj.df z.X z.G λ _ _ _ _ _ _=>wT λ _ _ _=>rfl) λ nd hu hr=>(au<|aF<|oV (ax (A9 z)<|ao aB av)<|iX<|B1 sK sK ae ae ae)
theorem k8:dL P w K mg base "is_letter" 1 ["text"] (KA.cN):=bK (N:=["text"]) (z.AE.df z.X z.G λ _ _ _ _ _ _=>pc λ _=>rfl) λ nd hu hr=>(au<|aF<|oV (cB (lv hu) (ag<|bN z.dY ae)<|ag ak)<|iX<|B1 sK sK (ag ai) ae<|ag ai)
theorem oA:dL P w K mg base "is_name" 2 ["thing"] (KS.bT):=bK (N:=["thing"]) (z.F!.df z.X z.G λ _ _ _ _ _ _=>pc λ _=>rfl) λ nd hu hr=>(ay (bu (Cm<|j7 (b7<|fJ<|cE .str rfl z.aW aO rfl z.iM mD ae)<|g9<|b7<|kM sK sK (ag ak) (ag<|bN z.dY ae)<|ag<|aK z.vR) (au<|aF gA) aP)<|au<|aF<|hJ z.mr<|eS<|bD (fK ae) (N':=["sign"])<|ax (k8 z)<|ao aB av)
theorem De:dL P w K mg base "is_kind" 2 ["thing"] (KS.lz):=bK (N:=["thing"]) (z.F?.df z.X z.G λ _ _ _ _ _ _=>pc λ _=>rfl) λ nd hu hr=>(au<|aF<|oV (cE .str rfl z.aW aO rfl z.iM mD ae)<|iX<|BZ (cB (lv hu) ae<|ag ai)<|iX<|ax (k8 z)<|ao aB av)
theorem pM:dL P w K mg base "is_amount" 3 ["thing","least"] (KS.eA):=bK (N:=["thing","least"]) (z.AG.df z.X z.G λ _ _ _ _ _ _=>li λ _ _=>rfl) λ nd hu hr=>(au<|aF<|ax (cn z)<|ao aB<|ao aB<|aQ (Ea (ag<|Ub (ag ak)<|ag ak)<|ag ak) av)
theorem Dc:dL P w K mg base "is_wish" 4 ["thing"] (KS.gm):=bK (N:=["thing"]) (z.F9.df z.X z.G λ _ _ _ _ _ _=>pc λ _=>rfl) λ nd hu hr=>(ay (bu (Cm<|j7 (b7<|fJ<|cE .tuple rfl z.aW aO rfl z.jc qi ae)<|g9<|aR (wf hu) (ag<|bN z.dY ae)<|ag ak) (au<|aF gA) aP)<|au<|aF<|oV (ax (cn z)<|bp (aH ae<|ag ak)<|aj ak<|ao (aK z.Ej) av)<|iX<|ax (pM z)<|bp (aH ae<|ag ak)<|aj ak av)
theorem wK:dL P w K mg base "are_wishes" 5 ["thing"] (KS.fX):=bK (N:=["thing"]) (z.yC.df z.X z.G λ _ _ _ _ _ _=>pc λ _=>rfl) λ nd hu hr=>(ay (bu (Cm<|j7 (b7<|fJ<|cE .tuple rfl z.aW aO rfl z.jc qi ae)<|g9<|b7<|fJ<|hJ z.mr<|eS<|bD (fK ae) (N':=["wish"])<|ax (Dc z)<|ao aB av) (au<|aF gA) aP)<|au<|aF<|hJ z.mr<|eS<|bD (BW<|fZ z.fD<|Ea (ag<|bN z.dY ae)<|ag ak) (N':=["k","thing"])<|cB wv (ag<|aH (ag<|aH ae ae)<|ag ak)<|ag<|aH (ag<|aH ae<|ag<|aE ae<|ag ak)<|ag ak)
theorem pN:dL P w K mg base "asks_for_seats" 3 ["parts"] (KS.dG):=bK (N:=["parts"]) (z.qt.df z.X z.G λ _ _ _ _ _ _=>pc λ _=>rfl) λ nd hu hr=>(ay (bu (b7<|fJ<|ax (cn z)<|bp (aH ae<|ag<|aK z.m4)<|aj ak<|ao (aK z.zV) av) (au<|aF gA) aP)<|ay (bu (b7<|fJ<|ax (cn z)<|bp (aH ae<|ag<|aK z.m5)<|aj ak<|ao (aK z.zW) av) (au<|aF gA) aP)<|ay (bu (b7<|fJ<|ax (cn z)<|bp (aH ae<|ag<|aK z.Eh)<|aj ak<|aQ (oU (ag<|aH ae<|ag<|aK z.m4)<|ag<|aH ae<|ag<|aK z.m5) av) (au<|aF gA) aP)<|au<|aF<|oV (ax (De z)<|bp (aH ae<|ag<|aK z.zX) av)<|iX<|ax (cn z)<|bp (aH ae<|ag<|aK z.FO)<|aj ak<|ao (aK z.Ei) av)
theorem me:dL P w K mg base "is_group" 6 ["thing"] (KS.d7):=bK (N:=["thing"]) (z.CH.df z.X z.G λ _ _ _ _ _ _=>pc λ _=>rfl) λ nd hu hr=>(ay (bu (Cm<|j7 (b7<|fJ<|cE .tuple rfl z.aW aO rfl z.jc qi ae)<|g9<|aR (wf hu) (ag<|bN z.dY ae)<|ag<|aK z.Pg) (au<|aF gA) aP)<|ay (bu (Cm<|j7 (b7<|fJ<|ax (oA z)<|bp (aH ae<|ag<|aK z.oX) av)<|g9<|b7<|fJ<|ax (pN z)<|ao aB av) (au<|aF gA) aP)<|au<|aF<|oV (ax (pM z)<|bp (aH ae<|ag<|aK z.zT)<|aj ak av)<|iX<|ax (wK z)<|bp (aH ae<|ag<|aK z.vQ) av)
theorem A6:dL P w K mg base "worth_in" 1 ["group","row"] (KB.j3):=bK (N:=["group","row"]) (z.CB.df z.X z.G λ _ _ _ _ _ _=>li λ _ _=>rfl) λ nd hu hr=>(au<|aF<|aE (ag<|aH ae<|ag<|aK z.zT)<|ag<|FI z.Qy<|eS<|bD (fK<|ag<|aH ae<|ag<|aK z.vQ) (N':=["wish","row"]) (aH ae<|ag ak) (ht:=(tK<|aR (lv hu) (ag<|aH ae<|ag ak) ae)))
theorem Dd:dL P w K mg base "is_sign" 2 ["text"] (KA.jG):=bK (N:=["text"]) (z.F'.df z.X z.G λ _ _ _ _ _ _=>pc λ _=>rfl) λ nd hu hr=>(au<|aF<|BZ (cB (ZS.Uq hu) ae<|ag<|cq<|aj ai<|aj ai<|aj ai av)<|iX<|ax (k8 z)<|ao aB av)
theorem GC:dL P w K mg base "is_row" 3 ["thing"] (KA.jk):=bK (N:=["thing"]) (z.Iw.df z.X z.G λ _ _ _ _ _ _=>pc λ _=>rfl) λ nd hu hr=>(ay (bu (Cm<|j7 (b7<|fJ<|cE .str rfl z.aW aO rfl z.iM mD ae)<|g9<|b7<|kM sK sK (ag ak) (ag<|bN z.dY ae)<|ag<|aK z.vT) (au<|aF gA) aP)<|au<|aF<|hJ z.mr<|eS<|bD (fK ae) (N':=["sign"])<|ax (Dd z)<|ao aB av)
theorem Df:dL P w K mg base "is_hall" 4 ["thing"] (KA.jH):=bK (N:=["thing"]) (z.F_.df z.X z.G λ _ _ _ _ _ _=>pc λ _=>rfl) λ nd hu hr=>(ay (bu (Cm<|j7 (b7<|fJ<|cE .tuple rfl z.aW aO rfl z.jc qi ae)<|g9<|b7<|kM sK sK (ag ak) (ag<|bN z.dY ae)<|ag<|aK z.B?) (au<|aF gA) aP)<|ay (bu (b7<|fJ<|hJ z.mr<|eS<|bD (fK ae) (N':=["row"])<|ax (GC z)<|ao aB av) (au<|aF gA) aP)<|au<|aF<|hJ z.mr<|eS<|bD (fK ae) (N':=["row","thing"])<|cB (lv hu) (ag<|bN z.dY ae)<|ag<|bN z.dY<|ag<|aH ae<|ag ak)
theorem C_:dL P w K mg base "sign_at" 1 ["hall","seat"] (KG.ly):=bK (N:=["hall","seat","row","column"]) (z.F7.df z.X z.G λ _ _ _ _ _ _=>li λ _ _=>rfl) λ nd hu hr=>(ay (aL<|aH ae<|ag ak)<|ay (aL<|aH ae<|ag ak)<|ay (bu (Cm<|Ld (kM sK wv (ag ak) ae<|ag<|bN z.dY ae)<|FG<|kM sK wv (ag ak) ae<|ag<|bN z.dY<|ag<|aH ae<|ag ak) (au<|aF<|aH (ag<|aH ae ae) ae) aP)<|au<|aF rA)
theorem JI:dL P w K mg base "takes" 1 ["sign","kind"] (KG.p6):=bK (N:=["sign","kind"]) (z.MC.df z.X z.G λ _ _ _ _ _ _=>li λ _ _=>rfl) λ nd hu hr=>(au<|aF<|BZ (cB (ZS.Uq hu) ae<|ag<|cq<|aj ai<|aj ai av)<|iX<|cB (lv hu) ae ae)
theorem A7:dL P w K mg base "seats_of" 1 ["group","place"] (KG.j4):=bK (N:=["group","place","seats","row"]) (z.CC.df z.X z.G λ _ _ _ _ _ _=>li λ _ _=>rfl) λ nd hu hr=>(ay (lD<|bo av)<|ay (eD (BS z.fD (aH ae<|ag ak)<|aE (ag<|aH ae<|ag ak)<|ag<|aH ae<|ag<|aK z.m5) dU<|au<|rq (i:=2) (pv 2)<|bD (BW<|BS z.fD (aH ae<|ag ak)<|aE (ag<|aH ae<|ag ak)<|ag<|aH ae<|ag<|aK z.m4) (N':=["column","row"])<|cq<|ao aB<|ao aB av)<|au<|aF<|kN z.jc ae)
theorem E9:dL P w K mg base "fits" 2 ["hall","group","place"] (KG.p7):=bK (N:=["hall","group","place","signs"]) (z.Rj.df z.X z.G λ _ _ _ _ _ _=>wT λ _ _ _=>rfl) λ nd hu hr=>(ay (OX (i:=3) rfl nd rfl (lo rfl) (fK<|ag<|ax (A7 z)<|ao aB<|ao aB av) (N':=["seat","hall"]) (n:=1) (is:=[0]) (ZS.FX.of (by kernel_rfl)) (ZS.vq (by decide)) (λ _ _ _ _ _ _=>dU) (λ _ _ _ _ _=>IB) λ _ _ _ _ _=>(ax (C_ z)<|ao aB<|ao aB av))<|ay (bu (b7<|fJ<|hJ z.mr<|eS<|bD (fK ae) (N':=["sign","group"])<|ax (JI z)<|ao aB<|bp (aH ae<|ag<|aK z.zX) av) (au<|aF gA) aP)<|au<|aF<|cB ZS.adh (ag<|Lw hu ae<|ag ai)<|ag<|aH ae<|ag<|aK z.Eh)
theorem pL:dL P w K mg base "places_of" 3 ["hall","group"] (KG.gU):=bK (N:=["hall","group","places","row"]) (z.Ay.df z.X z.G λ _ _ _ _ _ _=>li λ _ _=>rfl) λ nd hu hr=>(ay (lD<|bo av)<|ay (eD (fZ z.fD<|bN z.dY ae) dU<|au<|rq (i:=2) (pv 2)<|bD (BW<|fZ z.fD<|bN z.dY<|ag<|aH ae ae) (N':=["column","hall","group","row"]) (cq<|ao aB<|ao aB av) (ht:=(tK<|fJ<|ax (E9 z)<|ao aB<|ao aB<|jl (cq<|ao aB<|ao aB av) av)))<|au<|aF<|kN z.jc ae)
theorem JK:dL P w K mg base "apart" 1 ["one","here","other","there"] (KG.p8):=bK (N:=["one","here","other","there","gap"]) (z.MF.df z.X z.G λ _ _ _ _ _ _=>ZS.bd4 λ _ _ _ _=>rfl) λ nd hu hr=>(ay (bu (Cm<|j7 (aR sK (ag<|aE (ag<|aH ae<|ag ak)<|ag<|aH ae<|ag<|aK z.m5)<|ag<|aH ae<|ag ak)<|g9<|aR sK (ag<|aE (ag<|aH ae<|ag ak)<|ag<|aH ae<|ag<|aK z.m5)<|ag<|aH ae<|ag ak) (au<|aF gA) aP)<|ay (aL<|O6 rfl z.Qz LN (ag<|aH ae<|ag<|aK z.FO)<|ag<|aH ae<|ag<|aK z.FO)<|au<|aF<|BZ (cB sK (ag<|aE (ag<|aE (ag<|aH ae<|ag ak)<|ag<|aH ae<|ag<|aK z.m4) ae)<|ag<|aH ae<|ag ak)<|iX<|cB sK (ag<|aE (ag<|aE (ag<|aH ae<|ag ak)<|ag<|aH ae<|ag<|aK z.m4) ae)<|ag<|aH ae<|ag ak)
theorem gK:dL P w K mg base "those_that_sit" 1 ["groups","seating"] (KG.cD):=bK (N:=["groups","seating"]) (z.qr.df z.X z.G λ _ _ _ _ _ _=>li λ _ _=>rfl) λ nd hu hr=>(au<|aF<|iY<|bD (BW<|zJ z.KY aB aB) (N':=["group","place"]) (cq<|ao aB<|ao aB av) (ht:=(tK<|OU ae)) (hg:=(lF rfl (bO<|bO jf) rfl)) (hG:=(AAB (by decide))))
theorem jW:dL P w K mg base "apart_from_all" 2 ["group","place","seated"] (KG.dH):=bK (N:=["group","place","seated"]) (z.qv.df z.X z.G λ _ _ _ _ _ _=>wT λ _ _ _=>rfl) λ nd hu hr=>(au<|aF<|hJ z.mr<|eS<|bD (fK ae) (N':=["other","there","group","place"]) (ax (JK z)<|ao aB<|ao aB<|ao aB<|ao aB av) (hg:=(lF rfl (bO<|bO jf) rfl)) (hG:=(AAB (by decide))))
theorem JJ:dL P w K mg base "keeps" 3 ["hall","groups","seating"] (KG.mw):=bK (N:=["hall","groups","seating","seated"]) (z.MD.df z.X z.G λ _ _ _ _ _ _=>wT λ _ _ _=>rfl) λ nd hu hr=>(ay (aL<|ax (gK z)<|ao aB<|ao aB av)<|ay (bu (b7<|fJ<|hJ z.mr<|eS<|bD (fK ae) (N':=["group","place","hall"]) (ax (E9 z)<|ao aB<|ao aB<|ao aB av) (hg:=(lF rfl (bO<|bO jf) rfl)) (hG:=(AAB (by decide)))) (au<|aF gA) aP)<|au<|aF<|hJ z.mr<|eS<|bD (BW<|fZ z.fD<|bN z.dY ae) (N':=["k","seated"])<|ax (jW z)<|bp (aH (ag<|aH ae ae)<|ag ak)<|bp (aH (ag<|aH ae ae)<|ag ak)<|bp (iY<|vH ae x!<|sh ae) av)
theorem rW:dL P w K mg base "worth_of" 2 ["groups","seating"] (KB.dF):=bK (N:=["groups","seating"]) (z.CA.df z.X z.G λ _ _ _ _ _ _=>li λ _ _=>rfl) λ nd hu hr=>(au<|aF<|FI z.Qy<|eS<|bD (fK<|ag<|ax (gK z)<|ao aB<|ao aB av) (N':=["group","place"]) (ax (A6 z)<|ao aB<|bp (aH ae<|ag ak) av) (hg:=(lF rfl (bO<|bO jf) rfl)) (hG:=(AAB (by decide))))
theorem lQ:dL P w K mg base "fast_seating" 4 ["hall","groups","fast"] (KB.cg):=bK (N:=["hall","groups","fast","seating"]) (z.ug.df z.X z.G λ _ _ _ _ _ _=>wT λ _ _ _=>rfl) λ nd hu hr=>(ay (aL<|Lu (zG ae) (O5 (ag<|cq<|aj rA av)<|ag<|bN z.dY ae) aB)<|ay (bu (b7<|fJ<|ax (JJ z)<|ao aB<|ao aB<|ao aB av) (au gu) aP)<|au<|aF aB)
theorem Nt:ZS.Cg P w K mg base "ways" 5 ["hall","groups","fast"] (KB.tY):=LL (N:=["hall","groups","fast","many","group","place"]) (z.Ri.df z.X z.G (λ _ _ _ _ _ _ _ us hl=>match us,hl with| [_,_,_],_=>⟨_,rfl,rfl⟩) λ _ _ _ _ _ _ _ us hl=>match us,hl with| [_,_],_=>⟨_,rfl,rfl⟩) λ nd hu hr=>(ay (aL ak)<|ay (eD (zJ z.KY aB<|ax (lQ z)<|ao aB<|ao aB<|ao aB av) (lF rfl (bO<|bO jf) rfl)<|au<|bu (zG ae) (au<|OZ (i:=3) nd rfl (lo rfl)<|aE (ag<|bN z.dY<|ag<|ax (pL z)<|ao aB<|ao aB av)<|ag ak) aP)<|au<|aF aB)
theorem uI:dL P w K mg base "small_start" 6 ["hall","groups","fast"] (KB.gR):=bK (N:=["hall","groups","fast","many"]) (z.wm.df z.X z.G λ _ _ _ _ _ _=>wT λ _ _ _=>rfl) λ nd hu hr=>(ay (aL<|ax (Nt z).full<|ao aB<|ao aB<|ao aB av)<|ay (bu (aR ZS.Ur ae<|ag<|aK z.B!) (au gu) aP)<|au<|aF<|ax (lQ z)<|ao aB<|ao aB<|ao aB av)
theorem nH:dL P w K mg base "with_place" 1 ["seating","k","place"] (KH.dN):=bK (N:=["seating","k","place"]) (z.yw.df z.X z.G λ _ _ _ _ _ _=>wT λ _ _ _=>rfl) λ nd hu hr=>(au<|aF<|aE (ag<|aE (ag<|qc ae x!<|sh ae)<|ag<|cq<|ao aB av)<|ag<|qc ae (sh<|ag<|aE ae<|ag ak) x!)
theorem wH:dL P w K mg base "open_among" 3 ["places","group","seated"] (KH.fU):=bK (N:=["places","group","seated"]) (z.yA.df z.X z.G λ _ _ _ _ _ _=>wT λ _ _ _=>rfl) λ nd hu hr=>(au<|aF<|kN z.jc<|eS<|bD (fK ae) (N':=["place","group","seated"]) aB (ht:=(tK<|fJ<|ax (jW z)<|ao aB<|ao aB<|ao aB av)))
theorem qJ:dL P w K mg base "with_one_more" 4 ["hall","groups","seatings","k","some"] (KB.fE):=bK (N:=["hall","groups","seatings","k","some","places","wider","seating","seated"]) (z.sv.df z.X z.G λ _ _ _ _ _ _=>ZS.bd5 λ _ _ _ _ _=>rfl) λ nd hu hr=>(ay (aL<|ax (pL z)<|ao aB<|bp (aH ae ae) av)<|ay (lD<|bo av)<|ay (eD (vI aB) dU<|ay (aL<|ax (gK z)<|ao aB<|ao aB av)<|ay (rq (i:=6) (pv 6)<|bD (fK<|ag<|ax (wH z)<|ao aB<|bp (aH ae ae)<|ao aB av) (N':=["place","seating","k"])<|ax (nH z)<|ao aB<|ao aB<|ao aB av)<|au<|bu (fJ aB) (au<|zI (i:=6) (pv 6) aB) aP)<|zH (i:=6)<|au<|aF aB)
theorem qK:dL P w K mg base "seatings_from" 5 ["hall","groups","start","some"] (KB.fF):=bK (N:=["hall","groups","start","some","seatings","k"]) (z.sA.df z.X z.G λ _ _ _ _ _ _=>ZS.bd4 λ _ _ _ _=>rfl) λ nd hu hr=>(ay (aL<|iY<|bo<|ao aB av)<|ay (eD (fZ z.fD<|bN z.dY ae) dU<|au<|bu (zG<|ag<|aH ae ae) (au<|aL<|ax (qJ z)<|ao aB<|ao aB<|ao aB<|ao aB<|ao aB av) aP)<|au<|aF aB)
theorem wJ:dL P w K mg base "best_among" 5 ["groups","seatings"] (KB.fW):=YK (N:=["groups","seatings"]) (b:=KB.hV) (z.pq.1.df z.X z.G λ _ _ _ _ _ _=>li λ _ _=>rfl) nF (z.pq.lam z.X z.G) λ _ _ _ _ _ _ _ hl hr=>have nd:=nF.nd;have hu:=hr.units;have hrL:=λ env=>ZS.Jj (k:=2) (hr.mono (by decide)) env;(au<|aF<|zM (ZS.N! hl (by decide +kernel)) (ZS.RP hr) rfl z.Qz LN ae (N':=["seating","groups"]) (is:=[0]) (ZS.FX.of (by kernel_rfl)) rfl (λ _ _ _ _ _=>(ax (rW z) (ao aB<|ao aB av) (hr:=((hrL _).mono (by decide))))) λ _ _ _ _ _ _=>rfl)
theorem mf:ZS.Cg P w K mg base "best_of_all" 7 ["hall","groups","fast"] (KB.cY):=LL (N:=["hall","groups","fast","start"]) (z.wz.df z.X z.G (λ _ _ _ _ _ _ _ us hl=>match us,hl with| [_,_,_],_=>⟨_,rfl,rfl⟩) λ _ _ _ _ _ _ _ us hl=>match us,hl with| [_,_],_=>⟨_,rfl,rfl⟩) λ nd hu hr=>(ay (aL<|ax (uI z)<|ao aB<|ao aB<|ao aB av)<|au<|aF<|ax (wJ z)<|ao aB<|bc (ax (qK z)<|ao aB<|ao aB<|ao aB<|aj gA av) av)
theorem nI:dL P w K mg base "show_group" 1 ["group"] (KS.fT):=bK (N:=["group","words","word","part","wish"]) (z.yy.df z.X z.G λ _ _ _ _ _ _=>pc λ _=>rfl) λ nd hu hr=>(ay (lD<|bo<|bp (aH ae<|ag<|aK z.oX)<|aQ (aE (ag<|aE (ag<|g? z.iM<|ag<|aH ae<|ag<|aK z.m4)<|ag ai)<|ag<|g? z.iM<|ag<|aH ae<|ag<|aK z.m5) av)<|ay (bu (aR (wf hu) (ag<|aH ae<|ag<|aK z.zX)<|ag ai) (au<|rq (i:=1) (pv 1)<|bo<|aj ai<|bp (aH ae<|ag<|aK z.zX) av) aP)<|ay (eD (vI<|cq<|jl (cq<|aj ai<|ao (aK z.Eh) av)<|jl (cq<|aj ai<|ao (aK z.FO) av)<|jl (cq<|aj ai<|ao (aK z.zT) av) av) (lF rfl (bO<|bO jf) rfl)<|au<|bu (aR ZS.Ur (ag<|aH ae ae)<|ag ak) (au<|rq (i:=1) (pv 1)<|bo<|ao aB<|bc (g? z.iM<|ag<|aH ae ae) av) aP)<|ay (eD (vI<|aH ae<|ag<|aK z.vQ) dU<|au<|rq (i:=1) (pv 1)<|bo<|aj ai<|bc (g? z.iM<|ag<|aH ae<|ag ak)<|bc (g? z.iM<|ag<|aH ae<|ag ak) av)<|au<|aF<|zN ai ae)
theorem d_:dL P w K mg base "number_in" 1 ["word"] (KS.bg):=bK (N:=["word"]) (z.Az.df z.X z.G λ _ _ _ _ _ _=>pc λ _=>rfl) λ nd hu hr=>(ay (bu (Cm<|j7 (b7<|kM sK sK (ag ak) (ag<|bN z.dY ae)<|ag<|aK z.vS)<|g9<|b7<|fJ<|hJ z.mr<|eS<|bD (fK ae) (N':=["sign"])<|cB ZS.LM ae<|ag<|Lv rfl z.HE) (au<|aF rA) aP)<|au<|aF<|O7 rfl z.KZ Em ae)
theorem yX:dL P w K mg base "wishes_in" 2 ["words"] (KS.gQ):=bK (N:=["words"]) (z.Ax.df z.X z.G λ _ _ _ _ _ _=>pc λ _=>rfl) λ nd hu hr=>(au<|aF<|kN z.jc<|eS<|bD (BW<|T_ rfl z.fD ak (Ea (ag<|bN z.dY ae)<|ag ak) ak) (N':=["k","words"])<|cq<|bc (ax (d_ z)<|bp (aH ae<|ag<|aE ae<|ag ak) av)<|bc (ax (d_ z)<|bp (aH ae<|ag<|aE ae<|ag ak) av) av)
theorem A!:dL P w K mg base "group_in" 3 ["words"] (KS.j5):=bK (N:=["words","size","told","at","word"]) (z.CI.df z.X z.G λ _ _ _ _ _ _=>pc λ _=>rfl) λ nd hu hr=>(ay (aL<|zL (ag<|aH ae<|ag ak)<|ag ai)<|ay (YC (i:=2) nd rfl (lo rfl) (ZS.t7 (k:=[107,105,110,100]) (v:=[]) (by decide +kernel) (by decide +kernel)<|ZS.t7 (k:=[119,105,100,101]) (v:=[48]) (by decide +kernel) (by decide +kernel)<|ZS.t7 (k:=[103,97,112]) (v:=[48]) (by decide +kernel) (by decide +kernel)<|ZS.t7 (k:=[119,111,114,116,104]) (v:=[48]) (by decide +kernel) (by decide +kernel) ZS.Uk) (by decide +kernel) (by decide))<|ay (aL ak)<|ay (eD (vI<|cq<|aj ai<|aj ai<|aj ai<|aj ai av) dU<|au<|bu (Cm<|Ld (aR wv (ag<|aE ae<|ag ak)<|ag<|bN z.dY ae)<|FG<|aR (lv hu) (ag<|aH ae ae) ae) (ay (OW hu (i:=2) (pv 2) aB<|aH ae<|ag<|aE ae<|ag ak)<|au<|O0 (i:=3) nd rfl (lo rfl) ak) aP)<|au<|aF<|cq<|bp (aH ae<|ag ak)<|bc (ax (d_ z)<|bp (aH ae<|ag ak) av)<|bc (ax (d_ z)<|bp (aH ae<|ag ak) av)<|bp (t6 hu (i:=2) (pv 2) ai)<|bc (ax (d_ z)<|bp (t6 hu (i:=2) (pv 2) ai) av)<|bc (ax (d_ z)<|bp (t6 hu (i:=2) (pv 2) ai) av)<|bc (ax (d_ z)<|bp (t6 hu (i:=2) (pv 2) ai) av)<|bc (ax (yX z)<|bp (iY<|vH ae (sh ae) x!) av) av)
theorem uF:ZS.HN P w K mg base "read_group" 7 ["text"] fQ:=YJ (N:=["text","words","group"]) (z.yz.df z.X z.G λ _ _ _ _ _ _=>pc λ _=>rfl) λ nd hu hr=>(cJ (bu (b7<|fJ<|cE .str rfl z.aW aO rfl z.iM mD ae) (au gu) aP) (rL (b7<|fJ<|cE .str rfl z.aW aO rfl z.iM mD ae) (f?<|ky rfl rfl rfl (by decide +kernel) z.t? z.qo ai) jq)<|cJ (aL<|iY<|Li ae<|ag ai) xh<|cJ (bu (aR wv (ag<|bN z.dY ae)<|ag ak) (au gu) aP) (rL (aR wv (ag<|bN z.dY ae)<|ag ak) (f?<|ky rfl rfl rfl (by decide +kernel) z.t? z.qo ai) jq)<|cJ (aL<|ax (A! z)<|ao aB av) xh<|cJ (bu (Cm<|j7 (b7<|fJ<|ax (me z)<|ao aB av)<|g9<|aR (wf hu) (ag<|ax (nI z)<|ao aB av) ae) (au gu) aP) (rL (Cm<|j7 (b7<|fJ<|ax (me z)<|ao aB av)<|g9<|aR (wf hu) (ag<|ax (nI z)<|ao aB av) ae) (f?<|ky rfl rfl rfl (by decide +kernel) z.t? z.qo ai) jq) jq)
theorem uH:dL P w K mg base "without" 1 ["things","k"] (oQ):=bK (N:=["things","k"]) (z.F6.df z.X z.G λ _ _ _ _ _ _=>li λ _ _=>rfl) λ nd hu hr=>(au<|aF<|aE (ag<|qc ae x!<|sh ae)<|ag<|qc ae (sh<|ag<|aE ae<|ag ak) x!)
theorem eK:dL P w K mg base "show_place" 1 ["place"] (fS):=bK (N:=["place"]) (z.yx.df z.X z.G λ _ _ _ _ _ _=>pc λ _=>rfl) λ nd hu hr=>(au<|aF<|aE (ag<|aE (ag<|g? z.iM<|ag<|aH ae<|ag ak)<|ag ai)<|ag<|g? z.iM<|ag<|aH ae<|ag ak)
theorem y7:ZS.HP P w K mg base 5 ["self","hall"] 2 gZ:=Um (N:=["self","hall"]) rfl (z.AH.di z.hC z.NU z.Od λ _ _ _ _ _ _=>li λ _ _=>rfl) λ nd hu hr=>(bb (bW λ _=>(bu (b7<|fJ<|ax (Df z)<|ao aB av) (au gu) aP))<|bb (jz z.zd (pv 0) aB (by decide +kernel))<|bb (jz z.cU (pv 0) (cq av) (by decide +kernel))<|bb (jz z.jX (pv 0) (cq av) (by decide +kernel))<|gb<|jz z.fC (pv 0) (cq av) (by decide +kernel))
theorem dB:xz P w K mg base "number_of" 3 ["self","name"] [Da,AT] (bM):=rE rfl (N:=["self","name","k","guest"]) (z.kB.df z.hC λ _ _ _ _ _ _=>li λ _ _=>rfl) λ nd hu hr=>(ay (bu (fJ<|ax (oA z)<|ao aB av) (au<|eD (BU z.r?<|dh z.cU (cj<|pv 0) (by decide +kernel)) (lF rfl (bO<|bO jf) rfl)<|au<|bu (aR (lv hu) (ag<|aH ae<|ag<|aK z.oX) ae) (au<|aF aB) aP) aP)<|au gu)
theorem gg:AAA P w K mg base "number_of" 3 ["self","name"] [Da,AT] br:=rD rfl (N:=["self","name","k","guest"]) (z.kB.df z.hC λ _ _ _ _ _ _=>li λ _ _=>rfl) λ nd hu hr=>(cJ (bu (fJ<|ax (oA z)<|ao aB av) (au<|eD (BU z.r?<|dh z.cU (cj<|pv 0) (by decide +kernel)) (lF rfl (bO<|bO jf) rfl)<|au<|bu (aR (lv hu) (ag<|aH ae<|ag<|aK z.oX) ae) (au<|aF aB) aP) aP) xh<|f?<|ky rfl rfl rfl (by decide +kernel) z.Ij z.FZ ai)
theorem A_:AAC P w K mg base "ask" 8 ["self","group"] [Da,AT] 5 gz:=qh rfl (N:=["self","group","guests","held","places"]) (z.uk.df z.hC λ _ _ _ _ _ _=>li λ _ _=>rfl) λ nd hu hr=>(bb (bW λ _=>(bu (b7<|fJ<|ax (me z)<|ao aB av) (au gu) aP))<|bb (bW λ _=>(bu (aR (ZS.Uq hu) (ag<|aH ae<|ag<|aK z.oX)<|eS<|bD (fK<|ag<|dh z.cU (cj<|pv 0) (by decide +kernel)) (N':=["guest"])<|aH ae<|ag<|aK z.oX) (au gu) aP))<|bb (bW λ _=>(aL<|aE (ag<|dh z.cU (cj<|pv 0) (by decide +kernel))<|ag<|cq<|ao aB av))<|bb (bW λ _=>(bu (aR ZS.Ur (ag<|bN z.dY ae)<|ag<|aK z.xf) (au gu) aP))<|bb (bW λ _=>(aL<|aE (ag<|dh z.jX (cj<|pv 0) (by decide +kernel))<|ag<|cq<|aj rA av))<|bb (bW λ _=>(aL<|ax (mf z).full<|hU (dh z.zd (cj<|pv 0) (by decide +kernel))<|ao aB<|ao aB av))<|bb (bW λ _=>(bu (zG ae) (au gu) aP))<|bb (jz z.cU (pv 0) aB (by decide +kernel))<|bb (jz z.jX (pv 0) aB (by decide +kernel))<|bb (jz z.fC (pv 0) aB (by decide +kernel))<|gb<|bW λ _=>(aF<|aH ae<|ag<|Uc<|ag ak))
theorem y8:AAC P w K mg base "fast" 4 ["self","name"] [Da,AT] 3 je:=qh rfl (N:=["self","name","k"]) (z.rN.df z.hC λ _ _ _ _ _ _=>li λ _ _=>rfl) λ nd hu hr=>(bb (bW λ _=>(aL<|lH (dB z) (hr.mono (by decide)) (cj<|pv 0) (by decide +kernel)<|bA aB bY))<|gb<|jz z.jX (pv 0) (ax (nH z)<|hU (dh z.jX (cj<|pv 0) (by decide +kernel))<|ao aB<|bp (aH (ag<|dh z.fC (cj<|pv 0) (by decide +kernel)) ae) av) (by decide +kernel))
theorem wF:AAA P w K mg base "fast" 4 ["self","name"] [Da,AT] gN:=rD rfl (N:=["self","name","k"]) (z.rN.df z.hC λ _ _ _ _ _ _=>li λ _ _=>rfl) λ nd hu hr=>(cJ (aL<|lH (dB z) (hr.mono (by decide)) (cj<|pv 0) (by decide +kernel)<|bA aB bY) (Ic (i:=2) nd rfl (lo rfl)<|jR (gg z) (hr.mono (by decide)) (cj<|pv 0) (by decide +kernel)<|bA aB bY) jq)
theorem y9:AAC P w K mg base "away" 8 ["self","name"] [Da,AT] 3 p9:=qh rfl (N:=["self","name","k"]) (z.rO.df z.hC λ _ _ _ _ _ _=>li λ _ _=>rfl) λ nd hu hr=>(bb (bW λ _=>(aL<|lH (dB z) (hr.mono (by decide)) (cj<|pv 0) (by decide +kernel)<|bA aB bY))<|bb (jz z.cU (pv 0) (ax (uH z)<|hU (dh z.cU (cj<|pv 0) (by decide +kernel))<|ao aB av) (by decide +kernel))<|bb (jz z.jX (pv 0) (ax (uH z)<|hU (dh z.jX (cj<|pv 0) (by decide +kernel))<|ao aB av) (by decide +kernel))<|gb<|jz z.fC (pv 0) (ax (mf z).full<|hU (dh z.zd (cj<|pv 0) (by decide +kernel))<|hU (dh z.cU (cj<|pv 0) (by decide +kernel))<|hU (dh z.jX (cj<|pv 0) (by decide +kernel)) av) (by decide +kernel))
theorem wG:AAA P w K mg base "away" 8 ["self","name"] [Da,AT] gO:=rD rfl (N:=["self","name","k"]) (z.rO.df z.hC λ _ _ _ _ _ _=>li λ _ _=>rfl) λ nd hu hr=>(cJ (aL<|lH (dB z) (hr.mono (by decide)) (cj<|pv 0) (by decide +kernel)<|bA aB bY) (Ic (i:=2) nd rfl (lo rfl)<|jR (gg z) (hr.mono (by decide)) (cj<|pv 0) (by decide +kernel)<|bA aB bY) jq)
theorem nK:xz P w K mg base "where" 4 ["self","name"] [Da,AT] (kj):=rE rfl (N:=["self","name"]) (z.pw.df z.hC λ _ _ _ _ _ _=>li λ _ _=>rfl) λ nd hu hr=>(au<|aF<|aH (ag<|dh z.fC (cj<|pv 0) (by decide +kernel))<|ag<|lH (dB z) (hr.mono (by decide)) (cj<|pv 0) (by decide +kernel)<|bA aB bY)
theorem uG:AAA P w K mg base "where" 4 ["self","name"] [Da,AT] fR:=rD rfl (N:=["self","name"]) (z.pw.df z.hC λ _ _ _ _ _ _=>li λ _ _=>rfl) λ nd hu hr=>(f?<|yp<|Vy (ag<|dh z.fC (cj<|pv 0) (by decide +kernel))<|jR (gg z) (hr.mono (by decide)) (cj<|pv 0) (by decide +kernel)<|bA aB bY)
theorem iT:xz P w K mg base "at_hand" 1 ["self"] [Da] (bS):=rE rfl (N:=["self"]) (z.uj.df z.hC λ _ _ _ _ _ _=>pc λ _=>rfl) λ nd hu hr=>(au<|aF<|dh z.cU (cj<|pv 0) (by decide +kernel))
theorem iS:xz P w K mg base "seating" 1 ["self"] [Da] (bR):=rE rfl (N:=["self"]) (z.uh.df z.hC λ _ _ _ _ _ _=>pc λ _=>rfl) λ nd hu hr=>(au<|aF<|dh z.fC (cj<|pv 0) (by decide +kernel))
theorem nJ:xz P w K mg base "worth" 3 ["self"] [Da] (ki):=rE rfl (N:=["self"]) (z.yE.df z.hC λ _ _ _ _ _ _=>pc λ _=>rfl) λ nd hu hr=>(au<|aF<|ax (rW z)<|hU (dh z.cU (cj<|pv 0) (by decide +kernel))<|hU (dh z.fC (cj<|pv 0) (by decide +kernel)) av)
theorem kF:xz P w K mg base "show_all" 2 ["self"] [Da] (iu):=rE rfl (N:=["self"]) (z.sC.df z.hC λ _ _ _ _ _ _=>pc λ _=>rfl) λ nd hu hr=>(ay (bu (aR (lv hu) (ag<|dh z.cU (cj<|pv 0) (by decide +kernel))<|ag<|cq av) (au<|aF ai) aP)<|au<|aF<|zN ai<|eS<|bD (BW<|zJ z.KY (dh z.cU (cj<|pv 0) (by decide +kernel))<|dh z.fC (cj<|pv 0) (by decide +kernel)) (N':=["guest","place"]) (aE (ag<|aE (ag<|aH ae<|ag<|aK z.oX)<|ag ai)<|ag<|ax (eK z)<|ao aB av) (hg:=(lF rfl (bO<|bO jf) rfl)) (hG:=(AAB (by decide))))
theorem Dg:AAC P w K mg base "do" 9 ["self","word","rest"] [Da,AT,AT] 3 lA:=qh rfl (N:=["self","word","rest"]) (z.xn.df z.hC λ _ _ _ _ _ _=>wT λ _ _ _=>rfl) λ nd hu hr=>(bb (Fc (NO<|aR (lv hu) ae<|ag ai) (gb SI) zg)<|bb (bW λ _=>(bu (aR (lv hu) ae<|ag ai) (au<|aF<|ax (eK z)<|bc (lH (nK z) (hr.mono (by decide)) (cj<|pv 0) (by decide +kernel)<|bA aB bY) av) aP))<|bb (Fc (NO<|aR (lv hu) ae<|ag ai) (gb<|zj<|pQ (y8 z) (hr.mono (by decide)) (cj<|pv 0) (by decide +kernel) (by decide) (by decide)<|bA aB bY)<|gb<|zj<|pQ (y9 z) (hr.mono (by decide)) (cj<|pv 0) (by decide +kernel) (by decide) (by decide)<|bA aB bY)<|gb<|bW λ _=>(aF ai))
theorem A5:AAA P w K mg base "do" 9 ["self","word","rest"] [Da,AT,AT] fg:=rD rfl (N:=["self","word","rest"]) (z.xn.df z.hC λ _ _ _ _ _ _=>wT λ _ _ _=>rfl) λ nd hu hr=>(cJ (bu (aR (lv hu) ae<|ag ai) (au<|aF<|ax (eK z)<|bc zO av) aP) (rL (aR (lv hu) ae<|ag ai) (f?<|yp<|Ig (eK z) (hr.mono (by decide)) rfl<|Ii (Ie z.Ed (cj<|pv 0) (by decide +kernel)<|Ii (Mp (uF z) (hr.mono (by decide)) rfl<|ao aB av) av) av) jq)<|cJ (bu (aR (lv hu) ae<|ag ai) (au<|aF<|ax (eK z)<|bc (lH (nK z) (hr.mono (by decide)) (cj<|pv 0) (by decide +kernel)<|bA aB bY) av) aP) (rL (aR (lv hu) ae<|ag ai) (f?<|yp<|Ig (eK z) (hr.mono (by decide)) rfl<|Ii (jR (uG z) (hr.mono (by decide)) (cj<|pv 0) (by decide +kernel)<|bA aB bY) av) jq)<|cJ (bu (aR (lv hu) ae<|ag ai) (au<|FH zO)<|au<|FH zO) (rL (aR (lv hu) ae<|ag ai) (f?<|ED<|jR (wF z) (hr.mono (by decide)) (cj<|pv 0) (by decide +kernel)<|bA aB bY)<|f?<|ED<|jR (wG z) (hr.mono (by decide)) (cj<|pv 0) (by decide +kernel)<|bA aB bY) jq)
theorem A?:AAC P w K mg base "say" 10 ["self","row"] [Da,AT] 3 iN:=qh rfl (N:=["self","row","parts"]) (z.ui.df z.hC λ _ _ _ _ _ _=>li λ _ _=>rfl) λ nd hu hr=>(bb (bW λ _=>(bu (b7<|fJ<|cE .str rfl z.aW aO rfl z.iM mD ae) (au gu) aP))<|bb (bW λ _=>(bu (aR (lv hu) ae<|ag ai) (au<|aF<|f' (kF z) (hr.mono (by decide)) (cj<|pv 0) (by decide +kernel)) aP))<|bb (bW λ _=>(bu (aR (lv hu) ae<|ag ai) (au<|aF<|g? z.iM<|ag<|f' (nJ z) (hr.mono (by decide)) (cj<|pv 0) (by decide +kernel)) aP))<|bb (bW λ _=>(aL<|zL ae<|ag ai))<|bb (bW λ _=>(bu (Cm<|j7 (aR (ZS.zR hu) (ag<|aH ae<|ag ak)<|ag<|vK (ts:=[[97,115,107],[102,97,115,116],[97,119,97,121],[119,104,101,114,101]]) rfl z.zU z.yD)<|g9<|aR (lv hu) (ag<|aH ae<|ag ak)<|ag ai) (au gu) aP))<|gb<|J5<|pQ (Dg z) (hr.mono (by decide)) (cj<|pv 0) (by decide +kernel) (by decide) (by decide)<|bA (aH ae<|ag ak)<|bA (aH ae<|ag ak) bY)
theorem yW:AAA P w K mg base "say" 10 ["self","row"] [Da,AT] dE:=rD rfl (N:=["self","row","parts"]) (z.ui.df z.hC λ _ _ _ _ _ _=>li λ _ _=>rfl) λ nd hu hr=>(cJ (bu (b7<|fJ<|cE .str rfl z.aW aO rfl z.iM mD ae) (au gu) aP) (rL (b7<|fJ<|cE .str rfl z.aW aO rfl z.iM mD ae) (f?<|ky rfl rfl rfl (by decide +kernel) z.EH z.An ai) jq)<|cJ (bu (aR (lv hu) ae<|ag ai) (au<|aF<|f' (kF z) (hr.mono (by decide)) (cj<|pv 0) (by decide +kernel)) aP) xh<|cJ (bu (aR (lv hu) ae<|ag ai) (au<|aF<|g? z.iM<|ag<|f' (nJ z) (hr.mono (by decide)) (cj<|pv 0) (by decide +kernel)) aP) xh<|cJ (aL<|zL ae<|ag ai) xh<|cJ (bu (Cm<|j7 (aR (ZS.zR hu) (ag<|aH ae<|ag ak)<|ag<|vK (ts:=[[97,115,107],[102,97,115,116],[97,119,97,121],[119,104,101,114,101]]) rfl z.zU z.yD)<|g9<|aR (lv hu) (ag<|aH ae<|ag ak)<|ag ai) (au gu) aP) (rL (Cm<|j7 (aR (ZS.zR hu) (ag<|aH ae<|ag ak)<|ag<|vK (ts:=[[97,115,107],[102,97,115,116],[97,119,97,121],[119,104,101,114,101]]) rfl z.zU z.yD)<|g9<|aR (lv hu) (ag<|aH ae<|ag ak)<|ag ai) (f?<|ky rfl rfl rfl (by decide +kernel) z.EH z.An ai) jq)<|f?<|yp<|jR (A5 z) (hr.mono (by decide)) (cj<|pv 0) (by decide +kernel)<|bA (aH ae<|ag ak)<|bA (aH ae<|ag ak) bY)
theorem jv:dL P w K mg base "_law_cell_at" 1 ["_law_script","_law_k"] (KG.bh):=bK (N:=["_law_script","_law_k"]) (z.wy.df z.X z.G λ _ _ _ _ _ _=>li λ _ _=>rfl) λ nd hu hr=>(ay (bu (aR wv ae<|ag<|bN z.dY ae) (au<|aF<|aH ae ae) aP)<|au<|aF ak)
theorem yZ:dL P w K mg base "_law_mixed" 1 ["_law_cell","_law_many"] (cM):=bK (N:=["_law_cell","_law_many","_law_number","_law_found","_law_k"]) (z.AB.df z.X z.G λ _ _ _ _ _ _=>li λ _ _=>rfl) λ nd hu hr=>(ay (aL<|aE (ag ak)<|ag<|fL ae<|ag ak)<|ay (lD<|bo av)<|ay (eD (fZ z.fD aB) dU<|ay (aL<|fL (ag<|oU ae<|ag ak)<|ag ak)<|au<|zI (i:=3) (pv 3) aB)<|zH (i:=3)<|au<|aF aB)
theorem yY:dL P w K mg base "_law_names" 1 ["_law_cell","_law_many"] (gW):=bK (N:=["_law_cell","_law_many","_law_letters_here","_law_size","_law_at","_law_step","_law_names_here","_law_k","_law_name","_law_j","_law_turn"]) (z.AA.df z.X z.G λ _ _ _ _ _ _=>li λ _ _=>rfl) λ nd hu hr=>(ay (aL ai)<|ay (aL<|aE (ag ak)<|ag<|fL ae<|ag ak)<|ay (aL<|fL (ag<|jL ae<|ag ak) ae)<|ay (aL<|aH (eS<|bo<|aj ak<|aj ak<|aj ak<|aj ak<|aj ak<|aj ak av)<|ag<|fL (ag<|jL ae<|ag ak)<|ag ak)<|ay (lD<|bo av)<|ay (eD (fZ z.fD aB) dU<|ay (aL ai)<|ay (eD (fZ z.fD aB) dU<|ay (aL<|oU (ag<|oU ae ae)<|ag<|O8 rfl z.KZ Em<|ag<|cB (lv hu) ae ae)<|au<|aL<|aE ae<|ag<|aH ae<|ag<|fL (ag<|aE (ag<|jL ae<|ag<|aE (ag ak)<|ag<|oU (ag<|oU (ag ak) ae) ae) ae)<|ag ak)<|au<|zI (i:=6) (pv 6) aB)<|zH (i:=6)<|au<|aF aB)
theorem uL:dL P w K mg base "_law_letters" 1 ["_law_cell"] (b?):=bK (N:=["_law_cell","_law_letters_here"]) (z.wx.df z.X z.G λ _ _ _ _ _ _=>pc λ _=>rfl) λ nd hu hr=>(ay (aL ai)<|au<|aF<|aE (ag<|aH ae<|ag<|fL ae<|ag ak)<|ag<|aH ae<|ag<|fL (ag<|aE (ag<|aE ae<|ag ak)<|ag<|fL (ag<|jL ae<|ag ak)<|ag ak)<|ag ak)
theorem A8:dL P w K mg base "_law_hall" 2 ["_law_script"] (d6):=bK (N:=["_law_script","_law_first","_law_many","_law_columns","_law_signs","_law_rows","_law_r","_law_numbers"]) (z.CF.df z.X z.G λ _ _ _ _ _ _=>pc λ _=>rfl) λ nd hu hr=>(ay (aL<|ax (jv z)<|ao aB<|aj ak av)<|ay (aL<|aH (eS<|bo<|aj ak<|aj ak<|aj ak<|aj ak<|aj ak<|aj ak<|aj ak<|aj ak av)<|ag<|fL ae<|ag ak)<|ay (aL<|aH (eS<|bo<|aj ak<|aj ak<|aj ak<|aj ak<|aj ak<|aj ak<|aj ak<|aj ak av)<|ag<|fL (ag<|jL ae<|ag ak)<|ag ak)<|ay (aL<|aE (ag ai)<|ag<|ax (uL z)<|aQ (jL ae<|ag ak) av)<|ay (lD<|bo av)<|ay (eD (fZ z.fD aB) dU<|ay (aL<|ax (yZ z)<|aQ (aE (ag<|ax (jv z)<|ao aB<|aj ak av)<|ag<|oU (ag ak) ae)<|ao aB av)<|au<|zI (i:=5) (pv 5)<|zN ai<|eS<|bD (fK ae) (N':=["_law_number","_law_signs"])<|aH ae<|ag<|fL (ag<|jL ae<|ag ak)<|ag ak)<|au<|aF<|kN z.jc ae)
theorem y6:ZS.PU P w K mg base "_law_kinds" 1 ["_law_e"] (cw):=Up (N:=["_law_e","_law_found"]) (b:=iO) (z.AD.df z.X z.G λ _ _ _ _ _ _=>pc λ _=>rfl) pF rfl λ _ _ _ _ _ _ hr=>have nd:=pF.nd;(ay (aL<|iY<|bo<|bc (g_ rfl z.aW aO (pv 0) rfl z.NZ<|.cons z.wV<|.cons z.vd<|.cons z.vj .nil)<|bc (g_ rfl z.aW aO (pv 0) rfl z.J_<|.cons z.ve<|.cons z.sT<|.cons z.sX .nil)<|bc (g_ rfl z.aW aO (pv 0) rfl z.Ka<|.cons z.vf<|.cons z.sU<|.cons z.sY .nil)<|bc (g_ rfl z.aW aO (pv 0) rfl z.G2<|.cons z.sW<|.cons z.q!<|.cons z.q_ .nil) av)<|ay (aL<|iY<|g! ae<|eS<|bo<|bc (g_ rfl z.aW aO (pv 0) rfl z.Kb<|.cons z.vg<|.cons z.sV<|.cons z.sZ .nil)<|bc (g_ rfl z.aW aO (pv 0) rfl z.Bp<|.cons z.pY<|.cons z.oK<|.cons z.oN .nil)<|bc (g_ rfl z.aW aO (pv 0) rfl z.NY<|.cons z.wU<|.cons z.vc<|.cons z.vh .nil)<|bc (g_ rfl z.aW aO (pv 0) rfl z.SQ<|.cons z.zr<|.cons z.wR<|.cons z.wW .nil) av)<|au<|aF<|iY<|g! ae<|eS<|bo<|bc (g_ rfl z.aW aO (pv 0) rfl z.Ds<|.cons z.q?<|.cons z.pX<|.cons z.pZ .nil)<|Ue (Lr<|Ls rfl z.aW aO (pv 0) rfl z.zx xg<|.cons z.oM<|.cons z.nv<|.cons z.ny .nil) av)
theorem jV:ZS.HQ P w K mg base "_law_told" 11 ["_law_desk","_law_row"] [Da,AT] (bL):=Uo rfl (N:=["_law_desk","_law_row","_law_found","_law_e"]) (z.CD.df z.X z.G λ _ _ _ _ _ _=>li λ _ _=>rfl) λ nd hu hr=>(ay (aL rA)<|ay (OV (i:=3) rfl rfl rfl nd rfl (by kernel_rfl) rfl z.Bo z.Ao (ZS.qz z.n!<|ZS.qz z.m?<|ZS.qz z.m_ ZS.IS) (au<|aL zO) (λ _ _=>(Mo<|Q! (i:=2) nd rfl (lo rfl)<|jR (yW z) (hr.mono (by decide)) (cj<|pv 0) (by decide +kernel)<|bA aB bY)) λ _=>(au<|aL<|Ly (y6 z) (ZS.bB.han (hr.mono (by decide)) _) rfl<|pv 3))<|au<|aF aB)
theorem wI:dL P w K mg base "_law_no_row" 1 ["_law_cell","_law_name"] (fV):=bK (N:=["_law_cell","_law_name","_law_some"]) (z.yB.df z.X z.G λ _ _ _ _ _ _=>li λ _ _=>rfl) λ nd hu hr=>(ay (aL<|iY<|bo<|aj ai<|aj ai<|aj ai<|aj ai<|aj ai<|aQ (aE (ag ai) ae)<|aj ai<|aj ai<|aj ai<|aj ai<|aQ (aE (ag ai) ae)<|aj ai av)<|ay (aL<|iY<|g! ae<|eS<|bo<|aQ (aE (ag<|aE (ag ai) ae)<|ag ai)<|aQ (aE (ag<|aE (ag ai) ae)<|ag ai)<|aQ (aE (ag ai) ae)<|aQ (aE (ag ai) ae)<|aQ (aE ae<|ag ai) av)<|ay (aL<|iY<|g! ae<|eS<|bo<|aj ai<|aj ai av)<|ay (aL<|iY<|g! ae<|eS<|bo<|aj ai<|aQ (aE (ag ai) ae)<|aQ (aE (ag ai) ae)<|aQ (aE (ag ai) ae)<|aQ (aE (ag<|aE (ag ai) ae)<|ag ai)<|aj ai<|aj ai av)<|ay (aL<|iY<|g! ae<|eS<|bo<|aj rA<|aj ak<|aj gA<|Lz (iY<|bo av)<|jl (cq<|aj ai av)<|LC O! av)<|au<|aF<|aH ae<|ag<|fL ae<|ag<|bN z.dY ae)
theorem uJ:dL P w K mg base "_law_no_text" 1 ["_law_cell","_law_name"] (fh):=bK (N:=["_law_cell","_law_name","_law_some"]) (z.wq.df z.X z.G λ _ _ _ _ _ _=>li λ _ _=>rfl) λ nd hu hr=>(ay (aL<|iY<|bo<|aj ai<|aj ai<|ao aB<|aQ (aE ae<|ag ai)<|aQ (aE ae<|ag ai)<|aQ (aE ae<|ag ai)<|aQ (aE ae<|ag ai)<|aQ (aE (ag<|aE (ag ai) ae)<|ag ai) av)<|ay (aL<|iY<|g! ae<|eS<|bo<|aQ (aE ae<|ag ai)<|aQ (aE ae<|ag ai)<|aQ (aE ae<|ag ai)<|aQ (aE ae<|ag ai)<|aQ (aE ae<|ag ai) av)<|ay (aL<|iY<|g! ae<|eS<|bo<|aQ (aE ae<|ag ai)<|aQ (aE ae<|ag ai) av)<|ay (aL<|iY<|g! ae<|eS<|bo<|aQ (aE ae<|ag ai)<|aQ (aE ae<|ag ai)<|aQ (aE ae<|ag ai)<|aQ (aE ae<|ag ai)<|aj ai av)<|ay (aL<|iY<|g! ae<|eS<|bo<|aQ (aE ae<|ag ai)<|aQ (aE ae<|ag ai)<|aQ (aE ae<|ag ai)<|aQ (aE ae<|ag ai) av)<|ay (aL<|iY<|g! ae<|eS<|bo<|aQ (aE ae<|ag ai)<|aQ (aE ae<|ag ai)<|aQ (aE ae<|ag ai)<|aj ai<|aQ (aE ae<|ag ai) av)<|ay (aL<|iY<|g! ae<|eS<|bo<|aQ (aE (ag<|aE ae<|ag ai)<|ag<|Eb (ag ai)<|ag ak)<|aQ (aE ae<|ag ai)<|aQ (aE ae<|ag ai)<|aQ (aE ae<|ag ai) av)<|ay (aL<|iY<|g! ae<|eS<|bo<|aQ (aE (ag<|aE ae<|ag ai)<|ag<|Eb (ag ai)<|ag ak)<|aQ (aE (ag<|aE (ag<|aE ae<|ag ai)<|ag<|Eb (ag ai)<|ag ak)<|ag ai) av)<|au<|aF<|aH ae<|ag<|fL ae<|ag<|bN z.dY ae)
theorem uK:dL P w K mg base "_law_no_name" 1 ["_law_cell","_law_names_here"] (fi):=bK (N:=["_law_cell","_law_names_here","_law_word","_law_some"]) (z.wu.df z.X z.G λ _ _ _ _ _ _=>li λ _ _=>rfl) λ nd hu hr=>(ay (aL<|aH (eS<|bo<|aj ai<|aj ai<|aj ai av)<|ag<|fL (ag<|jL ae<|ag ak)<|ag ak)<|ay (aL<|iY<|bo<|aj ai<|aj ai<|aQ (aE (ag<|aH ae<|ag ak)<|ag ai)<|aQ (aE (ag ai)<|ag<|aH ae<|ag ak)<|bp (aH ae<|ag ak)<|aj ai<|aj ai<|aQ (aE (ag<|aH ae<|ag ak)<|ag ai)<|aj ai<|aj ai<|aj ai av)<|au<|aF<|aE ae<|ag<|aH ae<|ag<|fL ae<|ag ak)
theorem k6:dL P w K mg base "_law_due" 1 ["_law_number"] (cG):=bK (N:=["_law_number"]) (z.F8.df z.X z.G λ _ _ _ _ _ _=>pc λ _=>rfl) λ nd hu hr=>(au<|aF<|iY<|bD (BW<|fZ z.fD ak) (N':=["_law_k","_law_number"])<|cB (lv hu) ae ae)
theorem Sn{f:δ}{fd:υ}(F:Ez K "law" "law" (top 100) f fd):e6 P w K mg base jn 12 f fd ["_law_script"] (ZS.Ci K rh):=acL (N:=["_law_script","_law_hall_here","_law_names_here","_law_desk","_law_there","_law_before","_law_cell"]) F λ nd hu hr=>(ay (aL<|ax (A8 z)<|ao aB av)<|ay (aL<|ax (yY z)<|bc (ax (jv z)<|ao aB<|aj ak av)<|aj ak av)<|Ho (i:=3) (y7 z) (hr.mono (by decide)) rfl nd rfl (lo rfl) aB λ _ _=>(bb (bW λ _=>(aL<|BZ (cB ZS.LM (ag ai)<|ag<|B0 ai ae)<|iX<|cB ZS.LM (ag ai)<|ag<|B0 ai ae))<|bb (Fc (NO<|fJ aB) (gb<|zj<|pQ (A_ z) (hr.mono (by decide)) (cj<|pv 3) (by decide +kernel) (by decide) (by decide)<|bA (cq<|bp (aH ae<|ag ak)<|aj ak<|aj ak<|aj ai<|aj ak<|aj ak<|aj ak<|jl (cq av) av) bY) zg)<|bb (bW λ _=>(aL<|cq<|bc (f' (iT z) (hr.mono (by decide)) (cj<|pv 3) (by decide +kernel))<|bc (f' (iS z) (hr.mono (by decide)) (cj<|pv 3) (by decide +kernel)) av))<|bb (bW λ _=>(eD (vI<|iY<|g! (eS<|bo<|aj ak<|aj ak<|aj ak<|aj ak<|aj ak<|aj ak av)<|eS<|vH ae (sh<|ag ak)<|sh<|ag ak) dU<|ay (bu (aR (wf hu) (ag<|qe (jV z) (hr.mono (by decide)) rfl<|mY (cj<|pv 3)<|bA (ax (wI z)<|aQ (jL ae<|ag ak)<|bp (aH ae<|ag ak) av) bY)<|ag<|ax (k6 z)<|aj ak av) (au<|aF gA) aP)<|ay (bu (aR (wf hu) (ag<|qe (jV z) (hr.mono (by decide)) rfl<|mY (cj<|pv 3)<|bA (aE (ag ai)<|ag<|ax (uJ z)<|aQ (jL ae<|ag ak)<|bp (aH ae<|ag ak) av) bY)<|ag<|ax (k6 z)<|aj ak av) (au<|aF gA) aP)<|ay (bu (aR (wf hu) (ag<|qe (jV z) (hr.mono (by decide)) rfl<|mY (cj<|pv 3)<|bA (ax (uK z)<|aQ (jL ae<|ag ak)<|ao aB av) bY)<|ag<|ax (k6 z)<|aj ak av) (au<|aF gA) aP)<|au<|bu (aR (wf hu) (ag<|cq<|bc (f' (iT z) (hr.mono (by decide)) (cj<|pv 3) (by decide +kernel))<|bc (f' (iS z) (hr.mono (by decide)) (cj<|pv 3) (by decide +kernel)) av) ae) (au<|aF gA) aP))<|bb (Fc (NO<|fJ aB) (gb<|J5<|SK (NW (lv hu) (pQ (A? z) (hr.mono (by decide)) (cj<|pv 3) (by decide +kernel) (by decide) (by decide)<|bA (aE (ag ai)<|ag<|aH ae<|ag ak) bY) (Xk ai)<|uR _)<|SJ<|Xk<|cB (lv hu) (ag<|cq<|bc (f' (iT z) (hr.mono (by decide)) (cj<|pv 3) (by decide +kernel))<|bc (f' (iS z) (hr.mono (by decide)) (cj<|pv 3) (by decide +kernel)) av) ae) zg)<|gb<|bW λ _=>(aF<|cB (lv hu) (ag<|qe (jV z) (hr.mono (by decide)) rfl<|mY (cj<|pv 3)<|bA (aE (ag ai)<|ag<|aH ae<|ag ak) bY)<|ag<|ax (k6 z)<|aj ak av)))
end
theorem all_mk{l:AD1}{w:ξ}{K:Do}{h:μ}{mg:Str->ε ζ}{fa:δ}(He:mg "law"=AC (.ref fa))(z:Fs K mg h):
 ∃fd:υ,(∀(s:η)(v:ζ),BindsTo s fd ⟨[v],[]⟩ [("_law_script",v)])/\∀base:μ,K.In base->base.Ns mainGlobals mg->e6 l.prog w K mg base jn 12 fa fd ["_law_script"] (ZS.Ci K rh):=by
 obtain⟨fd,hb,F⟩:=z.VD.law z.X z.G He (x:="_law_script") λ _ _ _ _ _ _ _ _=>.of_eq rfl;exact⟨fd,hb,λ base _ _=>Sn z F⟩
theorem walk{l:AD1}{q:ο}{loose:γ Str}{XP:(Str->ε ζ)->μ->Prop}{YP:ξ->μ->Prop}{d:DefRec}{K:Params->Fa}(hn:l.most=AC 63)(hdf:d.params.defaults=[])
 (hY:∀(w:ξ)(h:μ),YP w h->(K w.params).In h)
 (F:∀ (w:ξ)(mg:Str->ε ζ)(fa:δ)(h:μ),(K w.params).In h->h.Ns mainGlobals mg->mg d.name=AC (.ref fa) ->
  ∃fd:υ,(∀(s:η)(u:ζ),BindsTo s fd ⟨[u],[]⟩ [("_law_script",u)])/\∀base:μ,(K w.params).In base->base.Ns mainGlobals mg->e6 l.prog w (K w.params) mg base jn 12 fa fd ["_law_script"] (ZS.Ci (K w.params) rh)) (hL:∀w:ξ,ZS.L5 q (K w.params)) :
 PySem.W.WalkO q loose XP YP l.row.toRowW d [] (λ f vs=>PySem.call f vs):=
 ZS.Ra (n:=63) (k:=12) (x:="_law_script") (m:=rh) hn (by decide) hdf ⟨rfl,by decide,by decide⟩ hY F hL holds
end HM
namespace HM
open PySem PySem.Spec PyProof.Rows L2
abbrev km0:String:="besideseats.plain"
abbrev Qo:String:="besideseats.groups"
abbrev Z?:String:="besideseats.halls"
abbrev Z!:String:="besideseats.places"
abbrev Xu:String:="besideseats.seatings"
abbrev S5:String:="besideseats.rooms"
abbrev km6:String:="besideseats.best"
abbrev km7:String:="besideseats.papers"
abbrev Xt:String:="besideseats.texts"
abbrev Fj:String:="besideseats.desk"
abbrev sJ:String:="law_besideseats_k86_rows_refused"
noncomputable def kd(P:Params)(n:String)(t:Nat)(v:ζ):DictEntry:={hash:=PyData.keyHash P<|Str.ofString n,key:=.str (Db n) t,val:=v}
noncomputable def kc(n:String)(t l:Nat)(a b c d e f g h i j:ζ)(u:Nat):ν:={cls:=.type "code",data:=.fields #[.str (Db n) t,.str (Db n) (t+1),.str (Db "/claim/cut.py") (t+2),.int l 0,a,.int 0 0,.int 0 0,b,c,.bool Da,d,e,f,g,h,i,j,.int l 0,.str (Db "/claim/cut.py") u]}
noncomputable def HW(n q:String)(t l:Nat)(a b c d e f g h i j:ζ)(u:Nat):ν:={cls:=.type "code",data:=.fields #[.str (Db n) t,.str (Db q) (t+1),.str (Db "/claim/cut.py") (t+2),.int l 0,a,.int 0 0,.int 0 0,b,c,.bool Da,d,e,f,g,h,i,j,.int l 0,.str (Db "/claim/cut.py") u]}
noncomputable def HV(n q:String)(s:θ)(m:String)(t c:Nat)(v:ζ:=.none):ν:={cls:=.type "function",data:=.func {name:=Db n,qualname:=Db q,params:=bI s,body:=.stmts<|aM s,scope:=ah s,globals:=3,closure:=[],defaults:=v,kwdefaults:=.none,pyModule:=.str (Db m) t,code:=.ref c}}
noncomputable def kf(n:String)(i:Nat)(m:String)(t c:Nat)(v:ζ:=.none):ν:={cls:=.type "function",data:=.func {name:=Db n,qualname:=Db n,params:=bI<|top i,body:=.stmts<|aM<|top i,scope:=ah<|top i,globals:=3,closure:=[],defaults:=v,kwdefaults:=.none,pyModule:=.str (Db m) t,code:=.ref c}}
noncomputable def k7(n:String)(t l i r j u:Nat):ν:=kc n t l (.int i 0) (.int 3 0) (.ref r) (.int 181 0) (.ref<|r+1) .none (.ref<|r+2) (.ref<|r+3) (.ref<|r+4) (.int j 0) u
noncomputable def k5(n:String)(t l i r j u:Nat):ν:=kc n t l (.int i 0) (.int 3 0) (.ref r) (.int 181 0) (.ref<|r+1) .none .none .none (.ref<|r+2) (.int j 0) u
noncomputable def KK(P:Params):Do:=(λ(_:Db "a"=Str.mk #[97])=>(nat_lit 3,{cls:=.type "dict",data:=.dict #[kd P "__name__" 165 (.str (Db "law_besideseats_k86_rows_refused") 905),kd P "__doc__" 166 .none,kd P "__package__" 167 .none,kd P "__loader__" 168 (.builtin "__main__.__loader__#opaque"),kd P "__spec__" 169 .none,kd P "__annotations__" 170 (.ref 6),kd P "__builtins__" 171 (.ref 4),kd P "__file__" 173 (.str (Db "/claim/cut.py") 172),kd P "__cached__" 174 .none,kd P "SeatError" 206 (.ref 24),kd P "NoHall" 222 (.ref 37),kd P "NoGroup" 238 (.ref 49),kd P "NoText" 254 (.ref 61),kd P "NoSeating" 270 (.ref 73),kd P "NoRow" 286 (.ref 85),kd P "NoName" 302 (.ref 97),kd P "Twice" 318 (.ref 109),kd P "Full" 343 (.ref 128),kd P "TooGreat" 370 (.ref 147),kd P "is_whole" 379 (.ref 156),kd P "is_whole_within" 388 (.ref 163),kd P "is_letter" 395 (.ref 170),kd P "NAME" 399 (.int 0 398),kd P "WIDTH" 401 (.int 1 400),kd P "DEPTH" 403 (.int 2 402),kd P "KIND" 405 (.int 3 404),kd P "WIDE" 407 (.int 4 406),kd P "GAP" 409 (.int 5 408),kd P "WORTH" 411 (.int 6 410),kd P "WISHES" 413 (.int 7 412),kd P "PARTS" 415 (.int 8 414),kd P "MOST_LETTERS" 417 (.int 8 416),kd P "MOST_WIDTH" 419 (.int 12 418),kd P "MOST_DEPTH" 421 (.int 3 420),kd P "MOST_GAP" 423 (.int 6 422),kd P "LAST_ROW" 425 (.int 5 424),kd P "is_name" 431 (.ref 175),kd P "is_kind" 438 (.ref 182),kd P "is_amount" 446 (.ref 189),kd P "is_wish" 453 (.ref 196),kd P "are_wishes" 459 (.ref 201),kd P "asks_for_seats" 466 (.ref 208),kd P "is_group" 473 (.ref 215),kd P "worth_in" 479 (.ref 220),kd P "MOST_ROWS" 483 (.int 6 482),kd P "MOST_COLUMNS" 485 (.int 12 484),kd P "is_sign" 492 (.ref 227),kd P "is_row" 498 (.ref 232),kd P "is_hall" 504 (.ref 237),kd P "sign_at" 514 (.ref 244),kd P "takes" 524 (.ref 251),kd P "seats_of" 530 (.ref 256),kd P "fits" 536 (.ref 261),kd P "places_of" 542 (.ref 266),kd P "apart" 555 (.ref 273),kd P "those_that_sit" 561 (.ref 278),kd P "apart_from_all" 567 (.ref 283),kd P "keeps" 573 (.ref 288),kd P "worth_of" 579 (.ref 293),kd P "MOST_WAYS" 583 (.int 2000 582),kd P "fast_seating" 593 (.ref 300),kd P "ways" 605 (.ref 308),kd P "small_start" 615 (.ref 315),kd P "with_place" 624 (.ref 322),kd P "open_among" 630 (.ref 327),kd P "with_one_more" 636 (.ref 332),kd P "seatings_from" 648 (.ref 339),kd P "first_of_all" 658 (.ref 347),kd P "best_among" 669 (.ref 354),kd P "best_of_all" 679 (.ref 362),kd P "all_places" 687 (.ref 367),kd P "spots_of" 697 (.ref 374),kd P "paper_beside" 703 (.ref 379),kd P "paper_of" 712 (.ref 387),kd P "FIGURES" 716 (.str (Db "0123456789") 715),kd P "MOST_FIGURES" 718 (.int 60 717),kd P "show_group" 729 (.ref 394),kd P "number_in" 735 (.ref 399),kd P "wishes_in" 741 (.ref 404),kd P "group_in" 752 (.ref 411),kd P "read_group" 761 (.ref 418),kd P "MOST_GUESTS" 765 (.int 6 764),kd P "WORDS" 770 (.ref 419),kd P "without" 778 (.ref 426),kd P "show_place" 785 (.ref 433),kd P "Desk" 904 (.ref 523),kd P "_law_cell_at" 914 (.ref 534),kd P "_law_mixed" 925 (.ref 541),kd P "_law_names" 942 (.ref 548),kd P "_law_letters" 950 (.ref 555),kd P "_law_hall" 956 (.ref 560),kd P "_law_kinds" 964 (.ref 567),kd P "_law_told" 974 (.ref 574),kd P "_law_no_row" 983 (.ref 581),kd P "_law_no_text" 992 (.ref 588),kd P "_law_no_name" 1002 (.ref 595),kd P "_law_due" 1008 (.ref 600),kd P "law" 1021 (.ref 607)] 98}) ::
 (nat_lit 23,{cls:=.type "dict",data:=.dict #[kd P "__module__" 196 (.str (Db "besideseats.errors") 187),kd P "__firstlineno__" 200 (.int 2 199),kd P "__static_attributes__" 201 (.ref 22),kd P "__weakref__" 203 (.ref 25),kd P "__doc__" 204 .none] 3}) ::
 (nat_lit 24,{cls:=.type "type",data:=.cls {name:=Db "SeatError",bases:=[.type "ValueError"],mro:=[.ref 24,.type "ValueError",.type "Exception",.type "BaseException",.type "object"],ns:=23,qualname:=Db "SeatError",subclasses:=[.ref 37,.ref 49,.ref 61,.ref 73,.ref 85,.ref 97,.ref 109,.ref 128,.ref 147]},slots:=#[AC (.ref 15),Ch,AC (.str (Db "SeatError") 189),AC (.str (Db "SeatError") 197),AC (.builtin "ValueError.__new__"),AC (.bool Da)]}) ::
 (nat_lit 36,{cls:=.type "dict",data:=.dict #[kd P "__module__" 214 (.str (Db "besideseats.errors") 187),kd P "__firstlineno__" 218 (.int 4 217),kd P "__static_attributes__" 219 (.ref 35),kd P "__doc__" 220 .none] 2}) ::
 (nat_lit 37,{cls:=.type "type",data:=.cls {name:=Db "NoHall",bases:=[.ref 24],mro:=[.ref 37,.ref 24,.type "ValueError",.type "Exception",.type "BaseException",.type "object"],ns:=36,qualname:=Db "NoHall"},slots:=#[AC (.ref 28),Ch,AC (.str (Db "NoHall") 207),AC (.str (Db "NoHall") 215),AC (.builtin "ValueError.__new__"),AC (.bool Da)]}) ::
 (nat_lit 48,{cls:=.type "dict",data:=.dict #[kd P "__module__" 230 (.str (Db "besideseats.errors") 187),kd P "__firstlineno__" 234 (.int 6 233),kd P "__static_attributes__" 235 (.ref 47),kd P "__doc__" 236 .none] 2}) ::
 (nat_lit 49,{cls:=.type "type",data:=.cls {name:=Db "NoGroup",bases:=[.ref 24],mro:=[.ref 49,.ref 24,.type "ValueError",.type "Exception",.type "BaseException",.type "object"],ns:=48,qualname:=Db "NoGroup"},slots:=#[AC (.ref 40),Ch,AC (.str (Db "NoGroup") 223),AC (.str (Db "NoGroup") 231),AC (.builtin "ValueError.__new__"),AC (.bool Da)]}) ::
 (nat_lit 60,{cls:=.type "dict",data:=.dict #[kd P "__module__" 246 (.str (Db "besideseats.errors") 187),kd P "__firstlineno__" 250 (.int 8 249),kd P "__static_attributes__" 251 (.ref 59),kd P "__doc__" 252 .none] 2}) ::
 (nat_lit 61,{cls:=.type "type",data:=.cls {name:=Db "NoText",bases:=[.ref 24],mro:=[.ref 61,.ref 24,.type "ValueError",.type "Exception",.type "BaseException",.type "object"],ns:=60,qualname:=Db "NoText"},slots:=#[AC (.ref 52),Ch,AC (.str (Db "NoText") 239),AC (.str (Db "NoText") 247),AC (.builtin "ValueError.__new__"),AC (.bool Da)]}) ::
 (nat_lit 72,{cls:=.type "dict",data:=.dict #[kd P "__module__" 262 (.str (Db "besideseats.errors") 187),kd P "__firstlineno__" 266 (.int 10 265),kd P "__static_attributes__" 267 (.ref 71),kd P "__doc__" 268 .none] 2}) ::
 (nat_lit 73,{cls:=.type "type",data:=.cls {name:=Db "NoSeating",bases:=[.ref 24],mro:=[.ref 73,.ref 24,.type "ValueError",.type "Exception",.type "BaseException",.type "object"],ns:=72,qualname:=Db "NoSeating"},slots:=#[AC (.ref 64),Ch,AC (.str (Db "NoSeating") 255),AC (.str (Db "NoSeating") 263),AC (.builtin "ValueError.__new__"),AC (.bool Da)]}) ::
 (nat_lit 84,{cls:=.type "dict",data:=.dict #[kd P "__module__" 278 (.str (Db "besideseats.errors") 187),kd P "__firstlineno__" 282 (.int 12 281),kd P "__static_attributes__" 283 (.ref 83),kd P "__doc__" 284 .none] 2}) ::
 (nat_lit 85,{cls:=.type "type",data:=.cls {name:=Db "NoRow",bases:=[.ref 24],mro:=[.ref 85,.ref 24,.type "ValueError",.type "Exception",.type "BaseException",.type "object"],ns:=84,qualname:=Db "NoRow"},slots:=#[AC (.ref 76),Ch,AC (.str (Db "NoRow") 271),AC (.str (Db "NoRow") 279),AC (.builtin "ValueError.__new__"),AC (.bool Da)]}) ::
 (nat_lit 96,{cls:=.type "dict",data:=.dict #[kd P "__module__" 294 (.str (Db "besideseats.errors") 187),kd P "__firstlineno__" 298 (.int 14 297),kd P "__static_attributes__" 299 (.ref 95),kd P "__doc__" 300 .none] 2}) ::
 (nat_lit 97,{cls:=.type "type",data:=.cls {name:=Db "NoName",bases:=[.ref 24],mro:=[.ref 97,.ref 24,.type "ValueError",.type "Exception",.type "BaseException",.type "object"],ns:=96,qualname:=Db "NoName"},slots:=#[AC (.ref 88),Ch,AC (.str (Db "NoName") 287),AC (.str (Db "NoName") 295),AC (.builtin "ValueError.__new__"),AC (.bool Da)]}) ::
 (nat_lit 108,{cls:=.type "dict",data:=.dict #[kd P "__module__" 310 (.str (Db "besideseats.errors") 187),kd P "__firstlineno__" 314 (.int 16 313),kd P "__static_attributes__" 315 (.ref 107),kd P "__doc__" 316 .none] 2}) ::
 (nat_lit 109,{cls:=.type "type",data:=.cls {name:=Db "Twice",bases:=[.ref 24],mro:=[.ref 109,.ref 24,.type "ValueError",.type "Exception",.type "BaseException",.type "object"],ns:=108,qualname:=Db "Twice"},slots:=#[AC (.ref 100),Ch,AC (.str (Db "Twice") 303),AC (.str (Db "Twice") 311),AC (.builtin "ValueError.__new__"),AC (.bool Da)]}) ::
 (nat_lit 127,{cls:=.type "dict",data:=.dict #[kd P "__module__" 326 (.str (Db "besideseats.errors") 187),kd P "__firstlineno__" 330 (.int 18 329),kd P "__init__" 338 (.ref 125),kd P "__static_attributes__" 340 (.ref 126),kd P "__doc__" 341 .none] 2}) ::
 (nat_lit 128,{cls:=.type "type",data:=.cls {name:=Db "Full",bases:=[.ref 24],mro:=[.ref 128,.ref 24,.type "ValueError",.type "Exception",.type "BaseException",.type "object"],ns:=127,qualname:=Db "Full"},slots:=#[AC (.ref 112),Ch,AC (.str (Db "Full") 319),AC (.str (Db "Full") 327),AC (.builtin "ValueError.__new__"),AC (.bool Da)]}) ::
 (nat_lit 146,{cls:=.type "dict",data:=.dict #[kd P "__module__" 351 (.str (Db "besideseats.errors") 187),kd P "__firstlineno__" 355 (.int 22 354),kd P "__init__" 364 (.ref 144),kd P "__static_attributes__" 367 (.ref 145),kd P "__doc__" 368 .none] 2}) ::
 (nat_lit 147,{cls:=.type "type",data:=.cls {name:=Db "TooGreat",bases:=[.ref 24],mro:=[.ref 147,.ref 24,.type "ValueError",.type "Exception",.type "BaseException",.type "object"],ns:=146,qualname:=Db "TooGreat"},slots:=#[AC (.ref 131),Ch,AC (.str (Db "TooGreat") 344),AC (.str (Db "TooGreat") 352),AC (.builtin "ValueError.__new__"),AC (.bool Da)]}) ::
 (nat_lit 155,k7 "is_whole" 373 28 1 150 377 378) ::
 (nat_lit 156,kf "is_whole" 12 km0 371 155) ::
 (nat_lit 162,k7 "is_whole_within" 380 30 3 157 386 387) ::
 (nat_lit 163,kf "is_whole_within" 13 km0 371 162) ::
 (nat_lit 169,k7 "is_letter" 389 32 1 164 393 394) ::
 (nat_lit 170,kf "is_letter" 14 km0 371 169) ::
 (nat_lit 174,k5 "is_name" 426 49 1 171 429 430) ::
 (nat_lit 175,kf "is_name" 30 Qo 396 174) ::
 (nat_lit 181,k7 "is_kind" 432 53 1 176 436 437) ::
 (nat_lit 182,kf "is_kind" 31 Qo 396 181) ::
 (nat_lit 188,k7 "is_amount" 439 55 2 183 444 445) ::
 (nat_lit 189,kf "is_amount" 32 Qo 396 188) ::
 (nat_lit 195,k7 "is_wish" 447 57 1 190 451 452) ::
 (nat_lit 196,kf "is_wish" 33 Qo 396 195) ::
 (nat_lit 200,k5 "are_wishes" 454 61 1 197 457 458) ::
 (nat_lit 201,kf "are_wishes" 34 Qo 396 200) ::
 (nat_lit 207,k7 "asks_for_seats" 460 65 1 202 464 465) ::
 (nat_lit 208,kf "asks_for_seats" 35 Qo 396 207) ::
 (nat_lit 214,k7 "is_group" 467 73 1 209 471 472) ::
 (nat_lit 215,kf "is_group" 36 Qo 396 214) ::
 (nat_lit 219,k5 "worth_in" 474 79 2 216 477 478) ::
 (nat_lit 220,kf "worth_in" 37 Qo 396 219) ::
 (nat_lit 226,k7 "is_sign" 486 84 1 221 490 491) ::
 (nat_lit 227,kf "is_sign" 41 Z? 480 226) ::
 (nat_lit 231,k5 "is_row" 493 86 1 228 496 497) ::
 (nat_lit 232,kf "is_row" 42 Z? 480 231) ::
 (nat_lit 236,k5 "is_hall" 499 90 1 233 502 503) ::
 (nat_lit 237,kf "is_hall" 43 Z? 480 236) ::
 (nat_lit 243,k7 "sign_at" 505 96 2 238 512 513) ::
 (nat_lit 244,kf "sign_at" 44 Z? 480 243) ::
 (nat_lit 250,k7 "takes" 517 103 2 245 522 523) ::
 (nat_lit 251,kf "takes" 46 Z! 515 250) ::
 (nat_lit 255,k5 "seats_of" 525 105 2 252 528 529) ::
 (nat_lit 256,kf "seats_of" 47 Z! 515 255) ::
 (nat_lit 260,k5 "fits" 531 110 3 257 534 535) ::
 (nat_lit 261,kf "fits" 48 Z! 515 260) ::
 (nat_lit 265,k5 "places_of" 537 115 2 262 540 541) ::
 (nat_lit 266,kf "places_of" 49 Z! 515 265) ::
 (nat_lit 272,k7 "apart" 545 121 4 267 553 554) ::
 (nat_lit 273,kf "apart" 51 Xu 543 272) ::
 (nat_lit 277,k5 "those_that_sit" 556 126 2 274 559 560) ::
 (nat_lit 278,kf "those_that_sit" 52 Xu 543 277) ::
 (nat_lit 282,k5 "apart_from_all" 562 128 3 279 565 566) ::
 (nat_lit 283,kf "apart_from_all" 53 Xu 543 282) ::
 (nat_lit 287,k5 "keeps" 568 130 3 284 571 572) ::
 (nat_lit 288,kf "keeps" 54 Xu 543 287) ::
 (nat_lit 292,k5 "worth_of" 574 135 2 289 577 578) ::
 (nat_lit 293,kf "worth_of" 55 Xu 543 292) ::
 (nat_lit 299,k7 "fast_seating" 584 139 3 294 591 592) ::
 (nat_lit 300,kf "fast_seating" 58 S5 580 299) ::
 (nat_lit 307,k7 "ways" 594 144 3 302 603 604) ::
 (nat_lit 308,kf "ways" 59 S5 580 307<|.ref 301) ::
 (nat_lit 314,k7 "small_start" 606 150 3 309 613 614) ::
 (nat_lit 315,kf "small_start" 60 S5 580 314) ::
 (nat_lit 321,k7 "with_place" 616 155 3 316 622 623) ::
 (nat_lit 322,kf "with_place" 61 S5 580 321) ::
 (nat_lit 326,k5 "open_among" 625 157 3 323 628 629) ::
 (nat_lit 327,kf "open_among" 62 S5 580 326) ::
 (nat_lit 331,k5 "with_one_more" 631 159 5 328 634 635) ::
 (nat_lit 332,kf "with_one_more" 63 S5 580 331) ::
 (nat_lit 338,k7 "seatings_from" 637 168 4 333 646 647) ::
 (nat_lit 339,kf "seatings_from" 64 S5 580 338) ::
 (nat_lit 346,k7 "first_of_all" 649 174 3 341 656 657) ::
 (nat_lit 353,k7 "best_among" 661 178 2 348 667 668) ::
 (nat_lit 354,kf "best_among" 67 km6 659 353) ::
 (nat_lit 361,k7 "best_of_all" 670 180 3 356 677 678) ::
 (nat_lit 362,kf "best_of_all" 68 km6 659 361<|.ref 355) ::
 (nat_lit 366,k5 "all_places" 682 184 2 363 685 686) ::
 (nat_lit 373,k7 "spots_of" 688 186 4 368 695 696) ::
 (nat_lit 378,k5 "paper_beside" 698 188 3 375 701 702) ::
 (nat_lit 379,kf "paper_beside" 72 km7 680 378) ::
 (nat_lit 386,k7 "paper_of" 704 196 3 381 710 711) ::
 (nat_lit 393,k7 "show_group" 719 203 1 388 727 728) ::
 (nat_lit 394,kf "show_group" 77 Xt 713 393) ::
 (nat_lit 398,k5 "number_in" 730 213 1 395 733 734) ::
 (nat_lit 399,kf "number_in" 78 Xt 713 398) ::
 (nat_lit 403,k5 "wishes_in" 736 217 1 400 739 740) ::
 (nat_lit 404,kf "wishes_in" 79 Xt 713 403) ::
 (nat_lit 410,k7 "group_in" 742 219 1 405 750 751) ::
 (nat_lit 411,kf "group_in" 80 Xt 713 410) ::
 (nat_lit 417,k7 "read_group" 753 228 1 412 759 760) ::
 (nat_lit 418,kf "read_group" 81 Xt 713 417) ::
 (nat_lit 425,k7 "without" 771 241 2 420 776 777) ::
 (nat_lit 426,kf "without" 85 Fj 762 425) ::
 (nat_lit 432,k7 "show_place" 779 243 1 427 783 784) ::
 (nat_lit 433,kf "show_place" 86 Fj 762 432) ::
 (nat_lit 446,HW "__init__" "Desk.__init__" 798 247 (.int 2 0) (.int 3 0) (.ref 441) (.int 181 0) (.ref 442) .none (.ref 443) (.ref 444) (.ref 445) (.int 803 0) 804) ::
 (nat_lit 447,HV "__init__" "Desk.__init__" (sH 87 0) Fj 762 446) ::
 (nat_lit 453,HW "number_of" "Desk.number_of" 806 255 (.int 2 0) (.int 3 0) (.ref 448) (.int 181 0) (.ref 449) .none (.ref 450) (.ref 451) (.ref 452) (.int 813 0) 814) ::
 (nat_lit 454,HV "number_of" "Desk.number_of" (sH 87 1) Fj 762 453) ::
 (nat_lit 458,HW "ask" "Desk.ask" 816 262 (.int 2 0) (.int 3 0) (.ref 455) (.int 181 0) (.ref 456) .none .none .none (.ref 457) (.int 819 0) 820) ::
 (nat_lit 459,HV "ask" "Desk.ask" (sH 87 2) Fj 762 458) ::
 (nat_lit 465,HW "fast" "Desk.fast" 822 279 (.int 2 0) (.int 3 0) (.ref 460) (.int 181 0) (.ref 461) .none (.ref 462) (.ref 463) (.ref 464) (.int 828 0) 829) ::
 (nat_lit 466,HV "fast" "Desk.fast" (sH 87 3) Fj 762 465) ::
 (nat_lit 472,HW "away" "Desk.away" 831 283 (.int 2 0) (.int 3 0) (.ref 467) (.int 181 0) (.ref 468) .none (.ref 469) (.ref 470) (.ref 471) (.int 837 0) 838) ::
 (nat_lit 473,HV "away" "Desk.away" (sH 87 4) Fj 762 472) ::
 (nat_lit 479,HW "where" "Desk.where" 840 289 (.int 2 0) (.int 3 0) (.ref 474) (.int 181 0) (.ref 475) .none (.ref 476) (.ref 477) (.ref 478) (.int 845 0) 846) ::
 (nat_lit 480,HV "where" "Desk.where" (sH 87 5) Fj 762 479) ::
 (nat_lit 486,HW "at_hand" "Desk.at_hand" 848 292 (.int 1 0) (.int 3 0) (.ref 481) (.int 181 0) (.ref 482) .none (.ref 483) (.ref 484) (.ref 485) (.int 852 0) 853) ::
 (nat_lit 487,HV "at_hand" "Desk.at_hand" (sH 87 6) Fj 762 486) ::
 (nat_lit 493,HW "seating" "Desk.seating" 855 295 (.int 1 0) (.int 3 0) (.ref 488) (.int 181 0) (.ref 489) .none (.ref 490) (.ref 491) (.ref 492) (.int 859 0) 860) ::
 (nat_lit 494,HV "seating" "Desk.seating" (sH 87 7) Fj 762 493) ::
 (nat_lit 500,HW "worth" "Desk.worth" 862 298 (.int 1 0) (.int 3 0) (.ref 495) (.int 181 0) (.ref 496) .none (.ref 497) (.ref 498) (.ref 499) (.int 866 0) 867) ::
 (nat_lit 501,HV "worth" "Desk.worth" (sH 87 8) Fj 762 500) ::
 (nat_lit 505,HW "show_all" "Desk.show_all" 869 301 (.int 1 0) (.int 3 0) (.ref 502) (.int 181 0) (.ref 503) .none .none .none (.ref 504) (.int 872 0) 873) ::
 (nat_lit 506,HV "show_all" "Desk.show_all" (sH 87 9) Fj 762 505) ::
 (nat_lit 512,HW "say" "Desk.say" 875 306 (.int 2 0) (.int 3 0) (.ref 507) (.int 181 0) (.ref 508) .none (.ref 509) (.ref 510) (.ref 511) (.int 881 0) 882) ::
 (nat_lit 513,HV "say" "Desk.say" (sH 87 10) Fj 762 512) ::
 (nat_lit 519,HW "do" "Desk.do" 884 318 (.int 3 0) (.int 3 0) (.ref 514) (.int 181 0) (.ref 515) .none (.ref 516) (.ref 517) (.ref 518) (.int 890 0) 891) ::
 (nat_lit 520,HV "do" "Desk.do" (sH 87 11) Fj 762 519) ::
 (nat_lit 522,{cls:=.type "dict",data:=.dict #[kd P "__module__" 793 (.str (Db "besideseats.desk") 762),kd P "__firstlineno__" 797 (.int 245 796),kd P "__init__" 805 (.ref 447),kd P "number_of" 815 (.ref 454),kd P "ask" 821 (.ref 459),kd P "fast" 830 (.ref 466),kd P "away" 839 (.ref 473),kd P "where" 847 (.ref 480),kd P "at_hand" 854 (.ref 487),kd P "seating" 861 (.ref 494),kd P "worth" 868 (.ref 501),kd P "show_all" 874 (.ref 506),kd P "say" 883 (.ref 513),kd P "do" 892 (.ref 520),kd P "__static_attributes__" 897 (.ref 521),kd P "__dict__" 899 (.ref 524),kd P "__weakref__" 901 (.ref 525),kd P "__doc__" 902 .none] 4}) ::
 (nat_lit 523,{cls:=.type "type",data:=.cls {name:=Db "Desk",bases:=[.type "object"],mro:=[.ref 523,.type "object"],ns:=522,qualname:=Db "Desk"},slots:=#[Ch,Ch,AC (.str (Db "Desk") 786),AC (.str (Db "Desk") 794),AC (.builtin "object.__new__"),AC (.bool Da)]}) ::
 (nat_lit 533,k7 "_law_cell_at" 907 329 2 528 912 913) ::
 (nat_lit 534,kf "_law_cell_at" 89 sJ 905 533) ::
 (nat_lit 540,k7 "_law_mixed" 915 333 2 535 923 924) ::
 (nat_lit 541,kf "_law_mixed" 90 sJ 905 540) ::
 (nat_lit 547,k7 "_law_names" 926 340 2 542 940 941) ::
 (nat_lit 548,kf "_law_names" 91 sJ 905 547) ::
 (nat_lit 554,k7 "_law_letters" 943 353 1 549 948 949) ::
 (nat_lit 555,kf "_law_letters" 92 sJ 905 554) ::
 (nat_lit 559,k5 "_law_hall" 951 356 1 556 954 955) ::
 (nat_lit 560,kf "_law_hall" 93 sJ 905 559) ::
 (nat_lit 566,k7 "_law_kinds" 957 366 1 561 962 963) ::
 (nat_lit 567,kf "_law_kinds" 94 sJ 905 566) ::
 (nat_lit 573,k7 "_law_told" 965 370 2 568 972 973) ::
 (nat_lit 574,kf "_law_told" 95 sJ 905 573) ::
 (nat_lit 580,k7 "_law_no_row" 975 377 2 575 981 982) ::
 (nat_lit 581,kf "_law_no_row" 96 sJ 905 580) ::
 (nat_lit 587,k7 "_law_no_text" 984 384 2 582 990 991) ::
 (nat_lit 588,kf "_law_no_text" 97 sJ 905 587) ::
 (nat_lit 594,k7 "_law_no_name" 993 394 2 589 1000 1001) ::
 (nat_lit 595,kf "_law_no_name" 98 sJ 905 594) ::
 (nat_lit 599,k5 "_law_due" 1003 398 1 596 1006 1007) ::
 (nat_lit 600,kf "_law_due" 99 sJ 905 599) ::
 (nat_lit 606,k7 "law" 1009 400 1 601 1019 1020) ::
 (nat_lit 607,kf "law" 100 sJ 905 606) ::
 (nat_lit 301,{cls:=.type "tuple",data:=.seq #[.none]}) ::
 (nat_lit 355,{cls:=.type "tuple",data:=.seq #[.none]}) ::
 (nat_lit 419,{cls:=.type "tuple",data:=.seq #[(.str (Db "ask") 766),(.str (Db "fast") 767),(.str (Db "away") 768),(.str (Db "where") 769)]})::[]) (by kernel_rfl)
def KA:γ δ:=[nat_lit 3,nat_lit 23,nat_lit 24,nat_lit 36,nat_lit 37,nat_lit 48,nat_lit 49,nat_lit 60,nat_lit 61,nat_lit 72,nat_lit 73,nat_lit 84,nat_lit 85,nat_lit 96,nat_lit 97,nat_lit 108,nat_lit 109,nat_lit 127,nat_lit 128,nat_lit 146,nat_lit 147,nat_lit 155,nat_lit 156,nat_lit 162,nat_lit 163,nat_lit 169,nat_lit 170,nat_lit 174,nat_lit 175,nat_lit 181,nat_lit 182,nat_lit 188,nat_lit 189,nat_lit 195,nat_lit 196,nat_lit 200,nat_lit 201,nat_lit 207,nat_lit 208,nat_lit 214,nat_lit 215,nat_lit 219,nat_lit 220,nat_lit 226,nat_lit 227,nat_lit 231,nat_lit 232,nat_lit 236,nat_lit 237,nat_lit 243,nat_lit 244,nat_lit 250,nat_lit 251,nat_lit 255,nat_lit 256,nat_lit 260,nat_lit 261,nat_lit 265,nat_lit 266,nat_lit 272,nat_lit 273,nat_lit 277,nat_lit 278,nat_lit 282,nat_lit 283,nat_lit 287,nat_lit 288,nat_lit 292,nat_lit 293,nat_lit 299,nat_lit 300,nat_lit 307,nat_lit 308,nat_lit 314,nat_lit 315,nat_lit 321,nat_lit 322,nat_lit 326,nat_lit 327,nat_lit 331,nat_lit 332,nat_lit 338,nat_lit 339,nat_lit 346,nat_lit 353,nat_lit 354,nat_lit 361,nat_lit 362,nat_lit 366,nat_lit 373,nat_lit 378,nat_lit 379,nat_lit 386,nat_lit 393,nat_lit 394,nat_lit 398,nat_lit 399,nat_lit 403,nat_lit 404,nat_lit 410,nat_lit 411,nat_lit 417,nat_lit 418,nat_lit 425,nat_lit 426,nat_lit 432,nat_lit 433,nat_lit 446,nat_lit 447,nat_lit 453,nat_lit 454,nat_lit 458,nat_lit 459,nat_lit 465,nat_lit 466,nat_lit 472,nat_lit 473,nat_lit 479,nat_lit 480,nat_lit 486,nat_lit 487,nat_lit 493,nat_lit 494,nat_lit 500,nat_lit 501,nat_lit 505,nat_lit 506,nat_lit 512,nat_lit 513,nat_lit 519,nat_lit 520,nat_lit 522,nat_lit 523,nat_lit 533,nat_lit 534,nat_lit 540,nat_lit 541,nat_lit 547,nat_lit 548,nat_lit 554,nat_lit 555,nat_lit 559,nat_lit 560,nat_lit 566,nat_lit 567,nat_lit 573,nat_lit 574,nat_lit 580,nat_lit 581,nat_lit 587,nat_lit 588,nat_lit 594,nat_lit 595,nat_lit 599,nat_lit 600,nat_lit 606,nat_lit 607,nat_lit 301,nat_lit 355,nat_lit 419]
end HM
namespace PySem.W.Fast
def tw16335057890206249511:=()
def tw18008093515938522644:=()
def tw13432600305130408378:=()
def tw13896079650739526004:=()
def tw6375988880960050540:=()
def tw812200880497659071:=()
def tw2752593396835205491:=()
def tw17621498768098723990:=()
def tw8294627201117093896:=()
def tw6762283294258973859:=()
def tw5205356309914607237:=()
def tw17656210134669423081:=()
def tw17066618251270101985:=()
def tw8191330466209930296:=()
def tw1407524751221675069:=()
def tw5997310204580059641:=()
def tw11293694868802000360:=()
def tw14755132910217950901:=()
def tw7476279069599132319:=()
def tw2958698361474973296:=()
def tw3174282289984345608:=()
def tw108221319299268832:=()
def tw7015238245706731843:=()
def tw8239676723049568687:=()
def tw7063404194105086312:=()
def tw13565580839941996515:=()
def tw11656891482896319329:=()
def tw1793461422529946551:=()
def tw13194053173321672421:=()
def tw6354697899330091048:=()
def tw7348515064844807666:=()
def tw17324502028805574577:=()
def tw8037975637585844793:=()
def tw2414694825379020845:=()
def tw4339233848421984686:=()
def tw12371983630085977532:=()
def tw10343158948748380624:=()
def tw6381832991628075943:=()
def tw6328907765469980924:=()
def tw2005741885968007811:=()
def tw7619009817627055521:=()
def tw17309366410246350179:=()
def tw1202534605500643186:=()
def tw2715426668947976715:=()
def tw11740985704160781763:=()
def tw9764732492310870827:=()
def tw14025395311233811509:=()
def tw16680654219952001732:=()
def tw1026062516628995976:=()
def tw16326743638862799551:=()
def tw15032228534487789888:=()
def tw17078163653681220993:=()
def tw3214496435034001786:=()
def tw15097904932856886039:=()
def tw6347101971354874029:=()
def tw1660596538241807742:=()
def tw11441801219844718812:=()
def tw14371305345690481463:=()
def tw1492517741878099375:=()
def tw5126108377842227589:=()
def tw14387699579349614997:=()
def tw2313297627607198317:=()
def tw4285849614111588601:=()
def tw2649525065840964113:=()
def tw2305840769561782468:=()
def tw7886429820355064067:=()
def tw10829527693903871636:=()
def tw8397458582088078415:=()
def tw5744050068691761351:=()
def tw14255519135619092265:=()
def tw3758672594531362357:=()
def tw4244629674505276484:=()
def tw16904854564049532711:=()
def tw13317391450636194630:=()
def tw17513129406260150117:=()
def tw17586481225073316710:=()
def tw5866063981325896652:=()
def tw14104564262838974538:=()
def tw17029122193121197848:=()
def tw14776298105842784815:=()
def tw7211052895009636782:=()
def tw13739165194890205011:=()
def tw15835501296368448568:=()
def tw11212839018612319094:=()
def tw5367097007352002974:=()
def tw664352941852574782:=()
def tw2842349481378226781:=()
def tw3768143178242087749:=()
def tw1522430860223563947:=()
def tw17201966971374546007:=()
def tw1932364497005002721:=()
def tw10513603180875966735:=()
def tw11214765871184125346:=()
def tw13538269262757058457:=()
def tw5415465301221270548:=()
def tw5443907239519875028:=()
def tw7256229907592562813:=()
def tw3755501796351322853:=()
def tw6950391012172163820:=()
def tw6896661582731817703:=()
def tw11599629925949471582:=()
def tw14350678284878298990:=()
def tw3118583638304883062:=()
def tw7206878564722690025:=()
def tw11179890056416348007:=()
def tw17786324643656438598:=()
def tw845277855047154426:=()
def tw152654822119533062:=()
def tw17105223392247163605:=()
def tw5579839698843617744:=()
def tw5724954773931595401:=()
def tw11772079895524990872:=()
def tw5092789862630071492:=()
def tw14700735246568516515:=()
def tw88632268812239393:=()
def tw2964243622419497063:=()
def tw17692236790587044936:=()
def tw9158540501774581054:=()
def tw3075794320099552737:=()
def tw18427820080195714144:=()
def tw8398240933831688515:=()
def tw3432978694135558382:=()
def tw1859470289669413062:=()
def tw8412668413113271634:=()
def tw14420623605992727603:=()
def tw6358634292737201893:=()
def tw2861254965989077047:=()
def tw9997116093904350042:=()
def tw11981580173253313075:=()
def tw2416601359175055775:=()
def tw3390183528993845205:=()
def tw14785068943229858946:=()
def tw2008741195940452141:=()
def tw7492268268952657005:=()
def tw13525103812424882054:=()
def tw12648400194873380837:=()
def tw6793186596493007542:=()
def tw5876181525522797249:=()
def tw941184744199802140:=()
def tw15278063536059283822:=()
def tw1113586530478248239:=()
def tw3179278066646993685:=()
def tw3422078226413898710:=()
def tw13933761199833912222:=()
def tw8411832301854295404:=()
def tw1261184184428773016:=()
def tw10482668482336511291:=()
def tw7714318523272347965:=()
def tw15316465801786447110:=()
def tw15358533811925423399:=()
def tw8741548880896674231:=()
def tw10961706775356876946:=()
def tw15290049117599368320:=()
def tw3905657381195735685:=()
def tw3531371557549040312:=()
def tw3277456844740262062:=()
def tw17225247852489956563:=()
def tw11296433504237857590:=()
def tw16013854673538838108:=()
def tw17777310231072980768:=()
def tw6956871635551697572:=()
def tw16193046688934560952:=()
def tw11383162836185197675:=()
def tw3422922494960446206:=()
def tw12505680998725672451:=()
def tw6573535195252329001:=()
def tw4420747562609493234:=()
def tw19743131057603888:=()
def tw584019297817526537:=()
def tw1061754607971745371:=()
def tw14320092160918192553:=()
def tw10860448569913216475:=()
def tw1923340409249036800:=()
def tw1895002457580051897:=()
def tw4237881801431641310:=()
def tw14908968957897595360:=()
def tw13956102847032167426:=()
def tw9975668860190482816:=()
def tw335549073221718346:=()
def tw11748869451926368609:=()
def tw8476787527710702897:=()
def tw14823328286734467235:=()
def tw1363410733776142977:=()
def tw1793445549706011401:=()
def tw14187002305454620084:=()
def tw13831041066570657550:=()
def tw2222487711373661392:=()
def tw9136215590502148117:=()
def tw13023772539516481092:=()
def tw7133589560397427369:=()
def tw6900468660643821397:=()
def tw4401284251248644577:=()
def tw9299765878689858004:=()
def tw8967790945687649507:=()
def tw139159059286952294:=()
def tw7650071774470336460:=()
def tw230031080584349653:=()
def tw1522933580685071307:=()
def tw10974369114365796746:=()
def tw5333494178544261795:=()
def tw2079942067947910973:=()
def tw15711702841054851672:=()
def tw7165053596157450392:=()
def tw2064049532631496930:=()
def tw1875043182160943141:=()
def tw11788466140417411101:=()
def tw13636404756433486476:=()
def tw16889038495034638909:=()
def tw3538011878743035424:=()
def tw17916496441196846504:=()
def tw2256501127013413664:=()
def tw8056412140506098602:=()
def tw10638757928122052716:=()
def tw14773148112919666820:=()
def tw17373330414758568168:=()
def tw10556024305243159889:=()
def tw9329082901154135371:=()
def tw6174817749582845714:=()
def tw8585814235108035228:=()
def tw16441846068995556999:=()
def tw17556367985782040857:=()
def tw5017261347262957537:=()
def tw14421161831644989283:=()
def tw5604637300668776800:=()
def tw7982464737686850155:=()
def tw8147283135537265371:=()
def tw18232247273785648375:=()
def tw7688054840334400037:=()
def tw4225013118182782141:=()
def tw6408608950468634256:=()
def tw13917575780748397909:=()
def tw16616165304825064069:=()
def tw1845108921052845537:=()
def tw3008593193153359748:=()
def tw8850105349904612220:=()
def tw8099042647801804852:=()
def tw4828173771027984296:=()
def tw11364336165359197338:=()
def tw14822573448428706464:=()
def tw11904054183078554226:=()
def tw15855133287557462215:=()
def tw8331972083812297371:=()
def tw14453726448997352794:=()
def tw14814928765267522257:=()
def tw8243448204754591025:=()
def tw18110957227659273269:=()
def tw8155212761535373921:=()
def tw7013502114646091407:=()
def tw16169058919736619097:=()
def tw4986510257292242144:=()
def tw12337888602046663763:=()
def tw1104137808606599069:=()
def tw14190140137620466424:=()
def tw10262475267804699362:=()
def tw2995809385051685382:=()
def tw3347046502459955352:=()
def tw8543817071304801257:=()
def tw12529777262110490365:=()
def tw9189081426368016126:=()
def tw4315849779935815625:=()
def tw15549872517374349614:=()
def tw6580205049481103203:=()
def tw12992936203552601368:=()
def tw1992748313440629205:=()
def tw12853315420871726503:=()
def tw4425856853026979593:=()
def tw6899975377674389608:=()
def tw3537999335013838132:=()
def tw6964858858085374065:=()
def tw15777206922530104799:=()
def tw10173361176433905870:=()
def tw7701274657012929619:=()
def tw17680491716857604185:=()
def tw17206419984115541654:=()
def tw14076550931192510064:=()
def tw4898615614917180914:=()
def tw7047009711793788011:=()
def tw16391523988365097424:=()
def tw1044385263479544888:=()
def tw11974423857361829224:=()
def tw13282888449681428809:=()
def tw15625134473663862828:=()
def tw18013021443603909777:=()
def tw8124062699627242192:=()
def tw17932460334617771941:=()
def tw178724176295377449:=()
def tw12018604793250567494:=()
def tw6062966321466042901:=()
def tw14994387948827413460:=()
def tw10274807503356790574:=()
def tw747739089680346757:=()
def tw7053374444492809647:=()
def tw2843207210226345769:=()
def tw11315742371451587115:=()
def tw14680957440815065107:=()
def tw2047742854606396198:=()
def tw4955109670856108152:=()
def tw9397704811082234817:=()
def tw13531259481259312408:=()
def tw16750033432125358835:=()
def tw9423103998292429644:=()
def tw18106950209570753268:=()
def tw806961785074724238:=()
def tw17374512566001071379:=()
def tw8744262430838287612:=()
def tw184429863397011904:=()
def tw16443720457480520466:=()
def tw3530168916563522542:=()
def tw11534854393499662339:=()
def tw11966316249389284950:=()
def tw13534492622083515865:=()
def tw18278712495560838997:=()
def tw4776801431455040234:=()
def tw15422529110062826725:=()
def tw15189361715674503104:=()
def tw14798796493484089153:=()
def tw11370195762728728256:=()
def tw12494507996939373042:=()
def tw4642320019473560631:=()
def tw16336338423577064426:=()
def tw17697890142368734456:=()
def tw6490847532045473078:=()
def tw10790320959550131372:=()
def tw4037086511429922587:=()
def tw541286985096929390:=()
def tw13183030690125000235:=()
def tw17214325056390576083:=()
def tw5230236425703057918:=()
def tw17622607408183636380:=()
def tw12708568861003442367:=()
def tw6343233065508416158:=()
def tw7127328441250267676:=()
def tw8660347823173699968:=()
def tw8854264963124762268:=()
def tw5699806179497081829:=()
def tw3142042235126919541:=()
def tw15302020182880820497:=()
def tw12416743683336018543:=()
def tw10279553478792452917:=()
def tw18407267048837323463:=()
def tw1343427090659156881:=()
def tw267172068455974685:=()
def tw302999834381833590:=()
def tw3392932620138863264:=()
def tw7755877081804518522:=()
def tw1635864184123090718:=()
def tw15744617988858141469:=()
def tw3444814213009606619:=()
def tw7297139322035730033:=()
def tw13954661185184161931:=()
def tw15814728656085403477:=()
def tw16298417429954506611:=()
def tw2951392149654198442:=()
def tw15642214758702258356:=()
def tw11397646120952258415:=()
def tw6972518265956987043:=()
def tw234624993860677885:=()
def tw16359937158555171059:=()
def tw271513007245449830:=()
def tw6496411553165154334:=()
def tw15243482737557300352:=()
def tw14492426222064842374:=()
def tw8872192931257249025:=()
def tw10822121760453352329:=()
def tw16650335716871803212:=()
def tw11575080582766462070:=()
def tw6635511256387796526:=()
def tw3158991901294112523:=()
def tw13949045307019842231:=()
def tw4156563721566511157:=()
def tw390745748135755685:=()
def tw1447404441607027747:=()
def tw15915029099085423530:=()
def tw1178272780828977853:=()
def tw16753209348519299220:=()
def tw6209827917548680883:=()
def tw11018784240804388788:=()
def tw16075824449457532327:=()
def tw14796350567441975045:=()
def tw15207443642563356115:=()
def tw14555684101370069499:=()
def tw8240980193481694636:=()
def tw10570583380675284654:=()
def tw9072998655707682534:=()
def tw743869708787063839:=()
def tw15182323224885374347:=()
def tw15875250557342543296:=()
def tw18204098238966541459:=()
def tw3758662267521147709:=()
def tw12633113931515872247:=()
def tw12694020880941862800:=()
def tw9254295426351963521:=()
def tw10262449059558476310:=()
def tw2426837532585195917:=()
def tw1764926158507254373:=()
def tw7871306760342682862:=()
def tw14422956785545889351:=()
def tw497567260577380793:=()
def tw14339253455198114521:=()
def tw4390090208369701108:=()
def tw1189393919688871876:=()
def tw6685140710966569795:=()
def tw13712330205624788721:=()
def tw10659839975577354276:=()
def tw2286531361036352810:=()
def tw12474323725624890869:=()
def tw13850894460779743482:=()
def tw6908399495554010356:=()
def tw13119134410910812908:=()
def tw4068279624916677978:=()
def tw8394881011542998169:=()
def tw11738146782899826896:=()
def tw5032317478369329315:=()
def tw9833609391813691088:=()
def tw14439886711214489362:=()
def tw3196219133071153264:=()
def tw8622845477655302461:=()
def tw1476469565401725726:=()
def tw15393879417268951778:=()
def tw4219292194657040846:=()
def tw2354644785778710833:=()
def tw3476520774507830294:=()
def tw4890946226158373980:=()
def tw6551412385397644564:=()
def tw17933796311652688592:=()
def tw13117067172110185460:=()
def tw7490592541450843998:=()
def tw11192988116038802125:=()
def tw6205679366985721628:=()
def tw8211262345083491667:=()
def tw11107075548466025985:=()
def tw1929033104111796259:=()
def tw1126579669500642591:=()
def tw13712995779055384159:=()
def tw5306999486532995283:=()
def tw9179495680337838715:=()
def tw1023257145868419623:=()
def tw1644867315220532443:=()
def tw14966884598557077283:=()
def tw15116641038591315591:=()
def tw10039002596196399138:=()
def tw1006721223073403406:=()
def tw10093561088569629423:=()
def tw10415419010759006119:=()
def tw10564469730535869919:=()
def tw10784679741621810712:=()
def tw10884182373393720617:=()
def tw10899966391104727840:=()
def tw10934375965444431151:=()
def tw10973496893021113486:=()
def tw11248650441890402637:=()
def tw1137987627136927714:=()
def tw1154068615362018455:=()
def tw11729952514586003851:=()
def tw11911047902591030805:=()
def tw119493195109219120:=()
def tw12115267991156702029:=()
def tw12149882018378403367:=()
def tw12173112940334986233:=()
def tw12188128402927165845:=()
def tw12265712363052026925:=()
def tw12366312446272008485:=()
def tw12431484439449541773:=()
def tw12480091884752513002:=()
def tw12492122626186874957:=()
def tw12680857428107191070:=()
def tw12887783791486119727:=()
def tw12906863118171369803:=()
def tw12913883710635186498:=()
def tw12971192271811347648:=()
def tw1310609559171008000:=()
def tw13277506380635588729:=()
def tw13396375044565397909:=()
def tw13420214127084995881:=()
def tw13453351999906341995:=()
def tw13568013684476501217:=()
def tw13693085280582404961:=()
def tw13776125267619172108:=()
def tw13814660915812328570:=()
def tw14229495244748324551:=()
def tw14455841148031016250:=()
def tw14623707935539636040:=()
def tw14784285350965900995:=()
def tw1500477247033227305:=()
def tw1501139305140143874:=()
def tw15253448093617416666:=()
def tw15762365332558257874:=()
def tw1576645136411810828:=()
def tw15927130458963030130:=()
def tw16500879547900119408:=()
def tw16521178284742384089:=()
def tw16612801556941751919:=()
def tw16894059338146539170:=()
def tw16899081658493681026:=()
def tw17063166442650056210:=()
def tw171099255391969000:=()
def tw1726975504096949552:=()
def tw17370510542099789192:=()
def tw17390563790233798574:=()
def tw17458023314882127145:=()
def tw17613146122059036165:=()
def tw177032984627553735:=()
def tw17705141788813743028:=()
def tw17813786084940245169:=()
def tw17961821308275221664:=()
def tw18007008699544248215:=()
def tw18338387066916889650:=()
def tw18691087110554918:=()
def tw2047535337396509272:=()
def tw2085224724558201546:=()
def tw249658834598000450:=()
def tw2811894428665472511:=()
def tw2818830454082769177:=()
def tw2829268906760616802:=()
def tw2913800048448854361:=()
def tw2981845422203615022:=()
def tw3033968988107902967:=()
def tw3114517229540315257:=()
def tw3249265033427358161:=()
def tw3691542983072185275:=()
def tw3789861605488475402:=()
def tw381189320231306942:=()
def tw4139074897948695838:=()
def tw4178292354015103625:=()
def tw4186259243035685605:=()
def tw438041129684609368:=()
def tw4851554420919968501:=()
def tw4911523877930405502:=()
def tw4931265268898234139:=()
def tw5016300854987684030:=()
def tw5035994338383349206:=()
def tw5185184606711992881:=()
def tw5189982369725854653:=()
def tw5583103719189122272:=()
def tw6083889242141927737:=()
def tw6099867934267233992:=()
def tw6155481627184553182:=()
def tw6170781603838587688:=()
def tw6286895673713914272:=()
def tw6311684364295468483:=()
def tw641738590261411352:=()
def tw6518499561847561934:=()
def tw6809081697687421000:=()
def tw6828272231976401844:=()
def tw730276817611746752:=()
def tw7352422800917248450:=()
def tw7398548906086500919:=()
def tw7456272073252347440:=()
def tw7634669691958678038:=()
def tw7649517484292147084:=()
def tw7667068447315799178:=()
def tw7872503890605678233:=()
def tw7878172005565654233:=()
def tw8057557159897393447:=()
def tw8136450629844591811:=()
def tw8231731342775275246:=()
def tw8368689807866842744:=()
def tw8411038230079295156:=()
def tw8654993033381605024:=()
def tw8752268342984179744:=()
def tw8764976152310491639:=()
def tw8950782217145117204:=()
def tw902037754739475757:=()
def tw9224665387709115245:=()
def tw9617865292158168892:=()
def tw9932196079829145203:=()
def tw996787281612437504:=()
end PySem.W.Fast
open PySem PySem.W PyProof.Rows
set_option maxRecDepth 100000 in
set_option maxHeartbeats 0 in
theorem PySem.Challenge.cw_besideseats_k86_rows_refused_holds : PySem.Challenge.rw_besideseats_k86_rows_refused.Holds := by
 w_on;o_law;o_head (PySem.W.kHook HM.KK HM.KA (λ _=>by kernel_rfl));(case hw=>w_witness2)
 k_fill
 refine HM.walk (l:=PySem.Challenge.rw_besideseats_k86_rows_refused) rfl rfl (λ w h Y=>PySem.W.kIn_of Y) ?F ?L
 case L=>
  intro w;refine' ZS.S3 (r1:=_) (r2:=_) ?n ?h1 ?h2 ?g1 ?g2 ?ne
  (case n=>kernel_rfl)
  (case h1=>refine' ZS.uo ?a1 ?l1 ?e1 ?tl1 ?tp1;(case a1=>k_is);(case l1=>k_is);(case e1=>exact rfl);(case tl1=>k_is);(case tp1=>exact rfl))
  (case g1=>exact .inr rfl)
  (case h2=>refine' ZS.uo ?a2 ?l2 ?e2 ?tl2 ?tp2;(case a2=>k_is);(case l2=>k_is);(case e2=>exact rfl);(case tl2=>k_is);(case tp2=>exact rfl))
  (case g2=>exact .inr rfl)
  (case ne=>exact λ c P c' P' e1 e2=>by first|(cases e1;done)|(cases e2;done)|(cases e1;cases e2;decide))
 case F=>
  intro w mg fa h KX G hmg;refine' HM.all_mk hmg ⟨KX,G,?_,?_,?_,?_,?_,?_,?_,?_,?_,?_,?_,?_,?_,?_,?_,?_,?_,?_,?_,?_,?_,?_,?_,?_,?_,?fw27,?_,?_,?_,?_,?_,?fw33,?fw34,?_,?_,?_,?_,?_,?_,?_,?fw42,?fw43,?fw44,?fw45,?fw46,?fw47,?fw48,?fw49,?fw50,?fw51,?fw52,?fw53,?_,?_,?_,?_,?_,?_,?_,?_,?_,?_,?_,?_,?_,?_,?_,?_,?_,?_,?_,?_,?_,?_,?_,?_,?_,?fw79,?fw80,?fw81,?fw82,?fw83,?fw84,?fw85,?fw86,?fw87,?fw88,?fw89,?fw90,?fw91,?fw92,?fw93,?fw94,?fw95,?fw96,?fw97,?fw98,?fw99,?fw100,?fw101,?fw102,?fw103,?fw104,?fw105,?fw106,?fw107,?fw108,?fw109,?fw110,?fw111,?fw112,?fw113,?fw114,?fw115,?fw116,?fw117,?fw118,?fw119,?fw120,?fw121,?fw122,?fw123,?fw124,?fw125,?fw126,?fw127,?fw128,?fw129,?fw130,?fw131,?fw132,?fw133,?fw134,?fw135,?fw136,?fw137,?fw138,?fw139,?fw140,?fw141,?fw142,?fw143,?fw144,?fw145,?fw146,?fw147,?fw148,?fw149,?fw150,?fw151,?fw152,?fw153,?fw154,?fw155,?fw156,?fw157,?fw158,?fw159,?fw160,?fw161,?fw162⟩
  (case fw79|fw80|fw82|fw83|fw84|fw85|fw86|fw87|fw88|fw89|fw90|fw91|fw92|fw93|fw94|fw95|fw96|fw97|fw98|fw99|fw101|fw102|fw103|fw104|fw105|fw106|fw107|fw108|fw109|fw110|fw111|fw112=>k_is)
  (case fw81|fw100=>first|rfl|kernel_rfl|decide +kernel)
  (case fw153=>refine' ⟨?_,?_,?_,?_⟩<;>kernel_rfl)
  (case fw120|fw121|fw122=>refine' ⟨?_,?_,?_,?_,?_,?_,?_⟩<;>kernel_rfl)
  (case fw113|fw114|fw115|fw116|fw117|fw118|fw119|fw123|fw124|fw125|fw126|fw127|fw128|fw129|fw130|fw131|fw132|fw133|fw134|fw135|fw136|fw137|fw138|fw139|fw140|fw141|fw142|fw143|fw144|fw145|fw146|fw147|fw148|fw149|fw150|fw151|fw152|fw154|fw155|fw156|fw157|fw158|fw159|fw160|fw161|fw162=>kernel_rfl)
  (case fw27|fw34=>refine' ZS.v!.mk' ?a ?l ?c ?k ?dq;(case a=>k_is);(case l=>k_is);(case c=>k_is);(case k=>k_is);(case dq=>k_is))
  (case fw42|fw43|fw44|fw45|fw46|fw47|fw48|fw49|fw50|fw51|fw52|fw53=>refine' ZS.h_.mk' ?a ?l ?c ?k ?i;(case a=>k_is);(case l=>k_is);(case c=>k_is);(case k=>k_is);(case i=>k_is))
  (case fw33=>refine' ZS.yo.mk' ?a ?l ?c ?k ?tl ?tp;(case a=>k_is);(case l=>k_is);(case c=>k_is);(case k=>k_is);(case tl=>k_is);(case tp=>exact rfl))
  all_goals first|k_is|(refine' ZS.ck.mk' ?a ?l ?c ?k;(case a=>k_is);(case l=>k_is);(case c=>k_is);(case k=>k_is))
#print axioms PySem.Challenge.cw_besideseats_k86_rows_refused_holds
