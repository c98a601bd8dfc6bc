import PyProof.Rows.All
import Wide.All
import OpenK.AllK
import Wide.FinOn
import Lean
import KE.KMinKey
import PyProof.WalkInts
import PyProof.SeqI3
import PyProof.Rows.CallKwBuiltin
import KE.KIsAll
import PyProof.StrBlock
import PyProof.Rows.StrLen
import KE.KIntText
import PyProof.StrLawsFirst
import PyProof.StrLawsIn
import PyProof.InstStoreFacts
import PyProof.EqAt
import PyProof.EqKinds
import PyProof.TupleCall
import KE.KLam
import PySem.Challenge.RW_besideseats_k82_asks_refused_in_order
set_option Elab.async false
set_option linter.all false
set_option maxRecDepth 100000
set_option genSizeOf false
set_option compiler.extract_closed false
set_option bootstrap.genMatcherCode false
noncomputable section
local macro_rules|`(command|omit $xs*)=>do return Lean.mkNullNode (<-xs.mapM λ x=>`(command|def $(Lean.mkIdent<|.mkSimple s!"tw{(`PySem.Challenge.cw_besideseats_k82_asks_refused_in_order_holds++x.raw.getId).hash}"):ident:=()))
set_option maxHeartbeats 4000000
local macro_rules|`(∅)=>`(by first|decide|lia|simp)
def pt:Nat->Lean.Syntax->Lean.MacroM (Lean.TSyntax `rcasesPat)
|n+1,s=>match s with
 |`(⟨$xs,*⟩)=>do let ys<-xs.getElems.mapM (λ x=>do `(Lean.Parser.Tactic.rcasesPatLo|$(<-pt n x):rcasesPat));`(rcasesPat|⟨$[$ys],*⟩)
 |`($i:ident)=>`(rcasesPat|$i:ident)
 |_=>`(rcasesPat|_)
|_,_=>Lean.Macro.throwUnsupported
local macro_rules|`(tactic|let $p:term:=$e)=>do `(tactic|obtain $(<-pt 9 p):rcasesPat:=$e)
open Option renaming some→AC,none→At,getD_none→AA9
open Bool renaming false→AT,true→Ch,or_eq_true→AB2,false_and→AC4
open PySem.Str renaming ofString→Da
open PySem.W renaming Frag→Db,kitOne→EQ,nsIn→Ev,keepIn→FS,findIn→Fa,Frag→Fk,mroIn→Ix,fnOf→KT,codeIn→No,tabIn→Op,emptyDict→Os,instObj→SC,plainGet→SZ,lookIn→UF,hasDictIn→Uf,makesIn→al,takerIn→bd,hideAll_none→ce,looks_findIn→ci,tabObj→cr,findObj_own→lm,codeRec_of→pc,isFn→xz,plainOver→zn,specialIn→AA0,handedIn→AB0,OpenLaw→AC3,CodeHd→AC7,excIn→AC8
open List renaming replicate→Do,range→FB,lookup→Gc,zipWith→ZB,flatMap_append→lc,getElem_of_mem→lf,map_inj_right→lw,filter_congr→wT,flatMap_cons→wf,getElem_take→wv,nodup_append→xL,cons_append→AA5,ext_getElem→AA6,getElem_set→AA7,zipIdx_cons→AA8,filter_map→AB7,foldl_cons→AB8,length_nil→AB9,length_set→AC0,zipIdx_nil→AC1,forIn_nil→AC6
open PySem renaming wpAny→FM,Within→AA1
open False renaming elim→GE
open PySem.Builtin.SmallTypes renaming nextOf→GM,ownedTupleIsFree→GT,ownedTupleHandOut→Re
open PySem.Heap renaming SameBut→Go,MadeExcOf→bv,get?_update_ne→jp,IsTuple→ul
open ForInStep renaming yield→IN
open PySem.Builtin.Builtins renaming bindParams→IR
open PySem.Builtin.Slice renaming slicePlaces→KF,sliceAdjust→Ps,sliceApplied→Tk
open PySem.Builtin.Tuple renaming tupleExact→NE,tupleItemsOf→Tl
open True renaming intro→On
open PySem.SeqAt renaming EqAt→PP,RcNeAt→SL,RcAt→UV
open PySem.Value renaming none→Pi,builtin→Wp
open PySem.Obj renaming mapFields→Rs
open PySem.W.WData renaming weightAll→Sc,weight→TW
open Array renaming toList→TD,toList_append→dL
open Sum renaming inr→WF,inl→ac
open Or renaming inr→nw,inl→AD0
abbrev γ:=@List
abbrev δ:=@PySem.Addr
abbrev ε:=@Option
abbrev ζ:=@PySem.Value
abbrev η:=@PySem.Shared
abbrev θ:=@PySem.Stmt
abbrev ι:=@PySem.Expr
abbrev μ:=@PySem.Obj
abbrev ν:=@PySem.Heap
abbrev ξ:=@PySem.World
abbrev ο:=@PySem.Program
abbrev π:=@PySem.Around
abbrev ς:=@PySem.Scope
abbrev τ:=@PySem.FuncData
abbrev υ:=@PySem.Keyword
def T0:=@PySem.wpAny_bind
def M2:=@PySem.wpAny_pure
def P3:=@if_neg
def v6:=@Nat.le_refl
def f8:=@if_pos
def A00:=@List.mem_cons
def A01:=@List.getElem?_eq_getElem
def A02:=@PySem.Heap.get?_push_of_some
def A03:=@PySem.Heap.lt_size
def A04:=@List.getElem?_eq_some_iff
def A05:=@List.mem_map
def A06:=@Option.some.inj
def A07:=@Ne.symm
def A08:=@List.getElem?_map
def A09:=@List.size_toArray
def A10:=@congrArg
def A11:=@List.mem_cons_of_mem
def A12:=@List.map_cons
def A13:=@List.mem_of_getElem?
def A14:=@Nat.ne_of_lt
def A15:=@PySem.W.mg_of
def A16:=@PySem.Heap.get?_push_size
def A17:=@List.length_map
def A18:=@List.mem_cons_self
def A19:=@List.not_mem_nil
def A20:=@Nat.lt_of_lt_of_le
def A21:=@PySem.wpAny_mono
def A22:=@List.mem_singleton
def A23:=@if_true
def A24:=@or_false
def A25:=@List.getElem?_append_left
def A26:=@List.length_take
def A27:=@Nat.le_trans
def A28:=@List.getElem?_set_ne
def A29:=@beq_iff_eq
def A30:=@List.all_eq_true
def A31:=@List.getElem?_set
def A32:=@List.mem_range
def A33:=@PySem.sizeLine_eq
def A34:=@PySem.wpAny_field
def A35:=@Bool.and_eq_true
def A36:=@List.map_map
def A37:=@decide_eq_false
def A38:=@List.length_cons
def A39:=@PySem.wpAny_holding
def A40:=@Bool.false_eq_true
def A41:=@List.getElem?_set_self
def A42:=@Nat.ne_of_gt
def A43:=@List.mem_append_right
def A44:=@List.getElem?_append_right
def A45:=@List.getElem?_replicate
def A46:=@PySem.wpAny_seqItems
def A47:=@PySem.W.mg_none_of
def A48:=@PySem.Heap.size_push
def A49:=@List.nodup_cons
def A50:=@of_decide_eq_true
def A51:=@List.lookup_cons
def A52:=@PySem.wpAny_tryCatch
def A53:=@List.mem_append
def A54:=@List.append_nil
def A55:=@List.length_append
def A56:=@decide_eq_true
def A57:=@beq_eq_false_iff_ne
def A58:=@Nat.lt_succ_self
def A59:=@PySem.wpAny_truthy_bool
def A60:=@PySem.wpAny_call
def A61:=@Nat.le_succ
def A62:=@PySem.Heap.get?_update_other
def A63:=@List.map_append
def A64:=@PySem.wpAny_letGo
def A65:=@List.mem_filter
def A66:=@PySem.mem_of_lookup
def A67:=@PySem.wpAny_newObj_type
def A68:=@List.map_nil
def A69:=@PySem.Obj.data_mapFields
def A70:=@Nat.le_of_lt
def A71:=@Nat.zero_le
def A72:=@PySem.codeAny_mono
def A73:=@PySem.wpAny_Call_Name_kw
def A74:=@List.range_succ
def A75:=@not_or
def A76:=@List.getElem?_of_mem
def A77:=@Option.map_some
def A78:=@Bool.eq_iff_iff
def A79:=@PySem.Heap.get?_update_self
def A80:=@Nat.one_mul
def A81:=@PySem.plainId_quiet
def A82:=@Nat.lt_irrefl
def A83:=@PySem.W.callWith_K
def A84:=@Option.isSome_iff_exists
def A85:=@List.length_replicate
def A86:=@if_false
def A87:=@PySem.call_meets
def A88:=@beq_self_eq_true
def A89:=@PySem.W.kia_one
def A90:=@List.drop_eq_getElem_cons
def A91:=@List.countP_cons
def A92:=@Nat.not_lt
def A93:=@Nat.zero_add
def A94:=@PySem.F.plain_max_loop
def A95:=@PySem.F.plain_min_loop
def A96:=@PySem.wpAny_loadPart_at
def A97:=@Nat.le_of_ble_eq_true
def A98:=@List.mem_append_left
def A99:=@PySem.wpAny_loadPart
def B00:=@PySem.wpAny_callSpecial?_slot
def B01:=@PyProof.Rows.slot_tuple_getitem
def B02:=@PySem.wpAny_call_entry
def B03:=@dif_pos
def B04:=@List.length_range
def B05:=@List.map_congr_left
def B06:=@PySem.wpAny_pyIter_tuple
def B07:=@PySem.wpAny_pyIter_list
def B08:=@PySem.wpAny_setField_rec
def B09:=@decide_eq_true_eq
def B10:=@PySem.codeAny_builtin
def B11:=@PySem.Around.under_plainId
def B12:=@PySem.wpAny_updateSeq
def B13:=@ci
def B14:=@Nat.mul_le_mul
def B15:=@List.length_filter_le
def B16:=@List.mem_flatMap
def B17:=@List.ext_getElem?
def B18:=@PySem.wpAny_passesOwn
def B19:=@Bool.false_ne_true
def B20:=@List.getElem?_take_of_lt
def B21:=@PyProof.Rows.callWith_type1
def B22:=@Bool.and_false
def B23:=@PySem.wpAny_rule
def B24:=@List.getElem?_eq_none
def B25:=@PySem.PassesOwn.never
def B26:=@List.lookup_cons_self
def B27:=@List.nodup_nil
def B28:=@and_true
def B29:=@not_false_eq_true
def B30:=@PySem.wpAny_attempt
def B31:=@Option.bind_some
def B32:=@Option.some.injEq
def B33:=@PySem.F.slot_tuple_mul
def B34:=@PySem.wpAny_ite_false
def B35:=@Nat.add_comm
def B36:=@Array.getElem?_eq_some_iff
def B37:=@List.getElem_mem
def B38:=@List.filter_eq_self
def B39:=@List.getD_eq_getElem?_getD
def B40:=@List.pairwise_map
def B41:=@List.filter_cons_of_neg
def B42:=@List.map_set
def B43:=@PySem.Heap.get?_none_of_le
def B44:=@PySem.wpAny_execs_nil
def B45:=@Int.mul_one
def B46:=@List.of_mem_zip
def B47:=@PySem.concat_meets
def B48:=@List.eq_nil_of_length_eq_zero
def B49:=@Bool.true_and
def B50:=@List.drop_length
def B51:=@List.forIn_cons
def B52:=@PySem.wpAny_standAt
def B53:=@Nat.lt_succ_of_lt
def B54:=@List.append_assoc
def B55:=@List.all_cons
def B56:=@List.cons.injEq
def B57:=@List.any_cons
def B59:=@List.sum_cons
def B60:=@List.take_length
def B61:=@PySem.F.slot_tuple_iterator_next
def B62:=@PySem.wpAny_setField
def B63:=@PySem.Obj.isFreed_of_fields
def B64:=@PySem.wpAny_pyIter_enum
def B65:=@PySem.wpAny_onRaise
def B66:=@PySem.F.slot_zip_next
def B67:=@Nat.min_eq_left
def B68:=@List.replicate_succ
def B69:=@List.nil_append
def B70:=@ce
def B71:=@PySem.W.looks_mroIn
def B72:=@PySem.F.excAttr_ValueError
def B73:=@Int.ofNat.inj
def B74:=@Nat.add_assoc
def B75:=@List.pairwise_iff_getElem
def B76:=@Int.toNat_of_nonneg
def B77:=@Nat.mul_le_mul_right
def B78:=@List.eq_of_mem_replicate
def B79:=@List.getElem?_inj
def B80:=@List.filterMap_cons
def B81:=@PySem.Calls.Name_function_global
def B82:=@Array.length_toList
def B83:=@List.mem_filterMap
def B84:=@PySem.W.plainGet_of
def B85:=@PySem.W.set_plain
def B86:=@PySem.W.Looks.here
def B87:=@PySem.W.looks_clsIn
def B89:=@PySem.wpAny_lookBehind
def B90:=@PySem.pastItsLine_dict
def B91:=@Nat.le_of_eq
def B92:=@PySem.plainObj_wpAny_Assign_Attribute
def B93:=@PySem.W.methodCall_KW
def B94:=@PySem.W.cellsFrom_some
def B95:=@PySem.Around.frames_deeper
def B96:=@PySem.wpAny_loadPart'
def B97:=@PySem.noFill_tuple_add
def B99:=@PySem.F.slot_tuple_add
def C00:=@PySem.F.entry_tuple_add
def C01:=@PySem.F.args_tuple_add_2
def C02:=@List.length_drop
def C04:=@List.getElem_range
def C05:=@PySem.SeqAt.EqAt.same
def C06:=@Bool.and_true
def C07:=@PySem.F.plainAttrs_list
def C08:=@List.take_add_one
def C09:=@Int.toNat_natCast
def C10:=@PySem.Obj.cls_mapFields
def C11:=@PySem.AutoSeq1.wpAny_loadPart'
def C13:=@Nat.succ_ne_self
def C14:=@PySem.wpAny_updateSeq_pair
def C15:=@PySem.wpAny_pyIter_zip
def C16:=@decide_false
def C17:=@PySem.F.entry_tuple_mul
def C18:=@PySem.F.args_tuple_mul_2
def C19:=@PySem.F.entry_max_loop
def C20:=@PySem.F.entry_min_loop
def C21:=@Bool.not_eq_true'
def C22:=@PySem.codeAny_call_builtin
def C23:=@List.contains_cons
def C24:=@Bool.or_true
def C25:=@PySem.wpAny_isSubtype_exc
def C26:=@Prod.mk.injEq
def C27:=@Nat.succ_mul
def C28:=@List.pairwise_cons
def C29:=@List.set_append_right
def C30:=@Classical.byContradiction
def C31:=@List.countP_append
def C34:=@PySem.wpAny_newFunctionEnv_cells
def C35:=@List.cons_lt_cons_iff
def C36:=@List.set_eq_of_length_le
def C37:=@List.range_succ_eq_map
def C38:=@PySem.F.entry_tuple_iterator_next
def C39:=@PySem.F.args_tuple_iterator_next_1
def C40:=@List.getElem?_cons_zero
def C41:=@List.drop_eq_nil_of_le
def C42:=@PySem.F.excBase_ValueError
def C43:=@List.pairwise_lt_range
def C44:=@List.filter_cons_of_pos
def C45:=@List.take_append_drop
def C46:=@Option.map_eq_some_iff
def C47:=@List.set_getElem_self
def C48:=@List.Pairwise.imp_of_mem
def C49:=@List.mem_or_eq_of_mem_set
section S0
open PySem PySem.Spec PyProof.Rows
namespace L2
abbrev Se(a:ι)(es:γ ι)(E:PySem.Env):Prop:=starEach (a::es) E=(AT,eval a E)::starEach es E
abbrev Nd(x:Str):Prop:=(x==("__debug__":Str))=AT
abbrev Pn(p:Pos)(es:γ ι)(E:PySem.Env):Prop:=(backTo p<|starEach es E).any (·.1)=AT
end L2
open L2 (Se Nd Pn)
namespace L2
abbrev Key:=Sum Int Str
def Pp:Key->ζ->Bool
|.inl k,v=>Value.isInt k v
|.inr x,v=>Value.isStrOf x v
def Z_(w:ξ):Key->Int
|.inl k=>hashInt k
|.inr x=>hashStr w x
theorem dF:∀{k}{v},Pp k v=Ch->(∃i t,k=ac i/\v=Value.int i t)\/(∃x t,k=WF x/\v=Value.str x t)
|.inl i,v,h=>by let⟨t,e⟩:=Value.isInt_shape h;exact .inl ⟨i,t,rfl,e⟩
|.inr x,v,h=>by let⟨t,e⟩:=Value.isStrOf_shape h;exact .inr ⟨x,t,rfl,e⟩
theorem RA(a b:Int):decide ((ac a:Key)=ac b)=(a==b):=by
 by_cases e:a=b
 .subst e;simp
 .have h:¬(ac a:Key)=ac b:=λ q=>e<|Sum.inl.inj q;rw[A37 h];exact(A57.mpr e).symm
theorem Rx(a b:Str):decide ((WF a:Key)=WF b)=decide (a=b):=by
 by_cases e:a=b
 .subst e;simp
 .have h:¬(WF a:Key)=WF b:=λ q=>e<|Sum.inr.inj q;rw[A37 h,A37 e]
theorem Rz(a:Int)(b:Str):decide ((ac a)=WF b)=AT:=A37 λ q=>nomatch q
theorem Ry(a:Str)(b:Int):decide ((WF a)=ac b)=AT:=A37 λ q=>nomatch q
def Fn(prog:ο)(w:ξ):PySem.KeyKind prog w Key where
 is:=Pp
 hash:=Z_ w
 inj:=λ v a b ha hb=>by
  rcases dF ha with⟨i,t,rfl,rfl⟩|⟨x,t,rfl,rfl⟩
  .rcases dF hb with⟨j,u,rfl,e⟩|⟨y,u,rfl,e⟩
   .injection e with e1 _;rw[e1]
   .exact nomatch e
  .rcases dF hb with⟨j,u,rfl,e⟩|⟨y,u,rfl,e⟩
   .exact nomatch e
   .injection e with e1 _;rw[e1]
 byValue:=λ k v h=>by rcases dF h with⟨i,t,rfl,rfl⟩|⟨x,t,rfl,rfl⟩<;>rfl
 pyHash:=λ hv h=>by
  rcases dF hv with⟨i,t,rfl,rfl⟩|⟨x,t,rfl,rfl⟩
  .exact wpAny_pyHash_int h
  .exact wpAny_pyHash_str h
 eqBool:=λ hu hv h=>by
  rcases dF hu with⟨i,t,rfl,rfl⟩|⟨x,t,rfl,rfl⟩
  .rcases dF hv with⟨j,u,rfl,rfl⟩|⟨y,u,rfl,rfl⟩
   .rw[RA]at h;exact wpAny_eqBool_int h
   .rw[Rz]at h;exact SeqAt.EqAt.int_str i t y u _ _ _ _ h
  .rcases dF hv with⟨j,u,rfl,rfl⟩|⟨y,u,rfl,rfl⟩
   .rw[Ry]at h;exact SeqAt.EqAt.str_int x t j u _ _ _ _ h
   .rw[Rx]at h;exact wpAny_eqBool_str h
 «strs»:=λ k x t v h=>by
  rcases dF h with⟨i,u,rfl,e⟩|⟨y,u,rfl,e⟩
  .exact nomatch e
  .injection e with e1 _
   subst e1;cases v<;>rfl
inductive V where
|non|bl (b:Bool)|int (i:Int)|str (x:Str)|TX (b:Array UInt8)|TJ (b:UInt64)|ref (a:Addr)|ty (n:String)
deriving DecidableEq
def RelV:V->ζ->Prop
|.non,u=>u=Pi
|.bl b,u=>u=Value.bool b
|.int i,u=>∃t,u=Value.int i t
|.str x,u=>∃t,u=Value.str x t
|.TX b,u=>∃t,u=Value.bytes b t
|.TJ b,u=>∃t,u=Value.float b t
|.ref a,u=>u=Value.ref a
|.ty n,u=>u=Value.type n
abbrev Vals:γ V->γ ζ->Prop:=Paired RelV
theorem Vals.length(r:Vals xs us):xs.length=us.length:=Paired.length r
theorem Vals.get:∀{xs}{us}{i:Nat}{x},Vals xs us->xs[i]?=AC x->∃u,us[i]?=AC u/\RelV x u
|_,_,_,_,.nil,e=>by simp at e
|_,_,0,_,.cons r _,e=>by simp at e;subst e;exact⟨_,rfl,r⟩
|_,_,i+1,x,.cons _ t,e=>by let⟨u,h1,h2⟩:=Vals.get (i:=i) (x:=x) t (by simpa using e);exact⟨u,by simpa using h1,h2⟩
theorem Vals.append:∀{xs ys}{us ws},Vals xs us->Vals ys ws->Vals (xs++ys) (us++ws)
|_,_,_,_,.nil,s=>s
|_,_,_,_,.cons r t,s=>.cons r<|Vals.append t s
theorem Vals.take:∀{xs}{us} n,Vals xs us->Vals (xs.take n) (us.take n)
|_,_,0,_=>.nil
|_,_,_+1,.nil=>.nil
|_,_,n+1,.cons r t=>.cons r<|Vals.take n t
theorem Vals.drop:∀{xs}{us} n,Vals xs us->Vals (xs.drop n) (us.drop n)
|_,_,0,r=>r
|_,_,_+1,.nil=>.nil
|_,_,n+1,.cons _ t=>Vals.drop n t
def ud:ε V->ε ζ->Prop
|some v,AC u=>RelV v u
|none,At=>True
|_,_=>False
def KV{κ:Type}:γ (κ×V)->γ (κ×ζ)->Prop:=Paired λ(p:κ×V)(q:κ×ζ)=>p.1=q.1/\RelV p.2 q.2
def kV:Key->V
|.inl i=>.int i
|.inr x=>.str x
inductive HO where
|lst (xs:List V)
|tup (xs:List V)
|dK (fT:List (Key×V))|dT (fT:List (List Key×V))
|set (S:Int->Bool) (n:Nat)
|ins (C dx:Addr) (fs:List (Str×V))
|own (x:Addr)
|xd (fs:List (Str×V))
|met (f x:Addr)
|Xy (lo hi:Int)
|eH (o:Obj) (u:HO)
|Iq (q:Str)
|L9 (q:Str)
 |ext (φ:Heap->Prop)
abbrev Hp:=δ->ε HO
def T3:HO->Prop
|.Iq _=>True
|.L9 _=>True
|_=>False
def upd(H:Hp)(a:δ)(o:HO):Hp:=λ b=>if b=a then AC o else H b
theorem aP:upd H a o a=AC o:=by unfold upd;rw[f8 rfl]
theorem aE(h:b≠a):upd H a o b=H b:=by unfold upd;rw[P3 h]
theorem Vh{H:Hp}(h:H a=AC o)(h':H b=AC u)(d:o≠u):a≠b:=by intro e;subst e;rw[h]at h';exact d<|A06 h'
theorem bt{H:Hp}(h:H a=AC o)(h':H b=At):a≠b:=by intro e;subst e;rw[h]at h';cases h'
section
variable(P:ο)(w:ξ)
def qM(h:ν)(a:δ)(xs:Array ζ):Prop:=∃n,h.get? a=AC {cls:=.type "tuple",data:=.seq xs n}
theorem qM.is(p:qM h a xs):IsTup h a xs:=by let⟨n,e⟩:=p;exact⟨_,e,rfl,n,rfl⟩
theorem qM.new(h:ν)(xs:Array ζ):qM (h.push {cls:=.type "tuple",data:=.seq xs}) h.objs.size xs:=⟨_,A16 _ rfl⟩
def fW(H:Hp)(h:ν)(a:δ):HO->Prop
|.lst xs=>xs.length<=sizeLine/\∃(bT:γ ζ)(n:Nat),Vals xs bT/\h.get? a=AC {cls:=.type "list",data:=.seq bT.toArray n}
|.tup xs=>xs.length<=sizeLine/\∃bT:γ ζ,Vals xs bT/\qM h a bT.toArray
|.dK fT=>fT.length<=sizeLine/\(a==sysModules)=AT/\∃vs,KV fT vs/\h.DictOf (Fn P w) a vs
|.dT fT=>fT.length<=sizeLine/\(a==sysModules)=AT/\∃xs:γ (γ Key×δ×ζ),
 Paired (λ(p:γ Key×V)(q:γ Key×δ×ζ)=>p.1=q.1/\H q.2.1=AC (.tup<|p.1.map kV)/\RelV p.2 q.2.2) fT xs /\
 ∃o es ep,h.get? a=AC o/\o.ExactDict/\o.data=.dict es ep/\es.toList=xs.map (entryOfKey<|tupleKind<|Fn P w)/\(xs.map (·.1)).Nodup
|.set S n=>h.SetOf (intKind P w) a S n
|.ins C dx fs=>H dx=AC (.own a)/\fs.length<=1000/\dx≠a/\h.get? a=AC (SC C dx) /\
 ∃mA,h.Ns1 dx mA/\(∀f,ud (fs.lookup f) (mA f))/\AA1 mA (fs.map (·.1))
|.own _=>∃o,h.get? a=AC o
|.xd fs=>∃mA,h.Ns1 a mA/\∀f,ud (fs.lookup f) (mA f)
|.Xy lo hi=>∃t u v,h.get? a=AC {cls:=.type "range",data:=.fields #[.int lo t,.int hi u,.int 1 v]}
|.eH o u=>h.get? a=AC o/\fW H h a u
|.Iq q=>∃ps:Array ζ,h.get? a=AC {cls:=.none,data:=.fields ps}/\TriplesOk ps.toList/\∀pos cv,codeAmong pos ps.toList=AC cv->∃c,cv=.ref c/\H c=AC (.L9 q)
|.L9 q=>h.CodeRec (.ref a) q
|.met f x=>h.get? a=AC (PySem.W.methodObj (.ref f)<|.ref x)
|.ext φ=>φ h/\(∃o,h.get? a=AC o)/\∀h1 h2:ν,φ h1->(∀o,h1.get? a=AC o->h2.get? a=AC o)->φ h2
def pj(H:Hp)(h:ν):Prop:=∀a o,H a=AC o->fW P w H h a o
end
theorem fW.lt(x:fW P w H h a o):a<h.objs.size:=by
 cases o with
 |lst xs=>let⟨_,_,_,_,e⟩:=x;exact A03 e
 |tup xs=>let⟨_,_,_,p⟩:=x;exact p.is.lt
 |dK fT=>let⟨_,_,_,_,o,_,_,e,_⟩:=x;exact A03 e
 |dT fT=>let⟨_,_,_,_,o,_,_,e,_⟩:=x;exact A03 e
 |set S n=>let⟨o,_,_,_,e,_⟩:=x;exact A03 e
 |ins C dx fs=>let⟨_,_,_,e,_⟩:=x;exact A03 e
 |own y=>let⟨_,e⟩:=x;exact A03 e
 |xd fs=>let⟨_,⟨_,_,_,e,_⟩,_⟩:=x;exact A03 e
 |Xy lo hi=>let⟨_,_,_,e⟩:=x;exact A03 e
 |eH ob u=>let⟨e,_⟩:=x;exact A03 e
 |Iq q=>let⟨_,e,_⟩:=x;exact A03 e
 |L9 q=>let⟨_,_,_,_,e1,e2,_⟩:=x;cases e1;exact A03 e2
 |met f y=>exact A03<|x
 |ext φ=>let⟨_,⟨_,e⟩,_⟩:=x;exact A03 e
theorem Paired.JV:∀{l₁}{l₂},Paired F l₁ l₂->(∀a b,F a b->G a b)->Paired G l₁ l₂
|_,_,.nil,_=>.nil
|_,_,.cons r t,f=>.cons (f _ _ r)<|Paired.JV t f
theorem fW.oy(x:fW P w H h a o)(k:∀b u,(b=a\/H b=AC (.own a))->h.get? b=AC u->h'.get? b=AC u)
 (ho:∀b,H b=AC (.own a)->H' b=AC (.own a)) (ht:∀b xs,H b=AC (.tup xs)->H' b=AC (.tup xs)) (hp:∀b u,T3 u->H b=AC u->H' b=AC u):fW P w H' h' a o:=by
 induction o with
 |lst xs=>let⟨z,bT,n,r,e⟩:=x;exact⟨z,bT,n,r,k _ _ (.inl rfl) e⟩
 |tup xs=>let⟨z,bT,r,ob,e⟩:=x;exact⟨z,bT,r,ob,k _ _ (.inl rfl) e⟩
 |dK fT=>let⟨z,y,vs,r,ob,es,ep,e,c⟩:=x;exact⟨z,y,vs,r,ob,es,ep,k _ _ (.inl rfl) e,c⟩
 |dT fT=>let⟨z,y,xs,r,ob,es,ep,e,c⟩:=x;exact⟨z,y,xs,Paired.JV r λ p q z=>⟨z.1,ht _ _ z.2.1,z.2.2⟩,ob,es,ep,k _ _ (.inl rfl) e,c⟩
 |set S n=>let⟨ob,es,ep,t,e,c⟩:=x;exact⟨ob,es,ep,t,k _ _ (.inl rfl) e,c⟩
 |ins C dx fs=>let⟨d,z,ne,e,mA,⟨od,es,ep,e2,c⟩,r⟩:=x;exact⟨ho _ d,z,ne,k _ _ (.inl rfl) e,mA,⟨od,es,ep,k _ _ (.inr d) e2,c⟩,r⟩
 |own y=>let⟨ob,e⟩:=x;exact⟨ob,k _ _ (.inl rfl) e⟩
 |xd fs=>let⟨mA,⟨od,es,ep,e,c⟩,r⟩:=x;exact⟨mA,⟨od,es,ep,k _ _ (.inl rfl) e,c⟩,r⟩
 |Xy lo hi=>let⟨t,u,v,e⟩:=x;exact⟨t,u,v,k _ _ (.inl rfl) e⟩
 |eH ob u ih=>let⟨e,q⟩:=x;exact⟨k _ _ (.inl rfl) e,ih q⟩
 |Iq q=>let⟨ps,e,t,g⟩:=x;exact⟨ps,k a _ (.inl rfl) e,t,λ pos cv r=>let ⟨c,e1,e2⟩:=g pos cv r;⟨c,e1,hp c _ trivial e2⟩⟩
 |L9 q=>let⟨c,oc,vs,t,e1,e2,r⟩:=x;cases e1;exact⟨a,oc,vs,t,rfl,k a _ (.inl rfl) e2,r⟩
 |met f y=>have e:=x;exact k a _ (.inl rfl) e
 |ext φ=>let⟨p,⟨o,e⟩,st⟩:=x;exact⟨st _ _ p λ o q=>k _ _ (.inl rfl) q,⟨o,k _ _ (.inl rfl) e⟩,st⟩
theorem pj.lt(x:pj P w H h)(e:H a=AC o):a<h.objs.size:=(x a o e).lt
theorem pj.fresh(x:pj P w H h)(e:h.objs.size<=a):H a=At:=by
 cases q:H a with
 |none=>rfl
 |some u=>exact absurd (A20 (x.lt q) e)<|A82 _
theorem pj.kept(x:pj P w H h)(k:∀b u,h.get? b=AC u->h'.get? b=AC u):pj P w H h':=λ a o e=>(x a o e).oy (λ b u _ q=>k b u q) (λ _ q=>q) (λ _ _ q=>q) λ _ _ _ q=>q
theorem pj.laid(x:pj P w H h)(k:∀b u,h.get? b=AC u->h'.get? b=AC u)(hp:h.objs.size<=a)(new:fW P w (upd H a o) h' a o):pj P w (upd H a o) h':=λ b u e=>by
 have hn:=x.fresh hp;by_cases hb:b=a
 .subst hb;rw[aP]at e;cases e;exact new
 .rw[aE hb]at e;exact(x b u e).oy (λ c v _ q=>k c v q) (λ c q=>by rw[aE<|bt q hn];exact q) (λ c xs q=>by rw[aE<|bt q hn];exact q) λ c v _ q=>by rw[aE<|bt q hn];exact q
def Rd(H:Hp)(a:δ)(u:HO):Prop:=H a=AC u\/∃o,H a=AC (.eH o u)
theorem Rd.ok(r:Rd H a u)(x:pj P w H h):fW P w H h a u:=by
 rcases r with r|⟨o,r⟩
 .exact x a u r
 .let⟨_,q⟩:=x a _ r;exact q
def YU:ε HO->Prop
|some<|.lst _=>True
|some<|.dK _=>True
|some<|.dT _=>True
|some<|.set _ _=>True
|some<|.ins _ _ _=>True
|some<|.ext _=>True
|_=>False
theorem pj.write(ok:pj P w H h)(mu:YU (H x))(he:e=x\/H e=AC (.own x))(k:∀ b u,b≠e->h.get? b=AC u->h'.get? b=AC u)(Tx:∃ u,h'.get? e=AC u)
 (new:fW P w (upd H x o') h' x o'):pj P w (upd H x o') h':=λ b u q=>by
 have Vb:∀c y,H c=AC (.own y)->c≠x:=λ c y r z=>by subst z;rw[r]at mu;exact mu
 have ZX:∀c xs,H c=AC (.tup xs)->c≠x:=λ c xs r z=>by subst z;rw[r]at mu;exact mu
 have ZY:∀c u,T3 u->H c=AC u->c≠x:=λ c u p r z=>by subst z;rw[r]at mu;cases u<;>first|exact p|exact mu
 by_cases hb:b=x
 .subst hb;rw[aP]at q;cases q;exact new
 .rw[aE hb]at q;by_cases R6:b=e
  .have q':H b=AC (.own x):=by
    rcases he with z|z
    .exact absurd (R6.trans z) hb
    .rw[R6];exact z
   rw[q]at q';cases q';let⟨v,hv⟩:=Tx;exact⟨v,by rw[R6];exact hv⟩
  .refine(ok b u q).oy (λ c v hc r=>k c v ?_ r) (λ c r=>by rw[aE<|Vb c b r];exact r) (λ c xs r=>by rw[aE<|ZX c xs r];exact r) λ c v p r=>by rw[aE<|ZY c v p r];exact r
   rcases hc with rfl|hc
   .exact R6
   .rintro rfl;rcases he with z|z
    .exact Vb c b hc z
    .rw[hc]at z;cases z;exact hb rfl
structure Un(fs ex:List Addr)(H H':Hp)(h h':Heap):Prop where
 keep:∀b o,h.get? b=AC o->H b=At->b∉fs->b∉ex->h'.get? b=AC o
 slot:∀b o,h.get? b=AC o->H b=At->b∈fs->b∉ex->∃sl,h'.get? b=AC {o with slots:=sl}
 free:∀b o,h.get? b=AC o->H b=At->b∉ex->H' b=At
 there:∀b o,h.get? b=AC o->b∉ex->∃o',h'.get? b=AC o'
 tq:∀b xs,H b=AC (.tup xs)->H' b=AC (.tup xs)
 rT:∀b o u,H b=AC (.eH o u)->H' b=AC (.eH o u)
 oj:∀b u,T3 u->H b=AC u->H' b=AC u
theorem Un.any(u:Un fs ex H H1 h h1)(q:h.get? b=AC ob)(n:H b=At)(hx:b∉ex):∃sl,h1.get? b=AC {ob with slots:=sl}:=by
 by_cases hb:b∈fs
 .exact u.slot b ob q n hb hx
 .exact⟨_,u.keep b ob q n hb hx⟩
theorem Un.kept(k:∀b u,h.get? b=AC u->h'.get? b=AC u):Un fs ex H H h h':=
 ⟨λ b ob q _ _ _=>k b ob q,λ b ob q _ _ _=>⟨_,k b ob q⟩,λ _ _ _ n _=>n,λ b ob q _=>⟨ob,k b ob q⟩,λ _ _ q=>q,λ _ _ _ q=>q,λ _ _ _ q=>q⟩
theorem Un.refl:Un fs ex H H h h:=Un.kept λ _ _ q=>q
theorem Un.laid(k:∀b u,h.get? b=AC u->h'.get? b=AC u)(hp:h.objs.size<=a)(hn:H a=At):Un fs ex H (upd H a o) h h' where
 keep:=λ b u q _ _ _=>k b u q
 slot:=λ b u q _ _ _=>⟨_,k b u q⟩
 free:=λ b u q n _=>by rw[aE<|A14<|A20 (A03 q) hp];exact n
 there:=λ b u q _=>⟨u,k b u q⟩
 tq:=λ b xs q=>by rw[aE<|bt q hn];exact q
 rT:=λ b u xs q=>by rw[aE<|bt q hn];exact q
 oj:=λ b u _ q=>by rw[aE<|bt q hn];exact q
theorem Un.write(mu:YU (H x))(he:e=x\/H e=AC (.own x))(k:∀b u,b≠e->h.get? b=AC u->h'.get? b=AC u)(Tx:∃u,h'.get? e=AC u):Un fs ex H (upd H x o) h h':=by
 have hx:∀b,H b=At->b≠x:=λ b n z=>by subst z;rw[n]at mu;exact mu
 have hb:∀b,H b=At->b≠e:=λ b n z=>by
  subst z;rcases he with r|r
  .exact hx b n r
  .rw[n]at r;cases r
 have hm:∀b u,H b=AC u->¬YU (AC u)->b≠x:=λ b u q nm z=>by subst z;rw[q]at mu;exact nm mu
 refine⟨λ b u q n _ _=>k b u (hb b n) q,λ b u q n _ _=>⟨_,k b u (hb b n) q⟩,λ b u q n _=>by rw[aE<|hx b n];exact n,λ b u q _=>?_,
  λ b xs q=>by rw[aE<|hm b _ q λ z=>z];exact q,λ b u xs q=>by rw[aE<|hm b _ q λ z=>z];exact q,λ b u p q=>by rw[aE<|hm b _ q λ z=>by cases u<;>first|exact p|exact z];exact q⟩
 by_cases R6:b=e
 .subst R6;exact Tx
 .exact⟨u,k b u R6 q⟩
def Qd(h:ν)(H:Hp):γ δ:=(FB h.objs.size).filter λ a=>(H a).isSome
def xo(h:ν)(H:Hp):ν:=PySem.W.hideAll h<|Qd h H
theorem G?(h:ν)(H:Hp):(xo h H).objs.size=h.objs.size:=PySem.W.hideAll_size _ _
theorem Ki(e:h.get? b=AC o)(n:H b=At):(xo h H).get? b=AC o:=
 PySem.W.hideAll_get _ e λ hm=>by have q:=(A65.mp hm).2;rw[n]at q;simp at q
theorem M8(e:(xo h H).get? b=AC o):h.get? b=AC o/\H b=At:=by
 have e':=PySem.W.of_hideAll _ e;refine⟨e',?_⟩;cases q:H b with
 |none=>rfl
 |some x=>have hm:b∈Qd h H:=A65.mpr ⟨A32.mpr<|A03 e',by simp[q]⟩;have z:(xo h H).get? b=At:=ce _ hm;rw[z]at e;cases e
def ON(g h:ν)(L:δ):γ (δ×μ):=(FB h.objs.size).filterMap λ a=>if a=L\/(g.get? a).isSome=Ch then At else(h.get? a).map λ o=>(a,o)
def rest(g h:ν)(L d:δ):γ (δ×μ):=(ON g h L).filter λ p=>decide<|p.1≠d
structure Mod(K:Db)(mg:Str->Option Value)(base:Heap):Prop where
 HN:K.In base
 glob:base.Ns mainGlobals mg
 blt:∃mb,base.Ns builtinsNs mb/\∀x:Str,x≠ "__name__" -> mb x=bootBuiltins x
 nolimit:base.NoLimit
def dE:γ Str:=["best_among","paper_beside"]
def jV(x:Str):Str:=x++ ".<locals>."++ "<lambda>"
def BMain(mg:Str->ε ζ)(base:ν):Prop:=∃bm ob,mg "__builtins__"=AC (.ref bm)/\bm≠builtinsNs/\base.get? bm=AC ob/\ob.cls=.type "module" /\ ob.dict=AC builtinsNs/\ob.data=.plain
def yB(K:Db)(mg:Str->ε ζ)(base:ν)(H:Hp):Prop:=∀x∈dE,∀c P,Op K x=AC (c,P)->H P=AC (.Iq<|jV x)/\AC7 base c P/\BMain mg base
theorem yB.up{K:Db}(t:yB K mg base H)(u:∀b o,T3 o->H b=AC o->H' b=AC o):yB K mg base H':=λ x hx c P e=>⟨u _ _ trivial (t x hx c P e).1,(t x hx c P e).2⟩
structure Cx where
 prog:Program
 w:World
 K:Db
 mg:Str->Option Value
 base:Heap
 A:Around
 N:List Str
 s₀:Shared
 H₀:Hp
 env:Env
 outer:List Env
 stack:List Env
 ex:List Addr
 fn:Str->Bool
 calm:Bool
 pn:List (Addr×Obj)
 xe:Value->Shared->Prop
def vT(l:γ Env):γ δ:=l.filterMap (·.frame)
abbrev Cx.fs(X:Cx):γ δ:=vT X.outer
def HD(sc:ς)(x:Str):Prop:=sc.names.lookup x=AC .local\/sc.names.lookup x=AC .cell\/sc.names.lookup x=AC .free
def Loc(sc:ς)(x:Str):Prop:=sc.names.lookup x=AC .local\/sc.names.lookup x=AC .cell
def Look(env:Env)(h:ν)(m:Str->ε ζ)(x:Str)(u:ζ):Prop:=
 (env.kindOf x=AC .local/\m x=AC u)\/((env.kindOf x=AC .cell\/env.kindOf x=AC .free)/\∃c,env.cells.lookup x=AC c/\h.IsCell c (AC u))
structure Cx.Ok(X:Cx):Prop where
 mod:Mod X.K X.mg X.base
 kind:X.env.scope.kind=.function
 glob:X.env.globals=mainGlobals
 blt:X.env.builtins=builtinsNs
 above:X.s₀.heap.objs.size<=X.env.locals
 inj:∀x y c,X.env.cells.lookup x=AC c->X.env.cells.lookup y=AC c->x=y
 has:∀x,(X.env.kindOf x=AC .cell\/X.env.kindOf x=AC .free)->∃c,X.env.cells.lookup x=AC c
 PQ:∀x c,X.fn x=Ch->X.env.cells.lookup x=AC c->X.s₀.heap.objs.size<=c
 hd:X.calm=Ch->X.A.handled=At
 frames:X.A.frames=AC X.stack
 IC:X.stack=X.outer\/(X.stack=X.env::X.outer/\X.env.frame=AC X.env.locals)
 Ww:∀b∈X.ex,b≠X.env.locals/\∀x c,X.env.cells.lookup x=AC c->c≠b
 bs:∀b o,X.base.get? b=AC o->X.s₀.heap.get? b=AC o/\X.H₀ b=At
 Hx:X.base.objs.size<=X.s₀.heap.objs.size
 zi:∀b o,X.base.get? b=AC o->b∉X.ex
 Ed:∀b∈X.ex,b∉X.fs
 lK:X.s₀.heap.FunFrames X.base X.outer
 Kv:∀b∈X.fs,X.H₀ b=At
structure Inv(X:Cx)(χ:List (Addr×Obj))(σ:List (Option V))(H:Hp)(s:Shared):Prop where
 ok:X.Ok
 os:s.os=X.s₀.os
 bare:AllBare s.gens
 base:Un X.fs X.ex X.H₀ H X.s₀.heap s.heap
 loc:∃m,s.heap.Ns X.env.locals m/\∀(i:Nat)(x:Str)(v:V),X.N[i]?=AC x->σ[i]?=AC (AC v)->HD X.env.scope x->∃u,RelV v u/\Look X.env s.heap m x u
 cell:∀x c,X.env.cells.lookup x=AC c->∃v,s.heap.IsCell c v
 free:H X.env.locals=At
 gx:∀x c,X.env.cells.lookup x=AC c->H c=At
 pin:∀p∈X.pn++χ,s.heap.get? p.1=AC p.2/\H p.1=At/\p.1≠X.env.locals/\p.1∉X.fs/\∀v,p.2.data≠.cell v
 cy:pj X.prog X.w H s.heap
 len:σ.length=X.N.length
 tab:yB X.K X.mg X.base H
section
variable{X:Cx}
theorem Cx.Ok.Z0(ok:X.Ok)(e:X.base.get? b=AC o):b∉X.fs:=λ hb=>by have:=(ok.lK.mem hb).1;rw[e]at this;cases this
theorem Inv.bs(I:Inv X χ σ H s):∀b o,X.base.get? b=AC o->s.heap.get? b=AC o/\H b=At:=λ b o e=>⟨I.base.keep b o (I.ok.bs b o e).1 (I.ok.bs b o e).2 (I.ok.Z0 e)<|I.ok.zi b o e,I.base.free b o (I.ok.bs b o e).1 (I.ok.bs b o e).2<|I.ok.zi b o e⟩
theorem Inv.bk(I:Inv X χ σ H s):∀b o,X.base.get? b=AC o->s.heap.get? b=AC o:=λ b o e=>(I.bs b o e).1
theorem Inv.mod(I:Inv X χ σ H s):Mod X.K X.mg X.base:=I.ok.mod
theorem Inv.kB(I:Inv X χ σ H s):X.K.In s.heap:=I.ok.mod.HN.keeps I.bk
theorem Inv.nolimit(I:Inv X χ σ H s):s.heap.NoLimit:=I.ok.mod.nolimit.keeps I.bk
theorem Inv.lt(I:Inv X χ σ H s):X.env.locals<s.heap.objs.size:=let ⟨_,hn,_⟩:=I.loc;hn.lt
theorem Inv.sz(I:Inv X χ σ H s):X.s₀.heap.objs.size<=s.heap.objs.size:=A27 I.ok.above<|A70 I.lt
theorem Inv.Ra(I:Inv X χ σ H s)(h:s.heap.objs.size<=a):a∉X.fs:=λ hb=>by let⟨_,o,ho,_⟩:=I.ok.lK.mem hb;exact absurd (A20 (A03 ho)<|A27 I.sz h)<|A82 _
theorem Inv.Lh(I:Inv X χ σ H s):∀x c,X.env.cells.lookup x=AC c->c≠X.env.locals:=λ x c e z=>by let⟨v,o,ho,hd⟩:=I.cell x c e;let⟨m,⟨o',es,ep,qo,rP,_⟩,_⟩:=I.loc;rw[z,qo]at ho;cases ho;rw[rP]at hd;cases hd
theorem Inv.lK(I:Inv X χ σ H s):s.heap.FunFrames X.base X.outer:=by
 have all:∀l,(∀b∈vT l,b∈X.fs)->X.s₀.heap.FunFrames X.base l->s.heap.FunFrames X.base l:=by
  intro l
  induction l with
  |nil=>intro _ _;trivial
  |cons env r ih=>intro hs hl;let⟨hk,⟨L,o,hf,hn,ho,hd⟩,hr⟩:=hl;have hL:=hs L (by unfold vT;rw[B80,hf];exact A18);let⟨sl,e⟩:=I.base.slot L o ho (I.ok.Kv L hL) hL λ z=>I.ok.Ed L z hL;exact⟨hk,⟨L,_,hf,hn,e,hd⟩,ih (λ b hb=>hs b (by unfold vT;rw[B80,hf];exact A11 _ hb)) hr⟩
 exact all _ (λ _ hb=>hb) I.ok.lK
theorem Inv.stack(I:Inv X χ σ H s):s.heap.FunFrames X.base X.stack:=by
 rcases I.ok.IC with e|⟨e,hf⟩
 .rw[e];exact I.lK
 .rw[e];let⟨m,hn,_⟩:=I.loc;refine .cons (by rw[I.ok.kind];decide) hf hn ?_ I.lK;exact B43<|A27 I.ok.Hx I.ok.above
theorem Inv.q?(I:Inv X χ σ H s):∀b∈vT X.stack,b∈X.env.locals::X.fs:=λ b hb=>by
 rcases I.ok.IC with e|⟨e,hf⟩
 .rw[e]at hb;exact A11 _ hb
 .rw[e]at hb;unfold vT at hb;rw[B80,hf]at hb;exact hb
theorem Inv.uh(I:Inv X χ σ H s):∀b∈vT X.stack,H b=At:=λ b hb=>by
 rcases A00.mp (I.q? b hb)with e|hb
 .rw[e];exact I.free
 .let⟨_,o,ho,_⟩:=I.ok.lK.mem hb;exact I.base.free b o ho (I.ok.Kv b hb) λ z=>I.ok.Ed b z hb
theorem Inv.step{ch:γ δ}(I:Inv X χ σ H s)
 (CA:∀b∈ch,(b∈X.ex\/X.s₀.heap.objs.size<=b)/\b≠X.env.locals/\(∀x c,X.env.cells.lookup x=AC c->c≠b)/\∀p∈X.pn++χ,p.1≠b)
 (keep:∀b o,b≠X.env.locals->b∉X.fs->b∉ch->s.heap.get? b=AC o->H b=At->h'.get? b=AC o)
 (slot:∀b o,b≠X.env.locals->b∈X.fs->b∉ch->s.heap.get? b=AC o->H b=At->∃sl,h'.get? b=AC {o with slots:=sl}) (free:∀b o,b∉ch->s.heap.get? b=AC o->H b=At->H' b=At)
 (there:∀b o,b∉ch->s.heap.get? b=AC o->∃o',h'.get? b=AC o')
 (tq:∀b xs,H b=AC (.tup xs)->H' b=AC (.tup xs)) (rT:∀b o u,H b=AC (.eH o u)->H' b=AC (.eH o u)) (oj:∀b u,T3 u->H b=AC u->H' b=AC u)
 (ns:∀m,s.heap.Ns X.env.locals m->h'.Ns X.env.locals m) (cy:pj X.prog X.w H' h') (hg:AllBare g') :
 Inv X χ σ H' {s with heap:=h',gens:=g',drawn:=d',toks:=t'}:=by
 have Vi:∀b o,X.s₀.heap.get? b=AC o->b≠X.env.locals:=λ b o e=>A14<|A20 (A03 e) I.ok.above;have JI:∀b o,X.s₀.heap.get? b=AC o->b∉X.ex->b∉ch:=λ b o e hx hb=>by
  rcases(CA b hb).1 with z|z
  .exact hx z
  .exact absurd (A20 (A03 e) z)<|A82 _
 have cellK:∀x c,X.env.cells.lookup x=AC c->∀v,s.heap.IsCell c v->h'.IsCell c v:=by
  rintro x c e v ⟨o,ho,hd⟩;have Bq:=λ z=>(CA c z).2.2.1 x c e rfl;by_cases hc:c∈X.fs
  .let⟨sl,q⟩:=slot c o (I.Lh x c e) hc Bq ho (I.gx x c e);exact⟨_,q,hd⟩
  .exact⟨o,keep c o (I.Lh x c e) hc Bq ho<|I.gx x c e,hd⟩
 refine⟨I.ok,I.os,hg,⟨λ b o e n hb hx=>?_,λ b o e n hb hx=>?_,λ b o e n hx=>?_,λ b o e hx=>?_,λ b xs e=>tq b xs<|I.base.tq b xs e,λ b o xs e=>rT b o xs<|I.base.rT b o xs e,λ b u p e=>oj b u p<|I.base.oj b u p e⟩,?_,λ x c e=>?_,?_,λ x c e=>?_,λ p hp=>?_,cy,I.len,I.tab.up oj⟩
 .exact keep b o (Vi b o e) hb (JI b o e hx) (I.base.keep b o e n hb hx)<|I.base.free b o e n hx
 .let⟨sl,e1⟩:=I.base.slot b o e n hb hx;let⟨Zk,e2⟩:=slot b _ (Vi b o e) hb (JI b o e hx) e1 (I.base.free b o e n hx);exact⟨Zk,e2⟩
 .let⟨o',e1⟩:=I.base.there b o e hx;exact free b o' (JI b o e hx) e1<|I.base.free b o e n hx
 .let⟨o',e1⟩:=I.base.there b o e hx;exact there b o' (JI b o e hx) e1
 .let⟨m,hn,hl⟩:=I.loc;refine⟨m,ns m hn,λ i x v e1 e2 e3=>?_⟩;let⟨u,r,l⟩:=hl i x v e1 e2 e3;refine⟨u,r,?_⟩;rcases l with l|⟨k,c,e,z⟩
  .exact .inl l
  .exact .inr ⟨k,c,e,cellK x c e _ z⟩
 .let⟨v,z⟩:=I.cell x c e;exact⟨v,cellK x c e v z⟩
 .let⟨m,⟨o,_,_,ho,_⟩,_⟩:=I.loc;exact free _ o (λ z=>(CA _ z).2.1 rfl) ho I.free
 .let⟨v,o,ho,hd⟩:=I.cell x c e;exact free c o (λ z=>(CA c z).2.2.1 x c e rfl) ho<|I.gx x c e
 .let⟨e,n,ne,nf,d⟩:=I.pin p hp;have Bq:=λ z=>(CA p.1 z).2.2.2 p hp rfl;exact⟨keep p.1 p.2 ne nf Bq e n,free p.1 p.2 Bq e n,ne,nf,d⟩
theorem Inv.un(I:Inv X χ σ H s)(u:Un X.fs [] H H' s.heap h')(cy:pj X.prog X.w H' h'):Inv X χ σ H' {s with heap:=h',toks:=t'}:=by
 let⟨m,⟨o,es,ep,ho,r⟩,_⟩:=id I.loc;let⟨sl,hL⟩:=u.any ho I.free ∅;exact I.step (ch:=[]) (λ _ z=>nomatch z) (λ b o _ hb _ e n=>u.keep b o e n hb ∅) (λ b o _ hb _ e n=>u.slot b o e n hb ∅) (λ b o _ e n=>u.free b o e n ∅) (λ b o _ e=>u.there b o e ∅) u.tq u.rT u.oj (λ m' hm=>by let⟨o',es',ep',qo,r'⟩:=hm;rw[ho]at qo;cases qo;exact⟨_,es',ep',hL,r'⟩) cy I.bare
theorem Inv.call(I:Inv X χ σ H s)(u:Un (vT X.stack) ch H H' s.heap h')(cy:pj X.prog X.w H' h')(hg:AllBare g')
 (CA:∀b∈ch,(b∈X.ex\/X.s₀.heap.objs.size<=b)/\b≠X.env.locals/\(∀x c,X.env.cells.lookup x=AC c->c≠b)/\∀p∈X.pn++χ,p.1≠b) :
 Inv X χ σ H' {s with heap:=h',gens:=g',drawn:=d',toks:=t'}:=by
 let⟨m,⟨o,es,ep,ho,r⟩,_⟩:=id I.loc;let⟨sl,hL⟩:=u.any ho I.free λ z=>(CA _ z).2.1 rfl;exact I.step CA (λ b o hL hb hc e n=>u.keep b o e n (λ z=>(A00.mp<|I.q? b z).elim hL hb) hc) (λ b o _ _ hc e n=>u.any e n hc) (λ b o hc e n=>u.free b o e n hc) (λ b o hc e=>u.there b o e hc) u.tq u.rT u.oj (λ m' hm=>by let⟨o',es',ep',qo,r'⟩:=hm;rw[ho]at qo;cases qo;exact⟨_,es',ep',hL,r'⟩) cy hg
theorem Inv.turned(I:Inv X χ σ H s)(k:∀b o,b≠it->s.heap.get? b=AC o->h'.get? b=AC o)(hn:H it=At)(hL:it≠X.env.locals)
 (h1:it∈X.ex\/X.s₀.heap.objs.size<=it) (h2:∀x c,X.env.cells.lookup x=AC c->c≠it) (h3:∀p∈X.pn++χ,p.1≠it):Inv X χ σ H {s with heap:=h',toks:=t'}:=by
 have nit:∀b u,H b=AC u->b≠it:=λ b u e z=>by rw[z,hn]at e;cases e
 refine I.step (ch:=[it]) (λ b hb=>?_) (λ b o _ _ hc e _=>k b o (λ z=>hc (by simp[z])) e) (λ b o _ _ hc e _=>⟨_,k b o (λ z=>hc (by simp[z])) e⟩) (λ _ _ _ _ n=>n)
  (λ b o hc e=>⟨o,k b o (λ z=>hc (by simp[z])) e⟩) (λ _ _ e=>e) (λ _ _ _ e=>e) (λ _ _ _ e=>e) (λ m hm=>?_) (λ b u e=>?_) I.bare
 .have e:b=it:=by simpa using hb
  subst e;exact⟨h1,hL,h2,h3⟩
 .let⟨o,es,ep,ho,r⟩:=hm;exact⟨o,es,ep,k _ o (A07 hL) ho,r⟩
 .refine(I.cy b u e).oy (λ c v hc q=>k c v ?_ q) (λ _ q=>q) (λ _ _ q=>q) λ _ _ _ q=>q;rcases hc with z|z
  .rw[z];exact nit b u e
  .exact nit c _ z
theorem Inv.tok(I:Inv X χ σ H s)(t:Nat):Inv X χ σ H {s with toks:=t}:=I.un Un.refl I.cy
theorem Inv.kept(I:Inv X χ σ H s)(k:∀b u,s.heap.get? b=AC u->h'.get? b=AC u):Inv X χ σ H {s with heap:=h',toks:=t'}:=I.un (Un.kept k)<|I.cy.kept k
theorem Inv.laid(I:Inv X χ σ H s)(k:∀b u,s.heap.get? b=AC u->h'.get? b=AC u)(hp:s.heap.objs.size<=a)(new:fW X.prog X.w (upd H a o) h' a o):
 Inv X χ σ (upd H a o) {s with heap:=h',toks:=t'}:=I.un (Un.laid k hp<|I.cy.fresh hp)<|I.cy.laid k hp new
theorem Inv.write(I:Inv X χ σ H s)(mu:YU (H x))(he:e=x\/H e=AC (.own x))(k:∀b u,b≠e->s.heap.get? b=AC u->h'.get? b=AC u)(Tx:∃u,h'.get? e=AC u)
 (new:fW X.prog X.w (upd H x o) h' x o):Inv X χ σ (upd H x o) {s with heap:=h',toks:=t'}:=I.un (Un.write mu he k Tx)<|I.cy.write mu he k Tx new
theorem Inv.E8(I:Inv X χ σ H s)(h:∀p∈nT,s.heap.get? p.1=AC p.2/\H p.1=At/\p.1≠X.env.locals/\p.1∉X.fs/\∀v,p.2.data≠.cell v):Inv X nT σ H s:=
 ⟨I.ok,I.os,I.bare,I.base,I.loc,I.cell,I.free,I.gx,λ p hp=>(A53.mp hp).elim (λ z=>I.pin p<|A98 _ z)<|h p,I.cy,I.len,I.tab⟩
theorem vb{N:γ Str}(hN:N.Nodup){i j:Nat}(a:N[i]?=AC x)(b:N[j]?=AC x):i=j:=by let⟨h1,e1⟩:=A04.mp a;let⟨h2,e2⟩:=A04.mp b;exact(List.getElem_inj hN).mp<|e1.trans e2.symm
theorem xN(I:Inv X χ σ H s)(hN:X.N.Nodup)(hi:X.N[i]?=AC x)(hx:Loc X.env.scope x)(r:RelV v u)
 (h:∀s',Inv X χ (σ.set i<|some v) H s'->(∃a,Go a s.heap s'.heap/\(a=X.env.locals\/X.env.cells.lookup x=AC a))/\(X.env.scope.names.lookup x=AC .local->s.toks<s'.toks)->Q () s') (hf:X.fn x=Ch\/X.env.scope.names.lookup x=AC .local:=by first|exact .inl rfl|exact .inr rfl|assumption):FM M A (storeName X.env x u) Q E s:=by
 let⟨m,hn,hl⟩:=id I.loc;have _V:(X.env.scope.kind==.class||(X.env.scope.kind==.module&&X.env.locals != X.env.globals))=AT:=by rw[I.ok.kind];rfl
 have hiσ:i<σ.length:=by rw[I.len];exact(A04.mp hi).1
 have Lh:=I.Lh;have tracked:∀{a}{h'},(∃o,s.heap.get? a=AC o/\H a=At)->Go a s.heap h'->pj X.prog X.w H h':=λ {a h'} ha hs b ob e=>by
  let⟨_,_,sP⟩:=ha;refine(I.cy b ob e).oy (λ c w' hc q=>(hs.2 c ?_).trans q) (λ _ q=>q) (λ _ _ q=>q) λ _ _ _ q=>q;rintro rfl;rcases hc with rfl|hc
  .rw[sP]at e;cases e
  .rw[sP]at hc;cases hc
 rcases hx with hk|hk
 .refine wpAny_storeName_local hk hn (λ h' HS hs=>?_) _V;let⟨oL,_,_,hoL,_⟩:=id hn;refine h _ ⟨I.ok,I.os,I.bare,⟨λ b o e n hb hx=>?_,λ b o e n hb hx=>?_,I.base.free,λ b o e hx=>?_,I.base.tq,I.base.rT,I.base.oj⟩,⟨_,HS,λ j y v' e1 e2 e3=>?_⟩,λ y c e=>?_,I.free,I.gx,λ p hp=>?_,tracked ⟨oL,hoL,I.free⟩ hs,by simpa using I.len,I.tab⟩ ⟨⟨_,hs,.inl rfl⟩,λ _=>A58 _⟩
  .exact(hs.2 b<|A14<|A20 (A03 e) I.ok.above).trans<|I.base.keep b o e n hb hx
  .let⟨sl,e1⟩:=I.base.slot b o e n hb hx;exact⟨sl,(hs.2 b<|A14<|A20 (A03 e) I.ok.above).trans e1⟩
  .let⟨o',e1⟩:=I.base.there b o e hx;exact⟨o',(hs.2 b<|A14<|A20 (A03 e) I.ok.above).trans e1⟩
  .by_cases hj:j=i
   .subst hj;rw[hi]at e1;cases e1;rw[A41 hiσ]at e2;cases e2;exact⟨u,r,.inl ⟨hk,by simp⟩⟩
   .rw[A28<|A07 hj]at e2;let⟨u',r',q⟩:=hl j y v' e1 e2 e3;refine⟨u',r',?_⟩;rcases q with⟨k,e⟩|⟨k,c,e,z⟩
    .refine .inl ⟨k,?_⟩;have:y≠x:=λ e=>hj<|vb hN e1<|e▸hi;simp[this,e]
    .exact .inr ⟨k,c,e,z.sameBut hs<|Lh y c e⟩
  .let⟨w',z⟩:=I.cell y c e;exact⟨w',z.sameBut hs<|Lh y c e⟩
  .let⟨e,n,ne,nf,d⟩:=I.pin p hp;exact⟨(hs.2 p.1 ne).trans e,n,ne,nf,d⟩
 .have V5:X.fn x=Ch:=by
   rcases hf with z|z
   .exact z
   .rw[z]at hk;cases hk
  let⟨c,hc⟩:=I.ok.has x (.inl hk);let⟨w',z⟩:=I.cell x c hc;refine wpAny_storeName_cell I.ok.kind hk hc z λ h' Ag hs=>?_;let⟨oc,Yj,_v⟩:=id z;refine h {s with heap:=h'} ⟨I.ok,I.os,I.bare,⟨λ b o e n hb hx=>?_,λ b o e n hb hx=>?_,I.base.free,λ b o e hx=>?_,I.base.tq,I.base.rT,I.base.oj⟩,⟨m,hn.sameBut hs<|A07<|Lh x c hc,λ j y v' e1 e2 e3=>?_⟩,λ y c' e=>?_,I.free,I.gx,λ p hp=>?_,tracked ⟨oc,Yj,I.gx x c hc⟩ hs,by simpa using I.len,I.tab⟩ ⟨⟨c,hs,.inr hc⟩,λ z=>absurd (hk.symm.trans z) ∅⟩
  .exact(hs.2 b<|A14<|A20 (A03 e)<|I.ok.PQ x c V5 hc).trans<|I.base.keep b o e n hb hx
  .let⟨sl,e1⟩:=I.base.slot b o e n hb hx;exact⟨sl,(hs.2 b<|A14<|A20 (A03 e)<|I.ok.PQ x c V5 hc).trans e1⟩
  .let⟨o',e1⟩:=I.base.there b o e hx;exact⟨o',(hs.2 b<|A14<|A20 (A03 e)<|I.ok.PQ x c V5 hc).trans e1⟩
  .by_cases hj:j=i
   .subst hj;rw[hi]at e1;cases e1;rw[A41 hiσ]at e2;cases e2;exact⟨u,r,.inr ⟨.inl hk,c,hc,Ag⟩⟩
   .rw[A28<|A07 hj]at e2;let⟨u',r',q⟩:=hl j y v' e1 e2 e3;refine⟨u',r',?_⟩;rcases q with q|⟨k,c',e,z'⟩
    .exact .inl q
    .refine .inr ⟨k,c',e,z'.sameBut hs ?_⟩;rintro rfl;exact hj<|vb hN e1<|I.ok.inj _ _ _ e hc▸hi
  .by_cases Yr:c'=c
   .subst Yr;exact⟨_,Ag⟩
   .let⟨w2,z2⟩:=I.cell y c' e;exact⟨w2,z2.sameBut hs Yr⟩
  .let⟨e,n,ne,nf,d⟩:=I.pin p hp;refine⟨(hs.2 p.1 ?_).trans e,n,ne,nf,d⟩;intro q;rw[q,Yj]at e;have q':=A06 e;exact d w' (by rw[<-q'];exact _v)
theorem pH(I:Inv X χ σ H s)(hN:X.N.Nodup)(hi:X.N[i]?=AC x)(hx:Loc X.env.scope x)(r:RelV v u)
 (h:∀s',Inv X χ (σ.set i<|some v) H s'->Q () s') (hf:X.fn x=Ch\/X.env.scope.names.lookup x=AC .local:=by first|exact .inl rfl|exact .inr rfl|assumption):FM M A (storeName X.env x u) Q E s:=
 xN I hN hi hx r (λ s' I' _=>h s' I') hf
theorem Inv.Lk(I:Inv X χ σ H s)(ho:s'.os=s.os)(u:Un (vT X.stack) ch H H' s.heap s'.heap)(cy:pj X.prog X.w H' s'.heap)(hg:AllBare s'.gens)
 (CA:∀b∈ch,(b∈X.ex\/X.s₀.heap.objs.size<=b)/\b≠X.env.locals/\(∀x c,X.env.cells.lookup x=AC c->c≠b)/\∀p∈X.pn++χ,p.1≠b):Inv X χ σ H' s':=by
 let⟨h',g',d',t',o'⟩:=s';have e:=ho;subst e;exact I.call u cy hg CA
end
abbrev XK:=ζ->ε δ->Hp->Prop
abbrev St:=γ<|ε V
abbrev VK:=V->Hp->Prop
abbrev TE:=St->Hp->VK->Prop
abbrev TT:=St->Hp->(Bool->Hp->Prop)->Prop
abbrev TA:=St->Hp->(γ V->Hp->Prop)->Prop
structure Ends where
 nx:St->Hp->Prop
 rt:VK
 bk:St->Hp->Prop:=λ _ _=>False
 ct:St->Hp->Prop:=λ _ _=>False
abbrev TS:=Ends->St->Hp->Prop
def EP(X:Cx)(χ:γ (δ×μ))(σ:St)(Q:VK)(u:ζ)(s':η):Prop:=∃v H',Inv X χ σ H' s'/\RelV v u/\Q v H'
def TP(X:Cx)(χ:γ (δ×μ))(σ:St)(Q:Bool->Hp->Prop)(b:Bool)(s':η):Prop:=∃H',Inv X χ σ H' s'/\Q b H'
def AP(X:Cx)(χ:γ (δ×μ))(σ:St)(Q:γ V->Hp->Prop)(us:γ ζ)(s':η):Prop:=∃vs H',Inv X χ σ H' s'/\Vals vs us/\Q vs H'
def SP(X:Cx)(χ:γ (δ×μ))(D:Ends)(f:Flow)(s':η):Prop:=
 match f with
 |.next=>∃σ' H',Inv X χ σ' H' s'/\D.nx σ' H'
 |.brk=>∃σ' H',Inv X χ σ' H' s'/\D.bk σ' H'
 |.cont=>∃σ' H',Inv X χ σ' H' s'/\D.ct σ' H'
 |.ret u=>∃v σ' H',Inv X χ σ' H' s'/\RelV v u/\D.rt v H'
def PE(X:Cx)(e:ι)(t:TE):Prop:=
 ∀(χ:γ (δ×μ))(s:η)(σ:St)(H:Hp)(Q:VK),Inv X χ σ H s->t σ H Q->FM (model X.prog X.w) X.A (eval e X.env) (EP X χ σ Q) X.xe s
def PT(X:Cx)(e:ι)(t:TT):Prop:=
 ∀(χ:γ (δ×μ))(s:η)(σ:St)(H:Hp)(Q:Bool->Hp->Prop),Inv X χ σ H s->t σ H Q->FM (model X.prog X.w) X.A (isTrue e X.env<|eval e X.env) (TP X χ σ Q) X.xe s
def PW(X:Cx)(e:ι)(t:TT):Prop:=
 ∀(whole:Sem ζ)(χ:γ (δ×μ))(s:η)(σ:St)(H:Hp)(Q:Bool->Hp->Prop),Inv X χ σ H s->t σ H Q->FM (model X.prog X.w) X.A (isTrue e X.env whole) (TP X χ σ Q) X.xe s
theorem PW.pt(h:PW X e t):PT X e t:=h _
def PA(X:Cx)(es:γ ι)(t:TA):Prop:=
 ∀(pos:Pos)(χ:γ (δ×μ))(s:η)(σ:St)(H:Hp)(Q:γ V->Hp->Prop),Inv X χ σ H s->t σ H Q->FM (model X.prog X.w) X.A (spliced<|backTo pos<|starEach es X.env) (AP X χ σ Q) X.xe s
def PS(X:Cx)(st:θ)(t:TS):Prop:=
 ∀(χ:γ (δ×μ))(s:η)(σ:St)(H:Hp)(D:Ends),Inv X χ σ H s->t D σ H->FM (model X.prog X.w) X.A (exec st X.env) (SP X χ D) X.xe s
def s?(X:Cx)(st:γ θ)(t:TS):Prop:=
 ∀(χ:γ (δ×μ))(s:η)(σ:St)(H:Hp)(D:Ends),Inv X χ σ H s->t D σ H->FM (model X.prog X.w) X.A (execs st X.env) (SP X χ D) X.xe s
theorem da{M:Model}{A:π}{E:ζ->η->Prop}{s:η}(h:FM M A t Q E s)(hQ:∀a s,Q a s->Q' a s):FM M A t Q' E s:=A21 h hQ λ _ _ x=>x
section
def kE(i:Nat):TE:=λ σ H Q=>∃v,σ[i]?=AC (AC v)/\Q v H
def tC(v:V):TE:=λ _ H Q=>Q v H
theorem kU(hN:X.N[i]?=AC x)(hv:HD X.env.scope x)(hd:(x==("__debug__"))=AT:=by decide)(m?:(x==("__classdict__"))=AT:=by decide):PE X (.Name x pos) (kE i):=by
 intro χ s σ H Q I h;let⟨v,e,h⟩:=h;let⟨m,hn,hl⟩:=I.loc;let⟨u,r,l⟩:=hl i x v hN e hv;have fin:EP X χ σ Q u s:=⟨v,H,I,r,h⟩
 rcases l with⟨hk,hm⟩|⟨hk,c,hc,sQ⟩
 .exact wpAny_Name (wpAny_loadName_local I.ok.kind hk hn hm fin) hd
 .rcases hk with hk|hk
  .exact wpAny_Name (wpAny_loadName_cell I.ok.kind hk hc sQ fin) hd
  .exact wpAny_Name (wpAny_loadName_free I.ok.kind hk hc sQ fin m?) hd
theorem QN:PE X (.Constant (.int i) j pos) (tC<|.int i):=λ _ _ _ H _ I h=>wpAny_Constant_int ⟨.int i,H,I.tok _,⟨_,rfl⟩,h⟩
theorem UQ:PE X (.Constant (.bool b) j pos) (tC<|.bl b):=λ _ _ _ H _ I h=>Constant_bool ⟨.bl b,H,I,rfl,h⟩
theorem y?:PE X (.Constant .none j pos) (tC .non):=λ _ _ _ H _ I h=>Constant_none ⟨.non,H,I,rfl,h⟩
theorem QD:PE X (.Constant (.str x) j pos) (tC<|.str x):=λ _ _ _ H _ I h=>Calls.Constant_str ⟨.str x,H,I.tok _,⟨_,rfl⟩,h⟩
def Gl(X:Cx)(x:Str):Prop:=X.env.kindOf x=AC .globalImplicit
theorem k9(I:Inv X χ σ H s)(hg:Gl X x)(hm:X.mg x=AC u)(h:Q u s)
 (hd:(x==("__debug__"))=AT:=by decide):FM (model X.prog X.w) X.A (eval (.Name x pos) X.env) Q E s:=
 B81 I.ok.kind hg (Calls.loadGlobal_global (by rw[I.ok.glob];exact I.mod.glob.keeps I.bk) hm h) hd
theorem k!(I:Inv X χ σ H s)(hg:Gl X x)(hm:X.mg x=At)(hv:bootBuiltins x=AC u)(h:Q u s)
 (hn:x≠ "__name__":=by decide) (hd:(x==("__debug__"))=AT:=by decide):FM (model X.prog X.w) X.A (eval (.Name x pos) X.env) Q E s:=by
 let⟨mb,h1,h2⟩:=I.mod.blt;exact B81 I.ok.kind hg (Calls.loadGlobal_builtin (by rw[I.ok.glob];exact I.mod.glob.keeps I.bk) hm (by rw[I.ok.blt];exact h1.keeps I.bk) ((h2 x hn).trans hv) h) hd
theorem E?(hg:Gl X x)(hm:X.mg x=AC u)(r:RelV v u)(hd:(x==("__debug__"))=AT:=by decide):PE X (.Name x pos) (tC v):=
 λ _ _ _ H _ I h=>k9 I hg hm ⟨v,H,I,r,h⟩ hd
theorem Fc(hg:Gl X x)(hm:X.mg x=At)(hv:bootBuiltins x=AC u)(r:RelV v u)(hn:x≠ "__name__":=by decide)(hd:(x==("__debug__"))=AT:=by decide):PE X (.Name x pos) (tC v):=
 λ _ _ _ H _ I h=>k! I hg hm hv ⟨v,H,I,r,h⟩ hn hd
def tB(t:TE):TT:=λ σ H Q=>t σ H λ x H1=>∃c,x=.bl c/\Q c H1
theorem Jc(h:PE X e t)(he:∀whole,isTrue e X.env whole=(do let v ←whole;standAt e.pos;holding [v] (truthy v)):=by intro _;rfl):PT X e (tB t):=by intro χ s σ H Q I hw;refine isTrue_plain (da (h χ s σ H _ I hw) ?_)<|he _;rintro v s1 ⟨x,H1,I1,r1,q1⟩;let⟨d,rfl,q⟩:=q1;cases r1;exact A59 ⟨H1,I1,q⟩
variable{rest:γ ι}
def IA(t u:TT):TT:=λ σ H Q=>t σ H λ c H1=>if c=Ch then u σ H1 Q else Q AT H1
def AQ(t u:TT):TT:=λ σ H Q=>t σ H λ c H1=>if c=Ch then Q Ch H1 else u σ H1 Q
def gJ(t:TT):TT:=λ σ H Q=>t σ H λ c H1=>Q (!c) H1
theorem pw_and1(ha:PT X a tA):PW X (.BoolOp .And [a] pos) tA:=by
 intro wh χ s σ H Q I h;refine isTrue_and<|da (ha χ s σ H Q I h) λ c s1 e=>?_;cases c with
 |true=>exact isTrue_and_nil e
 |false=>exact e
theorem pw_or1(ha:PT X a tA):PW X (.BoolOp .Or [a] pos) tA:=by
 intro wh χ s σ H Q I h;refine isTrue_or<|da (ha χ s σ H Q I h) λ c s1 e=>?_;cases c with
 |false=>exact isTrue_or_nil e
 |true=>exact e
theorem pw_and(ha:PT X a tA)(hb:PW X (.BoolOp .And (b::rest) pos) Zd):PW X (.BoolOp .And (a::b::rest) pos) (IA tA Zd):=by
 intro wh χ s σ H Q I h;refine isTrue_and<|da (ha χ s σ H _ I h) ?_;rintro c s1 ⟨H1,I1,q1⟩;cases c with
 |true=>exact hb wh χ s1 σ H1 Q I1 q1
 |false=>exact⟨H1,I1,q1⟩
theorem pw_or(ha:PT X a tA)(hb:PW X (.BoolOp .Or (b::rest) pos) Zd):PW X (.BoolOp .Or (a::b::rest) pos) (AQ tA Zd):=by
 intro wh χ s σ H Q I h;refine isTrue_or<|da (ha χ s σ H _ I h) ?_;rintro c s1 ⟨H1,I1,q1⟩;cases c with
 |true=>exact⟨H1,I1,q1⟩
 |false=>exact hb wh χ s1 σ H1 Q I1 q1
theorem Jd(ha:PT X a tA):PT X (.UnaryOp .Not a pos) (gJ tA):=by intro χ s σ H Q I h;exact isTrue_not<|ha χ s σ H (λ c H1=>Q (!c) H1) I h
def Uo(ta tb:TE):TE:=λ σ H Q=>ta σ H λ x H1=>∃c,x=.bl c/\if c=Ch then tb σ H1 Q else Q (.bl AT) H1
def Y9(ta tb:TE):TE:=λ σ H Q=>ta σ H λ x H1=>∃c,x=.bl c/\if c=Ch then Q (.bl Ch) H1 else tb σ H1 Q
def Ui(ta:TE):TE:=λ σ H Q=>ta σ H λ x H1=>∃c,x=.bl c/\Q (.bl<|!c) H1
theorem Jl(h:PE X a t):PE X (.BoolOp op [a] pos) t:=λ χ s σ H Q I hw=>BoolOp_one<|h χ s σ H Q I hw
theorem Jq(ha:PE X a ta)(hb:PE X (.BoolOp .And (b::rest) pos) tb):PE X (.BoolOp .And (a::b::rest) pos) (Uo ta tb):=by
 intro χ s σ H Q I h;refine BoolOp_and<|da (ha χ s σ H _ I h) ?_;rintro v s1 ⟨x,H1,I1,r1,q1⟩;let⟨c,rfl,q1⟩:=q1;cases r1;refine A59 ?_;cases c with
 |true=>exact hb χ s1 σ H1 Q I1 q1
 |false=>exact⟨.bl AT,H1,I1,rfl,q1⟩
theorem Pb(ha:PE X a ta)(hb:PE X (.BoolOp .Or (b::rest) pos) tb):PE X (.BoolOp .Or (a::b::rest) pos) (Y9 ta tb):=by
 intro χ s σ H Q I h;refine BoolOp_or<|da (ha χ s σ H _ I h) ?_;rintro v s1 ⟨x,H1,I1,r1,q1⟩;let⟨c,rfl,q1⟩:=q1;cases r1;refine A59 ?_;cases c with
 |false=>exact hb χ s1 σ H1 Q I1 q1
 |true=>exact⟨.bl Ch,H1,I1,rfl,q1⟩
theorem QF(ha:PE X a ta):PE X (.UnaryOp .Not a pos) (Ui ta):=by intro χ s σ H Q I h;refine UnaryOp_<|da (ha χ s σ H _ I h) ?_;rintro v s1 ⟨x,H1,I1,r1,q1⟩;let⟨c,rfl,q1⟩:=q1;cases r1;exact not_of<|A59 ⟨.bl<|!c,H1,I1,rfl,q1⟩
def tIf(t:TT)(ta tb:TE):TE:=λ σ H Q=>t σ H λ c H1=>if c=Ch then ta σ H1 Q else tb σ H1 Q
theorem Jn(hc:PT X c tA)(ha:PE X a ta)(hb:PE X b tb):PE X (.IfExp c a b pos) (tIf tA ta tb):=by
 intro χ s σ H Q I h;refine wpAny_IfExp<|da (hc χ s σ H _ I h) ?_;rintro d s1 ⟨H1,I1,q1⟩;cases d with
 |true=>exact ha χ s1 σ H1 Q I1 q1
 |false=>exact hb χ s1 σ H1 Q I1 q1
end
def ka(K:Db)(H:Hp)(a:δ)(xs:γ V):Prop:=
 Rd H a (.lst xs) \/
  ∃(o:μ)(bT:Array ζ)(n:Nat),K.lookup a=AC o/\o.cls=.type "list" /\ o.dict=At/\o.data=.seq bT n/\bT.size<=sizeLine/\Vals xs bT.toList
def nr(K:Db)(H:Hp)(a:δ)(xs:γ V):Prop:=
 Rd H a (.tup xs) \/
  ∃(o:μ)(bT:Array ζ)(n:Nat),K.lookup a=AC o/\o.cls=.type "tuple" /\ (o.data=.seq bT n/\o.dict=At/\o.slots=#[])/\bT.size<=sizeLine/\Vals xs bT.toList
def aaJ:ζ->ε V
|.none=>AC .non
|.bool b=>AC<|.bl b
|.int i _=>AC<|.int i
|.str x _=>AC<|.str x
|.bytes b _=>AC<|.TX b
|.float b _=>AC<|.TJ b
|.ref a=>AC<|.ref a
|.type n=>AC<|.ty n
|_=>At
theorem RelV.abs(r:RelV x u):aaJ u=AC x:=by
 cases x with
 |non=>cases r;rfl
 |bl _=>cases r;rfl
 |int _=>let⟨t,rfl⟩:=r;rfl
 |str _=>let⟨t,rfl⟩:=r;rfl
 |TX _=>let⟨t,rfl⟩:=r;rfl
 |TJ _=>let⟨t,rfl⟩:=r;rfl
 |ref _=>cases r;rfl
 |ty _=>cases r;rfl
theorem RelV.inj(r:RelV x u)(q:RelV y u):x=y:=A06<|r.abs.symm.trans q.abs
theorem Vals.inj:∀{xs ys}{us},Vals xs us->Vals ys us->xs=ys
|_,_,_,.nil,.nil=>rfl
|_,_,_,.cons r t,.cons r' t'=>by rw[r.inj r',Vals.inj t t']
theorem ka.of{K:Db}(h:H a=AC (.lst xs)):ka K H a xs:=.inl<|.inl h
theorem nr.of{K:Db}(h:H a=AC (.tup xs)):nr K H a xs:=.inl<|.inl h
theorem Inv.list(I:Inv X χ σ H s)(h:ka X.K H a xs):∃bT,Vals xs bT/\PlainL s.heap a bT.toArray/\xs.length<=sizeLine:=by
 rcases h with h|⟨o,bT,n,hk,hc,hd,hs,hz,r⟩
 .let⟨z,bT,n,r,e⟩:=h.ok I.cy;exact⟨bT,r,⟨_,n,e,rfl,rfl,rfl⟩,z⟩
 .refine⟨_,r,⟨o,n,I.kB a o hk,hc,hd,by simpa using hs⟩,?_⟩;have e:=r.length;simp only[B82]at e;lia
theorem Inv.tuple(I:Inv X χ σ H s)(h:nr X.K H a xs):∃bT,Vals xs bT/\IsTup s.heap a bT.toArray/\xs.length<=sizeLine:=by
 rcases h with h|⟨o,bT,n,hk,hc,hs,hz,r⟩
 .let⟨z,bT,r,p⟩:=h.ok I.cy;exact⟨bT,r,p.is,z⟩
 .refine⟨_,r,⟨o,I.kB a o hk,hc,n,by simpa using hs.1⟩,?_⟩;have e:=r.length;simp only[B82]at e;lia
theorem Inv.pZ(I:Inv X χ σ H s)(h:ka X.K H a xs)(h':ka X.K H a ys):xs=ys:=by
 let⟨bT,r,⟨o,n,e,_,_,d⟩,_⟩:=I.list h;let⟨BE,r',⟨o',n',e',_,_,d'⟩,_⟩:=I.list h';rw[e]at e';cases e';rw[d]at d';injection d' with d1 _
 have:bT=BE:=by simpa using A10 TD d1
 subst this;exact r.inj r'
theorem Inv.q!(I:Inv X χ σ H s)(h:nr X.K H a xs)(h':nr X.K H a ys):xs=ys:=by
 let⟨bT,r,⟨o,e,_,n,d⟩,_⟩:=I.tuple h;let⟨BE,r',⟨o',e',_,n',d'⟩,_⟩:=I.tuple h';rw[e]at e';cases e';rw[d]at d';injection d' with d1 _
 have:bT=BE:=by simpa using A10 TD d1
 subst this;exact r.inj r'
abbrev Cx.wish(X:Cx)(E:ζ->η->Prop):Cx:={X with xe:=E}
abbrev Cx.gK(X:Cx):Cx:=X.wish λ _ _=>False
theorem Cx.Ok.wish{X:Cx}(ok:X.Ok)(E:ζ->η->Prop):(X.wish E).Ok:=
 ⟨ok.mod,ok.kind,ok.glob,ok.blt,ok.above,ok.inj,ok.has,ok.PQ,ok.hd,ok.frames,ok.IC,ok.Ww,ok.bs,ok.Hx,ok.zi,ok.Ed,ok.lK,ok.Kv⟩
theorem Cx.Ok.h_{X:Cx}(ok:(X.wish E).Ok):X.Ok:=
 ⟨ok.mod,ok.kind,ok.glob,ok.blt,ok.above,ok.inj,ok.has,ok.PQ,ok.hd,ok.frames,ok.IC,ok.Ww,ok.bs,ok.Hx,ok.zi,ok.Ed,ok.lK,ok.Kv⟩
theorem Inv.wish(I:Inv X χ σ H s)(E:ζ->η->Prop):Inv (X.wish E) χ σ H s:=⟨I.ok.wish E,I.os,I.bare,I.base,I.loc,I.cell,I.free,I.gx,I.pin,I.cy,I.len,I.tab⟩
theorem Inv.h_(I:Inv (X.wish E) χ σ H s):Inv X χ σ H s:=⟨I.ok.h_,I.os,I.bare,I.base,I.loc,I.cell,I.free,I.gx,I.pin,I.cy,I.len,I.tab⟩
theorem SP.h_(h:SP (X.wish E) χ D f s'):SP X χ D f s':=by
 cases f with
 |next=>let⟨σ',H',I,q⟩:=h;exact⟨σ',H',I.h_,q⟩
 |brk=>let⟨σ',H',I,q⟩:=h;exact⟨σ',H',I.h_,q⟩
 |cont=>let⟨σ',H',I,q⟩:=h;exact⟨σ',H',I.h_,q⟩
 |ret u=>let⟨v,σ',H',I,r,q⟩:=h;exact⟨v,σ',H',I.h_,r,q⟩
theorem PE.gK(h:PE X.gK e t):PE X e t:=λ χ s σ H Q I hw=>A21 (h χ s σ H Q (I.wish _) hw) (by rintro _ _ ⟨v,H',I',r,q⟩;exact⟨v,H',I'.h_,r,q⟩) λ _ _ z=>GE z
theorem PT.gK(h:PT X.gK e t):PT X e t:=λ χ s σ H Q I hw=>A21 (h χ s σ H Q (I.wish _) hw) (by rintro _ _ ⟨H',I',q⟩;exact⟨H',I'.h_,q⟩) λ _ _ z=>GE z
theorem s?.gK{st:γ θ}(h:s? X.gK st t):s? X st t:=λ χ s σ H D I hw=>A21 (h χ s σ H D (I.wish _) hw) (λ _ _ q=>q.h_) λ _ _ z=>GE z
section
variable{st:θ}{rest:γ θ}
def Uj:TS:=λ D σ H=>D.nx σ H
def Y7(t u:TS):TS:=λ D σ H=>t {D with nx:=u D} σ H
theorem E7:s? X [] Uj:=λ _ _ σ H _ I h=>B44 ⟨σ,H,I,h⟩
theorem kI(h1:PS X st t)(h2:s? X rest u):s? X (st::rest) (Y7 t u):=by
 intro χ s σ H D I h;refine wpAny_execs_cons<|da (h1 χ s σ H {D with nx:=u D} I h) λ f s1 q=>?_;cases f with
 |next=>let⟨σ',H',I',q⟩:=q;exact h2 χ s1 σ' H' D I' q
 |ret v=>exact q
 |brk=>exact q
 |cont=>exact q
theorem mY(h1:PS X st t):s? X [st] t:=by
 intro χ s σ H D I h;refine wpAny_execs_cons<|da (h1 χ s σ H D I h) λ f s1 q=>?_;cases f with
 |next=>exact B44 q
 |ret v=>exact q
 |brk=>exact q
 |cont=>exact q
theorem Inv.quiet(I:Inv X χ σ H s):interactive X.env=AT:=by simp[interactive,I.ok.kind]
def Ul(te:TE):TS:=λ D σ H=>te σ H λ _ H1=>D.nx σ H1
theorem uk(he:PE X e te)(hs:swapsWith e At pos.line X.env=pure AT:=by rfl):PS X (.Expr e pos) (Ul te):=by intro χ s σ H D I h;exact wpAny_Expr_any (da (he χ s σ H _ I h) <|by rintro v s1 ⟨x,H1,I1,r1,q1⟩;exact⟨σ,H1,I1,q1⟩) I.quiet hs
def Y8(te:TE):TS:=λ D σ H=>te σ H D.rt
theorem Jf(he:PE X e te):PS X (.Return (AC e) pos) (Y8 te):=by intro χ s σ H D I h;exact wpAny_Return_some<|da (he χ s σ H _ I h) <|by rintro v s1 ⟨x,H1,I1,r1,q1⟩;exact⟨x,σ,H1,I1,r1,q1⟩
def Y?(c:TT)(t u:TS):TS:=λ D σ H=>c σ H λ b H1=>if b=Ch then t D σ H1 else u D σ H1
theorem Jg(hc:PT X c tc)(ha:s? X a t)(hb:s? X b u):PS X (.If c a b pos) (Y? tc t u):=by
 intro χ s σ H D I h;refine wpAny_If<|da (hc χ s σ H _ I h) ?_;rintro d s1 ⟨H1,I1,q1⟩;cases d with
 |true=>exact ha χ s1 σ H1 D I1 q1
 |false=>exact hb χ s1 σ H1 D I1 q1
end
abbrev TG:=V->St->Hp->(St->Hp->Prop)->Prop
abbrev TZ:=γ V->St->Hp->(St->Hp->Prop)->Prop
def PG(X:Cx)(target:ι)(t:TG):Prop:=
 ∀ (χ:γ (δ×μ))(s:η)(σ:St)(H:Hp)(v:V)(u:ζ)(Q:St->Hp->Prop),Inv X χ σ H s->RelV v u->t v σ H Q ->
  FM (model X.prog X.w) X.A (assign target X.env u) (λ _ s'=>∃σ' H',Inv X χ σ' H' s'/\Q σ' H') X.xe s
def L'(X:Cx)(ts:γ ι)(t:TZ):Prop:=
 ∀ (χ:γ (δ×μ))(s:η)(σ:St)(H:Hp)(vs:γ V)(us:γ ζ)(Q:St->Hp->Prop),Inv X χ σ H s->Vals vs us->t vs σ H Q ->
  FM (model X.prog X.w) X.A (assignInOrder ((assignEach ts X.env).map (·.2)) us) (λ _ s'=>∃σ' H',Inv X χ σ' H' s'/\Q σ' H') X.xe s
abbrev TIp:=V->V->Hp->VK->Prop
def PIp(X:Cx)(op:Operator)(t:TIp):Prop:=
 ∀ (χ:γ (δ×μ))(s:η)(σ:St)(H:Hp)(x y:V)(v u:ζ)(Q:VK),Inv X χ σ H s->RelV x v->RelV y u->t x y H Q ->
  FM (model X.prog X.w) X.A (inplaceOp op v u) (EP X χ σ Q) X.xe s
def bA(i:Nat):TG:=λ v σ H Q=>Q (σ.set i<|some v) H
theorem E9(hN:X.N.Nodup)(hi:X.N[i]?=AC x)(hx:Loc X.env.scope x)(hf:X.fn x=Ch\/X.env.scope.names.lookup x=AC .local:=by first|exact .inl rfl|exact .inr rfl|assumption):PG X (.Name x pos) (bA i):=by intro χ s σ H v u Q I r h;exact wpAny_assign_Name<|pH I hN hi hx r (λ s' I'=>⟨_,H,I',h⟩) hf
def _!:TZ:=λ vs σ H Q=>vs=[]/\Q σ H
def Wl(t:TG)(u:TZ):TZ:=λ vs σ H Q=>∃v r,vs=v::r/\t v σ H λ σ' H'=>u r σ' H' Q
theorem MW:L' X [] _!:=by intro χ s σ H vs us Q I r h;let⟨e,h⟩:=h;subst e;cases r;exact assignInOrder_nil ⟨σ,H,I,h⟩
theorem Jj(h1:PG X e t)(h2:L' X es u)
 (hs:(assignEach (e::es) X.env).map (·.2)=assign e X.env::(assignEach es X.env).map (·.2):=by rfl):L' X (e::es) (Wl t u):=by
 intro χ s σ H vs us Q I r h;let⟨v,vr,e1,h⟩:=h;subst e1;cases r with
 |cons r rr=>rw[hs];refine assignInOrder_cons<|da (h1 χ s σ H _ _ _ I r h) ?_;rintro _ s1 ⟨σ1,H1,I1,q1⟩;exact h2 χ s1 σ1 H1 _ _ Q I1 rr q1
def kq(K:Db)(n:Nat)(t:TZ):TG:=λ v σ H Q=>∃a xs,v=.ref a/\nr K H a xs/\xs.length=n/\t xs σ H Q
theorem QB(hc:X.calm=Ch)(h:L' X es t)
 (hn:(assignEach es X.env).length=n:=by rfl) (vL:(assignEach es X.env).findIdx? (·.1)=At:=by rfl):PG X (.Tuple es k pos) (kq X.K n t):=by
 intro χ s σ H v u Q I r hw;let⟨a,xs,e1,hq,hl,hw⟩:=hw;subst e1;cases r;let⟨bT,rv,ht,hz⟩:=I.tuple hq;refine assign_Tuple_tuple (I.ok.hd hc) ht (by simp[hn,<-hl,rv.length]) vL λ h' hx=>?_;have I1:=I.kept (t':=s.toks) λ b o e=>hx b o (A14<|A03 e) e;exact h χ _ σ H xs _ Q I1 (by simpa using rv) hw
def Zf(te:TE)(g:TG):TS:=λ D σ H=>te σ H λ x H1=>g x σ H1 D.nx
theorem y!(hN:X.N.Nodup)(hi:X.N[i]?=AC x)(hx:Loc X.env.scope x)(he:PE X e te)(hs:swapsWith e (AC<|.Name x pos') pos.line X.env=pure AT:=by rfl)(hf:X.fn x=Ch\/X.env.scope.names.lookup x=AC .local:=by first|exact .inl rfl|exact .inr rfl|assumption):
 PS X (.Assign [.Name x pos'] e pos) (Zf te<|bA i):=by
 intro χ s σ H D I h;refine wpAny_Assign_Name (da (he χ s σ H _ I h) ?_) hs;rintro v s1 ⟨y,H1,I1,r1,q1⟩;exact pH I1 hN hi hx r1 (λ s2 I2=>⟨_,H1,I2,q1⟩) hf
def Ze(i:Nat)(te:TE)(ti:TIp):TS:=λ D σ H=>∃x,σ[i]?=AC (AC x)/\te σ H λ y H1=>ti x y H1 λ z H2=>D.nx (σ.set i<|some z) H2
theorem Qx(hN:X.N.Nodup)(hi:X.N[i]?=AC x)(hx:Loc X.env.scope x)(he:PE X e te)(ho:PIp X op ti)(hf:X.fn x=Ch\/X.env.scope.names.lookup x=AC .local:=by first|exact .inl rfl|exact .inr rfl|assumption) :
 PS X (.AugAssign (.Name x pos') op e pos) (Ze i te ti):=by
 intro χ s σ H D I h;let⟨v,e1,h⟩:=h;let⟨m,hn,hl⟩:=I.loc;have vis:HD X.env.scope x:=by rcases hx with k|k;exact .inl k;exact .inr<|.inl k
 let⟨u,r,l⟩:=hl i x v hi e1 vis;refine wpAny_AugAssign_Name ?_;have go:FM (model X.prog X.w) X.A (eval e X.env) (λ w s₂=>FM (model X.prog X.w) X.A (inplaceOp op u w) (λ r s₃=>FM (model X.prog X.w) X.A (storeName X.env x r) (λ _=>SP X χ D .next) X.xe s₃) X.xe s₂) X.xe s:=by refine da (he χ s σ H _ I h) ?_;rintro w s1 ⟨y,H1,I1,r1,q1⟩;refine da (ho χ s1 σ H1 v y u w _ I1 r r1 q1) ?_;rintro z s2 ⟨zv,H2,I2,r2,q2⟩;exact pH I2 hN hi hx r2 (λ s3 I3=>⟨_,H2,I3,q2⟩) hf
 rcases l with⟨hk,hm⟩|⟨hk,c,hc,sQ⟩
 .exact wpAny_loadName_local I.ok.kind hk hn hm go
 .rcases hk with hk|hk
  .exact wpAny_loadName_cell I.ok.kind hk hc sQ go
  .rcases hx with k|k
   .have:X.env.scope.names.lookup x=AC .free:=hk;rw[k]at this;cases this
   .have:X.env.scope.names.lookup x=AC .free:=hk;rw[k]at this;cases this
structure It where
 go:Nat->Hp->Prop
 CB:Nat->Hp->V->Hp->Prop
 stop:Nat->Hp->Prop
def qN(X:Cx)(χ:γ (δ×μ))(H:Hp)(b:δ):Prop:=
 H b=At/\b≠X.env.locals/\b∉X.fs/\(b∈X.ex\/X.s₀.heap.objs.size<=b)/\(∀x c,X.env.cells.lookup x=AC c->c≠b)/\∀p∈X.pn++χ,p.1≠b
theorem Inv.xp(I:Inv X χ σ H s)(hb:s.heap.objs.size<=b)(hn:H' b=At):qN X χ H' b:=by
 refine⟨hn,A42<|A20 I.lt hb,I.Ra hb,.inr<|A27 I.sz hb,λ x c e z=>?_,λ p hp z=>?_⟩
 .let⟨v,q⟩:=I.cell x c e;exact absurd (A20 q.lt (by rw[z];exact hb))<|A82 _
 .exact absurd (A20 (A03 (I.pin p hp).1) (by rw[z];exact hb))<|A82 _
structure Turn(P:Program)(w:World)(K:Db)(tg:Expr)(J:It)(fp:List Addr)(it:Addr)(tn:Nat->Heap->Prop):Prop where
 mem:it∈fp
 obj:∀i h,tn i h->∀b∈fp,∃o,h.get? b=AC o/\∀v,o.data≠.cell v
 keep:∀i h h',tn i h->(∀b∈fp,∀o,h.get? b=AC o->h'.get? b=AC o)->tn i h'
 item:∀(X:Cx),X.prog=P->X.w=w->X.K=K->X.calm=Ch->∀(i:Nat)(χ:List (Addr×Obj))(s:Shared)(σ:St)(H:Hp)(E:Value->Shared->Prop),Inv X χ σ H s->(∀b∈fp,qN X χ H b)->tn i s.heap->J.go i H ->
  FM (model P w) X.A (pyNext<|.ref it) (λ r s1=>∃u,r=AC u /\
   FM (model P w) X.A (letOwnedTupleGo tg (.ref it) u) (λ _ s2=>∃x H',Inv X χ σ H' s2/\RelV x u/\J.CB i H x H'/\tn (i+1) s2.heap/\∀b∈fp,H' b=At) E s1) E s
 done:∀(X:Cx),X.prog=P->X.w=w->X.K=K->X.calm=Ch->∀(i:Nat)(χ:List (Addr×Obj))(s:Shared)(σ:St)(H:Hp)(E:Value->Shared->Prop),Inv X χ σ H s->(∀b∈fp,qN X χ H b)->tn i s.heap->J.stop i H ->
  FM (model P w) X.A (pyNext<|.ref it) (λ r s1=>r=At/\Inv X χ σ H s1) E s
 self:∀(A:Around)(i:Nat)(s:Shared)(Q:Value->Shared->Prop)(E:Value->Shared->Prop),tn i s.heap->Q (.ref it) s->FM (model P w) A (pyIter<|.ref it) Q E s
abbrev TI:=St->Hp->(It->Hp->Prop)->Prop
def YS(X:Cx)(χ:γ (δ×μ))(σ:St)(tg:ι)(R:It->Hp->Prop)(_a:ζ)(s2:η):Prop:=
 ∃(it:δ)(fp:γ δ)(tn:Nat->ν->Prop)(J:It)(H':Hp),_a=.ref it/\Inv X χ σ H' s2/\Turn X.prog X.w X.K tg J fp it tn/\tn 0 s2.heap/\(∀b∈fp,qN X χ H' b)/\R J H'
def PI(X:Cx)(tg iter:ι)(wi:TI):Prop:=
 ∀ (χ:γ (δ×μ))(s:η)(σ:St)(H:Hp)(R:It->Hp->Prop),Inv X χ σ H s->wi σ H R ->
  FM (model X.prog X.w) X.A (eval iter X.env) (λ v s1=>FM (model X.prog X.w) X.A (pyIter v) (YS X χ σ tg R) X.xe s1) X.xe s
theorem BO(ho:s.heap.get? it=AC o)(hc:o.cls=.type n)(hd:o.data=.fields vs)
    (hn:["enumerate","zip","dict_itemiterator","dict_reverseitemiterator","odict_iterator","itertools.zip_longest","itertools.pairwise"].contains n=AT) (hQ:Q () s):FM M A (letOwnedTupleGo tg (.ref it) u) Q E s:=by
  cases tg<;>first
    |exact M2 hQ
    | (cases u<;>first
        |exact M2 hQ
        | (refine T0<|wpAny_load ho ?_
           rw[hc,hd];show FM M A (if(["enumerate","zip","dict_itemiterator","dict_reverseitemiterator","odict_iterator","itertools.zip_longest","itertools.pairwise"].contains n&&vs[0]?==AC _)=Ch then _ else _) Q E s;rw[P3 (by intro h;rw[hn,AC4]at h;cases h)];exact M2 hQ))
def Itl(K:Db)(a:δ):It:=
 ⟨λ i H=>∃xs x,ka K H a xs/\xs[i]?=AC x,λ i H x H'=>H'=H/\∀xs,ka K H a xs->xs[i]?=AC x,λ i H=>∃xs,ka K H a xs/\xs.length<=i⟩
def Itt(K:Db)(a:δ):It:=
 ⟨λ i H=>∃xs x,nr K H a xs/\xs[i]?=AC x,λ i H x H'=>H'=H/\∀xs,nr K H a xs->xs[i]?=AC x,λ i H=>∃xs,nr K H a xs/\xs.length<=i⟩
def PY(lo:Int)(n:Nat):It:=⟨λ i _=>i<n,λ i H x H'=>H'=H/\x=.int (lo+i),λ i _=>n<=i⟩
theorem Gu{K:Db}(a it:δ):Turn P w K tg (Itl K a) [it] it (λ i h=>h.IsListIter it a i) where
 mem:=by simp
 obj:=λ i h st b hb=>by
  have e:b=it:=by simpa using hb
  subst e;let⟨o,e,c,d⟩:=st;exact⟨o,e,λ v z=>by rw[d]at z;cases z⟩
 keep:=λ i h h' st k=>st.at λ o e=>k it ∅ o e
 item:=by intro X hP hw hK hc i χ s σ H E I hf st hg;subst hP hw hK;let⟨xs,x,hq,hx⟩:=hg;let⟨bT,rv,p,hz⟩:=I.list hq;let⟨u,hu,ru⟩:=rv.get hx;let⟨f0,f1,f2,f3,f4,f5⟩:=hf it ∅;refine wpAny_pyNext_list_item st p.isList (by simpa using hu) λ h' AY sb=>?_;have I1:=I.turned (t':=s.toks) (λ b o hb e=>(sb.2 b hb).trans e) f0 f1 f3 f4 f5;let⟨o,e,c,d⟩:=id AY;exact⟨u,rfl,BO e c d ∅ ⟨x,H,I1,ru,⟨rfl,λ ys hy=>by rw[I.pZ hy hq];exact hx⟩,AY,λ b hb=>(hf b hb).1⟩⟩
 done:=by intro X hP hw hK hc i χ s σ H E I hf st hg;subst hP hw hK;let⟨xs,hq,hx⟩:=hg;let⟨bT,rv,p,hz⟩:=I.list hq;let⟨f0,f1,f2,f3,f4,f5⟩:=hf it ∅;have hl:=rv.length;exact wpAny_pyNext_list_end (I.ok.hd hc) st p.isList (by simp;lia) λ h' eb=>⟨rfl,I.turned (λ b o hb e=>eb b o hb e) f0 f1 f3 f4 f5⟩
 self:=λ _ _ _ _ _ st h=>wpAny_pyIter_listiter st h
theorem CU{K:Db}(a it:δ):Turn P w K tg (Itt K a) [it] it (λ i h=>h.IsTupleIter it a i) where
 mem:=by simp
 obj:=λ i h st b hb=>by
  have e:b=it:=by simpa using hb
  subst e;let⟨o,e,c,d⟩:=st;exact⟨o,e,λ v z=>by rw[d]at z;cases z⟩
 keep:=λ i h h' st k=>st.at λ o e=>k it ∅ o e
 item:=by intro X hP hw hK hc i χ s σ H E I hf st hg;subst hP hw hK;let⟨xs,x,hq,hx⟩:=hg;let⟨bT,rv,p,hz⟩:=I.tuple hq;let⟨u,hu,ru⟩:=rv.get hx;let⟨f0,f1,f2,f3,f4,f5⟩:=hf it ∅;refine wpAny_pyNext_tuple_item st (p) (by simpa using hu) λ h' AY sb=>?_;have I1:=I.turned (t':=s.toks) (λ b o hb e=>(sb.2 b hb).trans e) f0 f1 f3 f4 f5;let⟨o,e,c,d⟩:=id AY;exact⟨u,rfl,BO e c d ∅ ⟨x,H,I1,ru,⟨rfl,λ ys hy=>by rw[I.q! hy hq];exact hx⟩,AY,λ b hb=>(hf b hb).1⟩⟩
 done:=by intro X hP hw hK hc i χ s σ H E I hf st hg;subst hP hw hK;let⟨xs,hq,hx⟩:=hg;let⟨bT,rv,p,hz⟩:=I.tuple hq;let⟨f0,f1,f2,f3,f4,f5⟩:=hf it ∅;have hl:=rv.length;exact wpAny_pyNext_tuple_end (I.ok.hd hc) st (p) (by simp;lia) λ h' eb=>⟨rfl,I.turned (λ b o hb e=>eb b o hb e) f0 f1 f3 f4 f5⟩
 self:=λ _ _ _ _ _ st h=>wpAny_pyIter_tupleiter st h
theorem CV{K:Db}(it:δ)(lo:Int)(n:Nat):Turn P w K tg (PY lo n) [it] it (λ i h=>IsRangeIter h it (lo+(i)*1) ((n)-(i)) 1) where
 mem:=by simp
 obj:=λ i h st b hb=>by
  have e:b=it:=by simpa using hb
  subst e;exact⟨_,st,λ v z=>by have z':=z;cases z'⟩
 keep:=λ i h h' st k=>k it ∅ _ st
 item:=by intro X hP hw hK hc i χ s σ H E I hf st hg;subst hP hw hK;let⟨f0,f1,f2,f3,f4,f5⟩:=hf it ∅;have W:=Walks.range (prog:=X.prog) (w:=X.w) (I.ok.hd hc) it lo 1 n;refine W.item i s _ _ hg st λ v h' tk hv AY kk=>?_;let⟨t,rfl⟩:=hv;have I1:Inv X χ σ H {s with heap:=h',toks:=tk}:=I.turned (λ b o hb e=>kk b o (by simpa using hb) e) f0 f1 f3 f4 f5;refine⟨_,rfl,BO AY rfl rfl ∅ ⟨.int<|lo+i,H,I1,⟨t,?_⟩,⟨rfl,rfl⟩,AY,λ b hb=>(hf b hb).1⟩⟩;rw[B45]
 done:=by intro X hP hw hK hc i χ s σ H E I hf st hg;subst hP hw hK;let⟨f0,f1,f2,f3,f4,f5⟩:=hf it ∅;exact wpAny_pyNext_range_end (I.ok.hd hc) st (by have:n<=i:=hg;lia) λ h' eb=>⟨rfl,I.turned (λ b o hb e=>eb b o hb e) f0 f1 f3 f4 f5⟩
 self:=λ _ _ _ _ _ st h=>wpAny_pyIter_rangeiter st h
def iR(ta:TA):TI:=λ σ H R=>ta σ H λ vs H1=>∃j:Int,vs=[.int j]/\-(2^62)<=j/\j<2^62/\R (PY 0 j.toNat) H1
def yd(ta:TA):TI:=λ σ H R=>ta σ H λ vs H1=>∃i j:Int,vs=[.int i,.int j]/\(-(2^62)<=i/\i<2^62/\-(2^62)<=j/\j<2^62)/\R (PY i (j-i).toNat) H1
def Y_(wi:TI)(g:TG)(tb:TS):TS:=λ D σ H=>wi σ H λ J H1=>∃W:Nat->Nat->St->Hp->Prop,(∃m,W 0 m σ H1)/\∀i m σ H,W i m σ H ->
 (J.stop i H/\D.nx σ H)\/(J.go i H/\∃N:St->Hp->Prop,(∀σ' H',N σ' H'->∃m',m'<m/\W (i+1) m' σ' H')/\∀x H',J.CB i H x H'->g x σ H' λ σ2 H2=>tb {D with nx:=N,ct:=N,bk:=D.nx} σ2 H2)
def u7(fp:γ δ)(h:ν):γ (δ×μ):=fp.filterMap λ b=>(h.get? b).map λ o=>(b,o)
theorem k8(hb:b∈fp)(e:h.get? b=AC o):(b,o)∈u7 fp h:=B83.mpr ⟨b,hb,by rw[e];rfl⟩
theorem GK(hp:p∈u7 fp h):p.1∈fp/\h.get? p.1=AC p.2:=by
 let⟨b,hb,e⟩:=B83.mp hp;cases q:h.get? b with
 |none=>rw[q]at e;cases e
 |some o=>rw[q]at e;have e':=A06 e;subst e';exact⟨hb,q⟩
theorem Inv.pinned(I:Inv X χ σ H s)(hf:∀b∈fp,qN X χ H b)(ho:∀b∈fp,∃o,s.heap.get? b=AC o/\∀v,o.data≠.cell v):Inv X (χ++u7 fp s.heap) σ H s:=
 I.E8 λ p hp=>(A53.mp hp).elim (λ z=>I.pin p<|A43 _ z) λ z=>by let⟨hb,e⟩:=GK z;let⟨f0,f1,f2,_⟩:=hf p.1 hb;let⟨o,e',d⟩:=ho p.1 hb;rw[e]at e';cases e';exact⟨e,f0,f1,f2,d⟩
theorem Inv.pw(I:Inv X (χ++pl) σ H s):Inv X χ σ H s:=I.E8 λ p hp=>I.pin p<|A43 _<|A98 _ hp
theorem Jh(hp:PassesOwn (model X.prog X.w) X.A X.env X.xe)(hc:X.calm=Ch)(hi:PI X tg iter wi)(hg:PG X tg g)(hb:s? X body tb)
 (hs:∀x,foldedSetIterable iter X.env x=pure x:=by intro _;rfl):PS X (.For tg iter body [] pos) (Y_ wi g tb):=by
 intro χ s σ H D I h;refine wpAny_For (da (hi χ s σ H _ I h) λ v s1 h1=>da h1 λ _a s2 h2=>?_) hs;let⟨it,fp,tn,J,H2,e,I2,T,Cu,f2,W,⟨m0,w0⟩,turn⟩:=h2;subst e
 -- Y0 stays true of Qe DN objects through Qe loop
 have C1:∀{H'},(∀b∈fp,H' b=At)->∀b∈fp,qN X χ H' b:=λ hn b hb=>⟨hn b hb,(f2 b hb).2⟩
 refine codeAny_forLoop_any (λ n s'=>∃i σ' H',Inv X χ σ' H' s'/\tn i s'.heap/\(∀b∈fp,H' b=At)/\W i n σ' H') ?_ m0 ⟨0,σ,H2,I2,Cu,λ b hb=>(f2 b hb).1,w0⟩;rintro n s3 ⟨i,σ3,H3,I3,ID,Wr,w3⟩;rcases turn i n σ3 H3 w3 with⟨stop,qn⟩|⟨go,N,hN,step⟩
 .refine B18 hp<|da (T.done X rfl rfl rfl hc i χ s3 σ3 H3 X.xe I3 (C1 Wr) ID stop) ?_;rintro r s4 ⟨hr,I4⟩;subst hr;exact B44 ⟨σ3,H3,I4,qn⟩
 .refine B18 hp<|da (T.item X rfl rfl rfl hc i χ s3 σ3 H3 X.xe I3 (C1 Wr) ID go) ?_;rintro r s4 ⟨u,hr,h4⟩;subst hr;refine B18 hp<|da h4 ?_;rintro _ s5 ⟨x,H5,I5,r5,y5,yT,fr5⟩;have I5':=I5.pinned (C1 fr5)<|T.obj _ _ yT;refine B18 hp<|da (hg _ s5 σ3 H5 x u _ I5' r5<|step x H5 y5) ?_;rintro _ s6 ⟨σ6,H6,I6,q6⟩;refine B18 hp<|da (hb _ s6 σ6 H6 _ I6 q6) λ f s7 q7=>?_;have again:∀{σ7}{H7},Inv X (χ++u7 fp s5.heap) σ7 H7 s7->N σ7 H7->∃m,m<n/\∃i σ' H',Inv X χ σ' H' s7/\tn i s7.heap/\(∀b∈fp,H' b=At)/\W i m σ' H':=λ {σ7 H7} I7 n7=>by let⟨m',hm,w7⟩:=hN σ7 H7 n7;refine⟨m',hm,i+1,σ7,H7,I7.pw,T.keep _ _ _ yT λ b hb o e=>(I7.pin (b,o)<|A43 _<|A43 _<|k8 hb e).1,λ b hb=>?_,w7⟩;let⟨o,e,d⟩:=T.obj _ _ yT b hb;exact(I7.pin (b,o)<|A43 _<|A43 _<|k8 hb e).2.1
  cases f with
  |next=>let⟨σ7,H7,I7,n7⟩:=q7;exact again I7 n7
  |cont=>let⟨σ7,H7,I7,n7⟩:=q7;exact again I7 n7
  |brk=>let⟨σ7,H7,I7,q7⟩:=q7;exact⟨σ7,H7,I7.pw,q7⟩
  |ret v=>let⟨x7,σ7,H7,I7,r7,q7⟩:=q7;exact⟨x7,σ7,H7,I7.pw,r7,q7⟩
abbrev R2:=V->V->Hp->VK->Prop
def kC(X:Cx)(f:ζ->ζ->Sem ζ)(r:R2):Prop:=
 ∀ (χ:γ (δ×μ))(s:η)(σ:St)(H:Hp)(x y:V)(v u:ζ)(Q:VK),Inv X χ σ H s->RelV x v->RelV y u->r x y H Q ->
  FM (model X.prog X.w) X.A (f v u) (EP X χ σ Q) X.xe s
def UnR(X:Cx)(f:ζ->Sem ζ)(r:V->Hp->VK->Prop):Prop:=
 ∀ (χ:γ (δ×μ))(s:η)(σ:St)(H:Hp)(x:V)(v:ζ)(Q:VK),Inv X χ σ H s->RelV x v->r x H Q ->
  FM (model X.prog X.w) X.A (f v) (EP X χ σ Q) X.xe s
def mQ(X:Cx)(f:ζ)(r:γ V->Hp->VK->Prop):Prop:=
 ∀ (χ:γ (δ×μ))(s:η)(σ:St)(H:Hp)(xs:γ V)(us:γ ζ)(Q:VK),Inv X χ σ H s->Vals xs us->r xs H Q ->
  FM (model X.prog X.w) X.A (call f us) (EP X χ σ Q) X.xe s
def Ms(r:R2)(ta tb:TE):TE:=λ σ H Q=>ta σ H λ x H1=>tb σ H1 λ y H2=>r x y H2 Q
def tUn(r:V->Hp->VK->Prop)(ta:TE):TE:=λ σ H Q=>ta σ H λ x H1=>r x H1 Q
def rI(C:Int->Int->Prop)(g:Int->Int->V):R2:=λ x y H Q=>∃i j,x=.int i/\y=.int j/\C i j/\Q (g i j) H
def MO(g:Int->Int->V):R2:=λ x y H Q=>∃i j,x=.int i/\y=.int j/\Q (g i j) H
def rU(g:Int->V):V->Hp->VK->Prop:=λ x H Q=>∃i,x=.int i/\Q (g i) H
theorem SG(ha:PE X a ta)(hb:PE X b tb){R:V->V->Hp->Prop}(I:Inv X χ σ H s)
 (h:ta σ H λ x H1=>tb σ H1 λ y H2=>R x y H2){f:ζ->ζ->Sem ζ}
 (hf:∀v u s2 x y H2,Inv X χ σ H2 s2->RelV x v->RelV y u->R x y H2->FM (model X.prog X.w) X.A (f v u) Q X.xe s2) :
 FM (model X.prog X.w) X.A (eval a X.env) (λ v s₁=>FM (model X.prog X.w) X.A (eval b X.env) (λ u s₂=>FM (model X.prog X.w) X.A (f v u) Q X.xe s₂) X.xe s₁) X.xe s:=by
 refine da (ha χ s σ H _ I h) ?_;rintro v s1 ⟨x,H1,I1,r1,q1⟩;refine da (hb χ s1 σ H1 _ I1 q1) ?_;rintro u s2 ⟨y,H2,I2,r2,q2⟩;exact hf v u s2 x y H2 I2 r1 r2 q2
theorem Jk(ho:kC X (binaryOp op) r)(ha:PE X a ta)(hb:PE X b tb):PE X (.BinOp a op b pos) (Ms r ta tb):=by intro χ s σ H Q I h;exact wpAny_BinOp<|SG ha hb I h λ v u s2 x y H2 I2 rx ry q=>ho χ s2 σ H2 x y v u Q I2 rx ry q
theorem UO(ho:UnR X (unaryOp op) r)(ha:PE X a ta):PE X (.UnaryOp op a pos) (tUn r ta):=by intro χ s σ H Q I h;exact UnaryOp_<|da (ha χ s σ H _ I h) <|by rintro v s1 ⟨x,H1,I1,r1,q1⟩;exact ho χ s1 σ H1 x v Q I1 r1 q1
theorem UX{g:Int->Int->Int}
 (rule:∀i j t u s Q E,C i j->Q (.int (g i j) s.toks) {s with toks:=s.toks+1}->FM (model X.prog X.w) X.A (f (.int i t)<|.int j u) Q E s) :
 kC X f (rI C λ i j=>.int<|g i j):=by
 intro χ s σ H x y v u Q I rx ry h;let⟨i,j,rfl,rfl,hc,q⟩:=h;let⟨t,rfl⟩:=rx;let⟨t',rfl⟩:=ry;exact rule i j t t' s _ _ hc ⟨.int _,H,I.tok _,⟨_,rfl⟩,q⟩
theorem UW{g:Int->Int->Int}
 (rule:∀i j t u s Q E,Q (.int (g i j) s.toks) {s with toks:=s.toks+1}->FM (model X.prog X.w) X.A (f (.int i t)<|.int j u) Q E s) :
 kC X f (MO λ i j=>.int<|g i j):=by
 intro χ s σ H x y v u Q I rx ry h;let⟨i,j,rfl,rfl,q⟩:=h;let⟨t,rfl⟩:=rx;let⟨t',rfl⟩:=ry;exact rule i j t t' s _ _ ⟨.int _,H,I.tok _,⟨_,rfl⟩,q⟩
theorem M7{g:Int->Int->Bool}
 (rule:∀i j t u s Q E,Q (.bool<|g i j) s->FM (model X.prog X.w) X.A (f (.int i t)<|.int j u) Q E s) :
 kC X f (MO λ i j=>.bl<|g i j):=by
 intro χ s σ H x y v u Q I rx ry h;let⟨i,j,rfl,rfl,q⟩:=h;let⟨t,rfl⟩:=rx;let⟨t',rfl⟩:=ry;exact rule i j t t' s _ _ ⟨.bl _,H,I,rfl,q⟩
def aa4(i j:Int):Prop:=0<=j/\j<=1000000/\i.natAbs<2^64
theorem Q1:kC X (binaryOp .Add) (MO λ i j=>.int<|i+j):=UW λ _ _ _ _ _ _ _ q=>add_int q
theorem QV:kC X (binaryOp .Sub) (MO λ i j=>.int<|i-j):=UW λ _ _ _ _ _ _ _ q=>sub_int q
theorem QZ:kC X (binaryOp .Mod) (rI (λ _ j=>0<j) λ i j=>.int<|i % j):=UX λ i j _ _ _ _ _ hc q=>by exact mod_int' ∅ (by rw[Int.fmod_eq_emod_of_nonneg i ∅];exact q)
theorem QY:kC X (binaryOp .Pow) (rI aa4 λ i j=>.int<|i^j.toNat):=UX λ _ _ _ _ _ _ _ hc q=>pow_int_small hc.1 hc.2.1 hc.2.2 q
theorem unI{g:Int->Int}
 (rule:∀i t s Q E,Q (.int (g i) s.toks) {s with toks:=s.toks+1}->FM (model X.prog X.w) X.A (f<|.int i t) Q E s) :
 UnR X f (rU λ i=>.int<|g i):=by
 intro χ s σ H x v Q I rx h;let⟨i,rfl,q⟩:=h;let⟨t,rfl⟩:=rx;exact rule i t s _ _ ⟨.int _,H,I.tok _,⟨_,rfl⟩,q⟩
theorem P?:UnR X (unaryOp .USub) (rU λ i=>.int<|-i):=unI λ _ _ _ _ _ q=>neg_int q
theorem D!(I:Inv X χ σ H s)(q:Q (.bl k) H)(e:k=k'):EP X χ σ Q (.bool k') s:=by subst e;exact⟨.bl k,H,I,rfl,q⟩
theorem UR:kC X (compareOp .Lt) (MO λ i j=>.bl<|decide<|i<j):=M7 λ _ _ _ _ _ _ _ q=>lt_int q
theorem US:kC X (compareOp .LtE) (MO λ i j=>.bl<|decide<|i<=j):=M7 λ _ _ _ _ _ _ _ q=>le_int q
theorem UT:kC X (compareOp .Gt) (MO λ i j=>.bl<|decide<|j<i):=M7 λ _ _ _ _ _ _ _ q=>gt_int q
theorem UU:kC X (compareOp .GtE) (MO λ i j=>.bl<|decide<|j<=i):=M7 λ _ _ _ _ _ _ _ q=>ge_int q
theorem Jv:kC X (compareOp .Is) (λ x y H Q=>y=.non/\Q (.bl<|decide<|x=.non) H):=by
 intro χ s σ H x y v u Q I rx ry h;let⟨rfl,q⟩:=h;cases ry;refine is_none_gen<|D! I q ?_;cases x<;>first
  |(cases rx;rfl)
  |(let⟨t,rfl⟩:=rx;rfl)
theorem M0:kC X (compareOp .IsNot) (λ x y H Q=>y=.non/\Q (.bl<|!decide (x=.non)) H):=by
 intro χ s σ H x y v u Q I rx ry h;let⟨rfl,q⟩:=h;cases ry;refine isnot_none_gen<|D! I q ?_;cases x<;>first
  |(cases rx;rfl)
  |(let⟨t,rfl⟩:=rx;rfl)
theorem kC.or(h:kC X f r)(h':kC X f r'):kC X f (λ x y H Q=>r x y H Q\/r' x y H Q):=by
 intro χ s σ H x y v u Q I rx ry q;rcases q with q|q
 .exact h χ s σ H x y v u Q I rx ry q
 .exact h' χ s σ H x y v u Q I rx ry q
theorem gi(b:ι)(h:op≠.In:=by decide)(h2:op≠.NotIn:=by decide):behindInMarks op b=AT:=by
 have e1:(op==CmpOp.In)=AT:=by cases op<;>first|rfl|exact absurd rfl h
 have e2:(op==CmpOp.NotIn)=AT:=by cases op<;>first|rfl|exact absurd rfl h2
 cases b<;>simp[behindInMarks,e1,e2]
theorem E_(ho:kC X (compareOp op) r)(ha:PE X a ta)(hb:PE X b tb)(hm:behindInMarks op b=AT):PE X (.Compare a [op] [b] pos) (Ms r ta tb):=by intro χ s σ H Q I h;exact wpAny_Compare1 (SG ha hb I h λ v u s2 x y H2 I2 rx ry q=>ho χ s2 σ H2 x y v u Q I2 rx ry q) hm
def EU(t:TE):TT:=λ σ H Q=>t σ H λ x H'=>∃k,x=.bl k/\Q k H'
theorem pN(ho:kC X (compareOp op) r)(ha:PE X a ta)(hb:PE X b tb)(hm:behindInMarks op b=AT):PT X (.Compare a [op] [b] pos) (EU<|Ms r ta tb):=by
 intro χ s σ H Q I h;refine wpAny_isTrue_Compare1 (da (ha χ s σ H _ I h) λ v s1 ⟨x,H1,I1,r1,q1⟩=>da (hb χ s1 σ H1 _ I1 q1) λ u s2 ⟨y,H2,I2,r2,q2⟩=>da (ho χ s2 σ H2 x y v u _ I2 r1 r2 q2) ?_) hm;rintro c s3 ⟨z,H3,I3,r3,k,e,q3⟩
 subst e;cases r3;exact A59 ⟨H3,I3,q3⟩
def C0(r r':R2)(ta tb tc:TE):TE:=λ σ H Q=>ta σ H λ x H1=>tb σ H1 λ y H2=>r x y H2 λ z H3=>∃k,z=.bl k /\
 (if k=Ch then tc σ H3 λ w' H4=>r' y w' H4 Q else Q (.bl AT) H3)
theorem Jo(ho:kC X (compareOp op) r)(qo:kC X (compareOp GI) r')(ha:PE X a ta)(hb:PE X b tb)(hc:PE X c tc)
 (hm:lastMarks [op,GI] [b,c]=AT:=by with_unfolding_all rfl):PE X (.Compare a [op,GI] [b,c] pos) (C0 r r' ta tb tc):=by
 intro χ s σ H Q I h;refine Compare_chain (da (ha χ s σ H _ I h) λ v s1 ⟨x,H1,I1,r1,q1⟩=>chain_link<|da (hb χ s1 σ H1 _ I1 q1) λ u s2 ⟨y,H2,I2,r2,q2⟩=>da (ho χ s2 σ H2 x y v u _ I2 r1 r2 q2) ?_) hm;rintro d s3 ⟨z,H3,I3,r3,k,e,q3⟩
 subst e;cases r3;refine A59 ?_;cases k with
 |false=>exact ite_ff ⟨.bl AT,H3,I3,rfl,q3⟩
 |true=>exact ite_tt<|chain_last<|da (hc χ s3 σ H3 _ I3 q3) <|by rintro w' s4 ⟨z',H4,I4,r4,q4⟩;exact qo χ s4 σ H4 y z' u w' Q I4 r2 r4 q4
theorem Je(ho:kC X (compareOp op) r)(qo:kC X (compareOp GI) r')(ha:PE X a ta)(hb:PE X b tb)(hc:PE X c tc)
 (hm:lastMarks [op,GI] [b,c]=AT:=by with_unfolding_all rfl):PT X (.Compare a [op,GI] [b,c] pos) (EU<|C0 r r' ta tb tc):=by
 intro χ s σ H Q I h;refine isTrue_chain (da (ha χ s σ H _ I h) λ v s1 ⟨x,H1,I1,r1,q1⟩=>test_link<|da (hb χ s1 σ H1 _ I1 q1) λ u s2 ⟨y,H2,I2,r2,q2⟩=>da (ho χ s2 σ H2 x y v u _ I2 r1 r2 q2) ?_) hm;rintro d s3 ⟨z,H3,I3,r3,k,e,q3⟩
 subst e;cases r3;refine A59 ?_;cases k with
 |false=>let⟨k',e',q'⟩:=q3;cases e';exact ite_ff ⟨H3,I3,q'⟩
 |true=>refine ite_tt<|test_last<|da (hc χ s3 σ H3 _ I3 q3) λ w' s4 ⟨z',H4,I4,r4,q4⟩=>da (qo χ s4 σ H4 y z' u w' _ I4 r2 r4 q4) ?_;rintro d' s5 ⟨z2,H5,I5,r5,k2,e2,q5⟩;subst e2;cases r5;exact A59 ⟨H5,I5,q5⟩
theorem zr:(sizeLine)<2^63:=by rw[A33];decide
theorem Dd:kC X (binaryOp .Add) (λ x y H Q=>∃i j,x=.str i/\y=.str j/\i.length+j.length<=sizeLine/\Q (.str<|i++j) H):=by intro χ s σ H x y v u Q I rx ry h;let⟨i,j,rfl,rfl,hz,q⟩:=h;let⟨t,rfl⟩:=rx;let⟨t',rfl⟩:=ry;exact add_str (λ t' tk=>⟨.str _,H,I.tok _,⟨_,rfl⟩,q⟩) hz
theorem vals1(r:Vals [x] us):∃u,us=[u]/\RelV x u:=by
 cases r with
 |cons r1 r2=>cases r2;exact⟨_,rfl,r1⟩
theorem vals2(r:Vals [x,y] us):∃u w',us=[u,w']/\RelV x u/\RelV y w':=by
 cases r with
 |cons r1 r2=>
  cases r2 with
  |cons r3 r4=>cases r4;exact⟨_,_,rfl,r1,r3⟩
theorem Hu(hc:X.calm=Ch):mQ X (.builtin "max") (λ xs H Q=>∃i j,xs=[.int i,.int j]/\Q (.int<|if j>i then j else i) H):=by
 intro χ s σ H xs us Q I r h;let⟨i,j,rfl,q⟩:=h;let⟨u,w',rfl,⟨t,rfl⟩,⟨t',rfl⟩⟩:=vals2 r;refine max_two_ints (I.ok.hd hc) λ h' tk k=>⟨_,H,I.kept k,?_,q⟩
 by_cases hj:j>i
 .rw[f8 hj,f8 hj];exact⟨_,rfl⟩
 .rw[P3 hj,P3 hj];exact⟨_,rfl⟩
theorem Hv:mQ X (.type "int") (λ xs H Q=>(∃i,xs=[.int i]/\Q (.int i) H)\/∃k,xs=[.bl k]/\Q (.int<|if k then 1 else 0) H):=by
 intro χ s σ H xs us Q I r h;rcases h with⟨i,rfl,q⟩|⟨k,rfl,q⟩
 .let⟨u,rfl,t,rfl⟩:=vals1 r;exact call_int_int ⟨.int i,H,I,⟨_,rfl⟩,q⟩
 .let⟨u,rfl,r1⟩:=vals1 r;cases r1;exact call_int_bool ⟨.int _,H,I.tok _,⟨_,rfl⟩,q⟩
def aaU(K:Db)(x:V)(H:Hp)(n:Nat):Prop:=
 match x with
 |.str y=>y.length<=sizeLine/\n=y.length
 |.TX y=>y.size<=sizeLine/\n=y.size
 |.ref p=>(∃xs,ka K H p xs/\n=xs.length)\/∃xs,nr K H p xs/\n=xs.length
 |_=>False
theorem Lj:mQ X (.builtin "len") (λ xs H Q=>∃x n,xs=[x]/\aaU X.K x H n/\Q (.int n) H):=by
 intro χ s σ H xs us Q I r h;let⟨x,n,rfl,e,q⟩:=h;let⟨u,rfl,rx⟩:=vals1 r;have hl:=zr;have hs:=A33;cases x with
 |str y=>let⟨t,rfl⟩:=rx;obtain⟨hy,e'⟩:y.length<=sizeLine/\n=y.length:=e;subst e';exact len_str ∅ ⟨.int _,H,I.tok _,⟨_,rfl⟩,q⟩
 |TX y=>let⟨t,rfl⟩:=rx;obtain⟨hy,e'⟩:y.size<=sizeLine/\n=y.size:=e;subst e';exact PySem.W.len_bytes ∅ ⟨.int _,H,I.tok _,⟨_,rfl⟩,q⟩
 |ref p=>
  cases rx;have e':=e;rcases e' with⟨xs,hx,e'⟩|⟨xs,hx,e'⟩
  .subst e';let⟨bT,r',pl,hz⟩:=I.list hx;have ψ:=r'.length;exact Calls.call_len_list pl.isList (by simp only[A09];lia) ⟨.int _,H,I.tok _,⟨_,by simp only[A09];rw[ψ]⟩,q⟩
  .subst e';let⟨bT,r',pl,hz⟩:=I.tuple hx;have ψ:=r'.length;exact len_tuple pl (by simp only[A09];lia) ⟨.int _,H,I.tok _,⟨_,by simp only[A09];rw[ψ]⟩,q⟩
 |_=>exact(e).elim
structure EA(h:Heap)(x dx C:Addr)(mA:Str->Option Value):Prop where
 obj:h.get? x=AC (SC C dx)
 ns:h.Ns1 dx mA
 ne:dx≠x
theorem x_{h:ν}(n:h.Ns1 dx mA):∃od,h.get? dx=AC od/\∀name,UF name od=AC (mA name):=by
 let⟨o,es,ep,ho,hd,hk,_,hm⟩:=n;refine⟨o,ho,λ name=>?_⟩;have e:=hm name;unfold nsFind findBy at e;rw[<-Array.find?_toList]at e;unfold UF;rw[hd];dsimp only;split
 .rename_i y q;rw[q]at e;exact A10 AC e
 .rename_i q;rw[q]at e;have a:es.toList.any (·.refKey)=AT:=by rw[List.any_eq_false];intro y hy;let⟨z,t,_F⟩:=hk y (Array.mem_toList_iff.mp hy);simp[DictEntry.refKey,_F]
  have a':¬es.toList.any (·.refKey)=Ch:=by rw[a];exact B19
  rw[P3 a'];exact A10 AC e
theorem EA.look(I:EA h x dx C mA):∃od,PySem.W.InstAt h x (SC C dx) C (AC od)/\∀name,UF name od=AC (mA name):=
 let ⟨od,ho,hl⟩:=x_ I.ns
 ⟨od,⟨I.obj,rfl,rfl,ho⟩,hl⟩
section
variable{K:Db}
theorem get_map(X:K.In s.heap)(I:EA s.heap x dx C mA)(hg:SZ K C name=Ch)(hh:Uf K C=Ch)
 (ha:Fa K (.ref C) name=AC At) (hv:mA name=AC v) (xm:AB0 v=Ch) (h:Q v {s with toks:=s.toks+1}) :
 FM (model prog w) A (getAttr (.ref x) name expr) Q E s:=by
 let⟨od,J,hl⟩:=I.look;exact PySem.W.get_value X J (B84 hg).1 (lm hh ha rfl (by rw[hl,hv])) xm h
theorem Kr(X:K.In s.heap)(I:EA s.heap x dx C mA)(hg:SZ K C name=Ch)
 (hf:Fa K (.ref C) name=AC (AC<|.ref f)) (ht:xz K (.ref f)=Ch) (hv:mA name=At) (h:Q (.ref f,[.ref x]) s) :
 FM (model prog w) A (getMethod (.ref x) name pl) Q E s:=by
 let⟨od,J,hl⟩:=I.look;exact PySem.W.method_fn X J (B84 hg).1 (B84 hg).2 hf (A29.mp ht) (by show(UF name od).map _=AC AT;rw[hl,hv];rfl) h
theorem MG(X:K.In s.heap)(I:EA s.heap x dx C mA)
 (hs:Fa K (.ref C) "__setattr__"=AC (AC<|.builtin "object.__setattr__")) (hp:zn K C=Ch) (ht:bd K C name=AC At) (hh:Uf K C=Ch)
 (hw:AA1 mA ns) (FC:ns.length<=sizeLine)
 (h:∀h',EA h' x dx C (λ y=>if y=name then AC v else mA y)->Go dx s.heap h'->Q () {s with heap:=h',toks:=s.toks+2}) :
 FM (model prog w) A (setAttr (.ref x) name v) Q E s:=by
 let⟨od,J,hl⟩:=I.look;refine B85 X J hs<|PySem.W.osa_open X J hp ht λ b=>?_;let⟨cd,hc,rP⟩:=PySem.W.any_some hh;have hx:=I.obj;refine T0<|M2<|T0<|T0<|A99 hx<|T0<|B86 (B87 X hc) ?_;rw[rP];refine M2<|T0<|M2<|T0 ?_;refine wpAny_nsSet1 I.ns λ h' HR zF=>?_;let⟨oD,esD,epD,VW,V?,Wb⟩:=HR.count (PySem.Within.cons name v hw);refine T0<|B89 VW (by rw[V?];exact B90<|A27 Wb (by rw[A38];lia)) ?_;exact M2<|h _ ⟨(zF.2 _<|A07 I.ne).trans I.obj,HR,I.ne⟩ zF
theorem JW(X:K.In s.heap)(hm:al K C=Ch)
 (hi:Fa K (.ref C) "__init__"=AC (AC<|.ref f)) (hf:PySem.W.typeIn K (.ref f)=AC (.type "function"))
 (h:codeAny (model prog w) (A.under<|.builtin "type.__call__" ⟨.ref C::vs,kw⟩) (.call (.ref f) ⟨.ref (s.heap.objs.size+1)::vs,kw⟩) (PySem.W.InitBack (s.heap.objs.size+1) R)
  {s with heap:=(s.heap.push Os).push<|PySem.W.instObj C s.heap.objs.size}) :
 codeAny (model prog w) A (.call (.ref C) ⟨vs,kw⟩) R s:=by
 let⟨hh,g,d,t,os⟩:=s;exact PySem.W.make_core (PySem.W.makes_of X hm) (ci X hi) (λ self=>PySem.W.bind_fn X self hf) (.inl rfl) h
end
def jT(f:Str)(v:V):γ (Str×V)->γ (Str×V)
|[]=>[(f,v)]
|(g,x)::r=>if g=f then(g,v)::r else(g,x)::jT f v r
theorem ma(f g:Str)(v:V):∀ fs,(jT f v fs).lookup g=if g=f then AC v else fs.lookup g
|[]=>by
 show Gc g [(f,v)]=_;by_cases h:g=f
 .have hb:=A29.mpr h;simp only[Gc,hb,f8 h]
 .have hb:=A57.mpr h;simp only[Gc,hb,P3 h]
|(k,x)::r=>by
 have ih:=ma f g v r;rw[show jT f v _=(if k=f then(k,v)::r else(k,x)::jT f v r)from rfl];by_cases hk:k=f
 .rw[f8 hk];by_cases h:g=k
  .have hb:=A29.mpr h;simp only[Gc,hb,f8<|h.trans hk]
  .have hb:=A57.mpr h;simp only[Gc,hb,P3 λ e:g=f=>h<|e.trans hk.symm]
 .rw[P3 hk];by_cases h:g=k
  .have hb:=A29.mpr h;simp only[Gc,hb,P3 λ e=>hk<|h.symm.trans e]
  .have hb:=A57.mpr h;simp only[Gc,hb];exact ih
theorem kM(f:Str)(v:V):∀ fs,f∈(jT f v fs).map (·.1)/\∀ g,g∈fs.map (·.1)->g∈(jT f v fs).map (·.1)
|[]=>⟨by simp[jT],λ g h=>by simp at h⟩
|(k,x)::r=>by
 let⟨i1,i2⟩:=kM f v r;rw[show jT f v _=(if k=f then(k,v)::r else(k,x)::jT f v r)from rfl];by_cases hk:k=f
 .rw[f8 hk];subst hk;exact⟨by simp,λ g h=>by simpa using h⟩
 .rw[P3 hk];refine⟨?_,λ g h=>?_⟩
  .rw[A12];exact A11 _ i1
  .rw[A12]at h ⊢;rcases A00.mp h with e|e
   .exact A00.mpr<|.inl e
   .exact A11 _<|i2 g e
theorem sM(f:Str)(v:V):∀fs,(jT f v fs).length<=fs.length+1
|[]=>by simp[jT]
|(k,x)::r=>by
 have ih:=sM f v r;rw[show jT f v _=(if k=f then(k,v)::r else(k,x)::jT f v r)from rfl];by_cases hk:k=f
 .rw[f8 hk,A38,A38];lia
 .rw[P3 hk,A38,A38];lia
theorem ud.some_of(r:ud (AC v) o):∃u,o=AC u/\RelV v u:=by
 cases o with
 |none=>exact(r).elim
 |some u=>exact⟨u,rfl,r⟩
theorem ud.none_of(r:ud At o):o=At:=by
 cases o with
 |none=>rfl
 |some u=>exact(r).elim
theorem ye(r:RelV v u):AB0 u=Ch:=by
 cases v with
 |non=>cases (r);rfl
 |bl b=>cases (r);rfl
 |int i=>obtain⟨t,e⟩:=(r);cases e;rfl
 |str x=>obtain⟨t,e⟩:=(r);cases e;rfl
 |TX b=>obtain⟨t,e⟩:=(r);cases e;rfl
 |TJ b=>obtain⟨t,e⟩:=(r);cases e;rfl
 |ref a=>cases (r);rfl
 |ty n=>cases (r);rfl
theorem zA(cy:pj P w H h)(e:H a=AC (.ins C dx fs)):∃mA,EA h a dx C mA/\(∀f,ud (fs.lookup f) (mA f))/\AA1 mA (fs.map (·.1))/\fs.length<=1000/\H dx=AC (.own a):=by
 obtain⟨d,z,ne,ob,mA,n,r,q⟩:=(cy a _ e)
 exact⟨mA,⟨ob,n,ne⟩,r,q,z,d⟩
structure H?(K:Db)(C:Addr):Prop where
 pg:SZ K C Str.empty=Ch
 hd:Uf K C=Ch
 po:zn K C=Ch
 sa:Fa K (.ref C) "__setattr__"=AC (AC<|.builtin "object.__setattr__")
theorem H?.get{K:Db}(c:H? K C)(f:Str):SZ K C f=Ch:=c.pg
def sx(K:Db)(C:δ)(f:Str):Prop:=Fa K (.ref C) f=AC At
theorem sx.Ue{K:Db}(n:sx K C f):bd K C f=AC At:=by unfold bd;rw[n];rfl
structure Con(K:Db)(C:Addr)(f:Str)(v:V)(u:Value):Prop where
 at_:Fa K (.ref C) f=AC (AC u)
 rel:RelV v u
 get:AA0 K u "__get__"=AC At
 cp:PySem.W.copiedNames.contains f=AT
structure Meth(K:Db)(C:Addr)(m:Str)(f:Addr):Prop where
 at_:Fa K (.ref C) m=AC (AC<|.ref f)
 fn:xz K (.ref f)=Ch
 kp:FS K (.ref f)=Ch
theorem D7(I:Inv X χ σ H s)(e:H a=AC (.ins C dx fs))(c:H? X.K C)(n:sx X.K C f)(l:fs.lookup f=AC v)
 (h:∀u s',Inv X χ σ H s'->RelV v u->Q u s'):FM (model X.prog X.w) A (getAttr (.ref a) f b) Q E s:=by
 let⟨mA,O,r,_,_,_⟩:=zA I.cy e;let⟨u,hu,ru⟩:=ud.some_of (v:=v) (o:=mA f) (by rw[<-l];exact r f);exact get_map I.kB O (c.get f) c.hd n hu (ye ru)<|h u _ (I.tok _) ru
theorem o3(I:Inv X χ σ H s)(e:H a=AC (.ins C dx fs))(c:H? X.K C)(k:Meth X.K C m g)(l:fs.lookup m=At)
 (h:Q (.ref g,[.ref a]) s):FM (model X.prog X.w) A (getMethod (.ref a) m pl) Q E s:=by
 let⟨mA,O,r,_,_,_⟩:=zA I.cy e;have hn:=ud.none_of (by rw[<-l];exact r m);exact Kr I.kB O (c.get m) k.at_ k.fn hn h
theorem C5(I:Inv X χ σ H s)(e:H a=AC (.ins C dx fs))(c:H? X.K C)(n:sx X.K C f)(hl:fs.length<1000)(ry:RelV y u)
 (h:∀s',Inv X χ σ (upd H a<|.ins C dx<|jT f y fs) s'->Q () s'):FM (model X.prog X.w) A (setAttr (.ref a) f u) Q E s:=by
 let⟨mA,O,r,wi,_,ho⟩:=zA I.cy e;have hz:(fs.map (·.1)).length<=sizeLine:=by rw[A17,A33];lia
 refine MG I.kB O c.sa c.po n.Ue c.hd wi hz λ h' O' sb=>h _ ?_;have hd:∃o,h'.get? dx=AC o:=let ⟨o,_,_,e',_⟩:=O'.ns;⟨o,e'⟩;refine I.write (by rw[e];exact On) (.inr ho) (λ b q hb z=>(sb.2 b hb).trans z) hd ?_;refine⟨by rw[aE O.ne];exact ho,?_,O.ne,O'.obj,_,O'.ns,λ g=>?_,λ g hg=>?_⟩
 .have:=sM f y fs;lia
 .skip
  rw[ma];by_cases q:g=f
  .rw[f8 q,f8 q];exact ry
  .rw[P3 q,P3 q];exact r g
 .by_cases q:g=f
  .rw[q];exact(kM f y fs).1
  .refine(kM f y fs).2 g<|wi g λ z=>hg ?_;show(if g=f then AC u else mA g)=At;rw[P3 q];exact z
theorem Inv.made(I:Inv X χ σ H s):Inv X χ σ (upd (upd H s.heap.objs.size<|.own<|s.heap.objs.size+1) (s.heap.objs.size+1)<|.ins C s.heap.objs.size [])
 {s with heap:=(s.heap.push Os).push<|PySem.W.instObj C s.heap.objs.size}:=by
 have e1:(s.heap.push _).get? _=AC Os:=A16 _ rfl;have e2:((s.heap.push Os).push<|PySem.W.instObj C s.heap.objs.size).get? (s.heap.objs.size+1)=AC (SC C s.heap.objs.size):=by have:=A16 (s.heap.push Os) (o:=SC C s.heap.objs.size) rfl;rwa [A48]at this
 have e3:(s.heap.push _).Ns _ (λ _=>At):=⟨_,#[],_,e1,rfl,(λ e he=>absurd he ∅),λ _=>rfl⟩
 have I1:=I.laid (o:=.own (s.heap.objs.size+1)) (t':=s.toks) (λ b u q=>A02 _ q) (v6 _) ⟨_,e1⟩;refine I1.laid (λ b u q=>A02 _ q) (B91<|A48 _ _) ?_;have ne:s.heap.objs.size≠s.heap.objs.size+1:=A14<|A58 _;refine⟨by rw[aE ne,aP],A71 _,ne,e2,λ _=>At,(Heap.Ns1.of_empty e3).at λ o q=>A02 _ q,λ _=>On,λ y hy=>absurd rfl hy⟩
theorem F7(hb:attributeBase e f env (eval e env)=eval e env)
 (h:FM (model prog w) A (eval e env) (λ o s₁=>FM (model prog w) A (getAttr o f Ch) Q E s₁) E s):FM (model prog w) A (eval (.Attribute e f pos) env) Q E s:=
 Attribute_any_ h (by rw[arm_eval_Attribute,hb])
def Za(K:Db)(ta:TE)(f:Str):TE:=λ σ H Q=>ta σ H λ x H1=>∃a C dx fs v,x=.ref a/\H1 a=AC (.ins C dx fs)/\H? K C/\sx K C f/\fs.lookup f=AC v/\Q v H1
def Zq(K:Db)(ta tv:TE)(f:Str):TS:=λ D σ H=>tv σ H λ y H1=>ta σ H1 λ x H2=>∃a C dx fs,x=.ref a/\H2 a=AC (.ins C dx fs)/\H? K C/\sx K C f/\fs.length<1000 /\
 D.nx σ (upd H2 a<|.ins C dx<|jT f y fs)
theorem QO(he:PE X e ta)(hb:attributeBase e f X.env (eval e X.env)=eval e X.env):PE X (.Attribute e f pos) (Za X.K ta f):=by intro χ s σ H Q I h;refine F7 hb<|da (he χ s σ H _ I h) ?_;rintro u s1 ⟨x,H1,I1,rx,a,C,dx,fs,v,ex,ea,c,n,l,q⟩;subst ex;obtain rfl:u=Value.ref a:=rx;exact D7 I1 ea c n l λ u' s2 I2 ru=>⟨v,H1,I2,ru,q⟩
theorem Qw(ha:PE X o ta)(hv:PE X value tv)(hs:swapsWith value (AC<|.Attribute o f pos') pos.line X.env=pure AT):PS X (.Assign [.Attribute o f pos'] value pos) (Zq X.K ta tv f):=by intro χ s σ H D I h;refine B92 (da (hv χ s σ H _ I h) λ u s1 ⟨y,H1,I1,ry,q⟩=>da (ha χ s1 σ H1 _ I1 q) ?_) hs;rintro ov s2 ⟨x,H2,I2,rx,a,C,dx,fs,ex,ea,c,n,l,q2⟩;subst ex;obtain rfl:ov=Value.ref a:=rx;exact C5 I2 ea c n l ry λ s3 I3=>⟨σ,_,I3,q2⟩
inductive wz(K:Db)(H:Hp):V->Value->Prop where
| non:wz K H .non (.type "NoneType")
| bl (x:Bool):wz K H (.bl x) (.type "bool")
| int (i:Int):wz K H (.int i) (.type "int")
| str (x:Str):wz K H (.str x) (.type "str")
| TJ (x:UInt64):wz K H (.TJ x) (.type "float")
| lst {a:Addr}{xs:List V}(e:H a=AC (.lst xs)):wz K H (.ref a) (.type "list")
| eH {a:Addr}{o:Obj}{xs:List V}(e:H a=AC (.eH o<|.lst xs)):wz K H (.ref a) (.type "list")
| tup {a:Addr}{xs:List V}(e:H a=AC (.tup xs)):wz K H (.ref a) (.type "tuple")
| dK {a:Addr}{fT:List (Key×V)}(e:H a=AC (.dK fT)):wz K H (.ref a) (.type "dict")
| dT {a:Addr}{fT:List (List Key×V)}(e:H a=AC (.dT fT)):wz K H (.ref a) (.type "dict")
| ins {a C dx:Addr}{fs:List (Str×V)}(e:H a=AC (.ins C dx fs)) (cl:H? K C) (ha:Fa K (.ref C) "__class__"=AC (AC<|.builtin "object.__class__"))
 (hn:AA0 K (.builtin "object.__class__") "__get__"=AC (AC<|.builtin "getset_descriptor.__get__")) (htk:PySem.W.takesIn K (.builtin "object.__class__")=AC Ch)
 (hm:Ix K C (.type "object")=AC Ch):wz K H (.ref a) (.ref C)
structure bR(k:Nat)(A:Around):Prop where
 hd:A.handled=At
 dp:A.depth+3*k+5<recursionLimit
 un:A.units+16*k+200<cLine
theorem bR.mono(r:bR k A)(h:j<=k):bR j A:=⟨r.hd,by have:=r.dp;lia,by have:=r.un;lia⟩
theorem bR.deeper(r:bR (k+1) A)(env:Env):bR k (A.deeper env):=
 ⟨r.hd,by have:=r.dp;show A.depth+1+3*k+5<_;lia,by have:=r.un;show A.units+3+16*k+200<_;lia⟩
theorem bR.in1(r:bR (k+1) A):bR k A.in1:=
 ⟨r.hd,by have:=r.dp;lia,by have:=r.un;lia⟩
theorem Dt{A:π}{C:δ}{us:γ ζ}{kw:γ (Str×ζ)}:(A.under<|.builtin "type.__call__" ⟨.ref C::us,kw⟩).depth=A.depth+1:=by first| rfl| simp[Around.under,Code.weight,Code.isCreation,Code.isGuard,Code.isCaller,Code.frames,Code.isFrame,guardIds]
theorem Ds{A:π}:(A.under<|.builtin "type.__call__" ⟨.ref C::us,kw⟩).units=A.units+1:=by first| rfl| simp[Around.under,Code.cUnits,Code.frames,Code.isFrame]
theorem bR.make(r:bR (k+1) A)(C:δ)(us:γ ζ)(kw:γ _):bR k (A.under<|.builtin "type.__call__" ⟨.ref C::us,kw⟩):=
 ⟨r.hd,by have:=r.dp;rw[Dt];lia,by have:=r.un;rw[Ds];lia⟩
theorem bR.depth(r:bR k A):A.depth<recursionLimit:=by have:=r.dp;lia
theorem bR.units(r:bR k A):A.units+64<cLine:=by have:=r.un;lia
def Iz:TA:=λ _ H Q=>Q [] H
def AR(ta:TE)(tr:TA):TA:=λ σ H Q=>ta σ H λ x H1=>tr σ H1 λ xs H2=>Q (x::xs) H2
theorem cW:PA X [] Iz:=λ _ _ _ _ H Q I h=>Calls.spliced_nil ⟨[],H,I,.nil,h⟩
theorem bL(ha:PE X e te)(hr:PA X es t)(hs:Se e es X.env:=by rfl):PA X (e::es) (AR te t):=by intro pos χ s σ H Q I h;rw[hs];refine Calls.spliced_cons<|da (ha χ s σ H _ I h) ?_;rintro u s1 ⟨x,H1,I1,r1,q1⟩;exact da (hr pos χ s1 σ H1 _ I1 q1) <|by rintro us s2 ⟨xs,H2,I2,r2,q2⟩;exact⟨x::xs,H2,I2,.cons r1 r2,q2⟩
def Y6(t:TA):TE:=λ σ H Q=>t σ H λ xs H1=>xs.length<=sizeLine/\∀p,H1 p=At->Q (.ref p) (upd H1 p<|.tup xs)
def Y!(t:TA):TE:=λ σ H Q=>t σ H λ xs H1=>xs.length<=sizeLine/\∀p,H1 p=At->Q (.ref p) (upd H1 p<|.lst xs)
theorem QC(h:PA X es t):PE X (.Tuple es x1 pos) (Y6 t):=by intro χ s σ H Q I hq;refine wpAny_Tuple_spliced<|da (h pos χ s σ H _ I hq) λ us s1 ⟨xs,H1,I1,r,z,q⟩=>⟨by rw[<-r.length];exact z,?_⟩;have hf:=I1.cy.fresh<|v6 _;refine⟨.ref _,_,I1.laid (λ b u e=>A02 _ e) (v6 _) ?_,rfl,q _ hf⟩;exact⟨z,us,r,qM.new _ _⟩
theorem QH(h:PA X es t):PE X (.List es pos) (Y! t):=by intro χ s σ H Q I hq;refine wpAny_List_spliced<|da (h pos χ s σ H _ I hq) λ us s1 ⟨xs,H1,I1,r,z,q⟩=>⟨by rw[<-r.length];exact z,?_⟩;have hf:=I1.cy.fresh<|v6 _;refine⟨.ref _,_,I1.laid (λ b u e=>A02 _ e) (v6 _) ?_,rfl,q _ hf⟩;exact⟨z,us,0,r,A16 _ rfl⟩
abbrev Sp:=γ V->Hp->VK->XK->Prop
abbrev S5:=γ Env->Hp->η->XK->ζ->η->Prop
structure z_(P:Program)(w:World)(K:Db)(mg:Str->Option Value)(base:Heap)(A:Around)(outer:List Env)(s:Shared)(H:Hp):Prop where
 frames:A.frames=AC outer
 mod:Mod K mg base
 bs:∀b o,base.get? b=AC o->s.heap.get? b=AC o/\H b=At
 Hx:base.objs.size<=s.heap.objs.size
 lK:s.heap.FunFrames base outer
 Kv:∀b∈vT outer,H b=At
 cy:pj P w H s.heap
 bare:AllBare s.gens
 tab:yB K mg base H
def CE(outer:γ Env)(P:ο)(w:ξ)(H:Hp)(s:η)(Q:VK)(u:ζ)(s':η):Prop:=
 ∃v H',s'.os=s.os/\AllBare s'.gens/\Un (vT outer) [] H H' s.heap s'.heap/\pj P w H' s'.heap/\RelV v u/\Q v H'
def CR(CX:S5)(outer:γ Env)(P:ο)(w:ξ)(H:Hp)(s:η)(Q:VK)(E:XK)(r:Result)(s':η):Prop:=
 match r with
 |.ok<|.ret u=>CE outer P w H s Q u s'
 |.ok _=>False
 |.error e=>CX outer H s E e s'
structure ee(P:Program)(w:World)(K:Db)(mg:Str->Option Value)(base:Heap)(CX:S5)(k:Nat)(f:Addr)(fd:FuncData)(ps:List Str)(sp:Sp):Prop where
 len:∀vs H Q E,sp vs H Q E->vs.length=ps.length
 run:∀(A:Around)(outer:List Env)(s:Shared)(H:Hp)(args:Args)(us:List Value)(vs:List V)(Q:VK)(E:XK),bR k A->z_ P w K mg base A outer s H->BindsTo s fd args (ps.zip us)->Vals vs us->sp vs H Q E ->
  codeAny (model P w) A (.call (.ref f) args) (CR CX outer P w H s Q E) s
theorem z_.make{K:Db}(e:z_ P w K mg base A outer s H)(C:δ)(us:γ ζ)(kw:γ _):
 z_ P w K mg base (A.under<|.builtin "type.__call__" ⟨.ref C::us,kw⟩) outer s H:=⟨by first| exact e.frames| (simpa[Around.under,Code.envs,Code.isFrame,pushEnvs]using e.frames),e.mod,e.bs,e.Hx,e.lK,e.Kv,e.cy,e.bare,e.tab⟩
theorem Inv.Hj(I:Inv X χ σ H s):z_ X.prog X.w X.K X.mg X.base X.A X.stack s H:=
 ⟨I.ok.frames,I.ok.mod,I.bs,A27 I.ok.Hx I.sz,I.stack,I.uh,I.cy,I.bare,I.tab⟩
theorem Inv.after(I:Inv X χ σ H s)(h:CE X.stack X.prog X.w H s Q u s'):EP X χ σ Q u s':=by let⟨v,H',os,bare,un,cy,r,q⟩:=h;let⟨hh,g,d,t,ZR⟩:=s';obtain rfl:ZR=s.os:=os;exact⟨v,H',I.call un cy bare λ b z=>absurd z ∅,r,q⟩
def Um(sp:Sp)(Ai:γ V)(E:XK)(t:TA):TE:=λ σ H Q=>t σ H λ vs H1=>sp (vs++Ai) H1 Q E
def O7(C:δ)(m:Str)(sp:Sp)(Ai:γ V)(E:XK)(ta:TE)(t:TA):TE:=λ σ H Q=>ta σ H λ x H1=>∃a dx fs,x=.ref a/\H1 a=AC (.ins C dx fs)/\fs.lookup m=At /\
 t σ H1 λ vs H2=>sp (x::(vs++Ai)) H2 Q E
def Uk(C:δ)(sp:Sp)(Ai:γ V)(E:XK)(t:TA):TE:=λ σ H Q=>t σ H λ vs H1=>∀x dx,H1 x=At->H1 dx=At->dx≠x ->
 sp (.ref x::(vs++Ai)) (upd (upd H1 dx<|.own x) x<|.ins C dx []) (λ v H2=>v=.non/\Q (.ref x) H2) E
def Binds(K:Db)(fd:τ)(ps:γ Str)(ds:γ ζ):Prop:=
 ∀(s:η)(us:γ ζ),K.In s.heap->(us++ds).length=ps.length->BindsTo s fd ⟨us,[]⟩ (ps.zip<|us++ds)
theorem Binds.all{K:Db}(h:∀us,us.length=ps.length->bindArgs fd ⟨us,[]⟩=pure (ps.zip us)):Binds K fd ps []:=λ s us _ hl=>by rw[A54]at hl ⊢;exact .of_eq<|h us hl
def Passes(CX:S5)(X:Cx)(E:XK):Prop:=∀(χ:γ (δ×μ))(σ:St)(H:Hp)(s:η)(e:ζ)(s':η),Inv X χ σ H s->CX X.stack H s E e s'->X.xe e s'
theorem C8(F:ee X.prog X.w X.K X.mg X.base CX k f fd ps sp)(hr:bR k X.A)(hb:Binds X.K fd ps ds)(hd:Vals Ai ds)(hx:Passes CX X E)
 (I:Inv X χ σ H s) (r:Vals vs us) (h:sp (vs++Ai) H Q E):FM (model X.prog X.w) X.A (call (.ref f) us) (EP X χ σ Q) X.xe s:=by
 have r2:=r.append hd;have hl:(us++ds).length=ps.length:=by rw[<-r2.length];exact F.len _ _ _ _ h
 refine A60<|A72 (F.run X.A _ s H ⟨us,[]⟩ _ _ Q E hr I.Hj (hb s us I.kB hl) r2 h) λ r s' hq=>?_;cases r with
 |error e=>exact hx χ σ H s e s' I hq
 |ok fl=>
  cases fl with
  |ret u=>exact I.after hq
  |next=>exact GE hq
  |brk=>exact GE hq
  |cont=>exact GE hq
theorem Fb(F:ee X.prog X.w X.K X.mg X.base CX k f fd ps sp)(hr:bR k X.A)(hg:Gl X x)(hm:X.mg x=AC (.ref f))(hk:FS X.K (.ref f)=Ch)(hb:Binds X.K fd ps ds)(hd:Vals Ai ds)(hx:Passes CX X E)
 (ha:PA X (e::es) t) (gP:(x==("__debug__"))=AT:=by decide) (he:Se e es X.env:=by rfl) (fA:Pn pos es X.env:=by rfl) :
 PE X (.Call (.Name x p) (e::es) [] pos) (Um sp Ai E t):=by
 intro χ s σ H Q I h;refine A73<|k9 I hg hm ?_ gP;refine A83 I.ok.mod.HN hk (da (ha pos χ s σ H _ I h) λ us s1 ⟨vs,H1,I1,r,q⟩=>⟨I1.kB,?_⟩) he fA;exact C8 F hr hb hd hx I1 r q
theorem E!(he:PE X o ta)(c:H? X.K C)(hm:Meth X.K C m f)(F:ee X.prog X.w X.K X.mg X.base CX k f fd ps sp)(hr:bR k X.A)(hb:Binds X.K fd ps ds)(hd:Vals Ai ds)(hx:Passes CX X E)(ha:PA X (e::es) t)
 (vL:Se e es X.env:=by rfl) (fA:Pn pos es X.env:=by rfl)
 (ht:eval (.Call (.Attribute o m apos) (e::es) [] pos) X.env=(do
  let ov ←eval o X.env
  standAt apos.atName
  let (f,first) ←holding [ov] (getMethod ov m pl)
  callWith pos f first (backTo pos<|starEach (e::es) X.env) (backToKw pos<|keywordEach [] X.env)):=by rfl) :
 PE X (.Call (.Attribute o m apos) (e::es) [] pos) (O7 C m sp Ai E ta t):=by
 intro χ s σ H Q I h;refine B93 (da (he χ s σ H _ I h) ?_) ht;rintro u s1 ⟨x,H1,I1,rx,a,dx,fs,ex,ea,l,q⟩;subst ex;obtain rfl:u=Value.ref a:=rx;refine o3 I1 ea c hm l ?_;refine A83 I.ok.mod.HN hm.kp (da (ha pos χ s1 σ H1 _ I1 q) λ us s2 ⟨vs,H2,I2,r,q2⟩=>⟨I2.kB,?_⟩) vL fA;exact C8 (vs:=.ref a::vs) F hr hb hd hx I2 (.cons rfl r) q2
theorem Jm(he:PE X o ta)(c:H? X.K C)(hm:Meth X.K C m f)(F:ee X.prog X.w X.K X.mg X.base CX k f fd ps sp)(hr:bR k X.A)(hb:Binds X.K fd ps ds)(hd:Vals Ai ds)(hx:Passes CX X E)
 (ht:eval (.Call (.Attribute o m apos) [] [] pos) X.env=(do
  let ov ←eval o X.env
  standAt apos.atName
  let (f,first) ←holding [ov] (getMethod ov m pl)
  callWith pos f first (backTo pos<|starEach [] X.env) (backToKw pos<|keywordEach [] X.env)):=by rfl) :
 PE X (.Call (.Attribute o m apos) [] [] pos) (O7 C m sp Ai E ta Iz):=by
 intro χ s σ H Q I h;refine B93 (da (he χ s σ H _ I h) ?_) ht;rintro u s1 ⟨x,H1,I1,rx,a,dx,fs,ex,ea,l,q⟩;subst ex;obtain rfl:u=Value.ref a:=rx;refine o3 I1 ea c hm l ?_;exact PySem.W.callWith_K0 I1.kB hm.kp<|C8 (vs:=[.ref a]) F hr hb hd hx I1 (.cons rfl .nil) q
structure Mk(K:Db)(C f:Addr):Prop where
 makes:al K C=Ch
 init:Fa K (.ref C) "__init__"=AC (AC<|.ref f)
 fn:xz K (.ref f)=Ch
 kp:FS K (.ref C)=Ch
theorem IW(M:Mk X.K C f)(F:ee X.prog X.w X.K X.mg X.base CX k f fd ps sp)(hr:bR (k+1) X.A)(hb:Binds X.K fd ps ds)(hd:Vals Ai ds)
 (hx:Passes CX X E) (I:Inv X χ σ H s) (r:Vals vs us)
 (h:∀x dx,H x=At->H dx=At->dx≠x->sp (.ref x::(vs++Ai)) (upd (upd H dx<|.own x) x<|.ins C dx []) (λ v H2=>v=.non/\Q (.ref x) H2) E) :
 FM (model X.prog X.w) X.A (call (.ref C) us) (EP X χ σ Q) X.xe s:=by
 have hq:=h _ _ (I.cy.fresh<|A61 _) (I.cy.fresh<|v6 _)<|A14<|A58 _;have I2:=Inv.made (C:=C) I;have r2:Vals (V.ref (s.heap.objs.size+1)::(vs++Ai)) _:=.cons rfl<|r.append hd;have hl:(Value.ref (s.heap.objs.size+1)::us++ds).length=ps.length:=by have e:=r2.length;rw[F.len _ _ _ _ hq]at e;exact e.symm
 refine A60 (JW I.kB M.makes M.init (A29.mp M.fn) (A72 (F.run _ X.stack _ _ ⟨Value.ref (s.heap.objs.size+1)::us,[]⟩ (Value.ref (s.heap.objs.size+1)::(us++ds)) _ _ E (hr.make C us [])
  (I2.Hj.make C us []) (hb _ (Value.ref (s.heap.objs.size+1)::us) I2.kB hl) r2 hq) λ r s' gC=>?_))
 cases r with
 |error e=>exact hx χ σ _ _ e s' I2 gC
 |ok fl=>
  cases fl with
  |ret u=>let⟨v,H',I3,rv,ev,q3⟩:=I2.after gC;subst ev;exact⟨rv,⟨V.ref<|s.heap.objs.size+1,H',I3,rfl,q3⟩⟩
  |next=>exact GE gC
  |brk=>exact GE gC
  |cont=>exact GE gC
theorem MX(M:Mk X.K C f)(F:ee X.prog X.w X.K X.mg X.base CX k f fd ps sp)(hr:bR (k+1) X.A)(hg:Gl X x)(hm:X.mg x=AC (.ref C))(hb:Binds X.K fd ps ds)(hd:Vals Ai ds)(hx:Passes CX X E)
 (ha:PA X (e::es) t) (gP:(x==("__debug__"))=AT:=by decide) (he:Se e es X.env:=by rfl) (fA:Pn pos es X.env:=by rfl) :
 PE X (.Call (.Name x p) (e::es) [] pos) (Uk C sp Ai E t):=by
 intro χ s σ H Q I h;refine A73<|k9 I hg hm ?_ gP;refine A83 I.ok.mod.HN M.kp (da (ha pos χ s σ H _ I h) λ us s1 ⟨vs,H1,I1,r,q⟩=>⟨I1.kB,?_⟩) he fA;exact IW M F hr hb hd hx I1 r q
structure aaV(K:Db)(fd:FuncData)(ps ks:List Str)(g:List Value->List Value->List Value)(gV:List V->List V->List V):Prop where
 to:∀(s:Shared)(us ws:List Value),K.In s.heap->(g us ws).length=ps.length->BindsTo s fd ⟨us,ks.zip ws⟩ (ps.zip<|g us ws)
 rel:∀{vs:List V}{us:List Value}{zs:List V}{ws:List Value},Vals vs us->Vals zs ws->Vals (gV vs zs) (g us ws)
structure a!(N P:List Str)(sc:Scope):Prop where
 kind:sc.kind=.function
 co:sc.isCoroutine=AT
 gen:sc.isGenerator=AT
 nd:N.Nodup
 pre:N.take P.length=P
 par:∀x∈P,sc.names.lookup x=AC .local\/sc.names.lookup x=AC .cell
 Rb:∀y∈sc.names,y.2≠.free
theorem yp{kindOf:Str->ε NameKind}:∀{binds}{m},(∀v,(x,v)∉binds)->bindL kindOf binds m x=m x
|[],_,_=>rfl
|(n,v)::r,m,h=>by
 unfold bindL;rw[yp λ w hw=>h w<|A11 _ hw];split
 .have:x≠n:=by rintro rfl;exact h v A18
  simp[this]
 .rfl
theorem yr{kindOf:Str->ε NameKind}:∀{binds}{m},(∀v,(x,v)∉binds)->bindC kindOf binds m x=m x
|[],_,_=>rfl
|(n,v)::r,m,h=>by
 unfold bindC;rw[yr λ w hw=>h w<|A11 _ hw];split
 .rfl
 .have:x≠n:=by rintro rfl;exact h v A18
  simp[this]
theorem yq{kindOf:Str->ε NameKind}{x:Str}{v:ζ}:∀{P:γ Str}{vs}{i:Nat}{m},P.Nodup->P[i]?=AC x->vs[i]?=AC v->kindOf x=AC .local ->
 bindL kindOf (P.zip vs) m x=AC v
|[],_,_,_,_,h,_,_=>by simp at h
|_::_,[],_,_,_,_,h,_=>by simp at h
|p::P,w::vs,0,m,nd,h1,h2,hk=>by simp at h1 h2;subst h1;subst h2;show bindL kindOf ((p,w)::P.zip vs) m p=_;unfold bindL;rw[yp λ v hv=>(A49.mp nd).1 (B46 hv).1,f8 hk];simp
|p::P,w::vs,i+1,m,nd,h1,h2,hk=>by show bindL kindOf ((p,w)::P.zip vs) m x=_;unfold bindL;exact yq (i:=i) (A49.mp nd).2 (by simpa using h1) (by simpa using h2) hk
theorem yt{kindOf:Str->ε NameKind}{x:Str}{v:ζ}:∀{P:γ Str}{vs:γ ζ}{i:Nat}{m:Str->ε ζ},P.Nodup->P[i]?=AC x->vs[i]?=AC v->kindOf x≠AC .local ->
 bindC kindOf (P.zip vs) m x=AC v
|[],_,_,_,_,h,_,_=>by simp at h
|_::_,[],_,_,_,_,h,_=>by simp at h
|p::P,w::vs,0,m,nd,h1,h2,hk=>by simp at h1 h2;subst h1;subst h2;show bindC kindOf ((p,w)::P.zip vs) m p=_;unfold bindC;rw[yr λ v hv=>(A49.mp nd).1 (B46 hv).1,P3 hk];simp
|p::P,w::vs,i+1,m,nd,h1,h2,hk=>by show bindC kindOf ((p,w)::P.zip vs) m x=_;unfold bindC;exact yt (i:=i) (A49.mp nd).2 (by simpa using h1) (by simpa using h2) hk
def start(N:γ Str)(vs:γ V):St:=vs.map AC++Do (N.length-vs.length) At
def dO(CX:S5)(P:ο)(w:ξ)(K:Db)(mg:Str->ε ζ)(base:ν)(N:γ Str)(qual:Str)(scope:ς)(f:δ)(cd:ζ)(A:π)(outer:γ Env)(s:η)(H:Hp)(E:XK):Cx where
 prog:=P
 w:=w
 K:=K
 mg:=mg
 base:=base
 A:=A.deeper<|envOfC qual scope s.heap.objs.size f cd
 N:=N
 s₀:=s
 H₀:=H
 env:=envOfC qual scope s.heap.objs.size f cd
 outer:=outer
 stack:=envOfC qual scope s.heap.objs.size f cd::outer
 ex:=[]
 calm:=Ch
 fn:=λ _=>Ch
 pn:=[]
 xe:=λ e s'=>FM (model P w) (A.deeper<|envOfC qual scope s.heap.objs.size f cd) (leaving (envOfC qual scope s.heap.objs.size f cd) e) (λ _ S_=>CX outer H s E e S_) (λ e' S_=>CX outer H s E e' S_) s'
theorem Cb{sc:ς}(h:sc.names.lookup x=AC .cell):∃c,(cellsFrom n sc.names []).lookup x=AC c:=by have q:=B94 _ n []<|.inl h;exact A84.mp q
theorem yc{K:Fk}
 (S:a! N ps scope) (hd:A.handled=At) (e0:z_ P w K mg base A outer s H) (hl:vs.length=ps.length) (r:Vals vs us)
 (x:InCallC s s.heap.objs.size (bindL (envOfC qual scope s.heap.objs.size f cd).kindOf (ps.zip us) λ _=>At) (cellsFrom (s.heap.objs.size+1) scope.names []) (bindC (envOfC qual scope s.heap.objs.size f cd).kindOf (ps.zip us) λ _=>At) s1) :
 Inv (dO CX P w K mg base N qual scope f cd A outer s H E) [] (start N vs) H s1:=by
 have fA:ps.length<=N.length:=by have:=A10 List.length S.pre;rw[A26]at this;lia
 let⟨h1,tk,rfl,hk⟩:=x.done;have Rc:∀b,b∉(dO CX P w K mg base N qual scope f cd A outer s H E).ex:=λ b z=>absurd (show b∈([]:γ δ)from z) ∅;refine⟨⟨e0.mod,S.kind,rfl,rfl,v6 _,λ y z c h1 h2=>?_,λ y hy=>?_,λ y c _ h=>?_,λ _=>hd,B95 e0.frames,.inr ⟨rfl,rfl⟩,λ b z=>absurd z<|Rc b,e0.bs,e0.Hx,λ b _ _=>Rc b,λ b z=>absurd z<|Rc b,e0.lK,e0.Kv⟩,
  rfl,e0.bare,Un.kept hk,⟨_,x.toInCall.ns,λ i y v h1 h2 h3=>?_⟩,λ y c h=>⟨_,x.cell y c h⟩,e0.cy.fresh<|v6 _,λ y c h=>?_,λ p hp=>absurd (show p∈([]:γ (δ×μ))from hp) ∅,e0.cy.kept hk,?_,e0.tab⟩
 .exact name_of_addr x.apart (A66 h1)<|A66 h2
 .have hy:=hy;rcases hy with hy|hy
  .exact Cb hy
  .exact absurd rfl<|S.Rb _<|A66 hy
 .exact A70<|x.above y c<|A66 h
 .have hi:i<vs.length:=by
   unfold start at h2;by_cases hi:i<vs.length
   .exact hi
   .rw[A44 (by simpa using hi)]at h2;rw[A45]at h2;split at h2<;>cases h2
  have ha:vs[i]?=AC v:=by
   unfold start at h2;rw[A25 (by simpa using hi),A08]at h2;cases e:vs[i]? with
   |none=>rw[e]at h2;cases h2
   |some a=>rw[e]at h2;cases h2;rfl
  let⟨u,hu,rv⟩:=r.get ha;have hp:ps[i]?=AC y:=by rw[<-S.pre,B20 ∅];exact h1
  have ndP:ps.Nodup:=by rw[<-S.pre];exact S.nd.sublist<|List.take_sublist _ _
  refine⟨u,rv,?_⟩;rcases S.par y (A13 hp)with k|k
  .exact .inl ⟨k,yq ndP hp hu k⟩
  .let⟨c,e⟩:=Cb (n:=s.heap.objs.size+1) k;refine .inr ⟨.inl k,c,e,?_⟩;have q:=x.cell y c e;rw[yt ndP hp hu (by show scope.names.lookup y≠_;rw[k];decide)]at q;exact q
 .exact e0.cy.fresh<|A70<|x.above y c<|A66 h
 .unfold start;show _=N.length;rw[A55,A17,A85];lia
theorem vU{K:Db}{dV kV doc pm bh ct oc:ζ}
 (lk:K.lookup f=AC ⟨oc,od,.func<|PySem.W.fnOf name qual params body scope dV kV doc pm an bh ct,um⟩) (m?:No K bh qual=Ch) (S:a! N ps scope)
 (len:∀vs H Q E,sp vs H Q E->vs.length=ps.length)
 (BM:∀A outer s H vs Q E,bR k (A.deeper<|envOfC qual scope s.heap.objs.size f bh)->sp vs H Q E ->
  ∃t,s? (dO CX P w K mg base N qual scope f bh A outer s H E) body t/\t {nx:=λ _ H'=>Q .non H',rt:=Q} (start N vs) H) :
 ee P w K mg base CX (k+1) f (KT name qual params body scope dV kV doc pm an bh ct) ps sp:=by
 refine⟨len,λ A outer s H args us vs Q E hr e0 hb r Cy=>?_⟩;have hl:=len _ _ _ _ Cy;have KX:=e0.mod.HN.keeps λ b o e=>(e0.bs b o e).1;have lim:=e0.mod.nolimit.keeps λ b o e=>(e0.bs b o e).1;have Kh:∀y∈ps.zip us,scope.names.lookup y.1=AC .local\/(scope.names.lookup y.1=AC .cell/\((cellsFrom (s.heap.objs.size+1) scope.names []).lookup y.1).isSome=Ch):=by
  rintro⟨n,v⟩ hy;rcases S.par n (B46 hy).1 with q|q
  .exact .inl q
  .exact .inr ⟨q,B94 _ _ _<|.inl q⟩
 refine codeAny_call_function hr.depth (KX _ _ lk) rfl S.co S.gen rfl (pc KX m?)<|hb _ _ _ _ ?_;refine C34 S.kind Kh λ env he s1 x=>?_;subst he;refine⟨lim.keeps x.toInCall.keep,codeAny_func ?_⟩;let⟨t,ht,hq⟩:=BM A outer s H vs Q E (hr.deeper _) Cy;have I:Inv (dO CX P w K mg base N qual scope f bh A outer s H E) [] (start N vs) H s1:=yc S hr.hd e0 hl r x;refine A21 (ht [] s1 (start N vs) H _ I hq) (λ fl s' hs=>?_) λ e s' hs=>hs;have fin:∀{σ'}{H'}{v}{u},Inv (dO CX P w K mg base N qual scope f bh A outer s H E) [] σ' H' s'->RelV v u->Q v H'->CE outer P w H s Q u s':=
  λ {σ' H' v u} J rv q=>⟨v,H',J.os,J.bare,J.base,J.cy,rv,q⟩
 cases fl with
 |ret u=>let⟨v,σ',H',J,rv,q⟩:=hs;exact fin J rv q
 |next=>let⟨σ',H',J,q⟩:=hs;exact fin (v:=V.non) (u:=Pi) J rfl q
 |brk=>let⟨_,_,_,q⟩:=hs;exact GE q
 |cont=>let⟨_,_,_,q⟩:=hs;exact GE q
section
variable{id T:String}
def Zb(r:γ V->Hp->VK->Prop)(t:TA):TE:=λ σ H Q=>t σ H λ vs H1=>r vs H1 Q
theorem jy(hc:mQ X (.builtin id) r)(hg:Gl X x)(hm:X.mg x=At)(hv:bootBuiltins x=AC (.builtin id))(ha:PA X (e::es) t)(hn:x≠ "__name__":=by decide)(gP:(x==("__debug__"))=AT:=by decide)
 (he:Se e es X.env:=by rfl) (fA:Pn pos es X.env:=by rfl):PE X (.Call (.Name x p) (e::es) [] pos) (Zb r t):=by
 intro χ s σ H Q I h;refine A73<|k! I hg hm hv ?_ hn gP;exact PyProof.Rows.callWith_builtin1 (da (ha pos χ s σ H _ I h) <|by rintro us s1 ⟨vs,H1,I1,r1,q1⟩;exact hc χ s1 σ H1 vs us Q I1 r1 q1) he fA
theorem rg(hc:mQ X (.type T) r)(hg:Gl X x)(hm:X.mg x=At)(hv:bootBuiltins x=AC (.type T))(ha:PA X (e::es) t)(hn:x≠ "__name__":=by decide)(gP:(x==("__debug__"))=AT:=by decide)
 (he:Se e es X.env:=by rfl) (fA:Pn pos es X.env:=by rfl):PE X (.Call (.Name x p) (e::es) [] pos) (Zb r t):=by
 intro χ s σ H Q I h;refine A73<|k! I hg hm hv ?_ hn gP;exact B21 (da (ha pos χ s σ H _ I h) <|by rintro us s1 ⟨vs,H1,I1,r1,q1⟩;exact hc χ s1 σ H1 vs us Q I1 r1 q1) he fA
end
end L2
namespace HT
section
open PySem.SeqAt
open PySem.AutoSeq1 (wpAny_loadPart')
open PySem.MeetsSeq PySem.MeetsSeq2 PySem.MeetsSeq3
end
theorem OE(ht:IsTup s.heap t vs.toArray)(hb:IsTup s.heap b ws.toArray)(hv:vs≠[])
 (h1:ws=[]->Q (.ref t) s) (h2:ws≠[]->Q (.ref s.heap.objs.size) {s with heap:=s.heap.push {cls:=.type "tuple",data:=.seq (vs++ws).toArray}})
 (FC:vs.length+ws.length<=sizeLine):FM (model prog w) A (binaryOp .Add (.ref t)<|.ref b) Q E s:=by
 let⟨⟨cls,dd,data,sl⟩,ho,hc,n,hd⟩:=id ht;let⟨⟨WM,TN,data2,S!⟩,HQ,BL,n2,hd2⟩:=id hb;simp only at hc hd BL hd2;subst hc hd BL hd2;have e:vs.toArray++ws.toArray=(vs++ws).toArray:=by simp
 by_cases hw:ws=[]
 .exact B47 ⟨_,ho,rfl⟩ ⟨_,HQ,rfl⟩ B97 seq_tuple_add B99 C00 (C01 _ _)
   (tuple_addW1 t b _ _ n n2 dd TN sl S! (by simpa using hv) (by simp[hw])) ⟨ho,HQ,h1 hw⟩
 .refine B47 ⟨_,ho,rfl⟩ ⟨_,HQ,rfl⟩ B97 seq_tuple_add B99 C00 (C01 _ _)
   (tuple_addW2 t b vs.toArray ws.toArray n n2 dd TN sl S! (by simpa using hv) (by simpa using hw) (by rw[A09,A09];exact FC)) ⟨ho,HQ,?_⟩
  rw[e];exact h2 hw
def eD(n d:Nat):ε Int->Nat
|none=>d
|some v=>if v<0 then(v+(n:Int)).toNat else min v.toNat n
theorem yX(n d:Nat)(hd:d<=n)(o:ε Int):eD n d o<=n:=by
 cases o with
 |none=>exact hd
 |some v=>
  show(if v<0 then(v+(n)).toNat else min _ n)<=n;by_cases hv:v<0
  .rw[f8 hv];lia
  .rw[P3 hv];exact Nat.min_le_right _ _
theorem F1(v:Int)(n d:Nat):(if v<0 then max (v+(n)) 0 else min v (n))=((eD n d<|some v)):=by
 show(if v<0 then max _ 0 else min v (n))=(((if v<0 then(v+(n)).toNat else min _ n)))
 by_cases hv:v<0
 .simp only[f8 hv];lia
 .simp only[P3 hv];lia
theorem Ex(lo hi:ε Int)(n:Nat):Ps lo hi 1 (n)=(((eD n 0 lo):Int),((eD n n hi):Int)):=by
 have h1:¬((1)<0):=by lia
 unfold Ps;simp only[A86];refine Prod.ext ?_ ?_
 .cases lo with
  |none=>rfl
  |some v=>exact F1 v n 0
 .cases hi with
  |none=>rfl
  |some v=>exact F1 v n n
theorem C?(i j:Nat):KF (i) (j) 1=j-i:=by
 unfold KF;have h1:(1)>0:=by lia
 simp only[Int.ediv_one];split<;>lia
theorem uV(p:IsPart v o)(h:Q o s):FM (model prog w) A (Builtin.Slice.slicePartIndex v) Q E s:=by
 cases p with
 |none=>exact slicePart_none h
 |int i t=>exact slicePart_int h
theorem kG{lo hi:ε Int}{Q:Int×Int×Nat->η->Prop}(hs:s.heap.IsSliceOf sl vl vu .none)(pl:IsPart vl lo)(pu:IsPart vu hi)
 (h:Q (((eD n 0 lo)),1,eD n n hi-eD n 0 lo) s):FM (model prog w) A (Tk (.ref sl)<|pure<|n) Q E s:=by
 let⟨os,RU,FE,V!⟩:=id hs;unfold Tk Builtin.Slice.sliceFields;refine T0<|T0<|A34 RU V! rfl<|T0<|A34 RU V! rfl<|T0<|A34 RU V! rfl<|M2 ?_;refine T0<|slicePart_none ?_;rw[P3 ∅];refine T0<|uV pl<|T0<|uV pu<|T0<|M2 ?_;show FM _ _ (match Ps lo hi 1 (n)with|(lo,hi)=>pure (lo,(1:Int),KF lo hi 1)) _ _ s;rw[Ex];show FM _ _ (pure (((eD n 0 lo):Int),(1),KF ((eD n 0 lo)) ((eD n n hi)) 1)) _ _ s;rw[C?];exact M2 h
theorem Ji(xs:Array ζ)(i k:Nat):((FB k).filterMap λ(m:Nat)=>xs[((i)+(m:Int)*1).toNat]?).toArray=((xs.toList.drop i).take k).toArray:=by
 have e:(λ(m:Nat)=>xs[((i)+(m:Int)*1).toNat]?)=λ m=>xs[i+m]?:=by
  funext m
  have:((i)+(m:Int)*1).toNat=i+m:=by lia
  rw[this]
 rw[e];have:=pick_run xs i k;rw[List.filterMap_map]at this;have e2:((λ x=>xs[x]?)∘λ x=>i+x)=λ m=>xs[i+m]?:=rfl;rw[e2]at this;rw[this]
theorem qq{lo hi:ε Int}(ht:IsTup s.heap t items)(hs:s.heap.IsSliceOf sl vl vu .none)(pl:IsPart vl lo)(pu:IsPart vu hi)
 (hw:¬(eD items.size 0 lo=0/\eD items.size items.size hi=items.size))
 (h:Q (.ref s.heap.objs.size) {s with heap:=s.heap.push {cls:=.type "tuple",data:=.seq ((items.toList.drop<|eD items.size 0 lo).take<|eD items.size items.size hi-eD items.size 0 lo).toArray}})
 (FC:items.size<=sizeLine):FM (model prog w) A (getItem (.ref t)<|.ref sl) Q E s:=by
 have FA:sizeOk (.seq ((items.toList.drop<|eD items.size 0 lo).take<|eD items.size items.size hi-eD items.size 0 lo).toArray):=by show((items.toList.drop<|eD items.size 0 lo).take<|eD items.size items.size hi-eD items.size 0 lo).toArray.size<=sizeLine;rw[A09,A26,C02,B82];lia
 have hj:eD items.size items.size hi<=items.size:=yX _ _ (v6 _) hi;let⟨os,RU,FE,V!⟩:=id hs;have _4:s.TypeIs (.ref sl) "slice":=⟨os,RU,FE⟩
 unfold getItem
 try with_reducible refine A39 ?_
 first|refine T0<|M2 ?_|skip
 refine T0<|wpAny_sequenceKey ht.typeIs ∅ ?_;refine T0 (B00 (name:=Da "__getitem__") ht.typeIs B01
  <|B02 B01 ht.typeIs entry_tuple_getitem ?_<|args_tuple_getitem _ _)
 show FM _ _ (Tl (.ref t)>>=_) _ _ s;refine T0<|tupleItemsOf_ ht ?_;refine T0<|wpAny_typeOf _4 ?_;rw[f8 ∅];refine T0<|kG hs pl pu ?_;have FD:¬((((eD items.size 0 lo:Nat):Int)==0&&(1:Int)==1&&(eD items.size items.size hi-eD items.size 0 lo)==items.size)=Ch):=by intro q;rw[A35,A35]at q;have q1:((eD items.size 0 lo:Nat):Int)=0:=eq_of_beq q.1.1;have q2:eD items.size items.size hi-eD items.size 0 lo=items.size:=eq_of_beq q.2;exact hw ⟨by lia,by lia⟩
 show FM _ _ (if(((eD items.size 0 lo:Nat):Int)==0&&(1:Int)==1&&(eD items.size items.size hi-eD items.size 0 lo)==items.size)=Ch then _ else _) _ _ s;rw[P3 FD,Ji]
 first
  |exact T0 (m:=NE _)<|A67 (M2 ⟨_,rfl,M2 h⟩) FA
  |exact T0 (m:=NE _)<|A67 (T0<|M2<|M2 ⟨_,rfl,M2 h⟩) FA
  |exact T0<|T0 (m:=NE _)<|A67 (M2<|M2 ⟨_,rfl,M2 h⟩) FA
  |exact T0<|T0 (m:=NE _)<|A67 (M2 ⟨_,rfl,M2 h⟩) FA
end HT
namespace L2
abbrev TO:=St->Hp->(ε Int->Hp->Prop)->Prop
def PO(X:Cx)(e:ε ι)(t:TO):Prop:=
 ∀ (χ:γ (δ×μ))(s:η)(σ:St)(H:Hp)(Q:ε Int->Hp->Prop),Inv X χ σ H s->t σ H Q ->
  FM (model X.prog X.w) X.A (evalPart e X.env) (λ u s'=>∃o H',Inv X χ σ H' s'/\IsPart u o/\Q o H') X.xe s
def Mt:TO:=λ _ H Q=>Q At H
def Uh(t:TE):TO:=λ σ H Q=>t σ H λ x H1=>∃i,x=.int i/\Q (AC i) H1
section
variable{lo hi:ε ι}
theorem MR:PO X At Mt:=by intro χ s σ H Q I h;rw[evalPart_none];exact M2 ⟨At,H,I,.none,h⟩
theorem MQ(h:PE X e te):PO X (AC e) (Uh te):=by intro χ s σ H Q I hw;rw[evalPart_some];refine da (h χ s σ H _ I hw) ?_;rintro u s1 ⟨x,H1,I1,r1,q1⟩;let⟨i,rfl,q⟩:=q1;let⟨t,rfl⟩:=r1;exact⟨_,H1,I1,.int i t,q⟩
def OQ(X:Cx)(r:V->ε Int->ε Int->Hp->VK->Prop):Prop:=
 ∀ (χ:γ (δ×μ))(s:η)(σ:St)(H:Hp)(x:V)(v vl vu:ζ)(lo hi:ε Int)(sl:δ)(Q:VK),Inv X χ σ H s->RelV x v->s.heap.IsSliceOf sl vl vu .none->IsPart vl lo->IsPart vu hi->r x lo hi H Q ->
  ∃T id,typeLookup (.type T) "__getitem__"=pure (AC<|.builtin id)/\s.TypeIs v T/\FM (model X.prog X.w) X.A (getItem v<|.ref sl) (EP X χ σ Q) X.xe s
theorem OQ.or(h:OQ X r)(h':OQ X r'):OQ X (λ x lo hi H Q=>r x lo hi H Q\/r' x lo hi H Q):=by
 intro χ s σ H x v vl vu lo hi sl Q I rx hs pl pu q;rcases q with q|q
 .exact h χ s σ H x v vl vu lo hi sl Q I rx hs pl pu q
 .exact h' χ s σ H x v vl vu lo hi sl Q I rx hs pl pu q
def tSl(r:V->ε Int->ε Int->Hp->VK->Prop)(te:TE)(tl th:TO):TE:=λ σ H Q=>te σ H λ x H1=>tl σ H1 λ l H2=>th σ H2 λ u H3=>r x l u H3 Q
theorem Bb(hr:OQ X r)(he:PE X e te)(hl:PO X lo tl)(hu:PO X hi th):PE X (.Subscript e (.Slice lo hi At p2) pos) (tSl r te tl th):=by intro χ s σ H Q I h;refine Subscript_<|da (he χ s σ H _ I h) ?_;rintro v s1 ⟨x,H1,I1,r1,q1⟩;refine wpAny_Slice<|da (hl χ s1 σ H1 _ I1 q1) λ vl s2 ⟨l,H2,I2,pl,q2⟩=>da (hu χ s2 σ H2 _ I2 q2) ?_;rintro vu s3 ⟨u,H3,I3,pu,q3⟩;rw[evalPart_none];refine M2 ?_;have I4:Inv X χ σ H3 {s3 with heap:=s3.heap.push {cls:=.type "slice",data:=.fields #[vl,vu,.none]}}:=I3.kept λ b ob q=>A02 _ q;let⟨T,id,hT,ht,hg⟩:=hr χ {s3 with heap:=s3.heap.push {cls:=.type "slice",data:=.fields #[vl,vu,.none]}} σ H3 x v vl vu l u _ Q I4 r1 (Heap.IsSliceOf.new ..) pl pu q3;exact tail_any ht hT hg (by with_unfolding_all rfl)
def xw(xs:γ V)(lo hi:ε Int):γ V:=(xs.drop<|HT.eD xs.length 0 lo).take<|HT.eD xs.length xs.length hi-HT.eD xs.length 0 lo
theorem sW(xs:γ V)(lo hi:ε Int):(xw xs lo hi).length<=xs.length:=by unfold xw;rw[A26,C02];lia
def ZF(K:Db):V->ε Int->ε Int->Hp->VK->Prop:=λ x lo hi H Q=>∃a xs,x=.ref a/\nr K H a xs /\
 ¬(HT.eD xs.length 0 lo=0/\HT.eD xs.length xs.length hi=xs.length)/\∀p,H p=At->Q (.ref p) (upd H p<|.tup<|xw xs lo hi)
theorem Qo:OQ X (ZF X.K):=by
 intro χ s σ H x v vl vu lo hi sl Q I rx hs pl pu h;let⟨a,xs,rfl,hx,hw,q⟩:=h;cases rx;let⟨bT,r,ht,hz⟩:=I.tuple hx;have ψ:bT.toArray.size=xs.length:=by rw[A09];exact r.length.symm
 refine⟨"tuple",_,B01.lookup,ht.typeIs,?_⟩;refine HT.qq ht hs pl pu (by rw[ψ];exact hw) ?_ (by rw[ψ];exact hz);rw[ψ];refine⟨.ref _,_,I.laid (λ b ob q=>A02 _ q) (v6 _) ?_,rfl,q _<|I.cy.fresh<|v6 _⟩;exact⟨A27 (sW xs lo hi) hz,_,(r.drop _).take _,qM.new _ _⟩
def UL(K:Db):R2:=λ x y H Q=>∃a b xs ys,x=.ref a/\y=.ref b/\nr K H a xs/\nr K H b ys/\xs≠[]/\xs.length+ys.length<=sizeLine /\
 (ys=[]->Q (.ref a) H)/\(ys≠[]->∀p,H p=At->Q (.ref p) (upd H p<|.tup<|xs++ys))
theorem Vals.uq(r:Vals xs us):us=[]↔xs=[]:=by
 cases r with
 |nil=>simp
 |cons _ _=>simp
theorem M5:kC X (binaryOp .Add) (UL X.K):=by intro χ s σ H x y v u Q I rx ry h;let⟨a,b,xs,ys,rfl,rfl,ha,hb,hx,hz,q1,q2⟩:=h;cases rx;cases ry;let⟨bT,r1,p1,_⟩:=I.tuple ha;let⟨iP,r2,p2,_⟩:=I.tuple hb;refine HT.OE p1 p2 (λ z=>hx<|r1.uq.mp z) (λ z=>⟨.ref a,H,I,rfl,q1<|r2.uq.mp z⟩) (λ z=>?_) (by rw[<-r1.length,<-r2.length];exact hz);refine⟨.ref _,_,I.laid (λ b ob q=>A02 _ q) (v6 _) ?_,rfl,q2 (λ w=>z<|r2.uq.mpr w) _<|I.cy.fresh<|v6 _⟩;exact⟨by rw[A55];exact hz,_,r1.append r2,qM.new _ _⟩
end
def VD(n:Nat)(i:Int):ε Nat:=if 0<=i then(if i<n then AC i.toNat else At)else if -(n:Int)<=i then AC (i+n).toNat else At
def SJ{α:Type}(xs:γ α)(i:Int):ε α:=(VD xs.length i).bind λ j=>xs[j]?
theorem NK(h:VD n i=AC j):seqIndex? i n=AC j/\j<n/\-(n)<=i/\i<n:=by
 unfold VD at h;by_cases h0:0<=i
 .rw[f8 h0]at h;by_cases h1:i<n
  .rw[f8 h1]at h;have e:=A06 h;exact⟨by rw[seqIndex_of h0 h1,e],by lia,by lia,h1⟩
  .rw[P3 h1]at h;cases h
 .rw[P3 h0]at h;by_cases h1:-(n)<=i
  .rw[f8 h1]at h;have e:=A06 h;exact⟨by rw[seqIndex_neg ∅ h1,e],by lia,h1,by lia⟩
  .rw[P3 h1]at h;cases h
theorem z7(h:SJ xs i=AC v):∃j,seqIndex? i xs.length=AC j/\xs[j]?=AC v/\j<xs.length/\-(xs.length)<=i/\i<xs.length:=by
 unfold SJ at h;cases e:VD _ i with
 |none=>rw[e]at h;cases h
 |some j=>rw[e]at h;let⟨h1,h2,h3,h4⟩:=NK e;exact⟨j,h1,h,h2,h3,h4⟩
def F!(b:ι):Prop:=∀o i,subscripted b AT o i=operate [o,i] (getItem o i)
def OY(X:Cx)(r:R2):Prop:=
 ∀ (value slice:ι)(χ:γ (δ×μ))(s:η)(σ:St)(H:Hp)(x y:V)(v u:ζ)(Q:VK),Inv X χ σ H s->RelV x v->RelV y u->r x y H Q ->
  subscripted slice AT v u=operate [v,u] (getItem v u)->FM (model X.prog X.w) X.A (subscriptTail value slice v u) (EP X χ σ Q) X.xe s
def MtR(X:Cx)(id:String)(r:V->γ V->Hp->VK->Prop):Prop:=
 ∀ (χ:γ (δ×μ))(s:η)(σ:St)(H:Hp)(x:V)(xs:γ V)(v:ζ)(us:γ ζ)(Q:VK),Inv X χ σ H s->RelV x v->Vals xs us->r x xs H Q ->
  FM (model X.prog X.w) X.A (call (.builtin id)<|v::us) (EP X χ σ Q) X.xe s
section
theorem OY.or(h:OY X r)(h':OY X r'):OY X (λ x y H Q=>r x y H Q\/r' x y H Q):=by
 intro value slice χ s σ H x y v u Q I rx ry q hs;rcases q with q|q
 .exact h value slice χ s σ H x y v u Q I rx ry q hs
 .exact h' value slice χ s σ H x y v u Q I rx ry q hs
theorem UP(hr:OY X r)(ha:PE X a ta)(hb:PE X b tb)(hs:F! b):PE X (.Subscript a b pos) (Ms r ta tb):=by intro χ s σ H Q I h;exact Subscript_<|SG ha hb I h λ v u s2 x y H2 I2 rx ry q=>hr a b χ s2 σ H2 x y v u Q I2 rx ry q<|hs _ _
def UJ(K:Db):R2:=λ x y H Q=>∃p xs i v,x=.ref p/\y=.int i/\ka K H p xs/\SJ xs i=AC v/\Q v H
def UH(K:Db):R2:=λ x y H Q=>∃p xs i v,x=.ref p/\y=.int i/\nr K H p xs/\SJ xs i=AC v/\Q v H
def UI:R2:=λ x y H Q=>∃z i c,x=.str z/\y=.int i/\z.length<=sizeLine/\SJ z.cps.toList i=AC c/\Q (.str ⟨#[c]⟩) H
theorem NJ:OY X (UJ X.K):=by
 intro value slice χ s σ H x y v u Q I rx ry h hs;let⟨p,xs,i,z,rfl,rfl,hq,he,q⟩:=h;cases rx;let⟨t,rfl⟩:=ry;let⟨bT,r,pl,hz⟩:=I.list hq;let⟨j,h1,h2,h3,h4,h5⟩:=z7 he;let⟨w,ew,Zv⟩:=r.get h2;have hl:=r.length;have hn:=zr;have fin:EP X χ σ Q w s:=⟨z,H,I,Zv,q⟩
 by_cases h0:0<=i
 .have hj:i.toNat=j:=by rw[seqIndex_of h0 h5]at h1;exact A06 h1
  exact item_listR pl.isList h0 ∅ (by rw[hj];simpa using ew) fin hs
 .have hj:(i+(bT.toArray.size)).toNat=j:=by rw[seqIndex_neg ∅ h4]at h1;rw[A09,<-hl];exact A06 h1
  exact subscriptTail_builtinR pl.isList.typeIs slot_list_getitem.lookup
   (wpAny_getItem_list_neg pl.isList ∅ (by rw[A09]<;>lia) ∅ (by rw[hj];simpa using ew) ⟨rfl,fin⟩) hs
theorem RC:OY X (UH X.K):=by
 intro value slice χ s σ H x y v u Q I rx ry h hs;let⟨p,xs,i,z,rfl,rfl,hq,he,q⟩:=h;cases rx;let⟨t,rfl⟩:=ry;let⟨bT,r,pl,hz⟩:=I.tuple hq;let⟨j,h1,h2,h3,h4,h5⟩:=z7 he;let⟨w,ew,Zv⟩:=r.get h2;have hl:=r.length;have hn:=zr;have fin:EP X χ σ Q w s:=⟨z,H,I,Zv,q⟩
 exact subscriptTail_builtinR pl.typeIs slot_tuple_getitem.lookup
  (getItem_tuple pl ∅ ∅ (by rw[A09,<-hl];exact h1) (by simpa using ew) ⟨rfl,fin⟩) hs
theorem RD:OY X UI:=by
 intro value slice χ s σ H x y v u Q I rx ry h hs;let⟨z,i,c,rfl,rfl,hz,he,q⟩:=h;let⟨t,rfl⟩:=rx;let⟨t',rfl⟩:=ry;let⟨j,h1,h2,h3,h4,h5⟩:=z7 he;have hl:z.cps.toList.length=z.length:=by simp[Str.length]
 rw[hl]at h1 h4 h5;have hn:=zr;exact tail_any (typeIs_str s z t) slot_str_getitem.lookup (getItem_str (by have e1:decide (i < -(2^63))=AT:=A37 ∅;have e2:decide (i≥2^63)=AT:=A37 ∅;rw[e1,e2,Bool.or_false]) (by rw[h1];simpa using h2) ⟨.str ⟨#[c]⟩,H,I.tok _,⟨_,rfl⟩,q⟩) hs
def rIx(K:Db):R2:=λ x y H Q=>UJ K x y H Q\/UH K x y H Q\/UI x y H Q
theorem RF:OY X (rIx X.K):=NJ.or<|RC.or RD
theorem yU(lo hi:ε Int)(n:Nat):(sliceBounds lo hi At n).1=((HT.eD n 0 lo))/\(sliceBounds lo hi At n).2.1=((HT.eD n n hi))/\(sliceBounds lo hi At n).2.2=1:=by
 refine⟨?_,?_,rfl⟩
 .cases lo with
  |none=>simp[sliceBounds,HT.eD]
  |some i=>
   simp only[sliceBounds,HT.eD,AA9,A23];by_cases h:i<0
   .simp only[h]<;>lia
   .simp only[h,A86]<;>lia
 .cases hi with
  |none=>simp[sliceBounds,HT.eD]
  |some i=>
   simp only[sliceBounds,HT.eD,AA9,show(1)>0 by decide,A23];by_cases h:i<0
   .simp only[h,A23]<;>lia
   .simp only[h,A86]<;>lia
theorem wR(bT:γ ζ)(lo hi:ε Int):slicePick bT.toArray lo hi At=((bT.drop<|HT.eD bT.length 0 lo).take<|HT.eD bT.length bT.length hi-HT.eD bT.length 0 lo).toArray:=by let⟨h1,h2,h3⟩:=yU lo hi bT.toArray.size;unfold slicePick;rw[h1,h2,h3];simp only[sliceRange_one,pick_run]<;>rfl
def ZH(K:Db):V->ε Int->ε Int->Hp->VK->Prop:=λ x lo hi H Q=>∃a xs,x=.ref a/\ka K H a xs/\∀p,H p=At->Q (.ref p) (upd H p<|.lst<|xw xs lo hi)
theorem MB:OQ X (ZH X.K):=by intro χ s σ H x v vl vu lo hi sl Q I rx hs pl pu h;let⟨a,xs,rfl,hx,q⟩:=h;cases rx;let⟨bT,r,ht,hz⟩:=I.list hx;have ψ:=r.length;refine⟨"list",_,slot_list_getitem.lookup,ht.isList.typeIs,?_⟩;refine wpAny_getItem_list_slice ht.isList hs pl pu .none ∅ ?_ (by rw[A09]<;>lia);rw[wR,<-ψ];refine⟨.ref _,_,I.laid (λ b ob q=>A02 _ q) (v6 _) ?_,rfl,q _<|I.cy.fresh<|v6 _⟩;exact⟨A27 (sW xs lo hi) hz,_,0,(r.drop _).take _,A16 _ rfl⟩
theorem zY:mQ X (.type "list") (λ xs H Q=>∃p ys,xs=[.ref p]/\(ka X.K H p ys\/nr X.K H p ys)/\∀l,H l=At->Q (.ref l) (upd H l<|.lst ys)):=by
 intro χ s σ H xs us Q I r h;let⟨p,ys,rfl,hq,q⟩:=h;let⟨u,rfl,rx⟩:=vals1 r;cases rx;have fin:∀bT,Vals ys bT->ys.length<=sizeLine->∀h' c',(∀b o',s.heap.get? b=AC o'->h'.get? b=AC o') ->
  h'.get? s.heap.objs.size=AC {cls:=.type "list",dict:=At,data:=.seq bT.toArray c',slots:=#[]}->EP X χ σ Q _ {s with heap:=h'}:=λ bT r' hz h' c' kp e=>
  ⟨.ref _,_,I.laid kp (v6 _)<|show fW _ X.w _ h' _ (.lst ys)from⟨hz,bT,c',r',e⟩,rfl,q _<|I.cy.fresh<|v6 _⟩
 rcases hq with hq|hq
 .let⟨bT,r',pl,hz⟩:=I.list hq;have ψ:=r'.length;let⟨o,ho,hc,n,hd⟩:=pl.isList;exact call_list_seq p (.inl rfl) ho hc hd (λ h' c' kp e=>fin bT r' hz h' c' kp e) (by simp only[A09]<;>lia)
 .let⟨bT,r',pl,hz⟩:=I.tuple hq;have ψ:=r'.length;let⟨o,ho,hc,n,hd⟩:=pl;exact call_list_seq p (.inr rfl) ho hc hd (λ h' c' kp e=>fin bT r' hz h' c' kp e) (by simp only[A09]<;>lia)
theorem xx:mQ X (.type "tuple") (λ xs H Q=>∃p ys,xs=[.ref p]/\((ka X.K H p ys/\∀l,H l=At->Q (.ref l) (upd H l<|.tup ys))\/(nr X.K H p ys/\Q (.ref p) H))):=by
 intro χ s σ H xs us Q I r h;let⟨p,ys,rfl,h⟩:=h;let⟨u,rfl,rx⟩:=vals1 r;cases rx;rcases h with⟨hq,q⟩|⟨hq,q⟩
 .let⟨bT,r',pl,hz⟩:=I.list hq;have ψ:=r'.length;refine call_tuple_list pl.isList (λ h' kp=>?_) (by simp only[A09]<;>lia);have I1:=I.kept (t':=s.toks) kp;have I2:=
   I1.laid (t':=s.toks) (λ b o e=>A02 _ e) (v6 _)<|show fW _ X.w _ _ _ (.tup ys)from⟨hz,bT,r',qM.new _ _⟩
  exact⟨.ref _,_,I2,rfl,q _<|I1.cy.fresh<|v6 _⟩
 .let⟨bT,r',pl,hz⟩:=I.tuple hq;exact call_tuple_same pl ⟨.ref p,H,I,rfl,q⟩
def tyV(K:Db)(T:String)(x:V)(H:Hp):Prop:=match x with
|.str _=>T="str"
|.int _=>T="int"
| .ref p=>(T="list" /\ ∃xs,ka K H p xs)\/(T="tuple" /\ ∃o,K.lookup p=AC o/\o.cls=.type "tuple" /\ o.dict=At) \/
 (T="dict" /\ ((∃fT,H p=AC (.dK fT))\/∃fT,H p=AC (.dT fT)))\/(T="set" /\ ∃S n,H p=AC (.set S n))
|_=>False
theorem Qb(I:Inv X χ σ H s)(r:RelV x v)(ty:tyV X.K T x H) :
 s.TypeIs v T/\∀a,v=.ref a->∃ob,s.heap.get? a=AC ob/\ob.dict=At:=by
 cases x with
 |str z=>let⟨t,rfl⟩:=r;cases (ty);exact⟨typeIs_str s z t,λ _ e=>nomatch e⟩
 |int i=>let⟨t,rfl⟩:=r;cases (ty);exact⟨typeIs_int s i t,λ _ e=>nomatch e⟩
 |ref p=>
  cases r;rcases ty with⟨rfl,xs,hq⟩|⟨rfl,o,hk,hc,hd⟩|⟨rfl,hk⟩|⟨rfl,S,n,hk⟩
  .let⟨bT,_,pl,_⟩:=I.list hq;refine⟨pl.isList.typeIs,λ a e=>?_⟩;cases e;let⟨o,n,e,c,hd,_⟩:=pl;exact⟨o,e,hd⟩
  .refine⟨⟨o,I.kB p o hk,hc⟩,λ a e=>?_⟩;cases e;exact⟨o,I.kB _ o hk,hd⟩
  .have z:∃o,s.heap.get? p=AC o/\o.ExactDict:=by
    rcases hk with⟨fT,hk⟩|⟨fT,hk⟩
    .let⟨_,_,_,_,o,_,_,e,ex,_⟩:=I.cy p _ hk;exact⟨o,e,ex⟩
    .let⟨_,_,_,_,o,_,_,e,ex,_⟩:=I.cy p _ hk;exact⟨o,e,ex⟩
   let⟨o,e,ex⟩:=z;refine⟨⟨o,e,ex.1⟩,λ a e2=>?_⟩;cases e2;exact⟨o,e,ex.2.1⟩
  .let⟨o,_,_,_,e,ex,_⟩:=I.cy p _ hk;refine⟨⟨o,e,ex.1⟩,λ a e2=>?_⟩;cases e2;exact⟨o,e,ex.2.1⟩
 |_=>exact GE ty
def Zc(K:Db)(T:String)(r:V->γ V->Hp->VK->Prop)(to:TE)(t:TA):TE:=λ σ H Q=>to σ H λ x H1=>tyV K T x H1/\t σ H1 λ xs H2=>r x xs H2 Q
variable{T id:String}
theorem Jp(pa:PlainAttrs T)(slot:Slot T name id)(hty:typeOf (.builtin id)=pure (.type "method_descriptor"))(hm:MtR X id r)(ho:PE X o to)(ha:PA X (e::es) t)
 (vP:attributeBase o name X.env (eval o X.env)=eval o X.env:=by rfl)
 (DY:((backTo nG<|starEach (e::es) X.env).all (λ x=>!x.1)&&(backToKw nG<|keywordEach [] X.env).all (λ x=>x.1.isSome)
  && decide ((e::es).length+([]:γ υ).length+(if([]:γ υ).isEmpty then 0 else 1)<30))=Ch:=by rfl)
 (vN:(apos.endLine==nG.line)=Ch:=by rfl) (hs:Se e es X.env:=by rfl) (oX:Pn nG es X.env:=by rfl) :
 PE X (.Call (.Attribute o name apos) (e::es) [] nG) (Zc X.K T r to t):=by
 intro χ s σ H Q I h;refine wpAny_Call_method_late vP DY vN rfl<|da (ho χ s σ H _ I h) ?_;rintro v s1 ⟨x,H1,I1,r1,ty,q1⟩;let⟨h1,h2⟩:=Qb I1 r1 ty;refine⟨T,id,pa,slot,hty,h1,h2,?_⟩;have hA:=ha nG χ s1 σ H1 _ I1 q1;rw[hs]at hA ⊢;refine Calls.callWith_builtin (by show(AT||(backTo nG _).any _)=AT;rw[oX]<;>rfl)<|Calls.evalArgs_plain ?_;exact da hA <|by rintro us s2 ⟨vs,H2,I2,r2,q2⟩;exact hm χ s2 σ H2 x vs v us Q I2 r1 r2 q2
/- xs.append(e),list.index on a JR tuple .. are MtR facts of 06m -/
end
def MtM(X:Cx)(id:String)(r:V->γ V->Hp->VK->Prop):Prop:=
 ∀ (χ:γ (δ×μ))(s:η)(σ:St)(H:Hp)(x:V)(xs:γ V)(v:ζ)(us:γ ζ)(Q:VK),Inv X χ σ H s->RelV x v->Vals xs us->r x xs H Q ->
  FM (model X.prog X.w) X.A (call (.builtin id)<|v::us) (EP X χ σ Q) X.xe s
theorem Vals.one:∀{x}{us},Vals [x] us->∃u,us=[u]/\RelV x u
|_,_,.cons r .nil=>⟨_,rfl,r⟩
theorem Inv.Vw{bT BE:γ ζ}(I:Inv X χ σ H s)(hH:H l=AC (.lst xs))
 (e:s.heap.get? l=AC {cls:=.type "list",data:=.seq bT.toArray n}) (hf:f bT.toArray=BE.toArray) (hv:Vals ys BE) (hz:ys.length<=sizeLine) :
 Inv X χ σ (upd H l<|.lst ys) {s with heap:=s.heap.update l<|Obj.mapSeq f,toks:=t'}:=by
 have q:=PySem.IsL.update e f;rw[hf]at q;refine I.write (by rw[hH];exact trivial) (.inl rfl) (λ b' u hb hu=>(A62 _ _<|A07 hb).trans hu) ⟨_,q⟩ ?_;exact⟨hz,BE,_,hv,q⟩
theorem Inv.Z7(I:Inv X χ σ H s)(hv:Vals ys bT)(hz:ys.length<=sizeLine):
 Inv X χ σ (upd H s.heap.objs.size<|.lst ys) {s with heap:=s.heap.push {cls:=.type "list",data:=.seq bT.toArray},toks:=t'}:=
 I.laid (λ _ _ q=>A02 _ q) (v6 _) ⟨hz,bT,0,hv,A16 _ rfl⟩
theorem Inv.fresh(I:Inv X χ σ H s):H s.heap.objs.size=At:=I.cy.fresh<|v6 _
theorem Inv.Rq(I:Inv X χ σ H s)(hH:H l=AC (.lst xs)):xs.length<=sizeLine/\∃bT n,Vals xs bT/\xs.length=bT.length/\s.heap.get? l=AC {cls:=.type "list",data:=.seq bT.toArray n}:=by let⟨z,bT,n,r,e⟩:=I.cy l _ hH;exact⟨z,bT,n,r,r.length,e⟩
theorem JG(h:n<=sizeLine):Builtin.List.listTooLong n=AT:=by exact A37 ∅
def E6:V->γ V->Hp->VK->Prop:=λ x vs H Q=>∃l xs y,x=.ref l/\vs=[y]/\H l=AC (.lst xs)/\xs.length<sizeLine/\Q .non (upd H l<|.lst<|xs++[y])
theorem xZ:MtM X "list.append" E6:=by intro χ s σ H x vs v us Q I rx rv h;let⟨l,xs,y,rfl,rfl,hH,hz,q⟩:=h;cases rx;let⟨u,rfl,ru⟩:=rv.one;let⟨z,bT,n,r,hl,e⟩:=I.Rq hH;refine A87 F.slot_list_append ⟨_,e,rfl⟩ F.entry_list_append (F.args_list_append_2 _ _) (PySem.list_append l _ n u (by rw[A09];lia)) ⟨e,?_⟩;refine⟨.non,_,I.Vw hH e ∅ (r.append<|.cons ru .nil) ?_,rfl,q⟩;rw[A55,List.length_singleton];lia
def E5:V->γ V->Hp->VK->Prop:=λ x vs H Q=>∃l b xs zs,x=.ref l/\vs=[.ref b]/\H l=AC (.lst xs)/\H b=AC (.lst zs)/\xs.length+zs.length<=sizeLine/\Q .non (upd H l<|.lst<|xs++zs)
theorem GY:MtM X "list.extend" E5:=by
 intro χ s σ H x vs v us Q I rx rv h;let⟨l,b,xs,zs,rfl,rfl,hH,hB,hz,q⟩:=h;cases rx;let⟨u,rfl,ru⟩:=rv.one;cases ru;let⟨z,bT,n,r,hl,e⟩:=I.Rq hH;let⟨z2,iP,n2,r2,NZ,e2⟩:=I.Rq hB;have FC:bT.toArray.size+iP.toArray.size<=sizeLine:=by rw[A09,A09];lia
 have VY:¬(!bT.toArray.isEmpty&&Builtin.List.listTooLong (bT.toArray.size+iP.toArray.size))=Ch:=by rw[JG FC,B22];exact B19
 refine A87 F.slot_list_extend ⟨_,e,rfl⟩ F.entry_list_extend (F.args_list_extend_2 _ _)
  (AutoSeq1.list_extend_list_list_0 l _ n b _ n2 VY (by rw[A09];lia) ∅) ⟨e,e2,?_⟩
 refine⟨.non,_,I.Vw hH e ∅ (r.append r2) ?_,rfl,q⟩;rw[A55];lia
end L2
namespace Att
open PySem.W PySem.Calls
theorem tY:∀ns vs,WellAll P h vs (ns.map WData.int)->IntsAre vs ns:=by
 intro ns
 induction ns with
 |nil=>intro vs w;rw[A68]at w;cases w;exact .nil
 |cons n ns ih=>
  intro vs w;rw[A12]at w;cases w with
  |cons a b=>cases a;exact .cons _ _<|ih _ b
theorem Gx{l:OpenLaw}(hn:l.most=AC n)
 (NW:l.row.toRowW.claim.pre args=Ch) (VQ:WellAll P h vals args) :
 ∃a vs ns,vals=[Value.ref a]/\args=[WData.list (ns.map WData.int)]/\h.get? a=AC {cls:=.type "list",data:=.seq vs.toArray}/\IntsAre vs ns/\ns.length<=n:=by
 have hsh:=(pre_splitW NW).1;have hc:l.pre.holds [] {args:=args}=Ch:=(pre_splitW NW).2;let⟨d,r,rfl,h1,h2⟩:=hasAllW_cons hsh;obtain rfl:=hasAllW_nil h2;let⟨xs,rfl,h3⟩:=hasW_list h1;let⟨ns,rfl⟩:=items_int h3;have ψ:ns.length<=n:=by
  have h4:(WTm.not<|.lt (.lit<|.int<|n)<|.len<|.arg 0).holds [] {args:=[.list (ns.map .int)]}=Ch:=by have h4:=(holds_andW hc).1;rw[hn]at h4;exact h4
  have h5:=condW_of h4<|w_not<|w_lt w_lit<|w_len_list<|w_arg rfl;rw[A17]at h5;refine Nat.le_of_not_lt λ q=>?_;have q':(n)<((ns.length)):=by lia
  first
   |(rw[A56 q']at h5;exact absurd h5 ∅)
   |(simp at h5;lia)
 cases VQ with
 |cons w1 w2=>
  cases w2;cases w1 with
  |list ho hall=>exact⟨_,_,ns,rfl,rfl,ho,tY ns _ hall,ψ⟩
theorem Gz(l:OpenLaw)(args:γ WData):l.row.toRowW.claim.post args (.bool Ch) args=Ch:=
 postW_of
  (show WShape.has [] _ .bool=Ch by first|rfl|decide|simp[WShape.armsAll])
  (w_eq_bool (w_res rfl) w_lit) rfl
section
variable{K:Frag}
end
end Att
namespace L2
theorem xI:∀{vs}{ns},IntsAre vs ns->Vals (ns.map V.int) vs
|_,_,.nil=>.nil
|_,_,.cons n t h=>.cons ⟨t,rfl⟩<|xI h
def OV(H:Hp):Prop:=∀b,H b=At\/(∃o xs,H b=AC (.eH o<|.lst xs))\/∃q,H b=AC (.Iq q)
def TabAt(K:Db)(x:Str)(b:δ):Prop:=x∈dE/\∃c,Op K x=AC (c,b)
theorem NA{K:Db}(one:∀x y c P c',x∈dE->y∈dE->Op K x=AC (c,P)->Op K y=AC (c',P)->x=y)(h:TabAt K x b)(g:TabAt K y b):x=y:=by let⟨h1,c,h2⟩:=h;let⟨g1,d,g2⟩:=g;exact one x y c b d h1 g1 h2 g2
open Classical in
noncomputable def CZ(K:Db)(a:δ)(u:HO)(s:Bool):Hp:=λ b=>if h:∃x,TabAt K x b then AC (.Iq<|jV h.choose)else if s=Ch/\b=a then AC u else At
theorem J9{P:ο}{w:ξ}{K:Fk}{mg mb:Str->ε ζ}{CX:S5}{k:Nat}{fa a:δ}{fd:τ}{x:Str}{sp:Sp}{s₁:η}{vs:γ ζ}{ns:γ Int}
 (KX:K.In s₁.heap) (LV:s₁.heap.Ns mainGlobals mg) (hb:s₁.heap.Ns builtinsNs mb) (hbb:∀x:Str,x≠ "__name__" -> mb x=bootBuiltins x) (_C:s₁.heap.NoLimit) (hg:s₁.gens=#[])
 (ha:s₁.heap.get? a=AC {cls:=.type "list",data:=.seq vs.toArray}) (hi:IntsAre vs ns) (hl:ns.length<=sizeLine) (hr:bR k callerA)
 (F:∀base:ν,K.In base->base.Ns mainGlobals mg->ee P w K mg base CX k fa fd [x] sp) (mq:∀(s:η)(u:ζ),BindsTo s fd ⟨[u],[]⟩ [(x,u)])
 (Cy:∀H:Hp,OV H->ka K H a (ns.map V.int)->sp [.ref a] H (λ v _=>v=.bl Ch) λ _ _ _=>False)
 (hCX:∀H e s',CX [] H s₁ (λ _ _ _=>False) e s'->False)
 (one:∀x y c P c',x∈dE->y∈dE->Op K x=AC (c,P)->Op K y=AC (c',P)->x=y)
 (tab:∀x∈dE,∀c P,Op K x=AC (c,P)->(AC7 s₁.heap c P/\s₁.heap.get? P=AC (cr #[]))/\s₁.heap.TableAt c P #[]) (bm:BMain mg s₁.heap) (iY:PySem.W.noTabs K=Ch) :
 codeAny (model P w) callerA (.call (.ref fa) ⟨[.ref a],[]⟩) (λ r s'=>r=.ok (.ret<|.bool Ch)/\OldK s₁.heap s'.heap/\s'.os=s₁.os/\AllBare s'.gens) s₁:=by
 have rv:=xI hi;have Z8:=hi.length;have Mq:∀{b}{y},TabAt K y b->s₁.heap.get? b=AC (cr #[]):=λ {b y} ⟨h1,c,h2⟩=>(tab y h1 c b h2).1.2;have Pe:∀{b}{o},s₁.heap.get? b=AC o->o≠cr #[]->¬∃y,TabAt K y b:=λ {b o} e n ⟨y,h⟩=>by have:=Mq h;rw[e]at this;exact n<|A06 this
 have at1:∀{b}{u}{q}{y},TabAt K y b->CZ K a u q b=AC (.Iq<|jV y):=λ {b u q y} h=>by
  have hh:∃x,TabAt K x b:=⟨y,h⟩
  unfold CZ;rw[B03 hh];rw[NA one hh.choose_spec h]
 have at2:∀{b}{u}{q},(¬∃y,TabAt K y b)->CZ K a u q b=if q=Ch/\b=a then AC u else At:=λ {b u q} h=>by unfold CZ;rw[dif_neg h]
 -- from an abstract heap in aa9 nothing but Qe Qq and Qe tables may be tracked
 have core:∀u q,(∃o xs,u=.eH o (.lst xs))->ka K (CZ K a u q) a (ns.map V.int)->(q=Ch->fW P w (CZ K a u q) s₁.heap a u)->(q=Ch->K.lookup a=At) ->
  codeAny (model P w) callerA (.call (.ref fa) ⟨[.ref a],[]⟩) (λ r s'=>r=.ok (.ret<|.bool Ch)/\OldK s₁.heap s'.heap/\s'.os=s₁.os/\AllBare s'.gens) s₁:=by
  intro u q hu hS hua hK;generalize _7:CZ K a u q=H at hS hua;have na:¬∃y,TabAt K y a:=Pe ha λ z=>by cases z
  have of:∀{b}{v},H b=AC v->(∃y,TabAt K y b/\v=.Iq (jV y))\/(q=Ch/\b=a/\v=u):=λ {b v} e=>by
   by_cases hb:∃y,TabAt K y b
   .let⟨y,hy⟩:=hb;rw[<-_7,at1 hy]at e;cases e;exact .inl ⟨y,hy,rfl⟩
   .rw[<-_7,at2 hb]at e;split at e
    .rename_i hc;cases e;exact .inr ⟨hc.1,hc.2,rfl⟩
    .cases e
  have cy:pj P w H s₁.heap:=λ b v e=>by
   rcases of e with⟨y,hy,rfl⟩|⟨hq,rfl,rfl⟩
   .exact⟨#[],Mq hy,trivial,λ pos cv z=>nomatch z⟩
   .exact hua hq
  have hO:OV H:=λ b=>by
   cases e:H b with
   |none=>exact .inl rfl
   |some v=>
    rcases of e with⟨y,_,rfl⟩|⟨_,_,rfl⟩
    .exact .inr<|.inr ⟨_,rfl⟩
    .let⟨o,xs,rfl⟩:=hu;exact .inr<|.inl ⟨o,xs,rfl⟩
  have uC:∀{b}{o},s₁.heap.get? b=AC o->H b=At->(xo s₁.heap H).get? b=AC o:=λ e n=>Ki e n;have Rc:∀{b}{o},s₁.heap.get? b=AC o->(∀xs n,o.data≠.seq xs n)->(∀xs,o.data≠.fields xs\/o.cls≠.none)->H b=At:=λ {b o} e d d2=>by
   cases r:H b with
   |none=>rfl
   |some v=>
    rcases of r with⟨y,hy,_⟩|⟨_,_0,_⟩
    .rw[Mq hy]at e;cases e;rcases d2 #[]with z|z
     .exact absurd rfl z
     .exact absurd rfl z
    .rw[_0,ha]at e;cases e;exact absurd rfl<|d _ _
  have X5:∀{b:δ}{m:Str->ε ζ},s₁.heap.Ns b m->(xo s₁.heap H).Ns b m:=λ {b m} ⟨o,es,ep,e,d,r⟩=>⟨o,es,ep,uC e (Rc e (λ xs n z=>by rw[d]at z;cases z) λ xs=>.inl λ z=>by rw[d]at z;cases z),d,r⟩
  have hKb:K.In (xo s₁.heap H):=λ b o e=>uC (KX b o e) (by
   cases r:H b with
   |none=>rfl
   |some v=>
    rcases of r with⟨y,hy,_⟩|⟨hq,_0,_⟩
    .have e2:=KX b o e;rw[Mq hy]at e2;cases e2;have h2:=A30.mp iY _<|PySem.W.mem_of_lookupK e;exact absurd (show AT=Ch from h2) B19
    .rw[_0,hK hq]at e;cases e)
  have hM:Mod K mg (xo s₁.heap H):=⟨hKb,X5 LV,⟨mb,X5 hb,hbb⟩,let ⟨mc,h1,h2⟩:=_C;⟨mc,X5 h1,h2⟩⟩
  have hT:yB K mg (xo s₁.heap H) H:=λ y hy c p e=>by let⟨⟨⟨o,vs,file,tf,flags,tg,inF,text,tt,e1,e2,e3,r⟩,_⟩,_⟩:=tab y hy c p e;let⟨bmA,ob,b1,b2,b3,b4,b5,b6⟩:=bm;refine⟨by rw[<-_7];exact at1 ⟨hy,c,e⟩,⟨o,vs,file,tf,flags,tg,inF,text,tt,uC e1 (Rc e1 (λ xs n z=>by rw[e3]at z;cases z) λ xs=>.inr λ z=>by rw[e2]at z;cases z),e2,e3,r⟩,bmA,ob,b1,b2,uC b3 (Rc b3 (λ xs n z=>by rw[b6]at z;cases z) λ xs=>.inr λ z=>by rw[b4]at z;cases z),b4,b5,b6⟩
  have e0:z_ P w K mg (xo s₁.heap H) callerA [] s₁ H:=⟨rfl,hM,λ b o e=>M8 e,B91<|G? _ _,trivial,λ b hb=>absurd (show b∈([]:γ δ)from hb) ∅,cy,.of_eq hg,hT⟩
  refine A72 ((F _ hKb<|X5 LV).run callerA [] s₁ H ⟨[.ref a],[]⟩ [.ref a] [.ref a] _ _ hr e0 (mq s₁<|.ref a) (.cons rfl .nil)<|Cy H hO hS) λ r s' h=>?_;cases r with
  |error e=>exact(hCX H e s' h).elim
  |ok fl=>
   cases fl with
   |next=>exact GE h
   |brk=>exact GE h
   |cont=>exact GE h
   |ret u'=>
    let⟨v,H',os,bare,un,VU,r',q'⟩:=h;have q':v=.bl Ch:=q';subst q';obtain rfl:u'=Value.bool Ch:=r';refine⟨rfl,⟨λ b o e=>?_,λ b o e=>un.there b o e ∅⟩,os,bare⟩;cases r:H b with
    |none=>exact .inl<|un.keep b o e r (by intro z;exact absurd (show b∈([]:γ δ)from z) ∅) ∅
    |some v=>
     rcases of r with⟨y,hy,rfl⟩|⟨_,_,rfl⟩
     .have r2:=un.oj b (.Iq<|jV y) trivial r;let⟨ps,g1,_⟩:=VU b _ r2;let⟨h1,c,h2⟩:=hy;have tb:=(tab y h1 c b h2).2;have e3:o={cls:=.none,data:=.fields #[]}:=A06<|e.symm.trans tb.2;subst e3;exact .inr<|.inl ⟨tb.isCodeTable,rfl,#[],ps,rfl,by rw[g1];simp⟩
     .let⟨ob,xs,rfl⟩:=hu;have z2:=un.rT b ob _ r;let⟨e1,_⟩:=cy b _ r;let⟨e2,_⟩:=VU b _ z2;rw[e]at e1;cases e1;exact .inl e2
 have na:¬∃y,TabAt K y a:=Pe ha λ z=>by cases z
 cases hk:K.lookup a with
 |some o=>
  -- Qe Qq is one of Qe JR own objects
  have e:=KX a o hk;rw[ha]at e;cases e;exact core (.eH {cls:=.type "list",data:=.seq vs.toArray}<|.lst []) AT ⟨_,_,rfl⟩ (.inr ⟨_,vs.toArray,_,hk,rfl,rfl,rfl,by rw[A09,Z8];exact hl,by simpa using rv⟩) (λ z=>nomatch z) λ z=>nomatch z
 | none=>refine core (.eH {cls:=.type "list",data:=.seq vs.toArray}<|.lst<|ns.map V.int) Ch ⟨_,_,rfl⟩ (.inl<|.inr ⟨{cls:=.type "list",data:=.seq vs.toArray},by rw[at2 na];exact f8 ⟨rfl,rfl⟩⟩) (λ _=>⟨ha,by rw[A17];exact hl,vs,_,rv,ha⟩) λ _=>hk
def bM(s:θ):Arguments:=match s with
|.FunctionDef _ a _ _ _ _ _ _ _ _=>a
|_=>{posonlyargs:=[],args:=[],vararg:=At,kwonlyargs:=[],kw_defaults:=[],kwarg:=At,defaults:=[]}
def aJ(s:θ):γ θ:=match s with
|.FunctionDef _ _ b _ _ _ _ _ _ _=>b
|_=>[]
def ai(s:θ):ς:=match s with
|.FunctionDef _ _ _ _ _ _ sc _ _ _=>sc
|_=>{kind:=.function,names:=[],isGenerator:=AT,isCoroutine:=AT}
abbrev jd:S5:=λ _ _ _ _ _ _=>False
abbrev E0:XK:=λ _ _ _=>False
theorem xV:Passes jd X E0:=λ _ _ _ _ _ _ _ h=>h.elim
structure Cs(K:Db)(x qual:Str)(st:Stmt)(f:Addr)(fd:FuncData):Prop where
 ex:∃(oc:Value)(od:Option Addr)(kV doc pm:Value)(an:Option Addr)(bh ct:Value)(um:Array (Option Value)),
  fd=KT x qual (bM st) (aJ st) (ai st) .none kV doc pm an bh ct/\K.lookup f=AC ⟨oc,od,.func fd,um⟩/\No K bh qual=Ch
 kp:FS K (.ref f)=Ch
section
variable{K:Db}
theorem Cs.ok{st:θ}(F:Cs K x qual st f fd)(S:a! N ps (ai st))(len:∀vs H Q E,sp vs H Q E->vs.length=ps.length)
 (BM:∀bh A outer s H vs Q E,bR k (A.deeper<|envOfC qual (ai st) s.heap.objs.size f bh)->sp vs H Q E ->
  ∃t,s? (dO jd P w K mg base N qual (ai st) f bh A outer s H E).gK (aJ st) t/\t {nx:=λ _ H'=>Q .non H',rt:=Q} (start N vs) H):ee P w K mg base jd (k+1) f fd ps sp:=by
 let⟨oc,od,kV,doc,pm,an,bh,ct,um,rfl,lk,m?⟩:=F.ex;refine vU lk m? S len λ A outer s H vs Q E hr Cy=>?_;let⟨t,h,q⟩:=BM bh A outer s H vs Q E hr Cy;exact⟨t,h.gK,q⟩
theorem Cs.binds{st:θ}(F:Cs K x qual st f fd)
 (h:∀kV doc pm an bh ct us,us.length=ps.length->bindArgs (KT x qual (bM st) (aJ st) (ai st) .none kV doc pm an bh ct) ⟨us,[]⟩=pure (ps.zip us)):Binds K fd ps []:=by
 let⟨oc,od,kV,doc,pm,an,bh,ct,um,rfl,lk,m?⟩:=F.ex;exact .all<|h kV doc pm an bh ct
theorem rS{st:θ}{kV doc pm bh ct:ζ}(l:K.lookup f=AC ⟨oc,od,.func<|PySem.W.fnOf x qual (bM st) (aJ st) (ai st) .none kV doc pm an bh ct,um⟩)
 (c:No K bh qual=Ch) (k:FS K (.ref f)=Ch):Cs K x qual st f (KT x qual (bM st) (aJ st) (ai st) .none kV doc pm an bh ct):=⟨⟨oc,od,kV,doc,pm,an,bh,ct,um,rfl,l,c⟩,k⟩
end
theorem pv(i:Nat)(hN:X.N[i]?=AC x:=by rfl)(hv:HD X.env.scope x:=by first| exact AD0 rfl| exact nw<|Or.inl rfl| exact nw<|Or.inr rfl)(hd:(x==("__debug__"))=AT:=by decide)
 (m?:(x==("__classdict__"))=AT:=by decide):PE X (.Name x pos) (kE i):=kU hN hv hd m?
def aG(H H':Hp):Prop:=∀b o,H b=AC o->H' b=AC o
theorem aG.refl(H:Hp):aG H H:=λ _ _ h=>h
theorem aG.trans(a:aG H H1)(b:aG H1 H2):aG H H2:=λ c o h=>b c o<|a c o h
theorem aG.free(e:aG H H')(h:H' l=Option.none):H l=Option.none:=by
 cases q:H l with
 |none=>rfl
 |some o=>rw[e l o q]at h;cases h
theorem aG.seq{K:Db}(e:aG H H')(h:ka K H a xs):ka K H' a xs:=by
 rcases h with(h|⟨o,h⟩)|h
 .exact .inl<|.inl<|e _ _ h
 .exact .inl<|.inr ⟨o,e _ _ h⟩
 .exact .inr h
section
variable{κ:Type}[DecidableEq κ]
end
section
variable{P:ο}{w:ξ}{H:Hp}{h:ν}{a:δ}
end
section
variable{X:Cx}{χ:γ (δ×μ)}{σ:St}{H:Hp}{s:η}{a:δ}{y v:V}{u r:ζ}{o:ε V}{A:π}{E:ζ->η->Prop}
end
section
variable{X:Cx}{σ:St}{H:Hp}{s:η}{a:δ}{fT:γ (Key×V)}{k:Key}{u:ζ}{A:π}{E:ζ->η->Prop}
end
section
variable{X:Cx}{o i e value:ι}{pos pos' adj:Pos}{td ty tv:TE}
end
end L2
set_option genSizeOf true
namespace Z
inductive D where
|non
|bl (b:Bool)
|int (i:Int)
|str (cs:List Nat)
|tup (xs:List D)
|lst (xs:List D)
|dct (ks:List (Sum Int<|List Nat)) (vs:List D)
inductive Res(α:Type) where
|ok (a:α)
|bad
namespace Res
def bind{α β:Type}(r:Res α)(f:α->Res β):Res β:=
 match r with
 |ok a=>f a
 |bad=>bad
@[simp] theorem f7(a:α)(f:α->Res β):(Res.ok a).bind f=f a:=rfl
@[simp] theorem WU(f:α->Res β):(Res.bad).bind f=bad:=rfl
def map{α β:Type}(f:α->β)(r:Res α):Res β:=
 match r with
 |ok a=>ok<|f a
 |bad=>bad
@[simp] theorem Z5(a:α)(f:α->β):(Res.ok a).map f=ok (f a):=rfl
@[simp] theorem X8(f:α->β):(Res.bad).map f=bad:=rfl
theorem ay{f:α->Res β}(h:r.bind f=ok b):∃a,r=ok a/\f a=ok b:=by
 cases r with
 |ok a=>exact⟨a,rfl,h⟩
 |bad=>cases h
end Res
open Classical in
def guard{α:Type}(p:Prop)(r:Res α):Res α:=if p then r else .bad
@[simp] theorem guard_true(r:Res α):guard True r=r:=by exact f8 trivial
theorem guard_pos{r:Res α}(h:p):guard p r=r:=by exact f8 h
theorem e!{a:α}(h:guard p r=.ok a):p/\r=.ok a:=by
 unfold guard at h;split at h
 .rename_i q;exact⟨q,h⟩
 .cases h
inductive L where
|val (d:D)
|own (xs:List D)
|bor (d:D)
|dc (k:List (List Int) ⊕ List (List Nat×List Nat))
|Hf (ks:List (List Int))
|RJ (ps:List (Int×Int))
|exc (c:List Nat×List (List Nat×D))
abbrev DK:=γ (γ Int) ⊕ γ (γ Nat×γ Nat)
abbrev Env:=γ<|ε L
abbrev EF:=Env->Res D
abbrev LF:=Env->Res (γ D)
abbrev TF:=Env->Res Bool
abbrev AF:=Env->Res (γ D)
inductive Fl where
|nx (ρ:Env)
|rt (d:D)
|bk (ρ:Env)
|ct (ρ:Env)
abbrev SF:=Env->Res Fl
abbrev GF:=D->Env->Res Env
abbrev line:Nat:=16777216
def cC:γ (γ Nat):=[[104,97,108,108],[103,117,101,115,116,115],[104,101,108,100],[112,108,97,99,101,115]]
def gD(a kd:Nat)(ks:γ (γ Nat))(vs:γ D):D:=.dct (.inl a::.inl kd::ks.map .inr) vs
def eC(d:D)(_:Env):Res D:=.ok d
def eV(i:Nat)(ρ:Env):Res D:=match ρ[i]? with
|some<|some<|.val d=>.ok d
|_=>.bad
def eW(i:Nat)(ρ:Env):Res D:=match ρ[i]? with
|some<|some<|.val d=>.ok d
|some<|some<|.own xs=>.ok<|.lst xs
|some<|some<|.bor<|.lst xs=>.ok<|.lst xs
|_=>.bad
def eB(op:D->D->Res D)(a b:EF)(ρ:Env):Res D:=(a ρ).bind λ x=>(b ρ).bind λ y=>op x y
def eU(op:D->Res D)(a:EF)(ρ:Env):Res D:=(a ρ).bind op
def o5(a b:EF)(ρ:Env):Res D:=(a ρ).bind λ x=>match x with
|.bl c=>if c then b ρ else .ok (.bl AT)
|_=>.bad
def TM(a b:EF)(ρ:Env):Res D:=(a ρ).bind λ x=>match x with
|.bl c=>if c then .ok (.bl Ch)else b ρ
|_=>.bad
def K6(a:EF)(ρ:Env):Res D:=(a ρ).bind λ x=>match x with
|.bl c=>.ok<|.bl !c
|_=>.bad
def i8(op GI:D->D->Res D)(a b c:EF)(ρ:Env):Res D:=(a ρ).bind λ x=>(b ρ).bind λ y=>(op x y).bind λ z=>match z with
|.bl k=>if k then(c ρ).bind λ w=>GI y w else .ok (.bl AT)
|_=>.bad
def YD(t:TF)(a b:EF)(ρ:Env):Res D:=(t ρ).bind λ c=>if c then a ρ else b ρ
def eL(l:LF)(ρ:Env):Res D:=(l ρ).map D.lst
def av(_:Env):Res (γ D):=.ok []
def aa(a:EF)(r:AF)(ρ:Env):Res (γ D):=(a ρ).bind λ x=>(r ρ).bind λ xs=>.ok<|x::xs
def bI(as:AF)(ρ:Env):Res (γ D):=(as ρ).bind λ xs=>guard (xs.length<=line)<|.ok xs
def br(as:AF)(ρ:Env):Res D:=(as ρ).bind λ xs=>guard (xs.length<=line)<|.ok<|.tup xs
def aD(f:γ D->Res D)(as:AF)(ρ:Env):Res D:=(as ρ).bind f
def tE(a:EF)(ρ:Env):Res Bool:=(a ρ).bind λ x=>match x with
|.bl c=>.ok c
|_=>.bad
def IA(a b:TF)(ρ:Env):Res Bool:=(a ρ).bind λ c=>if c then b ρ else .ok AT
def AQ(a b:TF)(ρ:Env):Res Bool:=(a ρ).bind λ c=>if c then .ok Ch else b ρ
def gJ(a:TF)(ρ:Env):Res Bool:=(a ρ).bind λ c=>.ok !c
def bits(a:Int):Nat:=if a=0 then 0 else a.natAbs.log2+1
def cb:D->D->Res D
|.int a,.int b=>.ok<|.int<|a+b
|.str a,.str b=>guard (a.length+b.length<=line)<|.ok<|.str<|a++b
|.tup a,.tup b=>guard (a.length+b.length<=line)<|.ok<|.tup<|a++b
|_,_=>.bad
def rn:D->D->Res D
|.int a,.int b=>.ok<|.int<|a-b
|_,_=>.bad
def eT(a b:Int):Prop:=((-18446744073709551616<a/\a<18446744073709551616)\/(-18446744073709551616<b/\b<18446744073709551616)\/(bits a<=16777216/\bits b<=16777216))
def fC:D->D->Res D
|.int a,.int b=>guard (eT a b)<|.ok<|.int<|a*b
|_,_=>.bad
def j8(b:Int):Prop:=0<b/\b<1809251394333065553493296640760748560207343510400633813116524750123642650624
def oDiv:D->D->Res D
|.int a,.int b=>guard (j8 b)<|.ok<|.int<|a / b
|_,_=>.bad
def oMod:D->D->Res D
|.int a,.int b=>guard (0<b)<|.ok<|.int<|a % b
|_,_=>.bad
def tN:D->D->Res D
|.int a,.int b=>guard (0<=b/\b<=1000000/\a.natAbs<2^64)<|.ok<|.int<|a^b.toNat
|_,_=>.bad
def Bm:D->Res D
|.int a=>.ok<|.int<|-a
|_=>.bad
def HM:γ Nat->γ Nat->Bool
|[],[]=>AT
|[],_::_=>Ch
|_::_,[]=>AT
|a::as,b::bs=>if a<b then Ch else if a=b then HM as bs else AT
def oLt:D->D->Res D
|.int a,.int b=>.ok<|.bl<|decide<|a<b
|_,_=>.bad
def oLe:D->D->Res D
|.int a,.int b=>.ok<|.bl<|decide<|a<=b
|.str a,.str b=>.ok<|.bl<|!(HM b a)
|_,_=>.bad
def HK:D->D->Res D
|.int a,.int b=>.ok<|.bl<|decide<|b<a
|_,_=>.bad
def X0:D->D->Res D
|.int a,.int b=>.ok<|.bl<|decide<|b<=a
|_,_=>.bad
def L6:D->D->ε Bool
|.non,.non=>AC Ch
|.bl a,.bl b=>AC<|a==b
|.bl a,.int b=>AC<|(if a then 1 else 0)==b
|.int a,.bl b=>AC<|a==(if b then 1 else 0)
|.int a,.int b=>AC<|a==b
|.str a,.str b=>AC<|a==b
|.non,.bl _=>AC AT
|.non,.int _=>AC AT
|.non,.str _=>AC AT
|.bl _,.non=>AC AT
|.bl _,.str _=>AC AT
|.int _,.non=>AC AT
|.int _,.str _=>AC AT
|.str _,.non=>AC AT
|.str _,.bl _=>AC AT
|.str _,.int _=>AC AT
|_,_=>At
def allEq(f:D->D->ε Bool):γ D->γ D->ε Bool
|[],[]=>AC Ch
|[],_::_=>AC AT
|_::_,[]=>AC AT
|a::as,b::bs=>match f a b,allEq f as bs with
 |some x,AC y=>AC<|x&&y
 |_,_=>At
def eY:Nat->D->D->ε Bool
|n+1,.tup a,.tup b=>allEq (eY n) a b
|n+1,.lst a,.lst b=>allEq (eY n) a b
|_,.tup _,.lst _=>AC AT
|_,.lst _,.tup _=>AC AT
|_,.tup _,.non=>AC AT
|_,.tup _,.bl _=>AC AT
|_,.tup _,.int _=>AC AT
|_,.tup _,.str _=>AC AT
|_,.non,.tup _=>AC AT
|_,.bl _,.tup _=>AC AT
|_,.int _,.tup _=>AC AT
|_,.str _,.tup _=>AC AT
|_,.lst _,.non=>AC AT
|_,.lst _,.bl _=>AC AT
|_,.lst _,.int _=>AC AT
|_,.lst _,.str _=>AC AT
|_,.non,.lst _=>AC AT
|_,.bl _,.lst _=>AC AT
|_,.int _,.lst _=>AC AT
|_,.str _,.lst _=>AC AT
|_,x,y=>L6 x y
def kS:D->D->ε Bool:=eY 6
def oEq(a b:D):Res D:=match kS a b with
|some x=>.ok<|.bl x
|none=>.bad
def kn(a b:D):Res D:=match kS a b with
|some x=>.ok<|.bl !x
|none=>.bad
def iW:D->Res D
|.non=>.ok<|.bl Ch
|_=>.ok<|.bl AT
def l8:D->Res D
|.non=>.ok<|.bl AT
|_=>.ok<|.bl Ch
def hZ(x:D):γ D->ε Bool
|[]=>AC AT
|y::r=>match kS y x,hZ x r with
 |some a,AC b=>AC<|a||b
 |_,_=>At
def wZ:D->D->Res D
|x,.tup ys=>match hZ x ys with
 |some b=>.ok<|.bl b
 |none=>.bad
|x,.lst ys=>match hZ x ys with
 |some b=>.ok<|.bl b
 |none=>.bad
|_,_=>.bad
def ze:D->D->Res D
|x,.tup ys=>match hZ x ys with
 |some b=>.ok<|.bl !b
 |none=>.bad
|x,.lst ys=>match hZ x ys with
 |some b=>.ok<|.bl !b
 |none=>.bad
|_,_=>.bad
def cQ:D->Res D
|.str t=>guard (t.length<=line)<|.ok<|.int t.length
|.tup xs=>.ok<|.int xs.length
|.lst xs=>.ok<|.int xs.length
|_=>.bad
inductive Ty where
|bool|int|str|tuple|list|dict
def dX:Ty->D->Bool
|.bool,.bl _=>Ch
|.int,.bl _=>Ch
|.int,.int _=>Ch
|.str,.str _=>Ch
|.tuple,.tup _=>Ch
|.list,.lst _=>Ch
|.dict,.dct _ _=>Ch
|_,_=>AT
def kL(t:Ty)(x:D):Res D:=.ok<|.bl<|dX t x
def Ae(n:Nat)(i:Int):ε Nat:=if 0<=i then(if i<n then AC i.toNat else At)else if -(n:Int)<=i then AC (i+n).toNat else At
def bb:D->D->Res D
|.tup xs,.int i=>match (Ae xs.length i).bind λ j=>xs[j]? with
 |some v=>.ok v
 |none=>.bad
|.lst xs,.int i=>match (Ae xs.length i).bind λ j=>xs[j]? with
 |some v=>.ok v
 |none=>.bad
| .str cs,.int i=>guard (cs.length<=line) (match (Ae cs.length i).bind λ j=>cs[j]? with
 |some c=>.ok<|.str [c]
 | none=>.bad)
|_,_=>.bad
def eD(n d:Nat):ε Int->Nat
|none=>d
|some i=>if i<0 then(i+n).toNat else min i.toNat n
def cut{α:Type}(xs:γ α)(lo hi:ε Int):γ α:=(xs.drop<|eD xs.length 0 lo).take<|eD xs.length xs.length hi-eD xs.length 0 lo
abbrev PF:=Env->Res (ε Int)
def y_(_:Env):Res (ε Int):=.ok At
def u!(a:EF)(ρ:Env):Res (ε Int):=(a ρ).bind λ x=>match x with
|.int i=>.ok<|some i
|_=>.bad
def U0:D->ε Int->ε Int->Res D
|.str cs,lo,hi=>guard (cs.length<=line)<|.ok<|.str<|cut cs lo hi
|.tup xs,lo,hi=>.ok<|.tup<|cut xs lo hi
|_,_,_=>.bad
def Ah(a:EF)(lo hi:PF)(ρ:Env):Res D:=(a ρ).bind λ x=>(lo ρ).bind λ l=>(hi ρ).bind λ h=>U0 x l h
def Ru(a:EF)(lo hi:PF)(ρ:Env):Res (γ D):=(a ρ).bind λ x=>(lo ρ).bind λ l=>(hi ρ).bind λ h=>match x with
|.lst xs=>.ok<|cut xs l h
|_=>.bad
def ny(a b:EF)(ρ:Env):Res (γ D):=(a ρ).bind λ x=>(b ρ).bind λ y=>match x,y with
|.lst xs,.lst ys=>guard (xs.length+ys.length<=line)<|.ok<|xs++ys
|_,_=>.bad
def allB:γ D->ε Bool
|[]=>AC Ch
|.bl b::r=>(allB r).map (b&&·)
|_::_=>At
def iX:D->Res D
|.lst xs=>match allB xs with
 |some b=>.ok<|.bl b
 |none=>.bad
|_=>.bad
def mh:D->Res (γ D)
|.tup xs=>.ok xs
|.lst xs=>.ok xs
|.str cs=>.ok<|cs.map λ c=>.str [c]
|_=>.bad
def iQ(a:EF)(ρ:Env):Res (γ D):=(a ρ).bind mh
def zints(lo:Int)(n:Nat):γ D:=(FB n).map λ i=>D.int<|lo+(i:Nat)
def iR(a:EF)(ρ:Env):Res (γ D):=(a ρ).bind λ x=>match x with
|.int j=>.ok<|zints 0 j.toNat
|_=>.bad
def yd(a b:EF)(ρ:Env):Res (γ D):=(a ρ).bind λ x=>(b ρ).bind λ y=>match x,y with
|.int i,.int j=>.ok<|zints i (j-i).toNat
|_,_=>.bad
def bA(i:Nat)(d:D)(ρ:Env):Res Env:=.ok<|ρ.set i<|some<|.val d
def vS:γ Nat->γ D->Env->Res Env
|[],[],ρ=>.ok ρ
|i::is,d::ds,ρ=>vS is ds<|ρ.set i<|some<|.val d
|_,_,_=>.bad
def kq(is:γ Nat)(d:D)(ρ:Env):Res Env:=match d with
|.tup ds=>vS is ds ρ
|_=>.bad
def sY(ρ:Env)(i:Nat):ε L:=match ρ[i]? with
|some<|some<|.val d=>AC<|.val d
|some<|some<|.bor d=>AC<|.bor d
|some<|some<|.Hf ks=>AC<|.Hf ks
|some<|some<|.own xs=>AC<|.bor<|.lst xs
|_=>At
def eP(ρ:Env)(is:γ Nat):Env:=is.map<|sY ρ
def cm(g:GF)(t:TF)(e:EF)(ρ:Env):γ D->Res (γ D)
|[]=>.ok []
|d::r=>(g d ρ).bind λ ρ1=>(t ρ1).bind λ c=>if c then(e ρ1).bind λ y=>(cm g t e ρ r).bind λ ys=>.ok (y::ys)else cm g t e ρ r
def cM(it:LF)(n:Nat)(is:γ Nat)(g:GF)(t:TF)(e:EF)(ρ:Env):Res (γ D):=(it ρ).bind λ ds=>guard (ds.length<=line)<|cm g t e (Do n At++eP ρ is) ds
def cF(_:Env):Res Bool:=.ok Ch
def b7(ρ:Env):Res Fl:=.ok<|.nx ρ
def bH(a b:SF)(ρ:Env):Res Fl:=(a ρ).bind λ fl=>match fl with
|.nx ρ'=>b ρ'
|o=>.ok o
def bG(i:Nat)(e:EF)(ρ:Env):Res Fl:=(e ρ).bind λ d=>.ok<|.nx<|ρ.set i<|some<|.val d
def A8(i:Nat)(e:LF)(ρ:Env):Res Fl:=(e ρ).bind λ xs=>.ok<|.nx<|ρ.set i<|some<|.own xs
def jR(t:TF)(a b:SF)(ρ:Env):Res Fl:=(t ρ).bind λ c=>if c then a ρ else b ρ
def bj(e:EF)(ρ:Env):Res Fl:=(e ρ).bind λ d=>.ok<|.rt d
def eH(i:Nat)(ρ:Env):Env:=match ρ[i]? with
|some<|some<|.own xs=>ρ.set i<|some<|.val<|.lst xs
|_=>ρ
def C7(i:Nat)(a:SF)(ρ:Env):Res Fl:=a<|eH i ρ
def mX(i:Nat)(e:EF)(ρ:Env):Res Fl:=(e ρ).bind λ d=>match ρ[i]? with
|some<|some<|.own xs=>guard (xs.length<line)<|.ok<|.nx<|ρ.set i<|some<|.own<|xs++[d]
|_=>.bad
def jE(g:GF)(b:SF):γ D->Env->Res Fl
|[],ρ=>.ok<|.nx ρ
|d::r,ρ=>(g d ρ).bind λ ρ1=>(b ρ1).bind λ fl=>match fl with
 |.nx ρ'=>jE g b r ρ'
 |.ct ρ'=>jE g b r ρ'
 |.bk ρ'=>.ok<|.nx ρ'
 |.rt d=>.ok<|.rt d
def u6(it:LF)(g:GF)(b:SF)(ρ:Env):Res Fl:=(it ρ).bind λ ds=>jE g b ds ρ
def start(n:Nat)(ds:γ D):Env:=ds.map (λ d=>AC<|.val d)++Do (n-ds.length) At
def fn(ps n:Nat)(b:SF)(ds:γ D):Res D:=if ds.length=ps then(match b (start n ds)with
|.ok<|.rt d=>.ok d
|.ok<|.nx _=>.ok .non
| _=>.bad)else .bad
def tR:Bool->D->L
|true,.lst xs=>.bor<|.lst xs
|true,.dct ks vs=>.bor<|.dct ks vs
|_,d=>.val d
def startB(n:Nat)(bs:γ Bool)(ds:γ D):Env:=(ZB (λ b d=>AC<|tR b d) bs ds)++Do (n-ds.length) At
def L5(bs:γ Bool)(n:Nat)(b:SF)(ds:γ D):Res D:=if ds.length=bs.length then(match b (startB n bs ds)with
|.ok<|.rt d=>.ok d
|.ok<|.nx _=>.ok .non
| _=>.bad)else .bad
end Z
open Z renaming Res.ay→WP
set_option genSizeOf false
namespace Z
@[simp] theorem afu(d:D)(ρ:Env):eC d ρ=.ok d:=rfl
@[simp] theorem Sl(o:D->D->Res D)(a b:EF)(ρ:Env):eB o a b ρ=(a ρ).bind λ x=>(b ρ).bind λ y=>o x y:=rfl
@[simp] theorem afr(o:D->Res D)(a:EF)(ρ:Env):eU o a ρ=(a ρ).bind o:=rfl
@[simp] theorem afs(l:LF)(ρ:Env):eL l ρ=(l ρ).map D.lst:=rfl
@[simp] theorem aaK(ρ:Env):av ρ=.ok []:=rfl
@[simp] theorem YM(a:EF)(r:AF)(ρ:Env):aa a r ρ=(a ρ).bind λ x=>(r ρ).bind λ xs=>.ok (x::xs):=rfl
@[simp] theorem YE(f:γ D->Res D)(as:AF)(ρ:Env):aD f as ρ=(as ρ).bind f:=rfl
@[simp] theorem Xv(ρ:Env):b7 ρ=.ok (.nx ρ):=rfl
@[simp] theorem Zl(i:Nat)(e:EF)(ρ:Env):bG i e ρ=(e ρ).bind λ d=>.ok (.nx<|ρ.set i<|some<|.val d):=rfl
@[simp] theorem Zn(i:Nat)(e:LF)(ρ:Env):A8 i e ρ=(e ρ).bind λ d=>.ok (.nx<|ρ.set i<|some<|.own d):=rfl
@[simp] theorem Zm(e:EF)(ρ:Env):bj e ρ=(e ρ).bind λ d=>.ok (.rt d):=rfl
@[simp] theorem abk(t:TF)(a b:SF)(ρ:Env):jR t a b ρ=(t ρ).bind λ c=>if c then a ρ else b ρ:=rfl
@[simp] theorem acJ(t:TF)(a b:EF)(ρ:Env):YD t a b ρ=(t ρ).bind λ c=>if c then a ρ else b ρ:=rfl
@[simp] theorem Zp(it:LF)(g:GF)(b:SF)(ρ:Env):u6 it g b ρ=(it ρ).bind λ ds=>jE g b ds ρ:=rfl
def IQ(b:SF):Fl->Res Fl
|.nx ρ'=>b ρ'
|o=>.ok o
@[simp] theorem Qr(a b:SF)(ρ:Env):bH a b ρ=(a ρ).bind (IQ b):=rfl
@[simp] theorem Xs(b:SF)(ρ:Env):IQ b (.nx ρ)=b ρ:=rfl
@[simp] theorem Xr(b:SF)(d:D):IQ b (.rt d)=.ok (.rt d):=rfl
@[simp] theorem Xu(b:SF)(ρ:Env):IQ b (.bk ρ)=.ok (.bk ρ):=rfl
@[simp] theorem Xt(b:SF)(ρ:Env):IQ b (.ct ρ)=.ok (.ct ρ):=rfl
def Uc:D->Res Bool
|.bl c=>.ok c
|_=>.bad
@[simp] theorem adE(a:EF)(ρ:Env):tE a ρ=(a ρ).bind Uc:=rfl
@[simp] theorem Xl(c:Bool):Uc (.bl c)=.ok c:=rfl
@[simp] theorem Xn(ρ:Env):cF ρ=.ok Ch:=rfl
@[simp] theorem Zg(a b:TF)(ρ:Env):IA a b ρ=(a ρ).bind λ c=>if c then b ρ else .ok AT:=rfl
@[simp] theorem abf(a b:TF)(ρ:Env):AQ a b ρ=(a ρ).bind λ c=>if c then .ok Ch else b ρ:=rfl
@[simp] theorem Y'(a:TF)(ρ:Env):gJ a ρ=(a ρ).bind λ c=>.ok !c:=rfl
def Cj(f:Bool->Res D):D->Res D
|.bl c=>f c
|_=>.bad
@[simp] theorem WT(f:Bool->Res D)(c:Bool):Cj f (.bl c)=f c:=rfl
@[simp] theorem aav(a b:EF)(ρ:Env):o5 a b ρ=(a ρ).bind (Cj λ c=>if c then b ρ else .ok (.bl AT)):=rfl
@[simp] theorem acI(a b:EF)(ρ:Env):TM a b ρ=(a ρ).bind (Cj λ c=>if c then .ok (.bl Ch)else b ρ):=rfl
@[simp] theorem aau(a:EF)(ρ:Env):K6 a ρ=(a ρ).bind (Cj λ c=>.ok<|.bl !c):=rfl
@[simp] theorem WI(o o':D->D->Res D)(a b c:EF)(ρ:Env):i8 o o' a b c ρ=(a ρ).bind λ x=>(b ρ).bind λ y=>(o x y).bind (Cj λ k=>if k then(c ρ).bind λ w=>o' y w else .ok (.bl AT)):=rfl
@[simp] theorem U_(a b:Int):cb (.int a) (.int b)=.ok (.int<|a+b):=rfl
@[simp] theorem UY(a b:Int):rn (.int a) (.int b)=.ok (.int<|a-b):=rfl
@[simp] theorem U2(a b:Int):fC (.int a) (.int b)=guard (eT a b) (.ok<|.int<|a*b):=rfl
@[simp] theorem U?(a b:Int):oDiv (.int a) (.int b)=guard (j8 b) (.ok<|.int<|a / b):=rfl
@[simp] theorem U3(a b:Int):oMod (.int a) (.int b)=guard (0<b) (.ok<|.int<|a % b):=rfl
@[simp] theorem XO(a b:Int):oLt (.int a) (.int b)=.ok (.bl<|decide<|a<b):=rfl
@[simp] theorem XU(a b:Int):oLe (.int a) (.int b)=.ok (.bl<|decide<|a<=b):=rfl
@[simp] theorem XQ(a b:γ Nat):oLe (.str a) (.str b)=.ok (.bl<|!(HM b a)):=rfl
@[simp] theorem XY(a b:Int):HK (.int a) (.int b)=.ok (.bl<|decide<|b<a):=rfl
@[simp] theorem XZ(a b:Int):X0 (.int a) (.int b)=.ok (.bl<|decide<|b<=a):=rfl
@[simp] theorem X3(a b:Int):oEq (.int a) (.int b)=.ok (.bl<|a==b):=rfl
@[simp] theorem ZW(a b:Bool):oEq (.bl a) (.bl b)=.ok (.bl<|a==b):=rfl
@[simp] theorem X2(a b:γ Nat):oEq (.str a) (.str b)=.ok (.bl<|a==b):=rfl
@[simp] theorem XM(a b:Int):kn (.int a) (.int b)=.ok (.bl<|!(a==b)):=rfl
@[simp] theorem ZU(a b:Bool):kn (.bl a) (.bl b)=.ok (.bl<|!(a==b)):=rfl
@[simp] theorem XJ(a b:γ Nat):kn (.str a) (.str b)=.ok (.bl<|!(a==b)):=rfl
@[simp] theorem U6(a:γ Nat):cQ (.str a)=guard (a.length<=line) (.ok<|.int a.length):=rfl
@[simp] theorem U5(a:γ D):cQ (.tup a)=.ok (.int a.length):=rfl
@[simp] theorem U7(a:γ D):cQ (.lst a)=.ok (.int a.length):=rfl
@[simp] theorem XW(t:Ty)(x:D):kL t x=.ok (.bl<|dX t x):=rfl
@[simp] theorem abu(ρ:Env):y_ ρ=.ok At:=rfl
def VI:D->Res (ε Int)
|.int i=>.ok<|some i
|_=>.bad
@[simp] theorem VH(i:Int):VI (.int i)=.ok (AC i):=rfl
@[simp] theorem abv(a:EF)(ρ:Env):u! a ρ=(a ρ).bind VI:=rfl
@[simp] theorem acH(a:EF)(lo hi:PF)(ρ:Env):Ah a lo hi ρ=(a ρ).bind λ x=>(lo ρ).bind λ l=>(hi ρ).bind λ h=>U0 x l h:=rfl
@[simp] theorem _e(a:EF)(ρ:Env):iQ a ρ=(a ρ).bind mh:=rfl
def O?:D->Res (γ D)
|.int j=>.ok<|zints 0 j.toNat
|_=>.bad
@[simp] theorem Yc(a:EF)(ρ:Env):iR a ρ=(a ρ).bind O?:=rfl
@[simp] theorem Tb(j:Int):O? (.int j)=.ok (zints 0 j.toNat):=rfl
def O!:D->D->Res (γ D)
|.int i,.int j=>.ok<|zints i (j-i).toNat
|_,_=>.bad
@[simp] theorem Yb(a b:EF)(ρ:Env):yd a b ρ=(a ρ).bind λ x=>(b ρ).bind λ y=>O! x y:=rfl
@[simp] theorem Ta(i j:Int):O! (.int i) (.int j)=.ok (zints i (j-i).toNat):=rfl
@[simp] theorem Tq(xs:γ D):mh (.tup xs)=.ok xs:=rfl
@[simp] theorem Ts(xs:γ D):mh (.lst xs)=.ok xs:=rfl
@[simp] theorem Tr(cs:γ Nat):mh (.str cs)=.ok (cs.map λ c=>.str [c]):=rfl
@[simp] theorem Yy(i:Nat)(d:D)(ρ:Env):bA i d ρ=.ok (ρ.set i<|some<|.val d):=rfl
theorem bV(it:LF)(n:Nat)(is:γ Nat)(g:GF)(t:TF)(e:EF)(ρ:Env):cM it n is g t e ρ=(it ρ).bind λ ds=>guard (ds.length<=line) (cm g t e (Do n At++eP ρ is) ds):=rfl
@[simp] theorem X9(as:AF)(ρ:Env):bI as ρ=(as ρ).bind λ xs=>guard (xs.length<=line) (.ok xs):=rfl
@[simp] theorem aat(as:AF)(ρ:Env):br as ρ=(as ρ).bind λ xs=>guard (xs.length<=line) (.ok<|.tup xs):=rfl
def cu:Res Fl->Res D
|.ok<|.rt d=>.ok d
|.ok<|.nx _=>.ok .non
|_=>.bad
@[simp] theorem Xz(d:D):cu (.ok<|.rt d)=.ok d:=rfl
@[simp] theorem XB(ρ:Env):cu (.ok<|.nx ρ)=.ok .non:=rfl
theorem c_(ps n:Nat)(b:SF)(ds:γ D)(h:ds.length=ps):fn ps n b ds=cu (b<|start n ds):=by
 unfold fn;rw[f8 h];cases b _ with
 |bad=>rfl
 |ok f=>cases f<;>rfl
theorem xY(h1:-18446744073709551616<a)(h2:a<18446744073709551616):eT a b:=by exact .inl ⟨h1,h2⟩
theorem jq(h1:-18446744073709551616<b)(h2:b<18446744073709551616):eT a b:=by exact .inr<|.inl ⟨h1,h2⟩
theorem v_(h0:0<b)(h:b<1809251394333065553493296640760748560207343510400633813116524750123642650624):j8 b:=⟨h0,h⟩
theorem zz(h:(zints 0 n)[j]?=AC d):j<n/\d=.int (j):=by
 unfold zints at h;rw[A08]at h;cases q:(FB n)[j]? with
 |none=>rw[q]at h;cases h
 |some i=>rw[q]at h;let⟨h1,h2⟩:=A04.mp q;rw[B04]at h1;rw[C04]at h2;subst h2;simp at h;exact⟨h1,h.symm⟩
@[simp] theorem mj(lo:Int)(n:Nat):(zints lo n).length=n:=by simp[zints]
theorem qF(xs:γ α)(lo hi:ε Int):(cut xs lo hi).length<=xs.length:=by unfold cut;rw[A26,C02];lia
theorem Nr(h:x∈cut xs i j):x∈xs:=List.mem_of_mem_drop<|List.mem_of_mem_take h
@[simp] theorem abF(xs:γ D)(a:EF)(lo hi:PF)(ρ:Env)(h:a ρ=.ok (.lst xs)):Ru a lo hi ρ=(lo ρ).bind λ l=>(hi ρ).bind λ h=>.ok (cut xs l h):=by unfold Ru;rw[h];rfl
theorem wj:∀ds,(∀d∈ds,(g d ρ).bind e=.ok (h d))->cm g cF e ρ ds=.ok (ds.map h)
|[],_=>rfl
|d::ds,k=>by have h1:=k d A18;have h2:=wj ds λ x hx=>k x<|A11 _ hx;let⟨ρ1,e1,e2⟩:=Res.ay h1;simp[cm,e1,e2,h2]
theorem oh:∀ds,(∀d∈ds,∃ρ1,g d ρ=.ok ρ1/\t ρ1=.ok (p d)/\(p d=Ch->e ρ1=.ok (h d)))->cm g t e ρ ds=.ok ((ds.filter p).map h)
|[],_=>rfl
|d::ds,k=>by
 let⟨ρ1,e1,e2,e3⟩:=k d A18;have h2:=oh ds λ x hx=>k x<|A11 _ hx;cases hp:p d with
 |true=>simp[cm,e1,e2,hp,e3 hp,h2]
 |false=>simp[cm,e1,e2,hp,h2]
theorem z9:∀(bs:γ Bool),allB (bs.map D.bl)=AC (bs.all id)
|[]=>rfl
|b::bs=>by simp[allB,z9 bs]
@[simp high] theorem gt0(a:α)(l:γ α):(a::l)[0]?=AC a:=rfl
@[simp high] theorem gtS(a:α)(l:γ α)(n:Nat):(a::l)[n+1]?=l[n]?:=rfl
@[simp high] theorem Qn(a x:α)(l:γ α):(a::l).set 0 x=x::l:=rfl
@[simp high] theorem stS(a x:α)(l:γ α)(n:Nat):(a::l).set (n+1) x=a::l.set n x:=rfl
end Z
namespace ZS
open L2
abbrev Fl(X:Cx)(x:Str):Prop:=X.fn x=Ch\/X.env.scope.names.lookup x=AC .local
end ZS
local macro_rules
| `(tactic|trivial)=>`(tactic|first|exact AD0 rfl|exact nw rfl)
open ZS (Fl)
namespace ZS
open L2
abbrev St:=L2.St
def G7:Sum Int (γ Nat)->Key
|.inl i=>.inl i
|.inr cs=>.inr ⟨cs.toArray⟩
def P0(K:Db)(H:Hp)(a:δ)(xs:γ V):Prop:=
 (∃ o,H a=AC (.eH o<|.lst xs)) \/
  ∃(o:μ)(bT:Array ζ)(n:Nat),K.lookup a=AC o/\o.cls=.type "list" /\ o.dict=At/\o.data=.seq bT n/\bT.size<=sizeLine/\Vals xs bT.toList
theorem P0.sq{K:Db}(h:P0 K H a xs):ka K H a xs:=by
 rcases h with⟨o,h⟩|h
 .exact .inl<|.inr ⟨o,h⟩
 .exact .inr h
structure iM(H H':Hp):Prop where
 tup:∀a xs,H a=AC (.tup xs)->H' a=AC (.tup xs)
 eH:∀a o u,H a=AC (.eH o u)->H' a=AC (.eH o u)
theorem iM.refl(H:Hp):iM H H:=⟨λ _ _ h=>h,λ _ _ _ h=>h⟩
theorem iM.trans{H H1 H2:Hp}(a:iM H H1)(b:iM H1 H2):iM H H2:=⟨λ c xs h=>b.tup c xs<|a.tup c xs h,λ c o u h=>b.eH c o u<|a.eH c o u h⟩
theorem lN(s:aG H H'):iM H H':=⟨λ _ _ h=>s _ _ h,λ _ _ _ h=>s _ _ h⟩
theorem ui(h:H p=AC o)(n1:∀xs,o≠.tup xs)(n2:∀ob x,o≠.eH ob x):iM H (upd H p u):=
 ⟨λ a xs e=>by rw[aE (by rintro rfl;rw[h]at e;exact n1 xs<|A06 e)];exact e,λ a ob x e=>by rw[aE (by rintro rfl;rw[h]at e;exact n2 ob x<|A06 e)];exact e⟩
theorem jZ(h:H p=AC (.lst xs)):iM H (upd H p u):=ui h (λ _ z=>nomatch z) λ _ _ z=>nomatch z
theorem P0.mono{K:Db}(e:iM H H')(h:P0 K H a xs):P0 K H' a xs:=by
 rcases h with⟨o,h⟩|h
 .exact .inl ⟨o,e.eH _ _ _ h⟩
 .exact .inr h
theorem fR{K:Db}(e:iM H H')(h:nr K H a xs):nr K H' a xs:=by
 rcases h with(h|⟨o,h⟩)|h
 .exact .inl<|.inl<|e.tup _ _ h
 .exact .inl<|.inr ⟨o,e.eH _ _ _ h⟩
 .exact .inr h
mutual
def Den(K:Db)(H:Hp):Z.D->V->Prop
|.non,v=>v=.non
|.bl b,v=>v=.bl b
|.int i,v=>v=.int i
|.str cs,v=>v=.str ⟨cs.toArray⟩
|.tup ds,v=>∃a vs,v=.ref a/\nr K H a vs/\aI K H ds vs
|.lst ds,v=>∃a vs,v=.ref a/\P0 K H a vs/\aI K H ds vs
|.dct ks ds,v=>∃a o fT,v=.ref a/\H a=AC (.eH o<|.dK fT)/\fT.map (·.1)=ks.map G7/\aI K H ds (fT.map (·.2))/\∀i r,ks≠.inl i::r
def aI(K:Db)(H:Hp):γ Z.D->γ V->Prop
|[],vs=>vs=[]
|d::ds,vs=>∃v r,vs=v::r/\Den K H d v/\aI K H ds r
end
section
variable{K:Db}{H H':Hp}
mutual
theorem Den.mono(e:iM H H'):∀(d:Z.D)(v:V),Den K H d v->Den K H' d v
|.non,v,h=>by simp only[Den]at h ⊢;exact h
|.bl b,v,h=>by simp only[Den]at h ⊢;exact h
|.int i,v,h=>by simp only[Den]at h ⊢;exact h
|.str cs,v,h=>by simp only[Den]at h ⊢;exact h
|.tup ds,v,h=>by simp only[Den]at h ⊢;let⟨a,vs,e1,q,r⟩:=h;exact⟨a,vs,e1,fR e q,aI.mono e ds vs r⟩
|.lst ds,v,h=>by simp only[Den]at h ⊢;let⟨a,vs,e1,q,r⟩:=h;exact⟨a,vs,e1,q.mono e,aI.mono e ds vs r⟩
|.dct ks ds,v,h=>by simp only[Den]at h ⊢;let⟨a,o,fT,e1,q,k,r,n⟩:=h;exact⟨a,o,fT,e1,e.eH _ _ _ q,k,aI.mono e ds _ r,n⟩
theorem aI.mono(e:iM H H'):∀(ds:γ Z.D)(vs:γ V),aI K H ds vs->aI K H' ds vs
|[],vs,h=>by simp only[aI]at h ⊢;exact h
|d::ds,vs,h=>by simp only[aI]at h ⊢;let⟨v,r,e1,q,t⟩:=h;exact⟨v,r,e1,Den.mono e d v q,aI.mono e ds r t⟩
end
theorem Den.up(h:Den K H d v)(e:aG H H'):Den K H' d v:=Den.mono (lN e) d v h
theorem Den.ups(h:Den K H d v)(e:iM H H'):Den K H' d v:=Den.mono e d v h
theorem aI.ups(h:aI K H ds vs)(e:iM H H'):aI K H' ds vs:=aI.mono e ds vs h
theorem aI.up(h:aI K H ds vs)(e:aG H H'):aI K H' ds vs:=aI.mono (lN e) ds vs h
theorem aI.nil:aI K H [] []:=by simp only[aI]
theorem aI.cons{d:Z.D}{ds:γ Z.D}{v:V}{vs:γ V}(h:Den K H d v)(t:aI K H ds vs):aI K H (d::ds) (v::vs):=by simp only[aI];exact⟨v,vs,rfl,h,t⟩
theorem aI.length:∀{ds}{vs},aI K H ds vs->vs.length=ds.length
|[],vs,h=>by simp only[aI]at h;subst h;rfl
|d::ds,vs,h=>by simp only[aI]at h;let⟨v,r,rfl,_,t⟩:=h;simp[aI.length t]
theorem aI.get:∀{ds}{vs}{i:Nat}{d},aI K H ds vs->ds[i]?=AC d->∃v,vs[i]?=AC v/\Den K H d v
|[],_,_,_,_,e=>by simp at e
|x::ds,vs,0,d,h,e=>by simp only[aI]at h;let⟨v,r,rfl,q,_⟩:=h;simp at e;subst e;exact⟨v,rfl,q⟩
|x::ds,vs,i+1,d,h,e=>by simp only[aI]at h;let⟨v,r,rfl,_,t⟩:=h;let⟨u,h1,h2⟩:=aI.get t (by simpa using e);exact⟨u,by simpa using h1,h2⟩
theorem aI.append:∀{ds es}{vs us},aI K H ds vs->aI K H es us->aI K H (ds++es) (vs++us)
|[],_,_,_,h,g=>by simp only[aI]at h;subst h;exact g
|d::ds,es,vs,us,h,g=>by simp only[aI]at h;let⟨v,r,rfl,q,t⟩:=h;exact aI.cons q<|aI.append t g
theorem aI.drop:∀{ds}{vs} n,aI K H ds vs->aI K H (ds.drop n) (vs.drop n)
|_,_,0,h=>by simpa using h
|[],vs,_+1,h=>by simp only[aI]at h;subst h;simpa using aI.nil
|d::ds,vs,n+1,h=>by simp only[aI]at h;let⟨v,r,rfl,q,t⟩:=h;simpa using aI.drop n t
theorem aI.take:∀{ds}{vs} n,aI K H ds vs->aI K H (ds.take n) (vs.take n)
|_,_,0,h=>by simpa using aI.nil
|[],vs,_+1,h=>by simp only[aI]at h;subst h;simpa using aI.nil
|d::ds,vs,n+1,h=>by simp only[aI]at h;let⟨v,r,rfl,q,t⟩:=h;simpa using aI.cons q (aI.take n t)
theorem aI.zints:∀(ns:γ Int),aI K H (ns.map Z.D.int) (ns.map V.int)
|[]=>aI.nil
|n::ns=>aI.cons (by simp only[Den])<|aI.zints ns
def b_(K:Db)(H:Hp)(d:Z.D)(v:V):Prop:=Den K H d v\/∃ds a vs,d=.lst ds/\v=.ref a/\H a=AC (.lst vs)/\aI K H ds vs
theorem b_.up(h:b_ K H d v)(e:aG H H'):b_ K H' d v:=by
 rcases h with h|⟨ds,a,vs,e1,e2,q,t⟩
 .exact .inl<|h.up e
 .exact .inr ⟨ds,a,vs,e1,e2,e _ _ q,t.up e⟩
theorem b_.oq(h:b_ K H d v)(n:∀ds,d≠.lst ds):Den K H d v:=by
 rcases h with h|⟨ds,a,vs,e1,_⟩
 .exact h
 .exact absurd e1<|n ds
theorem b_.non(h:b_ K H .non v):v=.non:=by have:=h.oq λ _ z=>nomatch z;simpa only[Den]using this
theorem b_.bl(h:b_ K H (.bl b) v):v=.bl b:=by have:=h.oq λ _ z=>nomatch z;simpa only[Den]using this
theorem b_.int(h:b_ K H (.int i) v):v=.int i:=by have:=h.oq λ _ z=>nomatch z;simpa only[Den]using this
theorem b_.str(h:b_ K H (.str cs) v):v=.str ⟨cs.toArray⟩:=by have:=h.oq λ _ z=>nomatch z;simpa only[Den]using this
theorem b_.tup{ds:γ Z.D}{v:V}(h:b_ K H (.tup ds) v):∃a vs,v=.ref a/\nr K H a vs/\aI K H ds vs:=by have:=h.oq λ _ z=>nomatch z;simpa only[Den]using this
theorem b_.lst{ds:γ Z.D}{v:V}(h:b_ K H (.lst ds) v):∃a vs,v=.ref a/\ka K H a vs/\aI K H ds vs:=by
 rcases h with h|⟨es,a,vs,e1,e2,q,t⟩
 .simp only[Den]at h;let⟨a,vs,e,q,t⟩:=h;exact⟨a,vs,e,q.sq,t⟩
 .cases e1;exact⟨a,vs,e2,.inl<|.inl q,t⟩
theorem b_.dct(h:b_ K H (.dct ks ds) v):∃a o fT,v=.ref a/\H a=AC (.eH o<|.dK fT)/\fT.map (·.1)=ks.map G7/\aI K H ds (fT.map (·.2))/\∀i r,ks≠.inl i::r:=by have:=h.oq λ _ z=>nomatch z;simpa only[Den]using this
theorem j9:Den K H .non .non:=by simp only[Den]
theorem dh:Den K H (.bl b) (.bl b):=by simp only[Den]
theorem dP:Den K H (.int i) (.int i):=by simp only[Den]
theorem lj:Den K H (.str cs) (.str ⟨cs.toArray⟩):=by simp only[Den]
theorem gc(h:nr K H a vs)(t:aI K H ds vs):Den K H (.tup ds) (.ref a):=by simp only[Den];exact⟨a,vs,rfl,h,t⟩
theorem zU(h:P0 K H a vs)(t:aI K H ds vs):Den K H (.lst ds) (.ref a):=by simp only[Den];exact⟨a,vs,rfl,h,t⟩
end
def ue(K:Db)(c:Str)(C:δ):Prop:=Ev K mainGlobals c=AC (AC<|.ref C)/\H? K C
def HY(K:Db)(H:Hp)(kd:Nat)(ks:γ (γ Nat))(ds:γ Z.D)(u:HO):Prop:=
 (kd=0/\ks=Z.cC.take ks.length/\∃ C dx fs,u=.ins C dx fs/\ue K "Desk" C/\fs.map (·.1)=ks.map (λ c=>(⟨c.toArray⟩:Str))/\aI K H ds (fs.map (·.2))) \/
  kd=1/\∃fT:γ (Key×V),u=.dK fT/\fT.map (·.1)=ks.map (λ c=>(WF ⟨c.toArray⟩:Key))/\aI K H ds (fT.map (·.2))
theorem HY.ups{K:Db}(h:HY K H kd ks ds u)(e:iM H H'):HY K H' kd ks ds u:=by
 rcases h with⟨h0,hk,C,dx,fs,h1,h2,h3,h4⟩|⟨h0,fT,h1,h2,h3⟩
 .exact .inl ⟨h0,hk,C,dx,fs,h1,h2,h3,h4.ups e⟩
 .exact .inr ⟨h0,fT,h1,h2,h3.ups e⟩
def Thg(K:Db)(H:Hp)(d:Z.D)(v:V):Prop:=∃a kd ks ds u,d=Z.gD a kd ks ds/\v=.ref a/\H a=AC u/\HY K H kd ks ds u
def jY(K:Db)(H:Hp)(d:Z.D)(v:V):Prop:=b_ K H d v\/Thg K H d v
theorem jY.up{K:Db}(h:jY K H d v)(e:aG H H'):jY K H' d v:=by
 rcases h with h|⟨a,kd,ks,ds,u,e1,e2,q,t⟩
 .exact .inl<|h.up e
 .exact .inr ⟨a,kd,ks,ds,u,e1,e2,e _ _ q,t.ups<|lN e⟩
def Gb(K:Db)(H:Hp)(d:Z.D)(v:V):Prop:=b_ K H d v\/∃a kd ks ds u,d=Z.gD a kd ks ds/\v=.ref a/\H a=AC u
theorem jY.z{K:Db}(h:jY K H d v):Gb K H d v:=by
 rcases h with h|⟨a,kd,ks,ds,u,e1,e2,q,_⟩
 .exact .inl h
 .exact .inr ⟨a,kd,ks,ds,u,e1,e2,q⟩
theorem jY.gD{K:Db}(h:jY K H (.dct (.inl a::r) ds) v):Thg K H (.dct (.inl a::r) ds) v:=by
 rcases h with h|h
 .let⟨_,_,_,_,_,_,_,n⟩:=h.dct;exact absurd rfl<|n _ _
 .exact h
theorem Gb.re{K:Db}(h:Gb K H0 d v)(r:jY K H d v)(h0:aG H0 H)(hs:aG H0 H')(st:iM H H'):jY K H' d v:=by
 rcases h with h|⟨a,kd,ks,ds,u,rfl,rfl,q⟩
 .exact .inl<|h.up hs
 .let⟨a',DH,ur,ds',u',e1,e2,q',t⟩:=r.gD;cases e2;have:=(h0 _ _ q).symm.trans q';cases this;exact .inr ⟨_,DH,ur,ds',u,e1,rfl,hs _ _ q,t.ups st⟩
theorem jY.lst{K:Db}{H:Hp}{ds:γ Z.D}{v:V}(h:jY K H (.lst ds) v):b_ K H (.lst ds) v:=by
 rcases h with h|⟨a,kd,ks,es,u,e1,_⟩
 .exact h
 .cases e1
def aaq(x:γ Int×δ×ζ):DictEntry:={hash:=reduceHash<|Builtin.Tuple.tupleHashOf<|x.1.map hashInt,key:=.ref x.2.1,val:=x.2.2}
def Xb(a:δ)(ks:γ (γ Int))(as:γ δ)(h:ν):Prop:=ks.length<=sizeLine/\(a==sysModules)=AT/\∃(xs:γ (γ Int×δ×ζ))(o:μ)(es:Array DictEntry)(ep:Nat),xs.map (·.1)=ks/\xs.map (·.2.1)=as/\h.get? a=AC o/\o.ExactDict/\o.data=.dict es ep/\es.toList=xs.map aaq/\ks.Nodup
abbrev Xa(a:δ)(ks:γ (γ Int))(as:γ δ):HO:=.ext<|Xb a ks as
def sA(K:Db)(H:Hp)(ks:γ (γ Int))(as:γ δ):Prop:=Paired (λ(k:γ Int)(b:δ)=>Den K H (.tup<|k.map .int)<|.ref b) ks as
def kvT(fT:γ (γ Nat×γ Nat)):γ (Key×V):=fT.map λ p=>(WF ⟨p.1.toArray⟩,V.str ⟨p.2.toArray⟩)
def DcO(a:δ):Z.DK->γ δ->HO
|.inl ks,as=>Xa a ks as
|.inr fT,_=>.dK<|kvT fT
def YW(K:Db)(H:Hp):Z.DK->γ δ->Prop
|.inl ks,as=>sA K H ks as
|.inr _,_=>True
theorem FY:DcO a k as≠.lst xs:=by cases k<;>exact λ z=>nomatch z
def kvI(ps:γ (Int×Int)):γ (Key×V):=ps.map λ p=>(ac p.1,V.int p.2)
def Ar(K:Db)(C:δ):Bool:=match K.lookup C with
|some ⟨.type "type",_,.cls cd,sl⟩=>(match cd.mro,sl.toList with
 |.ref C'::tl,[_,_,_,_,AC (.builtin n),_]=>C'==C&&n=="ValueError.__new__" && !cd.hasDel&&tl.contains (.type "BaseException")
 | _,_=>AT)
|_=>AT
def XC(K:Db)(c:γ Nat)(C:δ):Prop:=Ev K mainGlobals ⟨c.toArray⟩=AC (AC<|.ref C)/\Ar K C=Ch
def XD(K:Db)(H:Hp):ε δ->γ (γ Nat×Z.D)->Prop
|none,fs=>fs=[]
|some dx,fs=>fs≠[]/\∃od fT,H dx=AC (.eH od<|.xd fT)/\Paired (λ(p:Str×V)(q:γ Nat×Z.D)=>p.1=⟨q.1.toArray⟩/\Den K H q.2 p.2) fT fs
theorem XD.ups{K:Db}(h:XD K H dd fs)(e:iM H H'):XD K H' dd fs:=by
 cases dd with
 |none=>exact h
 |some dx=>let⟨n,od,fT,q,p⟩:=h;exact⟨n,od,fT,e.eH _ _ _ q,Paired.JV p λ _ _ z=>⟨z.1,z.2.ups e⟩⟩
def nK(K:Db)(H:Hp)(c:γ Nat×γ (γ Nat×Z.D))(C:δ)(dd:ε δ):Prop:=XC K c.1 C/\XD K H dd c.2
theorem nK.ups{K:Db}(h:nK K H c C dd)(e:iM H H'):nK K H' c C dd:=⟨h.1,h.2.ups e⟩
def RL(K:Db)(H:Hp):Z.L->V->Prop
|.val d,v=>Den K H d v
|.own ds,v=>∃a vs,v=.ref a/\H a=AC (.lst vs)/\aI K H ds vs
|.bor d,v=>jY K H d v
|.dc k,v=>∃a as,v=.ref a/\H a=AC (DcO a k as)/\YW K H k as
|.Hf ks,v=>∃a o as,v=.ref a/\H a=AC (.eH o<|Xa a ks as)/\sA K H ks as
|.RJ ps,v=>∃a o,v=.ref a/\H a=AC (.eH o<|.dK<|kvI ps)
|.exc c,v=>∃a o u C,v=.ref a/\H a=AC (.eH o u)/\o.cls=.ref C/\(∃vs,o.data=.fields vs)/\nK K H c C o.dict
theorem sA.ups{K:Db}(h:sA K H ks as)(e:iM H H'):sA K H' ks as:=Paired.JV h λ _ _ d=>Den.ups d e
theorem YW.ups{K:Db}(h:YW K H k as)(e:iM H H'):YW K H' k as:=by
 cases k with
 |inl ks=>exact sA.ups (h) e
 |inr _=>exact On
structure RE(K:Db)(H:Hp)(σ:St)(ρ:Z.Env):Prop where
 len:ρ.length=σ.length
 get:∀(i:Nat)(l:Z.L),ρ[i]?=AC (AC l)->∃v,σ[i]?=AC (AC v)/\RL K H l v
 sep:∀(i j:Nat)(xs ys:List Z.D)(a:Addr),ρ[i]?=AC (AC<|.own xs)->ρ[j]?=AC (AC<|.own ys)->σ[i]?=AC (AC<|.ref a)->σ[j]?=AC (AC<|.ref a)->i=j
section
variable{K:Db}{H H':Hp}{σ:St}{ρ:Z.Env}
theorem RL.up(h:RL K H l v)(e:aG H H'):RL K H' l v:=by
 cases l with
 |val d=>exact Den.up (h) e
 |own ds=>let⟨a,vs,e1,q,t⟩:=h;exact⟨a,vs,e1,e _ _ q,t.up e⟩
 |bor d=>exact jY.up (h) e
 |dc ks=>let⟨a,as,e1,q,t⟩:=h;exact⟨a,as,e1,e _ _ q,t.ups<|lN e⟩
 |Hf ks=>let⟨a,o,as,e1,q,t⟩:=h;exact⟨a,o,as,e1,e _ _ q,t.ups<|lN e⟩
 |RJ ps=>let⟨a,o,e1,q⟩:=h;exact⟨a,o,e1,e _ _ q⟩
 |exc c=>let⟨a,o,u,C,e1,q,r1,r2,r3⟩:=h;exact⟨a,o,u,C,e1,e _ _ q,r1,r2,r3.ups<|lN e⟩
theorem RE.up(h:RE K H σ ρ)(e:aG H H'):RE K H' σ ρ:=
 ⟨h.len,λ i l q=>let ⟨v,h1,h2⟩:=h.get i l q;⟨v,h1,h2.up e⟩,h.sep⟩
theorem cI(h:H a=At):aG H (upd H a o):=λ b u e=>by rw[aE<|bt e h];exact e
end
def tZ(K:Db)(f:Z.EF):TE:=λ σ H Q=>∃ρ d,RE K H σ ρ/\f ρ=.ok d/\∀v H',aG H H'->Den K H' d v->Q v H'
def O6(K:Db)(f:Z.EF):TE:=λ σ H Q=>∃ρ d,RE K H σ ρ/\f ρ=.ok d/\∀v H',aG H H'->b_ K H' d v->Q v H'
def tZl(K:Db)(f:Z.LF):TE:=λ σ H Q=>∃ρ ds,RE K H σ ρ/\f ρ=.ok ds/\∀a vs H',aG H H'->H a=At->H' a=AC (.lst vs)->aI K H' ds vs->Q (.ref a) H'
def Ug(K:Db)(f:Z.TF):TT:=λ σ H Q=>∃ρ b,RE K H σ ρ/\f ρ=.ok b/\∀H',aG H H'->Q b H'
def tZa(K:Db)(f:Z.AF):TA:=λ σ H Q=>∃ρ ds,RE K H σ ρ/\f ρ=.ok ds/\∀vs H',aG H H'->aI K H' ds vs->Q vs H'
def tZp(K:Db)(f:Z.PF):TO:=λ σ H Q=>∃ρ o,RE K H σ ρ/\f ρ=.ok o/\∀H',aG H H'->Q o H'
abbrev DE(X:Cx)(e:ι)(f:Z.EF):Prop:=PE X e<|tZ X.K f
structure _root_.ZQ.QE(X:Cx)(e:Expr)(f:Z.EF):Prop where p:DE X e f
abbrev DW(X:Cx)(e:ι)(f:Z.EF):Prop:=PE X e<|O6 X.K f
structure _root_.ZQ.QW(X:Cx)(e:Expr)(f:Z.EF):Prop where p:DW X e f
abbrev DL(X:Cx)(e:ι)(f:Z.LF):Prop:=PE X e<|tZl X.K f
structure _root_.ZQ.QL(X:Cx)(e:Expr)(f:Z.LF):Prop where p:DL X e f
abbrev DT(X:Cx)(e:ι)(f:Z.TF):Prop:=PT X e<|Ug X.K f
structure _root_.ZQ.QT(X:Cx)(e:Expr)(f:Z.TF):Prop where p:DT X e f
abbrev DTW(X:Cx)(e:ι)(f:Z.TF):Prop:=PW X e<|Ug X.K f
structure _root_.ZQ.SW(X:Cx)(e:Expr)(f:Z.TF):Prop where p:DTW X e f
abbrev DA(X:Cx)(es:γ ι)(f:Z.AF):Prop:=PA X es<|tZa X.K f
structure _root_.ZQ.QA(X:Cx)(es:List Expr)(f:Z.AF):Prop where p:DA X es f
abbrev DP(X:Cx)(e:ε ι)(f:Z.PF):Prop:=PO X e<|tZp X.K f
structure _root_.ZQ.QP(X:Cx)(e:Option Expr)(f:Z.PF):Prop where p:DP X e f
section
variable{X:Cx}{e a b c:ι}{es:γ ι}{pos:Pos}{f fa fb fc:Z.EF}
theorem PE.imp(h:PE X e t)(k:∀σ H Q,t' σ H Q->t σ H Q):PE X e t':=λ χ s σ H Q I w=>h χ s σ H Q I<|k σ H Q w
theorem PT.imp(h:PT X e t)(k:∀σ H Q,t' σ H Q->t σ H Q):PT X e t':=λ χ s σ H Q I w=>h χ s σ H Q I<|k σ H Q w
theorem PW.imp(h:PW X e t)(k:∀σ H Q,t' σ H Q->t σ H Q):PW X e t':=λ whole χ s σ H Q I w=>h whole χ s σ H Q I<|k σ H Q w
theorem PA.imp(h:PA X es t)(k:∀σ H Q,t' σ H Q->t σ H Q):PA X es t':=λ p χ s σ H Q I w=>h p χ s σ H Q I<|k σ H Q w
theorem PO.imp(h:PO X o t)(k:∀σ H Q,t' σ H Q->t σ H Q):PO X o t':=λ χ s σ H Q I w=>h χ s σ H Q I<|k σ H Q w
theorem Lc(h:PE X e (tC v))(hd:∀H,Den X.K H d v):DE X e (Z.eC d):=PE.imp h <|by rintro σ H Q ⟨ρ,d',_,e,k⟩;have e':=e;cases e';exact k v H (aG.refl H)<|hd H
theorem _root_.ZQ.ag:ZQ.QE X (.Constant (.int i) j pos) (Z.eC<|.int i):=⟨Lc QN λ _=>dP⟩
theorem _root_.ZQ.cP:ZQ.QE X (.Constant (.bool x) j pos) (Z.eC<|.bl x):=⟨Lc UQ λ _=>dh⟩
theorem _root_.ZQ.fi:ZQ.QE X (.Constant .none j pos) (Z.eC .non):=⟨Lc y? λ _=>j9⟩
theorem _root_.ZQ.aX(h:x=⟨cs.toArray⟩:=by decide +kernel):ZQ.QE X (.Constant (.str x) j pos) (Z.eC<|.str cs):=⟨by subst h;exact Lc QD λ _=>lj⟩
theorem WE(h:Z.eV i ρ=.ok d):ρ[i]?=AC (AC<|.val d):=by
 unfold Z.eV at h;split at h
 .rename_i d' q;cases h;exact q
 .cases h
theorem WD(h:Z.eW i ρ=.ok d):ρ[i]?=AC (AC<|.val d)\/(∃xs,ρ[i]?=AC (AC<|.own xs)/\d=.lst xs)\/∃xs,ρ[i]?=AC (AC<|.bor<|.lst xs)/\d=.lst xs:=by
 unfold Z.eW at h;split at h
 .rename_i d' q;cases h;exact .inl q
 .rename_i xs q;cases h;exact .inr<|.inl ⟨xs,q,rfl⟩
 .rename_i xs q;cases h;exact .inr<|.inr ⟨xs,q,rfl⟩
 .cases h
theorem Su(h:PE X e (kE i)):DE X e (Z.eV i):=PE.imp h <|by rintro σ H Q ⟨ρ,d,r,e,k⟩;let⟨v,h1,h2⟩:=r.get i _ (WE e);exact⟨v,h1,k v H (aG.refl H) h2⟩
theorem Sm(h:PE X e (kE i)):DW X e (Z.eW i):=PE.imp h <|by
 rintro σ H Q ⟨ρ,d,r,e,k⟩;rcases WD e with q|⟨xs,q,rfl⟩|⟨xs,q,rfl⟩
 rotate_left;rotate_left
 .let⟨v,h1,h2⟩:=r.get i _ q;exact⟨v,h1,k v H (aG.refl H)<|jY.lst h2⟩
 .let⟨v,h1,h2⟩:=r.get i _ q;exact⟨v,h1,k v H (aG.refl H)<|.inl h2⟩
 .let⟨v,h1,a,vs,rfl,h2,h3⟩:=r.get i _ q;exact⟨_,h1,k _ H (aG.refl H)<|.inr ⟨xs,a,vs,rfl,rfl,h2,h3⟩⟩
theorem _root_.ZQ.aA(hN:X.N[i]?=AC x:=by rfl)(hv:HD X.env.scope x:=by first| exact AD0 rfl| exact nw<|Or.inl rfl| exact nw<|Or.inr rfl)(hd:(x==("__debug__"))=AT:=by decide +kernel)
 (m?:(x==("__classdict__"))=AT:=by decide +kernel):ZQ.QE X (.Name x pos) (Z.eV i):=⟨Su<|kU hN hv hd m?⟩
theorem _root_.ZQ.aq(hN:X.N[i]?=AC x:=by rfl)(hv:HD X.env.scope x:=by first| exact AD0 rfl| exact nw<|Or.inl rfl| exact nw<|Or.inr rfl)(hd:(x==("__debug__"))=AT:=by decide +kernel)
 (m?:(x==("__classdict__"))=AT:=by decide +kernel):ZQ.QW X (.Name x pos) (Z.eW i):=⟨Sm<|kU hN hv hd m?⟩
theorem Oy(hg:Gl X x)(hm:X.mg x=AC u)(r:RelV v u)(hd:∀H,Den X.K H d v)(hb:(x==("__debug__"))=AT:=by decide +kernel):DE X (.Name x pos) (Z.eC d):=
 Lc (E? hg hm r hb) hd
theorem _root_.ZQ.au(h:ZQ.QE X e f):ZQ.QW X e f:=⟨PE.imp h.p <|by rintro σ H Q ⟨ρ,d,r,e,k⟩;exact⟨ρ,d,r,e,λ v H' s q=>k v H' s<|.inl q⟩⟩
theorem _root_.ZQ.fM(h:ZQ.QL X e l):ZQ.QW X e (Z.eL l):=⟨PE.imp h.p <|by
 rintro σ H Q ⟨ρ,d,r,e,k⟩;unfold Z.eL at e;cases q:l ρ with
 |bad=>rw[q]at e;cases e
 |ok ds=>rw[q]at e;cases e;exact⟨ρ,ds,r,q,λ a vs H' s hn h1 h2=>k _ H' s<|.inr ⟨ds,a,vs,rfl,rfl,h1,h2⟩⟩⟩
theorem oR(I:Inv X χ σ H s)(h:H p=AC (.lst xs)):∃o,Inv X χ σ (upd H p<|.eH o<|.lst xs) s:=by
 let⟨z,bT,n,r,ho⟩:=I.cy p _ h;refine⟨_,I.un (H':=upd H p (.eH {cls:=.type "list",data:=.seq bT.toArray n} _)) ?_ ?_⟩
 .have ne:∀b,H b=At->b≠p:=λ b e q=>by rw[q,h]at e;cases e
  refine⟨λ b o q _ _ _=>q,λ b o q _ _ _=>⟨_,q⟩,λ b o q e _=>by rw[aE<|ne b e];exact e,λ b o q _=>⟨o,q⟩,λ b ys e=>?_,λ b o u e=>?_,λ b u pr e=>?_⟩
  .have:b≠p:=by rintro rfl;rw[h]at e;cases e
   rw[aE this];exact e
  .have:b≠p:=by rintro rfl;rw[h]at e;cases e
   rw[aE this];exact e
  .have:b≠p:=by rintro rfl;rw[h]at e;cases e;exact pr
   rw[aE this];exact e
 .intro b u e;by_cases hb:b=p
  .subst hb;rw[aP]at e;cases e;exact⟨ho,z,bT,n,r,ho⟩
  .rw[aE hb]at e;refine(I.cy b u e).oy (λ c w _ q=>q) (λ c q=>?_) (λ c ys q=>?_) λ c v pr q=>?_
   .have:c≠p:=by rintro rfl;rw[h]at q;cases q
    rw[aE this];exact q
   .have:c≠p:=by rintro rfl;rw[h]at q;cases q
    rw[aE this];exact q
   .have:c≠p:=by rintro rfl;rw[h]at q;cases q;exact pr
    rw[aE this];exact q
theorem IU(s:aG H H1)(hn:H p=At):aG H (upd H1 p<|.eH o<|.lst xs):=λ b u e=>by rw[aE<|bt e hn];exact s b u e
theorem _root_.ZQ.eZ(h:ZQ.QL X e l):ZQ.QE X e (Z.eL l):=⟨by
 have h:=h.p;intro χ s σ H Q I w;let⟨ρ,d,r,e,k⟩:=w;unfold Z.eL at e;cases q:l ρ with
 |bad=>rw[q]at e;cases e
 |ok ds=>rw[q]at e;cases e;refine da (h χ s σ H (λ v H1=>∃a vs,v=.ref a/\aG H H1/\H a=At/\H1 a=AC (.lst vs)/\aI X.K H1 ds vs) I ⟨ρ,ds,r,q,λ a vs H1 s1 hn h1 h2=>⟨a,vs,rfl,s1,hn,h1,h2⟩⟩) ?_;rintro u s' ⟨v,H1,I1,rv,a,vs,rfl,s1,hn,h1,h2⟩;let⟨o,I2⟩:=oR I1 h1;exact⟨_,_,I2,rv,k _ _ (IU s1 hn)<|zU (.inl ⟨o,aP⟩)<|h2.ups<|jZ h1⟩⟩
def H!(K:Db)(r:R2)(o:Z.D->Z.D->Z.Res Z.D):Prop:=∀(x y:V)(dx dy d:Z.D)(H:Hp)(Q:VK),b_ K H dx x->b_ K H dy y->o dx dy=.ok d->(∀v H',aG H H'->Den K H' d v->Q v H')->r x y H Q
theorem two(hz:H! X.K r o):∀σ H Q,tZ X.K (Z.eB o fa fb) σ H Q->Ms r (O6 X.K fa) (O6 X.K fb) σ H Q:=by rintro σ H Q ⟨ρ,d,re,e,k⟩;let⟨x,ea,e⟩:=WP e;let⟨y,eb,e⟩:=WP e;exact⟨ρ,x,re,ea,λ v H1 s1 d1=>⟨ρ,y,re.up s1,eb,λ u H2 s2 d2=>hz _ _ _ _ _ H2 Q (d1.up s2) d2 e λ w H' s3 dw=>k w H' ((s1.trans s2).trans s3) dw⟩⟩
theorem wc(hr:kC X (binaryOp op) r)(hz:H! X.K r o)(ha:DW X a fa)(hb:DW X b fb):DE X (.BinOp a op b pos) (Z.eB o fa fb):=
 PE.imp (Jk hr ha hb)<|two hz
theorem pQ{K:Db}{g:Int->Int->Int}(h:∀dx dy d,o dx dy=.ok d->∃i j,dx=.int i/\dy=.int j/\C i j/\d=.int (g i j)):H! K (rI C λ i j=>.int<|g i j) o:=by intro x y dx dy d H Q h1 h2 e k;let⟨i,j,rfl,rfl,hc,rfl⟩:=h _ _ _ e;exact⟨i,j,h1.int,h2.int,hc,k _ H (aG.refl H) dP⟩
theorem pP{K:Db}{gd:Int->Int->Z.D}(h:∀dx dy d,o dx dy=.ok d->∃i j,dx=.int i/\dy=.int j/\d=gd i j)(hg:∀i j H,Den K H (gd i j) (g i j)):H! K (MO g) o:=by intro x y dx dy d H Q h1 h2 e k;let⟨i,j,rfl,rfl,rfl⟩:=h _ _ _ e;exact⟨i,j,h1.int,h2.int,k _ H (aG.refl H)<|hg i j H⟩
theorem _root_.ZQ.wb(ha:ZQ.QW X a fa)(hb:ZQ.QW X b fb):ZQ.QE X (.BinOp a .Sub b pos) (Z.eB Z.rn fa fb):=⟨have ha:=ha.p;have hb:=hb.p;wc QV (pP (λ dx dy d e=>by
 unfold Z.rn at e;split at e
 .cases e;exact⟨_,_,rfl,rfl,rfl⟩
 .cases e) λ _ _ _=>dP) ha hb⟩
def LJ(i j:Int):Prop:=IntMulOk i j
theorem M1:kC X (binaryOp .Mult) (rI LJ λ i j=>.int<|i*j):=UX λ _ _ _ _ _ _ _ hc q=>mul_int q hc
theorem OH(i:Int):Z.bits i=Builtin.Int.intBits i:=by
 unfold Z.bits Builtin.Int.intBits;by_cases h:i=0
 .subst h;simp
 .first
   |(simp;done)
   |(rw[P3];simp;done)
theorem ve(h:Z.eT i j):IntMulOk i j:=by
 rcases h with h|h|⟨h1,h2⟩
 .exact IntMulOk.of_left<|intBits_le_64 ∅ ∅
 .exact IntMulOk.of_right<|intBits_le_64 ∅ ∅
 .rw[OH]at h1 h2;exact mulOk_of_bits h1 h2 ∅
theorem _root_.ZQ.fN(ha:ZQ.QW X a fa)(hb:ZQ.QW X b fb):ZQ.QE X (.BinOp a .Mult b pos) (Z.eB Z.fC fa fb):=⟨have ha:=ha.p;have hb:=hb.p;wc M1 (pQ λ dx dy d e=>by
 unfold Z.fC at e;split at e
 .unfold Z.guard at e;split at e
  .rename_i h;cases e;exact⟨_,_,rfl,rfl,ve h,rfl⟩
  .cases e
 .cases e) ha hb⟩
def Xc(_ j:Int):Prop:=Z.j8 j
theorem Eg(h:Z.j8 j):0<j/\j.natAbs.log2<9000:=by
 have h0:=h.1;have h1:=h.2;have hn:j.natAbs≠0:=by lia
 have h2:j.natAbs<2^250:=by
  have:(2)^250=1809251394333065553493296640760748560207343510400633813116524750123642650624:=by decide
  lia
 have:=(Nat.log2_lt hn).mpr h2;exact⟨h0,by lia⟩
theorem M3:kC X (binaryOp .FloorDiv) (rI Xc λ i j=>.int<|i / j):=UX λ i j _ _ _ _ _ hc q=>by let⟨h0,h1⟩:=Eg hc;have e:=Int.fdiv_eq_ediv_of_nonneg i<|Int.le_of_lt h0;exact floordiv_int (Int.ne_of_gt h0) (by rw[e];exact q)<|.inl<|PyProof.noPylong_of_log2 h1
theorem _root_.ZQ.i'(ha:ZQ.QW X a fa)(hb:ZQ.QW X b fb):ZQ.QE X (.BinOp a .FloorDiv b pos) (Z.eB Z.oDiv fa fb):=⟨have ha:=ha.p;have hb:=hb.p;wc M3 (pQ λ dx dy d e=>by
 unfold Z.oDiv at e;split at e
 .unfold Z.guard at e;split at e
  .rename_i h;cases e;exact⟨_,_,rfl,rfl,h,rfl⟩
  .cases e
 .cases e) ha hb⟩
theorem _root_.ZQ.fk(ha:ZQ.QW X a fa)(hb:ZQ.QW X b fb):ZQ.QE X (.BinOp a .Mod b pos) (Z.eB Z.oMod fa fb):=⟨have ha:=ha.p;have hb:=hb.p;wc QZ (pQ λ dx dy d e=>by
 unfold Z.oMod at e;split at e
 .unfold Z.guard at e;split at e
  .rename_i h;cases e;exact⟨_,_,rfl,rfl,h,rfl⟩
  .cases e
 .cases e) ha hb⟩
theorem _root_.ZQ.K?(ha:ZQ.QW X a fa)(hb:ZQ.QW X b fb):ZQ.QE X (.BinOp a .Pow b pos) (Z.eB Z.tN fa fb):=⟨have ha:=ha.p;have hb:=hb.p;wc QY (pQ λ dx dy d e=>by
 unfold Z.tN at e;split at e
 .unfold Z.guard at e;split at e
  .rename_i h;cases e;exact⟨_,_,rfl,rfl,h,rfl⟩
  .cases e
 .cases e) ha hb⟩
def UK(K:Db):R2:=λ x y H Q=>∃a b xs ys,x=.ref a/\y=.ref b/\nr K H a xs/\nr K H b ys/\xs.length+ys.length<=sizeLine /\
 (xs=[]->Q (.ref b) H)/\(ys=[]->Q (.ref a) H)/\(∀p,H p=At->Q (.ref p) (upd H p<|.tup<|xs++ys))
theorem M4:kC X (binaryOp .Add) (UK X.K):=by
 intro χ s σ H x y v u Q I rx ry h;let⟨p,q,xs,ys,rfl,rfl,hp,hq,hz,q0,q1,q2⟩:=h;by_cases hx:xs=[]
 .cases rx;cases ry;let⟨bT,r1,ht,_⟩:=I.tuple hp;let⟨iP,r2,hb,_⟩:=I.tuple hq;let⟨⟨cls,dd,data,sl⟩,ho,hc,n,hd⟩:=id ht;let⟨⟨WM,TN,data2,S!⟩,HQ,BL,n2,hd2⟩:=id hb;simp only at hc hd BL hd2;subst hc hd BL hd2;have e0:=r1.uq.mpr hx;exact B47 ⟨_,ho,rfl⟩ ⟨_,HQ,rfl⟩ B97 seq_tuple_add B99 C00 (C01 _ _)
   (tuple_addW0 p q _ _ n n2 dd TN sl S! (by simp[e0])) ⟨ho,HQ,⟨.ref q,H,I,rfl,q0 hx⟩⟩
 .exact M5 χ s σ H _ _ v u Q I rx ry ⟨p,q,xs,ys,rfl,rfl,hp,hq,hx,hz,q1,λ _=>q2⟩
theorem Mu(a b:γ Nat):(⟨a.toArray⟩)++(⟨b.toArray⟩:Str)=⟨(a++b).toArray⟩:=by show(⟨a.toArray++b.toArray⟩:Str)=_;simp
theorem _root_.ZQ.bU(ha:ZQ.QW X a fa)(hb:ZQ.QW X b fb):ZQ.QE X (.BinOp a .Add b pos) (Z.eB Z.cb fa fb):=⟨have ha:=ha.p;have hb:=hb.p;wc (Q1.or<|Dd.or M4) (λ x y dx dy d H Q h1 h2 e k=>by
 unfold Z.cb at e;split at e
 .cases e;exact .inl ⟨_,_,h1.int,h2.int,k _ H (aG.refl H) dP⟩
 .unfold Z.guard at e;split at e
  .rename_i as bs h;cases e;refine .inr<|.inl ⟨_,_,h1.str,h2.str,?_,?_⟩
   .show as.toArray.size+bs.toArray.size<=sizeLine;rw[A33];simpa using h
   .rw[Mu];exact k _ H (aG.refl H) lj
  .cases e
 .unfold Z.guard at e;split at e
  .rename_i as bs h;cases e;let⟨p,xs,rfl,hp,t1⟩:=h1.tup;let⟨q,ys,rfl,hq,t2⟩:=h2.tup;refine .inr<|.inr ⟨p,q,xs,ys,rfl,rfl,hp,hq,?_,?_,?_,?_⟩
   .rw[t1.length,t2.length,A33];exact h
   .rintro rfl;have:=B48 (by rw[<-t1.length];rfl);subst this;exact k _ H (aG.refl H)<|gc hq t2
   .rintro rfl;have:=B48 (by rw[<-t2.length];rfl);subst this;rw[A54]at k;exact k _ H (aG.refl H)<|gc hp t1
   .intro z hn;have s1:aG H (upd H z<|.tup<|xs++ys):=cI hn;exact k _ _ s1<|gc (.inl<|.inl aP)<|(t1.append t2).up s1
  .cases e
 .cases e) ha hb⟩
theorem _root_.ZQ.we(ha:ZQ.QW X a fa):ZQ.QE X (.UnaryOp .USub a pos) (Z.eU Z.Bm fa):=⟨PE.imp (UO P? ha.p) <|by
 rintro σ H Q ⟨ρ,d,r,e,k⟩;let⟨x,ea,e⟩:=WP e;refine⟨ρ,x,r,ea,λ v H1 s1 d1=>?_⟩;unfold Z.Bm at e;split at e
 .cases e;exact⟨_,d1.int,k _ H1 s1 dP⟩
 .cases e⟩
end
end ZS
namespace ZS
section
open Builtin Builtin.Str
theorem By(t:γ Nat):(⟨t.toArray⟩:Str).length=t.length:=by simp[Str.length]
theorem F2(n d:Nat)(i:Int):max 0 (min (if i<0 then i+(n)else i)<|n)=((Z.eD n d<|some i)):=by
 show max 0 (min (if i<0 then i+(n)else i)<|n)=(((if i<0 then(i+(n)).toNat else min _ n)))
 by_cases h:i<0
 .simp only[f8 h];lia
 .simp only[P3 h];lia
theorem slR(a b:Nat):sliceRange (a) (b) 1=(FB<|b-a).map (λ k=>a+k):=by
 unfold sliceRange;simp only[show(1:Int)>0 by decide,A23];have e:(if(a)<(b:Int)then((b)-(a:Int)+1-1) / 1 else 0).toNat=b-a:=by
  split
  .rw[Int.ediv_one];lia
  .lia
 rw[e];apply B05;intro k _;lia
theorem idxs(lo hi:ε Int)(n:Nat):strSliceIndices lo hi 1 n=(FB<|Z.eD n n hi-Z.eD n 0 lo).map (λ k=>Z.eD n 0 lo+k):=by
 unfold strSliceIndices;simp only[show(1:Int)>0 by decide,A23];rw[<-slR];cases lo with
 |none=>
  cases hi with
  |none=>rfl
  |some j=>simp only[F2 n n j];rfl
 |some i=>
  cases hi with
  |none=>simp only[F2 n 0 i];rfl
  |some j=>simp only[F2 n 0 i,F2 n n j]
theorem yX(n d:Nat)(hd:d<=n)(o:ε Int):Z.eD n d o<=n:=by
 cases o with
 |none=>exact hd
 |some v=>show(if v<0 then(v+(n)).toNat else min _ n)<=n;split<;>lia
theorem pick(cs:γ Nat):∀k a,a+k<=cs.length->((FB k).map λ j=>a+j).filterMap (λ i=>cs.toArray[i]?)=(cs.drop a).take k:=by
 intro k
 induction k with
 |zero=>intro a _;simp
 |succ k ih=>
  intro a h;rw[A74,A63,List.filterMap_append,ih a ∅];have qR:a+k<cs.length:=by lia
  rw[List.take_succ];simp[qR]
theorem Uq(cs:γ Nat)(lo hi:ε Int):Txt.slice ⟨cs.toArray⟩ lo hi=⟨(Z.cut cs lo hi).toArray⟩:=by
 unfold Txt.slice;rw[By,idxs];have h1:=yX _ cs.length (v6 _) hi;have h0:=yX cs.length 0 (A71 _) lo;have hp:((FB<|Z.eD cs.length cs.length hi-Z.eD cs.length 0 lo).map λ k=>Z.eD cs.length 0 lo+k).filterMap (λ i=>cs.toArray[i]?)=Z.cut cs lo hi:=by exact pick cs _ _ ∅
 split
 .rename_i hh;have ψ:(FB<|Z.eD cs.length cs.length hi-Z.eD cs.length 0 lo).length=cs.length:=by simp only[A88,B49,A29,A17]at hh;exact hh
  rw[B04]at ψ;unfold Z.cut;have e0:Z.eD cs.length 0 lo=0:=by lia
  have e1:Z.eD cs.length cs.length hi-Z.eD cs.length 0 lo=cs.length:=by lia
  rw[e1,e0];simp
 .rw[hp]
end
open L2
section
variable{X:Cx}
theorem Sv(hr:kC X (compareOp op) r)(hz:H! X.K r o)(ha:DW X a fa)(hb:DW X b fb)(hm:behindInMarks op b=AT):DE X (.Compare a [op] [b] pos) (Z.eB o fa fb):=
 PE.imp (E_ hr ha hb hm)<|two hz
theorem FQ(h:PT X e (EU t))(k:∀σ H Q,tZ X.K f σ H Q->t σ H Q):DT X e (Z.tE f):=PT.imp h <|by
 rintro σ H Q ⟨ρ,b,r,e,q⟩;let⟨x,ea,e⟩:=WP e;refine k σ H _ ⟨ρ,x,r,ea,λ v H' s d=>?_⟩;split at e
 .cases e;simp only[Den]at d;exact⟨_,d,q H' s⟩
 .cases e
theorem So(hr:kC X (compareOp op) r)(hz:H! X.K r o)(ha:DW X a fa)(hb:DW X b fb)(hm:behindInMarks op b=AT):DT X (.Compare a [op] [b] pos) (Z.tE<|Z.eB o fa fb):=
 FQ (pN hr ha hb hm)<|two hz
structure EG(X:Cx)(op:CmpOp)(o:Z.D->Z.D->Z.Res Z.D):Prop where
 ex:∃r,kC X (compareOp op) r/\H! X.K r o
theorem _root_.ZQ.cJ(h:EG X op o)(ha:ZQ.QW X a fa)(hb:ZQ.QW X b fb)(hm:behindInMarks op b=AT:=by first|exact gi _|with_unfolding_all rfl):ZQ.QE X (.Compare a [op] [b] pos) (Z.eB o fa fb):=
 ⟨let ⟨_,hr,hz⟩:=h.ex;Sv hr hz ha.p hb.p hm⟩
theorem _root_.ZQ.bK(h:EG X op o)(ha:ZQ.QW X a fa)(hb:ZQ.QW X b fb)(hm:behindInMarks op b=AT:=by first|exact gi _|with_unfolding_all rfl):ZQ.QT X (.Compare a [op] [b] pos) (Z.tE<|Z.eB o fa fb):=
 ⟨let ⟨_,hr,hz⟩:=h.ex;So hr hz ha.p hb.p hm⟩
theorem ym(hz:H! X.K r o)(VN:H! X.K r' o'):∀σ H Q,tZ X.K (Z.i8 o o' fa fb fc) σ H Q->C0 r r' (O6 X.K fa) (O6 X.K fb) (O6 X.K fc) σ H Q:=by
 rintro σ H Q ⟨ρ,d,re,e,k⟩;let⟨x,ea,e⟩:=WP e;let⟨y,eb,e⟩:=WP e;let⟨z,eo,e⟩:=WP e;refine⟨ρ,x,re,ea,λ v H1 s1 d1=>⟨ρ,y,re.up s1,eb,λ u H2 s2 d2=>hz _ _ _ _ _ H2 _ (d1.up s2) d2 eo λ w H3 s3 dw=>?_⟩⟩;have LN:=(s1.trans s2).trans s3;split at e
 .rename_i q;simp only[Den]at dw;refine⟨_,dw,?_⟩;cases q with
  |true=>simp only[A23]at e ⊢;let⟨t,ec,e⟩:=WP e;exact⟨ρ,t,re.up LN,ec,λ v' H4 s4 d4=>VN _ _ _ _ _ H4 Q ((d2.up s3).up s4) d4 e λ w' H5 s5 dw'=>k w' H5 ((LN.trans s4).trans s5) dw'⟩
  |false=>simp only[A40]at e ⊢;cases e;exact k _ H3 LN dh
 .cases e
theorem _root_.ZQ.B7(h:EG X op o)(h':EG X GI o')(ha:ZQ.QW X a fa)(hb:ZQ.QW X b fb)(hc:ZQ.QW X c fc)
 (hm:lastMarks [op,GI] [b,c]=AT:=by with_unfolding_all rfl):ZQ.QE X (.Compare a [op,GI] [b,c] pos) (Z.i8 o o' fa fb fc):=
 ⟨let ⟨_,hr,hz⟩:=h.ex;let ⟨_,_r,VN⟩:=h'.ex;PE.imp (Jo hr _r ha.p hb.p hc.p hm) (ym hz VN)⟩
theorem _root_.ZQ.mH(h:EG X op o)(h':EG X GI o')(ha:ZQ.QW X a fa)(hb:ZQ.QW X b fb)(hc:ZQ.QW X c fc)
 (hm:lastMarks [op,GI] [b,c]=AT:=by with_unfolding_all rfl):ZQ.QT X (.Compare a [op,GI] [b,c] pos) (Z.tE<|Z.i8 o o' fa fb fc):=
 ⟨let ⟨_,hr,hz⟩:=h.ex;let ⟨_,_r,VN⟩:=h'.ex;FQ (Je hr _r ha.p hb.p hc.p hm) (ym hz VN)⟩
theorem Ll:EG X .Lt Z.oLt:=⟨_,UR,pP (λ dx dy d e=>by
 unfold Z.oLt at e;split at e
 .cases e;exact⟨_,_,rfl,rfl,rfl⟩
 .cases e) λ _ _ _=>dh⟩
theorem Cf:EG X .Gt Z.HK:=⟨_,UT,pP (λ dx dy d e=>by
 unfold Z.HK at e;split at e
 .cases e;exact⟨_,_,rfl,rfl,rfl⟩
 .cases e) λ _ _ _=>dh⟩
theorem aaD:EG X .GtE Z.X0:=⟨_,UU,pP (λ dx dy d e=>by
 unfold Z.X0 at e;split at e
 .cases e;exact⟨_,_,rfl,rfl,rfl⟩
 .cases e) λ _ _ _=>dh⟩
theorem GH:kC X (compareOp .LtE) (λ x y H Q=>∃i j,x=.str i/\y=.str j/\Q (.bl<|!decide (j.cps.toList<i.cps.toList)) H):=by intro χ s σ H x y v u Q I rx ry h;let⟨i,j,rfl,rfl,q⟩:=h;let⟨t,rfl⟩:=rx;let⟨t',rfl⟩:=ry;exact PySem.P.le_str<|D! I q rfl
theorem J6:∀a b,Z.HM a b=decide (a<b)
|[],[]=>by simp[Z.HM]
|[],_::_=>by simp[Z.HM]
|_::_,[]=>by simp[Z.HM]
|a::as,b::bs=>by
 unfold Z.HM;rw[J6];by_cases h:a<b
 .simp[C35]
 .by_cases h2:a=b
  .subst h2;simp
  .simp[C35]
theorem nI:EG X .LtE Z.oLe:=⟨_,US.or GH,λ x y dx dy d H Q h1 h2 e k=>by
 unfold Z.oLe at e;split at e
 .cases e;exact .inl ⟨_,_,h1.int,h2.int,k _ H (aG.refl H) dh⟩
 .cases e;refine .inr ⟨_,_,h1.str,h2.str,?_⟩;rename_i as bs;have q:=k (.bl<|!Z.HM bs as) H (aG.refl H) dh;rw[J6]at q;exact q
 .cases e⟩
def VG:Z.D->Bool
|.non=>Ch
|_=>AT
theorem JH{K:Db}(h:b_ K H d v):decide (v=.non)=VG d:=by
 cases d with
 |non=>rw[h.non];rfl
 |bl b=>rw[h.bl];rfl
 |int i=>rw[h.int];rfl
 |str cs=>rw[h.str];rfl
 |tup ds=>let⟨a,vs,rfl,_⟩:=h.tup;rfl
 |lst ds=>let⟨a,vs,rfl,_⟩:=h.lst;rfl
 |dct ks ds=>let⟨a,o,fT,rfl,_⟩:=h.dct;rfl
theorem NQ:∀σ H Q,tZ X.K (Z.eU Z.iW fa) σ H Q->Ms (λ x y H Q=>y=.non/\Q (.bl<|decide<|x=.non) H) (O6 X.K fa) (tC .non) σ H Q:=by rintro σ H Q ⟨ρ,d,r,e,k⟩;let⟨x,ea,e⟩:=WP e;refine⟨ρ,x,r,ea,λ v H1 s1 d1=>⟨rfl,?_⟩⟩;rw[JH d1];cases x<;>(cases e;exact k _ H1 s1 dh)
theorem JF:∀σ H Q,tZ X.K (Z.eU Z.l8 fa) σ H Q->Ms (λ x y H Q=>y=.non/\Q (.bl<|!decide (x=.non)) H) (O6 X.K fa) (tC .non) σ H Q:=by rintro σ H Q ⟨ρ,d,r,e,k⟩;let⟨x,ea,e⟩:=WP e;refine⟨ρ,x,r,ea,λ v H1 s1 d1=>⟨rfl,?_⟩⟩;rw[JH d1];cases x<;>(cases e;exact k _ H1 s1 dh)
theorem _root_.ZQ.o7(ha:ZQ.QW X a fa):ZQ.QT X (.Compare a [.Is] [.Constant .none j pos'] pos) (Z.tE<|Z.eU Z.iW fa):=⟨FQ (pN Jv ha.p y?<|gi _) NQ⟩
theorem _root_.ZQ.FT(ha:ZQ.QW X a fa):ZQ.QT X (.Compare a [.IsNot] [.Constant .none j pos'] pos) (Z.tE<|Z.eU Z.l8 fa):=⟨FQ (pN M0 ha.p y?<|gi _) JF⟩
theorem _root_.ZQ.i9(h:ZQ.QE X a fa):ZQ.QE X (.BoolOp op [a] pos) fa:=⟨Jl h.p⟩
theorem _root_.ZQ.mI{rest:γ ι}(ha:ZQ.QE X a fa)(hb:ZQ.QE X (.BoolOp .And (b::rest) pos) fb):ZQ.QE X (.BoolOp .And (a::b::rest) pos) (Z.o5 fa fb):=⟨PE.imp (Jq ha.p hb.p) <|by
 rintro σ H Q ⟨ρ,d,r,e,k⟩;let⟨x,ea,e⟩:=WP e;refine⟨ρ,x,r,ea,λ v H1 s1 d1=>?_⟩;split at e
 .rename_i q;simp only[Den]at d1;refine⟨q,d1,?_⟩;cases q with
  |true=>simp only[A23]at e ⊢;exact⟨ρ,d,r.up s1,e,λ w H' s2 dw=>k w H' (s1.trans s2) dw⟩
  |false=>simp only[A40]at e ⊢;cases e;exact k _ H1 s1 dh
 .cases e⟩
theorem _root_.ZQ.FW{rest:γ ι}(ha:ZQ.QE X a fa)(hb:ZQ.QE X (.BoolOp .Or (b::rest) pos) fb):ZQ.QE X (.BoolOp .Or (a::b::rest) pos) (Z.TM fa fb):=⟨PE.imp (Pb ha.p hb.p) <|by
 rintro σ H Q ⟨ρ,d,r,e,k⟩;let⟨x,ea,e⟩:=WP e;refine⟨ρ,x,r,ea,λ v H1 s1 d1=>?_⟩;split at e
 .rename_i q;simp only[Den]at d1;refine⟨q,d1,?_⟩;cases q with
  |false=>simp only[A40]at e ⊢;exact⟨ρ,d,r.up s1,e,λ w H' s2 dw=>k w H' (s1.trans s2) dw⟩
  |true=>simp only[A23]at e ⊢;cases e;exact k _ H1 s1 dh
 .cases e⟩
theorem _root_.ZQ.K_(ha:ZQ.QE X a fa):ZQ.QE X (.UnaryOp .Not a pos) (Z.K6 fa):=⟨PE.imp (QF ha.p) <|by
 rintro σ H Q ⟨ρ,d,r,e,k⟩;let⟨x,ea,e⟩:=WP e;refine⟨ρ,x,r,ea,λ v H1 s1 d1=>?_⟩;split at e
 .simp only[Den]at d1;cases e;exact⟨_,d1,k _ H1 s1 dh⟩
 .cases e⟩
theorem Qi:∀σ H Q,Ug X.K (Z.tE f) σ H Q->tB (tZ X.K f) σ H Q:=by
 rintro σ H Q ⟨ρ,b,r,e,q⟩;let⟨x,ea,e⟩:=WP e;refine⟨ρ,x,r,ea,λ v H' s d=>?_⟩;split at e
 .cases e;simp only[Den]at d;exact⟨_,d,q H' s⟩
 .cases e
theorem _root_.ZQ.iS(h:ZQ.QE X e f)(he:∀whole,isTrue e X.env whole=(do let v ←whole;standAt e.pos;holding [v] (truthy v)):=by intro _;rfl):ZQ.QT X e (Z.tE f):=⟨PT.imp (Jc h.p he) Qi⟩
theorem _root_.ZQ.cR(h:ZQ.QT X a t):ZQ.QT X (.UnaryOp .Not a pos) (Z.gJ t):=⟨PT.imp (Jd h.p) <|by rintro σ H Q ⟨ρ,b,r,e,q⟩;let⟨x,ea,e⟩:=WP e;cases e;exact⟨ρ,x,r,ea,λ H' s=>q H' s⟩⟩
theorem _root_.ZQ.Om(h:ZQ.QT X a t):ZQ.SW X (.BoolOp .And [a] pos) t:=⟨pw_and1 h.p⟩
theorem _root_.ZQ.kv(h:ZQ.QT X a t):ZQ.SW X (.BoolOp .Or [a] pos) t:=⟨pw_or1 h.p⟩
theorem _root_.ZQ.Sq{rest:γ ι}(ha:ZQ.QT X a t)(hb:ZQ.SW X (.BoolOp .And (b::rest) pos) u):ZQ.SW X (.BoolOp .And (a::b::rest) pos) (Z.IA t u):=⟨PW.imp (pw_and ha.p hb.p) <|by
 rintro σ H Q ⟨ρ,d,r,e,k⟩;let⟨x,ea,e⟩:=WP e;refine⟨ρ,x,r,ea,λ H1 s1=>?_⟩;cases x with
 |true=>simp only[A23]at e ⊢;exact⟨ρ,d,r.up s1,e,λ H' s2=>k H'<|s1.trans s2⟩
 |false=>simp only[A40]at e ⊢;cases e;exact k H1 s1⟩
theorem _root_.ZQ.n_{rest:γ ι}(ha:ZQ.QT X a t)(hb:ZQ.SW X (.BoolOp .Or (b::rest) pos) u):ZQ.SW X (.BoolOp .Or (a::b::rest) pos) (Z.AQ t u):=⟨PW.imp (pw_or ha.p hb.p) <|by
 rintro σ H Q ⟨ρ,d,r,e,k⟩;let⟨x,ea,e⟩:=WP e;refine⟨ρ,x,r,ea,λ H1 s1=>?_⟩;cases x with
 |false=>simp only[A40]at e ⊢;exact⟨ρ,d,r.up s1,e,λ H' s2=>k H'<|s1.trans s2⟩
 |true=>simp only[A23]at e ⊢;cases e;exact k H1 s1⟩
theorem _root_.ZQ.K8(h:ZQ.SW X e t):ZQ.QT X e t:=⟨h.p.pt⟩
theorem _root_.ZQ.B6(hc:ZQ.QT X c t)(ha:ZQ.QE X a fa)(hb:ZQ.QE X b fb):ZQ.QE X (.IfExp c a b pos) (Z.YD t fa fb):=⟨PE.imp (Jn hc.p ha.p hb.p) <|by
 rintro σ H Q ⟨ρ,d,r,e,k⟩;let⟨x,ea,e⟩:=WP e;refine⟨ρ,x,r,ea,λ H1 s1=>?_⟩;cases x with
 |true=>simp only[A23]at e ⊢;exact⟨ρ,d,r.up s1,e,λ w H' s2 dw=>k w H' (s1.trans s2) dw⟩
 |false=>simp only[A40]at e ⊢;exact⟨ρ,d,r.up s1,e,λ w H' s2 dw=>k w H' (s1.trans s2) dw⟩⟩
theorem _root_.ZQ.aj:ZQ.QA X [] Z.av:=⟨PA.imp cW <|by rintro σ H Q ⟨ρ,ds,r,e,k⟩;cases e;exact k [] H (aG.refl H) aI.nil⟩
theorem g_(ha:DE X e f)(hr:DA X es g)(hs:Se e es X.env:=by rfl):DA X (e::es) (Z.aa f g):=PA.imp (bL ha hr hs) <|by rintro σ H Q ⟨ρ,ds,r,e,k⟩;let⟨x,ea,e⟩:=WP e;let⟨xs,eb,e⟩:=WP e;cases e;exact⟨ρ,x,r,ea,λ v H1 s1 d1=>⟨ρ,xs,r.up s1,eb,λ vs H2 s2 d2=>k _ H2 (s1.trans s2)<|aI.cons (d1.up s2) d2⟩⟩
theorem _root_.ZQ.aV(h:ZQ.QA X es g):ZQ.QE X (.Tuple es x1 pos) (Z.br g):=⟨PE.imp (QC h.p) <|by
 rintro σ H Q ⟨ρ,d,r,e,k⟩;let⟨xs,ea,e⟩:=WP e;unfold Z.guard at e;split at e
 .rename_i hl;cases e;refine⟨ρ,xs,r,ea,λ vs H1 s1 d1=>⟨by rw[d1.length,A33];exact hl,λ q hq=>?_⟩⟩;have s2:aG H1 (upd H1 q<|.tup vs):=cI hq;exact k _ _ (s1.trans s2)<|gc (.inl<|.inl aP)<|d1.up s2
 .cases e⟩
theorem _root_.ZQ.a9(h:ZQ.QA X es g):ZQ.QL X (.List es pos) (Z.bI g):=⟨PE.imp (QH h.p) <|by
 rintro σ H Q ⟨ρ,d,r,e,k⟩;let⟨xs,ea,e⟩:=WP e;unfold Z.guard at e;split at e
 .rename_i hl;cases e;refine⟨ρ,_,r,ea,λ vs H1 s1 d1=>⟨by rw[d1.length,A33];exact hl,λ q hq=>?_⟩⟩;have s2:aG H1 (upd H1 q<|.lst vs):=cI hq;exact k q vs _ (s1.trans s2) (s1.free hq) aP<|d1.up s2
 .cases e⟩
end
end ZS
namespace ZS
open L2
def Ua:Z.Ty->String
|.bool=> "bool"|.int=> "int"|.str=> "str"|.tuple=> "tuple"|.list=> "list"|.dict=> "dict"
def tyD:Z.D->String
|.non=> "NoneType"|.bl _=> "bool"|.int _=> "int"|.str _=> "str"|.tup _=> "tuple"|.lst _=> "list"|.dct _ _=> "dict"
theorem NF(K:Db)(t:Z.Ty)(d:Z.D):EQ K (.type<|tyD d) (.type<|Ua t)=AC (Z.dX t d):=by cases t<;>cases d<;>kernel_rfl
theorem J_(t:Z.Ty)(I:Inv X χ σ H s)(hd:b_ X.K H d v)(r:RelV v u)
 (h:∀tk,Q (.bool<|Z.dX t d) {s with toks:=tk}):FM (model X.prog X.w) A (call (.builtin "isinstance") [u,.type (Ua t)]) Q E s:=by
 have e:=NF X.K t d;cases d with
 |non=>rw[hd.non]at r;cases (r);exact A89 PySem.W.kitx_none I.kB On e (λ z=>nomatch z) h
 |bl y=>rw[hd.bl]at r;cases (r);exact A89 PySem.W.kitx_bool I.kB On e (λ z=>nomatch z) h
 |int i=>rw[hd.int]at r;obtain⟨t',q⟩:=(r);cases q;exact A89 PySem.W.kitx_int I.kB On e (λ z=>nomatch z) h
 |str cs=>rw[hd.str]at r;obtain⟨t',q⟩:=(r);cases q;exact A89 PySem.W.kitx_str I.kB On e (λ z=>nomatch z) h
 |tup ds=>let⟨a,vs,rfl,hq,_⟩:=hd.tup;cases (r);let⟨bT,_,⟨o,h1,h2,_⟩,_⟩:=I.tuple hq;exact A89 PySem.W.kitx_tuple I.kB ⟨o,h1,h2⟩ e (λ z=>nomatch z) h
 |lst ds=>let⟨a,vs,rfl,hq,_⟩:=hd.lst;cases (r);let⟨bT,_,⟨o,n,h1,h2,_⟩,_⟩:=I.list hq;exact A89 PySem.W.kitx_list I.kB ⟨o,h1,h2⟩ e (λ z=>nomatch z) h
 |dct ks ds=>
  let⟨a,o,fT,rfl,hq,_⟩:=hd.dct;cases (r);obtain⟨_,_,_,_,_,o',es,ep,h1,h2,_⟩:=(I.cy a _ hq)
  exact A89 PySem.W.kitx_dict I.kB ⟨o',h1,h2.1⟩ e (λ z=>nomatch z) h
theorem _root_.ZQ.fJ(t:Z.Ty)(hg:Gl X x)(hm:X.mg x=At)(hv:bootBuiltins x=AC (.builtin "isinstance"))(hg2:Gl X y)(hm2:X.mg y=At)(Tu:bootBuiltins y=AC (.type<|Ua t))(ha:ZQ.QW X a fa)
 (hn:x≠ "__name__":=by decide +kernel) (gP:(x==("__debug__"))=AT:=by decide +kernel) (HR:y≠ "__name__":=by decide +kernel) (_R:(y==("__debug__"))=AT:=by decide +kernel)
 (he:starEach (a::[.Name y p2]) X.env=(AT,eval a X.env)::starEach [.Name y p2] X.env:=by rfl) (fA:(backTo pos<|starEach [.Name y p2] X.env).any (·.1)=AT:=by rfl) (LY:starEach ((.Name y p2)::[]) X.env=(AT,eval (.Name y p2) X.env)::starEach [] X.env:=by rfl) :
 ZQ.QE X (.Call (.Name x p1) [a,.Name y p2] [] pos) (Z.eU (Z.kL t) fa):=⟨by
 have hc:mQ X (.builtin "isinstance") (λ xs H Q=>∃v d,xs=[v,.ty (Ua t)]/\b_ X.K H d v/\Q (.bl<|Z.dX t d) H):=by intro χ s σ H xs us Q I r h;let⟨v,d,rfl,hd,q⟩:=h;let⟨u,w',rfl,r1,r2⟩:=vals2 r;cases (r2);exact J_ t I hd r1 λ tk=>⟨.bl _,H,I.tok _,rfl,q⟩
 refine PE.imp (jy hc hg hm hv (bL ha.p (bL (Fc (v:=.ty (Ua t)) hg2 hm2 Tu rfl HR _R) cW LY) he) hn gP he fA) ?_;rintro σ H Q ⟨ρ,d,r,e,k⟩;let⟨x,ea,e⟩:=WP e;cases e;exact⟨ρ,x,r,ea,λ v H1 s1 d1=>⟨v,x,rfl,d1,k _ H1 s1 dh⟩⟩⟩
theorem _root_.ZQ.bX{x:Str}(hm:X.mg x=At)(ha:ZQ.QW X a fa)(hn:x≠ "__name__":=by decide +kernel)(gP:(x == ("__debug__"))=AT:=by decide +kernel)(he:Se a [] X.env:=by rfl)(fA:Pn pos [] X.env:=by rfl)(hg:Gl X x:=by rfl)(hv:bootBuiltins x=AC (.builtin "len"):=by kernel_rfl):ZQ.QE X (.Call (.Name x p1) [a] [] pos) (Z.eU Z.cQ fa):=
 ⟨PE.imp (jy Lj hg hm hv (bL ha.p cW he) hn gP he fA) <|by
  rintro σ H Q ⟨ρ,d,r,e,k⟩;let⟨x,ea,e⟩:=WP e;refine⟨ρ,x,r,ea,λ v H1 s1 d1=>?_⟩;unfold Z.cQ at e;split at e
  .unfold Z.guard at e;split at e
   .rename_i cs hl;cases e;rw[d1.str];refine⟨_,_,rfl,⟨?_,?_⟩,k _ H1 s1 dP⟩
    .show cs.toArray.size<=sizeLine;rw[A33];simpa using hl
    .show cs.length=cs.toArray.size;simp
   .cases e
  .cases e;let⟨q,vs,rfl,hq,t⟩:=d1.tup;refine⟨_,_,rfl,.inr ⟨vs,hq,rfl⟩,?_⟩;rw[t.length];exact k _ H1 s1 dP
  .cases e;let⟨q,vs,rfl,hq,t⟩:=d1.lst;refine⟨_,_,rfl,.inl ⟨vs,hq,rfl⟩,?_⟩;rw[t.length];exact k _ H1 s1 dP
  .cases e⟩
theorem RG(n:Nat)(i:Int):Z.Ae n i=VD n i:=rfl
theorem atZ{K:Db}(t:aI K H ds vs)(h:((Z.Ae ds.length i).bind λ j=>ds[j]?)=AC d):∃v,SJ vs i=AC v/\Den K H d v:=by
 unfold SJ;rw[t.length,<-RG];cases q:Z.Ae _ i with
 |none=>rw[q]at h;cases h
 |some j=>rw[q]at h;exact t.get h
theorem _root_.ZQ.aR(ha:ZQ.QW X a fa)(hb:ZQ.QW X b fb)(hs:F! b:=by intro _ _;rfl):ZQ.QE X (.Subscript a b pos) (Z.eB Z.bb fa fb):=⟨PE.imp (UP RF ha.p hb.p hs) (two λ x y dx dy d H Q h1 h2 e k=>by
 unfold Z.bb at e;split at e
 .let⟨q,vs,rfl,hq,t⟩:=h1.tup;split at e
  .rename_i v hv;cases e;let⟨w,e1,dw⟩:=atZ t hv;exact .inr<|.inl ⟨q,vs,_,w,rfl,h2.int,hq,e1,k w H (aG.refl H) dw⟩
  .cases e
 .let⟨q,vs,rfl,hq,t⟩:=h1.lst;split at e
  .rename_i v hv;cases e;let⟨w,e1,dw⟩:=atZ t hv;exact .inl ⟨q,vs,_,w,rfl,h2.int,hq,e1,k w H (aG.refl H) dw⟩
  .cases e
 .unfold Z.guard at e;split at e
  .rename_i cs i hl;split at e
   .rename_i c hc;cases e;refine .inr<|.inr ⟨_,_,c,h1.str,h2.int,?_,?_,?_⟩
    .show cs.toArray.size<=sizeLine;rw[A33];simpa using hl
    .exact hc
    .exact k _ H (aG.refl H)<|lj
   .cases e
  .cases e
 .cases e)⟩
theorem _root_.ZQ.sV:ZQ.QP X At Z.y_:=⟨PO.imp MR <|by rintro σ H Q ⟨ρ,o,r,e,k⟩;cases e;exact k H<|aG.refl H⟩
theorem _root_.ZQ.og(h:ZQ.QW X e f):ZQ.QP X (AC e) (Z.u! f):=⟨PO.imp (MQ h.p) <|by
 rintro σ H Q ⟨ρ,o,r,e,k⟩;let⟨x,ea,e⟩:=WP e;refine⟨ρ,x,r,ea,λ v H1 s1 d1=>?_⟩;split at e
 .cases e;exact⟨_,d1.int,k H1 s1⟩
 .cases e⟩
theorem rf(n d:Nat)(o:ε Int):Z.eD n d o=HT.eD n d o:=by cases o<;>rfl
theorem Ej{K:Db}(t:aI K H ds vs)(lo hi:ε Int):aI K H (Z.cut ds lo hi) (xw vs lo hi):=by unfold Z.cut xw;rw[rf,rf,t.length];exact(t.drop _).take _
theorem Hq{lo hi:ε Int}(h1:HT.eD xs.length 0 lo=0)(h2:HT.eD xs.length xs.length hi=xs.length):Z.cut xs lo hi=xs:=by unfold Z.cut;rw[rf,rf,h1,h2];simp
def ZE(K:Db):V->ε Int->ε Int->Hp->VK->Prop:=λ x lo hi H Q=>∃a xs,x=.ref a/\nr K H a xs/\(xw xs lo hi=xs->Q (.ref a) H)/\∀p,H p=At->Q (.ref p) (upd H p<|.tup<|xw xs lo hi)
theorem nF{lo hi:ε Int}(ht:IsTup s.heap t items)(hs:s.heap.IsSliceOf sl vl vu .none)(pl:IsPart vl lo)(pu:IsPart vu hi)
 (hw:HT.eD items.size 0 lo=0/\HT.eD items.size items.size hi=items.size)
 (h:Q (.ref t) s):FM (model prog w) A (getItem (.ref t)<|.ref sl) Q E s:=by
 let⟨os,RU,FE,V!⟩:=id hs;have _4:s.TypeIs (.ref sl) "slice":=⟨os,RU,FE⟩
 unfold getItem
 try with_reducible refine A39 ?_
 first|refine T0<|M2 ?_|skip
 refine T0<|wpAny_sequenceKey ht.typeIs ∅ ?_;refine T0 (B00 (name:=Da "__getitem__") ht.typeIs B01
 <|B02 B01 ht.typeIs entry_tuple_getitem ?_<|args_tuple_getitem _ _)
 show FM _ _ (Tl (.ref t)>>=_) _ _ s;refine T0<|tupleItemsOf_ ht ?_;refine T0<|wpAny_typeOf _4 ?_;rw[f8 ∅];refine T0<|HT.kG hs pl pu ?_;have _i:(((HT.eD items.size 0 lo):Int)==0&&(1:Int)==1&&(HT.eD items.size items.size hi-HT.eD items.size 0 lo)==items.size)=Ch:=by rw[hw.1,hw.2];simp
 show FM _ _ (if(((HT.eD items.size 0 lo:Nat):Int)==0&&(1:Int)==1&&(HT.eD items.size items.size hi-HT.eD items.size 0 lo)==items.size)=Ch then _ else _) _ _ s;rw[f8 _i];refine T0 ?_;unfold Builtin.Tuple.tupleIsExact;refine T0<|wpAny_typeOf ht.typeIs ?_;refine M2 ?_;rw[f8<|A88 _];refine T0<|B23 ?_;exact M2 ⟨.ref t,rfl,M2 h⟩
theorem My:OQ X (ZE X.K):=by
 intro χ s σ H x v vl vu lo hi sl Q I rx hs pl pu h;let⟨a,xs,rfl,hx,q1,q2⟩:=h;by_cases hw:HT.eD xs.length 0 lo=0/\HT.eD xs.length xs.length hi=xs.length
 .cases rx;let⟨bT,r,ht,hz⟩:=I.tuple hx;have ψ:bT.toArray.size=xs.length:=by rw[A09];exact r.length.symm
  refine⟨"tuple",_,B01.lookup,ht.typeIs,?_⟩;refine nF ht hs pl pu (by rw[ψ];exact hw) ⟨.ref a,H,I,rfl,q1 ?_⟩;have:=Hq hw.1 hw.2;unfold Z.cut at this;rw[rf,rf]at this;exact this
 .exact Qo χ s σ H _ v vl vu lo hi sl Q I rx hs pl pu ⟨a,xs,rfl,hx,hw,q2⟩
def ZG:V->ε Int->ε Int->Hp->VK->Prop:=λ x lo hi H Q=>∃z,x=.str z/\z.length<=sizeLine/\Q (.str<|Txt.slice z lo hi) H
theorem Jr(h:IsPart v o):∃q,v=partValue q/\q.map (·.1)=o:=by
 cases h with
 |none=>exact⟨At,rfl,rfl⟩
 |int i t=>exact⟨AC (i,t),rfl,rfl⟩
theorem Mz:OQ X ZG:=by intro χ s σ H x v vl vu lo hi sl Q I rx hs pl pu h;let⟨z,rfl,hz,q⟩:=h;let⟨t,rfl⟩:=rx;let⟨ql,rfl,rfl⟩:=Jr pl;let⟨qu,rfl,rfl⟩:=Jr pu;refine⟨"str",_,F.slot_str_getitem.lookup,typeIs_str _ _ _,?_⟩;refine wpAny_getItem_str_slice (st:=At) hs rfl ?_;refine post_val_or_str ⟨A27 (Txt.slice_le z _ _) hz,λ t' k=>⟨.str _,H,I.tok _,⟨t',rfl⟩,q⟩⟩
theorem _root_.ZQ.jJ{lo hi:ε ι}(ha:ZQ.QW X a fa)(hl:ZQ.QP X lo gl)(hh:ZQ.QP X hi gh):ZQ.QE X (.Subscript a (.Slice lo hi At p2) pos) (Z.Ah fa gl gh):=
 ⟨have hl:=hl.p;PE.imp (Bb (Mz.or My) ha.p hl hh.p) <|by
  rintro σ H Q ⟨ρ,d,r,e,k⟩;let⟨x,ea,e⟩:=WP e;let⟨l,el,e⟩:=WP e;let⟨h,eh,e⟩:=WP e;refine⟨ρ,x,r,ea,λ v H1 s1 d1=>⟨ρ,l,r.up s1,el,λ H2 s2=>⟨ρ,h,(r.up s1).up s2,eh,λ H3 s3=>?_⟩⟩⟩;have LN:=(s1.trans s2).trans s3;have d3:=(d1.up s2).up s3;unfold Z.U0 at e;split at e
  .unfold Z.guard at e;split at e
   .rename_i cs _ _ hl;cases e;refine .inl ⟨_,d3.str,?_,?_⟩
    .show cs.toArray.size<=sizeLine;rw[A33];simpa using hl
    .rw[Uq];exact k _ H3 LN lj
   .cases e
  .cases e;let⟨q,vs,rfl,hq,t⟩:=d3.tup;refine .inr ⟨q,vs,rfl,hq,λ hw=>?_,λ z hz=>?_⟩
   .have:=Ej t l h;rw[hw]at this;exact k _ H3 LN<|gc hq this
   .have s4:aG H3 (upd H3 z<|.tup<|xw vs l h):=cI hz;exact k _ _ (LN.trans s4)<|gc (.inl<|.inl aP)<|(Ej t l h).up s4
  .cases e⟩
theorem _root_.ZQ.B3{lo hi:ε ι}(ha:ZQ.QW X a fa)(hl:ZQ.QP X lo gl)(hh:ZQ.QP X hi gh):ZQ.QL X (.Subscript a (.Slice lo hi At p2) pos) (Z.Ru fa gl gh):=
 ⟨PE.imp (Bb MB ha.p hl.p hh.p) <|by
  rintro σ H Q ⟨ρ,d,r,e,k⟩;let⟨x,ea,e⟩:=WP e;let⟨l,el,e⟩:=WP e;let⟨h,eh,e⟩:=WP e;refine⟨ρ,x,r,ea,λ v H1 s1 d1=>⟨ρ,l,r.up s1,el,λ H2 s2=>⟨ρ,h,(r.up s1).up s2,eh,λ H3 s3=>?_⟩⟩⟩;have LN:=(s1.trans s2).trans s3;have d3:=(d1.up s2).up s3;split at e
  .cases e;let⟨q,vs,rfl,hq,t⟩:=d3.lst;refine⟨q,vs,rfl,hq,λ z hz=>?_⟩;have s4:aG H3 (upd H3 z<|.lst<|xw vs l h):=cI hz;exact k z _ _ (LN.trans s4) (LN.free hz) aP<|(Ej t l h).up s4
  .cases e⟩
def UM(K:Db):R2:=λ x y H Q=>∃l b xs zs,x=.ref l/\y=.ref b/\ka K H l xs/\ka K H b zs/\xs.length+zs.length<=sizeLine/\∀p,H p=At->Q (.ref p) (upd H p<|.lst<|xs++zs)
theorem M6:kC X (binaryOp .Add) (UM X.K):=by
 intro χ s σ H x y v u Q I rx ry h;let⟨l,b,xs,zs,rfl,rfl,hH,hB,hz,q⟩:=h;cases rx;cases ry;let⟨bT,r,pl,_⟩:=I.list hH;let⟨iP,r2,pl2,_⟩:=I.list hB;have hl:=r.length;have NZ:=r2.length;let⟨⟨cls,dd,data,sl⟩,ho,hc,n,hd⟩:=id pl.isList;let⟨⟨WM,TN,data2,S!⟩,HQ,BL,n2,hd2⟩:=id pl2.isList;simp only at hc hd BL hd2;subst hc hd BL hd2;have ea:bT.toArray++iP.toArray=(bT++iP).toArray:=by simp
 refine B47 ⟨_,ho,rfl⟩ ⟨_,HQ,rfl⟩ noFill_list_add seq_list_add PySem.F.slot_list_add PySem.F.entry_list_add (PySem.F.args_list_add_2 _ _) (list_addW l b _ _ n n2 dd TN sl S! (by simp only[A09];lia)) ⟨ho,HQ,?_⟩;rw[ea];exact⟨.ref _,_,I.Z7 (r.append r2) (by rw[A55];lia),rfl,q _ I.fresh⟩
theorem _root_.ZQ.kx(ha:ZQ.QW X a fa)(hb:ZQ.QW X b fb):ZQ.QL X (.BinOp a .Add b pos) (Z.ny fa fb):=⟨PE.imp (Jk M6 ha.p hb.p) <|by
 rintro σ H Q ⟨ρ,d,r,e,k⟩;let⟨x,ea,e⟩:=WP e;let⟨y,eb,e⟩:=WP e;refine⟨ρ,x,r,ea,λ v H1 s1 d1=>⟨ρ,y,r.up s1,eb,λ u H2 s2 d2=>?_⟩⟩;have s12:=s1.trans s2;split at e
 .unfold Z.guard at e;split at e
  .rename_i xs ys hl;cases e;obtain⟨q,vs,rfl,hq,t⟩:=(d1.up s2).lst;let⟨q',Ab,rfl,gC,t'⟩:=d2.lst;refine⟨q,q',vs,Ab,rfl,rfl,hq,gC,by rw[t.length,t'.length,A33];exact hl,λ z hz=>?_⟩;have s3:aG H2 (upd H2 z<|.lst<|vs++Ab):=cI hz;exact k z _ _ (s12.trans s3) (s12.free hz) aP<|(t.append t').up s3
  .cases e
 .cases e⟩
def Ad(K:Db)(m:γ Z.D->Z.Res Z.D):Sp:=λ vs H Q _=>∃ds d,aI K H ds vs/\m ds=.ok d/\∀v H',aG H H'->Den K H' d v->Q v H'
theorem OA(F:ee X.prog X.w X.K X.mg X.base jd k g fd ps (Ad X.K m))(hr:bR k X.A)(hg:Gl X x)(hm:X.mg x=AC (.ref g))(hk:FS X.K (.ref g)=Ch)(hb:Binds X.K fd ps [])
 (ha:DA X (e::es) ar) (gP:(x==("__debug__"))=AT:=by decide +kernel) (he:Se e es X.env:=by rfl) (fA:Pn pos es X.env:=by rfl) :
 DE X (.Call (.Name x p1) (e::es) [] pos) (Z.aD m ar):=
 PE.imp (Fb F hr hg hm hk hb .nil xV ha gP he fA) <|by rintro σ H Q ⟨ρ,d,r,e,k⟩;let⟨ds,ea,e⟩:=WP e;refine⟨ρ,ds,r,ea,λ vs H1 s1 d1=>?_⟩;show Ad X.K m _ H1 Q E0;rw[A54];exact⟨ds,d,d1,e,λ v H' s2 dv=>k v H' (s1.trans s2) dv⟩
structure F_(K:Db)(J:It)(S:Hp->Prop)(ds:List Z.D):Prop where
 go:∀(i:Nat)(d:Z.D)(H1:Hp),S H1->ds[i]?=AC d->J.go i H1
 CB:∀(i:Nat)(d:Z.D)(H1 H2:Hp)(x:V),S H1->ds[i]?=AC d->J.CB i H1 x H2->aG H1 H2/\Den K H2 d x
 stop:∀(H1:Hp),S H1->J.stop ds.length H1
def tZi(K:Db)(f:Z.LF):TI:=λ σ H R=>∃ρ ds,RE K H σ ρ/\f ρ=.ok ds/\∀J H',aG H H'->F_ K J (aG H') ds->R J H'
def tZj(K:Db)(f:Z.LF):TI:=λ σ H R=>∃ρ ds,RE K H σ ρ/\f ρ=.ok ds/\∀J H',aG H H'->F_ K J (iM H') ds->R J H'
abbrev DI(X:Cx)(tg e:ι)(f:Z.LF):Prop:=PI X tg e<|tZi X.K f
structure _root_.ZQ.QI(X:Cx)(tg e:Expr)(f:Z.LF):Prop where p:DI X tg e f
abbrev DJ(X:Cx)(tg e:ι)(f:Z.LF):Prop:=PI X tg e<|tZj X.K f
structure _root_.ZQ.QJ(X:Cx)(tg e:Expr)(f:Z.LF):Prop where p:DJ X tg e f
section
variable{X:Cx}{tg e a b:ι}{es:γ ι}{pos p:Pos}{f fa fb:Z.EF}
theorem PI.imp(h:PI X tg e t)(k:∀σ H R,t' σ H R->t σ H R):PI X tg e t':=λ χ s σ H R I w=>h χ s σ H R I<|k σ H R w
theorem F_.imp{K:Db}(h:F_ K J S ds)(k:∀H,S' H->S H):F_ K J S' ds:=
 ⟨λ i d H1 s=>h.go i d H1<|k _ s,λ i d H1 H2 x s=>h.CB i d H1 H2 x<|k _ s,λ H1 s=>h.stop H1<|k _ s⟩
theorem _root_.ZQ.Eh(h:ZQ.QJ X tg e g):ZQ.QI X tg e g:=⟨PI.imp h.p <|by rintro σ H R ⟨ρ,ds,r,e,k⟩;exact⟨ρ,ds,r,e,λ J H' s z=>k J H' s<|z.imp λ _ q=>lN q⟩⟩
theorem NL{K:Db}(h:nr K H q vs)(t:aI K H ds vs):F_ K (Itt K q) (iM H) ds where
 go:=λ i d H1 s hi=>by let⟨v,h1,_⟩:=t.get hi;exact⟨vs,v,fR s h,h1⟩
 CB:=λ i d H1 H2 x s hi y=>by let⟨e,y⟩:=y;let⟨v,h1,h2⟩:=t.get hi;have:=y vs<|fR s h;rw[h1]at this;cases this;subst e;exact⟨aG.refl _,h2.ups s⟩
 stop:=λ H1 s=>⟨vs,fR s h,by rw[t.length];exact v6 _⟩
theorem NO{K:Db}(h:∀H1,S H1->ka K H1 q vs)(t:∀H1,S H1->aI K H1 ds vs)(t0:aI K H ds vs):F_ K (Itl K q) S ds where
 go:=λ i d H1 s hi=>by let⟨v,h1,_⟩:=t0.get hi;exact⟨vs,v,h H1 s,h1⟩
 CB:=λ i d H1 H2 x s hi y=>by let⟨e,y⟩:=y;obtain⟨v,h1,h2⟩:=(t H1 s).get hi;have:=y vs<|h H1 s;rw[h1]at this;cases this;subst e;exact⟨aG.refl _,h2⟩
 stop:=λ H1 s=>⟨vs,h H1 s,by rw[t0.length];exact v6 _⟩
theorem ints_get(lo:Int)(n i:Nat)(d:Z.D)(h:(Z.zints lo n)[i]?=AC d):i<n/\d=.int (lo+i):=by
 unfold Z.zints at h;rw[A08]at h;cases q:(FB n)[i]? with
 |none=>rw[q]at h;cases h
 |some j=>rw[q]at h;cases h;let⟨h1,h2⟩:=A04.mp q;rw[B04]at h1;rw[C04]at h2;subst h2;exact⟨h1,rfl⟩
theorem Fw{K:Db}(lo:Int)(n:Nat):F_ K (PY lo n) S (Z.zints lo n) where
 go:=λ i d H1 s hi=>(ints_get lo n i d hi).1
 CB:=λ i d H1 H2 x s hi y=>by let⟨e,y⟩:=y;let⟨_,rfl⟩:=ints_get lo n i d hi;subst e;rw[y];exact⟨aG.refl _,dP⟩
 stop:=λ H1 s=>by unfold Z.zints;rw[A17,B04];exact v6 _
theorem Gs{K:Db}(it:δ)(lo:Int)(n:Nat):Turn P w K tg (PY lo n) [it] it (λ i h=>IsLongIter h it (lo+(i)*1) ((n)-(i)) 1) where
 mem:=by simp
 obj:=λ i h st b hb=>by
  have e:b=it:=by simpa using hb
  subst e;exact⟨_,st,λ v z=>by have z':=z;cases z'⟩
 keep:=λ i h h' st k=>k it ∅ _ st
 item:=by intro X hP hw hK hc i χ s σ H E I hf st hg;subst hP hw hK;let⟨f0,f1,f2,f3,f4,f5⟩:=hf it ∅;have W:=Walks.longrange (prog:=X.prog) (w:=X.w) (I.ok.hd hc) it lo 1 n;refine W.item i s _ _ hg st λ v h' tk hv AY kk=>?_;let⟨t,rfl⟩:=hv;have I1:Inv X χ σ H {s with heap:=h',toks:=tk}:=I.turned (λ b o hb e=>kk b o (by simpa using hb) e) f0 f1 f3 f4 f5;refine⟨_,rfl,BO AY rfl rfl ∅ ⟨.int _,H,I1,⟨t,?_⟩,⟨rfl,rfl⟩,AY,λ b hb=>(hf b hb).1⟩⟩;rw[B45]
 done:=by intro X hP hw hK hc i χ s σ H E I hf st hg;subst hP hw hK;let⟨f0,f1,f2,f3,f4,f5⟩:=hf it ∅;exact wpAny_pyNext_long_end (I.ok.hd hc) st (by have:n<=i:=hg;lia) λ h' eb=>⟨rfl,I.turned (λ b o hb e=>eb b o hb e) f0 f1 f3 f4 f5⟩
 self:=λ _ _ _ _ _ st h=>wpAny_pyIter_longiter st h
theorem range_any{lo hi:Int}{t u v:Tok}{tk:Nat}(I:Inv X χ σ H s)
 (q:R (PY lo (hi-lo).toNat) H):FM (model X.prog X.w) X.A (pyIter<|.ref s.heap.objs.size) (YS X χ σ tg R) E {s with heap:=s.heap.push {cls:=.type "range",data:=.fields #[.int lo t,.int hi u,.int 1 v]},toks:=tk}:=by
 have I1:Inv X χ σ H {s with heap:=s.heap.push {cls:=.type "range",data:=.fields #[.int lo t,.int hi u,.int 1 v]},toks:=tk}:=I.kept λ b o e=>A02 _ e;have e1:lo+((0:Nat):Int)*1=lo:=by simp
 have e2:(((hi-lo).toNat:Nat):Int)-((0:Nat):Int)=Builtin.Range.rangeSize lo hi 1:=by rw[rangeSize_one];split<;>lia
 cases hs:Builtin.Range.small lo hi 1 with
 |true=>
  refine wpAny_pyIter_range (IsRange.new ..) hs ?_;refine⟨(s.heap.push {cls:=.type "range",data:=.fields #[.int lo t,.int hi u,.int 1 v]}).objs.size,[(s.heap.push {cls:=.type "range",data:=.fields #[.int lo t,.int hi u,.int 1 v]}).objs.size],_,_,H,rfl,
   I1.kept (t':=tk) λ b o e=>A02 _ e,CV _ lo (hi-lo).toNat,?_,λ b hb=>?_,q⟩
  .show IsRangeIter _ _ (lo+((0:Nat):Int)*1) ((((hi-lo).toNat:Nat):Int)-((0:Nat):Int)) 1;rw[e1,e2];exact A16 _ rfl
  .have e:b=(s.heap.push {cls:=.type "range",data:=.fields #[.int lo t,.int hi u,.int 1 v]}).objs.size:=by simpa using hb
   subst e;exact I1.xp (v6 _)<|I1.cy.fresh<|v6 _
 |false=>
  refine wpAny_pyIter_longrange (IsRange.new ..) hs ?_;refine⟨(s.heap.push {cls:=.type "range",data:=.fields #[.int lo t,.int hi u,.int 1 v]}).objs.size,[(s.heap.push {cls:=.type "range",data:=.fields #[.int lo t,.int hi u,.int 1 v]}).objs.size],_,_,H,rfl,
   I1.kept (t':=tk) λ b o e=>A02 _ e,Gs _ lo (hi-lo).toNat,?_,λ b hb=>?_,q⟩
  .show IsLongIter _ _ (lo+((0:Nat):Int)*1) ((((hi-lo).toNat:Nat):Int)-((0:Nat):Int)) 1;rw[e1,e2];exact A16 _ rfl
  .have e:b=(s.heap.push {cls:=.type "range",data:=.fields #[.int lo t,.int hi u,.int 1 v]}).objs.size:=by simpa using hb
   subst e;exact I1.xp (v6 _)<|I1.cy.fresh<|v6 _
def W6(ta:TA):TI:=λ σ H R=>ta σ H λ vs H1=>∃j:Int,vs=[.int j]/\R (PY 0 j.toNat) H1
def W5(ta:TA):TI:=λ σ H R=>ta σ H λ vs H1=>∃i j:Int,vs=[.int i,.int j]/\R (PY i (j-i).toNat) H1
theorem MV(hg:Gl X "range")(hm:X.mg "range"=At)(ha:PA X [a] ta)(hs:starEach [a] X.env=[(AT,eval a X.env)]:=by rfl):PI X tg (.Call (.Name "range" p) [a] [] pos) (W6 ta):=by
 intro χ s σ H R I h;refine Call_<|k! I hg hm boot_range<|B21 (da (ha pos χ s σ H _ I h) ?_) hs rfl;rintro us s1 ⟨vs,H1,I1,r1,q1⟩;let⟨j,e,q⟩:=q1;subst e;cases r1 with
 |cons r rr=>cases rr;let⟨t,rfl⟩:=r;exact call_range_1<|range_any I1 (by simpa using q)
theorem MU(hg:Gl X "range")(hm:X.mg "range"=At)(ha:PA X [a,b] ta)(hs:starEach [a,b] X.env=[(AT,eval a X.env),(AT,eval b X.env)]:=by rfl)(zF:starEach [b] X.env=[(AT,eval b X.env)]:=by rfl):
 PI X tg (.Call (.Name "range" p) [a,b] [] pos) (W5 ta):=by
 intro χ s σ H R I h;refine Call_<|k! I hg hm boot_range<|B21 (da (ha pos χ s σ H _ I h) ?_) (by rw[hs,zF]) (by rw[zF];rfl);rintro us s1 ⟨vs,H1,I1,r1,q1⟩;let⟨i,j,e,q⟩:=q1;subst e;cases r1 with
 |cons r rr=>
  cases rr with
  |cons r' rr=>cases rr;let⟨t,rfl⟩:=r;let⟨t',rfl⟩:=r';exact call_range_2<|range_any I1 q
theorem _root_.ZQ.eI(hm:X.mg "range"=At)(ha:ZQ.QE X a fa)(hs:starEach [a] X.env=[(AT,eval a X.env)]:=by rfl)(wJ:Se a [] X.env:=by rfl)(hg:Gl X "range":=by rfl):ZQ.QJ X tg (.Call (.Name "range" p) [a] [] pos) (Z.iR fa):=
 ⟨PI.imp (MV hg hm (bL ha.p cW wJ) hs) <|by
  rintro σ H R ⟨ρ,ds,r,e,k⟩;let⟨x,ea,e⟩:=WP e;refine⟨ρ,x,r,ea,λ v H1 s1 d1=>?_⟩;split at e
  .rename_i j;cases e;simp only[Den]at d1;exact⟨j,by rw[d1],k _ H1 s1<|Fw 0 _⟩
  .cases e⟩
theorem _root_.ZQ.v?(hm:X.mg "range"=At)(ha:ZQ.QE X a fa)(hb:ZQ.QE X b fb)(hs:starEach [a,b] X.env=[(AT,eval a X.env),(AT,eval b X.env)]:=by rfl)(zF:starEach [b] X.env=[(AT,eval b X.env)]:=by rfl)(h1:Se a [b] X.env:=by rfl)(h2:Se b [] X.env:=by rfl)(hg:Gl X "range":=by rfl):ZQ.QJ X tg (.Call (.Name "range" p) [a,b] [] pos) (Z.yd fa fb):=
 ⟨PI.imp (MU hg hm (bL ha.p (bL hb.p cW h2) h1) hs zF) <|by
  rintro σ H R ⟨ρ,ds,r,e,k⟩;let⟨x,ea,e⟩:=WP e;let⟨y,eb,e⟩:=WP e;obtain⟨i,j,rfl,rfl,rfl⟩:∃i j,x=.int i/\y=.int j/\ds=Z.zints i (j-i).toNat:=by
   split at e
   .cases e;exact⟨_,_,rfl,rfl,rfl⟩
   .cases e
  refine⟨ρ,_,r,ea,λ v H1 s1 d1=>⟨ρ,_,r.up s1,eb,λ u H2 s2 d2=>?_⟩⟩;simp only[Den]at d1 d2;exact⟨i,j,by rw[d1,d2],k _ H2 (s1.trans s2)<|Fw i (j-i).toNat⟩⟩
def Its(z:Str):It:=⟨λ i _=>i<z.cps.size,λ i H x H'=>H'=H/\∃c,z.cps[i]?=AC c/\x=.str ⟨#[c]⟩,λ i _=>i=z.cps.size⟩
theorem Im{K:Db}(z:Str)(it:δ)(n:String)(hn:["enumerate","zip","dict_itemiterator","dict_reverseitemiterator","odict_iterator","itertools.zip_longest","itertools.pairwise"].contains n=AT)(t:Tok)
 (W:∀A,A.handled=At->Walks P w A it [it] [it] z.cps.size (SignAt z) (λ i h=>h.IsStrIter it n z t i)) (self:∀A i s Q E,s.heap.IsStrIter it n z t i->Q (.ref it) s->FM (model P w) A (pyIter<|.ref it) Q E s) :
 Turn P w K tg (Its z) [it] it (λ i h=>h.IsStrIter it n z t i) where
 mem:=by simp
 obj:=λ i h st b hb=>by
  have e:b=it:=by simpa using hb
  subst e;let⟨o,e,c,d⟩:=st;exact⟨o,e,λ v z=>by rw[d]at z;cases z⟩
 keep:=λ i h h' st k=>by let⟨o,e,c,d⟩:=st;exact⟨o,k it ∅ o e,c,d⟩
 item:=by intro X hP hw hK hc i χ s σ H E I hf st hg;subst hP hw hK;let⟨f0,f1,f2,f3,f4,f5⟩:=hf it ∅;refine(W X.A<|I.ok.hd hc).item i s _ _ hg st λ v h' tk hv AY kk=>?_;let⟨c,u,Yr,rfl⟩:=hv;have I1:Inv X χ σ H {s with heap:=h',toks:=tk}:=I.turned (λ b o hb e=>kk b o (by simpa using hb) e) f0 f1 f3 f4 f5;let⟨o,e,c',d⟩:=id AY;exact⟨_,rfl,BO e c' d hn ⟨.str ⟨#[c]⟩,H,I1,⟨u,rfl⟩,⟨rfl,c,Yr,rfl⟩,AY,λ b hb=>(hf b hb).1⟩⟩
 done:=by intro X hP hw hK hc i χ s σ H E I hf st hg;subst hP hw hK;let⟨f0,f1,f2,f3,f4,f5⟩:=hf it ∅;have hg':=hg;subst hg';exact(W X.A<|I.ok.hd hc).done s _ _ st λ h' tk kk=>⟨rfl,I.turned (λ b o hb e=>kk b o (by simpa using hb) e) f0 f1 f3 f4 f5⟩
 self:=self
theorem NM{K:Db}(cs:γ Nat):F_ K (Its ⟨cs.toArray⟩) S (cs.map λ c=>.str [c]) where
 go:=λ i d H1 s hi=>by show i<cs.toArray.size;let⟨h1,_⟩:=A04.mp hi;simpa using h1
 CB:=λ i d H1 H2 x s hi y=>by
  let⟨e,c,hc,rfl⟩:=y;have Ag:cs[i]?=AC c:=by simpa using hc
  rw[A08,Ag]at hi;cases hi;subst e;exact⟨aG.refl _,lj ⟩
 stop:=λ H1 s=>by show(cs.map λ c=>Z.D.str [c]).length=cs.toArray.size;simp
theorem IP(I:Inv X χ σ H s)(rv:RelV v u)(hd:b_ X.K H d v)(hi:Z.mh d=.ok ds)
 (hS:∀H1,S H1->iM H H1) (hL:∀es q vs,d=.lst es->v=.ref q->ka X.K H q vs->∀H1,S H1->ka X.K H1 q vs)
 (k:∀J,F_ X.K J S ds->R J H):FM (model X.prog X.w) X.A (pyIter u) (YS X χ σ tg R) E s:=by
 unfold Z.mh at hi;split at hi
 .cases hi;let⟨q,vs,rfl,hq,t⟩:=hd.tup;cases rv;let⟨bT,r',pl,hz⟩:=I.tuple hq;refine B06 (pl) ?_;refine⟨s.heap.objs.size,[s.heap.objs.size],_,_,H,rfl,I.kept λ b o e=>A02 _ e,CU q _,⟨_,A16 _ rfl,rfl,rfl⟩,λ b hb=>?_,k _<|(NL hq t).imp hS⟩;have e:b=s.heap.objs.size:=by simpa using hb
  subst e;exact I.xp (v6 _)<|I.cy.fresh<|v6 _
 .cases hi;let⟨q,vs,rfl,hq,t⟩:=hd.lst;cases rv;let⟨bT,r',pl,hz⟩:=I.list hq;refine B07 pl.isList ?_;refine⟨s.heap.objs.size,[s.heap.objs.size],_,_,H,rfl,I.kept λ b o e=>A02 _ e,Gu q _,⟨_,A16 _ rfl,rfl,rfl⟩,λ b hb=>?_,
   k _<|NO (λ H1 s1=>hL _ q vs rfl rfl hq H1 s1) (λ H1 s1=>t.ups<|hS H1 s1) t⟩
  have e:b=s.heap.objs.size:=by simpa using hb
  subst e;exact I.xp (v6 _)<|I.cy.fresh<|v6 _
 .cases hi;rename_i cs;rw[hd.str]at rv;let⟨t,rfl⟩:=rv;have fin:∀n (hn:["enumerate","zip","dict_itemiterator","dict_reverseitemiterator","odict_iterator","itertools.zip_longest","itertools.pairwise"].contains n=AT)
   (W:∀A,A.handled=At->Walks X.prog X.w A s.heap.objs.size [s.heap.objs.size] [s.heap.objs.size] (⟨cs.toArray⟩:Str).cps.size (SignAt ⟨cs.toArray⟩) (λ i h=>h.IsStrIter s.heap.objs.size n ⟨cs.toArray⟩ t i))
   (self:∀A i s' Q E,s'.heap.IsStrIter s.heap.objs.size n ⟨cs.toArray⟩ t i->Q (.ref s.heap.objs.size) s'->FM (model X.prog X.w) A (pyIter<|.ref s.heap.objs.size) Q E s'),
   YS X χ σ tg R (.ref s.heap.objs.size) {s with heap:=s.heap.push {cls:=.type n,data:=.fields #[.str ⟨cs.toArray⟩ t,.int 0 0]}}:=by
   intro n hn W self;refine⟨s.heap.objs.size,[s.heap.objs.size],_,_,H,rfl,I.kept λ b o e=>A02 _ e,Im ⟨cs.toArray⟩ _ n hn t W self,⟨_,A16 _ rfl,rfl,rfl⟩,λ b hb=>?_,k _<|NM cs⟩;have e:b=s.heap.objs.size:=by simpa using hb
   subst e;exact I.xp (v6 _)<|I.cy.fresh<|v6 _
  cases ha:(⟨cs.toArray⟩:Str).cps.all (· < 128)
  .exact wpAny_pyIter_wide ha<|fin "str_iterator" ∅ (λ A' hA=>Walks.strWide hA _ _ t) λ _ _ _ _ _ st hQ=>wpAny_pyIter_striter_wide st hQ
  .exact wpAny_pyIter_ascii ha<|fin "str_ascii_iterator" ∅ (λ A' hA=>Walks.strAscii hA _ _ t) λ _ _ _ _ _ st hQ=>wpAny_pyIter_striter_ascii st hQ
 .cases hi
theorem _root_.ZQ.d_(ha:ZQ.QW X a fa):ZQ.QI X tg a (Z.iQ fa):=⟨by intro χ s σ H R I w;let⟨ρ,ds,r,e,k⟩:=w;let⟨d,ea,e⟩:=WP e;refine da (ha.p χ s σ H (λ v H1=>aG H H1/\b_ X.K H1 d v) I ⟨ρ,d,r,ea,λ v H1 s1 d1=>⟨s1,d1⟩⟩) ?_;rintro u s1 ⟨v,H1,I1,rv,sm,hd⟩;exact IP I1 rv hd e (λ _ q=>lN q) (λ _ _ _ _ _ hq H2 s2=>s2.seq hq) λ J z=>k J H1 sm z⟩
theorem _root_.ZQ.K9(ha:ZQ.QE X a fa):ZQ.QJ X tg a (Z.iQ fa):=⟨by intro χ s σ H R I w;let⟨ρ,ds,r,e,k⟩:=w;let⟨d,ea,e⟩:=WP e;refine da (ha.p χ s σ H (λ v H1=>aG H H1/\Den X.K H1 d v) I ⟨ρ,d,r,ea,λ v H1 s1 d1=>⟨s1,d1⟩⟩) ?_;rintro u s1 ⟨v,H1,I1,rv,sm,hd⟩;refine IP I1 rv (.inl hd) e (λ _ q=>q) (λ es q vs e1 e2 hq H2 s2=>?_) λ J z=>k J H1 sm z;subst e1;simp only[Den]at hd;let⟨q',Ab,e3,hz,_⟩:=hd;rw[e2]at e3;cases e3;rw[I1.pZ hq hz.sq];exact(hz.mono s2).sq⟩
def jc(H0:Hp)(σ:St)(ρ:Z.Env):Prop:=(∀(i j:Nat)(ks ls:Z.DK)(a:δ),ρ[i]?=AC (AC<|.dc ks)->ρ[j]?=AC (AC<|.dc ls)->σ[i]?=AC (AC<|.ref a)->σ[j]?=AC (AC<|.ref a)->i=j) /\
 ∀(i:Nat)(ks:Z.DK)(q:δ),ρ[i]?=AC (AC<|.dc ks)->σ[i]?=AC (AC<|.ref q)->H0 q=At
theorem jc.non(h:∀(i:Nat)(ks:Z.DK),ρ[i]?≠AC (AC<|.dc ks)):jc H0 σ ρ:=⟨λ i _ ks _ _ e=>absurd e<|h i ks,λ i ks _ e=>absurd e<|h i ks⟩
structure RS(K:Db)(H0 H:Hp)(σ:St)(ρ:Z.Env):Prop where
 same:aG H0 H
 re:RE K H σ ρ
 fresh:∀(i:Nat)(xs:List Z.D)(q:Addr),ρ[i]?=AC (AC<|.own xs)->σ[i]?=AC (AC<|.ref q)->H0 q=At
 nJ:∀(i:Nat)(d:Z.D),ρ[i]?=AC (AC<|.bor d)->∃v,σ[i]?=AC (AC v)/\Gb K H0 d v
 yj:jc H0 σ ρ
def YA(K:Db)(H0 H:Hp)(D:Ends):Z.Fl->Prop
|.nx ρ'=>∀σ' H',iM H H'->RS K H0 H' σ' ρ'->D.nx σ' H'
|.rt d=>∀v H',aG H0 H'->Den K H' d v->D.rt v H'
|.bk ρ'=>∀σ' H',iM H H'->RS K H0 H' σ' ρ'->D.bk σ' H'
|.ct ρ'=>∀σ' H',iM H H'->RS K H0 H' σ' ρ'->D.ct σ' H'
def tS(K:Db)(H0:Hp)(g:Z.SF):TS:=λ D σ H=>∃ρ fl,RS K H0 H σ ρ/\g ρ=.ok fl/\YA K H0 H D fl
abbrev DS(X:Cx)(H0:Hp)(st:θ)(g:Z.SF):Prop:=PS X st<|tS X.K H0 g
structure _root_.ZQ.QS(X:Cx)(H0:Hp)(st:Stmt)(g:Z.SF):Prop where p:DS X H0 st g
abbrev L!(X:Cx)(H0:Hp)(st:γ θ)(g:Z.SF):Prop:=s? X st<|tS X.K H0 g
structure _root_.ZQ.Cq(X:Cx)(H0:Hp)(st:List Stmt)(g:Z.SF):Prop where p:L! X H0 st g
theorem PS.imp{st:θ}(h:PS X st t)(k:∀D σ H,t' D σ H->t D σ H):PS X st t':=λ χ s σ H D I w=>h χ s σ H D I<|k D σ H w
theorem s?.imp{st:γ θ}(h:s? X st t)(k:∀D σ H,t' D σ H->t D σ H):s? X st t':=λ χ s σ H D I w=>h χ s σ H D I<|k D σ H w
theorem RS.up{K:Db}(h:RS K H0 H σ ρ)(e:aG H H'):RS K H0 H' σ ρ:=⟨h.same.trans e,h.re.up e,h.fresh,h.nJ,h.yj⟩
theorem YA.up{K:Db}(h:YA K H0 H D fl)(e:iM H H1):YA K H0 H1 D fl:=by
 cases fl with
 |nx ρ'=>exact λ σ' H' s r=>h σ' H' (e.trans s) r
 |rt d=>exact h
 |bk ρ'=>exact λ σ' H' s r=>h σ' H' (e.trans s) r
 |ct ρ'=>exact λ σ' H' s r=>h σ' H' (e.trans s) r
theorem aK{α:Type}{l:γ _}{x:ε α}{y:α}(h:(l.set i x)[j]?=AC (AC y)):(i=j/\i<l.length/\x=AC y)\/(i≠j/\l[j]?=AC (AC y)):=by
 by_cases oY:i=j
 .subst oY;by_cases hl:i<l.length
  .rw[A41 hl]at h;exact .inl ⟨rfl,hl,A06 h⟩
  .rw[B24 (by simpa using hl)]at h;cases h
 .rw[A28 oY]at h;exact .inr ⟨oY,h⟩
theorem jc.set(h:jc H0 σ ρ)(n:∀ks,l≠.dc ks):jc H0 (σ.set i<|some v) (ρ.set i<|some l):=by
 have get:∀(j:Nat) ks,(ρ.set i _)[j]?=AC _->ρ[j]?=AC _/\(σ.set i<|some v)[j]?=σ[j]?:=λ j ks e=>by
  rcases aK e with⟨_,_,e⟩|⟨hj,e⟩
  .exact absurd (A06 e)<|n ks
  .exact⟨e,A28 hj⟩
 exact⟨λ j k ks ls a e1 e2 e3 e4=>h.1 j k ks ls a (get j ks e1).1 (get k ls e2).1 (by rw[<-(get j ks e1).2];exact e3) (by rw[<-(get k ls e2).2];exact e4),λ j ks q e1 e2=>h.2 j ks q (get j ks e1).1 (by rw[<-(get j ks e1).2];exact e2)⟩
theorem jc.Ut(h:jc H0 σ ρ)(n:∀ks,l≠.dc ks):jc H0 σ (ρ.set i<|some l):=by
 have get:∀(j:Nat) ks,(ρ.set i _)[j]?=AC _->ρ[j]?=AC _:=λ j ks e=>by
  rcases aK e with⟨_,_,e⟩|⟨hj,e⟩
  .exact absurd (A06 e)<|n ks
  .exact e
 exact⟨λ j k ks ls a e1 e2 e3 e4=>h.1 j k ks ls a (get j ks e1) (get k ls e2) e3 e4,λ j ks q e1 e2=>h.2 j ks q (get j ks e1) e2⟩
theorem RS.MI{K:Fk}(h:RS K H0 H σ ρ)(hd:Den K H d v):RS K H0 H (σ.set i<|some v) (ρ.set i<|some<|.val d):=by
 have getσ:∀j,i≠j->(σ.set i<|some v)[j]?=σ[j]?:=λ j hj=>A28 hj;refine⟨h.same,⟨by simp[h.re.len],λ j l e=>?_,λ j k xs ys q e1 e2 e3 e4=>?_⟩,λ j xs q e1 e2=>?_,λ j xs e1=>?_,h.yj.set λ _ z=>nomatch z⟩
 .rcases aK e with⟨rfl,hl,e⟩|⟨hj,e⟩
  .cases e;exact⟨v,A41 (by rw[<-h.re.len];exact hl),hd⟩
  .rw[getσ j hj];exact h.re.get j l e
 .rcases aK e1 with⟨_,_,e⟩|⟨hj,e1⟩
  .cases e
  .rcases aK e2 with⟨_,_,e⟩|⟨hk,e2⟩
   .cases e
   .rw[getσ j hj]at e3;rw[getσ k hk]at e4;exact h.re.sep j k xs ys q e1 e2 e3 e4
 .rcases aK e1 with⟨_,_,e⟩|⟨hj,e1⟩
  .cases e
  .rw[getσ j hj]at e2;exact h.fresh j xs q e1 e2
 .rcases aK e1 with⟨_,_,e⟩|⟨hj,e1⟩
  .cases e
  .rw[getσ j hj];exact h.nJ j xs e1
theorem RS.IM{K:Fk}(h:RS K H0 H σ ρ)(hq:H q=AC (.lst vs))(t:aI K H ds vs)(h0:H0 q=At)
 (nq:∀j xs,j≠i->ρ[j]?=AC (AC<|.own xs)->σ[j]?≠AC (AC<|.ref q)):RS K H0 H (σ.set i<|some<|.ref q) (ρ.set i<|some<|.own ds):=by
 have getσ:∀j,i≠j->(σ.set i<|some<|V.ref q)[j]?=σ[j]?:=λ j hj=>A28 hj;refine⟨h.same,⟨by simp[h.re.len],λ j l e=>?_,λ j k xs ys p e1 e2 e3 e4=>?_⟩,λ j xs p e1 e2=>?_,λ j xs e1=>?_,h.yj.set λ _ z=>nomatch z⟩
 .rcases aK e with⟨rfl,hl,e⟩|⟨hj,e⟩
  .cases e;exact⟨_,A41 (by rw[<-h.re.len];exact hl),q,vs,rfl,hq,t⟩
  .rw[getσ j hj];exact h.re.get j l e
 .rcases aK e1 with⟨rfl,hl,_⟩|⟨hj,e1⟩
  .rcases aK e2 with⟨rfl,_,_⟩|⟨hk,e2⟩
   .rfl
   .rw[A41 (by rw[<-h.re.len];exact hl)]at e3;cases e3;rw[getσ k hk]at e4;exact absurd e4<|nq k ys (A07 hk) e2
  .rcases aK e2 with⟨rfl,hl,_⟩|⟨hk,e2⟩
   .rw[A41 (by rw[<-h.re.len];exact hl)]at e4;cases e4;rw[getσ j hj]at e3;exact absurd e3<|nq j xs (A07 hj) e1
   .rw[getσ j hj]at e3;rw[getσ k hk]at e4;exact h.re.sep j k xs ys p e1 e2 e3 e4
 .rcases aK e1 with⟨rfl,hl,_⟩|⟨hj,e1⟩
  .rw[A41 (by rw[<-h.re.len];exact hl)]at e2;cases e2;exact h0
  .rw[getσ j hj]at e2;exact h.fresh j xs p e1 e2
 .rcases aK e1 with⟨_,_,e⟩|⟨hj,e1⟩
  .cases e
  .rw[getσ j hj];exact h.nJ j xs e1
theorem RS.chg{K:Fk}(h:RS K H0 H σ ρ)(ei:ρ[i]?=AC (AC<|.own xs))(si:σ[i]?=AC (AC<|.ref q))(hq:H q=AC (.lst us))(t:aI K H ds vs):
 RS K H0 (upd H q<|.lst vs) σ (ρ.set i<|some<|.own ds):=by
 have st:iM H (upd H q<|.lst vs):=jZ hq;have h0:=h.fresh i xs q ei si;have hs:aG H0 (upd H q<|.lst vs):=λ b u e=>by rw[aE<|bt e h0];exact h.same b u e
 refine⟨hs,⟨by simp[h.re.len],λ j l e=>?_,λ j k lL ys p e1 e2 e3 e4=>?_⟩,λ j lL p e1 e2=>?_,λ j lL e1=>?_,h.yj.Ut λ _ z=>nomatch z⟩
 .rcases aK e with⟨rfl,hl,e⟩|⟨hj,e⟩
  .cases e;exact⟨.ref q,si,q,vs,rfl,aP,t.ups st⟩
  .let⟨v,e1,r⟩:=h.re.get j l e;refine⟨v,e1,?_⟩;cases l with
   |val d=>exact Den.ups (r) st
   |own zs=>
    let⟨q',ws,rfl,gC,t'⟩:=r;have:q'≠q:=by rintro rfl;exact hj<|h.re.sep i j xs zs q' ei e si e1
    exact⟨q',ws,rfl,by rw[aE this];exact gC,t'.ups st⟩
   |bor zs=>let⟨v',e2,r2⟩:=h.nJ j zs e;rw[e1]at e2;cases e2;exact r2.re r h.same hs st
   |dc ks=>
    let⟨q',as,rfl,gC,t'⟩:=r;have:q'≠q:=by rintro rfl;rw[hq]at gC;exact FY (A06 gC).symm
    exact⟨q',as,rfl,by rw[aE this];exact gC,t'.ups st⟩
   |Hf ks=>let⟨q',o',as,rfl,gC,t'⟩:=r;exact⟨q',o',as,rfl,st.eH _ _ _ gC,t'.ups st⟩
   |RJ ps=>let⟨q',o',rfl,gC⟩:=r;exact⟨q',o',rfl,st.eH _ _ _ gC⟩
   |exc c=>let⟨q',o',u',C',rfl,gC,r1,r2,r3⟩:=r;exact⟨q',o',u',C',rfl,st.eH _ _ _ gC,r1,r2,r3.ups st⟩
 .have old:∀{j:Nat}{zs},(ρ.set i<|some<|Z.L.own ds)[j]?=AC (AC<|.own zs)->∃zs',ρ[j]?=AC (AC<|.own zs'):=λ {j zs} e=>by
   rcases aK e with⟨rfl,_,_⟩|⟨_,e⟩
   .exact⟨xs,ei⟩
   .exact⟨zs,e⟩
  let⟨_,o1⟩:=old e1;let⟨_,o2⟩:=old e2;exact h.re.sep j k _ _ p o1 o2 e3 e4
 .rcases aK e1 with⟨rfl,_,_⟩|⟨_,e1⟩
  .exact h.fresh i xs p ei e2
  .exact h.fresh j lL p e1 e2
 .rcases aK e1 with⟨_,_,e⟩|⟨_,e1⟩
  .cases e
  .exact h.nJ j lL e1
theorem RS.eH{K:Fk}{H0 H:Hp}{σ:St}{ρ:Z.Env}{i:Nat}{xs:γ Z.D}{q:δ}{us:γ V}{o:μ}(h:RS K H0 H σ ρ)(ei:ρ[i]?=AC (AC<|.own xs))(si:σ[i]?=AC (AC<|.ref q))(hq:H q=AC (.lst us))(t:aI K H xs us):
 RS K H0 (upd H q<|.eH o<|.lst us) σ (ρ.set i<|some<|.val<|.lst xs):=by
 have st:iM H (upd H q<|.eH o<|.lst us):=jZ hq;have h0:=h.fresh i xs q ei si;have hs:aG H0 (upd H q<|.eH o<|.lst us):=λ b u e=>by rw[aE<|bt e h0];exact h.same b u e
 refine⟨hs,⟨by simp[h.re.len],λ j l e=>?_,λ j k lL ys p e1 e2 e3 e4=>?_⟩,λ j lL p e1 e2=>?_,λ j lL e1=>?_,h.yj.Ut λ _ z=>nomatch z⟩
 .rcases aK e with⟨rfl,hl,e⟩|⟨hj,e⟩
  .cases e;exact⟨_,si,zU (.inl ⟨o,aP⟩)<|t.ups st⟩
  .let⟨v,e1,r⟩:=h.re.get j l e;refine⟨v,e1,?_⟩;cases l with
   |val d=>exact Den.ups (r) st
   |own zs=>
    let⟨q',ws,rfl,gC,t'⟩:=r;have:q'≠q:=by rintro rfl;exact hj<|h.re.sep i j xs zs q' ei e si e1
    exact⟨q',ws,rfl,by rw[aE this];exact gC,t'.ups st⟩
   |bor zs=>let⟨v',e2,r2⟩:=h.nJ j zs e;rw[e1]at e2;cases e2;exact r2.re r h.same hs st
   |dc ks=>
    let⟨q',as,rfl,gC,t'⟩:=r;have:q'≠q:=by rintro rfl;rw[hq]at gC;exact FY (A06 gC).symm
    exact⟨q',as,rfl,by rw[aE this];exact gC,t'.ups st⟩
   |Hf ks=>let⟨q',o',as,rfl,gC,t'⟩:=r;exact⟨q',o',as,rfl,st.eH _ _ _ gC,t'.ups st⟩
   |RJ ps=>let⟨q',o',rfl,gC⟩:=r;exact⟨q',o',rfl,st.eH _ _ _ gC⟩
   |exc c=>let⟨q',o',u',C',rfl,gC,r1,r2,r3⟩:=r;exact⟨q',o',u',C',rfl,st.eH _ _ _ gC,r1,r2,r3.ups st⟩
 .rcases aK e1 with⟨_,_,e⟩|⟨_,e1⟩
  .cases e
  .rcases aK e2 with⟨_,_,e⟩|⟨_,e2⟩
   .cases e
   .exact h.re.sep j k _ _ p e1 e2 e3 e4
 .rcases aK e1 with⟨_,_,e⟩|⟨_,e1⟩
  .cases e
  .exact h.fresh j lL p e1 e2
 .rcases aK e1 with⟨_,_,e⟩|⟨_,e1⟩
  .cases e
  .exact h.nJ j lL e1
variable{H0:Hp}{st:θ}{Ac:γ θ}{g u:Z.SF}
theorem _root_.ZQ.bq:ZQ.Cq X H0 [] Z.b7:=⟨s?.imp E7 <|by rintro D σ H ⟨ρ,fl,rs,e,k⟩;cases e;exact k σ H (iM.refl H) rs⟩
theorem _root_.ZQ.aB(h:ZQ.QS X H0 st g):ZQ.Cq X H0 [st] g:=⟨mY h.p⟩
theorem _root_.ZQ.aC(h1:ZQ.QS X H0 st g)(h2:ZQ.Cq X H0 Ac u):ZQ.Cq X H0 (st::Ac) (Z.bH g u):=⟨s?.imp (kI h1.p h2.p) <|by
 rintro D σ H ⟨ρ,fl,rs,e,k⟩;let⟨f1,e1,e⟩:=WP e;refine⟨ρ,f1,rs,e1,?_⟩;cases f1 with
 |nx ρ'=>exact λ σ' H' s r=>⟨ρ',fl,r,e,k.up s⟩
 |rt d=>cases e;exact k
 |bk ρ'=>cases e;exact k
 |ct ρ'=>cases e;exact k⟩
theorem _root_.ZQ.aL(h:ZQ.QE X a fa):ZQ.QS X H0 (.Return (AC a) pos) (Z.bj fa):=⟨PS.imp (Jf h.p) <|by rintro D σ H ⟨ρ,fl,rs,e,k⟩;let⟨d,ea,e⟩:=WP e;cases e;exact⟨ρ,d,rs.re,ea,λ v H' s dv=>k v H' (rs.same.trans s) dv⟩⟩
theorem _root_.ZQ.cB(hc:ZQ.QT X c t)(h1:ZQ.Cq X H0 b1 g)(h2:ZQ.Cq X H0 b2 u):ZQ.QS X H0 (.If c b1 b2 pos) (Z.jR t g u):=⟨PS.imp (Jg hc.p h1.p h2.p) <|by
 rintro D σ H ⟨ρ,fl,rs,e,k⟩;let⟨x,ea,e⟩:=WP e;refine⟨ρ,x,rs.re,ea,λ H1 s1=>?_⟩;cases x with
 |true=>simp only[A23]at e ⊢;exact⟨ρ,fl,rs.up s1,e,k.up<|lN s1⟩
 |false=>simp only[A40]at e ⊢;exact⟨ρ,fl,rs.up s1,e,k.up<|lN s1⟩⟩
theorem _root_.ZQ.aM(he:ZQ.QE X a fa)(hs:swapsWith a (AC<|.Name x pos') pos.line X.env=pure AT:=by rfl)(hf:Fl X x:=by trivial)(hN:X.N.Nodup:=by first|assumption|exact A50 (by kernel_rfl))(hi:X.N[i]?=AC x:=by rfl)(hx:Loc X.env.scope x:=by exact lo rfl):ZQ.QS X H0 (.Assign [.Name x pos'] a pos) (Z.bG i fa):=⟨PS.imp (y! hN hi hx he.p hs hf) <|by rintro D σ H ⟨ρ,fl,rs,e,k⟩;let⟨d,ea,e⟩:=WP e;cases e;exact⟨ρ,d,rs.re,ea,λ v H' s dv=>k _ H' (lN s)<|(rs.up s).MI dv⟩⟩
theorem RS.noq{K:Db}(h:RS K H1 H σ ρ)(hq:H q=At)(j:Nat)(xs:γ Z.D)(e:ρ[j]?=AC (AC<|.own xs)):σ[j]?≠AC (AC<|.ref q):=λ z=>by let⟨v,e1,q',vs,rfl,h2,_⟩:=h.re.get j _ e;rw[z]at e1;cases e1;rw[hq]at h2;cases h2
theorem _root_.ZQ.qE(he:ZQ.QL X a l)(hs:swapsWith a (AC<|.Name x pos') pos.line X.env=pure AT:=by rfl)(hf:Fl X x:=by trivial)(hN:X.N.Nodup:=by first|assumption|exact A50 (by kernel_rfl))(hi:X.N[i]?=AC x:=by rfl)(hx:Loc X.env.scope x:=by exact lo rfl):ZQ.QS X H0 (.Assign [.Name x pos'] a pos) (Z.A8 i l):=⟨PS.imp (y! hN hi hx he.p hs hf) <|by rintro D σ H ⟨ρ,fl,rs,e,k⟩;let⟨d,ea,e⟩:=WP e;cases e;refine⟨ρ,d,rs.re,ea,λ q vs H' s hn h1 t=>k _ H' (lN s)<|(rs.up s).IM h1 t (rs.same.free hn) λ j xs _ e=>?_⟩;exact rs.noq hn j xs e⟩
def tG(K:Db)(H0:Hp)(g:Z.GF):TG:=λ v σ H Q=>∃ρ d ρ',RS K H0 H σ ρ/\Den K H d v/\g d ρ=.ok ρ'/\∀σ' H',aG H H'->RS K H0 H' σ' ρ'->Q σ' H'
def tGs(K:Db)(H0:Hp)(is:γ Nat):TZ:=λ vs σ H Q=>∃ρ ds ρ',RS K H0 H σ ρ/\aI K H ds vs/\Z.vS is ds ρ=.ok ρ'/\∀σ' H',aG H H'->RS K H0 H' σ' ρ'->Q σ' H'
abbrev DG(X:Cx)(H0:Hp)(tg:ι)(g:Z.GF):Prop:=PG X tg<|tG X.K H0 g
structure _root_.ZQ.QG(X:Cx)(H0:Hp)(tg:Expr)(g:Z.GF):Prop where p:DG X H0 tg g
abbrev DGs(X:Cx)(H0:Hp)(Y3:γ ι)(is:γ Nat):Prop:=L' X Y3<|tGs X.K H0 is
structure _root_.ZQ.YR(X:Cx)(H0:Hp)(Y3:List Expr)(is:List Nat):Prop where p:DGs X H0 Y3 is
theorem PG.imp(h:PG X tg t)(k:∀v σ H Q,t' v σ H Q->t v σ H Q):PG X tg t':=λ χ s σ H v u Q I r w=>h χ s σ H v u Q I r<|k v σ H Q w
theorem L'.imp(h:L' X es t)(k:∀v σ H Q,t' v σ H Q->t v σ H Q):L' X es t':=λ χ s σ H v u Q I r w=>h χ s σ H v u Q I r<|k v σ H Q w
theorem _root_.ZQ.cU(hf:Fl X x:=by trivial)(hN:X.N.Nodup:=by first|assumption|exact A50 (by kernel_rfl))(hi:X.N[i]?=AC x:=by rfl)(hx:Loc X.env.scope x:=by exact lo rfl):ZQ.QG X H0 (.Name x pos) (Z.bA i):=
 ⟨PG.imp (E9 hN hi hx hf) <|by rintro v σ H Q ⟨ρ,d,ρ',rs,hd,e,k⟩;cases e;exact k _ H (aG.refl H)<|rs.MI hd⟩
theorem _root_.ZQ.nh:ZQ.YR X H0 [] []:=⟨L'.imp MW <|by
 rintro vs σ H Q ⟨ρ,ds,ρ',rs,hd,e,k⟩;cases ds with
 |nil=>simp only[aI]at hd;cases e;exact⟨hd,k σ H (aG.refl H) rs⟩
 |cons d ds=>cases e⟩
theorem _root_.ZQ.dm(h2:ZQ.YR X H0 es is)(hs:(assignEach ((.Name x pos)::es) X.env).map (·.2)=assign (.Name x pos) X.env::(assignEach es X.env).map (·.2):=by rfl)(hf:Fl X x:=by trivial)(hN:X.N.Nodup:=by first|assumption|exact A50 (by kernel_rfl))(hi:X.N[i]?=AC x:=by rfl)(hx:Loc X.env.scope x:=by exact lo rfl):ZQ.YR X H0 (.Name x pos::es) (i::is):=
 ⟨have h2:=h2.p;L'.imp (Jj (E9 hN hi hx hf) h2 hs) <|by
  rintro vs σ H Q ⟨ρ,ds,ρ',rs,hd,e,k⟩;cases ds with
  |nil=>cases e
  |cons d ds=>simp only[aI]at hd;let⟨v,r,rfl,h1,h2⟩:=hd;exact⟨v,r,rfl,_,ds,ρ',rs.MI h1,h2,e,k⟩⟩
theorem _root_.ZQ.sf(hc:X.calm=Ch)(h:ZQ.YR X H0 es is)(hl:is.length=n)(hn:(assignEach es X.env).length=n:=by rfl)(vL:(assignEach es X.env).findIdx? (·.1)=At:=by rfl):ZQ.QG X H0 (.Tuple es x1 pos) (Z.kq is):=
 ⟨PG.imp (QB hc h.p hn vL) <|by
  rintro v σ H Q ⟨ρ,d,ρ',rs,hd,e,k⟩;unfold Z.kq at e;split at e
  .rename_i ds;let⟨q,vs,rfl,hq,t⟩:=b_.tup (.inl hd);have ψ:∀is ds ρ ρ',Z.vS is ds ρ=.ok ρ'->ds.length=is.length:=by
    intro is
    induction is with
    |nil=>intro ds ρ ρ' e;cases ds with
     |nil=>rfl
     |cons d ds=>cases e
    |cons i is ih=>intro ds ρ ρ' e;cases ds with
     |nil=>cases e
     |cons d ds=>simp[ih ds _ _ e]
   exact⟨q,vs,rfl,hq,by rw[t.length,ψ is ds ρ ρ' e];exact hl,ρ,ds,ρ',rs,t,e,k⟩
  .cases e⟩
theorem _root_.ZQ.jm(hi:ZQ.QJ X tg iter it)(hg:ZQ.QG X H0 tg G)(hb:ZQ.Cq X H0 body g)(hs:∀x,foldedSetIterable iter X.env x=pure x:=by intro _;rfl)(hp:PassesOwn (model X.prog X.w) X.A X.env X.xe:=by exact B25)(hc:X.calm=Ch:=by rfl):ZQ.QS X H0 (.For tg iter body [] pos) (Z.u6 it G g):=⟨PS.imp (Jh hp hc hi.p hg.p hb.p hs) <|by
 rintro D σ H ⟨ρ,fl,rs,e,k⟩;let⟨ds,ei,e⟩:=WP e;refine⟨ρ,ds,rs.re,ei,λ J H1 s1 z=>?_⟩;refine⟨λ i m σ' H'=>m=ds.length-i/\i<=ds.length/\∃ρ',RS X.K H0 H' σ' ρ'/\iM H1 H'/\Z.jE G g (ds.drop i) ρ'=.ok fl,⟨ds.length,by simp,A71 _,ρ,rs.up s1,iM.refl H1,by simpa using e⟩,?_⟩;rintro i m σ2 H2 ⟨rfl,HU,ρ2,r2,s2,e2⟩;by_cases qR:i<ds.length
 .obtain⟨d,hd⟩:∃d,ds[i]?=AC d:=⟨ds[i],by simp[qR]⟩
  have qp:ds.drop i=d::ds.drop (i+1):=by
   rw[A90 qR];have:ds[i]=d:=by have:=A01 qR;rw[this]at hd;exact A06 hd
   rw[this]
  rw[qp]at e2;let⟨ρ3,eg,e2⟩:=WP e2;let⟨f3,eb,e2⟩:=WP e2;refine .inr ⟨z.go i d H2 s2 hd,λ σ' H'=>∃ρ',RS X.K H0 H' σ' ρ'/\iM H1 H'/\Z.jE G g _ ρ'=.ok fl,λ σ' H' w=>⟨_,by lia,rfl,qR,w⟩,λ x H3 y=>?_⟩;let⟨sy,dx⟩:=z.CB i d H2 H3 x s2 hd y;replace s2:=s2.trans<|lN sy;refine⟨ρ2,d,ρ3,r2.up sy,dx,eg,λ σ4 H4 s4' r4=>⟨ρ3,f3,r4,eb,?_⟩⟩;have s4:=lN s4';cases f3 with
  |nx ρ5=>exact λ σ5 H5 s5 r5=>⟨ρ5,r5,(s2.trans s4).trans s5,e2⟩
  |ct ρ5=>exact λ σ5 H5 s5 r5=>⟨ρ5,r5,(s2.trans s4).trans s5,e2⟩
  |bk ρ5=>cases e2;exact λ σ5 H5 s5 r5=>k σ5 H5 ((lN s1).trans<|(s2.trans s4).trans s5) r5
  |rt d5=>cases e2;exact k
 .have:i=ds.length:=by lia
  subst this;rw[B50]at e2;cases e2;exact .inl ⟨z.stop H2 s2,k σ2 H2 ((lN s1).trans s2) r2⟩⟩
theorem _root_.ZQ.zT(h:ZQ.Cq X H0 Ac g):ZQ.Cq X H0 Ac (Z.C7 i g):=⟨by
 have h:=h.p;intro χ s σ H D I w;let⟨ρ,fl,rs,e,k⟩:=w;unfold Z.C7 Z.eH at e;split at e
 .rename_i xs ei;let⟨v,si,q,us,rfl,hq,t⟩:=rs.re.get i _ ei;let⟨o,I2⟩:=oR I hq;exact h χ s σ _ D I2 ⟨_,fl,rs.eH ei si hq t,e,k.up<|jZ hq⟩
 .exact h χ s σ H D I ⟨ρ,fl,rs,e,k⟩⟩
theorem Hn(ho:PE X o (kE i))(ha:DE X a fa)(hs:swapsWith (.Call (.Attribute o "append" p1) [a] [] p2) At pos.line X.env=pure AT:=by rfl)(wJ:Se a [] X.env:=by rfl)
 (_Y:PE X (.Call (.Attribute o "append" p1) [a] [] p2) (Zc X.K "list" E6 (kE i)<|AR (tZ X.K fa) Iz)) :
 DS X H0 (.Expr (.Call (.Attribute o "append" p1) [a] [] p2) pos) (Z.mX i fa):=PS.imp (uk _Y hs) <| by
 rintro D σ H ⟨ρ,fl,rs,e,k⟩;let⟨d,ea,e⟩:=WP e;split at e
 .rename_i xs ei;unfold Z.guard at e;split at e
  .rename_i hl;cases e;let⟨v,si,q,us,rfl,hq,t⟩:=rs.re.get i _ ei;refine⟨_,si,.inl ⟨rfl,us,ka.of hq⟩,ρ,d,rs.re,ea,λ v' H1 s1 dv=>?_⟩;have RT:=s1 _ _ hq;refine⟨q,us,v',rfl,rfl,RT,by rw[t.length,A33];exact hl,?_⟩;exact k σ _ ((lN s1).trans<|jZ RT)<|(rs.up s1).chg ei si RT<|(t.up s1).append<|aI.cons dv aI.nil
  .cases e
 .cases e
end
theorem o8:∀(names:γ (Str×NameKind)) acc,(∀y∈names,y.2=.free->∃c,env.cells.lookup y.1=AC c)->(∀x c,acc.lookup x=AC c->env.cells.lookup x=AC c) ->
 ∃cl,(forIn names acc λ(x)(cs:γ (Str×δ))=>(if(x.2==NameKind.free)=Ch then do let c ←cellOf env x.1;pure (IN<|(x.1,c)::cs)else pure (IN cs):Sem (ForInStep<|γ<|Str×δ)))=pure cl /\
  (∀x c,cl.lookup x=AC c->env.cells.lookup x=AC c)/\(∀x,(acc.lookup x).isSome=Ch->(cl.lookup x).isSome=Ch)/\(∀y∈names,y.2=.free->(cl.lookup y.1).isSome=Ch)
|[],acc,_,ha=>⟨acc,rfl,ha,λ _ h=>h,λ y hy=>by cases hy⟩
|(n,k)::r,acc,hn,ha=>by
 by_cases hk:k=.free
 .subst hk;let⟨c,hc⟩:=hn (n,.free) A18 rfl;have Wf:∀x d,((n,c)::acc).lookup x=AC d->env.cells.lookup x=AC d:=λ x d e=>by
   rw[A51]at e;split at e
   .rename_i q;cases e;rw[A29.mp q];exact hc
   .exact ha x d e
  let⟨cl,e,h1,h2,h3⟩:=o8 r ((n,c)::acc) (λ y hy=>hn y<|A11 _ hy) Wf;have self:=h2 n (by rw[B26];rfl);refine⟨cl,?_,h1,λ x hx=>h2 x ?_,λ y hy hf=>?_⟩
  .rw[B51];simp only[A88,A23];have:cellOf env n=pure c:=by unfold cellOf;rw[hc]
   rw[this];exact e
  .rw[A51];split
   .rfl
   .exact hx
  .rcases A00.mp hy with rfl|hy
   .exact self
   .exact h3 y hy hf
 .let⟨cl,e,h1,h2,h3⟩:=o8 r acc (λ y hy=>hn y<|A11 _ hy) ha;have hb:(k==NameKind.free)=AT:=by simpa using hk
  refine⟨cl,?_,h1,h2,λ y hy hf=>?_⟩
  .rw[B51];simp only[hb,A40,A86];exact e
  .rcases A00.mp hy with rfl|hy
   .exact absurd hf hk
   .exact h3 y hy hf
theorem ky(hn:∀y∈scope.names,y.2=.free->∃c,env.cells.lookup y.1=AC c):
 ∃cl,closureFor scope env=pure cl/\(∀x c,cl.lookup x=AC c->env.cells.lookup x=AC c)/\(∀y∈scope.names,y.2=.free->(cl.lookup y.1).isSome=Ch):=by
 let⟨cl,e,h1,_,h3⟩:=o8 _ [] hn (λ x c e=>by cases e);refine⟨cl,?_,h1,h3⟩;unfold closureFor
 first
  |exact e
  |(simp only[bind_pure];exact e)
  |(rw[e];rfl)
theorem jC{env:Env}{x:Str}:∀(names:γ _),(names.map λ(n,k)=>if(k == NameKind.free&&env.scope.kind == .function&&env.kindOf n == AC .cell)=Ch then(n,NameKind.cell)else(n,k)).lookup x=(names.lookup x).map λ k=>if(k == NameKind.free&&env.scope.kind == .function&&env.kindOf x == AC .cell)=Ch then NameKind.cell else k
|[]=>rfl
|(n,k)::r=>by
 have ih:=@jC env x r;show Gc x ((if(k==NameKind.free&&env.scope.kind==.function&&env.kindOf n==AC .cell)=Ch then(n,NameKind.cell)else(n,k))::_)=_;by_cases hx:x=n
 .subst hx;by_cases hc:(k==NameKind.free&&env.scope.kind==.function&&env.kindOf x==AC .cell)=Ch
  .rw[f8 hc,B26,B26,A77,f8 hc]
  .rw[P3 hc,B26,B26,A77,P3 hc]
 .have hb:(x==n)=AT:=by simpa using hx
  by_cases hc:(k==NameKind.free&&env.scope.kind==.function&&env.kindOf n==AC .cell)=Ch
  .rw[f8 hc,A51,A51,hb];exact ih
  .rw[P3 hc,A51,A51,hb];exact ih
abbrev o9(X:Cx)(N':γ Str)(scope:ς)(cl:γ (Str×δ))(C:δ)(fp:γ δ)(s₂:η)(H₂:Hp):Cx:=
 {prog:=X.prog,w:=X.w,K:=X.K,mg:=X.mg,base:=X.base,A:=X.A,N:=N',s₀:=s₂,H₀:=H₂,env:=compEnvC scope cl C X.env,outer:=X.stack,stack:=X.stack,ex:=fp,fn:=λ _=>AT,calm:=X.calm,pn:=[],xe:=λ _ _=>False}
structure yF(N N':List Str)(n:Nat)(is:List Nat)(sc QU:Scope):Prop where
 kind:sc.kind=.function
 cell:∀y∈sc.names,y.2≠.cell
 loc:∀y∈sc.names,y.2=.local->sc.names.lookup y.1=AC .local
 free:∀y∈sc.names,y.2=.free->QU.names.lookup y.1=AC .cell\/QU.names.lookup y.1=AC .free
 len:N'.length=n+is.length
 cap:∀(j i:Nat),is[j]?=AC i->∃x,N'[n+j]?=AC x/\N[i]?=AC x/\sc.names.lookup x=AC .free
 own:∀(j:Nat),j<n->∃x,N'[j]?=AC x/\sc.names.lookup x=AC .local
section
variable{X:Cx}{tg e a b elt iter:ι}{ifs:γ ι}{pos:Pos}{N':γ Str}{n:Nat}{is:γ Nat}{scope:ς}
def oC(σ:St)(n:Nat)(is:γ Nat):St:=Do n At++is.map λ i=>(σ[i]?).join
theorem gB(n:Nat)(is:γ Nat)(ρ:Z.Env)(i:Nat)(xs:γ Z.D):(Do n At++Z.eP ρ is:Z.Env)[i]?≠AC (AC<|.own xs):=by
 intro e;by_cases hi:i<n
 .rw[A25 (by simpa using hi),A45]at e;split at e<;>cases e
 .rw[A44 (by simpa using hi)]at e;unfold Z.eP at e;rw[A08]at e;cases q:is[i-(Do n<|none).length]? with
  |none=>rw[q]at e;cases e
  |some j=>rw[q]at e;have e':=A06 e;unfold Z.sY at e';split at e'<;>cases e'
theorem sh(n:Nat)(is:γ Nat)(ρ:Z.Env)(i:Nat)(ks:Z.DK):(Do n At++Z.eP ρ is:Z.Env)[i]?≠AC (AC<|.dc ks):=by
 intro e;by_cases hi:i<n
 .rw[A25 (by simpa using hi),A45]at e;split at e<;>cases e
 .rw[A44 (by simpa using hi)]at e;unfold Z.eP at e;rw[A08]at e;cases q:is[i-(Do n<|none).length]? with
  |none=>rw[q]at e;cases e
  |some j=>rw[q]at e;have e':=A06 e;unfold Z.sY at e';split at e'<;>cases e'
theorem Jb{K:Fk}(h:RE K H σ ρ)(s:aG H H'):RS K H H' (oC σ n is) (Do n At++Z.eP ρ is):=by
 have key:∀(i:Nat) l,(Do n At++Z.eP ρ is)[i]?=AC (AC l)->∃v,(oC σ n is)[i]?=AC (AC v)/\RL K H l v:=?_;refine⟨s,⟨by simp[oC,Z.eP],λ i l e=>let ⟨v,h1,h2⟩:=key i l e;⟨v,h1,h2.up s⟩,λ i j xs ys q e1=>absurd e1<|gB n is ρ i xs⟩,λ i xs q e1=>absurd e1<|gB n is ρ i xs,λ i xs e1=>let ⟨v,h1,h2⟩:=key i _ e1;⟨v,h1,jY.z h2⟩,jc.non<|sh n is ρ⟩;intro i l e;by_cases hi:i<n
 .rw[A25 (by simpa using hi),A45]at e;split at e<;>cases e
 .rw[A44 (by simpa using hi)]at e;unfold oC;rw[A44 (by simpa using hi)];simp only[A85]at e ⊢;unfold Z.eP at e;rw[A08]at e ⊢;cases q:is[i-n]? with
  |none=>rw[q]at e;cases e
  |some j=>
   rw[q]at e;have e':=A06 e;unfold Z.sY at e';split at e'
   .rename_i d hd;cases e';let⟨v,h1,h2⟩:=h.get j _ hd;refine⟨v,?_,h2⟩;simp[h1]
   .rename_i d hd;cases e';let⟨v,h1,h2⟩:=h.get j _ hd;refine⟨v,?_,h2⟩;simp[h1]
   .rename_i d hd;cases e';let⟨v,h1,h2⟩:=h.get j _ hd;refine⟨v,?_,h2⟩;simp[h1]
   .rename_i xs hd;cases e';let⟨v,h1,a,vs,rfl,h3,h4⟩:=h.get j _ hd;refine⟨_,?_,.inl<|.inr ⟨xs,a,vs,rfl,rfl,h3,h4⟩⟩;simp[h1]
   .cases e'
theorem nH(I:Nat->η->Prop)
 (turn:∀ n s,I n s->FM (model prog w) A (pyNext it) (λ r s₁=>match r with
  |none=>R (.ok .next) s₁
  | some v=>FM (model prog w) A (letOwnedTupleGo target it v) (λ _ s₁=>FM (model prog w) A (assign target env v) (λ _ s₂=>
   FM (model prog w) A (forIn ifs Ch λ c r=>if r=Ch then do let ok ←isTrue c env (eval c env);pure (IN ok)else pure (IN r)) (λ ok s₃=>
    if ok=Ch then FM (model prog w) A (eval elt env) (λ x s₄=>FM (model prog w) A (call (.builtin "list.append") [acc,x]) (λ _ s₅=>∃m,m<n/\I m s₅) (λ _ _=>False) s₄) (λ _ _=>False) s₃
    else ∃m,m<n/\I m s₃) (λ _ _=>False) s₂) (λ _ _=>False) s₁) (λ _ _=>False) s₁) (λ _ _=>False) s)
 (n:Nat) (h:I n s) :
 codeAny (model prog w) A (.compLoop (.ListComp elt [⟨target,iter,ifs,0⟩] scope pos) 0 it acc env) R s:=by
 refine codeAny_loop rfl I (λ n s hI=>?_) n h;refine wpAny_noted ?_;rw[compTurn_list];refine T0<|B52<|T0<|A21 (turn n s hI) (λ r s₁ h₁=>?_) λ _ _ h'=>h'.elim;cases r with
 |none=>exact M2 h₁
 |some v=>
  refine T0<|A21 h₁ (λ _ s₁ h₁=>?_) λ _ _ h'=>h'.elim;refine T0<|A21 h₁ (λ _ s₂ h₂=>T0<|A21 h₂ (λ ok s₃ h₃=>?_) λ _ _ h'=>h'.elim) λ _ _ h'=>h'.elim;cases ok with
  |false=>exact M2 ⟨rfl,h₃⟩
  |true=>exact T0<|T0<|A21 h₃ (λ x s₄ h₄=>T0<|A21 h₄ (λ _ s₅ h₅=>M2<|M2 ⟨rfl,h₅⟩) λ _ _ h'=>h'.elim) λ _ _ h'=>h'.elim
structure Off(X:Cx)(χ:List (Addr×Obj))(H:Hp)(C:Addr):Prop where
 free:H C=At
 loc:C≠X.env.locals
 new:X.s₀.heap.objs.size<=C
 cell:∀x c,X.env.cells.lookup x=AC c->c≠C
 pin:∀p∈X.pn++χ,p.1≠C
theorem Off.inv(o:Off X χ H C)(I:Inv X χ σ H s)(hs:Go C s.heap h'):Inv X χ σ H {s with heap:=h'}:=
 I.turned (λ b ob hb e=>(hs.2 b hb).trans e) o.free o.loc (.inr o.new) o.cell o.pin
def YN(X:Cx)(χ:γ (δ×μ))(σ:St)(H₂:Hp)(ys:γ Z.D)(acc:ζ)(C:δ)(s':η):Prop:=
 ∃D H' vs m,acc=.ref D/\s'.heap.Ns C m/\Inv X χ σ H' s'/\Off X χ H' C/\H₂ D=At/\aG H₂ H'/\H' D=AC (.lst vs)/\aI X.K H' ys vs
def tGR(K:Db)(R:Hp->Z.D->V->Prop)(H0:Hp)(g:Z.GF):TG:=λ v σ H Q=>∃ρ d ρ',RS K H0 H σ ρ/\R H d v/\g d ρ=.ok ρ'/\∀σ' H',aG H H'->RS K H0 H' σ' ρ'->Q σ' H'
theorem Lg{R:Hp->Z.D->V->Prop}{it:δ}{fp:γ δ}{tn:Nat->ν->Prop}{J:It}{χ:γ (δ×μ)}{σ:St}{ρ:Z.Env}{H₂:Hp}{s₂:η}{E:ζ->η->Prop}{cl:γ (Str×δ)}{G:Z.GF}{t:Z.TF}{fe:Z.EF}{ds ys:γ Z.D}
 (c!:X.calm=Ch) (B:yF X.N N' n is scope X.env.scope) (I2:Inv X χ σ H₂ s₂) (T:Turn X.prog X.w X.K tg J fp it tn) (Qn:tn 0 s₂.heap) (fo:∀b∈fp,qN X χ H₂ b) (zg:∀(i:Nat)(d:Z.D)(H1:Hp),aG H₂ H1->ds[i]?=AC d->J.go i H1) (zy:∀(i:Nat)(d:Z.D)(H1 H2:Hp)(x:V),aG H₂ H1->ds[i]?=AC d->J.CB i H1 x H2->aG H1 H2/\R H2 d x) (zst:∀(H1:Hp),aG H₂ H1->J.stop ds.length H1) (re:RE X.K H₂ σ ρ)
 (jW:∀x c,cl.lookup x=AC c->X.env.cells.lookup x=AC c) (vO:∀y∈scope.names,y.2=.free->(cl.lookup y.1).isSome=Ch)
 (hG:∀d ρ ρ1,G d ρ=.ok ρ1->ρ1.length=ρ.length/\∀i,n<=i->ρ1[i]?=ρ[i]?)
 (hg:∀C s H H0,PG (o9 X N' scope cl C fp s H) tg (tGR X.K R H0 G))
 (ht:∀ C s s' H nT (σ':St) (H':Hp) (Q:Bool->Hp->Prop),Inv (o9 X N' scope cl C fp s H) nT σ' H' s'->Ug X.K t σ' H' Q ->
  FM (model X.prog X.w) X.A (forIn ifs Ch λ c r=>if r=Ch then do let ok ←isTrue c (compEnvC scope cl C X.env) (eval c<|compEnvC scope cl C X.env);pure (IN ok)else pure (IN r)) (TP (o9 X N' scope cl C fp s H) nT σ' Q) (λ _ _=>False) s')
 (he:∀C s H,DE (o9 X N' scope cl C fp s H) elt fe) (ψ:ds.length<=Z.line) (ego:Z.cm G t fe (Do n At++Z.eP ρ is) ds=.ok ys) :
 FM (model X.prog X.w) X.A (newList []) (λ acc s₃=>FM (model X.prog X.w) X.A (newFunctionEnv scope X.env.globals cl [] X.env.qual At .none<|some X.env) (λ Sw s₄=>codeAny (model X.prog X.w) X.A (.compStart (.ListComp elt [⟨tg,iter,ifs,0⟩] scope pos) 0 (.ref it) acc {Sw with scope:=relabel scope X.env}) (λ r s'=>r=.ok .next/\YN X χ σ H₂ ys acc Sw.locals s') s₄) E s₃) E s₂:=by
 refine A67<|wpAny_newFunctionEnv B.cell (by intro y hy;simp at hy) (λ h₁ NY Kg=>?_) B.kind;dsimp only at NY Kg ⊢;generalize Ko:s₂.heap.push {cls:=.type "list",dict:=At,data:=.seq ([]:γ ζ).toArray}=HH at NY Kg ⊢;have hC:HH.objs.size=s₂.heap.objs.size+1:=by rw[<-Ko,A48]
 have Yu:s₂.heap.objs.size≠HH.objs.size:=by rw[hC];exact A14<|A58 _
 have below:∀b,b<s₂.heap.objs.size->b≠HH.objs.size/\b≠s₂.heap.objs.size:=λ b hb=>⟨by rw[hC];exact A14<|B53 hb,A14 hb⟩
 have old:∀b o,s₂.heap.get? b=AC o->h₁.get? b=AC o:=λ b o e=>Kg.extBut b o (below b<|A03 e).1<|A02 _<|Ko▸A02 _ e;have We:h₁.get? s₂.heap.objs.size=AC {cls:=.type "list",data:=.seq ([]:γ ζ).toArray}:=Kg.extBut _ _ Yu<|A02 _<|Ko▸A16 _ rfl;have fpo:∀b∈fp,∃o,s₂.heap.get? b=AC o/\∀v,o.data≠.cell v:=T.obj 0 _ Qn;have Sd:∀b∈fp,b<s₂.heap.objs.size:=λ b hb=>let ⟨_,e,_⟩:=fpo b hb;A03 e;generalize hD:s₂.heap.objs.size=D at Yu below old We hC ⊢;generalize hCC:HH.objs.size=C at NY Kg Yu below hC ⊢;have LZ:H₂ D=At:=I2.cy.fresh (by rw[hD];exact v6 _);have hCn:H₂ C=At:=I2.cy.fresh (by rw[hD,hC];exact A61 _)
 -- Qe YG context is in order
 have ok:(o9 X N' scope cl C fp s₂ H₂).Ok:=by
  refine⟨I2.ok.mod,B.kind,I2.ok.glob,I2.ok.blt,by show s₂.heap.objs.size<=C;rw[hD,hC];exact A61 _,λ x y c e1 e2=>I2.ok.inj x y c (jW x c e1)<|jW y c e2,λ x hx=>?_,λ x c hf=>(by cases hf),I2.ok.hd,I2.ok.frames,.inl rfl,
   λ b hb=>⟨(below b (by rw[<-hD];exact Sd b hb)).1,λ x c e=>(fo b hb).2.2.2.2.1 x c<|jW x c e⟩,I2.bs,A27 I2.ok.Hx I2.sz,λ b o e hb=>?_,λ b hb z=>?_,I2.stack,I2.uh⟩
  .have HP:(relabel scope X.env).names.lookup x=AC .cell\/(relabel scope X.env).names.lookup x=AC .free:=hx;have e:=jC (env:=X.env) (x:=x) scope.names;have e':(relabel scope X.env).names.lookup x=_:=e;rw[e']at HP;cases q:scope.names.lookup x with
   |none=>rw[q]at HP;rcases HP with h|h<;>cases h
   |some k=>
    have hm:=A66 q;have hk:k=.free:=by
     rw[q]at HP;simp only[A77]at HP;by_cases hc:(k==NameKind.free&&X.env.scope.kind==.function&&X.env.kindOf x==AC .cell)=Ch
     .rw[A35,A35]at hc;exact A29.mp hc.1.1
     .rw[P3 hc]at HP;rcases HP with h|h
      .exact absurd (A06 h)<|B.cell _ hm
      .exact A06 h
    subst hk;exact A84.mp<|vO _ hm rfl
  .rcases(fo b hb).2.2.2.1 with q|q
   .exact I2.ok.zi b o e q
   .exact absurd (A20 (A03 (I2.ok.bs b o e).1) q)<|A82 _
  .rcases A00.mp (I2.q? b z)with q|q
   .exact(fo b hb).2.1 q
   .exact(fo b hb).2.2.1 q
 have Hd:pj X.prog X.w (upd H₂ D<|.lst []) h₁:=I2.cy.laid old (by rw[hD];exact v6 _) ⟨A71 _,[],_,.nil,We⟩;have ne2:∀b,b<s₂.heap.objs.size->b≠D:=λ b hb=>by rw[<-hD];exact A14 hb
 have wq:∀x c,X.env.cells.lookup x=AC c->c<s₂.heap.objs.size/\∀v,s₂.heap.IsCell c v->h₁.IsCell c v:=λ x c e=>by let⟨v,o,ho,hd⟩:=I2.cell x c e;exact⟨A03 ho,by rintro v' ⟨o',qo,rP⟩;exact⟨o',old c o' qo,rP⟩⟩
 have I4:Inv (o9 X N' scope cl C fp s₂ H₂) [] (oC σ n is) (upd H₂ D<|.lst []) {s₂ with heap:=h₁,toks:=s₂.toks+([]:γ (Str×ζ)).length}:=by
  refine⟨ok,rfl,I2.bare,Un.laid old (by rw[hD];exact v6 _) LZ,⟨_,NY,λ i x v e1 e2 e3=>?_⟩,λ x c e=>?_,by show upd H₂ D (.lst []) C=At;rw[aE<|A07 Yu];exact hCn,λ x c e=>?_,λ p hp=>absurd (show p∈([]:γ (δ×μ))from hp) ∅,Hd,by simp[oC,B.len],I2.tab.up λ b u _ e=>by rw[aE<|bt e LZ];exact e⟩
  .unfold oC at e2;by_cases hi:i<n
   .rw[A25 (by simpa using hi),A45]at e2;split at e2<;>cases e2
   .rw [A44 (by simpa using hi),A08] at e2;simp only[A85]at e2;cases q:is[i-n]? with
    |none=>rw[q]at e2;cases e2
    |some j=>
     rw[q]at e2;simp only[A77]at e2;let⟨x',c1,c2,c3⟩:=B.cap (i-n) j q;have xn:n+(i-n)=i:=by lia
     rw[xn]at c1;have PL:N'[i]?=AC x:=e1;rw[c1]at PL;cases PL;have hσ:σ[j]?=AC (AC v):=by
      cases r:σ[j]? with
      |none=>rw[r]at e2;cases e2
      |some y=>
       rw[r]at e2;have:y=AC v:=by simpa using e2
       rw[this]
     let⟨m,hn,hl⟩:=I2.loc;have hm:=A66 c3;have hk:=B.free _ hm rfl;have RN:HD X.env.scope x:=by
      rcases hk with k|k
      .exact .inr<|.inl k
      .exact .inr<|.inr k
     let⟨u,ru,lk⟩:=hl j x v c2 hσ RN;refine⟨u,ru,?_⟩;rcases lk with⟨k1,_⟩|⟨k1,c,hc,sQ⟩
     .have NI:X.env.scope.names.lookup x=AC .local:=k1;rcases hk with k|k
      .rw[k]at NI;cases NI
      .rw[k]at NI;cases NI
     .let⟨c',Ag⟩:=A84.mp (vO _ hm rfl);have:c'=c:=by have:=jW x c' Ag;rw[hc]at this;exact(A06 this).symm
      subst this;refine .inr ⟨?_,c',Ag,(wq x c' hc).2 _ sQ⟩;show(relabel scope X.env).names.lookup x=AC .cell\/(relabel scope X.env).names.lookup x=AC .free;have e:=jC (env:=X.env) (x:=x) scope.names;have e':(relabel scope X.env).names.lookup x=_:=e;rw[e',c3];simp only[A77];split
      .exact .inl rfl
      .exact .inr rfl
  .let⟨v,hv⟩:=I2.cell x c (jW x c e);exact⟨v,(wq x c<|jW x c e).2 v hv⟩
  .have qR:=(wq x c<|jW x c e).1;rw[aE<|ne2 c qR];exact I2.gx x c<|jW x c e
 have rs4:RS X.K H₂ (upd H₂ D<|.lst []) (oC σ n is) (Do n At++Z.eP ρ is):=Jb re<|cI LZ;have st4:tn 0 h₁:=T.keep 0 _ _ Qn λ b hb o e=>old b o e;have fr4:∀b∈fp,(upd H₂ D<|.lst []) b=At:=λ b hb=>by rw[aE<|ne2 b<|Sd b hb];exact(fo b hb).1
 -- Y0 stays true of Qe DN objects
 have C1:∀{H'},(∀b∈fp,H' b=At)->∀b∈fp,qN (o9 X N' scope cl C fp s₂ H₂) [] H' b:=λ hn b hb=>by
  refine⟨hn b hb,(below b (by rw[<-hD];exact Sd b hb)).1,?_,.inl hb,λ x c e=>(fo b hb).2.2.2.2.1 x c<|jW x c e,λ p hp=>absurd (show p∈([]:γ (δ×μ))from hp) ∅⟩;intro q;rcases A00.mp (I2.q? b q)with q|q
  .exact(fo b hb).2.1 q
  .exact(fo b hb).2.2.1 q
 have loop:codeAny (model X.prog X.w) X.A (.compLoop (.ListComp elt [⟨tg,iter,ifs,0⟩] scope pos) 0 (.ref it) (.ref D)<|compEnvC scope cl C X.env) (λ r s'=>r=.ok .next/\YN X χ σ H₂ ys (.ref D) C s')
  {s₂ with heap:=h₁,toks:=s₂.toks+([]:γ (Str×ζ)).length}:=by
  refine nH (λ m s'=>∃i σ' H' vs zs,m=ds.length+1-i/\i<=ds.length/\vs.length<=i/\Inv (o9 X N' scope cl C fp s₂ H₂) [] σ' H' s'/\tn i s'.heap/\(∀b∈fp,H' b=At)/\H' D=AC (.lst vs)/\aG H₂ H' /\
   RS X.K H₂ H' σ' (Do n At++Z.eP ρ is)/\(∃rest,Z.cm G t fe (Do n At++Z.eP ρ is) (ds.drop i)=.ok rest/\zs++rest=ys)/\aI X.K H' zs vs) ?_ (ds.length+1)
   ⟨0,oC σ n is,_,[],[],rfl,A71 _,v6 _,I4,st4,fr4,aP,cI LZ,rs4,⟨ys,by simpa using ego,rfl⟩,aI.nil⟩
  .rintro m s' ⟨i,σ3,H3,vs,zs,rfl,HU,Yh,I3,ID,Wr,Yv,HJ,Zz,⟨rest,er,ez⟩,dz⟩;by_cases qR:i<ds.length
   .obtain⟨d,hd⟩:∃d,ds[i]?=AC d:=⟨ds[i],by simp[qR]⟩
    have qp:ds.drop i=d::ds.drop (i+1):=by
     rw[A90 qR];have:ds[i]=d:=by have:=A01 qR;rw[this]at hd;exact A06 hd
     rw[this]
    rw[qp]at er;unfold Z.cm at er;let⟨ρ1,eg,er⟩:=WP er;let⟨c1,ec,er⟩:=WP er;refine da (T.item (o9 X N' scope cl C fp s₂ H₂) rfl rfl rfl c! i [] s' σ3 H3 (λ _ _=>False) I3 (C1 Wr) ID<|zg i d H3 HJ hd) ?_;rintro r s4 ⟨u,hr,h4⟩;subst hr;refine da h4 ?_;rintro _ s5 ⟨x,H5,I5,r5,y5,yT,fr5⟩;let⟨sy,dx⟩:=zy i d H3 H5 x HJ hd y5;replace Zz:=Zz.up sy;replace HJ:=HJ.trans sy;replace Yv:=sy _ _ Yv;replace dz:=dz.up sy;have I5':=I5.pinned (C1 fr5)<|T.obj _ _ yT;have rs5:RS X.K H₂ H5 σ3 (Do n At++Z.eP ρ is):=Zz;refine da (hg C s₂ H₂ H₂ _ s5 σ3 H5 x u (λ σ6 H6=>aG H5 H6/\RS X.K H₂ H6 σ6 ρ1) I5' r5 ⟨_,d,ρ1,rs5,dx,eg,λ σ' H' s' r'=>⟨s',r'⟩⟩) ?_;rintro _ s6 ⟨σ6,H6,I6,sm6,Xx⟩;refine da (ht C s₂ s6 H₂ _ σ6 H6 (λ b H7=>b=c1/\aG H6 H7) I6 ⟨ρ1,c1,Xx.re,ec,λ H7 s7=>⟨rfl,s7⟩⟩) ?_;rintro ok s7 ⟨H7,I7,e7,Zi⟩;subst e7;have IH:aG H5 H7:=sm6.trans Zi;have Zy:RE X.K H7 σ6 ρ1:=Xx.re.up Zi;have re0:∀{H9},aG H7 H9->RS X.K H₂ H9 σ6 (Do n At++Z.eP ρ is):=λ {H9} s9=>by
     let⟨gl,gk⟩:=hG d _ ρ1 eg;refine⟨(Xx.same.trans Zi).trans s9,⟨by rw[<-gl];exact Zy.len,λ j l e=>?_,λ j k xs ys q e1=>absurd e1<|gB n is ρ j xs⟩,λ j xs q e1=>absurd e1<|gB n is ρ j xs,λ j xs e=>?_,jc.non<|sh n is ρ⟩;rotate_left
     .by_cases hj:n<=j
      .rw[<-gk j hj]at e;exact Xx.nJ j xs e
      .rw[A25 (by simp;lia),A45]at e;split at e<;>cases e
     by_cases hj:n<=j
     .rw[<-gk j hj]at e;exact(Zy.up s9).get j l e
     .rw[A25 (by simp;lia),A45]at e;split at e<;>cases e
    have fin:∀{H9}{s9} T9 Xd,Inv (o9 X N' scope cl C fp s₂ H₂) ([]++u7 fp s5.heap) σ6 H9 s9->H9 D=AC (.lst T9)->T9.length<=i+1->aG H₂ H9->RS X.K H₂ H9 σ6 (Do n At++Z.eP ρ is) ->
     (∃ rest,Z.cm G t fe (Do n At++Z.eP ρ is) (ds.drop<|i+1)=.ok rest/\Xd++rest=ys)->aI X.K H9 Xd T9->∃ m,m<ds.length+1-i/\∃ i σ' H' vs zs,m=ds.length+1-i/\i<=ds.length/\vs.length<=i/\Inv (o9 X N' scope cl C fp s₂ H₂) [] σ' H' s9/\tn i s9.heap/\(∀ b∈fp,H' b=At)/\H' D=AC (.lst vs)/\aG H₂ H' /\
      RS X.K H₂ H' σ' (Do n At++Z.eP ρ is)/\(∃rest,Z.cm G t fe (Do n At++Z.eP ρ is) (ds.drop i)=.ok rest/\zs++rest=ys)/\aI X.K H' zs vs:=by
     intro H9 s9 T9 Xd I9 hD9 hv9 Us re9 er9 dz9;refine⟨ds.length+1-(i+1),by lia,i+1,σ6,H9,T9,Xd,rfl,qR,hv9,I9.pw,T.keep _ _ _ yT λ b hb o e=>(I9.pin (b,o)<|A43 _<|A43 _<|k8 hb e).1,λ b hb=>?_,hD9,Us,re9,er9,dz9⟩;let⟨o,e,_⟩:=T.obj _ _ yT b hb;exact(I9.pin (b,o)<|A43 _<|A43 _<|k8 hb e).2.1
    have hD7:H7 D=AC (.lst vs):=IH _ _ Yv;cases ok with
    |false=>simp only[A40,A86]at er ⊢;exact fin vs zs I7 hD7 (Nat.le_succ_of_le Yh) (HJ.trans IH) (re0<|aG.refl _) ⟨rest,er,ez⟩<|dz.up IH
    |true=>
     simp only[A23]at er ⊢;let⟨y,ey,er⟩:=WP er;let⟨UC,er2,er⟩:=WP er;cases er;refine da (he C s₂ H₂ _ s7 σ6 H7 (λ v H8=>aG H7 H8/\Den X.K H8 y v) I7 ⟨ρ1,y,Zy,ey,λ v H8 s8 d8=>⟨s8,d8⟩⟩) ?_;rintro u8 s8 ⟨v8,H8,I8,rv8,Xp,dy⟩;have hD8:H8 D=AC (.lst vs):=Xp _ _ hD7;have Zj:aG H₂ H8:=(HJ.trans IH).trans Xp;refine da (xZ (X:=o9 X N' scope cl C fp s₂ H₂) _ s8 σ6 H8 (.ref D) [v8] (.ref D) [u8] (λ v H9=>v=.non/\H9=upd H8 D (.lst<|vs++[v8])) I8 rfl (.cons rv8 .nil) ⟨D,vs,v8,rfl,rfl,hD8,?_,rfl,rfl⟩) λ _ s9 ⟨v9,H9,I9,_,_,e9⟩=>?_
     .rw[A33];have:Z.line=16777216:=rfl;lia
     subst e9;have O8:iM H8 (upd H8 D<|.lst<|vs++[v8]):=jZ hD8;have Us:aG H₂ (upd H8 D<|.lst<|vs++[v8]):=λ b o e=>by rw[aE<|bt e LZ];exact Zj b o e
     have Tc:=re0 Xp;refine fin (vs++[v8]) (zs++[y]) I9 aP (by simp;lia) Us ⟨Us,⟨Tc.re.len,λ j l e=>?_,λ j k xs ys q e1=>absurd e1<|gB n is ρ j xs⟩,λ j xs q e1=>absurd e1<|gB n is ρ j xs,Tc.nJ,Tc.yj⟩ ⟨UC,er2,by rw[B54];exact ez⟩<|(((dz.up IH).up Xp).append<|aI.cons dy aI.nil).ups O8;let⟨v,h1,h2⟩:=Tc.re.get j l e;refine⟨v,h1,?_⟩;cases l with
     |val dd=>exact Den.ups (show Den X.K H8 dd v from h2) O8
     |own xs=>exact absurd e<|gB n is ρ j xs
     |bor xs=>let⟨v',h3,h4⟩:=Tc.nJ j xs e;rw[h1]at h3;cases h3;exact h4.re h2 Tc.same Us O8
     |dc ks=>exact absurd e<|sh n is ρ j ks
     |Hf ks=>let⟨q',o',as,rfl,gC,t'⟩:=h2;exact⟨q',o',as,rfl,O8.eH _ _ _ gC,t'.ups O8⟩
     |RJ ps=>let⟨q',o',rfl,gC⟩:=h2;exact⟨q',o',rfl,O8.eH _ _ _ gC⟩
     |exc c=>let⟨q',o',u',C',rfl,gC,r1,r2,r3⟩:=h2;exact⟨q',o',u',C',rfl,O8.eH _ _ _ gC,r1,r2,r3.ups O8⟩
   .have:i=ds.length:=by lia
    subst this;rw[B50]at er;cases er;rw[A54]at ez;subst ez;refine da (T.done (o9 X N' scope cl C fp s₂ H₂) rfl rfl rfl c! _ [] s' σ3 H3 (λ _ _=>False) I3 (C1 Wr) ID<|zst H3 HJ) ?_;rintro r s4 ⟨hr,J4⟩;subst hr;let⟨m',HS,_⟩:=J4.loc;have JI:∀b o,s₂.heap.get? b=AC o->b≠C:=λ b o e=>(below b (by rw[<-hD];exact A03 e)).1;have I9:Inv X χ σ H3 s4:=I2.Lk (s':=s4) J4.os J4.base J4.cy J4.bare λ b hb=>⟨(fo b hb).2.2.2.1,(fo b hb).2.1,(fo b hb).2.2.2.2.1,(fo b hb).2.2.2.2.2⟩
    have Zh:s₂.heap.objs.size<=C:=by rw[hD,hC];exact A61 _
    refine⟨rfl,D,H3,vs,m',rfl,HS,I9,⟨J4.free,?_,A27 I2.sz Zh,λ x c e=>?_,λ p hp=>?_⟩,LZ,HJ,Yv,dz⟩
    .exact A42<|A20 I2.lt Zh
    .exact A14<|A20 (wq x c e).1 Zh
    .exact JI p.1 p.2 (I2.pin p hp).1
 have vL:codeAny (model X.prog X.w) X.A (.compStart (.ListComp elt [⟨tg,iter,ifs,0⟩] scope pos) 0 (.ref it) (.ref D)<|compEnvC scope cl C X.env) (λ r s'=>r=.ok .next/\YN X χ σ H₂ ys (.ref D) C s')
  {s₂ with heap:=h₁,toks:=s₂.toks+([]:γ (Str×ζ)).length}:=codeAny_compStart_list loop<|T.self _ 0 _ _ _ st4 loop
 exact vL
theorem jD(h:k<n)(d:Z.D)(ρ ρ1:Z.Env)(e:Z.bA k d ρ=.ok ρ1):ρ1.length=ρ.length/\∀i,n<=i->ρ1[i]?=ρ[i]?:=by cases e;exact⟨by simp,λ i hi=>A28 ∅⟩
theorem sS:∀ks,(∀k∈ks,k<n)->∀ds ρ ρ1,Z.vS ks ds ρ=.ok ρ1->ρ1.length=ρ.length/\∀i,n<=i->ρ1[i]?=ρ[i]?
|[],_,[],ρ,ρ1,e=>by cases e;exact⟨rfl,λ _ _=>rfl⟩
|[],_,_::_,_,_,e=>by cases e
|_::_,_,[],_,_,e=>by cases e
|k::ks,h,d::ds,ρ,ρ1,e=>by let⟨h1,h2⟩:=sS ks (λ k hk=>h k<|A11 _ hk) ds _ ρ1 e;refine⟨by rw[h1];simp,λ i hi=>?_⟩;rw[h2 i hi];have:=h k A18;exact A28 ∅
theorem m_(h:∀k∈ks,k<n)(d:Z.D)(ρ ρ1:Z.Env)(e:Z.kq ks d ρ=.ok ρ1):ρ1.length=ρ.length/\∀i,n<=i->ρ1[i]?=ρ[i]?:=by
 unfold Z.kq at e;split at e
 .exact sS ks h _ ρ ρ1 e
 .cases e
def W8(X:Cx)(ifs:γ ι)(t:Z.TF):Prop:=∀(χ:γ (δ×μ))(s:η)(σ:St)(H:Hp)(Q:Bool->Hp->Prop),Inv X χ σ H s->Ug X.K t σ H Q ->
 FM (model X.prog X.w) X.A (forIn ifs Ch λ c r=>if r=Ch then do let ok ←isTrue c X.env (eval c X.env);pure (IN ok)else pure (IN r)) (TP X χ σ Q) X.xe s
structure _root_.ZQ.OR(X:Cx)(ifs:List Expr)(t:Z.TF):Prop where p:W8 X ifs t
theorem _root_.ZQ.yQ:ZQ.OR X [] Z.cF:=⟨by rintro χ s σ H Q I ⟨ρ,b,r,e,k⟩;cases e;exact wpAny_tests_nil ⟨H,I,k H<|aG.refl H⟩⟩
theorem _root_.ZQ.pB(h:ZQ.QT X c t):ZQ.OR X [c] t:=⟨λ χ s σ H Q I w=>wpAny_tests_one<|h.p χ s σ H Q I w⟩
theorem B?(c!:X.calm=Ch)(hi:DI X tg iter it)(B:yF X.N N' n is scope X.env.scope)
 (hG:∀d ρ ρ1,G d ρ=.ok ρ1->ρ1.length=ρ.length/\∀i,n<=i->ρ1[i]?=ρ[i]?)
 (hg:∀cl C fp s H H0,DG (o9 X N' scope cl C fp s H) H0 tg G) (ht:∀cl C fp s H,W8 (o9 X N' scope cl C fp s H) ifs t) (he:∀cl C fp s H,DE (o9 X N' scope cl C fp s H) elt fe)
 (hs:∀x,foldedSetIterable iter X.env x=pure x)
 (I:Inv X χ σ H s) (re:RE X.K H σ ρ) (ec:Z.cM it n is G t fe ρ=.ok ys)
 (fin:∀acc C s' H₂,aG H H₂->YN X χ σ H₂ ys acc C s'->compPost (model X.prog X.w) X.A X.xe use Q acc C (.ok .next) s') :
 FM (model X.prog X.w) X.A (comprehension (.ListComp elt [⟨tg,iter,ifs,0⟩] scope pos) scope X.env ps (newList []) AT (eval iter X.env) use) Q X.xe s:=by
 let⟨ds,ei,ec⟩:=WP ec;unfold Z.guard at ec;split at ec
 .rename_i ψ;have sP:∀y∈scope.names,y.2=.free->∃c,X.env.cells.lookup y.1=AC c:=λ y hy hf=>I.ok.has y.1<|B.free y hy hf;let⟨cl,kR,jW,vO⟩:=ky sP;refine wpAny_comprehension_free rfl hs kR B.kind B.loc ?_;refine da (hi χ s σ H (λ J H₂=>aG H H₂/\F_ X.K J _ ds) I ⟨ρ,ds,re,ei,λ J H' s' z=>⟨s',z⟩⟩) λ x s₁ h₁=>?_;refine da h₁ ?_;rintro _a s₂ ⟨it',fp,tn,J,H₂,e2,I2,T,Qn,fo,sm,z⟩;subst e2;refine da (Lg (R:=Den X.K) (iter:=iter) (pos:=pos) c! B I2 T Qn fo z.go z.CB z.stop (re.up sm) jW vO hG (λ C s H H0=>hg cl C fp s H H0) (λ C s s' H' nT σ' PZ Q' I' w=>ht cl C fp s H' nT s' σ' PZ Q' I' w) (λ C s H=>he cl C fp s H) ψ ec) λ acc s₃ h₃=>?_;refine da h₃ λ Sw s₄ h₄=>A72 h₄ ?_;rintro r s' ⟨er,UE⟩;subst er;exact fin acc _ s' H₂ sm UE
 .cases ec
theorem _root_.ZQ.b8(hi:ZQ.QI X tg iter it)(he:∀{cl C fp s H},ZQ.QE (o9 X N' scope cl C fp s H) elt fe)(ht:∀{cl C fp s H},ZQ.OR (o9 X N' scope cl C fp s H) ifs t:=by exact yQ)(hg:∀{cl C fp s H H0},ZQ.QG (o9 X N' scope cl C fp s H) H0 tg G:=by exact cU)(c!:X.calm=Ch:=by rfl)(B:yF X.N N' n is scope X.env.scope:=by exact ZS.yF.of (by kernel_rfl))(hG:∀d ρ ρ1,G d ρ=.ok ρ1->ρ1.length=ρ.length/\∀i,n<=i->ρ1[i]?=ρ[i]?:=by exact ZS.jD ∅)(hs:∀x,foldedSetIterable iter X.env x=pure x:=by intro _;rfl):ZQ.QL X (.ListComp elt [⟨tg,iter,ifs,0⟩] scope pos) (Z.cM it n is G t fe):=⟨by have hg:∀cl C fp s H H0,DG (o9 X N' scope cl C fp s H) H0 tg G:=λ _ _ _ _ _ _=>hg.p;have ht:∀cl C fp s H,W8 (o9 X N' scope cl C fp s H) ifs t:=λ _ _ _ _ _=>ht.p;have he:∀cl C fp s H,DE (o9 X N' scope cl C fp s H) elt fe:=λ _ _ _ _ _=>he.p;intro χ s σ H Q I w;let⟨ρ,ys,re,e,k⟩:=w;rw[eval_ListComp];refine B? c! hi.p B hG hg ht he hs I re e λ acc C s' H₂ sm UE=>?_;let⟨D,H',vs,m,rfl,LV,I',off,LZ,S9,hD,dz⟩:=UE;exact⟨m,LV,λ h' Px=>⟨.ref D,H',off.inv I' Px,rfl,k D vs H' (sm.trans S9) (sm.free LZ) hD dz⟩⟩⟩
theorem Lf(c!:X.calm=Ch)(hN:X.N.Nodup)(VZ:X.N[i]?=AC x)(hx:Loc X.env.scope x)
 (VS:swapsWith (.ListComp elt [⟨tg,iter,ifs,0⟩] scope pos) (AC<|.Name x px) IE.line X.env=pure Ch) (hi:DI X tg iter it) (B:yF X.N N' n is scope X.env.scope) (hG:∀d ρ ρ1,G d ρ=.ok ρ1->ρ1.length=ρ.length/\∀i,n<=i->ρ1[i]?=ρ[i]?)
 (hg:∀cl C fp s H H0,DG (o9 X N' scope cl C fp s H) H0 tg G) (ht:∀cl C fp s H,W8 (o9 X N' scope cl C fp s H) ifs t) (he:∀cl C fp s H,DE (o9 X N' scope cl C fp s H) elt fe)
 (hs:∀x,foldedSetIterable iter X.env x=pure x) (hf:X.fn x=Ch\/X.env.scope.names.lookup x=AC .local) (I:Inv X χ σ H s) (re:RE X.K H σ ρ) (e:Z.cM it n is G t fe ρ=.ok ys)
 (k:∀q vs H',aG H H'->H q=At->H' q=AC (.lst vs)->aI X.K H' ys vs->∃PZ,(∀s',Inv X χ (σ.set i<|some<|.ref q) H' s'->Inv X χ (σ.set i<|some<|.ref q) PZ s')/\D.nx (σ.set i<|some<|.ref q) PZ) :
 FM (model X.prog X.w) X.A (exec (.Assign [.Name x px] (.ListComp elt [⟨tg,iter,ifs,0⟩] scope pos) IE) X.env) (SP X χ D) X.xe s:=by
 rw[exec_Assign_Name_used _ _ _ _ VS];refine T0<|B52<|T0 ?_;refine T0<|A21 (B? c! hi B hG hg ht he hs I re e λ acc C s' H₂ sm UE=>?_) (λ _ s' hq=>M2<|M2 hq) λ _ _ e=>e;let⟨q,H',vs,m,rfl,LV,I',off,LZ,S9,hD,dz⟩:=UE;let⟨PZ,hI,hnx⟩:=k q vs H' (sm.trans S9) (sm.free LZ) hD dz;refine wpAny_assign_Name<|xN I' hN VZ hx (v:=.ref q) rfl (λ S_ I'' ⟨⟨a,sb,ha⟩,_⟩=>?_) hf;have hCa:C≠a:=by
  rcases ha with rfl|ha
  .exact off.loc
  .exact λ z=>off.cell x a ha z.symm
 refine⟨m,LV.sameBut sb hCa,λ h' Px=>⟨_,PZ,?_,hnx⟩⟩;exact hI _<|off.inv I'' Px
theorem Oq(c!:X.calm=Ch)(hN:X.N.Nodup)(VZ:X.N[i]?=AC x)(hx:Loc X.env.scope x)
 (hi:DI X tg iter it) (B:yF X.N N' n is scope X.env.scope) (hG:∀d ρ ρ1,G d ρ=.ok ρ1->ρ1.length=ρ.length/\∀i,n<=i->ρ1[i]?=ρ[i]?)
 (hg:∀cl C fp s H H0,DG (o9 X N' scope cl C fp s H) H0 tg G) (ht:∀cl C fp s H,W8 (o9 X N' scope cl C fp s H) ifs t) (he:∀cl C fp s H,DE (o9 X N' scope cl C fp s H) elt fe)
 (VS:swapsWith (.ListComp elt [⟨tg,iter,ifs,0⟩] scope pos) (AC<|.Name x px) IE.line X.env=pure Ch:=by rfl)
 (hs:∀x,foldedSetIterable iter X.env x=pure x:=by intro _;rfl) (hf:Fl X x:=by trivial) :
 DS X H0 (.Assign [.Name x px] (.ListComp elt [⟨tg,iter,ifs,0⟩] scope pos) IE) (Z.A8 i<|Z.cM it n is G t fe):=by
 intro χ s σ H D I w;let⟨ρ,fl,rs,e,k⟩:=w;let⟨ys,ey,e⟩:=WP e;cases e;refine Lf c! hN VZ hx VS hi B hG hg ht he hs hf I rs.re ey λ q vs H' s' hn h1 t'=>⟨H',λ _ j=>j,?_⟩
 exact k _ H' (lN s')<|(rs.up s').IM h1 t' (rs.same.free hn) λ j xs _ e=>rs.noq hn j xs e
theorem _root_.ZQ.uA(c!:X.calm=Ch)(hN:X.N.Nodup)(VZ:X.N[i]?=AC x)(hx:Loc X.env.scope x)
 (hi:ZQ.QI X tg iter it) (B:yF X.N N' n is scope X.env.scope) (hG:∀d ρ ρ1,G d ρ=.ok ρ1->ρ1.length=ρ.length/\∀i,n<=i->ρ1[i]?=ρ[i]?)
 (hg:∀cl C fp s H H0,ZQ.QG (o9 X N' scope cl C fp s H) H0 tg G) (ht:∀cl C fp s H,ZQ.OR (o9 X N' scope cl C fp s H) ifs t) (he:∀cl C fp s H,ZQ.QE (o9 X N' scope cl C fp s H) elt fe)
 (VS:swapsWith (.ListComp elt [⟨tg,iter,ifs,0⟩] scope pos) (AC<|.Name x px) IE.line X.env=pure Ch:=by rfl)
 (hs:∀x,foldedSetIterable iter X.env x=pure x:=by intro _;rfl) (hf:Fl X x:=by trivial) :
 ZQ.QS X H0 (.Assign [.Name x px] (.ListComp elt [⟨tg,iter,ifs,0⟩] scope pos) IE) (Z.bG i<|Z.eL<|Z.cM it n is G t fe):=⟨by
 have hg:=λ y0 y1 y2 y3 y4 y5=>(hg y0 y1 y2 y3 y4 y5).p;have ht:=λ y0 y1 y2 y3 y4=>(ht y0 y1 y2 y3 y4).p;have he:=λ y0 y1 y2 y3 y4=>(he y0 y1 y2 y3 y4).p;have h1:DS X H0 _ _:=Oq c! hN VZ hx hi.p B hG hg ht he VS hs hf;intro χ s σ H D I w;let⟨ρ,fl,rs,e,k⟩:=w;let⟨d,ed,e⟩:=WP e;cases e;unfold Z.eL at ed;cases ey:Z.cM it n is G t fe ρ with
 |bad=>rw[ey]at ed;cases ed
 |ok ys=>
  rw[ey]at ed;cases ed;refine da (h1 χ s σ H {D with nx:=λ σ' H'=>iM H H'/\RS X.K H0 H' σ' _} I ⟨ρ,.nx<|ρ.set i<|some<|.own ys,rs,by show(Z.cM it n is G t fe ρ).bind _=_;rw[ey];rfl,λ σ' H' s' r'=>⟨s',r'⟩⟩) λ fl' s' h=>?_;cases fl' with
  |next=>
   let⟨σ',H',I',AY,Cv⟩:=h;by_cases hl:i<ρ.length
   .have ei:(ρ.set i<|some<|Z.L.own ys)[i]?=AC (AC<|.own ys):=A41 hl;let⟨v,si,q,us,rfl,hq,t'⟩:=Cv.re.get i _ ei;let⟨o,I2⟩:=oR I' hq;have r2:=Cv.eH (o:=o) ei si hq t';rw[List.set_set]at r2;exact⟨σ',_,I2,k σ' _ (AY.trans<|jZ hq) r2⟩
   .have e0:ρ.set i (AC<|Z.L.own ys)=ρ:=C36 ∅;have e1:ρ.set i (AC<|Z.L.val<|.lst ys)=ρ:=C36 ∅;rw[e0]at Cv;have k':=k;rw[e1]at k';exact⟨σ',H',I',k' σ' H' AY Cv⟩
  |brk=>exact h
  |cont=>exact h
  |ret u=>exact h⟩
end
section
variable{P:ο}{w:ξ}{K:Db}{mg:Str->ε ζ}{base:ν}
theorem mV(t:aI K H ds vs)(hl:vs.length<=N.length):RS K H H (L2.start N vs) (Z.start N.length ds):=by
 have Bp:∀(i:Nat) xs,(Z.start N.length ds)[i]?≠AC (AC<|.own xs):=by
  intro i xs e;unfold Z.start at e;by_cases hi:i<ds.length
  .rw[A25 (by simpa using hi),A08]at e;cases q:ds[i]? with
   |none=>rw[q]at e;cases e
   |some d=>rw[q]at e;cases e
  .rw[A44 (by simpa using hi),A45]at e;split at e<;>cases e
 have Vf:∀(i:Nat) xs,(Z.start N.length ds)[i]?≠AC (AC<|.bor xs):=by
  intro i xs e;unfold Z.start at e;by_cases hi:i<ds.length
  .rw[A25 (by simpa using hi),A08]at e;cases q:ds[i]? with
   |none=>rw[q]at e;cases e
   |some d=>rw[q]at e;cases e
  .rw[A44 (by simpa using hi),A45]at e;split at e<;>cases e
 have Ve:∀(i:Nat) ks,(Z.start N.length ds)[i]?≠AC (AC<|.dc ks):=by
  intro i ks e;unfold Z.start at e;by_cases hi:i<ds.length
  .rw[A25 (by simpa using hi),A08]at e;cases q:ds[i]? with
   |none=>rw[q]at e;cases e
   |some d=>rw[q]at e;cases e
  .rw[A44 (by simpa using hi),A45]at e;split at e<;>cases e
 have ψ:=t.length;refine⟨aG.refl H,⟨?_,λ i l e=>?_,λ i j xs ys q e1=>absurd e1<|Bp i xs⟩,λ i xs q e1=>absurd e1<|Bp i xs,λ i xs e1=>absurd e1<|Vf i xs,jc.non Ve⟩
 .unfold Z.start L2.start;simp;lia
 .unfold Z.start at e;by_cases hi:i<ds.length
  .rw[A25 (by simpa using hi),A08]at e;cases q:ds[i]? with
   |none=>rw[q]at e;cases e
   |some d=>rw[q]at e;cases e;let⟨v,h1,h2⟩:=t.get q;refine⟨v,?_,h2⟩;unfold L2.start;rw[A25 (by simp;lia),A08,h1];rfl
  .rw[A44 (by simpa using hi),A45]at e;split at e<;>cases e
theorem fnZ{st:θ}(F:Cs K x qual st f fd)(S:a! N ps (ai st))
 (hb:∀ bh A outer s H E,bR k (A.deeper<|envOfC qual (ai st) s.heap.objs.size f bh) ->
  L! (dO jd P w K mg base N qual (ai st) f bh A outer s H E).gK H (aJ st) b):ee P w K mg base jd (k+1) f fd ps (Ad K<|Z.fn ps.length N.length b):=by
 have ψ:∀vs H Q E,Ad K (Z.fn ps.length N.length b) vs H Q E->vs.length=ps.length:=by
  rintro vs H Q E ⟨ds,d,t,e,_⟩;unfold Z.fn at e;split at e
  .rename_i h;rw[t.length];exact h
  .cases e
 refine F.ok S ψ λ bh A outer s H vs Q E hr h=>⟨_,hb bh A outer s H E hr,?_⟩;have hl:=ψ vs H Q E h;let⟨ds,d,t,e,k⟩:=h;have fA:ps.length<=N.length:=by have:=A10 List.length S.pre;rw[A26]at this;lia
 have rs:RS K H H _ (Z.start N.length ds):=mV t ∅;unfold Z.fn at e;split at e
 .cases eb:b (Z.start N.length ds)with
  |bad=>rw[eb]at e;cases e
  |ok fl=>
   rw[eb]at e;refine⟨_,fl,rs,eb,?_⟩;cases fl with
   |rt d'=>cases e;exact λ v H' s' dv=>k v H' s' dv
   |nx ρ'=>cases e;exact λ σ' H' _ Cv=>k .non H' Cv.same j9
   |bk ρ'=>cases e
   |ct ρ'=>cases e
 .cases e
end
def PR(N N':γ Str)(n:Nat)(is:γ Nat)(sc QU:ς):Bool:=
 (sc.kind==.function)&&sc.names.all (λ y=>y.2 != .cell)&&sc.names.all (λ y=>y.2 != .local||sc.names.lookup y.1==AC .local) &&
 sc.names.all (λ y=>y.2 != .free||QU.names.lookup y.1==AC .cell||QU.names.lookup y.1==AC .free)&&(N'.length==n+is.length) &&
 (FB is.length).all (λ j=>match is[j]?,N'[n+j]? with
  |some i,AC x=>N[i]?==AC x&&sc.names.lookup x==AC .free
  | _,_=>AT) &&
 (FB n).all (λ j=>match N'[j]? with
  |some x=>sc.names.lookup x==AC .local
  | none=>AT)
theorem yF.of(h:PR N N' n is sc QU=Ch):yF N N' n is sc QU:=by
 unfold PR at h;simp only[A35,A30,A29,AB2,bne_iff_ne,A32]at h;let⟨⟨⟨⟨⟨⟨h1,h2⟩,h3⟩,h4⟩,h5⟩,h6⟩,h7⟩:=h;refine⟨h1,h2,λ y hy e=>?_,λ y hy e=>?_,h5,λ j i e=>?_,λ j hj=>?_⟩
 .rcases h3 y hy with q|q
  .exact absurd e q
  .exact q
 .rcases h4 y hy with(q|q)|q
  .exact absurd e q
  .exact .inl q
  .exact .inr q
 .have hj:=(A04.mp e).1;have q:=h6 j hj;rw[e]at q;cases r:N'[n+j]? with
  |none=>rw[r]at q;cases q
  |some x=>rw[r]at q;simp only[A35,A29]at q;exact⟨x,rfl,q.1,q.2⟩
 .have q:=h7 j hj;cases r:N'[j]? with
  |none=>rw[r]at q;cases q
  |some x=>rw[r]at q;exact⟨x,rfl,A29.mp q⟩
structure Def(K:Db)(mg:Str->Option Value)(x:Str)(st:Stmt)(ps:List Str):Prop where
 ex:∃f fd,Cs K x x st f fd/\mg x=AC (.ref f)/\Binds K fd ps []
structure i_(P:Program)(w:World)(K:Db)(mg:Str->Option Value)(base:Heap)(x:Str)(k:Nat)(ps:List Str)(m:List Z.D->Z.Res Z.D):Prop where
 ex:∃g fd,ee P w K mg base jd k g fd ps (Ad K m)/\mg x=AC (.ref g)/\FS K (.ref g)=Ch/\Binds K fd ps []
theorem i_.mk'{K:Db}{st:θ}(d:Def K mg x st ps)(S:a! N ps (ai st))
 (hb:∀ f bh A outer s H E,bR k (A.deeper<|envOfC x (ai st) s.heap.objs.size f bh) ->
  L! (dO jd P w K mg base N x (ai st) f bh A outer s H E).gK H (aJ st) b):i_ P w K mg base x (k+1) ps (Z.fn ps.length N.length b):=by
 let⟨f,fd,F,hm,uw⟩:=d.ex;exact⟨f,fd,fnZ F S<|hb f,hm,F.kp,uw⟩
section
variable{X:Cx}{e:ι}{es:γ ι}{pos:Pos}
theorem _root_.ZQ.az(C:i_ X.prog X.w X.K X.mg X.base x k ps m)(ha:ZQ.QA X (e::es) ar)(gP:(x==("__debug__"))=AT:=by decide +kernel)(he:Se e es X.env:=by rfl)(fA:Pn pos es X.env:=by rfl)(hr:bR k X.A:=by first| assumption| exact L2.bR.mono (by assumption) (by first| decide| lia))(hg:Gl X x:=by rfl):ZQ.QE X (.Call (.Name x p1) (e::es) [] pos) (Z.aD m ar):=
 ⟨let ⟨_,_,F,hm,hk,hb⟩:=C.ex;OA F hr hg hm hk hb ha.p gP he fA⟩
end
theorem _root_.ZQ.aN(hm:X.mg x=AC (.int i t))(hb:Nd x:=by decide +kernel)(hg:Gl X x:=by rfl):ZQ.QE X (.Name x pos) (Z.eC<|.int i):=
 ⟨Oy (v:=.int i) hg hm ⟨t,rfl⟩ (λ _=>dP) hb⟩
theorem C6{K:Db}{ns:γ Int}(hO:OV H)(h:ka K H a (ns.map V.int)):Den K H (.lst<|ns.map Z.D.int) (.ref a):=by
 refine zU ?_<|aI.zints ns;rcases h with(h|⟨o,h⟩)|h
 .rcases hO a with z|⟨o,xs,z⟩|⟨q,z⟩
  .rw[h]at z;cases z
  .rw[h]at z;cases z
  .rw[h]at z;cases z
 .exact .inl ⟨o,h⟩
 .exact .inr h
theorem Rr{K:Db}{ns:γ Int}(hO:OV H)(h:ka K H a (ns.map V.int))(e:m [.lst (ns.map .int)]=.ok (.bl Ch)):Ad K m [.ref a] H (λ v _=>v=.bl Ch) λ _ _ _=>False:=
 ⟨_,_,aI.cons (C6 hO h) aI.nil,e,λ v H' _ d=>by simpa only[Den]using d⟩
section
variable{X:Cx}{e a b:ι}{pos:Pos}{f fa fb:Z.EF}
theorem AV(x y:γ Nat):((⟨x.toArray⟩)==(⟨y.toArray⟩:Str))=(x==y):=by
 rw[A78,A29,A29];constructor
 .intro h;injection h with h;simpa using h
 .rintro rfl;rfl
theorem rcS{K:Db}(h:Z.L6 d1 d2=AC k)(h1:b_ K H d1 v1)(h2:b_ K H d2 v2)(r1:RelV v1 u1)(r2:RelV v2 u2):UV A s u1 u2 k/\PP A s u1 u2 k/\SL A s u1 u2 (!k):=by
 unfold Z.L6 at h;split at h
 .cases h;rw[h1.non]at r1;rw[h2.non]at r2;cases r1;cases r2;exact⟨SeqAt.RcAt.none_none,C05 _,SeqAt.RcNeAt.none_none⟩
 .cases h;rw[h1.bl]at r1;rw[h2.bl]at r2;cases r1;cases r2;exact⟨SeqAt.RcAt.bool_bool _ _,SeqAt.EqAt.bool_bool _ _,SeqAt.RcNeAt.bool_bool _ _⟩
 .cases h;rw[h1.bl]at r1;rw[h2.int]at r2;cases r1;let⟨t,rfl⟩:=r2;exact⟨SeqAt.RcAt.bool_int _ _ _,SeqAt.EqAt.bool_int _ _ _,SeqAt.RcNeAt.bool_int _ _ _⟩
 .cases h;rw[h1.int]at r1;rw[h2.bl]at r2;cases r2;let⟨t,rfl⟩:=r1;exact⟨SeqAt.RcAt.int_bool _ _ _,SeqAt.EqAt.int_bool _ _ _,SeqAt.RcNeAt.int_bool _ _ _⟩
 .cases h;rw[h1.int]at r1;rw[h2.int]at r2;let⟨t,rfl⟩:=r1;let⟨t',rfl⟩:=r2;exact⟨SeqAt.RcAt.int_int _ _ _ _,SeqAt.EqAt.int_int _ _ _ _,SeqAt.RcNeAt.int_int _ _ _ _⟩
 .cases h;rw[h1.str]at r1;rw[h2.str]at r2;let⟨t,rfl⟩:=r1;let⟨t',rfl⟩:=r2;rw[<-AV];exact⟨SeqAt.RcAt.str_str _ _ _ _,SeqAt.EqAt.str_str _ _ _ _,SeqAt.RcNeAt.str_str _ _ _ _⟩
 .cases h;rw[h1.non]at r1;rw[h2.bl]at r2;cases r1;cases r2;exact⟨SeqAt.RcAt.none_bool _,SeqAt.EqAt.none_bool _,SeqAt.RcNeAt.none_bool _⟩
 .cases h;rw[h1.non]at r1;rw[h2.int]at r2;cases r1;let⟨t,rfl⟩:=r2;exact⟨SeqAt.RcAt.none_int _ _,SeqAt.EqAt.none_int _ _,SeqAt.RcNeAt.none_int _ _⟩
 .cases h;rw[h1.non]at r1;rw[h2.str]at r2;cases r1;let⟨t,rfl⟩:=r2;exact⟨SeqAt.RcAt.none_str _ _,SeqAt.EqAt.none_str _ _,SeqAt.RcNeAt.none_str _ _⟩
 .cases h;rw[h1.bl]at r1;rw[h2.non]at r2;cases r1;cases r2;exact⟨SeqAt.RcAt.bool_none _,SeqAt.EqAt.bool_none _,SeqAt.RcNeAt.bool_none _⟩
 .cases h;rw[h1.bl]at r1;rw[h2.str]at r2;cases r1;let⟨t,rfl⟩:=r2;exact⟨SeqAt.RcAt.bool_str _ _ _,SeqAt.EqAt.bool_str _ _ _,SeqAt.RcNeAt.bool_str _ _ _⟩
 .cases h;rw[h1.int]at r1;rw[h2.non]at r2;cases r2;let⟨t,rfl⟩:=r1;exact⟨SeqAt.RcAt.int_none _ _,SeqAt.EqAt.int_none _ _,SeqAt.RcNeAt.int_none _ _⟩
 .cases h;rw[h1.int]at r1;rw[h2.str]at r2;let⟨t,rfl⟩:=r1;let⟨t',rfl⟩:=r2;exact⟨SeqAt.RcAt.int_str _ _ _ _,SeqAt.EqAt.int_str _ _ _ _,SeqAt.RcNeAt.int_str _ _ _ _⟩
 .cases h;rw[h1.str]at r1;rw[h2.non]at r2;cases r2;let⟨t,rfl⟩:=r1;exact⟨SeqAt.RcAt.str_none _ _,SeqAt.EqAt.str_none _ _,SeqAt.RcNeAt.str_none _ _⟩
 .cases h;rw[h1.str]at r1;rw[h2.bl]at r2;cases r2;let⟨t,rfl⟩:=r1;exact⟨SeqAt.RcAt.str_bool _ _ _,SeqAt.EqAt.str_bool _ _ _,SeqAt.RcNeAt.str_bool _ _ _⟩
 .cases h;rw[h1.str]at r1;rw[h2.int]at r2;let⟨t,rfl⟩:=r1;let⟨t',rfl⟩:=r2;exact⟨SeqAt.RcAt.str_int _ _ _ _,SeqAt.EqAt.str_int _ _ _ _,SeqAt.RcNeAt.str_int _ _ _ _⟩
 .cases h
def L7(g:Z.D->Z.D->ε Bool)(as bs:γ Z.D)(j:Nat):Bool:=match as[j]?,bs[j]? with
|some x,AC y=>(g x y).getD AT
|_,_=>Ch
theorem mO:∀{as bs}{k},Z.allEq g as bs=AC k->k=((FB<|min as.length bs.length).all (L7 g as bs)&&as.length == bs.length)/\∀j x y,as[j]?=AC x->bs[j]?=AC y->g x y=AC (L7 g as bs j)
|[],[],k,h=>by cases h;exact⟨rfl,λ j x y e=>by simp at e⟩
|[],_::_,k,h=>by cases h;exact⟨by simp,λ j x y e=>by simp at e⟩
|_::_,[],k,h=>by cases h;exact⟨by simp,λ j x y _ e=>by simp at e⟩
|a::as,b::bs,k,h=>by
 unfold Z.allEq at h;split at h
 .rename_i p q e1 e2;cases h;let⟨h1,h2⟩:=mO e2;refine⟨?_,λ j x y ex ey=>?_⟩
  .have:min (a::as).length (b::bs).length=min as.length bs.length+1:=by simp only[A38];lia
   rw[this,C37,B55,List.all_map,h1];have e0:L7 g (a::as) (b::bs) 0=p:=by simp[L7,e1]
   have es:(L7 g (a::as) (b::bs)∘Nat.succ)=L7 g as bs:=by funext j;simp[L7]
   have el:((a::as).length==(b::bs).length)=(as.length==bs.length):=by rw[A78];simp
   rw[e0,es,el,Bool.and_assoc]
  .cases j with
   |zero=>simp at ex ey;subst ex ey;simp[L7,e1]
   |succ j=>have:=h2 j x y (by simpa using ex) (by simpa using ey);simpa[L7]using this
 .cases h
theorem BF(I:Inv X χ σ H s)(n:Nat)(hu:A.units+n<cLine)
 (ih:∀ {A}{d1 d2}{v1 v2}{u1 u2}{k},A.units+n<cLine->Z.eY n d1 d2=AC k->b_ X.K H d1 v1->b_ X.K H d2 v2->RelV v1 u1->RelV v2 u2->UV A s u1 u2 k/\PP A s u1 u2 k/\SL A s u1 u2 (!k))
  (hk:Z.allEq (Z.eY n) as bs=AC k) (ta:aI X.K H as vs) (tb:aI X.K H bs ws) (ra:Vals vs bT) (rb:Vals ws iP) :
  ∀j h1 (h2:j<iP.toArray.size),PP A s bT.toArray[j] iP.toArray[j] (L7 (Z.eY n) as bs j):=by
 intro j hj1 Ym;have la:=ta.length;have lb:=tb.length;have XG:=ra.length;have ZD:=rb.length;simp only[A09]at hj1 Ym;obtain⟨x,ex⟩:∃x,as[j]?=AC x:=⟨as[j]'∅,A01 ∅⟩
 obtain⟨y,ey⟩:∃y,bs[j]?=AC y:=⟨bs[j]'∅,A01 ∅⟩
 let⟨vx,evx,dx⟩:=ta.get ex;let⟨vy,PH,dy⟩:=tb.get ey;let⟨ux,eux,rx⟩:=ra.get evx;let⟨uy,euy,ry⟩:=rb.get PH;have e1:bT.toArray[j]=ux:=by have:=A01 hj1;rw[eux]at this;simpa using(A06 this).symm
 have e2:iP.toArray[j]=uy:=by have:=A01 Ym;rw[euy]at this;simpa using(A06 this).symm
 rw[e1,e2];exact(ih hu ((mO hk).2 j x y ex ey) (.inl dx) (.inl dy) rx ry).2.1
theorem K0{K:Db}(h:Z.L6 d1 d2=AC k)(h1:b_ K H d1 v)(h2:b_ K H d2 v):k=Ch:=by
 unfold Z.L6 at h;split at h<;>first
  |(cases h;rfl)
  |(cases h;done)
  |(have e:=h1.bl.symm.trans h2.bl;cases h;injection e with e;subst e;simp)
  |(have e:=h1.int.symm.trans h2.int;cases h;injection e with e;subst e;simp)
  |(have e:=h1.str.symm.trans h2.str;cases h;injection e with e;rw[<-AV,e];simp)
  |(have e:=h1.bl.symm.trans h2.int;cases e)
  |(have e:=h1.int.symm.trans h2.bl;cases e)
  |(have e:=h1.non.symm.trans h2.bl;cases e)
  |(have e:=h1.non.symm.trans h2.int;cases e)
  |(have e:=h1.non.symm.trans h2.str;cases e)
  |(have e:=h1.bl.symm.trans h2.non;cases e)
  |(have e:=h1.bl.symm.trans h2.str;cases e)
  |(have e:=h1.int.symm.trans h2.non;cases e)
  |(have e:=h1.int.symm.trans h2.str;cases e)
  |(have e:=h1.str.symm.trans h2.non;cases e)
  |(have e:=h1.str.symm.trans h2.bl;cases e)
  |(have e:=h1.str.symm.trans h2.int;cases e)
theorem vE{K:Db}(ih:∀{d1 d2}{v}{k},Z.eY n d1 d2=AC k->b_ K H d1 v->b_ K H d2 v->k=Ch)(h:Z.allEq (Z.eY n) as bs=AC k)(ta:aI K H as vs)(tb:aI K H bs vs):k=Ch:=by
 let⟨h1,h2⟩:=mO h;have la:=ta.length;have lb:=tb.length;rw[h1,show(as.length==bs.length)=Ch by simp;lia,C06,A30];intro j hj;rw[A32]at hj;obtain⟨x,ex⟩:∃x,as[j]?=AC x:=⟨as[j]'∅,A01 ∅⟩
 obtain⟨y,ey⟩:∃y,bs[j]?=AC y:=⟨bs[j]'∅,A01 ∅⟩
 let⟨vx,evx,dx⟩:=ta.get ex;let⟨vy,PH,dy⟩:=tb.get ey;rw[evx]at PH;cases PH;exact ih (h2 j x y ex ey) (.inl dx)<|.inl dy
theorem y9{a:δ}(I:Inv X χ σ H s)(h:nr X.K H a xs)(h':ka X.K H a ys):False:=by let⟨bT,r,⟨o,e,c,n,d⟩,_⟩:=I.tuple h;let⟨BE,r',⟨o',n',e',c',_⟩,_⟩:=I.list h';rw[e]at e';cases e';rw[c]at c';injection c' with z;exact absurd z ∅
def sq:Z.D->Bool
|.tup _=>Ch
|.lst _=>Ch
|_=>AT
def dc:Z.D->Bool
|.dct _ _=>Ch
|_=>AT
theorem K1(n:Nat)(h:(sq d1=AT/\sq d2=AT)\/dc d1=Ch\/dc d2=Ch):Z.eY n d1 d2=Z.L6 d1 d2:=by cases d1<;>cases d2<;>cases n<;>first|rfl|(simp[sq,dc]at h)
theorem Hi(I:Inv X χ σ H s)(n:Nat)(ih:∀m,m<n->∀{d1 d2}{v}{k},Z.eY m d1 d2=AC k->b_ X.K H d1 v->b_ X.K H d2 v->k=Ch)(h:Z.eY n d1 d2=AC k)(h1:b_ X.K H d1 v)(h2:b_ X.K H d2 v):k=Ch:=by
 cases d1<;>cases d2
 case tup.tup=>
  cases n with
  |zero=>cases h
  |succ n=>let⟨_,_,e,q,ta⟩:=h1.tup;let⟨_,_,e',q',tb⟩:=h2.tup;rw[e]at e';cases e';have:=I.q! q q';subst this;exact vE (ih n<|A58 n) h ta tb
 case tup.lst=>let⟨_,_,e,q,_⟩:=h1.tup;let⟨_,_,e',q',_⟩:=h2.lst;rw[e]at e';cases e';exact(y9 I q q').elim
 case lst.tup=>let⟨_,_,e,q,_⟩:=h1.lst;let⟨_,_,e',q',_⟩:=h2.tup;rw[e]at e';cases e';exact(y9 I q' q).elim
 case lst.lst=>
  cases n with
  |zero=>cases h
  |succ n=>let⟨_,_,e,q,ta⟩:=h1.lst;let⟨_,_,e',q',tb⟩:=h2.lst;rw[e]at e';cases e';have:=I.pZ q q';subst this;exact vE (ih n<|A58 n) h ta tb
 all_goals try (refine K0 ((K1 n ?_).symm.trans h) h1 h2;simp[sq,dc];done)
 all_goals first|(let⟨_,_,e,_⟩:=h2.tup;rw[e]at h1)|(let⟨_,_,e,_⟩:=h2.lst;rw[e]at h1)|(let⟨_,_,e,_⟩:=h1.tup;rw[e]at h2)|(let⟨_,_,e,_⟩:=h1.lst;rw[e]at h2)
 all_goals first|cases h1.non|cases h1.bl|cases h1.int|cases h1.str|cases h2.non|cases h2.bl|cases h2.int|cases h2.str
theorem B0(I:Inv X χ σ H s)(n:Nat):∀{d1 d2}{v}{k},Z.eY n d1 d2=AC k->b_ X.K H d1 v->b_ X.K H d2 v->k=Ch:=by
 induction n using Nat.strongRecOn with
 |_ n ih=>exact Hi I n ih
theorem ZC(I:Inv X χ σ H s)(n:Nat)(ih:∀m,m<n->∀{A}{d1 d2}{v1 v2}{u1 u2}{k},A.units+m<cLine->Z.eY m d1 d2=AC k->b_ X.K H d1 v1->b_ X.K H d2 v2->RelV v1 u1->RelV v2 u2->UV A s u1 u2 k/\PP A s u1 u2 k/\SL A s u1 u2 (!k))(hu:A.units+n<cLine)(h:Z.eY n d1 d2=AC k)(h1:b_ X.K H d1 v1)(h2:b_ X.K H d2 v2)(r1:RelV v1 u1)(r2:RelV v2 u2):
 UV A s u1 u2 k/\PP A s u1 u2 k/\SL A s u1 u2 (!k):=by
 have gE:A.units<cLine:=by lia
 have wQ:∀{ds}{v}{u},b_ X.K H (.tup ds) v->RelV v u->∃q bT,u=.ref q/\s.heap.IsTuple q bT:=λ hd rv=>by let⟨q,vs,rfl,hq,_⟩:=hd.tup;cases rv;let⟨bT,_,p,_⟩:=I.tuple hq;exact⟨q,bT.toArray,rfl,p⟩
 have w8:∀{ds}{v}{u},b_ X.K H (.lst ds) v->RelV v u->∃q bT,u=.ref q/\s.heap.IsList q bT:=λ hd rv=>by let⟨q,vs,rfl,hq,_⟩:=hd.lst;cases rv;let⟨bT,_,p,_⟩:=I.list hq;exact⟨q,bT.toArray,rfl,p.isList⟩
 cases d1<;>cases d2
 case non.tup=>
  obtain rfl:k=AT:=by cases n<;>cases h<;>rfl
  rw[h1.non]at r1;cases r1;let⟨q2,iP,rfl,p2⟩:=wQ h2 r2;exact⟨SeqAt.RcAt.none_tuple p2 gE,SeqAt.EqAt.none_tuple p2 gE,SeqAt.RcNeAt.none_tuple p2 gE⟩
 case non.lst=>
  obtain rfl:k=AT:=by cases n<;>cases h<;>rfl
  rw[h1.non]at r1;cases r1;let⟨q2,iP,rfl,p2⟩:=w8 h2 r2;exact⟨SeqAt.RcAt.none_list p2 gE,SeqAt.EqAt.none_list p2 gE,SeqAt.RcNeAt.none_list p2 gE⟩
 case bl.tup=>
  obtain rfl:k=AT:=by cases n<;>cases h<;>rfl
  rw[h1.bl]at r1;cases r1;let⟨q2,iP,rfl,p2⟩:=wQ h2 r2;exact⟨SeqAt.RcAt.bool_tuple _ p2 gE,SeqAt.EqAt.bool_tuple _ p2 gE,SeqAt.RcNeAt.bool_tuple _ p2 gE⟩
 case bl.lst=>
  obtain rfl:k=AT:=by cases n<;>cases h<;>rfl
  rw[h1.bl]at r1;cases r1;let⟨q2,iP,rfl,p2⟩:=w8 h2 r2;exact⟨SeqAt.RcAt.bool_list _ p2 gE,SeqAt.EqAt.bool_list _ p2 gE,SeqAt.RcNeAt.bool_list _ p2 gE⟩
 case int.tup=>
  obtain rfl:k=AT:=by cases n<;>cases h<;>rfl
  rw[h1.int]at r1;let⟨t1,rfl⟩:=r1;let⟨q2,iP,rfl,p2⟩:=wQ h2 r2;exact⟨SeqAt.RcAt.int_tuple _ _ p2 gE,SeqAt.EqAt.int_tuple _ _ p2 gE,SeqAt.RcNeAt.int_tuple _ _ p2 gE⟩
 case int.lst=>
  obtain rfl:k=AT:=by cases n<;>cases h<;>rfl
  rw[h1.int]at r1;let⟨t1,rfl⟩:=r1;let⟨q2,iP,rfl,p2⟩:=w8 h2 r2;exact⟨SeqAt.RcAt.int_list _ _ p2 gE,SeqAt.EqAt.int_list _ _ p2 gE,SeqAt.RcNeAt.int_list _ _ p2 gE⟩
 case str.tup=>
  obtain rfl:k=AT:=by cases n<;>cases h<;>rfl
  rw[h1.str]at r1;let⟨t1,rfl⟩:=r1;let⟨q2,iP,rfl,p2⟩:=wQ h2 r2;exact⟨SeqAt.RcAt.str_tuple _ _ p2 gE,SeqAt.EqAt.str_tuple _ _ p2 gE,SeqAt.RcNeAt.str_tuple _ _ p2 gE⟩
 case str.lst=>
  obtain rfl:k=AT:=by cases n<;>cases h<;>rfl
  rw[h1.str]at r1;let⟨t1,rfl⟩:=r1;let⟨q2,iP,rfl,p2⟩:=w8 h2 r2;exact⟨SeqAt.RcAt.str_list _ _ p2 gE,SeqAt.EqAt.str_list _ _ p2 gE,SeqAt.RcNeAt.str_list _ _ p2 gE⟩
 case tup.non=>
  obtain rfl:k=AT:=by cases n<;>cases h<;>rfl
  let⟨q1,zx,rfl,p1⟩:=wQ h1 r1;rw[h2.non]at r2;cases r2;exact⟨SeqAt.RcAt.tuple_none p1 gE,SeqAt.EqAt.tuple_none p1 gE,SeqAt.RcNeAt.tuple_none p1 gE⟩
 case tup.bl=>
  obtain rfl:k=AT:=by cases n<;>cases h<;>rfl
  let⟨q1,zx,rfl,p1⟩:=wQ h1 r1;rw[h2.bl]at r2;cases r2;exact⟨SeqAt.RcAt.tuple_bool _ p1 gE,SeqAt.EqAt.tuple_bool _ p1 gE,SeqAt.RcNeAt.tuple_bool _ p1 gE⟩
 case tup.int=>
  obtain rfl:k=AT:=by cases n<;>cases h<;>rfl
  let⟨q1,zx,rfl,p1⟩:=wQ h1 r1;rw[h2.int]at r2;let⟨t2,rfl⟩:=r2;exact⟨SeqAt.RcAt.tuple_int _ _ p1 gE,SeqAt.EqAt.tuple_int _ _ p1 gE,SeqAt.RcNeAt.tuple_int _ _ p1 gE⟩
 case tup.str=>
  obtain rfl:k=AT:=by cases n<;>cases h<;>rfl
  let⟨q1,zx,rfl,p1⟩:=wQ h1 r1;rw[h2.str]at r2;let⟨t2,rfl⟩:=r2;exact⟨SeqAt.RcAt.tuple_str _ _ p1 gE,SeqAt.EqAt.tuple_str _ _ p1 gE,SeqAt.RcNeAt.tuple_str _ _ p1 gE⟩
 case tup.lst=>
  obtain rfl:k=AT:=by cases n<;>cases h<;>rfl
  let⟨q1,zx,rfl,p1⟩:=wQ h1 r1;let⟨q2,iP,rfl,p2⟩:=w8 h2 r2;exact⟨SeqAt.RcAt.tuple_list p1 p2 gE,SeqAt.EqAt.tuple_list p1 p2 gE,SeqAt.RcNeAt.tuple_list p1 p2 gE⟩
 case lst.non=>
  obtain rfl:k=AT:=by cases n<;>cases h<;>rfl
  let⟨q1,zx,rfl,p1⟩:=w8 h1 r1;rw[h2.non]at r2;cases r2;exact⟨SeqAt.RcAt.list_none p1 gE,SeqAt.EqAt.list_none p1 gE,SeqAt.RcNeAt.list_none p1 gE⟩
 case lst.bl=>
  obtain rfl:k=AT:=by cases n<;>cases h<;>rfl
  let⟨q1,zx,rfl,p1⟩:=w8 h1 r1;rw[h2.bl]at r2;cases r2;exact⟨SeqAt.RcAt.list_bool _ p1 gE,SeqAt.EqAt.list_bool _ p1 gE,SeqAt.RcNeAt.list_bool _ p1 gE⟩
 case lst.int=>
  obtain rfl:k=AT:=by cases n<;>cases h<;>rfl
  let⟨q1,zx,rfl,p1⟩:=w8 h1 r1;rw[h2.int]at r2;let⟨t2,rfl⟩:=r2;exact⟨SeqAt.RcAt.list_int _ _ p1 gE,SeqAt.EqAt.list_int _ _ p1 gE,SeqAt.RcNeAt.list_int _ _ p1 gE⟩
 case lst.str=>
  obtain rfl:k=AT:=by cases n<;>cases h<;>rfl
  let⟨q1,zx,rfl,p1⟩:=w8 h1 r1;rw[h2.str]at r2;let⟨t2,rfl⟩:=r2;exact⟨SeqAt.RcAt.list_str _ _ p1 gE,SeqAt.EqAt.list_str _ _ p1 gE,SeqAt.RcNeAt.list_str _ _ p1 gE⟩
 case lst.tup=>
  obtain rfl:k=AT:=by cases n<;>cases h<;>rfl
  let⟨q1,zx,rfl,p1⟩:=w8 h1 r1;let⟨q2,iP,rfl,p2⟩:=wQ h2 r2;exact⟨SeqAt.RcAt.list_tuple p1 p2 gE,SeqAt.EqAt.list_tuple p1 p2 gE,SeqAt.RcNeAt.list_tuple p1 p2 gE⟩
 case tup.tup as bs=>
  cases n with
  |zero=>cases h
  |succ n=>
   have hk:=h;have hs:=λ(z:v1=v2)=>B0 I (n+1) (d1:=.tup as) (d2:=.tup bs) (v:=v1) h h1<|z▸h2;let⟨q,vs,rfl,hq,ta⟩:=h1.tup;let⟨q',ws,rfl,gC,tb⟩:=h2.tup;cases r1;cases r2;let⟨bT,ra,pa,_⟩:=I.tuple hq;let⟨iP,rb,pb,_⟩:=I.tuple gC;have hi:=BF I n (A:=A.in1) (show A.units+1+n<cLine by lia) (ih n<|A58 n) hk ta tb ra rb;have e:=(mO hk).1;have la:=ta.length;have lb:=tb.length;have XG:=ra.length;have ZD:=rb.length;have t1:=SeqAt.RcAt.tuples (s:=s) (A:=A) (pa) (pb) gE hi;have t2:=SeqAt.RcNeAt.tuples (s:=s) (A:=A) (pa) (pb) gE hi;simp only[A09]at t1 t2;rw[<-XG,<-ZD,la,lb,<-e]at t1 t2;refine⟨t1,?_,t2⟩;by_cases VT:q=q'
   .subst VT;rw[hs rfl];exact C05 _
   .exact SeqAt.EqAt.of_refs VT t1
 case lst.lst as bs=>
  cases n with
  |zero=>cases h
  |succ n=>
   have hk:=h;have hs:=λ(z:v1=v2)=>B0 I (n+1) (d1:=.lst as) (d2:=.lst bs) (v:=v1) h h1<|z▸h2;let⟨q,vs,rfl,hq,ta⟩:=h1.lst;let⟨q',ws,rfl,gC,tb⟩:=h2.lst;cases r1;cases r2;let⟨bT,ra,pa,_⟩:=I.list hq;let⟨iP,rb,pb,_⟩:=I.list gC;have e:=(mO hk).1;have la:=ta.length;have lb:=tb.length;have XG:=ra.length;have ZD:=rb.length;have t:UV A s (.ref q) (.ref q') k/\SL A s (.ref q) (.ref q') (!k):=by
    by_cases ψ:as.length=bs.length
    .have hi:=BF I n (A:=A.in1) (show A.units+1+n<cLine by lia) (ih n<|A58 n) hk ta tb ra rb;have t1:=SeqAt.RcAt.lists (s:=s) (A:=A) pa.isList pb.isList (by simp only[A09];lia) gE hi;have t2:=SeqAt.RcNeAt.lists (s:=s) (A:=A) pa.isList pb.isList (by simp only[A09];lia) gE hi;simp only[A09]at t1 t2;rw[<-XG,la]at t1 t2;rw[ψ,Nat.min_self,A88,C06,<-ψ]at e;rw[<-e]at t1 t2;exact⟨t1,t2⟩
    .have:(as.length==bs.length)=AT:=by simpa using ψ
     rw[this,B22]at e;subst e;exact⟨SeqAt.RcAt.lists_lengths pa.isList pb.isList (by simp only[A09,bne_iff_ne,ne_eq];lia) gE,SeqAt.RcNeAt.lists_lengths pa.isList pb.isList (by simp only[A09,bne_iff_ne,ne_eq];lia) gE⟩
   refine⟨t.1,?_,t.2⟩;by_cases VT:q=q'
   .subst VT;rw[hs rfl];exact C05 _
   .exact SeqAt.EqAt.of_refs VT t.1
 all_goals (refine rcS ((K1 n ?_).symm.trans h) h1 h2 r1 r2;simp[sq,dc])
theorem UD(I:Inv X χ σ H s)(n:Nat):∀{A}{d1 d2}{v1 v2}{u1 u2}{k},A.units+n<cLine->Z.eY n d1 d2=AC k->b_ X.K H d1 v1->b_ X.K H d2 v2->RelV v1 u1->RelV v2 u2->UV A s u1 u2 k/\PP A s u1 u2 k/\SL A s u1 u2 (!k):=by
 induction n using Nat.strongRecOn with
 |_ n ih=>exact ZC I n ih
theorem ll(hu:X.A.units+64<cLine):EG X .Eq Z.oEq:=by
 have ho:kC X (compareOp .Eq) (λ x y H Q=>∃d1 d2 k,b_ X.K H d1 x/\b_ X.K H d2 y/\Z.kS d1 d2=AC k/\Q (.bl k) H):=by intro χ s σ H x y v u Q I rx ry h;let⟨d1,d2,k,h1,h2,e,q⟩:=h;exact(UD I 6 ∅ e h1 h2 rx ry).1 _ X.w X.xe _ ⟨.bl k,H,I,rfl,q⟩
 exact⟨_,ho,λ x y dx dy d H Q h1 h2 e k=>by
  unfold Z.oEq at e;split at e
  .rename_i z hz;cases e;exact⟨dx,dy,z,h1,h2,hz,k _ H (aG.refl H) dh⟩
  .cases e⟩
theorem qH(hu:X.A.units+64<cLine):EG X .NotEq Z.kn:=by
 have ho:kC X (compareOp .NotEq) (λ x y H Q=>∃d1 d2 k,b_ X.K H d1 x/\b_ X.K H d2 y/\Z.kS d1 d2=AC k/\Q (.bl<|!k) H):=by intro χ s σ H x y v u Q I rx ry h;let⟨d1,d2,k,h1,h2,e,q⟩:=h;exact(UD I 6 ∅ e h1 h2 rx ry).2.2 _ X.w X.xe _ ⟨.bl<|!k,H,I,rfl,q⟩
 exact⟨_,ho,λ x y dx dy d H Q h1 h2 e k=>by
  unfold Z.kn at e;split at e
  .rename_i z hz;cases e;exact⟨dx,dy,z,h1,h2,hz,k _ H (aG.refl H) dh⟩
  .cases e⟩
theorem J':∀{a b},G7 a=G7 b->a=b
|.inl a,.inl b,h=>by injection h with h;rw[h]
|.inl _,.inr _,h=>by cases h
|.inr _,.inl _,h=>by cases h
|.inr a,.inr b,h=>by
 injection h with h
 injection h with h
 have:a=b:=by simpa using A10 TD h
 rw[this]
theorem yb:∀{a b:γ _},a.map G7=b.map G7->a=b
|[],[],_=>rfl
|[],_::_,h=>by cases h
|_::_,[],h=>by cases h
|a::as,b::bs,h=>by simp only[A12,B56]at h;rw[J' h.1,yb h.2]
theorem FZ{a:δ}(I:Inv X χ σ H s)(hq:H a=AC (.eH o<|.dK fT)):∃o',s.heap.get? a=AC o'/\o'.cls=.type "dict":=by
 obtain⟨_,_,_,_,_,o',es,ep,h1,h2,_⟩:=(I.cy a _ hq)
 exact⟨o',h1,h2.1⟩
theorem I_{a:δ}(I:Inv X χ σ H s)(h:nr X.K H a xs)(h':H a=AC (.eH o<|.dK fT)):False:=by let⟨bT,r,⟨o1,e,c,n,d⟩,_⟩:=I.tuple h;let⟨o2,e',c'⟩:=FZ I h';rw[e]at e';cases e';rw[c]at c';injection c' with z;exact absurd z ∅
theorem Ja{a:δ}(I:Inv X χ σ H s)(h:ka X.K H a xs)(h':H a=AC (.eH o<|.dK fT)):False:=by let⟨bT,r,⟨o1,n,e,c,_⟩,_⟩:=I.list h;let⟨o2,e',c'⟩:=FZ I h';rw[e]at e';cases e';rw[c]at c';injection c' with z;exact absurd z ∅
mutual
theorem Den.inj{χ:γ (δ×μ)}{σ:St}{H:Hp}{s:η}(I:Inv X χ σ H s):∀(d1 d2:Z.D)(v:V),Den X.K H d1 v->Den X.K H d2 v->d1=d2
|.non,d2,v,h1,h2=>by
 simp only[Den]at h1;subst h1;cases d2<;>simp only[Den]at h2<;>first|rfl|(cases h2;done)|skip
 case tup=>let⟨_,_,e,_⟩:=h2;cases e
 case lst=>let⟨_,_,e,_⟩:=h2;cases e
 case dct=>let⟨_,_,_,e,_⟩:=h2;cases e
|.bl b,d2,v,h1,h2=>by
 simp only[Den]at h1;subst h1;cases d2<;>simp only[Den]at h2<;>first|(injection h2 with h2;rw[h2])|(cases h2;done)|skip
 case tup=>let⟨_,_,e,_⟩:=h2;cases e
 case lst=>let⟨_,_,e,_⟩:=h2;cases e
 case dct=>let⟨_,_,_,e,_⟩:=h2;cases e
|.int i,d2,v,h1,h2=>by
 simp only[Den]at h1;subst h1;cases d2<;>simp only[Den]at h2<;>first|(injection h2 with h2;rw[h2])|(cases h2;done)|skip
 case tup=>let⟨_,_,e,_⟩:=h2;cases e
 case lst=>let⟨_,_,e,_⟩:=h2;cases e
 case dct=>let⟨_,_,_,e,_⟩:=h2;cases e
|.str cs,d2,v,h1,h2=>by
 simp only[Den]at h1;subst h1;cases d2<;>simp only[Den]at h2<;>first|(injection h2 with h2;injection h2 with h2;have:=A10 TD h2;simp at this;rw[this])|(cases h2;done)|skip
 case tup=>let⟨_,_,e,_⟩:=h2;cases e
 case lst=>let⟨_,_,e,_⟩:=h2;cases e
 case dct=>let⟨_,_,_,e,_⟩:=h2;cases e
|.tup ds,d2,v,h1,h2=>by
 simp only[Den]at h1;let⟨a,vs,rfl,q,t⟩:=h1;cases d2<;>simp only[Den]at h2
 case tup es=>let⟨a',Ab,e,q',t'⟩:=h2;cases e;rw[I.q! q' q]at t';rw[aI.inj I ds es vs t t']
 case lst es=>let⟨a',Ab,e,q',t'⟩:=h2;cases e;exact(y9 I q q'.sq).elim
 case dct ks es=>let⟨a',o,fT,e,q',_⟩:=h2;cases e;exact(I_ I q q').elim
 all_goals cases h2
|.lst ds,d2,v,h1,h2=>by
 simp only[Den]at h1;let⟨a,vs,rfl,q,t⟩:=h1;cases d2<;>simp only[Den]at h2
 case lst es=>let⟨a',Ab,e,q',t'⟩:=h2;cases e;rw[I.pZ q'.sq q.sq]at t';rw[aI.inj I ds es vs t t']
 case tup es=>let⟨a',Ab,e,q',t'⟩:=h2;cases e;exact(y9 I q' q.sq).elim
 case dct ks es=>let⟨a',o,fT,e,q',_⟩:=h2;cases e;exact(Ja I q.sq q').elim
 all_goals cases h2
|.dct ks ds,d2,v,h1,h2=>by
 simp only[Den]at h1;let⟨a,o,fT,rfl,q,hk,t,_⟩:=h1;cases d2<;>simp only[Den]at h2
 case lst es=>let⟨a',Ab,e,q',t'⟩:=h2;cases e;exact(Ja I q'.sq q).elim
 case tup es=>let⟨a',Ab,e,q',t'⟩:=h2;cases e;exact(I_ I q' q).elim
 case dct ur es=>let⟨a',o',ad3,e,q',Tw,t',_⟩:=h2;cases e;rw[q]at q';cases q';rw[aI.inj I ds es _ t t',yb<|hk.symm.trans Tw]
 all_goals cases h2
theorem aI.inj{χ:γ (δ×μ)}{σ:St}{H:Hp}{s:η}(I:Inv X χ σ H s):∀(d1 d2:γ Z.D)(v:γ V),aI X.K H d1 v->aI X.K H d2 v->d1=d2
|[],d2,v,h1,h2=>by
 simp only[aI]at h1;subst h1;cases d2 with
 |nil=>rfl
 |cons d ds=>simp only[aI]at h2;let⟨_,_,e,_⟩:=h2;cases e
|d::ds,d2,v,h1,h2=>by
 simp only[aI]at h1;let⟨u,r,rfl,q,t⟩:=h1;cases d2 with
 |nil=>simp only[aI]at h2;cases h2
 |cons d' ds'=>simp only[aI]at h2;let⟨u',r',e,q',t'⟩:=h2;cases e;rw[Den.inj I d d' u q q',aI.inj I ds ds' r t t']
end
theorem Co:∀{ys}{k},Z.hZ x ys=AC k->k=ys.any (λ y=>(Z.kS y x).getD AT)/\∀y∈ys,Z.kS y x=AC ((Z.kS y x).getD AT)
|[],k,h=>by cases h;exact⟨rfl,λ y hy=>by cases hy⟩
|y::ys,k,h=>by
 unfold Z.hZ at h;split at h
 .rename_i a b ea eb;cases h;let⟨h1,h2⟩:=Co eb;refine⟨by rw[B57,ea,h1];rfl,λ z hz=>?_⟩;rcases A00.mp hz with rfl|hz
  .rw[ea];rfl
  .exact h2 z hz
 .cases h
theorem Ke(I:Inv X χ σ H s)(hu:A.units+60<cLine)(hx:b_ X.K H x v)(rx:RelV v u):∀{ys}{vs}{us},aI X.K H ys vs->Vals vs us->(∀y∈ys,Z.kS y x=AC ((Z.kS y x).getD AT)) ->
 ∃e,(∀w∈us,PP A s w u (e w))/\us.any e=ys.any (λ y=>(Z.kS y x).getD AT):=by
 intro ys vs us;have key:∀{ys}{vs}{us},aI X.K H ys vs->Vals vs us->(∀y∈ys,Z.kS y x=AC ((Z.kS y x).getD AT))->(∀w∈us,∃b,PP A s w u b)/\∀e,(∀w∈us,∀y vy,Den X.K H y vy->RelV vy w->y∈ys->e w=(Z.kS y x).getD AT)->us.any e=ys.any (λ y=>(Z.kS y x).getD AT):=by
  intro ys
  induction ys with
  |nil=>intro vs us t r _;simp only[aI]at t;subst t;cases r;exact⟨λ w hw=>(by cases hw),λ _ _=>rfl⟩
  |cons y ys ih=>
   intro vs us t r hh;simp only[aI]at t;let⟨vy,vr,rfl,dy,tr⟩:=t;cases r with
   |cons ry rr=>
    let⟨h1,h2⟩:=ih tr rr (λ z hz=>hh z<|A11 _ hz);refine⟨λ w hw=>?_,λ e he=>?_⟩
    .rcases A00.mp hw with rfl|hw
     .exact⟨_,(UD I 6 ∅ (hh y A18) (.inl dy) hx ry rx).2.1⟩
     .exact h1 w hw
    .rw[B57,B57,he _ A18 y vy dy ry A18,h2 e λ w hw z vz dz rz hz=>he w (A11 _ hw) z vz dz rz<|A11 _ hz]
 intro t r hh
 classical
 let e:=λ w=>if h:∃y vy,Den X.K H y vy/\RelV vy w/\y∈ys then(Z.kS h.choose x).getD AT else AT
 have he:∀w y vy,Den X.K H y vy->RelV vy w->y∈ys->e w=(Z.kS y x).getD AT:=by
  intro w y vy dy ry hy;have hex:∃y vy,Den X.K H y vy/\RelV vy w/\y∈ys:=⟨y,vy,dy,ry,hy⟩
  show(if h:_ then _ else _)=_;rw[B03 hex];let⟨vy',dy',Zu,Kf⟩:=hex.choose_spec;have ev:=Zu.inj ry;subst ev;rw[Den.inj I _ _ _ dy' dy]
 refine⟨e,λ w hw=>?_,(key t r hh).2 e λ w hw y vy dy ry hy=>he w y vy dy ry hy⟩;let⟨j,hj,ej⟩:=lf hw;have hl:=r.length;have ht:=t.length;obtain⟨y,ey⟩:∃y,ys[j]?=AC y:=⟨ys[j]'∅,A01 ∅⟩
 let⟨vy,PH,dy⟩:=t.get ey;let⟨u',eu',Uz⟩:=r.get PH;have:u'=w:=by have:=A01 hj;rw[eu',ej]at this;exact A06 this
 subst this;have hy:=A13 ey;rw[he _ y vy dy Uz hy];exact(UD I 6 ∅ (hh y hy) (.inl dy) hx Uz rx).2.1
theorem Q0(hu:X.A.units+64<cLine):kC X (compareOp .In) (λ x y H Q=>∃d ys q vs k,b_ X.K H d x/\y=.ref q/\(ka X.K H q vs\/nr X.K H q vs)/\aI X.K H ys vs/\Z.hZ d ys=AC k/\Q (.bl k) H):=by
 intro χ s σ H x y v u Q I rx ry h;let⟨d,ys,q,vs,k,hd,rfl,hq,t,e,k'⟩:=h;cases ry;let⟨e1,e2⟩:=Co e;subst e1;rcases hq with hq|hq
 .let⟨bT,r,pl,hz⟩:=I.list hq;let⟨f,hf,N1⟩:=Ke I (A:=X.A.in1) (show X.A.units+1+60<cLine by lia) hd rx t r e2;refine SeqAt.in_listAt f pl.isList (λ w hw=>hf w (by simpa using hw)) ⟨.bl _,H,I,rfl,?_⟩;rw[show bT.toArray.any f=bT.any f by simp,N1];exact k'
 .let⟨bT,r,pl,hz⟩:=I.tuple hq;let⟨f,hf,N1⟩:=Ke I (A:=X.A.in1) (show X.A.units+1+60<cLine by lia) hd rx t r e2;refine SeqAt.in_tupleAt f pl (λ w hw=>hf w (by simpa using hw)) ⟨.bl _,H,I,rfl,?_⟩;rw[show bT.toArray.any f=bT.any f by simp,N1];exact k'
theorem Lm(hu:X.A.units+64<cLine):EG X .In Z.wZ:=⟨_,Q0 hu,λ x y dx dy d H Q h1 h2 e k=>by
 unfold Z.wZ at e;split at e
 .split at e
  .rename_i b hb;cases e;let⟨q,vs,rfl,hq,t⟩:=h2.tup;exact⟨dx,_,q,vs,b,h1,rfl,.inr hq,t,hb,k _ H (aG.refl H) dh⟩
  .cases e
 .split at e
  .rename_i b hb;cases e;let⟨q,vs,rfl,hq,t⟩:=h2.lst;exact⟨dx,_,q,vs,b,h1,rfl,.inl hq,t,hb,k _ H (aG.refl H) dh⟩
  .cases e
 .cases e⟩
theorem F8:∀{xs}{k},Z.allB xs=AC k->∃bs:γ Bool,xs=bs.map Z.D.bl/\k=bs.all id
|[],k,h=>by cases h;exact⟨[],rfl,rfl⟩
|x::xs,k,h=>by
 cases x with
 |bl b=>
  have h':(Z.allB xs).map _=AC k:=h;cases q:Z.allB xs with
  |none=>rw[q]at h';cases h'
  |some k'=>rw[q]at h';cases h';let⟨bs,rfl,rfl⟩:=F8 q;exact⟨b::bs,rfl,rfl⟩
 |non=>cases h
 |int _=>cases h
 |str _=>cases h
 |tup _=>cases h
 |lst _=>cases h
 |dct _ _=>cases h
theorem B5{K:Db}:∀{bs:γ Bool}{vs},aI K H (bs.map Z.D.bl) vs->vs=bs.map V.bl
|[],vs,h=>by simp only[A68]at h;subst h;rfl
|b::bs,vs,h=>by simp only[A12]at h;let⟨v,r,rfl,hv,ht⟩:=h;simp only[Den]at hv;rw[hv,B5 ht];rfl
theorem all_range(bs:γ Bool):((FB bs.length).all λ i=>bs[i]?.getD Ch)=bs.all id:=by
 induction bs with
 |nil=>rfl
 |cons b bs ih=>
  rw[A38,C37,B55,List.all_map,B55];have:((λ i=>((b::bs)[i]?).getD Ch)∘Nat.succ)=λ i=>bs[i]?.getD Ch:=by funext i;simp
  rw[this,ih];simp
theorem Hw(hc:X.calm=Ch):mQ X (.builtin "all") (λ xs H Q=>∃(q:δ)(bs:γ Bool),xs=[.ref q]/\ka X.K H q (bs.map V.bl)/\Q (.bl<|bs.all id) H):=by
 intro χ s σ H xs us Q I r h;let⟨q,bs,rfl,hq,k⟩:=h;let⟨u,rfl,ru⟩:=vals1 r;cases ru;let⟨bT,rv,pl,hz⟩:=I.list hq;have hl:=rv.length;rw[A17]at hl;have qR:q<s.heap.objs.size:=by let⟨_,e,_⟩:=pl.isList;exact A03 e
 have hh:X.A.in1.handled=At:=I.ok.hd hc;refine call_all_walk<|B07 pl.isList ?_;refine⟨_,[s.heap.objs.size,q],[s.heap.objs.size],_,_,_,λ i=>bs[i]?.getD Ch,rfl,Walks.list hh _ q (A14 qR) _,⟨⟨_,A16 _ rfl,rfl,rfl⟩,pl.isList.push _⟩,?_,λ h' tk hk=>?_⟩
 .intro i v s' Q' E' hv hQ;have hi:bT[i]?=AC v:=by simpa using hv
  let⟨_J,_⟩:=A04.mp hi;have hb:(bs.map V.bl)[i]?=AC (V.bl<|bs[i]'∅):=by rw[A08,A01];rfl
  let⟨u,hu,ru⟩:=rv.get hb;rw[hi]at hu;cases hu;cases ru;refine A59 ?_;have:bs[i]?.getD Ch=bs[i]'∅:=by rw[A01];rfl
  rw[<-this];exact hQ
 .have I1:Inv X χ σ H {s with heap:=s.heap.push {cls:=.type "list_iterator",data:=.fields #[.ref q,.int 0 0]}}:=I.kept λ b o e=>A02 _ e;let⟨f0,f1,f2,f3,f4,f5⟩:=I.xp (v6 s.heap.objs.size) I.fresh;have I2:=I1.turned (t':=tk) (λ b o hb e=>hk b o (by simpa using hb) e) f0 f1 f3 f4 f5;refine⟨.bl _,H,I2,rfl,?_⟩;have e:(FB bT.toArray.size).all (λ i=>bs[i]?.getD Ch)=bs.all id:=by rw[A09,<-hl,all_range]
  rw[e];exact k
theorem _root_.ZQ.iH(hm:X.mg x=At)(ha:ZQ.QW X a fa)(hc:X.calm=Ch:=by rfl)(hn:x≠ "__name__":=by decide +kernel)(gP:(x == ("__debug__"))=AT:=by decide +kernel)(he:Se a [] X.env:=by rfl)(fA:Pn pos [] X.env:=by rfl)(hg:Gl X x:=by rfl)(hv:bootBuiltins x=AC (.builtin "all"):=by kernel_rfl):ZQ.QE X (.Call (.Name x p1) [a] [] pos) (Z.eU Z.iX fa):=
 ⟨PE.imp (jy (Hw hc) hg hm hv (bL ha.p cW he) hn gP he fA) <|by
  rintro σ H Q ⟨ρ,d,r,e,k⟩;let⟨x,ea,e⟩:=WP e;refine⟨ρ,x,r,ea,λ v H1 s1 d1=>?_⟩;unfold Z.iX at e;split at e
  .split at e
   .rename_i xs k' hk;cases e;let⟨bs,rfl,rfl⟩:=F8 hk;let⟨q,vs,rfl,hq,t⟩:=d1.lst;rw[B5 t]at hq;exact⟨q,bs,rfl,hq,k _ H1 s1 dh⟩
   .cases e
  .cases e⟩
end
theorem _root_.ZQ.ae(ha:ZQ.QE X (.Constant v j p) f)(hr:ZQ.QA X es g):ZQ.QA X ((.Constant v j p)::es) (Z.aa f g):=⟨g_ ha.p hr.p rfl⟩
theorem _root_.ZQ.ah(ha:ZQ.QE X (.Name x p) f)(hr:ZQ.QA X es g):ZQ.QA X ((.Name x p)::es) (Z.aa f g):=⟨g_ ha.p hr.p rfl⟩
theorem _root_.ZQ.bc(ha:ZQ.QE X (.Tuple xs j p) f)(hr:ZQ.QA X es g):ZQ.QA X ((.Tuple xs j p)::es) (Z.aa f g):=⟨g_ ha.p hr.p rfl⟩
theorem _root_.ZQ.eN(ha:ZQ.QE X (.List xs p) f)(hr:ZQ.QA X es g):ZQ.QA X ((.List xs p)::es) (Z.aa f g):=⟨g_ ha.p hr.p rfl⟩
theorem _root_.ZQ.hJ(ha:ZQ.QE X (.BinOp x o y p) f)(hr:ZQ.QA X es g):ZQ.QA X ((.BinOp x o y p)::es) (Z.aa f g):=⟨g_ ha.p hr.p rfl⟩
theorem _root_.ZQ.bE(ha:ZQ.QE X (.Call x xs ks p) f)(hr:ZQ.QA X es g):ZQ.QA X ((.Call x xs ks p)::es) (Z.aa f g):=⟨g_ ha.p hr.p rfl⟩
theorem _root_.ZQ.bC(ha:ZQ.QE X (.Subscript x y p) f)(hr:ZQ.QA X es g):ZQ.QA X ((.Subscript x y p)::es) (Z.aa f g):=⟨g_ ha.p hr.p rfl⟩
theorem _root_.ZQ.Le(ha:ZQ.QE X (.ListComp x gs sc p) f)(hr:ZQ.QA X es g):ZQ.QA X ((.ListComp x gs sc p)::es) (Z.aa f g):=⟨g_ ha.p hr.p rfl⟩
theorem _root_.ZQ.wg(ha:ZQ.QE X (.UnaryOp o x p) f)(hr:ZQ.QA X es g):ZQ.QA X ((.UnaryOp o x p)::es) (Z.aa f g):=⟨g_ ha.p hr.p rfl⟩
theorem _root_.ZQ.Ld(ha:ZQ.QE X (.Dict ks vs p) f)(hr:ZQ.QA X es g):ZQ.QA X ((.Dict ks vs p)::es) (Z.aa f g):=⟨g_ ha.p hr.p rfl⟩
theorem _root_.ZQ.jK(ha:ZQ.QE X (.Attribute x n p) f)(hr:ZQ.QA X es g):ZQ.QA X ((.Attribute x n p)::es) (Z.aa f g):=⟨g_ ha.p hr.p rfl⟩
end ZS
namespace ZQ
open L2 ZS
theorem _root_.ZS.D8(h1:sc.kind=.function:=by rfl)(h2:sc.isCoroutine=AT:=by rfl)(h3:sc.isGenerator=AT:=by rfl)(h4:N.Nodup:=by decide +kernel)(h5:N.take P.length=P:=by rfl)(h6:∀x∈P,sc.names.lookup x=AC .local\/sc.names.lookup x=AC .cell:=by decide +kernel)(h7:∀y∈sc.names,y.2≠.free:=by decide +kernel):a! N P sc:=⟨h1,h2,h3,h4,h5,h6,h7⟩
theorem cx{K:Db}{st:θ}(d:ZS.Def K mg x st ps)(hb:∀{f}{bh}{A}{outer}{s}{H}{E},N.Nodup->(A.deeper<|envOfC x (ai st) s.heap.objs.size f bh).units+64<cLine->bR k (A.deeper<|envOfC x (ai st) s.heap.objs.size f bh)->Cq (dO jd P w K mg base N x (ai st) f bh A outer s H E).gK H (aJ st) b)(S:a! N ps (ai st):=by exact ZS.D8):ZS.i_ P w K mg base x (k+1) ps (Z.fn ps.length N.length b):=ZS.i_.mk' d S λ f bh A outer s H E hr=>(hb S.nd hr.units hr).p
theorem aaf{K:Db}{st:θ}(F:Cs K x qual st f fd)(hb:∀{bh}{A}{outer}{s}{H}{E},N.Nodup->(A.deeper<|envOfC qual (ai st) s.heap.objs.size f bh).units+64<cLine->bR k (A.deeper<|envOfC qual (ai st) s.heap.objs.size f bh)->Cq (dO jd P w K mg base N qual (ai st) f bh A outer s H E).gK H (aJ st) b)(S:a! N ps (ai st):=by exact ZS.D8):ee P w K mg base jd (k+1) f fd ps (ZS.Ad K<|Z.fn ps.length N.length b):=ZS.fnZ F S λ bh A outer s H E hr=>(hb S.nd hr.units hr).p
end ZQ
namespace Z
def kZ:D->Res D
|.lst xs=>.ok<|.tup xs
|.tup xs=>.ok<|.tup xs
|_=>.bad
@[simp] theorem Q8(xs:γ D):kZ (.lst xs)=.ok (.tup xs):=rfl
@[simp] theorem Q7(xs:γ D):kZ (.tup xs)=.ok (.tup xs):=rfl
def cq:γ Nat:=[97,98,99,100,101,102,103,104,105,106,107,108,109,110,111,112,113,114,115,116,117,118,119,120,121,122]
def signs:γ Nat:=[46,61,35,97,98,99,100,101,102,103,104,105,106,107,108,109,110,111,112,113,114,115,116,117,118,119,120,121,122]
def M?:D->D->Res D
|.int i,.int j=>.ok<|.int<|max i j
|_,_=>.bad
@[simp] theorem U4(i j:Int):M? (.int i) (.int j)=.ok (.int<|max i j):=rfl
def tO:D->Res D
|.int i=>.ok<|.int i
|.bl b=>.ok<|.int<|if b then 1 else 0
|_=>.bad
@[simp] theorem U'(i:Int):tO (.int i)=.ok (.int i):=rfl
@[simp] theorem XX(b:Bool):tO (.bl b)=.ok (.int<|if b then 1 else 0):=rfl
def Z9(a:EF)(ρ:Env):Res (γ D):=(a ρ).bind λ x=>match x with
|.lst xs=>.ok xs
|.tup xs=>.ok xs
|_=>.bad
def J7:D->Res (γ D)
|.lst xs=>.ok xs
|.tup xs=>.ok xs
|_=>.bad
@[simp] theorem abG(a:EF)(ρ:Env):Z9 a ρ=(a ρ).bind J7:=rfl
@[simp] theorem To(xs:γ D):J7 (.lst xs)=.ok xs:=rfl
@[simp] theorem Tn(xs:γ D):J7 (.tup xs)=.ok xs:=rfl
def wm(x:D):γ D->ε Nat
|[]=>AC 0
|y::r=>match kS y x,wm x r with
 |some a,AC b=>AC<|b+(if a then 1 else 0)
 |_,_=>At
def zf:D->D->Res D
|.lst ys,x=>match wm x ys with
 |some n=>.ok<|.int n
 |none=>.bad
|_,_=>.bad
def AS:γ D->ε Int
|[]=>AC 0
|.int i::r=>(AS r).map (i+·)
|_::_=>At
def JC:D->Res D
|.lst xs=>match AS xs with
 |some i=>.ok<|.int i
 |none=>.bad
|_=>.bad
theorem xM:∀(ns:γ Int),AS (ns.map D.int)=AC ns.sum
|[]=>rfl
|n::ns=>by simp[AS,xM ns]
def Gy(i:Nat)(l:LF)(ρ:Env):Res Fl:=(l ρ).bind λ ys=>match ρ[i]? with
|some<|some<|.own xs=>guard (xs.length+ys.length<=line)<|.ok<|.nx<|ρ.set i<|some<|.own<|xs++ys
|_=>.bad
def pair(a b:D):D:=.tup [a,b]
def mE(k:Nat):γ D->γ D
|[]=>[]
|d::ds=>pair (.int k) d::mE (k+1) ds
def lP:γ D->γ D->γ D
|a::as,b::bs=>pair a b::lP as bs
|_,_=>[]
def Fz(a:EF)(ρ:Env):Res (γ D):=(a ρ).bind λ x=>(mh x).bind λ ds=>.ok<|mE 0 ds
@[simp] theorem Yd(a:EF)(ρ:Env):Fz a ρ=(a ρ).bind λ x=>(mh x).bind λ ds=>.ok (mE 0 ds):=rfl
def MK:D->Res (γ D)
|.tup xs=>.ok xs
|.lst xs=>.ok xs
|_=>.bad
@[simp] theorem Uv(xs:γ D):MK (.tup xs)=.ok xs:=rfl
@[simp] theorem Uw(xs:γ D):MK (.lst xs)=.ok xs:=rfl
def Qc:D->Res (γ D)
|.tup xs=>.ok xs
|_=>.bad
@[simp] theorem Ub(xs:γ D):Qc (.tup xs)=.ok xs:=rfl
def NV(a b:EF)(ρ:Env):Res (γ D):=(a ρ).bind λ x=>(b ρ).bind λ y=>(MK x).bind λ xs=>(Qc y).bind λ ys=>.ok<|lP xs ys
@[simp] theorem _d(a b:EF)(ρ:Env):NV a b ρ=(a ρ).bind λ x=>(b ρ).bind λ y=>(MK x).bind λ xs=>(Qc y).bind λ ys=>.ok (lP xs ys):=rfl
end Z
namespace ZS
open L2
section
variable{X:Cx}
theorem _root_.ZQ.ni(hm:X.mg x=At)(ha:ZQ.QW X a fa)(hn:x≠ "__name__":=by decide +kernel)(gP:(x==("__debug__"))=AT:=by decide +kernel)(he:Se a [] X.env:=by rfl)(fA:Pn pos [] X.env:=by rfl)(hg:Gl X x:=by rfl)(hv:bootBuiltins x=AC (.type "tuple"):=by kernel_rfl):ZQ.QE X (.Call (.Name x p1) [a] [] pos) (Z.eU Z.kZ fa):=
 ⟨PE.imp (rg xx hg hm hv (bL ha.p cW he) hn gP he fA) <|by
  rintro σ H Q ⟨ρ,d,r,e,k⟩;let⟨x,ea,e⟩:=WP e;refine⟨ρ,x,r,ea,λ v H1 s1 d1=>?_⟩;unfold Z.kZ at e;split at e
  .cases e;let⟨q,vs,rfl,hq,t⟩:=d1.lst;refine⟨q,vs,rfl,.inl ⟨hq,λ l hl=>?_⟩⟩;have s2:aG H1 (upd H1 l<|.tup vs):=cI hl;exact k _ _ (s1.trans s2)<|gc (.inl<|.inl aP)<|t.up s2
  .cases e;let⟨q,vs,rfl,hq,t⟩:=d1.tup;exact⟨q,vs,rfl,.inr ⟨hq,k _ H1 s1<|gc hq t⟩⟩
  .cases e⟩
end
end ZS
namespace ZQ
open L2 ZS
theorem Ef(ho:PE X o (kE i))(ha:QE X a fa)(hs:swapsWith (.Call (.Attribute o "append" p1) [a] [] p2) At pos.line X.env=pure AT:=by rfl)(wJ:Se a [] X.env:=by rfl)
 (vP:attributeBase o "append" X.env (eval o X.env)=eval o X.env:=by rfl)
 (DY:((backTo p2<|starEach (a::[]) X.env).all (λ x=>!x.1)&&(backToKw p2<|keywordEach [] X.env).all (λ x=>x.1.isSome)
  && decide ((a::[]).length+([]:γ υ).length+(if([]:γ υ).isEmpty then 0 else 1)<30))=Ch:=by rfl)
 (vN:(p1.endLine==p2.line)=Ch:=by rfl) (oX:Pn p2 [] X.env:=by rfl) :
 QS X H0 (.Expr (.Call (.Attribute o "append" p1) [a] [] p2) pos) (Z.mX i fa):=
 ⟨ZS.Hn ho ha.p hs wJ<|Jp C07 PySem.F.slot_list_append PySem.F.type_list_append xZ ho (bL ha.p cW wJ) vP DY vN wJ oX⟩
end ZQ
namespace ZS
open L2
section
variable{X:Cx}
theorem Rn(i j:Int):(if j>i then j else i)=max i j:=by split<;>lia
theorem _root_.ZQ.Ox(hg:Gl X x)(hm:X.mg x=At)(hv:bootBuiltins x=AC (.builtin "max"))(ha:ZQ.QW X a fa)(hb:ZQ.QW X b fb)(hc:X.calm=Ch:=by rfl)(hn:x≠ "__name__":=by decide +kernel)(gP:(x==("__debug__"))=AT:=by decide +kernel)
 (he:Se a [b] X.env:=by rfl) (LY:Se b [] X.env:=by rfl) (fA:(backTo pos<|starEach [b] X.env).any (·.1)=AT:=by rfl):ZQ.QE X (.Call (.Name x p1) [a,b] [] pos) (Z.eB Z.M? fa fb):=
 ⟨PE.imp (jy (Hu hc) hg hm hv (bL ha.p (bL hb.p cW LY) he) hn gP he fA) <|by
  rintro σ H Q ⟨ρ,d,r,e,k⟩;let⟨x,ea,e⟩:=WP e;let⟨y,eb,e⟩:=WP e;refine⟨ρ,x,r,ea,λ v H1 s1 d1=>⟨ρ,y,r.up s1,eb,λ u H2 s2 d2=>?_⟩⟩;obtain⟨i,j,rfl,rfl,rfl⟩:∃i j,x=.int i/\y=.int j/\d=.int (max i j):=by
   unfold Z.M? at e;split at e
   .cases e;exact⟨_,_,rfl,rfl,rfl⟩
   .cases e
  refine⟨i,j,by rw[d1.int,d2.int],?_⟩;rw[Rn];exact k _ H2 (s1.trans s2) dP⟩
theorem _root_.ZQ.FX(hg:Gl X x)(hm:X.mg x=At)(hv:bootBuiltins x=AC (.type "int"))(ha:ZQ.QW X a fa)(hn:x≠ "__name__":=by decide +kernel)(gP:(x==("__debug__"))=AT:=by decide +kernel)
 (he:Se a [] X.env:=by rfl) (fA:Pn pos [] X.env:=by rfl):ZQ.QE X (.Call (.Name x p1) [a] [] pos) (Z.eU Z.tO fa):=
 ⟨PE.imp (rg Hv hg hm hv (bL ha.p cW he) hn gP he fA) <|by
  rintro σ H Q ⟨ρ,d,r,e,k⟩;let⟨x,ea,e⟩:=WP e;refine⟨ρ,x,r,ea,λ v H1 s1 d1=>?_⟩;unfold Z.tO at e;split at e
  .cases e;exact .inl ⟨_,by rw[d1.int],k _ H1 s1 dP⟩
  .cases e;exact .inr ⟨_,by rw[d1.bl],k _ H1 s1 dP⟩
  .cases e⟩
theorem _root_.ZQ.Ou(hg:Gl X x)(hm:X.mg x=At)(hv:bootBuiltins x=AC (.type "list"))(ha:ZQ.QW X a fa)(hn:x≠ "__name__":=by decide +kernel)(gP:(x==("__debug__"))=AT:=by decide +kernel)
 (he:Se a [] X.env:=by rfl) (fA:Pn pos [] X.env:=by rfl):ZQ.QL X (.Call (.Name x p1) [a] [] pos) (Z.Z9 fa):=
 ⟨PE.imp (rg zY hg hm hv (bL ha.p cW he) hn gP he fA) <|by
  rintro σ H Q ⟨ρ,d,r,e,k⟩;let⟨x,ea,e⟩:=WP e;refine⟨ρ,x,r,ea,λ v H1 s1 d1=>?_⟩;split at e
  .cases e;let⟨q,vs,rfl,hq,t⟩:=d1.lst;refine⟨q,vs,rfl,.inl hq,λ l hl=>?_⟩;have s2:aG H1 (upd H1 l<|.lst vs):=cI hl;exact k l _ _ (s1.trans s2) (s1.free hl) aP<|t.up s2
  .cases e;let⟨q,vs,rfl,hq,t⟩:=d1.tup;refine⟨q,vs,rfl,.inr hq,λ l hl=>?_⟩;have s2:aG H1 (upd H1 l<|.lst vs):=cI hl;exact k l _ _ (s1.trans s2) (s1.free hl) aP<|t.up s2
  .cases e⟩
theorem Hm(hs:swapsWith (.Call (.Attribute o "extend" p1) [a] [] p2) At pos.line X.env=pure AT:=by rfl)
 (_Y:PE X (.Call (.Attribute o "extend" p1) [a] [] p2) (Zc X.K "list" E5 (kE i)<|AR (tZl X.K l) Iz)) :
 DS X H0 (.Expr (.Call (.Attribute o "extend" p1) [a] [] p2) pos) (Z.Gy i l):=PS.imp (uk _Y hs) <| by
 rintro D σ H ⟨ρ,fl,rs,e,k⟩;let⟨ys,ea,e⟩:=WP e;split at e
 .rename_i xs ei;unfold Z.guard at e;split at e
  .rename_i hl;cases e;let⟨v,si,q,us,rfl,hq,t⟩:=rs.re.get i _ ei;refine⟨_,si,.inl ⟨rfl,us,ka.of hq⟩,ρ,ys,rs.re,ea,λ c vs H1 s1 hn hc tc=>?_⟩;have RT:=s1 _ _ hq;refine⟨q,c,us,vs,rfl,rfl,RT,hc,by rw[t.length,tc.length,A33];exact hl,?_⟩;exact k σ _ ((lN s1).trans<|jZ RT)<|(rs.up s1).chg ei si RT<|(t.up s1).append tc
  .cases e
 .cases e
theorem Ca:∀{ys}{k},Z.wm x ys=AC k->k=ys.countP (λ y=>(Z.kS y x).getD AT)/\∀y∈ys,Z.kS y x=AC ((Z.kS y x).getD AT)
|[],k,h=>by cases h;exact⟨rfl,λ y hy=>by cases hy⟩
|y::ys,k,h=>by
 unfold Z.wm at h;split at h
 .rename_i a b ea eb;cases h;let⟨h1,h2⟩:=Ca eb;refine⟨by rw[A91,ea,h1];rfl,λ z hz=>?_⟩;rcases A00.mp hz with rfl|hz
  .rw[ea];rfl
  .exact h2 z hz
 .cases h
theorem OC(I:Inv X χ σ H s)(hu:A.units+60<cLine)(hx:b_ X.K H x v)(rx:RelV v u)(t:aI X.K H ys vs)(r:Vals vs us)(hh:∀y∈ys,Z.kS y x=AC ((Z.kS y x).getD AT)):
 ∃e,(∀w∈us,PP A s w u (e w))/\us.countP e=ys.countP (λ y=>(Z.kS y x).getD AT):=by
 classical
 let e:=λ w=>if h:∃y vy,Den X.K H y vy/\RelV vy w/\y∈ys then(Z.kS h.choose x).getD AT else AT
 have he:∀w y vy,Den X.K H y vy->RelV vy w->y∈ys->e w=(Z.kS y x).getD AT:=by
  intro w y vy dy ry hy;have hex:∃y vy,Den X.K H y vy/\RelV vy w/\y∈ys:=⟨y,vy,dy,ry,hy⟩
  show(if h:_ then _ else _)=_;rw[B03 hex];let⟨vy',dy',Zu,Kf⟩:=hex.choose_spec;have ev:=Zu.inj ry;subst ev;rw[Den.inj I _ _ _ dy' dy]
 have cnt:∀{zs}{vs}{us},aI X.K H zs vs->Vals vs us->(∀z∈zs,z∈ys)->us.countP e=zs.countP (λ y=>(Z.kS y x).getD AT):=by
  intro zs
  induction zs with
  |nil=>intro vs us t r _;simp only[aI]at t;subst t;cases r;rfl
  |cons z zs ih=>
   intro vs us t r hm;simp only[aI]at t;let⟨vy,vr,rfl,dy,tr⟩:=t;cases r with
   |cons ry rr=>rw[A91,A91,ih tr rr λ w hw=>hm w<|A11 _ hw,he _ z vy dy ry<|hm z A18]
 refine⟨e,λ w hw=>?_,cnt t r λ _ h=>h⟩;let⟨j,hj,ej⟩:=lf hw;have hl:=r.length;have ht:=t.length;obtain⟨y,ey⟩:∃y,ys[j]?=AC y:=⟨ys[j]'∅,A01 ∅⟩
 let⟨vy,PH,dy⟩:=t.get ey;let⟨u',eu',Uz⟩:=r.get PH;have:u'=w:=by have:=A01 hj;rw[eu',ej]at this;exact A06 this
 subst this;have hy:=A13 ey;rw[he _ y vy dy Uz hy];exact(UD I 6 ∅ (hh y hy) (.inl dy) hx Uz rx).2.1
def Qv(K:Db):V->γ V->Hp->VK->Prop:=λ x vs H Q=>∃d ys q us v k,x=.ref q/\vs=[v]/\ka K H q us/\aI K H ys us/\b_ K H d v/\Z.wm d ys=AC k/\Q (.int k) H
theorem JO(hu:X.A.units+64<cLine):MtR X "list.count" (Qv X.K):=by intro χ s σ H x vs v us Q I rx rv h;let⟨d,ys,q,us',v',k,rfl,rfl,hq,t,hd,e,k'⟩:=h;cases rx;let⟨u,rfl,ru⟩:=rv.one;let⟨e1,e2⟩:=Ca e;subst e1;let⟨bT,r,pl,hz⟩:=I.list hq;let⟨f,hf,N1⟩:=OC I (A:=X.A.in1) (show X.A.units+1+60<cLine by lia) hd ru t r e2;let⟨⟨cls,dd,data,sl⟩,ho,hc,n,rP⟩:=id pl.isList;simp only at hc rP;subst hc rP;refine A87 F.slot_list_count ⟨_,ho,rfl⟩ F.entry_list_count (F.args_list_count_2 _ _) (SeqAt.list_countAt q _ n dd sl u f) ⟨ho,λ w hw=>hf w (by simpa using hw),?_⟩;refine⟨.int _,H,I.tok _,⟨_,rfl⟩,?_⟩;rw[N1];exact k'
theorem _root_.ZQ.Lb(hu:X.A.units+64<cLine)(ho:ZQ.QW X o fa)(hb:ZQ.QW X b fb)
 (vP:attributeBase o "count" X.env (eval o X.env)=eval o X.env:=by rfl)
 (DY:((backTo p2<|starEach (b::[]) X.env).all (λ x=>!x.1)&&(backToKw p2<|keywordEach [] X.env).all (λ x=>x.1.isSome)
  && decide ((b::[]).length+([]:γ υ).length+(if([]:γ υ).isEmpty then 0 else 1)<30))=Ch:=by rfl)
 (vN:(p1.endLine==p2.line)=Ch:=by rfl) (wJ:Se b [] X.env:=by rfl) (oX:Pn p2 [] X.env:=by rfl) :
 ZQ.QE X (.Call (.Attribute o "count" p1) [b] [] p2) (Z.eB Z.zf fa fb):=
 ⟨PE.imp (Jp C07 PySem.F.slot_list_count PySem.F.type_list_count (JO hu) ho.p (bL hb.p cW wJ) vP DY vN wJ oX) <|by
  rintro σ H Q ⟨ρ,d,r,e,k⟩;let⟨x,ea,e⟩:=WP e;let⟨y,eb,e⟩:=WP e;refine⟨ρ,x,r,ea,λ v H1 s1 d1=>?_⟩;unfold Z.zf at e;split at e
  .rename_i ys _;split at e
   .rename_i n hn;cases e;let⟨q,vs,rfl,hq,t⟩:=d1.lst;refine⟨.inl ⟨rfl,vs,hq⟩,ρ,y,r.up s1,eb,λ u H2 s2 d2=>?_⟩;exact⟨y,ys,q,vs,u,n,rfl,rfl,s2.seq hq,t.up s2,d2,hn,k _ H2 (s1.trans s2) dP⟩
   .cases e
  .cases e⟩
theorem EV:∀{xs}{k},Z.AS xs=AC k->∃ns:γ Int,xs=ns.map Z.D.int/\k=ns.sum
|[],k,h=>by cases h;exact⟨[],rfl,rfl⟩
|x::xs,k,h=>by
 cases x with
 |int b=>
  have h':(Z.AS xs).map _=AC k:=h;cases q:Z.AS xs with
  |none=>rw[q]at h';cases h'
  |some k'=>rw[q]at h';cases h';let⟨bs,rfl,rfl⟩:=EV q;exact⟨b::bs,rfl,rfl⟩
 |non=>cases h
 |bl _=>cases h
 |str _=>cases h
 |tup _=>cases h
 |lst _=>cases h
 |dct _ _=>cases h
theorem yk{K:Db}:∀{ns:γ Int}{vs},aI K H (ns.map Z.D.int) vs->vs=ns.map V.int
|[],vs,h=>by simp only[A68]at h;subst h;rfl
|b::bs,vs,h=>by simp only[A12]at h;let⟨v,r,rfl,hv,ht⟩:=h;simp only[Den]at hv;rw[hv,yk ht];rfl
theorem MP(ns:γ Int):preSum (λ i=>ns[i]?.getD 0) ns.length=ns.sum:=by
 have key:∀k,k<=ns.length->preSum (λ i=>ns[i]?.getD 0) k=(ns.take k).sum:=by
  intro k
  induction k with
  |zero=>intro _;simp[preSum]
  |succ k ih=>
   intro hk;have e:preSum (λ i=>ns[i]?.getD 0) (k+1)=preSum (λ i=>ns[i]?.getD 0) k+ns[k]?.getD 0:=rfl;have _l:∀(xs ys:γ Int),(xs++ys).sum=xs.sum+ys.sum:=λ xs ys=>by
    induction xs with
    |nil=>simp
    |cons x xs ih=>simp only[AA5,B59];lia
   rw[e,ih ∅,C08,_l,A01<|show k<ns.length by lia];simp
 have:=key _<|v6 _;rwa [B60]at this
theorem Ht(hc:X.calm=Ch):mQ X (.builtin "sum") (λ xs H Q=>∃(q:δ)(ns:γ Int),xs=[.ref q]/\ka X.K H q (ns.map V.int)/\Q (.int ns.sum) H):=by
 intro χ s σ H xs us Q I r h;let⟨q,ns,rfl,hq,k⟩:=h;let⟨u,rfl,ru⟩:=vals1 r;cases ru;let⟨bT,rv,pl,hz⟩:=I.list hq;have hl:=rv.length;rw[A17]at hl;have qR:q<s.heap.objs.size:=by let⟨_,e,_⟩:=pl.isList;exact A03 e
 have hh:X.A.in1.handled=At:=I.ok.hd hc;refine call_sum_walkG<|B07 pl.isList ?_;refine⟨s.heap.objs.size,[s.heap.objs.size,q],[s.heap.objs.size],bT.toArray.size,_,_,λ i=>ns[i]?.getD 0,rfl,Walks.list hh s.heap.objs.size q (A14 qR) bT.toArray,⟨⟨_,A16 _ rfl,rfl,rfl⟩,pl.isList.push _⟩,?_,?_,λ h' tk t' hk=>?_⟩
 .intro b hb;rw[A48];rcases A00.mp hb with rfl|hb
  .exact A58 _
  .rw[A22.mp hb];exact B53 qR
 .intro i v hv;have hi:bT[i]?=AC v:=by simpa using hv
  let⟨_J,_⟩:=A04.mp hi;have hb:(ns.map V.int)[i]?=AC (V.int<|ns[i]'∅):=by rw[A08,A01];rfl
  let⟨u,hu,ru⟩:=rv.get hb;rw[hi]at hu;cases hu;let⟨t,rfl⟩:=ru;exact⟨t,by show Value.int _ t=Value.int (ns[i]?.getD 0) t;rw[A01];rfl⟩
 .have I1:Inv X χ σ H {s with heap:=s.heap.push {cls:=.type "list_iterator",data:=.fields #[.ref q,.int 0 0]}}:=I.kept λ b o e=>A02 _ e;let⟨f0,f1,f2,f3,f4,f5⟩:=I.xp (v6 s.heap.objs.size) I.fresh;have I2:=I1.turned (t':=tk) (λ b o hb e=>hk b o (by simpa using hb) e) f0 f1 f3 f4 f5;refine⟨.int _,H,I2,⟨t',rfl⟩,?_⟩;rw[A09,<-hl,MP];exact k
theorem _root_.ZQ.FV(hm:X.mg x=At)(ha:ZQ.QW X a fa)(hc:X.calm=Ch:=by rfl)(hn:x≠ "__name__":=by decide +kernel)(gP:(x == ("__debug__"))=AT:=by decide +kernel)(he:Se a [] X.env:=by rfl)(fA:Pn pos [] X.env:=by rfl)(hg:Gl X x:=by rfl)(hv:bootBuiltins x=AC (.builtin "sum"):=by kernel_rfl):ZQ.QE X (.Call (.Name x p1) [a] [] pos) (Z.eU Z.JC fa):=
 ⟨PE.imp (jy (Ht hc) hg hm hv (bL ha.p cW he) hn gP he fA) <|by
  rintro σ H Q ⟨ρ,d,r,e,k⟩;let⟨x,ea,e⟩:=WP e;refine⟨ρ,x,r,ea,λ v H1 s1 d1=>?_⟩;unfold Z.JC at e;split at e
  .split at e
   .rename_i xs k' hk;cases e;let⟨bs,rfl,rfl⟩:=EV hk;let⟨q,vs,rfl,hq,t⟩:=d1.lst;rw[yk t]at hq;exact⟨q,bs,rfl,hq,k _ H1 s1 dP⟩
   .cases e
  .cases e⟩
end
end ZS
namespace ZQ
open L2 ZS
theorem Ee(ho:PE X o (kE i))(ha:QL X a l)(hs:swapsWith (.Call (.Attribute o "extend" p1) [a] [] p2) At pos.line X.env=pure AT:=by rfl)(wJ:Se a [] X.env:=by rfl)
 (vP:attributeBase o "extend" X.env (eval o X.env)=eval o X.env:=by rfl)
 (DY:((backTo p2<|starEach (a::[]) X.env).all (λ x=>!x.1)&&(backToKw p2<|keywordEach [] X.env).all (λ x=>x.1.isSome)
  && decide ((a::[]).length+([]:γ υ).length+(if([]:γ υ).isEmpty then 0 else 1)<30))=Ch:=by rfl)
 (vN:(p1.endLine==p2.line)=Ch:=by rfl) (oX:Pn p2 [] X.env:=by rfl) :
 QS X H0 (.Expr (.Call (.Attribute o "extend" p1) [a] [] p2) pos) (Z.Gy i l):=
 ⟨ZS.Hm hs<|Jp C07 PySem.F.slot_list_extend PySem.F.type_list_extend GY ho (bL ha.p cW wJ) vP DY vN wJ oX⟩
end ZQ
namespace ZS
open L2 PySem.W
theorem sC:∀{ns:γ Int},i∈ns->TW (.int i)<=Sc (ns.map WData.int)
|[],h=>by cases h
|n::ns,h=>by
 rcases A00.mp h with rfl|h
 .simp only[A12,Sc];lia
 .have:=sC h;simp only[A12,Sc];lia
theorem Ck{ns:γ Int}(h:WData.layableAll [WData.list (ns.map WData.int)]=Ch):∀i∈ns,Z.bits i<=2^20:=by
 intro i hi;have h1:=A30.mp h _ A18;unfold WData.layable at h1;rw[A35]at h1;have h3:TW (.list<|ns.map WData.int)=Sc (ns.map WData.int):=by simp only[TW]
 have h4:=sC hi;have h5:TW (.int i)=Z.bits i:=by
  simp only[TW];unfold Z.bits;by_cases hz:i=0
  .subst hz;rfl
  .rw[P3 hz,P3 (by simpa using hz)]
 lia
def LG(q:ο)(K:Frag):Prop:=noTabs K=Ch/\(∀x∈dE,∀c P,tabIn K x=AC (c,P)->∃d,(recsOf q).find? (λ e=>e.name==x)=AC d) /\
 ∀x y c P c',x∈dE->y∈dE->tabIn K x=AC (c,P)->tabIn K y=AC (c',P)->x=y
theorem uR{K:Frag}(h:nsIn K mainGlobals x=AC (AC<|.ref f))(h2:K.lookup f=AC ⟨o1,d1,.func fd,s1⟩)(h3:fd.code=.ref c)
 (h4:K.lookup c=AC ⟨o2,d2,.fields vs,s2⟩) (h5:vs[11]?=AC (.ref p)):tabIn K x=AC (c,p):=by
 unfold tabIn;rw[h];dsimp only;rw[h2];dsimp only;rw[h3];dsimp only;rw[h4];dsimp only;rw[h5]
theorem gO{p:Str->Prop}(h1:p "best_among")(h2:p "paper_beside"):∀x∈dE,p x:=by
 intro x hx;rcases A00.mp hx with rfl|hx
 .exact h1
 .rw[A22.mp hx];exact h2
theorem Rt{K:Frag}(n:noTabs K=Ch)(h1:tabIn K "best_among"=r1)(h2:tabIn K "paper_beside"=r2)(g1:r1=At\/((recsOf q).find? λ e=>e.name==Da "best_among").isSome=Ch)(g2:r2=At\/((recsOf q).find? λ e=>e.name==Da "paper_beside").isSome=Ch)
 (ne:∀c P c' P',r1=AC (c,P)->r2=AC (c',P')->P≠P'):LG q K:=by
 refine⟨n,gO (λ c P e=>?_) λ c P e=>?_,λ x y c P c' hx hy=>?_⟩
 .rcases g1 with z|z
  .rw[h1,z]at e;cases e
  .exact A84.mp z
 .rcases g2 with z|z
  .rw[h2,z]at e;cases e
  .exact A84.mp z
 .refine gO (p:=λ x=>tabIn K x=AC (c,P)->tabIn K y=AC (c',P)->x=y) (λ e1=>?_) (λ e1=>?_) x hx
  .refine gO (p:=λ y=>tabIn K y=AC (c',P)-> "best_among"=y) (λ _=>rfl) (λ e2=>?_) y hy;exact absurd rfl<|ne c P c' P (h1.symm.trans e1)<|h2.symm.trans e2
  .refine gO (p:=λ y=>tabIn K y=AC (c',P)-> "paper_beside"=y) (λ e2=>?_) (λ _=>rfl) y hy;exact absurd rfl<|ne c' P c P (h1.symm.trans e2)<|h2.symm.trans e1
theorem P6{l:OpenLaw}{n k:Nat}{q:ο}{loose:γ Str}{XP:(Str->ε ζ)->ν->Prop}{YP:ξ->ν->Prop}{d:DefRec}{K:Params->Frag}{m:γ Z.D->Z.Res Z.D}{x:Str}
 (hn:l.most=AC n) (HR:n<=sizeLine) (_P:d.params.defaults=[]) (hr:bR k callerA)
 (hY:∀w h,YP w h->(K w.params).In h)
 (F:∀ w mg fa h,(K w.params).In h->h.Ns mainGlobals mg->mg d.name=AC (.ref fa) ->
  ∃fd:τ,(∀(s:η)(u:ζ),BindsTo s fd ⟨[u],[]⟩ [(x,u)]) /\
   ∀base:ν,(K w.params).In base->base.Ns mainGlobals mg->ee l.prog w (K w.params) mg base jd k fa fd [x] (Ad (K w.params) m)) (hL:∀w:ξ,LG q (K w.params))
 (hold:∀ns:γ Int,ns.length<=n->(∀i∈ns,Z.bits i<=2^20)->m [.lst (ns.map .int)]=.ok (.bl Ch)) :
 WalkO q loose XP YP l.row.toRowW d [] (λ f vs=>PySem.call f vs):=by
 intro w s₀ s₁ mg mb G Y fa o pm cd doc dV kV ho hd m? hD _B hg args vals as NW _D hrd VQ hlo;cases Dflts.none hD _P;cases Dflts.noKw hD;let⟨a,vs,ns,rfl,rfl,_w,hints,ψ⟩:=Att.Gx hn NW VQ;have KX:=hY w _ Y;let⟨fd,hb,hF⟩:=F w mg fa _ KX G.T.g _B;have C:=J9 KX G.T.g G.T.b G.T.builtins G.T.nolimit hg _w hints (A27 ψ HR) hr hF hb (λ H hO hS=>Rr hO hS<|hold ns ψ<|Ck _D) (λ H e s' z=>z)
  (hL w).2.2 (λ y hy c p e=>let ⟨d,hd⟩:=(hL w).2.1 y hy c p e;let T:=tab_of G.T KX hd e;⟨T,T.1.tab T.2⟩) G.T.bmain (hL w).1
 refine enter_call<|A72 C λ r s' hq=>?_;let⟨rfl,h2,h3,h4⟩:=hq;exact⟨.inl ⟨.bool Ch,.bool Ch,[],rfl,λ _=>rfl,.bool Ch,Att.Gz l _,λ _=>⟨List.Pairwise.nil,λ _ hm=>(nomatch hm)⟩⟩,h2,h3,h4⟩
end ZS
namespace ZS
open L2
theorem Dm(hit:s.heap.IsTupleIter it t i)(ht:s.heap.IsTuple t items)(hx:items[i]?=AC x)
 (hQ:∀h',h'.IsTupleIter it t (i+1)->Go it s.heap h'->Q x {s with heap:=h'}):FM (model prog w) A (GM<|.ref it) Q E s:=by
 let⟨ob,LU,kR,n9⟩:=id hit;let⟨ot,NX,_,nt,V'⟩:=ht;refine T0<|B00 hit.typeIs B61<|B02 B61 hit.typeIs C38 ?_<|C39 _;show FM _ _ (field _ 0>>=_) _ _ _;refine T0<|A34 LU n9 (x:=.ref t) rfl ?_;have FD:¬(Value.ref t==Pi)=Ch:=B19;rw[P3 FD];refine T0<|A34 LU n9 rfl ?_;refine T0<|A46 NX V' ?_;simp only[C09,hx];refine T0<|B62 LU n9 ∅<|M2 ⟨x,rfl,M2<|hQ _ ⟨_,A79 _ LU<|B63<|A69 n9 _,(C10 ..).trans kR,?_⟩<|Heap.SameBut.update ..⟩;rw[A69 n9];simp[rawInt]
theorem GV(hh:A.handled=At)(hit:s.heap.IsTupleIter it t i)(ht:s.heap.IsTuple t items)(hx:items[i]?=At)
 (hE:∀h' e,Heap.ExtBut it s.heap h'->(∃o,h'.get? e=AC o/\o.cls=.type "StopIteration")->E (.ref e) {s with heap:=h'}):FM (model prog w) A (GM<|.ref it) Q E s:=by
 let⟨ob,LU,kR,n9⟩:=id hit;let⟨ot,NX,_,nt,V'⟩:=ht;refine T0<|B00 hit.typeIs B61<|B02 B61 hit.typeIs C38 ?_<|C39 _;show FM _ _ (field _ 0>>=_) _ _ _;refine T0<|A34 LU n9 (x:=.ref t) rfl ?_;have FD:¬(Value.ref t==Pi)=Ch:=B19;rw[P3 FD];refine T0<|A34 LU n9 rfl ?_;refine T0<|A46 NX V' ?_;simp only[C09,hx];refine T0<|B23<|T0<|B62 LU n9 ∅ ?_;refine T0 ?_;simp only[newExc,newTuple];refine T0<|A67 ?_ (by size_fits);refine T0<|wpAny_of_eq (by first|rfl|(simp only[firstArgMember];rfl)) ?_;refine A67 ?_ (by size_fits);simp only[raiseNew];refine T0<|wpAny_handled ?_
 first|rw[hh]|rw[hh]
 exact T0<|M2<|wpAny_throw<|hE _ _ (((Heap.SameBut.update ..).extBut.push _).push _) ⟨_,A16 _ rfl,rfl⟩
theorem Ss(hh:A.handled=At)(it t:δ)(qQ:t≠it)(items:Array ζ):
 Draws prog w A it [it,t] items.size (λ i v=>items[i]?=AC v) (λ i h=>h.IsTupleIter it t i/\h.IsTuple t items) where
 live:=λ _ _ st=>let ⟨o,ho,_⟩:=st.1;⟨o,ho⟩
 frame:=λ _ _ _ st hk=>by let⟨⟨o,e,r⟩,⟨o2,e2,r2⟩⟩:=st;exact⟨⟨o,hk it ∅ o e,r⟩,⟨o2,hk t ∅ o2 e2,r2⟩⟩
 item:=λ i s Q E hi st hQ=>by refine Dm st.1 st.2 (x:=items[i]) ∅ λ h' _G Px=>?_;exact hQ _ h' _ ∅ ⟨_G,st.2.extBut Px.extBut qQ⟩ Px
 done:=λ s Q E st hE=>GV hh st.1 st.2 ∅ hE
theorem EL{ch:γ δ}(I:Inv X χ σ H s)(k:∀b o,b∉ch->s.heap.get? b=AC o->h'.get? b=AC o)(hf:∀b∈ch,qN X χ H b):Inv X χ σ H {s with heap:=h',toks:=t'}:=by
 have Bq:∀b u,H b=AC u->b∉ch:=λ b u e hb=>by rw[(hf b hb).1]at e;cases e
 refine I.step (λ b hb=>?_) (λ b o _ _ hc e _=>k b o hc e) (λ b o _ _ hc e _=>⟨_,k b o hc e⟩) (λ _ _ _ _ n=>n)
  (λ b o hc e=>⟨o,k b o hc e⟩) (λ _ _ e=>e) (λ _ _ _ e=>e) (λ _ _ _ e=>e) (λ m hm=>?_) (λ b u e=>?_) I.bare
 .let⟨f0,f1,f2,f3,f4,f5⟩:=hf b hb;exact⟨f3,f1,f4,f5⟩
 .let⟨o,es,ep,ho,r⟩:=hm;exact⟨o,es,ep,k _ o (λ hb=>(hf _ hb).2.1 rfl) ho,r⟩
 .refine(I.cy b u e).oy (λ c v hc q=>k c v ?_ q) (λ _ q=>q) (λ _ _ q=>q) λ _ _ _ q=>q;rcases hc with z|z
  .rw[z];exact Bq b u e
  .exact Bq c _ z
theorem EK{ch:γ δ}(I:Inv X χ σ H s)(k:∀b o,b∉ch->s.heap.get? b=AC o->h'.get? b=AC o)(hf:∀b∈ch,qN X χ H b)
 (hT:s.heap.objs.size<=T) (hTT:qM h' T us.toArray) (r:Vals xs us) (hz:xs.length<=sizeLine):Inv X χ σ (upd H T<|.tup xs) {s with heap:=h',toks:=t'}:=by
 have hn:=I.cy.fresh hT;have Bq:∀b u,H b=AC u->b∉ch:=λ b u e hb=>by rw[(hf b hb).1]at e;cases e
 have up:∀b u,H b=AC u->upd H T (.tup xs) b=AC u:=λ b u e=>by rw[aE<|bt e hn];exact e
 have lt:∀b o,s.heap.get? b=AC o->b≠T:=λ b o e z=>by rw[z]at e;exact absurd (A03 e)<|A92.mpr hT
 refine I.step (λ b hb=>?_) (λ b o _ _ hc e _=>k b o hc e) (λ b o _ _ hc e _=>⟨_,k b o hc e⟩) (λ b o _ e n=>by rw[aE<|lt b o e];exact n)
  (λ b o hc e=>⟨o,k b o hc e⟩) (λ b ys e=>up b _ e) (λ b o u e=>up b _ e) (λ b u _ e=>up b _ e) (λ m hm=>?_) (λ b u e=>?_) I.bare
 .let⟨f0,f1,f2,f3,f4,f5⟩:=hf b hb;exact⟨f3,f1,f4,f5⟩
 .let⟨o,es,ep,ho,q⟩:=hm;exact⟨o,es,ep,k _ o (λ hb=>(hf _ hb).2.1 rfl) ho,q⟩
 .by_cases hb:b=T
  .subst hb;rw[aP]at e;cases e;exact⟨hz,us,r,hTT⟩
  .rw[aE hb]at e;refine(I.cy b u e).oy (λ c v hc q=>k c v ?_ q) (λ c q=>?_) (λ c ys q=>up c _ q) λ c v _ q=>up c _ q
   .rcases hc with z|z
    .rw[z];exact Bq b u e
    .exact Bq c _ z
   .exact up c _ q
structure S0 where
 at_:Nat->Hp->V->Prop
 end_:Nat->Hp->Prop
def W_(J:S0):It:=⟨λ i H=>∃y,J.at_ i H y,λ i H x H'=>∃T y,H T=At/\x=.ref T/\H'=upd H T (.tup [.int (i:Nat),y])/\J.at_ i H y,J.end_⟩
structure Src(P:Program)(w:World)(K:Db)(J:S0)(it:Addr)(RI:Nat->Heap->Prop):Prop where
 obj:∀i h,RI i h->∃o,h.get? it=AC o/\(∀v,o.data≠.cell v)/\o.cls≠.type "enumerate" /\ o.cls≠.type "zip" /\ o.cls≠.type "tuple"
 keep:∀i h h',RI i h->(∀o,h.get? it=AC o->h'.get? it=AC o)->RI i h'
 draw:∀(X:Cx),X.prog=P->X.w=w->X.K=K->X.calm=Ch->∀(i:Nat)(χ:List (Addr×Obj))(s:Shared)(σ:St)(H:Hp),Inv X χ σ H s->RI i s.heap->((∃y,J.at_ i H y)\/J.end_ i H) ->
  ∃(fp:List Addr)(n:Nat)(Pv:Nat->Value->Prop)(S:Nat->Heap->Prop),Draws P w X.A.in1 it fp n Pv S/\S i s.heap/\it∈fp/\(∀b∈fp,b=it\/∃o,s.heap.get? b=AC o/\o.cls≠.type "enumerate" /\ o.cls≠.type "zip" /\ (H b=At->∃o',K.lookup b=AC o')) /\
   ((∃y,J.at_ i H y)->i<n/\∀u,Pv i u->∃y,RelV y u/\J.at_ i H y)/\(J.end_ i H->i=n)/\∀j h,S j h->RI j h
theorem qZ{K:Fk}(S:Src P w K J it RI)(V9:e≠it):
 Turn P w K (.Tuple elts x1 pos) (W_ J) [e,it] e (λ i h=>(∃old,IsEnum h e it i old)/\RI i h) where
 mem:=by simp
 obj:=λ i h st b hb=>by
  rcases A00.mp hb with rfl|hb
  .let⟨⟨old,he⟩,_⟩:=st;exact⟨_,he,λ v z=>by have z':=z;cases z'⟩
  .rw[A22]at hb;subst hb;let⟨o,h1,h2,_⟩:=S.obj i h st.2;exact⟨o,h1,h2⟩
 keep:=λ i h h' st k=>⟨let ⟨old,he⟩:=st.1;⟨old,k e ∅ _ he⟩,S.keep i h h' st.2 λ o q=>k it ∅ o q⟩
 item:=by
  intro X hP hw hK hc i χ s σ H E I hf st hg;let⟨fp,n,Pv,St',D,_p,_I,_L,_2,_,xn⟩:=S.draw X hP hw hK hc i χ s σ H I st.2 (.inl hg);let⟨hi,hv⟩:=_2 hg;subst hP hw hK;let⟨old,he⟩:=st.1;have Yp:e∉fp:=λ hb=>by
   rcases _L e hb with z|⟨o,q,qQ,_⟩
   .exact V9 z
   .rw[he]at q;cases q;exact qQ rfl
  have W:=WalksT.enumerateD (A:=X.A) D e V9 Yp _I;have V8:=A03 he;have V2:it<s.heap.objs.size:=by let⟨o,q,_⟩:=S.obj _ _ st.2;exact A03 q
  refine wpAny_pyNext_enum_itemD D he _p hi V9 Yp λ u h' t' hu ho Px hTx FC hk=>⟨.ref s.heap.objs.size,rfl,?_⟩
  have hT:s.heap.objs.size<=s.heap.objs.size:=v6 _;have kk:∀b o,b∉[e,it]->s.heap.get? b=AC o->h'.get? b=AC o:=λ b o hb y=>hk b o (λ e'=>hb (by simp[e'])) (λ e'=>hb (by simp[e'])) y;let⟨y,ry,hy⟩:=hv u hu;have hTw:s.heap.objs.size∉[e,it]:=by simp only[A00,A19,A24,A75];exact⟨A42 V8,A42 V2⟩
  refine W.go elts x1 pos i s.heap.objs.size _ _ _ ⟨⟨_,ho⟩,Px,A42 V8,A42 V2⟩ λ h2 RO kk2=>?_;have _5:=I.cy.fresh hT;have _6:qM h2 s.heap.objs.size [Value.int i t',u].toArray:=⟨_,kk2 _ _ hTw hTx⟩
  have I2:Inv X χ σ (upd H s.heap.objs.size<|.tup [.int (i:Nat),y]) {s with heap:=h2,toks:=t'+1}:=
   EK (ch:=[e,it]) I (λ b o hb q=>kk2 b o hb<|kk b o hb q) hf hT _6 (.cons ⟨t',rfl⟩<|.cons ry .nil) (by show 2<=sizeLine;decide)
  refine⟨.ref s.heap.objs.size,_,I2,rfl,⟨s.heap.objs.size,y,_5,rfl,rfl,hy⟩,⟨RO.1,xn _ _ RO.2⟩,λ b hb=>?_⟩;have _1:b≠s.heap.objs.size:=λ z=>hTw<|z▸hb;rw[aE _1];exact(hf b hb).1
 done:=by
  intro X hP hw hK hc i χ s σ H E I hf st hg;let⟨fp,n,Pv,St',D,_p,_I,_L,_,R4,xn⟩:=S.draw X hP hw hK hc i χ s σ H I st.2 (.inr hg);have _H:=R4 hg;subst hP hw hK _H;let⟨old,he⟩:=st.1;have Yp:e∉fp:=λ hb=>by
   rcases _L e hb with z|⟨o,q,qQ,_⟩
   .exact V9 z
   .rw[he]at q;cases q;exact qQ rfl
  have W:=WalksT.enumerateD (A:=X.A) D e V9 Yp _I;exact W.done s _ _ ⟨⟨old,he⟩,_p⟩ λ h' tk kk=>⟨rfl,EL (ch:=[e,it]) I kk hf⟩
 self:=λ A i s Q E st hQ=>by let⟨old,he⟩:=st.1;exact B64 he hQ
def G'(K:Db)(t:δ)(vs:γ V):S0:=⟨λ i H y=>nr K H t vs/\vs[i]?=AC y,λ i H=>nr K H t vs/\vs.length=i⟩
def NU(K:Db)(t:δ)(vs:γ V):S0:=⟨λ i H y=>ka K H t vs/\vs[i]?=AC y,λ i H=>ka K H t vs/\vs.length=i⟩
def Kd(z:Str):S0:=⟨λ i _ y=>∃c,z.cps[i]?=AC c/\y=.str ⟨#[c]⟩,λ i _=>i=z.cps.size⟩
theorem uj{K:Fk}:Src P w K (G' K t xs) it (λ i h=>h.IsTupleIter it t i) where
 obj:=λ i h st=>by let⟨o,e,c,d⟩:=st;exact⟨o,e,λ v z=>(by rw[d]at z;cases z),by rw[c];decide,by rw[c];decide,by rw[c];decide⟩
 keep:=λ i h h' st k=>let ⟨o,e,r⟩:=st;⟨o,k o e,r⟩
 draw:=by
  intro X hP hw hK hc i χ s σ H I st hg;subst hP hw hK;have hq:nr X.K H t xs:=by rcases hg with⟨y,h,_⟩|⟨h,_⟩<;>exact h
  let⟨bT,r,p,hz⟩:=I.tuple hq;let⟨ot,NX,R5,nt,V'⟩:=id p;let⟨oi,VV,V_,hdi⟩:=id st;have qQ:t≠it:=by rintro rfl;rw[NX]at VV;cases VV;rw[R5]at V_;injection V_ with z;exact absurd z ∅
  refine⟨[it,t],_,_,_,Ss (A:=X.A.in1) (I.ok.hd hc) it t qQ _,⟨st,p⟩,by simp,λ b hb=>?_,λ⟨y,_,VO⟩=>?_,λ⟨_,hl⟩=>?_,λ j h q=>q.1⟩
  .rcases A00.mp hb with rfl|hb
   .exact .inl rfl
   .rw[A22]at hb;subst hb;refine .inr ⟨ot,NX,by rw[R5];decide,by rw[R5];decide,λ hn=>?_⟩;rcases hq with(z|⟨o,z⟩)|⟨o,_,_,z,_⟩
    .rw[hn]at z;cases z
    .rw[hn]at z;cases z
    .exact⟨o,z⟩
  .let⟨u,hu,ru⟩:=r.get VO;refine⟨by rw[A09];exact(A04.mp hu).1,λ u' Tv=>⟨y,?_,hq,VO⟩⟩;have:bT[i]?=AC u':=by simpa using Tv
   rw[hu]at this;cases this;exact ru
  .rw[A09,<-r.length,hl]
theorem EZ{K:Fk}:Src P w K (NU K t xs) it (λ i h=>h.IsListIter it t i) where
 obj:=λ i h st=>by let⟨o,e,c,d⟩:=st;exact⟨o,e,λ v z=>(by rw[d]at z;cases z),by rw[c];decide,by rw[c];decide,by rw[c];decide⟩
 keep:=λ i h h' st k=>let ⟨o,e,r⟩:=st;⟨o,k o e,r⟩
 draw:=by
  intro X hP hw hK hc i χ s σ H I st hg;subst hP hw hK;have hq:ka X.K H t xs:=by rcases hg with⟨y,h,_⟩|⟨h,_⟩<;>exact h
  let⟨bT,r,p,hz⟩:=I.list hq;let⟨ot,NX,R5,nt,V'⟩:=id p.isList;let⟨oi,VV,V_,hdi⟩:=id st;have qQ:t≠it:=by rintro rfl;rw[NX]at VV;cases VV;rw[R5]at V_;injection V_ with z;exact absurd z ∅
  refine⟨[it,t],_,_,_,Draws.list (A:=X.A.in1) (I.ok.hd hc) it t qQ _,⟨st,p.isList⟩,by simp,λ b hb=>?_,λ⟨y,_,VO⟩=>?_,λ⟨_,hl⟩=>?_,λ j h q=>q.1⟩
  .rcases A00.mp hb with rfl|hb
   .exact .inl rfl
   .rw[A22]at hb;subst hb;refine .inr ⟨ot,NX,by rw[R5];decide,by rw[R5];decide,λ hn=>?_⟩;rcases hq with(z|⟨o,z⟩)|⟨o,_,_,z,_⟩
    .rw[hn]at z;cases z
    .rw[hn]at z;cases z
    .exact⟨o,z⟩
  .let⟨u,hu,ru⟩:=r.get VO;refine⟨by rw[A09];exact(A04.mp hu).1,λ u' Tv=>⟨y,?_,hq,VO⟩⟩;have:bT[i]?=AC u':=by simpa using Tv
   rw[hu]at this;cases this;exact ru
  .rw[A09,<-r.length,hl]
theorem Mw{K:Fk}:Src P w K (Kd z) it (λ i h=>h.IsStrIter it (strIterType z) z tk i) where
 obj:=λ i h st=>by let⟨o,e,c,d⟩:=st;refine⟨o,e,λ v q=>(by rw[d]at q;cases q),?_,?_,?_⟩<;>(rw[c];unfold strIterType;split<;>decide)
 keep:=λ i h h' st k=>let ⟨o,e,r⟩:=st;⟨o,k o e,r⟩
 draw:=by
  intro X hP hw hK hc i χ s σ H I st hg;subst hP hw hK;have hh:X.A.in1.handled=At:=I.ok.hd hc;have fin:∀Pv,(∀i u,Pv i u->∃c t,z.cps[i]?=AC c/\u=.str ⟨#[c]⟩ t)->∀S,Draws X.prog X.w X.A.in1 it [it] z.cps.size Pv S->S i s.heap->(∀j h,S j h->h.IsStrIter it (strIterType z) z tk j) ->
   ∃fp n Pv S,Draws X.prog X.w X.A.in1 it fp n Pv S/\S i s.heap/\it∈fp/\(∀b∈fp,b=it\/∃o,s.heap.get? b=AC o/\o.cls≠.type "enumerate" /\ o.cls≠.type "zip" /\ (H b=At->∃o',X.K.lookup b=AC o')) /\
    ((∃y,(Kd z).at_ i H y)->i<n/\∀u,Pv i u->∃y,RelV y u/\(Kd z).at_ i H y)/\((Kd z).end_ i H->i=n)/\∀j h,S j h->h.IsStrIter it (strIterType z) z tk j:=by
   intro Pv hPv S D hs hS;refine⟨[it],z.cps.size,Pv,S,D,hs,by simp,λ b hb=>.inl (by simpa using hb),λ⟨y,c,hy,_⟩=>⟨?_,λ u hu=>?_⟩,λ q=>q,hS⟩
   .rcases Nat.lt_or_ge i z.cps.size with q|q
    .exact q
    .rw[Array.getElem?_eq_none q]at hy;cases hy
   .let⟨c',t',Ag,rfl⟩:=hPv i u hu;exact⟨.str ⟨#[c']⟩,⟨t',rfl⟩,c',Ag,rfl⟩
  cases ha:z.cps.all (· < 128)
  .have e:strIterType z="str_iterator":=by unfold strIterType;rw[ha];rfl
   exact fin _ (λ _ _ q=>q) _ (Draws.strWide hh it z tk) (by rw[<-e];exact st) λ j h q=>by rw[e];exact q
  .have e:strIterType z="str_ascii_iterator":=by unfold strIterType;rw[ha];rfl
   exact fin _ (λ _ _ q=>q) _ (Draws.strAscii hh it z tk) (by rw[<-e];exact st) λ j h q=>by rw[e];exact q
theorem Bu(l:δ)(items:Array ζ)(n:Nat)(dct:ε δ)(sl:Array _):
 Meets (Builtin.«enumerate.__new__» ⟨[.type "enumerate",.ref l],[]⟩) (λ _ R s=>s.heap.get? l=AC {cls:=.type "tuple",dict:=dct,data:=.seq items n,slots:=sl} /\
  R (.ok<|.ret<|.ref (s.heap.push {cls:=.type "tuple_iterator",data:=.fields #[.ref l,.int 0 0]}).objs.size)
   {s with heap:=(s.heap.push {cls:=.type "tuple_iterator",data:=.fields #[.ref l,.int 0 0]}).push {cls:=.type "enumerate",data:=.fields #[.none,.bool AT,.ref s.heap.objs.size,rawInt 0,.none,.none]}}):=
 .of_wp λ prog w A R s h=>by
  let⟨hp,gs,dr,tk,os⟩:=s;let⟨hl,h⟩:=h;have _o:=sub_enumerate;have hL:ul _ l items:=⟨_,hl,rfl,n,rfl⟩
  wp_walk using C11 hl
  refine wpAny_stack_any λ st=>M2 ?_;split
  .rename_i c _ _ _ _ _;cases (c==Value.type "enumerate")<;>(wp_walk using C11 hl,B06 hL;exact⟨_,rfl,h⟩)
  .wp_walk using C11 hl,B06 hL
   exact⟨_,rfl,h⟩
theorem Ek(hL:s.heap.IsTuple l items)
 (h:∀h',IsEnum h' (s.heap.objs.size+1) s.heap.objs.size 0 .none->h'.IsTupleIter s.heap.objs.size l 0->(∀b o,s.heap.get? b=AC o->h'.get? b=AC o)->Q (.ref<|s.heap.objs.size+1) {s with heap:=h'}) :
 FM (model prog w) A (call (.type "enumerate") [.ref l]) Q E s:=by
 let⟨⟨c,dct,dt,sl⟩,hl,hc,n,hd⟩:=hL;have Ag:=hc;have rP:=hd;subst Ag rP;refine callType_new F.called_enumerate ∅ (F.typeCall_enumerate_1 _) (F.newCall_enumerate_1 _) (λ obj=>F.args_object_init_2 obj _) F.entry_enumerate_new (Bu l items n dct sl) ⟨hl,?_⟩;have hz:(s.heap.push {cls:=.type "tuple_iterator",data:=.fields #[.ref l,.int 0 0]}).objs.size=s.heap.objs.size+1:=A48 ..;have he:=A16 (s.heap.push {cls:=.type "tuple_iterator",data:=.fields #[.ref l,.int 0 0]}) (o:={cls:=.type "enumerate",data:=.fields #[.none,.bool AT,.ref s.heap.objs.size,rawInt 0,.none,.none]}) rfl;rw[hz]at he ⊢;exact⟨⟨_,he,rfl⟩,h _ he ⟨_,A02 _<|A16 _ rfl,rfl,rfl⟩ λ b o x=>A02 _<|A02 _ x⟩
theorem r?:∀ds k i,(Z.mE k ds)[i]?=(ds[i]?).map λ d=>Z.pair (.int<|(k+i:Nat)) d
|[],_,_=>by simp[Z.mE]
|d::ds,k,0=>by simp[Z.mE]
|d::ds,k,i+1=>by simp only[Z.mE,List.getElem?_cons_succ,r? ds _ i];rw[show k+1+i=k+(i+1)by lia]
theorem yi:∀ds k,(Z.mE k ds).length=ds.length
|[],_=>rfl
|d::ds,k=>by simp[Z.mE,yi ds]
theorem vD{K:Db}(h1:∀i d H1,S H1->ds[i]?=AC d->(∃y,J.at_ i H1 y)/\∀y,J.at_ i H1 y->Den K H1 d y)(h2:∀H1,S H1->J.end_ ds.length H1):F_ K (W_ J) S (Z.mE 0 ds) where
 go:=λ i d H1 s hi=>by
  rw[r?]at hi;cases q:ds[i]? with
  |none=>rw[q]at hi;cases hi
  |some d0=>exact(h1 i d0 H1 s q).1
 CB:=λ i d H1 H2 x s hi y=>by
  let⟨T,y,hT,rfl,rfl,hy⟩:=y;rw[r?]at hi;cases q:ds[i]? with
  |none=>rw[q]at hi;cases hi
  |some d0=>rw[q]at hi;cases hi;have sm:aG H1 (upd H1 T<|.tup [.int (i),y]):=cI hT;refine⟨sm,gc (.inl<|.inl aP)<|aI.cons ?_<|aI.cons (((h1 i d0 H1 s q).2 y hy).up sm) aI.nil⟩;rw[A93];exact dP
 stop:=λ H1 s=>by rw[yi];exact h2 H1 s
theorem D9(I:Inv X χ σ H s):∀b∈[s.heap.objs.size+1,s.heap.objs.size],qN X χ H b:=λ b hb=>by
 rcases A00.mp hb with rfl|hb
 .exact I.xp (A61 _)<|I.cy.fresh<|A61 _
 .rw[A22]at hb;subst hb;exact I.xp (v6 _)<|I.cy.fresh<|v6 _
theorem _root_.ZQ.K'(hm:X.mg "enumerate"=At)(ha:ZQ.QE X a fa)(hs:starEach [a] X.env=[(AT,eval a X.env)]:=by rfl)(wJ:Se a [] X.env:=by rfl)(hg:Gl X "enumerate":=by rfl):ZQ.QJ X (.Tuple elts x1 p2) (.Call (.Name "enumerate" p) [a] [] pos) (Z.Fz fa):=⟨by
 have ha:=ha.p;intro χ s σ H R I w;let⟨ρ,ds,r,e,k⟩:=w;let⟨d,ea,e⟩:=WP e;let⟨ds0,ei,e⟩:=WP e;cases e;refine Call_<|k! I hg hm PyProof.Rows.boot_enumerate<|B21 (da ((bL ha cW wJ) pos χ s σ H (λ vs H1=>∃v,vs=[v]/\aG H H1/\Den X.K H1 d v) I ⟨ρ,d,r,ea,λ v H1 s1 d1=>⟨v,rfl,s1,d1⟩⟩) ?_) hs rfl;rintro us s1 ⟨vs,H1,I1,r1,q1⟩;let⟨v,rfl,sm,hd⟩:=q1;let⟨u,rfl,ru⟩:=vals1 r1;cases d with
 |tup YY=>
  cases ei;let⟨q,vs,rfl,hq,t⟩:=b_.tup (.inl hd);cases ru;let⟨bT,rv,pt,hz⟩:=I1.tuple hq;refine Ek pt λ h' he hit hk=>B64 he ?_;refine⟨_,[s1.heap.objs.size+1,s1.heap.objs.size],_,W_<|G' X.K q vs,H1,rfl,I1.kept hk,qZ uj<|C13 _,⟨⟨_,he⟩,hit⟩,D9 I1,k _ H1 sm<|vD (λ i d0 H2 s2 hi=>?_) λ H2 s2=>?_⟩
  .let⟨y,hy,dy⟩:=t.get hi;refine⟨⟨y,fR s2 hq,hy⟩,λ y' Kf=>?_⟩;have:=Kf.2;rw[hy]at this;cases this;exact dy.ups s2
  .exact⟨fR s2 hq,t.length⟩
 |lst YY=>
  cases ei;simp only[Den]at hd;let⟨q,vs,rfl,hq,t⟩:=hd;cases ru;let⟨bT,rv,pt,hz⟩:=I1.list hq.sq;refine call_enumerate_list pt.isList λ h' he hit FC hk=>B64 he ?_;refine⟨_,[s1.heap.objs.size+1,s1.heap.objs.size],_,W_<|NU X.K q vs,H1,rfl,I1.kept hk,qZ EZ<|C13 _,⟨⟨_,he⟩,hit⟩,D9 I1,k _ H1 sm<|vD (λ i d0 H2 s2 hi=>?_) λ H2 s2=>?_⟩
  .let⟨y,hy,dy⟩:=t.get hi;refine⟨⟨y,(hq.mono s2).sq,hy⟩,λ y' Kf=>?_⟩;have:=Kf.2;rw[hy]at this;cases this;exact dy.ups s2
  .exact⟨(hq.mono s2).sq,t.length⟩
 |str cs=>
  cases ei;simp only[Den]at hd;rw[hd]at ru;let⟨tk,rfl⟩:=ru;refine call_enumerate_str λ h' he hit FC hk=>B64 he ?_;refine⟨_,[s1.heap.objs.size+1,s1.heap.objs.size],_,W_<|Kd ⟨cs.toArray⟩,H1,rfl,I1.kept hk,qZ Mw<|C13 _,⟨⟨_,he⟩,hit⟩,D9 I1,k _ H1 sm<|vD (λ i d0 H2 s2 hi=>?_) λ H2 s2=>?_⟩
  .rw[A08]at hi;cases hc:cs[i]? with
   |none=>rw[hc]at hi;cases hi
   |some c=>
    rw[hc]at hi;cases hi;refine⟨⟨_,c,by simpa using hc,rfl⟩,?_⟩;rintro y ⟨c',Ag,hy⟩;have:cs[i]?=AC c':=by simpa using Ag
    rw[hc]at this;cases this;rw[hy];exact lj
  .show(cs.map λ c=>Z.D.str [c]).length=cs.toArray.size;simp
 |non=>cases ei
 |bl _=>cases ei
 |int _=>cases ei
 |dct _ _=>cases ei⟩
structure Far(z TI TO i1 i2:Addr)(f1 f2:List Addr):Prop where
 ne:[z,TI,TO,i1,i2].Nodup
 a1:z∉f1/\TO∉f1/\i2∉f1
 a2:z∉f2/\TO∉f2/\i1∉f2
theorem Gd{z TI TO i1 i2:δ}{Q:ζ->η->Prop}(F:Far z TI TO i1 i2 f1 f2)(D1:Draws prog w A i1 f1 n1 P1 S1)(D2:Draws prog w A i2 f2 n2 P2 S2)
 (hz:IsZip s.heap z TI TO .none) (G_:IsPair s.heap TI (.ref i1) (.ref i2)) (HV:IsPair s.heap TO a b) (h1:S1 k s.heap) (h2:S2 k s.heap) (Py:k<n1) (hk2:k<n2)
 (hQ:∀x y h' tk,P1 k x->P2 k y->IsZip h' z TI TO (rawInt s.heap.objs.size)->IsPair h' TO x y->S1 (k+1) h'->S2 (k+1) h'->IsPair h' s.heap.objs.size x y->(∀c o,c∉[z,TO,i1,i2]->s.heap.get? c=AC o->h'.get? c=AC o)->Q (.ref s.heap.objs.size) {s with heap:=h',toks:=tk}) :
 FM (model prog w) A (Builtin.«zip.__next__» ⟨[.ref z],[]⟩) (λ fin s'=>∃v,fin=.done (.ret v)/\Q v s') E s:=by
 have ne:=F.ne;simp only[A49,A00,A19,A24,A75,B27,B28,B29]at ne;let⟨⟨T7,LK,O4,P4⟩,⟨TITO,TIi1,TIi2⟩,⟨TOi1,TOi2⟩,i12⟩:=ne;let⟨Xf,SU,VM⟩:=F.a1;let⟨Xe,OP,RK⟩:=F.a2;let⟨hp,gs,dr,tk0,os⟩:=s;show FM _ _ (field (.ref z) 2>>=_) _ _ _;refine T0<|A34 hz rfl (x:=.bool AT) rfl ?_;show FM _ _ (field (.ref z) 3>>=_) _ _ _;refine T0<|A34 hz rfl (x:=.ref TI) rfl<|T0<|A46 G_ rfl ?_;show FM _ _ (GT (.ref z)>>=_) _ _ _;refine T0 ?_;unfold GT;refine T0<|A34 hz rfl (x:=.none) rfl<|M2 ?_;simp only[A23];refine T0<|B23<|T0<|A34 hz rfl (x:=.ref TO) rfl<|T0<|B08 hz ∅ λ g1 Pt e1=>?_;have Pt:=Pt;have e1:=e1;refine T0 ?_;simp only[AA8,AC1,B51,AC6];refine T0<|T0<|B65 ?_;show FM _ _ (GM (.ref i1)>>=_) _ _ _;refine T0<|D1.item k _ _ _ Py (D1.frame k hp g1 h1 λ c hc o q=>e1.extBut c o (λ y=>Xf<|y▸hc) q) λ x g2 t2 hx Yw e2=>M2 ?_;have e2:=e2;have Kn:=e2.extBut _ _ TOi1<|e1.extBut _ _ (A07 LK) HV;refine T0<|A46 Kn rfl<|T0<|C14 Kn λ g3 N5 e3=>?_;have N5:=N5;have e3:Go TO g2 g3:=e3;refine T0<|A64<|M2 ?_;refine T0<|T0<|B65 ?_;show FM _ _ (GM (.ref i2)>>=_) _ _ _;have _9:S2 k g3:=D2.frame k hp g3 h2 λ c hc o q=>e3.extBut c o (λ y=>OP<|y▸hc)<|e2.extBut c o (λ y=>RK<|y▸hc)<|e1.extBut c o (λ y=>Xe<|y▸hc) q;refine T0<|D2.item k _ _ _ hk2 _9 λ y g4 t4 hy h24 e4=>M2 ?_;have e4:Go i2 g3 g4:=e4;have Wh:IsPair g4 TO x b:=e4.extBut _ _ TOi2 N5;refine T0<|A46 Wh rfl<|T0<|C14 Wh λ g5 N4 e5=>?_;have N4:IsPair g5 TO x y:=N4;have e5:Go TO g4 g5:=e5;refine T0<|A64<|M2<|M2 ?_;refine T0<|A46 N4 rfl<|T0<|wpAny_newTuple ?_;have FC:g5.objs.size=hp.objs.size:=by rw[e5.1,e4.1,e3.1,e2.1,e1.1]
 have hz5:IsZip g5 z TI TO .ellipsis:=e5.extBut _ _ LK<|e4.extBut _ _ P4<|e3.extBut _ _ LK<|e2.extBut _ _ O4 Pt;have _g:z<g5.objs.size:=A03 hz5;show FM _ _ (Re (.ref z) (.ref g5.objs.size)>>=_) _ _ _;refine T0 ?_;unfold Re;have hz6:IsZip (g5.push {cls:=.type "tuple",data:=.seq #[x,y]}) z TI TO .ellipsis:=A02 _ hz5;refine T0<|B08 hz6 ∅ λ g7 _h e7=>?_;have _h:IsZip g7 z TI TO (rawInt g5.objs.size):=_h;refine B08 _h ∅ λ g8 Ye e8=>?_;have Ye:IsZip g8 z TI TO (rawInt g5.objs.size):=Ye;have up:∀c o,c≠z->g5.get? c=AC o->g8.get? c=AC o:=λ c o h q=>e8.extBut _ _ h<|e7.extBut _ _ h<|A02 _ q;have hT8:IsPair g8 g5.objs.size x y:=e8.extBut _ _ (A42 _g)<|e7.extBut _ _ (A42 _g)<|A16 _ rfl;have s1:S1 (k+1) g8:=D1.frame _ g2 g8 Yw λ c hc o q=>up c o (λ y=>Xf<|y▸hc)<|e5.extBut c o (λ y=>SU<|y▸hc)<|e4.extBut c o (λ y=>VM<|y▸hc)<|e3.extBut c o (λ y=>SU<|y▸hc) q;have s2:S2 (k+1) g8:=D2.frame _ g4 g8 h24 λ c hc o q=>up c o (λ y=>Xe<|y▸hc)<|e5.extBut c o (λ y=>OP<|y▸hc) q;have kp:∀c o,c∉[z,TO,i1,i2]->hp.get? c=AC o->g8.get? c=AC o:=λ c o hc q=>by simp only[A00,A19,A24,A75]at hc;exact up c o hc.1<|e5.extBut _ _ hc.2.1<|e4.extBut _ _ hc.2.2.2<|e3.extBut _ _ hc.2.1<|e2.extBut _ _ hc.2.2.1<|e1.extBut _ _ hc.1 q
 rw[FC]at Ye hT8;refine M2 ⟨_,rfl,?_⟩;show Q (.ref g5.objs.size) _;rw[FC];exact hQ x y g8 t4 hx hy Ye (up _ _ (A07 LK) N4) s1 s2 hT8 kp
theorem H_{z TI TO i1 i2:δ}(F:Far z TI TO i1 i2 f1 f2)(D1:Draws prog w A i1 f1 n1 P1 S1)(D2:Draws prog w A i2 f2 n2 P2 S2)
 (hz:IsZip s.heap z TI TO .none) (G_:IsPair s.heap TI (.ref i1) (.ref i2)) (HV:IsPair s.heap TO a b) (h1:S1 k s.heap) (h2:S2 k s.heap) (R4:k=n1\/(k<n1/\k=n2))
 (hE:∀h' e tk,(∀c o,c∉[z,TO,i1,i2]->s.heap.get? c=AC o->h'.get? c=AC o)->(∃o,h'.get? e=AC o/\o.cls=.type "StopIteration")->E (.ref e) {s with heap:=h',toks:=tk}) :
 FM (model prog w) A (Builtin.«zip.__next__» ⟨[.ref z],[]⟩) Q E s:=by
 have ne:=F.ne;simp only[A49,A00,A19,A24,A75,B27,B28,B29]at ne;let⟨⟨T7,LK,O4,P4⟩,⟨TITO,TIi1,TIi2⟩,⟨TOi1,TOi2⟩,i12⟩:=ne;let⟨Xf,SU,VM⟩:=F.a1;let⟨Xe,OP,RK⟩:=F.a2;let⟨hp,gs,dr,tk0,os⟩:=s;show FM _ _ (field (.ref z) 2>>=_) _ _ _;refine T0<|A34 hz rfl (x:=.bool AT) rfl ?_;show FM _ _ (field (.ref z) 3>>=_) _ _ _;refine T0<|A34 hz rfl (x:=.ref TI) rfl<|T0<|A46 G_ rfl ?_;show FM _ _ (GT (.ref z)>>=_) _ _ _;refine T0 ?_;unfold GT;refine T0<|A34 hz rfl (x:=.none) rfl<|M2 ?_;simp only[A23];refine T0<|B23<|T0<|A34 hz rfl (x:=.ref TO) rfl<|T0<|B08 hz ∅ λ g1 Pt e1=>?_;have Pt:=Pt;have e1:=e1;refine T0 ?_;simp only[AA8,AC1,B51,AC6];refine T0<|T0<|B65 ?_;show FM _ _ (GM (.ref i1)>>=_) _ _ _;have Yx:=D1.frame k hp g1 h1 λ c hc o q=>e1.extBut c o (λ y=>Xf<|y▸hc) q;rcases R4 with rfl|⟨Py,rfl⟩
 .refine T0<|D1.done _ _ _ Yx λ g2 e e2 he=>?_;let⟨oe,RW,Wa⟩:=he;have e2:=e2;have Yf:IsZip g2 z TI TO .ellipsis:=e2 _ _ O4 Pt;have _N:e≠z:=λ q=>by subst q;rw[Yf]at RW;cases RW;simp at Wa
  refine B08 Yf ∅ λ g3 _ e3=>hE g3 e tk0 (λ c o hc q=>?_) ⟨oe,e3.extBut _ _ _N RW,Wa⟩;simp only[A00,A19,A24,A75]at hc;exact e3.extBut _ _ hc.1<|e2 _ _ hc.2.2.1<|e1.extBut _ _ hc.1 q
 .refine T0<|D1.item k _ _ _ Py Yx λ x g2 t2 hx Yw e2=>M2 ?_;have e2:Go i1 g1 g2:=e2;have Kn:IsPair g2 TO a b:=e2.extBut _ _ TOi1<|e1.extBut _ _ (A07 LK) HV;refine T0<|A46 Kn rfl<|T0<|C14 Kn λ g3 N5 e3=>?_;have e3:Go TO g2 g3:=e3;refine T0<|A64<|M2 ?_;refine T0<|T0<|B65 ?_;show FM _ _ (GM (.ref i2)>>=_) _ _ _;have _9:S2 k g3:=D2.frame k hp g3 h2 λ c hc o q=>e3.extBut c o (λ y=>OP<|y▸hc)<|e2.extBut c o (λ y=>RK<|y▸hc)<|e1.extBut c o (λ y=>Xe<|y▸hc) q;refine T0<|D2.done _ _ _ _9 λ g4 e e4 he=>?_;let⟨oe,RW,Wa⟩:=he;have e4:Heap.ExtBut i2 g3 g4:=e4;have hz4:IsZip g4 z TI TO .ellipsis:=e4 _ _ P4<|e3.extBut _ _ LK<|e2.extBut _ _ O4 Pt;have _N:e≠z:=λ q=>by subst q;rw[hz4]at RW;cases RW;simp at Wa
  refine B08 hz4 ∅ λ g5 _ e5=>hE g5 e t2 (λ c o hc q=>?_) ⟨oe,e5.extBut _ _ _N RW,Wa⟩;simp only[A00,A19,A24,A75]at hc;exact e5.extBut _ _ hc.1<|e4 _ _ hc.2.2.2<|e3.extBut _ _ hc.2.1<|e2.extBut _ _ hc.2.2.1<|e1.extBut _ _ hc.1 q
def YV(J1 J2:S0):It:=⟨λ i H=>(∃y,J1.at_ i H y)/\∃y,J2.at_ i H y,
 λ i H x H'=>∃T y1 y2,H T=At/\x=.ref T/\H'=upd H T (.tup [y1,y2])/\J1.at_ i H y1/\J2.at_ i H y2,
 λ i H=>(J1.end_ i H/\((∃y,J2.at_ i H y)\/J2.end_ i H))\/((∃y,J1.at_ i H y)/\J2.end_ i H)⟩
theorem Vc(I:Inv X χ σ H s)(f:qN X χ H b)(h:X.K.lookup b=AC o):False:=by
 have hb:=I.ok.mod.HN b o h;rcases f.2.2.2.1 with z|z
 .exact I.ok.zi b o hb z
 .exact absurd (A03 (I.ok.bs b o hb).1)<|A92.mpr z
def tnZ(z TI TO i1 i2:δ)(n1 n2:Nat->ν->Prop)(i:Nat)(h:ν):Prop:=IsZip h z TI TO .none/\IsPair h TI (.ref i1) (.ref i2)/\(∃a b,IsPair h TO a b)/\n1 i h/\n2 i h
theorem Be(p:IsPair h T a b):∃o,h.get? T=AC o/\∀v,o.data≠.cell v:=
 ⟨_,p,λ v z=>by have z':=z;cases z'⟩
theorem AN{K:Fk}{z TI TO i1 i2:δ}(S1:Src P w K J1 i1 n1)(S2:Src P w K J2 i2 n2)(nd:[z,TI,TO,i1,i2].Nodup):
 Turn P w K (.Tuple elts x1 pos) (YV J1 J2) [z,TI,TO,i1,i2] z (tnZ z TI TO i1 i2 n1 n2):=by
 have YC:∀{X}{χ}{σ}{H}{s}{f1 f2},X.K=K->Inv X χ σ H s->(∀b∈[z,TI,TO,i1,i2],qN X χ H b) ->
  (∀b∈f1,b=i1\/∃o,s.heap.get? b=AC o/\o.cls≠.type "enumerate" /\ o.cls≠.type "zip" /\ (H b=At->∃o',K.lookup b=AC o')) ->
  (∀b∈f2,b=i2\/∃o,s.heap.get? b=AC o/\o.cls≠.type "enumerate" /\ o.cls≠.type "zip" /\ (H b=At->∃o',K.lookup b=AC o'))->Far z TI TO i1 i2 f1 f2:=by
  intro X χ σ H s f1 f2 hK I hf g1 g2;subst hK;have Dn:=nd;simp only[A49,A00,A19,A24,A75,B27,B28,B29]at Dn;let⟨⟨T7,LK,O4,P4⟩,⟨TITO,TIi1,TIi2⟩,⟨TOi1,TOi2⟩,i12⟩:=Dn;have Z1:∀b,b∈[z,TI,TO,i1,i2]->b≠i1->b∉f1:=λ b hb qQ hm=>by
   rcases g1 b hm with q|⟨o,_,_,_,q⟩
   .exact qQ q
   .let⟨o',h'⟩:=q (hf b hb).1;exact Vc I (hf b hb) h'
  have Ti:∀b,b∈[z,TI,TO,i1,i2]->b≠i2->b∉f2:=λ b hb qQ hm=>by
   rcases g2 b hm with q|⟨o,_,_,_,q⟩
   .exact qQ q
   .let⟨o',h'⟩:=q (hf b hb).1;exact Vc I (hf b hb) h'
  exact⟨nd,⟨Z1 z ∅ O4,Z1 TO ∅ TOi1,Z1 i2 ∅<|A07 i12⟩,⟨Ti z ∅ P4,Ti TO ∅ TOi2,Ti i1 ∅ i12⟩⟩
 refine⟨by simp,λ i h st b hb=>?_,λ i h h' st k=>?_,?_,?_,λ A i s Q E st hQ=>C15 st.1 hQ⟩
 .let⟨hz,G_,⟨a,b',HV⟩,h1,h2⟩:=st;simp only[A00,A19,A24]at hb;rcases hb with rfl|rfl|rfl|rfl|rfl
  .exact⟨_,hz,λ v z=>by have z':Data.fields _=Data.cell v:=z;cases z'⟩
  .exact Be G_
  .exact Be HV
  .let⟨o,q,r,_⟩:=S1.obj i h h1;exact⟨o,q,r⟩
  .let⟨o,q,r,_⟩:=S2.obj i h h2;exact⟨o,q,r⟩
 .let⟨hz,G_,⟨a,b',HV⟩,h1,h2⟩:=st;exact⟨k z ∅ _ hz,k TI ∅ _ G_,⟨a,b',k TO ∅ _ HV⟩,S1.keep i h h' h1 λ o q=>k i1 ∅ o q,S2.keep i h h' h2 λ o q=>k i2 ∅ o q⟩
 .intro X hP hw hK hc i χ s σ H E I hf st hg;let⟨hz,G_,⟨a,b',HV⟩,h1,h2⟩:=st;let⟨f1,m1,P1,T1,D1,wJ,_,R3,R8,_,V1⟩:=S1.draw X hP hw hK hc i χ s σ H I h1 (.inl hg.1);let⟨f2,m2,P2,T2,D2,zF,_,R1,Wc,_,V0⟩:=S2.draw X hP hw hK hc i χ s σ H I h2 (.inl hg.2);let⟨_J,DU⟩:=R8 hg.1;let⟨hi2,Tu⟩:=Wc hg.2;have FR:=YC hK I hf R3 R1;subst hP hw hK;have hT:s.TypeIs (.ref z) "zip":=⟨_,hz,rfl⟩
  unfold pyNext;refine T0<|B30<|B00 (name:=Da "__next__") hT B66<|B02 B66 hT F.entry_zip_next (Gd FR D1 D2 hz G_ HV wJ zF _J hi2 λ x y h' tk px py z' to' Zt s2' tt kp=>M2 ?_)<|F.args_zip_next_1 _;refine⟨_,rfl,?_⟩;let⟨y1,r1,a1⟩:=DU x px;let⟨y2,r2,a2⟩:=Tu y py;have lt:∀{c o},s.heap.get? c=AC o->c≠s.heap.objs.size:=λ q=>A14<|A03 q;have _5:H s.heap.objs.size=At:=I.fresh;have hTz:s.heap.objs.size≠z:=(lt hz).symm;refine wpAny_letOwnedTupleGo_zip z' λ R' Yf G!=>?_;have Dn:=nd;simp only[A49,A00,A19,A24,A75,B27,B28,B29]at Dn;let⟨⟨T7,LK,O4,P4⟩,⟨TITO,TIi1,TIi2⟩,⟨TOi1,TOi2⟩,i12⟩:=Dn;have tt2:qM R' s.heap.objs.size [x,y].toArray:=⟨_,G!.extBut _ _ hTz tt⟩
  have I2:Inv X χ σ (upd H s.heap.objs.size<|.tup [y1,y2]) {s with heap:=R',toks:=tk}:=
   EK (ch:=[z,TO,i1,i2]) I (λ b o hb q=>G!.extBut b o (λ e=>hb (by simp[e]))<|kp b o hb q) (λ b hb=>hf b (by simp only[A00,A19,A24]at hb ⊢;rcases hb with e|e|e|e<;>simp[e])) (v6 _) tt2 (.cons r1<|.cons r2 .nil) (by show 2<=sizeLine;decide)
  have k1:n1 (i+1) R':=S1.keep _ _ _ (V1 _ _ Zt) λ o q=>G!.extBut i1 o (A07 O4) q;have k2:n2 (i+1) R':=S2.keep _ _ _ (V0 _ _ s2') λ o q=>G!.extBut i2 o (A07 P4) q;have kTI:IsPair R' TI (.ref i1) (.ref i2):=G!.extBut _ _ (A07 T7)<|kp TI _ (by simp only[A00,A19,A24,A75];exact⟨A07 T7,TITO,TIi1,TIi2⟩) G_;refine⟨.ref _,_,I2,rfl,⟨_,y1,y2,_5,rfl,rfl,a1,a2⟩,⟨Yf,kTI,⟨x,y,G!.extBut _ _ (A07 LK) to'⟩,k1,k2⟩,λ b hb=>?_⟩;have _1:b≠s.heap.objs.size:=by
   simp only[A00,A19,A24]at hb;rcases hb with rfl|rfl|rfl|rfl|rfl
   .exact lt hz
   .exact lt G_
   .exact lt HV
   .let⟨o,q,_⟩:=S1.obj i _ h1;exact lt q
   .let⟨o,q,_⟩:=S2.obj i _ h2;exact lt q
  rw[aE _1];exact(hf b hb).1
 .intro X hP hw hK hc i χ s σ H E I hf st hg;let⟨hz,G_,⟨a,b',HV⟩,h1,h2⟩:=st;have g1:(∃y,J1.at_ i H y)\/J1.end_ i H:=by
   rcases hg with⟨q,_⟩|⟨q,_⟩
   .exact .inr q
   .exact .inl q
  have g2:(∃y,J2.at_ i H y)\/J2.end_ i H:=by
   rcases hg with⟨_,q⟩|⟨_,q⟩
   .exact q
   .exact .inr q
  let⟨f1,m1,P1,T1,D1,wJ,_,R3,R8,V7,V1⟩:=S1.draw X hP hw hK hc i χ s σ H I h1 g1;let⟨f2,m2,P2,T2,D2,zF,_,R1,Wc,V6,V0⟩:=S2.draw X hP hw hK hc i χ s σ H I h2 g2;have FR:=YC hK I hf R3 R1;have he:i=m1\/(i<m1/\i=m2):=by
   rcases hg with⟨q,_⟩|⟨q,q2⟩
   .exact .inl<|V7 q
   .exact .inr ⟨(R8 q).1,V6 q2⟩
  subst hP hw hK;have hT:s.TypeIs (.ref z) "zip":=⟨_,hz,rfl⟩
  unfold pyNext;refine T0<|B30<|B00 (name:=Da "__next__") hT B66<|B02 B66 hT F.entry_zip_next (H_ FR D1 D2 hz G_ HV wJ zF he λ h' e tk kp hx=>?_)<|F.args_zip_next_1 _;let⟨o,ho,Kk⟩:=hx;refine T0<|wpAny_isInstance (T:="StopIteration") (b:=Ch) ⟨o,ho,Kk⟩ isSubtype_stop<|M2 ⟨rfl,?_⟩;exact EL (ch:=[z,TO,i1,i2]) I kp λ b hb=>hf b (by simp only[A00,A19,A24]at hb ⊢;rcases hb with e| e| e| e<;>simp[e])
abbrev zh(T1 T2:String)(h:ν)(l1 l2:δ):ν:=((((h.push {cls:=.type T1,data:=.fields #[.ref l1,.int 0 0]}).push {cls:=.type T2,data:=.fields #[.ref l2,.int 0 0]}).push {cls:=.type "tuple",data:=.seq #[.ref h.objs.size,.ref (h.objs.size+1)]}).push {cls:=.type "tuple",data:=.seq #[.none,.none]}).push
 {cls:=.type "zip",data:=.fields #[.none,.bool AT,.bool AT,.ref (h.objs.size+2),.ref (h.objs.size+3)]}
theorem Bs(l1 l2:δ)(xs ys:Array ζ):Meets (Builtin.«zip.__new__» ⟨[.type "zip",.ref l1,.ref l2],[]⟩) (λ _ R s=>s.heap.IsTuple l1 xs/\s.heap.IsTuple l2 ys/\R (.ok<|.ret<|.ref<|s.heap.objs.size+4) {s with heap:=zh "tuple_iterator" "tuple_iterator" s.heap l1 l2}):=
 .of_wp λ prog w A R s h=>by
  let⟨hp,gs,dr,tk,os⟩:=s;let⟨Yl,NZ,h⟩:=h;have _m:=sub_zip;have q1:=Yl;have q2:ul (Shared.heap ⟨hp.push {cls:=.type "tuple_iterator",data:=.fields #[.ref l1,.int 0 0]},gs,dr,tk,os⟩) l2 ys:=Heap.IsTuple.push NZ _
  wp_walk using B06 q1,B06 q2
  simp only[A48]at h ⊢;exact⟨_,rfl,h⟩
theorem Bt(l1 l2:δ)(xs ys:Array ζ):Meets (Builtin.«zip.__new__» ⟨[.type "zip",.ref l1,.ref l2],[]⟩) (λ _ R s=>s.heap.IsList l1 xs/\s.heap.IsTuple l2 ys/\R (.ok<|.ret<|.ref<|s.heap.objs.size+4) {s with heap:=zh "list_iterator" "tuple_iterator" s.heap l1 l2}):=
 .of_wp λ prog w A R s h=>by
  let⟨hp,gs,dr,tk,os⟩:=s;let⟨Yl,NZ,h⟩:=h;have _m:=sub_zip;have q1:=Yl;have q2:ul (Shared.heap ⟨hp.push {cls:=.type "list_iterator",data:=.fields #[.ref l1,.int 0 0]},gs,dr,tk,os⟩) l2 ys:=Heap.IsTuple.push NZ _
  wp_walk using B07 q1,B06 q2
  simp only[A48]at h ⊢;exact⟨_,rfl,h⟩
theorem Al(T1 T2:String)(h:ν)(l1 l2:δ):IsZip (zh T1 T2 h l1 l2) (h.objs.size+4) (h.objs.size+2) (h.objs.size+3) .none/\IsPair (zh T1 T2 h l1 l2) (h.objs.size+2) (.ref h.objs.size) (.ref<|h.objs.size+1)/\IsPair (zh T1 T2 h l1 l2) (h.objs.size+3) .none .none /\
 (zh T1 T2 h l1 l2).get? h.objs.size=AC {cls:=.type T1,data:=.fields #[.ref l1,.int 0 0]}/\(zh T1 T2 h l1 l2).get? (h.objs.size+1)=AC {cls:=.type T2,data:=.fields #[.ref l2,.int 0 0]}/\∀c o,h.get? c=AC o->(zh T1 T2 h l1 l2).get? c=AC o:=by
 have z1:(h.push {cls:=.type T1,data:=.fields #[.ref l1,.int 0 0]}).objs.size=h.objs.size+1:=A48 ..;have z2:((h.push {cls:=.type T1,data:=.fields #[.ref l1,.int 0 0]}).push {cls:=.type T2,data:=.fields #[.ref l2,.int 0 0]}).objs.size=h.objs.size+2:=by rw[A48,z1]
 have z3:(((h.push {cls:=.type T1,data:=.fields #[.ref l1,.int 0 0]}).push {cls:=.type T2,data:=.fields #[.ref l2,.int 0 0]}).push {cls:=.type "tuple",data:=.seq #[.ref h.objs.size,.ref (h.objs.size+1)]}).objs.size=h.objs.size+3:=by rw[A48,z2]
 have z4:((((h.push {cls:=.type T1,data:=.fields #[.ref l1,.int 0 0]}).push {cls:=.type T2,data:=.fields #[.ref l2,.int 0 0]}).push {cls:=.type "tuple",data:=.seq #[.ref h.objs.size,.ref (h.objs.size+1)]}).push {cls:=.type "tuple",data:=.seq #[.none,.none]}).objs.size=h.objs.size+4:=by rw[A48,z3]
 refine⟨?_,?_,?_,?_,?_,λ c o q=>?_⟩
 .skip
  rw[<-z4];exact A16 _ rfl
 .skip
  rw[<-z2];exact A02 _<|A02 _<|A16 _ rfl
 .skip
  rw[<-z3];exact A02 _<|A16 _ rfl
 .exact A02 _<|A02 _<|A02 _<|A02 _<|A16 _ rfl
 .skip
  rw[<-z1];exact A02 _<|A02 _<|A02 _<|A16 _ rfl
 .exact A02 _<|A02 _<|A02 _<|A02 _<|A02 _ q
theorem uG:∀xs ys (i:Nat),(Z.lP xs ys)[i]?=(xs[i]?).bind λ x=>(ys[i]?).map λ y=>Z.pair x y
|[],ys,i=>by cases ys<;>simp[Z.lP]
|x::xs,[],i=>by simp[Z.lP]
|x::xs,y::ys,0=>by simp[Z.lP]
|x::xs,y::ys,i+1=>by simp[Z.lP,uG xs ys i]
theorem Ak:∀xs ys,(Z.lP xs ys).length=min xs.length ys.length
|[],ys=>by cases ys<;>simp[Z.lP]
|x::xs,[]=>by simp[Z.lP]
|x::xs,y::ys=>by simp[Z.lP,Ak xs ys]
structure Gives(K:Db)(J:S0)(S:Hp->Prop)(ds:List Z.D):Prop where
 at_:∀(i:Nat) d H1,S H1->ds[i]?=AC d->(∃y,J.at_ i H1 y)/\∀y,J.at_ i H1 y->Den K H1 d y
 end_:∀H1,S H1->J.end_ ds.length H1
theorem Fv{K:Fk}(g1:Gives K J1 S xs)(g2:Gives K J2 S ys):F_ K (YV J1 J2) S (Z.lP xs ys) where
 go:=λ i d H1 s hi=>by
  rw[uG]at hi;cases q:xs[i]? with
  |none=>rw[q]at hi;cases hi
  |some x=>
   rw[q]at hi;cases q2:ys[i]? with
   |none=>simp[q2]at hi
   |some y=>exact⟨(g1.at_ i x H1 s q).1,(g2.at_ i y H1 s q2).1⟩
 CB:=λ i d H1 H2 x s hi y=>by
  let⟨T,y1,y2,hT,rfl,rfl,a1,a2⟩:=y;rw[uG]at hi;cases q:xs[i]? with
  |none=>rw[q]at hi;cases hi
  |some x=>
   rw[q]at hi;cases q2:ys[i]? with
   |none=>simp[q2]at hi
   |some y=>simp only[q2,B31,A77,B32]at hi;subst hi;have sm:aG H1 (upd H1 T<|.tup [y1,y2]):=cI hT;exact⟨sm,gc (.inl<|.inl aP)<|aI.cons (((g1.at_ i x H1 s q).2 y1 a1).up sm)<|aI.cons (((g2.at_ i y H1 s q2).2 y2 a2).up sm) aI.nil⟩
 stop:=λ H1 s=>by
  rw[Ak];have e1:=g1.end_ H1 s;have e2:=g2.end_ H1 s;rcases Nat.lt_trichotomy _ _ with h|h|h
  .rw[B67<|A70 h];exact .inl ⟨e1,.inl (g2.at_ _ _ H1 s<|A01 h).1⟩
  .rw[B67<|B91 h];rw[<-h]at e2;exact .inl ⟨e1,.inr e2⟩
  .rw[Nat.min_eq_right<|A70 h];exact .inr ⟨(g1.at_ _ _ H1 s<|A01 h).1,e2⟩
theorem rR{K:Db}(h:nr K H q vs)(t:aI K H ds vs):Gives K (G' K q vs) (iM H) ds:=
 ⟨λ i d H1 s hi=>by let⟨y,hy,dy⟩:=t.get hi;refine⟨⟨y,fR s h,hy⟩,λ y' Kf=>?_⟩;have:=Kf.2;rw[hy]at this;cases this;exact dy.ups s,λ H1 s=>⟨fR s h,t.length⟩⟩
theorem Hb{K:Db}(h:P0 K H q vs)(t:aI K H ds vs):Gives K (NU K q vs) (iM H) ds:=
 ⟨λ i d H1 s hi=>by let⟨y,hy,dy⟩:=t.get hi;refine⟨⟨y,(h.mono s).sq,hy⟩,λ y' Kf=>?_⟩;have:=Kf.2;rw[hy]at this;cases this;exact dy.ups s,λ H1 s=>⟨(h.mono s).sq,t.length⟩⟩
section
variable{X:Cx}{a b:ι}{pos p p2:Pos}{fa fb:Z.EF}{elts:γ ι}{x1:Nat}
theorem FK(I:Inv X χ σ H s):∀b∈[s.heap.objs.size+4,s.heap.objs.size+2,s.heap.objs.size+3,s.heap.objs.size,s.heap.objs.size+1],qN X χ H b:=λ b hb=>by
 have h:s.heap.objs.size<=b:=by simp only[A00,A19]at hb;lia
 exact I.xp h<|I.cy.fresh h
theorem Fj(n:Nat):[n+4,n+2,n+3,n,n+1].Nodup:=by simp only[A49,A00,A19,B27,B29];lia
theorem _root_.ZQ.FU(hm:X.mg "zip"=At)(ha:ZQ.QE X a fa)(hb:ZQ.QE X b fb)(hs:starEach [a,b] X.env=[(AT,eval a X.env),(AT,eval b X.env)]:=by rfl)(zF:starEach [b] X.env=[(AT,eval b X.env)]:=by rfl)(h1:Se a [b] X.env:=by rfl)(h2:Se b [] X.env:=by rfl)(hg:Gl X "zip":=by rfl):ZQ.QJ X (.Tuple elts x1 p2) (.Call (.Name "zip" p) [a,b] [] pos) (Z.NV fa fb):=⟨by
 intro χ s σ H R I w;let⟨ρ,ds,r,e,k⟩:=w;let⟨d1,ea,e⟩:=WP e;let⟨d2,eb,e⟩:=WP e;let⟨xs,ex,e⟩:=WP e;let⟨ys,ey,e⟩:=WP e;cases e;refine Call_<|k! I hg hm (by kernel_rfl:bootBuiltins "zip"=AC (.type "zip"))<|B21 (da ((bL ha.p (bL hb.p cW h2) h1) pos χ s σ H (λ vs H1=>∃v u,vs=[v,u]/\aG H H1/\Den X.K H1 d1 v/\Den X.K H1 d2 u) I ⟨ρ,d1,r,ea,λ v H1 s1 q1=>⟨ρ,d2,r.up s1,eb,λ u H2 s2 q2=>⟨v,u,rfl,s1.trans s2,q1.up s2,q2⟩⟩⟩) ?_) (by rw[hs,zF]) (by rw[zF];rfl);rintro us s1 ⟨vs,H1,I1,r1,q1⟩;let⟨v,u,rfl,sm,Yq,hd2⟩:=q1;let⟨u1,u2,rfl,ru1,ru2⟩:=vals2 r1;have _T:∃YX,d2=.tup YX/\YX=ys:=by
  cases d2 with
  |tup YX=>cases ey;exact⟨_,rfl,rfl⟩
  |non=>cases ey
  |bl _=>cases ey
  |int _=>cases ey
  |str _=>cases ey
  |lst _=>cases ey
  |dct _ _=>cases ey
 let⟨_,rfl,rfl⟩:=_T;let⟨q2,Xg,rfl,_s,t2⟩:=b_.tup (.inl hd2);cases ru2;let⟨iP,rv2,pt2,_⟩:=I1.tuple _s;cases d1 with
 |tup YY=>cases ex;let⟨q,vs,rfl,hq,t⟩:=b_.tup (.inl Yq);cases ru1;let⟨bT,rv,pt,hz⟩:=I1.tuple hq;let⟨f1,f2,f3,f4,f5,f6⟩:=Al "tuple_iterator" "tuple_iterator" s1.heap q q2;refine callType_new F.called_zip ∅ (F.typeCall_zip_2 _ _) (F.newCall_zip_2 _ _) (λ obj=>F.args_object_init_3 obj _ _) F.entry_zip_new (Bs q q2 bT.toArray iP.toArray) ⟨pt,pt2,⟨_,f1,rfl⟩,C15 f1 ?_⟩;exact⟨_,[s1.heap.objs.size+4,s1.heap.objs.size+2,s1.heap.objs.size+3,s1.heap.objs.size,s1.heap.objs.size+1],_,YV (G' X.K q vs)<|G' X.K q2 Xg,H1,rfl,I1.kept f6,AN uj uj<|Fj _,⟨f1,f2,⟨_,_,f3⟩,⟨_,f4,rfl,rfl⟩,⟨_,f5,rfl,rfl⟩⟩,FK I1,k _ H1 sm<|Fv (rR hq t)<|rR _s t2⟩
 |lst YY=>cases ex;simp only[Den]at Yq;let⟨q,vs,rfl,hq,t⟩:=Yq;cases ru1;let⟨bT,rv,pt,hz⟩:=I1.list hq.sq;let⟨f1,f2,f3,f4,f5,f6⟩:=Al "list_iterator" "tuple_iterator" s1.heap q q2;refine callType_new F.called_zip ∅ (F.typeCall_zip_2 _ _) (F.newCall_zip_2 _ _) (λ obj=>F.args_object_init_3 obj _ _) F.entry_zip_new (Bt q q2 bT.toArray iP.toArray) ⟨pt.isList,pt2,⟨_,f1,rfl⟩,C15 f1 ?_⟩;exact⟨_,[s1.heap.objs.size+4,s1.heap.objs.size+2,s1.heap.objs.size+3,s1.heap.objs.size,s1.heap.objs.size+1],_,YV (NU X.K q vs)<|G' X.K q2 Xg,H1,rfl,I1.kept f6,AN EZ uj<|Fj _,⟨f1,f2,⟨_,_,f3⟩,⟨_,f4,rfl,rfl⟩,⟨_,f5,rfl,rfl⟩⟩,FK I1,k _ H1 sm<|Fv (Hb hq t)<|rR _s t2⟩
 |non=>cases ex
 |bl _=>cases ex
 |int _=>cases ex
 |str _=>cases ex
 |dct _ _=>cases ex⟩
end
end ZS
namespace ZQ
open L2 ZS
end ZQ
namespace Z
def Bl:D->D->Res D
|.str [c],.int n=>guard (0<=n/\n<=16777216)<|.ok<|.str<|List.replicate n.toNat c
|_,_=>.bad
theorem Q9(c:Nat)(n:Int):Bl (.str [c]) (.int n)=guard (0<=n/\n<=16777216) (.ok<|.str<|List.replicate n.toNat c):=rfl
theorem M'(h:Bl x y=.ok d):∃c n,x=.str [c]/\y=.int n/\0<=n/\n<=16777216/\d=.str (Do n.toNat c):=by
 unfold Bl at h;split at h
 .let⟨⟨h0,h1⟩,e⟩:=e! h;cases e;exact⟨_,_,rfl,rfl,h0,h1,rfl⟩
 .cases h
end Z
namespace ZS
open L2
theorem QX:kC X (binaryOp .Mult) (λ x y H Q=>∃i n,x=.str i/\y=.int n/\MulOk i n/\Q (.str<|Txt.mul i n) H):=by intro χ s σ H x y v u Q I rx ry h;let⟨i,n,rfl,rfl,hz,q⟩:=h;let⟨t,rfl⟩:=rx;let⟨t',rfl⟩:=ry;exact SB.mul hz λ t' k=>⟨.str _,H,I.tok _,⟨_,rfl⟩,q⟩
theorem BR(c:Nat):∀n xs,(Do n<|#[c]).foldl (·++·) xs.toArray=(xs++Do n c).toArray
|0,xs=>by simp
|n+1,xs=>by rw[B68,AB8,show xs.toArray++(#[c])=(xs++[c]).toArray by simp,BR];simp[B68]
theorem mul_one(c:Nat)(h0:0<=n):Txt.mul ⟨[c].toArray⟩ n=⟨(Do n.toNat c).toArray⟩:=by
 unfold Txt.mul;by_cases h1:n<1
 .have:n=0:=by lia
  subst this;rfl
 .rw[P3 h1];by_cases h2:n=1
  .subst h2;rfl
  .have:¬(n==1||(⟨[c].toArray⟩:Str).length==0)=Ch:=by simp[h2,Str.length]
   rw[P3 this];have:=BR c n.toNat [];rw[B69]at this;exact A10 _ this
theorem GX(c:Nat)(h0:0<=n)(h1:n<=16777216):MulOk ⟨[c].toArray⟩ n:=by
 refine⟨?_,λ h _=>?_,λ h _=>?_⟩
 .have a:¬n < -(2^63):=by lia
  have b:¬n≥(2^63):=by lia
  simp only[a,b,C16,Bool.or_self]
 .have e:(⟨[c].toArray⟩:Str).length=1:=rfl;rw[e];have:1<=((2^63-1)) / n:=(Int.le_ediv_iff_mul_le ∅).mpr ∅;lia
 .have e:(⟨[c].toArray⟩:Str).length=1:=rfl;rw[e,A80];have:¬n.toNat>sizeLine:=by rw[A33];lia
  exact A37 this
theorem _root_.ZQ.Ei(ha:ZQ.QW X a fa)(hb:ZQ.QW X b fb):ZQ.QE X (.BinOp a .Mult b pos) (Z.eB Z.Bl fa fb):=⟨wc QX (λ x y dx dy d H Q h1 h2 e k=>by let⟨c,n,rfl,rfl,h0,h3,rfl⟩:=Z.M' e;refine⟨_,_,h1.str,h2.int,GX c h0 h3,?_⟩;rw[mul_one c h0];exact k _ H (aG.refl H) lj) ha.p hb.p⟩
end ZS
namespace ZQ
open L2 ZS
end ZQ
namespace Z
end Z
namespace ZS
open L2
section
variable{X:Cx}
theorem B4{K:Db}(h:Den K H d w):∀n,aI K H (Do n d) (Do n w)
|0=>aI.nil
|n+1=>aI.cons h<|B4 h n
end
end ZS
namespace ZQ
open L2 ZS
end ZQ
namespace Z
theorem Kx(bs:γ Bool)(n:Nat)(b:SF)(ds:γ D)(h:ds.length=bs.length):L5 bs n b ds=cu (b<|startB n bs ds):=by
 unfold L5;rw[f8 h];cases b _ with
 |bad=>rfl
 |ok f=>cases f<;>rfl
end Z
namespace ZS
open L2
def O1(K:Db)(H:Hp)(b:Bool)(d:Z.D)(v:V):Prop:=if b=Ch then jY K H d v else Den K H d v
def jQ(K:Db)(H:Hp):γ Bool->γ Z.D->γ V->Prop
|[],[],vs=>vs=[]
|b::bs,d::ds,vs=>∃v r,vs=v::r/\O1 K H b d v/\jQ K H bs ds r
|_,_,_=>False
theorem jQ.length{K:Db}:∀{bs}{ds}{vs},jQ K H bs ds vs->vs.length=ds.length/\ds.length=bs.length
|[],[],vs,h=>by have:=h;subst this;exact⟨rfl,rfl⟩
|[],_::_,_,h=>h.elim
|_::_,[],_,h=>h.elim
|b::bs,d::ds,_,⟨v,r,e1,h1,h2⟩=>by have:=jQ.length h2;subst e1;simp[this.1,this.2]
theorem jQ.get{K:Db}{H:Hp}:∀{bs}{ds}{vs}{i:Nat}{b}{d},jQ K H bs ds vs->bs[i]?=AC b->ds[i]?=AC d->∃v,vs[i]?=AC v/\O1 K H b d v
|[],[],_,_,_,_,_,e,_=>by simp at e
|[],_::_,_,_,_,_,h,_,_=>h.elim
|_::_,[],_,_,_,_,h,_,_=>h.elim
|b::bs,d::ds,_,0,b',d',⟨v,r,e1,h1,h2⟩,eb,ed=>by simp at eb ed;subst e1;subst eb;subst ed;exact⟨v,rfl,h1⟩
|b::bs,d::ds,_,i+1,b',d',⟨v,r,e1,h1,h2⟩,eb,ed=>by subst e1;let⟨u,q1,q2⟩:=jQ.get h2 (by simpa using eb) (by simpa using ed);exact⟨u,by simpa using q1,q2⟩
def Y5(K:Db)(bs:γ Bool)(f:Z.AF):TA:=λ σ H Q=>∃ρ ds,RE K H σ ρ/\f ρ=.ok ds/\∀vs H',aG H H'->jQ K H' bs ds vs->Q vs H'
abbrev DAF(X:Cx)(es:γ ι)(bs:γ Bool)(f:Z.AF):Prop:=PA X es<|Y5 X.K bs f
structure _root_.ZQ.OU(X:Cx)(es:List Expr)(bs:List Bool)(f:Z.AF):Prop where p:DAF X es bs f
theorem _root_.ZQ.cD:ZQ.OU X [] [] Z.av:=⟨PA.imp cW <|by rintro σ H Q ⟨ρ,ds,r,e,k⟩;cases e;exact k [] H (aG.refl H) rfl⟩
theorem _root_.ZQ.bQ(ha:ZQ.QE X e f)(hr:ZQ.OU X es bs g)(hs:Se e es X.env:=by rfl):ZQ.OU X (e::es) (AT::bs) (Z.aa f g):=⟨PA.imp (bL ha.p hr.p hs) <|by rintro σ H Q ⟨ρ,ds,r,e,k⟩;let⟨x,ea,e⟩:=WP e;let⟨xs,eb,e⟩:=WP e;cases e;exact⟨ρ,x,r,ea,λ v H1 s1 d1=>⟨ρ,xs,r.up s1,eb,λ vs H2 s2 t=>k _ H2 (s1.trans s2) ⟨v,vs,rfl,Den.up d1 s2,t⟩⟩⟩⟩
def IF(K:Db)(bs:γ Bool)(m:γ Z.D->Z.Res Z.D):Sp:=λ vs H Q _=>∃ds d,jQ K H bs ds vs/\m ds=.ok d/\∀v H',aG H H'->Den K H' d v->Q v H'
section
variable{K:Db}
theorem Dx(b:Bool)(d:Z.D)(xs:γ Z.D):Z.tR b d≠.own xs:=by unfold Z.tR;split<;>intro h<;>cases h
theorem Dy(b:Bool)(d:Z.D)(ks:Z.DK):Z.tR b d≠.dc ks:=by unfold Z.tR;split<;>intro h<;>cases h
theorem Fq(h:O1 K H b d v):RL K H (Z.tR b d) v:=by
 cases b with
 |false=>exact(h)
 |true=>
  have h':=h;have st:(∀ds,d≠.lst ds)->(∀ks vs,d≠.dct ks vs)->Den K H d v:=λ n1 n2=>by
   rcases h' with h|⟨a,kd,ks,ds,u,e1,_⟩
   .exact h.oq n1
   .exact absurd e1<|n2 _ _
  cases d with
  |lst xs=>exact h'
  |non=>exact st (λ _ z=>nomatch z) λ _ _ z=>nomatch z
  |bl _=>exact st (λ _ z=>nomatch z) λ _ _ z=>nomatch z
  |int _=>exact st (λ _ z=>nomatch z) λ _ _ z=>nomatch z
  |str _=>exact st (λ _ z=>nomatch z) λ _ _ z=>nomatch z
  |tup _=>exact st (λ _ z=>nomatch z) λ _ _ z=>nomatch z
  |dct _ _=>exact h'
theorem oz(t:jQ K H bs ds vs)(hl:vs.length<=N.length):RS K H H (L2.start N vs) (Z.startB N.length bs ds):=by
 let⟨ψ,hbl⟩:=t.length;have hz:(ZB (λ b d=>AC<|Z.tR b d) bs ds).length=ds.length:=by simp[hbl]
 have key:∀(i:Nat) l,(Z.startB N.length bs ds)[i]?=AC (AC l)->∃b d,l=Z.tR b d/\∃v,(L2.start N vs)[i]?=AC (AC v)/\O1 K H b d v:=by
  intro i l e;unfold Z.startB at e;by_cases hi:i<ds.length
  .rw[A25 (by rw[hz];exact hi)]at e;have uw:i<bs.length:=by lia
   rw[List.getElem?_zipWith,A01 uw,A01 hi]at e;simp only at e;cases e;let⟨v,h1,h2⟩:=t.get (A01 uw) (A01 hi);refine⟨_,_,rfl,v,?_,h2⟩;unfold L2.start;rw[A25 (by simp;lia),A08,h1];rfl
  .rw[A44 (by rw[hz];lia),A45]at e;split at e<;>cases e
 have Bp:∀(i:Nat) xs,(Z.startB N.length bs ds)[i]?≠AC (AC<|.own xs):=λ i xs e=>by let⟨b,d,h,_⟩:=key i _ e;exact Dx b d xs h.symm
 refine⟨aG.refl H,⟨?_,λ i l e=>?_,λ i j xs ys q e1=>absurd e1<|Bp i xs⟩,λ i xs q e1=>absurd e1<|Bp i xs,λ i xs e1=>?_,jc.non λ i ks e=>by let⟨b,d,h,_⟩:=key i _ e;exact Dy b d ks h.symm⟩
 .unfold Z.startB L2.start;rw[A55,A55,hz,A85,A17,A85,ψ]
 .let⟨b,d,rfl,v,h1,h2⟩:=key i l e;exact⟨v,h1,Fq h2⟩
 .let⟨b,d,h,v,h1,h2⟩:=key i _ e1;have:=Fq h2;rw[<-h]at this;exact⟨v,h1,jY.z this⟩
theorem aad{st:θ}{f:δ}{fd:τ}{N ps:γ Str}{bs:γ Bool}{k:Nat}{b:Z.SF}(uv:bs.length=ps.length)(F:Cs K x qual st f fd)(S:a! N ps (ai st))
 (hb:∀ bh A outer s H E,bR k (A.deeper<|envOfC qual (ai st) s.heap.objs.size f bh) ->
  L! (dO jd P w K mg base N qual (ai st) f bh A outer s H E).gK H (aJ st) b):ee P w K mg base jd (k+1) f fd ps (IF K bs<|Z.L5 bs N.length b):=by
 have ψ:∀vs H Q E,IF K bs (Z.L5 bs N.length b) vs H Q E->vs.length=ps.length:=by rintro vs H Q E ⟨ds,d,t,e,_⟩;have:=t.length;lia
 refine F.ok S ψ λ bh A outer s H vs Q E hr h=>⟨_,hb bh A outer s H E hr,?_⟩;have hl:=ψ vs H Q E h;let⟨ds,d,t,e,k⟩:=h;have fA:ps.length<=N.length:=by have:=A10 List.length S.pre;rw[A26]at this;lia
 have rs:RS K H H (L2.start N vs) (Z.startB N.length bs ds):=oz t ∅;unfold Z.L5 at e;split at e
 .cases eb:b (Z.startB N.length bs ds)with
  |bad=>rw[eb]at e;cases e
  |ok fl=>
   rw[eb]at e;refine⟨_,fl,rs,eb,?_⟩;cases fl with
   |rt d'=>cases e;exact λ v H' s' dv=>k v H' s' dv
   |nx ρ'=>cases e;exact λ σ' H' _ Cv=>k .non H' Cv.same j9
   |bk ρ'=>cases e
   |ct ρ'=>cases e
 .cases e
structure afQ(P:Program)(w:World)(K:Db)(mg:Str->Option Value)(base:Heap)(x:Str)(k:Nat)(ps:List Str)(bs:List Bool)(m:List Z.D->Z.Res Z.D):Prop where
 ex:∃g fd,ee P w K mg base jd k g fd ps (IF K bs m)/\mg x=AC (.ref g)/\FS K (.ref g)=Ch/\Binds K fd ps []
end
end ZS
namespace ZQ
open L2 ZS
end ZQ
namespace ZS
open L2
end ZS
namespace ZQ
open L2 ZS
end ZQ
namespace ZS
open L2
section
variable{e st:ι}
end
end ZS
namespace ZQ
open L2 ZS
end ZQ
namespace Z
def lY(_:Env):Res Fl:=.bad
@[simp] theorem Zs(ρ:Env):lY ρ=.bad:=rfl
def pW:D->D->Res D
|.tup [d],.int n=>guard (0<=n/\n<=1000000)<|.ok<|.tup<|List.replicate n.toNat d
|_,_=>.bad
theorem M!(d:D)(n:Int):pW (.tup [d]) (.int n)=guard (0<=n/\n<=1000000) (.ok<|.tup<|List.replicate n.toNat d):=rfl
theorem JD(h:pW x y=.ok d):∃e n,x=.tup [e]/\y=.int n/\0<=n/\n<=1000000/\d=.tup (Do n.toNat e):=by
 unfold pW at h;split at h
 .let⟨⟨h0,h1⟩,e⟩:=e! h;cases e;exact⟨_,_,rfl,rfl,h0,h1,rfl⟩
 .cases h
end Z
namespace ZS
open L2
theorem _root_.ZQ.il{st:θ}:ZQ.QS X H0 st Z.lY:=⟨by rintro _ _ _ _ _ _ ⟨_,_,_,e,_⟩;exact nomatch e⟩
theorem _root_.ZQ.Oo:ZQ.Cq X H0 Ac Z.lY:=⟨by rintro _ _ _ _ _ _ ⟨_,_,_,e,_⟩;exact nomatch e⟩
theorem SD{K:Db}(C:i_ P w K mg base x k ps m)(hm:∀ds d,m ds≠.ok d:=by intro ds d h;unfold Z.fn at h;split at h<;>cases h):i_ P w K mg base x k ps (λ _=>.bad):=by
 let⟨g,fd,F,h⟩:=C.ex;have:Ad K m=Ad K λ _=>.bad:=by
  funext vs H Q E
  refine propext ⟨by rintro⟨ds,d,_,e,_⟩;exact absurd e<|hm ds d,by rintro⟨ds,d,_,e,_⟩;exact nomatch e⟩
 rw[this]at F;exact⟨g,fd,F,h⟩
structure OZ(K:Db)(x qual:Str)(st:Stmt)(f:Addr)(fd:FuncData):Prop where
 ex:∃(oc:Value)(od:Option Addr)(dV kV doc pm:Value)(an:Option Addr)(bh ct:Value)(um:Array (Option Value)),
  fd=KT x qual (bM st) (aJ st) (ai st) dV kV doc pm an bh ct/\K.lookup f=AC ⟨oc,od,.func fd,um⟩/\No K bh qual=Ch
 kp:FS K (.ref f)=Ch
section
variable{K:Db}
theorem OZ.ok{st:θ}(F:OZ K x qual st f fd)(S:a! N ps (ai st))(len:∀vs H Q E,sp vs H Q E->vs.length=ps.length)
 (BM:∀ bh A outer s H vs Q E,bR k (A.deeper<|envOfC qual (ai st) s.heap.objs.size f bh)->sp vs H Q E ->
  ∃t,s? (dO jd P w K mg base N qual (ai st) f bh A outer s H E).gK (aJ st) t/\t {nx:=λ _ H'=>Q .non H',rt:=Q} (start N vs) H):ee P w K mg base jd (k+1) f fd ps sp:=by
 let⟨oc,od,dV,kV,doc,pm,an,bh,ct,um,rfl,lk,m?⟩:=F.ex;refine vU lk m? S len λ A outer s H vs Q E hr Cy=>?_;let⟨t,h,q⟩:=BM bh A outer s H vs Q E hr Cy;exact⟨t,h.gK,q⟩
theorem aac{st:θ}(F:OZ K x qual st f fd)(S:a! N ps (ai st))
 (hb:∀ bh A outer s H E,bR k (A.deeper<|envOfC qual (ai st) s.heap.objs.size f bh) ->
  L! (dO jd P w K mg base N qual (ai st) f bh A outer s H E).gK H (aJ st) b):ee P w K mg base jd (k+1) f fd ps (Ad K<|Z.fn ps.length N.length b):=by
 have ψ:∀vs H Q E,Ad K (Z.fn ps.length N.length b) vs H Q E->vs.length=ps.length:=by
  rintro vs H Q E ⟨ds,d,t,e,_⟩;unfold Z.fn at e;split at e
  .rename_i h;rw[t.length];exact h
  .cases e
 refine F.ok S ψ λ bh A outer s H vs Q E hr h=>⟨_,hb bh A outer s H E hr,?_⟩;have hl:=ψ vs H Q E h;let⟨ds,d,t,e,k⟩:=h;have fA:ps.length<=N.length:=by have:=A10 List.length S.pre;rw[A26]at this;lia
 have rs:RS K H H (L2.start N vs) (Z.start N.length ds):=mV t ∅;unfold Z.fn at e;split at e
 .cases eb:b (Z.start N.length ds)with
  |bad=>rw[eb]at e;cases e
  |ok fl=>
   rw[eb]at e;refine⟨_,fl,rs,eb,?_⟩;cases fl with
   |rt d'=>cases e;exact λ v H' s' dv=>k v H' s' dv
   |nx ρ'=>cases e;exact λ σ' H' _ Cv=>k .non H' Cv.same j9
   |bk ρ'=>cases e
   |ct ρ'=>cases e
 .cases e
structure HF(K:Db)(mg:Str->Option Value)(x:Str)(st:Stmt)(ps:List Str):Prop where
 ex:∃f fd,OZ K x x st f fd/\mg x=AC (.ref f)/\Binds K fd ps []/\Binds K fd ps [.none]
structure xD(P:Program)(w:World)(K:Db)(mg:Str->Option Value)(base:Heap)(x:Str)(k:Nat)(ps:List Str)(m:List Z.D->Z.Res Z.D):Prop where
 ex:∃g fd,ee P w K mg base jd k g fd ps (Ad K m)/\mg x=AC (.ref g)/\FS K (.ref g)=Ch/\Binds K fd ps []/\Binds K fd ps [.none]
theorem xD.full(C:xD P w K mg base x k ps m):i_ P w K mg base x k ps m:=
 let ⟨g,fd,h1,h2,h3,h4,_⟩:=C.ex;⟨g,fd,h1,h2,h3,h4⟩
theorem xD.mk'{st:θ}(d:HF K mg x st ps)(S:a! N ps (ai st))
 (hb:∀ f bh A outer s H E,bR k (A.deeper<|envOfC x (ai st) s.heap.objs.size f bh) ->
  L! (dO jd P w K mg base N x (ai st) f bh A outer s H E).gK H (aJ st) b):xD P w K mg base x (k+1) ps (Z.fn ps.length N.length b):=by
 let⟨f,fd,F,hm,uw,Ys⟩:=d.ex;exact⟨f,fd,aac F S<|hb f,hm,F.kp,uw,Ys⟩
theorem Ov{st:θ}{ps:γ Str}{f t:δ}{oc:ζ}{od an:ε δ}{um:Array (ε ζ)}{kV doc pm bh ct tc:ζ}{td:ε δ}{tn:Nat}{tsl:Array (ε ζ)}
 (l:K.lookup f=AC ⟨oc,od,.func<|PySem.W.fnOf x x (bM st) (aJ st) (ai st) (.ref t) kV doc pm an bh ct,um⟩)
 (c:No K bh x=Ch) (k:FS K (.ref f)=Ch) (lt:K.lookup t=AC ⟨tc,td,.seq #[.none] tn,tsl⟩) (hm:mg x=AC (.ref f))
 (h1:∀us,us.length=ps.length->∃kk,bindArgs (KT x x (bM st) (aJ st) (ai st) (.ref t) kV doc pm an bh ct) ⟨us,[]⟩=seqItems? (.ref t)>>=kk/\kk (AC #[.none])=pure (ps.zip us))
 (h2:∀us,us.length+1=ps.length->∃kk,bindArgs (KT x x (bM st) (aJ st) (ai st) (.ref t) kV doc pm an bh ct) ⟨us,[]⟩=seqItems? (.ref t)>>=kk/\kk (AC #[.none])=pure (ps.zip<|us++[.none])):HF K mg x st ps:=by
 refine⟨f,_,⟨⟨oc,od,.ref t,kV,doc,pm,an,bh,ct,um,rfl,l,c⟩,k⟩,hm,λ s us hK hl=>?_,λ s us hK hl=>?_⟩
 .rw[A54]at hl ⊢;let⟨kk,e1,e2⟩:=h1 us hl;exact BindsTo.of_defaults (T:=t) (items:=#[.none]) rfl (hK t _ lt) rfl e1 e2
 .let⟨kk,e1,e2⟩:=h2 us (by simpa using hl);exact BindsTo.of_defaults (T:=t) (items:=#[.none]) rfl (hK t _ lt) rfl e1 e2
end
end ZS
namespace ZQ
open L2 ZS
theorem zZ{K:Db}{st:θ}(d:ZS.HF K mg x st ps)(hb:∀{f}{bh}{A}{outer}{s}{H}{E},N.Nodup->(A.deeper<|envOfC x (ai st) s.heap.objs.size f bh).units+64<cLine->bR k (A.deeper<|envOfC x (ai st) s.heap.objs.size f bh)->Cq (dO jd P w K mg base N x (ai st) f bh A outer s H E).gK H (aJ st) b)(S:a! N ps (ai st):=by exact ZS.D8):ZS.xD P w K mg base x (k+1) ps (Z.fn ps.length N.length b):=ZS.xD.mk' d S λ f bh A outer s H E hr=>(hb S.nd hr.units hr).p
end ZQ
namespace PySem
open PySem.Sem (wp)
open Builtin
theorem rp:fillsNumberSlot (.type "tuple") "mul"=pure AT:=
 fillsNumberSlot_seq B33.lookup (by decide +kernel) F.slot_tuple_rmul.lookup (by decide +kernel)
theorem y8:seqRepeat? (.type "tuple")=pure (AC<|.builtin "tuple.__mul__"):=by unfold seqRepeat?;rw[seqSlot_of (name:="__mul__") B33.lookup (by decide +kernel),seqSlot_of (name:="__rmul__") F.slot_tuple_rmul.lookup (by decide +kernel)];rfl
theorem k_(a:Int)(t:Tok)(l:δ)(items:Array ζ)(n:Nat)(dd:ε δ)(sl:Array _):
 Meets (Builtin.«int.__rmul__» ⟨[.int a t,.ref l],[]⟩) (λ _ R s=>s.heap.get? l=AC {cls:=.type "tuple",dict:=dd,data:=.seq items n,slots:=sl}/\R (.ok<|.ret Value.notImplemented) s):=
 .of_wp λ prog w A R s h=>by let⟨hp,g,d,tk,os⟩:=s;let⟨hl,h⟩:=h;wp_walk;exact⟨_,rfl,h⟩
theorem tH(a:Int)(t:Tok)(l:δ)(x:ζ)(n:Nat)(dd:ε δ)(sl:Array _)(h0:a=0):
 Meets (Builtin.«tuple.__mul__» ⟨[.ref l,.int a t],[]⟩) (λ _ R s=>s.heap.get? l=AC {cls:=.type "tuple",dict:=dd,data:=.seq #[x] n,slots:=sl}/\R (.ok<|.ret<|.ref s.heap.objs.size) {s with heap:=s.heap.push {cls:=.type "tuple",data:=.seq #[]}}):=
 .of_wp λ prog w A R s h=>by
  let⟨hp,g,d,tk,os⟩:=s;let⟨hl,h⟩:=h;subst h0
  wp_walk
  exact⟨_,rfl,h⟩
theorem tw(a:Int)(t:Tok)(l:δ)(x:ζ)(n:Nat)(dd:ε δ)(sl:Array _)(h0:a=1):
 Meets (Builtin.«tuple.__mul__» ⟨[.ref l,.int a t],[]⟩) (λ _ R s=>s.heap.get? l=AC {cls:=.type "tuple",dict:=dd,data:=.seq #[x] n,slots:=sl}/\R (.ok<|.ret<|.ref l) s):=
 .of_wp λ prog w A R s h=>by
  let⟨hp,g,d,tk,os⟩:=s;let⟨hl,h⟩:=h;subst h0
  wp_walk
  exact⟨_,rfl,h⟩
theorem tu(a:Int)(t:Tok)(l:δ)(x:ζ)(n:Nat)(dd:ε δ)(sl:Array _)(h1:¬(decide (a < -(2^63))||decide (a≥2^63))=Ch)(h2:¬((#[x]).isEmpty||a==1)=Ch)(h3:¬(decide (a<=0)||(#[x]).isEmpty)=Ch)(h4:¬((#[x]).size)*a>(2^63-1) / 8)(h5:¬Tuple.tupleTooMany (((#[x]).size)*a)=Ch)(h6:((Do a.toNat #[x]).foldl (·++·) #[]).size<=sizeLine):
 Meets (Builtin.«tuple.__mul__» ⟨[.ref l,.int a t],[]⟩) (λ _ R s=>s.heap.get? l=AC {cls:=.type "tuple",dict:=dd,data:=.seq #[x] n,slots:=sl}/\R (.ok<|.ret<|.ref s.heap.objs.size) {s with heap:=s.heap.push {cls:=.type "tuple",data:=.seq ((Do a.toNat #[x]).foldl (·++·) #[])}}):=
 .of_wp λ prog w A R s h=>by
  let⟨hp,g,d,tk,os⟩:=s;let⟨hl,h⟩:=h
  wp_walk
  refine B34 (by simpa using h1) ?_
  wp_walk
  refine B34 (by simpa using h2) ?_
  wp_walk
  refine B34 (by simpa using h3) ?_
  wp_walk
  refine B34 (A37 h4) ?_
  wp_walk
  refine B34 (by simpa using h5) ?_
  wp_walk
  exact⟨_,rfl,h⟩
end PySem
namespace ZS
open L2
def UG(K:Db):R2:=λ x y H Q=>∃l k w,x=.ref l/\y=.int k/\nr K H l [w]/\0<=k/\k<=1000000/\(k=1->Q (.ref l) H)/\(k≠1->∀p,H p=At->Q (.ref p) (upd H p<|.tup<|List.replicate k.toNat w))
theorem yf(v:ζ):∀k acc,List.foldl (λ x1 x2=>x1++x2) acc (Do k #[v])=acc++(Do k v).toArray
|0,acc=>by simp
|k+1,acc=>by rw[B68,AB8,yf,B68];apply Array.toList_inj.mp;simp
theorem xH(r:RelV w u):∀k,Vals (Do k w) (Do k u)
|0=>.nil
|k+1=>.cons r<|xH r k
theorem MZ:kC X (binaryOp .Mult) (UG X.K):=by
 intro χ s σ H x y v u Q I rx ry h;let⟨l,k,w,rfl,rfl,hq,h0,h1,q1,q2⟩:=h;cases rx;let⟨t,rfl⟩:=ry;let⟨bT,r,ht,hz⟩:=I.tuple hq;let⟨x,rfl,rx⟩:=vals1 r;let⟨⟨cls,dd,data,sl⟩,ho,hc,n,hd⟩:=id ht;simp only at hc hd;subst hc hd;have e:=ho;refine wpAny_binaryOp_repeat_ref ∅ ⟨_,e,rfl⟩ (λ s'=>typeIs_int s' k t) rp F.fills_int_mul F.slot_int_rmul y8 F.slot_int_index.lookup
 <|A87 F.slot_int_rmul (typeIs_int s k t) F.entry_int_rmul (F.args_int_rmul_2 _ _) (k_ k t l #[x] n dd sl) ⟨e,rfl,⟨_,e,rfl⟩,?_⟩
 by_cases Py:k=1
 .exact A87 B33 ⟨_,e,rfl⟩ C17 (C18 _ _) (tw k t l x n dd sl Py) ⟨e,⟨.ref l,H,I,rfl,q1 Py⟩⟩
 .by_cases hk0:k=0
  .refine A87 B33 ⟨_,e,rfl⟩ C17 (C18 _ _) (tH k t l x n dd sl hk0) ⟨e,?_⟩;have q:=q2 Py _<|I.cy.fresh<|v6 s.heap.objs.size;rw[hk0]at q;refine⟨.ref _,_,I.laid (λ b ob z=>A02 _ z) (v6 _) ?_,rfl,q⟩;exact⟨A71 _,[],.nil,qM.new _ _⟩
  .skip
   have hf:=yf x k.toNat #[];rw[Array.empty_append]at hf;have hs:(1000000)<=sizeLine:=by decide
   refine A87 B33 ⟨_,e,rfl⟩ C17 (C18 _ _) (tu k t l x n dd sl ?_ ?_ ?_ ?_ ?_ ?_) ⟨e,?_⟩
   .simp;lia
   .simp;lia
   .simp;lia
   .show ¬((1))*k>(2^63-1) / 8;lia
   .show ¬(decide<|((1))*k>(sizeLine))=Ch;rw[B09];have:=Int.ofNat_le.mpr hs;generalize (sizeLine)=z at this ⊢;lia
   .rw[hf,A09,A85];lia
   .rw[hf];refine⟨.ref _,_,I.laid (λ b ob z=>A02 _ z) (v6 _) ?_,rfl,q2 Py _<|I.cy.fresh<|v6 _⟩;exact⟨by rw[A85];lia,_,xH rx k.toNat,qM.new _ _⟩
theorem _root_.ZQ.uB(ha:ZQ.QW X a fa)(hb:ZQ.QW X b fb):ZQ.QE X (.BinOp a .Mult b pos) (Z.eB Z.pW fa fb):=⟨PE.imp (Jk MZ ha.p hb.p) <|by
 rintro σ H Q ⟨ρ,d,r,e,k⟩;let⟨x,ea,e⟩:=WP e;let⟨y,eb,e⟩:=WP e;let⟨d0,n,rfl,rfl,h0,h1,rfl⟩:=Z.JD e;refine⟨ρ,_,r,ea,λ v H1 s1 d1=>⟨ρ,_,r.up s1,eb,λ u H2 s2 d2=>?_⟩⟩;let⟨q,vs,rfl,hq,t⟩:=d1.tup;simp only[aI]at t;let⟨w,r',rfl,dw,rfl⟩:=t;refine⟨q,n,w,rfl,d2.int,?_,h0,h1,λ hn=>?_,λ hn p hp=>?_⟩
 .exact fR (lN s2) hq
 .subst hn;exact k _ H2 (s1.trans s2)<|gc (fR (lN s2) hq)<|aI.cons (dw.up s2) aI.nil
 .have s3:aG H2 (upd H2 p<|.tup<|List.replicate n.toNat w):=cI hp;exact k _ _ ((s1.trans s2).trans s3)<|gc (nr.of aP)<|B4 ((dw.up s2).up s3) _⟩
end ZS
namespace ZQ
open L2 ZS
end ZQ
namespace Z
end Z
namespace ZS
open L2
end ZS
namespace ZQ
open L2 ZS
end ZQ
namespace Z
end Z
namespace ZS
open L2
theorem Ho(h:ν)(hb:sysModules<h.objs.size):fW P w H (h.push {cls:=.type "dict",data:=.dict #[]}) h.objs.size (.dK []):=
 ⟨A71 _,A57.mpr<|A07<|A14 hb,[],.nil,Heap.DictOf.new h⟩
theorem Kc(I:Inv X χ σ H s)(h:H p=AC (.dK xs)):∃o,Inv X χ σ (upd H p<|.eH o<|.dK xs) s:=by
 have hk:=I.cy p _ h;let⟨z,y,vs,r,hd⟩:=id hk;obtain⟨o,ho⟩:∃o,s.heap.get? p=AC o:=by let⟨o,es,ep,ho,_⟩:=hd;exact⟨o,ho⟩
 refine⟨o,I.un ?_ ?_⟩
 .have ne:∀b,H b=At->b≠p:=λ b e q=>by rw[q,h]at e;cases e
  refine⟨λ b o q _ _ _=>q,λ b o q _ _ _=>⟨_,q⟩,λ b o q e _=>by rw[aE<|ne b e];exact e,λ b o q _=>⟨o,q⟩,λ b ys e=>?_,λ b o u e=>?_,λ b u pr e=>?_⟩
  .have:b≠p:=by rintro rfl;rw[h]at e;cases e
   rw[aE this];exact e
  .have:b≠p:=by rintro rfl;rw[h]at e;cases e
   rw[aE this];exact e
  .have:b≠p:=by rintro rfl;rw[h]at e;cases e;exact pr
   rw[aE this];exact e
 .intro b u e;by_cases hb:b=p
  .subst hb;rw[aP]at e;cases e;exact⟨ho,z,y,vs,r,hd⟩
  .rw[aE hb]at e;refine(I.cy b u e).oy (λ c w _ q=>q) (λ c q=>?_) (λ c ys q=>?_) λ c v pr q=>?_
   .have:c≠p:=by rintro rfl;rw[h]at q;cases q
    rw[aE this];exact q
   .have:c≠p:=by rintro rfl;rw[h]at q;cases q
    rw[aE this];exact q
   .have:c≠p:=by rintro rfl;rw[h]at q;cases q;exact pr
    rw[aE this];exact q
theorem NT(I:Inv X χ σ H s):sysModules<s.heap.objs.size:=by have h:=(I.mod.glob.keeps I.bk).lt;exact Nat.lt_trans ∅ h
theorem _root_.ZQ.Oz:ZQ.QE X (.Dict [] [] pos) (Z.eC<|.dct [] []):=⟨by
 intro χ s σ H Q I w;let⟨ρ,d,r,e,k⟩:=w;cases e;refine wpAny_Dict_empty ?_;have I1:=
  I.laid (t':=s.toks) (λ _ _ q=>A02 _ q) (v6 _)<|Ho _<|NT I
 let⟨o,I2⟩:=Kc I1 aP;have hn:=I.cy.fresh<|v6 _;refine⟨.ref _,_,I2,rfl,k _ _ (λ b u e=>?_) ?_⟩
 .have:b≠s.heap.objs.size:=by rintro rfl;rw[hn]at e;cases e
  rw[aE this,aE this];exact e
 .simp only[Den];exact⟨_,o,[],rfl,aP,rfl,aI.nil,λ _ _ z=>nomatch z⟩⟩
end ZS
namespace ZQ
open L2 ZS
end ZQ
namespace PySem
namespace F
end F
end PySem
namespace Z
end Z
namespace PySem
section
variable{prog:ο}{w:ξ}{A:π}{s:η}{R:Result->η->Prop}
variable{I:δ}{fp wr:γ δ}{G:Array GenState->Array GenState->Prop}{n:Nat}{P:Nat->ζ->Prop}{St:Nat->η->Prop}
end
end PySem
namespace ZS
open L2
section
variable{X:Cx}{a:ι}{pos p p1 p2:Pos}{fa:Z.EF}
end
end ZS
namespace ZQ
open L2 ZS
end ZQ
namespace Z
end Z
namespace ZS
open L2
theorem Ij{α:Type}{P:γ α->Prop}(h:P []):∀us:γ α,us.length=0->P us:=λ us e=>B48 e▸h
theorem lM{α:Type}{P:γ α->Prop}{n:Nat}(h:∀a (us:γ α),us.length=n->P (a::us)):∀us:γ α,us.length=n+1->P us:=by
 intro us e;cases us with
 |nil=>cases e
 |cons a t=>exact h a t<|Nat.succ.inj e
theorem bd1{ps:γ Str}(h:∀a0,bindArgs fd ⟨[a0],[]⟩=pure (ps.zip [a0])):∀us,us.length=1->bindArgs fd ⟨us,[]⟩=pure (ps.zip us):=lM λ a0=>Ij<|h a0
theorem YH{ps:γ Str}(h:∀a0 a1,bindArgs fd ⟨[a0,a1],[]⟩=pure (ps.zip [a0,a1])):∀us,us.length=2->bindArgs fd ⟨us,[]⟩=pure (ps.zip us):=lM λ a0=>lM λ a1=>Ij<|h a0 a1
theorem bd3{ps:γ Str}(h:∀a0 a1 a2,bindArgs fd ⟨[a0,a1,a2],[]⟩=pure (ps.zip [a0,a1,a2])):∀us,us.length=3->bindArgs fd ⟨us,[]⟩=pure (ps.zip us):=lM λ a0=>lM λ a1=>lM λ a2=>Ij<|h a0 a1 a2
theorem bd4{ps:γ Str}(h:∀a0 a1 a2 a3,bindArgs fd ⟨[a0,a1,a2,a3],[]⟩=pure (ps.zip [a0,a1,a2,a3])):∀us,us.length=4->bindArgs fd ⟨us,[]⟩=pure (ps.zip us):=lM λ a0=>lM λ a1=>lM λ a2=>lM λ a3=>Ij<|h a0 a1 a2 a3
theorem bd5{ps:γ Str}(h:∀a0 a1 a2 a3 a4,bindArgs fd ⟨[a0,a1,a2,a3,a4],[]⟩=pure (ps.zip [a0,a1,a2,a3,a4])):∀us,us.length=5->bindArgs fd ⟨us,[]⟩=pure (ps.zip us):=lM λ a0=>lM λ a1=>lM λ a2=>lM λ a3=>lM λ a4=>Ij<|h a0 a1 a2 a3 a4
theorem bd6{ps:γ Str}(h:∀a0 a1 a2 a3 a4 a5,bindArgs fd ⟨[a0,a1,a2,a3,a4,a5],[]⟩=pure (ps.zip [a0,a1,a2,a3,a4,a5])):∀us,us.length=6->bindArgs fd ⟨us,[]⟩=pure (ps.zip us):=lM λ a0=>lM λ a1=>lM λ a2=>lM λ a3=>lM λ a4=>lM λ a5=>Ij<|h a0 a1 a2 a3 a4 a5
def aaN(H0 H1:Hp):Hp->Prop:=λ H2=>iM H1 H2/\aG H0 H2
def tZk(K:Db)(H0:Hp)(f:Z.LF):TI:=λ σ H R=>∃ρ ds,RS K H0 H σ ρ/\f ρ=.ok ds/\∀J H',aG H H'->F_ K J (aaN H0 H') ds->R J H'
abbrev DK(X:Cx)(H0:Hp)(tg e:ι)(f:Z.LF):Prop:=PI X tg e<|tZk X.K H0 f
structure _root_.ZQ.QK(X:Cx)(H0:Hp)(tg e:Expr)(f:Z.LF):Prop where p:DK X H0 tg e f
end ZS
namespace ZQ
open L2 ZS
end ZQ
namespace Z
end Z
namespace ZS
open L2
end ZS
namespace ZQ
open L2 ZS
end ZQ
namespace ZS
open L2
section
variable{X:Cx}{a:ι}{pos:Pos}{fa:Z.EF}
end
end ZS
namespace ZQ
open L2 ZS
section
variable{X:Cx}{a:ι}{pos:Pos}{fa:Z.EF}{H0:Hp}
end
end ZQ
namespace Z
end Z
namespace ZS
open L2
section
variable{X:Cx}{H0:Hp}{pos:Pos}
end
end ZS
namespace ZQ
open L2 ZS
section
variable{X:Cx}{H0:Hp}{pos:Pos}
end
end ZQ
namespace Z
end Z
namespace ZS
open L2
theorem WG(h:Z.eV i ρ=.ok d):ρ[i]?=AC (AC<|.val d):=by
 unfold Z.eV at h;split at h
 .rename_i e;cases h;exact e
 .cases h
theorem Sr(hN:X.N.Nodup)(hi:X.N[i]?=AC x)(hx:Loc X.env.scope x)(hr:kC X (inplaceOp op) r)(hz:H! X.K r o)(he:DE X a fa)(hf:X.fn x=Ch\/X.env.scope.names.lookup x=AC .local):
 DS X H0 (.AugAssign (.Name x pos') op a pos) (Z.bG i<|Z.eB o (Z.eV i) fa):=PS.imp (Qx hN hi hx he hr hf) <|by
 rintro D σ H ⟨ρ,fl,rs,e,k⟩;let⟨d,ea,e⟩:=WP e;cases e;let⟨dx,e1,ea⟩:=WP ea;let⟨dy,e2,ea⟩:=WP ea;let⟨v,si,dv⟩:=rs.re.get i _ (WG e1);refine⟨v,si,ρ,dy,rs.re,e2,λ y H1 s1 dy1=>?_⟩;exact hz v y dx dy d H1 _ (.inl<|Den.up dv s1) (.inl dy1) ea λ z H2 s2 dz=>k _ H2 (lN<|s1.trans s2)<|(rs.up<|s1.trans s2).MI dz
theorem Kb:kC X (inplaceOp .Mult) (rI LJ λ i j=>.int<|i*j):=UX λ _ _ _ _ _ _ _ hc q=>imul_int q hc
theorem QQ{K:Db}:H! K (rI LJ λ i j=>.int<|i*j) Z.fC:=pQ λ dx dy d e=>by
 unfold Z.fC at e;split at e
 .unfold Z.guard at e;split at e
  .rename_i h;cases e;exact⟨_,_,rfl,rfl,ve h,rfl⟩
  .cases e
 .cases e
end ZS
namespace ZQ
open L2 ZS
theorem Ot(hN:X.N.Nodup)(hi:X.N[i]?=AC x)(hx:Loc X.env.scope x)(he:QE X a fa)(hf:Fl X x:=by trivial):
 QS X H0 (.AugAssign (.Name x pos') .Mult a pos) (Z.bG i<|Z.eB Z.fC (Z.eV i) fa):=⟨ZS.Sr hN hi hx Kb QQ he.p hf⟩
end ZQ
namespace ZMx
section
variable{St:Nat->ν->Prop}
end
section
variable{St:Nat->ν->Prop}
end
end ZMx
namespace ZS
open L2
section
variable{X:Cx}
end
end ZS
namespace ZQ
open L2 ZS
end ZQ
namespace ZS
open L2
end ZS
namespace ZQ
open L2 ZS
end ZQ
namespace Z
def w_(e:EF)(ρ:Env)(d:D):Res Int:=(e<|some (.val d)::ρ).bind λ y=>match y with
|.int k=>.ok k
|_=>.bad
theorem NH(h:w_ e ρ d=.ok k):e (AC (.val d)::ρ)=.ok (.int k):=by
 let⟨y,e1,e2⟩:=Res.ay h;split at e2
 .cases e2;exact e1
 .cases e2
theorem J!(h:e (AC (.val d)::ρ)=.ok (.int k)):w_ e ρ d=.ok k:=by unfold w_;rw[h];rfl
def HX(mx:Bool)(k kb:Int):Bool:=if mx=Ch then decide (k>kb)else decide (k<kb)
def Kq(mx:Bool)(e:D->Res Int)(b:D)(kb:Int):γ D->Res D
|[]=>.ok b
|d::r=>(e d).bind λ k=>if HX mx k kb=Ch then Kq mx e d k r else Kq mx e b kb r
def pickK(mx:Bool)(z:Res D)(e:D->Res Int):γ D->Res D
|[]=>z
|d::r=>(e d).bind λ k=>Kq mx e d k r
def zS(mx:Bool)(z:Res D)(a:EF)(is:γ Nat)(e:EF)(ρ:Env):Res D:=(a ρ).bind λ x=>match x with
|.lst ds=>pickK mx z (w_ e<|eP ρ is) ds
|_=>.bad
end Z
namespace ZS
open L2 PySem.W
theorem Off.Ra(o:Off X χ H C)(ok:X.Ok):C∉X.fs:=λ hb=>by let⟨_,ob,ho,_⟩:=ok.lK.mem hb;exact absurd (A20 (A03 ho) o.new)<|A82 _
theorem Off.Vd(o:Off X χ H C)(I:Inv X χ σ H s):C∉vT X.stack:=λ hb=>by
 rcases A00.mp (I.q? C hb)with z|z
 .exact o.loc z
 .exact o.Ra I.ok z
theorem Off.up(o:Off X χ H C)(h:H' C=At):Off X χ H' C:=⟨h,o.loc,o.new,o.cell,o.pin⟩
theorem Off.fresh(I:Inv X χ σ H s)(hC:s.heap.objs.size<=C)(h:H' C=At):Off X χ H' C where
 free:=h
 loc:=A42<|A20 I.lt hC
 new:=A27 I.sz hC
 cell:=λ x c e=>by let⟨v,o,ho,_⟩:=I.cell x c e;exact A14<|A20 (A03 ho) hC
 pin:=λ p hp=>A14<|A20 (A03 (I.pin p hp).1) hC
theorem Hs{pos q:Pos}(l:γ ζ)(h:TriplesOk l)(e:codeAmong q (l++[rawInt pos.line,rawInt pos.col,c])=AC cv):codeAmong q l=AC cv\/cv=c:=by
 fun_induction TriplesOk l with
 |case1=>
  simp only[B69,codeAmong,rawInt]at e;split at e
  .cases e;exact .inr rfl
  .cases e
 |case2 a t b u x rest ih=>
  simp only[AA5,codeAmong]at e ⊢;split at e
  .rename_i hc;rw[f8 hc];exact .inl e
  .rename_i hc;rw[P3 hc];exact ih h e
 |case3 l h1 h2=>exact h.elim
structure F?(X:Cx)(χ:List (Addr×Obj))(q:Str)(params:Arguments)(body:Expr)(scope:Scope)(cl:List (Str×Addr))(H:Hp)(s:Shared)(f c':Addr)(pm sX:Value):Prop where
 off:Off X χ H f
 obj:s.heap.get? f=AC (kla_obj "<lambda>" q params body scope cl pm c' sX)
 code:H c'=AC (.L9 q)
theorem Bz(hx:x∈dE)(ht:tabIn X.K x=AC (c,P))(Pz:X.env.code=.ref c)(hq:X.env.qual++ "<lambda>"=jV x)
 (zH:defaultsOf params X.env=([],[])) (kR:closureFor scope X.env=pure cl) (I:Inv X χ σ H s) :
 FM (model X.prog X.w) X.A (eval (.Lambda params body scope pos) X.env) (λ r s'=>∃f c' pm sX H',r=.ref f/\Inv X χ σ H' s'/\aG H H'/\F? X χ (jV x) params body scope cl H' s' f c' pm sX) X.xe s:=by
 refine kla_eval zH ?_;rw[hq];let⟨hT,hC,bm,ob,b1,b2,b3,b4,b5,b6⟩:=I.tab x hx c P ht;let⟨ps,g,Xm,am⟩:=I.cy P _ hT;have hgs:=I.mod.glob.keeps I.bk;have PU:∀b o,X.base.get? b=AC o->b≠P:=λ b o e z=>by have:=(I.bs b o e).2;rw[z,hT]at this;cases this
 have hgP:mainGlobals≠P:=by let⟨o,es,ep,e,_⟩:=I.mod.glob;exact PU _ _ e
 have hbG:bm≠mainGlobals:=λ z=>by let⟨o,es,ep,e,hd,_⟩:=I.mod.glob;rw[z,e]at b3;cases b3;rw[hd]at b6;cases b6
 have hB:s.heap.BuiltinsAt X.mg P:=⟨bm,ob,b1,b2,hbG,PU _ _ b3,I.bk _ _ b3,b4,b5,b6⟩
 cases hf:codeAmong pos ps.toList with
 | some cv=>let⟨c',rfl,Ag⟩:=am pos cv hf;refine kla_makeFunctionHit (mg:=X.mg) kR I.ok.glob hgs Pz (hC.keeps I.bk) g Xm hf hB λ sX h' tk hk FC=>?_;have I':Inv X χ σ H {s with heap:=h'.push<|kla_obj "<lambda>" (jV x) params body scope cl ((X.mg "__name__").getD .none) c' sX,toks:=tk}:=I.kept λ b u e=>A02 _<|hk b u e;exact⟨_,c',_,sX,H,rfl,I',aG.refl H,⟨Off.fresh I FC<|I.cy.fresh FC,A16 _ rfl,Ag⟩⟩
 |none=>
  refine kla_makeFunction (mg:=X.mg) kR I.ok.glob hgs Pz (hC.keeps I.bk) g Xm hf hgP hB λ c' sX h' tk HP Yn qR RR htb=>?_;have hn:H c'=At:=I.cy.fresh Yn;have kp:∀b o,b≠P->s.heap.get? b=AC o->(h'.push<|kla_obj "<lambda>" (jV x) params body scope cl ((X.mg "__name__").getD .none) c' sX).get? b=AC o:=λ b o hb e=>A02 _<|HP b o hb e;have Z2:∀b,H b=At->b≠P:=λ b e z=>by rw[z,hT]at e;cases e
  have Rg:∀b u,H b=AC u->b≠c':=λ b u e=>bt e hn;have ltc:∀b o,s.heap.get? b=AC o->b≠c':=λ b o e=>A14<|A20 (A03 e) Yn;have hP:(h'.push<|kla_obj "<lambda>" (jV x) params body scope cl ((X.mg "__name__").getD .none) c' sX).get? P=AC (tabObj<|ps++#[rawInt pos.line,rawInt pos.col,.ref c']):=A02 _ htb;have un:Un X.fs [] H (upd H c'<|.L9<|jV x) s.heap (h'.push<|kla_obj "<lambda>" (jV x) params body scope cl ((X.mg "__name__").getD .none) c' sX):=by
   refine⟨λ b o e n _ _=>kp b o (Z2 b n) e,λ b o e n _ _=>⟨o.slots,kp b o (Z2 b n) e⟩,λ b o e n _=>by rw[aE<|ltc b o e];exact n,λ b o e _=>?_,λ b xs e=>by rw[aE<|Rg _ _ e];exact e,λ b o u e=>by rw[aE<|Rg _ _ e];exact e,λ b u _ e=>by rw[aE<|Rg _ _ e];exact e⟩;by_cases hb:b=P
   .exact⟨_,hb▸hP⟩
   .exact⟨o,kp b o hb e⟩
  have cy:pj X.prog X.w (upd H c'<|.L9<|jV x) (h'.push<|kla_obj "<lambda>" (jV x) params body scope cl ((X.mg "__name__").getD .none) c' sX):=λ b u e=>by
   by_cases hb:b=c'
   .subst hb;rw[aP]at e;cases e;let⟨c2,oc,vs,t,e2,Yj,r⟩:=RR;cases e2;exact⟨_,oc,vs,t,rfl,A02 _ Yj,r⟩
   .rw[aE hb]at e;by_cases hbP:b=P
    .subst hbP;rw[hT]at e;cases e;refine⟨_,hP,by rw[dL];exact TriplesOk_snoc _ _ _ _ Xm,λ p cv e2=>?_⟩;rw[dL]at e2;rcases Hs _ Xm e2 with z|rfl
     .let⟨c2,e3,e4⟩:=am p cv z;exact⟨c2,e3,by rw[aE<|Rg _ _ e4];exact e4⟩
     .exact⟨c',rfl,aP⟩
    .refine(I.cy b u e).oy (λ b2 v hc q=>kp b2 v ?_ q) (λ b2 q=>by rw[aE<|Rg _ _ q];exact q) (λ b2 xs q=>by rw[aE<|Rg _ _ q];exact q) λ b2 v _ q=>by rw[aE<|Rg _ _ q];exact q
     rcases hc with rfl|hc
     .exact hbP
     .exact Vh hc hT λ z=>nomatch z
  have V5:(upd H c'<|.L9<|jV x) h'.objs.size=At:=by rw[aE<|A42 qR];exact I.cy.fresh<|A70<|Nat.lt_of_le_of_lt Yn qR
  exact⟨_,c',_,sX,_,rfl,I.un (t':=tk) un cy,cI hn,⟨Off.fresh I (A70<|Nat.lt_of_le_of_lt Yn qR) V5,A16 _ rfl,aP⟩⟩
abbrev DB(X:Cx)(N':γ Str)(q:Str)(scope:ς)(cl:γ (Str×δ))(f c':δ)(s₂:η)(H₂:Hp):Cx:=
 {prog:=X.prog,w:=X.w,K:=X.K,mg:=X.mg,base:=X.base,A:=X.A.in1.deeper<|envX q scope s₂.heap.objs.size f (.ref c') cl,N:=N',s₀:=s₂,H₀:=H₂,env:=envX q scope s₂.heap.objs.size f (.ref c') cl,outer:=X.stack,stack:=envX q scope s₂.heap.objs.size f (.ref c') cl::X.stack,ex:=[],fn:=λ _=>AT,calm:=Ch,pn:=[],xe:=λ _ _=>False}
theorem Qt{K:Db}(h:RE K H σ ρ)(hd:Den K H d v):RE K H (AC v::oC σ 0 is) (AC (.val d)::Z.eP ρ is):=by
 have R:=Jb (n:=0) (is:=is) h<|aG.refl H;refine⟨by simp[oC,Z.eP],λ i l e=>?_,λ i j xs ys a e1=>?_⟩
 .cases i with
  |zero=>simp only[C40,B32]at e;subst e;exact⟨v,rfl,hd⟩
  |succ i=>let⟨u,h1,h2⟩:=R.re.get i l (by simpa using e);exact⟨u,by simpa using h1,h2⟩
 .cases i with
  |zero=>simp at e1
  |succ i=>exact absurd (by simpa using e1)<|gB 0 is ρ i xs
theorem BA(c!:X.calm=Ch)(qm:X.A.in1.depth<recursionLimit)(B:yF X.N N' 1 is scope X.env.scope)(LS:N'[0]?=AC x)(zG:scope.isGenerator=AT)(Kk:scope.isCoroutine=AT)
 (mq:∀u,bindArgs (kla_fn "<lambda>" q params body scope cl pm (.ref c') sX) ⟨[u],[]⟩=pure [(x,u)])
 (jW:∀x c,cl.lookup x=AC c->X.env.cells.lookup x=AC c) (vO:∀y∈scope.names,y.2=.free->(cl.lookup y.1).isSome=Ch)
 (he:∀cl f c' s H,DE (DB X N' q scope cl f c' s H) body fe)
 (L:F? X χ q params body scope cl H s f c' pm sX) (I:Inv X χ σ H s) (re:RE X.K H σ ρ) (rv:RelV v u) (dv:Den X.K H d v) (ek:Z.w_ fe (Z.eP ρ is) d=.ok k) :
 FM (model X.prog X.w) X.A.in1 (call (.ref f) [u]) (λ r s'=>∃t H',r=.int k t/\aG H H'/\Un (vT X.stack) [] H H' s.heap s'.heap/\pj X.prog X.w H' s'.heap/\AllBare s'.gens/\s'.os=s.os) E s:=by
 have RR:=I.cy c' _ L.code;let⟨x0,VP,hxl⟩:=B.own 0 (Nat.zero_lt_one);rw[LS]at VP;cases VP;refine A60<|kla_callFunE qm L.obj rfl Kk zG rfl RR ?_;rw[mq];refine M2<|wpAny_newFunctionEnv B.cell (λ y hy=>by rw[A22.mp hy];exact hxl) (λ h₁ LV _o=>⟨I.nolimit.fresh _ _o,?_⟩) B.kind;show codeAny _ _ (.expr body<|envX q scope s.heap.objs.size f (.ref c') cl) _ _;have old:=λ b o e=>_o.extBut b o (A14<|A03 e)<|A02 _ e;have R0:=I.cy.fresh<|v6 _;have ok:(DB X N' q scope cl f c' s H).Ok:=by
  refine⟨I.ok.mod,B.kind,rfl,rfl,v6 _,λ x y c e1 e2=>I.ok.inj x y c (jW x c e1)<|jW y c e2,λ y hy=>?_,λ y c hf=>(by cases hf),λ _=>I.ok.hd c!,B95 I.ok.frames,.inr ⟨rfl,rfl⟩,
   λ b hb=>absurd (show b∈([]:γ δ)from hb) ∅,I.bs,A27 I.ok.Hx I.sz,λ b o _ hb=>absurd (show b∈([]:γ δ)from hb) ∅,λ b hb=>absurd (show b∈([]:γ δ)from hb) ∅,I.stack,I.uh⟩
  have Kf:=hy;rcases Kf with z|z
  .exact absurd rfl<|B.cell _<|A66 z
  .exact A84.mp<|vO _ (A66 z) rfl
 have wq:∀x c,X.env.cells.lookup x=AC c->c<s.heap.objs.size/\∀v,s.heap.IsCell c v->h₁.IsCell c v:=λ x c e=>by let⟨v,o,ho,hd⟩:=I.cell x c e;exact⟨A03 ho,by rintro v' ⟨o',qo,rP⟩;exact⟨o',old c o' qo,rP⟩⟩
 have I4:Inv (DB X N' q scope cl f c' s H) [] (AC v::oC σ 0 is) H {s with heap:=h₁,toks:=s.toks + [(x,u)].length}:=by
  refine⟨ok,rfl,I.bare,Un.kept old,⟨_,LV,λ i y w e1 e2 e3=>?_⟩,λ y c e=>?_,R0,λ y c e=>I.gx y c<|jW y c e,λ p hp=>absurd (show p∈([]:γ (δ×μ))from hp) ∅,I.cy.kept old,?_,I.tab⟩
  .cases i with
   |zero=>have PL:=e1;rw[LS]at PL;cases PL;simp only[C40,B32]at e2;subst e2;refine⟨u,rv,.inl ⟨hxl,?_⟩⟩;simp
   |succ i=>
    have L8:(oC σ 0 is)[i]?=AC (AC w):=by simpa using e2
    unfold oC at L8;simp only[List.replicate_zero,B69,A08]at L8;cases r:is[i]? with
    |none=>rw[r]at L8;cases L8
    |some j=>
     rw[r]at L8;simp only[A77]at L8;let⟨x',c1,c2,c3⟩:=B.cap i j r;have PL:=e1;rw[show i+1=1+i from B35 _ _,c1]at PL;cases PL;have hσ:σ[j]?=AC (AC w):=by
      cases r2:σ[j]? with
      |none=>rw[r2]at L8;cases L8
      |some z=>
       rw[r2]at L8;have:z=AC w:=by simpa using L8
       rw[this]
     let⟨m,hn,hl⟩:=I.loc;have hm:=A66 c3;have hk:=B.free _ hm rfl;have RN:HD X.env.scope y:=by
      rcases hk with k|k
      .exact .inr<|.inl k
      .exact .inr<|.inr k
     let⟨u',ru,lk⟩:=hl j y w c2 hσ RN;refine⟨u',ru,?_⟩;rcases lk with⟨k1,_⟩|⟨k1,c,hc,sQ⟩
     .have NI:X.env.scope.names.lookup y=AC .local:=k1;rcases hk with k|k
      .rw[k]at NI;cases NI
      .rw[k]at NI;cases NI
     .let⟨YF,Ag⟩:=A84.mp (vO _ hm rfl);have:YF=c:=by have:=jW y YF Ag;rw[hc]at this;exact(A06 this).symm
      subst this;exact .inr ⟨.inr c3,YF,Ag,(wq y YF hc).2 _ sQ⟩
  .let⟨v',hv⟩:=I.cell y c (jW y c e);exact⟨v',(wq y c<|jW y c e).2 v' hv⟩
  .have:=B.len;simp[oC,this,B35]
 refine kla_codeExpr<|A21 (he cl f c' s H [] _ _ H (λ v' H'=>aG H H'/\v'=.int k) I4 ⟨_,_,Qt re dv,Z.NH ek,λ v' H' s' d'=>⟨s',by simpa only[Den]using d'⟩⟩) (λ r s' hq=>?_) λ e s' hq=>hq.elim;let⟨v',H',J,Zw,sm,rfl⟩:=hq;let⟨t,rfl⟩:=Zw;exact⟨t,H',rfl,sm,J.base,J.cy,J.bare,J.os⟩
abbrev held(b:ζ)(k:ζ)(c:Nat):μ:={cls:=.type "list",data:=.seq #[b,k] c}
structure KLp(X:Cx)(χ:List (Addr×Obj))(σ:St)(H₀:Hp)(l I S:Addr)(vs:List V)(H:Hp)(s:Shared)(j i:Nat)(kb:Int):Prop where
 inv:Inv X χ σ H s
 sm:aG H₀ H
 it:s.heap.IsListIter I l j
 Dk:Off X χ H I
 rk:Off X χ H S
 best:∃b v tb c,vs[i]?=AC v/\RelV v b/\s.heap.get? S=AC (held b (.int kb tb) c)
theorem p6(c!:X.calm=Ch)(I1:Inv X χ σ H s)(hq:ka X.K H l vs)(it:s.heap.IsListIter I l j)(oI:Off X χ H I)(hj:j<vs.length)
 (h:∀u v h' tk,vs[j]?=AC v->RelV v u->Inv X χ σ H {s with heap:=h',toks:=tk}->h'.IsListIter I l (j+1)->(∀b o,b≠I->s.heap.get? b=AC o->h'.get? b=AC o)->Q (AC u) {s with heap:=h',toks:=tk}) :
 FM (model X.prog X.w) X.A.in1 (pyNext<|.ref I) Q E s:=by
 let⟨bT,rv,pl,hz⟩:=I1.list hq;have hl:=rv.length;have hh:=I1.ok.hd c!;have qQ:l≠I:=by rintro rfl;let⟨o,e,hc,_⟩:=pl.isList;let⟨o2,e2,BL,_⟩:=it;rw[e]at e2;cases e2;rw[hc]at BL;exact absurd (Value.type.inj BL) ∅
 have W:=Walks.list (prog:=X.prog) (w:=X.w) (A:=X.A.in1) hh I l qQ bT.toArray;refine W.item j s Q E (by rw[A09,<-hl];exact hj) ⟨it,pl.isList⟩ λ u h' tk pv st k1=>?_;have hv:bT[j]?=AC u:=by simpa using pv
 obtain⟨v,Tu⟩:∃v,vs[j]?=AC v:=⟨vs[j],by simp[hj]⟩
 let⟨u',Tv,rvu⟩:=rv.get Tu;rw[hv]at Tv;cases Tv;have kp:=λ b o hb e=>k1 b o (by simpa using hb) e;exact h u v h' tk Tu rvu (I1.turned kp oI.free oI.loc (.inr oI.new) oI.cell oI.pin) st.1 kp
theorem vn(c!:X.calm=Ch)(I1:Inv X χ σ H s)(hq:ka X.K H l vs)(it:s.heap.IsListIter I l j)(oI:Off X χ H I)(hj:j=vs.length)
 (h:∀h' tk,Inv X χ σ H {s with heap:=h',toks:=tk}->(∀b o,b≠I->s.heap.get? b=AC o->h'.get? b=AC o)->Q At {s with heap:=h',toks:=tk}) :
 FM (model X.prog X.w) X.A.in1 (pyNext<|.ref I) Q E s:=by
 let⟨bT,rv,pl,hz⟩:=I1.list hq;have hl:=rv.length;have hh:=I1.ok.hd c!;have qQ:l≠I:=by rintro rfl;let⟨o,e,hc,_⟩:=pl.isList;let⟨o2,e2,BL,_⟩:=it;rw[e]at e2;cases e2;rw[hc]at BL;exact absurd (Value.type.inj BL) ∅
 have W:=Walks.list (prog:=X.prog) (w:=X.w) (A:=X.A.in1) hh I l qQ bT.toArray;refine W.done s Q E ⟨by rw[A09,<-hl,<-hj];exact it,pl.isList⟩ λ h' tk k1=>?_;have kp:=λ b o hb e=>k1 b o (by simpa using hb) e;exact h h' tk (I1.turned kp oI.free oI.loc (.inr oI.new) oI.cell oI.pin) kp
def Cr(X:Cx)(χ:γ (δ×μ))(σ:St)(H₀:Hp)(f:δ)(St:Hp->η->Prop)(e:Z.D->Z.Res Int):Prop:=
 ∀(H:Hp)(s:η)(u:ζ)(v:V)(d:Z.D)(k:Int),Inv X χ σ H s->aG H₀ H->St H s->RelV v u->Den X.K H d v->e d=.ok k ->
  FM (model X.prog X.w) X.A.in1 (call (.ref f) [u]) (λ r s'=>∃t H',r=.int k t/\aG H H'/\Un (vT X.stack) [] H H' s.heap s'.heap/\pj X.prog X.w H' s'.heap/\AllBare s'.gens/\s'.os=s.os) (λ _ _=>False) s
structure LC(X:Cx)(χ:List (Addr×Obj))(σ:St)(f:Addr)(St:Hp->Shared->Prop):Prop where
 off:∀H s,St H s->Off X χ H f
 un:∀H H' s s',Inv X χ σ H s->St H s->aG H H'->H' f=At->(∀o,s.heap.get? f=AC o->s'.heap.get? f=AC o)->St H' s'
section
variable{St:Hp->η->Prop}
theorem Il(h:Q (.bool<|decide<|k>kb) s):FM (model prog w) A (richCompare .Gt (.int k t)<|.int kb tb) Q E s:=
 CmpOf.ints_gt (λ i=>if i=0 then k else kb) (λ i v h=>h) 0 1 _ _ _ _ _ ⟨t,rfl⟩ ⟨tb,rfl⟩ h
theorem Gr(h:Q (.bool<|decide<|k<kb) s):FM (model prog w) A (richCompare .Lt (.int k t)<|.int kb tb) Q E s:=
 CmpOf.ints_lt (λ i=>if i=0 then k else kb) (λ i v h=>h) 0 1 _ _ _ _ _ ⟨t,rfl⟩ ⟨tb,rfl⟩ h
theorem uu(KO:Cr X χ σ H₀ f St e)(SY:LC X χ σ f St)(Iv:Inv X χ σ H s)(sm:aG H₀ H)(st:St H s)(rv:RelV v u)(dv:Den X.K H d v)(ek:e d=.ok k)
 (oI:Off X χ H I) (oS:Off X χ H S){oi os:μ}(gI:s.heap.get? I=AC oi) (gS:s.heap.get? S=AC os) (gf:∃o,s.heap.get? f=AC o)
 (h:∀t H' s',Inv X χ σ H' s'->aG H H'->St H' s'->Off X χ H' I->Off X χ H' S->s'.heap.get? I=AC oi->s'.heap.get? S=AC os->(∃o,s'.heap.get? f=AC o)->Q (.int k t) s') :
 FM (model X.prog X.w) X.A.in1 (call (.ref f) [u]) Q E s:=by
 refine A21 (KO H s u v d k Iv sm st rv dv ek) (λ x s' hq=>?_) λ _ _ z=>z.elim;let⟨t,H',rfl,S9,un,cy,bare,ZR⟩:=hq;have Iv':=Iv.Lk ZR un cy bare λ b hb=>absurd hb ∅;have of:=SY.off H s st;have kp:∀{b}{o},Off X χ H b->s.heap.get? b=AC o->s'.heap.get? b=AC o/\H' b=At:=λ {b o} ob e=>⟨un.keep b o e ob.free (ob.Vd Iv) ∅,un.free b o e ob.free ∅⟩
 let⟨fo,gf⟩:=gf;exact h t H' s' Iv' S9 (SY.un H H' s s' Iv st S9 (kp of gf).2 λ o e=>(kp of e).1) (oI.up (kp oI gI).2) (oS.up (kp oS gS).2) (kp oI gI).1 (kp oS gS).1 ⟨fo,(kp of gf).1⟩
theorem DD(c!:X.calm=Ch)(KO:Cr X χ σ H₀ f St e)(SY:LC X χ σ f St)(zI:S≠I)(D3:f≠I)(DZ:f≠S)(hl:ka X.K H₀ l vs)(dn:aI X.K H₀ ds vs)
 (fin:∀H s u v,Inv X χ σ H s->aG H₀ H->RelV v u->Den X.K H r v->R (.ok<|.ret u) s) :
 ∀n j i H s kb db,ds.length=j+n->ds[i]?=AC db->Z.Kq Ch e db kb (ds.drop j)=.ok r->KLp X χ σ H₀ l I S vs H s j i kb->St H s->(∃o,s.heap.get? f=AC o) ->
  codeAny (model X.prog X.w) X.A (.builtin "max.loop" ⟨[.ref I,.ref f,.ref S],kw⟩) R s:=by
 have nm:(toString "max"++toString ".loop")="max.loop":=by decide
 have ψ:=dn.length;intro n
 induction n with
 |zero=>
  intro j i H s kb db hn gP eg L st gf;let⟨b,v,tb,c,hv,rb,gS⟩:=L.best;refine B10 C19 ?_;rw[B11 A94 _];refine T0<|A46 gS rfl<|T0<|A52<|vn c! L.inv (L.sm.seq hl) L.it L.Dk ∅ λ h1 t1 I1 k1=>?_;have g1:=k1 S _ zI gS;refine T0<|B12 g1 rfl<|T0<|A64<|M2 ?_;have hr:db=r:=by rw[C41 ∅]at eg;unfold Z.Kq at eg;cases eg;rfl
  subst hr;let⟨v',xm,dv⟩:=dn.get gP;rw[hv]at xm;cases xm;exact fin H _ b v (I1.turned (t':=t1) (λ b o hb e=>(A62 _ _<|A07 hb).trans e) L.rk.free L.rk.loc (.inr L.rk.new) L.rk.cell L.rk.pin) L.sm rb<|dv.up L.sm
 |succ n ih=>
  intro j i H s kb db hn gP eg L st gf;let⟨b,v,tb,c,hv,rb,gS⟩:=L.best;have hj:j<ds.length:=by lia
  obtain⟨dj,N2⟩:∃d,ds[j]?=AC d:=⟨ds[j],by simp[hj]⟩
  have qp:ds.drop j=dj::ds.drop (j+1):=by
   rw[A90 hj];have:ds[j]=dj:=by have:=A01 hj;rw[this]at N2;exact A06 N2
   rw[this]
  rw[qp]at eg;unfold Z.Kq at eg;let⟨k,ek,eg⟩:=WP eg;refine B10 C19 ?_;rw[B11 A94 _];refine T0<|A46 gS rfl<|T0<|A52<|p6 c! L.inv (L.sm.seq hl) L.it L.Dk ∅ λ u v1 h1 t1 DU IV I1 G8 k1=>?_;have g1:=k1 S _ zI gS;let⟨oI,gI,rI⟩:=id G8;let⟨of,gf⟩:=gf;have N7:=k1 f _ D3 gf;let⟨v',xm,dv⟩:=dn.get N2;rw[DU]at xm;cases xm;have EY:St H {s with heap:=h1,toks:=t1}:=SY.un H H s _ L.inv st (aG.refl H) (SY.off H s st).free λ o e=>k1 f o D3 e;refine T0<|A52<|A39<|uu KO SY I1 L.sm EY IV (dv.up L.sm) ek L.Dk L.rk gI g1 ⟨of,N7⟩ λ t2 H2 s2 I2 A3 Cu U! Dl N8 R_ Wi=>?_;refine T0<|A52<|A39<|T0<|Il<|T0<|A39<|A59<|T0<|A64<|M2 ?_;have II:=L.sm.trans A3;have BG:s2.heap.IsListIter I l (j+1):=⟨oI,N8,rI⟩
  by_cases hb:k>kb
  .simp only[hb,decide_true,A23];refine T0<|B12 R_ rfl<|T0<|A64 ?_;rw[nm];rw[f8 (by unfold Z.HX;simpa using hb)]at eg;have kp:∀b o,b≠S->s2.heap.get? b=AC o->(s2.heap.update S<|Obj.mapSeq λ _=>#[u,.int k t2]).get? b=AC o:=λ b o hb e=>(A62 _ _<|A07 hb).trans e;have I3:=I2.turned (t':=s2.toks) kp Dl.free Dl.loc (.inr Dl.new) Dl.cell Dl.pin;refine M2 ⟨A81 A94 _,ih (j+1) j H2 _ k dj ∅ N2 eg ⟨I3,II,⟨oI,kp I _ (A07 zI) N8,rI⟩,U!,Dl,u,v1,t2,_,DU,IV,A79 _ R_ rfl⟩ (SY.un H2 H2 s2 _ I2 Cu (aG.refl H2) (SY.off H2 s2 Cu).free λ o e=>kp f o DZ e)<|let ⟨o,e⟩:=Wi;⟨o,kp f o DZ e⟩⟩
  .simp only[hb,C16,A40,A86];refine T0<|A64 ?_;rw[nm];rw[P3 (by unfold Z.HX;simpa using hb)]at eg;exact M2 ⟨A81 A94 _,ih (j+1) i H2 s2 kb db ∅ gP eg ⟨I2,II,BG,U!,Dl,b,v,tb,c,hv,rb,R_⟩ Cu Wi⟩
theorem DC(c!:X.calm=Ch)(KO:Cr X χ σ H₀ f St e)(SY:LC X χ σ f St)(zI:S≠I)(D3:f≠I)(DZ:f≠S)(hl:ka X.K H₀ l vs)(dn:aI X.K H₀ ds vs)
 (fin:∀H s u v,Inv X χ σ H s->aG H₀ H->RelV v u->Den X.K H r v->R (.ok<|.ret u) s) :
 ∀n j i H s kb db,ds.length=j+n->ds[i]?=AC db->Z.Kq AT e db kb (ds.drop j)=.ok r->KLp X χ σ H₀ l I S vs H s j i kb->St H s->(∃o,s.heap.get? f=AC o) ->
  codeAny (model X.prog X.w) X.A (.builtin "min.loop" ⟨[.ref I,.ref f,.ref S],kw⟩) R s:=by
 have nm:(toString "min"++toString ".loop")="min.loop":=by decide
 have ψ:=dn.length;intro n
 induction n with
 |zero=>
  intro j i H s kb db hn gP eg L st gf;let⟨b,v,tb,c,hv,rb,gS⟩:=L.best;refine B10 C20 ?_;rw[B11 A95 _];refine T0<|A46 gS rfl<|T0<|A52<|vn c! L.inv (L.sm.seq hl) L.it L.Dk ∅ λ h1 t1 I1 k1=>?_;have g1:=k1 S _ zI gS;refine T0<|B12 g1 rfl<|T0<|A64<|M2 ?_;have hr:db=r:=by rw[C41 ∅]at eg;unfold Z.Kq at eg;cases eg;rfl
  subst hr;let⟨v',xm,dv⟩:=dn.get gP;rw[hv]at xm;cases xm;exact fin H _ b v (I1.turned (λ b o hb e=>(A62 _ _<|A07 hb).trans e) L.rk.free L.rk.loc (.inr L.rk.new) L.rk.cell L.rk.pin) L.sm rb<|dv.up L.sm
 |succ n ih=>
  intro j i H s kb db hn gP eg L st gf;let⟨b,v,tb,c,hv,rb,gS⟩:=L.best;have hj:j<ds.length:=by lia
  obtain⟨dj,N2⟩:∃d,ds[j]?=AC d:=⟨ds[j],by simp[hj]⟩
  have qp:ds.drop j=dj::ds.drop (j+1):=by
   rw[A90 hj];have:ds[j]=dj:=by have:=A01 hj;rw[this]at N2;exact A06 N2
   rw[this]
  rw[qp]at eg;unfold Z.Kq at eg;let⟨k,ek,eg⟩:=WP eg;refine B10 C20 ?_;rw[B11 A95 _];refine T0<|A46 gS rfl<|T0<|A52<|p6 c! L.inv (L.sm.seq hl) L.it L.Dk ∅ λ u v1 h1 t1 DU IV I1 G8 k1=>?_;have g1:=k1 S _ zI gS;let⟨oI,gI,rI⟩:=id G8;let⟨of,gf⟩:=gf;have N7:=k1 f _ D3 gf;let⟨v',xm,dv⟩:=dn.get N2;rw[DU]at xm;cases xm;have EY:St H {s with heap:=h1,toks:=t1}:=SY.un H H s _ L.inv st (aG.refl H) (SY.off H s st).free λ o e=>k1 f o D3 e;refine T0<|A52<|A39<|uu KO SY I1 L.sm EY IV (dv.up L.sm) ek L.Dk L.rk gI g1 ⟨of,N7⟩ λ t2 H2 s2 I2 A3 Cu U! Dl N8 R_ Wi=>?_;refine T0<|A52<|A39<|T0<|Gr<|T0<|A39<|A59<|T0<|A64<|M2 ?_;have II:=L.sm.trans A3;have BG:s2.heap.IsListIter I l (j+1):=⟨oI,N8,rI⟩
  by_cases hb:k<kb
  .simp only[hb,decide_true,A23];refine T0<|B12 R_ rfl<|T0<|A64 ?_;rw[nm];rw[f8 (by unfold Z.HX;simpa using hb)]at eg;have kp:∀b o,b≠S->s2.heap.get? b=AC o->(s2.heap.update S<|Obj.mapSeq λ _=>#[u,.int k t2]).get? b=AC o:=λ b o hb e=>(A62 _ _<|A07 hb).trans e;have I3:=I2.turned (t':=s2.toks) kp Dl.free Dl.loc (.inr Dl.new) Dl.cell Dl.pin;refine M2 ⟨A81 A95 _,ih (j+1) j H2 _ k dj ∅ N2 eg ⟨I3,II,⟨oI,kp I _ (A07 zI) N8,rI⟩,U!,Dl,u,v1,t2,_,DU,IV,A79 _ R_ rfl⟩ (SY.un H2 H2 s2 _ I2 Cu (aG.refl H2) (SY.off H2 s2 Cu).free λ o e=>kp f o DZ e)<|let ⟨o,e⟩:=Wi;⟨o,kp f o DZ e⟩⟩
  .simp only[hb,C16,A40,A86];refine T0<|A64 ?_;rw[nm];rw[P3 (by unfold Z.HX;simpa using hb)]at eg;exact M2 ⟨A81 A95 _,ih (j+1) i H2 s2 kb db ∅ gP eg ⟨I2,II,BG,U!,Dl,b,v,tb,c,hv,rb,R_⟩ Cu Wi⟩
end
def wB(X:Cx)(nm:Str):Prop:=∃c P,nm∈dE/\tabIn X.K nm=AC (c,P)/\X.env.code=.ref c/\X.env.qual++ "<lambda>"=jV nm
theorem HA(a k:ζ):argsOk "max" ⟨[a],[(Da "key",k),(Da "default",.none)]⟩:=by kernel_rfl
theorem Ep(k:ζ):IR "max" ["key","default"] 0 ⟨[],[(Da "key",k),(Da "default",.none)]⟩=pure [AC k,AC .none]:=by kernel_rfl
section
variable{St:Hp->η->Prop}
theorem Oc(c!:X.calm=Ch)(KO:Cr X χ σ H f St e)(SY:LC X χ σ f St)(Iv:Inv X χ σ H s)(st:St H s)(gf:∃o,s.heap.get? f=AC o)(hl:ka X.K H l vs)(dn:aI X.K H ds vs)(ek:Z.pickK Ch (.ok .non) e ds=.ok r)
 (k:∀v H',aG H H'->Den X.K H' r v->Q v H'):FM (model X.prog X.w) X.A (call (.builtin "max") [.ref l]<|[(Da "key",.ref f),(Da "default",.none)]) (EP X χ σ Q) X.xe s:=by
 have nm:(toString "max"++toString ".loop")="max.loop":=by decide
 have ψ:=dn.length;let⟨fo,gf⟩:=gf;let⟨bT,rv,pl,hz⟩:=Iv.list hl;refine kmk_tree PySem.F.kind_max PySem.F.plain_max PySem.F.entry_max (HA _ _) ?_;show FM (model X.prog X.w) X.A.in1 (IR "max" ["key","default"] 0 ⟨[],[(Da "key",.ref f),(Da "default",.none)]⟩>>=_) _ _ s;rw[Ep];refine T0<|M2<|T0<|M2<|T0<|B07 pl.isList ?_;refine T0<|A67 ?_;rw[nm];generalize Ko:s.heap.push {cls:=.type "list_iterator",data:=.fields #[.ref l,.int 0 0]}=HH;have hS:HH.objs.size=s.heap.objs.size+1:=by rw[<-Ko,A48]
 have __:HH.get? s.heap.objs.size=AC {cls:=.type "list_iterator",data:=.fields #[.ref l,.int 0 0]}:=by rw[<-Ko];exact A16 _ rfl
 have Rv:∀b o,s.heap.get? b=AC o->(HH.push {cls:=.type "list",data:=.seq ([]).toArray}).get? b=AC o:=λ b o e=>A02 _ (by rw[<-Ko];exact A02 _ e);have I1:=Iv.kept (t':=s.toks) Rv;have oI:=Off.fresh Iv (v6 _)<|Iv.cy.fresh<|v6 _;have oS:Off X χ H HH.objs.size:=Off.fresh Iv (by rw[hS];exact A61 _)<|Iv.cy.fresh (by rw[hS];exact A61 _);have zI:HH.objs.size≠s.heap.objs.size:=by rw[hS];exact A42<|A58 _
 have D3:=A14<|A03 gf;have DZ:f≠HH.objs.size:=by rw[hS];exact A14<|B53<|A03 gf
 have gS:(HH.push {cls:=.type "list",data:=.seq ([]).toArray}).get? HH.objs.size=AC {cls:=.type "list",data:=.seq ([]).toArray}:=A16 _ rfl;have gI:(HH.push {cls:=.type "list",data:=.seq ([]).toArray}).get? s.heap.objs.size=AC {cls:=.type "list_iterator",data:=.fields #[.ref l,.int 0 0]}:=A02 _ __;have EY:St H {s with heap:=HH.push {cls:=.type "list",data:=.seq ([]).toArray}}:=SY.un H H s _ Iv st (aG.refl H) (SY.off H s st).free λ o e=>Rv f o e;have N7:=Rv f fo gf;generalize hS2:HH.objs.size=S at oS zI DZ gS;generalize hI2:s.heap.objs.size=I at oI zI D3 gI;generalize wJ:({s with heap:=HH.push {cls:=.type "list",data:=.seq ([]).toArray}})=s1 at I1 EY;have e1:HH.push {cls:=.type "list",data:=.seq ([]).toArray}=s1.heap:=by rw[<-wJ]
 rw[e1]at gS gI N7;refine M2 ⟨A81 A94 _,?_⟩;refine B10 C19 ?_;rw[B11 A94 _];cases ds with
 |nil=>refine T0<|A46 gS rfl<|T0<|A52<|vn (j:=0) c! I1 hl ⟨_,gI,rfl,rfl⟩ oI (by simp at ψ;simp[ψ]) λ h1 t1 I2 k1=>?_;refine T0<|B23<|M2 ?_;cases ek;exact⟨.non,H,I2,rfl,k .non H (aG.refl H) j9⟩
 |cons d0 dr=>unfold Z.pickK at ek;let⟨k0,ek0,ek⟩:=WP ek;refine T0<|A46 gS rfl<|T0<|A52<|p6 (j:=0) c! I1 hl ⟨_,gI,rfl,rfl⟩ oI (by simp at ψ;lia) λ u v1 h1 t1 DU IV I2 BG k1=>?_;have g1:=k1 S _ zI gS;let⟨oi,N8,rI⟩:=id BG;let⟨v',xm,dv⟩:=dn.get (i:=0) (d:=d0) rfl;rw[DU]at xm;cases xm;have Cu:St H {s1 with heap:=h1,toks:=t1}:=SY.un H H s1 _ I1 EY (aG.refl H) (SY.off H s1 EY).free λ o e=>k1 f o D3 e;refine T0<|A52<|A39<|uu KO SY I2 (aG.refl H) Cu IV dv ek0 oI oS N8 g1 ⟨fo,k1 f _ D3 N7⟩ λ t3 H3 s3 I3 HJ ID ZV GL _? Wk _'=>?_;refine T0<|B12 Wk rfl ?_;rw[nm];have kp:∀b o,b≠S->s3.heap.get? b=AC o->(s3.heap.update S<|Obj.mapSeq λ _=>#[u,.int k0 t3]).get? b=AC o:=λ b o hb e=>(A62 _ _<|A07 hb).trans e;have I4:=I3.turned (t':=s3.toks) kp GL.free GL.loc (.inr GL.new) GL.cell GL.pin;exact M2 ⟨A81 A94 _,DD c! KO SY zI D3 DZ hl dn (λ H5 s5 u5 v5 I5 C4 Qs Sn=>⟨v5,H5,I5,Qs,k v5 H5 C4 Sn⟩) dr.length 1 0 H3 _ k0 d0 (by simp;lia) rfl ek ⟨I4,HJ,⟨oi,kp _ _ (A07 zI) _?,rI⟩,ZV,GL,u,v1,t3,_,DU,IV,A79 _ Wk rfl⟩ (SY.un H3 H3 s3 _ I3 ID (aG.refl H3) (SY.off H3 s3 ID).free λ o e=>kp f o DZ e)<|let ⟨o,e⟩:=_';⟨o,kp f o DZ e⟩⟩
end
theorem zW(hL:wB X nm)(qm:X.A.in1.depth<recursionLimit)(hg:Gl X x)(hm:X.mg x=At)(hv:bootBuiltins x=AC (.builtin "max"))(ha:DW X a fa)
 (B:yF X.N N' 1 is scope X.env.scope) (LS:N'[0]?=AC y) (he:∀cl f c' s H,DE (DB X N' (jV nm) scope cl f c' s H) body fe)
 (mq:∀q cl pm c' sX u,bindArgs (kla_fn "<lambda>" q params body scope cl pm (.ref c') sX) ⟨[u],[]⟩=pure [(y,u)])
 (zH:defaultsOf params X.env=([],[]):=by rfl) (zG:scope.isGenerator=AT:=by rfl) (Kk:scope.isCoroutine=AT:=by rfl)
 (hc:X.calm=Ch:=by rfl) (hn:x≠ "__name__":=by decide +kernel) (gP:Nd x:=by decide +kernel)
 (RQ:Se a [] X.env:=by rfl) (R7:backTo pos (starEach (a::[]) X.env)=(AT,eval a X.env)::backTo pos (starEach [] X.env):=by rfl) (fA:(backTo pos<|starEach (a::[]) X.env).any (·.1)=AT:=by rfl) :
 DE X (.Call (.Name x p1) [a] [⟨AC<|Str.ofString "key",.Lambda params body scope lp,kp⟩,⟨AC<|Str.ofString "default",.Constant .none jj cp,kp2⟩] pos) (Z.zS Ch (.ok .non) fa is fe):=by
 intro χ s σ H Q I h;let⟨ρ,d,r,e,k⟩:=h;let⟨dx,ea,e⟩:=WP e;let⟨c,P,h1,h2,h3,h4⟩:=hL;split at e
 .rename_i ds;refine A73<|k! I hg hm hv ?_ hn gP;refine callWith_kw ?_ R7 fA;refine da (bL ha cW RQ pos χ s σ H (λ vs H1=>∃v,vs=[v]/\aG H H1/\b_ X.K H1 (.lst ds) v) I ⟨ρ,_,r,ea,λ v H1 s1 d1=>⟨v,rfl,s1,d1⟩⟩) ?_;rintro us s1 ⟨vs,H1,I1,r1,q1⟩;let⟨v,rfl,sm,d1⟩:=q1;let⟨u,rfl,ru⟩:=vals1 r1;have sP:∀y∈scope.names,y.2=.free->∃c,X.env.cells.lookup y.1=AC c:=λ y hy hf=>I1.ok.has y.1<|B.free y hy hf;let⟨cl,kR,jW,vO⟩:=ky sP;refine kws_cons<|da (Bz h1 h2 h3 h4 zH kR I1) ?_;rintro w s2 ⟨f,c',pm,sX,H2,ew,I2,A3,LA⟩;subst ew;refine kws_cons<|Constant_none<|kws_nil ?_;obtain⟨q,vs,rfl,hq,tt⟩:=(d1.up A3).lst;cases ru;have ZA:=(r.up sm).up A3;refine Oc (St:=λ H s=>F? X χ (jV nm) params body scope cl H s f c' pm sX) hc (λ H5 s5 u5 v5 d5 k5 I5 C4 yT Qs Sn ek5=>?_) ⟨λ _ _ st=>st.off,λ H5 H6 s5 s6 I5 yT C4 _M _x=>⟨yT.off.up _M,_x _ yT.obj,C4 _ _ yT.code⟩⟩ I2 LA ⟨_,LA.obj⟩ hq tt e λ v' H' s' d'=>k v' H' ((sm.trans A3).trans s') d';exact BA (x:=y) hc qm B LS zG Kk (λ u=>mq _ _ _ _ _ u) jW vO he yT I5 (ZA.up C4) Qs Sn ek5
 .cases e
theorem Hz(a k:ζ):argsOk "min" ⟨[a],[(Da "key",k)]⟩:=by kernel_rfl
theorem Eo(k:ζ):IR "min" ["key","default"] 0 ⟨[],[(Da "key",k)]⟩=pure [AC k,At]:=by kernel_rfl
section
variable{St:Hp->η->Prop}
theorem Ob(c!:X.calm=Ch)(KO:Cr X χ σ H f St e)(SY:LC X χ σ f St)(Iv:Inv X χ σ H s)(st:St H s)(gf:∃o,s.heap.get? f=AC o)(hl:ka X.K H l vs)(dn:aI X.K H ds vs)(ek:Z.pickK AT .bad e ds=.ok r)
 (k:∀v H',aG H H'->Den X.K H' r v->Q v H'):FM (model X.prog X.w) X.A (call (.builtin "min") [.ref l]<|[(Da "key",.ref f)]) (EP X χ σ Q) X.xe s:=by
 have nm:(toString "min"++toString ".loop")="min.loop":=by decide
 have ψ:=dn.length;let⟨fo,gf⟩:=gf;let⟨bT,rv,pl,hz⟩:=Iv.list hl;refine kmk_tree PySem.F.kind_min PySem.F.plain_min PySem.F.entry_min (Hz _ _) ?_;show FM (model X.prog X.w) X.A.in1 (IR "min" ["key","default"] 0 ⟨[],[(Da "key",.ref f)]⟩>>=_) _ _ s;rw[Eo];refine T0<|M2<|T0<|M2<|T0<|B07 pl.isList ?_;refine T0<|A67 ?_;rw[nm];generalize Ko:s.heap.push {cls:=.type "list_iterator",data:=.fields #[.ref l,.int 0 0]}=HH;have hS:HH.objs.size=s.heap.objs.size+1:=by rw[<-Ko,A48]
 have __:HH.get? s.heap.objs.size=AC {cls:=.type "list_iterator",data:=.fields #[.ref l,.int 0 0]}:=by rw[<-Ko];exact A16 _ rfl
 have Rv:∀b o,s.heap.get? b=AC o->(HH.push {cls:=.type "list",data:=.seq ([]).toArray}).get? b=AC o:=λ b o e=>A02 _ (by rw[<-Ko];exact A02 _ e);have I1:=Iv.kept (t':=s.toks) Rv;have oI:=Off.fresh Iv (v6 _)<|Iv.cy.fresh<|v6 _;have oS:Off X χ H HH.objs.size:=Off.fresh Iv (by rw[hS];exact A61 _)<|Iv.cy.fresh (by rw[hS];exact A61 _);have zI:HH.objs.size≠s.heap.objs.size:=by rw[hS];exact A42<|A58 _
 have D3:=A14<|A03 gf;have DZ:f≠HH.objs.size:=by rw[hS];exact A14<|B53<|A03 gf
 have gS:(HH.push {cls:=.type "list",data:=.seq ([]).toArray}).get? HH.objs.size=AC {cls:=.type "list",data:=.seq ([]).toArray}:=A16 _ rfl;have gI:(HH.push {cls:=.type "list",data:=.seq ([]).toArray}).get? s.heap.objs.size=AC {cls:=.type "list_iterator",data:=.fields #[.ref l,.int 0 0]}:=A02 _ __;have EY:St H {s with heap:=HH.push {cls:=.type "list",data:=.seq ([]).toArray}}:=SY.un H H s _ Iv st (aG.refl H) (SY.off H s st).free λ o e=>Rv f o e;have N7:=Rv f fo gf;generalize hS2:HH.objs.size=S at oS zI DZ gS;generalize hI2:s.heap.objs.size=I at oI zI D3 gI;generalize wJ:({s with heap:=HH.push {cls:=.type "list",data:=.seq ([]).toArray}})=s1 at I1 EY;have e1:HH.push {cls:=.type "list",data:=.seq ([]).toArray}=s1.heap:=by rw[<-wJ]
 rw[e1]at gS gI N7;refine M2 ⟨A81 A95 _,?_⟩;refine B10 C20 ?_;rw[B11 A95 _];cases ds with
 |nil=>cases ek
 |cons d0 dr=>unfold Z.pickK at ek;let⟨k0,ek0,ek⟩:=WP ek;refine T0<|A46 gS rfl<|T0<|A52<|p6 (j:=0) c! I1 hl ⟨_,gI,rfl,rfl⟩ oI (by simp at ψ;lia) λ u v1 h1 t1 DU IV I2 BG k1=>?_;have g1:=k1 S _ zI gS;let⟨oi,N8,rI⟩:=id BG;let⟨v',xm,dv⟩:=dn.get (i:=0) (d:=d0) rfl;rw[DU]at xm;cases xm;have Cu:St H {s1 with heap:=h1,toks:=t1}:=SY.un H H s1 _ I1 EY (aG.refl H) (SY.off H s1 EY).free λ o e=>k1 f o D3 e;refine T0<|A52<|A39<|uu KO SY I2 (aG.refl H) Cu IV dv ek0 oI oS N8 g1 ⟨fo,k1 f _ D3 N7⟩ λ t3 H3 s3 I3 HJ ID ZV GL _? Wk _'=>?_;refine T0<|B12 Wk rfl ?_;rw[nm];have kp:∀b o,b≠S->s3.heap.get? b=AC o->(s3.heap.update S<|Obj.mapSeq λ _=>#[u,.int k0 t3]).get? b=AC o:=λ b o hb e=>(A62 _ _<|A07 hb).trans e;have I4:=I3.turned (t':=s3.toks) kp GL.free GL.loc (.inr GL.new) GL.cell GL.pin;exact M2 ⟨A81 A95 _,DC c! KO SY zI D3 DZ hl dn (λ H5 s5 u5 v5 I5 C4 Qs Sn=>⟨v5,H5,I5,Qs,k v5 H5 C4 Sn⟩) dr.length 1 0 H3 _ k0 d0 (by simp;lia) rfl ek ⟨I4,HJ,⟨oi,kp _ _ (A07 zI) _?,rI⟩,ZV,GL,u,v1,t3,_,DU,IV,A79 _ Wk rfl⟩ (SY.un H3 H3 s3 _ I3 ID (aG.refl H3) (SY.off H3 s3 ID).free λ o e=>kp f o DZ e)<|let ⟨o,e⟩:=_';⟨o,kp f o DZ e⟩⟩
end
theorem zV(hL:wB X nm)(qm:X.A.in1.depth<recursionLimit)(hg:Gl X x)(hm:X.mg x=At)(hv:bootBuiltins x=AC (.builtin "min"))(ha:DW X a fa)
 (B:yF X.N N' 1 is scope X.env.scope) (LS:N'[0]?=AC y) (he:∀cl f c' s H,DE (DB X N' (jV nm) scope cl f c' s H) body fe)
 (mq:∀q cl pm c' sX u,bindArgs (kla_fn "<lambda>" q params body scope cl pm (.ref c') sX) ⟨[u],[]⟩=pure [(y,u)])
 (zH:defaultsOf params X.env=([],[]):=by rfl) (zG:scope.isGenerator=AT:=by rfl) (Kk:scope.isCoroutine=AT:=by rfl)
 (hc:X.calm=Ch:=by rfl) (hn:x≠ "__name__":=by decide +kernel) (gP:(x==("__debug__"))=AT:=by decide +kernel)
 (RQ:Se a [] X.env:=by rfl) (R7:backTo pos (starEach (a::[]) X.env)=(AT,eval a X.env)::backTo pos (starEach [] X.env):=by rfl) (fA:(backTo pos<|starEach (a::[]) X.env).any (·.1)=AT:=by rfl) :
 DE X (.Call (.Name x p1) [a] [⟨AC<|Str.ofString "key",.Lambda params body scope lp,kp⟩] pos) (Z.zS AT .bad fa is fe):=by
 intro χ s σ H Q I h;let⟨ρ,d,r,e,k⟩:=h;let⟨dx,ea,e⟩:=WP e;let⟨c,P,h1,h2,h3,h4⟩:=hL;split at e
 .rename_i ds;refine A73<|k! I hg hm hv ?_ hn gP;refine callWith_kw ?_ R7 fA;refine da (bL ha cW RQ pos χ s σ H (λ vs H1=>∃v,vs=[v]/\aG H H1/\b_ X.K H1 (.lst ds) v) I ⟨ρ,_,r,ea,λ v H1 s1 d1=>⟨v,rfl,s1,d1⟩⟩) ?_;rintro us s1 ⟨vs,H1,I1,r1,q1⟩;let⟨v,rfl,sm,d1⟩:=q1;let⟨u,rfl,ru⟩:=vals1 r1;have sP:∀y∈scope.names,y.2=.free->∃c,X.env.cells.lookup y.1=AC c:=λ y hy hf=>I1.ok.has y.1<|B.free y hy hf;let⟨cl,kR,jW,vO⟩:=ky sP;refine kws_cons<|da (Bz h1 h2 h3 h4 zH kR I1) ?_;rintro w s2 ⟨f,c',pm,sX,H2,ew,I2,A3,LA⟩;subst ew;refine kws_nil ?_;obtain⟨q,vs,rfl,hq,tt⟩:=(d1.up A3).lst;cases ru;have ZA:=(r.up sm).up A3;refine Ob (St:=λ H s=>F? X χ (jV nm) params body scope cl H s f c' pm sX) hc (λ H5 s5 u5 v5 d5 k5 I5 C4 yT Qs Sn ek5=>?_) ⟨λ _ _ st=>st.off,λ H5 H6 s5 s6 I5 yT C4 _M _x=>⟨yT.off.up _M,_x _ yT.obj,C4 _ _ yT.code⟩⟩ I2 LA ⟨_,LA.obj⟩ hq tt e λ v' H' s' d'=>k v' H' ((sm.trans A3).trans s') d';exact BA hc qm B LS zG Kk (λ u=>mq _ _ _ _ _ u) jW vO he yT I5 (ZA.up C4) Qs Sn ek5
 .cases e
theorem A9(r:bR (k+2) A)(env:PySem.Env):bR k (A.in1.deeper env):=(bR.in1 r).deeper env
theorem IZ(r:bR k A):A.in1.depth<recursionLimit:=r.depth
def OX(K:Frag)(mg:Str->ε ζ)(x:Str):Prop:=∃c P,tabIn K x=AC (c,P)/\∀f fd oc od sl,mg x=AC (.ref f)->K.lookup f=AC ⟨oc,od,.func fd,sl⟩->fd.code=.ref c
theorem NB{K:Frag}(X:K.In h)(G:h.Ns mainGlobals mg)(t:tabIn K x=AC (c,P)):OX K mg x:=⟨c,P,t,λ f fd oc od sl hm hl=>law_code X G t hm (X _ _ hl) rfl⟩
def SX(K:Frag)(x:Str)(bh:ζ):Prop:=∃c P,bh=.ref c/\tabIn K x=AC (c,P)
theorem Fu{K:Frag}(h:SX K x cd)(hx:x∈dE):
 wB (dO CX P w K mg base N x scope f cd A outer s H E).gK x:=by
 let⟨c,p,e,t⟩:=h;exact⟨c,p,hx,t,e,rfl⟩
section
variable{K:Db}
theorem aab{st:θ}(F:Cs K x qual st f fd)(S:a! N ps (ai st))
 (hb:∀ A outer s H E,bR k (A.deeper<|envOfC qual (ai st) s.heap.objs.size f fd.code) ->
  L! (dO jd P w K mg base N qual (ai st) f fd.code A outer s H E).gK H (aJ st) b):ee P w K mg base jd (k+1) f fd ps (Ad K<|Z.fn ps.length N.length b):=by
 have ψ:∀vs H Q E,Ad K (Z.fn ps.length N.length b) vs H Q E->vs.length=ps.length:=by
  rintro vs H Q E ⟨ds,d,t,e,_⟩;unfold Z.fn at e;split at e
  .rename_i h;rw[t.length];exact h
  .cases e
 let⟨oc,od,kV,doc,pm,an,bh,ct,um,rfl,lk,m?⟩:=F.ex;refine vU lk m? S ψ λ A outer s H vs Q E hr h=>?_;refine⟨_,s?.gK<|hb A outer s H E hr,?_⟩;have hl:=ψ vs H Q E h;let⟨ds,d,t,e,k⟩:=h;have fA:ps.length<=N.length:=by have:=A10 List.length S.pre;rw[A26]at this;lia
 have rs:RS K H H (L2.start N vs) (Z.start N.length ds):=mV t ∅;unfold Z.fn at e;split at e
 .cases eb:b (Z.start N.length ds)with
  |bad=>rw[eb]at e;cases e
  |ok fl=>
   rw[eb]at e;refine⟨_,fl,rs,eb,?_⟩;cases fl with
   |rt d'=>cases e;exact λ v H' s' dv=>k v H' s' dv
   |nx ρ'=>cases e;exact λ σ' H' _ Cv=>k .non H' Cv.same j9
   |bk ρ'=>cases e
   |ct ρ'=>cases e
 .cases e
theorem aaC{st:θ}(d:Def K mg x st ps)(S:a! N ps (ai st))(L:OX K mg x)
 (hb:∀ f bh A outer s H E,SX K x bh->bR k (A.deeper<|envOfC x (ai st) s.heap.objs.size f bh) ->
  L! (dO jd P w K mg base N x (ai st) f bh A outer s H E).gK H (aJ st) b):i_ P w K mg base x (k+1) ps (Z.fn ps.length N.length b):=by
 let⟨f,fd,F,hm,uw⟩:=d.ex;let⟨c,p,t,hc⟩:=L;have hfd:fd.code=.ref c:=by let⟨oc,od,kV,doc,pm,an,bh,ct,um,e,lk,m?⟩:=F.ex;exact hc f fd _ _ _ hm lk
 exact⟨f,fd,aab F S λ A outer s H E hr=>hb f _ A outer s H E ⟨c,p,hfd,t⟩ hr,hm,F.kp,uw⟩
end
end ZS
namespace ZQ
open L2 PySem.W ZS
theorem zW(hL:wB X nm)(qm:X.A.in1.depth<recursionLimit)(hg:Gl X x)(hm:X.mg x=At)(hv:bootBuiltins x=AC (.builtin "max"))(ha:QW X a fa)
 (B:yF X.N N' 1 is scope X.env.scope) (LS:N'[0]?=AC y) (he:∀cl f c' s H,QE (DB X N' (jV nm) scope cl f c' s H) body fe)
 (mq:∀q cl pm c' sX u,bindArgs (kla_fn "<lambda>" q params body scope cl pm (.ref c') sX) ⟨[u],[]⟩=pure [(y,u)])
 (zH:defaultsOf params X.env=([],[]):=by rfl) (zG:scope.isGenerator=AT:=by rfl) (Kk:scope.isCoroutine=AT:=by rfl)
 (hc:X.calm=Ch:=by rfl) (hn:x≠ "__name__":=by decide +kernel) (gP:Nd x:=by decide +kernel)
 (RQ:Se a [] X.env:=by rfl) (R7:backTo pos (starEach (a::[]) X.env)=(AT,eval a X.env)::backTo pos (starEach [] X.env):=by rfl) (fA:(backTo pos<|starEach (a::[]) X.env).any (·.1)=AT:=by rfl) :
 QE X (.Call (.Name x p1) [a] [⟨AC<|Str.ofString "key",.Lambda params body scope lp,kp⟩,⟨AC<|Str.ofString "default",.Constant .none jj cp,kp2⟩] pos) (Z.zS Ch (.ok .non) fa is fe):=
 ⟨ZS.zW hL qm hg hm hv ha.p B LS (λ cl f c' s H=>(he cl f c' s H).p) mq zH zG Kk hc hn gP RQ R7 fA⟩
theorem zV(hL:wB X nm)(qm:X.A.in1.depth<recursionLimit)(hg:Gl X x)(hm:X.mg x=At)(hv:bootBuiltins x=AC (.builtin "min"))(ha:QW X a fa)
 (B:yF X.N N' 1 is scope X.env.scope) (LS:N'[0]?=AC y) (he:∀cl f c' s H,QE (DB X N' (jV nm) scope cl f c' s H) body fe)
 (mq:∀q cl pm c' sX u,bindArgs (kla_fn "<lambda>" q params body scope cl pm (.ref c') sX) ⟨[u],[]⟩=pure [(y,u)])
 (zH:defaultsOf params X.env=([],[]):=by rfl) (zG:scope.isGenerator=AT:=by rfl) (Kk:scope.isCoroutine=AT:=by rfl)
 (hc:X.calm=Ch:=by rfl) (hn:x≠ "__name__":=by decide +kernel) (gP:(x==("__debug__"))=AT:=by decide +kernel)
 (RQ:Se a [] X.env:=by rfl) (R7:backTo pos (starEach (a::[]) X.env)=(AT,eval a X.env)::backTo pos (starEach [] X.env):=by rfl) (fA:(backTo pos<|starEach (a::[]) X.env).any (·.1)=AT:=by rfl) :
 QE X (.Call (.Name x p1) [a] [⟨AC<|Str.ofString "key",.Lambda params body scope lp,kp⟩] pos) (Z.zS AT .bad fa is fe):=
 ⟨ZS.zV hL qm hg hm hv ha.p B LS (λ cl f c' s H=>(he cl f c' s H).p) mq zH zG Kk hc hn gP RQ R7 fA⟩
theorem PN{K:Db}{st:θ}(d:ZS.Def K mg x st ps)(S:a! N ps (ai st))(L:ZS.OX K mg x)
 (hb:∀ f bh A outer s H E,ZS.SX K x bh->bR k (A.deeper<|envOfC x (ai st) s.heap.objs.size f bh) ->
  Cq (dO jd P w K mg base N x (ai st) f bh A outer s H E).gK H (aJ st) b):ZS.i_ P w K mg base x (k+1) ps (Z.fn ps.length N.length b):=
 ZS.aaC d S L λ f bh A outer s H E hl hr=>(hb f bh A outer s H E hl hr).p
end ZQ
namespace ZS
open L2 PySem.W
def cT(K:Frag)(n:Str)(st:θ):Prop:=∃(f:δ)(od an:ε δ)(sl:Array (ε ζ))(oc kV dc pm cd ct:ζ),nsIn K mainGlobals n=AC (AC<|.ref f)/\K.lookup f=AC ⟨oc,od,.func<|fnOf n n (bM st) (aJ st) (ai st) .none kV dc pm an cd ct,sl⟩/\codeIn K cd n=Ch/\keepIn K (.ref f)=Ch
def qP(K:Frag)(n:Str)(st:θ):Prop:=∃(f t:δ)(od an td:ε δ)(sl ts:Array (ε ζ))(tn:Nat)(oc kV dc pm cd ct tc:ζ),nsIn K mainGlobals n=AC (AC<|.ref f)/\K.lookup f=AC ⟨oc,od,.func<|fnOf n n (bM st) (aJ st) (ai st) (.ref t) kV dc pm an cd ct,sl⟩/\codeIn K cd n=Ch/\keepIn K (.ref f)=Ch/\K.lookup t=AC ⟨tc,td,.seq #[.none] tn,ts⟩
def wD(K:Frag)(n:Str)(st:θ):Prop:=cT K n st/\∃c p,tabIn K n=AC (c,p)
section
variable{K:Frag}{st:θ}
theorem cT.mk'{oc kV dc pm cd ct:ζ}(a:nsIn K mainGlobals n=AC (AC<|.ref f))(l:K.lookup f=AC ⟨oc,od,.func<|fnOf n n (bM st) (aJ st) (ai st) .none kV dc pm an cd ct,sl⟩)(c:codeIn K cd n=Ch)(k:keepIn K (.ref f)=Ch):cT K n st:=⟨f,od,an,sl,oc,kV,dc,pm,cd,ct,a,l,c,k⟩
theorem qP.mk'{oc kV dc pm cd ct tc:ζ}(a:nsIn K mainGlobals n=AC (AC<|.ref f))(l:K.lookup f=AC ⟨oc,od,.func<|fnOf n n (bM st) (aJ st) (ai st) (.ref t) kV dc pm an cd ct,sl⟩)(c:codeIn K cd n=Ch)(k:keepIn K (.ref f)=Ch)(q:K.lookup t=AC ⟨tc,td,.seq #[.none] tn,ts⟩):qP K n st:=⟨f,t,od,an,td,sl,ts,tn,oc,kV,dc,pm,cd,ct,tc,a,l,c,k,q⟩
theorem wD.mk'{oc kV dc pm ct to:ζ}(a:nsIn K mainGlobals n=AC (AC<|.ref f))(l:K.lookup f=AC ⟨oc,od,.func<|fnOf n n (bM st) (aJ st) (ai st) .none kV dc pm an (.ref cc) ct,sl⟩)(c:codeIn K (.ref cc) n=Ch)(k:keepIn K (.ref f)=Ch)(tl:K.lookup cc=AC ⟨to,td,.fields tv,ts⟩)(tp:tv[11]?=AC (.ref pp)):wD K n st:=⟨⟨f,od,an,sl,oc,kV,dc,pm,_,ct,a,l,c,k⟩,cc,pp,uR a l rfl tl tp⟩
theorem cT.df(d:cT K n st)(X:K.In h)(G:h.Ns mainGlobals mg)(hb:∀kV doc pm an bh ct us,us.length=ps.length->bindArgs (fnOf n n (bM st) (aJ st) (ai st) .none kV doc pm an bh ct) ⟨us,[]⟩=pure (ps.zip us):=by intro _ _ _ _ _ _;first|exact ZS.bd1 λ _=>rfl|exact ZS.YH λ _ _=>rfl|exact ZS.bd3 λ _ _ _=>rfl|exact ZS.bd4 λ _ _ _ _=>rfl|exact ZS.bd5 λ _ _ _ _ _=>rfl|exact ZS.bd6 λ _ _ _ _ _ _=>rfl):Def K mg n st ps:=by let⟨f,od,an,sl,oc,kV,dc,pm,cd,ct,a,l,c,k⟩:=d;have F:=rS l c k;exact⟨f,_,F,mg_of X G a,F.binds hb⟩
theorem qP.df(d:qP K n st)(X:K.In h)(G:h.Ns mainGlobals mg)
 (h1:∀t kV doc pm an bh ct us,us.length=ps.length->∃kk,bindArgs (fnOf n n (bM st) (aJ st) (ai st) (.ref t) kV doc pm an bh ct) ⟨us,[]⟩=seqItems? (.ref t)>>=kk/\kk (AC #[.none])=pure (ps.zip us))
 (h2:∀t kV doc pm an bh ct us,us.length+1=ps.length->∃kk,bindArgs (fnOf n n (bM st) (aJ st) (ai st) (.ref t) kV doc pm an bh ct) ⟨us,[]⟩=seqItems? (.ref t)>>=kk/\kk (AC #[.none])=pure (ps.zip<|us++[.none])):HF K mg n st ps:=by
 let⟨f,t,od,an,td,sl,ts,tn,oc,kV,dc,pm,cd,ct,tc,a,l,c,k,q⟩:=d;exact Ov l c k q (mg_of X G a) (h1 t kV dc pm an cd ct)<|h2 t kV dc pm an cd ct
theorem cT.law(d:cT K n st)(X:K.In h)(G:h.Ns mainGlobals mg)(N1:mg n=AC (.ref fa))(hb:∀kV doc pm an bh ct s v,BindsTo s (fnOf n n (bM st) (aJ st) (ai st) .none kV doc pm an bh ct) ⟨[v],[]⟩ [(x,v)]):∃fd,(∀s v,BindsTo s fd ⟨[v],[]⟩ [(x,v)])/\Cs K n n st fa fd:=by let⟨f,od,an,sl,oc,kV,dc,pm,cd,ct,a,l,c,k⟩:=d;have e:=N1.symm.trans<|mg_of X G a;cases e;exact⟨_,hb kV dc pm an cd ct,rS l c k⟩
theorem wD.lam(d:wD K n st)(X:K.In h)(G:h.Ns mainGlobals mg):OX K mg n:=let ⟨c,p,t⟩:=d.2;NB X G t
end
end ZS
namespace ZQ
open L2
def Vx(sc:ς)(x:Str):Bool:=match sc.names.lookup x with
|some .local=>Ch
|some .cell=>Ch
|_=>AT
theorem lo(h:Vx sc x=Ch):Loc sc x:=by
 unfold Vx at h;split at h
 .rename_i e;exact .inl e
 .rename_i e;exact .inr e
 .cases h
end ZQ
namespace ZS
open L2
section
open PySem.SeqAt
open PySem.AutoSeq1 (wpAny_loadPart')
open PySem.MeetsSeq PySem.MeetsSeq2 PySem.MeetsSeq3
end
section
open PySem.SeqAt
open PySem.AutoSeq1 (wpAny_loadPart')
open PySem.MeetsSeq PySem.MeetsSeq2 PySem.MeetsSeq3
end
section
variable{X:Cx}
end
open PySem.W
structure KL0(X:Cx)(χ:List (Addr×Obj))(σ:St)(H:Hp)(l I S:Addr)(s:Shared)(j:Nat)(db:Z.D):Prop where
 inv:Inv X χ σ H s
 it:s.heap.IsListIter I l j
 Dk:Off X χ H I
 rk:Off X χ H S
 best:∃b v c,Den X.K H db v/\RelV v b/\s.heap.get? S=AC (held b b c)
end ZS
namespace ZQ
open L2 ZS
end ZQ
namespace Z
abbrev XN:=γ Nat×γ (γ Nat×D)
abbrev XF:=Env->ε XN
def xE(_:Env):ε XN:=At
def ja(m:γ D->ε XN)(as:AF)(ρ:Env):ε XN:=match as ρ with
|.ok ds=>m ds
|.bad=>At
def jS(a:SF)(xa xb:XF)(ρ:Env):ε XN:=match xa ρ with
|some c=>AC c
|none=>match a ρ with
 |.ok<|.nx ρ'=>xb ρ'
 |_=>At
def CH(t:TF)(a b:XF)(ρ:Env):ε XN:=match t ρ with
|.ok c=>if c then a ρ else b ρ
|.bad=>At
def kh(c:γ Nat)(a:EF)(ρ:Env):ε XN:=match a ρ with
|.ok _=>AC (c,[])
|.bad=>At
def fx(ps n:Nat)(b:XF)(ds:γ D):ε XN:=if ds.length=ps then b (start n ds)else At
theorem Wm(ps n:Nat)(b:XF)(ds:γ D)(h:ds.length=ps):fx ps n b ds=b (start n ds):=f8 h
def o4(i:Nat)(f:γ Nat->ε Bool)(ρ:Env):Res D:=match ρ[i]? with
| some<|some<|.exc c=>(match f c.1 with
 |some b=>.ok<|.bl b
 | none=>.bad)
|_=>.bad
def isx(c0:γ Nat)(b:Bool)(c:γ Nat):ε Bool:=if c=c0 then AC b else At
def Yz(n:Nat)(b:SF)(c:XN):Res D:=match b (AC (.exc c)::Do (n-1) At)with
|.ok<|.rt d=>.ok d
|.ok<|.nx _=>.ok .non
|_=>.bad
def r_(f:XN->Res D)(i:Nat)(ρ:Env):Res D:=match ρ[i]? with
|some<|some<|.exc c=>f c
|_=>.bad
end Z
namespace ZS
open L2 PySem.W
theorem JA(x:fW P w H h a o):∃ob,h.get? a=AC ob:=by
 cases o with
 |lst xs=>let⟨_,_,_,_,e⟩:=x;exact⟨_,e⟩
 |tup xs=>let⟨_,_,_,tn⟩:=x;let⟨ob,e,_⟩:=tn.is;exact⟨_,e⟩
 |dK fT=>let⟨_,_,_,_,o,_,_,e,_⟩:=x;exact⟨_,e⟩
 |dT fT=>let⟨_,_,_,_,o,_,_,e,_⟩:=x;exact⟨_,e⟩
 |set S n=>let⟨o,_,_,_,e,_⟩:=x;exact⟨_,e⟩
 |ins C dx fs=>let⟨_,_,_,e,_⟩:=x;exact⟨_,e⟩
 |own y=>let⟨_,e⟩:=x;exact⟨_,e⟩
 |xd fs=>let⟨_,⟨_,_,_,e,_⟩,_⟩:=x;exact⟨_,e⟩
 |Xy lo hi=>let⟨_,_,_,e⟩:=x;exact⟨_,e⟩
 |eH ob u=>let⟨e,_⟩:=x;exact⟨_,e⟩
 |Iq q=>let⟨_,e,_⟩:=x;exact⟨_,e⟩
 |L9 q=>let⟨_,_,_,_,e1,e2,_⟩:=x;cases e1;exact⟨_,e2⟩
 |met f y=>exact⟨_,(x)⟩
 |ext φ=>let⟨_,⟨_,e⟩,_⟩:=x;exact⟨_,e⟩
section
variable{X:Cx}{χ:γ (δ×μ)}{σ:St}{H H':Hp}{s:η}{h':ν}
theorem EX{ch:γ δ}(I:Inv X χ σ H s)
 (CA:∀b∈ch,X.s₀.heap.get? b=At/\b≠X.env.locals/\(∀x c,X.env.cells.lookup x=AC c->c≠b)/\∀p∈X.pn++χ,p.1≠b)
 (keep:∀b o,b≠X.env.locals->b∉X.fs->b∉ch->s.heap.get? b=AC o->H b=At->h'.get? b=AC o)
 (slot:∀b o,b≠X.env.locals->b∈X.fs->b∉ch->s.heap.get? b=AC o->H b=At->∃sl,h'.get? b=AC {o with slots:=sl}) (free:∀b o,b∉ch->s.heap.get? b=AC o->H b=At->H' b=At)
 (there:∀b o,b∉ch->s.heap.get? b=AC o->∃o',h'.get? b=AC o')
 (tq:∀b xs,H b=AC (.tup xs)->H' b=AC (.tup xs)) (rT:∀b o u,H b=AC (.eH o u)->H' b=AC (.eH o u)) (oj:∀b u,T3 u->H b=AC u->H' b=AC u)
 (ns:∀m,s.heap.Ns X.env.locals m->h'.Ns X.env.locals m) (cy:pj X.prog X.w H' h') (hg:AllBare g') :
 Inv X χ σ H' {s with heap:=h',gens:=g',drawn:=d',toks:=t'}:=by
 have Vi:∀b o,X.s₀.heap.get? b=AC o->b≠X.env.locals:=λ b o e=>A14<|A20 (A03 e) I.ok.above;have JI:∀b o,X.s₀.heap.get? b=AC o->b∉ch:=λ b o e hb=>by rw[(CA b hb).1]at e;cases e
 have cellK:∀x c,X.env.cells.lookup x=AC c->∀v,s.heap.IsCell c v->h'.IsCell c v:=by
  rintro x c e v ⟨o,ho,hd⟩;have Bq:=λ z=>(CA c z).2.2.1 x c e rfl;by_cases hc:c∈X.fs
  .let⟨sl,q⟩:=slot c o (I.Lh x c e) hc Bq ho (I.gx x c e);exact⟨_,q,hd⟩
  .exact⟨o,keep c o (I.Lh x c e) hc Bq ho<|I.gx x c e,hd⟩
 refine⟨I.ok,I.os,hg,⟨λ b o e n hb hx=>?_,λ b o e n hb hx=>?_,λ b o e n hx=>?_,λ b o e hx=>?_,λ b xs e=>tq b xs<|I.base.tq b xs e,λ b o xs e=>rT b o xs<|I.base.rT b o xs e,λ b u p e=>oj b u p<|I.base.oj b u p e⟩,?_,λ x c e=>?_,?_,λ x c e=>?_,λ p hp=>?_,cy,I.len,I.tab.up oj⟩
 .exact keep b o (Vi b o e) hb (JI b o e) (I.base.keep b o e n hb hx)<|I.base.free b o e n hx
 .let⟨sl,e1⟩:=I.base.slot b o e n hb hx;let⟨Zk,e2⟩:=slot b _ (Vi b o e) hb (JI b o e) e1 (I.base.free b o e n hx);exact⟨Zk,e2⟩
 .let⟨o',e1⟩:=I.base.there b o e hx;exact free b o' (JI b o e) e1<|I.base.free b o e n hx
 .let⟨o',e1⟩:=I.base.there b o e hx;exact there b o' (JI b o e) e1
 .let⟨m,hn,hl⟩:=I.loc;refine⟨m,ns m hn,λ i x v e1 e2 e3=>?_⟩;let⟨u,r,l⟩:=hl i x v e1 e2 e3;refine⟨u,r,?_⟩;rcases l with l|⟨k,c,e,z⟩
  .exact .inl l
  .exact .inr ⟨k,c,e,cellK x c e _ z⟩
 .let⟨v,z⟩:=I.cell x c e;exact⟨v,cellK x c e v z⟩
 .let⟨m,⟨o,_,_,ho,_⟩,_⟩:=I.loc;exact free _ o (λ z=>(CA _ z).2.1 rfl) ho I.free
 .let⟨v,o,ho,hd⟩:=I.cell x c e;exact free c o (λ z=>(CA c z).2.2.1 x c e rfl) ho<|I.gx x c e
 .let⟨e,n,ne,nf,d⟩:=I.pin p hp;have Bq:=λ z=>(CA p.1 z).2.2.2 p hp rfl;exact⟨keep p.1 p.2 ne nf Bq e n,free p.1 p.2 Bq e n,ne,nf,d⟩
structure ph(X:Cx)(χ:List (Addr×Obj))(H:Hp)(s:Shared)(a:Addr):Prop where
 free:H a=At
 new:X.s₀.heap.get? a=At
 pin:∀p∈X.pn++χ,p.1≠a
 _b:∃o vs,s.heap.get? a=AC o/\o.data=.fields vs
theorem ph.loc(o:ph X χ H s a)(I:Inv X χ σ H s):a≠X.env.locals:=λ z=>by let⟨ob,vs,e,d⟩:=o._b;let⟨m,⟨o',es,ep,qo,rP,_⟩,_⟩:=I.loc;rw[z,qo]at e;cases e;rw[rP]at d;cases d
theorem ph.cell(o:ph X χ H s a)(I:Inv X χ σ H s)(x:Str)(c:δ)(hc:X.env.cells.lookup x=AC c):c≠a:=λ z=>by let⟨ob,vs,e,d⟩:=o._b;let⟨v,o',qo,rP⟩:=I.cell x c hc;rw[z,e]at qo;cases qo;rw[d]at rP;cases rP
theorem absent(I:Inv X χ σ H s)(h:s.heap.get? a=At):H a=At/\X.s₀.heap.get? a=At\/a∈X.ex:=by
 by_cases hx:a∈X.ex
 .exact .inr hx
 .refine .inl ⟨?_,?_⟩
  .cases e:H a with
   |none=>rfl
   |some u=>let⟨ob,q⟩:=JA (I.cy a u e);rw[h]at q;cases q
  .cases e:X.s₀.heap.get? a with
   |none=>rfl
   |some o=>let⟨o',q⟩:=I.base.there a o e hx;rw[h]at q;cases q
theorem Inv.snap(I:Inv X χ σ H s)(off:∀a∈l,ph X χ H s a)(k1:(hideAll s.heap<|vT X.stack++l).StaysIn h')
 (k4:∀b o,s.heap.get? b=AC o->(∀vs,o.data≠.fields vs)->∃sl,h'.get? b=AC {o with slots:=sl}):Inv X χ σ H {s with heap:=h',toks:=t'}:=by
 have n5:=λ b o n1 n2 e=>k1 b o<|hideAll_get _ e λ z=>(A53.mp z).elim n1 n2;have Qd:∀b u,H b=AC u->b∉vT _/\b∉l:=λ b u e=>⟨λ z=>(by rw[I.uh b z]at e;cases e),λ z=>(by rw[(off b z).free]at e;cases e)⟩
 refine EX I (λ b hb=>⟨(off b hb).new,(off b hb).loc I,(off b hb).cell I,(off b hb).pin⟩) (λ b o hL hf hc e n=>n5 b o (λ z=>(A00.mp<|I.q? b z).elim hL hf) hc e) (λ b o hL hf hc e n=>?_) (λ _ _ _ _ n=>n) (λ b o hc e=>?_) (λ _ _ e=>e) (λ _ _ _ e=>e) (λ _ _ _ e=>e) (λ m hm=>?_) (λ b u e=>?_) I.bare
 .let⟨_,o',qo,rP⟩:=I.lK.mem hf;rw[e]at qo;cases qo;exact k4 b o e rP
 .by_cases hz:b∈vT X.stack
  .let⟨_,o',qo,rP⟩:=I.stack.mem hz;rw[e]at qo;cases qo;let⟨sl,q⟩:=k4 b o e rP;exact⟨_,q⟩
  .exact⟨o,n5 b o hz hc e⟩
 .let⟨o,es,ep,ho,hd,r⟩:=hm;let⟨sl,q⟩:=k4 _ o ho (λ vs z=>by rw[hd]at z;cases z);exact⟨_,es,ep,q,hd,r⟩
 .refine(I.cy b u e).oy (λ c v hc q=>?_) (λ _ q=>q) (λ _ _ q=>q) λ _ _ _ q=>q;rcases hc with rfl|hc
  .exact n5 c v (Qd c u e).1 (Qd c u e).2 q
  .exact n5 c v (Qd c _ hc).1 (Qd c _ hc).2 q
theorem A1(hex:X.ex=[])(I:Inv X χ σ H s)(off:∀a∈l,ph X χ H s a)(k2:h'.FunFrames (hideAll s.heap<|vT X.stack++l) X.stack)
 (hT:(hideAll s.heap<|vT X.stack++l).get? T=At) (hT':h'.get? T=AC oT) (hd:oT.data=.fields ts):H T=At/\X.s₀.heap.get? T=At/\∀p∈X.pn++χ,p.1≠T:=by
 have nst:T∉vT _:=λ z=>by let⟨_,o',qo,rP⟩:=k2.mem z;rw[hT']at qo;cases qo;exact rP ts hd
 by_cases hl:T∈l
 .exact⟨(off T hl).free,(off T hl).new,(off T hl).pin⟩
 .have hn:s.heap.get? T=At:=by
   cases e:s.heap.get? T with
   |none=>rfl
   |some o=>rw[hideAll_get _ e λ z=>(A53.mp z).elim nst hl]at hT;cases hT
  rcases absent I hn with z|z
  .exact⟨z.1,z.2,λ p hp q=>by rw[<-q,(I.pin p hp).1]at hn;cases hn⟩
  .rw[hex]at z;cases z
end
theorem K4{rest:γ PySem.Env}
 (fr:A.frames=AC (env::rest)) (ff:s.heap.FunFrames ground (env::rest)) (el:env.frame=AC L) (ge:s.heap.get? e=AC oe) (st:ground.StaysIn s.heap) (ne:ground.get? e=At) (de:oe.data=.fields fl) (sz:1<fl.size)
 (k:∀ h' T oT ts,ground.StaysIn h'->h'.FunFrames ground (env::rest)->h'.get? e=AC (oe.mapFields (·.setIfInBounds 1<|.ref T))->ground.get? T=At->T≠e->h'.get? T=AC oT->oT.data=.fields ts->3<ts.size ->
  (∀b o,s.heap.get? b=AC o->(∀vs,o.data≠.fields vs)->∃sl,h'.get? b=AC {o with slots:=sl})->Q () {s with heap:=h'}) :
 FM M A (do let a ←frameOf env;let pl ←entryPlaceOf L nx;let b ←EntryCells.newEntry hd0 a .none (rawInt L) .none pl;setField (.ref e) 1 b) Q E s:=by
 have out:e∉(env::rest).filterMap (·.frame):=λ z=>by let⟨_,o,go,no⟩:=ff.mem z;rw[ge]at go;cases go;exact no fl de
 refine T0<|wpAny_frameOf_fun fr ff el λ h1 so=>T0<|wpAny_entryPlaceOf λ pl ip=>?_;unfold EntryCells.newEntry newFields;refine T0<|A67 ?_<|ip.sizeOk5 _ _ _ _ _;generalize _y:({cls:=.type "traceback",dict:=At,data:=.fields ([hd0,.ref L,.none,rawInt L,.none]++(if pl.isEmpty then Do 6 Pi else pl)).toArray}:μ)=new;have WJ:new.data=.fields ([hd0,.ref L,.none,rawInt L,.none]++(if pl.isEmpty then Do 6 Pi else pl)).toArray:=by rw[<-_y]
 have ge1:=(so.2.1 e out).trans ge;have EY:ground.StaysIn h1:=λ b o q=>(so.2.1 b λ z=>by rw[(ff.mem z).1]at q;cases q).trans<|st b o q;have ge2:=A02 (h:=h1) new ge1;refine B62 ge2 de sz ?_;have Te:=A42<|A03 ge1;have d3:=A69 de (·.setIfInBounds 1<|Value.ref h1.objs.size);have ge3:=A79 (Rs (·.setIfInBounds 1<|Value.ref h1.objs.size)) ge2<|B63 d3;have gT:=(A62 (h1.push new) (Rs (·.setIfInBounds 1<|Value.ref h1.objs.size))<|A07 Te).trans<|A16 h1<|B63 WJ;have hold:∀b o,b≠e->h1.get? b=AC o->((h1.push new).update e (Rs (·.setIfInBounds 1<|Value.ref h1.objs.size))).get? b=AC o:=λ b o n q=>by rw[A62 _ _<|A07 n];exact A02 _ q
 have apart:∀b o,s.heap.get? b=AC o->(∀vs,o.data≠.fields vs)->b≠e:=λ b o q n z=>by rw[z,ge]at q;cases q;exact n fl de
 refine k _ h1.objs.size new _ (λ b o q=>hold b o (λ z=>by rw[z,ne]at q;cases q)<|EY b o q) (ff.of_keeps λ b o q n=>?_) ge3 EY.fresh Te gT WJ (by simp only[A09,A55,A38,AB9];lia) λ b o q n=>?_
 .let⟨sl,z⟩:=so.2.2 b o q;exact⟨_,hold b _ (apart b o q n) z,rfl⟩
 .let⟨sl,z⟩:=so.2.2 b o q;exact⟨sl,hold b _ (apart b o q n) z⟩
theorem l_(o:μ)(f:Array ζ->Array ζ):(o.mapFields f).dict=o.dict:=by let⟨_,_,d,_⟩:=o;cases d<;>rfl
structure OO(X:Cx)(χ:List (Addr×Obj))(H:Hp)(s:Shared)(e C:Addr)(dd:Option Addr):Prop where
 off:ph X χ H s e
 ex:∃oe vs,s.heap.get? e=AC oe/\oe.cls=.ref C/\oe.dict=dd/\oe.data=.fields vs/\(vs[1]?=AC .none\/∃T oT ts,vs[1]?=AC (.ref T)/\T≠e/\ph X χ H s T/\s.heap.get? T=AC oT/\oT.data=.fields ts/\ts[3]?=AC .none)
def aaS(h0:ν)(H':Hp)(h':ν)(e C:δ)(dd:ε δ):Prop:=h0.get? e=At/\H' e=At/\∃oe vs T oT ts,h'.get? e=AC oe/\oe.cls=.ref C/\oe.dict=dd/\oe.data=.fields vs/\vs[1]?=AC (.ref T)/\T≠e/\H' T=At/\h0.get? T=At/\h'.get? T=AC oT/\oT.data=.fields ts/\ts[3]?=AC .none
def wI(P:ο)(w:ξ):S5:=λ outer H s E ev s'=>∃e C dd H',ev=.ref e/\s'.os=s.os/\AllBare s'.gens/\Un (vT outer) [] H H' s.heap s'.heap/\pj P w H' s'.heap/\aaS s.heap H' s'.heap e C dd/\E (.ref C) dd H'
theorem IB:∀env∈l,∀a,env.frame=AC a->a∈vT l++as:=λ env he a ha=>A98 _<|B83.mpr ⟨env,he,ha⟩
section
variable{X:Cx}{χ:γ (δ×μ)}{σ:St}{H:Hp}{s:η}
structure T5(X:Cx)(χ:List (Addr×Obj))(σ:St)(H:Hp)(s:Shared)(e C:Addr)(dd:Option Addr)(lands:Bool):Prop where
 inv:Inv X χ σ H s
 off:ph X χ H s e
 ex:∃oe vs T oT ts,s.heap.get? e=AC oe/\oe.cls=.ref C/\oe.dict=dd/\oe.data=.fields vs/\vs[1]?=AC (.ref T)/\T≠e/\ph X χ H s T/\s.heap.get? T=AC oT/\oT.data=.fields ts/\3<ts.size/\(lands=Ch->ts[3]?=AC .none)
theorem Bo(hex:X.ex=[])(vL:X.stack=X.env::X.outer)(LX:X.env.frame=AC X.env.locals)(I:Inv X χ σ H s)(t:OO X χ H s e C dd)
 (k:∀s',T5 X χ σ H s' e C dd AT->Q () s'):FM M X.A (noteFrame (.ref e) X.env) Q E s:=by
 let⟨oe,vs,he,kR,Cz,hd,h1⟩:=t.ex;have hfr:X.A.frames=AC (X.env::X.outer):=by rw[<-vL];exact I.ok.frames
 have IC:=I.stack;rw[vL]at IC;unfold noteFrame;simp only[LX];rcases h1 with h1|⟨T,oT,ts,h1,Wg,LO,gT,dT,h3⟩
 .have off:∀a∈[e],ph X χ H s a:=λ a ha=>by rw[A22.mp ha];exact t.off
  refine T0<|A34 he hd h1 ?_;rw[P3 ∅];refine K4 hfr (funFrames_hide IC IB) LX he (λ b o=>of_hideAll _) (B70 _<|A43 _<|A22.mpr rfl) hd (B36.mp h1).1 λ h' T' LO S8 k1 k2 g1 g2 g3 g4 g5 g6 k4=>k _ ?_;rw[<-vL]at k1 k2 g2;have J:=Inv.snap (t':=s.toks) I off k1 k4;let⟨n1,n2,n3⟩:=A1 hex I off k2 g2 g4 g5;have sz:=(B36.mp h1).1;exact⟨J,⟨t.off.free,t.off.new,t.off.pin,_,_,g1,A69 hd _⟩,_,_,T',LO,S8,g1,(C10 _ _).trans kR,(l_ _ _).trans Cz,A69 hd _,by simp[sz],g3,⟨n1,n2,n3,LO,S8,g4,g5⟩,g4,g5,g6,λ z=>nomatch z⟩
 .have off:∀a∈[e,T],ph X χ H s a:=λ a ha=>by
   rcases A00.mp ha with rfl|ha
   .exact t.off
   .rw[A22.mp ha];exact LO
  refine T0<|A34 he hd h1 ?_;rw[f8 ∅];refine T0<|A34 gT dT h3 ?_;rw[P3 (by simp[rawInt])];refine T0<|B62 gT dT (B36.mp h3).1 ?_;have other:∀b,b≠T->(s.heap.update T (Rs (·.setIfInBounds 3 Pi))).get? b=s.heap.get? b:=λ b hb=>A62 _ _<|A07 hb;have apart:∀b o,s.heap.get? b=AC o->(∀vs,o.data≠.fields vs)->b≠T:=λ b o q n z=>by rw[z,gT]at q;cases q;exact n ts dT
  have inT:T∈vT (X.env::X.outer)++[e,T]:=A43 _ ∅;refine K4 hfr ((funFrames_hide IC IB).of_keeps λ b o q n=>⟨o,(other b<|apart b o q n).trans q,rfl⟩) LX ((other e<|A07 Wg).trans he)
   (λ b o q=>(other b λ z=>by rw[z,B70 _ inT]at q;cases q).trans<|of_hideAll _ q) (B70 _<|A43 _ ∅) hd (B36.mp h1).1 λ h' T' oT2 S8 k1 k2 g1 g2 g3 g4 g5 g6 k4=>k _ ?_
  rw[<-vL]at k1 k2 g2;have J:=Inv.snap (t':=s.toks) I off k1 λ b o q n=>k4 b o ((other b<|apart b o q n).trans q) n;let⟨n1,n2,n3⟩:=A1 hex I off k2 g2 g4 g5;have sz:=(B36.mp h1).1;exact⟨J,⟨t.off.free,t.off.new,t.off.pin,_,_,g1,A69 hd _⟩,_,_,T',oT2,S8,g1,(C10 _ _).trans kR,(l_ _ _).trans Cz,A69 hd _,by simp[sz],g3,⟨n1,n2,n3,oT2,S8,g4,g5⟩,g4,g5,g6,λ z=>nomatch z⟩
theorem land(c:T5 X χ σ H s e C dd l)(k:∀s',T5 X χ σ H s' e C dd Ch->Q () s'):FM M A (setFlight (.ref e) At) Q E s:=by
 let⟨oe,vs,T,oT,ts,he,kR,Cz,hd,h1,Wg,LO,gT,dT,h3,_⟩:=c.ex;refine wpAny_setFlight_none he hd h1 gT dT h3<|k _ ?_;have other:∀b o,b≠T->s.heap.get? b=AC o->(s.heap.update T (Rs (·.setIfInBounds 3 .none))).get? b=AC o:=λ b o hb q=>(A62 _ _<|A07 hb).trans q;have gT2:=A79 (Rs (·.setIfInBounds 3 Pi)) gT<|B63<|A69 dT _;have off:∀a∈[T],ph X χ H s a:=λ a ha=>by rw[A22.mp ha];exact LO
 have J:=Inv.snap (t':=s.toks) c.inv off (λ b o q=>by
  by_cases hb:b=T
  .rw[hb,B70 _<|A43 _<|A22.mpr rfl]at q;cases q
  .exact other b o hb<|of_hideAll _ q) λ b o q n=>⟨_,other b o (λ z=>by rw[z,gT]at q;cases q;exact n ts dT) q⟩
 have LY:=other e oe (A07 Wg) he;exact⟨J,⟨c.off.free,c.off.new,c.off.pin,oe,vs,LY,hd⟩,oe,vs,T,_,_,LY,kR,Cz,hd,h1,Wg,⟨LO.free,LO.new,LO.pin,_,_,gT2,A69 dT _⟩,gT2,A69 dT _,by simpa using h3,λ _=>by simp[h3]⟩
end
theorem ya{K:Db}
 (I:Inv (dO (wI P w) P w K mg base N qual scope f cd A outer s0 H0 E) χ σ H s) (t:OO (dO (wI P w) P w K mg base N qual scope f cd A outer s0 H0 E) χ H s e C dd) (hE:E (.ref C) dd H) :
 (dO (wI P w) P w K mg base N qual scope f cd A outer s0 H0 E).xe (.ref e) s:=by
 show FM _ (dO (wI P w) P w K mg base N qual scope f cd A outer s0 H0 E).A _ (λ _ S_=>wI P w outer H0 s0 E _ S_) _ s;refine T0<|Bo rfl rfl rfl I t λ s1 c1=>land c1 λ s2 c2=>?_;let⟨oe,vs,T,oT,ts,q1,q2,qd,q3,q4,q5,q6,q7,q8,q9,ZI⟩:=c2.ex;exact⟨e,C,dd,H,rfl,c2.inv.os,c2.inv.bare,c2.inv.base,c2.inv.cy,⟨c2.off.new,c2.off.free,oe,vs,T,oT,ts,q1,q2,qd,q3,q4,q5,q6.free,q6.new,q7,q8,ZI rfl⟩,hE⟩
theorem Ip(hex:X.ex=[])(I:Inv X χ σ H s)(c:wI X.prog X.w X.stack H s E ev s'):
 ∃e C dd H',ev=.ref e/\Inv X χ σ H' s'/\OO X χ H' s' e C dd/\E (.ref C) dd H':=by
 let⟨e,C,dd,H',rfl,os,bare,un,cy,⟨ne,fe,oe,vs,T,oT,ts,q1,q2,qd,q3,q4,q5,q6,q7,q8,q9,ZI⟩,hE⟩:=c;have J:=I.Lk os un cy bare λ b hb=>absurd hb ∅;have ab:∀a,s.heap.get? a=At->X.s₀.heap.get? a=At/\∀p∈X.pn++χ,p.1≠a:=λ a h=>by
  rcases absent I h with z|z
  .exact⟨z.2,λ p hp q=>by rw[<-q,(I.pin p hp).1]at h;cases h⟩
  .rw[hex]at z;cases z
 exact⟨e,C,dd,H',rfl,J,⟨⟨fe,(ab e ne).1,(ab e ne).2,oe,vs,q1,q3⟩,oe,vs,q1,q2,qd,q3,.inr ⟨T,oT,ts,q4,q5,⟨q6,(ab T q7).1,(ab T q7).2,oT,ts,q8,q9⟩,q8,q9,ZI⟩⟩,hE⟩
theorem EN(hex:X.ex=[])(I:Inv X χ σ H s)(hm:bv s.heap h' e (.ref C) vs):
 Inv X χ σ H {s with heap:=h'}/\OO X χ H {s with heap:=h'} e C At:=by
 have J:=I.kept (t':=s.toks) hm.keeps;let⟨t,ht,_,_⟩:=hm.there;refine⟨J,?_⟩;rcases absent I hm.new with z|z
 .exact⟨⟨z.1,z.2,λ p hp q=>(by have:=(I.pin p hp).1;rw[q,hm.new]at this;cases this),_,_,ht,rfl⟩,_,_,ht,rfl,rfl,rfl,.inl rfl⟩
 .rw[hex]at z;cases z
theorem PA.gK(h:PA X.gK es t):PA X es t:=λ pos χ s σ H Q I hw=>A21 (h pos χ s σ H Q (I.wish _) hw) (by rintro _ _ ⟨vs,H',I',r,q⟩;exact⟨vs,H',I'.h_,r,q⟩) λ _ _ z=>GE z
theorem PS.gK{st:θ}(h:PS X.gK st t):PS X st t:=λ χ s σ H D I hw=>A21 (h χ s σ H D (I.wish _) hw) (λ _ _ q=>q.h_) λ _ _ z=>GE z
def W7(X:Cx)(σ:St)(H:Hp)(c:Z.XN):Prop:=∀χ H' s e C dd,aG H H'->nK X.K H' c C dd->Inv X χ σ H' s->OO X χ H' s e C dd->X.xe (.ref e) s
def Xw(X:Cx)(H0:Hp)(c:Z.XN):Prop:=∀χ σ H' s e C dd,aG H0 H'->nK X.K H' c C dd->Inv X χ σ H' s->OO X χ H' s e C dd->X.xe (.ref e) s
theorem W7.up(h:W7 X σ H c)(e:aG H H'):W7 X σ H' c:=λ χ H2 s a C dd sm=>h χ H2 s a C dd<|e.trans sm
def xR(X:Cx)(f:Z.XF)(σ:St)(H:Hp):Prop:=∃ρ c,RE X.K H σ ρ/\f ρ=AC c/\W7 X σ H c
abbrev XE(X:Cx)(e:ι)(f:Z.XF):Prop:=PE X e λ σ H _=>xR X f σ H
structure _root_.ZQ.YO(X:Cx)(e:Expr)(f:Z.XF):Prop where p:XE X e f
abbrev XA(X:Cx)(es:γ ι)(f:Z.XF):Prop:=PA X es λ σ H _=>xR X f σ H
structure _root_.ZQ.QXA(X:Cx)(es:List Expr)(f:Z.XF):Prop where p:XA X es f
abbrev XT(X:Cx)(e:ι)(f:Z.XF):Prop:=PT X e λ σ H _=>xR X f σ H
structure _root_.ZQ.QXT(X:Cx)(e:Expr)(f:Z.XF):Prop where p:XT X e f
abbrev XR(X:Cx)(st:θ)(f:Z.XF):Prop:=PS X st λ _ σ H=>xR X f σ H
structure _root_.ZQ.QXR(X:Cx)(st:Stmt)(f:Z.XF):Prop where p:XR X st f
abbrev XRs(X:Cx)(Ac:γ θ)(f:Z.XF):Prop:=s? X Ac λ _ σ H=>xR X f σ H
structure _root_.ZQ.W9(X:Cx)(Ac:List Stmt)(f:Z.XF):Prop where p:XRs X Ac f
def xS(X:Cx)(H0:Hp)(f:Z.XF)(σ:St)(H:Hp):Prop:=∃ρ c,RS X.K H0 H σ ρ/\f ρ=AC c/\Xw X H0 c
abbrev XS(X:Cx)(H0:Hp)(st:θ)(f:Z.XF):Prop:=PS X st λ _ σ H=>xS X H0 f σ H
structure _root_.ZQ.SV(X:Cx)(H0:Hp)(st:Stmt)(f:Z.XF):Prop where p:XS X H0 st f
abbrev TY(X:Cx)(H0:Hp)(Ac:γ θ)(f:Z.XF):Prop:=s? X Ac λ _ σ H=>xS X H0 f σ H
structure _root_.ZQ.z!(X:Cx)(H0:Hp)(Ac:List Stmt)(f:Z.XF):Prop where p:TY X H0 Ac f
theorem xS.r(h:xS X H0 f σ H):xR X f σ H:=by let⟨ρ,c,rs,e,k⟩:=h;exact⟨ρ,c,rs.re,e,λ χ H' s a C dd sm=>k χ σ H' s a C dd<|rs.same.trans sm⟩
def aa2(C:δ)(h:ν):Prop:=∃(tl:γ ζ)(ns:δ)(nm qn:Str)(bs:γ ζ)(hd:Bool)(sn:γ Str)(sub:γ ζ)(ab:Bool)(col:ε Bool)(dd:ε δ)(s0 s1 s2 s3 s5:ε ζ),
 h.get? C=AC (excClassObj nm qn C ns bs tl hd sn sub ab col dd s0 s1 s2 s3 s5 "ValueError.__new__")/\tl.contains (.type "BaseException")=Ch
theorem aaA{K:Fk}(X:K.In h)(xc:XC K c C):aa2 C h:=by
 have q:=xc.2;unfold Ar at q;split at q
 .rename_i dd cd sl ho;split at q
  .rename_i C' tl s0 s1 s2 s3 id s5 e1 e2;simp only[A35,A29,C21]at q;let⟨⟨⟨rfl,rfl⟩,r1⟩,r2⟩:=q;cases cd;dsimp only at e1 r1;subst e1 r1;obtain rfl:sl=#[s0,s1,s2,s3,AC (.builtin "ValueError.__new__"),s5]:=by cases sl;simp only at e2;rw[e2]
   exact⟨tl,_,_,_,_,_,_,_,_,_,dd,s0,s1,s2,s3,s5,X _ _ ho,r2⟩
  .cases q
 .cases q
def aa3(C:δ)(h:ν):Prop:=∃(tl:γ ζ)(ns:δ)(nm qn:Str)(bs:γ ζ)(hd:Bool)(sn:γ Str)(sub:γ ζ)(ab:Bool)(col:ε Bool)(dd:ε δ)(s0 s1 s2 s3 s5:ε ζ)(mN:Str->ε ζ),
 h.get? C=AC (excClassObj nm qn C ns bs tl hd sn sub ab col dd s0 s1 s2 s3 s5 "ValueError.__new__")/\h.Ns ns mN/\mN "__init__"=At/\OwnTail h [.type "ValueError",.type "Exception",.type "BaseException",.type "object"] tl
theorem aaB{K:Fk}(X:K.In h)(q:excIn K C [.type "ValueError",.type "Exception",.type "BaseException",.type "object"] "ValueError.__new__"=Ch):aa3 C h:=by
 unfold excIn at q;split at q
 .rename_i dd cd sl ho;split at q
  .rename_i C' tl s0 s1 s2 s3 id s5 e1 e2;simp only[A35,A29,C21]at q;let⟨⟨⟨⟨⟨rfl,rfl⟩,r1⟩,r2⟩,r3⟩,r4⟩:=q;cases cd;dsimp only at e1 r1 r3 r4;subst e1 r1;obtain rfl:sl=#[s0,s1,s2,s3,AC (.builtin "ValueError.__new__"),s5]:=by cases sl;simp only at e2;rw[e2]
   exact⟨tl,_,_,_,_,_,_,_,_,_,dd,s0,s1,s2,s3,s5,_,X _ _ ho,.of_isNs<|isNs_of_in X r3,nsMap_none_of_in X r3 r4,tail_of_in X r2⟩
  .cases q
 .cases q
def Xo(K:Db)(m:γ Z.D->ε Z.XN):Sp:=λ vs H _ E=>∃ds c,aI K H ds vs/\m ds=AC c/\∀C dd H',aG H H'->nK K H' c C dd->E (.ref C) dd H'
structure wF(P:Program)(w:World)(K:Db)(mg:Str->Option Value)(base:Heap)(x:Str)(k:Nat)(ps:List Str)(m:List Z.D->Option Z.XN):Prop where
 ex:∃g fd,ee P w K mg base (wI P w) k g fd ps (Xo K m)/\mg x=AC (.ref g)/\FS K (.ref g)=Ch/\Binds K fd ps []
theorem _root_.ZQ.EH(C:wF X.prog X.w X.K X.mg X.base x k ps m)(hr:bR k X.A)(hg:Gl X x)
 (ha:ZQ.QA X.gK (e::es) ar) (hex:X.ex=[]:=by rfl) (gP:(x==("__debug__"))=AT:=by decide +kernel) (he:Se e es X.env:=by rfl) (fA:Pn pos es X.env:=by rfl) :
 ZQ.YO X (.Call (.Name x p1) (e::es) [] pos) (Z.ja m ar):=⟨by
 let⟨g,fd,F,hm,hk,hb⟩:=C.ex;intro χ s σ H Q I h;let⟨ρ,c,re,ec,kw⟩:=h;unfold Z.ja at ec;split at ec
 .rename_i ds ed;refine A73<|k9 I hg hm ?_ gP;refine A83 I.ok.mod.HN hk (da (PA.gK ha.p pos χ s σ H (λ vs H1=>aG H H1/\aI X.K H1 ds vs) I ⟨ρ,ds,re,ed,λ vs H1 s1 d1=>⟨s1,d1⟩⟩) λ us s1 ⟨vs,H1,I1,r,sm,d1⟩=>⟨I1.kB,?_⟩) he fA;have Cy:Xo X.K m vs H1 (λ _ _=>False) (λ cv dd H'=>∃C,cv=.ref C/\nK X.K H' c C dd/\aG H1 H'):=⟨ds,c,d1,ec,λ C' dd H' s2 x2=>⟨C',rfl,x2,s2⟩⟩
  have hl:=F.len _ _ _ _ Cy;refine A60<|A72 (F.run X.A X.stack s1 H1 ⟨us,[]⟩ us vs _ _ hr I1.Hj (by have:=hb s1 us I1.kB (by rw[A54,<-r.length];exact hl);simpa using this) r Cy) λ rr s' hq=>?_;cases rr with
  |ok fl=>
   cases fl with
   |ret u=>let⟨v,H2,_,_,_,_,_,q⟩:=hq;exact q.elim
   |_=>exact hq.elim
  |error ev=>have hq:wI X.prog X.w X.stack H1 s1 (λ cv dd H'=>∃C,cv=.ref C/\nK X.K H' c C dd/\aG H1 H') ev s':=hq;let⟨a,C',dd,H',rfl,J,th,C2,hc,x2,s2⟩:=Ip hex I1 hq;cases hc;exact kw χ H' s' a C' dd (sm.trans s2) x2 J th
 .cases ec⟩
section
variable{st:θ}
theorem _root_.ZQ.Ia{i:Nat}(hN:X.N.Nodup)(hi:X.N[i]?=AC x)(hx:Loc X.env.scope x)(h:ZQ.YO X a f)(hs:swapsWith a (AC<|.Name x pos') pos.line X.env=pure AT:=by rfl)(hf:Fl X x:=by trivial):ZQ.SV X H0 (.Assign [.Name x pos'] a pos) f:=
 ⟨PS.imp (y! hN hi hx h.p hs hf) λ D σ H q=>q.r⟩
theorem _root_.ZQ.Ma(h:ZQ.YO X a f)(hs:swapsWith a At pos.line X.env=pure AT:=by rfl):ZQ.QXR X (.Expr a pos) f:=⟨uk h.p hs⟩
theorem _root_.ZQ.An(hc:ZQ.QT X.gK c t)(h1:ZQ.z! X H0 b1 xa)(h2:ZQ.z! X H0 b2 xb):ZQ.SV X H0 (.If c b1 b2 pos) (Z.CH t xa xb):=⟨PS.imp (Jg (PT.gK hc.p) h1.p h2.p) <|by
 rintro D σ H ⟨ρ,c,rs,ec,kw⟩;unfold Z.CH at ec;split at ec
 .rename_i b eb;refine⟨ρ,b,rs.re,eb,λ H1 s1=>?_⟩;cases b with
  |true=>exact⟨ρ,c,rs.up s1,by simpa using ec,kw⟩
  |false=>exact⟨ρ,c,rs.up s1,by simpa using ec,kw⟩
 .cases ec⟩
theorem _root_.ZQ.Ib:ZQ.SV X H0 st Z.xE:=⟨by rintro _ _ _ _ _ _ ⟨_,_,_,e,_⟩;exact nomatch e⟩
theorem _root_.ZQ.lQ:ZQ.z! X H0 Ac Z.xE:=⟨by rintro _ _ _ _ _ _ ⟨_,_,_,e,_⟩;exact nomatch e⟩
theorem _root_.ZQ.pq(h:ZQ.SV X H0 st f):ZQ.z! X H0 [st] f:=⟨mY h.p⟩
theorem _root_.ZQ.L_(h:ZQ.QXR X st f):ZQ.W9 X [st] f:=⟨mY h.p⟩
theorem _root_.ZQ.fQ(h1:ZQ.QS X.gK H0 st g)(x1:ZQ.SV X H0 st xa)(x2:ZQ.z! X H0 Ac xb):ZQ.z! X H0 (st::Ac) (Z.jS g xa xb):=⟨by
 have h1:=h1.p;have x2:=x2.p;intro χ s σ H D I h;let⟨ρ,c,rs,ec,kw⟩:=h;unfold Z.jS at ec;split at ec
 .rename_i c' e1;cases ec;exact kI x1.p x2 χ s σ H D I ⟨ρ,c,rs,e1,kw⟩
 .split at ec
  .rename_i ρ' e2;refine kI (PS.gK h1) x2 χ s σ H D I ⟨ρ,_,rs,e2,λ σ' H' _ Cv=>⟨ρ',c,Cv,ec,kw⟩⟩
  .cases ec⟩
theorem _root_.ZQ.Am(hc:X.calm=Ch)(hex:X.ex=[])(hg:Gl X x)(_U:(⟨c.toArray⟩)=x)(xc:XC X.K c C)(xi:excIn X.K C [.type "ValueError",.type "Exception",.type "BaseException",.type "object"] "ValueError.__new__"=Ch)(ha:ZQ.QE X.gK a fa)
 (gP:(x==("__debug__"))=AT:=by decide +kernel) (he:Se a [] X.env:=by rfl) (fA:(backTo nG<|starEach (a::[]) X.env).any (·.1)=AT:=by rfl) :
 ZQ.SV X H0 (.Raise (AC<|.Call (.Name x np) [a] [] nG) At pos) (Z.kh c fa):=⟨by
 intro χ s σ H D I h;let⟨ρ,c',rs,ec,kw⟩:=h;unfold Z.kh at ec;split at ec
 .rename_i d ed;cases ec;have hm:X.mg x=AC (.ref C):=by have:=A15 I.kB (I.mod.glob.keeps I.bk) xc.1;rw[_U]at this;exact this
  let⟨tl,ns,nm,qn,bs,hd,sn,sub,ab,col,dd,s0,s1,s2,s3,s5,mN,hC,hN,hni,T⟩:=aaB I.mod.HN xi;refine wpAny_Raise_call_subT (nm:=nm) (q:=qn) (N:=ns) (bs:=bs) (bm:=tl) (hdct:=hd) (sn:=sn) (sub:=sub) (ab:=ab) (col:=col) (dd:=dd) (k0:=s0) (k1:=s1) (k2:=s2) (k3:=s3) (k5:=s5)
   F.excBase_ValueError (mN:=mN) (T.hasType F.excBase_ValueError.hasBase) (I.ok.hd hc) fA hni<|k9 I hg hm ⟨rfl,?_⟩ gP
  have P:=bL (PE.gK ha.p) cW he nG χ s σ H (λ vs H1=>aG H H1/\vs.length=1) I ⟨ρ,d,rs.re,ed,λ v H1 s1 d1=>⟨s1,rfl⟩⟩;rw[he]at P ⊢;refine Calls.evalArgs_plain<|A21 P (λ us s1 ⟨vs,H1,I1,r,sm,hl⟩=>⟨rfl,?_,I1.bk _ _ hC,hN.keeps I1.bk,T.keeps I1.bk,λ h' ex hmk=>?_⟩) λ _ _ z=>z
  .skip
   rw[<-r.length,hl,A33];decide
  .let⟨J,th⟩:=EN hex I1 hmk;exact kw χ σ H1 _ ex C At (rs.same.trans sm) ⟨xc,rfl⟩ J th
 .cases ec⟩
end
section
variable{K:Db}
theorem fnX{st:θ}{dV kV doc pm bh ct oc:ζ}
 (lk:K.lookup f=AC ⟨oc,od,.func<|PySem.W.fnOf name qual (bM st) (aJ st) (ai st) dV kV doc pm an bh ct,um⟩) (m?:No K bh qual=Ch) (S:a! N ps (ai st))
 (hb:∀ A outer s H E,bR k (A.deeper<|envOfC qual (ai st) s.heap.objs.size f bh) ->
  TY (dO (wI P w) P w K mg base N qual (ai st) f bh A outer s H E) H (aJ st) xb):ee P w K mg base (wI P w) (k+1) f (KT name qual (bM st) (aJ st) (ai st) dV kV doc pm an bh ct) ps (Xo K<|Z.fx ps.length N.length xb):=by
 have ψ:∀vs H Q E,Xo K (Z.fx ps.length N.length xb) vs H Q E->vs.length=ps.length:=by
  rintro vs H Q E ⟨ds,d,t,e,_⟩;unfold Z.fx at e;split at e
  .rename_i h;rw[t.length];exact h
  .cases e
 refine vU lk m? S ψ λ A outer s H vs Q E hr h=>?_;refine⟨_,hb A outer s H E hr,?_⟩;have hl:=ψ vs H Q E h;let⟨ds,c,t,e,k⟩:=h;have fA:ps.length<=N.length:=by have:=A10 List.length S.pre;rw[A26]at this;lia
 have rs:RS K H H (L2.start N vs) (Z.start N.length ds):=mV t ∅;unfold Z.fx at e;split at e
 .exact⟨_,c,rs,e,λ χ σ H' s' a C dd sm xc I th=>ya I th<|k C dd H' sm xc⟩
 .cases e
theorem wF.mk'{st:θ}(d:Def K mg x st ps)(S:a! N ps (ai st))
 (hb:∀ f bh A outer s H E,bR k (A.deeper<|envOfC x (ai st) s.heap.objs.size f bh) ->
  TY (dO (wI P w) P w K mg base N x (ai st) f bh A outer s H E) H (aJ st) xb):wF P w K mg base x (k+1) ps (Z.fx ps.length N.length xb):=by
 let⟨f,fd,F,hm,uw⟩:=d.ex;have kp:=F.kp;let⟨oc,od,kV,doc,pm,an,bh,ct,um,rfl,lk,m?⟩:=F.ex;exact⟨f,_,fnX lk m? S<|hb f bh,hm,kp,uw⟩
theorem wF.mkD{st:θ}(d:HF K mg x st ps)(S:a! N ps (ai st))
 (hb:∀ f bh A outer s H E,bR k (A.deeper<|envOfC x (ai st) s.heap.objs.size f bh) ->
  TY (dO (wI P w) P w K mg base N x (ai st) f bh A outer s H E) H (aJ st) xb):wF P w K mg base x (k+1) ps (Z.fx ps.length N.length xb):=by
 let⟨f,fd,F,hm,uw,_⟩:=d.ex;have kp:=F.kp;let⟨t,oc,od,kV,doc,pm,an,bh,ct,um,rfl,lk,m?⟩:=F.ex;exact⟨f,_,fnX lk m? S<|hb f bh,hm,kp,uw⟩
end
theorem RS.Uu{K:Fk}(h:RS K H0 H σ ρ)(hd:RL K H (.exc c) v):RS K H0 H (σ.set i<|some v) (ρ.set i<|some<|.exc c):=by
 have getσ:∀j,i≠j->(σ.set i<|some v)[j]?=σ[j]?:=λ j hj=>A28 hj;refine⟨h.same,⟨by simp[h.re.len],λ j l e=>?_,λ j k xs ys q e1 e2 e3 e4=>?_⟩,λ j xs q e1 e2=>?_,λ j xs e1=>?_,h.yj.set λ _ z=>nomatch z⟩
 .rcases aK e with⟨rfl,hl,e⟩|⟨hj,e⟩
  .cases e;exact⟨v,A41 (by rw[<-h.re.len];exact hl),hd⟩
  .rw[getσ j hj];exact h.re.get j l e
 .rcases aK e1 with⟨_,_,e⟩|⟨hj,e1⟩
  .cases e
  .rcases aK e2 with⟨_,_,e⟩|⟨hk,e2⟩
   .cases e
   .rw[getσ j hj]at e3;rw[getσ k hk]at e4;exact h.re.sep j k xs ys q e1 e2 e3 e4
 .rcases aK e1 with⟨_,_,e⟩|⟨hj,e1⟩
  .cases e
  .rw[getσ j hj]at e2;exact h.fresh j xs q e1 e2
 .rcases aK e1 with⟨_,_,e⟩|⟨hj,e1⟩
  .cases e
  .rw[getσ j hj];exact h.nJ j xs e1
theorem jc.Qp(h:jc H0 σ ρ):jc H0 (σ.set i At) (ρ.set i At):=by
 have g1:∀{j}{l},(ρ.set i At)[j]?=AC _->i≠j/\ρ[j]?=AC (AC l):=λ {j l} e=>by
  rcases aK e with⟨_,_,e⟩|z
  .cases e
  .exact z
 have g2:∀{j},i≠j->(σ.set i At)[j]?=σ[j]?:=λ {j} hj=>A28 hj;refine⟨λ j k ks ls q e1 e2 e3 e4=>?_,λ j ks q e1 e2=>?_⟩
 .let⟨n1,e1⟩:=g1 e1;let⟨n2,e2⟩:=g1 e2;rw[g2 n1]at e3;rw[g2 n2]at e4;exact h.1 j k ks ls q e1 e2 e3 e4
 .let⟨n1,e1⟩:=g1 e1;rw[g2 n1]at e2;exact h.2 j ks q e1 e2
theorem RS.Qp{K:Db}(h:RS K H0 H σ ρ):RS K H0 H (σ.set i At) (ρ.set i At):=by
 have g1:∀{j}{l},(ρ.set i At)[j]?=AC _->i≠j/\ρ[j]?=AC (AC l):=λ {j l} e=>by
  rcases aK e with⟨_,_,e⟩|z
  .cases e
  .exact z
 have g2:∀{j},i≠j->(σ.set i At)[j]?=σ[j]?:=λ {j} hj=>A28 hj;refine⟨h.same,⟨by simp[h.re.len],λ j l e=>?_,λ j k xs ys q e1 e2 e3 e4=>?_⟩,λ j xs q e1 e2=>?_,λ j xs e1=>?_,h.yj.Qp⟩
 .let⟨n,e⟩:=g1 e;rw[g2 n];exact h.re.get j l e
 .let⟨n1,e1⟩:=g1 e1;let⟨n2,e2⟩:=g1 e2;rw[g2 n1]at e3;rw[g2 n2]at e4;exact h.re.sep j k xs ys q e1 e2 e3 e4
 .let⟨n,e1⟩:=g1 e1;rw[g2 n]at e2;exact h.fresh j xs q e1 e2
 .let⟨n,e1⟩:=g1 e1;rw[g2 n];exact h.nJ j xs e1
theorem T5.Ud(c:T5 X χ σ H s e C dd l):∃oe u,oe.cls=.ref C/\oe.dict=dd/\(∃vs,oe.data=.fields vs)/\H e=At/\Inv X χ σ (upd H e<|.eH oe u) s:=by
 let⟨oe,vs,T,oT,ts,he,kR,Cz,hd,h1,Wg,LO,gT,dT,h3,_⟩:=c.ex;have I:=c.inv;have ne:∀b u,H b=AC u->b≠e:=λ b u q=>bt q c.off.free;refine⟨oe,.ext λ _=>True,kR,Cz,⟨vs,hd⟩,c.off.free,?_⟩;have J:=EX (t':=s.toks) (d':=s.drawn) (H':=upd H e (.eH oe<|.ext λ _=>True)) I (λ b hb=>by rw[A22.mp hb];exact⟨c.off.new,c.off.loc I,c.off.cell I,c.off.pin⟩) (λ b o _ _ _ q _=>q) (λ b o _ _ _ q _=>⟨o.slots,q⟩)
  (λ b o hb q n=>by rw[aE λ z=>hb<|A22.mpr z];exact n) (λ b o _ q=>⟨o,q⟩) (λ b xs q=>by rw[aE<|ne b _ q];exact q) (λ b o u q=>by rw[aE<|ne b _ q];exact q) (λ b u _ q=>by rw[aE<|ne b _ q];exact q) (λ m hm=>hm) (λ b u q=>?_) I.bare
 .exact J
 .by_cases hb:b=e
  .subst hb;rw[aP]at q;cases q;exact⟨he,trivial,⟨oe,he⟩,λ _ _ _ _=>trivial⟩
  .rw[aE hb]at q;exact(I.cy b u q).oy (λ c v _ z=>z) (λ c z=>by rw[aE<|ne c _ z];exact z) (λ c xs z=>by rw[aE<|ne c _ z];exact z) λ c v _ z=>by rw[aE<|ne c _ z];exact z
theorem name_goes(hN:X.N.Nodup)(hi:X.N[i]?=AC n)(hl:X.env.scope.names.lookup n=AC .local)(I:Inv X χ σ H s)
 (k:∀s',Inv X χ (σ.set i At) H s'->Q () s'):FM M A (do bindName X.env n .none;unbindBehindTheSuite X.env n pos) Q E s:=by
 let⟨m,hn,hlk⟩:=id I.loc;let⟨oL,_,_,hoL,_⟩:=id hn;refine wpAny_nameGoes_keeps hl hn (by rw[I.ok.kind];rfl) λ h' v HS hs=>k _ ?_;have lt:∀b o,X.s₀.heap.get? b=AC o->b≠X.env.locals:=λ b o e=>A14<|A20 (A03 e) I.ok.above;refine⟨I.ok,I.os,I.bare,⟨λ b o e n hb hx=>(hs.2 b<|lt b o e).trans<|I.base.keep b o e n hb hx,λ b o e n hb hx=>?_,I.base.free,λ b o e hx=>?_,I.base.tq,I.base.rT,I.base.oj⟩,⟨_,HS,λ j y v' e1 e2 e3=>?_⟩,λ y c e=>?_,I.free,I.gx,λ p hp=>?_,λ b u e=>?_,by simpa using I.len,I.tab⟩
 .let⟨sl,e1⟩:=I.base.slot b o e n hb hx;exact⟨sl,(hs.2 b<|lt b o e).trans e1⟩
 .let⟨o',e1⟩:=I.base.there b o e hx;exact⟨o',(hs.2 b<|lt b o e).trans e1⟩
 .have hj:j≠i:=λ z=>by
   subst z;rcases aK e2 with⟨_,_,e⟩|⟨n,_⟩
   .cases e
   .exact n rfl
  rw[A28<|A07 hj]at e2;let⟨u',r',q⟩:=hlk j y v' e1 e2 e3;refine⟨u',r',?_⟩;rcases q with⟨k,e⟩|⟨k,c,e,z⟩
  .refine .inl ⟨k,?_⟩;have:y≠n:=λ e=>hj<|vb hN e1<|e▸hi;simp[this,e]
  .exact .inr ⟨k,c,e,z.sameBut hs<|I.Lh y c e⟩
 .let⟨w',z⟩:=I.cell y c e;exact⟨w',z.sameBut hs<|I.Lh y c e⟩
 .let⟨e,n,ne,nf,d⟩:=I.pin p hp;exact⟨(hs.2 p.1 ne).trans e,n,ne,nf,d⟩
 .refine(I.cy b u e).oy (λ c v hc q=>(hs.2 c ?_).trans q) (λ _ q=>q) (λ _ _ q=>q) λ _ _ _ q=>q;rintro rfl;rcases hc with rfl|hc
  .rw[I.free]at e;cases e
  .rw[I.free]at hc;cases hc
abbrev Gv(X:Cx)(pn:γ (δ×μ))(E:ζ->η->Prop):Cx:={X with pn:=pn,xe:=E}
abbrev N3(X:Cx)(ev:ζ):Cx:={X with A:=X.A.mark<|some ev,calm:=AT}
theorem Q2(ok:X.Ok)(pn:γ _)(E:ζ->η->Prop):(Gv X pn E).Ok:=
 ⟨ok.mod,ok.kind,ok.glob,ok.blt,ok.above,ok.inj,ok.has,ok.PQ,ok.hd,ok.frames,ok.IC,ok.Ww,ok.bs,ok.Hx,ok.zi,ok.Ed,ok.lK,ok.Kv⟩
theorem Q4(ok:X.Ok)(ev:ζ):(N3 X ev).Ok:=
 ⟨ok.mod,ok.kind,ok.glob,ok.blt,ok.above,ok.inj,ok.has,ok.PQ,λ z=>(nomatch z),ok.frames,ok.IC,ok.Ww,ok.bs,ok.Hx,ok.zi,ok.Ed,ok.lK,ok.Kv⟩
theorem NR(I:Inv X χ σ H s)(E:ζ->η->Prop):Inv (Gv X (X.pn++χ) E) [] σ H s:=⟨Q2 I.ok _ E,I.os,I.bare,I.base,I.loc,I.cell,I.free,I.gx,λ p hp=>I.pin p (by simpa using hp),I.cy,I.len,I.tab⟩
theorem DR(ok:X.Ok)(I:Inv (Gv X (X.pn++χ) E) nT σ H s):Inv X χ σ H s:=⟨ok,I.os,I.bare,I.base,I.loc,I.cell,I.free,I.gx,λ p hp=>I.pin p<|A98 _ hp,I.cy,I.len,I.tab⟩
theorem u_(o:ph (Gv X (X.pn++χ) E) nT H s a):ph X χ H s a:=⟨o.free,o.new,λ p hp=>o.pin p<|A98 _ hp,o._b⟩
theorem CY(t:OO (Gv X (X.pn++χ) E) nT H s e C dd):OO X χ H s e C dd:=by
 let⟨oe,vs,he,kR,Cz,hd,h1⟩:=t.ex;refine⟨u_ t.off,oe,vs,he,kR,Cz,hd,?_⟩;rcases h1 with h1|⟨T,oT,ts,h1,h2,h3,h4⟩
 .exact .inl h1
 .exact .inr ⟨T,oT,ts,h1,h2,u_ h3,h4⟩
theorem Fx(I:Inv X χ σ H s)(ev:ζ):Inv (N3 X ev).gK χ σ H s:=⟨(Q4 I.ok ev).wish _,I.os,I.bare,I.base,I.loc,I.cell,I.free,I.gx,I.pin,I.cy,I.len,I.tab⟩
theorem vF(ok:X.Ok)(I:Inv (N3 X ev).gK χ σ H s):Inv X χ σ H s:=⟨ok,I.os,I.bare,I.base,I.loc,I.cell,I.free,I.gx,I.pin,I.cy,I.len,I.tab⟩
theorem J8(I:Inv X χ σ H s)(hg:Gl X x)(hm:X.mg x=AC u)(h:Q u s)
 (hd:(x==("__debug__"))=AT):FM M A (eval (.Name x pos) X.env) Q E s:=
 B81 I.ok.kind hg (Calls.loadGlobal_global (by rw[I.ok.glob];exact I.mod.glob.keeps I.bk) hm h) hd
structure nL(K:Db)(C:Addr):Prop where
 ga:findIn K (.ref C) "__getattribute__"=AC (AC<|.builtin "BaseException.__getattribute__")
 gn:findIn K (.ref C) "__getattr__"=AC At
 cl:findIn K (.ref C) "__class__"=AC (AC<|.builtin "object.__class__")
 hn:specialIn K (.builtin "object.__class__") "__get__"=AC (AC<|.builtin "getset_descriptor.__get__")
 tk:takesIn K (.builtin "object.__class__")=AC Ch
 mo:mroIn K C (.type "object")=AC Ch
 mb:mroIn K C (.type "BaseException")=AC Ch
section
variable{K:Db}
theorem Oe(k:nL K C)(X:K.In s.heap)(I:InstAt s.heap x ox C od)(h:Q (AC<|.ref C) {s with toks:=s.toks+1}):FM (model prog w) A (getAttr? (.ref x) "__class__") Q E s:=by
 have hf:findObj K C od "__class__"=AC (.bind (.builtin "getset_descriptor.__get__")<|.builtin "object.__class__"):=by
  have:=k.mo;unfold mroIn at this;cases e:clsIn K C with
  |none=>rw[e]at this;cases this
  |some cd=>unfold findObj;rw[e];simp only[B31,k.cl,k.hn,k.tk]
 let⟨hh,g,d,t,os⟩:=s;have L0:=I.type (M:=model prog w);have L1:=B13 (M:=model prog w) X k.ga;have L2:=B13 (M:=model prog w) X k.gn;have L3:=looks_find (M:=model prog w) X I hf;have L4:=B71 (M:=model prog w) X k.mb;have LB:Looks (model prog w) hh (isInstance (.ref x)<|.type "BaseException") Ch:=L0.andThen L4;unfold getAttr? getAttrBy? getAttrBy;refine T0<|wpAny_mkText<|T0<|B30<|A39<|T0<|L0.at<|T0<|L1.at ?_;dsimp only;rw[show(Wp "BaseException.__getattribute__"== Wp "object.__getattribute__")=AT from by decide +kernel,B22,P3 ∅];unfold getAttrByItsOwn hookBefore;refine T0 ?_;rw[f8<|show onTheHeap (.ref C)=Ch from rfl];refine L2.at ?_;refine T0<|B30<|A39 ?_;unfold callGetattribute;rw[P3 ∅];unfold boundAndCalled;rw[B72.ga.bind<|.ref x];refine T0<|M2 ?_;refine A60<|C22 B72.ga.plain F.entry_bexc_ga ?_;have hk:builtinKind "BaseException.__getattribute__"=AC .slot:=by decide +kernel
 have DV:splitId "BaseException.__getattribute__"=AC ("BaseException","__getattribute__"):=by decide +kernel
 have Wd:=F.args_bexc_ga (.ref x)<|.str "__class__" t;simp only[checkBuiltinCall,hk,DV];refine T0<|LB.at ?_
 repeat (any_goals (first|assumption|with_reducible refine LB.at ?_|wp_step))
 refine A99 I.at_<|M2 ?_;rw[I.cls];refine T0<|L3.at ?_;dsimp only;unfold Builtin.ObjectAttr.bindTo;dsimp only;refine T0<|A39<|A60<|class_get X I k.mo ?_;refine M2 ?_;exact M2<|M2 h
theorem BC(k:nL K C):KitX K (.ref x) (.ref C) (λ h=>InstAt h x ox C od) where
 ty:=λ _ _ _ I=>I.type
 it:=λ _ _ X _=>by
  have:=k.mo;unfold mroIn clsIn at this;split at this
  .rename_i ho;intro A' Q' E' s' kp q;exact T0<|A99 (kp _ _<|X _ _ ho)<|M2 q
  .cases this
 ne:=λ h tp dd bT n sl X htp=>by
  have:=k.mo;unfold mroIn clsIn at this;split at this
  .rename_i ho;refine Bool.eq_false_iff.mpr λ q=>?_;have e:=Value.ref.inj<|A29.mp q;subst e;have z:=(X _ _ ho).symm.trans htp;cases z
  .cases this
 ca:=λ X I h=>Oe k X I h
end
def jX(K:Db)(c0:γ Nat)(cv:ζ)(b:Bool):Prop:=∃C,nsIn K mainGlobals ⟨c0.toArray⟩=AC (AC<|.ref C)/\nL K C/\kitOne K (.ref C) cv=AC b
theorem RH{K:Db}(h:jX K c0 cv b)(e:Z.isx c0 b c=AC b')(xc:XC K c C):nL K C/\kitOne K (.ref C) cv=AC b':=by
 unfold Z.isx at e;split at e
 .rename_i hc;subst hc;cases e;let⟨C',e1,k,e2⟩:=h;have:=xc.1.symm.trans e1;cases this;exact⟨k,e2⟩
 .cases e
section
variable{X:Cx}
theorem T8(I:Inv X χ σ H s)(hp:H p=AC (.eH o u))(hc:o.cls=.ref C)(hd:∃vs,o.data=.fields vs)(xr:nK X.K H c C o.dict)
 (k:nL X.K C) (e:kitOne X.K (.ref C) cv=AC b) (h:∀tk,Q (.bool b) {s with toks:=tk}):FM (model X.prog X.w) A (call (.builtin "isinstance") [.ref p,cv]) Q E s:=by
 obtain⟨g1,_⟩:=(I.cy p _ hp)
 let⟨vs,hd⟩:=hd;have nc:notCls o=Ch:=by unfold notCls;rw[hd]
 have xd:=xr.2;cases Cz:o.dict with
 |none=>exact kia_one (BC (od:=At) k) I.kB ⟨g1,hc,nc,by rw[Cz];trivial⟩ e (λ z=>nomatch z) h
 |some dx=>
  rw[Cz]at xd;let⟨_,od,fT,q,_⟩:=xd;obtain⟨g2,_⟩:=(I.cy dx _ q)
  exact kia_one (BC (od:=AC od) k) I.kB ⟨g1,hc,nc,by rw[Cz];exact g2⟩ e (λ z=>nomatch z) h
theorem Cd(rc:∀u,RelV cV u->u=cv):mQ X (.builtin "isinstance") (λ xs H Q=>∃p o u C c b,xs=[.ref p,cV]/\H p=AC (.eH o u)/\o.cls=.ref C/\(∃vs,o.data=.fields vs)/\nK X.K H c C o.dict/\nL X.K C/\kitOne X.K (.ref C) cv=AC b/\Q (.bl b) H):=by intro χ s σ H xs us Q I r h;let⟨p,o,u,C,c,b,rfl,h1,h2,h3,h4,h5,h6,q⟩:=h;let⟨v1,v2,rfl,r1,r2⟩:=vals2 r;cases (r1);cases rc v2 r2;exact T8 I h1 h2 h3 h4 h5 h6 λ tk=>⟨.bl b,H,I.tok _,rfl,q⟩
end
structure yC(k:Nat)(A:Around):Prop where
 dp:A.depth+3*k+5<recursionLimit
 un:A.units+16*k+200<cLine
theorem bR._3(r:bR k A)(ev:ε ζ):yC k (A.mark ev):=⟨r.dp,r.un⟩
abbrev WK(P:ο)(w:ξ)(K:Db)(mg:Str->ε ζ)(base:ν)(N:γ Str)(qual:Str)(scope:ς)(f:δ)(cd:ζ)(A:π)(outer:γ PySem.Env)(s:η)(H:Hp):Cx:=
 {dO jd P w K mg base N qual scope f cd A outer s H E0 with calm:=AT}
section
variable{K:Db}
def aaO(P:ο)(w:ξ)(K:Db)(mg:Str->ε ζ)(base:ν)(k:Nat)(g:δ)(fd:τ)(ps:γ Str)(m:Z.XN->Z.Res Z.D):Prop:=
 ∀(A:π)(outer:γ PySem.Env)(s:η)(H:Hp)(args:Args)(u:ζ)(v:V)(Q:VK)(c:Z.XN)(d:Z.D),yC k A->z_ P w K mg base A outer s H->BindsTo s fd args (ps.zip [u])->RelV v u->RL K H (.exc c) v->m c=.ok d->(∀v' H',aG H H'->Den K H' d v'->Q v' H') ->
  codeAny (model P w) A (.call (.ref g) args) (CR jd outer P w H s Q E0) s
structure O2(P:Program)(w:World)(K:Db)(mg:Str->Option Value)(base:Heap)(x:Str)(k:Nat)(ps:List Str)(m:Z.XN->Z.Res Z.D):Prop where
 ex:∃g fd,aaO P w K mg base k g fd ps m/\mg x=AC (.ref g)/\FS K (.ref g)=Ch/\Binds K fd ps []/\ps.length=1
theorem Gw(hN:1<=N.length)(h:RL K H (.exc c) v):RS K H H (L2.start N [v]) (AC (.exc c)::Do (N.length-1) At):=by
 have base:RS K H H (Do N.length<|none) (Do N.length<|none):=by
  have nn:∀i l,(Do N.length (At:ε Z.L))[i]?≠AC (AC l):=λ i l e=>by rw[A45]at e;split at e<;>cases e
  refine⟨aG.refl H,⟨by simp,λ i l e=>absurd e<|nn i l,λ i j xs ys a e=>absurd e<|nn i _⟩,λ i xs q e=>absurd e<|nn i _,λ i xs e=>absurd e<|nn i _,⟨λ i j ks ls q e=>absurd e<|nn i _,λ i ks q e=>absurd e<|nn i _⟩⟩
 have e1:L2.start N [v]=(Do N.length<|none).set 0 (AC v):=by
  unfold L2.start;obtain⟨n,hn⟩:∃n,N.length=n+1:=⟨N.length-1,by lia⟩
  rw[hn];rfl
 have e2:(AC (Z.L.exc c)::Do (N.length-1) At)=(Do N.length<|none).set 0 (AC<|.exc c):=by
  obtain⟨n,hn⟩:∃n,N.length=n+1:=⟨N.length-1,by lia⟩
  rw[hn];rfl
 rw[e1,e2];exact base.Uu h
theorem SA{x:Str}{k:Nat}{st:θ}{N ps:γ Str}{b:Z.SF}(d:Def K mg x st ps)(S:a! N ps (ai st))(h1:ps.length=1)
 (hb:∀ f bh A outer s H,yC k (A.deeper<|envOfC x (ai st) s.heap.objs.size f bh) ->
  L! (WK P w K mg base N x (ai st) f bh A outer s H).gK H (aJ st) b):O2 P w K mg base x (k+1) ps (Z.Yz N.length b):=by
 let⟨f,fd,F,hm,uw⟩:=d.ex;have kp:=F.kp;let⟨oc,od,kV,doc,pm,an,bh,ct,um,rfl,lk,m?⟩:=F.ex;refine⟨f,_,?_,hm,kp,uw,h1⟩;intro A outer s H args u v Q c dd hr e0 hbi rv rl em hq;have KX:K.In s.heap:=e0.mod.HN.keeps λ b o e=>(e0.bs b o e).1;have lim:s.heap.NoLimit:=e0.mod.nolimit.keeps λ b o e=>(e0.bs b o e).1;have Kh:∀y∈ps.zip [u],(ai st).names.lookup y.1=AC .local\/((ai st).names.lookup y.1=AC .cell/\((cellsFrom (s.heap.objs.size+1) (ai st).names []).lookup y.1).isSome=Ch):=by
  rintro⟨n,v⟩ hy;rcases S.par n (B46 hy).1 with q|q
  .exact .inl q
  .exact .inr ⟨q,B94 _ _ _<|.inl q⟩
 have fA:ps.length<=N.length:=by have:=A10 List.length S.pre;rw[A26]at this;lia
 refine codeAny_call_function (by have:=hr.dp;lia) (KX _ _ lk) rfl S.co S.gen rfl (pc KX m?)<|hbi _ _ _ _ ?_;refine C34 S.kind Kh λ env he s1 x1=>?_;subst he;refine⟨lim.keeps x1.toInCall.keep,codeAny_func ?_⟩;have e1:z_ P w K mg base ({A with handled:=At}) outer s H:=⟨e0.frames,e0.mod,e0.bs,e0.Hx,e0.lK,e0.Kv,e0.cy,e0.bare,e0.tab⟩
 have I0:Inv (dO jd P w K mg base N x (ai st) f bh {A with handled:=At} outer s H E0) [] (L2.start N [v]) H s1:=yc S rfl e1 (by rw[h1];rfl) (.cons rv .nil) x1;have ok:(WK P w K mg base N x (ai st) f bh A outer s H).Ok:=let ok:=I0.ok
  ⟨ok.mod,ok.kind,ok.glob,ok.blt,ok.above,ok.inj,ok.has,ok.PQ,λ z=>(nomatch z),B95 e0.frames,ok.IC,ok.Ww,ok.bs,ok.Hx,ok.zi,ok.Ed,ok.lK,ok.Kv⟩
 have I:Inv (WK P w K mg base N x (ai st) f bh A outer s H).gK [] (L2.start N [v]) H s1:=⟨ok.wish _,I0.os,I0.bare,I0.base,I0.loc,I0.cell,I0.free,I0.gx,I0.pin,I0.cy,I0.len,I0.tab⟩
 have room:yC k (A.deeper<|envOfC x (ai st) s.heap.objs.size f bh):=⟨by have:=hr.dp;show A.depth+1+3*k+5<_;lia,by have:=hr.un;show A.units+3+16*k+200<_;lia⟩
 have rs:=Gw (N:=N) ∅ rl;unfold Z.Yz at em;have fin:∀{σ'}{H'}{v'}{u'}{s'},Inv (WK P w K mg base N x (ai st) f bh A outer s H).gK [] σ' H' s'->RelV v' u'->Q v' H'->CE outer P w H s Q u' s':=
  λ {σ' H' v' u' s'} J rv q=>⟨v',H',J.os,J.bare,J.base,J.cy,rv,q⟩
 split at em
 .rename_i d' eb;cases em;refine A21 (hb f bh A outer s H room [] s1 _ H {nx:=λ _ _=>False,rt:=Q} I ⟨_,.rt dd,rs,eb,λ v' H' s' dv=>hq v' H' s' dv⟩) (λ fl s' hs=>?_) λ _ _ z=>z.elim;cases fl with
  |ret u'=>let⟨v',σ',H',J,Zw,q⟩:=hs;exact fin J Zw q
  |next=>let⟨_,_,_,q⟩:=hs;exact q.elim
  |brk=>let⟨_,_,_,q⟩:=hs;exact q.elim
  |cont=>let⟨_,_,_,q⟩:=hs;exact q.elim
 .rename_i ρ' eb;cases em;refine A21 (hb f bh A outer s H room [] s1 _ H {nx:=λ _ H'=>Q .non H',rt:=λ _ _=>False} I ⟨_,.nx ρ',rs,eb,λ σ' H' _ Cv=>hq .non H' Cv.same j9⟩) (λ fl s' hs=>?_) λ _ _ z=>z.elim;cases fl with
  |ret u'=>let⟨_,_,_,_,_,q⟩:=hs;exact q.elim
  |next=>let⟨σ',H',J,q⟩:=hs;exact fin (v':=V.non) (u':=Pi) J rfl q
  |brk=>let⟨_,_,_,q⟩:=hs;exact q.elim
  |cont=>let⟨_,_,_,q⟩:=hs;exact q.elim
 .cases em
end
theorem _root_.ZQ.B8(C:O2 X.prog X.w X.K X.mg X.base x k ps m)(hr:yC k X.A)(hg:Gl X x)(ha:PE X a (kE i))
 (gP:(x==("__debug__"))=AT:=by decide +kernel) (he:Se a [] X.env:=by rfl) (fA:Pn pos [] X.env:=by rfl) :
 ZQ.QE X (.Call (.Name x p1) [a] [] pos) (Z.r_ m i):=⟨by
 let⟨g,fd,F,hm,hk,hb,h1⟩:=C.ex;intro χ s σ H Q I h;let⟨ρ,d,re,e,kk⟩:=h;unfold Z.r_ at e;split at e
 .rename_i c hi;let⟨v,hv,rl⟩:=re.get i _ hi;refine A73<|k9 I hg hm ?_ gP;refine A83 I.ok.mod.HN hk (da (bL ha cW he pos χ s σ H (λ vs H1=>vs=[v]/\H1=H) I ⟨v,hv,rfl,rfl⟩) λ us s1 ⟨vs,H1,I1,r,q⟩=>⟨I1.kB,?_⟩) he fA;let⟨rfl,rfl⟩:=q;let⟨u,rfl,ru⟩:=vals1 r;refine A60<|A72 (F X.A _ s1 H1 ⟨[u],[]⟩ u v Q c d hr I1.Hj (by have:=hb s1 [u] I1.kB (by rw[h1];rfl);simpa using this) ru rl e kk) λ rr s' hq=>?_;cases rr with
  |error ev=>exact hq.elim
  |ok fl=>
   cases fl with
   |ret u'=>exact I1.after hq
   |_=>exact hq.elim
 .cases e⟩
end ZS
namespace ZQ
open L2 ZS PySem.W
section
variable{K:Db}
theorem WQ{st:θ}(d:Def K mg x st ps)(hb:∀{f}{bh}{A}{outer}{s}{H}{E},N.Nodup->(A.deeper<|envOfC x (ai st) s.heap.objs.size f bh).units+64<cLine->bR k (A.deeper<|envOfC x (ai st) s.heap.objs.size f bh)->z! (dO (wI P w) P w K mg base N x (ai st) f bh A outer s H E) H (aJ st) xb)(S:a! N ps (ai st):=by exact ZS.D8):wF P w K mg base x (k+1) ps (Z.fx ps.length N.length xb):=wF.mk' d S λ f bh A outer s H E hr=>(hb S.nd hr.units hr).p
theorem Sy{st:θ}(d:HF K mg x st ps)(hb:∀{f}{bh}{A}{outer}{s}{H}{E},N.Nodup->(A.deeper<|envOfC x (ai st) s.heap.objs.size f bh).units+64<cLine->bR k (A.deeper<|envOfC x (ai st) s.heap.objs.size f bh)->z! (dO (wI P w) P w K mg base N x (ai st) f bh A outer s H E) H (aJ st) xb)(S:a! N ps (ai st):=by exact ZS.D8):wF P w K mg base x (k+1) ps (Z.fx ps.length N.length xb):=wF.mkD d S λ f bh A outer s H E hr=>(hb S.nd hr.units hr).p
theorem SA{st:θ}(d:Def K mg x st ps)(S:a! N ps (ai st))(h1:ps.length=1)
 (hb:∀ f bh A outer s H,yC k (A.deeper<|envOfC x (ai st) s.heap.objs.size f bh) ->
  Cq (WK P w K mg base N x (ai st) f bh A outer s H).gK H (aJ st) b):O2 P w K mg base x (k+1) ps (Z.Yz N.length b):=ZS.SA d S h1 λ f bh A outer s H hr=>(hb f bh A outer s H hr).p
end
end ZQ
namespace Z
end Z
namespace ZS
open L2 PySem.W
def tCs(vs:γ V):TA:=λ _ H Q=>Q vs H
def NoK(K:Db)(c0:γ Nat)(as:γ δ):Prop:=∃C,nsIn K mainGlobals ⟨c0.toArray⟩=AC (AC<|.ref C)/\nL K C/\kitAny K (.ref C) (as.map Value.ref)=AC AT
structure PCs(X:Cx)(c0:List Nat)(es:List Expr)(as:List Addr):Prop where
 pa:PA X es (tCs<|as.map V.ref)
 k:NoK X.K c0 as
end ZS
namespace ZQ
open L2 ZS PySem.W
end ZQ
namespace Z
end Z
namespace ZS
open L2 PySem.W
end ZS
namespace ZQ
open L2 ZS PySem.W
end ZQ
namespace ZS
open L2 PySem.W
def uo:γ ζ->Bool
|.ref _::r=>uo r
|l=>l==[.type "ValueError",.type "Exception",.type "BaseException",.type "object"]
theorem C!(self:ζ)(e:uo l=Ch):refuseLoop self "__setattr__" l=pure ()/\l.contains (.type "object")=Ch/\l.isEmpty=AT:=by
 induction l with
 |nil=>cases e
 |cons a r ih=>
  unfold uo at e;split at e
  .rename_i c r' q;cases q;let⟨h1,h2,_⟩:=ih e;exact⟨by rw[refuseLoop_ref];exact h1,by rw[C23,h2,C24],rfl⟩
  .rw[A29.mp e];exact⟨PySem.F.store_ValueError.passes self,by decide +kernel,rfl⟩
structure qO(K:Frag)(C:Addr):Prop where
 sa:findIn K (.ref C) "__setattr__"=AC (AC<|.builtin "object.__setattr__")
 mr:(clsIn K C).any (λ cd=>uo cd.mro)=Ch
 hd:hasDictIn K C=Ch
section
variable{K:Frag}
theorem BZ(k:qO K C)(X:K.In s.heap)(I:InstAt s.heap x ox C od)(ht:findIn K (.ref C) name=AC At)
 (h:∀ b,FM (model prog w) A.in1 (Builtin.ObjectAttr.storeInOwnDict (.ref x) (.ref C) (.str name tk) name v b)
  (λ fin s'=>match fin with| .done f=>R (.ok f) s'| .again c'=>c'.quiet=Ch/\codeAny (model prog w) A c' R s') (λ e s'=>R (.error e) s') s) :
 codeAny (model prog w) A (.call (.builtin "object.__setattr__") ⟨[.ref x,.str name tk,v],[]⟩) R s:=by
 have SF:=PySem.F.store_object;let⟨cd,hc,ho⟩:=any_some k.mr;let⟨r1,r2,r3⟩:=C! (.ref x) ho;have sub:Looks (model prog w) _ (isInstance _ _) Ch:=I.type.andThen<|B71 X (by unfold mroIn;rw[hc,B31,P3 (by rw[r3];decide),r2]);have hm:Looks (model prog w) _ (mroOf<|.ref C) _:=(looks_clsIn X hc).andThen .now;refine C22 SF.slot.plain SF.entry<|@check_slot (model prog w) _ _ s "object.__setattr__" "object" "__setattr__" (.ref x) [.str name tk,v] [] _ SF.kind SF.split sub (SF.args (.ref x) (.str name tk) v) ?_;rw[osa_eq,refuse_eq];refine T0<|T0<|I.type.here<|T0<|hm.here ?_;rw[r1];exact M2<|T0<|I.type.here<|T0<|(B13 X ht).here<|T0<|M2<|h _
theorem KW(k:qO K C)(X:K.In s.heap)(hx:s.heap.get? x=AC ox)(kR:ox.cls=.ref C)(hd:ox.dict=At)(n9:∃vs,ox.data=.fields vs)(ht:findIn K (.ref C) name=AC At)
 (h:∀h' dx,s.heap.objs.size<=dx->h'.get? x=AC {ox with dict:=AC dx}->h'.Ns1 dx (λ y=>if y=name then AC v else At)->(∀b o,b≠x->s.heap.get? b=AC o->h'.get? b=AC o)->∀tk,Q () {s with heap:=h',toks:=tk}) :
 FM (model prog w) A (setAttr (.ref x) name v) Q E s:=by
 let⟨vs,n9⟩:=n9;have I:InstAt _ x ox C At:=⟨hx,kR,by unfold notCls;rw[n9],by rw[hd];trivial⟩
 refine B85 X I k.sa<|BZ k X I ht λ b=>?_;let⟨cd,hc,rP⟩:=any_some k.hd;let⟨oc,odi,oda,um⟩:=ox;dsimp only at kR hd n9;subst kR hd n9;have hxs:=A14<|A03 hx;have VP:(s.heap.push {cls:=.type "dict",data:=.dict #[]}).get? x=AC _:=A02 _ hx;refine T0<|M2<|T0<|T0<|A99 hx<|T0<|B86 (B87 X hc) ?_;rw[rP];refine T0<|wpAny_alloc'<|T0<|wpAny_update' VP<|M2 ?_;have Yo:((s.heap.push {cls:=.type "dict",data:=.dict #[]}).update x λ o=>{cls:=o.cls,dict:=AC s.heap.objs.size,data:=o.data,slots:=o.slots}).get? s.heap.objs.size=AC {cls:=.type "dict",data:=.dict #[]}:=
  (jp _ _ _ _ hxs.symm).trans<|Heap.get?_push_at rfl rfl
 have hnd:((s.heap.push {cls:=.type "dict",data:=.dict #[]}).update x λ o=>{cls:=o.cls,dict:=AC s.heap.objs.size,data:=o.data,slots:=o.slots}).Ns s.heap.objs.size (λ _=>At):=⟨_,#[],_,Yo,rfl,λ e he=>absurd he ∅,λ _=>rfl⟩
 refine T0<|M2<|T0<|wpAny_nsSet1 (Heap.Ns1.of_empty hnd) λ h' HR zF=>?_;let⟨oD,esD,epD,VW,V?,Wb⟩:=HR.count (Within.cons name v Within.nil);refine T0<|B89 VW (by rw[V?];exact B90<|A27 Wb (by rw[A38,AB9,A33];lia))<|M2 ?_;refine h h' s.heap.objs.size (v6 _) ((zF.2 x hxs).trans<|A79 _ VP rfl) HR (λ b o hb q=>(zF.2 b<|A14<|A03 q).trans<|(jp _ _ _ _ hb).trans<|A02 _ q) _
theorem KU(k:qO K C)(X:K.In s.heap)(hx:s.heap.get? x=AC ox)(kR:ox.cls=.ref C)(hd:ox.dict=AC dx)(qQ:dx≠x)(n9:∃vs,ox.data=.fields vs)(ht:findIn K (.ref C) name=AC At)
 (hn:s.heap.Ns1 dx mA) (hw:Within mA ns) (hz:ns.length<=1000)
 (h:∀h',h'.Ns1 dx (λ y=>if y=name then AC v else mA y)->Go dx s.heap h'->∀tk,Q () {s with heap:=h',toks:=tk}) :
 FM (model prog w) A (setAttr (.ref x) name v) Q E s:=by
 let⟨vs,n9⟩:=n9;let⟨o0,_,_,Yk,_⟩:=id hn;have I:InstAt _ x ox C (AC o0):=⟨hx,kR,by unfold notCls;rw[n9],by rw[hd];exact Yk⟩
 refine B85 X I k.sa<|BZ k X I ht λ b=>?_;let⟨cd,hc,rP⟩:=any_some k.hd;let⟨oc,odi,oda,um⟩:=ox;dsimp only at kR hd n9;subst kR hd n9;refine T0<|M2<|T0<|T0<|A99 hx<|T0<|B86 (B87 X hc) ?_;rw[rP];refine M2<|T0<|M2<|T0<|wpAny_nsSet1 hn λ h' HR zF=>?_;let⟨oD,esD,epD,VW,V?,Wb⟩:=HR.count (Within.cons name v hw);exact T0<|B89 VW (by rw[V?];exact B90<|A27 Wb (by rw[A38,A33];lia))<|M2<|h h' HR zF _
theorem Od(k:nL K C)(kf:qO K C)(X:K.In s.heap)(hx:s.heap.get? x=AC ox)(kR:ox.cls=.ref C)(hd:ox.dict=AC dx)(n9:∃vs,ox.data=.fields vs)(ht:findIn K (.ref C) name=AC At)
 (hn:s.heap.Ns1 dx mA) (hv:mA name=AC v) (hI:handedIn v=Ch) (h:∀tk,Q v {s with toks:=tk}):FM (model prog w) A (getAttr (.ref x) name b) Q E s:=by
 let⟨vs,n9⟩:=n9;let⟨o0,Yk,hl⟩:=x_ hn;have I:InstAt s.heap x ox C (AC o0):=⟨hx,kR,by unfold notCls;rw[n9],by rw[hd];exact Yk⟩
 have hf:=lm kf.hd ht rfl (by rw[hl,hv]);clear hn hx Yk;let⟨hh,g,d,t,os⟩:=s;have L0:=I.type (M:=model prog w);have L1:=B13 (M:=model prog w) X k.ga;have L2:=B13 (M:=model prog w) X k.gn;have L3:=looks_find (M:=model prog w) X I hf;have L4:=B71 (M:=model prog w) X k.mb;have LB:Looks (model prog w) hh (isInstance (.ref x)<|.type "BaseException") Ch:=L0.andThen L4;unfold getAttr getAttrBy;refine T0<|wpAny_mkText<|A39<|T0<|L0.at<|T0<|L1.at ?_;dsimp only;rw[show(Wp "BaseException.__getattribute__"== Wp "object.__getattribute__")=AT from by decide +kernel,B22,P3 ∅];unfold getAttrByItsOwn hookBefore;refine T0 ?_;rw[f8<|show onTheHeap (.ref C)=Ch from rfl];refine L2.at ?_;refine T0<|B30<|A39 ?_;unfold callGetattribute;rw[P3 (by cases b<;>decide)];unfold boundAndCalled;rw[B72.ga.bind<|.ref x];refine T0<|M2 ?_;refine A60<|C22 B72.ga.plain F.entry_bexc_ga ?_;have hk:builtinKind "BaseException.__getattribute__"=AC .slot:=by decide +kernel
 have DV:splitId "BaseException.__getattribute__"=AC ("BaseException","__getattribute__"):=by decide +kernel
 have Wd:=F.args_bexc_ga (.ref x)<|.str name t;simp only[checkBuiltinCall,hk,DV];refine T0<|LB.at ?_
 repeat (any_goals (first|assumption|with_reducible refine LB.at ?_|wp_step))
 refine A99 I.at_<|M2 ?_;rw[I.cls];refine T0<|L3.at ?_;dsimp only;refine M2 ?_;show FM _ _ (handedOut v) Q E _;rw[handedOut_of hI];exact M2<|h _
end
abbrev M9(e:δ)(o:μ):HO:=.ext λ h=>h.get? e=AC o
abbrev S6(d:δ)(fs:γ (Str×V)):HO:=.ext λ h=>∃mA,h.Ns1 d mA/\(∀f,ud (fs.lookup f) (mA f))/\Within mA (fs.map (·.1))
theorem JB(q:h.get? e=AC o):fW P w H h e (M9 e o):=⟨q,⟨_,q⟩,λ _ _ z k=>k _ z⟩
theorem Ie(q:h.Ns1 d mA)(r:∀f,ud (fs.lookup f) (mA f))(wi:Within mA (fs.map (·.1))):fW P w H h d (S6 d fs):=
 ⟨⟨mA,q,r,wi⟩,let ⟨o,_,_,e,_⟩:=q;⟨o,e⟩,by rintro _ _ ⟨mA,q,r⟩ k;exact⟨mA,q.at k,r⟩⟩
section
variable{σ:St}
theorem Io(I:Inv X χ σ H s)(hn:H a=At)(h0:X.s₀.heap.get? a=At)(hl:a≠X.env.locals)(hc:∀x c,X.env.cells.lookup x=AC c->c≠a)(hp:∀p∈X.pn++χ,p.1≠a)(ok:fW X.prog X.w (upd H a o) s.heap a o):Inv X χ σ (upd H a o) s:=by
 have ne:∀b u,H b=AC u->b≠a:=λ b u q=>bt q hn;refine EX I (λ b hb=>by rw[A22.mp hb];exact⟨h0,hl,hc,hp⟩) (λ b o _ _ _ q _=>q) (λ b o _ _ _ q _=>⟨_,q⟩)
  (λ b o hb q n=>by rw[aE λ z=>hb<|A22.mpr z];exact n) (λ b o _ q=>⟨o,q⟩) (λ b xs q=>by rw[aE<|ne b _ q];exact q) (λ b o u q=>by rw[aE<|ne b _ q];exact q) (λ b u _ q=>by rw[aE<|ne b _ q];exact q) (λ m hm=>hm) (λ b u q=>?_) I.bare
 by_cases hb:b=a
 .subst hb;rw[aP]at q;cases q;exact ok
 .rw[aE hb]at q;exact(I.cy b u q).oy (λ c v _ z=>z) (λ c z=>by rw[aE<|ne c _ z];exact z) (λ c xs z=>by rw[aE<|ne c _ z];exact z) λ c v _ z=>by rw[aE<|ne c _ z];exact z
theorem YC{a:δ}(I:Inv X χ σ H s)(h:s.heap.objs.size<=a):H a=At/\X.s₀.heap.get? a=At/\a≠X.env.locals/\(∀x c,X.env.cells.lookup x=AC c->c≠a)/\∀p∈X.pn++χ,p.1≠a:=
 ⟨I.cy.fresh h,B43<|A27 I.sz h,A42<|A20 I.lt h,λ x c e z=>by let⟨w',o,q,_⟩:=I.cell x c e;exact absurd (A03 q)<|A92.mpr<|z▸h,λ p hp z=>absurd (A03 (I.pin p hp).1)<|A92.mpr<|z▸h⟩
def tF0(C:δ)(j i:Nat)(f:Str):TS:=λ D σ H=>∃e oe v,σ[j]?=AC (AC<|.ref e)/\σ[i]?=AC (AC v)/\H e=AC (M9 e oe)/\oe.cls=.ref C/\oe.dict=At/\(∃ws,oe.data=.fields ws) /\
 ∀dx,H dx=At->dx≠e->D.nx σ (upd (upd H e<|M9 e {oe with dict:=AC dx}) dx<|S6 dx [(f,v)])
def tF1(C:δ)(j i:Nat)(f:Str):TS:=λ D σ H=>∃e oe v dx fs,σ[j]?=AC (AC<|.ref e)/\σ[i]?=AC (AC v)/\H e=AC (M9 e oe)/\oe.cls=.ref C/\oe.dict=AC dx/\(∃ws,oe.data=.fields ws)/\dx≠e/\H dx=AC (S6 dx fs)/\fs.length<=100 /\
 D.nx σ (upd H dx<|S6 dx<|jT f v fs)
theorem O_(k:qO X.K C)(ht:findIn X.K (.ref C) f=AC At)(ho:PE X o (kE j))(hv:PE X value (kE i))(hs:swapsWith value (AC<|.Attribute o f pos') pos.line X.env=pure AT):PS X (.Assign [.Attribute o f pos'] value pos) (tF0 C j i f):=by
 rintro χ s σ H D I ⟨e,oe,v,hj,hi,he,kR,hd,n9,q⟩;refine B92 (da (hv χ s σ H (λ y H1=>y=v/\H1=H) I ⟨v,hi,rfl,rfl⟩) λ u s1 ⟨y,H1,I1,ry,q1,q2⟩=>da (ho χ s1 σ H1 (λ y' H2=>y'=.ref e/\H2=H) I1 ⟨_,by rw[hj],rfl,q2⟩) ?_) hs;rintro ov s2 ⟨y',H2,I2,rx,q3,q4⟩;subst q1 q3 q4;obtain rfl:ov=Value.ref e:=rx;have hx:=(I2.cy e _ he).1;refine KW k I2.kB hx kR hd n9 ht λ h' dx Kj HP HS kp tk=>?_;have J:Inv X χ σ _ {s2 with heap:=h',toks:=tk}:=I2.write (by rw[he];exact On) (.inl rfl) (λ b o hb z=>kp b o hb z) ⟨_,HP⟩<|JB HP;have ne:=A42<|A20 (A03 hx) Kj;let⟨f1,f2,f3,f4,f5⟩:=YC I2 Kj;exact⟨σ,_,Io J (by rw[aE ne];exact f1) f2 f3 f4 f5 (Ie (fs:=[(f,_)]) HS (λ g=>by
  by_cases z:g=f
  .subst z;simp only[A51,A88,A23];exact ry
  .simp only[A51,A57.mpr z,List.lookup_nil,P3 z];trivial)<|Within.cons f u Within.nil),q dx f1 ne⟩
theorem UN(k:qO X.K C)(ht:findIn X.K (.ref C) f=AC At)(ho:PE X o (kE j))(hv:PE X value (kE i))(hs:swapsWith value (AC<|.Attribute o f pos') pos.line X.env=pure AT):PS X (.Assign [.Attribute o f pos'] value pos) (tF1 C j i f):=by
 rintro χ s σ H D I ⟨e,oe,v,dx,fs,hj,hi,he,kR,hd,n9,ne,Kj,hl,q⟩;refine B92 (da (hv χ s σ H (λ y H1=>y=v/\H1=H) I ⟨v,hi,rfl,rfl⟩) λ u s1 ⟨y,H1,I1,ry,q1,q2⟩=>da (ho χ s1 σ H1 (λ y' H2=>y'=.ref e/\H2=H) I1 ⟨_,by rw[hj],rfl,q2⟩) ?_) hs;rintro ov s2 ⟨y',H2,I2,rx,q3,q4⟩;subst q1 q3 q4;obtain rfl:ov=Value.ref e:=rx;have hx:=(I2.cy e _ he).1;obtain⟨mA,hn,hr,hw⟩:=(I2.cy dx _ Kj).1;refine KU k I2.kB hx kR hd ne n9 ht hn hw (by rw[A17];lia) λ h' HS sb tk=>⟨σ,_,?_,q⟩
 refine I2.write (by rw[Kj];exact On) (.inl rfl) (λ b o hb z=>(sb.2 b hb).trans z) (let ⟨o,_,_,e,_⟩:=HS;⟨o,e⟩)<|Ie HS (λ g=>?_) λ g hg=>?_
 .rw[ma];by_cases z:g=f
  .rw[f8 z,f8 z];exact ry
  .rw[P3 z,P3 z];exact hr g
 .by_cases z:g=f
  .rw[z];exact(kM f _ fs).1
  .refine(kM f _ fs).2 g<|hw g λ y=>hg ?_;rw[P3 z];exact y
end
def Ur(C:δ)(fs:γ Str):Sp:=λ vs H Q _=>∃e oe as,vs=.ref e::as/\as.length=fs.length/\H e=AC (M9 e oe)/\oe.cls=.ref C/\oe.dict=At/\(∃ws,oe.data=.fields ws) /\
 ∀dx,H dx=At->dx≠e->Q .non (upd (upd H e<|M9 e {oe with dict:=AC dx}) dx<|S6 dx<|fs.zip as)
theorem yK:upd (upd H a o) a o'=upd H a o':=funext λ b=>by
 by_cases h:b=a
 .subst h;rw[aP,aP]
 .rw[aE h,aE h,aE h]
section
variable{K:Frag}
theorem VL{st:θ}(k:qO K C)(ht:findIn K (.ref C) a=AC At)(F:Cs K "__init__" qual st f fd)(hb:aJ st=[.Assign [.Attribute (.Name "self" p1) a p2] (.Name a p3) p4])
 (S:a! ["self",a] ["self",a] (ai st)) (hv:∀x∈(["self",a]:γ Str),HD (ai st) x) (hd:(a==("__debug__"))=AT) (hc:(a==("__classdict__"))=AT):ee P w K mg base jd 1 f fd ["self",a] (Ur C [a]):=by
 let⟨oc,od,kV,doc,pm,an,bh,ct,um,rfl,lk,m?⟩:=F.ex;refine vU lk m? S (by rintro vs H Q E ⟨e,oe,as,h,hl,_⟩;subst h;simp[hl]) ?_;rintro A outer s H vs Q E hr ⟨e,oe,as,h,hl,he,h1,h2,h3,q⟩;rw[hb];refine⟨_,mY<|O_ (j:=0) (i:=1) k ht (kU rfl (hv _<|.head _) ∅ ∅) (kU rfl (hv _<|.tail _<|.head _) hd hc) rfl,?_⟩;subst h
 match as,hl with
 |[v],_=>exact⟨e,oe,v,rfl,rfl,he,h1,h2,h3,q⟩
theorem VJ{st:θ}(k:qO K C)(ht:findIn K (.ref C) a=AC At)(_k:findIn K (.ref C) b=AC At)(F:Cs K "__init__" qual st f fd)
 (hb:aJ st=[.Assign [.Attribute (.Name "self" p1) a p2] (.Name a p3) p4,.Assign [.Attribute (.Name "self" q1) b q2] (.Name b q3) q4]) (qQ:b≠a)
 (S:a! ["self",a,b] ["self",a,b] (ai st)) (hv:∀x∈(["self",a,b]:γ Str),HD (ai st) x) (hd:∀x∈[a,b],(x==("__debug__"))=AT/\(x==("__classdict__"))=AT):ee P w K mg base jd 1 f fd ["self",a,b] (Ur C [a,b]):=by
 let⟨oc,od,kV,doc,pm,an,bh,ct,um,rfl,lk,m?⟩:=F.ex;refine vU lk m? S (by rintro vs H Q E ⟨e,oe,as,h,hl,_⟩;subst h;simp[hl]) ?_;rintro A outer s H vs Q E hr ⟨e,oe,as,h,hl,he,h1,h2,h3,q⟩;rw[hb];refine⟨_,kI (O_ (j:=0) (i:=1) k ht (kU rfl (hv _<|.head _) ∅ ∅) (kU rfl (hv _<|.tail _<|.head _) (hd _<|.head _).1 (hd _<|.head _).2) rfl)
 <|mY<|UN (C:=C) (j:=0) (i:=2) k _k (kU rfl (hv _<|.head _) ∅ ∅) (kU rfl (hv _<|.tail _<|.tail _<|.head _) (hd _<|.tail _<|.head _).1 (hd _<|.tail _<|.head _).2) rfl,?_⟩
 subst h
 match as,hl with
 |[v,u],_=>
  refine⟨e,oe,v,rfl,rfl,he,h1,h2,h3,λ dx n ne=>⟨e,{oe with dict:=AC dx},u,dx,_,rfl,rfl,by rw[aE<|A07 ne,aP],h1,rfl,h3,ne,aP,by simp,?_⟩⟩;rw[yK];have:jT b u [(a,v)]=[a,b].zip [v,u]:=by unfold jT;rw[P3<|A07 qQ];rfl
  rw[this];exact q dx n ne
end
abbrev T!:γ ζ:=[.type "ValueError",.type "Exception",.type "BaseException",.type "object"]
def CC(K:Frag)(C:δ):Bool:=match K.lookup C with
|some ⟨.type "type",_,.cls cd,sl⟩=>(match cd.mro,sl.toList with
 |.ref C'::bm,[_,_,_,_,AC (.builtin n),_]=>C'==C&&n=="ValueError.__new__" && !cd.hasDel&&tailIn K T! bm
 | _,_=>AT)
|_=>AT
def LH(C:δ)(h:ν):Prop:=∃(tl:γ ζ)(ns:δ)(nm qn:Str)(bs:γ ζ)(hd:Bool)(sn:γ Str)(sub:γ ζ)(ab:Bool)(col:ε Bool)(dd:ε δ)(s0 s1 s2 s3 s5:ε ζ),
 h.get? C=AC (excClassObj nm qn C ns bs tl hd sn sub ab col dd s0 s1 s2 s3 s5 "ValueError.__new__")/\OwnTail h T! tl
theorem WL{K:Frag}(X:K.In h)(q:CC K C=Ch):LH C h:=by
 unfold CC at q;split at q
 .rename_i dd cd sl ho;split at q
  .rename_i C' tl s0 s1 s2 s3 id s5 e1 e2;simp only[A35,A29,C21]at q;let⟨⟨⟨rfl,rfl⟩,r1⟩,r2⟩:=q;cases cd;dsimp only at e1 r1;subst e1 r1;obtain rfl:sl=#[s0,s1,s2,s3,AC (.builtin "ValueError.__new__"),s5]:=by cases sl;simp only at e2;rw[e2]
   exact⟨tl,_,_,_,_,_,_,_,_,_,dd,s0,s1,s2,s3,s5,X _ _ ho,tail_of_in X r2⟩
  .cases q
 .cases q
section
variable{K:Frag}
theorem Hg{os:OsState}{rest:γ ζ}(X:K.In h)(q:LH C h)(hi:findIn K (.ref C) "__init__"=AC (AC<|.ref fI))(hf:typeIn K (.ref fI)=AC (.type "function"))(vM:rest.length<=sizeLine)
 (hq:∀h' e,bv h h' e (.ref C) rest->FM (model prog w) A (call (.ref fI)<|.ref e::rest) (λ r s'=>r=.none/\Q (.done<|.ret<|.ref e) s') E ⟨h',g,d,t,os⟩) :
 FM (model prog w) A (Builtin.«type.__call__» ⟨.ref C::rest,[]⟩) Q E ⟨h,g,d,t,os⟩:=by
 let⟨tl,ns,nm,qn,bs,hd,sn,sub,ab,col,dd,s0,s1,s2,s3,s5,hC,T⟩:=q;have F:=C42
 repeat (first|with_reducible refine A96 hC ?_|with_reducible refine wpAny_madeBy_exc hC ?_|wp_step)
 refine codeAny_call_builtin_code (Code.quiet_builtin _ F.quiet)<|wpAny_check_new_subT F T hC<|codeAny_exc_new_subT F T hC ?_ vM;show FM _ _ _ _ _ _;have kp:∀b o,h.get? b=AC o->((h.push {cls:=.type "tuple",data:=.seq rest.toArray}).push {cls:=.ref C,data:=.fields #[.ref h.objs.size,.none,.none,.none,.bool AT,.none]}).get? b=AC o:=λ b o z=>A02 _<|A02 _ z;have _8:=kp _ _ hC;have X1:=X.keeps kp;have V4:((h.push {cls:=.type "tuple",data:=.seq rest.toArray}).push {cls:=.ref C,data:=.fields #[.ref h.objs.size,.none,.none,.none,.bool AT,.none]}).get? (h.objs.size+1)=AC {cls:=.ref C,data:=.fields #[.ref h.objs.size,.none,.none,.none,.bool AT,.none]}:=by heap_get
 have hcC:(Value.ref C::tl).contains (.ref C)=Ch:=by simp
 unfold isInstance
 repeat (first|with_reducible refine A96 V4 ?_|(with_reducible refine C25 _8 ?_;rw[hcC])|wp_step)
 show FM _ _ (typeLookup (.ref C) _) _ _ _;refine(B13 (M:=model prog w) X1 hi).at ?_;refine A39<|T0<|(bind_fn (M:=model prog w) X1 _ hf).at ?_;refine T0<|A21 (hq _ (h.objs.size+1) ⟨kp,B43<|A61 _,h.objs.size,V4,B43<|v6 _,A02 _<|Heap.get?_push_at rfl rfl⟩) (λ r s' hr=>?_) λ _ _ x=>x;let⟨rfl,hQ⟩:=hr
 wp_walk
 exact hQ
theorem Hh{rest:γ ζ}(X:K.In s.heap)(q:LH C s.heap)(hi:findIn K (.ref C) "__init__"=AC (AC<|.ref fI))(hf:typeIn K (.ref fI)=AC (.type "function"))(vM:rest.length<=sizeLine)
 (hq:∀h' e,bv s.heap h' e (.ref C) rest->FM (model prog w) (A.under<|.builtin "type.__call__" ⟨.ref C::rest,[]⟩) (call (.ref fI)<|.ref e::rest) (λ r s'=>r=.none/\Q (.ref e) s') E {s with heap:=h'}) :
 FM (model prog w) A (call (.ref C) rest) Q E s:=by
 let⟨h,g,d,t,os⟩:=s;dsimp only at X q hq;let⟨tl,ns,nm,qn,bs,hd,sn,sub,ab,col,dd,s0,s1,s2,s3,s5,hC,T⟩:=id q;have f1:=tc_lookup;have f2:=tc_bind<|.ref C;have hT:(⟨h,g,d,t,os⟩:η).TypeIs (.ref C) "type":=⟨_,hC,rfl⟩
 refine A60<|codeAny_of_tree ?_
 repeat (any_goals (first|assumption|with_reducible refine A96 hC ?_|wp_step))
 exact⟨rfl,codeAny_call_builtin_at (Code.quiet_builtin _ (by decide +kernel)) entry_typeCall<|wpAny_check_type_call_sub hC<|Hg X q hi hf vM λ h' e hm=>hq h' e hm⟩
end
end ZS
namespace Z
def iA(c:γ Nat)(fs:γ (γ Nat))(as:AF)(ρ:Env):ε XN:=match as ρ with
|.ok ds=>if ds.length=fs.length then AC (c,fs.zip ds)else At
|.bad=>At
def WC(i:Nat)(cs f:γ Nat)(ρ:Env):Res D:=match ρ[i]? with
| some<|some<|.exc c=>if c.1=cs then(match c.2.lookup f with
 |some d=>.ok d
 | none=>.bad)else .bad
|_=>.bad
end Z
namespace ZS
open L2 PySem.W
section
variable{σ:St}
theorem Mm(I:Inv X χ σ H s)(ha:H a=AC (.ext φ)):Inv X χ σ (λ b=>if b=a then At else H b) s:=by
 have ne:∀b u,H b=AC u->(∀φ,u≠.ext φ)->b≠a:=λ b u q z e=>by subst e;rw[ha]at q;cases q;exact z _ rfl
 have go:∀b u,H b=AC u->(∀φ,u≠.ext φ)->(λ b=>if b=a then At else H b) b=AC u:=λ b u q z=>by show(if b=a then At else H b)=_;rw[P3<|ne b u q z];exact q
 refine EX (ch:=[]) I (λ b hb=>nomatch hb) (λ b o _ _ _ q _=>q) (λ b o _ _ _ q _=>⟨_,q⟩)
  (λ b o _ q n=>by rw[n];split<;>rfl) (λ b o _ q=>⟨o,q⟩) (λ b xs q=>go b _ q λ _ z=>nomatch z) (λ b o u q=>go b _ q λ _ z=>nomatch z) (λ b u p q=>go b _ q λ φ z=>by subst z;exact p.elim) (λ m hm=>hm) (λ b u q=>?_) I.bare
 have q:=q;split at q
 .cases q
 .exact(I.cy b u q).oy (λ c v _ z=>z) (λ c z=>go c _ z λ _ y=>nomatch y) (λ c xs z=>go c _ z λ _ y=>nomatch y) λ c v p z=>go c _ z λ φ y=>by subst y;exact p.elim
theorem MM(hex:X.ex=[])(q:LH C s.heap)(hi:findIn X.K (.ref C) "__init__"=AC (AC<|.ref f))(hf:isFn X.K (.ref f)=Ch)(F:ee X.prog X.w X.K X.mg X.base jd k f fd ("self":: fs) (Ur C fs))
 (hb:Binds X.K fd ("self":: fs) []) (hr:bR (k+1) X.A) (I:Inv X χ σ H s) (r:Vals vs us) (hl:vs.length=fs.length) (hz:us.length<=100) :
 FM (model X.prog X.w) X.A (call (.ref C) us) (λ v s'=>∃e dx od H',v=.ref e/\Inv X χ σ H' s'/\aG H H'/\H' dx=AC (.eH od<|.xd<|fs.zip vs)/\OO X χ H' s' e C (AC dx)/\∃t,s'.heap.get? e=AC {cls:=.ref C,dict:=AC dx,data:=.fields #[.ref t,.none,.none,.none,.bool AT,.none]}) X.xe s:=by
 refine Hh I.kB q hi (A29.mp hf) (by rw[A33];lia) λ h' e hm=>?_;let⟨J,th⟩:=EN hex I hm;let⟨oe,ws,he,hc,hd,n9,_⟩:=th.ex;let⟨tt,htt,_,_⟩:=hm.there;have J2:=Io J th.off.free th.off.new (th.off.loc J) (th.off.cell J) th.off.pin<|JB he;have Cy:Ur C fs (.ref e::vs) (upd H e<|M9 e oe) (λ v H3=>v=.non/\∃dx,H dx=At/\dx≠e/\H3=upd (upd H e<|M9 e {oe with dict:=AC dx}) dx (S6 dx<|fs.zip vs)) (λ _ _ _=>False):=
  ⟨e,oe,vs,rfl,hl,aP,hc,hd,⟨ws,n9⟩,λ dx hn ne=>⟨rfl,dx,by rw[aE ne]at hn;exact hn,ne,by rw[yK]⟩⟩
 have r2:Vals (V.ref e::vs) (Value.ref e::us):=.cons rfl r;have NZ:(Value.ref e::us++[]).length=("self":: fs:γ Str).length:=by simp[<-r.length,hl]
 refine A60<|A72 (F.run _ X.stack _ _ ⟨Value.ref e::us,[]⟩ (Value.ref e::us) _ _ _ (hr.make C us []) (J2.Hj.make C us []) (by have:=hb _ (Value.ref e::us) J2.kB NZ;simpa using this) r2 Cy) λ rr s' hq=>?_;cases rr with
 |error ev=>exact hq.elim
 |ok fl=>
  cases fl with
  |ret u=>
   let⟨v,H3,I3,rv,ev,dx,hn,ne,rfl⟩:=J2.after hq;subst ev;obtain⟨⟨mA,n1,rr,_⟩,⟨od,god⟩,_⟩:=(I3.cy dx _ aP)
   have hx:=(show fW X.prog X.w _ s'.heap e (M9 e {oe with dict:=AC dx})from I3.cy e _ (by rw[aE<|A07 ne,aP])).1;have I4:=I3.write (o:=.eH od (.xd<|fs.zip vs)) (t':=s'.toks) (h':=s'.heap) (by rw[aP];exact On) (.inl rfl) (λ b o _ z=>z) ⟨_,god⟩ ⟨god,mA,n1,rr⟩;rw[yK]at I4;have I5:=Mm (a:=e) I4 (by rw[aE<|A07 ne,aP]);obtain rfl:=A06 (he.symm.trans htt);cases n9;refine⟨rv,e,dx,od,_,rfl,I5,λ b o z=>?_,?_,⟨⟨?_,th.off.new,th.off.pin,_,_,hx,rfl⟩,_,_,hx,rfl,rfl,rfl,.inl rfl⟩,tt,hx⟩
   .show(if b=e then At else upd _ dx _ b)=_;rw[P3<|bt z th.off.free,aE<|bt z hn,aE<|bt z th.off.free];exact z
   .skip
    rw[P3 ne,aP]
   .skip
    rw[f8 rfl]
  |next=>exact hq.elim
  |brk=>exact hq.elim
  |cont=>exact hq.elim
theorem Qu(hh:A.handled=At)
 (h:FM M A x (λ v s₁=>∃e dx t,v=.ref e/\LH C s₁.heap/\s₁.heap.get? e=AC {cls:=.ref C,dict:=dx,data:=.fields #[.ref t,.none,.none,.none,.bool AT,.none]}/\E (.ref e) s₁) E s):FM M A (raiseStmt env (AC x) At) Q E s:=by
 refine T0<|A21 h (λ v s₁ h₁=>?_) λ _ _ x=>x;let⟨e,dx,t,rfl,⟨tl,ns,nm,qn,bs,hd,sn,sub,ab,col,dd,s0,s1,s2,s3,s5,hC,T⟩,he,hE⟩:=h₁;have _X:(Value.ref C::tl).contains (.type "BaseException")=Ch:=by rw[C23,T.hasType C42.hasBase,C24]
 let⟨hp,g,d,tk,os⟩:=s₁
 repeat (first|with_reducible refine A96 he ?_|with_reducible refine A96 hC ?_|(with_reducible refine C25 hC ?_;rw[_X])|wp_step)
 exact wpAny_raiseNew_none hh hE
end
structure LI(P:Program)(w:World)(K:Frag)(mg:Str->Option Value)(base:Heap)(C:Addr)(k:Nat)(fz:List (List Nat)):Prop where
 ex:∃f fd,CC K C=Ch/\keepIn K (.ref C)=Ch/\findIn K (.ref C) "__init__"=AC (AC<|.ref f)/\isFn K (.ref f)=Ch/\ee P w K mg base jd k f fd ("self":: fz.map λ f=>⟨f.toArray⟩) (Ur C<|fz.map λ f=>⟨f.toArray⟩)/\Binds K fd ("self":: fz.map λ f=>⟨f.toArray⟩) []
theorem u9{K:Frag}:∀{fz:γ (γ Nat)}{ds}{vs},ds.length=fz.length->aI K H ds vs->Paired (λ(p)(q)=>p.1=⟨q.1.toArray⟩/\Den K H q.2 p.2) ((fz.map λ f=>(⟨f.toArray⟩:Str)).zip vs) (fz.zip ds)
|[],[],vs,_,d=>.nil
|f::fz,d::ds,vs,h,dd=>by let⟨v,r,rfl,d1,d2⟩:=dd;exact .cons ⟨rfl,d1⟩<|u9 (by simpa using h) d2
section
variable{H0:Hp}{pos:Pos}
theorem _root_.ZQ.qS{np nG:Pos}(hc:X.calm=Ch)(hex:X.ex=[])(hg:Gl X x)(_U:(⟨c.toArray⟩)=x)(xc:XC X.K c C)(J:LI X.prog X.w X.K X.mg X.base C k fz)(hr:bR (k+1) X.A)(ha:ZQ.QA X.gK (e::es) ar)(hfz:fz≠[])(LX:fz.length<=100)
 (gP:(x==("__debug__"))=AT:=by decide +kernel) (he:Se e es X.env:=by rfl) (fA:Pn nG es X.env:=by rfl) :
 ZQ.SV X H0 (.Raise (AC<|.Call (.Name x np) (e::es) [] nG) At pos) (Z.iA c fz ar):=⟨by
 let⟨f,fd,xj,hk,hi,hf,F,hb⟩:=J.ex;intro χ s σ H D I h;let⟨ρ,c',rs,ec,kw⟩:=h;unfold Z.iA at ec;split at ec
 .rename_i ds ed;split at ec
  .rename_i hl;cases ec;have hm:X.mg x=AC (.ref C):=by have:=A15 I.kB (I.mod.glob.keeps I.bk) xc.1;rw[_U]at this;exact this
   rw[arm_exec_Raise];refine T0<|B52<|Qu (C:=C) (I.ok.hd hc) ?_;refine T0<|A21 (A73<|k9 I hg hm ?_ gP) (λ v s₃ h₃=>T0<|B52<|M2 h₃) λ _ _ x=>x;refine A83 I.ok.mod.HN hk (da (PA.gK ha.p nG χ s σ H (λ vs H1=>aG H H1/\aI X.K H1 ds vs) I ⟨ρ,ds,rs.re,ed,λ vs H1 s1 d1=>⟨s1,d1⟩⟩) λ us s1 ⟨vs,H1,I1,r,sm,d1⟩=>⟨I1.kB,?_⟩) he fA;have Yh:vs.length=fz.length:=by rw[<-hl];exact d1.length
   refine da (MM hex (WL I1.kB xj) hi hf F hb hr I1 r (by rw[Yh,A17]) (us:=us) (by rw[<-r.length,Yh];exact LX)) ?_;rintro v s2 ⟨e2,dx,od,H2,hv,I2,A3,Kj,th,t,LU⟩;exact⟨e2,AC dx,t,hv,WL I2.kB xj,LU,kw χ σ H2 s2 e2 C (AC dx) (rs.same.trans<|sm.trans A3) ⟨xc,by
    refine⟨?_,od,_,Kj,u9 hl<|d1.up A3⟩;cases fz with
    |nil=>exact absurd rfl hfz
    |cons a l=>cases ds with
     |nil=>cases hl
     |cons b m=>exact λ z=>nomatch z⟩ I2 th⟩
  .cases ec
 .cases ec⟩
end
def O0(K:Frag)(f:Str)(c:γ Nat):Prop:=∃C,nsIn K mainGlobals ⟨c.toArray⟩=AC (AC<|.ref C)/\nL K C/\qO K C/\findIn K (.ref C) f=AC At
theorem nU{K:Frag}:∀{fT}{fs},Paired (λ(p:Str×V)(q:γ Nat×Z.D)=>p.1=⟨q.1.toArray⟩/\Den K H q.2 p.2) fT fs->fs.lookup f=AC d->∃v,fT.lookup ⟨f.toArray⟩=AC v/\Den K H d v
|_,_,.nil,h=>nomatch h
|(g,v)::fT,(g',d')::fs,.cons ⟨h1,h2⟩ r,h=>by
 dsimp only at h1 h2;subst h1;rw[A51]at h;by_cases z:f=g'
 .subst z;rw[A88]at h;cases h;exact⟨v,by rw[A51,A88],h2⟩
 .rw[A57.mpr z]at h;let⟨u,e1,e2⟩:=nU r h;exact⟨u,by rw[A51,A57.mpr λ y=>z (by injection y with y;simpa using A10 TD y)];exact e1,e2⟩
theorem _root_.ZQ.PM(ha:PE X a (kE i))(hf:(⟨fz.toArray⟩)=f)(hk:O0 X.K f cs)(hb:attributeBase a f X.env (eval a X.env)=eval a X.env:=by rfl):ZQ.QE X (.Attribute a f pos) (Z.WC i cs fz):=⟨by
 rintro χ s σ H Q I ⟨ρ,d,r,e,k⟩;unfold Z.WC at e;split at e
 .rename_i c hi;split at e
  .rename_i hc;split at e
   .rename_i d' hl;cases e;let⟨v,hv,p,o,u,C,rfl,h1,h2,h3,h4⟩:=r.get i _ hi;let⟨C',n1,k1,k2,k3⟩:=hk;have e0:=h4.1.1;rw[hc]at e0;cases e0.symm.trans n1;have xd:=h4.2;cases Cz:o.dict with
    |none=>rw[Cz]at xd;have xd:=xd;rw[xd]at hl;cases hl
    |some dx=>
     rw[Cz]at xd;let⟨_,od,fT,q,pr⟩:=xd;let⟨v,DU,dv⟩:=nU pr hl;refine F7 hb<|da (ha χ s σ H (λ y H1=>y=.ref p/\H1=H) I ⟨_,hv,rfl,rfl⟩) ?_;rintro u' s1 ⟨x,H1,I1,rx,q1,q2⟩;subst q1 q2;obtain rfl:u'=Value.ref p:=rx;obtain⟨g1,_⟩:=(I1.cy p _ h1)
     obtain⟨g2,mA,n2,rr⟩:=(I1.cy dx _ q)
     let⟨w1,hu,ru⟩:=ud.some_of (v:=v) (o:=mA f) (by rw[<-DU,hf];exact rr f);exact Od k1 k2 I1.kB g1 h2 Cz h3 k3 n2 hu (ye ru) λ tk=>⟨v,_,I1.tok _,ru,k v _ (aG.refl _) dv⟩
   .cases e
  .cases e
 .cases e⟩
end ZS
namespace Z
end Z
namespace PySem
section
variable{K:Type}[DecidableEq K]{knd:KeyKind prog w K}
end
end PySem
namespace ZS
open L2
end ZS
namespace ZQ
open L2 ZS
end ZQ
namespace Z
end Z
namespace ZS
open L2 PySem.W
end ZS
namespace ZQ
open L2 ZS PySem.W
end ZQ
namespace Z
def eM(kd i:Nat)(ρ:Env):Res D:=match ρ[i]? with
|some<|some<|.bor<|.dct (.inl a::.inl k::ks) vs=>if k=(kd:Int)then .ok (.dct (.inl a::.inl k::ks) vs)else .bad
|_=>.bad
def qr:γ (Sum Int<|γ Nat)->γ D->γ Nat->Res D
|.inr k::ks,v::vs,f=>if k=f then .ok v else qr ks vs f
|_,_,_=>.bad
def ia(f:γ Nat):D->Res D
|.dct (.inl _::.inl _::ks) vs=>qr ks vs f
|_=>.bad
def Sb(bs:γ Bool)(n:Nat)(b:XF)(ds:γ D):ε XN:=if ds.length=bs.length then b (startB n bs ds)else At
theorem Wn(bs:γ Bool)(n:Nat)(b:XF)(ds:γ D)(h:ds.length=bs.length):Sb bs n b ds=b (startB n bs ds):=f8 h
inductive xC where
|nx (ρ:Env)
|rt (d:D) (ts:List D)
abbrev SM:=Env->Res xC
def Qf:ε (ε L)->D
|some<|some<|.bor d=>d
|_=>.non
def h9(ms:γ Nat)(ρ:Env):γ D:=ms.map λ i=>Qf ρ[i]?
def lO:ε L->Prop
|some<|.bor _=>True
|_=>False
def iY(ms:γ Nat):Nat->Env->Prop
|_,[]=>True
|k,x::r=>(lO x->k∈ms)/\iY ms (k+1) r
def bS(ms:γ Nat)(ρ ρ':Env):Prop:=(∀i∈ms,ρ'[i]?=ρ[i]?)/\iY ms 0 ρ'
def a_(ms:γ Nat)(g:SF)(ρ:Env):Res xC:=(g ρ).bind λ fl=>match fl with
|.nx ρ'=>guard (bS ms ρ ρ')<|.ok<|.nx ρ'
|.rt d=>.ok<|.rt d<|h9 ms ρ
|_=>.bad
def bY(a b:SM)(ρ:Env):Res xC:=(a ρ).bind λ fl=>match fl with
|.nx ρ'=>b ρ'
|o=>.ok o
def lV(f:γ Nat)(d:D):γ (Sum Int<|γ Nat)->γ D->γ (Sum Int<|γ Nat)×γ D
|.inr k::ks,v::vs=>if k=f then(.inr k::ks,d::vs)else(.inr k::(lV f d ks vs).1,v::(lV f d ks vs).2)
|_,_=>([.inr f],[d])
def A5(f:γ Nat)(x:D)(t:ε (ε L)):Res L:=match t with
|some<|some<|.bor<|.dct (.inl a::.inl k::ks) vs=>guard (k=0/\(lV f x ks vs).1=(cC.take (lV f x ks vs).1.length).map .inr)<|.ok<|.bor<|.dct (.inl a::.inl k::(lV f x ks vs).1) (lV f x ks vs).2
|_=>.bad
def tQ(i:Nat)(f:γ Nat)(e:EF)(ρ:Env):Res xC:=(e ρ).bind λ d=>(A5 f d ρ[i]?).bind λ l=>.ok<|.nx<|ρ.set i<|some l
def D'(ms:γ Nat)(bs:γ Bool)(n:Nat)(b:SM)(ds:γ D):Res (D×γ D):=if ds.length=bs.length then(match b (startB n bs ds)with
|.ok<|.rt d ts=>.ok (d,ts)
|.ok<|.nx ρ=>.ok (.non,h9 ms ρ)
| _=>.bad)else .bad
theorem vV(ms:γ Nat)(bs:γ Bool)(n:Nat)(b:SM)(ds:γ D)(h:ds.length=bs.length):D' ms bs n b ds=(match b (startB n bs ds)with
|.ok<|.rt d ts=>.ok (d,ts)
|.ok<|.nx ρ=>.ok (.non,h9 ms ρ)
| _=>.bad):=f8 h
open Classical in
def vg(m:γ D->Res (D×γ D))(ds:γ D):Res (γ D):=if h:∃fs,∀x:Nat,m (gD x 0 [] []::ds)=.ok (.non,[gD x 0 cC fs])then .ok h.choose else .bad
theorem JX(h:vg m ds=.ok fs):∀x,m (gD x 0 [] []::ds)=.ok (.non,[gD x 0 cC fs]):=by
 unfold vg at h;split at h
 .rename_i q;cases h;exact q.choose_spec
 .cases h
theorem JY(h:∀x,m (gD x 0 [] []::ds)=.ok (.non,[gD x 0 cC fs])):vg m ds=.ok fs:=by
 have q:∃fs,∀x,m (gD x 0 [] []::ds)=.ok (.non,[gD x 0 cC fs]):=⟨fs,h⟩
 unfold vg;rw[B03 q];have:=(q.choose_spec 0).symm.trans<|h 0;simp only[Res.ok.injEq,C26,true_and,B56,B28,gD,D.dct.injEq]at this;exact A10 _ this
open Classical in
def Lw(f:Nat->Res Fl):Res Fl:=if h:∃d,∀x,f x=.ok (.rt d)then .ok (.rt h.choose)else .bad
theorem OL(h:Lw f=.ok fl):∃d,fl=.rt d/\∀x,f x=.ok (.rt d):=by
 unfold Lw at h;split at h
 .rename_i q;cases h;exact⟨_,rfl,q.choose_spec⟩
 .cases h
theorem OM(h:∀x,f x=.ok (.rt d)):Lw f=.ok (.rt d):=by
 have q:∃d,∀x,f x=.ok (.rt d):=⟨d,h⟩
 unfold Lw;rw[B03 q];have:=(q.choose_spec 0).symm.trans<|h 0;simp only[Res.ok.injEq,Fl.rt.injEq]at this;exact A10 (λ d=>Res.ok _) this
open Classical in
def mkX(m:γ D->ε XN)(d:D):ε XN:=if h:∃c,∀x:Nat,m [gD x 0 [] [],d]=AC c then AC h.choose else At
abbrev Ga:=Env->Res (D×Env)
def fS:γ Nat->γ D->Env->Env
|i::is,t::ts,ρ=>fS is ts<|ρ.set i<|some<|.bor t
|_,_,ρ=>ρ
def iZ:Nat->γ Bool->γ Nat
|_,[]=>[]
|k,Ch::bs=>k::iZ (k+1) bs
|k,AT::bs=>iZ (k+1) bs
def HI:γ Bool->γ D->γ D
|true::bs,d::ds=>d::HI bs ds
|false::bs,_::ds=>HI bs ds
|_,_=>[]
def mP(f:EF)(ρ:Env):Res (D×Env):=(f ρ).bind λ d=>.ok (d,ρ)
def ck(fn:γ D->Res (D×γ D))(bs:γ Bool)(is:γ Nat)(ar:AF)(ρ:Env):Res (D×Env):=(ar ρ).bind λ ds=>guard (HI bs ds=h9 is ρ)<|(fn ds).bind λ r=>guard (r.2.length=is.length)<|.ok (r.1,fS is r.2 ρ)
def mB(op:D->D->Res D)(a b:Ga)(ρ:Env):Res (D×Env):=(a ρ).bind λ x=>(b x.2).bind λ y=>(op x.1 y.1).bind λ z=>.ok (z,y.2)
def mU(op:D->Res D)(a:Ga)(ρ:Env):Res (D×Env):=(a ρ).bind λ x=>(op x.1).bind λ z=>.ok (z,x.2)
def iO(e:Ga)(ρ:Env):Res xC:=(e ρ).bind λ r=>.ok<|.nx r.2
def Bx(ms:γ Nat)(e:Ga)(ρ:Env):Res xC:=(e ρ).bind λ r=>.ok<|.rt r.1<|h9 ms r.2
def gN(ρ:Env):Res xC:=.ok<|.nx ρ
abbrev Ey:=Env->Res (Bool×Env)
abbrev AMf:=Env->Res (γ D×Env)
def JP(t:TF)(ρ:Env):Res (Bool×Env):=(t ρ).bind λ b=>.ok (b,ρ)
def tP(e:Ga)(ρ:Env):Res (Bool×Env):=(e ρ).bind λ x=>match x.1 with
|.bl c=>.ok (c,x.2)
|_=>.bad
def Fm(t:Ey)(ρ:Env):Res (Bool×Env):=(t ρ).bind λ x=>.ok (!x.1,x.2)
def vf(a b:Ey)(ρ:Env):Res (Bool×Env):=(a ρ).bind λ x=>if x.1 then b x.2 else .ok (AT,x.2)
def Dp(a b:Ey)(ρ:Env):Res (Bool×Env):=(a ρ).bind λ x=>if x.1 then .ok (Ch,x.2)else b x.2
def Dv(a b:Ga)(ρ:Env):Res (D×Env):=(a ρ).bind λ x=>match x.1 with
|.bl c=>if c then b x.2 else .ok (.bl AT,x.2)
|_=>.bad
def jU(t:Ey)(a b:SM)(ρ:Env):Res xC:=(t ρ).bind λ c=>if c.1 then a c.2 else b c.2
def rd(i:Nat)(m:γ D->Res (D×γ D))(a:EF)(r:SM)(ρ:Env):Res Fl:=(a ρ).bind λ d=>(vg m [d]).bind λ fs=>guard (iY [i] 0<|ρ.set i<|some<|.bor<|.dct [] []) (Lw λ x=>(r<|ρ.set i<|some<|.bor<|gD x 0 cC fs).bind λ fl=>match fl with
|.rt d _=>.ok<|.rt d
| _=>.bad)
def gR(ms:γ Nat)(g:GF)(b:SM):γ D->Env->Res xC
|[],ρ=>.ok<|.nx ρ
| d::r,ρ=>(g d ρ).bind λ ρ1=>guard (bS ms ρ ρ1) ((b ρ1).bind λ fl=>match fl with
 |.nx ρ'=>gR ms g b r ρ'
 | .rt d ts=>.ok<|.rt d ts)
def Du(ms:γ Nat)(it:LF)(g:GF)(b:SM)(ρ:Env):Res xC:=(it ρ).bind λ ds=>gR ms g b ds ρ
end Z
namespace ZS
open L2 PySem.W
def PX(K:Db)(H:Hp)(kd:Nat)(d:Z.D)(v:V):Prop:=∃a ks ds u,d=Z.gD a kd ks ds/\v=.ref a/\H a=AC u/\HY K H kd ks ds u
theorem PX.b{K:Db}(h:PX K H kd d v):jY K H d v:=let ⟨a,ks,ds,u,h⟩:=h;.inr ⟨a,kd,ks,ds,u,h⟩
theorem PX.up{K:Db}(h:PX K H kd d v)(e:aG H H'):PX K H' kd d v:=by let⟨a,ks,ds,u,e1,e2,q,t⟩:=h;exact⟨a,ks,ds,u,e1,e2,e _ _ q,t.ups<|lN e⟩
def tZm(K:Db)(kd:Nat)(f:Z.EF):TE:=λ σ H Q=>∃ρ d,RE K H σ ρ/\f ρ=.ok d/\∀v H',aG H H'->PX K H' kd d v->Q v H'
abbrev DM(X:Cx)(kd:Nat)(e:ι)(f:Z.EF):Prop:=PE X e<|tZm X.K kd f
structure _root_.ZQ.QM(X:Cx)(kd:Nat)(e:Expr)(f:Z.EF):Prop where p:DM X kd e f
theorem WH(h:Z.eM kd i ρ=.ok d):∃a ks vs,ρ[i]?=AC (AC<|.bor d)/\d=.dct (.inl a::.inl (kd)::ks) vs:=by
 unfold Z.eM at h;split at h
 .rename_i a k ks vs q;split at h
  .rename_i hk;subst hk;cases h;exact⟨a,ks,vs,q,rfl⟩
  .cases h
 .cases h
theorem K!{K:Db}{kd:Nat}(h:jY K H (.dct (.inl a::.inl (kd)::ks) vs) v):PX K H kd (.dct (.inl a::.inl (kd)::ks) vs) v:=by
 let⟨a',DH,ur,ds,u,e1,e2,q,t⟩:=h.gD;have:DH=kd:=by
  injection e1 with e1 _
  injection e1 with _ e1
  injection e1 with e1 _
  injection e1 with e1
  exact(B73 e1).symm
 subst this;exact⟨a',ur,ds,u,e1,e2,q,t⟩
theorem _root_.ZQ.cS(h:PE X e (kE i)):ZQ.QM X kd e (Z.eM kd i):=⟨PE.imp h <|by rintro σ H Q ⟨ρ,d,r,e,k⟩;let⟨a,ks,vs,hi,rfl⟩:=WH e;let⟨v,h1,h2⟩:=r.get i _ hi;exact⟨v,h1,k v H (aG.refl H)<|K! h2⟩⟩
theorem _root_.ZQ.dW(ha:ZQ.QM X kd e f)(hr:ZQ.OU X es bs g)(hs:Se e es X.env:=by rfl):ZQ.OU X (e::es) (Ch::bs) (Z.aa f g):=⟨PA.imp (bL ha.p hr.p hs) <|by rintro σ H Q ⟨ρ,ds,r,e,k⟩;let⟨x,ea,e⟩:=WP e;let⟨xs,eb,e⟩:=WP e;cases e;exact⟨ρ,x,r,ea,λ v H1 s1 d1=>⟨ρ,xs,r.up s1,eb,λ vs H2 s2 t=>k _ H2 (s1.trans s2) ⟨v,vs,rfl,(d1.up s2).b,t⟩⟩⟩⟩
theorem JS{a b:γ Nat}:((⟨a.toArray⟩:Str)=⟨b.toArray⟩)↔a=b:=⟨λ h=>by simpa using A10 (λ s=>s.cps.toList) h,λ h=>by rw[h]⟩
theorem FH{K:Db}{H:Hp}{f:γ Nat}{d:Z.D}:∀{ks:γ (γ Nat)}{ds:γ Z.D}{fs:γ (Str×V)},Z.qr (ks.map .inr) ds f=.ok d->fs.map (·.1)=ks.map (λ c=>(⟨c.toArray⟩:Str))->aI K H ds (fs.map (·.2))->∃v,fs.lookup ⟨f.toArray⟩=AC v/\Den K H d v
|[],ds,fs,h,_,_=>by cases h
|k::ks,[],fs,h,_,_=>by cases h
|k::ks,x::ds,[],_,h2,_=>by cases h2
|k::ks,x::ds,(n,v)::fs,h,h2,h3=>by
 simp only[A12,B56]at h2;simp only[A12,aI]at h3;let⟨v',r,e1,h4,h5⟩:=h3;cases e1;let⟨e2,h2⟩:=h2;subst e2;simp only[A12,Z.qr]at h;by_cases hk:k=f
 .subst hk;rw[f8 rfl]at h;cases h;exact⟨v,by simp[Gc],h4⟩
 .rw[P3 hk]at h;let⟨w,q1,q2⟩:=FH h h2 h5;refine⟨w,?_,q2⟩;have:((⟨f.toArray⟩:Str)==⟨k.toArray⟩)=AT:=A57.mpr λ z=>hk (JS.mp z).symm;simp only[Gc,this];exact q1
def T4(K:Db)(f:Str):Prop:=∃C,nsIn K mainGlobals "Desk"=AC (AC<|.ref C)/\findIn K (.ref C) f=AC At
theorem _root_.ZQ.fO(hn:T4 X.K f)(ho:ZQ.QM X 0 o fo)(hf:(⟨fc.toArray⟩)=f)(hb:attributeBase o f X.env (eval o X.env)=eval o X.env:=by rfl):ZQ.QE X (.Attribute o f pos) (Z.eU (Z.ia fc) fo):=⟨PE.imp (QO ho.p hb) <|by
 rintro σ H Q ⟨ρ,d,r,e,k⟩;let⟨x,ea,e⟩:=WP e;refine⟨ρ,x,r,ea,λ v H1 s1 d1=>?_⟩;let⟨a,ks,ds,u,rfl,rfl,q,t⟩:=d1;rcases t with⟨_,_,C,dx,fs,rfl,hC,h3,h4⟩|⟨z,_⟩
 .let⟨v,q1,q2⟩:=FH e h3 h4;let⟨C',e1,e2⟩:=hn;have:=e1.symm.trans hC.1;cases this;rw[hf]at q1;exact⟨a,C,dx,fs,v,rfl,q,hC.2,e2,q1,k v H1 s1 q2⟩
 .cases z⟩
theorem m9{fs:γ (Str×V)}(h:fs.map (·.1)=(Z.cC.take n).map (λ c=>(⟨c.toArray⟩)))(hm:(Z.cC.map λ c=>(⟨c.toArray⟩)).contains m=AT):fs.lookup m=At:=by
 have hk:∀y∈fs.map _,(m==y)=AT:=λ y hy=>by rw[h]at hy;let⟨c,hc,rfl⟩:=A05.mp hy;have:(⟨_⟩)∈Z.cC.map (λ c=>(⟨c.toArray⟩:Str)):=A05.mpr ⟨c,List.mem_of_mem_take hc,rfl⟩;refine A57.mpr λ z=>?_;rw[<-z,<-List.contains_iff_mem,hm]at this;cases this
 clear h
 induction fs with
 |nil=>rfl
 |cons x r ih=>let⟨n,v⟩:=x;simp only[Gc,hk n ∅];exact ih λ y hy=>hk y (by simp;right;simpa using hy)
structure Aa(P:Program)(w:World)(K:Db)(mg:Str->Option Value)(base:Heap)(m:Str)(k:Nat)(ps:List Str)(bs:List Bool)(fn:List Z.D->Z.Res Z.D):Prop where
 ex:∃C g fd,ue K "Desk" C/\Meth K C m g/\ee P w K mg base jd k g fd ps (IF K bs fn)/\Binds K fd ps []
theorem _root_.ZQ.eJ(C:Aa X.prog X.w X.K X.mg X.base m k ps [Ch] fn)(hr:bR k X.A)(ho:ZQ.QM X 0 o fo)(hf:(Z.cC.map λ c=>(⟨c.toArray⟩)).contains m=AT)
 (ht:eval (.Call (.Attribute o m apos) [] [] pos) X.env=(do
  let ov ←eval o X.env
  standAt apos.atName
  let (f,first) ←holding [ov] (getMethod ov m pl)
  callWith pos f first (backTo pos<|starEach [] X.env) (backToKw pos<|keywordEach [] X.env)):=by rfl) :
 ZQ.QE X (.Call (.Attribute o m apos) [] [] pos) (Z.aD fn<|Z.aa fo Z.av):=⟨by
 let⟨C,g,fd,hC,hm,F,hb⟩:=C.ex;refine PE.imp (Jm ho.p hC.2 hm F hr hb .nil xV ht) ?_;rintro σ H Q ⟨ρ,d,r,e,k⟩;let⟨ds,ea,e⟩:=WP e;let⟨x,ex,ea⟩:=WP ea;let⟨xs,en,ea⟩:=WP ea;cases en;cases ea;refine⟨ρ,x,r,ex,λ v H1 s1 d1=>?_⟩;let⟨a,ks,ds,u,rfl,rfl,q,t⟩:=id d1;rcases t with⟨_,hk,C',dx,fs,rfl,R9,h3,h4⟩|⟨z,_⟩
 .have:=R9.1.symm.trans hC.1;cases this;rw[hk]at h3;exact⟨a,dx,fs,rfl,q,m9 h3 hf,[Z.gD a 0 ks ds],d,⟨_,_,rfl,d1.b,rfl⟩,e,λ v H' s2 dv=>k v H' (s1.trans s2) dv⟩
 .cases z⟩
theorem _root_.ZQ.Ow(C:Aa X.prog X.w X.K X.mg X.base m k ps (Ch::bs) fn)(hr:bR k X.A)(ho:ZQ.QM X 0 o fo)(hf:(Z.cC.map λ c=>(⟨c.toArray⟩)).contains m=AT)(ha:ZQ.OU X (e::es) bs ar)
 (vL:Se e es X.env:=by rfl) (fA:Pn pos es X.env:=by rfl)
 (ht:eval (.Call (.Attribute o m apos) (e::es) [] pos) X.env=(do
  let ov ←eval o X.env
  standAt apos.atName
  let (f,first) ←holding [ov] (getMethod ov m pl)
  callWith pos f first (backTo pos<|starEach (e::es) X.env) (backToKw pos<|keywordEach [] X.env)):=by rfl) :
 ZQ.QE X (.Call (.Attribute o m apos) (e::es) [] pos) (Z.aD fn<|Z.aa fo ar):=⟨by
 let⟨C,g,fd,hC,hm,F,hb⟩:=C.ex;refine PE.imp (E! ho.p hC.2 hm F hr hb .nil xV ha.p vL fA ht) ?_;rintro σ H Q ⟨ρ,d,r,e,k⟩;let⟨ds,ea,e⟩:=WP e;let⟨x,ex,ea⟩:=WP ea;let⟨xs,en,ea⟩:=WP ea;cases ea;refine⟨ρ,x,r,ex,λ v H1 s1 d1=>?_⟩;let⟨a,ks,ds,u,rfl,rfl,q,t⟩:=id d1;rcases t with⟨_,hk,C',dx,fs,rfl,R9,h3,h4⟩|⟨z,_⟩
 .have:=R9.1.symm.trans hC.1;cases this;rw[hk]at h3;refine⟨a,dx,fs,rfl,q,m9 h3 hf,ρ,xs,r.up s1,en,λ vs H2 s2 d2=>?_⟩;show IF X.K _ fn _ H2 Q E0;rw[A54];exact⟨Z.gD a 0 ks ds::xs,d,⟨_,_,rfl,(d1.up s2).b,d2⟩,e,λ v H' s3 dv=>k v H' ((s1.trans s2).trans s3) dv⟩
 .cases z⟩
structure ED(K:Db)(m qual:Str)(st:Stmt)(ps:List Str):Prop where
 ex:∃C f fd,ue K "Desk" C/\Meth K C m f/\Cs K m qual st f fd/\Binds K fd ps []
section
variable{K:Db}
theorem Aa.mk'{st:θ}(uv:bs.length=ps.length)(d:ED K m qual st ps)(S:a! N ps (ai st))
 (hb:∀ f bh A outer s H E,bR k (A.deeper<|envOfC qual (ai st) s.heap.objs.size f bh) ->
  L! (dO jd P w K mg base N qual (ai st) f bh A outer s H E).gK H (aJ st) b):Aa P w K mg base m (k+1) ps bs (Z.L5 bs N.length b):=by
 let⟨C,f,fd,hC,hm,F,uw⟩:=d.ex;exact⟨C,f,fd,hC,hm,aad uv F S<|hb f,uw⟩
end
def C3(K:Db)(bs:γ Bool)(m:γ Z.D->ε Z.XN):Sp:=λ vs H _ E=>∃ds c,jQ K H bs ds vs/\m ds=AC c/\∀C dd H',aG H H'->nK K H' c C dd->E (.ref C) dd H'
section
variable{K:Db}
theorem aae{st:θ}{dV kV doc pm bh ct oc:ζ}(uv:bs.length=ps.length)
 (lk:K.lookup f=AC ⟨oc,od,.func<|PySem.W.fnOf name qual (bM st) (aJ st) (ai st) dV kV doc pm an bh ct,um⟩) (m?:No K bh qual=Ch) (S:a! N ps (ai st))
 (hb:∀ A outer s H E,bR k (A.deeper<|envOfC qual (ai st) s.heap.objs.size f bh) ->
  TY (dO (wI P w) P w K mg base N qual (ai st) f bh A outer s H E) H (aJ st) xb):ee P w K mg base (wI P w) (k+1) f (KT name qual (bM st) (aJ st) (ai st) dV kV doc pm an bh ct) ps (C3 K bs<|Z.Sb bs N.length xb):=by
 have ψ:∀vs H Q E,C3 K bs (Z.Sb bs N.length xb) vs H Q E->vs.length=ps.length:=by rintro vs H Q E ⟨ds,d,t,e,_⟩;have:=t.length;lia
 refine vU lk m? S ψ λ A outer s H vs Q E hr h=>?_;refine⟨_,hb A outer s H E hr,?_⟩;have hl:=ψ vs H Q E h;let⟨ds,c,t,e,k⟩:=h;have fA:ps.length<=N.length:=by have:=A10 List.length S.pre;rw[A26]at this;lia
 have rs:RS K H H (L2.start N vs) (Z.startB N.length bs ds):=oz t ∅;unfold Z.Sb at e;split at e
 .exact⟨_,c,rs,e,λ χ σ H' s' a C dd sm xc I th=>ya I th<|k C dd H' sm xc⟩
 .cases e
structure ac4(P:Program)(w:World)(K:Db)(mg:Str->Option Value)(base:Heap)(x:Str)(k:Nat)(ps:List Str)(bs:List Bool)(m:List Z.D->Option Z.XN):Prop where
 ex:∃g fd,ee P w K mg base (wI P w) k g fd ps (C3 K bs m)/\mg x=AC (.ref g)/\FS K (.ref g)=Ch/\Binds K fd ps []
structure yE(P:Program)(w:World)(K:Db)(mg:Str->Option Value)(base:Heap)(m:Str)(k:Nat)(ps:List Str)(bs:List Bool)(fx:List Z.D->Option Z.XN):Prop where
 ex:∃C g fd,ue K "Desk" C/\Meth K C m g/\ee P w K mg base (wI P w) k g fd ps (C3 K bs fx)/\Binds K fd ps []
theorem yE.mk'{st:θ}(uv:bs.length=ps.length)(d:ED K m qual st ps)(S:a! N ps (ai st))
 (hb:∀ f bh A outer s H E,bR k (A.deeper<|envOfC qual (ai st) s.heap.objs.size f bh) ->
  TY (dO (wI P w) P w K mg base N qual (ai st) f bh A outer s H E) H (aJ st) xb):yE P w K mg base m (k+1) ps bs (Z.Sb bs N.length xb):=by
 let⟨C,f,fd,hC,hm,F,uw⟩:=d.ex;let⟨oc,od,kV,doc,pm,an,bh,ct,um,rfl,lk,m?⟩:=F.ex;exact⟨C,f,_,hC,hm,aae uv lk m? S<|hb f bh,uw⟩
end
theorem Uy
 (hex:X.ex=[]) (F:ee X.prog X.w X.K X.mg X.base (wI X.prog X.w) k g fd ps (C3 X.K bs m)) (hr:bR k X.A) (hb:Binds X.K fd ps []) (I:Inv X χ σ H s) (r:Vals vs us) (d1:jQ X.K H bs ds vs) (ec:m ds=AC c) (kw:W7 X σ H c) :
 FM (model X.prog X.w) X.A (call (.ref g) us) Q X.xe s:=by
 have Cy:C3 X.K bs m vs H (λ _ _=>False) (λ cv dd H'=>∃C,cv=.ref C/\nK X.K H' c C dd/\aG H H'):=⟨ds,c,d1,ec,λ C' dd H' s2 x2=>⟨C',rfl,x2,s2⟩⟩
 have hl:=F.len _ _ _ _ Cy;refine A60<|A72 (F.run X.A _ s H ⟨us,[]⟩ us vs _ _ hr I.Hj (by have:=hb s us I.kB (by rw[A54,<-r.length];exact hl);simpa using this) r Cy) λ rr s' hq=>?_;cases rr with
 |ok fl=>
  cases fl with
  |ret u=>let⟨v,H2,_,_,_,_,_,q⟩:=hq;exact q.elim
  |_=>exact hq.elim
 |error ev=>have hq:wI _ X.w _ H s (λ cv dd H'=>∃C,cv=.ref C/\nK X.K H' c C dd/\aG H H') ev s':=hq;let⟨a,C',dd,H',rfl,J,th,C2,hc,x2,s2⟩:=Ip hex I hq;cases hc;exact kw χ H' s' a C' dd s2 x2 J th
theorem PAF.gK(h:DAF X.gK es bs ar):DAF X es bs ar:=PA.gK h
theorem _root_.ZQ.Mc(C:yE X.prog X.w X.K X.mg X.base m k ps (Ch::bs) fx)(hr:bR k X.A)(ho:ZQ.QM X 0 o fo)(hf:(Z.cC.map λ c=>(⟨c.toArray⟩)).contains m=AT)(ha:ZQ.OU X.gK (e::es) bs ar)
 (hex:X.ex=[]:=by rfl) (vL:Se e es X.env:=by rfl) (fA:Pn pos es X.env:=by rfl)
 (ht:eval (.Call (.Attribute o m apos) (e::es) [] pos) X.env=(do
  let ov ←eval o X.env
  standAt apos.atName
  let (f,first) ←holding [ov] (getMethod ov m pl)
  callWith pos f first (backTo pos<|starEach (e::es) X.env) (backToKw pos<|keywordEach [] X.env)):=by rfl) :
 ZQ.YO X (.Call (.Attribute o m apos) (e::es) [] pos) (Z.ja fx<|Z.aa fo ar):=⟨by
 let⟨C,g,fd,hC,hm,F,hb⟩:=C.ex;intro χ s σ H Q I h;let⟨ρ,c,re,ec,kw⟩:=h;unfold Z.ja at ec;split at ec
 .rename_i ds ed;let⟨x,ex,ea⟩:=WP ed;let⟨xs,en,ea⟩:=WP ea;cases ea;refine B93 (da (ho.p χ s σ H (λ v H1=>aG H H1/\PX X.K H1 0 x v) I ⟨ρ,x,re,ex,λ v H1 s1 d1=>⟨s1,d1⟩⟩) ?_) ht;rintro u s1 ⟨v,H1,I1,rx,sm,d1⟩;let⟨a,ks,ds,u',rfl,rfl,q,t⟩:=id d1;obtain rfl:u=Value.ref a:=rx;rcases t with⟨_,hk,C',dx,fs,rfl,R9,h3,h4⟩|⟨z,_⟩
  .have:=R9.1.symm.trans hC.1;cases this;rw[hk]at h3;refine o3 I1 q hC.2 hm (m9 h3 hf) ?_;refine A83 I.ok.mod.HN hm.kp (da (PAF.gK ha.p pos χ s1 σ H1 (λ vs H2=>aG H1 H2/\jQ X.K H2 bs xs vs) I1 ⟨ρ,xs,re.up sm,en,λ vs H2 s2 d2=>⟨s2,d2⟩⟩) λ us s2 ⟨vs,H2,I2,r,A3,d2⟩=>⟨I2.kB,?_⟩) vL fA;exact Uy (vs:=.ref a::vs) (ds:=Z.gD a 0 ks ds::xs) hex F hr hb I2 (.cons rfl r) ⟨_,_,rfl,(d1.up A3).b,d2⟩ ec<|(kw.up sm).up A3
  .cases z
 .cases ec⟩
def over(H0 H:Hp)(as:γ δ):Hp:=λ b=>if b∈as then H b else H0 b
section
variable{K:Db}
theorem dC(h:a∈as):over H0 H as a=H a:=f8 h
theorem dQ(h:a∉as):over H0 H as a=H0 a:=P3 h
theorem Jt(h:a∈as):over H0 (upd H a u) as=upd (over H0 H as) a u:=by
 funext b
 by_cases hb:b=a
 .subst hb;rw[dC h,aP,aP]
 .rw[aE hb];by_cases hm:b∈as
  .rw[dC hm,dC hm,aE hb]
  .rw[dQ hm,dQ hm]
theorem pE(h:Z.gD a kd ks vs=Z.gD a' DH ur Ab):a=a'/\kd=DH/\ks=ur/\vs=Ab:=by
 injection h with h1 h2
 injection h1 with h1 h3
 injection h3 with h3 h4
 injection h1 with h1
 injection h3 with h3
 exact⟨B73 h1,B73 h3,(lw λ x y h=>by injection h).mp h4,h2⟩
theorem jg:∀{ρ}{k i}{x},Z.iY ms k ρ->ρ[i]?=AC x->Z.lO x->k+i∈ms
|[],_,_,_,_,e,_=>by simp at e
|y::r,k,0,x,h,e,t=>by simp at e;subst e;exact h.1 t
|y::r,k,i+1,x,h,e,t=>by have:=jg h.2 (by simpa using e) t;rw[show k+(i+1)=k+1+i from by lia];exact this
theorem vc:∀{ρ}{k},(∀i x,ρ[i]?=AC x->Z.lO x->k+i∈ms)->Z.iY ms k ρ
|[],_,_=>trivial
|y::r,k,h=>⟨λ t=>h 0 y rfl t,vc λ i x e t=>by have:=h (i+1) x (by simpa using e) t;rw[show k+1+i=k+(i+1)from by lia];exact this⟩
structure RM(K:Db)(H0:Hp)(ms:List Nat)(as:List Addr)(H:Hp)(σ:St)(ρ:Z.Env):Prop where
 rs:RS K (over H0 H as) H σ ρ
 at_:Paired (λ(i:Nat)(a:Addr)=>∃kd ks vs,ρ[i]?=AC (AC<|.bor<|Z.gD a kd ks vs)) ms as
 no:Z.iY ms 0 ρ
 nd:as.Nodup
 h0:∀a∈as,H0 a=At
theorem d9:∀{l}{m}{x},Paired R l m->x∈l->∃y∈m,R x y
|_,_,_,.nil,h=>by simp at h
|_,_,x,.cons r t,h=>by
 rcases A00.mp h with rfl|h
 .exact⟨_,by simp,r⟩
 .let⟨y,h1,h2⟩:=d9 t h;exact⟨y,by simp[h1],h2⟩
theorem sI(hf:∀i a b,R i a->R i b->a=b):∀{l}{m}{i j}{a},Paired R l m->m.Nodup->i∈l->j∈l->R i a->R j a->i=j
|_,_,_,_,_,.nil,_,h,_,_,_=>by simp at h
|_,_,i,j,a,.cons r t,nd,hi,hj,ri,rj=>by
 have Dn:=A49.mp nd;rcases A00.mp hi with ei|N0
 .rcases A00.mp hj with ej|Af
  .exact ei.trans ej.symm
  .let⟨z,hz,rz⟩:=d9 t Af;subst ei;have e1:=hf _ _ _ r ri;have e2:=hf _ _ _ rz rj;subst e1;subst e2;exact absurd hz Dn.1
 .rcases A00.mp hj with ej|Af
  .let⟨z,hz,rz⟩:=d9 t N0;subst ej;have e1:=hf _ _ _ r rj;have e2:=hf _ _ _ rz ri;subst e1;subst e2;exact absurd hz Dn.1
  .exact sI hf t Dn.2 N0 Af ri rj
theorem Ew{ρ:Z.Env}(i:Nat)(a b:δ)(h1:∃kd ks vs,ρ[i]?=AC (AC<|.bor<|Z.gD a kd ks vs))(h2:∃kd ks vs,ρ[i]?=AC (AC<|.bor<|Z.gD b kd ks vs)):a=b:=by
 let⟨_,_,_,h1⟩:=h1;let⟨_,_,_,h2⟩:=h2;rw[h1]at h2;injection h2 with h2;injection h2 with h2;injection h2 with h2
 exact(pE h2).1
theorem RM.Ya(h:RM K H0 ms as H σ ρ)(hi:ρ[i]?=AC (AC<|.bor<|Z.gD a kd ks vs)):i∈ms:=by have:=jg h.no hi trivial;simpa using this
theorem RM.mem(h:RM K H0 ms as H σ ρ){i:Nat}(hi:ρ[i]?=AC (AC<|.bor<|Z.gD a kd ks vs)):a∈as:=by let⟨y,hy,r⟩:=d9 h.at_ (h.Ya hi);have:=Ew i _ _ ⟨_,_,_,hi⟩ r;subst this;exact hy
theorem RM.uniq(h:RM K H0 ms as H σ ρ){i j kd DH:Nat}(hi:ρ[i]?=AC (AC<|.bor<|Z.gD a kd ks vs))(hj:ρ[j]?=AC (AC<|.bor<|Z.gD a DH ur Ab)):i=j:=
 sI (λ i a b=>Ew i a b) h.at_ h.nd (h.Ya hi) (h.Ya hj) ⟨_,_,_,hi⟩ ⟨_,_,_,hj⟩
theorem RM.thing(h:RM K H0 ms as H σ ρ){i:Nat}(hi:ρ[i]?=AC (AC<|.bor<|Z.gD a kd ks vs)):σ[i]?=AC (AC<|.ref a)/\∃u,H a=AC u/\HY K H kd ks vs u:=by let⟨v,h1,h2⟩:=h.rs.re.get i _ hi;let⟨a',ur,ds,u,e1,rfl,q,t⟩:=K! h2;let⟨rfl,_,rfl,rfl⟩:=pE e1;exact⟨h1,u,q,t⟩
theorem HY.mb(t:HY K H kd ks vs u):(∀xs,u≠.tup xs)/\(∀o x,u≠.eH o x)/\∀xs,u≠.lst xs:=by
 rcases t with⟨_,_,C,dx,fs,rfl,_⟩|⟨_,fT,rfl,_⟩
 .exact⟨λ _ z=>(nomatch z),λ _ _ z=>(nomatch z),λ _ z=>(nomatch z)⟩
 .exact⟨λ _ z=>(nomatch z),λ _ _ z=>(nomatch z),λ _ z=>(nomatch z)⟩
theorem RM.write(h:RM K H0 ms as H σ ρ)(hi:ρ[i]?=AC (AC<|.bor<|Z.gD a kd ks vs))(t:HY K (upd H a u') DH ur Ab u'):
 iM H (upd H a u')/\RM K H0 ms as (upd H a u') σ (ρ.set i<|some<|.bor<|Z.gD a DH ur Ab):=by
 have ha:=h.mem hi;let⟨hs,u,hu,t0⟩:=h.thing hi;have st:iM H (upd H a u'):=ui hu t0.mb.1 t0.mb.2.1;have ou:over H0 H as a=AC u:=by rw[dC ha];exact hu
 have Cu:iM (over H0 H as) (upd (over H0 H as) a u'):=ui ou t0.mb.1 t0.mb.2.1;have HU:=(A04.mp hi).1;have bor:∀{j}{d}{v}{G},i≠j->ρ[j]?=AC (AC<|.bor d)->iM G (upd G a u')->G a=AC u->jY K G d v->jY K (upd G a u') d v:=λ {j d v G} hj e sg ga hb=>by
  rcases hb with(hb|⟨ds,q,ws,e1,e2,q1,t1⟩)|⟨a2,VB,Vz,ds2,u2,e1,e2,q2,t2⟩
  .exact .inl<|.inl<|hb.ups sg
  .have:q≠a:=by rintro rfl;rw[ga]at q1;exact t0.mb.2.2 _<|A06 q1
   exact .inl<|.inr ⟨ds,q,ws,e1,e2,by rw[aE this];exact q1,t1.ups sg⟩
  .have:a2≠a:=by rintro rfl;rw[e1]at e;exact hj<|h.uniq hi e
   exact .inr ⟨a2,VB,Vz,ds2,u2,e1,e2,by rw[aE this];exact q2,t2.ups sg⟩
 have own:∀{q},over H0 H as q=At->q≠a:=λ e z=>by rw[z,ou]at e;cases e
 refine⟨st,⟨?_,?_,?_,h.nd,h.h0⟩⟩
 .rw [Jt ha];refine⟨λ b o e=>?_,⟨by simp[h.rs.re.len],λ j l e=>?_,λ j k xs ys q e1 e2 e3 e4=>?_⟩,λ j xs q e1 e2=>?_,λ j d e1=>?_,?_⟩
  .by_cases hb:b=a
   .subst hb;rw[aP]at e ⊢;exact e
   .rw[aE hb]at e ⊢;exact h.rs.same b o e
  .rcases aK e with⟨rfl,hl,e⟩|⟨hj,e⟩
   .cases e;exact⟨.ref a,hs,.inr ⟨a,DH,ur,Ab,u',rfl,rfl,aP,t⟩⟩
   .let⟨v,e1,r⟩:=h.rs.re.get j l e;refine⟨v,e1,?_⟩;cases l with
    |val d=>exact Den.ups (r) st
    |own zs=>let⟨q',ws,rfl,gC,t'⟩:=r;exact⟨q',ws,rfl,by rw[aE<|own<|h.rs.fresh j zs q' e e1];exact gC,t'.ups st⟩
    |bor d=>exact bor hj e st hu r
    |dc ks=>let⟨q',xA,rfl,gC,t'⟩:=r;exact⟨q',xA,rfl,by rw[aE<|own<|h.rs.yj.2 j ks q' e e1];exact gC,t'.ups st⟩
    |Hf ks=>let⟨q',o',xA,rfl,gC,t'⟩:=r;exact⟨q',o',xA,rfl,st.eH _ _ _ gC,t'.ups st⟩
    |RJ ps=>let⟨q',o',rfl,gC⟩:=r;exact⟨q',o',rfl,st.eH _ _ _ gC⟩
    |exc c=>let⟨q',o',u',C',rfl,gC,r1,r2,r3⟩:=r;exact⟨q',o',u',C',rfl,st.eH _ _ _ gC,r1,r2,r3.ups st⟩
  .rcases aK e1 with⟨_,_,e⟩|⟨_,e1⟩
   .cases e
   .rcases aK e2 with⟨_,_,e⟩|⟨_,e2⟩
    .cases e
    .exact h.rs.re.sep j k xs ys q e1 e2 e3 e4
  .rcases aK e1 with⟨_,_,e⟩|⟨_,e1⟩
   .cases e
   .have:=h.rs.fresh j xs q e1 e2;rw[aE<|own this];exact this
  .rcases aK e1 with⟨rfl,_,e⟩|⟨hj,e9⟩
   .cases e;exact⟨.ref a,hs,.inr ⟨a,DH,ur,Ab,u',rfl,rfl,aP⟩⟩
   .let⟨v,q1,q2⟩:=h.rs.nJ j d e9;refine⟨v,q1,?_⟩;rcases q2 with(hb|⟨ds,q,ws,g1,g2,q1,t1⟩)|⟨a2,VB,Vz,ds2,u2,g1,g2,q2⟩
    .exact .inl<|.inl<|hb.ups Cu
    .have:q≠a:=by rintro rfl;rw[ou]at q1;exact t0.mb.2.2 _<|A06 q1
     exact .inl<|.inr ⟨ds,q,ws,g1,g2,by rw[aE this];exact q1,t1.ups Cu⟩
    .have:a2≠a:=by rintro rfl;rw[g1]at e9;exact hj<|h.uniq hi e9
     exact .inr ⟨a2,VB,Vz,ds2,u2,g1,g2,by rw[aE this];exact q2⟩
  .refine⟨λ j k ks ls q e1 e2 e3 e4=>?_,λ j ks q e1 e2=>?_⟩
   .rcases aK e1 with⟨_,_,e⟩|⟨_,e1⟩
    .cases e
    .rcases aK e2 with⟨_,_,e⟩|⟨_,e2⟩
     .cases e
     .exact h.rs.yj.1 j k ks ls q e1 e2 e3 e4
   .rcases aK e1 with⟨_,_,e⟩|⟨_,e1⟩
    .cases e
    .have:=h.rs.yj.2 j ks q e1 e2;rw[aE<|own this];exact this
 .refine Paired.JV h.at_ λ j b hj=>?_;let⟨VB,Vz,Xg,hj⟩:=hj;by_cases oY:i=j
  .subst oY;rw[hi]at hj;injection hj with hj;injection hj with hj;injection hj with hj
   let⟨rfl,_⟩:=pE hj;exact⟨DH,ur,Ab,A41 HU⟩
  .exact⟨VB,Vz,Xg,by rw[A28 oY];exact hj⟩
 .refine vc λ j x e tx=>?_;by_cases oY:i=j
  .subst oY;rw[A93];exact h.Ya hi
  .rw[A28 oY]at e;exact jg h.no e tx
theorem RM.tracked(h:RM K H0 ms as H σ ρ)(ha:a∈as):∃u,H a=AC u:=by
 have key:∀{l}{m},Paired (λ(i:Nat)(a)=>∃kd ks vs,ρ[i]?=AC (AC<|.bor<|Z.gD a kd ks vs)) l m->a∈m->∃u,H a=AC u:=by
  intro l m p
  induction p with
  |nil=>intro h;simp at h
  |cons r t ih=>
   intro hm;rcases A00.mp hm with rfl|hm
   .let⟨_,_,_,hi⟩:=r;let⟨_,u,q,_⟩:=h.thing hi;exact⟨u,q⟩
   .exact ih hm
 exact key h.at_ ha
theorem RM.same(h:RM K H0 ms as H σ ρ):aG H0 H:=λ b o e=>h.rs.same b o (by rw[dQ λ z=>by rw[h.h0 b z]at e;cases e];exact e)
theorem RM.xW(h:RM K H0 ms as H σ ρ)(s:∀a∈as,H' a=H a):over H0 H' as=over H0 H as:=by
 funext b
 by_cases hb:b∈as
 .rw[dC hb,dC hb,s b hb]
 .rw[dQ hb,dQ hb]
theorem RM.up(h:RM K H0 ms as H σ ρ)(s:aG H H'):RM K H0 ms as H' σ ρ:=by
 have e:=h.xW λ a ha=>by let⟨u,q⟩:=h.tracked ha;rw[q];exact s _ _ q
 refine⟨?_,h.at_,h.no,h.nd,h.h0⟩;rw[e];exact h.rs.up s
def yS:ε HO->Prop
|some<|.tup _=>True
|some<|.eH _ _=>True
|_=>False
open Classical in
noncomputable def ov(H0 H:Hp)(as:γ δ):Hp:=λ b=>if b∈as\/yS (H b)then H b else H0 b
theorem Ju(h:a∈as):ov H0 H as a=H a:=f8<|.inl h
theorem Dc(h:yS (H b)):ov H0 H as b=H b:=f8<|.inr h
theorem GB(h:b∉as)(n:¬yS (H b)):ov H0 H as b=H0 b:=P3 λ z=>z.elim h n
theorem RM.ovR(h:RM K H0 ms as H σ ρ):RS K (ov H0 H as) H σ ρ:=by
 have sm:aG (over H0 H as) (ov H0 H as):=λ b o e=>by
  by_cases hb:b∈as
  .rw[dC hb]at e;rw[Ju hb];exact e
  .rw[dQ hb]at e;by_cases hs:yS (H b)
   .rw[Dc hs];exact h.same b o e
   .rw[GB hb hs];exact e
 have non:∀{q}{u},over H0 H as q=At->H q=AC u->¬yS _->ov H0 H as q=At:=λ {q u} e hq n=>by
  have hb:q∉as:=λ z=>by rw[dC z,hq]at e;cases e
  rw[GB hb (by rw[hq];exact n)];rw[dQ hb]at e;exact e
 refine⟨λ b o e=>?_,h.rs.re,λ i xs q e1 e2=>?_,λ i d e1=>?_,⟨h.rs.yj.1,λ i ks q e1 e2=>?_⟩⟩
 .by_cases hb:b∈as\/yS (H b)
  .rcases hb with hb|hb
   .rw[Ju hb]at e;exact e
   .rw[Dc hb]at e;exact e
  .rw[GB (λ z=>hb<|.inl z) λ z=>hb<|.inr z]at e;exact h.same b o e
 .let⟨v,h1,a,vs,e,h2,_⟩:=h.rs.re.get i _ e1;rw[e2]at h1;cases h1;cases e;exact non (h.rs.fresh i xs _ e1 e2) h2 λ z=>z
 .let⟨v,h1,h2⟩:=h.rs.nJ i d e1;refine⟨v,h1,?_⟩;rcases h2 with h2|⟨a,kd,ks,ds,u,g1,g2,g3⟩
  .exact .inl<|h2.up sm
  .exact .inr ⟨a,kd,ks,ds,u,g1,g2,sm _ _ g3⟩
 .let⟨v,h1,a,xA,e,h2,_⟩:=h.rs.re.get i _ e1;rw[e2]at h1;cases h1;cases e;refine non (h.rs.yj.2 i ks _ e1 e2) h2 λ z=>?_;cases ks<;>exact z
theorem QR(s:aG (ov H0 H as) H'):iM H H':=⟨λ b xs e=>s _ _ (by rw[Dc (by rw[e];trivial)];exact e),λ b o x e=>s _ _ (by rw[Dc (by rw[e];trivial)];exact e)⟩
theorem dZ:∀{l}{m},Paired R l m->(∀x∈l,∀y,R x y->S x y)->Paired S l m
|_,_,.nil,_=>.nil
|_,_,.cons r t,f=>.cons (f _ ∅ _ r)<|dZ t λ x hx=>f x (by simp[hx])
theorem RM.back(h:RM K H0 ms as H σ ρ)(kt:Z.bS ms ρ ρ')(r:RS K (ov H0 H as) H' σ' ρ'):RM K H0 ms as H' σ' ρ':=by
 have ha:∀a∈as,H' a=H a:=λ a z=>by let⟨u,q⟩:=h.tracked z;rw[q];exact r.same _ _ (by rw[Ju z];exact q)
 have e:=h.xW ha;have at':Paired (λ(i)(a)=>∃kd ks vs,ρ'[i]?=AC _) ms as:=dZ h.at_ <|by rintro i hi a ⟨kd,ks,vs,q⟩;exact⟨kd,ks,vs,by rw[kt.1 i hi];exact q⟩
 have down:∀{q},ov H0 H as q=At->over H0 H as q=At:=λ {q} z=>by
  by_cases hb:q∈as
  .rw[Ju hb]at z;rw[dC hb];exact z
  .rw[dQ hb];by_cases hs:yS (H q)
   .rw[Dc hs]at z;rw[z]at hs;exact hs.elim
   .rw[GB hb hs]at z;exact z
 refine⟨?_,at',kt.2,h.nd,h.h0⟩;rw[e];refine⟨λ b o q=>?_,r.re,λ i xs q e1 e2=>down<|r.fresh i xs q e1 e2,λ i d e1=>?_,⟨r.yj.1,λ i ks q e1 e2=>down<|r.yj.2 i ks q e1 e2⟩⟩
 .by_cases hb:b∈as
  .rw[dC hb]at q;rw[ha b hb];exact q
  .rw[dQ hb]at q;refine r.same b o ?_;by_cases hs:yS (H b)
   .rw[Dc hs];exact h.same b o q
   .rw[GB hb hs];exact q
 .let⟨v,h1,h2⟩:=r.nJ i d e1;have hi:i∈ms:=by have:=jg kt.2 e1 trivial;simpa using this
  let⟨a,hm,kd,ks,vs,q⟩:=d9 at' hi;rw[e1]at q;injection q with q;injection q with q;injection q with q
  subst q;refine⟨v,h1,?_⟩;rcases h2 with h2|⟨a',DH,ur,ds,u,g1,g2,g3⟩
  .let⟨_,_,_,_,_,_,_,n⟩:=h2.dct;exact absurd rfl<|n _ _
  .let⟨rfl,rfl,rfl,rfl⟩:=pE g1;let⟨u',q'⟩:=h.tracked hm;exact .inr ⟨a,kd,ks,vs,u',rfl,g2,by rw[dC hm];exact q'⟩
def TH(K:Db)(H:Hp)(as:γ δ)(ts:γ Z.D):Prop:=Paired (λ(a:δ)(t:Z.D)=>∃kd ks vs u,t=Z.gD a kd ks vs/\H a=AC u/\HY K H kd ks vs u) as ts
theorem RM.Y2(h:RM K H0 ms as H σ ρ):TH K H as (Z.h9 ms ρ):=by
 have key:∀{l}{m},Paired (λ(i)(a)=>∃kd ks vs,ρ[i]?=AC (AC<|.bor<|Z.gD a kd ks vs)) l m->TH K H m (Z.h9 l ρ):=by
  intro l m p
  induction p with
  |nil=>exact .nil
  |cons r t ih=>let⟨kd,ks,vs,hi⟩:=r;let⟨_,u,q,th⟩:=h.thing hi;exact .cons ⟨kd,ks,vs,u,by show Z.Qf _=_;rw[hi];rfl,q,th⟩ ih
 exact key h.at_
theorem TH.ups(h:TH K H as ts)(s:∀a∈as,H' a=H a)(st:iM H H'):TH K H' as ts:=dZ h <|by rintro a ha t ⟨kd,ks,vs,u,e,q,th⟩;exact⟨kd,ks,vs,u,e,by rw[s a ha];exact q,th.ups st⟩
end
def YB(K:Db)(H0:Hp)(ms:γ Nat)(as:γ δ)(H:Hp)(D:Ends):Z.xC->Prop
|.nx ρ'=>∀σ' H',iM H H'->RM K H0 ms as H' σ' ρ'->D.nx σ' H'
|.rt d ts=>∀v H',aG H0 H'->TH K H' as ts->Den K H' d v->D.rt v H'
def tM(K:Db)(H0:Hp)(ms:γ Nat)(as:γ δ)(g:Z.SM):TS:=λ D σ H=>∃ρ fl,RM K H0 ms as H σ ρ/\g ρ=.ok fl/\YB K H0 ms as H D fl
abbrev MS(X:Cx)(H0:Hp)(ms:γ Nat)(as:γ δ)(st:θ)(g:Z.SM):Prop:=PS X st<|tM X.K H0 ms as g
structure _root_.ZQ.OT(X:Cx)(H0:Hp)(ms:List Nat)(as:List Addr)(st:Stmt)(g:Z.SM):Prop where p:MS X H0 ms as st g
abbrev W?(X:Cx)(H0:Hp)(ms:γ Nat)(as:γ δ)(st:γ θ)(g:Z.SM):Prop:=s? X st<|tM X.K H0 ms as g
structure _root_.ZQ.sv(X:Cx)(H0:Hp)(ms:List Nat)(as:List Addr)(st:List Stmt)(g:Z.SM):Prop where p:W? X H0 ms as st g
theorem YB.up{K:Db}(h:YB K H0 ms as H D fl)(e:iM H H1):YB K H0 ms as H1 D fl:=by
 cases fl with
 |nx ρ'=>exact λ σ' H' s r=>h σ' H' (e.trans s) r
 |rt d ts=>exact h
section
variable{st:θ}
theorem a6(h:∀H1,DS X H1 st g):MS X H0 ms as st (Z.a_ ms g):=by
 intro χ s σ H D I w;let⟨ρ,fl,rm,e,k⟩:=w;let⟨f1,e1,e⟩:=WP e;refine h _ χ s σ H D I ⟨ρ,f1,rm.ovR,e1,?_⟩;cases f1 with
 |nx ρ'=>let⟨kt,e⟩:=Z.e! e;cases e;exact λ σ' H' st r=>k σ' H' st<|rm.back kt r
 |rt d=>
  cases e;intro v H' sm dv;have ha:∀a∈as,H' a=H a:=λ a z=>by let⟨u,q⟩:=rm.tracked z;rw[q];exact sm _ _ (by rw[Ju z];exact q)
  refine k v H' (λ b o q=>?_) (rm.Y2.ups ha<|QR sm) dv;refine sm b o ?_;have nb:b∉as:=λ z=>by rw[rm.h0 b z]at q;cases q
  by_cases hs:yS (H b)
  .rw[Dc hs];exact rm.same b o q
  .rw[GB nb hs];exact q
 |bk _=>cases e
 |ct _=>cases e
theorem _root_.ZQ.cf(h:ZQ.OT X H0 ms as st g):ZQ.sv X H0 ms as [st] g:=⟨mY h.p⟩
theorem _root_.ZQ.aQ(h1:ZQ.OT X H0 ms as st g)(h2:ZQ.sv X H0 ms as Ac u):ZQ.sv X H0 ms as (st::Ac) (Z.bY g u):=⟨s?.imp (kI h1.p h2.p) <|by
 rintro D σ H ⟨ρ,fl,rs,e,k⟩;let⟨f1,e1,e⟩:=WP e;refine⟨ρ,f1,rs,e1,?_⟩;cases f1 with
 |nx ρ'=>exact λ σ' H' s r=>⟨ρ',fl,r,e,k.up s⟩
 |rt d ts=>cases e;exact k⟩
theorem E3{K:Db}{H:Hp}{f:γ Nat}{d:Z.D}{y:V}(hd:Den K H d y):∀{ks:γ (γ Nat)}{ds:γ Z.D}{fs:γ (Str×V)},fs.map (·.1)=ks.map (λ c=>(⟨c.toArray⟩:Str))->aI K H ds (fs.map (·.2)) ->
 ∃ur:γ (γ Nat),(Z.lV f d (ks.map .inr) ds).1=ur.map .inr/\(jT ⟨f.toArray⟩ y fs).map (·.1)=ur.map (λ c=>(⟨c.toArray⟩:Str))/\aI K H (Z.lV f d (ks.map .inr) ds).2 ((jT ⟨f.toArray⟩ y fs).map (·.2))
|[],ds,fs,h2,h3=>by
 have:fs=[]:=by simpa using h2
 subst this;refine⟨[f],?_,rfl,?_⟩
 .cases ds<;>rfl
 .have:(Z.lV f d ([].map .inr) ds).2=[d]:=by cases ds<;>rfl
  rw[this];exact aI.cons hd aI.nil
|k::ks,ds,[],h2,_=>by cases h2
|k::ks,[],(n,v)::fs,_,h3=>by simp only[A12,aI]at h3;cases h3
|k::ks,x::ds,(n,v)::fs,h2,h3=>by
 simp only[A12,B56]at h2;simp only[A12,aI]at h3;let⟨v',r,e1,h4,h5⟩:=h3;cases e1;let⟨e2,h2⟩:=h2;subst e2;simp only[A12,Z.lV,jT];by_cases hk:k=f
 .subst hk;rw[f8 rfl,f8 rfl];exact⟨k::ks,rfl,by simp[h2],aI.cons hd h5⟩
 .rw[P3 hk,P3 λ z=>hk<|JS.mp z];let⟨ur,q1,q2,q3⟩:=E3 hd h2 h5;exact⟨k::ur,by simp[q1],by simp[q2],aI.cons h4 q3⟩
theorem MJ(h:Z.A5 f x t=.ok l):∃a ks vs,t=AC (AC<|.bor<|.dct (.inl a::.inl 0::ks) vs)/\(Z.lV f x ks vs).1=(Z.cC.take (Z.lV f x ks vs).1.length).map .inr/\l=.bor (.dct (.inl a::.inl 0::(Z.lV f x ks vs).1) (Z.lV f x ks vs).2):=by
 unfold Z.A5 at h;split at h
 .rename_i a k ks vs;let⟨⟨rfl,q⟩,h⟩:=Z.e! h;cases h;exact⟨a,ks,vs,rfl,q,rfl⟩
 .cases h
theorem RM.tagged{K:Db}(h:RM K H0 ms as H σ ρ){i:Nat}(hi:ρ[i]?=AC (AC<|.bor d)):∃a kd ks vs,d=Z.gD a kd ks vs:=by
 have hm:i∈ms:=by have:=jg h.no hi trivial;simpa using this
 let⟨a,_,kd,ks,vs,q⟩:=d9 h.at_ hm;rw[hi]at q;injection q with q;injection q with q;injection q with q
 exact⟨a,kd,ks,vs,q⟩
theorem _root_.ZQ.l?(hn:T4 X.K f)(ho:PE X o (kE i))(he:ZQ.QE X value fe)(hf:(⟨fc.toArray⟩)=f)(hs:swapsWith value (AC<|.Attribute o f pos') pos.line X.env=pure AT:=by rfl):
 ZQ.OT X H0 ms as (.Assign [.Attribute o f pos'] value pos) (Z.tQ i fc fe):=⟨PS.imp (Qw ho he.p hs) <|by
 rintro D σ H ⟨ρ,fl,rm,e,k⟩;let⟨d,ed,e⟩:=WP e;let⟨l,el,e⟩:=WP e;cases e;refine⟨ρ,d,rm.rs.re,ed,λ y H1 s1 dy=>?_⟩;have lG:=rm.up s1;let⟨a0,ks0,vs,hi,hk,rfl⟩:=MJ el;let⟨a,kd,ks,Ab,e1⟩:=lG.tagged hi;injection e1 with e1 e2
 injection e1 with e1 e3
 injection e3 with e3 e4
 injection e1 with e1
 injection e3 with e3
 subst e1 e2 e4;have:=(B73 e3.symm)
 subst this;have N0:=hi;let⟨Yi,u,hu,th⟩:=lG.thing N0;rcases th with⟨_,_E,C,dx,fs,rfl,hC,h3,h4⟩|⟨z,_⟩
 .let⟨C',g1,g2⟩:=hn;have:=g1.symm.trans hC.1;cases this;have hl:fs.length<1000:=by
   have q1:fs.length=ks.length:=by simpa using A10 List.length h3
   have q2:ks.length<=4:=by
    have:=A10 List.length _E;rw[A26]at this;have:ks.length<=Z.cC.length:=by lia
    exact this
   lia
  let⟨ur,q1,q2,q3⟩:=E3 (f:=fc) dy h3 h4;have Qn:iM H1 (upd H1 a<|.ins C dx<|jT f y fs):=ui hu (λ _ z=>nomatch z) λ _ _ z=>nomatch z;rw[q1]at hk;rw[hf]at q2 q3;have Tw:ur=Z.cC.take ur.length:=by rw[A17]at hk;exact(lw λ x y h=>by injection h).mp hk
  let⟨st,A?⟩:=lG.write N0 (.inl ⟨rfl,Tw,C,dx,_,rfl,hC,q2,q3.ups Qn⟩);refine⟨.ref a,Yi,a,C,dx,fs,rfl,hu,hC.2,g2,hl,k σ _ ((lN s1).trans st) ?_⟩;rw[q1];exact A?
 .cases z⟩
end
def wipe(H:Hp)(as:γ δ):Hp:=λ b=>if b∈as then At else H b
theorem GA:over (wipe H as) H as=H:=by
 funext b
 by_cases hb:b∈as
 .rw[dC hb]
 .rw[dQ hb];exact P3 hb
def O9(K:Db)(ms:γ Nat)(bs:γ Bool)(n:Nat)(fn:γ Z.D->Z.Res (Z.D×γ Z.D)):Sp:=λ vs H Q _=>∃ds as d ts,jQ K H bs ds vs/\as.Nodup/\Paired (λ(i:Nat)(a:δ)=>∃kd ks vs,(Z.startB n bs ds)[i]?=AC (AC<|.bor<|Z.gD a kd ks vs)) ms as/\Z.iY ms 0 (Z.startB n bs ds) /\
 fn ds=.ok (d,ts)/\∀v H',aG (wipe H as) H'->TH K H' as ts->Den K H' d v->Q v H'
section
variable{K:Db}
theorem Sf{st:θ}(uv:bs.length=ps.length)(F:Cs K x qual st f fd)(S:a! N ps (ai st))
 (hb:∀ bh A outer s H H0 as E,bR k (A.deeper<|envOfC qual (ai st) s.heap.objs.size f bh) ->
  W? (dO jd P w K mg base N qual (ai st) f bh A outer s H E).gK H0 ms as (aJ st) b):ee P w K mg base jd (k+1) f fd ps (O9 K ms bs N.length<|Z.D' ms bs N.length b):=by
 have ψ:∀vs H Q E,O9 K ms bs N.length (Z.D' ms bs N.length b) vs H Q E->vs.length=ps.length:=by rintro vs H Q E ⟨ds,as,d,ts,t,_⟩;have:=t.length;lia
 refine F.ok S ψ λ bh A outer s H vs Q E hr h=>?_;have hl:=ψ vs H Q E h;let⟨ds,as,d,ts,t,nd,_2,FD,e,k⟩:=h;refine⟨_,hb bh A outer s H (wipe H as) as E hr,?_⟩;have fA:ps.length<=N.length:=by have:=A10 List.length S.pre;rw[A26]at this;lia
 have rs:RS K H H (L2.start N vs) (Z.startB N.length bs ds):=oz t ∅;have rm:RM K (wipe H as) ms as H (L2.start N vs) (Z.startB N.length bs ds):=⟨by rw[GA];exact rs,_2,FD,nd,λ a ha=>f8 ha⟩
 unfold Z.D' at e;split at e
 .cases eb:b (Z.startB N.length bs ds)with
  |bad=>rw[eb]at e;cases e
  |ok fl=>
   rw[eb]at e;refine⟨_,fl,rm,eb,?_⟩;cases fl with
   |rt d' S8=>cases e;exact λ v H' s' th dv=>k v H' s' th dv
   |nx ρ'=>cases e;exact λ σ' H' _ UB=>k .non H' UB.same UB.Y2 j9
 .cases e
end
structure S3(K:Db)(st:Stmt)(ps:List Str):Prop where
 ex:∃C f fd,ue K "Desk" C/\Mk K C f/\Cs K "__init__" "Desk.__init__" st f fd/\Binds K fd ps []
structure HG(P:Program)(w:World)(K:Db)(mg:Str->Option Value)(base:Heap)(k:Nat)(ps:List Str)(n:Nat)(fn:List Z.D->Z.Res (Z.D×List Z.D)):Prop where
 ex:∃C f fd,ue K "Desk" C/\Mk K C f/\ee P w K mg base jd k f fd ps (O9 K [0] [Ch,AT] n fn)/\Binds K fd ps []
structure ac3(P:Program)(w:World)(K:Db)(mg:Str->Option Value)(base:Heap)(k:Nat)(ps:List Str)(fx:List Z.D->Option Z.XN):Prop where
 ex:∃C f fd,ue K "Desk" C/\Mk K C f/\ee P w K mg base (wI P w) k f fd ps (C3 K [Ch,AT] fx)/\Binds K fd ps []
section
variable{K:Db}
theorem HG.mk'{st:θ}(uv:ps.length=2)(d:S3 K st ps)(S:a! N ps (ai st))
 (hb:∀ f bh A outer s H H0 as E,bR k (A.deeper<|envOfC "Desk.__init__" (ai st) s.heap.objs.size f bh) ->
  W? (dO jd P w K mg base N "Desk.__init__" (ai st) f bh A outer s H E).gK H0 [0] as (aJ st) b):HG P w K mg base (k+1) ps N.length (Z.D' [0] [Ch,AT] N.length b):=by
 let⟨C,f,fd,hC,M,F,uw⟩:=d.ex;exact⟨C,f,fd,hC,M,Sf uv.symm F S<|hb f,uw⟩
end
theorem zk:∀m k,Z.iY ms k (Do m At)
|0,_=>trivial
|m+1,k=>⟨λ z=>z.elim,zk m _⟩
theorem G2(hx:H x=At)(Kj:H dx=At):aG H (upd (upd H dx<|.own x) x<|.ins C dx []):=λ b o e=>by rw[aE<|bt e hx,aE<|bt e Kj];exact e
theorem RS.A5{K:Fk}(h:RS K H0 H σ ρ)(hx:H x=At)(s:aG H H')(hu:H' x=AC u)(t:HY K H' kd ks vs u)(HU:i<ρ.length):
 RS K (upd H0 x u) H' (σ.set i<|some<|.ref x) (ρ.set i<|some<|.bor<|Z.gD x kd ks vs):=by
 have h1:=h.up s;have n0:H0 x=At:=by
  cases e:H0 x with
  |none=>rfl
  |some o=>rw[h.same _ _ e]at hx;cases hx
 have ne:∀{q}{o},H q=AC o->q≠x:=λ e=>bt e hx;have getσ:∀j,i≠j->(σ.set i<|some<|V.ref x)[j]?=σ[j]?:=λ j hj=>A28 hj;have si:(σ.set i<|some<|V.ref x)[i]?=AC (AC<|.ref x):=A41 (by rw[<-h.re.len];exact HU);refine⟨λ b o e=>?_,⟨by simp[h.re.len],λ j l e=>?_,λ j k xs ys q e1 e2 e3 e4=>?_⟩,λ j xs q e1 e2=>?_,λ j d e1=>?_,⟨λ j k ks ls q e1 e2 e3 e4=>?_,λ j ks q e1 e2=>?_⟩⟩
 .by_cases hb:b=x
  .subst hb;rw[aP]at e;rw[hu];exact e
  .rw[aE hb]at e;exact h1.same b o e
 .rcases aK e with⟨rfl,hl,e⟩|⟨hj,e⟩
  .cases e;exact⟨.ref x,si,.inr ⟨x,kd,ks,vs,u,rfl,rfl,hu,t⟩⟩
  .rw[getσ j hj];exact h1.re.get j l e
 .rcases aK e1 with⟨_,_,e⟩|⟨hj,e1⟩
  .cases e
  .rcases aK e2 with⟨_,_,e⟩|⟨hk,e2⟩
   .cases e
   .rw[getσ j hj]at e3;rw[getσ k hk]at e4;exact h.re.sep j k xs ys q e1 e2 e3 e4
 .rcases aK e1 with⟨_,_,e⟩|⟨hj,e1⟩
  .cases e
  .rw[getσ j hj]at e2;let⟨v,g1,a,ws,e,g2,_⟩:=h.re.get j _ e1;rw[e2]at g1;cases g1;cases e;rw[aE<|ne g2];exact h.fresh j xs q e1 e2
 .rcases aK e1 with⟨rfl,_,e⟩|⟨hj,e1⟩
  .cases e;exact⟨.ref x,si,.inr ⟨x,kd,ks,vs,u,rfl,rfl,aP⟩⟩
  .rw[getσ j hj];let⟨v,g1,g2⟩:=h.nJ j d e1;refine⟨v,g1,?_⟩;rcases g2 with g2|⟨a,DH,ur,ds,u',q1,q2,q3⟩
   .exact .inl<|g2.up<|cI n0
   .exact .inr ⟨a,DH,ur,ds,u',q1,q2,cI n0 _ _ q3⟩
 .rcases aK e1 with⟨_,_,e⟩|⟨hj,e1⟩
  .cases e
  .rcases aK e2 with⟨_,_,e⟩|⟨hk,e2⟩
   .cases e
   .rw[getσ j hj]at e3;rw[getσ k hk]at e4;exact h.yj.1 j k ks ls q e1 e2 e3 e4
 .rcases aK e1 with⟨_,_,e⟩|⟨hj,e1⟩
  .cases e
  .rw[getσ j hj]at e2;let⟨v,g1,a,ws,e,g2,_⟩:=h.re.get j _ e1;rw[e2]at g1;cases g1;cases e;rw[aE<|ne g2];exact h.yj.2 j ks q e1 e2
section
variable{rest:γ θ}
theorem Nn{K:Db}(hC:ue K "Desk" C):jY K (upd (upd H dx<|.own x) x<|.ins C dx []) (Z.gD x 0 [] []) (.ref x):=.inr ⟨x,0,[],[],_,rfl,rfl,aP,.inl ⟨rfl,rfl,C,dx,[],rfl,hC,rfl,aI.nil⟩⟩
end
def clsAt(s:θ)(j:Nat):θ:=match s with
|.ClassDef _ _ _ b _ _ _ _ _ _ _=>b.getD j<|.Pass ⟨0,0,0,0⟩
|s=>s
def iT(K:Frag)(C:δ)(m q:Str)(st:θ):Prop:=∃(f:δ)(od an:ε δ)(sl:Array (ε ζ))(oc kV dc pm cd ct:ζ),findIn K (.ref C) m=AC (AC<|.ref f)/\K.lookup f=AC ⟨oc,od,.func<|fnOf m q (bM st) (aJ st) (ai st) .none kV dc pm an cd ct,sl⟩/\codeIn K cd q=Ch/\keepIn K (.ref f)=Ch/\isFn K (.ref f)=Ch
section
variable{K:Frag}{st:θ}
theorem iT.mk'{oc kV dc pm cd ct:ζ}(a:findIn K (.ref C) m=AC (AC<|.ref f))(l:K.lookup f=AC ⟨oc,od,.func<|fnOf m q (bM st) (aJ st) (ai st) .none kV dc pm an cd ct,sl⟩)(c:codeIn K cd q=Ch)(k:keepIn K (.ref f)=Ch)(i:isFn K (.ref f)=Ch):iT K C m q st:=⟨f,od,an,sl,oc,kV,dc,pm,cd,ct,a,l,c,k,i⟩
theorem iT.df(d:iT K C m q st)(hC:ue K "Desk" C)(hb:∀kV doc pm an bh ct us,us.length=ps.length->bindArgs (fnOf m q (bM st) (aJ st) (ai st) .none kV doc pm an bh ct) ⟨us,[]⟩=pure (ps.zip us):=by intro _ _ _ _ _ _;first| exact ZS.bd1 λ _=>rfl| exact ZS.YH λ _ _=>rfl| exact ZS.bd3 λ _ _ _=>rfl| exact ZS.bd4 λ _ _ _ _=>rfl| exact ZS.bd5 λ _ _ _ _ _=>rfl| exact ZS.bd6 λ _ _ _ _ _ _=>rfl):ED K m q st ps:=by let⟨f,od,an,sl,oc,kV,dc,pm,cd,ct,a,l,c,k,i⟩:=d;have F:=rS l c k;exact⟨C,f,_,hC,⟨a,i,k⟩,F,F.binds hb⟩
theorem iT.di(d:iT K C "__init__" "Desk.__init__" st)(hC:ue K "Desk" C)(mk:makesIn K C=Ch)(kp:keepIn K (.ref C)=Ch)(hb:∀kV doc pm an bh ct us,us.length=ps.length->bindArgs (fnOf "__init__" "Desk.__init__" (bM st) (aJ st) (ai st) .none kV doc pm an bh ct) ⟨us,[]⟩=pure (ps.zip us)):S3 K st ps:=by let⟨f,od,an,sl,oc,kV,dc,pm,cd,ct,a,l,c,k,i⟩:=d;have F:=rS l c k;exact⟨C,f,_,hC,⟨mk,a,i,kp⟩,F,F.binds hb⟩
end
end ZS
namespace ZQ
open L2 ZS PySem.W
section
variable{st:θ}
theorem a6(h:∀H1,QS X H1 st g):OT X H0 ms as st (Z.a_ ms g):=⟨ZS.a6 λ H1=>(h H1).p⟩
end
section
variable{K:Db}
theorem El{st:θ}(uv:bs.length=ps.length)(d:ED K m qual st ps)(hb:∀{f}{bh}{A}{outer}{s}{H}{E},N.Nodup->(A.deeper<|envOfC qual (ai st) s.heap.objs.size f bh).units+64<cLine->bR k (A.deeper<|envOfC qual (ai st) s.heap.objs.size f bh)->Cq (dO jd P w K mg base N qual (ai st) f bh A outer s H E).gK H (aJ st) b)(S:a! N ps (ai st):=by exact ZS.D8):Aa P w K mg base m (k+1) ps bs (Z.L5 bs N.length b):=Aa.mk' uv d S λ f bh A outer s H E hr=>(hb S.nd hr.units hr).p
theorem Sx{st:θ}(uv:bs.length=ps.length)(d:ED K m qual st ps)(hb:∀{f}{bh}{A}{outer}{s}{H}{E},N.Nodup->(A.deeper<|envOfC qual (ai st) s.heap.objs.size f bh).units+64<cLine->bR k (A.deeper<|envOfC qual (ai st) s.heap.objs.size f bh)->z! (dO (wI P w) P w K mg base N qual (ai st) f bh A outer s H E) H (aJ st) xb)(S:a! N ps (ai st):=by exact ZS.D8):yE P w K mg base m (k+1) ps bs (Z.Sb bs N.length xb):=yE.mk' uv d S λ f bh A outer s H E hr=>(hb S.nd hr.units hr).p
theorem Sz{st:θ}(uv:ps.length=2)(d:S3 K st ps)(hb:∀{f}{bh}{A}{outer}{s}{H H0}{as}{E},N.Nodup->(A.deeper<|envOfC "Desk.__init__" (ai st) s.heap.objs.size f bh).units+64<cLine->bR k (A.deeper<|envOfC "Desk.__init__" (ai st) s.heap.objs.size f bh)->sv (dO jd P w K mg base N "Desk.__init__" (ai st) f bh A outer s H E).gK H0 [0] as (aJ st) b)(S:a! N ps (ai st):=by exact ZS.D8):HG P w K mg base (k+1) ps N.length (Z.D' [0] [Ch,AT] N.length b):=HG.mk' uv d S λ f bh A outer s H H0 as E hr=>(hb S.nd hr.units hr).p
end
end ZQ
namespace ZS
open L2 PySem.W
section
variable{K:Frag}{st:θ}
theorem WS(d:iT K C "__init__" q st)(xj:CC K C=Ch)(kp:keepIn K (.ref C)=Ch)(ef:qO K C)(ht:findIn K (.ref C) as=AC At)(ha:(⟨a.toArray⟩)=as)
 (hb:aJ st=[.Assign [.Attribute (.Name "self" p1) as p2] (.Name as p3) p4])
 (_Z:∀kV doc pm an bh ct us,us.length=2->bindArgs (fnOf "__init__" q (bM st) (aJ st) (ai st) .none kV doc pm an bh ct) ⟨us,[]⟩=pure ((["self",as]:γ Str).zip us))
 (S:a! ["self",as] ["self",as] (ai st)) (hv:∀x∈(["self",as]:γ Str),HD (ai st) x) (hd:(as==("__debug__"))=AT) (hc:(as==("__classdict__"))=AT):LI P w K mg base C 1 [a]:=by
 let⟨f,od,an,sl,oc,kV,dc,pm,cd,ct,e1,l,c,k,i⟩:=d;have F:=rS l c k;refine⟨f,fnOf "__init__" q (bM st) (aJ st) (ai st) .none kV dc pm an cd ct,xj,kp,e1,i,?_,?_⟩
 .rw[A12,A68,ha];exact VL ef ht F hb S hv hd hc
 .rw[A12,A68,ha];exact F.binds _Z
theorem WR(d:iT K C "__init__" q st)(xj:CC K C=Ch)(kp:keepIn K (.ref C)=Ch)(ef:qO K C)(ht:findIn K (.ref C) as=AC At)(_k:findIn K (.ref C) bs=AC At)(ha:(⟨a.toArray⟩)=as)(Ys:(⟨b.toArray⟩)=bs)
 (hb:aJ st=[.Assign [.Attribute (.Name "self" p1) as p2] (.Name as p3) p4,.Assign [.Attribute (.Name "self" q1) bs q2] (.Name bs q3) q4]) (qQ:bs≠as)
 (_Z:∀kV doc pm an bh ct us,us.length=3->bindArgs (fnOf "__init__" q (bM st) (aJ st) (ai st) .none kV doc pm an bh ct) ⟨us,[]⟩=pure ((["self",as,bs]:γ Str).zip us))
 (S:a! ["self",as,bs] ["self",as,bs] (ai st)) (hv:∀x∈(["self",as,bs]:γ Str),HD (ai st) x) (hd:∀x∈[as,bs],(x==("__debug__"))=AT/\(x==("__classdict__"))=AT):LI P w K mg base C 1 [a,b]:=by
 let⟨f,od,an,sl,oc,kV,dc,pm,cd,ct,e1,l,c,k,i⟩:=d;have F:=rS l c k;refine⟨f,fnOf "__init__" q (bM st) (aJ st) (ai st) .none kV dc pm an cd ct,xj,kp,e1,i,?_,?_⟩
 .rw[A12,A12,A68,ha,Ys];exact VJ ef ht _k F hb qQ S hv hd
 .rw[A12,A12,A68,ha,Ys];exact F.binds _Z
theorem FL(h1:nsIn K mainGlobals ⟨c.toArray⟩=AC (AC<|.ref C))(h2:nL K C)(h3:qO K C)(h4:findIn K (.ref C) f=AC At):O0 K f c:=⟨C,h1,h2,h3,h4⟩
theorem EJ{l:γ Str}(h:∀x∈l,sc.names.lookup x=AC .local):∀x∈l,HD sc x:=λ x hx=>.inl<|h x hx
end
theorem xT:∀is ts ρ,(Z.fS is ts ρ).length=ρ.length
|[],_,_=>rfl
|_::_,[],_=>rfl
|i::is,t::ts,ρ=>by show(Z.fS is ts _).length=_;rw[xT];simp
theorem kH:∀is ts ρ {j},j∉is->(Z.fS is ts ρ)[j]?=ρ[j]?
|[],_,_,_,_=>rfl
|_::_,[],_,_,_=>rfl
|i::is,t::ts,ρ,j,h=>by show(Z.fS is ts _)[j]?=_;rw[kH is ts _ λ z=>h<|A11 _ z,A28 λ z=>h (by rw[z];simp)]
theorem A_{S:δ->Z.D->Prop}:∀{is}{as}{ts}{ρ}{j},is.Nodup->(∀i∈is,i<ρ.length)->Paired R is as->Paired S as ts->j∈is->∃a t,a∈as/\R j a/\S a t/\(Z.fS is ts ρ)[j]?=AC (AC<|.bor t)
|[],_,_,_,_,_,_,_,_,h=>by simp at h
|i::is,_,_,ρ,j,nd,hl,.cons (b:=a) r tr,.cons (b:=t) s tS,h=>by
 have Dn:=A49.mp nd;rcases A00.mp h with e|h
 .subst e;refine⟨a,t,by simp,r,s,?_⟩;show(Z.fS is _ _)[j]?=_;rw[kH is _ _ Dn.1,A41<|hl j ∅]
 .let⟨a',t',h1,h2,h3,h4⟩:=A_ (ρ:=ρ.set i (AC<|.bor t)) Dn.2 (λ k hk=>by simpa using hl k (by simp[hk])) tr tS h;exact⟨a',t',by simp[h1],h2,h3,h4⟩
section
variable{K:Db}
abbrev T6(ρ:Z.Env)(i:Nat)(a:δ):Prop:=∃kd ks vs,ρ[i]?=AC (AC<|.bor<|Z.gD a kd ks vs)
theorem j0:∀{l}{m}{y},Paired R l m->y∈m->∃x∈l,R x y
|_,_,_,.nil,h=>by simp at h
|_,_,y,.cons r t,h=>by
 rcases A00.mp h with rfl|h
 .exact⟨_,by simp,r⟩
 .let⟨x,h1,h2⟩:=j0 t h;exact⟨x,by simp[h1],h2⟩
theorem RM.pick(h:RM K H0 ms as H σ ρ):∀{is},(∀i∈is,i∈ms)->is.Nodup->∃xA,Paired (T6 ρ) is xA/\xA.Nodup/\∀a∈xA,a∈as
|[],_,_=>⟨[],.nil,by simp,λ a h=>by simp at h⟩
|i::is,hs,nd=>by
 have Dn:=A49.mp nd;let⟨xA,p,n,s⟩:=h.pick (λ k hk=>hs k (by simp[hk])) Dn.2;let⟨a,ha,r⟩:=d9 h.at_ (hs i ∅);refine⟨a::xA,.cons r p,A49.mpr ⟨λ z=>?_,n⟩,λ b hb=>?_⟩
 .let⟨j,hj,r2⟩:=j0 p z;let⟨_,_,_,r⟩:=r;let⟨_,_,_,r2⟩:=r2;have:=h.uniq r r2;subst this;exact Dn.1 hj
 .rcases A00.mp hb with rfl|hb
  .exact ha
  .exact s b hb
theorem RM.Pd(h:RM K H0 ms as H σ ρ)(hb:b∈as):(∀xs,H b≠AC (.tup xs))/\∀o u,H b≠AC (.eH o u):=by let⟨i,_,_,_,_,hi⟩:=j0 h.at_ hb;let⟨_,u,q,t⟩:=h.thing hi;exact⟨λ xs z=>t.mb.1 xs<|A06<|q.symm.trans z,λ o x z=>t.mb.2.1 o x<|A06<|q.symm.trans z⟩
def z?(as:γ δ)(H H':Hp):Prop:=∀b o,b∉as->H b=AC o->H' b=AC o
theorem z?.of(s:aG H H'):z? as H H':=λ b o _ e=>s b o e
theorem z?.trans{H2:Hp}(a:z? as H H')(b:z? as H' H2):z? as H H2:=λ c o hc e=>b c o hc<|a c o hc e
theorem RM.lN(h:RM K H0 ms as H σ ρ)(s:z? as H H'):iM H H':=⟨λ b xs e=>s b _ (λ z=>(h.Pd z).1 xs e) e,λ b o u e=>s b _ (λ z=>(h.Pd z).2 o u e) e⟩
theorem RM.call(h:RM K H0 ms as H σ ρ)(hs:∀i∈is,i∈ms)(nd:is.Nodup)(p:Paired (T6 ρ) is xA)(sub:∀a∈xA,a∈as)(sm:aG (wipe H xA) H')(th:TH K H' xA ts):
 z? as H H'/\RM K H0 ms as H' σ (Z.fS is ts ρ):=by
 have keep:∀b o,b∉xA->H b=AC o->H' b=AC o:=λ b o n e=>sm b o (by show(if b∈xA then At else H b)=_;rw[P3 n];exact e);have m1:z? as H H':=λ b o n e=>keep b o (λ z=>n<|sub b z) e;have st:=h.lN m1;have hl:∀i∈is,i<ρ.length:=λ i hi=>by let⟨a,_,_,_,_,q⟩:=d9 p hi;exact(A04.mp q).1
 have new:∀{j},j∈is->∃a kd ks vs u,a∈xA/\T6 ρ j a/\H' a=AC u/\HY K H' kd ks vs u/\(Z.fS is ts ρ)[j]?=AC (AC<|.bor<|Z.gD a kd ks vs):=λ {j} hj=>by let⟨a,t,ha,r,⟨kd,ks,vs,u,e,q,o⟩,g⟩:=A_ (ρ:=ρ) nd hl p th hj;subst e;exact⟨a,kd,ks,vs,u,ha,r,q,o,g⟩
 have old:∀{j}{l},(Z.fS is ts ρ)[j]?=AC (AC l)->j∉is->ρ[j]?=AC (AC l):=λ {j l} e hj=>by rw[kH is ts ρ hj]at e;exact e
 have off:∀{j:Nat}{a:δ},j∉is->T6 ρ j a->a∉xA:=λ {j a} hj ⟨_,_,_,r⟩ z=>by let⟨i,hi,_,_,_,r2⟩:=j0 p z;exact hj (by rw[h.uniq r r2];exact hi)
 have fr:∀{q:δ},over H0 H as q=At->q∉as/\over H0 H' as q=At:=λ {q} e=>by
  have n:q∉as:=λ z=>by let⟨u,hu⟩:=h.tracked z;rw[dC z,hu]at e;cases e
  exact⟨n,by rw[dQ n]at e ⊢;exact e⟩
 have thing:∀{j:Nat}{d:Z.D},ρ[j]?=AC (AC<|.bor d)->∃a kd ks vs,d=Z.gD a kd ks vs:=λ {j d} hj=>by
  have hm:j∈ms:=by have:=jg h.no hj trivial;simpa using this
  let⟨a,_,kd,ks,vs,q⟩:=d9 h.at_ hm;rw[hj]at q;injection q with q;injection q with q;injection q with q
  exact⟨a,kd,ks,vs,q⟩
 have σat:∀{j:Nat}{a:δ},T6 ρ j a->σ[j]?=AC (AC<|.ref a):=λ⟨_,_,_,q⟩=>(h.thing q).1;refine⟨m1,⟨?_,?_,?_,h.nd,h.h0⟩⟩
 .refine⟨λ b o e=>?_,⟨by rw[xT];exact h.rs.re.len,λ j l e=>?_,λ j k xs ys q e1 e2 e3 e4=>?_⟩,λ j xs q e1 e2=>?_,λ j d e1=>?_,⟨λ j k ks ls q e1 e2 e3 e4=>?_,λ j ks q e1 e2=>?_⟩⟩
  .by_cases hb:b∈as
   .rw[dC hb]at e;exact e
   .rw[dQ hb]at e;exact m1 b o hb<|h.same b o e
  .by_cases hj:j∈is
   .let⟨a,kd,ks,vs,u,ha,r,q,o,g⟩:=new hj;rw[g]at e;cases e;exact⟨.ref a,σat r,.inr ⟨a,kd,ks,vs,u,rfl,rfl,q,o⟩⟩
   .have e:=old e hj;let⟨v,e1,r⟩:=h.rs.re.get j l e;refine⟨v,e1,?_⟩;cases l with
    |val d=>exact Den.ups (show Den K H d v from r) st
    |own zs=>let⟨q',ws,rfl,gC,t'⟩:=r;exact⟨q',ws,rfl,m1 _ _ (fr<|h.rs.fresh j zs q' e e1).1 gC,t'.ups st⟩
    |bor d=>let⟨a,kd,ks,vs,rfl⟩:=thing e;let⟨s1,u,q,t⟩:=h.thing e;rw[s1]at e1;cases e1;exact .inr ⟨a,kd,ks,vs,u,rfl,rfl,keep _ _ (off hj ⟨_,_,_,e⟩) q,t.ups st⟩
    |dc ks=>let⟨q',as2,rfl,gC,t'⟩:=r;exact⟨q',as2,rfl,m1 _ _ (fr<|h.rs.yj.2 j ks q' e e1).1 gC,t'.ups st⟩
    |Hf ks=>let⟨q',o',as2,rfl,gC,t'⟩:=r;exact⟨q',o',as2,rfl,st.eH _ _ _ gC,t'.ups st⟩
    |RJ ps=>let⟨q',o',rfl,gC⟩:=r;exact⟨q',o',rfl,st.eH _ _ _ gC⟩
    |exc c=>let⟨q',o',u',C',rfl,gC,r1,r2,r3⟩:=r;exact⟨q',o',u',C',rfl,st.eH _ _ _ gC,r1,r2,r3.ups st⟩
  .have no:∀{j:Nat}{zs:γ Z.D},(Z.fS is ts ρ)[j]?=AC (AC<|.own zs)->ρ[j]?=AC (AC<|.own zs):=λ {j zs} e=>old e λ hj=>by let⟨a,kd,ks,vs,u,ha,r,q,o,g⟩:=new hj;rw[g]at e;cases e
   exact h.rs.re.sep j k xs ys q (no e1) (no e2) e3 e4
  .have hj:j∉is:=λ hj=>by let⟨a,kd,ks,vs,u,ha,r,q,o,g⟩:=new hj;rw[g]at e1;cases e1
   exact(fr<|h.rs.fresh j xs q (old e1 hj) e2).2
  .by_cases hj:j∈is
   .let⟨a,kd,ks,vs,u,ha,r,q,o,g⟩:=new hj;rw[g]at e1;cases e1;exact⟨.ref a,σat r,.inr ⟨a,kd,ks,vs,u,rfl,rfl,by rw[dC<|sub a ha];exact q⟩⟩
   .have e:=old e1 hj;let⟨a,kd,ks,vs,rfl⟩:=thing e;let⟨s1,u,q,t⟩:=h.thing e;exact⟨.ref a,s1,.inr ⟨a,kd,ks,vs,u,rfl,rfl,by rw[dC<|h.mem e];exact keep _ _ (off hj ⟨_,_,_,e⟩) q⟩⟩
  .have no:∀{j:Nat}{zs:Z.DK},(Z.fS is ts ρ)[j]?=AC (AC<|.dc zs)->ρ[j]?=AC (AC<|.dc zs):=λ {j zs} e=>old e λ hj=>by let⟨a,kd,ks,vs,u,ha,r,q,o,g⟩:=new hj;rw[g]at e;cases e
   exact h.rs.yj.1 j k ks ls q (no e1) (no e2) e3 e4
  .have hj:j∉is:=λ hj=>by let⟨a,kd,ks,vs,u,ha,r,q,o,g⟩:=new hj;rw[g]at e1;cases e1
   exact(fr<|h.rs.yj.2 j ks q (old e1 hj) e2).2
 .refine dZ h.at_ λ i hi a r=>?_;by_cases hj:i∈is
  .let⟨a2,kd,ks,vs,u,ha,r2,q,o,g⟩:=new hj;have:=Ew i _ _ r r2;subst this;exact⟨kd,ks,vs,g⟩
  .let⟨kd,ks,vs,r⟩:=r;exact⟨kd,ks,vs,by rw[kH is ts ρ hj];exact r⟩
 .refine vc λ j x e t=>?_;rw[A93];by_cases hj:j∈is
  .exact hs j hj
  .rw[kH is ts ρ hj]at e;have:=jg h.no e t;simpa using this
end
theorem uU:∀k {bs}{ds}{as},ds.length=bs.length->Paired (λ(d)(a:δ)=>∃kd ks vs,d=Z.gD a kd ks vs) (Z.HI bs ds) as ->
 Paired (λ(i)(a)=>∃kd ks vs,k<=i/\(ZB (λ b d=>AC<|Z.tR b d) bs ds)[i-k]?=AC (AC<|.bor<|Z.gD a kd ks vs)) (Z.iZ k bs) as
|k,[],[],_,_,.nil=>.nil
|k,Ch::bs,d::ds,_,hl,.cons r t=>by
 let⟨kd,ks,vs,rfl⟩:=r;refine .cons ⟨kd,ks,vs,v6 _,by simp[Z.gD,Z.tR]⟩ ?_;refine dZ (uU _ (by simpa using hl) t) λ i _ a ⟨kd,ks,vs,h1,h2⟩=>⟨kd,ks,vs,by lia,?_⟩
 rw[show i-k=(i-(k+1))+1 from by lia];simpa using h2
|k,AT::bs,d::ds,_,hl,p=>by
 refine dZ (uU (k+1) (by simpa using hl) p) λ i _ a ⟨kd,ks,vs,h1,h2⟩=>⟨kd,ks,vs,by lia,?_⟩
 rw[show i-k=(i-(k+1))+1 from by lia];simpa using h2
theorem Fh:∀{a}{k},Z.iY ms k a->Z.iY ms (k+a.length) b->Z.iY ms k (a++b)
|[],_,_,h=>h
|x::a,k,h,g=>⟨h.1,Fh h.2 (by rw[show k+1+a.length=k+(x::a).length from by simp;lia];exact g)⟩
theorem zj:∀k bs ds ms,(∀i∈Z.iZ k bs,i∈ms)->Z.iY ms k (ZB (λ b d=>AC<|Z.tR b d) bs ds)
|_,[],_,_,_=>by simp[Z.iY]
|_,_::_,[],_,_=>by simp[Z.iY]
|k,Ch::bs,d::ds,ms,h=>⟨λ _=>h k (by simp[Z.iZ]),zj _ bs ds ms λ i hi=>h i (by simp[Z.iZ,hi])⟩
|k,AT::bs,d::ds,ms,h=>⟨λ z=>by
 have:Z.tR AT d=.val d:=by cases d<;>rfl
 change Z.lO (AC _)at z;rw[this]at z;exact z.elim,zj _ bs ds ms λ i hi=>h i (by simpa[Z.iZ]using hi)⟩
def Qj(K:Db)(H0:Hp)(ms:γ Nat)(as:γ δ)(f:Z.Ga):TE:=λ σ H Q=>∃ρ d ρ',RM K H0 ms as H σ ρ/\f ρ=.ok (d,ρ')/\∀v H',z? as H H'->RM K H0 ms as H' σ ρ'->Den K H' d v->Q v H'
def tMT(K:Db)(H0:Hp)(ms:γ Nat)(as:γ δ)(f:Z.Ey):TT:=λ σ H Q=>∃ρ b ρ',RM K H0 ms as H σ ρ/\f ρ=.ok (b,ρ')/\∀H',z? as H H'->RM K H0 ms as H' σ ρ'->Q b H'
def tMA(K:Db)(H0:Hp)(ms:γ Nat)(as:γ δ)(f:Z.AMf):TA:=λ σ H Q=>∃ρ ds ρ',RM K H0 ms as H σ ρ/\f ρ=.ok (ds,ρ')/\∀vs H',z? as H H'->RM K H0 ms as H' σ ρ'->aI K H' ds vs->Q vs H'
abbrev ME(X:Cx)(H0:Hp)(ms:γ Nat)(as:γ δ)(e:ι)(f:Z.Ga):Prop:=PE X e<|Qj X.K H0 ms as f
structure _root_.ZQ.yD(X:Cx)(H0:Hp)(ms:List Nat)(as:List Addr)(e:Expr)(f:Z.Ga):Prop where p:ME X H0 ms as e f
abbrev MT(X:Cx)(H0:Hp)(ms:γ Nat)(as:γ δ)(e:ι)(f:Z.Ey):Prop:=PT X e<|tMT X.K H0 ms as f
structure _root_.ZQ.HZ(X:Cx)(H0:Hp)(ms:List Nat)(as:List Addr)(e:Expr)(f:Z.Ey):Prop where p:MT X H0 ms as e f
abbrev MTW(X:Cx)(H0:Hp)(ms:γ Nat)(as:γ δ)(e:ι)(f:Z.Ey):Prop:=PW X e<|tMT X.K H0 ms as f
structure _root_.ZQ.Ez(X:Cx)(H0:Hp)(ms:List Nat)(as:List Addr)(e:Expr)(f:Z.Ey):Prop where p:MTW X H0 ms as e f
abbrev MA(X:Cx)(H0:Hp)(ms:γ Nat)(as:γ δ)(es:γ ι)(f:Z.AMf):Prop:=PA X es<|tMA X.K H0 ms as f
structure wH(P:Program)(w:World)(K:Db)(mg:Str->Option Value)(base:Heap)(x:Str)(k:Nat)(ps:List Str)(bs:List Bool)(n:Nat)(fn:List Z.D->Z.Res (Z.D×List Z.D)):Prop where
 ex:∃g fd,ee P w K mg base jd k g fd ps (O9 K (Z.iZ 0 bs) bs n fn)/\mg x=AC (.ref g)/\FS K (.ref g)=Ch/\Binds K fd ps []
structure wG(P:Program)(w:World)(K:Db)(mg:Str->Option Value)(base:Heap)(m:Str)(k:Nat)(ps:List Str)(bs:List Bool)(n:Nat)(fn:List Z.D->Z.Res (Z.D×List Z.D)):Prop where
 ex:∃C g fd,ue K "Desk" C/\Meth K C m g/\ee P w K mg base jd k g fd ps (O9 K (Z.iZ 0 bs) bs n fn)/\Binds K fd ps []
section
variable{K:Db}
theorem wH.mk'{st:θ}(uv:bs.length=ps.length)(d:Def K mg x st ps)(S:a! N ps (ai st))
 (hb:∀ f bh A outer s H H0 as E,bR k (A.deeper<|envOfC x (ai st) s.heap.objs.size f bh) ->
  W? (dO jd P w K mg base N x (ai st) f bh A outer s H E).gK H0 (Z.iZ 0 bs) as (aJ st) b):wH P w K mg base x (k+1) ps bs N.length (Z.D' (Z.iZ 0 bs) bs N.length b):=by
 let⟨f,fd,F,hm,uw⟩:=d.ex;exact⟨f,fd,Sf uv F S<|hb f,hm,F.kp,uw⟩
theorem wG.mk'{st:θ}(uv:bs.length=ps.length)(d:ED K m qual st ps)(S:a! N ps (ai st))
 (hb:∀ f bh A outer s H H0 as E,bR k (A.deeper<|envOfC qual (ai st) s.heap.objs.size f bh) ->
  W? (dO jd P w K mg base N qual (ai st) f bh A outer s H E).gK H0 (Z.iZ 0 bs) as (aJ st) b):wG P w K mg base m (k+1) ps bs N.length (Z.D' (Z.iZ 0 bs) bs N.length b):=by
 let⟨C,f,fd,hC,hm,F,uw⟩:=d.ex;exact⟨C,f,fd,hC,hm,Sf uv F S<|hb f,uw⟩
end
section
variable{X:Cx}
theorem _root_.ZQ.rq(h:ZQ.QE X e f):ZQ.yD X H0 ms as e (Z.mP f):=⟨PE.imp h.p <|by rintro σ H Q ⟨ρ,d,ρ',rm,e,k⟩;let⟨x,ea,e⟩:=WP e;cases e;exact⟨ρ,d,rm.rs.re,ea,λ v H1 s1 d1=>k v H1 (z?.of s1) (rm.up s1) d1⟩⟩
theorem Ce{K:Fk}(rm:RM K H0 ms as H σ ρ)(hs:∀i∈is,i∈ms)(nd:is.Nodup)(d1:jQ K H bs ds vs)(VR:Z.HI bs ds=Z.h9 is ρ)(er:fn ds=.ok r)
 (k:∀v H',z? as H H'->RM K H0 ms as H' σ (Z.fS is r.2 ρ)->Den K H' r.1 v->Q v H'):O9 K (Z.iZ 0 bs) bs n fn vs H Q E:=by
 let⟨xA,p,n',sub⟩:=rm.pick hs nd;have p2:Paired (λ(d)(a)=>∃kd ks vs,d=Z.gD a kd ks vs) (Z.HI bs ds) xA:=by
  rw[VR];have key:∀{l}{m},Paired (T6 ρ) l m->Paired (λ(d)(a)=>∃kd ks vs,d=Z.gD a kd ks vs) (Z.h9 l ρ) m:=by
   intro l m q
   induction q with
   |nil=>exact .nil
   |cons r t ih=>let⟨kd,ks,vs,hi⟩:=r;exact .cons ⟨kd,ks,vs,by show Z.Qf _=_;rw[hi];rfl⟩ ih
  exact key p
 let⟨Yl,NZ⟩:=d1.length;have st:=uU 0 NZ p2;refine⟨ds,xA,r.1,r.2,d1,n',dZ st λ i _ a ⟨kd,ks,vs,_,q⟩=>⟨kd,ks,vs,?_⟩,?_,er,λ v H' s2 th dv=>?_⟩
 .rw[Nat.sub_zero]at q;unfold Z.startB;rw[A25 (A04.mp q).1];exact q
 .exact Fh (zj 0 bs ds _ λ i h=>h)<|zk _ _
 .let⟨m1,A?⟩:=rm.call hs nd p sub s2 th;exact k v H' m1 A? dv
theorem _root_.ZQ.gM(C:wH X.prog X.w X.K X.mg X.base x k ps bs n fn)(hr:bR k X.A)(hg:Gl X x)(hs:∀i∈is,i∈ms)(nd:is.Nodup)
 (ha:ZQ.OU X (e::es) bs ar) (gP:(x==("__debug__"))=AT:=by decide +kernel) (he:Se e es X.env:=by rfl) (fA:Pn pos es X.env:=by rfl) :
 ZQ.yD X H0 ms as (.Call (.Name x p1) (e::es) [] pos) (Z.ck fn bs is ar):=⟨by
 let⟨g,fd,F,hm,hk,hb⟩:=C.ex;refine PE.imp (Fb F hr hg hm hk hb .nil xV ha.p gP he fA) ?_;rintro σ H Q ⟨ρ,d,ρ',rm,e,k⟩;let⟨ds,ea,e⟩:=WP e;let⟨VR,e⟩:=Z.e! e;let⟨r,er,e⟩:=WP e;let⟨ψ,e⟩:=Z.e! e;cases e;refine⟨ρ,ds,rm.rs.re,ea,λ vs H1 s1 d1=>?_⟩;show O9 X.K _ bs n fn _ H1 Q E0;rw[A54];exact Ce (rm.up s1) hs nd d1 VR er λ v H' m1 A? dv=>k v H' ((z?.of s1).trans m1) A? dv⟩
theorem _root_.ZQ.iC(C:wG X.prog X.w X.K X.mg X.base m k ps (Ch::bs) n fn)(hr:bR k X.A)(ho:ZQ.QM X 0 o fo)(hf:(Z.cC.map λ c=>(⟨c.toArray⟩)).contains m=AT)(hs:∀i∈is,i∈ms)(nd:is.Nodup)(ha:ZQ.OU X (e::es) bs ar)
 (vL:Se e es X.env:=by rfl) (fA:Pn pos es X.env:=by rfl)
 (ht:eval (.Call (.Attribute o m apos) (e::es) [] pos) X.env=(do
  let ov ←eval o X.env
  standAt apos.atName
  let (f,first) ←holding [ov] (getMethod ov m pl)
  callWith pos f first (backTo pos<|starEach (e::es) X.env) (backToKw pos<|keywordEach [] X.env)):=by rfl) :
 ZQ.yD X H0 ms as (.Call (.Attribute o m apos) (e::es) [] pos) (Z.ck fn (Ch::bs) is<|Z.aa fo ar):=⟨by
 let⟨C,g,fd,hC,hm,F,hb⟩:=C.ex;refine PE.imp (E! ho.p hC.2 hm F hr hb .nil xV ha.p vL fA ht) ?_;rintro σ H Q ⟨ρ,d,ρ',rm,e,k⟩;let⟨ds,ea,e⟩:=WP e;let⟨VR,e⟩:=Z.e! e;let⟨r,er,e⟩:=WP e;let⟨ψ,e⟩:=Z.e! e;cases e;let⟨x,ex,ea⟩:=WP ea;let⟨xs,en,ea⟩:=WP ea;cases ea;refine⟨ρ,x,rm.rs.re,ex,λ v H1 s1 d1=>?_⟩;let⟨a,ks,ds,u,rfl,rfl,q,t⟩:=id d1;rcases t with⟨_,hk,C',dx,fs,rfl,R9,h3,h4⟩|⟨z,_⟩
 .have:=R9.1.symm.trans hC.1;cases this;rw[hk]at h3;refine⟨a,dx,fs,rfl,q,m9 h3 hf,ρ,xs,rm.rs.re.up s1,en,λ vs H2 s2 d2=>?_⟩;show O9 X.K (Z.iZ 0<|true::bs) (Ch::bs) n fn (.ref a::(vs++[])) H2 Q E0;rw[A54];exact Ce ((rm.up s1).up s2) hs nd (ds:=Z.gD a 0 ks ds::xs) ⟨_,_,rfl,(d1.up s2).b,d2⟩ VR er λ v H' m1 A? dv=>k v H' (((z?.of s1).trans<|z?.of s2).trans m1) A? dv
 .cases z⟩
theorem Vs(hz:H! X.K r o):∀σ H Q,Qj X.K H0 ms as (Z.mB o fa fb) σ H Q->Ms r (Qj X.K H0 ms as fa) (Qj X.K H0 ms as fb) σ H Q:=by rintro σ H Q ⟨ρ,d,ρ',rm,e,k⟩;let⟨⟨x,ρ1⟩,ea,e⟩:=WP e;let⟨⟨y,ρ2⟩,eb,e⟩:=WP e;let⟨z,eo,e⟩:=WP e;cases e;exact⟨ρ,x,ρ1,rm,ea,λ v H1 m1 lG d1=>⟨ρ1,y,ρ2,lG,eb,λ u H2 m2 A? d2=>hz _ _ _ _ _ H2 Q (.inl<|d1.ups<|lG.lN m2) (.inl d2) eo λ w H' s3 dw=>k w H' ((m1.trans m2).trans<|z?.of s3) (A?.up s3) dw⟩⟩
theorem _root_.ZQ.Fo(h:EG X op o)(ha:ZQ.yD X H0 ms as a fa)(hb:ZQ.yD X H0 ms as b fb)(hm:behindInMarks op b=AT):ZQ.yD X H0 ms as (.Compare a [op] [b] pos) (Z.mB o fa fb):=
 ⟨let ⟨_,hr,hz⟩:=h.ex;PE.imp (E_ hr ha.p hb.p hm) (Vs hz)⟩
theorem Pf(h:PT X e (EU t))(k:∀σ H Q,Qj X.K H0 ms as fa σ H Q->t σ H Q):MT X H0 ms as e (Z.tP fa):=PT.imp h <|by
 rintro σ H Q ⟨ρ,b,ρ',rm,e,q⟩;let⟨⟨x,ρ1⟩,ea,e⟩:=WP e;refine k σ H _ ⟨ρ,x,ρ1,rm,ea,λ v H' m lG d=>?_⟩;dsimp only at e;split at e
 .cases e;simp only[Den]at d;exact⟨_,d,q H' m lG⟩
 .cases e
theorem _root_.ZQ.j3(h:EG X op o)(ha:ZQ.yD X H0 ms as a fa)(hb:ZQ.yD X H0 ms as b fb)(hm:behindInMarks op b=AT):ZQ.HZ X H0 ms as (.Compare a [op] [b] pos) (Z.tP<|Z.mB o fa fb):=
 ⟨let ⟨_,hr,hz⟩:=h.ex;Pf (pN hr ha.p hb.p hm) (Vs hz)⟩
theorem JT:∀σ H Q,Qj X.K H0 ms as (Z.mU Z.iW fa) σ H Q->Ms (λ x y H Q=>y=.non/\Q (.bl<|decide<|x=.non) H) (Qj X.K H0 ms as fa) (tC .non) σ H Q:=by
 rintro σ H Q ⟨ρ,d,ρ',rm,e,k⟩;let⟨⟨x,ρ1⟩,ea,e⟩:=WP e;let⟨y,eo,e⟩:=WP e;cases e;refine⟨ρ,x,ρ1,rm,ea,λ v H1 m1 lG d1=>⟨rfl,?_⟩⟩;have h1:d=Z.D.bl (decide<|v=V.non):=by
  cases x with
  |non=>simp only[Den]at d1;subst d1;cases eo;rfl
  |bl b=>simp only[Den]at d1;subst d1;cases eo;rfl
  |int i=>simp only[Den]at d1;subst d1;cases eo;rfl
  |str cs=>simp only[Den]at d1;subst d1;cases eo;rfl
  |tup ds=>simp only[Den]at d1;let⟨a,vs,rfl,_⟩:=d1;cases eo;rfl
  |lst ds=>simp only[Den]at d1;let⟨a,vs,rfl,_⟩:=d1;cases eo;rfl
  |dct ks ds=>simp only[Den]at d1;let⟨a,o,fT,rfl,_⟩:=d1;cases eo;rfl
 subst h1;exact k _ H1 m1 lG dh
theorem _root_.ZQ.Rk(ha:ZQ.yD X H0 ms as a fa):ZQ.HZ X H0 ms as (.Compare a [.Is] [.Constant .none j pos'] pos) (Z.tP<|Z.mU Z.iW fa):=⟨Pf (pN Jv ha.p y?<|gi _) JT⟩
theorem _root_.ZQ.Dr(h:ZQ.yD X H0 ms as a fa):ZQ.yD X H0 ms as (.BoolOp op [a] pos) fa:=⟨Jl h.p⟩
theorem _root_.ZQ.JU{rest:γ ι}(ha:ZQ.yD X H0 ms as a fa)(hb:ZQ.yD X H0 ms as (.BoolOp .And (b::rest) pos) fb):ZQ.yD X H0 ms as (.BoolOp .And (a::b::rest) pos) (Z.Dv fa fb):=⟨PE.imp (Jq ha.p hb.p) <|by
 rintro σ H Q ⟨ρ,d,ρ',rm,e,k⟩;let⟨⟨x,ρ1⟩,ea,e⟩:=WP e;refine⟨ρ,x,ρ1,rm,ea,λ v H1 m1 lG d1=>?_⟩;dsimp only at e;split at e
 .rename_i q;simp only[Den]at d1;refine⟨q,d1,?_⟩;cases q with
  |true=>simp only[A23]at e ⊢;exact⟨ρ1,d,ρ',lG,e,λ w H' m2 A? dw=>k w H' (m1.trans m2) A? dw⟩
  |false=>simp only[A40]at e ⊢;cases e;exact k _ H1 m1 lG dh
 .cases e⟩
theorem _root_.ZQ.Nl(h:ZQ.QT X e t):ZQ.HZ X H0 ms as e (Z.JP t):=⟨PT.imp h.p <|by rintro σ H Q ⟨ρ,d,ρ',rm,e,k⟩;let⟨x,ea,e⟩:=WP e;cases e;exact⟨ρ,d,rm.rs.re,ea,λ H1 s1=>k H1 (z?.of s1)<|rm.up s1⟩⟩
theorem _root_.ZQ.Z4(h:ZQ.yD X H0 ms as e fa)(he:∀whole,isTrue e X.env whole=(do let v ←whole;standAt e.pos;holding [v] (truthy v)):=by intro _;rfl):ZQ.HZ X H0 ms as e (Z.tP fa):=⟨PT.imp (Jc h.p he) <|by
 rintro σ H Q ⟨ρ,b,ρ',rm,e,q⟩;let⟨⟨x,ρ1⟩,ea,e⟩:=WP e;refine⟨ρ,x,ρ1,rm,ea,λ v H' m lG d=>?_⟩;dsimp only at e;split at e
 .cases e;simp only[Den]at d;exact⟨_,d,q H' m lG⟩
 .cases e⟩
theorem _root_.ZQ.Rj(h:ZQ.HZ X H0 ms as a ta):ZQ.HZ X H0 ms as (.UnaryOp .Not a pos) (Z.Fm ta):=⟨PT.imp (Jd h.p) <|by rintro σ H Q ⟨ρ,b,ρ',rm,e,q⟩;let⟨⟨x,ρ1⟩,ea,e⟩:=WP e;cases e;exact⟨ρ,x,ρ1,rm,ea,λ H' m lG=>q H' m lG⟩⟩
theorem _root_.ZQ.Nm(h:ZQ.HZ X H0 ms as a ta):ZQ.Ez X H0 ms as (.BoolOp .And [a] pos) ta:=⟨pw_and1 h.p⟩
theorem _root_.ZQ.JM(h:ZQ.HZ X H0 ms as a ta):ZQ.Ez X H0 ms as (.BoolOp .Or [a] pos) ta:=⟨pw_or1 h.p⟩
theorem _root_.ZQ.Rl{rest:γ ι}(ha:ZQ.HZ X H0 ms as a ta)(hb:ZQ.Ez X H0 ms as (.BoolOp .And (b::rest) pos) tb):ZQ.Ez X H0 ms as (.BoolOp .And (a::b::rest) pos) (Z.vf ta tb):=⟨PW.imp (pw_and ha.p hb.p) <|by
 rintro σ H Q ⟨ρ,d,ρ',rm,e,k⟩;let⟨⟨x,ρ1⟩,ea,e⟩:=WP e;refine⟨ρ,x,ρ1,rm,ea,λ H1 m1 lG=>?_⟩;dsimp only at e;cases x with
 |true=>simp only[A23]at e ⊢;exact⟨ρ1,d,ρ',lG,e,λ H' m2 A?=>k H' (m1.trans m2) A?⟩
 |false=>simp only[A40]at e ⊢;cases e;exact k H1 m1 lG⟩
theorem _root_.ZQ.JN{rest:γ ι}(ha:ZQ.HZ X H0 ms as a ta)(hb:ZQ.Ez X H0 ms as (.BoolOp .Or (b::rest) pos) tb):ZQ.Ez X H0 ms as (.BoolOp .Or (a::b::rest) pos) (Z.Dp ta tb):=⟨PW.imp (pw_or ha.p hb.p) <|by
 rintro σ H Q ⟨ρ,d,ρ',rm,e,k⟩;let⟨⟨x,ρ1⟩,ea,e⟩:=WP e;refine⟨ρ,x,ρ1,rm,ea,λ H1 m1 lG=>?_⟩;dsimp only at e;cases x with
 |false=>simp only[A40]at e ⊢;exact⟨ρ1,d,ρ',lG,e,λ H' m2 A?=>k H' (m1.trans m2) A?⟩
 |true=>simp only[A23]at e ⊢;cases e;exact k H1 m1 lG⟩
theorem _root_.ZQ.Z3(h:ZQ.Ez X H0 ms as e ta):ZQ.HZ X H0 ms as e ta:=⟨h.p.pt⟩
end
section
variable{K:Db}
end
section
variable{st:θ}
theorem _root_.ZQ.iB:ZQ.sv X H0 ms as [] Z.gN:=⟨s?.imp E7 <|by rintro D σ H ⟨ρ,fl,rm,e,k⟩;cases e;exact k σ H (iM.refl H) rm⟩
theorem _root_.ZQ.ji(h:ZQ.yD X H0 ms as a fa)(hs:swapsWith a At pos.line X.env=pure AT:=by rfl):ZQ.OT X H0 ms as (.Expr a pos) (Z.iO fa):=⟨PS.imp (uk h.p hs) <|by rintro D σ H ⟨ρ,fl,rm,e,k⟩;let⟨⟨d,ρ'⟩,ea,e⟩:=WP e;cases e;exact⟨ρ,d,ρ',rm,ea,λ v H' m lG dv=>k σ H' (rm.lN m) lG⟩⟩
theorem _root_.ZQ.JQ(h:ZQ.yD X H0 ms as a fa):ZQ.OT X H0 ms as (.Return (AC a) pos) (Z.Bx ms fa):=⟨PS.imp (Jf h.p) <|by rintro D σ H ⟨ρ,fl,rm,e,k⟩;let⟨⟨d,ρ'⟩,ea,e⟩:=WP e;cases e;exact⟨ρ,d,ρ',rm,ea,λ v H' m lG dv=>k v H' lG.same lG.Y2 dv⟩⟩
theorem _root_.ZQ.nX(hc:ZQ.HZ X H0 ms as c t)(h1:ZQ.sv X H0 ms as b1 g)(h2:ZQ.sv X H0 ms as b2 u):ZQ.OT X H0 ms as (.If c b1 b2 pos) (Z.jU t g u):=⟨PS.imp (Jg hc.p h1.p h2.p) <|by
 rintro D σ H ⟨ρ,fl,rm,e,k⟩;let⟨⟨x,ρ1⟩,ea,e⟩:=WP e;refine⟨ρ,x,ρ1,rm,ea,λ H1 m1 lG=>?_⟩;dsimp only at e;cases x with
 |true=>simp only[A23]at e ⊢;exact⟨ρ1,fl,lG,e,k.up<|rm.lN m1⟩
 |false=>simp only[A40]at e ⊢;exact⟨ρ1,fl,lG,e,k.up<|rm.lN m1⟩⟩
def tMG(K:Db)(H0:Hp)(ms:γ Nat)(as:γ δ)(g:Z.GF):TG:=λ v σ H Q=>∃ρ d ρ',RM K H0 ms as H σ ρ/\Den K H d v/\g d ρ=.ok ρ'/\Z.bS ms ρ ρ'/\∀σ' H',iM H H'->RM K H0 ms as H' σ' ρ'->Q σ' H'
theorem Nq(h:∀H1,DG X H1 tg G):PG X tg (tMG X.K H0 ms as G):=by intro χ s σ H v u Q I r w;let⟨ρ,d,ρ',rm,hd,e,kt,k⟩:=w;exact h _ χ s σ H v u Q I r ⟨ρ,d,ρ',rm.ovR,hd,e,λ σ' H' s r'=>k σ' H' (lN s)<|rm.back kt r'⟩
theorem _root_.ZQ.zp(hp:PassesOwn (model X.prog X.w) X.A X.env X.xe)(hc:X.calm=Ch)(hi:ZQ.QJ X tg iter it)(hg:∀H1,ZQ.QG X H1 tg G)(hb:ZQ.sv X H0 ms as body g)
 (hs:∀x,foldedSetIterable iter X.env x=pure x:=by intro _;rfl):ZQ.OT X H0 ms as (.For tg iter body [] pos) (Z.Du ms it G g):=⟨have hg:=λ H1=>(hg H1).p;PS.imp (Jh hp hc hi.p (Nq hg) hb.p hs) <|by
 rintro D σ H ⟨ρ,fl,rm,e,k⟩;let⟨ds,ei,e⟩:=WP e;refine⟨ρ,ds,rm.rs.re,ei,λ J H1 s1 z=>?_⟩;refine⟨λ i m σ' H'=>m=ds.length-i/\i<=ds.length/\∃ρ',RM X.K H0 ms as H' σ' ρ'/\iM H1 H'/\Z.gR ms G g (ds.drop i) ρ'=.ok fl,⟨ds.length,by simp,A71 _,ρ,rm.up s1,iM.refl H1,by simpa using e⟩,?_⟩;rintro i m σ2 H2 ⟨rfl,HU,ρ2,r2,s2,e2⟩;by_cases qR:i<ds.length
 .obtain⟨d,hd⟩:∃d,ds[i]?=AC d:=⟨ds[i],by simp[qR]⟩
  have qp:ds.drop i=d::ds.drop (i+1):=by
   rw[A90 qR];have:ds[i]=d:=by have:=A01 qR;rw[this]at hd;exact A06 hd
   rw[this]
  rw[qp]at e2;let⟨ρ3,eg,e2⟩:=WP e2;let⟨kt,e2⟩:=Z.e! e2;let⟨f3,eb,e2⟩:=WP e2;refine .inr ⟨z.go i d H2 s2 hd,λ σ' H'=>∃ρ',RM X.K H0 ms as H' σ' ρ'/\iM H1 H'/\Z.gR ms G g _ ρ'=.ok fl,λ σ' H' w=>⟨_,by lia,rfl,qR,w⟩,λ x H3 y=>?_⟩;let⟨sy,dx⟩:=z.CB i d H2 H3 x s2 hd y;replace s2:=s2.trans<|lN sy;refine⟨ρ2,d,ρ3,r2.up sy,dx,eg,kt,λ σ4 H4 s4 r4=>⟨ρ3,f3,r4,eb,?_⟩⟩;cases f3 with
  |nx ρ5=>exact λ σ5 H5 s5 r5=>⟨ρ5,r5,(s2.trans s4).trans s5,e2⟩
  |rt d5 ts5=>cases e2;exact k
 .have:i=ds.length:=by lia
  subst this;rw[B50]at e2;cases e2;exact .inl ⟨z.stop H2 s2,k σ2 H2 ((lN s1).trans s2) r2⟩⟩
theorem _root_.ZQ.sd{rest:γ θ}(C:HG X.prog X.w X.K X.mg X.base k ps n fn)(hr:bR (k+1) X.A)(hg:Gl X "Desk")(hN:X.N.Nodup)(hi:X.N[i]?=AC y)(hy:Loc X.env.scope y)
 (he:ZQ.QE X e fe) (vM:∀H1 as,ZQ.sv X H1 [i] as rest r) (hs:swapsWith (.Call (.Name "Desk" p1) [e] [] nG) (AC<|.Name y pos') pos.line X.env=pure AT:=by rfl) (hf:X.fn y=Ch\/X.env.scope.names.lookup y=AC .local:=by first| exact .inl rfl| exact .inr rfl| assumption)
 (h1:Se e [] X.env:=by rfl) (fA:Pn nG [] X.env:=by rfl) :
 ZQ.Cq X H0 (.Assign [.Name y pos'] (.Call (.Name "Desk" p1) [e] [] nG) pos::rest) (Z.rd i fn fe r):=⟨by
 have vM:=λ H1 as=>(vM H1 as).p;let⟨C,f,fd,hC,M,F,hb⟩:=C.ex;intro χ s σ H D I w;have hm:=A15 (mg:=X.mg) (h:=s.heap) I.kB (I.mod.glob.keeps I.bk) hC.1;have hR:s? X rest (λ D σ H=>∃H1 as,tM X.K H1 [i] as r D σ H):=by rintro χ s σ H D I ⟨H1,as,w⟩;exact vM H1 as χ s σ H D I w
 let⟨ρ,fl,rs,e,k⟩:=w;let⟨d,ed,e⟩:=WP e;let⟨fs,ef,e⟩:=WP e;let⟨FD,e⟩:=Z.e! e;have ef:=Z.JX ef;let⟨dr,rfl,er⟩:=Z.OL e;have HU:i<ρ.length:=by rw[rs.re.len,I.len];exact(A04.mp hi).1
 refine kI (y! hN hi hy (MX M F hr hg hm hb .nil xV (bL he.p cW h1) (by decide +kernel) h1 fA) hs hf) hR χ s σ H D I ?_;refine⟨ρ,d,rs.re,ed,λ v H1 s1 dv x dx hx Kj ne=>?_⟩;have sm:=G2 (C:=C) hx Kj;refine⟨[Z.gD x 0 [] [],d],[x],.non,[Z.gD x 0 Z.cC fs],⟨_,_,rfl,Nn hC,_,_,rfl,Den.up dv sm,rfl⟩,by simp,.cons ⟨0,[],[],rfl⟩ .nil,⟨λ _=>by simp,λ z=>z.elim,zk _ _⟩,ef x,λ v' H' s2 th dn=>?_⟩;refine⟨by simpa only[Den]using dn,?_⟩;have nx:H x=At:=by
  cases q:H x with
  |none=>rfl
  |some o=>rw[s1 _ _ q]at hx;cases hx
 have s3:aG H H':=λ b o q=>s2 b o (by have hb:b≠x:=bt q nx;show(if b∈[x]then At else _)=_;rw[P3 (by simpa using hb)];exact sm _ _<|s1 _ _ q)
 have n0:H0 x=At:=by
  cases e:H0 x with
  |none=>rfl
  |some o=>rw[rs.same _ _ e]at nx;cases nx
 cases th with
 |cons r0 _=>
  let⟨kd,ks,vs,u,e1,hu,t⟩:=r0;let⟨_,rfl,rfl,rfl⟩:=pE e1;have rs2:=rs.A5 (i:=i) nx s3 hu t HU;have hov:over H0 H' [x]=upd H0 x u:=by
   funext b
   by_cases hb:b=x
   .subst hb;rw[dC ∅,aP];exact hu
   .rw[dQ (by simpa using hb),aE hb]
  have rm:RM X.K H0 [i] [x] H' (σ.set i<|some<|.ref x) (ρ.set i<|some<|.bor<|Z.gD x 0 Z.cC fs):=by
   refine⟨by rw[hov];exact rs2,.cons ⟨0,Z.cC,fs,A41 HU⟩ .nil,vc λ j y e t=>?_,by simp,λ a ha=>by rw[A22.mp ha];exact n0⟩;by_cases oY:i=j
   .subst oY;simp
   .rw[A28 oY]at e;have:=jg FD (i:=j) (x:=y) (by rw[A28 oY];exact e) t;exact this
  have er:=er x;let⟨fl2,e3,er⟩:=WP er;cases fl2 with
  |nx ρ'=>cases er
  |rt d2 ts=>cases er;exact⟨H0,[x],_,.rt dr ts,rm,e3,λ v PZ s4 _ d4=>k v PZ s4 d4⟩⟩
end
theorem Ap{K:Frag}(h:(⟨c.toArray⟩)=x)(w:nsIn K mainGlobals x=AC (AC<|.ref C))(q:Ar K C=Ch):XC K c C:=⟨by rw[h];exact w,q⟩
theorem bJ{K:Frag}(h:(⟨c.toArray⟩)=x)(w:nsIn K mainGlobals x=AC (AC<|.ref C))(k:nL K C)(q:kitOne K (.ref C) cv=AC b):jX K c cv b:=⟨C,by rw[h];exact w,k,q⟩
end ZS
namespace ZQ
open L2 ZS PySem.W
section
variable{K:Db}
theorem F3{st:θ}(uv:bs.length=ps.length)(d:ED K m qual st ps)(hb:∀{f}{bh}{A}{outer}{s}{H H0}{as}{E},N.Nodup->(A.deeper<|envOfC qual (ai st) s.heap.objs.size f bh).units+64<cLine->bR k (A.deeper<|envOfC qual (ai st) s.heap.objs.size f bh)->sv (dO jd P w K mg base N qual (ai st) f bh A outer s H E).gK H0 (Z.iZ 0 bs) as (aJ st) b)(S:a! N ps (ai st):=by exact ZS.D8):wG P w K mg base m (k+1) ps bs N.length (Z.D' (Z.iZ 0 bs) bs N.length b):=wG.mk' uv d S λ f bh A outer s H H0 as E hr=>(hb S.nd hr.units hr).p
theorem F4{st:θ}(uv:bs.length=ps.length)(d:Def K mg x st ps)(hb:∀{f}{bh}{A}{outer}{s}{H H0}{as}{E},N.Nodup->(A.deeper<|envOfC x (ai st) s.heap.objs.size f bh).units+64<cLine->bR k (A.deeper<|envOfC x (ai st) s.heap.objs.size f bh)->sv (dO jd P w K mg base N x (ai st) f bh A outer s H E).gK H0 (Z.iZ 0 bs) as (aJ st) b)(S:a! N ps (ai st):=by exact ZS.D8):wH P w K mg base x (k+1) ps bs N.length (Z.D' (Z.iZ 0 bs) bs N.length b):=wH.mk' uv d S λ f bh A outer s H H0 as E hr=>(hb S.nd hr.units hr).p
end
end ZQ
namespace Z
def nC(l:γ (γ Nat×Bool))(c:γ Nat):ε Bool:=l.lookup c
end Z
namespace ZS
open L2 PySem.W
section
variable{X:Cx}
def wC(K:Frag)(l:γ (γ Nat×Bool))(cv:ζ):Prop:=∀p∈l,jX K p.1 cv p.2
theorem wC.nil{K:Frag}:wC K [] cv:=λ _ h=>nomatch h
theorem wC.cons{K:Frag}{cv:ζ}{c:γ Nat}{b:Bool}{l:γ _}(h:jX K c cv b)(t:wC K l cv):wC K ((c,b)::l) cv:=λ p hp=>by
 rcases A00.mp hp with rfl|hp
 .exact h
 .exact t p hp
theorem wC.at{K:Frag}:∀{l}{c}{b},wC K l cv->Z.nC l c=AC b->jX K c cv b
|[],_,_,_,e=>nomatch e
|p::l,c,b,h,e=>by
 unfold Z.nC at e;rw[A51]at e;split at e
 .rename_i q;cases e;have:c=p.1:=by simpa using q
  rw[this];exact h p A18
 .exact wC.at (λ x hx=>h x<|A11 _ hx) e
theorem BI(hK:wC X.K l cv):∀σ H Q,tZ X.K (Z.o4 i<|Z.nC l) σ H Q ->
 Zb (λ xs H Q=>∃p o u C c b,xs=[.ref p,cV]/\H p=AC (.eH o u)/\o.cls=.ref C/\(∃vs,o.data=.fields vs)/\nK X.K H c C o.dict/\nL X.K C/\kitOne X.K (.ref C) cv=AC b/\Q (.bl b) H) (AR (kE i)<|AR (tC cV) Iz) σ H Q:=by
 rintro σ H Q ⟨ρ,d,r,e,k⟩;unfold Z.o4 at e;split at e
 .rename_i c hi;split at e
  .rename_i b' eb;cases e;let⟨v,hv,p,o,u,C,rfl,h1,h2,h3,h4⟩:=r.get i _ hi;let⟨k1,k2⟩:=RH (hK.at eb) (f8 rfl) h4.1;exact⟨_,hv,p,o,u,C,c,b',rfl,h1,h2,h3,h4,k1,k2,k _ H (aG.refl H) dh⟩
  .cases e
 .cases e
theorem _root_.ZQ.g?(hg:Gl X x)(hm:X.mg x=At)(hv:bootBuiltins x=AC (.builtin "isinstance"))(ha:PE X a (kE i))(_K:Gl X y)(_A:X.mg y=AC (.ref D))(hK:wC X.K l (.ref D))
 (hn:x≠ "__name__":=by decide +kernel) (gP:(x==("__debug__"))=AT:=by decide +kernel) (_O:(y==("__debug__"))=AT:=by decide +kernel)
 (he:starEach (a::[.Name y p2]) X.env=(AT,eval a X.env)::starEach [.Name y p2] X.env:=by rfl) (fA:(backTo pos<|starEach [.Name y p2] X.env).any (·.1)=AT:=by rfl) (LY:starEach ((.Name y p2)::[]) X.env=(AT,eval (.Name y p2) X.env)::starEach [] X.env:=by rfl) :
 ZQ.QE X (.Call (.Name x p1) [a,.Name y p2] [] pos) (Z.o4 i<|Z.nC l):=
 ⟨PE.imp (jy (Cd (cV:=.ref D) λ u r=>r) hg hm hv (bL ha (bL (E? (v:=.ref D) _K _A rfl _O) cW LY) he) hn gP he fA)<|BI hK⟩
theorem _root_.ZQ.La(hg:Gl X x)(hm:X.mg x=At)(hv:bootBuiltins x=AC (.builtin "isinstance"))(ha:PE X a (kE i))(_K:Gl X y)(_A:X.mg y=At)(hvy:bootBuiltins y=AC (.type T))(hK:wC X.K l (.type T))
 (hn:x≠ "__name__":=by decide +kernel) (gP:(x==("__debug__"))=AT:=by decide +kernel) (hny:y≠ "__name__":=by decide +kernel) (_O:(y==("__debug__"))=AT:=by decide +kernel)
 (he:starEach (a::[.Name y p2]) X.env=(AT,eval a X.env)::starEach [.Name y p2] X.env:=by rfl) (fA:(backTo pos<|starEach [.Name y p2] X.env).any (·.1)=AT:=by rfl) (LY:starEach ((.Name y p2)::[]) X.env=(AT,eval (.Name y p2) X.env)::starEach [] X.env:=by rfl) :
 ZQ.QE X (.Call (.Name x p1) [a,.Name y p2] [] pos) (Z.o4 i<|Z.nC l):=
 ⟨PE.imp (jy (Cd (cV:=.ty T) λ u r=>r) hg hm hv (bL ha (bL (Fc (v:=.ty T) _K _A hvy rfl hny _O) cW LY) he) hn gP he fA)<|BI hK⟩
end
end ZS
namespace ZQ
open L2 ZS
end ZQ
namespace Z
def TB(f:γ Nat->ε Bool)(i:Nat)(h:SM)(r:XN->SM)(c:XN)(ρ:Env):Res xC:=match f c.1 with
|some Ch=>(h<|ρ.set i<|some<|.exc c).bind λ fl=>match fl with
 |.nx ρ'=>.ok<|.nx<|ρ'.set i At
 |.rt d ts=>.ok<|.rt d ts
|some AT=>r c ρ
|none=>.bad
def hNo(_:XN)(_:Env):Res xC:=.bad
def Ka(l:γ (γ Nat×Bool))(c:γ Nat):ε Bool:=l.lookup c
def G4(b:SM)(xb:XF)(hs:XN->SM)(ρ:Env):Res xC:=match xb ρ with
|some c=>hs c ρ
|none=>b ρ
end Z
namespace ZS
open L2 PySem.W
def Lz(K:Frag)(l:γ (γ Nat×Bool))(D:δ):Prop:=∀p∈l,∃C,nsIn K mainGlobals ⟨p.1.toArray⟩=AC (AC<|.ref C)/\mroIn K C (.ref D)=AC p.2
theorem AU{K:Frag}:Lz K [] D:=λ _ h=>nomatch h
theorem gv{K:Frag}(h1:nsIn K mainGlobals ⟨c.toArray⟩=AC (AC<|.ref C))(h2:mroIn K C (.ref D)=AC b)(t:Lz K l D):Lz K ((c,b)::l) D:=λ p hp=>by
 rcases A00.mp hp with rfl|hp
 .exact⟨C,h1,h2⟩
 .exact t p hp
theorem EW{K:Frag}(h:Lz K l D)(e:l.lookup c=AC b)(xc:XC K c C):mroIn K C (.ref D)=AC b:=by
 have hm:(c,b)∈l:=by
  clear h
  induction l with
  |nil=>cases e
  |cons p l ih=>
   rw[A51]at e;by_cases z:c=p.1
   .rw[A29.mpr z]at e;cases e;subst z;exact .head _
   .rw[A57.mpr z]at e;exact .tail _<|ih e
 let⟨C',h1,h2⟩:=h _ hm;have:=h1.symm.trans xc.1;cases this;exact h2
theorem Wx{K:Frag}(X:K.In s.heap)(xd:XC K c D)(he:s.heap.get? e=AC oe)(hc:oe.cls=.ref C)(hm:mroIn K C (.ref D)=AC b)(hq:Q b s):
 FM M A (excMatches (.ref e)<|.ref D) Q E s:=by
 let⟨tl,ns,nm,qn,bs,hd,sn,sub,ab,col,dd',s0',Zt,s2',s3',s5',hC,uv⟩:=aaA X xd;let⟨h,g,d,t,os⟩:=s;have _X:(Value.ref D::tl).contains (.type "BaseException")=Ch:=by rw[C23,uv,C24]
 have L:=B71 (M:=M) X hm;have f:=tc_notTuple;cases b<;>(repeat (first|(with_reducible refine A96 he ?_;rw[hc])|with_reducible refine A96 hC ?_|(with_reducible refine C25 hC ?_;rw[_X])|with_reducible refine L.at ?_|wp_step))<;>exact hq
section
variable{K:Frag}
theorem RM.IM(h:RM K H0 ms as H σ ρ)(hi:i∉ms)(r:RS K (over H0 H as) H (σ.set i v) (ρ.set i l))(hl:¬Z.lO l):RM K H0 ms as H (σ.set i v) (ρ.set i l):=by
 refine⟨r,dZ h.at_ λ j hj a ⟨kd,ks,vs,q⟩=>⟨kd,ks,vs,?_⟩,vc λ j x e t=>?_,h.nd,h.h0⟩
 .rw[A28 λ z=>hi (by rw[z];exact hj)];exact q
 .by_cases oY:i=j
  .subst oY;by_cases hl:i<ρ.length
   .rw[A41 hl]at e;cases e;exact absurd t ‹_›
   .rw[B24 (by simpa using hl)]at e;cases e
  .rw[A28 oY]at e;exact jg h.no e t
end
structure _root_.ZQ.YQ(X:Cx)(H0:Hp)(ms:List Nat)(as:List Addr)(hs:List ExceptHandler)(g:Z.XN->Z.SM):Prop where
 p:∀(ex C:Addr)(dd:Option Addr)(c:Z.XN)(l:Bool)(χ:List (Addr×Obj))(s:Shared)(σ:St)(H:Hp)(D:Ends),T5 X χ σ H s ex C dd l->nK X.K H c C dd->tM X.K H0 ms as (g c) D σ H->FM (model X.prog X.w) X.A (handleBy (.ref ex) X.env hs) (SP X χ D) X.xe s
theorem _root_.ZQ.Vt:ZQ.YQ X H0 ms as [] Z.hNo:=⟨by rintro _ _ _ _ _ _ _ _ _ _ _ _ ⟨_,_,_,e,_⟩;exact nomatch e⟩
theorem _root_.ZQ.Pg{rest:γ ExceptHandler}(hN:X.N.Nodup)(hi:X.N[i]?=AC n)(hl:X.env.scope.names.lookup n=AC .local)(him:i∉ms)(hg:Gl X x)(hm:X.mg x=AC (.ref D0))(xd:XC X.K c0 D0)(FE:Lz X.K l D0)
 (hh:∀ev,ZQ.sv (N3 X ev).gK H0 ms as (b0::Up) h) (hr:ZQ.YQ X H0 ms as rest r) (gP:Nd x:=by decide +kernel) :
 ZQ.YQ X H0 ms as (.ExceptHandler (AC<|.Name x np) (AC n) (b0::Up) aeo::rest) (Z.TB (Z.Ka l) i h r):=⟨by
 rintro ex C dd c lb χ s σ H D c3 xr ⟨ρ,fl,rm,e,k⟩;have hh:=λ ev=>(hh ev).p;let⟨oe,vs,_,_,_,he,kR,_⟩:=c3.ex;refine wpAny_handleBy_cons (codeAny_handlers_test<|J8 c3.inv hg hm ?_ gP) (by intro q;cases q);unfold Z.TB at e;split at e
 .rename_i ef;refine Wx c3.inv.kB xd he kR (EW FE ef xr.1) ?_;refine codeAny_handlers_suite_as<|land c3 λ s4 c4=>?_;let⟨oe4,u4,_W,_Q,_S,fe,I4⟩:=c4.Ud;refine pH I4 hN hi (.inl hl) (show RelV (.ref ex) (.ref ex)from rfl) (λ s5 I5=>?_)<|.inr hl;have C4:aG H (upd H ex<|.eH oe4 u4):=cI fe;have lG:=rm.up C4;have rm5:=lG.IM him (lG.rs.Uu ⟨ex,oe4,u4,C,rfl,aP,_W,_S,by rw[_Q];exact xr.ups<|lN C4⟩) λ z=>z;let⟨f1,e1,e2⟩:=WP e;cases f1 with
  |nx ρ'=>
   cases e2;refine A21 (hh (.ref ex) χ s5 _ _ {nx:=λ σ' H2=>D.nx (σ'.set i At) H2,rt:=λ _ _=>False} (Fx I5 _) ⟨_,.nx ρ',rm5,e1,λ σ' H2 st UB=>k (σ'.set i At) H2 ((lN C4).trans st)<|UB.IM him UB.rs.Qp λ z=>z⟩) (λ f s6 q=>?_) λ _ _ z=>z.elim;cases f with
   |next=>let⟨σ',H2,I6,q⟩:=q;exact name_goes hN hi hl (vF c3.inv.ok I6) λ s7 I7=>⟨_,H2,I7,q⟩
   |brk=>let⟨_,_,_,z⟩:=q;exact z.elim
   |cont=>let⟨_,_,_,z⟩:=q;exact z.elim
   |ret u=>let⟨_,_,_,_,_,z⟩:=q;exact z.elim
  |rt d ts=>
   cases e2;refine A21 (hh (.ref ex) χ s5 _ _ {nx:=λ _ _=>False,rt:=D.rt} (Fx I5 _) ⟨_,.rt d ts,rm5,e1,k⟩) (λ f s6 q=>?_) λ _ _ z=>z.elim;cases f with
   |next=>let⟨_,_,_,z⟩:=q;exact z.elim
   |brk=>let⟨_,_,_,z⟩:=q;exact z.elim
   |cont=>let⟨_,_,_,z⟩:=q;exact z.elim
   |ret u=>let⟨v,σ',H2,I6,rv,q⟩:=q;exact name_goes hN hi hl (vF c3.inv.ok I6) λ s7 I7=>⟨v,_,H2,I7,rv,q⟩
 .rename_i ef;exact Wx c3.inv.kB xd he kR (EW FE ef xr.1)<|hr.p ex C dd c lb χ s σ H D c3 xr ⟨ρ,fl,rm,e,k⟩
 .cases e⟩
theorem _root_.ZQ.Rm(hex:X.ex=[])(vL:X.stack=X.env::X.outer)(LX:X.env.frame=AC X.env.locals)
 (hb:ZQ.sv X.gK H0 ms as body b) (_j:∀pn E,ZQ.W9 (Gv X pn E) body xb) (hh:ZQ.YQ X H0 ms as (h0::hs) g):ZQ.OT X H0 ms as (.Try body (h0::hs) [] [] pos) (Z.G4 b xb g):=⟨by
 have hb:=hb.p;have _j:=λ pn E=>(_j pn E).p;rintro χ s σ H D I ⟨ρ,fl,rm,e,k⟩;refine wpAny_Try_except ?_;unfold Z.G4 at e;split at e
 .rename_i c ec;refine A21 (_j (X.pn++χ) _ [] s σ H {nx:=λ _ _=>False,rt:=λ _ _=>False} (NR I _) ⟨ρ,c,rm.rs.re,ec,λ nT H' s' ex C dd sm xr J1 th1=>?_⟩) (λ f s1 q=>?_) λ _ _ z=>z;rotate_left
  .cases f with
   |next=>let⟨_,_,_,z⟩:=q;exact z.elim
   |brk=>let⟨_,_,_,z⟩:=q;exact z.elim
   |cont=>let⟨_,_,_,z⟩:=q;exact z.elim
   |ret u=>let⟨_,_,_,_,_,z⟩:=q;exact z.elim
  exact Bo hex vL LX (DR I.ok J1) (CY th1) λ s2 c2=>land c2 λ s3 c3=>hh.p ex C dd c Ch χ s3 σ H' D c3 xr ⟨ρ,fl,rm.up sm,e,k.up<|lN sm⟩
 .refine A21 (hb χ s σ H D (I.wish _) ⟨ρ,fl,rm,e,k⟩) (λ f s1 q=>?_) λ _ _ z=>z.elim;have q:=q.h_;cases f with
  |next=>exact B44 q
  |brk=>exact q
  |cont=>exact q
  |ret u=>exact q⟩
end ZS
namespace Z
end Z
namespace ZS
open L2 PySem.W
section
variable{X:Cx}
end
end ZS
namespace Z
end Z
namespace ZS
open L2 PySem.W
section
variable{H0:Hp}{ms:γ Nat}{as:γ δ}
end
end ZS
namespace Z
def Vv(a b:Ga)(ρ:Env):Res (D×Env):=(a ρ).bind λ x=>match x.1 with
|.bl c=>if c then .ok (.bl Ch,x.2)else b x.2
|_=>.bad
open Classical in
def allM(f:Nat->Res xC):Res xC:=if h:∃r:D×γ D,∀x,f x=.ok (.rt r.1 r.2)then .ok (.rt h.choose.1 h.choose.2)else .bad
end Z
namespace ZS
open L2 PySem.W
section
variable{K:Frag}
end
section
variable{rest:γ θ}{pos pos' afz:Pos}
theorem _root_.ZQ.Vu{rest:γ ι}(ha:ZQ.yD X H0 ms as a fa)(hb:ZQ.yD X H0 ms as (.BoolOp .Or (b::rest) pos) fb):ZQ.yD X H0 ms as (.BoolOp .Or (a::b::rest) pos) (Z.Vv fa fb):=⟨PE.imp (Pb ha.p hb.p) <|by
 rintro σ H Q ⟨ρ,d,ρ',rm,e,k⟩;let⟨⟨x,ρ1⟩,ea,e⟩:=WP e;refine⟨ρ,x,ρ1,rm,ea,λ v H1 m1 lG d1=>?_⟩;dsimp only at e;split at e
 .rename_i q;simp only[Den]at d1;refine⟨q,d1,?_⟩;cases q with
  |false=>simp only[A40]at e ⊢;exact⟨ρ1,d,ρ',lG,e,λ w H' m2 A? dw=>k w H' (m1.trans m2) A? dw⟩
  |true=>simp only[A23]at e ⊢;cases e;exact k _ H1 m1 lG dh
 .cases e⟩
structure _root_.ZQ.QMA(X:Cx)(H0:Hp)(ms:List Nat)(as:List Addr)(es:List Expr)(f:Z.AMf):Prop where p:MA X H0 ms as es f
end
end ZS
namespace Z
def Ok{α:Type}(r:Res α)(Q:α->Prop):Prop:=∃a,r=.ok a/\Q a
theorem Ok.imp(h:Ok r P)(k:∀a,P a->Q a):Ok r Q:=let ⟨a,e,p⟩:=h;⟨a,e,k a p⟩
theorem Ok.eq(h:Ok r λ x=>x=a):r=.ok a:=by let⟨x,e,rfl⟩:=h;exact e
@[simp] theorem W'(a:α)(Q:α->Prop):Ok (.ok a) Q↔Q a:=⟨by rintro⟨_,e,q⟩;cases e;exact q,λ q=>⟨a,rfl,q⟩⟩
@[simp] theorem aaR(Q:α->Prop):Ok (.bad) Q↔False:=⟨by rintro⟨_,e,_⟩;exact(by cases e),GE⟩
@[simp] theorem YT(r:Res α)(f:α->Res β)(Q:β->Prop):Ok (r.bind f) Q↔Ok r λ a=>Ok (f a) Q:=by
 cases r with
 |ok a=>simp
 |bad=>simp
@[simp] theorem aaP(r:Res α)(f:α->β)(Q:β->Prop):Ok (r.map f) Q↔Ok r λ a=>Q (f a):=by
 cases r with
 |ok a=>simp
 |bad=>simp
@[simp] theorem W!(p:Prop)(r:Res α)(Q:α->Prop):Ok (guard p r) Q↔p/\Ok r Q:=by
 constructor
 .rintro⟨a,e,q⟩;let⟨h,e⟩:=e! e;exact⟨h,a,e,q⟩
 .rintro⟨h,k⟩;rw[guard_pos h];exact k
@[simp] theorem aaQ[Decidable c](r r':Res α)(Q:α->Prop):Ok (if c then r else r') Q↔if c then Ok r Q else Ok r' Q:=by split<;>rfl
abbrev v(d:D):ε L:=AC<|.val d
abbrev vi(i:Int):ε L:=AC<|.val<|.int i
abbrev vs(cs:γ Nat):ε L:=AC<|.val<|.str cs
abbrev ow(xs:γ D):ε L:=AC<|.own xs
abbrev bo(xs:γ D):ε L:=AC<|.bor<|.lst xs
def WX:ε (ε L)->Res D
|some<|some<|.val d=>.ok d
|some<|some<|.own xs=>.ok<|.lst xs
|some<|some<|.bor<|.lst xs=>.ok<|.lst xs
|_=>.bad
def asV:ε (ε L)->Res D
|some<|some<|.val d=>.ok d
|_=>.bad
@[simp] theorem afp(i:Nat)(ρ:Env):eW i ρ=WX ρ[i]?:=by
 unfold eW WX;cases ρ[i]? with
 |none=>rfl
 |some o=>cases o with
  |none=>rfl
  |some l=>cases l<;>rfl
@[simp] theorem afq(i:Nat)(ρ:Env):eV i ρ=asV ρ[i]?:=by
 unfold eV asV;cases ρ[i]? with
 |none=>rfl
 |some o=>cases o with
  |none=>rfl
  |some l=>cases l<;>rfl
@[simp] theorem YI(d:D):WX (AC<|some<|.val d)=.ok d:=rfl
@[simp] theorem YJ(xs:γ D):WX (AC<|some<|.own xs)=.ok (.lst xs):=rfl
@[simp] theorem YK(xs:γ D):WX (AC<|some<|.bor<|.lst xs)=.ok (.lst xs):=rfl
@[simp] theorem YL(d:D):asV (AC<|some<|.val d)=.ok d:=rfl
theorem aT{b:SF}(h:Ok (b ρ) λ fl=>cu (.ok fl)=.ok d):cu (b ρ)=.ok d:=by let⟨fl,e,q⟩:=h;rw[e,q]
theorem C9{b:SF}(h:Ok (b ρ) λ fl=>Ok (cu<|.ok fl) P):Ok (cu<|b ρ) P:=by let⟨fl,e,q⟩:=h;rw[e];exact q
@[simp] theorem acw(i j:Nat)(a b:D)(ρ:Env):kq [i,j] (.tup [a,b]) ρ=.ok ((ρ.set i<|v a).set j<|v b):=rfl
def W4(i:Nat)(ρ:Env)(d:D):ε (ε L)->Res Fl
|some<|some<|.own xs=>guard (xs.length<line)<|.ok<|.nx<|ρ.set i<|ow<|xs++[d]
|_=>.bad
@[simp] theorem S?(i:Nat)(e:EF)(ρ:Env):mX i e ρ=(e ρ).bind λ d=>W4 i ρ d ρ[i]?:=rfl
@[simp] theorem WZ(i:Nat)(ρ:Env)(d:D)(xs:γ D):W4 i ρ d (AC<|some<|.own xs)=guard (xs.length<line) (.ok<|.nx<|ρ.set i<|ow<|xs++[d]):=rfl
def Wv(i:Nat)(ρ:Env)(ys:γ D):ε (ε L)->Res Fl
|some<|some<|.own xs=>guard (xs.length+ys.length<=line)<|.ok<|.nx<|ρ.set i<|ow<|xs++ys
|_=>.bad
@[simp] theorem Zr(i:Nat)(l:LF)(ρ:Env):Gy i l ρ=(l ρ).bind λ ys=>Wv i ρ ys ρ[i]?:=rfl
@[simp] theorem Wu(i:Nat)(ρ:Env)(ys xs:γ D):Wv i ρ ys (AC<|some<|.own xs)=guard (xs.length+ys.length<=line) (.ok<|.nx<|ρ.set i<|ow<|xs++ys):=rfl
def Ku(i:Nat)(ρ:Env):ε (ε L)->Env
|some<|some<|.own xs=>ρ.set i<|v<|.lst xs
|_=>ρ
@[simp] theorem Zo(i:Nat)(a:SF)(ρ:Env):C7 i a ρ=a (Ku i ρ ρ[i]?):=by
 unfold C7 eH Ku;cases ρ[i]? with
 |none=>rfl
 |some o=>cases o with
  |none=>rfl
  |some l=>cases l<;>rfl
@[simp] theorem Wq(i:Nat)(ρ:Env)(xs:γ D):Ku i ρ (AC<|some<|.own xs)=ρ.set i (v<|.lst xs):=rfl
@[simp] theorem Wo(i:Nat)(ρ:Env)(d:D):Ku i ρ (AC<|some<|.val d)=ρ:=rfl
@[simp] theorem TC(i:Nat)(ρ:Env):Ku i ρ (AC At)=ρ:=rfl
def Cc:D->D->Res (γ D)
|.lst xs,.lst ys=>guard (xs.length+ys.length<=line)<|.ok<|xs++ys
|_,_=>.bad
theorem rA(a b:EF)(ρ:Env):ny a b ρ=(a ρ).bind λ x=>(b ρ).bind λ y=>Cc x y:=rfl
@[simp] theorem WN(xs ys:γ D):Cc (.lst xs) (.lst ys)=guard (xs.length+ys.length<=line) (.ok<|xs++ys):=rfl
def slK(l h:ε Int):D->Res (γ D)
|.lst xs=>.ok<|cut xs l h
|_=>.bad
theorem Vy(a:EF)(lo hi:PF)(ρ:Env):Ru a lo hi ρ=(a ρ).bind λ x=>(lo ρ).bind λ l=>(hi ρ).bind λ h=>slK l h x:=rfl
@[simp] theorem Xq(l h:ε Int)(xs:γ D):slK l h (.lst xs)=.ok (cut xs l h):=rfl
@[simp] theorem XI(xs:γ D)(l h:ε Int):U0 (.tup xs) l h=.ok (.tup<|cut xs l h):=rfl
@[simp] theorem UZ(cs:γ Nat)(l h:ε Int):U0 (.str cs) l h=guard (cs.length<=line) (.ok<|.str<|cut cs l h):=rfl
@[simp] theorem Th(a b:γ Nat):cb (.str a) (.str b)=guard (a.length+b.length<=line) (.ok<|.str<|a++b):=rfl
@[simp] theorem Tg(a b:γ D):cb (.tup a) (.tup b)=guard (a.length+b.length<=line) (.ok<|.tup<|a++b):=rfl
@[simp] theorem U1(a:Int):Bm (.int a)=.ok (.int<|-a):=rfl
@[simp] theorem U9:iW .non=.ok (.bl Ch):=rfl
@[simp] theorem U8(xs:γ D):iW (.tup xs)=.ok (.bl AT):=rfl
@[simp] theorem Tf:l8 .non=.ok (.bl AT):=rfl
@[simp] theorem Td(xs:γ D):l8 (.tup xs)=.ok (.bl Ch):=rfl
theorem jB(a b:Nat)(hb:b<=1000000)(ha:a<18446744073709551616):tN (.int<|a) (.int<|b)=.ok (.int<|(a^b:Nat)):=by
 have h:(0:Int)<=b/\(b:Int)<=1000000/\(a:Int).natAbs<2^64:=⟨by lia,by lia,by rw[Int.natAbs_natCast];exact ha⟩
 show guard _ _=_;rw[guard_pos h,C09,Int.natCast_pow]
@[simp] theorem ZK:tN (.int 10) (.int 60)=.ok (.int 1000000000000000000000000000000000000000000000000000000000000):=jB 10 60 ∅ ∅
@[simp] theorem ZL:tN (.int 10) (.int 59)=.ok (.int 100000000000000000000000000000000000000000000000000000000000):=jB 10 59 ∅ ∅
@[simp] theorem ZM:tN (.int 10) (.int 55)=.ok (.int 10000000000000000000000000000000000000000000000000000000):=jB 10 55 ∅ ∅
@[simp] theorem ZN:tN (.int 10) (.int 50)=.ok (.int 100000000000000000000000000000000000000000000000000):=jB 10 50 ∅ ∅
@[simp] theorem XH:tN (.int 7919) (.int 9)=.ok (.int 122470950010456506152021579891552879):=jB 7919 9 ∅ ∅
def atK:ε D->Res D
|some d=>.ok d
|none=>.bad
@[simp] theorem WV(d:D):atK (AC d)=.ok d:=rfl
theorem M_(xs:γ D)(i:Int):bb (.tup xs) (.int i)=atK ((Ae xs.length i).bind λ j=>xs[j]?):=by show(match (Ae _ i).bind λ j=>xs[j]? with|some v=>Res.ok v|none=>.bad)=_;cases (Ae _ i).bind λ j=>xs[j]?<;>rfl
theorem Na(xs:γ D)(i:Int):bb (.lst xs) (.int i)=atK ((Ae xs.length i).bind λ j=>xs[j]?):=by show(match (Ae _ i).bind λ j=>xs[j]? with|some v=>Res.ok v|none=>.bad)=_;cases (Ae _ i).bind λ j=>xs[j]?<;>rfl
theorem jb{i:Int}{j:Nat}(h:i=j)(e:xs[j]?=AC d):bb (.tup xs) (.int i)=.ok d/\bb (.lst xs) (.int i)=.ok d:=by
 subst h;have hj:=(A04.mp e).1;have:Ae xs.length (j)=AC j:=by simp[Ae,hj]
 rw[M_,Na,this];simp[e]
theorem BD{i:Int}{j c:Nat}(h:i=j)(e:cs[j]?=AC c)(hl:cs.length<=line):bb (.str cs) (.int i)=.ok (.str [c]):=by
 subst h;have hj:=(A04.mp e).1;have:Ae cs.length (j)=AC j:=by simp[Ae,hj]
 show guard _ _=_;rw[guard_pos hl,this];simp[e]
theorem qc(h0:0<=i)(h1:i<xs.length):∃d∈xs,bb (.lst xs) (.int i)=.ok d/\bb (.tup xs) (.int i)=.ok d:=by
 have hj:i.toNat<xs.length:=by lia
 refine⟨xs[i.toNat],B37 hj,?_⟩;have:=jb (i:=i) ∅<|A01 hj;exact⟨this.2,this.1⟩
def turn(I:Env->Prop)(Q:Fl->Prop):Fl->Prop
|.nx ρ=>I ρ
|.ct ρ=>I ρ
|.bk ρ=>Q<|.nx ρ
|.rt d=>Q<|.rt d
@[simp] theorem Xi(I:Env->Prop)(Q:Fl->Prop)(ρ:Env):turn I Q (.nx ρ)↔I ρ:=Iff.rfl
@[simp] theorem Xj(I:Env->Prop)(Q:Fl->Prop)(ρ:Env):turn I Q (.ct ρ)↔I ρ:=Iff.rfl
@[simp] theorem Xk(I:Env->Prop)(Q:Fl->Prop)(ρ:Env):turn I Q (.bk ρ)↔Q (.nx ρ):=Iff.rfl
@[simp] theorem Xh(I:Env->Prop)(Q:Fl->Prop)(d:D):turn I Q (.rt d)↔Q (.rt d):=Iff.rfl
theorem Kw(I:Nat->Env->Prop):∀ds ρ i,I i ρ->(∀j d ρ,ds[j]?=AC d->I (i+j) ρ->Ok (g d ρ) λ ρ1=>Ok (b ρ1) (turn (I<|i+j+1) Q))->(∀ρ,I (i+ds.length) ρ->Q (.nx ρ))->Ok (jE g b ds ρ) Q
|[],ρ,i,h,_,e=>by simpa[jE]using e ρ h
|d::ds,ρ,i,h,k,e=>by
 let⟨ρ1,e1,fl,e2,t⟩:=k 0 d ρ rfl h;have ih:=λ ρ' (h')=>Kw I ds ρ' (i+1) h' (λ j x ρ hj hP=>by have:=k (j+1) x ρ (by simpa using hj) (by simpa[B74,B35 1 j]using hP);simpa[B74,B35 1 j]using this) λ ρ hP=>e ρ (by simpa[B74,B35 1]using hP)
 unfold jE;rw[e1,Res.f7,e2,Res.f7];cases fl with
 |nx ρ'=>exact ih ρ' (by simpa using t)
 |ct ρ'=>exact ih ρ' (by simpa using t)
 |bk ρ'=>simpa using t
 |rt d=>simpa using t
theorem mv(I:Nat->Env->Prop)(h0:I 0 ρ)(hs:∀j d ρ,ds[j]?=AC d->I j ρ->Ok (g d ρ) λ ρ1=>Ok (b ρ1) (turn (I<|j+1) Q))(he:∀ρ,I ds.length ρ->Q (.nx ρ)):Ok (jE g b ds ρ) Q:=
 Kw I ds ρ 0 h0 (λ j d ρ hd hI=>by rw[A93]at hI ⊢;exact hs j d ρ hd hI) λ ρ h=>he ρ (by rwa [A93]at h)
theorem OB(p:D->Bool)(h:D->D)(hs:∀d∈ds,Ok (g d ρ) λ ρ1=>Ok (t ρ1) λ c=>c=p d/\(p d=Ch->Ok (e ρ1) λ y=>y=h d))(hq:Q ((ds.filter p).map h)):Ok (cm g t e ρ ds) Q:=by refine⟨_,oh ds λ d hd=>?_,hq⟩;let⟨ρ1,e1,c,e2,hc,k⟩:=hs d hd;exact⟨ρ1,e1,by rw[e2,hc],λ hp=>(k hp).eq⟩
theorem comp_map(h:D->D)(hs:∀d∈ds,Ok (g d ρ) λ ρ1=>Ok (e ρ1) λ y=>y=h d)(hq:Q (ds.map h)):Ok (cm g cF e ρ ds) Q:=by refine⟨_,wj ds λ d hd=>?_,hq⟩;let⟨ρ1,e1,k⟩:=hs d hd;rw[e1];exact k.eq
theorem dM{α:Type}(enc:α->D)(f:α->Bool)(h:α->D):∀{xs:γ α}{Q},(∀x∈xs,Ok (g (enc x) ρ) λ ρ1=>Ok (t ρ1) λ c=>c=f x/\(f x=Ch->Ok (e ρ1) λ y=>y=h x))->Q ((xs.filter f).map h)->Ok (cm g t e ρ<|xs.map enc) Q:=by
 intro xs Q hs hq;refine⟨_,?_,hq⟩;clear hq
 induction xs with
 |nil=>rfl
 |cons x xs ih=>
  let⟨ρ1,e1,c,e2,hc,k⟩:=hs x A18;have ih':=ih λ y hy=>hs y<|A11 _ hy;cases hf:f x with
  |true=>rw[hf]at hc;have:=(k hf).eq;simp[cm,e1,e2,hc,this,ih',hf]
  |false=>rw[hf]at hc;simp[cm,e1,e2,hc,ih',hf]
theorem su{α:Type}[DecidableEq α]{h:α->D}(k:∀x y,f (h x) (h y)=AC (decide<|x=y)):∀(xs ys:γ α),allEq f (xs.map h) (ys.map h)=AC (decide<|xs=ys)
|[],[]=>rfl
|[],_::_=>rfl
|_::_,[]=>rfl
|x::xs,y::ys=>by simp[allEq,k,su k xs ys]
end Z
end S0
open ZS renaming cT→XV,i_→bi,jX→gt,bJ→ii,ll→im,nI→io,yF.of→li,lM→lv,qH→pi,iT→sB,Cf→sK,gv→sw,D8→tz,Ar→ut,XC→wP,Ap→AAA,Ll→AAB,Lm→AAC,Ij→AAD
local macro_rules
| `(tactic|trivial)=>`(tactic|first|exact AD0 rfl|exact nw rfl)
open ZS (Fl)
set_option maxRecDepth 4000
namespace KA
open Z
def fv:SF:=(bj<|o5 (eB oEq (eU cQ<|eW 0)<|eC<|.int 1)<|i8 oLe oLe (eC<|.str [97]) (eW 0)<|eC<|.str [122])
def cX:γ D->Res D:=fn 1 1 fv
theorem lh(x0:D):cX [x0]=cu (fv [AC (.val x0)]):=c_ _ _ _ _ rfl
def js:SF:=(bj<|TM (eB wZ (eW 0)<|br<|aa (eC<|.str [46])<|aa (eC<|.str [61])<|aa (eC<|.str [35]) av)<|aD cX<|aa (eV 0) av)
def jG:γ D->Res D:=fn 1 1 js
theorem Ec(x0:D):jG [x0]=cu (js [AC (.val x0)]):=c_ _ _ _ _ rfl
def fq:SF:=(bH (jR (AQ (gJ<|tE<|eU (kL .str)<|eW 0)<|gJ<|tE<|i8 oLe oLe (eC<|.int 1) (eU cQ<|eW 0)<|eC<|.int 12) (bj<|eC<|.bl AT) b7)<|bj<|eU iX<|eL<|cM (iQ<|eW 0) 1 [] (bA 0) cF<|aD jG<|aa (eV 0) av)
def jr:γ D->Res D:=fn 1 1 fq
theorem ik(x0:D):jr [x0]=cu (fq [AC (.val x0)]):=c_ _ _ _ _ rfl
def dA:SF:=(bH (jR (AQ (gJ<|tE<|eU (kL .tuple)<|eW 0)<|gJ<|tE<|i8 oLe oLe (eC<|.int 1) (eU cQ<|eW 0)<|eC<|.int 6) (bj<|eC<|.bl AT) b7)<|bH (jR (gJ<|tE<|eU iX<|eL<|cM (iQ<|eW 0) 1 [] (bA 0) cF<|aD jr<|aa (eV 0) av) (bj<|eC<|.bl AT) b7)<|bj<|eU iX<|eL<|cM (iQ<|eW 0) 1 [0] (bA 0) cF<|eB oEq (eU cQ<|eW 0)<|eU cQ<|eB bb (eW 1)<|eC<|.int 0)
def ij:γ D->Res D:=fn 1 1 dA
theorem gj(x0:D):ij [x0]=cu (dA [AC (.val x0)]):=c_ _ _ _ _ rfl
end KA
set_option maxRecDepth 8000
namespace Z
theorem kA:dX .bool .non=AT/\(∀a,dX .bool (.bl a)=Ch)/\(∀a,dX .bool (.int a)=AT)/\(∀a,dX .bool (.str a)=AT)/\(∀a,dX .bool (.tup a)=AT)/\(∀a,dX .bool (.lst a)=AT)/\(∀a b,dX .bool (.dct a b)=AT)/\dX .int .non=AT/\(∀a,dX .int (.bl a)=Ch)/\(∀a,dX .int (.int a)=Ch)/\(∀a,dX .int (.str a)=AT)/\(∀a,dX .int (.tup a)=AT)/\(∀a,dX .int (.lst a)=AT)/\(∀a b,dX .int (.dct a b)=AT)/\dX .str .non=AT/\(∀a,dX .str (.bl a)=AT)/\(∀a,dX .str (.int a)=AT)/\(∀a,dX .str (.str a)=Ch)/\(∀a,dX .str (.tup a)=AT)/\(∀a,dX .str (.lst a)=AT)/\(∀a b,dX .str (.dct a b)=AT)/\dX .tuple .non=AT/\(∀a,dX .tuple (.bl a)=AT)/\(∀a,dX .tuple (.int a)=AT)/\(∀a,dX .tuple (.str a)=AT)/\(∀a,dX .tuple (.tup a)=Ch)/\(∀a,dX .tuple (.lst a)=AT)/\(∀a b,dX .tuple (.dct a b)=AT):=by and_intros<;>intros<;>rfl
end Z
namespace KA
open Z
abbrev Rows:=γ<|γ Nat
structure Hall(R L:Nat)(rows:Rows):Prop where
 r1:1<=R
 r2:R<=6
 l1:1<=L
 l2:L<=12
 len:rows.length=R
 each:∀x∈rows,x.length=L
 sg:∀x∈rows,∀c∈x,c∈signs
theorem nZ(c:Nat):cX [.str [c]]=.ok (.bl<|decide (97<=c)&&decide (c<=122)):=by
 rw[lh];refine aT ?_;by_cases h1:c<97
 .simp[fv,HM,line,Nat.not_le.mpr h1]
 .by_cases h2:122<c
  .simp[fv,HM,line,h2,A92.mp h1]
  .simp[fv,HM,line,A92.mp h1,A92.mp h2]
theorem GZ(c:Nat):decide (c∈signs)=(c==46||c==61||c==35||(decide (97<=c)&&decide (c<=122))):=by
 by_cases h:c<128
 .exact(by decide:∀c<128,decide _=(c==46||c==61||c==35||(decide _&&decide (c<=122)))) c h
 .have h1:c∉signs:=λ m=>h<|(by decide:∀c∈signs,c<128) c m;have h2:¬c<=122:=by lia
  have h3:c≠46:=by lia
  have h4:c≠61:=by lia
  have h5:c≠35:=by lia
  simp[h1,h2,h3,h4,h5]
theorem Og(s t:γ Nat):kS (.str s) (.str t)=AC (s==t):=rfl
theorem BH(c:Nat):jG [.str [c]]=.ok (.bl<|decide<|c∈signs):=by
 rw[Ec,GZ];refine aT ?_;have e:=nZ c;by_cases h1:c=46
 .subst h1;simp[js,line,wZ,hZ,Og]
 .by_cases h2:c=61
  .subst h2;simp[js,line,wZ,hZ,Og]
  .by_cases h3:c=35
   .subst h3;simp[js,line,wZ,hZ,Og]
   .simp[js,wZ,hZ,Og,e,h1,h2,h3];lia
theorem all_map{α:Type}(f:α->Bool)(xs:γ α):allB (xs.map λ x=>D.bl<|f x)=AC (xs.all f):=by
 have:=z9<|xs.map f;rw[A36]at this;rw[show(xs.map λ x=>D.bl _)=xs.map (D.bl∘f)from rfl,this]
 congr 1
 induction xs with
 |nil=>rfl
 |cons x xs ih=>simp
def IY(cs:γ Nat):Bool:=decide (1<=cs.length/\cs.length<=12)&&cs.all λ c=>decide (c∈signs)
theorem IX(cs:γ Nat):Ok (cm (bA 0) cF (aD jG<|aa (eV 0) av) [At]<|cs.map λ c=>.str [c]) λ ds=>ds=cs.map λ c=>D.bl (decide<|c∈signs):=
 dM (λ c=>D.str [c]) (λ _=>Ch) (λ c=>.bl<|decide<|c∈signs) (λ c _=>by simp[BH]) (by rw[B38.mpr λ _ _=>rfl])
theorem DO(cs:γ Nat)(h:cs.length<=1000):jr [.str cs]=.ok (.bl<|IY cs):=by
 have hl:cs.length<=16777216:=by lia
 rw[ik];refine aT ?_;unfold IY;by_cases h1:1<=cs.length
 .by_cases h2:cs.length<=12
  .have e1:(1)<=(cs.length:Int):=by lia
   have e2:(cs.length:Int)<=12:=by lia
   simp[fq,Z.kA,hl,h1,h2,e1,e2,bV];refine(IX cs).imp ?_;rintro ds rfl;simp[iX,all_map]
  .have e2:¬(cs.length:Int)<=12:=by lia
   simp[fq,Z.kA,hl,h1,h2,e2,line]
 .have e1:¬(1)<=(cs.length:Int):=by lia
  simp[fq,Z.kA,hl,h1,e1,line]
def pM:D->Bool
|.str cs=>IY cs
|_=>AT
def Fit(d:D):Prop:=∀cs,d=.str cs->cs.length<=1000
theorem G9(d:D)(h:Fit d):jr [d]=.ok (.bl<|pM d):=by
 cases d with
 |str cs=>exact DO cs<|h cs rfl
 |non=>rw[ik];exact aT (by simp[fq,Z.kA,pM])
 |bl _=>rw[ik];exact aT (by simp[fq,Z.kA,pM])
 |int _=>rw[ik];exact aT (by simp[fq,Z.kA,pM])
 |tup _=>rw[ik];exact aT (by simp[fq,Z.kA,pM])
 |lst _=>rw[ik];exact aT (by simp[fq,Z.kA,pM])
 |dct _ _=>rw[ik];exact aT (by simp[fq,Z.kA,pM])
def Dz:D->Nat
|.str cs=>cs.length
|_=>0
def BN(xs:γ D):Bool:=decide (1<=xs.length/\xs.length<=6)&&xs.all pM&&xs.all λ d=>Dz d==Dz (xs.headD .non)
def sR:D->Bool
|.tup xs=>BN xs
|_=>AT
theorem D5(xs:γ D)(h:∀d∈xs,Fit d):Ok (cm (bA 0) cF (aD jr<|aa (eV 0) av) [At] xs) λ ds=>ds=xs.map λ d=>D.bl (pM d):=
 comp_map (λ d=>.bl _) (λ d hd=>by simp[G9 d<|h d hd]) rfl
theorem Ft(h:pM d=Ch):cQ d=.ok (.int<|Dz d):=by
 cases d with
 |str cs=>
  have:cs.length<=16777216:=by simp only[pM,IY,B09]at h;lia
  simp[Dz,this]
 |_=>cases h
theorem D4(h:∀d∈xs,pM d=Ch):Ok (cm (bA 0) cF (eB oEq (eU cQ<|eW 0)<|eU cQ<|eB bb (eW 1)<|eC<|.int 0) [At,v (.tup xs)] xs) λ ds=>ds=xs.map λ d=>D.bl (Dz d==Dz (xs.headD .non)):=
 comp_map (λ d=>.bl _) (λ d hd=>by
  cases xs with
  |nil=>cases hd
  | cons x xs=>have e0:bb (.tup<|x::xs) (.int 0)=.ok x:=(jb rfl rfl).1;have e1:=Ft<|h d hd;have e2:=Ft<|h x A18;simp[e0,e1,e2];exact A78.mpr (by simp;lia)) rfl
theorem DQ(d:D)(h:∀xs,d=.tup xs->xs.length<=1000/\∀x∈xs,Fit x):ij [d]=.ok (.bl<|sR d):=by
 cases d with
 |tup xs=>
  let⟨h1,h2⟩:=h xs rfl;have hl:xs.length<=16777216:=by lia
  rw[gj];refine aT ?_;simp only[sR,BN];by_cases q1:1<=xs.length
  .by_cases q2:xs.length<=6
   .have e1:(1)<=(xs.length:Int):=by lia
    have e2:(xs.length:Int)<=6:=by lia
    have c1:=D5 xs h2;cases q3:xs.all pM with
    |false=>simp[dA,Z.kA,hl,q1,q2,e1,e2,line,bV,eP];refine c1.imp ?_;rintro ds rfl;simp[iX,all_map,q3]
    |true=>have q4:=A30.mp q3;have c2:=D4 q4;simp[dA,Z.kA,hl,q1,q2,e1,e2,line,bV,eP];refine c1.imp ?_;rintro ds rfl;simp[iX,all_map,q3];refine c2.imp ?_;rintro ds rfl;simp[iX,all_map]
   .have e2:¬(xs.length:Int)<=6:=by lia
    simp[dA,Z.kA,hl,q1,q2,e2,line]
  .have e1:¬(1)<=(xs.length:Int):=by lia
   simp[dA,Z.kA,hl,q1,e1,line]
 |str _=>rw[gj];exact aT (by simp[dA,Z.kA,sR])
 |non=>rw[gj];exact aT (by simp[dA,Z.kA,sR])
 |bl _=>rw[gj];exact aT (by simp[dA,Z.kA,sR])
 |int _=>rw[gj];exact aT (by simp[dA,Z.kA,sR])
 |lst _=>rw[gj];exact aT (by simp[dA,Z.kA,sR])
 |dct _ _=>rw[gj];exact aT (by simp[dA,Z.kA,sR])
theorem Hall.b{R L:Nat}(H:Hall R L rows):BN (rows.map .str)=Ch:=by
 unfold BN;have h1:=H.r1;have h2:=H.r2;have h3:=H.l1;have h4:=H.l2;simp only[A35,B09,A17,H.len,A30];refine⟨⟨⟨h1,h2⟩,λ d hd=>?_⟩,λ d hd=>?_⟩
 .let⟨r,hr,rfl⟩:=A05.mp hd;simp only[pM,IY,A35,B09,A30,H.each r hr];exact⟨⟨h3,h4⟩,H.sg r hr⟩
 .let⟨r,hr,rfl⟩:=A05.mp hd;cases rows with
  |nil=>cases hr
  |cons x xs=>simp[Dz,H.each r hr,H.each x _]
end KA
set_option maxRecDepth 4000
namespace KS
open Z KA
def iv:SF:=(bj<|o5 (eU (kL .int)<|eW 0)<|K6<|eU (kL .bool)<|eW 0)
def fg:γ D->Res D:=fn 1 1 iv
theorem sU(x0:D):fg [x0]=cu (iv [AC (.val x0)]):=c_ _ _ _ _ rfl
def cE:SF:=(bj<|o5 (aD fg<|aa (eV 0) av)<|i8 oLe oLe (eW 1) (eW 0)<|eW 2)
def bu:γ D->Res D:=fn 3 3 cE
theorem jI(x0 x1 x2:D):bu [x0,x1,x2]=cu (cE [AC (.val x0),AC (.val x1),AC (.val x2)]):=c_ _ _ _ _ rfl
def jt:SF:=(bH (jR (AQ (gJ<|tE<|eU (kL .str)<|eW 0)<|gJ<|tE<|i8 oLe oLe (eC<|.int 1) (eU cQ<|eW 0)<|eC<|.int 8) (bj<|eC<|.bl AT) b7)<|bj<|eU iX<|eL<|cM (iQ<|eW 0) 1 [] (bA 0) cF<|aD KA.cX<|aa (eV 0) av)
def fh:γ D->Res D:=fn 1 1 jt
theorem vZ(x0:D):fh [x0]=cu (jt [AC (.val x0)]):=c_ _ _ _ _ rfl
def kP:SF:=(bj<|o5 (eU (kL .str)<|eW 0)<|TM (eB oEq (eW 0)<|eC<|.str [])<|aD KA.cX<|aa (eV 0) av)
def jH:γ D->Res D:=fn 1 1 kP
theorem v7(x0:D):jH [x0]=cu (kP [AC (.val x0)]):=c_ _ _ _ _ rfl
def mL:SF:=(bj<|aD bu<|aa (eV 0)<|aa (eV 1)<|aa (eB rn (eB tN (eC<|.int 10)<|eC<|.int 60)<|eC<|.int 1) av)
def g!:γ D->Res D:=fn 2 2 mL
theorem zQ(x0 x1:D):g! [x0,x1]=cu (mL [AC (.val x0),AC (.val x1)]):=c_ _ _ _ _ rfl
def du:SF:=(bH (jR (AQ (gJ<|tE<|eU (kL .tuple)<|eW 0)<|tE<|eB kn (eU cQ<|eW 0)<|eC<|.int 2) (bj<|eC<|.bl AT) b7)<|bj<|o5 (aD bu<|aa (eB bb (eW 0)<|eC<|.int 0)<|aa (eC<|.int 0)<|aa (eC<|.int 5) av)<|aD g!<|aa (eB bb (eW 0)<|eC<|.int 1)<|aa (eC<|.int 1) av)
def ie:γ D->Res D:=fn 1 1 du
theorem Eb(x0:D):ie [x0]=cu (du [AC (.val x0)]):=c_ _ _ _ _ rfl
def hX:SF:=(bH (jR (AQ (gJ<|tE<|eU (kL .tuple)<|eW 0)<|gJ<|tE<|eU iX<|eL<|cM (iQ<|eW 0) 1 [] (bA 0) cF<|aD ie<|aa (eV 0) av) (bj<|eC<|.bl AT) b7)<|bj<|eU iX<|eL<|cM (iR<|eB rn (eU cQ<|eW 0)<|eC<|.int 1) 1 [0] (bA 0) cF<|eB oLt (eB bb (eB bb (eW 1)<|eW 0)<|eC<|.int 0)<|eB bb (eB bb (eW 1)<|eB cb (eW 0)<|eC<|.int 1)<|eC<|.int 0)
def iE:γ D->Res D:=fn 1 1 hX
theorem ku(x0:D):iE [x0]=cu (hX [AC (.val x0)]):=c_ _ _ _ _ rfl
def cL:SF:=(bH (jR (gJ<|tE<|aD bu<|aa (eB bb (eW 0)<|eC<|.int 1)<|aa (eC<|.int 1)<|aa (eC<|.int 12) av) (bj<|eC<|.bl AT) b7)<|bH (jR (gJ<|tE<|aD bu<|aa (eB bb (eW 0)<|eC<|.int 2)<|aa (eC<|.int 1)<|aa (eC<|.int 3) av) (bj<|eC<|.bl AT) b7)<|bH (jR (gJ<|tE<|aD bu<|aa (eB bb (eW 0)<|eC<|.int 4)<|aa (eC<|.int 0)<|aa (eB fC (eB bb (eW 0)<|eC<|.int 1)<|eB bb (eW 0)<|eC<|.int 2) av) (bj<|eC<|.bl AT) b7)<|bj<|o5 (aD jH<|aa (eB bb (eW 0)<|eC<|.int 3) av)<|aD bu<|aa (eB bb (eW 0)<|eC<|.int 5)<|aa (eC<|.int 0)<|aa (eC<|.int 6) av)
def eX:γ D->Res D:=fn 1 1 cL
theorem qy(x0:D):eX [x0]=cu (cL [AC (.val x0)]):=c_ _ _ _ _ rfl
def fy:SF:=(bH (jR (AQ (gJ<|tE<|eU (kL .tuple)<|eW 0)<|tE<|eB kn (eU cQ<|eW 0)<|eC<|.int 8) (bj<|eC<|.bl AT) b7)<|bH (jR (AQ (gJ<|tE<|aD fh<|aa (eB bb (eW 0)<|eC<|.int 0) av)<|gJ<|tE<|aD eX<|aa (eV 0) av) (bj<|eC<|.bl AT) b7)<|bj<|o5 (aD g!<|aa (eB bb (eW 0)<|eC<|.int 6)<|aa (eC<|.int 0) av)<|aD iE<|aa (eB bb (eW 0)<|eC<|.int 7) av)
def cO:γ D->Res D:=fn 1 1 fy
theorem mD(x0:D):cO [x0]=cu (fy [AC (.val x0)]):=c_ _ _ _ _ rfl
end KS
set_option maxRecDepth 8000
namespace KS
open Z KA
structure Gp where
 nm:List Nat
 w:Nat
 d:Nat
 kd:List Nat
 wi:Nat
 ga:Nat
 wo:Nat
 ws:List (Nat×Nat)
def zR(p:Nat×Nat):D:=.tup [.int p.1,.int p.2]
structure afN(g:Gp):Prop where
 n1:1<=g.nm.length
 n2:g.nm.length<=8
 nl:∀c∈g.nm,c∈cq
 w1:1<=g.w
 w2:g.w<=12
 d1:1<=g.d
 d2:g.d<=3
 kd:g.kd=[]\/∃c∈cq,g.kd=[c]
 wi:g.wi<=g.w*g.d
 ga:g.ga<=6
 wo:g.wo<10^60
 wl:g.ws.length<=6
 wr:∀p∈g.ws,p.1<=5/\1<=p.2/\p.2<10^60
 up:(g.ws.map (·.1)).Pairwise (· < ·)
theorem uX(h:Ok (a ρ) λ fl=>fl=.nx ρ1)(k:Ok (b ρ1) Q):Ok (bH a b ρ) Q:=by let⟨fl,e,rfl⟩:=h;rw[Qr,e,Res.f7];exact k
theorem xG(n:Int):fg [.int n]=.ok (.bl Ch):=by rw[sU];exact aT (by simp[iv,Z.kA])
theorem within_int(n a b:Int):bu [.int n,.int a,.int b]=.ok (.bl<|decide<|a<=n/\n<=b):=by
 rw[jI];refine aT ?_;by_cases h1:a<=n
 .simp[cE,xG,h1]
 .simp[cE,xG,h1]
theorem Nx(c:Nat):decide (c∈cq)=(decide (97<=c)&&decide (c<=122)):=by
 by_cases h:c<128
 .exact(by decide:∀c<128,decide _=(decide _&&decide (c<=122))) c h
 .have h1:c∉cq:=λ m=>h<|(by decide:∀c∈cq,c<128) c m;have h2:¬c<=122:=by lia
  simp[h1,h2]
theorem vk(c:Nat):cX [.str [c]]=.ok (.bl<|decide<|c∈cq):=by rw[nZ,Nx]
theorem GW(cs:γ Nat):Ok (cm (bA 0) cF (aD KA.cX<|aa (eV 0) av) [At]<|cs.map λ c=>.str [c]) λ ds=>ds=cs.map λ c=>D.bl (decide<|c∈cq):=
 dM (λ c=>D.str [c]) (λ _=>Ch) (λ c=>.bl<|decide<|c∈cq) (λ c _=>by simp[vk]) (by rw[B38.mpr λ _ _=>rfl])
def h!(cs:γ Nat):Bool:=decide (1<=cs.length/\cs.length<=8)&&cs.all λ c=>decide (c∈cq)
theorem Nh(cs:γ Nat)(h:cs.length<=16777216):fh [.str cs]=.ok (.bl<|h! cs):=by
 rw[vZ];refine aT ?_;unfold h!;by_cases h1:1<=cs.length
 .by_cases h2:cs.length<=8
  .have e1:(1)<=(cs.length:Int):=by lia
   have e2:(cs.length:Int)<=8:=by lia
   simp[jt,Z.kA,h,h1,h2,e1,e2,bV,eP];refine(GW cs).imp ?_;rintro ds rfl;simp[iX,all_map]
  .have e2:¬(cs.length:Int)<=8:=by lia
   simp[jt,Z.kA,h,h1,h2,e2,line]
 .have e1:¬(1)<=(cs.length:Int):=by lia
  simp[jt,Z.kA,h,h1,e1,line]
def kindB(cs:γ Nat):Bool:=cs==[]||(decide (cs.length=1)&&cs.all λ c=>decide (c∈cq))
theorem G5(cs:γ Nat)(h:cs.length<=16777216):cX [.str cs]=.ok (.bl<|decide (cs.length=1)&&cs.all λ c=>decide (c∈cq)):=by
 cases cs with
 |nil=>rw[lh];exact aT (by simp[fv])
 |cons c r=>
  cases r with
  |nil=>rw[vk];simp
  |cons c' r=>
   rw[lh];refine aT ?_;have e:¬((r.length:Int)+1+1=1):=by lia
   have h':r.length+1+1<=16777216:=by simpa using h
   simp[fv,h',e]
theorem NG(cs:γ Nat)(h:cs.length<=16777216):jH [.str cs]=.ok (.bl<|kindB cs):=by
 have hl:=G5 cs h;rw[v7];refine aT ?_;unfold kindB;have en:oEq (.str cs) (.str [])=.ok (.bl<|decide<|cs=[]):=by cases cs<;>rfl
 by_cases h0:cs=[]
 .subst h0;have en':oEq (.str []) (.str [])=.ok _:=rfl;simp[kP,Z.kA]
 .have hb:(cs==[])=AT:=by simpa using h0
  simp[kP,Z.kA,hl,hb]
section
variable{g:Gp}
end
def EC(nm:γ Nat):Prop:=1<=nm.length/\nm.length<=8/\∀c∈nm,c∈cq
structure afD(n:Nat)(ws:List (Nat×Nat)):Prop where
 l:ws.length<=n
 r:∀p∈ws,p.1<n/\1<=p.2/\p.2<10^60
 up:(ws.map (·.1)).Pairwise (· < ·)
def n5(d:D)(a b:Int):Bool:=match d with
|.int n=>decide<|a<=n/\n<=b
|_=>AT
theorem I!:∀ws:γ (Nat×Nat),((FB<|ws.length - 1).all λ n=>decide<|(ws.getD n (0,0)).1<(ws.getD (n+1) (0,0)).1)=Ch↔(ws.map (·.1)).Pairwise (· < ·):=by
 intro ws;constructor
 .intro h;rw[A30]at h;have step:∀n,n+1<ws.length->(ws.getD n (0,0)).1<(ws.getD _ (0,0)).1:=λ n hn=>A50<|h n<|A32.mpr ∅;have mono:∀m n,n<m->m<ws.length->(ws.getD n (0,0)).1<(ws.getD m (0,0)).1:=by
   intro m
   induction m with
   |zero=>intro n hn;cases hn
   |succ m ih=>
    intro n hn hm;rcases Nat.lt_or_ge n m with h|h
    .exact Nat.lt_trans (ih n h ∅)<|step m hm
    .have:n=m:=by lia
     subst this;exact step n hm
  rw[B75];intro i j hi hj oY;have N0:i<ws.length:=by simpa using hi
  have Af:j<ws.length:=by simpa using hj
  have:=mono j i oY Af;simpa[B39,A01 N0,A01 Af]using this
 .intro h;rw[A30];intro n hn;have HS:=A32.mp hn;have l1:n<ws.length:=by lia
  have l2:n+1<ws.length:=by lia
  have:=B75.mp h n (n+1) (by simp;lia) (by simp;lia) ∅;refine A56 ?_;simpa[B39,A01 l1,A01 l2]using this
theorem I?(ws:γ (Nat×Nat)):Ok (cm (bA 0) cF (eB oLt (eB bb (eB bb (eW 1)<|eW 0)<|eC<|.int 0)<|eB bb (eB bb (eW 1)<|eB cb (eW 0)<|eC<|.int 1)<|eC<|.int 0) [At,v (.tup<|ws.map zR)]<|(FB<|ws.length-1).map λ n=>D.int (n:Nat)) λ ds=>ds=(FB<|ws.length-1).map λ n=>D.bl (decide<|(ws.getD n (0,0)).1<(ws.getD (n+1) (0,0)).1):=
 dM (λ n=>D.int (n:Nat)) (λ _=>Ch) (λ n=>.bl<|decide<|(ws.getD n (0,0)).1<(ws.getD (n+1) (0,0)).1) (λ n hn=>by
  have HS:=A32.mp hn;have l1:n<ws.length:=by lia
  have l2:n+1<ws.length:=by lia
  have i1:bb _ (.int<|n)=.ok (zR ws[n]):=(jb rfl (by rw[A08,A01];rfl)).1;have i2:bb (.tup<|ws.map zR) (.int<|(n)+1)=.ok (zR ws[n+1]):=(jb (j:=n+1) ∅ (by rw[A08,A01];rfl)).1;have j1:∀p,bb (zR p) (.int 0)=.ok (.int p.1):=λ p=>rfl;have g1:ws.getD n (0,0)=ws[n]:=by rw[B39,A01];rfl
  have g2:ws.getD (n+1) (0,0)=ws[n+1]:=by rw[B39,A01];rfl
  rw[g1,g2];generalize D.tup (ws.map zR)=WW at i1 i2 ⊢;simp -implicitDefEqProofs [i1,i2,j1]) (by rw[B38.mpr λ _ _=>rfl])
theorem JK(h:h! cs=Ch):EC cs:=by unfold h! at h;rw[A35,B09,A30]at h;exact⟨h.1.1,h.1.2,λ c hc=>A50<|h.2 c hc⟩
end KS
set_option maxRecDepth 4000
namespace KG
open Z
def uD:SF:=(bj<|TM (eB wZ (eW 0)<|br<|aa (eC<|.str [46])<|aa (eC<|.str [61]) av)<|eB oEq (eW 0)<|eW 1)
def qt:γ D->Res D:=fn 2 2 uD
theorem KL(x0 x1:D):qt [x0,x1]=cu (uD [AC (.val x0),AC (.val x1)]):=c_ _ _ _ _ rfl
def pd:SF:=(bH (A8 2<|bI av)<|bH (u6 (yd (eB bb (eW 1)<|eC<|.int 0)<|eB cb (eB bb (eW 1)<|eC<|.int 0)<|eB bb (eW 0)<|eC<|.int 2) (bA 3)<|Gy 2<|cM (yd (eB bb (eW 1)<|eC<|.int 1)<|eB cb (eB bb (eW 1)<|eC<|.int 1)<|eB bb (eW 0)<|eC<|.int 1) 1 [3] (bA 0) cF<|br<|aa (eV 1)<|aa (eV 0) av)<|bj<|eU kZ<|eW 2)
def j7:γ D->Res D:=fn 2 4 pd
theorem BX(x0 x1:D):j7 [x0,x1]=cu (pd [AC (.val x0),AC (.val x1),At,At]):=c_ _ _ _ _ rfl
def iK:SF:=(bH (jR (tE<|eB oLt (eW 1)<|eU cQ<|eW 0) (bj<|eB bb (eW 0)<|eW 1) b7)<|bj<|eC<|.int 0)
def dU:γ D->Res D:=fn 2 2 iK
theorem mC(x0 x1:D):dU [x0,x1]=cu (iK [AC (.val x0),AC (.val x1)]):=c_ _ _ _ _ rfl
def iu:SF:=(bH (bG 2<|eB bb (eW 1)<|eC<|.int 0)<|bH (bG 3<|eB bb (eW 1)<|eC<|.int 1)<|bH (jR (IA (tE<|i8 oLe oLt (eC<|.int 0) (eW 2)<|eU cQ<|eW 0)<|tE<|i8 oLe oLt (eC<|.int 0) (eW 3)<|eU cQ<|eB bb (eW 0)<|eC<|.int 0) (bj<|eB bb (eB bb (eW 0)<|eW 2)<|eW 3) b7)<|bj<|eC .non)
def lg:γ D->Res D:=fn 2 4 iu
theorem D?(x0 x1:D):lg [x0,x1]=cu (iu [AC (.val x0),AC (.val x1),At,At]):=c_ _ _ _ _ rfl
def Eu:SF:=(bH (bG 3<|eL<|cM (iQ<|aD j7<|aa (eV 1)<|aa (eV 2) av) 1 [0] (bA 0) cF<|aD lg<|aa (eV 1)<|aa (eV 0) av)<|bH (jR (gJ<|tE<|eU iX<|eL<|cM (iQ<|eW 3) 1 [1] (bA 0) cF<|aD qt<|aa (eV 0)<|aa (eB bb (eW 1)<|eC<|.int 3) av) (bj<|eC<|.bl AT) b7)<|bj<|eB X0 (eB zf (eW 3)<|eC<|.str [61])<|eB bb (eW 1)<|eC<|.int 4)
def qv:γ D->Res D:=fn 3 4 Eu
theorem N?(x0 x1 x2:D):qv [x0,x1,x2]=cu (Eu [AC (.val x0),AC (.val x1),AC (.val x2),At]):=c_ _ _ _ _ rfl
def mK:SF:=(bH (A8 2<|bI av)<|bH (u6 (iR<|eU cQ<|eW 0) (bA 3)<|Gy 2<|cM (iR<|eU cQ<|eB bb (eW 0)<|eW 3) 1 [0,1,3] (bA 0) (tE<|aD qv<|aa (eV 1)<|aa (eV 2)<|aa (br<|aa (eV 3)<|aa (eV 0) av) av)<|br<|aa (eV 3)<|aa (eV 0) av)<|bj<|eU kZ<|eW 2)
def fG:γ D->Res D:=fn 2 4 mK
theorem zM(x0 x1:D):fG [x0,x1]=cu (mK [AC (.val x0),AC (.val x1),At,At]):=c_ _ _ _ _ rfl
def nj:SF:=(bH (jR (AQ (tE<|eB oLe (eB cb (eB bb (eW 1)<|eC<|.int 0)<|eB bb (eW 0)<|eC<|.int 2)<|eB bb (eW 3)<|eC<|.int 0)<|tE<|eB oLe (eB cb (eB bb (eW 3)<|eC<|.int 0)<|eB bb (eW 2)<|eC<|.int 2)<|eB bb (eW 1)<|eC<|.int 0) (bj<|eC<|.bl Ch) b7)<|bH (bG 4<|eB M? (eB bb (eW 0)<|eC<|.int 5)<|eB bb (eW 2)<|eC<|.int 5)<|bj<|TM (eB oLe (eB cb (eB cb (eB bb (eW 1)<|eC<|.int 1)<|eB bb (eW 0)<|eC<|.int 1)<|eW 4)<|eB bb (eW 3)<|eC<|.int 1)<|eB oLe (eB cb (eB cb (eB bb (eW 3)<|eC<|.int 1)<|eB bb (eW 2)<|eC<|.int 1)<|eW 4)<|eB bb (eW 1)<|eC<|.int 1)
def qw:γ D->Res D:=fn 4 5 nj
theorem KQ(x0 x1 x2 x3:D):qw [x0,x1,x2,x3]=cu (nj [AC (.val x0),AC (.val x1),AC (.val x2),AC (.val x3),At]):=c_ _ _ _ _ rfl
def ir:SF:=(bj<|eL<|cM (NV (eV 0)<|eV 1) 2 [] (kq [0,1]) (tE<|eU l8<|eW 1)<|br<|aa (eV 0)<|aa (eV 1) av)
def cz:γ D->Res D:=fn 2 2 ir
theorem qx(x0 x1:D):cz [x0,x1]=cu (ir [AC (.val x0),AC (.val x1)]):=c_ _ _ _ _ rfl
def iy:SF:=(bj<|eU iX<|eL<|cM (iQ<|eW 2) 2 [0,1] (kq [0,1]) cF<|aD qw<|aa (eV 2)<|aa (eV 3)<|aa (eV 0)<|aa (eV 1) av)
def dI:γ D->Res D:=fn 3 3 iy
theorem qz(x0 x1 x2:D):dI [x0,x1,x2]=cu (iy [AC (.val x0),AC (.val x1),AC (.val x2)]):=c_ _ _ _ _ rfl
def z6:SF:=(bH (bG 3<|aD cz<|aa (eV 1)<|aa (eV 2) av)<|bH (jR (gJ<|tE<|eU iX<|eL<|cM (iQ<|eW 3) 2 [0] (kq [0,1]) cF<|aD qv<|aa (eV 2)<|aa (eV 0)<|aa (eV 1) av) (bj<|eC<|.bl AT) b7)<|bj<|eU iX<|eL<|cM (iR<|eU cQ<|eW 3) 1 [3] (bA 0) cF<|aD dI<|aa (eB bb (eB bb (eW 1)<|eW 0)<|eC<|.int 0)<|aa (eB bb (eB bb (eW 1)<|eW 0)<|eC<|.int 1)<|aa (eL<|Ru (eW 1) y_<|u!<|eW 0) av)
def my:γ D->Res D:=fn 3 4 z6
theorem KP(x0 x1 x2:D):my [x0,x1,x2]=cu (z6 [AC (.val x0),AC (.val x1),AC (.val x2),At]):=c_ _ _ _ _ rfl
abbrev Rows:=γ<|γ Nat
abbrev Pl:=Int×Int
structure Hall(rows:Rows)(C:Nat):Prop where
 r1:1<=rows.length
 r2:rows.length<=100
 c1:1<=C
 c2:C<=100
 len:∀x∈rows,x.length=C
structure G where
 name:List Nat
 w:Nat
 d:Nat
 kind:List Nat
 wide:Nat
 gap:Nat
 worth:D
 ki:D
structure GOk(g:G):Prop where
 w1:1<=g.w
 w2:g.w<=13
 d1:1<=g.d
 d2:g.d<=4
 kd:g.kind.length<=1
 wd:g.wide<=100
 gp:g.gap<=100
def bZ(rows:Rows):D:=.tup<|rows.map .str
def bz(p:Pl):D:=.tup [.int p.1,.int p.2]
def aS(g:G):D:=.tup [.str g.name,.int g.w,.int g.d,.str g.kind,.int g.wide,.int g.gap,g.worth,g.ki]
def mF:ε Nat->D
|some c=>.str [c]
|none=>.non
@[simp] theorem abt(p:Pl):bb (bz p) (.int 0)=.ok (.int p.1):=rfl
@[simp] theorem abr(p:Pl):bb (bz p) (.int 1)=.ok (.int p.2):=rfl
@[simp] theorem acv(g:G):bb (aS g) (.int 0)=.ok (.str g.name):=rfl
@[simp] theorem acu(g:G):bb (aS g) (.int 1)=.ok (.int g.w):=rfl
@[simp] theorem acs(g:G):bb (aS g) (.int 2)=.ok (.int g.d):=rfl
@[simp] theorem acr(g:G):bb (aS g) (.int 3)=.ok (.str g.kind):=rfl
@[simp] theorem acq(g:G):bb (aS g) (.int 4)=.ok (.int g.wide):=rfl
@[simp] theorem acp(g:G):bb (aS g) (.int 5)=.ok (.int g.gap):=rfl
@[simp] theorem aco(g:G):bb (aS g) (.int 6)=.ok g.worth:=rfl
@[simp] theorem acn(g:G):bb (aS g) (.int 7)=.ok g.ki:=rfl
@[simp] theorem ab9(rows:Rows):cQ (bZ rows)=.ok (.int rows.length):=by simp[bZ]
@[simp] theorem abc(a b:Int):D.tup [.int a,.int b]=bz (a,b):=rfl
theorem iq(ρ:Env)(is:γ Nat):eP ρ is=is.map (sY ρ):=rfl
def yn:ε (ε L)->ε L
|some<|some<|.val d=>AC<|.val d
|some<|some<|.bor d=>AC<|.bor d
|some<|some<|.Hf ks=>AC<|.Hf ks
|some<|some<|.own xs=>AC<|.bor<|.lst xs
|_=>At
theorem fK(ρ:Env)(i:Nat):sY ρ i=yn ρ[i]?:=by
 unfold sY yn;cases ρ[i]? with
 |none=>rfl
 |some o=>cases o with
  |none=>rfl
  |some l=>cases l<;>rfl
@[simp] theorem TV(d:D):yn (AC<|some<|.bor d)=AC (.bor d):=rfl
@[simp] theorem TU(ks:γ _):yn (AC<|some<|.Hf ks)=AC (.Hf ks):=rfl
@[simp] theorem TR(xs:γ D):yn (AC<|some<|.own xs)=AC (.bor<|.lst xs):=rfl
@[simp] theorem TQ(d:D):yn (AC<|some<|.val d)=AC (.val d):=rfl
theorem Hall.row(H:Hall rows C)(h:r<rows.length):∃row,rows[r]?=AC row/\row.length=C/\bb (bZ rows) (.int r)=.ok (.str row):=by refine⟨rows[r],A01 h,H.len _<|B37 h,(jb rfl ?_).1⟩;rw[A08,A01];rfl
theorem Hall.UA(H:Hall rows C):∃row,row.length=C/\bb (bZ rows) (.int 0)=.ok (.str row):=by let⟨row,_,h1,h2⟩:=H.row H.r1;exact⟨row,h1,h2⟩
def c9(rows:Rows)(p:Pl):ε Nat:=if 0<=p.1/\0<=p.2 then(rows[p.1.toNat]?).bind (λ r=>r[p.2.toNat]?)else At
theorem MF(H:Hall rows C){p:Pl}(h1:0<=p.1)(h2:p.1<rows.length)(h3:0<=p.2)(h4:p.2<C):∃row c,bb (bZ rows) (.int p.1)=.ok (.str row)/\row.length=C/\bb (.str row) (.int p.2)=.ok (.str [c])/\c9 rows p=AC c:=by
 let⟨row,e1,hl,e2⟩:=H.row (r:=p.1.toNat) ∅;rw[B76 h1]at e2;have hc:p.2.toNat<row.length:=by lia
 have LW:=H.c2;refine⟨row,row[p.2.toNat],e2,hl,BD ∅ (A01 hc) (by simp only[line];lia),?_⟩;simp[c9,h1,h3,e1]
theorem IK(H:Hall rows C){p:Pl}(h:¬(0<=p.1/\p.1<rows.length/\0<=p.2/\p.2<C)):c9 rows p=At:=by
 unfold c9;by_cases h0:0<=p.1/\0<=p.2
 .rw[f8 h0];cases e:rows[p.1.toNat]? with
  |none=>rfl
  |some row=>let⟨h1,h2⟩:=A04.mp e;have:=H.len row<|A13 e;simp only[B31];exact B24 ∅
 .rw[P3 h0]
theorem MD(H:Hall rows C)(p:Pl):lg [bZ rows,bz p]=.ok (mF<|c9 rows p):=by
 rw[D?];refine aT ?_;let⟨UA,RZ,e0⟩:=H.UA;have BL:=H.c2;have RY:C<=line:=by simp only[line];lia
 by_cases h:0<=p.1/\p.1<rows.length/\0<=p.2/\p.2<C
 .let⟨row,c,e1,_,e2,e3⟩:=MF H h.1 h.2.1 h.2.2.1 h.2.2.2;simp[iu,e0,RZ,RY,h.1,h.2.1,h.2.2.1,h.2.2.2,e1,e2,e3,mF]
 .rw [IK H h];by_cases a1:0<=p.1
  .by_cases a2:p.1<rows.length
   .by_cases a3:0<=p.2
    .have a4:¬p.2<C:=λ z=>h ⟨a1,a2,a3,z⟩;simp[iu,e0,RZ,RY,a1,a2,a3,a4,mF]
    .simp[iu,e0,RZ,RY,a1,a2,a3,mF]
   .simp[iu,e0,RZ,RY,a1,a2,mF]
  .simp[iu,e0,RZ,RY,a1,mF]
def kj(kind:γ Nat):ε Nat->Bool
|some c=>decide<|c=46\/c=61\/kind=[c]
|none=>AT
theorem Si(c:γ Nat):kS (.str c) .non=AC AT:=rfl
theorem K3(c:γ Nat):kS .non (.str c)=AC AT:=rfl
theorem K2(a b:γ Nat):kS (.str a) (.str b)=AC (a==b):=rfl
theorem in2(c:Nat):wZ (.str [c]) (.tup [.str [46],.str [61]])=.ok (.bl<|decide<|c=46\/c=61):=by
 simp only[wZ,hZ,K2];by_cases h1:c=46
 .subst h1;rfl
 .by_cases h2:c=61
  .subst h2;rfl
  .have h1':¬46=c:=λ h=>h1 h.symm;have R':¬61=c:=λ h=>h2 h.symm;simp[h1,h2,h1',R']
theorem Ir(s:ε Nat)(k:γ Nat):qt [mF s,.str k]=.ok (.bl<|kj k s):=by
 rw[KL];refine aT ?_;cases s with
 |none=>simp[uD,mF,kj,line,wZ,hZ,K3,Si,oEq]
 |some c=>
  simp[uD,mF,kj,line,in2];by_cases h1:c=46
  .simp[h1]
  .by_cases h2:c=61
   .simp[h2]
   .by_cases h3:k=[c]
    .subst h3;simp[h1,h2]
    .have h3':¬[c]=k:=λ h=>h3 h.symm;simp[h1,h2,h3,h3']
def jx(w:Nat)(r c:Int):γ Pl:=(FB w).map λ j=>(r,c+(j:Nat))
def kT(w:Nat)(p:Pl)(n:Nat):γ Pl:=(FB n).flatMap λ i=>jx w (p.1+(i:Nat)) p.2
def seats(g:G)(p:Pl):γ Pl:=kT g.w p g.d
theorem sF(w:Nat)(p:Pl)(n:Nat):kT w p (n+1)=kT w p n++jx w (p.1+(n)) p.2:=by simp[kT,A74]
theorem yY(w:Nat)(r c:Int):(jx w r c).length=w:=by simp[jx]
theorem uY(w:Nat)(p:Pl)(n:Nat):(kT w p n).length=n*w:=by
 induction n with
 |zero=>simp[kT]
 |succ n ih=>rw[sF,A55,ih,yY,C27]
theorem ints_map(lo:Int)(n:Nat):zints lo n=(FB n).map λ i=>D.int (lo+(i:Nat)):=rfl
theorem ints_get(h:(zints lo n)[j]?=AC d):j<n/\d=.int (lo+(j)):=by
 rw[ints_map,A08]at h;cases q:(FB n)[j]? with
 |none=>rw[q]at h;cases h
 |some i=>rw[q]at h;let⟨h1,h2⟩:=A04.mp q;rw[B04]at h1;rw[C04]at h2;subst h2;simp at h;exact⟨h1,h.symm⟩
theorem toNat_sub(a:Int)(n:Nat):(a+(n)-a).toNat=n:=by lia
theorem IS(k:GOk g)(p:Pl):j7 [aS g,bz p]=.ok (.tup<|(seats g p).map bz):=by
 rw[BX];refine aT ?_;have hw:=k.w2;have hd:=k.d2;simp[pd,toNat_sub];refine mv (λ i ρ=>∃x,ρ=[v _,v _,ow ((kT g.w p i).map bz),x]) ⟨At,rfl⟩ ?_ ?_
 .rintro j d ρ hj ⟨x,rfl⟩;let⟨hj,rfl⟩:=ints_get hj;simp[bV,toNat_sub,iq,fK];refine⟨by lia,comp_map (λ d=>.tup [.int (p.1+(j)),d]) ?_ ?_⟩
  .rintro d hd;let⟨i,hi⟩:=A76 hd;let⟨_,rfl⟩:=ints_get hi;simp[line]
  .refine⟨?_,?_⟩
   .rw[A17,uY,mj];have:j*g.w<=4*13:=B14 ∅ hw;lia
   .simp[sF,jx,ints_map]
 .rintro ρ ⟨x,rfl⟩;simp[seats]
def EI(rows:Rows)(s:Pl):Bool:=c9 rows s==AC 61
def b!(rows:Rows)(g:G)(p:Pl):Bool:=(seats g p).all (λ s=>kj g.kind<|c9 rows s)&&decide (g.wide<=(seats g p).countP (EI rows))
theorem B_(rows:Rows):∀(ss:γ Pl),wm (.str [61]) (ss.map λ s=>mF<|c9 rows s)=AC (ss.countP<|EI rows)
|[]=>rfl
|s::ss=>by
 rw[A12,wm,B_,A91];cases e:c9 rows s with
 |none=>simp[mF,EI,e,K3]
 |some c=>simp[mF,EI,e,K2]
theorem all_map{α:Type}(f:α->Bool)(xs:γ α):allB (xs.map λ x=>D.bl<|f x)=AC (xs.all f):=by
 have:=z9<|xs.map f;rw[A36]at this;rw[show(xs.map λ x=>D.bl _)=xs.map (D.bl∘f)from rfl,this]
 congr 1
 induction xs with
 |nil=>rfl
 |cons x xs ih=>simp
theorem FN(H:Hall rows C)(k:GOk g)(p:Pl):qv [bZ rows,aS g,bz p]=.ok (.bl<|b! rows g p):=by
 rw[N?];refine aT ?_;have ψ:(seats g p).length<=16777216:=by rw[seats,uY];have:=B14 k.d2 k.w2;lia
 simp[Eu,bV,IS k,line,iq,fK,ψ];refine comp_map (λ d=>match d with|.tup [.int a,.int b]=>mF<|c9 rows (a,b)|_=>.non) ?_ ?_
 .intro d hd;let⟨q,_,rfl⟩:=A05.mp hd;simp[MD H];rfl
 .have e1:(List.map bz<|seats g p).map (λ d=>match d with|.tup [.int a,.int b]=>mF<|c9 rows (a,b)|_=>.non)=(seats g p).map λ s=>mF (c9 rows s):=by rw[A36];rfl
  rw[e1];simp[bV,line,ψ,iq,fK];refine comp_map (λ d=>match d with|.str [c]=>.bl<|kj g.kind<|some c|_=>.bl AT) ?_ ?_
  .intro d hd;let⟨q,_,rfl⟩:=A05.mp hd;simp[Ir];cases c9 rows q<;>rfl
  .have e2:((seats g p).map λ s=>mF<|c9 rows s).map (λ d=>match d with|.str [c]=>D.bl<|kj g.kind<|some c|_=>D.bl AT)=(seats g p).map λ s=>D.bl (kj g.kind<|c9 rows s):=by rw[A36];apply B05;intro s _;show(match mF (c9 rows s)with|.str [c]=>D.bl<|kj g.kind<|some c|_=>D.bl AT)=_;cases c9 rows s<;>rfl
   rw[e2];simp only[iX,all_map,W'];cases ha:(seats g p).all λ s=>kj g.kind (c9 rows s)with
   |false=>simp[b!,ha]
   |true=>simp[b!,ha,zf,B_]
def lA(r C:Nat):γ Pl:=(FB C).map λ(c:Nat)=>(((r:Nat):Int),((c:Nat):Int))
def jP(n C:Nat):γ Pl:=(FB n).flatMap λ r=>lA r C
theorem pf(n C:Nat):jP (n+1) C=jP n C++lA n C:=by simp[jP,A74]
theorem xQ(r C:Nat):(lA r C).length=C:=by simp[lA]
theorem yA(n C:Nat):(jP n C).length=n*C:=by
 induction n with
 |zero=>simp[jP]
 |succ n ih=>rw[pf,A55,ih,xQ,C27]
def places(rows:Rows)(C:Nat)(g:G):γ Pl:=(jP rows.length C).filter<|b! rows g
theorem places_of_ok(H:Hall rows C)(k:GOk g):fG [bZ rows,aS g]=.ok (.tup<|(places rows C g).map bz):=by
 rw[zM];refine aT ?_;have BL:=H.c2;have hr2:=H.r2;simp[mK,line];refine mv (λ i ρ=>i<=rows.length/\∃x,ρ=[v _,v _,ow (((jP i C).filter<|b! rows g).map bz),x]) ⟨A71 _,At,rfl⟩ ?_ ?_
 .rintro i d ρ hi ⟨_,x,rfl⟩;let⟨N0,rfl⟩:=ints_get hi;let⟨row,_,hl,e1⟩:=H.row N0;have RY:C<=16777216:=by lia
  simp[e1,hl,bV,line,iq,fK,RY];refine OB (λ d=>match d with|.int c=>b! rows g ((i),c)|_=>AT) (λ d=>.tup [.int (i),d]) ?_ ?_
  .intro d hd;let⟨c,hc⟩:=A76 hd;let⟨_,rfl⟩:=ints_get hc;simp[line,FN H k]
  .have e2:((zints 0 C).filter λ d=>match d with|.int c=>b! rows g ((i),c)|_=>AT).map (λ d=>D.tup [.int (i),d])=((lA i C).filter<|b! rows g).map bz:=by
    rw[ints_map,lA,AB7,AB7,A36,A36]
    congr 1
    .funext c;simp
    .congr 1;funext c;simp
   rw[e2,pf,List.filter_append,A63];have h1:=B15 (b! rows g)<|jP i C;have h2:=B15 (b! rows g)<|lA i C;rw[yA]at h1;rw[xQ]at h2;have h3:i*C<=100*100:=B14 ∅ BL;refine⟨?_,by lia,rfl⟩;rw[A17];lia
 .rintro ρ ⟨_,x,rfl⟩;simp[places]
def bN(g:G)(p:Pl)(h:G)(q:Pl):Bool:=decide<|p.1+g.d<=q.1\/q.1+h.d<=p.1\/p.2+g.w+max (g.gap:Int) (h.gap:Int)<=q.2\/q.2+h.w+max (g.gap:Int) (h.gap:Int)<=p.2
theorem Ls(g:G)(p:Pl)(h:G)(q:Pl):qw [aS g,bz p,aS h,bz q]=.ok (.bl<|bN g p h q):=by
 rw[KQ];refine aT ?_;by_cases h1:p.1+g.d<=q.1
 .simp[nj,bN,h1]
 .by_cases h2:q.1+h.d<=p.1
  .simp[nj,bN,h2]
  .by_cases h3:p.2+g.w+max (g.gap:Int) h.gap<=q.2
   .simp[nj,bN,h1,h2,h3]
   .simp[nj,bN,h1,h2,h3]
def Bd(ns:γ Int):Prop:=∀i∈ns,bits i<=2^20
theorem zX(hb:Bd ns)(h:0<=k):∃c,dU [.lst (ns.map .int),.int k]=.ok (.int c)/\bits c<=2^20:=by
 by_cases hk:k<ns.length
 .have hj:k.toNat<ns.length:=by lia
  have e:=(jb (xs:=ns.map D.int) (i:=k) (j:=k.toNat) (d:=.int ns[k.toNat]) ∅ ∅).2;refine⟨ns[k.toNat],?_,hb _<|B37 hj⟩;rw[mC];refine aT ?_;simp[iK,hk,e]
 .refine⟨0,?_,by decide⟩;rw[mC];refine aT ?_;simp[iK,hk]
structure ac1(rows:Rows)(C:Nat):Prop extends Hall rows C where
 r6:rows.length<=6
 c12:C<=12
 sg:∀x∈rows,∀c∈x,c∈signs
structure GrpG(g:G):Prop extends GOk g where
 S7:g.w<=12
 d3:g.d<=3
 kl:g.kind=[]\/∃c∈cq,g.kind=[c]
 wdd:g.wide<=g.w*g.d
 g6:g.gap<=6
 YZ:∃(wt:Int)(ws:List Pl),ws.length<=6/\g.worth=.int wt/\g.ki=.tup (ws.map bz)
@[simp] theorem X_(b:Bool):dX .bool (.bl b)=Ch:=rfl
@[simp] theorem VE(xs:γ D):dX .tuple (.tup xs)=Ch:=rfl
@[simp] theorem _c(p:Pl):dX .tuple (bz p)=Ch:=rfl
@[simp] theorem VF(i:Int):dX .int (.int i)=Ch:=rfl
@[simp] theorem Tt(i:Int):dX .bool (.int i)=AT:=rfl
theorem eqP(n:Nat)(p q:Pl):eY (n+1) (bz p) (bz q)=AC (decide<|p=q):=by
 show allEq _ [.int p.1,.int p.2] [.int q.1,.int q.2]=_;have e:∀a b,eY n (.int a) (.int b)=AC (decide<|a=b):=λ a b=>by cases n<;>rfl
 simp only[allEq,e]
 congr 1
 rw[A78];simp[Prod.ext_iff]
theorem Sh(n:Nat)(ps qs:γ Pl):allEq (eY<|n+1) (ps.map bz) (qs.map bz)=AC (decide<|ps=qs):=su (eqP n) ps qs
theorem aam(n:Nat)(ps qs:γ Int):allEq (eY n) (ps.map D.int) (qs.map D.int)=AC (decide<|ps=qs):=su (λ a b=>by cases n<;>rfl) ps qs
@[simp] theorem Z2(ps qs:γ Pl):kn (.lst<|ps.map bz) (.lst<|qs.map bz)=.ok (.bl<|!decide (ps=qs)):=by have:kS (.lst _) (.lst _)=AC _:=Sh 4 ps qs;unfold kn;rw[this]
@[simp] theorem afm(ps qs:γ Pl):oEq (.lst<|ps.map bz) (.lst<|qs.map bz)=.ok (.bl<|decide<|ps=qs):=by have:kS (.lst _) (.lst _)=AC _:=Sh 4 ps qs;unfold oEq;rw[this]
@[simp] theorem afl(ps qs:γ Pl):oEq (.tup<|ps.map bz) (.tup<|qs.map bz)=.ok (.bl<|decide<|ps=qs):=by have:kS (.tup _) (.tup _)=AC _:=Sh 4 ps qs;unfold oEq;rw[this]
@[simp] theorem neI(ps qs:γ Int):kn (.lst<|ps.map D.int) (.lst<|qs.map D.int)=.ok (.bl<|!decide (ps=qs)):=by have:kS (.lst _) (.lst _)=AC _:=aam 5 ps qs;unfold kn;rw[this]
theorem SO(p:Pl):∀(qs:γ Pl),hZ (bz p) (qs.map bz)=AC (decide<|p∈qs)
|[]=>rfl
|q::qs=>by
 rw[A12,hZ,SO,show kS _ _=AC _ from eqP 5 q p];show AC _=_
 congr 1
 rw[A78];simp only[AB2,B09,A00];exact⟨λ h=>h.imp Eq.symm id,λ h=>h.imp Eq.symm id⟩
@[simp] theorem ad9(p:Pl)(qs:γ Pl):wZ (bz p) (.tup<|qs.map bz)=.ok (.bl<|decide<|p∈qs):=by simp only[wZ,SO]
@[simp] theorem X6(p:Pl)(qs:γ Pl):ze (bz p) (.tup<|qs.map bz)=.ok (.bl<|!decide (p∈qs)):=by simp only[ze,SO]
def J5(p q:Pl):Prop:=p.1<q.1\/p.1=q.1/\p.2<q.2
theorem yZ(r C:Nat):(lA r C).Pairwise J5:=by unfold lA;rw[B40];refine(C43).imp ?_;intro a b h;exact .inr ⟨rfl,by lia⟩
theorem x!(h:p∈lA r C):p.1=r/\0<=p.2/\p.2<C:=by let⟨c,hc,rfl⟩:=A05.mp h;rw[A32]at hc;exact⟨rfl,by lia,by lia⟩
theorem x?:p∈jP n C↔0<=p.1/\p.1<n/\0<=p.2/\p.2<C:=by
 constructor
 .intro h;let⟨r,hr,h⟩:=B16.mp h;rw[A32]at hr;let⟨h1,h2,h3⟩:=x! h;exact⟨by lia,by lia,h2,h3⟩
 .rintro⟨h1,h2,h3,h4⟩;refine B16.mpr ⟨p.1.toNat,A32.mpr ∅,A05.mpr ⟨p.2.toNat,A32.mpr ∅,?_⟩⟩;apply Prod.ext
  .lia
  .lia
theorem z8(n C:Nat):(jP n C).Pairwise J5:=by
 induction n with
 |zero=>simp[jP]
 |succ n ih=>rw[pf,List.pairwise_append];refine⟨ih,yZ n C,λ a ha b hb=>?_⟩;have h1:=x?.mp ha;have h2:=x! hb;exact .inl ∅
theorem wU(rows:Rows)(C:Nat)(g:G):(places rows C g).Pairwise J5:=(z8 _ _).filter _
theorem take_snoc{α:Type}{xs:γ α}{x:α}(h:xs[i]?=AC x):xs.take (i+1)=xs.take i++[x]:=by rw[C08,h];rfl
theorem places_len(H:Hall rows C)(g:G):(places rows C g).length<=10000:=by have h1:=B15 (b! rows g)<|jP rows.length C;rw[yA]at h1;have:=B14 H.r2 H.c2;unfold places;lia
end KG
set_option maxRecDepth 4000
namespace KG
open Z
abbrev GP:=G×Pl
abbrev GO:=G×ε Pl
def cY:ε Pl->D
|none=>.non
|some p=>bz p
@[simp] theorem TK(p:Pl):cY (AC p)=bz p:=rfl
@[simp] theorem TL:cY At=.non:=rfl
def qD(x:GP):D:=.tup [aS x.1,bz x.2]
def K5(x:GO):D:=.tup [aS x.1,cY x.2]
theorem O3:∀(xs:γ GO),lP (xs.map λ x=>aS x.1) (xs.map λ x=>cY x.2)=xs.map K5
|[]=>rfl
|x::xs=>by simp[lP,O3 xs];rfl
@[simp] theorem ZZ(o:ε Pl):l8 (cY o)=.ok (.bl o.isSome):=by cases o<;>rfl
@[simp] theorem abM(o:ε Pl):iW (cY o)=.ok (.bl o.isNone):=by cases o<;>rfl
@[simp] theorem gX(x:GP)(i j:Nat)(ρ:Env):kq [i,j] (qD x) ρ=.ok ((ρ.set i<|v<|aS x.1).set j<|v<|bz x.2):=rfl
@[simp] theorem gY(x:GO)(i j:Nat)(ρ:Env):kq [i,j] (K5 x) ρ=.ok ((ρ.set i<|v<|aS x.1).set j<|v<|cY x.2):=rfl
theorem r!{α:Type}(xs:γ α):xs.filter (λ _=>Ch)=xs:=B38.mpr λ _ _=>rfl
def jo:γ GO->γ GP
|[]=>[]
|(g,AC p)::xs=>(g,p)::jo xs
|(_,At)::xs=>jo xs
theorem yV:∀xs,(xs.filter λ x=>x.2.isSome).map K5=(jo xs).map qD
|[]=>rfl
|(g,AC p)::xs=>by rw[C44 (by rfl)];simp only[A12,yV xs];rfl
|(g,At)::xs=>by rw[B41 ∅];simp only[jo,yV xs]
theorem mW:∀xs,(jo xs).length<=xs.length
|[]=>v6 _
|(g,AC p)::xs=>by have:=mW xs;simp only[jo,A38];lia
|(g,At)::xs=>by have:=mW xs;simp only[jo,A38];lia
theorem jk:∀{xs}{y},y∈jo xs↔(y.1,AC y.2)∈xs
|[],y=>by simp[jo]
|(g,AC p)::xs,y=>by
 simp only[jo,A00,jk,C26,B32];constructor
 .rintro(rfl|h)
  .exact .inl ⟨rfl,rfl⟩
  .exact .inr h
 .rintro(⟨h1,h2⟩|h)
  .left;rw[<-h1,<-h2]
  .exact .inr h
|(g,At)::xs,y=>by simp only[jo,A00,jk,C26,reduceCtorEq,and_false,false_or]
theorem pD(h:xs.length<=16777216):cz [.tup (xs.map λ x=>aS x.1),.tup (xs.map λ x=>cY x.2)]=.ok (.lst<|(jo xs).map qD):=by
 rw[qx];refine aT ?_;simp[ir,bV,O3,h];refine dM K5 (λ x=>x.2.isSome) K5 ?_ ?_
 .intro x hx;simp;exact λ _=>⟨by decide,rfl⟩
 .rw[yV]
theorem va{α:Type}(f:α->Bool)(xs:γ α):iX (.lst<|xs.map λ x=>D.bl<|f x)=.ok (.bl<|xs.all f):=by simp only[iX,all_map]
theorem Ly(g:G)(p:Pl){xs:γ GP}(h:xs.length<=16777216):dI [aS g,bz p,.lst (xs.map qD)]=.ok (.bl<|xs.all λ x=>bN g p x.1 x.2):=by
 rw[qz];refine aT ?_;simp[iy,bV,iq,fK,h];refine dM qD (λ _=>Ch) (λ x=>.bl<|bN g p x.1 x.2) ?_ ?_
 .intro x hx;simp[Ls]
 .rw[r!,va];simp
theorem B9(xs:γ α)(h:k<=xs.length):cut xs At (AC<|k)=xs.take k:=by
 have:¬(k:Int)<0:=by lia
 simp[cut,eD,this]
def vC(ss:γ GP)(k:Nat):Bool:=match ss[k]? with
|some x=>(ss.take k).all λ y=>bN x.1 x.2 y.1 y.2
|none=>Ch
def rG(rows:Rows)(ss:γ GP):Bool:=(ss.all λ x=>b! rows x.1 x.2)&&(FB ss.length).all (vC ss)
theorem J?(H:Hall rows C)(h6:xs.length<=6)(hg:∀x∈xs,GOk x.1):my [bZ rows,.tup (xs.map λ x=>aS x.1),.tup (xs.map λ x=>cY x.2)]=.ok (.bl<|rG rows<|jo xs):=by
 rw[KP];refine aT ?_;have RZ:=mW xs;have hl:(jo xs).length<=16777216:=by lia
 have VX:xs.length<=16777216:=by lia
 have hk:∀x∈jo xs,GOk x.1:=λ x hx=>hg _<|jk.mp hx;generalize hss:jo xs=ss at RZ hl hk;simp[z6,bV,line,iq,fK,pD VX,hss,hl];refine dM qD (λ _=>Ch) (λ x=>.bl<|b! rows x.1 x.2) ?_ ?_
 .intro x hx;simp[FN H<|hk x hx]
 .rw [r!,va];cases e:(ss.all λ x=>b! rows x.1 x.2)with
  |false=>simp[rG,e]
  |true=>
   simp[hl];refine Z.comp_map (λ d=>match d with|.int c=>.bl<|vC ss c.toNat|d=>d) ?_ ?_
   .intro d hd;let⟨j,hj⟩:=A76 hd;let⟨Af,rfl⟩:=ints_get hj;obtain⟨x,ex⟩:∃x,ss[j]?=AC x:=⟨_,A01 Af⟩
    have i1:=(jb (d:=qD x) rfl (by rw[A08,ex];rfl)).2;have i2:bb (qD x) (.int 0)=.ok (aS x.1):=rfl;have i3:bb (qD x) (.int 1)=.ok (bz x.2):=rfl;have ct:=B9 (ss.map qD) (k:=j) (by rw[A17];lia);have af:=Ly x.1 x.2 (xs:=ss.take j) (by rw[A26];lia);rw[List.map_take]at af;rw[Int.zero_add];simp[i1,i2,i3,Vy,ct,af,vC,ex]
   .have:(zints 0 ss.length).map (λ d=>match d with|.int c=>.bl<|vC ss c.toNat|d=>d)=(FB ss.length).map λ j=>D.bl (vC ss j):=by rw[ints_map,A36];refine B05 λ j _=>?_;simp
    rw[this,va];simp[rG,e]
theorem DF:rG rows ss=Ch↔(∀x∈ss,b! rows x.1 x.2=Ch)/\ss.Pairwise λ a b=>bN b.1 b.2 a.1 a.2=Ch:=by
 unfold rG;rw[A35,A30,A30,B75];refine and_congr_right λ _=>?_;constructor
 .intro h i j hi hj oY;have:=h j<|A32.mpr hj;rw[vC,A01]at this;rw[A30]at this;exact this ss[i]<|List.mem_iff_getElem.mpr ⟨i,by rw[A26];lia,by rw[wv]⟩
 .intro h k hk;rw[A32]at hk;rw[vC,A01];rw[A30];intro y hy;let⟨i,hi,rfl⟩:=List.mem_iff_getElem.mp hy;rw[A26]at hi;rw[wv];exact h i k ∅ hk ∅
theorem yx(g:G)(p:Pl)(h:G)(q:Pl):bN g p h q=bN h q g p:=by unfold bN;rw[decide_eq_decide,Int.max_comm];lia
theorem uW:∀{xs},(jo xs).Pairwise R↔xs.Pairwise λ a b=>∀p q,a.2=AC p->b.2=AC q->R (a.1,p) (b.1,q)
|[]=>by simp[jo]
|(g,AC p)::xs=>by
 simp only[jo,C28,uW];refine and_congr_left λ _=>?_;constructor
 .intro h b hb p' q hp hq;cases hp;exact h (b.1,q)<|jk.mpr (by simp only[<-hq];exact hb)
 .intro h y hy;exact h _ (jk.mp hy) p y.2 rfl rfl
|(g,At)::xs=>by simp only[jo,C28,uW];exact⟨λ h=>⟨λ b hb p q hp=>(by cases hp),h⟩,λ h=>h.2⟩
end KG
set_option maxRecDepth 4000
namespace KH
open Z KG
def lq:SF:=(bj<|eB cb (eB cb (Ah (eW 0) y_<|u!<|eW 1)<|br<|aa (eV 2) av)<|Ah (eW 0) (u!<|eB cb (eW 1)<|eC<|.int 1) y_)
def cN:γ D->Res D:=fn 3 3 lq
theorem xt(x0 x1 x2:D):cN [x0,x1,x2]=cu (lq [AC (.val x0),AC (.val x1),AC (.val x2)]):=c_ _ _ _ _ rfl
def lu:SF:=(bj<|eU kZ<|eL<|cM (iQ<|eW 0) 1 [1,2] (bA 0) (tE<|aD KG.dI<|aa (eV 1)<|aa (eV 0)<|aa (eV 2) av)<|eV 0)
def eQ:γ D->Res D:=fn 3 3 lu
theorem xu(x0 x1 x2:D):eQ [x0,x1,x2]=cu (lu [AC (.val x0),AC (.val x1),AC (.val x2)]):=c_ _ _ _ _ rfl
def pe:SF:=(bj<|eB cb (eB cb (Ah (eW 0) y_<|u!<|eW 1)<|br<|aa (eV 2) av)<|Ah (eW 0) (u!<|eB cb (eW 1)<|eC<|.int 1) y_)
def mw:γ D->Res D:=fn 3 3 pe
theorem BY(x0 x1 x2:D):mw [x0,x1,x2]=cu (pe [AC (.val x0),AC (.val x1),AC (.val x2)]):=c_ _ _ _ _ rfl
end KH
set_option maxRecDepth 8000
namespace KH
open Z KG
@[simp] theorem ZO:tN (.int 10) (.int 40)=.ok (.int 10000000000000000000000000000000000000000):=jB 10 40 ∅ ∅
@[simp] theorem ZP:tN (.int 10) (.int 39)=.ok (.int 1000000000000000000000000000000000000000):=jB 10 39 ∅ ∅
def ZT(xs:γ GO)(g:G)(k:Nat)(p:Pl)(j:Nat):Bool:=decide (j=k)||match xs[j]? with
|some (h,AC q)=>bN g p h q
|_=>Ch
def openAt(xs:γ GO)(g:G)(k:Nat)(p:Pl):Bool:=(FB xs.length).all<|ZT xs g k p
def eF(rows:Rows)(C:Nat)(xs:γ GO)(g:G)(k:Nat):γ Pl:=(places rows C g).filter<|openAt xs g k
def aF(xs:γ GO):D:=.tup<|xs.map λ x=>aS x.1
def aH(xs:γ GO):D:=.tup<|xs.map λ x=>cY x.2
theorem E2{k:Nat}(h:k<ds.length)(d:D):cut ds At (AC<|k)++(d::cut ds (AC<|(k)+1) At)=ds.set k d:=by
 have e1:cut ds At _=ds.take k:=B9 ds ∅;have e2:cut ds (AC<|(k)+1) At=ds.drop (k+1):=by
  have:¬(k:Int)+1<0:=by lia
  have h3:((k:Int)+1).toNat=k+1:=by lia
  have h4:min (k+1) ds.length=k+1:=by lia
  simp[cut,eD,this,h4];rw[List.take_of_length_le ∅]
 rw[e1,e2,List.set_eq_take_append_cons_drop,f8 h]
theorem Mf(h:k<ds.length)(hl:ds.length<=1000)(d:D):mw [.tup ds,.int (k:Nat),d]=.ok (.tup<|ds.set k d):=by
 rw[BY];refine aT ?_;have c1:=qF ds At<|some<|k;have c2:=qF ds (AC<|(k)+1) At;have g1:(cut ds At<|some<|k).length+1<=16777216:=by lia
 have g2:(cut ds At<|some<|k).length+1+(cut ds (AC<|(k)+1) At).length<=16777216:=by lia
 simp[pe,line,g1,g2,E2 h]
theorem wL(h:k<ds.length)(hl:ds.length<=1000)(d:D):cN [.tup ds,.int (k:Nat),d]=.ok (.tup<|ds.set k d):=by
 rw[xt];refine aT ?_;have c1:=qF ds At<|some<|k;have c2:=qF ds (AC<|(k)+1) At;have g1:(cut ds At<|some<|k).length+1<=16777216:=by lia
 have g2:(cut ds At<|some<|k).length+1+(cut ds (AC<|(k)+1) At).length<=16777216:=by lia
 simp[lq,line,g1,g2,E2 h]
theorem Hk(xs:γ GO)(k:Nat)(g:G)(o:ε Pl):aH (xs.set k (g,o))=.tup ((xs.map λ x=>cY x.2).set k<|cY o):=by simp[aH]
theorem Hl(h:xs[k]?=AC x)(o:ε Pl):aF (xs.set k (x.1,o))=aF xs:=by
 have hk:=(A04.mp h).1;have e:x=xs[k]:=by rw[A01]at h;exact(A06 h).symm
 unfold aF;rw[B42]
 congr 1
 subst e;apply AA6 ∅;intro i h1 h2;rw[AA7];split
 .rename_i e;subst e;simp
 .rfl
def Good(rows:Rows)(xs:γ GO):Prop:=∀(i:Nat)(g:G)(p:Pl),xs[i]?=AC (g,AC p)->b! rows g p=Ch/\∀(j:Nat)(h:G)(q:Pl),xs[j]?=AC (h,AC q)->j≠i->bN g p h q=Ch
theorem oF:openAt xs g k p=Ch↔∀(j:Nat) h q,xs[j]?=AC (h,AC q)->j≠k->bN g p h q=Ch:=by
 unfold openAt;rw[A30];constructor
 .intro h j hh q e hj;have hl:=(A04.mp e).1;have:=h j<|A32.mpr hl;simpa[ZT,e,hj]using this
 .intro h j hj;unfold ZT;by_cases hk:j=k
  .simp[hk]
  .cases e:xs[j]? with
   |none=>simp
   |some y=>
    let⟨hh,o⟩:=y;cases o with
    |none=>simp
    |some q=>simp[h j hh q e hk]
theorem Good.put(h:Good rows xs)(hk:xs[k]?=AC x)(hf:b! rows x.1 p=Ch)(ho:openAt xs x.1 k p=Ch):Good rows (xs.set k (x.1,AC p)):=by
 rw[oF]at ho;have hl:=(A04.mp hk).1;intro i g q e;rw[A31]at e;by_cases hi:k=i
 .subst hi;rw[f8 rfl,f8 hl]at e;cases e;refine⟨hf,λ j hh r ej hj=>?_⟩;rw[A31,P3 λ z=>hj z.symm]at ej;exact ho j hh r ej hj
 .rw[P3 hi]at e;let⟨h1,h2⟩:=h i g q e;refine⟨h1,λ j hh r ej hj=>?_⟩;rw[A31]at ej;by_cases Af:k=j
  .subst Af;rw[f8 rfl,f8 hl]at ej;cases ej;rw[yx];exact ho i g q e λ z=>hi z.symm
  .rw[P3 Af]at ej;exact h2 j hh r ej hj
theorem Good.sub{xs ys:γ GO}(h:Good rows xs)(hs:∀(i:Nat) g p,ys[i]?=AC (g,AC p)->xs[i]?=AC (g,AC p)):Good rows ys:=by intro i g p e;let⟨h1,h2⟩:=h i g p (hs i g p e);exact⟨h1,λ j hh q ej hj=>h2 j hh q (hs j hh q ej) hj⟩
theorem Good.keeps(h:Good rows xs):rG rows (jo xs)=Ch:=by
 rw[DF];constructor
 .intro y hy;let⟨i,hi⟩:=A76 (jk.mp hy);exact(h i y.1 y.2 hi).1
 .rw[uW,B75];intro i j hi hj oY p q ep eq;have e1:xs[i]?=AC (xs[i].1,AC p):=by rw[A01,<-ep]
  have e2:xs[j]?=AC (xs[j].1,AC q):=by rw[A01,<-eq]
  exact(h j _ q e2).2 i _ p e1 ∅
theorem nV(ps:γ Pl)(g:G){ss:γ GP}(hp:ps.length<=10000)(hs:ss.length<=6):eQ [.tup (ps.map bz),aS g,.lst (ss.map qD)]=.ok (.tup<|(ps.filter λ p=>ss.all λ x=>bN g p x.1 x.2).map bz):=by
 rw[xu];refine aT ?_;have hp':ps.length<=16777216:=by lia
 simp[lu,bV,iq,fK,hp'];refine dM bz (λ p=>ss.all λ x=>bN g p x.1 x.2) bz ?_ ?_
 .intro p hp;simp[Ly g p (xs:=ss) ∅]
 .rfl
theorem A4(hk:xs[k]?=AC x)(p:Pl):((jo<|xs.set k (x.1,At)).all λ y=>bN g p y.1 y.2)=openAt xs g k p:=by
 rw[A78,oF,A30];have hl:=(A04.mp hk).1;constructor
 .intro h j hh q e hj;have hm:(hh,AC q)∈xs.set k (x.1,At):=by refine A13 (i:=j) ?_;rw[A31,P3 λ z=>hj z.symm];exact e
  exact h (hh,q)<|jk.mpr hm
 .intro h y hy;let⟨j,e⟩:=A76 (jk.mp hy);rw[A31]at e;by_cases hj:k=j
  .rw[f8 hj]at e;subst hj;rw[f8 hl]at e;exact nomatch A10 Prod.snd (A06 e)
  .rw[P3 hj]at e;exact h j y.1 y.2 e λ z=>hj z.symm
theorem nY(h:p∈places rows C g):b! rows g p=Ch:=(A65.mp h).2
structure afM(g:G):Prop extends GrpG g where
 pos:∃(wt:Int)(ws:List Pl),ws.length<=6/\0<=wt/\(∀p∈ws,0<=p.2)/\g.worth=.int wt/\g.ki=.tup (ws.map bz)
end KH
set_option maxRecDepth 4000
namespace KB
open Z KG KH
def o?:SF:=(bj<|eB cb (eB bb (eW 0)<|eC<|.int 6)<|eU JC<|eL<|cM (iQ<|eB bb (eW 0)<|eC<|.int 7) 1 [1] (bA 0) (tE<|eB oEq (eB bb (eW 0)<|eC<|.int 0)<|eW 1)<|eB bb (eW 0)<|eC<|.int 1)
def j6:γ D->Res D:=fn 2 2 o?
theorem BV(x0 x1:D):j6 [x0,x1]=cu (o? [AC (.val x0),AC (.val x1)]):=c_ _ _ _ _ rfl
def o!:SF:=(bj<|eU JC<|eL<|cM (iQ<|aD KG.cz<|aa (eV 0)<|aa (eV 1) av) 2 [] (kq [0,1]) cF<|aD j6<|aa (eV 0)<|aa (eB bb (eW 1)<|eC<|.int 0) av)
def d6:γ D->Res D:=fn 2 2 o!
theorem BU(x0 x1:D):d6 [x0,x1]=cu (o! [AC (.val x0),AC (.val x1)]):=c_ _ _ _ _ rfl
def jM:SF:=(bH (bG 3<|YD (tE<|eU iW<|eW 2) (eB pW (br<|aa (eC .non) av)<|eU cQ<|eW 1)<|eV 2)<|bH (jR (gJ<|tE<|aD KG.my<|aa (eV 0)<|aa (eV 1)<|aa (eV 3) av) lY b7)<|bj<|eV 3)
def bP:γ D->Res D:=fn 3 4 jM
theorem ua(x0 x1 x2:D):bP [x0,x1,x2]=cu (jM [AC (.val x0),AC (.val x1),AC (.val x2),At]):=c_ _ _ _ _ rfl
def Et:SF:=(bH (bG 3<|eC<|.int 1)<|bH (u6 (NV (eV 1)<|aD bP<|aa (eV 0)<|aa (eV 1)<|aa (eV 2) av) (kq [4,5])<|jR (tE<|eU iW<|eW 5) (bG 3<|eB fC (eV 3)<|eB cb (eU cQ<|aD KG.fG<|aa (eV 0)<|aa (eV 4) av)<|eC<|.int 1) b7)<|bj<|eV 3)
def jl:γ D->Res D:=fn 3 6 Et
theorem N!(x0 x1 x2:D):jl [x0,x1,x2]=cu (Et [AC (.val x0),AC (.val x1),AC (.val x2),At,At,At]):=c_ _ _ _ _ rfl
def kz:SF:=(bH (bG 3<|aD jl<|aa (eV 0)<|aa (eV 1)<|aa (eV 2) av)<|bH (jR (tE<|eB HK (eW 3)<|eC<|.int 2000) lY b7)<|bj<|aD bP<|aa (eV 0)<|aa (eV 1)<|aa (eV 2) av)
def dR:γ D->Res D:=fn 3 4 kz
theorem vY(x0 x1 x2:D):dR [x0,x1,x2]=cu (kz [AC (.val x0),AC (.val x1),AC (.val x2),At]):=c_ _ _ _ _ rfl
def i!:SF:=(bH (bG 5<|aD KG.fG<|aa (eV 0)<|aa (eB bb (eW 1)<|eW 3) av)<|bH (A8 6<|bI av)<|bH (u6 (iQ<|eV 2) (bA 7)<|bH (bG 8<|aD KG.cz<|aa (eV 1)<|aa (eV 7) av)<|bH (Gy 6<|cM (iQ<|aD KH.eQ<|aa (eV 5)<|aa (eB bb (eW 1)<|eW 3)<|aa (eV 8) av) 1 [7,3] (bA 0) cF<|aD KH.cN<|aa (eV 1)<|aa (eV 2)<|aa (eV 0) av)<|jR (tE<|eV 4) (mX 6<|eV 7) b7)<|C7 6<|bj<|eV 6)
def fF:γ D->Res D:=fn 5 9 i!
theorem rY(x0 x1 x2 x3 x4:D):fF [x0,x1,x2,x3,x4]=cu (i! [AC (.val x0),AC (.val x1),AC (.val x2),AC (.val x3),AC (.val x4),At,At,At,At]):=c_ _ _ _ _ rfl
def i?:SF:=(bH (bG 4<|eL<|bI<|aa (eV 2) av)<|bH (u6 (iR<|eU cQ<|eW 1) (bA 5)<|jR (tE<|eU iW<|eB bb (eW 2)<|eW 5) (bG 4<|aD fF<|aa (eV 0)<|aa (eV 1)<|aa (eV 4)<|aa (eV 5)<|aa (eV 3) av) b7)<|bj<|eV 4)
def dS:γ D->Res D:=fn 4 6 i?
theorem rZ(x0 x1 x2 x3:D):dS [x0,x1,x2,x3]=cu (i? [AC (.val x0),AC (.val x1),AC (.val x2),AC (.val x3),At,At]):=c_ _ _ _ _ rfl
def hV:SF:=(bj<|zS Ch (.ok .non) (eW 1) [0]<|aD d6<|aa (eV 1)<|aa (eV 0) av)
def fU:γ D->Res D:=fn 2 2 hV
theorem n?(x0 x1:D):fU [x0,x1]=cu (hV [AC (.val x0),AC (.val x1)]):=c_ _ _ _ _ rfl
def iL:SF:=(bH (bG 3<|aD dR<|aa (eV 0)<|aa (eV 1)<|aa (eV 2) av)<|bj<|aD fU<|aa (eV 1)<|aa (aD dS<|aa (eV 0)<|aa (eV 1)<|aa (eV 3)<|aa (eC<|.bl AT) av) av)
def cA:γ D->Res D:=fn 3 4 iL
theorem v!(x0 x1 x2:D):cA [x0,x1,x2]=cu (iL [AC (.val x0),AC (.val x1),AC (.val x2),At]):=c_ _ _ _ _ rfl
end KB
set_option maxRecDepth 8000
namespace KB
open Z KG
open KH
theorem GD(H:Hall rows C)(xs:γ GO)(g:G)(k:Nat):(eF rows C xs g k).length<=10000:=A27 (B15 _ _)<|places_len H g
theorem RB(H:Hall rows C)(h6:xs.length<=6)(hg:∀x∈xs,GOk x.1)(hk:Good rows xs):KG.my [bZ rows,aF xs,aH xs]=.ok (.bl Ch):=by have:=J? H h6 hg;rw[hk.keeps]at this;exact this
theorem r9(H:Hall rows C)(h6:xs.length<=6)(hg:∀x∈xs,GOk x.1)(hk:Good rows xs):bP [bZ rows,aF xs,aH xs]=.ok (aH xs):=by rw[ua];refine aT ?_;have hN:iW (aH xs)=.ok _:=rfl;simp[jM,hN,RB H h6 hg hk]
def wtD:D->Int
|.int w=>w
|_=>0
def ZJ:D->Pl
|.tup [.int a,.int b]=>(a,b)
|_=>(0,0)
def wsD:D->γ Pl
|.tup ds=>ds.map ZJ
|_=>[]
def more(ws:γ Pl)(row:Int):Int:=((ws.filter λ p=>decide<|p.1=row).map (·.2)).sum
def P7(g:G)(row:Int):Int:=wtD g.worth+more (wsD g.ki) row
def wO(x:GO):Int:=match x.2 with
|none=>0
|some p=>P7 x.1 p.1
theorem Me(ws:γ Pl):wsD (.tup<|ws.map bz)=ws:=by show(ws.map bz).map ZJ=ws;rw[A36];have:(ZJ∘bz)=id:=funext λ p=>rfl;rw[this,List.map_id]
theorem Pc(ns:γ Int):JC (.lst<|ns.map D.int)=.ok (.int ns.sum):=by show(match AS _ with|some i=>Res.ok _|none=>.bad)=_;rw[xM]
theorem Av(h:GrpG g)(row:Int):j6 [aS g,.int row]=.ok (.int<|P7 g row):=by
 let⟨wt,ws,hl,e1,e2⟩:=h.YZ;rw[BV];refine aT ?_;have LW:ws.length<=16777216:=by lia
 have e3:P7 g row=wt+more ws row:=by unfold P7;rw[e1,e2,Me];rfl
 rw[e3];simp[o?,bV,iq,fK,e1,e2,LW];refine dM bz (λ p=>decide<|p.1=row) (λ p=>.int p.2) (λ p _=>?_) ?_
 .simp;rfl
 .rw[show(ws.filter λ p=>decide _).map (λ p=>D.int p.2)=((ws.filter λ p=>decide _).map _).map D.int from by rw[A36];rfl,Pc];simp[more]
theorem yR:∀xs,((jo xs).map λ y=>P7 y.1 y.2.1).sum=(xs.map wO).sum
|[]=>rfl
|(g,At)::xs=>by simp[jo,wO,yR xs]
|(g,AC p)::xs=>by simp[jo,wO,yR xs]
theorem Au{xs:γ GO}(h:xs.length<=6)(hg:∀x∈xs,GrpG x.1):d6 [.tup (xs.map λ x=>aS x.1),.tup (xs.map λ x=>cY x.2)]=.ok (.int (xs.map wO).sum):=by
 rw[BU];refine aT ?_;have et:=pD (xs:=xs) ∅;have Yi:=mW xs;have _n:(jo xs).length<=16777216:=by lia
 simp[o!,et,bV,_n];refine dM qD (λ _=>Ch) (λ y=>.int<|P7 y.1 y.2.1) (λ y hy=>?_) ?_
 .have:=Av (hg _<|jk.mp hy) y.2.1;have gX:∀ρ,kq [0,1] (qD y) ρ=.ok _:=λ ρ=>rfl;simp[this]
 .rw[r!,show(jo xs).map (λ y=>D.int _)=((jo xs).map λ y=>P7 y.1 y.2.1).map D.int from by rw[A36];rfl,Pc,yR];simp
theorem MH{xs:γ GO}:(xs.set k x).length=xs.length:=AC0
theorem uH{xs:γ GO}(h6:xs.length<=6){k:Nat}(hk:xs[k]?=AC (g,o))(p:Pl):KH.cN [aH xs,.int (k),bz p]=.ok (aH<|xs.set k (g,AC p))/\KH.mw [aH xs,.int (k),bz p]=.ok (aH<|xs.set k (g,AC p)):=by have hl:=(A04.mp hk).1;have h1:=wL (ds:=xs.map λ x=>cY x.2) (k:=k) (by simp;lia) (by simp;lia)<|bz p;have h2:=Mf (ds:=xs.map λ x=>cY x.2) (k:=k) (by simp;lia) (by simp;lia)<|bz p;rw[Hk];exact⟨h1,h2⟩
theorem IJ{C:Nat}(hr:∀x∈rows,x.length=C)(h:c9 rows s=AC c):0<=s.1/\s.1<rows.length/\0<=s.2/\s.2<C:=by
 unfold c9 at h;split at h
 .rename_i z;cases e:rows[s.1.toNat]? with
  |none=>rw[e]at h;cases h
  |some r=>rw[e]at h;have h:=h;have h1:=(A04.mp h).1;have h2:=(A04.mp e).1;have hl:=hr r<|A13 e;lia
 .cases h
theorem Ux(k:GOk g)(p:Pl):p∈seats g p:=by have hw:=k.w1;have hd:=k.d1;unfold seats kT jx;simp only[B16,A32,A05];exact⟨0,by lia,0,by lia,by simp⟩
theorem Ky(H:Hall rows C)(k:GOk g)(h:b! rows g p=Ch):p∈places rows C g:=by
 refine A65.mpr ⟨x?.mpr ?_,h⟩;unfold b! at h;rw[A35,A30]at h;have:=h.1 p<|Ux k p;cases e:c9 rows p with
 |none=>rw[e]at this;cases this
 |some c=>exact IJ H.len e
structure Ext(cs hs:List GO):Prop where
 gs:cs.map (·.1)=hs.map (·.1)
 sub:∀(i:Nat)(g:G)(p:Pl),cs[i]?=AC (g,AC p)->hs[i]?=AC (g,AC p)
theorem Ext.len(e:Ext cs hs):cs.length=hs.length:=by have:=A10 List.length e.gs;rwa [A17,A17]at this
theorem Ext.at(e:Ext cs hs){k:Nat}(h:cs[k]?=AC (g,o)):∃o',hs[k]?=AC (g,o')/\(∀p,o=AC p->o'=AC p):=by
 have hl:=(A04.mp h).1;rw[e.len]at hl;obtain⟨⟨g',o'⟩,e'⟩:∃x,hs[k]?=AC x:=⟨_,A01 hl⟩
 have z:=A10 (λ l=>l[k]?) e.gs;simp only[A08,h,e',A77,B32]at z;subst z;refine⟨o',e',λ p hp=>?_⟩;subst hp;have:=e.sub k g p h;rw[e']at this;exact(Prod.mk.inj<|A06 this).2
theorem zip_map{α:Type}(f h:α->D):∀xs:γ α,lP (xs.map f) (xs.map h)=xs.map λ x=>.tup [f x,h x]
|[]=>rfl
|x::xs=>by simp[lP,zip_map f h xs];rfl
open KH
def cZ:γ Nat->Nat
|[]=>1
|n::r=>n*cZ r
theorem je:∀a b,cZ (a++b)=cZ a*cZ b
|[],b=>by simp[cZ]
|n::a,b=>by simp[cZ,je a b,Nat.mul_assoc]
theorem xU:∀{l},(∀n∈l,0<n)->0<cZ l
|[],_=>Nat.one_pos
|n::l,h=>Nat.mul_pos (h n A18)<|xU λ m hm=>h m<|A11 _ hm
def fL(rows:Rows)(C:Nat)(x:GO):Nat:=match x.2 with
|none=>(places rows C x.1).length+1
|some _=>1
theorem Ay(rows:Rows)(C:Nat)(x:GO):0<fL rows C x:=by unfold fL;split<;>lia
def bD(rows:Rows)(C:Nat)(xs:γ GO):Nat:=cZ<|xs.map<|fL rows C
theorem Ih(xs:γ GO):0<cZ (xs.map<|fL rows C):=xU λ n hn=>by let⟨x,_,rfl⟩:=A05.mp hn;exact Ay rows C x
theorem Gf(xs:γ GO)(j:Nat):cZ ((xs.take j).map<|fL rows C)<=bD rows C xs:=by
 unfold bD;have e:xs.map (fL rows C)=(xs.take j).map (fL rows C)++(xs.drop j).map (fL rows C):=by rw[<-A63,C45]
 rw[e,je];exact Nat.le_mul_of_pos_right _<|Ih _
theorem qU{xs:γ GO}(h:xs[j]?=AC x):cZ ((xs.take<|j+1).map<|fL rows C)=cZ ((xs.take j).map<|fL rows C)*fL rows C x:=by rw[take_snoc h,A63,je];simp[cZ]
theorem uf(H:Hall rows C)(h6:xs.length<=6)(hg:∀x∈xs,GOk x.1)(ef:bP [bZ rows,aF xs,fd]=.ok (aH xs)):jl [bZ rows,aF xs,fd]=.ok (.int<|bD rows C xs):=by
 rw[N!];refine aT ?_;simp[Et,ef];unfold aF aH at *;simp[zip_map];refine mv (λ i ρ=>∃x4 x5,ρ=[v _,v _,v fd,vi (cZ<|(xs.take i).map<|fL rows C),x4,x5]) ⟨At,At,rfl⟩ ?_ ?_
 .rintro j d ρ hj ⟨x4,x5,rfl⟩;rw[A08]at hj;let⟨⟨g,o⟩,hx,rfl⟩:=C46.mp hj;have gX:∀ρ,kq [4,5] (.tup [aS g,cY o]) ρ=.ok _:=λ ρ=>rfl;rw[qU hx];generalize cZ _=m;cases o with
  |some p=>have en:iW (bz p)=.ok _:=rfl;simp[gX,cY,en,fL]
  |none=>have pl:=places_of_ok H<|hg _<|A13 hx;have fA:=places_len H g;rw[show fL rows C (g,At)=(places rows C g).length+1 from rfl];generalize places rows C g=ps at pl fA ⊢;have q1:eT (m) ((ps.length)+1):=nw<|Or.inl ⟨by lia,by lia⟩;simp[gX,cY,pl,q1]
 .rintro ρ ⟨x4,x5,rfl⟩;rw[A17,B60];simp[bD]
theorem A2(H:Hall rows C)(h6:xs.length<=6)(hg:∀x∈xs,GOk x.1)(ef:bP [bZ rows,aF xs,fd]=.ok (aH xs))(hw:bD rows C xs<=2000):dR [bZ rows,aF xs,fd]=.ok (aH xs):=by
 have ew:=uf H h6 hg ef;rw[vY];refine aT ?_;have:¬(2000:Int)<(bD rows C xs):=by lia
 simp[kz,ew,ef,this]
def kF(rows:Rows)(C:Nat)(sm:Bool)(g:G)(k:Nat)(cs:γ GO):γ (γ GO):=(eF rows C cs g k).map (λ p=>cs.set k (g,AC p))++if sm then[cs]else[]
theorem AX:(kF rows C sm g k cs).length<=(places rows C g).length+1:=by have:=B15 (openAt cs g k)<|places rows C g;unfold kF eF;cases sm<;>simp<;>lia
theorem vW{α β:Type}{f:α->γ β}:∀{L:γ α},(∀x∈L,(f x).length<=m)->(L.flatMap f).length<=L.length*m
|[],_=>by simp
|x::L,h=>by have:=vW λ y hy=>h y<|A11 _ hy;have hx:=h x A18;rw[wf,A55,A38,Nat.add_mul,A80];lia
theorem D6(h:cs.map (·.1)=xs.map (·.1)):aF cs=aF xs:=by have:=A10 (List.map aS) h;rw[A36,A36]at this;exact A10 D.tup this
theorem GC(H:Hall rows C){cs:γ GO}(h6:cs.length<=6){k:Nat}(hk:cs[k]?=AC (g,At)):KH.eQ [.tup ((places rows C g).map bz),aS g,.lst ((jo cs).map qD)]=.ok (.tup<|(eF rows C cs g k).map bz):=by
 have hl:=(A04.mp hk).1;have Yi:=mW cs;have ho:=nV _ g (ss:=jo cs) (places_len H g) ∅;have RP:cs.set k (g,At)=cs:=by have:=(A04.mp hk).2;rw[<-this];exact C47 hl
 have he:(places rows C g).filter (λ p=>(jo cs).all λ x=>bN g p x.1 x.2)=eF rows C cs g k:=by refine wT λ p _=>?_;have:=A4 (g:=g) hk p;simp only at this;rw[RP]at this;exact this
 rw[he]at ho;exact ho
theorem Bf(H:Hall rows C){xs:γ GO}(h6:xs.length<=6)(hg:∀x∈xs,GOk x.1){k:Nat}{g:G}(hk:xs[k]?=AC (g,At))(sm:Bool){L:γ (γ GO)}(hL:∀cs∈L,cs.map (·.1)=xs.map (·.1)/\cs[k]?=AC (g,At))(hB:L.length*((places rows C g).length+1)<=1000000):
 fF [bZ rows,aF xs,.lst (L.map aH),.int (k:Nat),.bl sm]=.ok (.lst<|(L.flatMap<|kF rows C sm g k).map aH):=by
 rw[rY];refine aT ?_;have ixg:bb (aF xs) (.int (k:Nat))=.ok (aS g):=(jb (xs:=xs.map λ y:GO=>aS y.1) (i:=k) (j:=k) rfl (by rw[A08,hk];rfl)).1;have pl:=places_of_ok H<|hg _<|A13 hk;simp[i!,ixg,pl,line];refine mv (λ i ρ=>∃x7 x8,ρ=[v (bZ rows),v (aF xs),v (.lst<|L.map aH),vi (k:Nat),v (.bl sm),v (.tup<|(places rows C g).map bz),ow (((L.take i).flatMap<|kF rows C sm g k).map aH),x7,x8]) ⟨At,At,by simp⟩ ?_ ?_
 .rintro i d ρ hi ⟨x7,x8,rfl⟩;rw[A08]at hi;let⟨cs,FE,rfl⟩:=C46.mp hi;let⟨e1,e2⟩:=hL cs (A13 FE);have kR:cs.length<=6:=by have:=A10 List.length e1;rw[A17,A17]at this;lia
  have ht:=pD (xs:=cs) ∅;rw[show D.tup (cs.map λ x=>aS x.1)=aF cs from rfl,show D.tup (cs.map λ x=>cY x.2)=aH cs from rfl,D6 e1]at ht;have ho:=GC H kR e2;have HU:i<L.length:=(A04.mp FE).1;have LX:((L.take i).flatMap<|kF rows C sm g k).length<=(L.take i).length*((places rows C g).length+1):=vW λ x _=>AX;rw[A26,B67<|A70 HU]at LX;have aeH:i*((places rows C g).length+1)+((places rows C g).length+1)<=L.length*((places rows C g).length+1):=by rw[<-C27];exact B77 _ HU
  rw[take_snoc FE,lc];generalize (L.take i).flatMap (kF rows C sm g k)=fs at LX;have _u:=B15 (openAt cs g k)<|places rows C g;have RV:(eF rows C cs g k).length<=(places rows C g).length:=_u;have HQ:(eF rows C cs g k).length<=16777216:=by lia
  have ho3:fs.length+(eF rows C cs g k).length<=16777216:=by lia
  have ho4:fs.length+(eF rows C cs g k).length<16777216:=by lia
  simp[ht,ixg,ho,bV,iq,fK,line,HQ];refine dM bz (λ _=>Ch) (λ p=>aH<|cs.set k (g,AC p)) (λ p hp=>?_) ?_
  .simp[(uH kR e2 p).1]
  .rw[r!];cases sm with
   |true=>simp[line,ho3,ho4,kF]
   |false=>simp[line,ho3,kF]
 .rintro ρ ⟨x7,x8,rfl⟩;rw[A17,B60];simp
open KH
def b9(rows:Rows)(C:Nat)(sm:Bool)(xs:γ GO):Nat->γ (γ GO)
|0=>[xs]
|j+1=>match xs[j]? with
 |some (g,At)=>(b9 rows C sm xs j).flatMap<|kF rows C sm g j
 |_=>b9 rows C sm xs j
section
variable{rows:Rows}{C:Nat}{sm:Bool}{xs:γ GO}
theorem jw{j:Nat}(h:xs[j]?=AC (g,At)):b9 rows C sm xs (j+1)=(b9 rows C sm xs j).flatMap (kF rows C sm g j):=by simp only[b9,h]
theorem jv{j:Nat}(h:xs[j]?=AC (g,AC p)):b9 rows C sm xs (j+1)=b9 rows C sm xs j:=by simp only[b9,h]
theorem xP:∀{j},j<=xs.length->(b9 rows C sm xs j).length<=cZ ((xs.take j).map<|fL rows C)
|0,_=>by simp[b9,cZ]
|j+1,hj=>by
 have ih:=xP (j:=j) ∅;obtain⟨⟨g,o⟩,e⟩:∃x,xs[j]?=AC x:=⟨_,A01 ∅⟩
 rw[qU e];cases o with
 |some p=>rw[jv e,show fL rows C (g,AC p)=1 from rfl,Nat.mul_one];exact ih
 |none=>rw[jw e];exact A27 (vW λ x _=>AX)<|B77 _ ih
structure F'(rows:Rows)(sm:Bool)(xs:List GO)(j:Nat)(z:List GO):Prop where
 gs:z.map (·.1)=xs.map (·.1)
 rest:∀i:Nat,j<=i->z[i]?=xs[i]?
 ext:Ext xs z
 good:Good rows z
 full:sm=AT->∀(i:Nat)(g:G),i<j->z[i]?≠AC (g,At)
theorem Mv{j:Nat}(e:xs[j]?=AC (g,At))(h:F' rows sm xs j z)(hy:y∈kF rows C sm g j z):F' rows sm xs (j+1) y:=by
 have hz:=(h.rest j<|v6 _).trans e;have hl:=(A04.mp hz).1;rcases A53.mp hy with hy|hy
 .let⟨p,hp,rfl⟩:=A05.mp hy;let⟨h1,h2⟩:=A65.mp hp;have gs:(z.set j (g,AC p)).map (·.1)=xs.map (·.1):=by
   rw[<-h.gs];refine B17 λ i=>?_;rw[A08,A08,A31];split
   .rename_i ei;subst ei;rw[hz];rfl
   .rfl
  refine⟨gs,λ i hi=>?_,⟨gs.symm,λ i g' q ei=>?_⟩,h.good.put hz (KH.nY h1) h2,λ hs i g' hi=>?_⟩
  .rw[A31,P3 ∅];exact h.rest i ∅
  .have:=h.ext.sub i g' q ei;rw[A31];split
   .rename_i ej;subst ej;rw[hz]at this;cases this
   .exact this
  .rw[A31];split
   .rename_i ej;subst ej;intro q;cases q
   .exact h.full hs i g' ∅
 .cases sm with
  |false=>simp at hy
  |true=>
   have:y=z:=by simpa using hy
   subst this;exact⟨h.gs,λ i hi=>h.rest i ∅,h.ext,h.good,λ hs=>nomatch hs⟩
theorem pI(hk:Good rows xs):∀{j},j<=xs.length->∀z∈b9 rows C sm xs j,F' rows sm xs j z
|0,_,z,hz=>by
 have:z=xs:=by simpa[b9]using hz
 subst this;exact⟨rfl,λ _ _=>rfl,⟨rfl,λ _ _ _ e=>e⟩,hk,λ _ i g hi=>absurd hi<|Nat.not_lt_zero _⟩
|j+1,hj,z,hz=>by
 obtain⟨⟨g,o⟩,e⟩:∃x,xs[j]?=AC x:=⟨_,A01 ∅⟩
 have ih:=pI hk (j:=j) ∅;cases o with
 |some p=>
  rw[jv e]at hz;have h:=ih z hz;refine⟨h.gs,λ i hi=>h.rest i ∅,h.ext,h.good,λ hs i g' hi=>?_⟩;by_cases oY:i=j
  .subst oY;rw[h.rest i<|v6 _,e];intro q;cases q
  .exact h.full hs i g' ∅
 |none=>rw[jw e]at hz;let⟨y,hy,hzy⟩:=B16.mp hz;exact Mv e (ih y hy) hzy
theorem A6(H:Hall rows C)(hg:∀x∈xs,GOk x.1)(e:Ext xs z)(hz:Good rows z)(hs:sm=Ch\/∀(i:Nat) g,z[i]?≠AC (g,At)):∀{j},j<=xs.length->z.take j++xs.drop j∈b9 rows C sm xs j
|0,_=>by simp[b9]
|j+1,hj=>by
 have ih:=A6 H hg e hz hs (j:=j) ∅;have _g:=e.len;obtain⟨⟨g,o⟩,ex⟩:∃x,xs[j]?=AC x:=⟨_,A01 ∅⟩
 let⟨o',ez,ho⟩:=e.at ex;have hjl:j<xs.length:=by lia
 have hjz:j<z.length:=by lia
 have d1:xs.drop j=(g,o)::xs.drop (j+1):=by rw[A90 hjl];rw[A01 hjl]at ex;rw[A06 ex]
 have t1:=take_snoc ez;have tl:(z.take j).length=j:=by rw[A26];lia
 cases o with
 |some p=>rw[ho p rfl]at t1;rw[jv ex,t1,B54];rw[d1]at ih;exact ih
 |none=>
  rw[jw ex];refine B16.mpr ⟨_,ih,?_⟩;rw[d1];cases o' with
  |none=>
   rcases hs with rfl|hs
   .refine A43 _ ?_;rw[t1,B54];simp
   .exact absurd ez<|hs j g
  |some p=>
   refine A98 _<|A05.mpr ⟨p,?_,?_⟩
   .let⟨f,ap⟩:=hz j g p ez;refine A65.mpr ⟨Ky H (hg _<|A13 ex) f,oF.mpr λ i g' q ei ne=>?_⟩;rw[<-d1]at ei;refine ap i g' q ?_ ne;by_cases hi:i<j
    .rw[A25 (by rw[tl];exact hi),B20 hi]at ei;exact ei
    .rw[A44 (by rw[tl];lia),List.getElem?_drop,tl,show j+(i-j)=i by lia]at ei;exact e.sub i g' q ei
   .rw[t1,B54,C29 _ _ (by rw[tl];exact v6 _),tl,Nat.sub_self];rfl
theorem u0(H:Hall rows C)(hg:∀x∈xs,GOk x.1)(e:Ext xs z)(hz:Good rows z)(hs:sm=Ch\/∀(i:Nat) g,z[i]?≠AC (g,At)):z∈b9 rows C sm xs xs.length:=by have:=A6 H hg e hz hs<|v6 _;rw[B50,A54,e.len,B60]at this;rw[e.len];exact this
theorem FJ(H:Hall rows C)(h6:xs.length<=6)(hg:∀x∈xs,GOk x.1)(hk:Good rows xs)(hw:bD rows C xs<=2000):dS [bZ rows,aF xs,aH xs,.bl sm]=.ok (.lst<|(b9 rows C sm xs xs.length).map aH):=by
 rw[rZ];refine aT ?_;have hl:cQ (aF xs)=.ok (.int xs.length):=by simp[aF]
 simp[i?,hl,line];refine mv (λ i ρ=>∃x5,ρ=[v (bZ rows),v (aF xs),v (aH xs),v (.bl sm),v (.lst<|(b9 rows C sm xs i).map aH),x5]) ⟨At,rfl⟩ ?_ ?_
 .rintro j d ρ hj ⟨x5,rfl⟩;let⟨Af,rfl⟩:=ints_get hj;obtain⟨⟨g,o⟩,e⟩:∃x,xs[j]?=AC x:=⟨_,A01 Af⟩
  have ix:bb (aH xs) (.int<|j)=.ok (cY o):=(jb rfl (by rw[A08,e];rfl)).1;cases o with
  |some p=>have en:iW (bz p)=.ok (.bl AT):=rfl;rw[jv e];simp[ix,cY,en]
  |none=>
   have hi:=pI (C:=C) (sm:=sm) hk (j:=j) ∅;have ψ:=xP (rows:=rows) (C:=C) (sm:=sm) (xs:=xs) (j:=j) ∅;have h1:=Gf (rows:=rows) (C:=C) xs<|j+1;rw[qU e,show fL rows C (g,At)=(places rows C g).length+1 from rfl]at h1;have hB:(b9 rows C sm xs j).length*((places rows C g).length+1)<=1000000:=by have:=B77 ((places rows C g).length+1) ψ;lia
   have om:=Bf H h6 hg e sm (L:=b9 rows C sm xs j) (λ cs FE=>⟨(hi cs FE).gs,((hi cs FE).rest j<|v6 _).trans e⟩) hB;rw[jw e];simp[ix,cY,om]
 .rintro ρ ⟨x5,rfl⟩;rw[mj];simp
def cw{α:Type}(mx:Bool)(w:α->Int)(b:α):γ α->α
|[]=>b
|x::r=>if HX mx (w x) (w b)=Ch then cw mx w x r else cw mx w b r
theorem pO{enc:α->D}:∀r b,(∀x∈r,e (enc x)=.ok (w x))->Kq mx e (enc b) (w b) (r.map enc)=.ok (enc<|cw mx w b r)
|[],b,_=>rfl
|x::r,b,h=>by
 have hx:=h x A18;have hr:=λ y hy=>h y<|A11 _ hy;rw[A12];unfold Kq cw;rw[hx];simp only[Res.f7];split
 .exact pO r x hr
 .exact pO r b hr
theorem mZ{w:α->Int}:∀r b,cw mx w b r=b\/cw mx w b r∈r
|[],b=>.inl rfl
|x::r,b=>by
 unfold cw;split
 .rcases mZ r x with h|h
  .rw[h];exact .inr A18
  .exact .inr<|A11 _ h
 .rcases mZ r b with h|h
  .exact .inl h
  .exact .inr<|A11 _ h
theorem kJ{w:α->Int}:∀r b,w b<=w (cw Ch w b r)/\∀x∈r,w x<=w (cw Ch w b r)
|[],b=>⟨Int.le_refl _,λ x h=>by cases h⟩
|x::r,b=>by
 unfold cw;by_cases hb:HX Ch (w x) (w b)=Ch
 .rw[f8 hb];let⟨h1,h2⟩:=kJ (w:=w) r x;have:w b<w x:=by simpa[HX]using hb
  exact⟨by lia,λ y hy=>by
   rcases A00.mp hy with rfl|hy
   .exact h1
   .exact h2 y hy⟩
 .rw[P3 hb];let⟨h1,h2⟩:=kJ (w:=w) r b;have:w x<=w b:=by simpa[HX]using hb
  exact⟨h1,λ y hy=>by
   rcases A00.mp hy with rfl|hy
   .lia
   .exact h2 y hy⟩
def wS(z:γ GO):Int:=(z.map wO).sum
theorem R!{z:γ GO}(hg:∀x∈xs,GrpG x.1)(h:z.map (·.1)=xs.map (·.1)):∀x∈z,GrpG x.1:=λ x hx=>by
 have:x.1∈xs.map (·.1):=by rw[<-h];exact A05.mpr ⟨x,hx,rfl⟩
 let⟨y,hy,e⟩:=A05.mp this;rw[<-e];exact hg y hy
theorem zt{z:γ GO}(h:z.map (·.1)=xs.map (·.1)):z.length=xs.length:=by have:=A10 List.length h;rwa [A17,A17]at this
theorem CI(h6:xs.length<=6)(hg:∀x∈xs,GrpG x.1)(h:z.map (·.1)=xs.map (·.1)):d6 [aF xs,aH z]=.ok (.int<|wS z):=by have:=Au (by rw[zt h];exact h6)<|R! hg h;rw[show D.tup _=aF z from rfl,D6 h]at this;exact this
theorem Lv(h6:xs.length<=6)(hg:∀x∈xs,GrpG x.1)(hL:∀z∈b::r,z.map (·.1)=xs.map (·.1)):fU [aF xs,.lst ((b::r).map aH)]=.ok (aH<|cw Ch wS b r):=by
 rw[n?];refine aT ?_;have ke:∀z∈b::r,w_ (aD d6<|aa (eV 1)<|aa (eV 0) av) [v (aF xs)] (aH z)=.ok (wS z):=λ z hz=>by refine J! ?_;simp[CI h6 hg<|hL z hz]
 have pk:=pO (mx:=Ch) r b λ z hz=>ke z<|A11 _ hz;have kb:=ke b A18;have e:zS Ch (.ok .non) (eW 1) [0] (aD d6<|aa (eV 1)<|aa (eV 0) av) [v (aF xs),v (.lst<|(b::r).map aH)]=.ok (aH<|cw Ch wS b r):=by show pickK Ch (.ok .non) (w_ _ [v _]) (aH b::r.map aH)=_;unfold pickK;dsimp only;rw[kb];exact pk
 simp only[A12]at e;simp[hV,e]
theorem HC:fU [aF xs,.lst []]=.ok .non:=by rw[n?];refine aT ?_;have e:zS Ch _ (eW 1) [0] (aD d6<|aa (eV 1)<|aa (eV 0) av) [v (aF xs),v (.lst [])]=.ok .non:=rfl;simp[hV,e]
end
open KH
open KH
open KH
open KH
def ltO:ε Pl->ε Pl->Prop
|some p,AC q=>J5 p q
|some _,At=>True
|_,_=>False
def Tj(a b:γ GO):Prop:=∃(i:Nat)(g:G)(o o':ε Pl),(∀j,j<i->a[j]?=b[j]?)/\a[i]?=AC (g,o)/\b[i]?=AC (g,o')/\ltO o o'
theorem Fp(p:Pl):¬J5 p p:=by unfold J5;lia
theorem Rp(h:ltO o o'):o≠o':=by
 rintro rfl;cases o with
 |none=>exact h
 |some p=>exact Fp p h
section
variable{C:Nat}{sm:Bool}
theorem za(cs:γ GO)(g:G)(k:Nat):(eF rows C cs g k).Pairwise J5:=(wU rows C g).filter _
theorem AW{cs:γ GO}{k:Nat}(hk:cs[k]?=AC (g,At)):(kF rows C sm g k cs).Pairwise Tj:=by
 have hl:=(A04.mp hk).1;have at_:∀p,(cs.set k (g,AC p))[k]?=AC (g,AC p):=λ p=>by rw[A31,f8 rfl,f8 hl]
 have off:∀p j,j<k->(cs.set k (g,AC p))[j]?=cs[j]?:=λ p j hj=>by rw[A31,P3 ∅]
 refine List.pairwise_append.mpr ⟨?_,?_,?_⟩
 .rw[B40];exact(za cs g k).imp λ {p q} h=>⟨k,g,_,_,λ j hj=>by rw[off p j hj,off q j hj],at_ p,at_ q,h⟩
 .cases sm<;>simp
 .intro a ha b hb;let⟨p,_,rfl⟩:=A05.mp ha;cases sm with
  |false=>simp at hb
  |true=>
   have:b=cs:=by simpa using hb
   subst this;exact⟨k,g,_,At,λ j hj=>off p j hj,at_ p,hk,trivial⟩
theorem step_at(h:y∈kF rows C sm g k cs)(j:Nat)(hj:j≠k):y[j]?=cs[j]?:=by
 rcases A53.mp h with h|h
 .let⟨p,_,rfl⟩:=A05.mp h;rw[A31,P3<|A07 hj]
 .cases sm with
  |false=>simp at h
  |true=>
   have:y=cs:=by simpa using h
   rw[this]
theorem sG(hk:Good rows xs):∀{j},j<=xs.length->(b9 rows C sm xs j).Pairwise Tj
|0,_=>by simp[b9]
|j+1,hj=>by
 have ih:=sG hk (j:=j) ∅;have hi:=pI (C:=C) (sm:=sm) hk (j:=j) ∅;obtain⟨⟨g,o⟩,e⟩:∃x,xs[j]?=AC x:=⟨_,A01 ∅⟩
 cases o with
 |some p=>rw[jv e];exact ih
 |none=>
  rw[jw e];refine List.pairwise_flatMap.mpr ⟨λ a ha=>AW<|((hi a ha).rest j<|v6 _).trans e,C48 ?_ ih⟩;rintro a b ha hb ⟨i,g',o,o',h1,h2,h3,h4⟩ x hx y hy;have oY:i<j:=by refine Nat.lt_of_not_le λ z=>?_;have e1:=(hi a ha).rest i z;have e2:=(hi b hb).rest i z;rw[h2]at e1;rw[h3,<-e1]at e2;exact Rp h4 (Prod.mk.inj<|A06 e2).2.symm
  refine⟨i,g',o,o',λ m hm=>?_,?_,?_,h4⟩
  .rw[step_at hx m ∅,step_at hy m ∅];exact h1 m hm
  .rw[step_at hx i ∅];exact h2
  .rw[step_at hy i ∅];exact h3
end
open Classical in
noncomputable def p5(le:Bool):γ Pl->γ Pl->Bool
|[],[]=>le
|[],_::_=>Ch
|_::_,[]=>AT
|p::ps,q::qs=>if p=q then p5 le ps qs else decide (J5 p q)
def nS(z:γ GO):γ Pl:=z.filterMap (·.2)
def Full(z:γ GO):Prop:=∀(i:Nat)(g:G),z[i]?≠AC (g,At)
theorem FI(h:Full (x::z)):(∃p,x.2=AC p)/\Full z:=by
 refine⟨?_,λ i g e=>h (i+1) g (by simpa using e)⟩;let⟨g,o⟩:=x;cases o with
 |none=>exact absurd rfl<|h 0 g
 |some p=>exact⟨p,rfl⟩
open Classical in
theorem Nw(le:Bool):∀{a b},Full a->Full b->Tj a b->p5 le (nS a) (nS b)=Ch/\p5 le (nS b) (nS a)=AT
|[],b,_,_,⟨i,g,o,o',_,h,_⟩=>by simp at h
|_::_,[],_,_,⟨i,g,o,o',_,_,h,_⟩=>by simp at h
|(ga,oa)::a,(gb,ob)::b,fa,fb,⟨i,g,o,o',h1,h2,h3,h4⟩=>by
 let⟨⟨p,e1⟩,fa'⟩:=FI fa;let⟨⟨q,e2⟩,fb'⟩:=FI fb;cases e1;cases e2;have ea:nS ((ga,AC p)::a)=p::nS a:=by simp[nS]
 have eb:nS ((gb,AC q)::b)=q::nS b:=by simp[nS]
 rw[ea,eb];cases i with
 |zero=>
  simp at h2 h3;let⟨rfl,rfl⟩:=h2;let⟨_,rfl⟩:=h3;have _t:J5 p q:=h4;have ne:p≠q:=λ z=>Fp q<|z▸_t;have nq:¬J5 q p:=by unfold J5 at _t ⊢;lia
  simp[p5,ne,A07 ne,_t,nq]
 |succ i=>have h0:=h1 0<|Nat.succ_pos _;simp at h0;let⟨rfl,rfl⟩:=h0;let⟨r1,r2⟩:=Nw le fa' fb' ⟨i,g,o,o',λ j hj=>by simpa using h1 (j+1) ∅,by simpa using h2,by simpa using h3,h4⟩;simp only[p5,A23];exact⟨r1,r2⟩
theorem N9(h:F' rows AT xs xs.length z):Full z:=λ i g e=>by have hl:=(A04.mp e).1;rw[zt h.gs]at hl;exact h.full rfl i g hl e
open KH
theorem oE(w:α->Int):∀r b,∃t,(b::r).filter (λ z=>decide<|w z=w (cw Ch w b r))=cw Ch w b r::t
|[],b=>⟨[],by simp[cw]⟩
|x::r,b=>by
 unfold cw;by_cases hb:HX Ch (w x) (w b)=Ch
 .rw[f8 hb];let⟨t,e⟩:=oE w r x;have h1:=(kJ (w:=w) r x).1;have qR:w b<w x:=by simpa[HX]using hb
  have:¬w b=w (cw Ch w x r):=by lia
  exact⟨t,by rw[B41 (by simpa using this)];exact e⟩
 .rw[P3 hb];let⟨t,e⟩:=oE w r b;have h1:=(kJ (w:=w) r b).1;have hle:w x<=w b:=by simpa[HX]using hb
  by_cases he:w b=w (cw Ch w b r)
  .rw[C44 (by simpa using he)]at e ⊢;injection e with e1 e2
   exact⟨_,by rw[<-e1]⟩
  .rw[B41 (by simpa using he)]at e;have hx:¬w x=w (cw Ch w b r):=by lia
   exact⟨t,by rw[B41 (by simpa using he),B41 (by simpa using hx)];exact e⟩
theorem yz(H:Hall rows C)(h6:xs.length<=6)(hg:∀x∈xs,GrpG x.1)(hk:Good rows xs)(hw:bD rows C xs<=2000)(ef:bP [bZ rows,aF xs,fd]=.ok (aH xs)):
 cA [bZ rows,aF xs,fd]=.ok (match b9 rows C AT xs xs.length with|[]=>.non|b::r=>aH<|cw Ch wS b r):=by
 have DX:=λ x hx=>(hg x hx).toGOk;have hi:=pI (C:=C) (sm:=AT) hk<|v6 _;have fr:=FJ (sm:=AT) H h6 DX hk hw;have sm:=A2 H h6 DX ef hw;rw[v!];refine aT ?_;cases e:b9 rows C AT xs _ with
 |nil=>rw[e]at fr;simp only[A68]at fr;simp[iL,sm,fr,HC]
 |cons b r=>rw[e]at hi fr;have am:=Lv h6 hg λ z hz=>(hi z hz).gs;simp only[A12]at am fr;simp[iL,sm,fr,am]
theorem C_(so:(b::r).Pairwise Tj):∀z∈b::r,wS z=wS (cw Ch wS b r)->z=cw Ch wS b r\/Tj (cw Ch wS b r) z:=by
 let⟨t,ht⟩:=oE wS r b;intro z hz he;have so2:=so.filter λ z=>decide<|wS z=wS (cw Ch wS b r);have hm:z∈(b::r).filter (λ z=>decide<|wS z=wS _):=A65.mpr ⟨hz,by simpa using he⟩;rw[ht]at so2 hm;rcases A00.mp hm with h|h
 .exact .inl h
 .exact .inr<|(C28.mp so2).1 z h
structure nM(rows:Rows)(C:Nat)(xs m:List GO):Prop where
 ext:Ext xs m
 good:Good rows m
 full:Full m
 most:∀z,Ext xs z->Good rows z->Full z->wS z<=wS m/\(wS z=wS m->z=m\/Tj m z)
theorem BQ(H:Hall rows C)(hg:∀x∈xs,GOk x.1)(e:Ext xs z)(gz:Good rows z)(fz:Full z):z∈b9 rows C AT xs xs.length:=u0 H hg e gz<|.inr fz
theorem F6(H:Hall rows C)(hg:∀x∈xs,GOk x.1)(hk:Good rows xs)(e:b9 rows C AT xs xs.length=b::r):nM rows C xs (cw Ch wS b r):=by
 have hi:=pI (C:=C) (sm:=AT) hk<|v6 _;have so:=sG (C:=C) (sm:=AT) hk<|v6 _;rw[e]at hi so;have RX:cw Ch wS b r∈b::r:=by
  rcases mZ r b with h|h
  .rw[h];exact A18
  .exact A11 _ h
 let⟨h1,h2⟩:=kJ (w:=wS) r b;refine⟨(hi _ RX).ext,(hi _ RX).good,N9<|hi _ RX,λ z ez gz fz=>?_⟩;have hz:=BQ H hg ez gz fz;rw[e]at hz;refine⟨?_,C_ so z hz⟩;rcases A00.mp hz with rfl|h
 .exact h1
 .exact h2 z h
end KB
set_option maxRecDepth 4000
namespace KC
open Z KG KH KB
def iv:SF:=(bj<|o5 (eU (kL .int)<|eW 0)<|K6<|eU (kL .bool)<|eW 0)
def fg:γ D->Res D:=fn 1 1 iv
def cE:SF:=(bj<|o5 (aD fg<|aa (eV 0) av)<|i8 oLe oLe (eW 1) (eW 0)<|eW 2)
def bu:γ D->Res D:=fn 3 3 cE
def hU:SF:=(bH (bG 3<|aD KB.dS<|aa (eV 0)<|aa (eV 1)<|aa (aD KB.dR<|aa (eV 0)<|aa (eV 1)<|aa (eV 2) av)<|aa (eC<|.bl AT) av)<|bj<|YD (tE<|eB HK (eU cQ<|eW 3)<|eC<|.int 0) (eB bb (eW 3)<|eC<|.int 0)<|eC .non)
def f_:γ D->Res D:=fn 3 4 hU
theorem t_(x0 x1 x2:D):f_ [x0,x1,x2]=cu (hU [AC (.val x0),AC (.val x1),AC (.val x2),At]):=c_ _ _ _ _ rfl
def ly:SF:=(bj<|eL<|cM (iQ<|eW 1) 1 [0] (bA 0) cF<|aD KG.fG<|aa (eV 1)<|aa (eV 0) av)
def iF:γ D->Res D:=fn 2 2 ly
theorem xv(x0 x1:D):iF [x0,x1]=cu (ly [AC (.val x0),AC (.val x1)]):=c_ _ _ _ _ rfl
def o_:SF:=(bj<|aD KH.eQ<|aa (eB bb (eW 1)<|eW 3)<|aa (eB bb (eW 0)<|eW 3)<|aa (aD KG.cz<|aa (eV 0)<|aa (eV 2) av) av)
def c7:γ D->Res D:=fn 4 4 o_
theorem BW(x0 x1 x2 x3:D):c7 [x0,x1,x2,x3]=cu (o_ [AC (.val x0),AC (.val x1),AC (.val x2),AC (.val x3)]):=c_ _ _ _ _ rfl
def fm(self:γ D->Res D):SF:=(bH (bG 3<|eL<|cM (iR<|eU cQ<|eW 0) 1 [2] (bA 0) (tE<|eU iW<|eB bb (eW 1)<|eW 0)<|eV 0)<|bH (bG 4<|zS AT .bad (eW 3) [0,1,2]<|eU cQ<|aD c7<|aa (eV 1)<|aa (eV 2)<|aa (eV 3)<|aa (eV 0) av)<|bH (bG 5<|aD c7<|aa (eV 0)<|aa (eV 1)<|aa (eV 2)<|aa (eV 4) av)<|bH (jR (tE<|eB oEq (eW 5)<|br av) (bj<|br<|aa (eC<|.str [115,116,117,99,107])<|aa (eV 4) av) b7)<|bH (bG 6<|eL<|cM (iQ<|eW 5) 1 [0,1,2,4] (bA 0) cF<|aD self<|aa (eV 1)<|aa (eV 2)<|aa (aD KH.cN<|aa (eV 3)<|aa (eV 4)<|aa (eV 0) av) av)<|bj<|br<|aa (eC<|.str [101,97,99,104])<|aa (eV 4)<|aa (eU kZ<|eW 6) av)
def bO:Nat->γ D->Res D
|0=>λ _=>.bad
|k+1=>fn 3 7<|fm<|bO k
theorem lE(k:Nat)(x0 x1 x2:D):bO (k+1) [x0,x1,x2]=cu (fm (bO k) [AC (.val x0),AC (.val x1),AC (.val x2),At,At,At,At]):=c_ _ _ _ _ rfl
def lr:SF:=(bH (jR (tE<|eU l8<|aD f_<|aa (eV 0)<|aa (eV 1)<|aa (eV 2) av) (bj<|eC .non) b7)<|bj<|aD (bO 9)<|aa (eV 1)<|aa (aD iF<|aa (eV 0)<|aa (eV 1) av)<|aa (aD KB.bP<|aa (eV 0)<|aa (eV 1)<|aa (eV 2) av) av)
def gy:γ D->Res D:=fn 3 3 lr
theorem sT(x0 x1 x2:D):gy [x0,x1,x2]=cu (lr [AC (.val x0),AC (.val x1),AC (.val x2)]):=c_ _ _ _ _ rfl
end KC
set_option maxRecDepth 8000
namespace KC
open Z KG KB
open KH
def Qm:γ Nat:=[115,116,117,99,107]
def WB:γ Nat:=[101,97,99,104]
def MY(_:Rows)(_ _:Nat)(_:γ GO)(_:D):Bool:=Ch
def dB(rows:Rows)(C:Nat)(xs:γ GO):D:=.lst<|xs.map λ x=>.tup<|(places rows C x.1).map bz
theorem AZ{rows:Rows}{C:Nat}(H:Hall rows C){xs:γ GO}(h6:xs.length<=6){k:Nat}{g:G}(hk:xs[k]?=AC (g,At)):c7 [aF xs,dB rows C xs,aH xs,.int (k:Nat)]=.ok (.tup<|(eF rows C xs g k).map bz):=by
 rw[BW];refine aT ?_;have hl:k<xs.length:=(A04.mp hk).1;have i1:bb (dB rows C xs) (.int (k:Nat))=.ok (.tup<|(places rows C g).map bz):=(jb (xs:=xs.map λ y:GO=>D.tup ((places rows C y.1).map bz)) (i:=(k:Nat)) (j:=k) rfl (by rw[A08,hk];rfl)).2;have i2:bb (aF xs) (.int (k:Nat))=.ok (aS g):=(jb (xs:=xs.map λ y:GO=>aS y.1) (i:=(k:Nat)) (j:=k) rfl (by rw[A08,hk];rfl)).1;have ht:=pD (xs:=xs) ∅;rw[show D.tup (xs.map λ x=>aS x.1)=aF xs from rfl,show D.tup (xs.map λ x=>cY x.2)=aH xs from rfl]at ht;have Yi:=mW xs;have ho:=nV (places rows C g) g (ss:=jo xs) (places_len H g) ∅;have RP:xs.set k (g,At)=xs:=by have:xs[k]=(g,At):=(A04.mp hk).2;rw[<-this];exact C47 hl
 have he:(places rows C g).filter (λ p=>(jo xs).all λ x=>bN g p x.1 x.2)=eF rows C xs g k:=by unfold eF;refine wT λ p _=>?_;have:=A4 (g:=g) hk p;simp only at this;rw[RP]at this;exact this
 rw[he]at ho;simp[o_,i1,i2,ht,ho]
def nN(xs:γ GO):Nat:=xs.countP λ x=>x.2.isNone
theorem JL:∀{xs:γ GO}{k:Nat}{g} p,xs[k]?=AC (g,At)->nN (xs.set k (g,AC p))+1=nN xs
|[],_,_,_,h=>by simp at h
|(h,o)::xs,0,g,p,e=>by simp at e;let⟨rfl,rfl⟩:=e;simp[nN]
|(h,o)::xs,k+1,g,p,e=>by have:=JL p (by simpa using e);simp only[nN,List.set_cons_succ,A91]at this ⊢;lia
def LD:Nat->D->Prop
|0,_=>True
|n+1,d=>(∃xs,d=.lst xs)\/(∃w,d=.tup [.str w])\/(∃w b,d=.tup [.str w,b])\/∃w b c,d=.tup [.str w,b,c]/\∀ps,c=.tup ps->ps.length<=100000/\∀p∈ps,LD n p
theorem Ba(h:xs[k]?=AC x)(o:ε Pl):dB rows C (xs.set k (x.1,o))=dB rows C xs:=by
 have e:=(A04.mp h).2;unfold dB;rw[B42]
 congr 1
 refine AA6 ∅ λ i h1 h2=>?_;rw[AA7];split
 .rename_i q;subst q;simp[e]
 .rfl
theorem xB(H:Hall rows C)(h6:xs.length<=6)(hg:∀x∈xs,GOk x.1):iF [bZ rows,aF xs]=.ok (dB rows C xs):=by
 rw[xv];refine aT ?_;have hl:xs.length<=16777216:=by lia
 unfold aF;simp[ly,bV,iq,fK,hl];refine dM (λ x:GO=>aS x.1) (λ _=>Ch) (λ x=>.tup<|(places rows C x.1).map bz) ?_ ?_
 .intro x hx;simp[places_of_ok H<|hg x hx]
 .rw[r!];rfl
theorem Kz(H:Hall rows C)(h6:xs.length<=6)(hg:∀x∈xs,GOk x.1)(hk:Good rows xs)(hw:bD rows C xs<=2000)(ef:bP [bZ rows,aF xs,fd]=.ok (aH xs)):
 f_ [bZ rows,aF xs,fd]=.ok (match b9 rows C AT xs xs.length with|[]=>.non|z::_=>aH z):=by
 have fr:=FJ (sm:=AT) H h6 hg hk hw;have sm:=A2 H h6 hg ef hw;rw[t_];refine aT ?_;cases e:b9 rows C AT xs _ with
 |nil=>rw[e]at fr;simp only[A68]at fr;simp[hU,sm,fr]
 |cons z r=>
  rw[e]at fr;simp only[A12]at fr;have i0:=(jb (xs:=aH z::r.map aH) (i:=0) rfl rfl).2;have hl:(0)<(r.length)+1:=by lia
  simp[hU,sm,fr,i0]
def wA(rows:Rows)(xs:γ GO):Prop:=∀z,Ext xs z->Good rows z->∃(i:Nat)(g:G),z[i]?=AC (g,At)
theorem GR(H:Hall rows C)(hg:∀x∈xs,GOk x.1)(h:b9 rows C AT xs xs.length=[]):wA rows xs:=by intro z e gz;refine C30 λ hn=>?_;have:=u0 (sm:=AT) H hg e gz<|.inr λ i g q=>hn ⟨i,g,q⟩;rw[h]at this;cases this
theorem Oa{cs:γ GO}{k:Nat}(hk:cs[k]?=AC (g,At))(p:Pl):Ext cs (cs.set k (g,AC p)):=by
 have hl:=(A04.mp hk).1;refine⟨?_,λ i g' q hi=>?_⟩
 .refine B17 λ i=>?_;rw[A08,A08,A31];split
  .rename_i ei;subst ei;rw[hk];rfl
  .rfl
 .rw[A31];split
  .rename_i ej;subst ej;rw[hk]at hi;cases hi
  .exact hi
theorem wA.put(h:wA rows xs){k:Nat}(hk:xs[k]?=AC (g,At))(p:Pl):wA rows (xs.set k (g,AC p)):=λ z e gz=>
 have e1:=Oa hk p
 h z ⟨e1.gs.trans e.gs,λ i g p q=>e.sub i g p<|e1.sub i g p q⟩ gz
def lS(xs:γ GO)(k:Nat):Bool:=match xs[k]? with
|some (_,At)=>Ch
|_=>AT
theorem Az(h:lS xs k=Ch):∃g,xs[k]?=AC (g,At):=by
 unfold lS at h;split at h
 .rename_i g e;exact⟨g,e⟩
 .cases h
def opens(rows:Rows)(C:Nat)(xs:γ GO)(k:Nat):γ Pl:=match xs[k]? with
|some (g,_)=>eF rows C xs g k
|none=>[]
theorem Wz(ps:γ Pl):oEq (.tup<|ps.map bz) (.tup [])=.ok (.bl ps.isEmpty):=by cases ps<;>rfl
theorem Js(H:Hall rows C):∀(n:Nat)(xs:γ GO),xs.length<=6->(∀x∈xs,GOk x.1)->nN xs<n->Good rows xs->wA rows xs ->
 ∃d,bO n [aF xs,dB rows C xs,aH xs]=.ok d/\(∀m,LD m d)/\MY rows C n xs d=Ch/\l8 d=.ok (.bl Ch):=by
 intro n
 induction n with
 |zero=>intro xs _ _ h;lia
 |succ n ih=>
  intro xs h6 hg hn Yo FD;have hgl:cQ (aF xs)=.ok (.int xs.length):=by simp[aF]
  have hl:xs.length<=16777216:=by lia
  -- who aba
  have qQ:(FB xs.length).filter (lS xs)≠[]:=λ z=>by let⟨i,g,e⟩:=FD xs ⟨rfl,λ _ _ _ e=>e⟩ Yo;have hi:i<xs.length:=(A04.mp e).1;have:i∈(FB xs.length).filter (lS xs):=A65.mpr ⟨A32.mpr hi,by unfold lS;rw[e]⟩;rw[z]at this;cases this
  have hall:∀k∈(FB xs.length).filter (lS xs),lS xs k=Ch:=λ k hk=>(A65.mp hk).2;generalize _E:(FB xs.length).filter (lS xs)=ks at qQ hall;cases ks with
  |nil=>exact absurd rfl qQ
  |cons k0 kr=>
   have key:∀k∈k0::kr,w_ (eU cQ<|aD c7<|aa (eV 1)<|aa (eV 2)<|aa (eV 3)<|aa (eV 0) av) [v (aF xs),v (dB rows C xs),v (aH xs)] (.int (k:Nat))=.ok ((opens rows C xs k).length:Int):=λ k hk=>by let⟨g,e⟩:=Az (hall k hk);have so:=AZ H h6 e;refine J! ?_;simp[so,opens,e]
   have pk:=pO (mx:=AT) (e:=w_ (eU cQ<|aD c7<|aa (eV 1)<|aa (eV 2)<|aa (eV 3)<|aa (eV 0) av) [v (aF xs),v (dB rows C xs),v (aH xs)]) (enc:=λ k=>D.int (k:Nat)) (w:=λ k=>((opens rows C xs k).length:Int)) kr k0 λ k hk=>key k<|A11 _ hk;have mem:cw AT (λ k=>((opens rows C xs k).length:Int)) k0 kr∈k0::kr:=by
    rcases mZ (mx:=AT) (w:=λ k=>((opens rows C xs k).length:Int)) kr k0 with h|h
    .rw[h];exact A18
    .exact A11 _ h
   generalize cw AT (λ k=>((opens rows C xs k).length:Int)) k0 kr=k at pk mem;let⟨g,hk⟩:=Az (hall k mem);have ex:∀x4 x5 x6,zS AT .bad (eW 3) [0,1,2] (eU cQ<|aD c7<|aa (eV 1)<|aa (eV 2)<|aa (eV 3)<|aa (eV 0) av) [v (aF xs),v (dB rows C xs),v (aH xs),v (.lst<|(k0::kr).map λ k=>D.int (k:Nat)),x4,x5,x6]=.ok (.int (k:Nat)):=λ x4 x5 x6=>by show pickK AT .bad (w_ (eU cQ<|aD c7<|aa (eV 1)<|aa (eV 2)<|aa (eV 3)<|aa (eV 0) av) [v (aF xs),v (dB rows C xs),v (aH xs)]) (D.int (k0:Nat)::kr.map λ k=>D.int (k:Nat))=_;unfold pickK;dsimp only;rw[key k0 A18];exact pk
   have so:=AZ H h6 hk;have _u:=GD H xs g k;have hop:∀p∈eF rows C xs g k,b! rows g p=Ch/\openAt xs g k p=Ch:=λ p hp=>by let⟨h1,h2⟩:=A65.mp hp;exact⟨KH.nY h1,h2⟩
   have kg:=hg _<|A13 hk;have step:∀p∈eF rows C xs g k,∃d,bO n [aF xs,dB rows C xs,aH (xs.set k (g,AC p))]=.ok d/\(∀m,LD m d)/\MY rows C n (xs.set k (g,AC p)) d=Ch:=λ p hp=>by
    have n1:=JL p hk;let⟨f1,f2⟩:=hop p hp;let⟨d,e1,e2,e3,_⟩:=ih (xs.set k (g,AC p)) (by rw[MH];exact h6) (λ x hx=>by
     rcases C49 hx with z|z
     .exact hg x z
     .rw[z];exact kg) ∅ (Yo.put hk f1 f2) (FD.put hk p)
    rw[show aF (xs.set k (g,AC p))=aF xs from Hl hk<|some p,show dB rows C (xs.set k (g,AC p))=dB rows C xs from Ba hk<|some p]at e1;exact⟨d,e1,e2,e3⟩
   obtain⟨f,hf⟩:∃f:Pl->D,∀p∈eF rows C xs g k,bO n [aF xs,dB rows C xs,aH (xs.set k (g,AC p))]=.ok (f p)/\(∀m,LD m (f p))/\MY rows C n (xs.set k (g,AC p)) (f p)=Ch:=by
    classical
    exact⟨λ p=>if h:p∈eF rows C xs g k then(step p h).choose else .non,λ p hp=>by simp only[hp,B03];exact(step p hp).choose_spec⟩
   have start:∀Q,(∀x5 x6,Ok ((bH (bG 5<|aD c7<|aa (eV 0)<|aa (eV 1)<|aa (eV 2)<|aa (eV 4) av)<|bH (jR (tE<|eB oEq (eW 5)<|br av) (bj<|br<|aa (eC<|.str [115,116,117,99,107])<|aa (eV 4) av) b7)<|bH (bG 6<|eL<|cM (iQ<|eW 5) 1 [0,1,2,4] (bA 0) cF<|aD (bO n)<|aa (eV 1)<|aa (eV 2)<|aa (aD KH.cN<|aa (eV 3)<|aa (eV 4)<|aa (eV 0) av) av)<|bj<|br<|aa (eC<|.str [101,97,99,104])<|aa (eV 4)<|aa (eU kZ<|eW 6) av) [v (aF xs),v (dB rows C xs),v (aH xs),v (.lst<|(k0::kr).map λ k=>D.int (k:Nat)),vi (k:Nat),x5,x6]) Q)->Ok (fm (bO n) [v (aF xs),v (dB rows C xs),v (aH xs),At,At,At,At]) Q:=λ Q hQ=>by
    have el:zints 0 xs.length=(FB xs.length).map λ k=>D.int (k:Nat):=by rw[ints_map];exact B05 λ j _=>by rw[Int.zero_add]
    simp[fm,bV,iq,fK,line,hgl,hl];rw[el];refine dM (λ k:Nat=>D.int (k:Nat)) (lS xs) (λ k=>D.int (k:Nat)) (xs:=FB xs.length) (λ j hj=>?_) ?_
    .have Af:j<xs.length:=A32.mp hj;obtain⟨⟨g',o⟩,e⟩:∃x,xs[j]?=AC x:=⟨_,A01 Af⟩
     have ix:bb (aH xs) (.int (j:Nat))=.ok (cY o):=(jb (xs:=xs.map λ y:GO=>cY y.2) (i:=j) (j:=j) rfl (by rw[A08,e];rfl)).1;cases o with
     |none=>simp[ix,cY,lS,e]
     |some p=>have en:iW (bz p)=.ok (.bl AT):=rfl;simp[ix,cY,en,lS,e]
    .rw[_E];have:=hQ At At;have e4:=ex At At At;simp only[A12]at this e4 ⊢;simp[e4];simpa[bV,iq,fK,line]using this
   by_cases h0:eF rows C xs g k=[]
   .refine⟨.tup [.str Qm,.int (k:Nat)],?_,λ m=>?_,?_,rfl⟩
    .rw[lE];refine aT<|start _ λ x5 x6=>?_;rw[h0]at so;have e0:=Wz [];simp only[A68,List.isEmpty_nil]at so e0;simp[so,e0,line];rfl
    .cases m with
     |zero=>trivial
     |succ m=>exact .inr<|.inr<|.inl ⟨_,_,rfl⟩
    .rfl
   .have _z:(eF rows C xs g k).isEmpty=AT:=by
     cases q:eF rows C xs g k with
     |nil=>exact absurd q h0
     |cons a r=>rfl
    refine⟨.tup [.str WB,.int (k:Nat),.tup ((eF rows C xs g k).map f)],?_,λ m=>?_,?_,rfl⟩
    .rw[lE];refine aT<|start _ λ x5 x6=>?_;have e0:=Wz<|eF rows C xs g k;rw[_z]at e0;have RV:(eF rows C xs g k).length<=16777216:=by lia
     generalize eF rows C xs g k=op at so _u hf e0 RV;simp[so,e0,line,bV,iq,fK,RV];refine dM bz (λ _=>Ch) f (xs:=op) (λ p hp=>?_) ?_
     .simp[(uH h6 hk p).1,(hf p hp).1]
     .rw[r!];simp[line];rfl
    .cases m with
     |zero=>trivial
     |succ m=>refine .inr<|.inr<|.inr ⟨_,_,_,rfl,λ ps e=>?_⟩;cases e;refine⟨by rw[A17];lia,λ q hq=>?_⟩;let⟨p,hp,rfl⟩:=A05.mp hq;exact(hf p hp).2.1 m
    .rfl
theorem Bc(H:Hall rows C)(h6:xs.length<=6)(hg:∀x∈xs,GOk x.1)(hk:Good rows xs)(hw:bD rows C xs<=2000)(ef:bP [bZ rows,aF xs,fd]=.ok (aH xs)):
 (b9 rows C AT xs xs.length≠[]/\gy [bZ rows,aF xs,fd]=.ok .non)\/(b9 rows C AT xs xs.length=[]/\∃d,gy [bZ rows,aF xs,fd]=.ok d/\(∀m,LD m d)/\MY rows C 9 xs d=Ch/\l8 d=.ok (.bl Ch)):=by
 have fo:=Kz H h6 hg hk hw ef;have ap:=xB H h6 hg;cases e:b9 rows C AT xs _ with
 |cons z r=>rw[e]at fo;dsimp only at fo;refine .inl ⟨by simp,?_⟩;rw[sT];refine aT ?_;have en:l8 (aH z)=.ok _:=rfl;simp[lr,fo,en]
 |nil=>
  rw[e]at fo;dsimp only at fo;have hn:nN xs<9:=by have:nN xs<=xs.length:=List.countP_le_length;lia
  let⟨d,e1,e2,e3,e4⟩:=Js H 9 xs h6 hg hn hk (GR H hg e);refine .inr ⟨rfl,d,?_,e2,e3,e4⟩;rw[sT];refine aT ?_;have en:l8 D.non=.ok _:=rfl;simp[lr,fo,ap,ef,e1]
end KC
namespace KB
open Z KG
open KH
variable{k:Nat}
theorem Ext.put(e:Ext xs m)(hk:m[k]?=AC (g,o)):Ext (xs.set k (g,o)) m:=by
 have hl:=(A04.mp hk).1;have VX:k<xs.length:=by rw[e.len];exact hl
 refine⟨?_,λ i g' p h=>?_⟩
 .rw[<-e.gs,B42];have h1:(xs.map (·.1))[k]?=AC g:=by rw[e.gs,A08,hk];rfl
  refine B17 λ i=>?_;rw[A31];split
  .rename_i q;subst q;rw[f8 (by rw[A17];exact VX),h1]
  .rfl
 .rw[A31]at h;split at h
  .rename_i q;subst q;first|(rw[f8]at h;rw[hk,h])|rw[hk,h]
  .exact e.sub i g' p h
theorem Ext.Q5(e:Ext xs m)(hk:m[k]?=AC (g,o))(h:Ext (xs.set k (g,o)) z):Ext xs z:=by
 have hl:=(A04.mp hk).1;have VX:k<xs.length:=by rw[e.len];exact hl
 refine⟨?_,λ i g' p q=>?_⟩
 .rw[e.gs,<-(e.put hk).gs,h.gs]
 .by_cases c:k=i
  .subst c;have:=e.sub k g' p q;rw[hk]at this;refine h.sub k g' p ?_;rw[A31,f8 rfl,f8 VX,this]
  .exact h.sub i g' p (by rw[A31,P3 c];exact q)
theorem nM.put(h:nM rows C xs m)(hk:m[k]?=AC (g,o)):nM rows C (xs.set k (g,o)) m:=
 ⟨h.ext.put hk,h.good,h.full,λ z e gz fz=>h.most z (h.ext.Q5 hk e) gz fz⟩
theorem Ax:∀{xs}{k}{x} p,xs[k]?=AC x->bD rows C (xs.set k (x.1,AC p))<=bD rows C xs
|[],_,_,_,h=>by cases h
|y::r,0,x,p,h=>by show cZ _<=cZ (fL rows C y::r.map _);have:fL rows C (x.1,AC p)=1:=rfl;simp only[cZ];exact B77 _<|Ay rows C y
|y::r,k+1,x,p,h=>by exact Nat.mul_le_mul_left _<|Ax p h
structure afF(rows:Rows)(C:Nat)(xs m:List GO):Prop where
 six:xs.length<=6
 Ha:∀x∈xs,GrpG x.1
 names:(xs.map (·.1.name)).Nodup
 few:bD rows C xs<=250
 best:nM rows C xs m
end KB
set_option maxRecDepth 4000
namespace KM
open Z KG KH
end KM
set_option maxRecDepth 8000
namespace KM
open Z KG KH
end KM
set_option maxRecDepth 4000
namespace KN
open Z KG KH KM
end KN
set_option maxRecDepth 8000
namespace KN
open Z KG KH KM
end KN
set_option maxRecDepth 4000
namespace iU
open Z KG KH KB KC KA KS
def Mr:γ Nat:=[103,114,111,117,112,115,32,97,108,111,110,101,32,109,97,121,32,97,115,107]
def t_1:γ Nat:=[111,110,101,32,111,102,32,116,104,105,115,32,110,97,109,101,32,105,115,32,97,116,32,104,97,110,100]
def Y4:γ Nat:=[110,105,110,101,115,105,103,110,115]
def mM:SM:=(bY (a_ [0]<|jR (gJ<|tE<|aD KA.ij<|aa (eV 1) av) lY b7)<|bY (tQ 0 [104,97,108,108]<|eV 1)<|bY (tQ 0 [103,117,101,115,116,115]<|br av)<|bY (tQ 0 [104,101,108,100]<|br av)<|tQ 0 [112,108,97,99,101,115]<|br av)
def fH:γ D->Res (D×γ D):=D' [0] [Ch,AT] 2 mM
def iz:SF:=(bH (jR (tE<|aD KS.fh<|aa (eV 1) av) (u6 (Fz<|eU (ia [103,117,101,115,116,115])<|eM 0 0) (kq [2,3])<|jR (tE<|eB oEq (eB bb (eW 3)<|eC<|.int 0)<|eW 1) (bj<|eV 2) b7) b7) lY)
def dJ:γ D->Res D:=L5 [Ch,AT] 4 iz
theorem qC(k0:γ (Sum Int<|γ Nat))(v0:γ D)(x1:D):dJ [.dct k0 v0,x1]=cu (iz [AC (.bor<|.dct k0 v0),AC (.val x1),At,At]):=Kx _ _ _ _ rfl
def wy:SM:=(bY (a_ (iZ 0 [Ch,AT])<|jR (gJ<|tE<|aD KS.cO<|aa (eV 1) av) lY b7)<|bY (a_ (iZ 0 [Ch,AT])<|jR (tE<|eB wZ (eB bb (eW 1)<|eC<|.int 0)<|eL<|cM (iQ<|eU (ia [103,117,101,115,116,115])<|eM 0 0) 1 [] (bA 0) cF<|eB bb (eW 0)<|eC<|.int 0) lY b7)<|bY (a_ (iZ 0 [Ch,AT])<|bG 2<|eB cb (eU (ia [103,117,101,115,116,115])<|eM 0 0)<|br<|aa (eV 1) av)<|bY (a_ (iZ 0 [Ch,AT])<|jR (tE<|eB HK (eU cQ<|eW 2)<|eC<|.int 6) lY b7)<|bY (a_ (iZ 0 [Ch,AT])<|bG 3<|eB cb (eU (ia [104,101,108,100])<|eM 0 0)<|br<|aa (eC .non) av)<|bY (a_ (iZ 0 [Ch,AT])<|bG 4<|aD KB.cA<|aa (eU (ia [104,97,108,108])<|eM 0 0)<|aa (eV 2)<|aa (eV 3) av)<|bY (a_ (iZ 0 [Ch,AT])<|jR (tE<|eU iW<|eW 4) lY b7)<|bY (tQ 0 [103,117,101,115,116,115]<|eV 2)<|bY (tQ 0 [104,101,108,100]<|eV 3)<|bY (tQ 0 [112,108,97,99,101,115]<|eV 4)<|a_ (iZ 0 [Ch,AT])<|bj<|eB bb (eW 4)<|eU Bm<|eC<|.int 1)
def aZ:γ D->Res (D×γ D):=D' (iZ 0 [Ch,AT]) [Ch,AT] 5 wy
def sZ:SM:=(bY (a_ (iZ 0 [Ch,AT])<|bG 2<|aD dJ<|aa (eM 0 0)<|aa (eV 1) av)<|tQ 0 [104,101,108,100]<|aD KH.cN<|aa (eU (ia [104,101,108,100])<|eM 0 0)<|aa (eV 2)<|aa (eB bb (eU (ia [112,108,97,99,101,115])<|eM 0 0)<|eW 2) av)
def bF:γ D->Res (D×γ D):=D' (iZ 0 [Ch,AT]) [Ch,AT] 3 sZ
def jO:SF:=(bj<|eU (ia [103,117,101,115,116,115])<|eM 0 0)
def aO:γ D->Res D:=L5 [Ch] 1 jO
theorem uc(k0:γ (Sum Int<|γ Nat))(v0:γ D):aO [.dct k0 v0]=cu (jO [AC (.bor<|.dct k0 v0)]):=Kx _ _ _ _ rfl
def jN:SF:=(bj<|eU (ia [112,108,97,99,101,115])<|eM 0 0)
def bg:γ D->Res D:=L5 [Ch] 1 jN
theorem ub(k0:γ (Sum Int<|γ Nat))(v0:γ D):bg [.dct k0 v0]=cu (jN [AC (.bor<|.dct k0 v0)]):=Kx _ _ _ _ rfl
def j?:SF:=(bH (bG 2<|eB cb (eC<|.int 1)<|eB oMod (eW 0)<|eC<|.int 2147483646)<|bH (A8 3<|bI av)<|bH (u6 (iR<|eV 1) (bA 4)<|bH (bG 2<|eB oMod (eB fC (eW 2)<|eC<|.int 16807)<|eC<|.int 2147483647)<|mX 3<|eV 2)<|C7 3<|bj<|eV 3)
def gZ:γ D->Res D:=fn 2 5 j?
theorem zO(x0 x1:D):gZ [x0,x1]=cu (j? [AC (.val x0),AC (.val x1),At,At,At]):=c_ _ _ _ _ rfl
def j!:SF:=(bH (bG 2<|eC<|.str cq)<|bH (bG 3<|eB cb (eC<|.int 1)<|eB oMod (eW 0)<|eC<|.int 8)<|bH (bG 4<|eB oMod (eB oDiv (eW 0)<|eC<|.int 8)<|eW 3)<|bH (bG 5<|eB bb (eL<|bI<|aa (eC<|.int 1)<|aa (eC<|.int 3)<|aa (eC<|.int 5)<|aa (eC<|.int 7)<|aa (eC<|.int 9)<|aa (eC<|.int 11) av)<|eB oMod (eB oDiv (eW 0)<|eC<|.int 64)<|eC<|.int 6)<|bH (A8 6<|bI av)<|bH (u6 (iR<|eV 1) (bA 7)<|bH (bG 8<|eC<|.str [])<|bH (u6 (iR<|eV 3) (bA 9)<|bH (bG 10<|eB fC (eB fC (eW 5)<|eW 7)<|eU tO<|eB oEq (eW 9)<|eW 4)<|bG 8<|eB cb (eW 8)<|eB bb (eW 2)<|eB oMod (eB cb (eB oDiv (eW 0)<|eB cb (eC<|.int 400)<|eB fC (eB fC (eC<|.int 30)<|eW 9)<|eW 9)<|eW 10)<|eC<|.int 26)<|mX 6<|eV 8)<|C7 6<|bj<|eV 6)
def gU:γ D->Res D:=fn 2 11 j!
theorem zN(x0 x1:D):gU [x0,x1]=cu (j! [AC (.val x0),AC (.val x1),At,At,At,At,At,At,At,At,At]):=c_ _ _ _ _ rfl
def j_:SF:=(bH (bG 1<|eL<|bI<|aa (o4 0<|nC [([78,111,71,114,111,117,112],Ch),([84,119,105,99,101],AT),([84,111,111,71,114,101,97,116],AT),([70,117,108,108],AT)])<|aa (o4 0<|nC [([78,111,71,114,111,117,112],AT),([84,119,105,99,101],Ch),([84,111,111,71,114,101,97,116],AT),([70,117,108,108],AT)])<|aa (o4 0<|nC [([78,111,71,114,111,117,112],AT),([84,119,105,99,101],AT),([84,111,111,71,114,101,97,116],Ch),([70,117,108,108],AT)])<|aa (o4 0<|nC [([78,111,71,114,111,117,112],AT),([84,119,105,99,101],AT),([84,111,111,71,114,101,97,116],AT),([70,117,108,108],Ch)]) av)<|bH (bG 1<|eL<|ny (eW 1)<|eL<|bI<|aa (o4 0<|nC [([78,111,71,114,111,117,112],AT),([84,119,105,99,101],AT),([84,111,111,71,114,101,97,116],AT),([70,117,108,108],AT)])<|aa (o4 0<|nC [([78,111,71,114,111,117,112],AT),([84,119,105,99,101],AT),([84,111,111,71,114,101,97,116],AT),([70,117,108,108],AT)])<|aa (o4 0<|nC [([78,111,71,114,111,117,112],AT),([84,119,105,99,101],AT),([84,111,111,71,114,101,97,116],AT),([70,117,108,108],AT)])<|aa (o4 0<|nC [([78,111,71,114,111,117,112],AT),([84,119,105,99,101],AT),([84,111,111,71,114,101,97,116],AT),([70,117,108,108],AT)]) av)<|bj<|eL<|ny (eW 1)<|eL<|bI<|aa (o4 0<|nC [([78,111,71,114,111,117,112],AT),([84,119,105,99,101],AT),([84,111,111,71,114,101,97,116],AT),([70,117,108,108],AT)])<|aa (K6<|o4 0<|nC [([78,111,71,114,111,117,112],Ch),([84,119,105,99,101],Ch),([84,111,111,71,114,101,97,116],Ch),([70,117,108,108],Ch)]) av)
def g9:XN->Res D:=Yz 2 j_
theorem zP(c:XN):g9 c=cu (j_ [AC (.exc c),At]):=rfl
def gG:XF:=(jS (bG 3<|aD KB.jl<|aa (eV 0)<|aa (eV 1)<|aa (eV 2) av) xE<|jS (jR (tE<|eB HK (eW 3)<|eC<|.int 2000) lY b7) (CH (tE<|eB HK (eW 3)<|eC<|.int 2000) (iA [84,111,111,71,114,101,97,116] [[109,97,110,121],[109,111,115,116]]<|aa (eV 3)<|aa (eC<|.int 2000) av) xE) xE)
def e?:γ D->ε XN:=fx 3 4 gG
theorem lC(x0 x1 x2:D):e? [x0,x1,x2]=gG [AC (.val x0),AC (.val x1),AC (.val x2),At]:=Wm _ _ _ _ rfl
def gH:XF:=(jS (bG 3<|aD KB.dR<|aa (eV 0)<|aa (eV 1)<|aa (eV 2) av) (ja e?<|aa (eV 0)<|aa (eV 1)<|aa (eV 2) av) xE)
def e_:γ D->ε XN:=fx 3 4 gH
theorem lD(x0 x1 x2:D):e_ [x0,x1,x2]=gH [AC (.val x0),AC (.val x1),AC (.val x2),At]:=Wm _ _ _ _ rfl
def dY:XF:=(jS (jR (gJ<|tE<|aD KS.cO<|aa (eV 1) av) lY b7) (CH (gJ<|tE<|aD KS.cO<|aa (eV 1) av) (kh [78,111,71,114,111,117,112]<|eC<|.str Mr) xE)<|jS (jR (tE<|eB wZ (eB bb (eW 1)<|eC<|.int 0)<|eL<|cM (iQ<|eU (ia [103,117,101,115,116,115])<|eM 0 0) 1 [] (bA 0) cF<|eB bb (eW 0)<|eC<|.int 0) lY b7) (CH (tE<|eB wZ (eB bb (eW 1)<|eC<|.int 0)<|eL<|cM (iQ<|eU (ia [103,117,101,115,116,115])<|eM 0 0) 1 [] (bA 0) cF<|eB bb (eW 0)<|eC<|.int 0) (kh [84,119,105,99,101]<|eC<|.str t_1) xE)<|jS (bG 2<|eB cb (eU (ia [103,117,101,115,116,115])<|eM 0 0)<|br<|aa (eV 1) av) xE<|jS (jR (tE<|eB HK (eU cQ<|eW 2)<|eC<|.int 6) lY b7) (CH (tE<|eB HK (eU cQ<|eW 2)<|eC<|.int 6) (iA [84,111,111,71,114,101,97,116] [[109,97,110,121],[109,111,115,116]]<|aa (eU cQ<|eW 2)<|aa (eC<|.int 6) av) xE)<|jS (bG 3<|eB cb (eU (ia [104,101,108,100])<|eM 0 0)<|br<|aa (eC .non) av) xE<|jS (bG 4<|aD KB.cA<|aa (eU (ia [104,97,108,108])<|eM 0 0)<|aa (eV 2)<|aa (eV 3) av) (ja e_<|aa (eU (ia [104,97,108,108])<|eM 0 0)<|aa (eV 2)<|aa (eV 3) av)<|jS (jR (tE<|eU iW<|eW 4) lY b7) (CH (tE<|eU iW<|eW 4) (iA [70,117,108,108] [[112,97,112,101,114]]<|aa (aD KC.gy<|aa (eU (ia [104,97,108,108])<|eM 0 0)<|aa (eV 2)<|aa (eV 3) av) av) xE) xE)
def bB:γ D->ε XN:=Sb [Ch,AT] 5 dY
theorem gQ(k0:γ (Sum Int<|γ Nat))(v0:γ D)(x1:D):bB [.dct k0 v0,x1]=dY [AC (.bor<|.dct k0 v0),AC (.val x1),At,At,At]:=Wn _ _ _ _ rfl
def lx:SM:=(bY (a_ (iZ 0 [Ch,AT])<|bG 2<|eL<|bI<|aa (eC<|.str [116,97,107,101,110]) av)<|bY (G4 (iO<|ck aZ [Ch,AT] [0]<|aa (eM 0 0)<|aa (eV 1) av) (ja bB<|aa (eM 0 0)<|aa (eV 1) av)<|TB (Ka [([78,111,71,114,111,117,112],AT),([84,119,105,99,101],AT),([84,111,111,71,114,101,97,116],Ch),([70,117,108,108],AT)]) 3 (a_ (iZ 0 [Ch,AT])<|bG 2<|eL<|bI<|aa (r_ g9 3)<|aa (WC 3 [84,111,111,71,114,101,97,116] [109,97,110,121])<|aa (WC 3 [84,111,111,71,114,101,97,116] [109,111,115,116]) av)<|TB (Ka [([78,111,71,114,111,117,112],Ch),([84,119,105,99,101],Ch),([84,111,111,71,114,101,97,116],Ch),([70,117,108,108],Ch)]) 3 (a_ (iZ 0 [Ch,AT])<|bG 2<|eL<|bI<|aa (r_ g9 3) av) hNo)<|a_ (iZ 0 [Ch,AT])<|bj<|eV 2)
def aW:γ D->Res (D×γ D):=D' (iZ 0 [Ch,AT]) [Ch,AT] 4 lx
def sk:SF:=(bj<|eL<|bI<|aa (eL<|cM (iR<|eC<|.int 10) 1 [0] (bA 0) cF<|eB oEq (eW 0)<|eW 1) av)
def bf:γ D->Res D:=fn 1 1 sk
theorem Ea(x0:D):bf [x0]=cu (sk [AC (.val x0)]):=c_ _ _ _ _ rfl
def sj:SF:=(bH (bG 2<|br<|aa (eV 1)<|aa (eC<|.int 1)<|aa (eC<|.int 1)<|aa (eC<|.str [])<|aa (eC<|.int 0)<|aa (eC<|.int 0)<|aa (eC<|.int 0)<|aa (br av) av)<|bH (bG 3<|eB oMod (eW 0)<|eC<|.int 8)<|bH (bG 4<|eB bb (eL<|bI<|aa (eC .non)<|aa (eC<|.str [])<|aa (eU Bm<|eC<|.int 1)<|aa (eL<|bI av)<|aa (eC<|.int 13)<|aa (eC<|.str [49])<|aa (eC<|.bl Ch)<|aa (eC<|.dct [] [])<|aa (br av)<|aa (eC<|.int 7) av)<|eB oMod (eB oDiv (eW 0)<|eC<|.int 8)<|eC<|.int 10)<|bH (bG 5<|eL<|bI<|aa (eL<|bI<|aa (eC<|.str [])<|aa (eC<|.str [65])<|aa (eC<|.str Y4)<|aa (eC<|.int 5)<|aa (eC .non) av)<|aa (eL<|bI<|aa (eC<|.int 0)<|aa (eC<|.int 13)<|aa (eC<|.bl Ch)<|aa (eC<|.str [49])<|aa (eC .non) av)<|aa (eL<|bI<|aa (eC<|.int 0)<|aa (eC<|.int 4)<|aa (eC<|.bl Ch)<|aa (eC .non)<|aa (eC<|.str [49]) av) av)<|bH (bG 5<|eL<|ny (eW 5)<|eL<|bI<|aa (eL<|bI<|aa (eC<|.str [65])<|aa (eC<|.str [97,98])<|aa (eC .non)<|aa (eC<|.int 0)<|aa (eC<|.str [35]) av) av)<|bH (bG 5<|eL<|ny (eW 5)<|eL<|bI<|aa (eL<|bI<|aa (eU Bm<|eC<|.int 1)<|aa (eC<|.int 2)<|aa (eC<|.bl Ch)<|aa (eC .non)<|aa (eC<|.str [48]) av)<|aa (eL<|bI<|aa (eU Bm<|eC<|.int 1)<|aa (eC<|.int 7)<|aa (eC<|.bl Ch)<|aa (eC .non)<|aa (eC<|.str [48]) av)<|aa (eL<|bI<|aa (eU Bm<|eC<|.int 1)<|aa (eC<|.bl Ch)<|aa (eC .non)<|aa (eC<|.str [48])<|aa (eB tN (eC<|.int 10)<|eC<|.int 60) av) av)<|bH (bG 5<|eL<|ny (eW 5)<|eL<|bI<|aa (eL<|bI<|aa (eL<|bI av)<|aa (eC .non)<|aa (br<|aa (br<|aa (eC<|.int 6)<|aa (eC<|.int 1) av) av)<|aa (br<|aa (br<|aa (eC<|.int 0)<|aa (eC<|.int 0) av) av)<|aa (br<|aa (br<|aa (eC<|.int 1)<|aa (eC<|.int 1) av)<|aa (br<|aa (eC<|.int 0)<|aa (eC<|.int 1) av) av)<|aa (br<|aa (br<|aa (eC<|.int 0)<|aa (eC<|.int 1) av)<|aa (br<|aa (eC .non)<|aa (eC<|.int 1) av) av)<|aa (br<|aa (br<|aa (eL<|bI<|aa (eC<|.int 0) av)<|aa (eC<|.int 1) av) av)<|aa (br<|aa (br<|aa (eC<|.int 0)<|aa (eC<|.str [49]) av) av) av) av)<|bH (jR (tE<|eB oEq (eB oMod (eB oDiv (eW 0)<|eC<|.int 80)<|eC<|.int 4)<|eC<|.int 3) (bj<|eB bb (eL<|bI<|aa (eC .non)<|aa (eC<|.int 0)<|aa (eC<|.str [])<|aa (eV 1)<|aa (br av)<|aa (eL<|bI av)<|aa (eL<|Z9<|eW 2)<|aa (Ah (eW 2) y_<|u!<|eC<|.int 7)<|aa (eB cb (eW 2)<|br<|aa (eC<|.int 0) av)<|aa (eV 4) av)<|eB oMod (eB oDiv (eW 0)<|eC<|.int 320)<|eC<|.int 10) b7)<|bH (bG 6<|eB bb (eW 5)<|eW 3)<|bj<|eB cb (eB cb (Ah (eW 2) y_<|u!<|eW 3)<|br<|aa (eB bb (eW 6)<|eB oMod (eB oDiv (eW 0)<|eC<|.int 8)<|eU cQ<|eW 6) av)<|Ah (eW 2) (u!<|eB cb (eW 3)<|eC<|.int 1) y_)
def jF:γ D->Res D:=fn 2 7 sj
theorem D_(x0 x1:D):jF [x0,x1]=cu (sj [AC (.val x0),AC (.val x1),At,At,At,At,At]):=c_ _ _ _ _ rfl
def qL:SM:=(bY (Du (iZ 0 [Ch,AT,AT,AT]) (iR<|eV 3) (bA 4)<|bY (a_ (iZ 0 [Ch,AT,AT,AT])<|bG 5<|eB cb (eC<|.int 1)<|eB fC (eB oMod (eB oDiv (eB bb (eW 2)<|eW 4)<|eC<|.int 7)<|eC<|.int 2)<|eU tO<|eB oLt (eW 4)<|eC<|.int 2)<|bY (jU (tP<|mU iW<|ck aZ [Ch,AT] [0]<|aa (eM 0 0)<|aa (br<|aa (eB bb (eW 1)<|eW 4)<|aa (eV 5)<|aa (eC<|.int 1)<|aa (eC<|.str [])<|aa (eC<|.int 0)<|aa (eC<|.int 0)<|aa (eB oMod (eB oDiv (eB bb (eW 2)<|eW 4)<|eC<|.int 14)<|eC<|.int 3)<|aa (br av) av) av) (a_ (iZ 0 [Ch,AT,AT,AT])<|bj<|eC<|.bl AT) gN)<|iO<|ck bF [Ch,AT] [0]<|aa (eM 0 0)<|aa (eB bb (eW 1)<|eW 4) av)<|a_ (iZ 0 [Ch,AT,AT,AT])<|bj<|eC<|.bl Ch)
def iD:γ D->Res (D×γ D):=D' (iZ 0 [Ch,AT,AT,AT]) [Ch,AT,AT,AT] 6 qL
def fP:SF:=(rd 2 fH (eB pW (br<|aa (eB Bl (eC<|.str [46])<|eW 1) av)<|eC<|.int 2)<|bY (Du [2] (iR<|eC<|.int 2) (bA 3)<|iO<|ck aZ [Ch,AT] [2]<|aa (eM 0 2)<|aa (br<|aa (eB bb (eW 0)<|eW 3)<|aa (eC<|.int 1)<|aa (eC<|.int 1)<|aa (eC<|.str [])<|aa (eC<|.int 0)<|aa (eC<|.int 0)<|aa (eC<|.int 0)<|aa (br av) av) av)<|bY (a_ [2]<|bG 4<|br<|aa (eB bb (eW 0)<|eC<|.int 2)<|aa (eC<|.int 2)<|aa (eC<|.int 1)<|aa (eC<|.str [])<|aa (eC<|.int 0)<|aa (eC<|.int 0)<|aa (eC<|.int 1)<|aa (br av) av)<|bY (a_ [2]<|bG 5<|aD aO<|aa (eM 0 2) av)<|bY (a_ [2]<|bG 6<|eB fC (eB fC (eB cb (eB fC (eC<|.int 2)<|eW 1)<|eC<|.int 1)<|eB cb (eB fC (eC<|.int 2)<|eW 1)<|eC<|.int 1)<|eB rn (eB fC (eC<|.int 2)<|eW 1)<|eC<|.int 1)<|bY (jU (Dp (tP<|mB kn (ck aW [Ch,AT] [2]<|aa (eM 0 2)<|aa (eV 4) av)<|mP<|eL<|ny (aD bf<|aa (eC<|.int 2) av)<|eL<|bI<|aa (eV 6)<|aa (eC<|.int 2000) av)<|Dp (JP<|tE<|eB kn (aD aO<|aa (eM 0 2) av)<|eW 5)<|JP<|tE<|eB kn (eU cQ<|eW 5)<|eC<|.int 2) (a_ [2]<|bj<|eC<|.bl AT) gN)<|bY (iO<|ck bF [Ch,AT] [2]<|aa (eM 0 2)<|aa (eB bb (eW 0)<|eC<|.int 0) av)<|Bx [2]<|Dv (mB oEq (ck aW [Ch,AT] [2]<|aa (eM 0 2)<|aa (eV 4) av)<|mP<|eL<|bI<|aa (eC<|.str [116,97,107,101,110]) av)<|mP<|eB oEq (aD aO<|aa (eM 0 2) av)<|eB cb (eW 5)<|br<|aa (eV 4) av)
def dH:γ D->Res D:=fn 2 7 fP
theorem mz(x0 x1:D):dH [x0,x1]=cu (fP [AC (.val x0),AC (.val x1),At,At,At,At,At]):=c_ _ _ _ _ rfl
def jL:SF:=(rd 2 fH (eB pW (br<|aa (eB Bl (eC<|.str [46])<|eW 1) av)<|eC<|.int 2)<|bY (iO<|ck aZ [Ch,AT] [2]<|aa (eM 0 2)<|aa (br<|aa (eB bb (eW 0)<|eC<|.int 0)<|aa (eC<|.int 1)<|aa (eC<|.int 1)<|aa (eC<|.str [])<|aa (eC<|.int 0)<|aa (eC<|.int 0)<|aa (eC<|.int 0)<|aa (br av) av) av)<|bY (iO<|ck bF [Ch,AT] [2]<|aa (eM 0 2)<|aa (eB bb (eW 0)<|eC<|.int 0) av)<|bY (iO<|ck aZ [Ch,AT] [2]<|aa (eM 0 2)<|aa (br<|aa (eB bb (eW 0)<|eC<|.int 1)<|aa (eC<|.int 1)<|aa (eC<|.int 1)<|aa (eC<|.str [])<|aa (eC<|.int 0)<|aa (eC<|.int 0)<|aa (eC<|.int 0)<|aa (br<|aa (br<|aa (eC<|.int 1)<|aa (eC<|.int 1) av) av) av) av)<|bY (iO<|ck bF [Ch,AT] [2]<|aa (eM 0 2)<|aa (eB bb (eW 0)<|eC<|.int 1) av)<|bY (Du [2] (yd (eC<|.int 2)<|eC<|.int 4) (bA 3)<|iO<|ck aZ [Ch,AT] [2]<|aa (eM 0 2)<|aa (br<|aa (eB bb (eW 0)<|eW 3)<|aa (eC<|.int 1)<|aa (eC<|.int 1)<|aa (eC<|.str [])<|aa (eC<|.int 0)<|aa (eC<|.int 0)<|aa (eC<|.int 0)<|aa (br av) av) av)<|bY (a_ [2]<|bG 4<|br<|aa (aD aO<|aa (eM 0 2) av)<|aa (aD bg<|aa (eM 0 2) av) av)<|bY (a_ [2]<|bG 5<|eB fC (eB fC (eB cb (eB fC (eC<|.int 2)<|eW 1)<|eC<|.int 1)<|eB cb (eB fC (eC<|.int 2)<|eW 1)<|eC<|.int 1)<|eC<|.int 7)<|bY (jU (tP<|mB kn (ck aW [Ch,AT] [2]<|aa (eM 0 2)<|aa (br<|aa (eB bb (eW 0)<|eC<|.int 4)<|aa (eB rn (eW 1)<|eC<|.int 2)<|aa (eC<|.int 1)<|aa (eC<|.str [])<|aa (eC<|.int 0)<|aa (eC<|.int 6)<|aa (eC<|.int 9)<|aa (br av) av) av)<|mP<|eL<|ny (aD bf<|aa (eC<|.int 2) av)<|eL<|bI<|aa (eV 5)<|aa (eC<|.int 2000) av) (a_ [2]<|bj<|eC<|.bl AT) gN)<|bY (jU (tP<|mB kn (ck aW [Ch,AT] [2]<|aa (eM 0 2)<|aa (br<|aa (eB bb (eW 0)<|eC<|.int 4)<|aa (eC<|.int 1)<|aa (eC<|.int 3)<|aa (eC<|.str [])<|aa (eC<|.int 0)<|aa (eC<|.int 0)<|aa (eC<|.int 9)<|aa (br av) av) av)<|mP<|aD bf<|aa (eC<|.int 3) av) (a_ [2]<|bj<|eC<|.bl AT) gN)<|a_ [2]<|bj<|o5 (eB oEq (br<|aa (aD aO<|aa (eM 0 2) av)<|aa (aD bg<|aa (eM 0 2) av) av)<|eW 4)<|eB oEq (eU cQ<|eB bb (eW 4)<|eC<|.int 0)<|eC<|.int 4)
def f?:γ D->Res D:=fn 2 6 jL
theorem t?(x0 x1:D):f? [x0,x1]=cu (jL [AC (.val x0),AC (.val x1),At,At,At,At]):=c_ _ _ _ _ rfl
def Lr:SF:=(bH (bG 1<|aD KG.dU<|aa (eV 0)<|aa (eC<|.int 0) av)<|bH (bG 2<|eB cb (eC<|.int 8)<|eB oMod (eW 1)<|eC<|.int 5)<|bH (bG 3<|eB pW (br<|aa (eB Bl (eC<|.str [46])<|eW 2) av)<|eB bb (eL<|bI<|aa (eC<|.int 1)<|aa (eC<|.int 1)<|aa (eC<|.int 1)<|aa (eC<|.int 3) av)<|eB oMod (eB oDiv (eW 1)<|eC<|.int 5)<|eC<|.int 4)<|bH (bG 4<|aD gU<|aa (aD KG.dU<|aa (eV 0)<|aa (eC<|.int 1) av)<|aa (eC<|.int 8) av)<|bH (bG 5<|eB bb (eL<|bI<|aa (eC<|.int 0)<|aa (eC<|.int 1)<|aa (eC<|.int 2)<|aa (eC<|.int 3)<|aa (eC<|.int 4)<|aa (eC<|.int 5)<|aa (eC<|.int 6)<|aa (eC<|.int 6) av)<|eB oMod (eB oDiv (eW 1)<|eC<|.int 20)<|eC<|.int 8)<|rd 6 fH (eV 3)<|bY (jU (Fm<|tP<|ck iD [Ch,AT,AT,AT] [6]<|aa (eM 0 6)<|aa (eV 4)<|aa (aD gZ<|aa (aD KG.dU<|aa (eV 0)<|aa (eC<|.int 2) av)<|aa (eC<|.int 6) av)<|aa (eV 5) av) (a_ [6]<|bj<|eC<|.bl AT) gN)<|bY (a_ [6]<|jR (AQ (gJ<|tE<|aD dH<|aa (eV 4)<|aa (eV 2) av)<|gJ<|tE<|aD f?<|aa (eV 4)<|aa (eV 2) av) (bj<|eC<|.bl AT) b7)<|bY (a_ [6]<|bG 7<|aD aO<|aa (eM 0 6) av)<|bY (a_ [6]<|bG 8<|aD bg<|aa (eM 0 6) av)<|bY (a_ [6]<|bG 9<|eL<|cM (iQ<|eL<|ny (eL<|Ru (eW 0) (u!<|eC<|.int 3)<|u!<|eC<|.int 23)<|eL<|bI<|aa (eC<|.int 0)<|aa (eC<|.int 83) av) 1 [4] (bA 0) cF<|aD jF<|aa (eV 0)<|aa (eB bb (eW 1)<|eB oMod (eB oDiv (eW 0)<|eC<|.int 3)<|eC<|.int 7) av)<|bY (Du [6] (iQ<|eV 9) (bA 10)<|jU (tP<|mB kn (ck aW [Ch,AT] [6]<|aa (eM 0 6)<|aa (eV 10) av)<|mP<|aD bf<|aa (eC<|.int 0) av) (a_ [6]<|bj<|eC<|.bl AT) gN)<|bY (a_ [6]<|bG 11<|br<|aa (eB bb (eW 4)<|eC<|.int 6)<|aa (eC<|.int 1)<|aa (eC<|.int 1)<|aa (eC<|.str [])<|aa (eC<|.int 0)<|aa (eC<|.int 0)<|aa (eC<|.int 0)<|aa (br av) av)<|bY (a_ [6]<|bG 12<|br<|aa (eB bb (eW 4)<|eC<|.int 6)<|aa (eV 2)<|aa (eU cQ<|eW 3)<|aa (eC<|.str [])<|aa (eC<|.int 0)<|aa (eC<|.int 6)<|aa (eC<|.int 0)<|aa (br av) av)<|bY (jU (JP<|tE<|eB HK (eW 5)<|eC<|.int 0) (bY (a_ [6]<|bG 13<|eL<|bI<|aa (eB cb (br<|aa (eB bb (eW 4)<|eC<|.int 0) av)<|Ah (eW 11) (u!<|eC<|.int 1) y_)<|aa (eB cb (br<|aa (eB bb (eW 4)<|eB rn (eW 5)<|eC<|.int 1) av)<|Ah (eW 12) (u!<|eC<|.int 1) y_) av)<|bY (jU (Dp (tP<|mB kn (ck aW [Ch,AT] [6]<|aa (eM 0 6)<|aa (eB bb (eW 13)<|eC<|.int 0) av)<|mP<|aD bf<|aa (eC<|.int 1) av)<|tP<|mB kn (ck aW [Ch,AT] [6]<|aa (eM 0 6)<|aa (eB bb (eW 13)<|eC<|.int 1) av)<|mP<|aD bf<|aa (eC<|.int 1) av) (a_ [6]<|bj<|eC<|.bl AT) gN)<|bY (a_ [6]<|bG 14<|aD bf<|aa (eC<|.int 3) av)<|bY (a_ [6]<|jR (tE<|eB oEq (eW 5)<|eC<|.int 6) (bG 14<|eL<|ny (aD bf<|aa (eC<|.int 2) av)<|eL<|bI<|aa (eC<|.int 7)<|aa (eC<|.int 6) av) b7)<|jU (tP<|mB kn (ck aW [Ch,AT] [6]<|aa (eM 0 6)<|aa (eV 12) av)<|mP<|eV 14) (a_ [6]<|bj<|eC<|.bl AT) gN) gN)<|bY (jU (vf (JP<|tE<|eB oEq (eW 5)<|eC<|.int 6)<|tP<|mB kn (ck aW [Ch,AT] [6]<|aa (eM 0 6)<|aa (eV 11) av)<|mP<|eL<|ny (aD bf<|aa (eC<|.int 2) av)<|eL<|bI<|aa (eC<|.int 7)<|aa (eC<|.int 6) av) (a_ [6]<|bj<|eC<|.bl AT) gN)<|bY (a_ [6]<|jR (AQ (tE<|eB kn (aD aO<|aa (eM 0 6) av)<|eW 7)<|tE<|eB kn (aD bg<|aa (eM 0 6) av)<|eW 8) (bj<|eC<|.bl AT) b7)<|Bx [6]<|Vv (mP<|eB oEq (eW 5)<|eC<|.int 6)<|Dv (mB oEq (ck aW [Ch,AT] [6]<|aa (eM 0 6)<|aa (eV 11) av)<|mP<|eL<|bI<|aa (eC<|.str [116,97,107,101,110]) av)<|mP<|eB oEq (aD aO<|aa (eM 0 6) av)<|eB cb (eW 7)<|br<|aa (eV 11) av)
def rV:γ D->Res D:=fn 1 15 Lr
theorem Sg(x0:D):rV [x0]=cu (Lr [AC (.val x0),At,At,At,At,At,At,At,At,At,At,At,At,At,At]):=c_ _ _ _ _ rfl
end iU
set_option maxRecDepth 8000
namespace iU
open Z KG KB KC
open KH
def bW(R C:Nat):Rows:=Do R<|List.replicate C 46
theorem se{R C:Nat}(h1:1<=R)(h2:R<=6)(h3:1<=C)(h4:C<=12):Hall (bW R C) C:=
 ⟨by simp[bW];lia,by simp[bW];lia,h3,by lia,λ x hx=>by rw[B78 hx];simp⟩
theorem B2(R C:Nat):(bW R C).length=R:=by simp[bW]
theorem xO(R C:Nat)(p:Pl):c9 (bW R C) p=if 0<=p.1/\p.1<R/\0<=p.2/\p.2<C then AC 46 else At:=by
 unfold c9 bW;by_cases h:0<=p.1/\0<=p.2
 .rw[f8 h,A45];by_cases h1:p.1<R
  .rw[f8 ∅];simp only[B31,A45];by_cases h2:p.2<C
   .rw[f8 ∅,f8 ⟨h.1,h1,h.2,h2⟩]
   .rw[P3 ∅,P3 ∅]
  .rw[P3 ∅,P3 ∅];rfl
 .rw[P3 h,P3 ∅]
theorem ko{g:G}{p s:Pl}:s∈seats g p↔(p.1<=s.1/\s.1<p.1+g.d)/\p.2<=s.2/\s.2<p.2+g.w:=by
 unfold seats kT jx;simp only[B16,A05,A32];constructor
 .rintro⟨i,hi,j,hj,rfl⟩;dsimp only;lia
 .rintro⟨⟨h1,h2⟩,h3,h4⟩;refine⟨(s.1-p.1).toNat,by lia,(s.2-p.2).toNat,by lia,?_⟩
  ext<;>dsimp only<;>lia
structure Dq(g:G):Prop where
 kd:g.kind=[]
 wd:g.wide=0
 w1:1<=g.w
 d1:1<=g.d
theorem gA{R C:Nat}{g:G}(k:Dq g){p:Pl}:b! (bW R C) g p=Ch↔0<=p.1/\p.1+g.d<=R/\0<=p.2/\p.2+g.w<=C:=by
 unfold b!;rw[A35,A30];have w1:=k.w1;have d1:=k.d1;constructor
 .rintro⟨h,_⟩;have h1:=h p<|ko.mpr ∅;have h2:=h (p.1+(g.d:Int)-1,p.2+(g.w:Int)-1)<|ko.mpr (by dsimp only;lia);rw[xO]at h1 h2;split at h1
  .split at h2
   .rename_i a b;dsimp only at a b;lia
   .cases h2
  .cases h1
 .intro h;refine⟨λ s hs=>?_,by rw[k.wd];simp⟩;have:=ko.mp hs;rw[xO,f8 ∅];simp[kj]
theorem B'(m:Nat):∀n:Nat,(FB n).countP (λ c=>decide<|c<m)=min m n
|0=>by simp
|n+1=>by
 rw[A74,C31,B' m n];by_cases h:n<m
 .simp[h];lia
 .simp[h];lia
theorem Hr{R C:Nat}{g:G}(k:Dq g)(r:Nat):(lA r C).countP (b! (bW R C) g)=if r+g.d<=R then C+1-g.w else 0:=by
 unfold lA;rw[List.countP_map];have w1:=k.w1;by_cases h:r+g.d<=R
 .rw[f8 h];have:∀c∈FB C,((b! (bW R C) g∘λ c:Nat=>(((r:Nat):Int),((c:Nat):Int))) c=Ch↔(decide<|c<C+1-g.w)=Ch):=λ c hc=>by rw[Function.comp_apply,gA k,decide_eq_true_iff];dsimp only;lia
  rw[List.countP_congr this,B'];lia
 .rw[P3 h,List.countP_eq_zero];intro c _ e;rw[Function.comp_apply,gA k]at e;dsimp only at e;lia
theorem yl{R C:Nat}{g:G}(k:Dq g):∀n:Nat,(jP n C).countP (b! (bW R C) g)=min n (R+1-g.d)*(C+1-g.w)
|0=>by simp[jP]
|n+1=>by
 have ih:=yl k (R:=R) (C:=C) n;have d1:=k.d1;unfold jP at ih ⊢;rw[A74,lc,C31,ih];simp only[wf,List.flatMap_nil,A54];rw[Hr k];by_cases h:n+g.d<=R
 .rw[f8 h,show min (n+1) (R+1-g.d)=min n (R+1-g.d)+1 by lia,Nat.add_mul,A80]
 .rw[P3 h,show min (n+1) (R+1-g.d)=min n (R+1-g.d)by lia,Nat.add_zero]
theorem sH{R C:Nat}{g:G}(k:Dq g):(places (bW R C) C g).length=(R+1-g.d)*(C+1-g.w):=by unfold places;rw[<-List.countP_eq_length_filter,yl k,B2];have d1:=k.d1;rw[show min R (R+1-g.d)=R+1-g.d by lia]
theorem B!(lo:Int)(L:Nat):∀n:Nat,(FB n).countP (λ c:Nat=>decide<|lo<=(c:Int)/\(c:Int)<lo+L)=(min (n:Int) (lo+L)-max 0 lo).toNat
|0=>by simp;lia
|n+1=>by
 rw[A74,C31,B! lo L n];by_cases h:lo<=(n:Int)/\(n:Int)<lo+L
 .simp[h];lia
 .have:(decide<|lo<=(n:Int)/\(n:Int)<lo+L)=AT:=A37 h;simp[A91,this];lia
def iJ(w:Nat)(x:GO)(c:Nat):Bool:=match x.2 with
|some q=>decide<|q.2-w+1<=(c:Int)/\(c:Int)<q.2-w+1+((w+x.1.w-1:Nat):Int)
|none=>AT
theorem SE(w:Nat)(x:GO)(n:Nat):(FB n).countP (iJ w x)<=w+x.1.w-1:=by
 unfold iJ;cases x.2 with
 |none=>simp
 |some q=>dsimp only;rw[B!];lia
theorem qG{α:Type}(p q:α->Bool):∀l:γ α,l.countP (λ a=>p a||q a)<=l.countP p+l.countP q
|[]=>by simp
|a::l=>by have:=qG p q l;simp only[A91];cases p a<;>cases q a<;>simp<;>lia
theorem Lu(w n:Nat):∀m:γ GO,(FB n).countP (λ c=>m.any λ x=>iJ w x c)<=(m.map λ x=>w+x.1.w-1).sum
|[]=>by simp
|x::m=>by have h1:=Lu w n m;have h2:=SE w x n;have h3:=qG (iJ w x) (λ c=>m.any λ x=>iJ w x c)<|List.range n;simp only[B57,A12,B59];lia
theorem room{R C:Nat}(hR:1<=R){m:γ GO}{g:G}(dg:Dq g)(d1:g.d=1)(g0:g.gap=0)(hm:∀x∈m,x.1.gap=0/\1<=x.1.w/\∀p,x.2=AC p->0<=p.1)(hs:(m.map λ x=>g.w+x.1.w-1).sum<C+1-g.w):
 ∃c:Nat,b! (bW R C) g (0,(c:Int))=Ch/\∀x∈m,∀q,x.2=AC q->bN g (0,(c:Int)) x.1 q=Ch:=by
 have h1:=Lu g.w (C+1-g.w) m;have h2:∃c∈FB (C+1-g.w),¬(m.any λ x=>iJ g.w x c)=Ch:=by apply C30;intro no;have all:∀c∈FB (C+1-g.w),(m.any λ x=>iJ g.w x c)=Ch:=λ c hc=>C30 λ z=>no ⟨c,hc,z⟩;have:=List.countP_eq_length.mpr all;rw[B04]at this;lia
 let⟨c,hc,hn⟩:=h2;rw[A32]at hc;refine⟨c,(gA dg).mpr ⟨by simp,by simp;lia,by simp,by simp;lia⟩,λ x hx q e=>?_⟩;let⟨x0,x1,x2⟩:=hm x hx;have nb:iJ g.w x c=AT:=by
  cases h:iJ g.w x c with
  |false=>rfl
  |true=>exact absurd (List.any_eq_true.mpr ⟨x,hx,h⟩) hn
 unfold iJ at nb;rw[e]at nb;have nb:=of_decide_eq_false nb;have w1:=dg.w1;unfold bN;rw[g0,x0,d1];refine A56 ?_;have:=x2 q e;dsimp only;by_cases hq:q.1=0
 .by_cases hl:(c:Int)<q.2-g.w+1
  .exact .inr<|.inr<|.inl (by simp;lia)
  .exact .inr<|.inr<|.inr (by simp;lia)
 .exact .inl (by simp;lia)
end iU
namespace iU
open Z KA KS
structure EE(d:D):Prop where
 s:∀cs,d=.str cs->cs.length<=1000
 t:∀xs,d=.tup xs->xs.length<=1000
theorem Mg(d:D):fg [d]=.ok (.bl<|match d with|.int _=>Ch|_=>AT):=by rw[sU];refine aT ?_;cases d<;>simp[iv,Z.kA]
theorem kD(d:D)(a b:Int):bu [d,.int a,.int b]=.ok (.bl<|n5 d a b):=by
 cases d with
 |int n=>exact within_int n a b
 |_=>rw[jI];refine aT ?_;simp[cE,Mg,n5]
theorem Cp(d:D)(a:Int):g! [d,.int a]=.ok (.bl<|n5 d a<|10^60-1):=by rw[zQ];refine aT ?_;simp[mL,kD]
def sL:D->Bool
|.str cs=>h! cs
|_=>AT
theorem JJ{d:D}(h:EE d):fh [d]=.ok (.bl<|sL d):=by
 cases d with
 |str cs=>exact Nh cs (by have:=h.s cs rfl;lia)
 |_=>rw[vZ];refine aT ?_;simp[jt,Z.kA,sL]
def vw:D->Bool
|.str cs=>kindB cs
|_=>AT
theorem Rw{d:D}(h:EE d):jH [d]=.ok (.bl<|vw d):=by
 cases d with
 |str cs=>exact NG cs (by have:=h.s cs rfl;lia)
 |_=>rw[v7];refine aT ?_;simp[kP,Z.kA,vw]
def e6:D->Bool
|.tup [x,y]=>n5 x 0 5&&n5 y 1 (10^60-1)
|_=>AT
theorem P5(d:D):ie [d]=.ok (.bl<|e6 d):=by
 rw[Eb];refine aT ?_
 match d with
 |.tup [x,y]=>have i0:bb (.tup [x,y]) (.int 0)=.ok x:=rfl;have i1:bb (.tup [x,y]) (.int 1)=.ok y:=rfl;have ln:cQ (.tup [x,y])=.ok (.int 2):=rfl;have ty:dX .tuple (.tup [x,y])=Ch:=rfl;have w1:=kD x 0 5;have w2:=Cp y 1;simp only[e6];generalize D.tup [x,y]=p at i0 i1 ln ty ⊢;cases h1:n5 x 0 5<;>simp -implicitDefEqProofs [du,ty,ln,i0,i1,w1,w2,h1]
 |.tup []=>simp[du,Z.kA,e6]
 |.tup [x]=>simp[du,Z.kA,e6]
 |.tup<|x::y::z::r=>
  have:¬((r.length:Int)+1+1+1=2):=by lia
  simp[du,Z.kA,e6,this]
 |.non=>simp[du,Z.kA,e6]
 |.bl _=>simp[du,Z.kA,e6]
 |.int _=>simp[du,Z.kA,e6]
 |.str _=>simp[du,Z.kA,e6]
 |.lst _=>simp[du,Z.kA,e6]
 |.dct _ _=>simp[du,Z.kA,e6]
def Zx:D->Int
|.tup [.int r,_]=>r
|_=>0
theorem Ge{d:D}(h:e6 d=Ch):∃(r a:Nat),d=zR (r,a)/\r<=5/\1<=a/\a<10^60:=by
 match d,h with
 |.tup [x,y],h=>
  simp only[e6,A35]at h
  match x,y,h with
  |.int r,.int a,h=>
   have h1:=A50 h.1;have h2:=A50 h.2;refine⟨r.toNat,a.toNat,?_,by lia,by lia,?_⟩
   .show D.tup [.int r,.int a]=D.tup [.int (r.toNat:Int),.int (a.toNat:Int)];rw[B76 h1.1,B76 ∅]
   .have:(a.toNat:Int)<10^60:=by rw[B76 ∅];exact Int.lt_of_le_sub_one h2.2
    exact_mod_cast this
theorem xF:∀{xs:γ D},xs.all e6=Ch->∃ws:γ (Nat×Nat),(∀p∈ws,p.1<=5/\1<=p.2/\p.2<10^60)/\xs=ws.map zR
|[],_=>⟨[],by simp,rfl⟩
|d::xs,h=>by
 rw[B55,A35]at h;let⟨r,a,rfl,h1,h2,h3⟩:=Ge h.1;let⟨ws,hw,rfl⟩:=xF h.2;exact⟨(r,a)::ws,λ p hp=>by
  rcases A00.mp hp with rfl|hp
  .exact⟨h1,h2,h3⟩
  .exact hw p hp,rfl⟩
def E4(xs:γ D):Bool:=decide ((xs.map Zx).Pairwise (· < ·))
def HB:D->Bool
|.tup xs=>xs.all e6&&E4 xs
|_=>AT
theorem MN(ws:γ (Nat×Nat)):E4 (ws.map zR)=((FB<|ws.length-1).all λ n=>decide<|(ws.getD n (0,0)).1<(ws.getD (n+1) (0,0)).1):=by
 rw[A78,I!];unfold E4;rw[decide_eq_true_iff,A36];rw[B40,B40];constructor
 .exact λ h=>h.imp λ {a b} h=>by have h:((a.1:Nat):Int)<(b.1:Nat):=h;lia
 .exact λ h=>h.imp λ {a b} h=>by show((a.1:Nat):Int)<(b.1:Nat);lia
theorem uI(xs:γ D):Ok (cm (bA 0) cF (aD KS.ie<|aa (eV 0) av) [At] xs) λ ds=>ds=xs.map λ p=>D.bl (e6 p):=by have:=dM (λ d:D=>d) (g:=bA 0) (t:=cF) (e:=aD KS.ie (aa (eV 0) av)) (ρ:=[At]) (λ _=>Ch) (λ p=>.bl<|e6 p) (xs:=xs) (Q:=λ ds=>ds=xs.map λ p=>D.bl (e6 p)) (λ p hp'=>by simp -implicitDefEqProofs [P5 p]) (by rw[B38.mpr λ _ _=>rfl]);simpa using this
theorem WY{d:D}(h:EE d):iE [d]=.ok (.bl<|HB d):=by
 cases d with
 |tup xs=>
  have LW:xs.length<=16777216:=by have:=h.t xs rfl;lia
  have aw:=all_map e6 xs;show _=Res.ok (D.bl<|xs.all e6&&E4 xs);cases hb:xs.all e6 with
  |false=>
   rw[hb]at aw;rw[ku];refine aT ?_;simp -implicitDefEqProofs [hX,Z.kA,line,LW,bV,eP];refine(uI xs).imp ?_;rintro ds rfl;have:iX (.lst<|xs.map λ p=>D.bl<|e6 p)=.ok (.bl AT):=by simp only[iX,aw]
   rw[this];simp
  |true=>
   rw[hb]at aw;let⟨ws,h1,h2⟩:=xF hb;have aw2:=all_map (λ n=>decide<|(ws.getD n (0,0)).1<(ws.getD (n+1) (0,0)).1)<|List.range<|ws.length-1;have e1:«zints» 0 (ws.length-1)=(FB<|ws.length-1).map λ n=>D.int (n:Nat):=by unfold «zints»;exact B05 λ n _=>by simp
   rw[ku];refine aT ?_;simp -implicitDefEqProofs [hX,Z.kA,line,LW,bV,eP];refine(uI xs).imp ?_;rintro ds rfl;have:iX (.lst<|xs.map λ p=>D.bl<|e6 p)=.ok (.bl Ch):=by simp only[iX,aw]
   rw[this,h2,MN];have VQ:ws.length<=16777216:=by rw[h2]at LW;simpa using LW
   simp -implicitDefEqProofs [line,VQ];rw[e1];refine⟨by lia,(I? ws).imp ?_⟩;rintro ds rfl;simp only[iX,aw2];simp
 |_=>rw[ku];refine aT ?_;simp[hX,Z.kA,HB]
def Aw(x1 x2 x4:D):Bool:=match x1,x2 with
|.int w,.int d=>n5 x4 0<|w*d
|_,_=>AT
theorem mR(w d:Int)(x4:D):Aw (.int w) (.int d) x4=n5 x4 0 (w*d):=rfl
def vR:D->Bool
|.tup [x0,x1,x2,x3,x4,x5,x6,x7]=>sL x0&&n5 x1 1 12&&n5 x2 1 3&&Aw x1 x2 x4&&vw x3&&n5 x5 0 6&&n5 x6 0 (10^60-1)&&HB x7
|_=>AT
structure Ct(t:D):Prop where
 l:∀xs,t=.tup xs->xs.length<=1000/\∀x∈xs,EE x
theorem Fy{d:D}{a b:Int}(h:n5 d a b=Ch):∃n:Int,d=.int n/\a<=n/\n<=b:=by
 cases d with
 |int n=>exact⟨n,rfl,(A50 h).1,(A50 h).2⟩
 |_=>cases h
theorem SK{x0 x1 x2 x3 x4 x5 x6 x7:D}(h3:EE x3):eX [.tup [x0,x1,x2,x3,x4,x5,x6,x7]]=.ok (.bl<|n5 x1 1 12&&n5 x2 1 3&&Aw x1 x2 x4&&vw x3&&n5 x5 0 6):=by
 have i1:bb (.tup [x0,x1,x2,x3,x4,x5,x6,x7]) (.int 1)=.ok x1:=rfl;have i2:bb (.tup [x0,x1,x2,x3,x4,x5,x6,x7]) (.int 2)=.ok x2:=rfl;have i3:bb (.tup [x0,x1,x2,x3,x4,x5,x6,x7]) (.int 3)=.ok x3:=rfl;have i4:bb (.tup [x0,x1,x2,x3,x4,x5,x6,x7]) (.int 4)=.ok x4:=rfl;have i5:bb (.tup [x0,x1,x2,x3,x4,x5,x6,x7]) (.int 5)=.ok x5:=rfl;generalize D.tup [x0,x1,x2,x3,x4,x5,x6,x7]=GG at i1 i2 i3 i4 i5 ⊢;have w1:=kD x1 1 12;have w2:=kD x2 1 3;have w5:=kD x5 0 6;have wk:=Rw h3;rw[qy];refine aT ?_;cases b1:n5 x1 1 12 with
 |false=>rw[b1]at w1;simp -implicitDefEqProofs [cL,i1,w1]
 |true=>
  rw[b1]at w1;let⟨w,rfl,hw1,Yg⟩:=Fy b1;cases b2:n5 x2 1 3 with
  |false=>rw[b2]at w2;simp -implicitDefEqProofs [cL,i1,i2,w1,w2]
  |true=>
   rw[b2]at w2;let⟨d,rfl,Yq,hd2⟩:=Fy b2;have m:eT w d:=xY ∅ ∅;have w4:=kD x4 0<|w*d;cases b4:n5 x4 0 (w*d)with
   |false=>rw[b4]at w4;simp -implicitDefEqProofs [cL,i1,i2,i4,w1,w2,w4,m,b4,mR]
   |true=>
    rw[b4]at w4;cases bk:vw x3 with
    |false=>rw[bk]at wk;simp -implicitDefEqProofs [cL,i1,i2,i3,i4,w1,w2,w4,wk,m,b4,mR]
    |true=>rw[bk]at wk;simp -implicitDefEqProofs [cL,i1,i2,i3,i4,i5,w1,w2,w4,w5,wk,m,b4,mR]
theorem WA:∀{xs:γ D},xs.length=8->∃x0 x1 x2 x3 x4 x5 x6 x7,xs=[x0,x1,x2,x3,x4,x5,x6,x7]
|[a,b,c,d,e,f,g,h],_=>⟨a,b,c,d,e,f,g,h,rfl⟩
theorem Kp{xs:γ D}(h:xs.length≠8):vR (.tup xs)=AT:=by
 unfold vR;split
 .rename_i e;cases e;exact absurd rfl h
 .rfl
theorem FG{t:D}(h:Ct t):cO [t]=.ok (.bl<|vR t):=by
 cases t with
 |tup xs=>
  let⟨hl,hf⟩:=h.l xs rfl;by_cases h8:xs.length=8
  .let⟨x0,x1,x2,x3,x4,x5,x6,x7,rfl⟩:=WA h8;have i0:bb (.tup [x0,x1,x2,x3,x4,x5,x6,x7]) (.int 0)=.ok x0:=rfl;have i6:bb (.tup [x0,x1,x2,x3,x4,x5,x6,x7]) (.int 6)=.ok x6:=rfl;have i7:bb (.tup [x0,x1,x2,x3,x4,x5,x6,x7]) (.int 7)=.ok x7:=rfl;have ty:dX .tuple (.tup [x0,x1,x2,x3,x4,x5,x6,x7])=Ch:=rfl;have ln:cQ (.tup [x0,x1,x2,x3,x4,x5,x6,x7])=.ok (.int 8):=rfl;have wn:=JJ<|hf x0 ∅;have wa:=SK (x0:=x0) (x1:=x1) (x2:=x2) (x4:=x4) (x5:=x5) (x6:=x6) (x7:=x7)<|hf x3 ∅;have w6:=Cp x6 0;have ww:=WY<|hf x7 ∅;simp only[vR];generalize Aw x1 x2 x4=b4 at wa ⊢;generalize D.tup [x0,x1,x2,x3,x4,x5,x6,x7]=GG at i0 i6 i7 ty ln wa ⊢;rw[mD];refine aT ?_;cases bn:sL x0 with
   |false=>rw[bn]at wn;simp -implicitDefEqProofs [fy,ty,ln,i0,wn]
   |true=>
    rw[bn]at wn;cases ba:(n5 x1 1 12&&n5 x2 1 3&&b4&&vw x3&&n5 x5 0 6)with
    |false=>rw[ba]at wa;simp only[B49,ba,AC4];simp -implicitDefEqProofs [fy,ty,ln,i0,wn,wa]
    |true=>
     rw[ba]at wa;simp only[B49,ba];cases b6:n5 x6 0 (10^60-1)with
     |false=>rw[b6]at w6;simp -implicitDefEqProofs [fy,ty,ln,i0,i6,wn,wa,w6]
     |true=>rw[b6]at w6;simp -implicitDefEqProofs [fy,ty,ln,i0,i6,i7,wn,wa,w6,ww]
  .rw[Kp h8,mD];refine aT ?_;have:¬((xs.length:Int)=8):=by lia
   simp[fy,Z.kA,this]
 |_=>rw[mD];refine aT ?_;simp[fy,Z.kA,vR]
end iU
namespace iU
open Z
abbrev yo:γ Nat:=[70,117,108,108]
abbrev dk(x:Nat)(hall gs hl ps:D):D:=.dct [.inl (x:Int),.inl 0,.inr [104,97,108,108],.inr [103,117,101,115,116,115],.inr [104,101,108,100],.inr [112,108,97,99,101,115]] [hall,gs,hl,ps]
theorem eqT(s t:γ Nat):oEq (.str s) (.str t)=.ok (.bl<|decide<|s=t):=by have:kS (.str s) (.str t)=AC (s==t):=rfl;unfold oEq;rw[this];simp only[Res.ok.injEq,D.bl.injEq];exact A78.mpr ∅
def oG(d:D):γ Nat:=match bb d (.int 0)with
|.ok<|.str n=>n
|_=>[]
def EB(g:D):Prop:=bb g (.int 0)=.ok (.str<|oG g)
section
variable{x:Nat}{hall hl ps:D}{gs as bs:γ D}{g p:D}{n:γ Nat}
abbrev JE:SF:=jR (tE<|eB oEq (eB bb (eW 3)<|eC<|.int 0)<|eW 1) (bj<|eV 2) b7
theorem Bn(h:EB g)(i:Nat)(d:D)(a b:ε L)(r:γ D):jE (kq [2,3]) JE (pair (.int (i:Nat)) g::r) [AC (.bor d),v (.str n),a,b]=if oG g=n then .ok (.rt<|.int (i:Nat))else jE (kq [2,3]) JE r [AC (.bor d),v (.str n),v (.int (i:Nat)),v g]:=by
 have ic:∀ρ:Env,kq [2,3] (.tup [.int (i:Nat),g]) ρ=.ok ((ρ.set 2<|v<|.int (i:Nat)).set 3<|v g):=λ ρ=>rfl;by_cases c:oG g=n
 .rw[f8 c];simp[jE,pair,ic,JE,(show bb g (.int 0)=.ok (.str<|oG g)from h),eqT,c]
 .rw[P3 c];simp[jE,pair,ic,JE,(show bb g (.int 0)=.ok (.str<|oG g)from h),eqT,c]
theorem Nb(h:∀d∈as++g::bs,EB d)(hm:∀a∈as,oG a≠n)(hg:oG g=n)(d:D):∀(i:Nat)(a b:ε L),jE (kq [2,3]) JE (mE i<|as++g::bs) [AC (.bor d),v (.str n),a,b]=.ok (.rt<|.int ((i+as.length:Nat):Int)):=by
 induction as with
 |nil=>intro i a b;exact(Bn (h g ∅) i d a b _).trans<|f8 hg
 |cons y as ih=>intro i a b;refine(Bn (h y ∅) i d a b _).trans ?_;rw[P3<|hm y A18];refine(ih (λ z hz=>h z<|A11 _ hz) (λ z hz=>hm z<|A11 _ hz) (i+1) _ _).trans ?_;rw[A38,show i+1+as.length=i+(as.length+1)by lia]
theorem Q!(e:KS.fh [.str n]=.ok (.bl Ch))(h:∀d∈as++g::bs,EB d)(hm:∀a∈as,oG a≠n)(hg:oG g=n):dJ [dk x hall (.tup<|as++g::bs) hl ps,.str n]=.ok (.int (as.length:Nat)):=by rw[qC];refine aT ?_;have:=Nb h hm hg (dk x hall (.tup<|as++g::bs) hl ps) 0 At At;rw[A93]at this;simp[iz,e,eM,ia,qr,cC,Fz,mh,line,this]
theorem FF{gs:D}:aO [dk x hall gs hl ps]=.ok gs:=by rw[uc];refine aT ?_;simp[jO,eM,ia,qr,cC]
theorem uZ{gs:D}:bg [dk x hall gs hl ps]=.ok ps:=by rw[ub];refine aT ?_;simp[jN,eM,ia,qr,cC]
theorem N_{gs k d LW:D}(h:dJ [dk x hall gs hl ps,.str n]=.ok k)(hp:bb ps k=.ok d)(hw:KH.cN [hl,k,d]=.ok LW):bF [dk x hall gs hl ps,.str n]=.ok (.non,[dk x hall gs LW ps]):=by unfold bF;rw[vV _ _ _ _ _ rfl];have s0:startB 3 [Ch,AT] [dk x hall gs hl ps,.str n]=[AC (.bor<|dk x hall gs hl ps),v (.str n),At]:=rfl;rw[s0];simp[sZ,bY,a_,tQ,h,hw,hp,eM,ia,qr,A5,lV,cC,bS,iY,lO,line,guard_pos,iZ];rfl
end
section
variable{x:Nat}{hall ps g:D}{gs hs:γ D}{n:γ Nat}
theorem Mx{a b c:D}{W:Int}(h:KB.jl [a,b,c]=.ok (.int W))(hW:W<=2000):e? [a,b,c]=At:=by rw[lC];have:decide (2000<W)=AT:=A37 ∅;simp[gG,jS,CH,xE,h,this]
theorem SH{a b c:D}{W:Int}(h:KB.jl [a,b,c]=.ok (.int W))(hW:W<=2000):e_ [a,b,c]=At:=by have:=Mx h hW;rw[lD];simp[gH,jS,ja,this];split<;>first|rfl|(split<;>rfl)
theorem l9(h:∀g∈gs,EB g)(ρ:Env)(hρ:ρ.length=1):cm (bA 0) cF (eB bb (eW 0)<|eC<|.int 0) ρ gs=.ok (gs.map λ g=>.str<|oG g):=by
 have:Ok (cm (bA 0) cF (eB bb (eW 0)<|eC<|.int 0) ρ gs) λ ds=>ds=gs.map λ g=>.str (oG g):=by
  match ρ,hρ with
  |[a],_=>refine comp_map _ (λ d hd=>?_) rfl;have:=h d hd;unfold EB at this;simp[this]
 exact this.eq
theorem yy(n:γ Nat):∀ms:γ (γ Nat),hZ (.str n) (ms.map .str)=AC (decide<|n∈ms)
|[]=>rfl
|m::ms=>by
 have e:kS (.str m) (.str n)=AC (m==n):=rfl;have ih:=yy n ms;by_cases c:n=m
 .subst c;simp[hZ,e,ih]
 .simp[hZ,e,ih,c,A07 c]
theorem BJ(n:γ Nat)(ms:γ (γ Nat)):wZ (.str n) (.lst<|ms.map .str)=.ok (.bl<|decide<|n∈ms)/\ze (.str n) (.lst<|ms.map .str)=.ok (.bl<|!decide (n∈ms)):=by
 have:=yy n ms;constructor
 .simp[wZ,this]
 .simp[ze,wZ,this]
theorem uF(hg:KS.cO [g]=.ok (.bl Ch))(e0:EB g)(hn:∀g∈gs,EB g)(hm:∀y∈gs,oG y≠oG g):wZ (.str<|oG g) (.lst<|gs.map λ g=>.str<|oG g)=.ok (.bl AT):=by have:=(BJ (oG g)<|gs.map oG).1;rw[A36]at this;refine this.trans ?_;rw[A37];intro h;let⟨y,hy,e⟩:=A05.mp h;exact hm y hy e
theorem SN{d Pa:D}(hg:KS.cO [g]=.ok (.bl Ch))(e0:EB g)(hn:∀g∈gs,EB g)(hm:∀y∈gs,oG y≠oG g)(h5:gs.length<=5)(h5':hs.length<=5)(hb:KB.cA [hall,.tup (gs++[g]),.tup (hs++[.non])]=.ok Pa)(hp:iW Pa=.ok (.bl AT))(hd:bb Pa (.int<|-1)=.ok d):
 aZ [dk x hall (.tup gs) (.tup hs) ps,g]=.ok (d,[dk x hall (.tup<|gs++[g]) (.tup<|hs++[.non]) Pa]):=by
 have HW:bb g (.int 0)=.ok (.str<|oG g):=e0;have xn:=uF hg e0 hn hm;have cg:=λ ρ hρ=>l9 hn ρ hρ;unfold aZ;rw[vV _ _ _ _ _ rfl];have s0:startB 5 [Ch,AT] [dk x hall (.tup gs) (.tup hs) ps,g]=[AC (.bor<|dk x hall (.tup gs) (.tup hs) ps),v g,At,At,At]:=rfl;rw[s0];have l6:decide (6<(((gs++[g]).length:Nat):Int))=AT:=A37 (by rw[A55];simp;lia);have q0:gs.length<=16777216:=by lia
 have q1:gs.length<=16777215:=by lia
 have q2:hs.length<=16777215:=by lia
 have q3:decide (6<(gs.length:Int)+1)=AT:=A37 ∅;simp[wy,bY,a_,tQ,hg,HW,hd,hb,hp,xn,bV,eP,cg,q0,q1,q2,q3,l6,eM,ia,qr,A5,lV,cC,bS,iY,lO,line,guard_pos,iZ];rfl
theorem PV{Pa:D}{W:Int}{r:ε XN}(hg:KS.cO [g]=.ok (.bl Ch))(e0:EB g)(hn:∀g∈gs,EB g)(hm:∀y∈gs,oG y≠oG g)(h5:gs.length<=5)(h5':hs.length<=5)(hw:KB.jl [hall,.tup (gs++[g]),.tup (hs++[.non])]=.ok (.int W))(hW:W<=2000)(hb:KB.cA [hall,.tup (gs++[g]),.tup (hs++[.non])]=.ok Pa)
 (hr:(iW Pa=.ok (.bl AT)/\r=At)\/∃pp,Pa=.non/\KC.gy [hall,.tup (gs++[g]),.tup (hs++[.non])]=.ok pp/\r=AC (yo,[([112,97,112,101,114],pp)])):bB [dk x hall (.tup gs) (.tup hs) ps,g]=r:=by
 have HW:bb g (.int 0)=.ok (.str<|oG g):=e0;have xn:=uF hg e0 hn hm;have cg:=λ ρ hρ=>l9 hn ρ hρ;have bx:=SH hw hW;have q0:gs.length<=16777216:=by lia
 have q1:gs.length<=16777215:=by lia
 have q2:hs.length<=16777215:=by lia
 have q3:decide (6<(gs.length:Int)+1)=AT:=A37 ∅;rw[gQ];rcases hr with⟨hp,rfl⟩|⟨pp,rfl,hpp,rfl⟩
 .simp[dY,jS,CH,xE,ja,kh,iA,hg,HW,xn,hb,hp,bx,bV,eP,cg,q0,q1,q2,q3,eM,ia,qr,cC,line,guard_pos]
 .have hp:iW .non=.ok (.bl Ch):=rfl;simp[dY,jS,CH,xE,ja,kh,iA,hg,HW,xn,hb,hp,hpp,bx,bV,eP,cg,q0,q1,q2,q3,eM,ia,qr,cC,line,guard_pos]
theorem oo(d:D):Qf (AC<|some<|.bor d)=d:=rfl
end
end iU
set_option maxHeartbeats 1000000
namespace iU
open Z
open KG (G GO Pl Rows Hall GrpG GOk aS bz cY bZ places b! bN)
open KH (aF aH Good)
open KB (bD fL cZ nM Ext Full cw wS b9)
structure Qg(g:G):Prop extends Dq g where
 S7:g.w<=12
 d3:g.d<=3
 g6:g.gap<=6
 nm:KS.h! g.name=Ch
 n8:g.name.length<=8
 ws:∃wt:Nat,wt<=100/\g.worth=.int (wt:Nat)/\(g.ki=.tup []\/g.ki=.tup [.tup [.int 1,.int 1]])
theorem Qg.ok{g:G}(h:Qg g):GrpG g:=by
 let⟨wt,_,e1,e2⟩:=h.ws;have w1:=h.w1;have d1:=h.d1;have S7:=h.S7;have d3:=h.d3;have g6:=h.g6;refine⟨⟨w1,by lia,d1,by lia,by rw[h.kd];simp,by rw[h.wd];simp,by lia⟩,S7,d3,.inl h.kd,by rw[h.wd];simp,g6,?_⟩;rcases e2 with e2|e2
 .exact⟨wt,[],by simp,e1,by rw[e2];rfl⟩
 .exact⟨wt,[(1,1)],by simp,e1,by rw[e2];rfl⟩
theorem Qg.is{g:G}(h:Qg g):KS.cO [aS g]=.ok (.bl Ch):=by
 let⟨wt,Pu,e1,e2⟩:=h.ws;have w1:=h.w1;have d1:=h.d1;have S7:=h.S7;have d3:=h.d3;have g6:=h.g6;have n8:=h.n8;have fw:EE g.ki:=by rcases e2 with e2|e2<;>rw[e2]<;>exact⟨λ cs z=>by(cases z),λ xs z=>by cases z;simp⟩
 have ft:Ct (aS g):=⟨λ xs z=>by
  unfold aS at z;cases z;refine⟨by simp,λ x hx=>?_⟩;simp only[A00,A19,A24]at hx;rcases hx with rfl|rfl|rfl|rfl|rfl|rfl|rfl|rfl
  .exact⟨λ cs z=>by(cases z;lia),λ xs z=>by cases z⟩
  .exact⟨λ cs z=>by(cases z),λ xs z=>by cases z⟩
  .exact⟨λ cs z=>by(cases z),λ xs z=>by cases z⟩
  .exact⟨λ cs z=>by(cases z;rw[h.kd];simp),λ xs z=>by cases z⟩
  .exact⟨λ cs z=>by(cases z),λ xs z=>by cases z⟩
  .exact⟨λ cs z=>by(cases z),λ xs z=>by cases z⟩
  .rw[e1];exact⟨λ cs z=>by(cases z),λ xs z=>by cases z⟩
  .exact fw⟩
 rw[FG ft]
 congr 2
 have a7:HB g.ki=Ch:=by rcases e2 with e2|e2<;>rw[e2]<;>decide +kernel
 have iw:KS.n5 (.int (g.w:Int)) 1 12=Ch:=A56 ∅;have id':KS.n5 (.int (g.d:Int)) 1 3=Ch:=A56 ∅;have ig:KS.n5 (.int (g.gap:Int)) 0 6=Ch:=A56 ∅;have it:KS.n5 (.int (wt:Int)) 0 (10^60-1)=Ch:=A56 ⟨by lia,Int.le_trans (show(wt:Int)<=100 by lia) (by decide +kernel)⟩;have i4:Aw (.int (g.w:Int)) (.int (g.d:Int)) (.int ((0:Nat):Int))=Ch:=by rw[mR];have:=Int.mul_nonneg (show(0:Int)<=g.w by lia) (show(0:Int)<=g.d by lia);show decide ((0:Int)<=((0:Nat):Int)/\((0:Nat):Int)<=(g.w:Int)*(g.d:Int))=Ch;exact A56 ⟨by simp,by simpa using this⟩
 have kd:vw (.str [])=Ch:=by decide +kernel
 have nm:sL (.str g.name)=Ch:=h.nm;show vR (.tup [.str g.name,.int g.w,.int g.d,.str g.kind,.int g.wide,.int g.gap,g.worth,g.ki])=Ch;rw[h.kd,h.wd,e1];simp only[vR,nm,iw,id',ig,it,i4,kd,a7,C06]
theorem LQ(g:G):EB (aS g)/\oG (aS g)=g.name:=⟨rfl,rfl⟩
structure Aj(R C:Nat)(xs m:List GO):Prop where
 six:xs.length<=6
 Ha:∀x∈xs,Qg x.1
 names:(xs.map (·.1.name)).Nodup
 few:bD (bW R C) C xs<=2000
 best:nM (bW R C) C xs m
section
variable{R C:Nat}{xs m:γ GO}{g:G}{x:Nat}
theorem Aj.good(s:Aj R C xs m):Good (bW R C) xs:=s.best.good.sub s.best.ext.sub
abbrev desk(R C x:Nat)(xs m:γ GO):D:=dk x (bZ<|bW R C) (aF xs) (aH xs)<|aH m
theorem zJ(xs:γ GO)(g:G):aF (xs++[(g,At)])=.tup (xs.map (λ x=>aS x.1)++[aS g])/\aH (xs++[(g,At)])=.tup (xs.map (λ x=>cY x.2)++[.non]):=by
 constructor
 .simp[aF]
 .simp[aH,cY]
theorem pY(s:Aj R C xs m)(hn:∀y∈xs,y.1.name≠g.name):(∀d∈xs.map (λ x=>aS x.1),EB d)/\∀d∈xs.map (λ x=>aS x.1),oG d≠oG (aS g):=by
 constructor
 .intro d hd;let⟨y,_,rfl⟩:=A05.mp hd;exact(LQ _).1
 .intro d hd;let⟨y,hy,rfl⟩:=A05.mp hd;exact hn y hy
theorem Nz(d:D)(ds:γ D)(h:ds.length<=100):bb (.tup<|ds++[d]) (.int<|-1)=.ok d:=by
 have e:Ae (ds.length+1) (-1)=AC ds.length:=by unfold Ae;simp;lia
 simp[bb,e,line,guard_pos]
theorem oZ{rows:Rows}{xs:γ GO}{g:G}{o:ε Pl}(h:Good rows xs)(hn:∀p,o=AC p->b! rows g p=Ch/\∀x∈xs,∀q,x.2=AC q->bN g p x.1 q=Ch):Good rows (xs++[(g,o)]):=by
 have at_:∀{i:Nat}{x:GO},(xs++[(g,o)])[i]?=AC x->xs[i]?=AC x\/i=xs.length/\x=(g,o):=λ {i x} e=>by
  by_cases hi:i<xs.length
  .rw[A25 hi]at e;exact .inl e
  .rw[A44 ∅]at e;have:i=xs.length:=by have:=(A04.mp e).1;simp at this;lia
   subst this;simp at e;exact .inr ⟨rfl,e.symm⟩
 intro i k p e;rcases at_ e with e0|⟨hi,e2⟩
 .refine⟨(h i k p e0).1,λ j l q ej hj=>?_⟩;rcases at_ ej with ej|⟨_,e2⟩
  .exact(h i k p e0).2 j l q ej hj
  .cases e2;rw[KG.yx];exact(hn q rfl).2 _ (A13 e0) p rfl
 .cases e2;refine⟨(hn p rfl).1,λ j l q ej hj=>?_⟩;rcases at_ ej with ej|⟨Ym,_⟩
  .exact(hn p rfl).2 _ (A13 ej) q rfl
  .exact absurd (Ym.trans hi.symm) hj
theorem eE(rows:Rows)(xs:γ GO)(x:GO):bD rows C (xs++[x])=bD rows C xs*fL rows C x:=by unfold bD;rw[A63,KB.je];simp[cZ]
theorem kQ(hR:1<=R)(N6:R<=6)(hC:1<=C)(cj:C<=12)(s:Aj R C xs m)(qg:Qg g)(hn:∀y∈xs,y.1.name≠g.name)(h5:xs.length<=5)(hw:bD (bW R C) C (xs++[(g,At)])<=2000)
 (hr:∃p,b! (bW R C) g p=Ch/\∀x∈m,∀q,x.2=AC q->bN g p x.1 q=Ch) :
 ∃m' p,Aj R C (xs++[(g,At)]) m'/\m'[xs.length]?=AC (g,AC p)/\∀x,bB [desk R C x xs m,aS g]=At/\aZ [desk R C x xs m,aS g]=.ok (bz p,[desk R C x (xs++[(g,At)]) m']):=by
 have H:=se hR N6 hC cj;let⟨p0,hf0,ha0⟩:=hr;have h6:(xs++[(g,At)]).length<=6:=by simp;lia
 have hq:∀x∈xs++[((g,At):GO)],Qg x.1:=λ x hx=>by
  rcases A53.mp hx with h|h
  .exact s.Ha x h
  .cases A22.mp h;exact qg
 have hg:∀x∈xs++[((g,At):GO)],GrpG x.1:=λ x hx=>(hq x hx).ok;have DX:∀x∈xs++[((g,At):GO)],GOk x.1:=λ x hx=>(hg x hx).toGOk;have hk:Good (bW R C) (xs++[(g,At)]):=oZ s.good λ p e=>nomatch e
 have ef:=KB.r9 H h6 DX hk
 -- there is one
 have ml:m.length=xs.length:=KB.zt s.best.ext.gs.symm;have ex:Ext (xs++[(g,At)]) (m++[(g,AC p0)]):=by
  refine⟨by simp[s.best.ext.gs],λ i k p e=>?_⟩;by_cases hi:i<xs.length
  .rw[A25 hi]at e;rw[A25 ∅];exact s.best.ext.sub i k p e
  .rw[A44 ∅]at e;have:=A13 e;simp at this
 have gd:Good (bW R C) (m++[(g,AC p0)]):=oZ s.best.good λ p e=>by cases e;exact⟨hf0,ha0⟩
 have fl:Full (m++[(g,AC p0)]):=λ i k e=>by
  by_cases hi:i<m.length
  .rw[A25 hi]at e;exact s.best.full i k e
  .rw[A44 ∅]at e;have:=A13 e;simp at this
 have mi:=KB.BQ H DX ex gd fl;have am:=KB.yz H h6 hg hk hw ef;cases e:b9 (bW R C) C AT (xs++[(g,At)]) (xs++[((g,At):GO)]).length with
 |nil=>rw[e]at mi;cases mi
 |cons b r=>
  have bm:=KB.F6 H DX hk e;rw[e]at am;have SS:KB.cA [bZ (bW R C),aF (xs++[(g,At)]),aH (xs++[(g,At)])]=.ok (aH<|cw Ch wS b r):=am;generalize cw Ch wS b r=m' at bm SS;have Z6:m'.length=xs.length+1:=by have:=KB.zt bm.ext.gs.symm;simpa using this
  let⟨o',e1,_⟩:=bm.ext.at (k:=xs.length) (g:=g) (o:=At) ∅;obtain⟨p,rfl⟩:∃p,o'=AC p:=by
   cases o' with
   |none=>exact absurd e1<|bm.full _ _
   |some p=>exact⟨p,rfl⟩
  have nd:((xs++[((g,At):GO)]).map (·.1.name)).Nodup:=by rw[A63,xL];refine⟨s.names,by simp,λ a ha b hb=>?_⟩;let⟨y,hy,rfl⟩:=A05.mp ha;simp at hb;subst hb;exact hn y hy
  refine⟨m',p,⟨h6,hq,nd,hw,bm⟩,e1,λ x=>?_⟩;let⟨n1,n2⟩:=pY s hn;let⟨q1,q2⟩:=zJ xs g;have hp:iW (aH m')=.ok (.bl AT):=rfl;have hd:bb (aH m') (.int<|-1)=.ok (bz p):=by
   have qQ:m'≠[]:=λ z=>by rw[z]at Z6;simp at Z6
   have em:m'=m'.dropLast++[(g,AC p)]:=by
    have h1:=(List.dropLast_concat_getLast qQ).symm;have h2:m'.getLast qQ=(g,AC p):=by rw[List.getLast_eq_getElem];have:=(A04.mp e1).2;simpa[Z6]using this
    rw[h2]at h1;exact h1
   rw[em];show bb (.tup<|(m'.dropLast++[((g,AC p):GO)]).map λ x=>cY x.2) (.int<|-1)=_;rw[A63];exact Nz _ _ (by rw[A17,List.length_dropLast];lia)
  rw[q1,q2]at SS;have Pw:=KB.uf H h6 DX ef;rw[q1,q2]at Pw;have h5a:(xs.map λ x=>aS x.1).length<=5:=by simpa using h5
  have h5b:(xs.map λ x=>cY x.2).length<=5:=by simpa using h5
  have ax:=PV (x:=x) (ps:=aH m) (r:=At) qg.is (LQ g).1 n1 n2 h5a h5b Pw ∅ SS<|.inl ⟨hp,rfl⟩;have ao:=SN (x:=x) (ps:=aH m) qg.is (LQ g).1 n1 n2 h5a h5b SS hp hd;rw[<-q1,<-q2]at ao;exact⟨ax,ao⟩
abbrev cGr:γ Nat:=[84,111,111,71,114,101,97,116]
abbrev cNG:γ Nat:=[78,111,71,114,111,117,112]
abbrev cTw:γ Nat:=[84,119,105,99,101]
abbrev LL(a b:Int):XN:=(cGr,[([109,97,110,121],.int a),([109,111,115,116],.int b)])
theorem IG{a b c:D}{W:Int}(h:KB.jl [a,b,c]=.ok (.int W))(hW:2000<W):e_ [a,b,c]=AC (LL W 2000):=by
 have:e? [a,b,c]=AC (LL W 2000):=by rw[lC];simp[gG,jS,xE,ja,h,CH,hW,iA,LL]
 rw[lD];simp[gH,jS,ja,this]
theorem Cm{gs hl ps d:D}(h:KS.cO [d]=.ok (.bl AT))(hall:D):bB [dk x hall gs hl ps,d]=AC (cNG,[]):=by rw[gQ];simp[dY,jS,CH,kh,h]
theorem yu(s:Aj R C xs m)(qg:Qg g)(hn:∃y∈xs,y.1.name=g.name):bB [desk R C x xs m,aS g]=AC (cTw,[]):=by
 have n1:∀d∈xs.map (λ x=>aS x.1),EB d:=λ d hd=>by let⟨y,_,rfl⟩:=A05.mp hd;exact(LQ _).1
 have HW:bb (aS g) (.int 0)=.ok (.str g.name):=rfl;have cg:=λ ρ hρ=>l9 n1 ρ hρ;have xn:wZ (.str g.name) (.lst<|(xs.map λ x=>aS x.1).map λ g=>.str<|oG g)=.ok (.bl Ch):=by have:=(BJ g.name<|(xs.map λ x=>aS x.1).map oG).1;rw[A36]at this;refine this.trans ?_;rw[A56];let⟨y,hy,e⟩:=hn;exact A05.mpr ⟨aS y.1,A05.mpr ⟨y,hy,rfl⟩,e⟩
 have q0:(xs.map λ x=>aS x.1).length<=16777216:=by simp;have:=s.six;lia
 rw[gQ];generalize hG:xs.map (λ x=>aS x.1)=GS at cg xn q0;have eG:aF xs=.tup GS:=by rw[<-hG];rfl
 simp[dY,jS,CH,xE,kh,qg.is,HW,xn,bV,eP,cg,q0,eM,ia,qr,cC,line,guard_pos,eG]
theorem yv(s:Aj R C xs m)(qg:Qg g)(hn:∀y∈xs,y.1.name≠g.name)(h6:xs.length=6):bB [desk R C x xs m,aS g]=AC (LL 7 6):=by
 let⟨n1,n2⟩:=pY s hn;have HW:bb (aS g) (.int 0)=.ok (.str<|oG<|aS g):=rfl;have cg:=λ ρ hρ=>l9 n1 ρ hρ;have xn:=uF qg.is (LQ g).1 n1 n2;have q0:(xs.map λ x=>aS x.1).length=6:=by simpa using h6
 rw[gQ];generalize hG:xs.map (λ x=>aS x.1)=GS at cg xn q0;have eG:aF xs=.tup GS:=by rw[<-hG];rfl
 simp[dY,jS,CH,xE,kh,iA,qg.is,HW,xn,bV,eP,cg,q0,eM,ia,qr,cC,line,guard_pos,eG,LL]
theorem A0(s:Aj R C xs m)(qg:Qg g)(h5:xs.length<=5):(xs++[((g,At):GO)]).length<=6/\(∀x∈xs++[((g,At):GO)],Qg x.1)/\(∀x∈xs++[((g,At):GO)],GOk x.1)/\Good (bW R C) (xs++[(g,At)]):=by
 have hq:∀x∈xs++[((g,At):GO)],Qg x.1:=λ x hx=>by
  rcases A53.mp hx with h|h
  .exact s.Ha x h
  .cases A22.mp h;exact qg
 exact⟨by simp;lia,hq,λ x hx=>(hq x hx).ok.toGOk,oZ s.good λ p e=>nomatch e⟩
theorem yw(hR:1<=R)(N6:R<=6)(hC:1<=C)(cj:C<=12)(s:Aj R C xs m)(qg:Qg g)(hn:∀y∈xs,y.1.name≠g.name)(h5:xs.length<=5)(hw:2000<bD (bW R C) C (xs++[(g,At)])):
 bB [desk R C x xs m,aS g]=AC (LL (bD (bW R C) C (xs++[(g,At)]):Nat) 2000):=by
 have H:=se hR N6 hC cj;let⟨h6,hq,DX,hk⟩:=A0 s qg h5;have Pw:=KB.uf H h6 DX<|KB.r9 H h6 DX hk;let⟨q1,q2⟩:=zJ xs g;rw[q1,q2]at Pw;have bx:=IG Pw ∅;let⟨n1,n2⟩:=pY s hn;have HW:bb (aS g) (.int 0)=.ok (.str<|oG<|aS g):=rfl;have cg:=λ ρ hρ=>l9 n1 ρ hρ;have xn:=uF qg.is (LQ g).1 n1 n2;have q0:(xs.map λ x=>aS x.1).length<=5:=by simpa using h5
 have q9:(xs.map λ x=>cY x.2).length<=5:=by simpa using h5
 rw[gQ];generalize bD (bW R C) C (xs++[(g,At)])=W at bx;generalize hG:xs.map (λ x=>aS x.1)=GS at cg xn q0 bx;generalize hO:xs.map (λ x=>cY x.2)=OS at bx q9;have eG:aF xs=.tup GS:=by rw[<-hG];rfl
 have eO:aH xs=.tup OS:=by rw[<-hO];rfl
 have l1:GS.length<=16777216:=by lia
 have l2:GS.length<=16777215:=by lia
 have l3:OS.length<=16777215:=by lia
 have l4:decide (6<(GS.length:Int)+1)=AT:=A37 ∅;simp[dY,jS,CH,xE,ja,kh,iA,qg.is,HW,xn,bV,eP,cg,l1,l2,l3,l4,eM,ia,qr,cC,line,guard_pos,eG,eO,bx]
theorem Cn(hR:1<=R)(N6:R<=6)(hC:1<=C)(cj:C<=12)(s:Aj R C xs m)(qg:Qg g)(hn:∀y∈xs,y.1.name≠g.name)(h5:xs.length<=5)(hw:bD (bW R C) C (xs++[(g,At)])<=2000)
 (no:∀z,Ext (xs++[(g,At)]) z->Good (bW R C) z->¬Full z):∃pp,∀x,bB [desk R C x xs m,aS g]=AC (yo,[([112,97,112,101,114],pp)]):=by
 have H:=se hR N6 hC cj;let⟨h6,hq,DX,hk⟩:=A0 s qg h5;have ef:=KB.r9 H h6 DX hk;have Pw:=KB.uf H h6 DX ef;have am:=KB.yz H h6 (λ x hx=>(hq x hx).ok) hk hw ef;have sn:b9 (bW R C) C AT (xs++[(g,At)]) (xs++[((g,At):GO)]).length=[]:=by
  cases e:b9 (bW R C) C AT (xs++[(g,At)]) (xs++[((g,At):GO)]).length with
  |nil=>rfl
  |cons b r=>have bm:=KB.F6 H DX hk e;exact absurd bm.full<|no _ bm.ext bm.good
 rw[sn]at am;have SS:KB.cA [bZ (bW R C),aF (xs++[(g,At)]),aH (xs++[(g,At)])]=.ok .non:=am;rcases KC.Bc H h6 DX hk hw ef with⟨z,_⟩|⟨_,pp,ep,_⟩
 .exact absurd sn z
 .let⟨q1,q2⟩:=zJ xs g;rw[q1,q2]at Pw SS ep;let⟨n1,n2⟩:=pY s hn;exact⟨pp,λ x=>PV (x:=x) (ps:=aH m) qg.is (LQ g).1 n1 n2 (by simpa using h5) (by simpa using h5) Pw ∅ SS<|.inr ⟨pp,rfl,ep,rfl⟩⟩
theorem r8(s:Aj R C xs m){k:Nat}{p:Pl}(hx:∃o,xs[k]?=AC (g,o))(hm:m[k]?=AC (g,AC p)):∃lL,lL=xs.set k (g,AC p)/\Aj R C lL m/\∀x,bF [desk R C x xs m,.str g.name]=.ok (.non,[desk R C x lL m]):=by
 let⟨o,hx⟩:=hx;have hk:=(A04.mp hx).1;refine⟨_,rfl,⟨by rw[AC0];exact s.six,λ y hy=>?_,?_,A27 (KB.Ax p hx) s.few,s.best.put hm⟩,λ x=>?_⟩
 .rcases C49 hy with h|rfl
  .exact s.Ha y h
  .exact s.Ha (g,o)<|A13 hx
 .have:(xs.set k (g,AC p)).map (·.1.name)=xs.map (·.1.name):=by
   rw[B42];refine B17 λ i=>?_;rw[A31];split
   .rename_i z;subst z;rw[A08,hx];simp[hk]
   .rfl
  rw[this];exact s.names
 .have sp:xs=xs.take k++(g,o)::xs.drop (k+1):=by have:=(A04.mp hx).2;rw[<-this,<-A90 hk,C45]
  have qg:=s.Ha _<|A13 hx;have nm:KS.fh [.str g.name]=.ok (.bl Ch):=by have:=JJ (d:=.str g.name) ⟨λ cs z=>by(cases z;have:=qg.n8;dsimp only at this;lia),λ xs z=>by(cases z)⟩;rw[this];have:sL (.str g.name)=Ch:=qg.nm;rw[this]
  have ga:∀d∈(xs.take k).map (λ x=>aS x.1)++aS g::(xs.drop<|k+1).map (λ x=>aS x.1),EB d:=λ d hd=>by
   rcases A53.mp hd with h|h
   .let⟨y,_,rfl⟩:=A05.mp h;exact(LQ _).1
   .rcases A00.mp h with rfl|h
    .exact(LQ _).1
    .let⟨y,_,rfl⟩:=A05.mp h;exact(LQ _).1
  have gm:∀a∈(xs.take k).map (λ x=>aS x.1),oG a≠g.name:=λ a ha=>by let⟨y,hy,rfl⟩:=A05.mp ha;have nd:=s.names;rw[sp,A63,xL]at nd;exact nd.2.2 y.1.name (A05.mpr ⟨y,hy,rfl⟩) g.name ∅
  have num:=Q! (x:=x) (hall:=bZ (bW R C)) (hl:=aH xs) (ps:=aH m) (g:=aS g) nm ga gm rfl;have eG:aF xs=.tup ((xs.take k).map (λ x=>aS x.1)++aS g::(xs.drop<|k+1).map (λ x=>aS x.1)):=by
   unfold aF
   conv=>lhs;rw[sp]
   simp
  rw[<-eG,A17,A26,B67<|A70 hk]at num;have wp:=(KB.uH s.six hx p).1;have ip:bb (aH m) (.int (k:Nat))=.ok (bz p):=(jb (xs:=m.map λ y:GO=>cY y.2) (i:=k) (j:=k) rfl (by rw[A08,hm];rfl)).1;have fo:=N_ num ip wp;have eG':aF (xs.set k (g,AC p))=aF xs:=by
   refine KB.D6 ?_;rw[B42];refine B17 λ i=>?_;rw[A31];split
   .rename_i z;subst z;rw[A08,hx];simp[hk]
   .rfl
  show bF [dk x (bZ<|bW R C) (aF xs) (aH xs) (aH m),.str g.name]=.ok (.non,[dk x (bZ<|bW R C) (aF<|xs.set k (g,AC p)) (aH<|xs.set k (g,AC p)) (aH m)]);rw[eG'];exact fo
end
abbrev kb(k:Nat):D:=.lst [.bl (decide<|0=k),.bl (decide<|1=k),.bl (decide<|2=k),.bl (decide<|3=k),.bl (decide<|4=k),.bl (decide<|5=k),.bl (decide<|6=k),.bl (decide<|7=k),.bl (decide<|8=k),.bl (decide<|9=k)]
theorem o6{k:Nat}(h:k<4):bf [.int (k:Nat)]=.ok (.lst [kb k]):=by
 rw[Ea];refine aT ?_;have e10:«zints» 0 10=[.int 0,.int 1,.int 2,.int 3,.int 4,.int 5,.int 6,.int 7,.int 8,.int 9]:=rfl;have eq:∀a b:Int,oEq (.int a) (.int b)=.ok (.bl<|decide<|a=b):=λ a b=>by have:kS (.int a) (.int b)=AC (a==b):=rfl;unfold oEq;rw[this];simp only[Res.ok.injEq,D.bl.injEq];exact Bool.eq_iff_iff.mpr (by simp)
 have hk:k=0\/k=1\/k=2\/k=3:=by lia
 rcases hk with rfl|rfl|rfl|rfl<;>simp[sk,bV,line,eP,sY,e10,cm,eq]
theorem qb(c:XN)(k:Nat)(h:(c.1=cNG/\k=0)\/(c.1=cTw/\k=1)\/(c.1=cGr/\k=2)\/(c.1=yo/\k=3)):g9 c=.ok (kb k):=by let⟨c,fs⟩:=c;rw[zP];refine aT ?_;rcases h with⟨h,rfl⟩|⟨h,rfl⟩|⟨h,rfl⟩|⟨h,rfl⟩<;>(dsimp only at h;subst h;simp[j_,o4,nC,Gc,line,ny])
section
variable{x:Nat}{hall gs hl ps d:D}
theorem xJ{r:D}{L?:D}(hx:bB [dk x hall gs hl ps,d]=At)(h:aZ [dk x hall gs hl ps,d]=.ok (r,[L?])):aW [dk x hall gs hl ps,d]=.ok (.lst [.str [116,97,107,101,110]],[L?]):=by unfold aW;rw[vV _ _ _ _ _ rfl];have s0:startB 4 [Ch,AT] [dk x hall gs hl ps,d]=[AC (.bor<|dk x hall gs hl ps),v d,At,At]:=rfl;rw[s0];simp[lx,bY,a_,G4,iO,ck,ja,hx,h,eM,cC,bS,iY,lO,line,guard_pos,iZ,HI,h9,fS,oo]
theorem ug{a b:Int}(hx:bB [dk x hall gs hl ps,d]=AC (LL a b)):aW [dk x hall gs hl ps,d]=.ok (.lst [kb 2,.int a,.int b],[dk x hall gs hl ps]):=by have kd:=qb (LL a b) 2<|.inr<|.inr<|.inl ⟨rfl,rfl⟩;unfold aW;rw[vV _ _ _ _ _ rfl];have s0:startB 4 [Ch,AT] [dk x hall gs hl ps,d]=[AC (.bor<|dk x hall gs hl ps),v d,At,At]:=rfl;rw[s0];simp[lx,bY,a_,G4,TB,Ka,iO,ck,ja,hx,r_,kd,WC,Gc,eM,cC,bS,iY,lO,line,guard_pos,iZ,HI,h9,fS,oo]
theorem pC{c:XN}{k:Nat}(hx:bB [dk x hall gs hl ps,d]=AC c)(h:(c.1=cNG/\k=0)\/(c.1=cTw/\k=1)\/(c.1=yo/\k=3)):aW [dk x hall gs hl ps,d]=.ok (.lst [kb k],[dk x hall gs hl ps]):=by have kd:=qb c k (by rcases h with h|h|h<;>simp[h]);unfold aW;rw[vV _ _ _ _ _ rfl];have s0:startB 4 [Ch,AT] [dk x hall gs hl ps,d]=[AC (.bor<|dk x hall gs hl ps),v d,At,At]:=rfl;rw[s0];let⟨c,fs⟩:=c;rcases h with⟨h,rfl⟩|⟨h,rfl⟩|⟨h,rfl⟩<;>(dsimp only at h;subst h;simp[lx,bY,a_,G4,TB,Ka,iO,ck,ja,hx,r_,kd,Gc,eM,cC,bS,iY,lO,line,guard_pos,iZ,HI,h9,fS,oo])
end
theorem md(x b:Int)(h:0<b):oMod (.int x) (.int b)=.ok (.int<|x % b):=guard_pos h
theorem dv(x b:Int)(h:0<b)(h2:b<1000):oDiv (.int x) (.int b)=.ok (.int<|x / b):=by show guard (j8 b) (Res.ok<|D.int<|x / b)=_;exact guard_pos ⟨h,Int.lt_trans h2 ∅⟩
structure OW(ns:List (List Nat)):Prop where
 len:ns.length=8
 ok:∀n∈ns,KS.h! n=Ch/\n.length<=8
 nd:ns.Nodup
section
variable{R C:Nat}{xs m:γ GO}{g:G}{x:Nat}{ns:γ (γ Nat)}
structure HE(R C:Nat)(ns:List (List Nat))(j:Nat)(xs:List GO):Prop where
 jo:Aj R C xs xs
 len:xs.length=j
 Ng:xs.map (·.1.name)=ns.take j
 one:∀y∈xs,y.1.d=1/\y.1.gap=0/\∃p,y.2=AC p
 wid:(xs.map (·.1.w)).sum<=j+min j 2
theorem mS(rows:Rows)(h:∀y∈xs,∃p,y.2=AC p):bD rows C xs=1:=by
 unfold bD
 induction xs with
 |nil=>rfl
 |cons y ys ih=>let⟨p,e⟩:=h y A18;rw[A12];show fL rows C y*cZ _=1;rw[ih λ z hz=>h z<|A11 _ hz];unfold fL;rw[e];rfl
theorem xK(w:Nat)(hw:1<=w):∀l:γ GO,(l.map λ x=>w+x.1.w-1).sum=(l.map (·.1.w)).sum+l.length*(w-1)
|[]=>by simp
|y::l=>by have:=xK w hw l;simp only[A12,B59,A38,this,Nat.add_mul,A80];lia
theorem KR(h:∀y∈xs,∃p,y.2=AC p){p:Pl}(e:Ext (xs++[(g,At)]) m)(el:m[xs.length]?=AC (g,AC p)):m=xs++[(g,AC p)]:=by
 have hl:m.length=xs.length+1:=by have:=e.len;simpa using this.symm
 refine B17 λ i=>?_;by_cases hi:i<xs.length
 .rw[A25 hi];obtain⟨⟨k,o⟩,ei⟩:∃y,xs[i]?=AC y:=⟨_,A01 hi⟩
  let⟨q,rfl⟩:=h _ (A13 ei);rw[ei];exact e.sub i k q (by rw[A25 hi];exact ei)
 .by_cases hj:i=xs.length
  .subst hj;rw[el];simp
  .rw[B24 ∅,B24 (by simp;lia)]
abbrev aY(n:γ Nat)(w wt:Nat):G:=⟨n,w,1,[],0,0,.int (wt:Nat),.tup []⟩
theorem j5{n:γ Nat}{w wt:Nat}(h:KS.h! n=Ch/\n.length<=8)(h1:1<=w)(h2:w<=12)(h3:wt<=100):Qg (aY n w wt):=
 ⟨⟨rfl,rfl,h1,v6 1⟩,h2,by show 1<=3;decide,by show 0<=6;decide,h.1,h.2,wt,h3,rfl,.inl rfl⟩
theorem KD(hR:1<=R)(wK:R<=3)(hC:8<=C)(cj:C<=12)(N:OW ns){j:Nat}(hj:j<6)(f:HE R C ns j xs){w wt:Nat}(hw:1<=w)(Yg:w<=1+(if j<2 then 1 else 0))(Pu:wt<=100){n:γ Nat}(hn:ns[j]?=AC n):
 ∃p lL,HE R C ns (j+1) lL/\∃ys,∀x,aZ [desk R C x xs xs,aS (aY n w wt)]=.ok (bz p,[desk R C x ys lL])/\bF [desk R C x ys lL,.str n]=.ok (.non,[desk R C x lL lL]):=by
 have _8:1<=C:=by lia
 have N6:R<=6:=by lia
 have w2:w<=2:=by split at Yg<;>lia
 have nm:=N.ok n<|A13 hn;have qg:=j5 (wt:=wt) nm hw ∅ Pu;have held:∀y∈xs,∃p,y.2=AC p:=λ y hy=>(f.one y hy).2.2;have FD:∀y∈xs,y.1.name≠n:=λ y hy e=>by
  have m1:n∈ns.take j:=by rw[<-f.Ng,<-e];exact A05.mpr ⟨y,hy,rfl⟩
  let⟨i,hi⟩:=A76 m1;have oY:i<j:=by have:=(A04.mp hi).1;rw[A26]at this;lia
  rw[B20 oY]at hi;have:=(B79 (A04.mp hi).1 N.nd).mp<|hi.trans hn.symm;lia
 have fl:=f.len;have wl:=f.wid;have ways:bD (bW R C) C (xs++[(aY n w wt,At)])<=2000:=by rw[eE,mS _ held,A80];show(places (bW R C) C<|aY n w wt).length+1<=2000;rw[sH qg.toDq];have:(R+1-1)*(C+1-w)<=3*12:=B14 ∅ ∅;show(R+1-1)*(C+1-w)+1<=2000;lia
 let⟨m',p,s',el,ak⟩:=kQ hR N6 _8 cj f.jo qg FD ∅ ways (by
  let⟨c,h1,h2⟩:=room (R:=R) (C:=C) (m:=xs) hR qg.toDq rfl rfl (λ y hy=>⟨(f.one y hy).2.1,(f.jo.Ha y hy).w1,λ q e=>by
   let⟨i,ei⟩:=A76 hy;have:=(gA (f.jo.Ha y hy).toDq).mp (f.jo.good i y.1 q (by rw[ei,<-e])).1;exact this.1⟩) (by
    show(xs.map λ x=>w+x.1.w-1).sum<C+1-w;rw[xK w hw,fl];by_cases h2:j<2
    .have:j*(w-1)<=j*1:=Nat.mul_le_mul_left j ∅;lia
    .rw[P3 h2]at Yg;have:w=1:=by lia
     subst this;simp;lia)
  exact⟨_,h1,h2⟩)
 have em:=KR held s'.best.ext el;subst em;let⟨lL,ex',s2,ft⟩:=r8 (k:=xs.length) (g:=aY n w wt) (p:=p) s' ⟨At,by simp⟩ el;have ex2:lL=xs++[(aY n w wt,AC p)]:=by rw[ex',C29 _ _<|v6 _];simp
 subst ex2;refine⟨p,xs++[(aY n w wt,AC p)],⟨s2,by simp[fl],?_,λ y hy=>?_,?_⟩,xs++[(aY n w wt,At)],λ x=>⟨(ak x).2,ft x⟩⟩
 .rw[A63,f.Ng,C08,hn];rfl
 .rcases A53.mp hy with h|h
  .exact f.one y h
  .cases A22.mp h;exact⟨rfl,rfl,p,rfl⟩
 .rw[A63,List.sum_append];show _+(w+0)<=_;split at Yg<;>lia
end
end iU
namespace iU
open Z
def Dw(z:Int):Nat:=cq.getD (z % 26).toNat 0
theorem Ph(z:Int):Dw z∈cq/\bb (.str cq) (.int<|z % 26)=.ok (.str [Dw z]):=by
 have h26:cq.length=26:=rfl;have hj:(z % 26).toNat<cq.length:=by lia
 have e:cq[(z % 26).toNat]?=AC (Dw z):=by unfold Dw;rw[B39,A01 hj];rfl
 exact⟨A13 e,BD (j:=(z % 26).toNat) ∅ e ∅⟩
theorem Ny{a b:Int}(h:Dw a=Dw b):a % 26=b % 26:=by
 have q:∀i<26,∀j<26,cq.getD i 0=cq.getD j 0->i=j:=by decide
 have:=q (a % 26).toNat ∅ (b % 26).toNat ∅ h;lia
def LR(c at' st:Int)(k j:Nat):Nat:=Dw<|c / (400+30*(j:Int)*(j:Int))+st*(k:Int)*(if(j:Int)=at' then 1 else 0)
theorem zl(c:Int):∃Ng:γ (γ Nat),Ng.length=8/\Ng.Nodup/\(∀n∈Ng,KS.EC n)/\gU [.int c,.int 8]=.ok (.lst<|Ng.map .str):=by
 obtain⟨st,vL,est⟩:∃s:Nat,s∈([1,3,5,7,9,11]:γ Nat)/\bb (.lst [.int 1,.int 3,.int 5,.int 7,.int 9,.int 11]) (.int<|c / 64 % 6)=.ok (.int s):=by let⟨d,hd,e,_⟩:=qc (xs:=([1,3,5,7,9,11]:γ Nat).map λ n=>D.int (n:Nat)) (i:=c / 64 % 6) ∅ (by simp;lia);let⟨s,hs,rfl⟩:=A05.mp hd;exact⟨s,hs,e⟩
 obtain⟨n,hn⟩:∃n:Nat,1+c % 8=n:=⟨(1+c % 8).toNat,by lia⟩
 have h1:1<=n:=by lia
 have h8:n<=8:=by lia
 have hn0:(0:Int)<n:=by lia
 have fd:∀j:Nat,j<8->j8 (400+30*(j:Int)*(j:Int)):=by unfold j8;decide
 have f30:∀x,eT 30 x:=λ x=>xY ∅ ∅;have fj:∀x (j:Nat),j<100->eT x (j:Int):=λ x j hj=>jq ∅ ∅;have f0:∀x,eT x 0:=λ x=>jq ∅ ∅;have f1:∀x,eT x 1:=λ x=>jq ∅ ∅;obtain⟨a,ha⟩:∃a:Int,c / 8 % n=a:=⟨_,rfl⟩
 have ha0:0<=a:=by rw[<-ha];exact Int.emod_nonneg _ ∅
 have _3:a<n:=by rw[<-ha];exact Int.emod_lt_of_pos _ hn0
 have:Ok (cu<|j! [v (.int c),v (.int 8),At,At,At,At,At,At,At,At,At]) λ d=>d=.lst ((FB 8).map λ k=>.str<|(FB n).map<|LR c a st k):=by
  refine C9 ?_;simp[j!,v_,hn,hn0,est,line,h1,ha];refine⟨by lia,?_⟩;refine mv (λ i ρ=>∃x7 x8 x9 LM,ρ=[vi c,vi 8,vs cq,vi n,vi a,vi st,ow ((FB i).map λ k=>.str<|(FB n).map<|LR c a st k),x7,x8,x9,LM]) ⟨At,At,At,At,rfl⟩ ?_ ?_
  .rintro i d ρ hd ⟨x7,x8,x9,LM,rfl⟩;let⟨hi,rfl⟩:=zz hd;simp;refine mv (λ j ρ=>∃x9 LM,ρ=[vi c,vi 8,vs cq,vi n,vi a,vi st,ow ((FB i).map λ k=>.str<|(FB n).map<|LR c a st k),vi (i:Nat),vs ((FB j).map<|LR c a st i),x9,LM]) ⟨_,_,rfl⟩ ?_ ?_
   .rintro j d ρ hj ⟨x9,LM,rfl⟩;let⟨hj,rfl⟩:=zz hj;have hj8:j<8:=by lia
    let⟨hq,eq⟩:=Ph (c / (400+30*(j:Int)*(j:Int))+st*(i:Int)*(if(j:Int)=a then 1 else 0));by_cases he:(j:Int)=a
    .rw[f8 he,B45]at eq;have ht:((j:Int)=a)=True:=eq_true he;simp[f0,f1,f30,fj _ j ∅,fj _ i ∅,fd j hj8,ht,tO,line,eq];simp[A74,LR,ht];lia
    .rw[P3 he,Int.mul_zero,Int.add_zero]at eq;simp[f0,f1,f30,fj _ j ∅,fj _ i ∅,fd j hj8,he,tO,line,eq];simp[A74,LR,he];lia
   .rintro ρ ⟨x9,LM,rfl⟩;rw[mj];simp[line,A74];lia
  .rintro ρ ⟨x7,x8,x9,LM,rfl⟩;rw[mj];simp
 have RO:1<=st/\st<=11:=(by decide:∀s∈([1,3,5,7,9,11]:γ Nat),1<=s/\s<=11) st vL;rw[<-zN]at this;let⟨d,e,rfl⟩:=this;have nk:∀k,KS.EC ((FB n).map<|LR c a st k):=λ k=>⟨by simp;lia,by simp;lia,λ q hq=>by let⟨j,_,rfl⟩:=A05.mp hq;exact(Ph _).1⟩
 refine⟨(FB 8).map λ k=>(FB n).map<|LR c a st k,by simp,?_,λ q hq=>?_,by rw[e,A36];rfl⟩
 .refine B40.mpr<|C48 (λ {k k'} hk Tw (lt:k<k') z=>?_) C43;rw[A32]at hk Tw;have Wf:a.toNat<n:=by lia
  have g:∀k,((FB n).map<|LR c a st k)[a.toNat]?=AC (LR c a st k a.toNat):=λ k=>by rw[A08,List.getElem?_range Wf];rfl
  have z2:=(g k).symm.trans<|(A10 (λ l:γ Nat=>l[a.toNat]?) z).trans<|g k';have z3:=Ny<|A06 z2;have ea:((a.toNat:Nat):Int)=a:=by lia
  rw[f8 ea]at z3;generalize c / (400+30*((a.toNat:Nat):Int)*((a.toNat:Nat):Int))=y at z3;simp only[B45]at z3;have fin:∀s∈([1,3,5,7,9,11]:γ Nat),∀k<8,∀k'<8,k<k'->(s*k) % 26≠(s*k') % 26:=by decide
  have:=fin st vL k hk k' Tw lt;have e1:(st:Int)*(k:Int)=((st*k:Nat):Int):=by push_cast;rfl
  have e2:(st:Int)*(k':Int)=((st*k':Nat):Int):=by push_cast;rfl
  rw[e1,e2]at z3;generalize st*k=p at *;generalize st*k'=q at *;lia
 .let⟨k,_,rfl⟩:=A05.mp hq;exact nk k
end iU
namespace iU
open Z
open KG (G GO Pl Rows Hall GrpG GOk aS bz cY bZ places b! bN)
open KH (aF aH Good)
open KB (bD fL cZ nM Ext Full cw wS b9)
section
variable{R C:Nat}{xs m:γ GO}{g:G}{x:Nat}{ns:γ (γ Nat)}
abbrev fB:SM:=(bY (a_ (iZ 0 [Ch,AT,AT,AT])<|bG 5<|eB cb (eC<|.int 1)<|eB fC (eB oMod (eB oDiv (eB bb (eW 2)<|eW 4)<|eC<|.int 7)<|eC<|.int 2)<|eU tO<|eB oLt (eW 4)<|eC<|.int 2)<|bY (jU (tP<|mU iW<|ck aZ [Ch,AT] [0]<|aa (eM 0 0)<|aa (br<|aa (eB bb (eW 1)<|eW 4)<|aa (eV 5)<|aa (eC<|.int 1)<|aa (eC<|.str [])<|aa (eC<|.int 0)<|aa (eC<|.int 0)<|aa (eB oMod (eB oDiv (eB bb (eW 2)<|eW 4)<|eC<|.int 14)<|eC<|.int 3)<|aa (br av) av) av) (a_ (iZ 0 [Ch,AT,AT,AT])<|bj<|eC<|.bl AT) gN)<|iO<|ck bF [Ch,AT] [0]<|aa (eM 0 0)<|aa (eB bb (eW 1)<|eW 4) av)
theorem Wt:qL=bY (Du (iZ 0 [Ch,AT,AT,AT]) (iR<|eV 3) (bA 4) fB) (a_ (iZ 0 [Ch,AT,AT,AT])<|bj<|eC<|.bl Ch):=rfl
abbrev fE(DK N K M:D)(l4 l5:ε L):Env:=[AC (.bor DK),v N,v K,v M,l4,l5]
def Vo(l:ε L):Prop:=l=At\/∃d,l=v d
theorem He{DK DK1 DK2 K M p:D}{j:Nat}{n:γ Nat}{c:Int}{w wt:Nat}{k0:γ (Sum Int<|γ Nat)}{a0 a1 a2:Int}{k1 k2:γ (Sum Int<|γ Nat)}{v0 v1 v2:γ D}(e0:DK=.dct (.inl a0::.inl 0::k0) v0)(e1:DK1=.dct (.inl a1::.inl 0::k1) v1)(e2:DK2=.dct (.inl a2::.inl 0::k2) v2)
 (hn:bb (.lst<|ns.map .str) (.int (j:Nat))=.ok (.str n)) (hc:bb K (.int (j:Nat))=.ok (.int c)) (hw:1+c / 7 % 2*(if j<2 then 1 else 0)=(w:Int)) (Pu:c / 14 % 3=(wt:Int)) (hp:iW p=.ok (.bl AT))
 (ha:aZ [DK,aS (aY n w wt)]=.ok (p,[DK1])) (hf:bF [DK1,.str n]=.ok (.non,[DK2])) (r:γ D){l4 l5:ε L}(h4:Vo l4) (h5:Vo l5) :
 gR [0] (bA 4) fB (.int (j:Nat)::r) (fE DK (.lst<|ns.map .str) K M l4 l5)=gR [0] (bA 4) fB r (fE DK2 (.lst<|ns.map .str) K M (v<|.int (j:Nat))<|v<|.int (w:Nat)):=by
 subst e0 e1 e2;have o1:tO (.bl<|decide<|(j:Int)<2)=.ok (.int<|if j<2 then 1 else 0):=by
  by_cases h:j<2
  .have:(j:Int)<2:=by lia
   simp[h,this,tO]
  .have:¬(j:Int)<2:=by lia
   simp[h,this,tO]
 have o2:fC (.int<|c / 7 % 2) (.int<|if j<2 then 1 else 0)=.ok (.int<|c / 7 % 2*(if j<2 then 1 else 0)):=by show guard _ _=_;exact guard_pos<|Or.inr<|Or.inl ⟨by split<;>decide,by split<;>decide⟩
 have Wf:aZ [.dct (.inl a0::.inl 0::k0) v0,.tup [.str n,.int (w:Nat),.int 1,.str [],.int 0,.int 0,.int (wt:Nat),.tup []]]=.ok (p,[.dct (.inl a1::.inl 0::k1) v1]):=ha;rcases h4 with rfl|⟨d4,rfl⟩<;>rcases h5 with rfl|⟨d5,rfl⟩ <;>
 simp[gR,fE,fB,bY,a_,jU,tP,mU,iO,ck,hn,hc,dv c 7 ∅ ∅,md (c / 7) 2 ∅,o1,o2,hw,dv c 14 ∅ ∅,md (c / 14) 3 ∅,Pu,Wf,hp,hf,eM,bS,iY,lO,line,guard_pos,HI,h9,fS,oo,iZ,gN,Qf]
theorem ib{α}{f:α->D}{l:γ α}{j:Nat}{a:α}(h:l[j]?=AC a):bb (.lst<|l.map f) (.int (j:Nat))=.ok (f a):=by exact(jb rfl (by rw[A08,h];rfl)).2
theorem yh(hR:1<=R)(wK:R<=3)(hC:8<=C)(cj:C<=12)(N:OW ns){K M:D}(hK:∀j<6,∃c,bb K (.int (j:Nat))=.ok (.int c)):∀(d j:Nat) xs l4 l5,j+d<=6->HE R C ns j xs->Vo l4->Vo l5 ->
 ∃lL Z! Z',HE R C ns (j+d) lL/\∀x,gR [0] (bA 4) fB ((List.range' j d).map λ i:Nat=>.int (i:Nat)) (fE (desk R C x xs xs) (.lst<|ns.map .str) K M l4 l5)=.ok (.nx<|fE (desk R C x lL lL) (.lst<|ns.map .str) K M Z! Z')
|0,j,xs,l4,l5,_,f,_,_=>⟨xs,l4,l5,f,λ _=>rfl⟩
|d+1,j,xs,l4,l5,hd,f,h4,h5=>by
 let⟨c,hc⟩:=hK j ∅;have hjn:j<ns.length:=by rw[N.len];lia
 obtain⟨n,hn⟩:∃n,ns[j]?=AC n:=⟨_,A01 hjn⟩
 obtain⟨w,hw⟩:∃w:Nat,1+c / 7 % 2*(if j<2 then 1 else 0)=(w:Int):=⟨(1+c / 7 % 2*(if j<2 then 1 else 0)).toNat,by split<;>lia⟩
 obtain⟨wt,Pu⟩:∃wt:Nat,c / 14 % 3=(wt:Int):=⟨(c / 14 % 3).toNat,by lia⟩
 let⟨p,lL,f',ys,e⟩:=KD hR wK hC cj N ∅ f (w:=w) (wt:=wt) (by split at hw<;>lia) (by split at hw<;>split<;>lia) ∅ hn;let⟨xs2,Z!,Z',f2,q⟩:=yh hR wK hC cj N hK d (j+1) lL (v<|.int (j:Nat)) (v<|.int (w:Nat)) ∅ f' (.inr ⟨_,rfl⟩) (.inr ⟨_,rfl⟩);refine⟨xs2,Z!,Z',by rw[<-B74,Nat.add_right_comm];exact f2,λ x=>?_⟩;rw[List.range'_succ,A12];exact(He rfl rfl rfl (ib hn) hc hw Pu rfl (e x).1 (e x).2 _ h4 h5).trans<|q x
theorem Hc(hR:1<=R)(wK:R<=3)(hC:8<=C)(cj:C<=12)(N:OW ns){K:D}(hK:∀j<6,∃c,bb K (.int (j:Nat))=.ok (.int c)){k:Nat}(hk:k<=6)(f0:HE R C ns 0 []):
 ∃lL,HE R C ns k lL/\∀x,iD [desk R C x [] [],.lst (ns.map .str),K,.int (k:Nat)]=.ok (.bl Ch,[desk R C x lL lL]):=by
 let⟨lL,l4,l5,f,q⟩:=yh hR wK hC cj N (M:=.int (k:Nat)) hK k 0 [] At At ∅ f0 (.inl rfl) (.inl rfl);rw[A93]at f;refine⟨lL,f,λ x=>?_⟩;have hr:«zints» 0 k=(List.range' 0 k).map λ i:Nat=>D.int (i:Nat):=by rw[<-List.range_eq_range'];simp[«zints»]
 unfold iD;rw[vV _ _ _ _ _ rfl,Wt];have s0:startB 6 [Ch,AT,AT,AT] [desk R C x [] [],.lst (ns.map .str),K,.int (k:Nat)]=fE (desk R C x [] []) (.lst<|ns.map .str) K (.int (k:Nat)) At At:=rfl;have q':=q x;rw[s0];simp[bY,Du,iR,fE,hr,q',a_,h9,fS,iZ,bS,iY,lO,oo,line]
end
theorem zB{R L:Nat}{rows:Rows}(H:KA.Hall R L rows):vg fH [bZ rows]=.ok [bZ rows,.tup [],.tup [],.tup []]:=by
 have e:KA.ij [.tup (rows.map .str)]=.ok (.bl Ch):=by
  have:=KA.DQ (.tup<|rows.map .str) λ xs e=>by cases e;refine⟨by have:=H.len;have:=H.r2;simp;lia,λ x hx=>?_⟩;let⟨r,hr,rfl⟩:=A05.mp hx;have hl:=H.each r hr;have:=H.l2;exact λ cs e=>by cases e;lia
  rw[this];show Res.ok (D.bl<|KA.BN _)=_;rw[H.b]
 have e:KA.ij [bZ rows]=.ok (.bl Ch):=e;generalize bZ rows=hh at *;refine JY λ x=>?_;unfold fH;rw[vV _ _ _ _ _ rfl];have:mM (startB 2 [Ch,AT] [gD x 0 [] [],hh])=.ok (.nx [AC (.bor<|gD x 0 cC [hh,.tup [],.tup [],.tup []]),v hh]):=by have s0:startB 2 [Ch,AT] [gD x 0 [] [],hh]=[AC (.bor<|gD x 0 [] []),v hh]:=rfl;rw[s0];simp[mM,bY,a_,tQ,e,A5,gD,lV,cC,bS,iY,lO,line,guard_pos]
 rw[this];rfl
theorem vh{d dd:D}(ha:a ρ=.ok d)(hm:vg m [d]=.ok fs)(hT:iY [i] 0 (ρ.set i<|some<|.bor<|.dct [] []))(hr:∀x,∃ts,r (ρ.set i<|some<|.bor<|gD x 0 cC fs)=.ok (.rt dd ts)):rd i m a r ρ=.ok (.rt dd):=by unfold rd;rw[ha,Res.f7,hm,Res.f7,guard_pos hT];refine OM λ x=>?_;let⟨ts,e⟩:=hr x;rw[e];rfl
theorem jh{a b:SM}{ρ ρ1:Env}{r:Res xC}(h1:a ρ=.ok (.nx ρ1))(h2:b ρ1=r):bY a b ρ=r:=by unfold bY;rw[h1];exact h2
theorem call2{f:γ D->Res (D×γ D)}{ρ:Env}{i:Nat}{e:EF}{d r DK L?:D}{a a':Int}{k k':γ (Sum Int<|γ Nat)}{w w':γ D}(e0:DK=.dct (.inl a::.inl 0::k) w)(e1:L?=.dct (.inl a'::.inl 0::k') w')(hρ:ρ[i]?=AC (AC<|.bor DK))(he:e ρ=.ok d)(hf:f [DK,d]=.ok (r,[L?])):
 ck f [Ch,AT] [i] (aa (eM 0 i)<|aa e av) ρ=.ok (r,ρ.set i<|some<|.bor L?):=by
 subst e0 e1;simp[ck,eM,hρ,he,hf,HI,h9,fS,oo,Qf]
section
variable{R C:Nat}{xs m:γ GO}{g:G}{x:Nat}{ns:γ (γ Nat)}
theorem MC(R C:Nat):Aj R C [] []:=by refine⟨by simp,by simp,by simp,by show 1<=2000;decide,⟨⟨rfl,λ i g p h=>(by cases h)⟩,λ i g p h=>(by cases h),λ i g h=>(by cases h),λ z e _ _=>?_⟩⟩;have:=B48 (by rw[<-e.len];rfl);subst this;exact⟨Int.le_refl _,λ _=>.inl rfl⟩
theorem aag(R C:Nat)(ns:γ (γ Nat)):HE R C ns 0 []:=⟨MC R C,rfl,rfl,by simp,by simp⟩
theorem Km(hR:1<=R)(N6:R<=6)(hC:1<=C)(cj:C<=12):KA.Hall R C (bW R C):=
 ⟨hR,N6,hC,cj,B2 R C,λ r hr=>by rw [B78 hr];simp,λ r hr c hc=>by rw[B78 hr]at hc;rw[B78 hc];decide⟩
theorem A!(s:Aj R C xs m)(hR:1<=R)(dg:Qg g)(d1:g.d=1)(g0:g.gap=0)(hg:∀y∈xs,y.1.gap=0)(hs:(xs.map λ y=>g.w+y.1.w-1).sum<C+1-g.w):∃p,b! (bW R C) g p=Ch/\∀y∈m,∀q,y.2=AC q->bN g p y.1 q=Ch:=by
 have e1:m.map (·.1)=xs.map (·.1):=s.best.ext.gs.symm;have e2:∀y∈m,∃z∈xs,z.1=y.1:=λ y hy=>by
  have:y.1∈xs.map (·.1):=by rw[<-e1];exact A05.mpr ⟨y,hy,rfl⟩
  exact A05.mp this
 let⟨c,h1,h2⟩:=room (m:=m) hR dg.toDq d1 g0 (λ y hy=>by
  let⟨z,hz,e⟩:=e2 y hy;rw[<-e];refine⟨hg z hz,(s.Ha z hz).w1,λ p hp=>?_⟩;let⟨i,ei⟩:=A76 hy;have q:=(s.best.good i y.1 p (by rw[ei,<-hp])).1;rw[<-e]at q;exact((gA (s.Ha z hz).toDq).mp q).1) (by
   have:(m.map λ y=>g.w+y.1.w-1)=(m.map (·.1)).map λ y=>g.w+y.w-1:=by rw[A36];rfl
   rw[this,e1,A36];exact hs)
 exact⟨_,h1,h2⟩
end
theorem forM_cons{ms:γ Nat}{g:GF}{b:SM}{d:D}{r:γ D}{ρ ρ1 ρ2:Env}{z:Res xC}(hg:g d ρ=.ok ρ1)(hk:bS ms ρ ρ1)(hb:b ρ1=.ok (.nx ρ2))(hr:gR ms g b r ρ2=z):gR ms g b (d::r) ρ=z:=by rw[gR,hg,Res.f7,guard_pos hk,hb];exact hr
theorem t5{t:Ey}{a:SM}{ρ ρ':Env}(h:t ρ=.ok (AT,ρ')):jU t a gN ρ=.ok (.nx ρ'):=by rw[jU,h];rfl
theorem gL{c:Ga}{e:EF}{ρ ρ':Env}{r r':D}(hc:c ρ=.ok (r,ρ'))(he:e ρ'=.ok r')(hn:kn r r'=.ok (.bl AT)):tP (mB kn c<|mP e) ρ=.ok (AT,ρ'):=by simp[tP,mB,mP,hc,he,hn]
theorem FO{c:Ga}{e:EF}{ρ ρ':Env}{r r':D}(hc:c ρ=.ok (r,ρ'))(he:e ρ'=.ok r')(hn:oEq r r'=.ok (.bl Ch)):mB oEq c (mP e) ρ=.ok (.bl Ch,ρ'):=by simp[mB,mP,hc,he,hn]
theorem jn{c:Ga}{ρ ρ':Env}{r:D}(hc:c ρ=.ok (r,ρ')):iO c ρ=.ok (.nx ρ'):=by rw[iO,hc];rfl
section
variable{R C:Nat}{xs m:γ GO}{g:G}{x:Nat}{ns:γ (γ Nat)}
theorem lR(k:Dq g):fL (bW R C) C (g,At)=(R+1-g.d)*(C+1-g.w)+1:=by show(places (bW R C) C g).length+1=_;rw[sH k]
theorem Kl(R:Nat)(hR:R<=6)(cj:C<=12){e:EF}{ρ:Env}{i:Nat}(h:ρ[i]?=AC (v<|.int (C:Nat)))(he:e ρ=.ok (.int (R:Nat))):eB pW (br<|aa (eB Bl (eC<|.str [46])<|eW i) av) e ρ=.ok (bZ<|bW R C):=by
 have h1:(C:Int)<=16777216:=by lia
 have h2:(R:Int)<=1000000:=by lia
 simp[h,he,line,Q9,M!,h1,h2,guard_pos,bZ,bW]
theorem G1(N:OW ns)(hC:8<=C)(cj:C<=12){n0 n1 n2:γ Nat}(h0:ns[0]?=AC n0)(h1:ns[1]?=AC n1)(h2:ns[2]?=AC n2):
 ∃m1 m2 p0 p1 p2 m3,∀x,aZ [desk 2 C x [] [],aS (aY n0 1 0)]=.ok (bz p0,[desk 2 C x [(aY n0 1 0,At)] m1])
  /\ aZ [desk 2 C x [(aY n0 1 0,At)] m1,aS (aY n1 1 0)]=.ok (bz p1,[desk 2 C x [(aY n0 1 0,At),(aY n1 1 0,At)] m2])
  /\ bB [desk 2 C x [(aY n0 1 0,At),(aY n1 1 0,At)] m2,aS (aY n2 2 1)]=AC (LL ((2*C+1)*(2*C+1)*(2*C-1):Int) 2000)
  /\ bF [desk 2 C x [(aY n0 1 0,At),(aY n1 1 0,At)] m2,.str n0]=.ok (.non,[desk 2 C x [(aY n0 1 0,AC p2),(aY n1 1 0,At)] m2])
  /\ bB [desk 2 C x [(aY n0 1 0,AC p2),(aY n1 1 0,At)] m2,aS (aY n2 2 1)]=At
  /\ ∃r,aZ [desk 2 C x [(aY n0 1 0,AC p2),(aY n1 1 0,At)] m2,aS (aY n2 2 1)]=.ok (r,[desk 2 C x [(aY n0 1 0,AC p2),(aY n1 1 0,At),(aY n2 2 1,At)] m3]):=by
 have GU:∀{i n},ns[i]?=AC n->KS.h! n=Ch/\n.length<=8:=λ h=>N.ok _<|A13 h;have ne:∀{i j a b},ns[i]?=AC a->ns[j]?=AC b->i≠j->a≠b:=λ {i j a b} hi hj oY e=>by subst e;exact oY<|(B79 (A04.mp hi).1 N.nd).mp<|hi.trans hj.symm
 have q0:=j5 (w:=1) (wt:=0) (GU h0) ∅ ∅ ∅;have q1:=j5 (w:=1) (wt:=0) (GU h1) ∅ ∅ ∅;have q2:=j5 (w:=2) (wt:=1) (GU h2) ∅ ∅ ∅;have w1:∀n,(2+1-(aY n 1 0).d)*(C+1-(aY n 1 0).w)+1=2*C+1:=λ n=>by show 2*(C+1-1)+1=_;lia
 have w2:(2+1-(aY n2 2 1).d)*(C+1-(aY n2 2 1).w)+1=2*C-1:=by show 2*(C+1-2)+1=_;lia
 have W0:bD (bW 2 C) C [(aY n0 1 0,At)]=2*C+1:=(eE _ [] _).trans (by rw[lR q0.toDq,w1];exact A80 _);have W1:bD (bW 2 C) C [(aY n0 1 0,At),(aY n1 1 0,At)]=(2*C+1)*(2*C+1):=(eE _ [_] _).trans (by rw[lR q1.toDq,w1,W0]);have W2:bD (bW 2 C) C [(aY n0 1 0,At),(aY n1 1 0,At),(aY n2 2 1,At)]=(2*C+1)*(2*C+1)*(2*C-1):=(eE _ [_,_] _).trans (by rw[lR q2.toDq,w2,W1]);have c5:C=8\/C=9\/C=10\/C=11\/C=12:=by lia
 have b1:(2*C+1)*(2*C+1)<=2000:=by rcases c5 with rfl|rfl|rfl|rfl|rfl<;>decide
 have b2:2000<(2*C+1)*(2*C+1)*(2*C-1):=by rcases c5 with rfl|rfl|rfl|rfl|rfl<;>decide
 have b3:(2*C+1)*(2*C-1)<=2000:=by rcases c5 with rfl|rfl|rfl|rfl|rfl<;>decide
 let⟨m1,p0,s1,l1,a1⟩:=kQ (R:=2) ∅ ∅ ∅ cj (MC 2 C) q0 ∅ ∅ (by rw[B69,W0];lia) (A! (MC 2 C) ∅ q0 rfl rfl ∅ (by show 0<C+1-1;lia));let⟨m2,p1,s2,l2,a2⟩:=kQ (R:=2) ∅ ∅ ∅ cj s1 q1 (by simpa using ne h0 h1 ∅) ∅ (by show bD _ _ [_,_]<=_;rw[W1];exact b1) (A! s1 ∅ q1 rfl rfl ∅ (by show 1+1-1+0<C+1-1;lia));have Ti:∀y∈[(aY n0 1 0,(At:ε Pl)),(aY n1 1 0,At)],y.1.name≠n2:=by simpa using⟨ne h0 h2 ∅,ne h1 h2 ∅⟩
 have gr:=λ x=>yw (x:=x) (R:=2) ∅ ∅ ∅ cj s2 q2 (by simpa using Ti) ∅ (by show _<bD _ _ [_,_,_];rw[W2];exact b2);obtain⟨p2,e2⟩:∃p,m2[0]?=AC (aY n0 1 0,AC p):=by
  let⟨o,e,_⟩:=s2.best.ext.at (k:=0) (g:=aY n0 1 0) (o:=At) rfl;cases o with
  |none=>exact absurd e<|s2.best.full 0 _
  |some p=>exact⟨p,e⟩
 let⟨lL,ex,s3,ft⟩:=r8 s2 (k:=0) (g:=aY n0 1 0) ⟨At,rfl⟩ e2;subst ex;have W3:bD (bW 2 C) C [(aY n0 1 0,AC p2),(aY n1 1 0,At),(aY n2 2 1,At)]=(2*C+1)*(2*C-1):=by refine(eE _ [_,_] _).trans ?_;rw[lR q2.toDq,w2];refine A10 (·*_)<|(eE _ [_] _).trans ?_;rw[lR q1.toDq,w1];exact A80 _
 let⟨m3,p3,s4,l4,a4⟩:=kQ (R:=2) ∅ ∅ ∅ cj s3 q2 (by simpa using Ti) ∅ (by show bD _ _ [_,_,_]<=_;rw[W3];exact b3) (A! s3 ∅ q2 rfl rfl ∅ (by show 2+1-1+(2+1-1+0)<C+1-2;lia));refine⟨m1,m2,p0,p1,p2,m3,λ x=>⟨(a1 x).2,(a2 x).2,?_,ft x,(a4 x).1,_,(a4 x).2⟩⟩;have:=gr x;have e:((bD (bW 2 C) C [(aY n0 1 0,At),(aY n1 1 0,At),(aY n2 2 1,At)]:Nat):Int)=(2*C+1)*(2*C+1)*(2*C-1):=by rw[W2];rcases c5 with rfl|rfl|rfl|rfl|rfl<;>decide
 rw[<-e];exact this
end
section
variable{xs:γ GO}{g:G}{d:D}{f:D->D->ε Bool}
theorem FP(n:Nat)(z:Int):eY n (.int z) (.int z)=AC Ch:=by have:eY n (.int z) (.int z)=AC (z==z):=(by cases n<;>rfl);rw[this,beq_self_eq_true]
theorem Of(n:Nat)(z:γ Nat):eY n (.str z) (.str z)=AC Ch:=by have:eY n (.str z) (.str z)=AC (z==z):=(by cases n<;>rfl);rw[this,beq_self_eq_true]
theorem gu:∀ds,(∀d∈ds,f d d=AC Ch)->allEq f ds ds=AC Ch
|[],_=>rfl
|d::ds,h=>by simp only[allEq,h d A18,gu ds λ z hz=>h z<|A11 _ hz];rfl
theorem uz(n:Nat)(p:Pl):eY (n+1) (bz p) (bz p)=AC Ch:=gu _ λ d hd=>by
 rcases A00.mp hd with rfl|hd
 .exact FP _ _
 .rw[A22.mp hd];exact FP _ _
theorem eqG(h:GrpG g):eY 5 (aS g) (aS g)=AC Ch:=by
 let⟨wt,ws,_,e1,e2⟩:=h.YZ;refine gu _ λ d hd=>?_;simp only[A00,A19,A24]at hd;rcases hd with rfl|rfl|rfl|rfl|rfl|rfl|rfl|rfl
 .exact Of _ _
 .exact FP _ _
 .exact FP _ _
 .exact Of _ _
 .exact FP _ _
 .exact FP _ _
 .rw[e1];exact FP _ _
 .rw[e2];refine gu _ λ d hd=>?_;let⟨p,_,rfl⟩:=A05.mp hd;exact uz _ p
theorem ro(h:kS d d=AC Ch):oEq d d=.ok (.bl Ch)/\kn d d=.ok (.bl AT):=⟨by unfold oEq;rw[h],by unfold kn;rw[h];rfl⟩
theorem PK(h:∀x∈xs,GrpG x.1):kn (aF xs) (aF xs)=.ok (.bl AT):=by
 have:=gu _ λ d hd=>by let⟨y,hy,rfl⟩:=A05.mp hd;exact eqG<|h y hy
 exact(ro (d:=aF xs) this).2
theorem Wy(xs:γ GO):kn (aH xs) (aH xs)=.ok (.bl AT):=by
 have:allEq (eY 5) _ (xs.map λ x=>cY x.2)=AC Ch:=gu _ λ d hd=>by
  let⟨y,hy,rfl⟩:=A05.mp hd;cases y.2 with
  |none=>rfl
  |some p=>exact uz _ p
 exact(ro (d:=aH xs) this).2
theorem eqB(n:Nat)(z:Bool):eY n (.bl z) (.bl z)=AC Ch:=by have:eY n (.bl z) (.bl z)=AC (z==z):=(by cases n<;>rfl);rw[this,beq_self_eq_true]
theorem eqK(n k:Nat):eY (n+1) (kb k) (kb k)=AC Ch:=gu _ λ d hd=>by simp only[A00,A19,A24]at hd;rcases hd with rfl|rfl|rfl|rfl|rfl|rfl|rfl|rfl|rfl|rfl<;>exact eqB _ _
theorem Fi(k:Nat)(a b:Int):kn (.lst [kb k,.int a,.int b]) (.lst [kb k,.int a,.int b])=.ok (.bl AT):=by
 have:allEq (eY 5) [kb k,.int a,.int b] [kb k,.int a,.int b]=AC Ch:=gu _ λ d hd=>by
  simp only[A00,A19,A24]at hd;rcases hd with rfl|rfl|rfl
  .exact eqK _ _
  .exact FP _ _
  .exact FP _ _
 exact(ro (d:=.lst [kb k,.int a,.int b]) this).2
theorem vd(k:Nat):kn (.lst [kb k]) (.lst [kb k])=.ok (.bl AT):=by
 have:allEq (eY 5) [kb k] [kb k]=AC Ch:=gu _ λ d hd=>by rw[A22.mp hd];exact eqK _ _
 exact(ro (d:=.lst [kb k]) this).2
theorem KZ(h:∀x∈xs,GrpG x.1):oEq (aF xs) (aF xs)=.ok (.bl Ch):=by
 have:=gu _ λ d hd=>by let⟨y,hy,rfl⟩:=A05.mp hd;exact eqG<|h y hy
 exact(ro (d:=aF xs) this).1
theorem Fd{a b:Ey}{ρ ρ1 ρ2:Env}(ha:a ρ=.ok (AT,ρ1))(hb:b ρ1=.ok (AT,ρ2)):Dp a b ρ=.ok (AT,ρ2):=by rw[Dp,ha];exact hb
theorem Y1{a b:EF}{ρ:Env}{p q:D}(ha:a ρ=.ok p)(hb:b ρ=.ok q)(h:kn p q=.ok (.bl AT)):tE (eB kn a b) ρ=.ok AT:=by simp[ha,hb,h]
theorem EM{t:TF}{ρ:Env}(h:t ρ=.ok AT):JP t ρ=.ok (AT,ρ):=by rw[JP,h];rfl
theorem PJ:oEq (.lst [.str [116,97,107,101,110]]) (.lst [.str [116,97,107,101,110]])=.ok (.bl Ch):=rfl
end
section
variable{R C:Nat}{xs m:γ GO}{g:G}{x:Nat}{ns:γ (γ Nat)}
theorem dD{ms:γ Nat}{i:Nat}{e:EF}{ρ:Env}{d:D}(he:e ρ=.ok d)(hk:bS ms ρ (ρ.set i<|some<|.val d)):a_ ms (bG i e) ρ=.ok (.nx<|ρ.set i<|some<|.val d):=by simp[a_,he,hk,guard_pos]
theorem vQ{ρ:Env}{e0 ew ewt:EF}{n:γ Nat}{w wt:Nat}(h0:e0 ρ=.ok (.str n))(hw:ew ρ=.ok (.int (w:Nat)))(Pu:ewt ρ=.ok (.int (wt:Nat))):br (aa e0<|aa ew<|aa (eC<|.int 1)<|aa (eC<|.str [])<|aa (eC<|.int 0)<|aa (eC<|.int 0)<|aa ewt<|aa (br av) av) ρ=.ok (aS<|aY n w wt):=by simp[h0,hw,Pu,line];rfl
theorem Va(hC:8<=C)(cj:C<=12){ρ:Env}(h:ρ[1]?=AC (v<|.int (C:Nat))):eB fC (eB fC (eB cb (eB fC (eC<|.int 2)<|eW 1)<|eC<|.int 1)<|eB cb (eB fC (eC<|.int 2)<|eW 1)<|eC<|.int 1) (eB rn (eB fC (eC<|.int 2)<|eW 1)<|eC<|.int 1) ρ=.ok (.int<|(2*C+1)*(2*C+1)*(2*C-1)):=by
 have:C=8\/C=9\/C=10\/C=11\/C=12:=by lia
 have fr:∀x y:Int,0<=y->y<=99->eT x y:=λ x y h0 h1=>jq ∅ ∅;rcases this with rfl|rfl|rfl|rfl|rfl<;>simp[h,fr,guard_pos]
abbrev B1(N:D)(C:Nat)(DK:D)(l3 l4 l5 l6:ε L):Env:=[v N,v (.int (C:Nat)),AC (.bor DK),l3,l4,l5,l6]
theorem K7{ρ:Env}{i:Nat}{hall gs hl ps:D}(h:ρ[i]?=AC (AC<|.bor<|dk x hall gs hl ps)):eM 0 i ρ=.ok (dk x hall gs hl ps):=by simp[eM,h]
theorem rQ{ρ:Env}{i:Nat}{hall gs hl ps:D}(h:ρ[i]?=AC (AC<|.bor<|dk x hall gs hl ps)):aD aO (aa (eM 0 i) av) ρ=.ok gs:=by simp[K7 h,FF]
theorem IT{ρ:Env}{i:Nat}{hall gs hl ps:D}(h:ρ[i]?=AC (AC<|.bor<|dk x hall gs hl ps)):aD bg (aa (eM 0 i) av) ρ=.ok ps:=by simp[K7 h,uZ]
theorem Nt(N:OW ns)(hC:8<=C)(cj:C<=12):dH [.lst (ns.map .str),.int (C:Nat)]=.ok (.bl Ch):=by
 have hl:=N.len;obtain⟨n0,h0⟩:∃n,ns[0]?=AC n:=⟨_,A01 ∅⟩
 obtain⟨n1,h1⟩:∃n,ns[1]?=AC n:=⟨_,A01 ∅⟩
 obtain⟨n2,h2⟩:∃n,ns[2]?=AC n:=⟨_,A01 ∅⟩
 have i0:bb (.lst<|ns.map .str) (.int 0)=.ok (.str n0):=ib h0;have i1:bb (.lst<|ns.map .str) (.int 1)=.ok (.str n1):=ib h1;have i2:bb (.lst<|ns.map .str) (.int 2)=.ok (.str n2):=ib h2;let⟨m1,m2,p0,p1,p2,m3,H⟩:=G1 N hC cj h0 h1 h2;rw[mz];refine aT ?_;unfold fP;refine⟨.rt<|.bl Ch,vh (d:=bZ (bW 2 C)) (Kl 2 ∅ cj rfl rfl) (zB<|Km ∅ ∅ ∅ cj) (by simp[iY,lO]) λ x=>?_,rfl⟩;let⟨a1,a2,x3,f4,x5,r,a5⟩:=H x;have t1:=ug x3;have t2:=xJ x5 a5;generalize LV:D.lst (ns.map D.str)=NS at *;have D0:gD x 0 cC [bZ (bW 2 C),.tup [],.tup [],.tup []]=desk 2 C x [] []:=rfl;rw[D0];refine⟨[desk 2 C x [(aY n0 1 0,AC p2),(aY n1 1 0,At),(aY n2 2 1,At)] m3],?_⟩;refine jh (ρ1:=B1 NS C (desk 2 C x [(aY n0 1 0,At),(aY n1 1 0,At)] m2) (v<|.int 1) At At At) ?_ ?_
 .show gR [2] (bA 3) _ [.int 0,.int 1] _=_;refine forM_cons (ρ1:=B1 NS C (desk 2 C x [] []) (v<|.int 0) At At At) rfl (by simp[bS,iY,lO]) (jn<|call2 rfl rfl rfl (vQ (by simp[i0]) rfl rfl) a1) ?_;exact forM_cons (ρ1:=B1 NS C (desk 2 C x [(aY n0 1 0,At)] m1) (v<|.int 1) At At At) rfl (by simp[bS,iY,lO]) (jn<|call2 rfl rfl rfl (vQ (by simp[i1]) rfl rfl) a2) rfl
 refine jh (dD (vQ (n:=n2) (w:=2) (wt:=1) (by simp[i2]) rfl rfl) (by simp[bS,iY,lO])) ?_;refine jh (dD (rQ rfl) (by simp[bS,iY,lO])) ?_;refine jh (dD (Va hC cj rfl) (by simp[bS,iY,lO])) ?_;have due:bf [.int 2]=.ok (.lst [kb 2]):=o6 (k:=2) ∅;have q:=λ(n:γ Nat)(h:n∈ns)(w wt:Nat)(h1:1<=w)(h2:w<=12)(h3:wt<=100)=>(j5 (w:=w) (wt:=wt) (N.ok n h) h1 h2 h3).ok;have g0:=q n0 (A13 h0) 1 0 ∅ ∅ ∅;have g1:=q n1 (A13 h1) 1 0 ∅ ∅ ∅;have g2:=q n2 (A13 h2) 2 1 ∅ ∅ ∅;have ng:kn (aF [(aY n0 1 0,At),(aY n1 1 0,At)]) (aF [(aY n0 1 0,At),(aY n1 1 0,At)])=.ok (.bl AT):=PK (by simp[g0,g1]);have e3:oEq (aF [(aY n0 1 0,AC p2),(aY n1 1 0,At),(aY n2 2 1,At)]) (aF [(aY n0 1 0,AC p2),(aY n1 1 0,At),(aY n2 2 1,At)])=.ok (.bl Ch):=KZ (by simp[g0,g1,g2]);refine jh (t5<|Fd (gL (call2 rfl rfl rfl rfl t1) (by simp[due,rA,Cc,line,guard_pos])<|Fi 2 _ _)<|Fd (EM<|Y1 (rQ rfl) rfl ng)<|EM (by simp[aF])) ?_;refine jh (jn<|call2 rfl rfl rfl (by simp[i0]) f4) ?_;have ad:eB cb (eW 5) (br<|aa (eV 4) av) (B1 NS C (desk 2 C x [(aY n0 1 0,AC p2),(aY n1 1 0,At),(aY n2 2 1,At)] m3) (v<|.int 1) (v<|aS<|aY n2 2 1) (v<|aF [(aY n0 1 0,At),(aY n1 1 0,At)])<|v<|.int<|(2*C+1)*(2*C+1)*(2*C-1))=.ok (aF [(aY n0 1 0,AC p2),(aY n1 1 0,At),(aY n2 2 1,At)]):=by simp[aF,line]
 have c1:=FO (c:=ck aW [Ch,AT] [2] (aa (eM 0 2)<|aa (eV 4) av)) (e:=eL (bI<|aa (eC<|.str [116,97,107,101,110]) av)) (ρ:=B1 NS C (desk 2 C x [(aY n0 1 0,AC p2),(aY n1 1 0,At)] m2) (v<|.int 1) (v<|aS<|aY n2 2 1) (v<|aF [(aY n0 1 0,At),(aY n1 1 0,At)]) (v<|.int<|(2*C+1)*(2*C+1)*(2*C-1))) (call2 rfl rfl rfl rfl t2) (by simp[line]) PJ;show Bx [2] (Dv (mB oEq (ck aW [Ch,AT] [2]<|aa (eM 0 2)<|aa (eV 4) av)<|mP<|eL<|bI<|aa (eC<|.str [116,97,107,101,110]) av)<|mP<|eB oEq (aD aO<|aa (eM 0 2) av)<|eB cb (eW 5)<|br<|aa (eV 4) av) (B1 NS C (desk 2 C x [(aY n0 1 0,AC p2),(aY n1 1 0,At)] m2) (v<|.int 1) (v<|aS<|aY n2 2 1) (v<|aF [(aY n0 1 0,At),(aY n1 1 0,At)])<|v<|.int<|(2*C+1)*(2*C+1)*(2*C-1))=_;have c2:mP (eB oEq (aD aO<|aa (eM 0 2) av)<|eB cb (eW 5)<|br<|aa (eV 4) av) (B1 NS C (desk 2 C x [(aY n0 1 0,AC p2),(aY n1 1 0,At),(aY n2 2 1,At)] m3) (v<|.int 1) (v<|aS<|aY n2 2 1) (v<|aF [(aY n0 1 0,At),(aY n1 1 0,At)])<|v<|.int<|(2*C+1)*(2*C+1)*(2*C-1))=.ok (.bl Ch,B1 NS C (desk 2 C x [(aY n0 1 0,AC p2),(aY n1 1 0,At),(aY n2 2 1,At)] m3) (v<|.int 1) (v<|aS<|aY n2 2 1) (v<|aF [(aY n0 1 0,At),(aY n1 1 0,At)])<|v<|.int<|(2*C+1)*(2*C+1)*(2*C-1)):=by rw[mP,Sl,rQ rfl,Res.f7,ad,Res.f7,e3];rfl
 unfold Bx Dv;rw[c1];exact A10 (λ z=>Res.bind z λ r=>Res.ok<|xC.rt r.1<|h9 [2] r.2) c2
end
section
variable{R C:Nat}{xs m:γ GO}{g:G}{x:Nat}{ns:γ (γ Nat)}
theorem mT(hC:8<=C)(cj:C<=12)(s:Aj 2 C xs m)(q:Qg g)(d1:g.d=1)(w1:g.w=1)(g0:g.gap=0)(hn:∀y∈xs,y.1.name≠g.name)(h5:xs.length<=5)(hx:∀y∈xs,y.1.gap=0/\y.1.w=1)(hw:bD (bW 2 C) C xs*(2*C+1)<=2000):
 ∃m' p,Aj 2 C (xs++[(g,At)]) m'/\Aj 2 C (xs++[(g,AC p)]) m'/\∀x,aZ [desk 2 C x xs m,aS g]=.ok (bz p,[desk 2 C x (xs++[(g,At)]) m'])/\bF [desk 2 C x (xs++[(g,At)]) m',.str g.name]=.ok (.non,[desk 2 C x (xs++[(g,AC p)]) m']):=by
 have sm:∀l:γ GO,(∀y∈l,y.1.gap=0/\y.1.w=1)->(l.map λ y=>g.w+y.1.w-1).sum=l.length:=by
  intro l
  induction l with
  |nil=>intro _;rfl
  |cons a l ih=>intro h;rw[A12,B59,ih λ y hy=>h y<|A11 _ hy,(h a A18).2,w1,A38];lia
 have rm:=A! s ∅ q d1 g0 (λ y hy=>(hx y hy).1) (by rw[sm xs hx,w1];lia);let⟨m',p,s1,l1,a1⟩:=kQ (R:=2) ∅ ∅ ∅ cj s q hn h5 (by rw[eE,lR q.toDq,d1,w1];exact hw) rm
 let⟨lL,ex,s2,ft⟩:=r8 s1 (k:=xs.length) (g:=g) ⟨At,by simp⟩ l1;have ex2:lL=xs++[(g,AC p)]:=by rw[ex,C29 _ _<|v6 _];simp
 subst ex2;exact⟨m',p,s1,s2,λ x=>⟨(a1 x).2,ft x⟩⟩
abbrev gW(n:γ Nat):G:=⟨n,1,1,[],0,0,.int ((0:Nat):Int),.tup [.tup [.int 1,.int 1]]⟩
abbrev ic(n:γ Nat)(w d gap:Nat):G:=⟨n,w,d,[],0,gap,.int ((9:Nat):Int),.tup []⟩
theorem Hy(N:OW ns)(hC:8<=C)(cj:C<=12){n0 n1 n2 n3 n4:γ Nat}(h0:ns[0]?=AC n0)(h1:ns[1]?=AC n1)(h2:ns[2]?=AC n2)(h3:ns[3]?=AC n3)(h4:ns[4]?=AC n4):
 ∃m1 m2 m3 m4 p0 p1 p2 p3 pp,∀x,aZ [desk 2 C x [] [],aS (aY n0 1 0)]=.ok (bz p0,[desk 2 C x [(aY n0 1 0,At)] m1])
  /\ bF [desk 2 C x [(aY n0 1 0,At)] m1,.str n0]=.ok (.non,[desk 2 C x [(aY n0 1 0,AC p0)] m1])
  /\ aZ [desk 2 C x [(aY n0 1 0,AC p0)] m1,aS (gW n1)]=.ok (bz p1,[desk 2 C x [(aY n0 1 0,AC p0),(gW n1,At)] m2])
  /\ bF [desk 2 C x [(aY n0 1 0,AC p0),(gW n1,At)] m2,.str n1]=.ok (.non,[desk 2 C x [(aY n0 1 0,AC p0),(gW n1,AC p1)] m2])
  /\ aZ [desk 2 C x [(aY n0 1 0,AC p0),(gW n1,AC p1)] m2,aS (aY n2 1 0)]=.ok (bz p2,[desk 2 C x [(aY n0 1 0,AC p0),(gW n1,AC p1),(aY n2 1 0,At)] m3])
  /\ aZ [desk 2 C x [(aY n0 1 0,AC p0),(gW n1,AC p1),(aY n2 1 0,At)] m3,aS (aY n3 1 0)]=.ok (bz p3,[desk 2 C x [(aY n0 1 0,AC p0),(gW n1,AC p1),(aY n2 1 0,At),(aY n3 1 0,At)] m4])
  /\ bB [desk 2 C x [(aY n0 1 0,AC p0),(gW n1,AC p1),(aY n2 1 0,At),(aY n3 1 0,At)] m4,aS (ic n4 (C-2) 1 6)]=AC (LL ((2*C+1)*(2*C+1)*7:Int) 2000)
  /\ bB [desk 2 C x [(aY n0 1 0,AC p0),(gW n1,AC p1),(aY n2 1 0,At),(aY n3 1 0,At)] m4,aS (ic n4 1 3 0)]=AC (yo,[([112,97,112,101,114],pp)]):=by
 have GU:∀{i n},ns[i]?=AC n->KS.h! n=Ch/\n.length<=8:=λ h=>N.ok _<|A13 h;have ne:∀{i j a b},ns[i]?=AC a->ns[j]?=AC b->i≠j->a≠b:=λ {i j a b} hi hj oY e=>by subst e;exact oY<|(B79 (A04.mp hi).1 N.nd).mp<|hi.trans hj.symm
 have q0:=j5 (w:=1) (wt:=0) (GU h0) ∅ ∅ ∅;have q1:Qg (gW n1):=⟨⟨rfl,rfl,v6 1,v6 1⟩,by show 1<=12;decide,by show 1<=3;decide,by show 0<=6;decide,(GU h1).1,(GU h1).2,0,by decide,rfl,.inr rfl⟩
 have q2:=j5 (w:=1) (wt:=0) (GU h2) ∅ ∅ ∅;have q3:=j5 (w:=1) (wt:=0) (GU h3) ∅ ∅ ∅;have qA:Qg (ic n4 (C-2) 1 6):=⟨⟨rfl,rfl,by show 1<=C-2;lia,v6 1⟩,by show C-2<=12;lia,by show 1<=3;decide,by show 6<=6;decide,(GU h4).1,(GU h4).2,9,by decide,rfl,.inl rfl⟩
 have qB:Qg (ic n4 1 3 0):=⟨⟨rfl,rfl,v6 1,by show 1<=3;decide⟩,by show 1<=12;decide,by show 3<=3;decide,by show 0<=6;decide,(GU h4).1,(GU h4).2,9,by decide,rfl,.inl rfl⟩
 have c5:C=8\/C=9\/C=10\/C=11\/C=12:=by lia
 have b0:1*(2*C+1)<=2000:=by lia
 have b1:1*(2*C+1)*(2*C+1)<=2000:=by rcases c5 with rfl|rfl|rfl|rfl|rfl<;>decide
 let⟨m1,p0,s0,s1,a1⟩:=mT hC cj (MC 2 C) q0 rfl rfl rfl ∅ ∅ ∅ b0;have v1:bD (bW 2 C) C [(aY n0 1 0,AC p0)]=1:=mS _ (by intro y h;rw[A22.mp h];exact⟨p0,rfl⟩);let⟨m2,p1,Zt,s2,a2⟩:=mT hC cj s1 q1 rfl rfl rfl (by simpa using ne h0 h1 ∅) ∅ ∅ (by show bD _ _ [_]*_<=_;rw[v1];exact b0);have v2:bD (bW 2 C) C [(aY n0 1 0,AC p0),(gW n1,AC p1)]=1:=mS _ (by intro y h;rcases A00.mp h with rfl|h;exact⟨p0,rfl⟩;rw[A22.mp h];exact⟨p1,rfl⟩);let⟨m3,p2,s3,_,a3⟩:=mT hC cj s2 q2 rfl rfl rfl (by simpa using⟨ne h0 h2 ∅,ne h1 h2 ∅⟩) ∅ ∅ (by show bD _ _ [_,_]*_<=_;rw[v2];exact b0);have w1:∀n,(2+1-(aY n 1 0).d)*(C+1-(aY n 1 0).w)+1=2*C+1:=λ n=>by show 2*(C+1-1)+1=_;lia
 have v3:bD (bW 2 C) C [(aY n0 1 0,AC p0),(gW n1,AC p1),(aY n2 1 0,At)]=1*(2*C+1):=(eE _ [_,_] _).trans (by rw[lR q2.toDq,w1,v2]);let⟨m4,p3,s4,_,a4⟩:=mT hC cj s3 q3 rfl rfl rfl (by simpa using⟨ne h0 h3 ∅,ne h1 h3 ∅,ne h2 h3 ∅⟩) ∅ ∅ (by show bD _ _ [_,_,_]*_<=_;rw[v3];exact b1);have v4:bD (bW 2 C) C [(aY n0 1 0,AC p0),(gW n1,AC p1),(aY n2 1 0,At),(aY n3 1 0,At)]=1*(2*C+1)*(2*C+1):=(eE _ [_,_,_] _).trans (by rw[lR q3.toDq,w1,v3]);have no4:∀y∈[(aY n0 1 0,AC p0),(gW n1,AC p1),(aY n2 1 0,At),(aY n3 1 0,At)],y.1.name≠n4:=by simpa using⟨ne h0 h4 ∅,ne h1 h4 ∅,ne h2 h4 ∅,ne h3 h4 ∅⟩
 have vA:bD (bW 2 C) C [(aY n0 1 0,AC p0),(gW n1,AC p1),(aY n2 1 0,At),(aY n3 1 0,At),(ic n4 (C-2) 1 6,At)]=1*(2*C+1)*(2*C+1)*7:=(eE _ [_,_,_,_] _).trans (by
  rw[lR qA.toDq,v4];have:2*(C+1-(C-2))+1=7:=by lia
  exact A10 (λ z=>1*(2*C+1)*(2*C+1)*z) this)
 have vB:bD (bW 2 C) C [(aY n0 1 0,AC p0),(gW n1,AC p1),(aY n2 1 0,At),(aY n3 1 0,At),(ic n4 1 3 0,At)]=1*(2*C+1)*(2*C+1):=(eE _ [_,_,_,_] _).trans (by rw[lR qB.toDq,v4];show _*((2+1-3)*_+1)=_;simp)
 have gr:=λ x=>yw (x:=x) (R:=2) ∅ ∅ ∅ cj s4 qA (by simpa using no4) ∅ (by show _<bD _ _ [_,_,_,_,_];rw[vA];rcases c5 with rfl|rfl|rfl|rfl|rfl<;>decide)
 let⟨pp,fu⟩:=Cn (R:=2) ∅ ∅ ∅ cj s4 qB (by simpa using no4) ∅ (by
  show bD _ _ [_,_,_,_,_]<=_;rw[vB];exact b1) (λ z e gz fz=>by
   let⟨o,ez,_⟩:=e.at (k:=4) (g:=ic n4 1 3 0) (o:=At) rfl;cases o with
   |none=>exact fz 4 _ ez
   | some p=>have:=(gA qB.toDq).mp (gz 4 _ p ez).1;have h3:p.1+(3:Nat)<=(2:Nat):=this.2.1;have:=this.1;lia)
 refine⟨m1,m2,m3,m4,p0,p1,p2,p3,pp,λ x=>⟨(a1 x).1,(a1 x).2,(a2 x).1,(a2 x).2,(a3 x).1,(a4 x).1,?_,fu x⟩⟩;have:=gr x;have e:((bD (bW 2 C) C [(aY n0 1 0,AC p0),(gW n1,AC p1),(aY n2 1 0,At),(aY n3 1 0,At),(ic n4 (C-2) 1 6,At)]:Nat):Int)=(2*C+1)*(2*C+1)*7:=by rw[vA];rcases c5 with rfl|rfl|rfl|rfl|rfl<;>decide
 rw[<-e];exact this
end
section
variable{R C:Nat}{xs m:γ GO}{g:G}{x:Nat}{ns:γ (γ Nat)}
theorem aan(n:Nat)(h:GrpG g):eY (n+3) (aS g) (aS g)=AC Ch:=by
 let⟨wt,ws,_,e1,e2⟩:=h.YZ;refine gu _ λ d hd=>?_;simp only[A00,A19,A24]at hd;rcases hd with rfl|rfl|rfl|rfl|rfl|rfl|rfl|rfl
 .exact Of _ _
 .exact FP _ _
 .exact FP _ _
 .exact Of _ _
 .exact FP _ _
 .exact FP _ _
 .rw[e1];exact FP _ _
 .rw[e2];refine gu _ λ d hd=>?_;let⟨p,_,rfl⟩:=A05.mp hd;exact uz _ p
theorem KY(h:∀x∈xs,GrpG x.1)(m:γ GO):oEq (.tup [aF xs,aH m]) (.tup [aF xs,aH m])=.ok (.bl Ch):=by
 have a:eY 5 (aF xs) (aF xs)=AC Ch:=gu _ λ d hd=>by let⟨y,hy,rfl⟩:=A05.mp hd;exact aan 1<|h y hy
 have b:eY 5 (aH m) (aH m)=AC Ch:=gu _ λ d hd=>by
  let⟨y,hy,rfl⟩:=A05.mp hd;cases y.2 with
  |none=>rfl
  |some p=>exact uz _ p
 have:allEq (eY 5) [aF xs,aH m] [aF xs,aH m]=AC Ch:=gu _ λ d hd=>by
  simp only[A00,A19,A24]at hd;rcases hd with rfl|rfl
  .exact a
  .exact b
 exact(ro (d:=.tup [aF xs,aH m]) this).1
theorem Q?(hC:8<=C)(cj:C<=12){ρ:Env}(h:ρ[1]?=AC (v<|.int (C:Nat))):eB fC (eB fC (eB cb (eB fC (eC<|.int 2)<|eW 1)<|eC<|.int 1)<|eB cb (eB fC (eC<|.int 2)<|eW 1)<|eC<|.int 1) (eC<|.int 7) ρ=.ok (.int<|(2*C+1)*(2*C+1)*7):=by
 have:C=8\/C=9\/C=10\/C=11\/C=12:=by lia
 have fr:∀x y:Int,0<=y->y<=99->eT x y:=λ x y h0 h1=>jq ∅ ∅;rcases this with rfl|rfl|rfl|rfl|rfl<;>simp[h,fr,guard_pos]
abbrev uE(N:D)(C:Nat)(DK:D)(l3 l4 l5:ε L):Env:=[v N,v (.int (C:Nat)),AC (.bor DK),l3,l4,l5]
theorem OG(N:OW ns)(hC:8<=C)(cj:C<=12):f? [.lst (ns.map .str),.int (C:Nat)]=.ok (.bl Ch):=by
 have hl:=N.len;obtain⟨n0,h0⟩:∃n,ns[0]?=AC n:=⟨_,A01 ∅⟩
 obtain⟨n1,h1⟩:∃n,ns[1]?=AC n:=⟨_,A01 ∅⟩
 obtain⟨n2,h2⟩:∃n,ns[2]?=AC n:=⟨_,A01 ∅⟩
 obtain⟨n3,h3⟩:∃n,ns[3]?=AC n:=⟨_,A01 ∅⟩
 obtain⟨n4,h4⟩:∃n,ns[4]?=AC n:=⟨_,A01 ∅⟩
 have i0:bb (.lst<|ns.map .str) (.int 0)=.ok (.str n0):=ib h0;have i1:bb (.lst<|ns.map .str) (.int 1)=.ok (.str n1):=ib h1;have i2:bb (.lst<|ns.map .str) (.int 2)=.ok (.str n2):=ib h2;have i3:bb (.lst<|ns.map .str) (.int 3)=.ok (.str n3):=ib h3;have i4:bb (.lst<|ns.map .str) (.int 4)=.ok (.str n4):=ib h4;let⟨m1,m2,m3,m4,p0,p1,p2,p3,pp,H⟩:=Hy N hC cj h0 h1 h2 h3 h4;rw[t?];refine aT ?_;unfold jL;refine⟨.rt<|.bl Ch,vh (d:=bZ (bW 2 C)) (Kl 2 ∅ cj rfl rfl) (zB<|Km ∅ ∅ ∅ cj) (by simp[iY,lO]) λ x=>?_,rfl⟩;let⟨a1,f1,a2,f2,a3,a4,x5,x6⟩:=H x;have t1:=ug x5;have t2:=pC x6 (k:=3)<|.inr<|.inr ⟨rfl,rfl⟩;have Oj:bf [.int 2]=.ok (.lst [kb 2]):=o6 (k:=2) ∅;have Oi:bf [.int 3]=.ok (.lst [kb 3]):=o6 (k:=3) ∅;have q:=λ(n:γ Nat)(h:n∈ns)(w wt:Nat)(h1:1<=w)(h2:w<=12)(h3:wt<=100)=>(j5 (w:=w) (wt:=wt) (N.ok n h) h1 h2 h3).ok;have g0:=q n0 (A13 h0) 1 0 ∅ ∅ ∅;have g2:=q n2 (A13 h2) 1 0 ∅ ∅ ∅;have g3:=q n3 (A13 h3) 1 0 ∅ ∅ ∅;have nk1:=N.ok n1<|A13 h1;have g1:GrpG (gW n1):=Qg.ok ⟨⟨rfl,rfl,v6 1,v6 1⟩,by show 1<=12;decide,by show 1<=3;decide,by show 0<=6;decide,nk1.1,nk1.2,0,by decide,rfl,.inr rfl⟩;generalize LV:D.lst (ns.map D.str)=NS at *;have D0:gD x 0 cC [bZ (bW 2 C),.tup [],.tup [],.tup []]=desk 2 C x [] []:=rfl;rw[D0];refine⟨[desk 2 C x [(aY n0 1 0,AC p0),(gW n1,AC p1),(aY n2 1 0,At),(aY n3 1 0,At)] m4],?_⟩;refine jh (jn<|call2 rfl rfl rfl (vQ (by simp[i0]) rfl rfl) a1) ?_;refine jh (jn<|call2 rfl rfl rfl (by simp[i0]) f1) ?_;refine jh (jn<|call2 (d:=aS (gW n1)) rfl rfl rfl (by simp[i1,line];rfl) a2) ?_;refine jh (jn<|call2 rfl rfl rfl (by simp[i1]) f2) ?_;refine jh (ρ1:=uE NS C (desk 2 C x [(aY n0 1 0,AC p0),(gW n1,AC p1),(aY n2 1 0,At),(aY n3 1 0,At)] m4) (v<|.int 3) At At) ?_ ?_
 .show gR [2] (bA 3) _ [.int 2,.int 3] _=_;refine forM_cons (ρ1:=uE NS C (desk 2 C x [(aY n0 1 0,AC p0),(gW n1,AC p1)] m2) (v<|.int 2) At At) rfl (by simp[bS,iY,lO]) (jn<|call2 rfl rfl rfl (vQ (by simp[i2]) rfl rfl) a3) ?_;exact forM_cons (ρ1:=uE NS C (desk 2 C x [(aY n0 1 0,AC p0),(gW n1,AC p1),(aY n2 1 0,At)] m3) (v<|.int 3) At At) rfl (by simp[bS,iY,lO]) (jn<|call2 rfl rfl rfl (vQ (by simp[i3]) rfl rfl) a4) rfl
 have st:∀ρ:Env,ρ[2]?=AC (AC<|.bor<|desk 2 C x [(aY n0 1 0,AC p0),(gW n1,AC p1),(aY n2 1 0,At),(aY n3 1 0,At)] m4)->br (aa (aD aO<|aa (eM 0 2) av)<|aa (aD bg<|aa (eM 0 2) av) av) ρ=.ok (.tup [aF [(aY n0 1 0,AC p0),(gW n1,AC p1),(aY n2 1 0,At),(aY n3 1 0,At)],aH m4]):=λ ρ h=>by simp[K7 h,FF,uZ,line]
 refine jh (dD (st _ rfl) (by simp[bS,iY,lO])) ?_;refine jh (dD (Q? hC cj rfl) (by simp[bS,iY,lO])) ?_;have cc:(C:Int)-2=((C-2:Nat):Int):=by lia
 refine jh (t5<|gL (call2 (d:=aS (ic n4 (C-2) 1 6)) rfl rfl rfl (by simp[i4,line,cc];rfl) t1) (by simp[Oj,rA,Cc,line,guard_pos])<|Fi 2 _ _) ?_;refine jh (t5<|gL (call2 (d:=aS (ic n4 1 3 0)) rfl rfl rfl (by simp[i4,line];rfl) t2) (by simp[Oi])<|vd 3) ?_;have e4:=KY (xs:=[(aY n0 1 0,AC p0),(gW n1,AC p1),(aY n2 1 0,At),(aY n3 1 0,At)]) (by simp[g0,g1,g2,g3]) m4;have sr:=st (uE NS C (desk 2 C x [(aY n0 1 0,AC p0),(gW n1,AC p1),(aY n2 1 0,At),(aY n3 1 0,At)] m4) (v<|.int 3) (v<|.tup [aF [(aY n0 1 0,AC p0),(gW n1,AC p1),(aY n2 1 0,At),(aY n3 1 0,At)],aH m4])<|v<|.int<|(2*C+1)*(2*C+1)*7) rfl;have fin:(bj<|o5 (eB oEq (br<|aa (aD aO<|aa (eM 0 2) av)<|aa (aD bg<|aa (eM 0 2) av) av)<|eW 4)<|eB oEq (eU cQ<|eB bb (eW 4)<|eC<|.int 0)<|eC<|.int 4) (uE NS C (desk 2 C x [(aY n0 1 0,AC p0),(gW n1,AC p1),(aY n2 1 0,At),(aY n3 1 0,At)] m4) (v<|.int 3) (v<|.tup [aF [(aY n0 1 0,AC p0),(gW n1,AC p1),(aY n2 1 0,At),(aY n3 1 0,At)],aH m4])<|v<|.int<|(2*C+1)*(2*C+1)*7)=.ok (.rt<|.bl Ch):=by
  have a:eB oEq (br<|aa (aD aO<|aa (eM 0 2) av)<|aa (aD bg<|aa (eM 0 2) av) av) (eW 4) (uE NS C (desk 2 C x [(aY n0 1 0,AC p0),(gW n1,AC p1),(aY n2 1 0,At),(aY n3 1 0,At)] m4) (v<|.int 3) (v<|.tup [aF [(aY n0 1 0,AC p0),(gW n1,AC p1),(aY n2 1 0,At),(aY n3 1 0,At)],aH m4])<|v<|.int<|(2*C+1)*(2*C+1)*7)=.ok (.bl Ch):=by rw[Sl,sr,Res.f7];exact e4
  have b:eB oEq (eU cQ<|eB bb (eW 4)<|eC<|.int 0) (eC<|.int 4) (uE NS C (desk 2 C x [(aY n0 1 0,AC p0),(gW n1,AC p1),(aY n2 1 0,At),(aY n3 1 0,At)] m4) (v<|.int 3) (v<|.tup [aF [(aY n0 1 0,AC p0),(gW n1,AC p1),(aY n2 1 0,At),(aY n3 1 0,At)],aH m4])<|v<|.int<|(2*C+1)*(2*C+1)*7)=.ok (.bl Ch):=by have ix:bb (.tup [aF [(aY n0 1 0,AC p0),(gW n1,AC p1),(aY n2 1 0,At),(aY n3 1 0,At)],aH m4]) (.int 0)=.ok (aF [(aY n0 1 0,AC p0),(gW n1,AC p1),(aY n2 1 0,At),(aY n3 1 0,At)]):=rfl;have ol:cQ (aF [(aY n0 1 0,AC p0),(gW n1,AC p1),(aY n2 1 0,At),(aY n3 1 0,At)])=.ok (.int 4):=rfl;simp[ix,ol]
  unfold bj o5;rw[a];exact A10 (λ z=>Res.bind z λ d=>Res.ok<|Fl.rt d) b
 have fin2:a_ [2] (bj<|o5 (eB oEq (br<|aa (aD aO<|aa (eM 0 2) av)<|aa (aD bg<|aa (eM 0 2) av) av)<|eW 4)<|eB oEq (eU cQ<|eB bb (eW 4)<|eC<|.int 0)<|eC<|.int 4) (uE NS C (desk 2 C x [(aY n0 1 0,AC p0),(gW n1,AC p1),(aY n2 1 0,At),(aY n3 1 0,At)] m4) (v<|.int 3) (v<|.tup [aF [(aY n0 1 0,AC p0),(gW n1,AC p1),(aY n2 1 0,At),(aY n3 1 0,At)],aH m4])<|v<|.int<|(2*C+1)*(2*C+1)*7)=.ok (.rt (.bl Ch) [desk 2 C x [(aY n0 1 0,AC p0),(gW n1,AC p1),(aY n2 1 0,At),(aY n3 1 0,At)] m4]):=by unfold a_;rw[fin];rfl
 exact fin2
end
end iU
namespace iU
open Z
theorem Vg{n:γ Nat}(h:KS.EC n):KS.h! n=Ch/\n.length<=8:=by refine⟨?_,h.2.1⟩;unfold KS.h!;rw[A56 ⟨h.1,h.2.1⟩,B49,A30];exact λ c hc=>A56<|h.2.2 c hc
theorem Rf(c:Int):∃ns:γ (γ Nat),OW ns/\gU [.int c,.int 8]=.ok (.lst<|ns.map .str):=by let⟨ns,hl,nd,ok,e⟩:=zl c;exact⟨ns,⟨hl,λ n h=>Vg<|ok n h,nd⟩,e⟩
abbrev NN(d:D):Prop:=∃m:Int,0<=m/\d=.int m
theorem zq(c:Int)(n:Nat)(hn:n<=100):∃ds:γ D,ds.length=n/\(∀d∈ds,NN d)/\gZ [.int c,.int n]=.ok (.lst ds):=by
 have f4:∀x,eT x 16807:=λ x=>jq ∅ ∅;have:Ok (cu<|j? [v (.int c),v (.int n),At,At,At]) λ d=>∃ds:γ D,ds.length=n/\(∀d∈ds,NN d)/\d=.lst ds:=by
  refine C9 ?_;simp[j?,line];refine mv (λ i ρ=>∃m ds x,ds.length=i/\(∀d∈ds,NN d)/\ρ=[vi c,vi n,vi m,ow ds,x]) ⟨_,[],At,rfl,by simp,rfl⟩ ?_ ?_
  .rintro j d ρ hd ⟨m,ds,x,hl,hm,rfl⟩;let⟨hj,rfl⟩:=zz hd;simp[f4,line];refine⟨by lia,_,_,by simp[hl],λ d hd=>?_,rfl,rfl⟩;rcases A53.mp hd with hd|hd
   .exact hm d hd
   .rw[A22]at hd;subst hd;exact⟨_,by lia,rfl⟩
  .rintro ρ ⟨m,ds,x,hl,hm,rfl⟩;rw[mj]at hl;simp;exact⟨hl,hm⟩
 rw[<-zO]at this;let⟨d,e,ds,h1,h2,rfl⟩:=this;exact⟨ds,h1,h2,e⟩
theorem Li(c:Int):∃K,gZ [.int c,.int 6]=.ok K/\∀j<6,∃c,bb K (.int (j:Nat))=.ok (.int c):=by
 let⟨ds,hl,hd,e⟩:=zq c 6 ∅;refine⟨_,e,λ j hj=>?_⟩;have Af:j<ds.length:=by lia
 let⟨m,_,em⟩:=hd _ (B37 Af);exact⟨m,(jb rfl (by rw[A01 Af,em])).2⟩
end iU
set_option maxHeartbeats 2000000
namespace iU
open Z
abbrev LM:γ D:=[.non,.str [],.int (-1),.lst [],.int 13,.str [49],.bl Ch,.dct [] [],.tup [],.int 7]
def zL:D->Bool
|.str cs=>decide<|cs.length<=1000
|.tup xs=>decide<|xs.length<=1000
|_=>Ch
theorem Ws{d:D}(h:zL d=Ch):EE d:=⟨λ cs e=>by subst e;exact A50 h,λ xs e=>by subst e;exact A50 h⟩
theorem yg{xs:γ D}(h:xs.length<=1000)(h2:xs.all zL=Ch):Ct (.tup xs):=⟨λ ys e=>by cases e;exact⟨h,λ x hx=>Ws<|A30.mp h2 x hx⟩⟩
theorem vX{d:D}(h:∀xs,d≠.tup xs):Ct d:=⟨λ xs e=>absurd e<|h xs⟩
theorem oQ{xs:γ D}{i:Int}{Q:D->Prop}(h0:0<=i)(h1:i<xs.length)(h:∀d∈xs,Q d):Ok (bb (.lst xs)<|.int i) Q:=by let⟨d,hd,e,_⟩:=qc h0 h1;exact⟨d,e,h d hd⟩
theorem Q6(c:Int){n:γ Nat}(hn:KS.EC n):Ok (jF [.int c,.str n]) λ d=>Ct d/\vR d=AT:=by
 rw[D_];refine C9 ?_;have fn:zL (.str n)=Ch:=A56 (by have:=hn.2.1;lia);have nb:sL (.str n)=Ch:=(Vg hn).1;let⟨X4,hX4,e4,_⟩:=qc (xs:=LM) (i:=c / 8 % 10) ∅ (by show _<(10:Int);lia);simp[sj,e4,line,rA,Cc,v_,guard_pos,dv c 8 ∅ ∅,md];by_cases h3:c / 80 % 4=3
 .rw[f8 h3];refine oQ ∅ (by show _<(10:Int);lia) λ d hd=>?_;simp only[A00,A19,A24]at hd;rcases hd with rfl|rfl|rfl|rfl|rfl|rfl|rfl|rfl|rfl|rfl
  .exact⟨vX ∅,rfl⟩
  .exact⟨vX ∅,rfl⟩
  .exact⟨vX ∅,rfl⟩
  .exact⟨vX ∅,rfl⟩
  .exact⟨yg ∅ rfl,rfl⟩
  .exact⟨vX ∅,rfl⟩
  .exact⟨vX ∅,rfl⟩
  .exact⟨yg (xs:=[.str n,.int 1,.int 1,.str [],.int 0,.int 0,.int 0]) ∅ (by simp[fn];simp[zL]),rfl⟩
  .exact⟨yg ∅ (by simp[fn];simp[zL]),rfl⟩
  .simp only[LM,A00,A19,A24]at hX4;rcases hX4 with rfl|rfl|rfl|rfl|rfl|rfl|rfl|rfl|rfl|rfl<;>first
    |exact⟨yg (A97 rfl) rfl,rfl⟩
    |exact⟨vX ∅,rfl⟩
 .rw [P3 h3];have h8:c % 8=0\/c % 8=1\/c % 8=2\/c % 8=3\/c % 8=4\/c % 8=5\/c % 8=6\/c % 8=7:=by lia
  have m5:=md (c / 8) 5 ∅;have m8:=md (c / 8) 8 ∅;rcases h8 with h|h|h|h|h|h|h|h<;>rw[h]
  case inr.inr.inr.inr.inr.inr.inr=>
   refine⟨_,rfl,_,rfl,_,m8,oQ ∅ (by show _<(8:Int);lia) λ d hd=>?_⟩;simp only[A00,A19,A24]at hd;rcases hd with rfl|rfl|rfl|rfl|rfl|rfl|rfl|rfl <;>
   .refine⟨A97 rfl,A97 rfl,yg (A97 rfl) ?_,?_⟩
    .show([_,_,_,_,_,_,_,_]:γ D).all zL=Ch;simp[fn];simp[zL,Y4]
    .show(_&&HB _)=AT;rw[show HB _=AT from rfl,B22]
  all_goals
   refine⟨_,rfl,_,rfl,_,m5,oQ ∅ (by show _<(5:Int);lia) λ d hd=>?_⟩;simp only[A00,A19,A24]at hd;rcases hd with rfl|rfl|rfl|rfl|rfl <;>
   .refine⟨A97 rfl,A97 rfl,yg (A97 rfl) ?_,?_⟩
    .show([_,_,_,_,_,_,_,_]:γ D).all zL=Ch;simp[fn];simp[zL,Y4]
    .first|rfl|(show(sL (.str n)&&_&&_&&_&&_&&_&&_&&_)=AT;rw[nb];rfl)
end iU
set_option maxHeartbeats 1000000
namespace iU
open Z
open KG (G GO Pl Rows Hall GrpG GOk aS bz cY bZ places b! bN)
open KH (aF aH Good)
open KB (bD fL cZ nM Ext Full cw wS b9)
section
variable{R C:Nat}{xs m:γ GO}{g:G}{x:Nat}{ns:γ (γ Nat)}
abbrev gF(n:γ Nat)(R C:Nat):G:=⟨n,C,R,[],0,6,.int ((0:Nat):Int),.tup []⟩
theorem Sa{n:γ Nat}(h:KS.h! n=Ch/\n.length<=8)(hR:1<=R)(wK:R<=3)(hC:1<=C)(cj:C<=12):Qg (gF n R C):=
 ⟨⟨rfl,rfl,hC,hR⟩,cj,wK,by show 6<=6;decide,h.1,h.2,0,by decide,rfl,.inl rfl⟩
theorem BS(f:HE R C ns j xs)(q:Dq g):bD (bW R C) C (xs++[(g,At)])=(R+1-g.d)*(C+1-g.w)+1:=by rw[eE,mS _ λ y hy=>(f.one y hy).2.2,lR q,A80]
theorem KJ(hR:1<=R)(wK:R<=3)(hC:8<=C)(cj:C<=12)(f:HE R C ns j xs)(h1:1<=j)(h5:j<=5){n:γ Nat}(nk:KS.h! n=Ch/\n.length<=8)(hn:∀y∈xs,y.1.name≠n):
 ∃pp,∀x,bB [desk R C x xs xs,aS (gF n R C)]=AC (yo,[([112,97,112,101,114],pp)]):=by
 have q:=Sa nk hR wK ∅ cj;have fl:=f.len;refine Cn hR ∅ ∅ cj f.jo q hn ∅ (by
  rw[BS f q.toDq];show(R+1-R)*(C+1-C)+1<=2000;have:(R+1-R)*(C+1-C)=1*1:=by congr 1<;>lia
  lia) λ z e gz fz=>?_
 let⟨o,ez,_⟩:=e.at (k:=xs.length) (g:=gF n R C) (o:=At) ∅;obtain⟨⟨g0,o0⟩,e0⟩:∃y,xs[0]?=AC y:=⟨_,A01 ∅⟩
 have q0:=f.jo.Ha _<|A13 e0;let⟨o',ez0,_⟩:=e.at (k:=0) (g:=g0) (o:=o0) (by rw[A25 ∅];exact e0);cases o with
 |none=>exact fz _ _ ez
 |some p=>
  cases o' with
  |none=>exact fz _ _ ez0
  |some p0=>
   let⟨ft,ap⟩:=gz _ _ p ez;have a:=ap 0 g0 p0 ez0 ∅;have ft0:=(gz 0 g0 p0 ez0).1;obtain⟨b1,b2,b3,b4⟩:=(gA q.toDq).mp ft;obtain⟨c1,c2,c3,c4⟩:=(gA q0.toDq).mp ft0;have w1:=q0.w1;have d1:=q0.d1;have a:=A50 a;have b2:p.1+(R:Nat)<=R:=b2;have b4:p.2+(C:Nat)<=C:=b4;simp only[]at a;dsimp only at c2 c4 w1 d1;have hm:(0:Int)<=max (((gF n R C).gap:Nat):Int) (g0.gap:Int):=by lia
   rcases a with a|a|a|a
   .have a:p.1+(R:Nat)<=p0.1:=a;lia
   .lia
   .have a:p.2+(C:Nat)+max (((gF n R C).gap:Nat):Int) (g0.gap:Int)<=p0.2:=a;lia
   .lia
theorem KI(hR:1<=R)(wK:R<=3)(hC:8<=C)(cj:C<=12)(f:HE R C ns j xs)(h5:j<=5){n:γ Nat}(nk:KS.h! n=Ch/\n.length<=8)(hn:∀y∈xs,y.1.name≠n):
 ∃m' p,∀x,bB [desk R C x xs xs,aS (aY n 1 0)]=At/\aZ [desk R C x xs xs,aS (aY n 1 0)]=.ok (bz p,[desk R C x (xs++[(aY n 1 0,At)]) m']):=by
 have q:=j5 (w:=1) (wt:=0) nk ∅ ∅ ∅;have fl:=f.len;have wl:=f.wid;let⟨m',p,_,_,a⟩:=kQ hR ∅ ∅ cj f.jo q hn ∅ (by
  rw[BS f q.toDq];show(R+1-1)*(C+1-1)+1<=2000;have:(R+1-1)*(C+1-1)<=3*12:=B14 ∅ ∅;lia) (A! f.jo hR q rfl rfl (λ y hy=>(f.one y hy).2.1) (by
   have:(xs.map λ y=>(aY n 1 0).w+y.1.w-1)=xs.map (·.1.w):=B05 λ y _=>by show 1+y.1.w-1=_;lia
   rw[this];show _<C+1-1;lia))
 exact⟨m',p,a⟩
end
end iU
namespace iU
open Z
open KG (G GO Pl Rows Hall GrpG GOk aS bz cY bZ places b! bN)
open KH (aF aH Good)
section
variable{R C:Nat}{xs m:γ GO}{g:G}{x:Nat}{ns:γ (γ Nat)}
abbrev Sk:EF:=aD jF<|aa (eV 0)<|aa (eB bb (eW 1)<|eB oMod (eB oDiv (eW 0)<|eC<|.int 3)<|eC<|.int 7) av
theorem Fg(N:∀n∈ns,KS.EC n)(hl:ns.length=8):∀cs:γ Int,Ok (cm (bA 0) cF Sk [At,v (.lst<|ns.map .str)]<|cs.map .int) λ ds=>∀d∈ds,Ct d/\vR d=AT
|[]=>⟨[],rfl,by simp⟩
|c::cs=>by
 let⟨ds,e,h⟩:=Fg N hl cs;have hj:(c / 3 % 7).toNat<ns.length:=by lia
 have ix:=ib (f:=D.str)<|A01 hj;have ec:(((c / 3 % 7).toNat:Nat):Int)=c / 3 % 7:=by lia
 rw[ec]at ix;let⟨d,ed,h1,h2⟩:=Q6 c (N _<|B37 hj);refine⟨d::ds,?_,λ y hy=>?_⟩
 .simp[cm,dv c 3 ∅ ∅,md (c / 3) 7 ∅,ix,ed,e]
 .rcases A00.mp hy with rfl|hy
  .exact⟨h1,h2⟩
  .exact h y hy
abbrev oB:SM:=jU (tP<|mB kn (ck aW [Ch,AT] [6]<|aa (eM 0 6)<|aa (eV 10) av)<|mP<|aD bf<|aa (eC<|.int 0) av) (a_ [6]<|bj<|eC<|.bl AT) gN
abbrev wE(A c C' hl NS k DK H S O:D)(oH Pj zu sO sN:ε L):Env:=[v A,v c,v C',v hl,v NS,v k,AC (.bor DK),v H,v S,v O,oH,Pj,zu,sO,sN]
theorem xX{A c C' hl NS k H S O hall gs hd ps:D}:∀(ds:γ D)(oH:ε L),Vo oH->(∀d∈ds,Ct d/\vR d=AT)->∃l,Vo l/\gR [6] (bA 10) oB ds (wE A c C' hl NS k (dk x hall gs hd ps) H S O oH At At At At)=.ok (.nx<|wE A c C' hl NS k (dk x hall gs hd ps) H S O l At At At At)
|[],l,hv,_=>⟨l,hv,rfl⟩
|d::ds,l,hv,h=>by
 let⟨l',xm,e⟩:=xX ds (v d) (.inr ⟨_,rfl⟩) λ y hy=>h y (A11 _ hy);let⟨f,b⟩:=h d A18;have ig:=FG f;rw[b]at ig;have t:=pC (Cm (x:=x) (gs:=gs) (hl:=hd) (ps:=ps) ig hall) (k:=0)<|.inl ⟨rfl,rfl⟩;have due:bf [.int 0]=.ok (.lst [kb 0]):=o6 (k:=0) ∅;have g:bA 10 d (wE A c C' hl NS k (dk x hall gs hd ps) H S O l At At At At)=.ok (wE A c C' hl NS k (dk x hall gs hd ps) H S O (v d) At At At At):=by rcases hv with rfl|⟨_,rfl⟩<;>rfl
 exact⟨l',xm,forM_cons g (by simp[bS,iY,lO]) (t5<|gL (call2 rfl rfl rfl rfl t) (by simp[due])<|vd 0) e⟩
end
end iU
set_option maxHeartbeats 2000000
namespace iU
open Z
open KG (G GO Pl Rows Hall GrpG GOk aS bz cY bZ places b! bN)
open KH (aF aH Good)
theorem Qz(c:Int):∃R:Nat,1<=R/\R<=3/\bb (.lst [.int 1,.int 1,.int 1,.int 3]) (.int<|c / 5 % 4)=.ok (.int (R:Nat)):=by
 let⟨d,hd,e,_⟩:=qc (xs:=[D.int 1,.int 1,.int 1,.int 3]) (i:=c / 5 % 4) ∅ (by show _<(4:Int);lia);simp only[A00,A19,A24]at hd;rcases hd with rfl|rfl|rfl|rfl
 .exact⟨1,by lia,by lia,e⟩
 .exact⟨1,by lia,by lia,e⟩
 .exact⟨1,by lia,by lia,e⟩
 .exact⟨3,by lia,by lia,e⟩
theorem Qy(c:Int):∃k:Nat,k<=6/\bb (.lst [.int 0,.int 1,.int 2,.int 3,.int 4,.int 5,.int 6,.int 6]) (.int<|c / 20 % 8)=.ok (.int (k:Nat)):=by
 let⟨d,hd,e,_⟩:=qc (xs:=[D.int 0,.int 1,.int 2,.int 3,.int 4,.int 5,.int 6,.int 6]) (i:=c / 20 % 8) ∅ (by show _<(8:Int);lia);simp only[A00,A19,A24]at hd;rcases hd with rfl|rfl|rfl|rfl|rfl|rfl|rfl|rfl
 .exact⟨0,by lia,e⟩
 .exact⟨1,by lia,e⟩
 .exact⟨2,by lia,e⟩
 .exact⟨3,by lia,e⟩
 .exact⟨4,by lia,e⟩
 .exact⟨5,by lia,e⟩
 .exact⟨6,by lia,e⟩
 .exact⟨6,by lia,e⟩
end iU
set_option maxHeartbeats 1000000
namespace iU
open Z
open KG (G GO Pl Rows Hall GrpG GOk aS bz cY bZ places b! bN)
open KH (aF aH Good)
theorem NP:lO At=False:=rfl
theorem G8(d:D):lO (AC<|.val d)=False:=rfl
theorem BG(d:D):lO (AC<|.bor d)=True:=rfl
abbrev tA1:SM:=a_ [6]<|bG 13<|eL<|bI<|aa (eB cb (br<|aa (eB bb (eW 4)<|eC<|.int 0) av)<|Ah (eW 11) (u!<|eC<|.int 1) y_)<|aa (eB cb (br<|aa (eB bb (eW 4)<|eB rn (eW 5)<|eC<|.int 1) av)<|Ah (eW 12) (u!<|eC<|.int 1) y_) av
abbrev tA2:SM:=jU (Dp (tP<|mB kn (ck aW [Ch,AT] [6]<|aa (eM 0 6)<|aa (eB bb (eW 13)<|eC<|.int 0) av)<|mP<|aD bf<|aa (eC<|.int 1) av)<|tP<|mB kn (ck aW [Ch,AT] [6]<|aa (eM 0 6)<|aa (eB bb (eW 13)<|eC<|.int 1) av)<|mP<|aD bf<|aa (eC<|.int 1) av) (a_ [6]<|bj<|eC<|.bl AT) gN
abbrev tA3:SM:=a_ [6]<|bG 14<|aD bf<|aa (eC<|.int 3) av
abbrev tA4:SM:=a_ [6]<|jR (tE<|eB oEq (eW 5)<|eC<|.int 6) (bG 14<|eL<|ny (aD bf<|aa (eC<|.int 2) av)<|eL<|bI<|aa (eC<|.int 7)<|aa (eC<|.int 6) av) b7
abbrev tA5:SM:=jU (tP<|mB kn (ck aW [Ch,AT] [6]<|aa (eM 0 6)<|aa (eV 12) av)<|mP<|eV 14) (a_ [6]<|bj<|eC<|.bl AT) gN
abbrev Ql:SM:=jU (JP<|tE<|eB HK (eW 5)<|eC<|.int 0) (bY tA1<|bY tA2<|bY tA3<|bY tA4 tA5) gN
abbrev Qk:SM:=jU (vf (JP<|tE<|eB oEq (eW 5)<|eC<|.int 6)<|tP<|mB kn (ck aW [Ch,AT] [6]<|aa (eM 0 6)<|aa (eV 11) av)<|mP<|eL<|ny (aD bf<|aa (eC<|.int 2) av)<|eL<|bI<|aa (eC<|.int 7)<|aa (eC<|.int 6) av) (a_ [6]<|bj<|eC<|.bl AT) gN
abbrev tD:SM:=a_ [6]<|jR (AQ (tE<|eB kn (aD aO<|aa (eM 0 6) av)<|eW 7)<|tE<|eB kn (aD bg<|aa (eM 0 6) av)<|eW 8) (bj<|eC<|.bl AT) b7
abbrev tF:SM:=Bx [6]<|Vv (mP<|eB oEq (eW 5)<|eC<|.int 6)<|Dv (mB oEq (ck aW [Ch,AT] [6]<|aa (eM 0 6)<|aa (eV 11) av)<|mP<|eL<|bI<|aa (eC<|.str [116,97,107,101,110]) av)<|mP<|eB oEq (aD aO<|aa (eM 0 6) av)<|eB cb (eW 7)<|br<|aa (eV 11) av
theorem Ol:bf [.int 1]=.ok (.lst [kb 1]):=o6 (k:=1) ∅
theorem Oj:bf [.int 2]=.ok (.lst [kb 2]):=o6 (k:=2) ∅
theorem Oi:bf [.int 3]=.ok (.lst [kb 3]):=o6 (k:=3) ∅
theorem Vo.nt{l:ε L}(h:Vo l):lO l=False:=by rcases h with rfl|⟨_,rfl⟩<;>rfl
theorem F9{ρ:Env}{a e0:EF}{n n':γ Nat}{w d gap:Nat}(h:a ρ=.ok (aS ⟨n',w,d,[],0,gap,.int ((0:Nat):Int),.tup []⟩))(h0:e0 ρ=.ok (.str n)):eB cb (br<|aa e0 av) (Ah a (u!<|eC<|.int 1) y_) ρ=.ok (aS ⟨n,w,d,[],0,gap,.int ((0:Nat):Int),.tup []⟩):=by have q:∀y0 y1 y2 y3 y4 y5 y6 y7:D,cut [y0,y1,y2,y3,y4,y5,y6,y7] (AC 1) At=[y1,y2,y3,y4,y5,y6,y7]:=λ _ _ _ _ _ _ _ _=>rfl;simp[h0,h,aS,line,q,guard_pos]
theorem Pr{t:Ey}{a b:SM}{ρ ρ':Env}{r:Res xC}(h:t ρ=.ok (Ch,ρ'))(ha:a ρ'=r):jU t a b ρ=r:=by rw[jU,h];exact ha
theorem CW{t:TF}{ρ:Env}(h:t ρ=.ok Ch):JP t ρ=.ok (Ch,ρ):=by rw[JP,h];rfl
theorem SQ{a b:Ey}{ρ ρ1 ρ2:Env}(ha:a ρ=.ok (Ch,ρ1))(hb:b ρ1=.ok (AT,ρ2)):vf a b ρ=.ok (AT,ρ2):=by rw[vf,ha];exact hb
theorem OK{a b:Ey}{ρ ρ1:Env}(ha:a ρ=.ok (AT,ρ1)):vf a b ρ=.ok (AT,ρ1):=by rw[vf,ha];rfl
section
variable{R C:Nat}{xs m:γ GO}{g:G}{x:Nat}{ns:γ (γ Nat)}
variable{A c HL H S O:D}{oH:ε L}
theorem Lx(hR:1<=R)(wK:R<=3)(hC:8<=C)(cj:C<=12)(N:OW ns){k:Nat}(f:HE R C ns k xs)(hk:k<=6){n6:γ Nat}(nk:KS.h! n6=Ch/\n6.length<=8)(LP:∀y∈xs,y.1.name≠n6)(hv:Vo oH)(C':D):
 ∃sO sN,Vo sO/\Vo sN/\Ql (wE A c C' HL (.lst<|ns.map .str) (.int (k:Nat)) (desk R C x xs xs) H S O oH (v<|aS<|aY n6 1 0) (v<|aS<|gF n6 R C) At At)=.ok (.nx<|wE A c C' HL (.lst<|ns.map .str) (.int (k:Nat)) (desk R C x xs xs) H S O oH (v<|aS<|aY n6 1 0) (v<|aS<|gF n6 R C) sO sN):=by
 by_cases k0:k=0
 .subst k0;exact⟨At,At,.inl rfl,.inl rfl,t5<|EM ∅⟩
 have nt:=hv.nt;have hl:=N.len;obtain⟨n0,h0⟩:∃n,ns[0]?=AC n:=⟨_,A01 ∅⟩
 obtain⟨nl,h1⟩:∃n,ns[k-1]?=AC n:=⟨_,A01 ∅⟩
 have i0:bb (.lst<|ns.map .str) (.int 0)=.ok (.str n0):=ib h0;have i1:bb (.lst<|ns.map .str) (.int<|(k:Int)-1)=.ok (.str nl):=by have:=ib (f:=D.str) h1;rw[show((k-1:Nat):Int)=(k:Int)-1 by lia]at this;exact this
 have xn:∀{i n},ns[i]?=AC n->i<k->∃y∈xs,y.1.name=n:=λ {i n} h hi=>by
  have:n∈xs.map (·.1.name):=by rw[f.Ng];exact A13 (i:=i) (by rw[B20 hi];exact h)
  let⟨y,hy,e⟩:=A05.mp this;exact⟨y,hy,e⟩
 have t0:=pC (yu (x:=x) f.jo (j5 (w:=1) (wt:=0) (N.ok n0<|A13 h0) ∅ ∅ ∅)<|xn h0 ∅)<|.inr<|.inl ⟨rfl,rfl⟩;have t1:=pC (yu (x:=x) f.jo (Sa (N.ok nl<|A13 h1) hR wK ∅ cj)<|xn h1 ∅)<|.inr<|.inl ⟨rfl,rfl⟩;generalize Yt:D.lst (ns.map .str)=NS at *;generalize hG:aS (aY n0 1 0)=G0 at *;generalize hF:aS (gF nl R C)=F0 at *;have V3:0<k:=by lia
 have e13:eL (bI<|aa (eB cb (br<|aa (eB bb (eW 4)<|eC<|.int 0) av)<|Ah (eW 11) (u!<|eC<|.int 1) y_)<|aa (eB cb (br<|aa (eB bb (eW 4)<|eB rn (eW 5)<|eC<|.int 1) av)<|Ah (eW 12) (u!<|eC<|.int 1) y_) av) (wE A c C' HL NS (.int (k:Nat)) (desk R C x xs xs) H S O oH (v<|aS<|aY n6 1 0) (v<|aS<|gF n6 R C) At At)=.ok (.lst [G0,F0]):=by have a0:=F9 (ρ:=wE A c C' HL NS (.int (k:Nat)) (desk R C x xs xs) H S O oH (v<|aS<|aY n6 1 0) (v<|aS<|gF n6 R C) At At) (a:=eW 11) (e0:=eB bb (eW 4) (eC<|.int 0)) (n:=n0) (n':=n6) (w:=1) (d:=1) (gap:=0) rfl (by simp[i0]);have a1:=F9 (ρ:=wE A c C' HL NS (.int (k:Nat)) (desk R C x xs xs) H S O oH (v<|aS<|aY n6 1 0) (v<|aS<|gF n6 R C) At At) (a:=eW 12) (e0:=eB bb (eW 4) (eB rn (eW 5)<|eC<|.int 1)) (n:=nl) (n':=n6) (w:=C) (d:=R) (gap:=6) rfl (by simp[i1]);rw[show aS ⟨n0,1,1,[],0,0,.int ((0:Nat):Int),.tup []⟩=G0 from hG]at a0;rw[show aS ⟨nl,C,R,[],0,6,.int ((0:Nat):Int),.tup []⟩=F0 from hF]at a1;generalize eB cb (br<|aa (eB bb (eW 4)<|eC<|.int 0) av) (Ah (eW 11) (u!<|eC<|.int 1) y_)=E0 at *;generalize eB cb (br<|aa (eB bb (eW 4)<|eB rn (eW 5)<|eC<|.int 1) av) (Ah (eW 12) (u!<|eC<|.int 1) y_)=E1 at *;simp[a0,a1,line]
 by_cases k6:k=6
 .have t2:=ug<|yv (x:=x) f.jo (Sa nk hR wK ∅ cj) LP (by rw[f.len,k6]);refine⟨v<|.lst [G0,F0],v<|.lst [kb 2,.int 7,.int 6],.inr ⟨_,rfl⟩,.inr ⟨_,rfl⟩,?_⟩;refine Pr (CW (by simp[V3])) ?_;refine jh (dD e13 (by simp[bS,iY,NP,G8,BG,nt])) ?_;refine jh (t5<|Fd (gL (call2 rfl rfl rfl rfl t0) (by simp[Ol])<|vd 1)<|gL (call2 rfl rfl rfl rfl t1) (by simp[Ol])<|vd 1) ?_;refine jh (dD (by simp[Oi];rfl) (by simp[bS,iY,NP,G8,BG,nt])) ?_;refine jh (ρ1:=wE A c C' HL NS (.int (k:Nat)) (desk R C x xs xs) H S O oH (v<|aS<|aY n6 1 0) (v<|aS<|gF n6 R C) (v<|.lst [G0,F0]) (v<|.lst [kb 2,.int 7,.int 6])) (by subst k6;simp[a_,Oj,rA,Cc,line,guard_pos,bS,iY,NP,G8,BG,nt]) ?_;exact t5<|gL (call2 rfl rfl rfl rfl t2) rfl<|Fi 2 _ _
 .let⟨pp,hf⟩:=KJ hR wK hC cj f ∅ ∅ nk LP;have t2:=pC (hf x)<|.inr<|.inr ⟨rfl,rfl⟩;refine⟨v<|.lst [G0,F0],v<|.lst [kb 3],.inr ⟨_,rfl⟩,.inr ⟨_,rfl⟩,?_⟩;refine Pr (CW (by simp[V3])) ?_;refine jh (dD e13 (by simp[bS,iY,NP,G8,BG,nt])) ?_;refine jh (t5<|Fd (gL (call2 rfl rfl rfl rfl t0) (by simp[Ol])<|vd 1)<|gL (call2 rfl rfl rfl rfl t1) (by simp[Ol])<|vd 1) ?_;refine jh (dD (by simp[Oi];rfl) (by simp[bS,iY,NP,G8,BG,nt])) ?_;have VC:¬(k:Int)=6:=by lia
  refine jh (ρ1:=wE A c C' HL NS (.int (k:Nat)) (desk R C x xs xs) H S O oH (v<|aS<|aY n6 1 0) (v<|aS<|gF n6 R C) (v<|.lst [G0,F0]) (v<|.lst [kb 3])) (by simp[a_,VC,guard_pos,bS,iY,NP,G8,BG,nt]) ?_;exact t5<|gL (call2 rfl rfl rfl rfl t2) rfl<|vd 3
theorem IL(hR:1<=R)(wK:R<=3)(hC:8<=C)(cj:C<=12){k:Nat}(f:HE R C ns k xs){n6:γ Nat}(nk:KS.h! n6=Ch/\n6.length<=8)(LP:∀y∈xs,y.1.name≠n6)(C' NS:D)(zu sO sN:ε L):
 Qk (wE A c C' HL NS (.int (k:Nat)) (desk R C x xs xs) H S O oH (v<|aS<|aY n6 1 0) zu sO sN)=.ok (.nx<|wE A c C' HL NS (.int (k:Nat)) (desk R C x xs xs) H S O oH (v<|aS<|aY n6 1 0) zu sO sN):=by
 by_cases k6:k=6
 .have t2:=ug<|yv (x:=x) f.jo (j5 (w:=1) (wt:=0) nk ∅ ∅ ∅) LP (by rw[f.len,k6]);refine t5<|SQ (CW (by subst k6;simp))<|gL (call2 rfl rfl rfl rfl t2) (by simp[Oj,rA,Cc,line,guard_pos])<|Fi 2 _ _
 .have VC:¬(k:Int)=6:=by lia
  refine t5<|OK<|EM (by simp[VC])
theorem ML(hx:∀y∈xs,GrpG y.1)(C' NS k:D)(Pj zu sO sN:ε L)(hv:Vo oH)(Yx:Vo Pj)(Yw:Vo zu)(h13:Vo sO)(h14:Vo sN):
 tD (wE A c C' HL NS k (desk R C x xs xs) (aF xs) (aH xs) O oH Pj zu sO sN)=.ok (.nx<|wE A c C' HL NS k (desk R C x xs xs) (aF xs) (aH xs) O oH Pj zu sO sN):=by
 have e1:=PK hx;have e2:=Wy xs;have h1:aD aO (aa (eM 0 6) av) (wE A c C' HL NS k (desk R C x xs xs) (aF xs) (aH xs) O oH Pj zu sO sN)=.ok (aF xs):=rQ rfl;have h2:aD bg (aa (eM 0 6) av) (wE A c C' HL NS k (desk R C x xs xs) (aF xs) (aH xs) O oH Pj zu sO sN)=.ok (aH xs):=IT rfl;have t:AQ (tE<|eB kn (aD aO<|aa (eM 0 6) av)<|eW 7) (tE<|eB kn (aD bg<|aa (eM 0 6) av)<|eW 8) (wE A c C' HL NS k (desk R C x xs xs) (aF xs) (aH xs) O oH Pj zu sO sN)=.ok AT:=by rw[AQ,Y1 h1 rfl e1];exact Y1 h2 rfl e2
 unfold tD;simp only[a_,jR,t];simp[bS,iY,NP,G8,BG,hv.nt,Yx.nt,Yw.nt,h13.nt,h14.nt,guard_pos]
theorem Sj(hR:1<=R)(wK:R<=3)(hC:8<=C)(cj:C<=12){k:Nat}(f:HE R C ns k xs)(hk:k<=6){n6:γ Nat}(nk:KS.h! n6=Ch/\n6.length<=8)(LP:∀y∈xs,y.1.name≠n6)(C' NS:D)(zu sO sN:ε L):
 ∃ts,tF (wE A c C' HL NS (.int (k:Nat)) (desk R C x xs xs) (aF xs) S O oH (v<|aS<|aY n6 1 0) zu sO sN)=.ok (.rt (.bl Ch) ts):=by
 by_cases k6:k=6
 .subst k6;exact⟨_,by simp[Bx,Vv,mP];rfl⟩
 have VC:¬(k:Int)=6:=by lia
 let⟨m',p,h⟩:=KI hR wK hC cj f ∅ nk LP;let⟨x1,a1⟩:=h x;have t2:=xJ x1 a1;have gq:=(j5 (w:=1) (wt:=0) nk ∅ ∅ ∅).ok;have e3:=KZ (xs:=xs++[(aY n6 1 0,At)]) (λ y hy=>by
  rcases A53.mp hy with h|h
  .exact(f.jo.Ha y h).ok
  .rw[A22.mp h];exact gq)
 have c1:=FO (c:=ck aW [Ch,AT] [6] (aa (eM 0 6)<|aa (eV 11) av)) (e:=eL (bI<|aa (eC<|.str [116,97,107,101,110]) av)) (ρ:=wE A c C' HL NS (.int (k:Nat)) (desk R C x xs xs) (aF xs) S O oH (v<|aS<|aY n6 1 0) zu sO sN) (call2 rfl rfl rfl rfl t2) (by simp[line]) PJ;have ad:eB cb (eW 7) (br<|aa (eV 11) av) (wE A c C' HL NS (.int (k:Nat)) (desk R C x (xs++[(aY n6 1 0,At)]) m') (aF xs) S O oH (v<|aS<|aY n6 1 0) zu sO sN)=.ok (aF<|xs++[(aY n6 1 0,At)]):=by
  have:=f.len;have q:xs.length+1<=16777216:=by lia
  simp[aF,line,q,guard_pos]
 have c2:mP (eB oEq (aD aO<|aa (eM 0 6) av)<|eB cb (eW 7)<|br<|aa (eV 11) av) (wE A c C' HL NS (.int (k:Nat)) (desk R C x (xs++[(aY n6 1 0,At)]) m') (aF xs) S O oH (v<|aS<|aY n6 1 0) zu sO sN)=.ok (.bl Ch,wE A c C' HL NS (.int (k:Nat)) (desk R C x (xs++[(aY n6 1 0,At)]) m') (aF xs) S O oH (v<|aS<|aY n6 1 0) zu sO sN):=by rw[mP,Sl,rQ rfl,Res.f7,ad,Res.f7,e3];rfl
 refine⟨[desk R C x (xs++[(aY n6 1 0,At)]) m'],?_⟩;have o1:mP (eB oEq (eW 5)<|eC<|.int 6) (wE A c C' HL NS (.int (k:Nat)) (desk R C x xs xs) (aF xs) S O oH (v<|aS<|aY n6 1 0) zu sO sN)=.ok (.bl AT,wE A c C' HL NS (.int (k:Nat)) (desk R C x xs xs) (aF xs) S O oH (v<|aS<|aY n6 1 0) zu sO sN):=by simp[mP,VC]
 unfold tF Bx Vv Dv;rw[o1];show((mB oEq _ _ _).bind _).bind _=_;rw[c1];exact A10 (λ z=>Res.bind z λ r=>Res.ok<|xC.rt r.1<|h9 [6] r.2) c2
end
end iU
set_option maxHeartbeats 2000000
namespace iU
open Z
open KG (G GO Pl Rows Hall GrpG GOk aS bz cY bZ places b! bN)
open KH (aF aH Good)
theorem ints_of:∀{l:γ D},(∀d∈l,∃i,d=.int i)->∃cs:γ Int,l=cs.map .int
|[],_=>⟨[],rfl⟩
|d::l,h=>by let⟨i,rfl⟩:=h d A18;let⟨cs,rfl⟩:=ints_of λ z hz=>h z (A11 _ hz);exact⟨i::cs,rfl⟩
theorem WO{f:γ D->Res (D×γ D)}{ρ:Env}{i:Nat}{e1 e2 e3:EF}{d1 d2 d3 r DK L?:D}{a a':Int}{k k':γ (Sum Int<|γ Nat)}{w w':γ D}(e0:DK=.dct (.inl a::.inl 0::k) w)(HW:L?=.dct (.inl a'::.inl 0::k') w')(hρ:ρ[i]?=AC (AC<|.bor DK))(h1:e1 ρ=.ok d1)(h2:e2 ρ=.ok d2)(h3:e3 ρ=.ok d3)(hf:f [DK,d1,d2,d3]=.ok (r,[L?])):
 ck f [Ch,AT,AT,AT] [i] (aa (eM 0 i)<|aa e1<|aa e2<|aa e3 av) ρ=.ok (r,ρ.set i<|some<|.bor L?):=by
 subst e0 HW;simp[ck,eM,hρ,h1,h2,h3,hf,HI,h9,fS,oo,Qf]
theorem l!{a b:SM}{ρ ρ1:Env}{d:D}(h1:a ρ=.ok (.nx ρ1))(h2:∃ts,b ρ1=.ok (.rt d ts)):∃ts,bY a b ρ=.ok (.rt d ts):=by let⟨ts,h2⟩:=h2;exact⟨ts,jh h1 h2⟩
theorem Q_{t:Ey}{ρ ρ':Env}(h:t ρ=.ok (Ch,ρ')):Fm t ρ=.ok (AT,ρ'):=by rw[Fm,h];rfl
theorem Qh{c:Ga}{ρ ρ':Env}(h:c ρ=.ok (.bl Ch,ρ')):tP c ρ=.ok (Ch,ρ'):=by rw[tP,h];rfl
theorem holds(zs:γ Int)(hn:zs.length<=63)(hb:∀i∈zs,bits i<=2^20):rV [.lst (zs.map .int)]=.ok (.bl Ch):=by
 let⟨c0,e0,_⟩:=KG.zX hb (k:=0) ∅;let⟨c1,e1,_⟩:=KG.zX hb (k:=1) ∅;let⟨c2,e2,_⟩:=KG.zX hb (k:=2) ∅;obtain⟨C,hC⟩:∃C:Nat,8+c0 % 5=(C:Int):=⟨(8+c0 % 5).toNat,by lia⟩
 have Tz:8<=C:=by lia
 have cj:C<=12:=by lia
 let⟨R,hR,wK,eR⟩:=Qz c0;let⟨k,hk,ek⟩:=Qy c0;let⟨ns,N,en⟩:=Rf c1;let⟨K,eK,hK⟩:=Li c2;have Nk:∀n∈ns,KS.EC n:=λ n h=>KS.JK (N.ok n h).1;let⟨xs,f,fl⟩:=Hc hR wK Tz cj N hK hk (aag R C ns);have mo:=Nt N Tz cj;have bo:=OG N Tz cj;rw[Sg];refine aT ?_;unfold Lr;generalize hA:D.lst (zs.map .int)=A at *;generalize Yt:D.lst (ns.map .str)=NS at *;refine KS.uX (ρ1:=[v A,v (.int c0),At,At,At,At,At,At,At,At,At,At,At,At,At]) (by simp[e0]) ?_;refine KS.uX (ρ1:=[v A,v (.int c0),v (.int (C:Nat)),At,At,At,At,At,At,At,At,At,At,At,At]) (by simp[hC]) ?_;refine KS.uX (ρ1:=[v A,v (.int c0),v (.int (C:Nat)),v (bZ<|bW R C),At,At,At,At,At,At,At,At,At,At,At]) ⟨_,by have:=Kl (C:=C) R ∅ cj (i:=2) (e:=eB bb (eL<|bI<|aa (eC<|.int 1)<|aa (eC<|.int 1)<|aa (eC<|.int 1)<|aa (eC<|.int 3) av) (eB oMod (eB oDiv (eW 1)<|eC<|.int 5)<|eC<|.int 4)) (ρ:=[v A,v (.int c0),v (.int (C:Nat)),At,At,At,At,At,At,At,At,At,At,At,At]) rfl (by simp[dv c0 5 ∅ ∅,md,eR,line]);rw[bG,this];rfl,rfl⟩ ?_
 refine KS.uX (ρ1:=[v A,v (.int c0),v (.int (C:Nat)),v (bZ<|bW R C),v NS,At,At,At,At,At,At,At,At,At,At]) (by simp[e1,en]) ?_;refine KS.uX (ρ1:=[v A,v (.int c0),v (.int (C:Nat)),v (bZ<|bW R C),v NS,v (.int (k:Nat)),At,At,At,At,At,At,At,At,At]) (by simp[dv c0 20 ∅ ∅,md,ek,line]) ?_;refine⟨.rt<|.bl Ch,vh (d:=bZ (bW R C)) ∅ (zB<|Km hR ∅ ∅ cj) (by simp[iY,lO]) λ x=>?_,rfl⟩;have D0:gD x 0 cC [bZ (bW R C),.tup [],.tup [],.tup []]=desk R C x [] []:=rfl;rw[D0]
 suffices q:∃ts,bY _ _ _=.ok (.rt (.bl Ch) ts)from q
 refine l! (t5<|Q_<|Qh<|WO rfl rfl rfl rfl (by simp[e2,eK]) rfl<|fl x) ?_;refine l! (ρ1:=[v A,v (.int c0),v (.int (C:Nat)),v (bZ<|bW R C),v NS,v (.int (k:Nat)),AC (.bor<|desk R C x xs xs),At,At,At,At,At,At,At,At]) (by simp[a_,mo,bo,bS,iY,lO,guard_pos]) ?_;refine l! (dD (rQ rfl) (by simp[bS,iY,lO])) ?_;refine l! (dD (IT rfl) (by simp[bS,iY,lO])) ?_;have eo:∃ds,(∀d∈ds,Ct d/\vR d=AT)/\eL (cM (iQ<|eL<|ny (eL<|Ru (eW 0) (u!<|eC<|.int 3)<|u!<|eC<|.int 23)<|eL<|bI<|aa (eC<|.int 0)<|aa (eC<|.int 83) av) 1 [4] (bA 0) cF Sk) [v A,v (.int c0),v (.int (C:Nat)),v (bZ<|bW R C),v NS,v (.int (k:Nat)),AC (.bor<|desk R C x xs xs),v (aF xs),v (aH xs),At,At,At,At,At,At]=.ok (.lst ds):=by
  subst hA Yt;obtain⟨ms,hms⟩:∃ms:γ Int,cut (zs.map D.int) (AC 3) (AC 23)=ms.map .int:=ints_of λ d hd=>by have:=Nr hd;let⟨i,_,rfl⟩:=A05.mp this;exact⟨i,rfl⟩
  have hml:ms.length<=63:=by have:=qF (zs.map D.int) (AC 3)<|some 23;rw[hms,A17,A17]at this;lia
  let⟨ds,ed,h⟩:=Fg Nk N.len (ms++[0,83]);rw[A63]at ed;have q:ms.length+2<=16777216:=by lia
  have ed':cm (bA 0) cF Sk [At,v (.lst<|ns.map .str)] (ms.map .int++[.int 0,.int 83])=.ok ds:=ed;refine⟨ds,h,?_⟩;simp[bV,eP,rA,hms,Cc,line,guard_pos,q,mh];exact A10 (Res.map D.lst) ed'
 let⟨os,ho,eo⟩:=eo;refine l! (dD eo (by simp[bS,iY,lO])) ?_;let⟨oH,hv,aao⟩:=xX (x:=x) (A:=A) (c:=.int c0) (C':=.int (C:Nat)) (hl:=bZ (bW R C)) (NS:=NS) (k:=.int (k:Nat)) (H:=aF xs) (S:=aH xs) (O:=.lst os) (hall:=bZ (bW R C)) (gs:=aF xs) (hd:=aH xs) (ps:=aH xs) os At (.inl rfl) ho;refine l! (ρ1:=wE A (.int c0) (.int (C:Nat)) (bZ<|bW R C) NS (.int (k:Nat)) (desk R C x xs xs) (aF xs) (aH xs) (.lst os) oH At At At At) ?_ ?_
 .exact aao
 have nt:¬lO oH:=by rcases hv with rfl|⟨_,rfl⟩<;>simp[lO]
 have hl:=N.len;obtain⟨n6,h6⟩:∃n,ns[6]?=AC n:=⟨_,A01 ∅⟩
 have i6:bb NS (.int 6)=.ok (.str n6):=by rw[<-Yt];exact ib h6
 have X7:=N.ok n6<|A13 h6;refine l! (dD (vQ (n:=n6) (w:=1) (wt:=0) (by simp[i6]) rfl rfl) (by simp[bS,iY,NP,G8,BG,nt])) ?_;have ol:cQ (bZ<|bW R C)=.ok (.int (R:Nat)):=by simp[bZ,bW]
 refine l! (dD (d:=aS (gF n6 R C)) (by simp[i6,ol,line];rfl) (by simp[bS,iY,NP,G8,BG,nt])) ?_;have LP:∀y∈xs,y.1.name≠n6:=λ y hy e=>by
  have m1:n6∈ns.take k:=by rw[<-f.Ng,<-e];exact A05.mpr ⟨y,hy,rfl⟩
  let⟨i,hi⟩:=A76 m1;have oY:i<k:=by have:=(A04.mp hi).1;rw[A26]at this;lia
  rw[B20 oY]at hi;have:=(B79 (A04.mp hi).1 N.nd).mp<|hi.trans h6.symm;lia
 have G6:=j5 (w:=1) (wt:=0) X7 ∅ ∅ ∅;subst Yt;let⟨sO,sN,v13,v14,eA⟩:=Lx (A:=A) (c:=.int c0) (HL:=bZ (bW R C)) (H:=aF xs) (S:=aH xs) (O:=.lst os) (x:=x) hR wK Tz cj N f hk X7 LP hv (.int (C:Nat));refine l! eA ?_;refine l! (IL hR wK Tz cj f X7 LP (.int (C:Nat)) _ _ sO sN) ?_;refine l! (ML (λ y hy=>(f.jo.Ha y hy).ok) _ _ _ _ _ sO sN hv (.inr ⟨_,rfl⟩) (.inr ⟨_,rfl⟩) v13 v14) ?_;exact Sj hR wK Tz cj f hk X7 LP (.int (C:Nat)) _ _ sO sN
end iU
set_option maxRecDepth 100000
namespace iU
open PySem PySem.Spec PyProof.Rows L2 ZQ KG KH KB KC KA KS
def top(i:Nat):θ:=PySem.Challenge.pw_besideseats_k82_asks_refused_in_order.main.body.getD i<|.Pass ⟨0,0,0,0⟩
abbrev Cw(i j:Nat):θ:=ZS.clsAt (top i) j
theorem xy:bootBuiltins "ValueError"=AC (.type "ValueError"):=by kernel_rfl
theorem OJ:bootBuiltins "bool"=AC (.type "bool"):=by kernel_rfl
theorem Es:bootBuiltins "int"=AC (.type "int"):=by kernel_rfl
theorem a8:bootBuiltins "isinstance"=AC (.builtin "isinstance"):=by kernel_rfl
theorem OI:bootBuiltins "list"=AC (.type "list"):=by kernel_rfl
theorem Lq:bootBuiltins "max"=AC (.builtin "max"):=by kernel_rfl
theorem SI:bootBuiltins "min"=AC (.builtin "min"):=by kernel_rfl
theorem Er:bootBuiltins "str"=AC (.type "str"):=by kernel_rfl
theorem qK:bootBuiltins "tuple"=AC (.type "tuple"):=by kernel_rfl
abbrev yW:θ:=top 68
theorem nR:a! ["groups","seatings"] ["groups","seatings"] (ai yW):=tz
abbrev u3:θ:=top 73
theorem lz:a! ["groups","places","seating","waiting","k","spots","papers"] ["groups","places","seating"] (ai u3):=tz
abbrev A7:θ:=top 82
theorem pJ:a! ["_law_e","_law_found"] ["_law_e"] (ai A7):=tz
set_option genInjectivity false in
structure Fs(K:Db)(mg:Str->Option Value)(h:Heap)where
 X:K.In h
 G:h.Ns mainGlobals mg
 {eu:Addr}
 CS:XV K "is_whole" (top 13)
 pz:XV K "is_whole_within" (top 14)
 AI:XV K "is_letter" (top 15)
 Gm:XV K "is_name" (top 31)
 Gn:XV K "is_kind" (top 32)
 AJ:XV K "is_amount" (top 33)
 Gj:XV K "is_wish" (top 34)
 yO:XV K "are_wishes" (top 35)
 qW:XV K "asks_for_seats" (top 36)
 CT:XV K "is_group" (top 37)
 CM:XV K "worth_in" (top 38)
 Gk:XV K "is_sign" (top 42)
 Ik:XV K "is_row" (top 43)
 Gq:XV K "is_hall" (top 44)
 Gg:XV K "sign_at" (top 45)
 Mn:XV K "takes" (top 47)
 CO:XV K "seats_of" (top 48)
 Qa:XV K "fits" (top 49)
 AD:XV K "places_of" (top 50)
 Mp:XV K "apart" (top 52)
 qV:XV K "those_that_sit" (top 53)
 qX:XV K "apart_from_all" (top 54)
 Mo:XV K "keeps" (top 55)
 CL:XV K "worth_of" (top 56)
 uN:XV K "fast_seating" (top 59)
 P_:ZS.qP K "ways" (top 60)
 nO:XV K "small_start" (top 61)
 yL:XV K "with_place" (top 62)
 yM:XV K "open_among" (top 63)
 s_:XV K "with_one_more" (top 64)
 tj:XV K "seatings_from" (top 65)
 uM:ZS.qP K "first_of_all" (top 66)
 pA:ZS.wD K "best_among" (top 68)
 nP:ZS.qP K "best_of_all" (top 69)
 yP:XV K "all_places" (top 71)
 CN:XV K "spots_of" (top 72)
 ju:ZS.wD K "paper_beside" (top 73)
 CP:ZS.qP K "paper_of" (top 74)
 AL:sB K eu "__init__" "Desk.__init__" (Cw 77 0)
 qY:sB K eu "number_of" "Desk.number_of" (Cw 77 1)
 uQ:sB K eu "ask" "Desk.ask" (Cw 77 2)
 AM:sB K eu "fast" "Desk.fast" (Cw 77 3)
 uP:sB K eu "at_hand" "Desk.at_hand" (Cw 77 6)
 uO:sB K eu "seating" "Desk.seating" (Cw 77 7)
 wN:XV K "_law_cell_at" (top 79)
 AG:XV K "_law_mixed" (top 80)
 AE:XV K "_law_names" (top 81)
 AH:XV K "_law_kinds" (top 82)
 CQ:XV K "_law_told" (top 83)
 Gi:XV K "_law_due" (top 84)
 Gh:XV K "_law_odd" (top 85)
 yN:XV K "_law_filled" (top 86)
 nu:XV K "_law_too_many_ways" (top 87)
 uL:XV K "_law_both_due" (top 88)
 T_:XV K "law" (top 89)
 zo:Ev K mainGlobals "ValueError"=AC At
 Vr:Ev K mainGlobals "all"=AC At
 Ri:Ev K mainGlobals "bool"=AC At
 Br:Ev K mainGlobals "enumerate"=AC At
 Vq:Ev K mainGlobals "int"=AC At
 zm:Ev K mainGlobals "isinstance"=AC At
 Vp:Ev K mainGlobals "len"=AC At
 Rh:Ev K mainGlobals "list"=AC At
 Vn:Ev K mainGlobals "max"=AC At
 Vm:Ev K mainGlobals "min"=AC At
 Nj:Ev K mainGlobals "range"=AC At
 Vl:Ev K mainGlobals "str"=AC At
 Vk:Ev K mainGlobals "sum"=AC At
 Ni:Ev K mainGlobals "tuple"=AC At
 Vj:Ev K mainGlobals "zip"=AC At
 {ET:Tok}
 Ml:Ev K mainGlobals "DEPTH"=AC (AC<|.int 2 ET)
 {O5:Tok}
 T?:Ev K mainGlobals "GAP"=AC (AC<|.int 5 O5)
 {Iy:Tok}
 P!:Ev K mainGlobals "KIND"=AC (AC<|.int 3 Iy)
 {uT:Tok}
 CK:Ev K mainGlobals "LAST_ROW"=AC (AC<|.int 5 uT)
 {lU:Tok}
 uK:Ev K mainGlobals "MOST_COLUMNS"=AC (AC<|.int 12 lU)
 {pG:Tok}
 yJ:Ev K mainGlobals "MOST_DEPTH"=AC (AC<|.int 3 pG)
 {uS:Tok}
 CJ:Ev K mainGlobals "MOST_GAP"=AC (AC<|.int 6 uS)
 {nQ:Tok}
 wM:Ev K mainGlobals "MOST_GUESTS"=AC (AC<|.int 6 nQ)
 {lT:Tok}
 uJ:Ev K mainGlobals "MOST_LETTERS"=AC (AC<|.int 8 lT)
 {sE:Tok}
 AB:Ev K mainGlobals "MOST_ROWS"=AC (AC<|.int 6 sE)
 {sD:Tok}
 AA:Ev K mainGlobals "MOST_WAYS"=AC (AC<|.int 2000 sD)
 {pF:Tok}
 yI:Ev K mainGlobals "MOST_WIDTH"=AC (AC<|.int 12 pF)
 {Iw:Tok}
 P9:Ev K mainGlobals "NAME"=AC (AC<|.int 0 Iw)
 {ES:Tok}
 Mj:Ev K mainGlobals "PARTS"=AC (AC<|.int 8 ES)
 {Iu:Tok}
 P8:Ev K mainGlobals "WIDE"=AC (AC<|.int 4 Iu)
 {ER:Tok}
 Mi:Ev K mainGlobals "WIDTH"=AC (AC<|.int 1 ER)
 {AO:Tok}
 Ii:Ev K mainGlobals "WISHES"=AC (AC<|.int 7 AO)
 {EO:Tok}
 Mh:Ev K mainGlobals "WORTH"=AC (AC<|.int 6 EO)
 w_Desk:Ev K mainGlobals "Desk"=AC (AC<|.ref eu)
 {cn:Addr}
 w_Full:Ev K mainGlobals "Full"=AC (AC<|.ref cn)
 {bw:Addr}
 w_NoGroup:Ev K mainGlobals "NoGroup"=AC (AC<|.ref bw)
 {fZ:Addr}
 w_NoHall:Ev K mainGlobals "NoHall"=AC (AC<|.ref fZ)
 {fY:Addr}
 w_NoName:Ev K mainGlobals "NoName"=AC (AC<|.ref fY)
 {iN:Addr}
 w_NoRow:Ev K mainGlobals "NoRow"=AC (AC<|.ref iN)
 {c8:Addr}
 w_NoSeating:Ev K mainGlobals "NoSeating"=AC (AC<|.ref c8)
 {fX:Addr}
 w_NoText:Ev K mainGlobals "NoText"=AC (AC<|.ref fX)
 {d7:Addr}
 w_SeatError:Ev K mainGlobals "SeatError"=AC (AC<|.ref d7)
 {aU:Addr}
 w_TooGreat:Ev K mainGlobals "TooGreat"=AC (AC<|.ref aU)
 {b?:Addr}
 w_Twice:Ev K mainGlobals "Twice"=AC (AC<|.ref b?)
 Md:ut K cn=Ch
 CF:ut K bw=Ch
 yG:ut K d7=Ch
 Aq:ut K aU=Ch
 Ig:ut K b?=Ch
 CD:AC8 K bw [.type "ValueError",.type "Exception",.type "BaseException",.type "object"] "ValueError.__new__"=Ch
 Ic:AC8 K b? [.type "ValueError",.type "Exception",.type "BaseException",.type "object"] "ValueError.__new__"=Ch
 iG:ZS.nL K cn
 dN:ZS.nL K bw
 cH:ZS.nL K aU
 fV:ZS.nL K b?
 zw:EQ K (.ref cn) (.ref cn)=AC Ch
 tX:EQ K (.ref cn) (.ref bw)=AC AT
 vv:EQ K (.ref cn) (.ref fZ)=AC AT
 vt:EQ K (.ref cn) (.ref fY)=AC AT
 w?:EQ K (.ref cn) (.ref iN)=AC AT
 qa:EQ K (.ref cn) (.ref c8)=AC AT
 vq:EQ K (.ref cn) (.ref fX)=AC AT
 rF:EQ K (.ref cn) (.ref aU)=AC AT
 w!:EQ K (.ref cn) (.ref b?)=AC AT
 oP:EQ K (.ref cn) (.type "ValueError")=AC Ch
 tW:EQ K (.ref bw) (.ref cn)=AC AT
 oO:EQ K (.ref bw) (.ref bw)=AC Ch
 p_:EQ K (.ref bw) (.ref fZ)=AC AT
 p?:EQ K (.ref bw) (.ref fY)=AC AT
 rE:EQ K (.ref bw) (.ref iN)=AC AT
 mf:EQ K (.ref bw) (.ref c8)=AC AT
 p!:EQ K (.ref bw) (.ref fX)=AC AT
 nB:EQ K (.ref bw) (.ref aU)=AC AT
 rD:EQ K (.ref bw) (.ref b?)=AC AT
 lI:EQ K (.ref bw) (.type "ValueError")=AC Ch
 rC:EQ K (.ref aU) (.ref cn)=AC AT
 nA:EQ K (.ref aU) (.ref bw)=AC AT
 oN:EQ K (.ref aU) (.ref fZ)=AC AT
 oM:EQ K (.ref aU) (.ref fY)=AC AT
 p9:EQ K (.ref aU) (.ref iN)=AC AT
 lH:EQ K (.ref aU) (.ref c8)=AC AT
 oK:EQ K (.ref aU) (.ref fX)=AC AT
 me:EQ K (.ref aU) (.ref aU)=AC Ch
 p8:EQ K (.ref aU) (.ref b?)=AC AT
 k?:EQ K (.ref aU) (.type "ValueError")=AC Ch
 w9:EQ K (.ref b?) (.ref cn)=AC AT
 rB:EQ K (.ref b?) (.ref bw)=AC AT
 tV:EQ K (.ref b?) (.ref fZ)=AC AT
 tU:EQ K (.ref b?) (.ref fY)=AC AT
 vp:EQ K (.ref b?) (.ref iN)=AC AT
 oJ:EQ K (.ref b?) (.ref c8)=AC AT
 tT:EQ K (.ref b?) (.ref fX)=AC AT
 p7:EQ K (.ref b?) (.ref aU)=AC AT
 vo:EQ K (.ref b?) (.ref b?)=AC Ch
 nz:EQ K (.ref b?) (.type "ValueError")=AC Ch
 OD:H? K eu
 Np:al K eu=Ch
 ND:FS K (.ref eu)=Ch
 GQ:Fa K (.ref eu) "guests"=AC At
 Nf:Fa K (.ref eu) "hall"=AC At
 Nc:Fa K (.ref eu) "held"=AC At
 GN:Fa K (.ref eu) "places"=AC At
 Oh:ZS.qO K cn
 mG:ZS.qO K aU
 xq:Fa K (.ref cn) "paper"=AC At
 kO:Fa K (.ref aU) "many"=AC At
 kN:Fa K (.ref aU) "most"=AC At
 pL:Ix K cn (.ref d7)=AC Ch
 q_:Ix K cn (.ref aU)=AC AT
 lX:Ix K bw (.ref d7)=AC Ch
 nv:Ix K bw (.ref aU)=AC AT
 lF:Ix K aU (.ref d7)=AC Ch
 lW:Ix K aU (.ref aU)=AC Ch
 oA:Ix K b? (.ref d7)=AC Ch
 pK:Ix K b? (.ref aU)=AC AT
 AK:sB K cn "__init__" "Full.__init__" (Cw 10 0)
 Mb:ZS.CC K cn=Ch
 NC:FS K (.ref cn)=Ch
 tm:sB K aU "__init__" "TooGreat.__init__" (Cw 11 0)
 Ao:ZS.CC K aU=Ch
 BB:FS K (.ref aU)=Ch
section
variable{P:ο}{w:ξ}{K:Db}{mg:Str->ε ζ}{base h:ν}(z:Fs K mg h)
include z
theorem Fs.zK:mg "ValueError"=At:=A47 z.X z.G z.zo
theorem Fs.n!:mg "all"=At:=A47 z.X z.G z.Vr
theorem Fs.g_bool:mg "bool"=At:=A47 z.X z.G z.Ri
theorem Fs.BP:mg "enumerate"=At:=A47 z.X z.G z.Br
theorem Fs.Kt:mg "int"=At:=A47 z.X z.G z.Vq
theorem Fs.bp:mg "isinstance"=At:=A47 z.X z.G z.zm
theorem Fs.dG:mg "len"=At:=A47 z.X z.G z.Vp
theorem Fs.R?:mg "list"=At:=A47 z.X z.G z.Rh
theorem Fs.PD:mg "max"=At:=A47 z.X z.G z.Vn
theorem Fs.Wj:mg "min"=At:=A47 z.X z.G z.Vm
theorem Fs.d?:mg "range"=At:=A47 z.X z.G z.Nj
theorem Fs.Ks:mg "str"=At:=A47 z.X z.G z.Vl
theorem Fs.PC:mg "sum"=At:=A47 z.X z.G z.Vk
theorem Fs.j4:mg "tuple"=At:=A47 z.X z.G z.Ni
theorem Fs.PB:mg "zip"=At:=A47 z.X z.G z.Vj
theorem Fs.qJ:mg "DEPTH"=AC (.int 2 z.ET):=A15 z.X z.G z.Ml
theorem Fs.Lp:mg "GAP"=AC (.int 5 z.O5):=A15 z.X z.G z.T?
theorem Fs.Lo:mg "KIND"=AC (.int 3 z.Iy):=A15 z.X z.G z.P!
theorem Fs.En:mg "LAST_ROW"=AC (.int 5 z.uT):=A15 z.X z.G z.CK
theorem Fs.wx:mg "MOST_COLUMNS"=AC (.int 12 z.lU):=A15 z.X z.G z.uK
theorem Fs.z5:mg "MOST_DEPTH"=AC (.int 3 z.pG):=A15 z.X z.G z.yJ
theorem Fs.Em:mg "MOST_GAP"=AC (.int 6 z.uS):=A15 z.X z.G z.CJ
theorem Fs.iI:mg "MOST_GUESTS"=AC (.int 6 z.nQ):=A15 z.X z.G z.wM
theorem Fs.wu:mg "MOST_LETTERS"=AC (.int 8 z.lT):=A15 z.X z.G z.uJ
theorem Fs.Ci:mg "MOST_ROWS"=AC (.int 6 z.sE):=A15 z.X z.G z.AB
theorem Fs.j':mg "MOST_WAYS"=AC (.int 2000 z.sD):=A15 z.X z.G z.AA
theorem Fs.z0:mg "MOST_WIDTH"=AC (.int 12 z.pF):=A15 z.X z.G z.yI
theorem Fs.mJ:mg "NAME"=AC (.int 0 z.Iw):=A15 z.X z.G z.P9
theorem Fs.OF:mg "PARTS"=AC (.int 8 z.ES):=A15 z.X z.G z.Mj
theorem Fs.Ln:mg "WIDE"=AC (.int 4 z.Iu):=A15 z.X z.G z.P8
theorem Fs.qI:mg "WIDTH"=AC (.int 1 z.ER):=A15 z.X z.G z.Mi
theorem Fs.Cg:mg "WISHES"=AC (.int 7 z.AO):=A15 z.X z.G z.Ii
theorem Fs.F5:mg "WORTH"=AC (.int 6 z.EO):=A15 z.X z.G z.Mh
theorem Fs.Ro:mg "Full"=AC (.ref z.cn):=A15 z.X z.G z.w_Full
theorem Fs.G3:mg "NoGroup"=AC (.ref z.bw):=A15 z.X z.G z.w_NoGroup
theorem Fs.J3:mg "NoHall"=AC (.ref z.fZ):=A15 z.X z.G z.w_NoHall
theorem Fs.J0:mg "NoName"=AC (.ref z.fY):=A15 z.X z.G z.w_NoName
theorem Fs.Nv:mg "NoRow"=AC (.ref z.iN):=A15 z.X z.G z.w_NoRow
theorem Fs.Bw:mg "NoSeating"=AC (.ref z.c8):=A15 z.X z.G z.w_NoSeating
theorem Fs.JZ:mg "NoText"=AC (.ref z.fX):=A15 z.X z.G z.w_NoText
theorem Fs.Bv:mg "SeatError"=AC (.ref z.d7):=A15 z.X z.G z.w_SeatError
theorem Fs.vj:mg "TooGreat"=AC (.ref z.aU):=A15 z.X z.G z.w_TooGreat
theorem Fs.Nu:mg "Twice"=AC (.ref z.b?):=A15 z.X z.G z.w_Twice
theorem Fs.CG:wP K [70,117,108,108] z.cn:=AAA (by decide +kernel) z.w_Full z.Md
theorem Fs.qT:wP K [78,111,71,114,111,117,112] z.bw:=AAA (by decide +kernel) z.w_NoGroup z.CF
theorem Fs.As:wP K [83,101,97,116,69,114,114,111,114] z.d7:=AAA (by decide +kernel) z.w_SeatError z.yG
theorem Fs.gg:wP K [84,111,111,71,114,101,97,116] z.aU:=AAA (by decide +kernel) z.w_TooGreat z.Aq
theorem Fs.yH:wP K [84,119,105,99,101] z.b?:=AAA (by decide +kernel) z.w_Twice z.Ig
theorem Fs.BK:gt K [70,117,108,108] (.ref z.cn) Ch:=ii (by decide +kernel) z.w_Full z.iG z.zw
theorem Fs.vK:gt K [70,117,108,108] (.ref z.bw) AT:=ii (by decide +kernel) z.w_Full z.iG z.tX
theorem Fs.xl:gt K [70,117,108,108] (.ref z.fZ) AT:=ii (by decide +kernel) z.w_Full z.iG z.vv
theorem Fs.xk:gt K [70,117,108,108] (.ref z.fY) AT:=ii (by decide +kernel) z.w_Full z.iG z.vt
theorem Fs.zE:gt K [70,117,108,108] (.ref z.iN) AT:=ii (by decide +kernel) z.w_Full z.iG z.w?
theorem Fs.rO:gt K [70,117,108,108] (.ref z.c8) AT:=ii (by decide +kernel) z.w_Full z.iG z.qa
theorem Fs.xh:gt K [70,117,108,108] (.ref z.fX) AT:=ii (by decide +kernel) z.w_Full z.iG z.vq
theorem Fs.t!:gt K [70,117,108,108] (.ref z.aU) AT:=ii (by decide +kernel) z.w_Full z.iG z.rF
theorem Fs.zD:gt K [70,117,108,108] (.ref z.b?) AT:=ii (by decide +kernel) z.w_Full z.iG z.w!
theorem Fs.qk:gt K [70,117,108,108] (.type "ValueError") Ch:=ii (by decide +kernel) z.w_Full z.iG z.oP
theorem Fs.vJ:gt K [78,111,71,114,111,117,112] (.ref z.cn) AT:=ii (by decide +kernel) z.w_NoGroup z.dN z.tW
theorem Fs.qj:gt K [78,111,71,114,111,117,112] (.ref z.bw) Ch:=ii (by decide +kernel) z.w_NoGroup z.dN z.oO
theorem Fs.rN:gt K [78,111,71,114,111,117,112] (.ref z.fZ) AT:=ii (by decide +kernel) z.w_NoGroup z.dN z.p_
theorem Fs.rM:gt K [78,111,71,114,111,117,112] (.ref z.fY) AT:=ii (by decide +kernel) z.w_NoGroup z.dN z.p?
theorem Fs.t9:gt K [78,111,71,114,111,117,112] (.ref z.iN) AT:=ii (by decide +kernel) z.w_NoGroup z.dN z.rE
theorem Fs.nE:gt K [78,111,71,114,111,117,112] (.ref z.c8) AT:=ii (by decide +kernel) z.w_NoGroup z.dN z.mf
theorem Fs.rL:gt K [78,111,71,114,111,117,112] (.ref z.fX) AT:=ii (by decide +kernel) z.w_NoGroup z.dN z.p!
theorem Fs.oW:gt K [78,111,71,114,111,117,112] (.ref z.aU) AT:=ii (by decide +kernel) z.w_NoGroup z.dN z.nB
theorem Fs.t8:gt K [78,111,71,114,111,117,112] (.ref z.b?) AT:=ii (by decide +kernel) z.w_NoGroup z.dN z.rD
theorem Fs.mn:gt K [78,111,71,114,111,117,112] (.type "ValueError") Ch:=ii (by decide +kernel) z.w_NoGroup z.dN z.lI
theorem Fs.t7:gt K [84,111,111,71,114,101,97,116] (.ref z.cn) AT:=ii (by decide +kernel) z.w_TooGreat z.cH z.rC
theorem Fs.oV:gt K [84,111,111,71,114,101,97,116] (.ref z.bw) AT:=ii (by decide +kernel) z.w_TooGreat z.cH z.nA
theorem Fs.qi:gt K [84,111,111,71,114,101,97,116] (.ref z.fZ) AT:=ii (by decide +kernel) z.w_TooGreat z.cH z.oN
theorem Fs.qh:gt K [84,111,111,71,114,101,97,116] (.ref z.fY) AT:=ii (by decide +kernel) z.w_TooGreat z.cH z.oM
theorem Fs.rK:gt K [84,111,111,71,114,101,97,116] (.ref z.iN) AT:=ii (by decide +kernel) z.w_TooGreat z.cH z.p9
theorem Fs.mm:gt K [84,111,111,71,114,101,97,116] (.ref z.c8) AT:=ii (by decide +kernel) z.w_TooGreat z.cH z.lH
theorem Fs.qf:gt K [84,111,111,71,114,101,97,116] (.ref z.fX) AT:=ii (by decide +kernel) z.w_TooGreat z.cH z.oK
theorem Fs.nD:gt K [84,111,111,71,114,101,97,116] (.ref z.aU) Ch:=ii (by decide +kernel) z.w_TooGreat z.cH z.me
theorem Fs.rJ:gt K [84,111,111,71,114,101,97,116] (.ref z.b?) AT:=ii (by decide +kernel) z.w_TooGreat z.cH z.p8
theorem Fs.lJ:gt K [84,111,111,71,114,101,97,116] (.type "ValueError") Ch:=ii (by decide +kernel) z.w_TooGreat z.cH z.k?
theorem Fs.zC:gt K [84,119,105,99,101] (.ref z.cn) AT:=ii (by decide +kernel) z.w_Twice z.fV z.w9
theorem Fs.t6:gt K [84,119,105,99,101] (.ref z.bw) AT:=ii (by decide +kernel) z.w_Twice z.fV z.rB
theorem Fs.vI:gt K [84,119,105,99,101] (.ref z.fZ) AT:=ii (by decide +kernel) z.w_Twice z.fV z.tV
theorem Fs.vH:gt K [84,119,105,99,101] (.ref z.fY) AT:=ii (by decide +kernel) z.w_Twice z.fV z.tU
theorem Fs.xg:gt K [84,119,105,99,101] (.ref z.iN) AT:=ii (by decide +kernel) z.w_Twice z.fV z.vp
theorem Fs.qe:gt K [84,119,105,99,101] (.ref z.c8) AT:=ii (by decide +kernel) z.w_Twice z.fV z.oJ
theorem Fs.vG:gt K [84,119,105,99,101] (.ref z.fX) AT:=ii (by decide +kernel) z.w_Twice z.fV z.tT
theorem Fs.rH:gt K [84,119,105,99,101] (.ref z.aU) AT:=ii (by decide +kernel) z.w_Twice z.fV z.p7
theorem Fs.xf:gt K [84,119,105,99,101] (.ref z.b?) Ch:=ii (by decide +kernel) z.w_Twice z.fV z.vo
theorem Fs.oU:gt K [84,119,105,99,101] (.type "ValueError") Ch:=ii (by decide +kernel) z.w_Twice z.fV z.nz
theorem Fs.hC:ZS.ue K "Desk" z.eu:=⟨z.w_Desk,z.OD⟩
theorem Fs.fD:ZS.T4 K "guests":=⟨z.eu,z.w_Desk,z.GQ⟩
theorem Fs.pX:ZS.T4 K "hall":=⟨z.eu,z.w_Desk,z.Nf⟩
theorem Fs.m7:ZS.T4 K "held":=⟨z.eu,z.w_Desk,z.Nc⟩
theorem Fs.m6:ZS.T4 K "places":=⟨z.eu,z.w_Desk,z.GN⟩
theorem Fs.rX:ZS.O0 K "many" [84,111,111,71,114,101,97,116]:=ZS.FL z.gg.1 z.cH z.mG z.kO
theorem Fs.rW:ZS.O0 K "most" [84,111,111,71,114,101,97,116]:=ZS.FL z.gg.1 z.cH z.mG z.kN
theorem Jw:ZS.LI P w K mg base z.cn 1 [[112,97,112,101,114]]:=ZS.WS z.AK z.Mb z.NC z.Oh z.xq (by decide +kernel) rfl (λ _ _ _ _ _ _=>ZS.YH λ _ _=>rfl) tz (ZS.EJ (by decide +kernel)) (by decide +kernel) (by decide +kernel)
theorem pR:ZS.LI P w K mg base z.aU 1 [[109,97,110,121],[109,111,115,116]]:=ZS.WR z.tm z.Ao z.BB z.mG z.kO z.kN (by decide +kernel) (by decide +kernel) rfl (by decide +kernel) (λ _ _ _ _ _ _=>ZS.bd3 λ _ _ _=>rfl) tz (ZS.EJ (by decide +kernel)) (by decide +kernel)
theorem Bk:bi P w K mg base "is_whole" 1 ["thing"] (KC.fg):=cx (N:=["thing"]) (z.CS.df z.X z.G) λ nd hu hr=>(aB<|aL<|mI (fJ .int rfl z.bp a8 rfl z.Kt Es aq)<|i9<|K_<|fJ .bool rfl z.bp a8 rfl z.g_bool OJ aq)
theorem cK:bi P w K mg base "is_whole_within" 2 ["thing","least","most"] (KC.bu):=cx (N:=["thing","least","most"]) (z.pz.df z.X z.G) λ nd hu hr=>(aB<|aL<|mI (az (Bk z)<|ah aA aj)<|i9<|B7 io io aq aq aq)
theorem kX:bi P w K mg base "is_letter" 1 ["text"] (KA.cX):=cx (N:=["text"]) (z.AI.df z.X z.G) λ nd hu hr=>(aB<|aL<|mI (cJ (im hu) (au<|bX z.dG aq)<|au ag)<|i9<|B7 io io (au aX) aq<|au aX)
theorem u?:bi P w K mg base "is_name" 2 ["thing"] (KS.fh):=cx (N:=["thing"]) (z.Gm.df z.X z.G) λ nd hu hr=>(aC (cB (K8<|n_ (cR<|iS<|fJ .str rfl z.bp a8 rfl z.Ks Er aq)<|kv<|cR<|mH io io (au ag) (au<|bX z.dG aq)<|au<|aN z.wu) (aB<|aL cP) bq)<|aB<|aL<|iH z.n!<|fM<|b8 (d_ aq) (N':=["sign"])<|az (kX z)<|ah aA aj)
theorem Di:bi P w K mg base "is_kind" 2 ["thing"] (KS.jH):=cx (N:=["thing"]) (z.Gn.df z.X z.G) λ nd hu hr=>(aB<|aL<|mI (fJ .str rfl z.bp a8 rfl z.Ks Er aq)<|i9<|FW (cJ (im hu) aq<|au aX)<|i9<|az (kX z)<|ah aA aj)
theorem pT:bi P w K mg base "is_amount" 3 ["thing","least"] (KS.g!):=cx (N:=["thing","least"]) (z.AJ.df z.X z.G) λ nd hu hr=>(aB<|aL<|az (cK z)<|ah aA<|ah aA<|hJ (wb (au<|K? (au ag)<|au ag)<|au ag) aj)
theorem Dg:bi P w K mg base "is_wish" 4 ["thing"] (KS.ie):=cx (N:=["thing"]) (z.Gj.df z.X z.G) λ nd hu hr=>(aC (cB (K8<|n_ (cR<|iS<|fJ .tuple rfl z.bp a8 rfl z.j4 qK aq)<|kv<|bK (pi hu) (au<|bX z.dG aq)<|au ag) (aB<|aL cP) bq)<|aB<|aL<|mI (az (cK z)<|bC (aR aq<|au ag)<|ae ag<|ah (aN z.En) aj)<|i9<|az (pT z)<|bC (aR aq<|au ag)<|ae ag aj)
theorem wX:bi P w K mg base "are_wishes" 5 ["thing"] (KS.iE):=cx (N:=["thing"]) (z.yO.df z.X z.G) λ nd hu hr=>(aC (cB (K8<|n_ (cR<|iS<|fJ .tuple rfl z.bp a8 rfl z.j4 qK aq)<|kv<|cR<|iS<|iH z.n!<|fM<|b8 (d_ aq) (N':=["wish"])<|az (Dg z)<|ah aA aj) (aB<|aL cP) bq)<|aB<|aL<|iH z.n!<|fM<|b8 (Eh<|eI z.d?<|wb (au<|bX z.dG aq)<|au ag) (N':=["k","thing"])<|cJ AAB (au<|aR (au<|aR aq aq)<|au ag)<|au<|aR (au<|aR aq<|au<|bU aq<|au ag)<|au ag)
theorem pU:bi P w K mg base "asks_for_seats" 3 ["parts"] (KS.eX):=cx (N:=["parts"]) (z.qW.df z.X z.G) λ nd hu hr=>(aC (cB (cR<|iS<|az (cK z)<|bC (aR aq<|au<|aN z.qI)<|ae ag<|ah (aN z.z0) aj) (aB<|aL cP) bq)<|aC (cB (cR<|iS<|az (cK z)<|bC (aR aq<|au<|aN z.qJ)<|ae ag<|ah (aN z.z5) aj) (aB<|aL cP) bq)<|aC (cB (cR<|iS<|az (cK z)<|bC (aR aq<|au<|aN z.Ln)<|ae ag<|hJ (fN (au<|aR aq<|au<|aN z.qI)<|au<|aR aq<|au<|aN z.qJ) aj) (aB<|aL cP) bq)<|aB<|aL<|mI (az (Di z)<|bC (aR aq<|au<|aN z.Lo) aj)<|i9<|az (cK z)<|bC (aR aq<|au<|aN z.Lp)<|ae ag<|ah (aN z.Em) aj)
theorem l0:bi P w K mg base "is_group" 6 ["thing"] (KS.cO):=cx (N:=["thing"]) (z.CT.df z.X z.G) λ nd hu hr=>(aC (cB (K8<|n_ (cR<|iS<|fJ .tuple rfl z.bp a8 rfl z.j4 qK aq)<|kv<|bK (pi hu) (au<|bX z.dG aq)<|au<|aN z.OF) (aB<|aL cP) bq)<|aC (cB (K8<|n_ (cR<|iS<|az (u? z)<|bC (aR aq<|au<|aN z.mJ) aj)<|kv<|cR<|iS<|az (pU z)<|ah aA aj) (aB<|aL cP) bq)<|aB<|aL<|mI (az (pT z)<|bC (aR aq<|au<|aN z.F5)<|ae ag aj)<|i9<|az (wX z)<|bC (aR aq<|au<|aN z.Cg) aj)
theorem Bh:bi P w K mg base "worth_in" 1 ["group","row"] (KB.j6):=cx (N:=["group","row"]) (z.CM.df z.X z.G) λ nd hu hr=>(aB<|aL<|bU (au<|aR aq<|au<|aN z.F5)<|au<|FV z.PC<|fM<|b8 (d_<|au<|aR aq<|au<|aN z.Cg) (N':=["wish","row"]) (aR aq<|au ag) (ht:=(pB<|bK (im hu) (au<|aR aq<|au ag) aq)))
theorem Dh:bi P w K mg base "is_sign" 2 ["text"] (KA.jG):=cx (N:=["text"]) (z.Gk.df z.X z.G) λ nd hu hr=>(aB<|aL<|FW (cJ (AAC hu) aq<|au<|aV<|ae aX<|ae aX<|ae aX aj)<|i9<|az (kX z)<|ah aA aj)
theorem GJ:bi P w K mg base "is_row" 3 ["thing"] (KA.jr):=cx (N:=["thing"]) (z.Ik.df z.X z.G) λ nd hu hr=>(aC (cB (K8<|n_ (cR<|iS<|fJ .str rfl z.bp a8 rfl z.Ks Er aq)<|kv<|cR<|mH io io (au ag) (au<|bX z.dG aq)<|au<|aN z.wx) (aB<|aL cP) bq)<|aB<|aL<|iH z.n!<|fM<|b8 (d_ aq) (N':=["sign"])<|az (Dh z)<|ah aA aj)
theorem Dj:bi P w K mg base "is_hall" 4 ["thing"] (KA.ij):=cx (N:=["thing"]) (z.Gq.df z.X z.G) λ nd hu hr=>(aC (cB (K8<|n_ (cR<|iS<|fJ .tuple rfl z.bp a8 rfl z.j4 qK aq)<|kv<|cR<|mH io io (au ag) (au<|bX z.dG aq)<|au<|aN z.Ci) (aB<|aL cP) bq)<|aC (cB (cR<|iS<|iH z.n!<|fM<|b8 (d_ aq) (N':=["row"])<|az (GJ z)<|ah aA aj) (aB<|aL cP) bq)<|aB<|aL<|iH z.n!<|fM<|b8 (d_ aq) (N':=["row","thing"])<|cJ (im hu) (au<|bX z.dG aq)<|au<|bX z.dG<|au<|aR aq<|au ag)
theorem De:bi P w K mg base "sign_at" 1 ["hall","seat"] (KG.lg):=cx (N:=["hall","seat","row","column"]) (z.Gg.df z.X z.G) λ nd hu hr=>(aC (aM<|aR aq<|au ag)<|aC (aM<|aR aq<|au ag)<|aC (cB (K8<|Sq (mH io AAB (au ag) aq<|au<|bX z.dG aq)<|Om<|mH io AAB (au ag) aq<|au<|bX z.dG<|au<|aR aq<|au ag) (aB<|aL<|aR (au<|aR aq aq) aq) bq)<|aB<|aL fi)
theorem Jx:bi P w K mg base "takes" 1 ["sign","kind"] (KG.qt):=cx (N:=["sign","kind"]) (z.Mn.df z.X z.G) λ nd hu hr=>(aB<|aL<|FW (cJ (AAC hu) aq<|au<|aV<|ae aX<|ae aX aj)<|i9<|cJ (im hu) aq aq)
theorem Bi:bi P w K mg base "seats_of" 1 ["group","place"] (KG.j7):=cx (N:=["group","place","seats","row"]) (z.CO.df z.X z.G) λ nd hu hr=>(aC (qE<|a9 aj)<|aC (jm (v? z.d? (aR aq<|au ag)<|bU (au<|aR aq<|au ag)<|au<|aR aq<|au<|aN z.qJ) cU<|aB<|Ee (i:=2) (pv 2)<|b8 (Eh<|v? z.d? (aR aq<|au ag)<|bU (au<|aR aq<|au ag)<|au<|aR aq<|au<|aN z.qI) (N':=["column","row"])<|aV<|ah aA<|ah aA aj)<|aB<|aL<|ni z.j4 aq)
theorem Ff:bi P w K mg base "fits" 2 ["hall","group","place"] (KG.qv):=cx (N:=["hall","group","place","signs"]) (z.Qa.df z.X z.G) λ nd hu hr=>(aC (uA (i:=3) rfl nd rfl (lo rfl) (d_<|au<|az (Bi z)<|ah aA<|ah aA aj) (N':=["seat","hall"]) (n:=1) (is:=[0]) (li (by kernel_rfl)) (ZS.jD ∅) (λ _ _ _ _ _ _=>cU) (λ _ _ _ _ _=>yQ) λ _ _ _ _ _=>(az (De z)<|ah aA<|ah aA aj))<|aC (cB (cR<|iS<|iH z.n!<|fM<|b8 (d_ aq) (N':=["sign","group"])<|az (Jx z)<|ah aA<|bC (aR aq<|au<|aN z.Lo) aj) (aB<|aL cP) bq)<|aB<|aL<|cJ ZS.aaD (au<|Lb hu aq<|au aX)<|au<|aR aq<|au<|aN z.Ln)
theorem kW:bi P w K mg base "places_of" 3 ["hall","group"] (KG.fG):=cx (N:=["hall","group","places","row"]) (z.AD.df z.X z.G) λ nd hu hr=>(aC (qE<|a9 aj)<|aC (jm (eI z.d?<|bX z.dG aq) cU<|aB<|Ee (i:=2) (pv 2)<|b8 (Eh<|eI z.d?<|bX z.dG<|au<|aR aq aq) (N':=["column","hall","group","row"]) (aV<|ah aA<|ah aA aj) (ht:=(pB<|iS<|az (Ff z)<|ah aA<|ah aA<|bc (aV<|ah aA<|ah aA aj) aj)))<|aB<|aL<|ni z.j4 aq)
theorem Jz:bi P w K mg base "apart" 1 ["one","here","other","there"] (KG.qw):=cx (N:=["one","here","other","there","gap"]) (z.Mp.df z.X z.G) λ nd hu hr=>(aC (cB (K8<|n_ (bK io (au<|bU (au<|aR aq<|au ag)<|au<|aR aq<|au<|aN z.qJ)<|au<|aR aq<|au ag)<|kv<|bK io (au<|bU (au<|aR aq<|au ag)<|au<|aR aq<|au<|aN z.qJ)<|au<|aR aq<|au ag) (aB<|aL cP) bq)<|aC (aM<|Ox rfl z.PD Lq (au<|aR aq<|au<|aN z.Lp)<|au<|aR aq<|au<|aN z.Lp)<|aB<|aL<|FW (cJ io (au<|bU (au<|bU (au<|aR aq<|au ag)<|au<|aR aq<|au<|aN z.qI) aq)<|au<|aR aq<|au ag)<|i9<|cJ io (au<|bU (au<|bU (au<|aR aq<|au ag)<|au<|aR aq<|au<|aN z.qI) aq)<|au<|aR aq<|au ag)
theorem eS:bi P w K mg base "those_that_sit" 1 ["groups","seating"] (KG.cz):=cx (N:=["groups","seating"]) (z.qV.df z.X z.G) λ nd hu hr=>(aB<|aL<|eZ<|b8 (Eh<|FU z.PB aA aA) (N':=["group","place"]) (aV<|ah aA<|ah aA aj) (ht:=(pB<|FT aq)) (hg:=(sf rfl (dm<|dm nh) rfl)) (hG:=(ZS.m_ ∅)))
theorem j2:bi P w K mg base "apart_from_all" 2 ["group","place","seated"] (KG.dI):=cx (N:=["group","place","seated"]) (z.qX.df z.X z.G) λ nd hu hr=>(aB<|aL<|iH z.n!<|fM<|b8 (d_ aq) (N':=["other","there","group","place"]) (az (Jz z)<|ah aA<|ah aA<|ah aA<|ah aA aj) (hg:=(sf rfl (dm<|dm nh) rfl)) (hG:=(ZS.m_ ∅)))
theorem Jy:bi P w K mg base "keeps" 3 ["hall","groups","seating"] (KG.my):=cx (N:=["hall","groups","seating","seated"]) (z.Mo.df z.X z.G) λ nd hu hr=>(aC (aM<|az (eS z)<|ah aA<|ah aA aj)<|aC (cB (cR<|iS<|iH z.n!<|fM<|b8 (d_ aq) (N':=["group","place","hall"]) (az (Ff z)<|ah aA<|ah aA<|ah aA aj) (hg:=(sf rfl (dm<|dm nh) rfl)) (hG:=(ZS.m_ ∅))) (aB<|aL cP) bq)<|aB<|aL<|iH z.n!<|fM<|b8 (Eh<|eI z.d?<|bX z.dG aq) (N':=["k","seated"])<|az (j2 z)<|bC (aR (au<|aR aq aq)<|au ag)<|bC (aR (au<|aR aq aq)<|au ag)<|bC (eZ<|B3 aq sV<|og aq) aj)
theorem Bg:bi P w K mg base "worth_of" 2 ["groups","seating"] (KB.d6):=cx (N:=["groups","seating"]) (z.CL.df z.X z.G) λ nd hu hr=>(aB<|aL<|FV z.PC<|fM<|b8 (d_<|au<|az (eS z)<|ah aA<|ah aA aj) (N':=["group","place"]) (az (Bh z)<|ah aA<|bC (aR aq<|au ag) aj) (hg:=(sf rfl (dm<|dm nh) rfl)) (hG:=(ZS.m_ ∅)))
theorem iV:bi P w K mg base "fast_seating" 4 ["hall","groups","fast"] (KB.bP):=cx (N:=["hall","groups","fast","seating"]) (z.uN.df z.X z.G) λ nd hu hr=>(aC (aM<|B6 (o7 aq) (uB (au<|aV<|ae fi aj)<|au<|bX z.dG aq) aA)<|aC (cB (cR<|iS<|az (Jy z)<|ah aA<|ah aA<|ah aA aj) (aB il) bq)<|aB<|aL aA)
theorem Fe:ZS.xD P w K mg base "ways" 5 ["hall","groups","fast"] (KB.jl):=zZ (N:=["hall","groups","fast","many","group","place"]) (z.P_.df z.X z.G (λ _ _ _ _ _ _ _=>lv λ _=>lv λ _=>lv λ _=>AAD ⟨_,rfl,rfl⟩) λ _ _ _ _ _ _ _ us hl=>match us,hl with| [_,_],_=>⟨_,rfl,rfl⟩) λ nd hu hr=>(aC (aM ag)<|aC (jm (FU z.PB aA<|az (iV z)<|ah aA<|ah aA<|ah aA aj) (sf rfl (dm<|dm nh) rfl)<|aB<|cB (o7 aq) (aB<|Ot (i:=3) nd rfl (lo rfl)<|bU (au<|bX z.dG<|au<|az (kW z)<|ah aA<|ah aA aj)<|au ag) bq)<|aB<|aL aA)
theorem jz:bi P w K mg base "small_start" 6 ["hall","groups","fast"] (KB.dR):=cx (N:=["hall","groups","fast","many"]) (z.nO.df z.X z.G) λ nd hu hr=>(aC (aM<|az (Fe z).full<|ah aA<|ah aA<|ah aA aj)<|aC (cB (bK sK aq<|au<|aN z.j') (aB il) bq)<|aB<|aL<|az (iV z)<|ah aA<|ah aA<|ah aA aj)
theorem tI:ZS.wF P w K mg base "small_start" 6 ["hall","groups","fast"] e?:=WQ (N:=["hall","groups","fast","many"]) (z.nO.df z.X z.G) λ nd hu hr=>(fQ (aM<|az (Fe z).full<|ah aA<|ah aA<|ah aA aj) Ib<|fQ (cB (bK sK aq<|au<|aN z.j') (aB il) bq) (An (bK sK aq<|au<|aN z.j') (pq<|qS rfl rfl rfl (by decide +kernel) z.gg (pR z) (hr.mono ∅) (ah aA<|ah (aN z.j') aj) ∅ ∅) lQ) lQ)
theorem km:bi P w K mg base "with_place" 1 ["seating","k","place"] (KH.cN):=cx (N:=["seating","k","place"]) (z.yL.df z.X z.G) λ nd hu hr=>(aB<|aL<|bU (au<|bU (au<|jJ aq sV<|og aq)<|au<|aV<|ah aA aj)<|au<|jJ aq (og<|au<|bU aq<|au ag) sV)
theorem nW:bi P w K mg base "open_among" 3 ["places","group","seated"] (KH.eQ):=cx (N:=["places","group","seated"]) (z.yM.df z.X z.G) λ nd hu hr=>(aB<|aL<|ni z.j4<|fM<|b8 (d_ aq) (N':=["place","group","seated"]) aA (ht:=(pB<|iS<|az (j2 z)<|ah aA<|ah aA<|ah aA aj)))
theorem rh:bi P w K mg base "with_one_more" 4 ["hall","groups","seatings","k","some"] (KB.fF):=cx (N:=["hall","groups","seatings","k","some","places","wider","seating","seated"]) (z.s_.df z.X z.G) λ nd hu hr=>(aC (aM<|az (kW z)<|ah aA<|bC (aR aq aq) aj)<|aC (qE<|a9 aj)<|aC (jm (K9 aA) cU<|aC (aM<|az (eS z)<|ah aA<|ah aA aj)<|aC (Ee (i:=6) (pv 6)<|b8 (d_<|au<|az (nW z)<|ah aA<|bC (aR aq aq)<|ah aA aj) (N':=["place","seating","k"])<|az (km z)<|ah aA<|ah aA<|ah aA aj)<|aB<|cB (iS aA) (aB<|Ef (i:=6) (pv 6) aA) bq)<|zT (i:=6)<|aB<|aL aA)
theorem kK:bi P w K mg base "seatings_from" 5 ["hall","groups","start","some"] (KB.dS):=cx (N:=["hall","groups","start","some","seatings","k"]) (z.tj.df z.X z.G) λ nd hu hr=>(aC (aM<|eZ<|a9<|ah aA aj)<|aC (jm (eI z.d?<|bX z.dG aq) cU<|aB<|cB (o7<|au<|aR aq aq) (aB<|aM<|az (rh z)<|ah aA<|ah aA<|ah aA<|ah aA<|ah aA aj) bq)<|aB<|aL aA)
theorem tL:ZS.xD P w K mg base "first_of_all" 7 ["hall","groups","fast"] (KC.f_):=zZ (N:=["hall","groups","fast","seatings"]) (z.uM.df z.X z.G (λ _ _ _ _ _ _ _=>lv λ _=>lv λ _=>lv λ _=>AAD ⟨_,rfl,rfl⟩) λ _ _ _ _ _ _ _ us hl=>match us,hl with| [_,_],_=>⟨_,rfl,rfl⟩) λ nd hu hr=>(aC (aM<|az (kK z)<|ah aA<|ah aA<|bE (az (jz z)<|ah aA<|ah aA<|ah aA aj)<|ae cP aj)<|aB<|aL<|B6 (bK sK (au<|bX z.dG aq)<|au ag) (aR aq<|au ag) fi)
theorem wW:bi P w K mg base "best_among" 5 ["groups","seatings"] (KB.fU):=PN (N:=["groups","seatings"]) (b:=KB.hV) (z.pA.1.df z.X z.G) nR (z.pA.lam z.X z.G) λ _ _ _ _ _ _ _ hl hr=>have nd:=nR.nd;have hu:=hr.units;have _q:=λ env=>ZS.A9 (k:=2) (hr.mono ∅) env;(aB<|aL<|zW (ZS.Fu hl (by decide +kernel)) (ZS.IZ hr) rfl z.PD Lq aq (N':=["seating","groups"]) (is:=[0]) (li (by kernel_rfl)) rfl (λ _ _ _ _ _=>(az (Bg z) (ah aA<|ah aA aj) (hr:=((_q _).mono ∅)))) λ _ _ _ _ _ _=>rfl)
theorem l7:ZS.xD P w K mg base "best_of_all" 7 ["hall","groups","fast"] (KB.cA):=zZ (N:=["hall","groups","fast","start"]) (z.nP.df z.X z.G (λ _ _ _ _ _ _ _=>lv λ _=>lv λ _=>lv λ _=>AAD ⟨_,rfl,rfl⟩) λ _ _ _ _ _ _ _ us hl=>match us,hl with| [_,_],_=>⟨_,rfl,rfl⟩) λ nd hu hr=>(aC (aM<|az (jz z)<|ah aA<|ah aA<|ah aA aj)<|aB<|aL<|az (wW z)<|ah aA<|bE (az (kK z)<|ah aA<|ah aA<|ah aA<|ae cP aj) aj)
theorem tJ:ZS.wF P w K mg base "best_of_all" 7 ["hall","groups","fast"] e_:=Sy (N:=["hall","groups","fast","start"]) (z.nP.df z.X z.G (λ _ _ _ _ _ _ _=>lv λ _=>lv λ _=>lv λ _=>AAD ⟨_,rfl,rfl⟩) λ _ _ _ _ _ _ _ us hl=>match us,hl with| [_,_],_=>⟨_,rfl,rfl⟩) λ nd hu hr=>(fQ (aM<|az (jz z)<|ah aA<|ah aA<|ah aA aj) (Ia (i:=3) nd rfl (lo rfl)<|EH (tI z) (hr.mono ∅) rfl<|ah aA<|ah aA<|ah aA aj) lQ)
theorem wY:bi P w K mg base "all_places" 4 ["hall","groups"] (KC.iF):=cx (N:=["hall","groups"]) (z.yP.df z.X z.G) λ nd hu hr=>(aB<|aL<|eZ<|b8 (d_ aq) (N':=["group","hall"])<|az (kW z)<|ah aA<|ah aA aj)
theorem sJ:bi P w K mg base "spots_of" 4 ["groups","places","seating","k"] (KC.c7):=cx (N:=["groups","places","seating","k"]) (z.CN.df z.X z.G) λ nd hu hr=>(aB<|aL<|az (nW z)<|bC (aR aq aq)<|bC (aR aq aq)<|bE (az (eS z)<|ah aA<|ah aA aj) aj)
theorem lB:∀j,bi P w K mg base "paper_beside" (7+j) ["groups","places","seating"] (KC.bO j)
| 0=>ZS.SD<|cx (k:=6) (N:=["groups","places","seating","waiting","k","spots","papers"]) (b:=Z.lY) (z.ju.1.df z.X z.G) λ _ _ _=>Oo
| j+1=>PN (k:=7+j) (N:=["groups","places","seating","waiting","k","spots","papers"]) (b:=KC.fm (KC.bO j)) (z.ju.1.df z.X z.G) lz (z.ju.lam z.X z.G) λ _ _ _ _ _ _ _ hl hr=>have S4:=lB j;have nd:=lz.nd;have hu:=hr.units;have _q:=λ env=>ZS.A9 (k:=4) (hr.mono ∅) env;(aC (uA (i:=3) rfl nd rfl (lo rfl) (Eh<|eI z.d?<|bX z.dG aq) (N':=["k","seating"]) (n:=1) (is:=[2]) (li (by kernel_rfl)) (ZS.jD ∅) (λ _ _ _ _ _ _=>cU) (λ _ _ _ _ _=>(pB<|o7<|au<|aR aq aq)) λ _ _ _ _ _=>aA)<|aC (aM<|zV (ZS.Fu hl (by decide +kernel)) (ZS.IZ hr) rfl z.Wj SI aq (N':=["j","groups","places","seating"]) (is:=[0,1,2]) (li (by kernel_rfl)) rfl (λ _ _ _ _ _=>(bX z.dG<|au<|az (sJ z) (ah aA<|ah aA<|ah aA<|ah aA aj) (hr:=((_q _).mono (by omega))))) λ _ _ _ _ _ _=>rfl)<|aC (aM<|az (sJ z)<|ah aA<|ah aA<|ah aA<|ah aA aj)<|aC (cB (bK (im hu) aq<|au<|aV aj) (aB<|aL<|aV<|ae aX<|ah aA aj) bq)<|aC (uA (i:=6) rfl nd rfl (lo rfl) (d_ aq) (N':=["place","groups","places","seating","k"]) (n:=1) (is:=[0,1,2,4]) (li (by kernel_rfl)) (ZS.jD ∅) (λ _ _ _ _ _ _=>cU) (λ _ _ _ _ _=>yQ) λ _ _ _ _ _=>(az S4 (ah aA<|ah aA<|bE (az (km z)<|ah aA<|ah aA<|ah aA aj) aj) (hr:=(hr.mono<|v6 _))))<|aB<|aL<|aV<|ae aX<|ah aA<|bE (ni z.j4 aq) aj)
theorem Bj:ZS.xD P w K mg base "paper_of" 17 ["hall","groups","fast"] (KC.gy):=zZ (N:=["hall","groups","fast"]) (z.CP.df z.X z.G (λ _ _ _ _ _ _ _=>lv λ _=>lv λ _=>lv λ _=>AAD ⟨_,rfl,rfl⟩) λ _ _ _ _ _ _ _ us hl=>match us,hl with| [_,_],_=>⟨_,rfl,rfl⟩) λ nd hu hr=>(aC (cB (FT<|au<|az (tL z).full<|ah aA<|ah aA<|ah aA aj) (aB<|aL fi) bq)<|aB<|aL<|az (lB z 9)<|ah aA<|bE (az (wY z)<|ah aA<|ah aA aj)<|bE (az (iV z)<|ah aA<|ah aA<|ah aA aj) aj)
theorem kY:ZS.HG P w K mg base 5 ["self","hall"] 2 fH:=Sz (N:=["self","hall"]) rfl (z.AL.di z.hC z.Np z.ND λ _ _ _ _ _ _=>ZS.YH λ _ _=>rfl) λ nd hu hr=>(aQ (a6 λ _=>(cB (cR<|iS<|az (Dj z)<|ah aA aj) (aB il) bq))<|aQ (l? z.pX (pv 0) aA (by decide +kernel))<|aQ (l? z.fD (pv 0) (aV aj) (by decide +kernel))<|aQ (l? z.m7 (pv 0) (aV aj) (by decide +kernel))<|cf<|l? z.m6 (pv 0) (aV aj) (by decide +kernel))
theorem pV:ZS.Aa P w K mg base "number_of" 3 ["self","name"] [Ch,AT] (dJ):=El rfl (N:=["self","name","k","guest"]) (z.qY.df z.hC) λ nd hu hr=>(aC (cB (iS<|az (u? z)<|ah aA aj) (aB<|jm (K' z.BP<|fO z.fD (cS<|pv 0) (by decide +kernel)) (sf rfl (dm<|dm nh) rfl)<|aB<|cB (bK (im hu) (au<|aR aq<|au<|aN z.mJ) aq) (aB<|aL aA) bq) bq)<|aB il)
theorem gw:ZS.wG P w K mg base "ask" 18 ["self","group"] [Ch,AT] 5 aZ:=F3 rfl (N:=["self","group","guests","held","places"]) (z.uQ.df z.hC) λ nd hu hr=>(aQ (a6 λ _=>(cB (cR<|iS<|az (l0 z)<|ah aA aj) (aB il) bq))<|aQ (a6 λ _=>(cB (bK (AAC hu) (au<|aR aq<|au<|aN z.mJ)<|fM<|b8 (d_<|au<|fO z.fD (cS<|pv 0) (by decide +kernel)) (N':=["guest"])<|aR aq<|au<|aN z.mJ) (aB il) bq))<|aQ (a6 λ _=>(aM<|bU (au<|fO z.fD (cS<|pv 0) (by decide +kernel))<|au<|aV<|ah aA aj))<|aQ (a6 λ _=>(cB (bK sK (au<|bX z.dG aq)<|au<|aN z.iI) (aB il) bq))<|aQ (a6 λ _=>(aM<|bU (au<|fO z.m7 (cS<|pv 0) (by decide +kernel))<|au<|aV<|ae fi aj))<|aQ (a6 λ _=>(aM<|az (l7 z).full<|jK (fO z.pX (cS<|pv 0) (by decide +kernel))<|ah aA<|ah aA aj))<|aQ (a6 λ _=>(cB (o7 aq) (aB il) bq))<|aQ (l? z.fD (pv 0) aA (by decide +kernel))<|aQ (l? z.m7 (pv 0) aA (by decide +kernel))<|aQ (l? z.m6 (pv 0) aA (by decide +kernel))<|cf<|a6 λ _=>(aL<|aR aq<|au<|we<|au ag))
theorem zb:ZS.yE P w K mg base "ask" 18 ["self","group"] [Ch,AT] bB:=Sx rfl (N:=["self","group","guests","held","places"]) (z.uQ.df z.hC) λ nd hu hr=>(fQ (cB (cR<|iS<|az (l0 z)<|ah aA aj) (aB il) bq) (An (cR<|iS<|az (l0 z)<|ah aA aj) (pq<|Am rfl rfl rfl (by decide +kernel) z.qT z.CD aX) lQ)<|fQ (cB (bK (AAC hu) (au<|aR aq<|au<|aN z.mJ)<|fM<|b8 (d_<|au<|fO z.fD (cS<|pv 0) (by decide +kernel)) (N':=["guest"])<|aR aq<|au<|aN z.mJ) (aB il) bq) (An (bK (AAC hu) (au<|aR aq<|au<|aN z.mJ)<|fM<|b8 (d_<|au<|fO z.fD (cS<|pv 0) (by decide +kernel)) (N':=["guest"])<|aR aq<|au<|aN z.mJ) (pq<|Am rfl rfl rfl (by decide +kernel) z.yH z.Ic aX) lQ)<|fQ (aM<|bU (au<|fO z.fD (cS<|pv 0) (by decide +kernel))<|au<|aV<|ah aA aj) Ib<|fQ (cB (bK sK (au<|bX z.dG aq)<|au<|aN z.iI) (aB il) bq) (An (bK sK (au<|bX z.dG aq)<|au<|aN z.iI) (pq<|qS rfl rfl rfl (by decide +kernel) z.gg (pR z) (hr.mono ∅) (bE (bX z.dG aq)<|ah (aN z.iI) aj) ∅ ∅) lQ)<|fQ (aM<|bU (au<|fO z.m7 (cS<|pv 0) (by decide +kernel))<|au<|aV<|ae fi aj) Ib<|fQ (aM<|az (l7 z).full<|jK (fO z.pX (cS<|pv 0) (by decide +kernel))<|ah aA<|ah aA aj) (Ia (i:=4) nd rfl (lo rfl)<|EH (tJ z) (hr.mono ∅) rfl<|jK (fO z.pX (cS<|pv 0) (by decide +kernel))<|ah aA<|ah aA aj)<|fQ (cB (o7 aq) (aB il) bq) (An (o7 aq) (pq<|qS rfl rfl rfl (by decide +kernel) z.CG (Jw z) (hr.mono ∅) (bE (az (Bj z).full<|jK (fO z.pX (cS<|pv 0) (by decide +kernel))<|ah aA<|ah aA aj) aj) ∅ ∅) lQ) lQ)
theorem jf:ZS.wG P w K mg base "fast" 4 ["self","name"] [Ch,AT] 3 bF:=F3 rfl (N:=["self","name","k"]) (z.AM.df z.hC) λ nd hu hr=>(aQ (a6 λ _=>(aM<|Ow (pV z) (hr.mono ∅) (cS<|pv 0) (by decide +kernel)<|bQ aA cD))<|cf<|l? z.m7 (pv 0) (az (km z)<|jK (fO z.m7 (cS<|pv 0) (by decide +kernel))<|ah aA<|bC (aR (au<|fO z.m6 (cS<|pv 0) (by decide +kernel)) aq) aj) (by decide +kernel))
theorem cG:ZS.Aa P w K mg base "at_hand" 1 ["self"] [Ch] (aO):=El rfl (N:=["self"]) (z.uP.df z.hC) λ nd hu hr=>(aB<|aL<|fO z.fD (cS<|pv 0) (by decide +kernel))
theorem f9:ZS.Aa P w K mg base "seating" 1 ["self"] [Ch] (bg):=El rfl (N:=["self"]) (z.uO.df z.hC) λ nd hu hr=>(aB<|aL<|fO z.m6 (cS<|pv 0) (by decide +kernel))
theorem jA:bi P w K mg base "_law_cell_at" 1 ["_law_script","_law_k"] (KG.dU):=cx (N:=["_law_script","_law_k"]) (z.wN.df z.X z.G) λ nd hu hr=>(aC (cB (bK AAB aq<|au<|bX z.dG aq) (aB<|aL<|aR aq aq) bq)<|aB<|aL ag)
theorem zd:bi P w K mg base "_law_mixed" 1 ["_law_cell","_law_many"] (gZ):=cx (N:=["_law_cell","_law_many","_law_number","_law_found","_law_k"]) (z.AG.df z.X z.G) λ nd hu hr=>(aC (aM<|bU (au ag)<|au<|fk aq<|au ag)<|aC (qE<|a9 aj)<|aC (jm (eI z.d? aA) cU<|aC (aM<|fk (au<|fN aq<|au ag)<|au ag)<|aB<|Ef (i:=3) (pv 3) aA)<|zT (i:=3)<|aB<|aL aA)
theorem zc:bi P w K mg base "_law_names" 1 ["_law_cell","_law_many"] (gU):=cx (N:=["_law_cell","_law_many","_law_letters","_law_size","_law_at","_law_step","_law_names_here","_law_k","_law_name","_law_j","_law_turn"]) (z.AE.df z.X z.G) λ nd hu hr=>(aC (aM aX)<|aC (aM<|bU (au ag)<|au<|fk aq<|au ag)<|aC (aM<|fk (au<|i' aq<|au ag) aq)<|aC (aM<|aR (fM<|a9<|ae ag<|ae ag<|ae ag<|ae ag<|ae ag<|ae ag aj)<|au<|fk (au<|i' aq<|au ag)<|au ag)<|aC (qE<|a9 aj)<|aC (jm (eI z.d? aA) cU<|aC (aM aX)<|aC (jm (eI z.d? aA) cU<|aC (aM<|fN (au<|fN aq aq)<|au<|FX rfl z.Kt Es<|au<|cJ (im hu) aq aq)<|aB<|aM<|bU aq<|au<|aR aq<|au<|fk (au<|bU (au<|i' aq<|au<|bU (au ag)<|au<|fN (au<|fN (au ag) aq) aq) aq)<|au ag)<|aB<|Ef (i:=6) (pv 6) aA)<|zT (i:=6)<|aB<|aL aA)
theorem pS:ZS.O2 P w K mg base "_law_kinds" 1 ["_law_e"] (g9):=SA (N:=["_law_e","_law_found"]) (b:=j_) (z.AH.df z.X z.G) pJ rfl λ _ _ _ _ _ _ hr=>have nd:=pJ.nd;(aC (aM<|eZ<|a9<|bE (g? rfl z.bp a8 (pv 0) rfl z.G3<|.cons z.qj<|.cons z.t6<|.cons z.oV<|.cons z.vK .nil)<|bE (g? rfl z.bp a8 (pv 0) rfl z.Nu<|.cons z.t8<|.cons z.xf<|.cons z.rJ<|.cons z.zD .nil)<|bE (g? rfl z.bp a8 (pv 0) rfl z.vj<|.cons z.oW<|.cons z.rH<|.cons z.nD<|.cons z.t! .nil)<|bE (g? rfl z.bp a8 (pv 0) rfl z.Ro<|.cons z.vJ<|.cons z.zC<|.cons z.t7<|.cons z.BK .nil) aj)<|aC (aM<|eZ<|kx aq<|fM<|a9<|bE (g? rfl z.bp a8 (pv 0) rfl z.J3<|.cons z.rN<|.cons z.vI<|.cons z.qi<|.cons z.xl .nil)<|bE (g? rfl z.bp a8 (pv 0) rfl z.J0<|.cons z.rM<|.cons z.vH<|.cons z.qh<|.cons z.xk .nil)<|bE (g? rfl z.bp a8 (pv 0) rfl z.Nv<|.cons z.t9<|.cons z.xg<|.cons z.rK<|.cons z.zE .nil)<|bE (g? rfl z.bp a8 (pv 0) rfl z.Bw<|.cons z.nE<|.cons z.qe<|.cons z.mm<|.cons z.rO .nil) aj)<|aB<|aL<|eZ<|kx aq<|fM<|a9<|bE (g? rfl z.bp a8 (pv 0) rfl z.JZ<|.cons z.rL<|.cons z.vG<|.cons z.qf<|.cons z.xh .nil)<|wg (K_<|La rfl z.bp a8 (pv 0) rfl z.zK xy<|.cons z.mn<|.cons z.oU<|.cons z.lJ<|.cons z.qk .nil) aj)
theorem c6:ZS.wH P w K mg base "_law_told" 19 ["_law_desk","_law_thing"] [Ch,AT] 4 aW:=F4 rfl (N:=["_law_desk","_law_thing","_law_found","_law_e"]) (z.CQ.df z.X z.G) λ nd hu hr=>(aQ (a6 λ _=>(aM<|eZ<|a9<|ae aX aj))<|aQ (Rm rfl rfl rfl (cf<|ji<|iC (gw z) (hr.mono ∅) (cS<|pv 0) (by decide +kernel) ∅ ∅<|bQ aA cD) (λ _ _=>(L_<|Ma<|Mc (zb z) (hr.mono ∅) (cS<|pv 0) (by decide +kernel)<|bQ aA cD))<|Pg (i:=3) nd rfl (by kernel_rfl) ∅ rfl z.vj z.gg (sw z.qT.1 z.nv<|sw z.yH.1 z.pK<|sw z.gg.1 z.lW<|sw z.CG.1 z.q_ ZS.AU) (λ _=>(cf<|a6 λ _=>(aM<|eZ<|a9<|bE (B8 (pS z) (ZS.bR._3 (hr.mono ∅) _) rfl<|pv 3)<|jK (PM (pv 3) (by decide +kernel) z.rX)<|jK (PM (pv 3) (by decide +kernel) z.rW) aj)))<|Pg (i:=3) nd rfl (by kernel_rfl) ∅ rfl z.Bv z.As (sw z.qT.1 z.lX<|sw z.yH.1 z.oA<|sw z.gg.1 z.lF<|sw z.CG.1 z.pL ZS.AU) (λ _=>(cf<|a6 λ _=>(aM<|eZ<|a9<|bE (B8 (pS z) (ZS.bR._3 (hr.mono ∅) _) rfl<|pv 3) aj))) Vt)<|cf<|a6 λ _=>(aL aA))
theorem d!:bi P w K mg base "_law_due" 1 ["_law_number"] (bf):=cx (N:=["_law_number"]) (z.Gi.df z.X z.G) λ nd hu hr=>(aB<|aL<|eZ<|a9<|Le (eZ<|b8 (Eh<|eI z.d? ag) (N':=["_law_k","_law_number"])<|cJ (im hu) aq aq) aj)
theorem Df:bi P w K mg base "_law_odd" 1 ["_law_cell","_law_name"] (jF):=cx (N:=["_law_cell","_law_name","_law_good","_law_part","_law_odd_here","_law_bad","_law_some"]) (z.Gh.df z.X z.G) λ nd hu hr=>(aC (aM<|aV<|ah aA<|ae ag<|ae ag<|ae aX<|ae ag<|ae ag<|ae ag<|bc (aV aj) aj)<|aC (aM<|fk aq<|au ag)<|aC (aM<|aR (fM<|a9<|ae fi<|ae aX<|wg (we<|au ag)<|eN (eZ<|a9 aj)<|ae ag<|ae aX<|ae cP<|Ld Oz<|bc (aV aj)<|ae ag aj)<|au<|fk (au<|i' aq<|au ag)<|au ag)<|aC (aM<|eZ<|a9<|eN (eZ<|a9<|ae aX<|ae aX<|ae aX<|ae ag<|ae fi aj)<|eN (eZ<|a9<|ae ag<|ae ag<|ae cP<|ae aX<|ae fi aj)<|eN (eZ<|a9<|ae ag<|ae ag<|ae cP<|ae fi<|ae aX aj) aj)<|aC (aM<|eZ<|kx aq<|fM<|a9<|eN (eZ<|a9<|ae aX<|ae aX<|ae fi<|ae ag<|ae aX aj) aj)<|aC (aM<|eZ<|kx aq<|fM<|a9<|eN (eZ<|a9<|wg (we<|au ag)<|ae ag<|ae cP<|ae fi<|ae aX aj)<|eN (eZ<|a9<|wg (we<|au ag)<|ae ag<|ae cP<|ae fi<|ae aX aj)<|eN (eZ<|a9<|wg (we<|au ag)<|ae cP<|ae fi<|ae aX<|hJ (K? (au ag)<|au ag) aj) aj)<|aC (aM<|eZ<|kx aq<|fM<|a9<|eN (eZ<|a9<|eN (eZ<|a9 aj)<|ae fi<|bc (aV<|bc (aV<|ae ag<|ae ag aj) aj)<|bc (aV<|bc (aV<|ae ag<|ae ag aj) aj)<|bc (aV<|bc (aV<|ae ag<|ae ag aj)<|bc (aV<|ae ag<|ae ag aj) aj)<|bc (aV<|bc (aV<|ae ag<|ae ag aj)<|bc (aV<|ae fi<|ae ag aj) aj)<|bc (aV<|bc (aV<|eN (eZ<|a9<|ae ag aj)<|ae ag aj) aj)<|bc (aV<|bc (aV<|ae ag<|ae aX aj) aj) aj) aj)<|aC (cB (bK (im hu) (au<|fk (au<|i' aq<|au ag)<|au ag)<|au ag) (aB<|aL<|aR (fM<|a9<|ae fi<|ae ag<|ae aX<|ah aA<|bc (aV aj)<|eN (eZ<|a9 aj)<|bE (eZ<|Ou rfl z.R? OI aq)<|bC (jJ aq sV<|og<|au ag)<|hJ (bU aq<|au<|aV<|ae ag aj)<|ah aA aj)<|au<|fk (au<|i' aq<|au ag)<|au ag) bq)<|aC (aM<|aR aq aq)<|aB<|aL<|bU (au<|bU (au<|jJ aq sV<|og aq)<|au<|aV<|bC (aR aq<|au<|fk (au<|i' aq<|au ag)<|au<|bX z.dG aq) aj)<|au<|jJ aq (og<|au<|bU aq<|au ag) sV)
theorem wV:ZS.wH P w K mg base "_law_filled" 19 ["_law_desk","_law_names_here","_law_cells","_law_many"] [Ch,AT,AT,AT] 6 iD:=F4 rfl (N:=["_law_desk","_law_names_here","_law_cells","_law_many","_law_k","_law_width"]) (z.yN.df z.X z.G) λ nd hu hr=>(aQ (zp B25 rfl (eI z.d? aA) (λ _=>cU)<|aQ (a6 λ _=>(aM<|bU (au ag)<|au<|fN (au<|fk (au<|i' (au<|aR aq aq)<|au ag)<|au ag)<|au<|FX rfl z.Kt Es<|au<|cJ AAB aq<|au ag))<|aQ (nX (Rk<|iC (gw z) (hr.mono ∅) (cS<|pv 0) (by decide +kernel) ∅ ∅<|bQ (aV<|bC (aR aq aq)<|ah aA<|ae ag<|ae aX<|ae ag<|ae ag<|hJ (fk (au<|i' (au<|aR aq aq)<|au ag)<|au ag)<|bc (aV aj) aj) cD) (cf<|a6 λ _=>(aL cP)) iB)<|cf<|ji<|iC (jf z) (hr.mono ∅) (cS<|pv 0) (by decide +kernel) ∅ ∅<|bQ (aR aq aq) cD)<|cf<|a6 λ _=>(aL cP))
theorem lZ:bi P w K mg base "_law_too_many_ways" 20 ["_law_names_here","_law_columns"] (dH):=cx (N:=["_law_names_here","_law_columns","_law_desk","_law_k","_law_more","_law_groups","_law_many"]) (z.nu.df z.X z.G) λ nd hu hr=>(sd (i:=2) (kY z) (hr.mono ∅) rfl nd rfl (lo rfl) (uB (au<|aV<|hJ (Ei (au aX) aq) aj)<|au ag) λ _ _=>(aQ (zp B25 rfl (eI z.d? ag) (λ _=>cU)<|cf<|ji<|iC (gw z) (hr.mono ∅) (cS<|pv 2) (by decide +kernel) ∅ ∅<|bQ (aV<|bC (aR aq aq)<|ae ag<|ae ag<|ae aX<|ae ag<|ae ag<|ae ag<|bc (aV aj) aj) cD)<|aQ (a6 λ _=>(aM<|aV<|bC (aR aq<|au ag)<|ae ag<|ae ag<|ae aX<|ae ag<|ae ag<|ae ag<|bc (aV aj) aj))<|aQ (a6 λ _=>(aM<|eJ (cG z) (hr.mono ∅) (cS<|pv 2) (by decide +kernel)))<|aQ (a6 λ _=>(aM<|fN (au<|fN (au<|bU (au<|fN (au ag) aq)<|au ag)<|au<|bU (au<|fN (au ag) aq)<|au ag)<|au<|wb (au<|fN (au ag) aq)<|au ag))<|aQ (nX (Z3<|JN (j3 (pi hu) (gM (c6 z) (hr.mono ∅) rfl ∅ ∅<|dW (cS<|pv 2)<|bQ aA cD) (rq<|eZ<|kx (au<|az (d! z)<|ae ag aj)<|fM<|a9<|ah aA<|ae ag aj)<|gi _)<|JN (Nl<|bK (pi hu) (au<|eJ (cG z) (hr.mono ∅) (cS<|pv 2) (by decide +kernel)) aq)<|JM<|Nl<|bK (pi hu) (au<|bX z.dG aq)<|au ag) (cf<|a6 λ _=>(aL cP)) iB)<|aQ (ji<|iC (jf z) (hr.mono ∅) (cS<|pv 2) (by decide +kernel) ∅ ∅<|bQ (aR aq<|au ag) cD)<|cf<|JQ<|JU (Fo (im hu) (gM (c6 z) (hr.mono ∅) rfl ∅ ∅<|dW (cS<|pv 2)<|bQ aA cD) (rq<|eZ<|a9<|ae aX aj)<|gi _)<|Dr<|rq<|cJ (im hu) (au<|eJ (cG z) (hr.mono ∅) (cS<|pv 2) (by decide +kernel))<|au<|bU aq<|au<|aV<|ah aA aj))
theorem tK:bi P w K mg base "_law_both_due" 20 ["_law_names_here","_law_columns"] (f?):=cx (N:=["_law_names_here","_law_columns","_law_desk","_law_k","_law_before","_law_many"]) (z.uL.df z.X z.G) λ nd hu hr=>(sd (i:=2) (kY z) (hr.mono ∅) rfl nd rfl (lo rfl) (uB (au<|aV<|hJ (Ei (au aX) aq) aj)<|au ag) λ _ _=>(aQ (ji<|iC (gw z) (hr.mono ∅) (cS<|pv 2) (by decide +kernel) ∅ ∅<|bQ (aV<|bC (aR aq<|au ag)<|ae ag<|ae ag<|ae aX<|ae ag<|ae ag<|ae ag<|bc (aV aj) aj) cD)<|aQ (ji<|iC (jf z) (hr.mono ∅) (cS<|pv 2) (by decide +kernel) ∅ ∅<|bQ (aR aq<|au ag) cD)<|aQ (ji<|iC (gw z) (hr.mono ∅) (cS<|pv 2) (by decide +kernel) ∅ ∅<|bQ (aV<|bC (aR aq<|au ag)<|ae ag<|ae ag<|ae aX<|ae ag<|ae ag<|ae ag<|bc (aV<|bc (aV<|ae ag<|ae ag aj) aj) aj) cD)<|aQ (ji<|iC (jf z) (hr.mono ∅) (cS<|pv 2) (by decide +kernel) ∅ ∅<|bQ (aR aq<|au ag) cD)<|aQ (zp B25 rfl (v? z.d? ag ag) (λ _=>cU)<|cf<|ji<|iC (gw z) (hr.mono ∅) (cS<|pv 2) (by decide +kernel) ∅ ∅<|bQ (aV<|bC (aR aq aq)<|ae ag<|ae ag<|ae aX<|ae ag<|ae ag<|ae ag<|bc (aV aj) aj) cD)<|aQ (a6 λ _=>(aM<|aV<|bE (eJ (cG z) (hr.mono ∅) (cS<|pv 2) (by decide +kernel))<|bE (eJ (f9 z) (hr.mono ∅) (cS<|pv 2) (by decide +kernel)) aj))<|aQ (a6 λ _=>(aM<|fN (au<|fN (au<|bU (au<|fN (au ag) aq)<|au ag)<|au<|bU (au<|fN (au ag) aq)<|au ag)<|au ag))<|aQ (nX (j3 (pi hu) (gM (c6 z) (hr.mono ∅) rfl ∅ ∅<|dW (cS<|pv 2)<|bQ (aV<|bC (aR aq<|au ag)<|hJ (wb aq<|au ag)<|ae ag<|ae aX<|ae ag<|ae ag<|ae ag<|bc (aV aj) aj) cD) (rq<|eZ<|kx (au<|az (d! z)<|ae ag aj)<|fM<|a9<|ah aA<|ae ag aj)<|gi _) (cf<|a6 λ _=>(aL cP)) iB)<|aQ (nX (j3 (pi hu) (gM (c6 z) (hr.mono ∅) rfl ∅ ∅<|dW (cS<|pv 2)<|bQ (aV<|bC (aR aq<|au ag)<|ae ag<|ae ag<|ae aX<|ae ag<|ae ag<|ae ag<|bc (aV aj) aj) cD) (rq<|az (d! z)<|ae ag aj)<|gi _) (cf<|a6 λ _=>(aL cP)) iB)<|cf<|a6 λ _=>(aL<|mI (cJ (im hu) (au<|aV<|bE (eJ (cG z) (hr.mono ∅) (cS<|pv 2) (by decide +kernel))<|bE (eJ (f9 z) (hr.mono ∅) (cS<|pv 2) (by decide +kernel)) aj) aq)<|i9<|cJ (im hu) (au<|bX z.dG<|au<|aR aq<|au ag)<|au ag)))
theorem Q3{f:δ}{fd:τ}(F:Cs K "law" "law" (top 89) f fd):ee P w K mg base jd 21 f fd ["_law_script"] (ZS.Ad K rV):=aaf (N:=["_law_script","_law_cell","_law_columns","_law_hall","_law_names_here","_law_many","_law_desk","_law_groups","_law_sits","_law_odds","_law_odd_here","_law_good","_law_full","_law_again","_law_due_here"]) F λ nd hu hr=>(aC (aM<|az (jA z)<|ah aA<|ae ag aj)<|aC (aM<|bU (au ag)<|au<|fk aq<|au ag)<|aC (aM<|uB (au<|aV<|hJ (Ei (au aX) aq) aj)<|au<|aR (fM<|a9<|ae ag<|ae ag<|ae ag<|ae ag aj)<|au<|fk (au<|i' aq<|au ag)<|au ag)<|aC (aM<|az (zc z)<|bE (az (jA z)<|ah aA<|ae ag aj)<|ae ag aj)<|aC (aM<|aR (fM<|a9<|ae ag<|ae ag<|ae ag<|ae ag<|ae ag<|ae ag<|ae ag<|ae ag aj)<|au<|fk (au<|i' aq<|au ag)<|au ag)<|sd (i:=6) (kY z) (hr.mono ∅) rfl nd rfl (lo rfl) aA λ _ _=>(aQ (nX (Rj<|Z4<|gM (wV z) (hr.mono ∅) rfl ∅ ∅<|dW (cS<|pv 6)<|bQ aA<|bQ (az (zd z)<|bE (az (jA z)<|ah aA<|ae ag aj)<|ae ag aj)<|bQ aA cD) (cf<|a6 λ _=>(aL cP)) iB)<|aQ (a6 λ _=>(cB (K8<|n_ (cR<|iS<|az (lZ z)<|ah aA<|ah aA aj)<|kv<|cR<|iS<|az (tK z)<|ah aA<|ah aA aj) (aB<|aL cP) bq))<|aQ (a6 λ _=>(aM<|eJ (cG z) (hr.mono ∅) (cS<|pv 6) (by decide +kernel)))<|aQ (a6 λ _=>(aM<|eJ (f9 z) (hr.mono ∅) (cS<|pv 6) (by decide +kernel)))<|aQ (a6 λ _=>(uA (i:=9) rfl nd rfl (lo rfl) (d_<|fM<|kx (fM<|B3 aq (og<|au ag)<|og<|au ag)<|fM<|a9<|ae ag<|ae ag aj) (N':=["_law_one","_law_names_here"]) (n:=1) (is:=[4]) (li (by kernel_rfl)) (ZS.jD ∅) (λ _ _ _ _ _ _=>cU) (λ _ _ _ _ _=>yQ) λ _ _ _ _ _=>(az (Df z)<|ah aA<|bC (aR aq<|au<|fk (au<|i' aq<|au ag)<|au ag) aj)))<|aQ (zp B25 rfl (K9 aA) (λ _=>cU)<|cf<|nX (j3 (pi hu) (gM (c6 z) (hr.mono ∅) rfl ∅ ∅<|dW (cS<|pv 6)<|bQ aA cD) (rq<|az (d! z)<|ae ag aj)<|gi _) (cf<|a6 λ _=>(aL cP)) iB)<|aQ (a6 λ _=>(aM<|aV<|bC (aR aq<|au ag)<|ae ag<|ae ag<|ae aX<|ae ag<|ae ag<|ae ag<|bc (aV aj) aj))<|aQ (a6 λ _=>(aM<|aV<|bC (aR aq<|au ag)<|ah aA<|bE (bX z.dG aq)<|ae aX<|ae ag<|ae ag<|ae ag<|bc (aV aj) aj))<|aQ (nX (Nl<|bK sK aq<|au ag) (aQ (a6 λ _=>(aM<|eZ<|a9<|hJ (bU (au<|aV<|bC (aR aq<|au ag) aj)<|au<|jJ aq (og<|au ag) sV)<|hJ (bU (au<|aV<|bC (aR aq<|au<|wb aq<|au ag) aj)<|au<|jJ aq (og<|au ag) sV) aj))<|aQ (nX (Z3<|JN (j3 (pi hu) (gM (c6 z) (hr.mono ∅) rfl ∅ ∅<|dW (cS<|pv 6)<|bQ (aR aq<|au ag) cD) (rq<|az (d! z)<|ae ag aj)<|gi _)<|JM<|j3 (pi hu) (gM (c6 z) (hr.mono ∅) rfl ∅ ∅<|dW (cS<|pv 6)<|bQ (aR aq<|au ag) cD) (rq<|az (d! z)<|ae ag aj)<|gi _) (cf<|a6 λ _=>(aL cP)) iB)<|aQ (a6 λ _=>(aM<|az (d! z)<|ae ag aj))<|aQ (a6 λ _=>(cB (bK (im hu) aq<|au ag) (aB<|aM<|eZ<|kx (au<|az (d! z)<|ae ag aj)<|fM<|a9<|ae ag<|ae ag aj) bq))<|cf<|nX (j3 (pi hu) (gM (c6 z) (hr.mono ∅) rfl ∅ ∅<|dW (cS<|pv 6)<|bQ aA cD) (rq aA)<|gi _) (cf<|a6 λ _=>(aL cP)) iB) iB)<|aQ (nX (Z3<|Rl (Nl<|bK (im hu) aq<|au ag)<|Nm<|j3 (pi hu) (gM (c6 z) (hr.mono ∅) rfl ∅ ∅<|dW (cS<|pv 6)<|bQ aA cD) (rq<|eZ<|kx (au<|az (d! z)<|ae ag aj)<|fM<|a9<|ae ag<|ae ag aj)<|gi _) (cf<|a6 λ _=>(aL cP)) iB)<|aQ (a6 λ _=>(cB (K8<|n_ (bK (pi hu) (au<|eJ (cG z) (hr.mono ∅) (cS<|pv 6) (by decide +kernel)) aq)<|kv<|bK (pi hu) (au<|eJ (f9 z) (hr.mono ∅) (cS<|pv 6) (by decide +kernel)) aq) (aB<|aL cP) bq))<|cf<|JQ<|Vu (rq<|cJ (im hu) aq<|au ag)<|Dr<|JU (Fo (im hu) (gM (c6 z) (hr.mono ∅) rfl ∅ ∅<|dW (cS<|pv 6)<|bQ aA cD) (rq<|eZ<|a9<|ae aX aj)<|gi _)<|Dr<|rq<|cJ (im hu) (au<|eJ (cG z) (hr.mono ∅) (cS<|pv 6) (by decide +kernel))<|au<|bU aq<|au<|aV<|ah aA aj))
end
theorem all_mk{l:AC3}{w:ξ}{K:Db}{h:ν}{mg:Str->ε ζ}{fa:δ}(N1:mg "law"=AC (.ref fa))(z:Fs K mg h):
 ∃fd:τ,(∀(s:η)(v:ζ),BindsTo s fd ⟨[v],[]⟩ [("_law_script",v)])/\∀base:ν,K.In base->base.Ns mainGlobals mg->ee l.prog w K mg base jd 21 fa fd ["_law_script"] (ZS.Ad K rV):=by
 let⟨fd,hb,F⟩:=z.T_.law z.X z.G N1 (x:="_law_script") λ _ _ _ _ _ _ _ _=>.of_eq rfl;exact⟨fd,hb,λ base _ _=>Q3 z F⟩
theorem walk{l:AC3}{q:ο}{loose:γ Str}{XP:(Str->ε ζ)->ν->Prop}{YP:ξ->ν->Prop}{d:DefRec}{K:Params->Fk}(hn:l.most=AC 63)(_P:d.params.defaults=[])
 (hY:∀(w:ξ)(h:ν),YP w h->(K w.params).In h)
 (F:∀ (w:ξ)(mg:Str->ε ζ)(fa:δ)(h:ν),(K w.params).In h->h.Ns mainGlobals mg->mg d.name=AC (.ref fa) ->
  ∃fd:τ,(∀(s:η)(u:ζ),BindsTo s fd ⟨[u],[]⟩ [("_law_script",u)])/\∀base:ν,(K w.params).In base->base.Ns mainGlobals mg->ee l.prog w (K w.params) mg base jd 21 fa fd ["_law_script"] (ZS.Ad (K w.params) rV)) (hL:∀w:ξ,ZS.LG q (K w.params)) :
 PySem.W.WalkO q loose XP YP l.row.toRowW d [] (λ f vs=>PySem.call f vs):=
 ZS.P6 (n:=63) (k:=21) (x:="_law_script") (m:=rV) hn ∅ _P ⟨rfl,by decide,by decide⟩ hY F hL holds
end iU
namespace iU
open PySem PySem.Spec PyProof.Rows L2
abbrev km0:String:="besideseats.errors"
abbrev Z?:String:="besideseats.plain"
abbrev Pm:String:="besideseats.groups"
abbrev X?:String:="besideseats.halls"
abbrev X!:String:="besideseats.places"
abbrev VA:String:="besideseats.seatings"
abbrev Pk:String:="besideseats.rooms"
abbrev km7:String:="besideseats.best"
abbrev X':String:="besideseats.papers"
abbrev Tp:String:="besideseats.desk"
abbrev vm:String:="law_besideseats_k82_asks_refused_in_order"
noncomputable def kd(P:Params)(n:String)(t:Nat)(v:ζ):DictEntry:={hash:=PyData.keyHash P<|Str.ofString n,key:=.str (Da n) t,val:=v}
noncomputable def kc(n:String)(t l:Nat)(a b c d e f g h i j:ζ)(u:Nat):μ:={cls:=.type "code",data:=.fields #[.str (Da n) t,.str (Da n) (t+1),.str (Da "/claim/cut.py") (t+2),.int l 0,a,.int 0 0,.int 0 0,b,c,.bool Ch,d,e,f,g,h,i,j,.int l 0,.str (Da "/claim/cut.py") u]}
noncomputable def Pq(n q:String)(t l:Nat)(a b c d e f g h i j:ζ)(u:Nat):μ:={cls:=.type "code",data:=.fields #[.str (Da n) t,.str (Da q) (t+1),.str (Da "/claim/cut.py") (t+2),.int l 0,a,.int 0 0,.int 0 0,b,c,.bool Ch,d,e,f,g,h,i,j,.int l 0,.str (Da "/claim/cut.py") u]}
noncomputable def Po(n q:String)(s:θ)(m:String)(t c:Nat)(v:ζ:=.none):μ:={cls:=.type "function",data:=.func {name:=Da n,qualname:=Da q,params:=bM s,body:=.stmts<|aJ s,scope:=ai s,globals:=3,closure:=[],defaults:=v,kwdefaults:=.none,pyModule:=.str (Da m) t,code:=.ref c}}
noncomputable def kf(n:String)(i:Nat)(m:String)(t c:Nat)(v:ζ:=.none):μ:={cls:=.type "function",data:=.func {name:=Da n,qualname:=Da n,params:=bM<|top i,body:=.stmts<|aJ<|top i,scope:=ai<|top i,globals:=3,closure:=[],defaults:=v,kwdefaults:=.none,pyModule:=.str (Da m) t,code:=.ref c}}
noncomputable def k7(n:String)(t l i r j u:Nat):μ:=kc n t l (.int i 0) (.int 3 0) (.ref r) (.int 181 0) (.ref<|r+1) .none (.ref<|r+2) (.ref<|r+3) (.ref<|r+4) (.int j 0) u
noncomputable def k5(n:String)(t l i r j u:Nat):μ:=kc n t l (.int i 0) (.int 3 0) (.ref r) (.int 181 0) (.ref<|r+1) .none .none .none (.ref<|r+2) (.int j 0) u
noncomputable def KK(P:Params):Db:=(λ(_:Da "a"=Str.mk #[97])=>(nat_lit 3,{cls:=.type "dict",data:=.dict #[kd P "__name__" 165 (.str (Da "law_besideseats_k82_asks_refused_in_order") 842),kd P "__doc__" 166 .none,kd P "__package__" 167 .none,kd P "__loader__" 168 (.builtin "__main__.__loader__#opaque"),kd P "__spec__" 169 .none,kd P "__annotations__" 170 (.ref 6),kd P "__builtins__" 171 (.ref 4),kd P "__file__" 173 (.str (Da "/claim/cut.py") 172),kd P "__cached__" 174 .none,kd P "_wall" 193 (.ref 21),kd P "SeatError" 213 (.ref 31),kd P "NoHall" 229 (.ref 44),kd P "NoGroup" 245 (.ref 56),kd P "NoText" 261 (.ref 68),kd P "NoSeating" 277 (.ref 80),kd P "NoRow" 293 (.ref 92),kd P "NoName" 309 (.ref 104),kd P "Twice" 325 (.ref 116),kd P "Full" 350 (.ref 135),kd P "TooGreat" 377 (.ref 154),kd P "is_whole" 386 (.ref 163),kd P "is_whole_within" 395 (.ref 170),kd P "is_letter" 402 (.ref 177),kd P "NAME" 406 (.int 0 405),kd P "WIDTH" 408 (.int 1 407),kd P "DEPTH" 410 (.int 2 409),kd P "KIND" 412 (.int 3 411),kd P "WIDE" 414 (.int 4 413),kd P "GAP" 416 (.int 5 415),kd P "WORTH" 418 (.int 6 417),kd P "WISHES" 420 (.int 7 419),kd P "PARTS" 422 (.int 8 421),kd P "MOST_LETTERS" 424 (.int 8 423),kd P "MOST_WIDTH" 426 (.int 12 425),kd P "MOST_DEPTH" 428 (.int 3 427),kd P "MOST_GAP" 430 (.int 6 429),kd P "LAST_ROW" 432 (.int 5 431),kd P "is_name" 438 (.ref 182),kd P "is_kind" 445 (.ref 189),kd P "is_amount" 453 (.ref 196),kd P "is_wish" 460 (.ref 203),kd P "are_wishes" 466 (.ref 208),kd P "asks_for_seats" 473 (.ref 215),kd P "is_group" 480 (.ref 222),kd P "worth_in" 486 (.ref 227),kd P "MOST_ROWS" 490 (.int 6 489),kd P "MOST_COLUMNS" 492 (.int 12 491),kd P "is_sign" 499 (.ref 234),kd P "is_row" 505 (.ref 239),kd P "is_hall" 511 (.ref 244),kd P "sign_at" 521 (.ref 251),kd P "takes" 531 (.ref 258),kd P "seats_of" 537 (.ref 263),kd P "fits" 543 (.ref 268),kd P "places_of" 549 (.ref 273),kd P "apart" 562 (.ref 280),kd P "those_that_sit" 568 (.ref 285),kd P "apart_from_all" 574 (.ref 290),kd P "keeps" 580 (.ref 295),kd P "worth_of" 586 (.ref 300),kd P "MOST_WAYS" 590 (.int 2000 589),kd P "fast_seating" 600 (.ref 307),kd P "ways" 612 (.ref 315),kd P "small_start" 622 (.ref 322),kd P "with_place" 631 (.ref 329),kd P "open_among" 637 (.ref 334),kd P "with_one_more" 643 (.ref 339),kd P "seatings_from" 655 (.ref 346),kd P "first_of_all" 665 (.ref 354),kd P "best_among" 676 (.ref 361),kd P "best_of_all" 686 (.ref 369),kd P "all_places" 694 (.ref 374),kd P "spots_of" 704 (.ref 381),kd P "paper_beside" 710 (.ref 386),kd P "paper_of" 719 (.ref 394),kd P "MOST_GUESTS" 723 (.int 6 722),kd P "Desk" 841 (.ref 486),kd P "_law_cell_at" 851 (.ref 497),kd P "_law_mixed" 862 (.ref 504),kd P "_law_names" 879 (.ref 511),kd P "_law_kinds" 887 (.ref 518),kd P "_law_told" 897 (.ref 525),kd P "_law_due" 903 (.ref 530),kd P "_law_odd" 916 (.ref 537),kd P "_law_filled" 928 (.ref 544),kd P "_law_too_many_ways" 941 (.ref 551),kd P "_law_both_due" 953 (.ref 558),kd P "law" 959 (.ref 563)] 88}) ::
 (nat_lit 20,k7 "_wall" 187 1 1 15 191 192) ::
 (nat_lit 30,{cls:=.type "dict",data:=.dict #[kd P "__module__" 203 (.str (Da "besideseats.errors") 194),kd P "__firstlineno__" 207 (.int 5 206),kd P "__static_attributes__" 208 (.ref 29),kd P "__weakref__" 210 (.ref 32),kd P "__doc__" 211 .none] 3}) ::
 (nat_lit 31,{cls:=.type "type",data:=.cls {name:=Da "SeatError",bases:=[.type "ValueError"],mro:=[.ref 31,.type "ValueError",.type "Exception",.type "BaseException",.type "object"],ns:=30,qualname:=Da "SeatError",subclasses:=[.ref 44,.ref 56,.ref 68,.ref 80,.ref 92,.ref 104,.ref 116,.ref 135,.ref 154]},slots:=#[AC (.ref 22),At,AC (.str (Da "SeatError") 196),AC (.str (Da "SeatError") 204),AC (.builtin "ValueError.__new__"),AC (.bool Ch)]}) ::
 (nat_lit 43,{cls:=.type "dict",data:=.dict #[kd P "__module__" 221 (.str (Da "besideseats.errors") 194),kd P "__firstlineno__" 225 (.int 7 224),kd P "__static_attributes__" 226 (.ref 42),kd P "__doc__" 227 .none] 2}) ::
 (nat_lit 44,{cls:=.type "type",data:=.cls {name:=Da "NoHall",bases:=[.ref 31],mro:=[.ref 44,.ref 31,.type "ValueError",.type "Exception",.type "BaseException",.type "object"],ns:=43,qualname:=Da "NoHall"},slots:=#[AC (.ref 35),At,AC (.str (Da "NoHall") 214),AC (.str (Da "NoHall") 222),AC (.builtin "ValueError.__new__"),AC (.bool Ch)]}) ::
 (nat_lit 55,{cls:=.type "dict",data:=.dict #[kd P "__module__" 237 (.str (Da "besideseats.errors") 194),kd P "__firstlineno__" 241 (.int 9 240),kd P "__static_attributes__" 242 (.ref 54),kd P "__doc__" 243 .none] 2}) ::
 (nat_lit 56,{cls:=.type "type",data:=.cls {name:=Da "NoGroup",bases:=[.ref 31],mro:=[.ref 56,.ref 31,.type "ValueError",.type "Exception",.type "BaseException",.type "object"],ns:=55,qualname:=Da "NoGroup"},slots:=#[AC (.ref 47),At,AC (.str (Da "NoGroup") 230),AC (.str (Da "NoGroup") 238),AC (.builtin "ValueError.__new__"),AC (.bool Ch)]}) ::
 (nat_lit 67,{cls:=.type "dict",data:=.dict #[kd P "__module__" 253 (.str (Da "besideseats.errors") 194),kd P "__firstlineno__" 257 (.int 11 256),kd P "__static_attributes__" 258 (.ref 66),kd P "__doc__" 259 .none] 2}) ::
 (nat_lit 68,{cls:=.type "type",data:=.cls {name:=Da "NoText",bases:=[.ref 31],mro:=[.ref 68,.ref 31,.type "ValueError",.type "Exception",.type "BaseException",.type "object"],ns:=67,qualname:=Da "NoText"},slots:=#[AC (.ref 59),At,AC (.str (Da "NoText") 246),AC (.str (Da "NoText") 254),AC (.builtin "ValueError.__new__"),AC (.bool Ch)]}) ::
 (nat_lit 79,{cls:=.type "dict",data:=.dict #[kd P "__module__" 269 (.str (Da "besideseats.errors") 194),kd P "__firstlineno__" 273 (.int 13 272),kd P "__static_attributes__" 274 (.ref 78),kd P "__doc__" 275 .none] 2}) ::
 (nat_lit 80,{cls:=.type "type",data:=.cls {name:=Da "NoSeating",bases:=[.ref 31],mro:=[.ref 80,.ref 31,.type "ValueError",.type "Exception",.type "BaseException",.type "object"],ns:=79,qualname:=Da "NoSeating"},slots:=#[AC (.ref 71),At,AC (.str (Da "NoSeating") 262),AC (.str (Da "NoSeating") 270),AC (.builtin "ValueError.__new__"),AC (.bool Ch)]}) ::
 (nat_lit 91,{cls:=.type "dict",data:=.dict #[kd P "__module__" 285 (.str (Da "besideseats.errors") 194),kd P "__firstlineno__" 289 (.int 15 288),kd P "__static_attributes__" 290 (.ref 90),kd P "__doc__" 291 .none] 2}) ::
 (nat_lit 92,{cls:=.type "type",data:=.cls {name:=Da "NoRow",bases:=[.ref 31],mro:=[.ref 92,.ref 31,.type "ValueError",.type "Exception",.type "BaseException",.type "object"],ns:=91,qualname:=Da "NoRow"},slots:=#[AC (.ref 83),At,AC (.str (Da "NoRow") 278),AC (.str (Da "NoRow") 286),AC (.builtin "ValueError.__new__"),AC (.bool Ch)]}) ::
 (nat_lit 103,{cls:=.type "dict",data:=.dict #[kd P "__module__" 301 (.str (Da "besideseats.errors") 194),kd P "__firstlineno__" 305 (.int 17 304),kd P "__static_attributes__" 306 (.ref 102),kd P "__doc__" 307 .none] 2}) ::
 (nat_lit 104,{cls:=.type "type",data:=.cls {name:=Da "NoName",bases:=[.ref 31],mro:=[.ref 104,.ref 31,.type "ValueError",.type "Exception",.type "BaseException",.type "object"],ns:=103,qualname:=Da "NoName"},slots:=#[AC (.ref 95),At,AC (.str (Da "NoName") 294),AC (.str (Da "NoName") 302),AC (.builtin "ValueError.__new__"),AC (.bool Ch)]}) ::
 (nat_lit 115,{cls:=.type "dict",data:=.dict #[kd P "__module__" 317 (.str (Da "besideseats.errors") 194),kd P "__firstlineno__" 321 (.int 19 320),kd P "__static_attributes__" 322 (.ref 114),kd P "__doc__" 323 .none] 2}) ::
 (nat_lit 116,{cls:=.type "type",data:=.cls {name:=Da "Twice",bases:=[.ref 31],mro:=[.ref 116,.ref 31,.type "ValueError",.type "Exception",.type "BaseException",.type "object"],ns:=115,qualname:=Da "Twice"},slots:=#[AC (.ref 107),At,AC (.str (Da "Twice") 310),AC (.str (Da "Twice") 318),AC (.builtin "ValueError.__new__"),AC (.bool Ch)]}) ::
 (nat_lit 131,Pq "__init__" "Full.__init__" 338 23 (.int 2 0) (.int 3 0) (.ref 126) (.int 181 0) (.ref 127) .none (.ref 128) (.ref 129) (.ref 130) (.int 343 0) 344) ::
 (nat_lit 132,Po "__init__" "Full.__init__" (Cw 10 0) km0 194 131) ::
 (nat_lit 134,{cls:=.type "dict",data:=.dict #[kd P "__module__" 333 (.str (Da "besideseats.errors") 194),kd P "__firstlineno__" 337 (.int 21 336),kd P "__init__" 345 (.ref 132),kd P "__static_attributes__" 347 (.ref 133),kd P "__doc__" 348 .none] 2}) ::
 (nat_lit 135,{cls:=.type "type",data:=.cls {name:=Da "Full",bases:=[.ref 31],mro:=[.ref 135,.ref 31,.type "ValueError",.type "Exception",.type "BaseException",.type "object"],ns:=134,qualname:=Da "Full"},slots:=#[AC (.ref 119),At,AC (.str (Da "Full") 326),AC (.str (Da "Full") 334),AC (.builtin "ValueError.__new__"),AC (.bool Ch)]}) ::
 (nat_lit 150,Pq "__init__" "TooGreat.__init__" 363 27 (.int 3 0) (.int 3 0) (.ref 145) (.int 181 0) (.ref 146) .none (.ref 147) (.ref 148) (.ref 149) (.int 369 0) 370) ::
 (nat_lit 151,Po "__init__" "TooGreat.__init__" (Cw 11 0) km0 194 150) ::
 (nat_lit 153,{cls:=.type "dict",data:=.dict #[kd P "__module__" 358 (.str (Da "besideseats.errors") 194),kd P "__firstlineno__" 362 (.int 25 361),kd P "__init__" 371 (.ref 151),kd P "__static_attributes__" 374 (.ref 152),kd P "__doc__" 375 .none] 2}) ::
 (nat_lit 154,{cls:=.type "type",data:=.cls {name:=Da "TooGreat",bases:=[.ref 31],mro:=[.ref 154,.ref 31,.type "ValueError",.type "Exception",.type "BaseException",.type "object"],ns:=153,qualname:=Da "TooGreat"},slots:=#[AC (.ref 138),At,AC (.str (Da "TooGreat") 351),AC (.str (Da "TooGreat") 359),AC (.builtin "ValueError.__new__"),AC (.bool Ch)]}) ::
 (nat_lit 162,k7 "is_whole" 380 31 1 157 384 385) ::
 (nat_lit 163,kf "is_whole" 13 Z? 378 162) ::
 (nat_lit 169,k7 "is_whole_within" 387 33 3 164 393 394) ::
 (nat_lit 170,kf "is_whole_within" 14 Z? 378 169) ::
 (nat_lit 176,k7 "is_letter" 396 35 1 171 400 401) ::
 (nat_lit 177,kf "is_letter" 15 Z? 378 176) ::
 (nat_lit 181,k5 "is_name" 433 52 1 178 436 437) ::
 (nat_lit 182,kf "is_name" 31 Pm 403 181) ::
 (nat_lit 188,k7 "is_kind" 439 56 1 183 443 444) ::
 (nat_lit 189,kf "is_kind" 32 Pm 403 188) ::
 (nat_lit 195,k7 "is_amount" 446 58 2 190 451 452) ::
 (nat_lit 196,kf "is_amount" 33 Pm 403 195) ::
 (nat_lit 202,k7 "is_wish" 454 60 1 197 458 459) ::
 (nat_lit 203,kf "is_wish" 34 Pm 403 202) ::
 (nat_lit 207,k5 "are_wishes" 461 64 1 204 464 465) ::
 (nat_lit 208,kf "are_wishes" 35 Pm 403 207) ::
 (nat_lit 214,k7 "asks_for_seats" 467 68 1 209 471 472) ::
 (nat_lit 215,kf "asks_for_seats" 36 Pm 403 214) ::
 (nat_lit 221,k7 "is_group" 474 76 1 216 478 479) ::
 (nat_lit 222,kf "is_group" 37 Pm 403 221) ::
 (nat_lit 226,k5 "worth_in" 481 82 2 223 484 485) ::
 (nat_lit 227,kf "worth_in" 38 Pm 403 226) ::
 (nat_lit 233,k7 "is_sign" 493 87 1 228 497 498) ::
 (nat_lit 234,kf "is_sign" 42 X? 487 233) ::
 (nat_lit 238,k5 "is_row" 500 89 1 235 503 504) ::
 (nat_lit 239,kf "is_row" 43 X? 487 238) ::
 (nat_lit 243,k5 "is_hall" 506 93 1 240 509 510) ::
 (nat_lit 244,kf "is_hall" 44 X? 487 243) ::
 (nat_lit 250,k7 "sign_at" 512 99 2 245 519 520) ::
 (nat_lit 251,kf "sign_at" 45 X? 487 250) ::
 (nat_lit 257,k7 "takes" 524 106 2 252 529 530) ::
 (nat_lit 258,kf "takes" 47 X! 522 257) ::
 (nat_lit 262,k5 "seats_of" 532 108 2 259 535 536) ::
 (nat_lit 263,kf "seats_of" 48 X! 522 262) ::
 (nat_lit 267,k5 "fits" 538 113 3 264 541 542) ::
 (nat_lit 268,kf "fits" 49 X! 522 267) ::
 (nat_lit 272,k5 "places_of" 544 118 2 269 547 548) ::
 (nat_lit 273,kf "places_of" 50 X! 522 272) ::
 (nat_lit 279,k7 "apart" 552 124 4 274 560 561) ::
 (nat_lit 280,kf "apart" 52 VA 550 279) ::
 (nat_lit 284,k5 "those_that_sit" 563 129 2 281 566 567) ::
 (nat_lit 285,kf "those_that_sit" 53 VA 550 284) ::
 (nat_lit 289,k5 "apart_from_all" 569 131 3 286 572 573) ::
 (nat_lit 290,kf "apart_from_all" 54 VA 550 289) ::
 (nat_lit 294,k5 "keeps" 575 133 3 291 578 579) ::
 (nat_lit 295,kf "keeps" 55 VA 550 294) ::
 (nat_lit 299,k5 "worth_of" 581 138 2 296 584 585) ::
 (nat_lit 300,kf "worth_of" 56 VA 550 299) ::
 (nat_lit 306,k7 "fast_seating" 591 142 3 301 598 599) ::
 (nat_lit 307,kf "fast_seating" 59 Pk 587 306) ::
 (nat_lit 314,k7 "ways" 601 147 3 309 610 611) ::
 (nat_lit 315,kf "ways" 60 Pk 587 314<|.ref 308) ::
 (nat_lit 321,k7 "small_start" 613 153 3 316 620 621) ::
 (nat_lit 322,kf "small_start" 61 Pk 587 321) ::
 (nat_lit 328,k7 "with_place" 623 158 3 323 629 630) ::
 (nat_lit 329,kf "with_place" 62 Pk 587 328) ::
 (nat_lit 333,k5 "open_among" 632 160 3 330 635 636) ::
 (nat_lit 334,kf "open_among" 63 Pk 587 333) ::
 (nat_lit 338,k5 "with_one_more" 638 162 5 335 641 642) ::
 (nat_lit 339,kf "with_one_more" 64 Pk 587 338) ::
 (nat_lit 345,k7 "seatings_from" 644 171 4 340 653 654) ::
 (nat_lit 346,kf "seatings_from" 65 Pk 587 345) ::
 (nat_lit 353,k7 "first_of_all" 656 177 3 348 663 664) ::
 (nat_lit 354,kf "first_of_all" 66 Pk 587 353<|.ref 347) ::
 (nat_lit 360,k7 "best_among" 668 181 2 355 674 675) ::
 (nat_lit 361,kf "best_among" 68 km7 666 360) ::
 (nat_lit 368,k7 "best_of_all" 677 183 3 363 684 685) ::
 (nat_lit 369,kf "best_of_all" 69 km7 666 368<|.ref 362) ::
 (nat_lit 373,k5 "all_places" 689 187 2 370 692 693) ::
 (nat_lit 374,kf "all_places" 71 X' 687 373) ::
 (nat_lit 380,k7 "spots_of" 695 189 4 375 702 703) ::
 (nat_lit 381,kf "spots_of" 72 X' 687 380) ::
 (nat_lit 385,k5 "paper_beside" 705 191 3 382 708 709) ::
 (nat_lit 386,kf "paper_beside" 73 X' 687 385) ::
 (nat_lit 393,k7 "paper_of" 711 199 3 388 717 718) ::
 (nat_lit 394,kf "paper_of" 74 X' 687 393<|.ref 387) ::
 (nat_lit 407,Pq "__init__" "Desk.__init__" 736 207 (.int 2 0) (.int 3 0) (.ref 402) (.int 181 0) (.ref 403) .none (.ref 404) (.ref 405) (.ref 406) (.int 741 0) 742) ::
 (nat_lit 408,Po "__init__" "Desk.__init__" (Cw 77 0) Tp 720 407) ::
 (nat_lit 414,Pq "number_of" "Desk.number_of" 744 215 (.int 2 0) (.int 3 0) (.ref 409) (.int 181 0) (.ref 410) .none (.ref 411) (.ref 412) (.ref 413) (.int 751 0) 752) ::
 (nat_lit 415,Po "number_of" "Desk.number_of" (Cw 77 1) Tp 720 414) ::
 (nat_lit 419,Pq "ask" "Desk.ask" 754 222 (.int 2 0) (.int 3 0) (.ref 416) (.int 181 0) (.ref 417) .none .none .none (.ref 418) (.int 757 0) 758) ::
 (nat_lit 420,Po "ask" "Desk.ask" (Cw 77 2) Tp 720 419) ::
 (nat_lit 426,Pq "fast" "Desk.fast" 760 239 (.int 2 0) (.int 3 0) (.ref 421) (.int 181 0) (.ref 422) .none (.ref 423) (.ref 424) (.ref 425) (.int 766 0) 767) ::
 (nat_lit 427,Po "fast" "Desk.fast" (Cw 77 3) Tp 720 426) ::
 (nat_lit 447,Pq "at_hand" "Desk.at_hand" 785 249 (.int 1 0) (.int 3 0) (.ref 442) (.int 181 0) (.ref 443) .none (.ref 444) (.ref 445) (.ref 446) (.int 789 0) 790) ::
 (nat_lit 448,Po "at_hand" "Desk.at_hand" (Cw 77 6) Tp 720 447) ::
 (nat_lit 454,Pq "seating" "Desk.seating" 792 252 (.int 1 0) (.int 3 0) (.ref 449) (.int 181 0) (.ref 450) .none (.ref 451) (.ref 452) (.ref 453) (.int 796 0) 797) ::
 (nat_lit 455,Po "seating" "Desk.seating" (Cw 77 7) Tp 720 454) ::
 (nat_lit 485,{cls:=.type "dict",data:=.dict #[kd P "__module__" 731 (.str (Da "besideseats.desk") 720),kd P "__firstlineno__" 735 (.int 205 734),kd P "__init__" 743 (.ref 408),kd P "number_of" 753 (.ref 415),kd P "ask" 759 (.ref 420),kd P "fast" 768 (.ref 427),kd P "away" 776 (.ref 434),kd P "where" 784 (.ref 441),kd P "at_hand" 791 (.ref 448),kd P "seating" 798 (.ref 455),kd P "worth" 805 (.ref 462),kd P "show_all" 812 (.ref 469),kd P "say" 820 (.ref 476),kd P "do" 829 (.ref 483),kd P "__static_attributes__" 834 (.ref 484),kd P "__dict__" 836 (.ref 487),kd P "__weakref__" 838 (.ref 488),kd P "__doc__" 839 .none] 4}) ::
 (nat_lit 486,{cls:=.type "type",data:=.cls {name:=Da "Desk",bases:=[.type "object"],mro:=[.ref 486,.type "object"],ns:=485,qualname:=Da "Desk"},slots:=#[At,At,AC (.str (Da "Desk") 724),AC (.str (Da "Desk") 732),AC (.builtin "object.__new__"),AC (.bool Ch)]}) ::
 (nat_lit 496,k7 "_law_cell_at" 844 267 2 491 849 850) ::
 (nat_lit 497,kf "_law_cell_at" 79 vm 842 496) ::
 (nat_lit 503,k7 "_law_mixed" 852 271 2 498 860 861) ::
 (nat_lit 504,kf "_law_mixed" 80 vm 842 503) ::
 (nat_lit 510,k7 "_law_names" 863 278 2 505 877 878) ::
 (nat_lit 511,kf "_law_names" 81 vm 842 510) ::
 (nat_lit 517,k7 "_law_kinds" 880 291 1 512 885 886) ::
 (nat_lit 518,kf "_law_kinds" 82 vm 842 517) ::
 (nat_lit 524,k7 "_law_told" 888 295 2 519 895 896) ::
 (nat_lit 525,kf "_law_told" 83 vm 842 524) ::
 (nat_lit 529,k5 "_law_due" 898 304 1 526 901 902) ::
 (nat_lit 530,kf "_law_due" 84 vm 842 529) ::
 (nat_lit 536,k7 "_law_odd" 904 306 2 531 914 915) ::
 (nat_lit 537,kf "_law_odd" 85 vm 842 536) ::
 (nat_lit 543,k7 "_law_filled" 917 318 4 538 926 927) ::
 (nat_lit 544,kf "_law_filled" 86 vm 842 543) ::
 (nat_lit 550,k7 "_law_too_many_ways" 929 325 2 545 939 940) ::
 (nat_lit 551,kf "_law_too_many_ways" 87 vm 842 550) ::
 (nat_lit 557,k7 "_law_both_due" 942 336 2 552 951 952) ::
 (nat_lit 558,kf "_law_both_due" 88 vm 842 557) ::
 (nat_lit 562,k5 "law" 954 351 1 559 957 958) ::
 (nat_lit 563,kf "law" 89 vm 842 562) ::
 (nat_lit 308,{cls:=.type "tuple",data:=.seq #[.none]}) ::
 (nat_lit 347,{cls:=.type "tuple",data:=.seq #[.none]}) ::
 (nat_lit 362,{cls:=.type "tuple",data:=.seq #[.none]}) ::
 (nat_lit 387,{cls:=.type "tuple",data:=.seq #[.none]})::[]) (by kernel_rfl)
def KA:γ δ:=[nat_lit 3,nat_lit 20,nat_lit 30,nat_lit 31,nat_lit 43,nat_lit 44,nat_lit 55,nat_lit 56,nat_lit 67,nat_lit 68,nat_lit 79,nat_lit 80,nat_lit 91,nat_lit 92,nat_lit 103,nat_lit 104,nat_lit 115,nat_lit 116,nat_lit 131,nat_lit 132,nat_lit 134,nat_lit 135,nat_lit 150,nat_lit 151,nat_lit 153,nat_lit 154,nat_lit 162,nat_lit 163,nat_lit 169,nat_lit 170,nat_lit 176,nat_lit 177,nat_lit 181,nat_lit 182,nat_lit 188,nat_lit 189,nat_lit 195,nat_lit 196,nat_lit 202,nat_lit 203,nat_lit 207,nat_lit 208,nat_lit 214,nat_lit 215,nat_lit 221,nat_lit 222,nat_lit 226,nat_lit 227,nat_lit 233,nat_lit 234,nat_lit 238,nat_lit 239,nat_lit 243,nat_lit 244,nat_lit 250,nat_lit 251,nat_lit 257,nat_lit 258,nat_lit 262,nat_lit 263,nat_lit 267,nat_lit 268,nat_lit 272,nat_lit 273,nat_lit 279,nat_lit 280,nat_lit 284,nat_lit 285,nat_lit 289,nat_lit 290,nat_lit 294,nat_lit 295,nat_lit 299,nat_lit 300,nat_lit 306,nat_lit 307,nat_lit 314,nat_lit 315,nat_lit 321,nat_lit 322,nat_lit 328,nat_lit 329,nat_lit 333,nat_lit 334,nat_lit 338,nat_lit 339,nat_lit 345,nat_lit 346,nat_lit 353,nat_lit 354,nat_lit 360,nat_lit 361,nat_lit 368,nat_lit 369,nat_lit 373,nat_lit 374,nat_lit 380,nat_lit 381,nat_lit 385,nat_lit 386,nat_lit 393,nat_lit 394,nat_lit 407,nat_lit 408,nat_lit 414,nat_lit 415,nat_lit 419,nat_lit 420,nat_lit 426,nat_lit 427,nat_lit 447,nat_lit 448,nat_lit 454,nat_lit 455,nat_lit 485,nat_lit 486,nat_lit 496,nat_lit 497,nat_lit 503,nat_lit 504,nat_lit 510,nat_lit 511,nat_lit 517,nat_lit 518,nat_lit 524,nat_lit 525,nat_lit 529,nat_lit 530,nat_lit 536,nat_lit 537,nat_lit 543,nat_lit 544,nat_lit 550,nat_lit 551,nat_lit 557,nat_lit 558,nat_lit 562,nat_lit 563,nat_lit 308,nat_lit 347,nat_lit 362,nat_lit 387]
end iU
namespace PySem.W.Fast
def tw6783686771452687645:=()
omit env_41 heap_46 heap_639 o_45 o_46 o_49 o_53 o_55 o_56 o_57 o_58 o_59 o_60 o_63 o_64 o_66 o_67 o_68 o_69 o_70 o_71 o_73 o_74 o_75 o_76 o_79 o_80 o_82 o_83 o_84 o_85 o_86 o_88 o_89 o_90 o_91 o_94 o_95 o_97 o_98 o_99 o_100 o_101 o_103 o_104 o_105 o_106 o_109 o_110 o_112 o_113 o_114 o_115 o_116 o_118 o_119 o_120 o_121 o_124 o_125 o_127 o_128 o_129 o_130 o_131 o_133 o_134 o_135 o_136 o_139 o_140 o_142 o_143 o_144 o_145 o_146 o_148 o_149 o_150 o_151 o_154 o_155 o_157 o_158 o_159 o_160 o_161 o_163 o_164 o_165 o_166 o_169 o_170 o_172 o_173 o_174 o_175 o_176 o_178 o_179 o_180 o_181 o_184 o_185 o_188 o_190 o_191 o_192 o_193 o_194 o_195 o_196 o_197 o_198 o_200 o_201 o_202 o_203 o_206 o_207 o_210 o_212 o_213 o_214 o_215 o_216 o_217 o_218 o_219 o_222 o_224 o_225 o_226 o_229 o_231 o_232 o_233 o_236 o_238 o_239 o_240 o_241 o_245 o_246 o_247 o_250 o_252 o_253 o_254 o_257 o_259 o_260 o_261 o_264 o_266 o_267 o_268 o_271 o_272 o_273 o_276 o_278 o_279 o_280 o_283 o_285 o_286 o_287 o_290 o_291 o_292 o_295 o_297 o_298 o_299 o_302 o_303 o_304 o_305 o_309 o_310 o_311 o_314 o_316 o_317 o_318 o_321 o_323 o_324 o_325 o_328 o_329 o_330 o_333 o_334 o_335 o_338 o_339 o_340 o_343 o_345 o_346 o_347 o_350 o_351 o_352 o_355 o_356 o_357 o_360 o_361 o_362 o_365 o_366 o_367 o_370 o_372 o_373 o_374 o_375 o_377 o_380 o_382 o_383 o_384 o_387 o_389 o_390 o_391 o_394 o_396 o_397 o_398 o_401 o_402 o_403 o_406 o_407 o_408 o_411 o_413 o_414 o_415 o_416 o_419 o_421 o_422 o_423 o_426 o_427 o_428 o_429 o_430 o_431 o_434 o_436 o_437 o_438 o_441 o_442 o_443 o_446 o_448 o_449 o_450 o_453 o_454 o_455 o_456 o_458 o_461 o_463 o_464 o_465 o_466 o_469 o_470 o_473 o_474 o_477 o_479 o_480 o_481 o_484 o_486 o_487 o_488 o_491 o_492 o_493 o_496 o_498 o_499 o_500 o_503 o_505 o_506 o_507 o_510 o_512 o_513 o_514 o_517 o_519 o_520 o_521 o_524 o_526 o_527 o_528 o_531 o_533 o_534 o_535 o_538 o_540 o_541 o_542 o_545 o_547 o_548 o_549 o_552 o_554 o_555 o_556 o_557 o_558 o_559 o_560 o_561 o_562 o_563 o_564 o_568 o_570 o_571 o_572 o_575 o_577 o_578 o_579 o_582 o_584 o_585 o_586 o_589 o_591 o_592 o_593 o_596 o_598 o_599 o_600 o_603 o_604 o_605 o_608 o_610 o_611 o_612 o_615 o_617 o_618 o_619 o_622 o_624 o_625 o_626 o_629 o_631 o_632 o_633 o_636 o_637 o_638 sts_49 sts_71 sts_86 sts_101 sts_116 sts_131 sts_146 sts_161 sts_176 sts_198 sts_241 sts_305 sts_375 sts_456 sts_466 sts_564 tree_47 tree_70 tree_85 tree_100 tree_115 tree_130 tree_145 tree_160 tree_175 tree_197 tree_240 tree_304 tree_374 tree_455 tree_465 tree_563 tree_638 view_39
end PySem.W.Fast
open PySem PySem.W PyProof.Rows
set_option maxRecDepth 100000 in
set_option maxHeartbeats 0 in
theorem PySem.Challenge.cw_besideseats_k82_asks_refused_in_order_holds : PySem.Challenge.rw_besideseats_k82_asks_refused_in_order.Holds := by
 w_on;o_law;o_head (PySem.W.kHook iU.KK iU.KA (λ _=>by kernel_rfl));(case hw=>w_witness2)
 k_fill
 refine iU.walk (l:=PySem.Challenge.rw_besideseats_k82_asks_refused_in_order) rfl rfl (λ w h Y=>PySem.W.kIn_of Y) ?F ?L
 case L=>
  intro w;refine' ZS.Rt (r1:=_) (r2:=_) ?n ?h1 ?h2 ?g1 ?g2 ?ne
  (case n=>kernel_rfl)
  (case h1=>refine' ZS.uR ?a1 ?l1 ?e1 ?tl1 ?tp1;(case a1=>k_is);(case l1=>k_is);(case e1=>exact rfl);(case tl1=>k_is);(case tp1=>exact rfl))
  (case g1=>exact .inr rfl)
  (case h2=>refine' ZS.uR ?a2 ?l2 ?e2 ?tl2 ?tp2;(case a2=>k_is);(case l2=>k_is);(case e2=>exact rfl);(case tl2=>k_is);(case tp2=>exact rfl))
  (case g2=>exact .inr rfl)
  (case ne=>exact λ c P c' P' e1 e2=>by first|(cases e1;done)|(cases e2;done)|(cases e1;cases e2;decide))
 case F=>
  intro w mg fa h KX G _B;refine' iU.all_mk _B ⟨KX,G,?_,?_,?_,?_,?_,?_,?_,?_,?_,?_,?_,?_,?_,?_,?_,?_,?_,?_,?_,?_,?_,?_,?_,?_,?_,?fw27,?_,?_,?_,?_,?_,?fw33,?fw34,?fw35,?_,?_,?fw38,?fw39,?fw40,?fw41,?fw42,?fw43,?fw44,?fw45,?_,?_,?_,?_,?_,?_,?_,?_,?_,?_,?_,?_,?_,?_,?_,?_,?_,?_,?_,?_,?_,?_,?_,?_,?_,?_,?fw72,?fw73,?fw74,?fw75,?fw76,?fw77,?fw78,?fw79,?fw80,?fw81,?fw82,?fw83,?fw84,?fw85,?fw86,?fw87,?fw88,?fw89,?fw90,?fw91,?fw92,?fw93,?fw94,?fw95,?fw96,?fw97,?fw98,?fw99,?fw100,?fw101,?fw102,?fw103,?fw104,?fw105,?fw106,?fw107,?fw108,?fw109,?fw110,?fw111,?fw112,?fw113,?fw114,?fw115,?fw116,?fw117,?fw118,?fw119,?fw120,?fw121,?fw122,?fw123,?fw124,?fw125,?fw126,?fw127,?fw128,?fw129,?fw130,?fw131,?fw132,?fw133,?fw134,?fw135,?fw136,?fw137,?fw138,?fw139,?fw140,?fw141,?fw142,?fw143,?fw144,?fw145,?fw146,?fw147,?fw148,?fw149,?fw150,?fw151,?fw152,?fw153,?fw154,?fw155,?fw156,?fw157,?fw158,?fw159,?fw160,?fw161,?fw162,?fw163,?fw164,?fw165,?fw166,?fw167,?fw168,?fw169,?fw170,?fw171,?fw172,?fw173,?fw174,?fw175,?fw176,?fw177⟩
  (case fw72|fw73|fw74|fw75|fw76|fw77|fw78|fw79|fw80|fw81|fw82|fw83|fw84|fw85|fw86|fw87|fw88|fw89|fw90|fw91|fw92|fw93|fw94|fw95|fw96|fw97|fw98|fw99|fw100=>k_is)
  (case fw152=>refine' ⟨?_,?_,?_,?_⟩<;>kernel_rfl)
  (case fw108|fw109|fw110|fw111=>refine' ⟨?_,?_,?_,?_,?_,?_,?_⟩<;>kernel_rfl)
  (case fw159|fw160=>refine' ⟨?_,?_,?_⟩<;>kernel_rfl)
  (case fw101|fw102|fw103|fw104|fw105|fw106|fw107|fw112|fw113|fw114|fw115|fw116|fw117|fw118|fw119|fw120|fw121|fw122|fw123|fw124|fw125|fw126|fw127|fw128|fw129|fw130|fw131|fw132|fw133|fw134|fw135|fw136|fw137|fw138|fw139|fw140|fw141|fw142|fw143|fw144|fw145|fw146|fw147|fw148|fw149|fw150|fw151|fw153|fw154|fw155|fw156|fw157|fw158|fw161|fw162|fw163|fw164|fw165|fw166|fw167|fw168|fw169|fw170|fw171|fw173|fw174|fw176|fw177=>kernel_rfl)
  (case fw27|fw33|fw35|fw39=>refine' ZS.qP.mk' ?a ?l ?c ?k ?dq;(case a=>k_is);(case l=>k_is);(case c=>k_is);(case k=>k_is);(case dq=>k_is))
  (case fw40|fw41|fw42|fw43|fw44|fw45|fw172|fw175=>refine' ZS.iT.mk' ?a ?l ?c ?k ?i;(case a=>k_is);(case l=>k_is);(case c=>k_is);(case k=>k_is);(case i=>k_is))
  (case fw34|fw38=>refine' ZS.wD.mk' ?a ?l ?c ?k ?tl ?tp;(case a=>k_is);(case l=>k_is);(case c=>k_is);(case k=>k_is);(case tl=>k_is);(case tp=>exact rfl))
  all_goals first|k_is|(refine' ZS.cT.mk' ?a ?l ?c ?k;(case a=>k_is);(case l=>k_is);(case c=>k_is);(case k=>k_is))
#print axioms PySem.Challenge.cw_besideseats_k82_asks_refused_in_order_holds
